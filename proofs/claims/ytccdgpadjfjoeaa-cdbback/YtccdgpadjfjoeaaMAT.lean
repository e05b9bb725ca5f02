import Derived.Test.YtccdgpadjfjoeaaMAR
import Derived.Test.YtccdgpadjfjoeaaMAS
namespace Go.Proofs.Ytccdgpadjfjoeaa
open Go.ChangeShapes Go.WideShapes Go.ChangeAt Go.RowKit
set_option linter.unusedVariables false
set_option linter.unusedSimpArgs false

/-! What fits, and the bytes that say it. -/
def fitT (op : Int) : Nat × Nat × Nat × Nat × Nat :=
  if op = 8 ∨ op = 10 then (2097151, 1, 256, 0, 0)
  else if op = 40 ∨ op = 42 ∨ op = 47 then (4294967295, 0, 65535, 0, 1)
  else if op = 136 ∨ op = 138 ∨ op = 143 then (18446744073709551615, 0, 4294967295, 0, 1)
  else if op = 168 ∨ op = 170 ∨ op = 175 then (4294967295, 0, 4294967295, 0, 1)
  else if op = 53 then (4294967295, 0, 65535, 0, 0)
  else if op = 145 then (18446744073709551615, 0, 4294967295, 0, 0)
  else if op = 3 ∨ op = 21 then (0, 0, 255, 0, 0)
  else if op = 18 then (0, 0, 65535, 255, 1)
  else if op = 85 then (0, 0, 65535, 0, 0)
  else if op = 26 then (0, 0, 255, 63, 3)
  else if op = 90 then (0, 0, 65535, 63, 3)
  else if op = 27 then (0, 0, 0, 0, 3)
  else if op = 30 then (0, 0, 0, 0, 1)
  else if op = 158 then (0, 0, 4294967295, 0, 0)
  else if op = 160 then (0, 16, 4294967295, 0, 0)
  else (0, 0, 0, 0, 0)
/-- in numbers that are not below 0 -/
def fitsN (op : Int) (a n2 n3 n4 : Nat) : Prop := a ≤ (fitT op).1 ∧ (fitT op).2.1 ≤ n2 ∧ n2 ≤ (fitT op).2.2.1 ∧ n3 ≤ (fitT op).2.2.2.1 ∧ n4 ≤ (fitT op).2.2.2.2 ∧ (op = 18 → n3 = 0 ∨ n4 = 1)
def layS (op : Int) (a n2 n3 n4 : Nat) : List UInt8 :=
  if op = 8 ∨ op = 10 then ((over (initB op) 1 (putBe a 3)).set 1 (bof (Bn (over (initB op) 1 (putBe a 3)) 1 % 32))).set 4 (bof n2)
  else if op = 40 ∨ op = 42 then (if n4 = 1 then (over (over (initB op) 2 (putBe a 4)) 7 (putBe n2 2)).set 1 8 else over (over (initB op) 2 (putBe a 4)) 7 (putBe n2 2))
  else if op = 47 then (if n4 = 1 then (over (over (initB op) 2 (putBe a 4)) 7 (putBe n2 2)).set 1 2 else over (over (initB op) 2 (putBe a 4)) 7 (putBe n2 2))
  else if op = 53 then over (over (initB op) 2 (putBe a 4)) 7 (putBe n2 2)
  else if op = 168 ∨ op = 170 then (if n4 = 1 then (over (over (initB op) 2 (putBe a 4)) 6 (putBe n2 4)).set 1 8 else over (over (initB op) 2 (putBe a 4)) 6 (putBe n2 4))
  else if op = 175 then (if n4 = 1 then (over (over (initB op) 2 (putBe a 4)) 6 (putBe n2 4)).set 1 2 else over (over (initB op) 2 (putBe a 4)) 6 (putBe n2 4))
  else if op = 136 ∨ op = 138 then (if n4 = 1 then (over (over (initB op) 2 (putBe a 8)) 10 (putBe n2 4)).set 1 8 else over (over (initB op) 2 (putBe a 8)) 10 (putBe n2 4))
  else if op = 143 then (if n4 = 1 then (over (over (initB op) 2 (putBe a 8)) 10 (putBe n2 4)).set 1 2 else over (over (initB op) 2 (putBe a 8)) 10 (putBe n2 4))
  else if op = 145 then over (over (initB op) 2 (putBe a 8)) 10 (putBe n2 4)
  else if op = 3 then (initB op).set 4 (bof n2)
  else if op = 18 then over (((initB op).set 1 (bof (n4 % 2))).set 2 (bof n3)) 3 (putBe n2 2)
  else if op = 21 then ((initB op).set 1 16).set 4 (bof n2)
  else if op = 85 then over ((initB op).set 1 16) 7 (putBe n2 2)
  else if op = 26 then ((initB op).set 2 (bof (n3 % 64 + n4 * 64))).set 4 (bof n2)
  else if op = 90 then over ((initB op).set 2 (bof (n3 % 64 + n4 * 64))) 7 (putBe n2 2)
  else if op = 27 ∨ op = 30 then (initB op).set 4 (bof n4)
  else if op = 158 then over ((initB op).set 1 16) 10 (putBe n2 4)
  else if op = 160 then over (initB op) 6 (putBe n2 4)
  else initB op

/-! what is laid at a place -/
theorem putBe_mod (x : Nat) : ∀ w, putBe (x % 256 ^ w) w = putBe x w := by
  intro w
  unfold putBe putLe
  congr 1
  refine List.map_congr_left fun i hi => ?_
  have hi := List.mem_range.1 hi
  apply UInt8.toNat_inj.1
  simp only [UInt8.toNat_ofNat']
  have h1 : (256 : Nat) ^ w = 256 ^ i * 256 ^ (w - i) := by rw [← Nat.pow_add]; congr 1; omega
  rw [h1, Nat.mod_mul_right_div_self]
  have h2 : (256 : Nat) ^ (w - i) = 256 * 256 ^ (w - i - 1) := by rw [← Nat.pow_succ']; congr 1; omega
  rw [h2]
  show x / 256 ^ i % (256 * 256 ^ (w - i - 1)) % 256 = x / 256 ^ i % 256
  exact Nat.mod_mul_right_mod _ _ _
theorem layP_big (p a w : Nat) (h1 : pfirst p = (a : Int)) (h2 : pwidth p = w) (h3 : pbit p = 0) (h4 : pcount p = 8 * w) (h5 : 1 ≤ w ∧ w ≤ 8) (l : List UInt8) (x : Nat) (hl : a + w ≤ l.length) : layP p l x = over l a (putBe x w) := by
  unfold layP newP
  rw [h1, h2, h3, h4, setI, if_pos (by simp [areB]; omega), putBeI, if_pos (by simp [isW]; omega)]
  have h := bigOf_lt (seg l a w)
  rw [seg_length l a w hl, show (256 : Nat) = 2 ^ 8 from rfl, ← Nat.pow_mul] at h
  rw [bigAt_of h5.1 h5.2 hl]
  simp only [setN, Int.toNat_natCast, Nat.pow_zero, Nat.zero_add, Nat.one_mul, Nat.mod_one, Nat.add_zero]
  rw [Nat.div_eq_of_lt h, Nat.mul_zero, Nat.zero_add]
  have e := putBe_mod x w
  rw [show (256 : Nat) = 2 ^ 8 from rfl, ← Nat.pow_mul] at e
  rw [e]
theorem layP_one (p i bit count : Nat) (h1 : pfirst p = (i : Int)) (h2 : pwidth p = 1) (h3 : pbit p = bit) (h4 : pcount p = count) (h5 : 1 ≤ count ∧ bit + count ≤ 8) (l : List UInt8) (x : Nat) (hl : i < l.length) : layP p l x = l.set i (bof (setN (Bn l i) bit count x)) := by
  unfold layP newP
  rw [h1, h2, h3, h4, setI, if_pos (by simp [areB]; omega), putBeI, if_pos (by decide)]
  rw [bigAt_one hl]
  have e : putBe (setN (Bn l i) bit count x) 1 = [bof (setN (Bn l i) bit count x)] := by
    simp [putBe, putLe, bof, List.range_succ]
  simp only [Int.toNat_natCast]
  show over l i (putBe _ 1) = _
  rw [e]
  unfold over
  simp
  rw [List.set_eq_take_append_cons_drop, if_pos hl]
theorem layP_zero (l : List UInt8) (x : Nat) : layP 0 l x = l := by
  show over l 1 [] = l
  unfold over
  rw [List.append_nil]
  exact List.take_append_drop 1 l
theorem layP_21 (l : List UInt8) (x : Nat) (hl : 4 ≤ l.length) (hz : Bn l 1 = 0) (hx : x ≤ 2097151) : layP 2691 l x = over l 1 (putBe x 3) := by
  show over l 1 (putBe (setN (bigAt l ((1 : Nat) : Int) ((3 : Nat) : Int)) 0 21 x) 3) = _
  have h1 := bigAt_three (l := l) (i := 1) (by omega)
  have b2 := Bn_lt l 2
  have b3 := Bn_lt l 3
  simp only [Nat.reduceAdd] at h1
  rw [h1, hz]
  congr 2
  simp only [setN]
  omega
theorem u64N_nat (n : Nat) (h : n ≤ 18446744073709551615) : u64N (n : Int) = n := by unfold u64N; omega
theorem setN_zero (c x : Nat) : setN 0 0 c x = x % 2 ^ c := by simp [setN]
theorem bof_toNat (x : Nat) : (bof x).toNat = x % 256 := by simp [bof, UInt8.toNat_ofNat']
end Go.Proofs.Ytccdgpadjfjoeaa
