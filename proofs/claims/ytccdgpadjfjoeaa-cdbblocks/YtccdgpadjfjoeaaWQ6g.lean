import Derived.Test.YtccdgpadjfjoeaaMAT
namespace Go.Proofs.Ytccdgpadjfjoeaa
open Go.ChangeShapes Go.WideShapes Go.ChangeAt Go.RowKit
set_option linter.unusedVariables false
set_option linter.unusedSimpArgs false

/-! What is laid is read. -/
theorem put6_snoc (x k : Nat) : putLe x (k + 1) = putLe x k ++ [UInt8.ofNat (x / 256 ^ k)] := by simp [putLe, List.range_succ]
theorem little_put6 (x k : Nat) : littleOf (putLe x k) = x % 256 ^ k := by
  induction k with
  | zero => simp [putLe, littleOf, Nat.mod_one]
  | succ k ih =>
    rw [put6_snoc, littleOf_snoc, ih, putLe_length, UInt8.toNat_ofNat', show (256 : Nat) ^ (k + 1) = 256 ^ k * 256 from Nat.pow_succ _ _, Nat.mod_mul, Nat.mul_comm (256 ^ k)]
theorem bigOf_putBe (x w : Nat) : bigOf (putBe x w) = x % 256 ^ w := by
  unfold putBe
  rw [bigOf_rev, little_put6]
def ReadS (op : Int) (n : Nat) : Prop := ∀ a n2 n3 n4 : Nat, fitsN op a n2 n3 n4 → readS op (layS op a n2 n3 n4) = lb true (op, a, (n2 : Int), (n3 : Int), (n4 : Int)) ∧ (layS op a n2 n3 n4).length = n ∧ (Bn (layS op a n2 n3 n4) 0 : Int) = op ∧ Bn (layS op a n2 n3 n4) (n - 1) = 0
theorem read_8 : ReadS 8 6 := by
  intro a n2 n3 n4 h
  simp only [fitsN, show fitT 8 = (2097151, 1, 256, 0, 0) from rfl] at h
  have e3 : n3 = 0 := by omega
  have e4 : n4 = 0 := by omega
  subst e3 e4
  have hL : layS 8 a n2 0 0 = (((over (initB 8) 1 (putBe a 3)).set 1 (bof (Bn (over (initB 8) 1 (putBe a 3)) 1 % 32))).set 4 (bof n2)) := rfl
  have g1 : Bn (((over (initB 8) 1 (putBe a 3)).set 1 (bof (Bn (over (initB 8) 1 (putBe a 3)) 1 % 32))).set 4 (bof n2)) 1 = a / 65536 := by
    show (bof (Bn (over (initB 8) 1 (putBe a 3)) 1 % 32)).toNat = _
    have hb : Bn (over (initB 8) 1 (putBe a 3)) 1 = a / 65536 % 256 := by
      show (UInt8.ofNat (a / 256 ^ 2)).toNat = _
      simp [UInt8.toNat_ofNat']
    rw [bof_toNat, hb]
    omega
  have g2 : Bn (((over (initB 8) 1 (putBe a 3)).set 1 (bof (Bn (over (initB 8) 1 (putBe a 3)) 1 % 32))).set 4 (bof n2)) 2 = a / 256 % 256 := by
    show (UInt8.ofNat (a / 256 ^ 1)).toNat = _
    simp [UInt8.toNat_ofNat']
  have g3 : Bn (((over (initB 8) 1 (putBe a 3)).set 1 (bof (Bn (over (initB 8) 1 (putBe a 3)) 1 % 32))).set 4 (bof n2)) 3 = a % 256 := by
    show (UInt8.ofNat (a / 256 ^ 0)).toNat = _
    simp [UInt8.toNat_ofNat']
  have g4 : Bn (((over (initB 8) 1 (putBe a 3)).set 1 (bof (Bn (over (initB 8) 1 (putBe a 3)) 1 % 32))).set 4 (bof n2)) 4 = n2 % 256 := by
    show (bof n2).toNat = _
    rw [bof_toNat]
  have h4 : (((over (initB 8) 1 (putBe a 3)).set 1 (bof (Bn (over (initB 8) 1 (putBe a 3)) 1 % 32))).set 4 (bof n2)).length = 6 := rfl
  have hS : readS 8 (((over (initB 8) 1 (putBe a 3)).set 1 (bof (Bn (over (initB 8) 1 (putBe a 3)) 1 % 32))).set 4 (bof n2)) = blocksS 8 (((over (initB 8) 1 (putBe a 3)).set 1 (bof (Bn (over (initB 8) 1 (putBe a 3)) 1 % 32))).set 4 (bof n2)) := rfl
  rw [hL]
  refine ⟨?_, h4, rfl, rfl⟩
  rw [hS]
  have e5 : a / 65536 % 32 * 65536 + a / 256 % 256 * 256 + a % 256 = a := by omega
  by_cases h0 : n2 % 256 = 0
  · have e6 : n2 = 256 := by omega
    simp only [blocksS, h4, if_true, g1, g2, g3, g4, e5, if_pos h0]
    rw [e6]
    rfl
  · have e6 : n2 % 256 = n2 := by omega
    simp only [blocksS, h4, if_true, g1, g2, g3, g4, e5, if_neg h0]
    rw [e6]
    rfl
theorem read_10 : ReadS 10 6 := by
  intro a n2 n3 n4 h
  simp only [fitsN, show fitT 10 = (2097151, 1, 256, 0, 0) from rfl] at h
  have e3 : n3 = 0 := by omega
  have e4 : n4 = 0 := by omega
  subst e3 e4
  have hL : layS 10 a n2 0 0 = (((over (initB 10) 1 (putBe a 3)).set 1 (bof (Bn (over (initB 10) 1 (putBe a 3)) 1 % 32))).set 4 (bof n2)) := rfl
  have g1 : Bn (((over (initB 10) 1 (putBe a 3)).set 1 (bof (Bn (over (initB 10) 1 (putBe a 3)) 1 % 32))).set 4 (bof n2)) 1 = a / 65536 := by
    show (bof (Bn (over (initB 10) 1 (putBe a 3)) 1 % 32)).toNat = _
    have hb : Bn (over (initB 10) 1 (putBe a 3)) 1 = a / 65536 % 256 := by
      show (UInt8.ofNat (a / 256 ^ 2)).toNat = _
      simp [UInt8.toNat_ofNat']
    rw [bof_toNat, hb]
    omega
  have g2 : Bn (((over (initB 10) 1 (putBe a 3)).set 1 (bof (Bn (over (initB 10) 1 (putBe a 3)) 1 % 32))).set 4 (bof n2)) 2 = a / 256 % 256 := by
    show (UInt8.ofNat (a / 256 ^ 1)).toNat = _
    simp [UInt8.toNat_ofNat']
  have g3 : Bn (((over (initB 10) 1 (putBe a 3)).set 1 (bof (Bn (over (initB 10) 1 (putBe a 3)) 1 % 32))).set 4 (bof n2)) 3 = a % 256 := by
    show (UInt8.ofNat (a / 256 ^ 0)).toNat = _
    simp [UInt8.toNat_ofNat']
  have g4 : Bn (((over (initB 10) 1 (putBe a 3)).set 1 (bof (Bn (over (initB 10) 1 (putBe a 3)) 1 % 32))).set 4 (bof n2)) 4 = n2 % 256 := by
    show (bof n2).toNat = _
    rw [bof_toNat]
  have h4 : (((over (initB 10) 1 (putBe a 3)).set 1 (bof (Bn (over (initB 10) 1 (putBe a 3)) 1 % 32))).set 4 (bof n2)).length = 6 := rfl
  have hS : readS 10 (((over (initB 10) 1 (putBe a 3)).set 1 (bof (Bn (over (initB 10) 1 (putBe a 3)) 1 % 32))).set 4 (bof n2)) = blocksS 10 (((over (initB 10) 1 (putBe a 3)).set 1 (bof (Bn (over (initB 10) 1 (putBe a 3)) 1 % 32))).set 4 (bof n2)) := rfl
  rw [hL]
  refine ⟨?_, h4, rfl, rfl⟩
  rw [hS]
  have e5 : a / 65536 % 32 * 65536 + a / 256 % 256 * 256 + a % 256 = a := by omega
  by_cases h0 : n2 % 256 = 0
  · have e6 : n2 = 256 := by omega
    simp only [blocksS, h4, if_true, g1, g2, g3, g4, e5, if_pos h0]
    rw [e6]
    rfl
  · have e6 : n2 % 256 = n2 := by omega
    simp only [blocksS, h4, if_true, g1, g2, g3, g4, e5, if_neg h0]
    rw [e6]
    rfl
theorem read_40 : ReadS 40 10 := by
  intro a n2 n3 n4 h
  simp only [fitsN, show fitT 40 = (4294967295, 0, 65535, 0, 1) from rfl] at h
  have e3 : n3 = 0 := by omega
  subst e3
  have hA : bigOf (putBe a 4) = a := by rw [bigOf_putBe]; exact Nat.mod_eq_of_lt (by omega)
  have hC : bigOf (putBe n2 2) = n2 := by rw [bigOf_putBe]; exact Nat.mod_eq_of_lt (by omega)
  have e4 : n4 = 0 ∨ n4 = 1 := by omega
  rcases e4 with rfl | rfl
  · have hL : layS 40 a n2 0 0 = (over (over (initB 40) 2 (putBe a 4)) 7 (putBe n2 2)) := rfl
    have h1 : bigAt (over (over (initB 40) 2 (putBe a 4)) 7 (putBe n2 2)) 2 4 = a := Eq.trans (show bigAt (over (over (initB 40) 2 (putBe a 4)) 7 (putBe n2 2)) 2 4 = bigOf (putBe a 4) from rfl) hA
    have h2 : bigAt (over (over (initB 40) 2 (putBe a 4)) 7 (putBe n2 2)) 7 2 = n2 := Eq.trans (show bigAt (over (over (initB 40) 2 (putBe a 4)) 7 (putBe n2 2)) 7 2 = bigOf (putBe n2 2) from rfl) hC
    have h3 : Bn (over (over (initB 40) 2 (putBe a 4)) 7 (putBe n2 2)) 1 = 0 := rfl
    have h4 : (over (over (initB 40) 2 (putBe a 4)) 7 (putBe n2 2)).length = 10 := rfl
    have hS : readS 40 (over (over (initB 40) 2 (putBe a 4)) 7 (putBe n2 2)) = blocksS 40 (over (over (initB 40) 2 (putBe a 4)) 7 (putBe n2 2)) := rfl
    rw [hL]
    refine ⟨?_, h4, rfl, rfl⟩
    rw [hS]
    simp [blocksS, h4, h1, h2, h3, okS6, bitsS, show classI 40 = 1 from rfl]
  · have hL : layS 40 a n2 0 1 = ((over (over (initB 40) 2 (putBe a 4)) 7 (putBe n2 2)).set 1 8) := rfl
    have h1 : bigAt ((over (over (initB 40) 2 (putBe a 4)) 7 (putBe n2 2)).set 1 8) 2 4 = a := Eq.trans (show bigAt ((over (over (initB 40) 2 (putBe a 4)) 7 (putBe n2 2)).set 1 8) 2 4 = bigOf (putBe a 4) from rfl) hA
    have h2 : bigAt ((over (over (initB 40) 2 (putBe a 4)) 7 (putBe n2 2)).set 1 8) 7 2 = n2 := Eq.trans (show bigAt ((over (over (initB 40) 2 (putBe a 4)) 7 (putBe n2 2)).set 1 8) 7 2 = bigOf (putBe n2 2) from rfl) hC
    have h3 : Bn ((over (over (initB 40) 2 (putBe a 4)) 7 (putBe n2 2)).set 1 8) 1 = 8 := rfl
    have h4 : ((over (over (initB 40) 2 (putBe a 4)) 7 (putBe n2 2)).set 1 8).length = 10 := rfl
    have hS : readS 40 ((over (over (initB 40) 2 (putBe a 4)) 7 (putBe n2 2)).set 1 8) = blocksS 40 ((over (over (initB 40) 2 (putBe a 4)) 7 (putBe n2 2)).set 1 8) := rfl
    rw [hL]
    refine ⟨?_, h4, rfl, rfl⟩
    rw [hS]
    simp [blocksS, h4, h1, h2, h3, okS6, bitsS, show classI 40 = 1 from rfl]
theorem read_42 : ReadS 42 10 := by
  intro a n2 n3 n4 h
  simp only [fitsN, show fitT 42 = (4294967295, 0, 65535, 0, 1) from rfl] at h
  have e3 : n3 = 0 := by omega
  subst e3
  have hA : bigOf (putBe a 4) = a := by rw [bigOf_putBe]; exact Nat.mod_eq_of_lt (by omega)
  have hC : bigOf (putBe n2 2) = n2 := by rw [bigOf_putBe]; exact Nat.mod_eq_of_lt (by omega)
  have e4 : n4 = 0 ∨ n4 = 1 := by omega
  rcases e4 with rfl | rfl
  · have hL : layS 42 a n2 0 0 = (over (over (initB 42) 2 (putBe a 4)) 7 (putBe n2 2)) := rfl
    have h1 : bigAt (over (over (initB 42) 2 (putBe a 4)) 7 (putBe n2 2)) 2 4 = a := Eq.trans (show bigAt (over (over (initB 42) 2 (putBe a 4)) 7 (putBe n2 2)) 2 4 = bigOf (putBe a 4) from rfl) hA
    have h2 : bigAt (over (over (initB 42) 2 (putBe a 4)) 7 (putBe n2 2)) 7 2 = n2 := Eq.trans (show bigAt (over (over (initB 42) 2 (putBe a 4)) 7 (putBe n2 2)) 7 2 = bigOf (putBe n2 2) from rfl) hC
    have h3 : Bn (over (over (initB 42) 2 (putBe a 4)) 7 (putBe n2 2)) 1 = 0 := rfl
    have h4 : (over (over (initB 42) 2 (putBe a 4)) 7 (putBe n2 2)).length = 10 := rfl
    have hS : readS 42 (over (over (initB 42) 2 (putBe a 4)) 7 (putBe n2 2)) = blocksS 42 (over (over (initB 42) 2 (putBe a 4)) 7 (putBe n2 2)) := rfl
    rw [hL]
    refine ⟨?_, h4, rfl, rfl⟩
    rw [hS]
    simp [blocksS, h4, h1, h2, h3, okS6, bitsS, show classI 42 = 2 from rfl]
  · have hL : layS 42 a n2 0 1 = ((over (over (initB 42) 2 (putBe a 4)) 7 (putBe n2 2)).set 1 8) := rfl
    have h1 : bigAt ((over (over (initB 42) 2 (putBe a 4)) 7 (putBe n2 2)).set 1 8) 2 4 = a := Eq.trans (show bigAt ((over (over (initB 42) 2 (putBe a 4)) 7 (putBe n2 2)).set 1 8) 2 4 = bigOf (putBe a 4) from rfl) hA
    have h2 : bigAt ((over (over (initB 42) 2 (putBe a 4)) 7 (putBe n2 2)).set 1 8) 7 2 = n2 := Eq.trans (show bigAt ((over (over (initB 42) 2 (putBe a 4)) 7 (putBe n2 2)).set 1 8) 7 2 = bigOf (putBe n2 2) from rfl) hC
    have h3 : Bn ((over (over (initB 42) 2 (putBe a 4)) 7 (putBe n2 2)).set 1 8) 1 = 8 := rfl
    have h4 : ((over (over (initB 42) 2 (putBe a 4)) 7 (putBe n2 2)).set 1 8).length = 10 := rfl
    have hS : readS 42 ((over (over (initB 42) 2 (putBe a 4)) 7 (putBe n2 2)).set 1 8) = blocksS 42 ((over (over (initB 42) 2 (putBe a 4)) 7 (putBe n2 2)).set 1 8) := rfl
    rw [hL]
    refine ⟨?_, h4, rfl, rfl⟩
    rw [hS]
    simp [blocksS, h4, h1, h2, h3, okS6, bitsS, show classI 42 = 2 from rfl]
theorem read_136 : ReadS 136 16 := by
  intro a n2 n3 n4 h
  simp only [fitsN, show fitT 136 = (18446744073709551615, 0, 4294967295, 0, 1) from rfl] at h
  have e3 : n3 = 0 := by omega
  subst e3
  have hA : bigOf (putBe a 8) = a := by rw [bigOf_putBe]; exact Nat.mod_eq_of_lt (by omega)
  have hC : bigOf (putBe n2 4) = n2 := by rw [bigOf_putBe]; exact Nat.mod_eq_of_lt (by omega)
  have e4 : n4 = 0 ∨ n4 = 1 := by omega
  rcases e4 with rfl | rfl
  · have hL : layS 136 a n2 0 0 = (over (over (initB 136) 2 (putBe a 8)) 10 (putBe n2 4)) := rfl
    have h1 : bigAt (over (over (initB 136) 2 (putBe a 8)) 10 (putBe n2 4)) 2 8 = a := Eq.trans (show bigAt (over (over (initB 136) 2 (putBe a 8)) 10 (putBe n2 4)) 2 8 = bigOf (putBe a 8) from rfl) hA
    have h2 : bigAt (over (over (initB 136) 2 (putBe a 8)) 10 (putBe n2 4)) 10 4 = n2 := Eq.trans (show bigAt (over (over (initB 136) 2 (putBe a 8)) 10 (putBe n2 4)) 10 4 = bigOf (putBe n2 4) from rfl) hC
    have h3 : Bn (over (over (initB 136) 2 (putBe a 8)) 10 (putBe n2 4)) 1 = 0 := rfl
    have h4 : (over (over (initB 136) 2 (putBe a 8)) 10 (putBe n2 4)).length = 16 := rfl
    have hS : readS 136 (over (over (initB 136) 2 (putBe a 8)) 10 (putBe n2 4)) = blocksS 136 (over (over (initB 136) 2 (putBe a 8)) 10 (putBe n2 4)) := rfl
    rw [hL]
    refine ⟨?_, h4, rfl, rfl⟩
    rw [hS]
    simp [blocksS, h4, h1, h2, h3, okS6, bitsS, show classI 136 = 1 from rfl]
  · have hL : layS 136 a n2 0 1 = ((over (over (initB 136) 2 (putBe a 8)) 10 (putBe n2 4)).set 1 8) := rfl
    have h1 : bigAt ((over (over (initB 136) 2 (putBe a 8)) 10 (putBe n2 4)).set 1 8) 2 8 = a := Eq.trans (show bigAt ((over (over (initB 136) 2 (putBe a 8)) 10 (putBe n2 4)).set 1 8) 2 8 = bigOf (putBe a 8) from rfl) hA
    have h2 : bigAt ((over (over (initB 136) 2 (putBe a 8)) 10 (putBe n2 4)).set 1 8) 10 4 = n2 := Eq.trans (show bigAt ((over (over (initB 136) 2 (putBe a 8)) 10 (putBe n2 4)).set 1 8) 10 4 = bigOf (putBe n2 4) from rfl) hC
    have h3 : Bn ((over (over (initB 136) 2 (putBe a 8)) 10 (putBe n2 4)).set 1 8) 1 = 8 := rfl
    have h4 : ((over (over (initB 136) 2 (putBe a 8)) 10 (putBe n2 4)).set 1 8).length = 16 := rfl
    have hS : readS 136 ((over (over (initB 136) 2 (putBe a 8)) 10 (putBe n2 4)).set 1 8) = blocksS 136 ((over (over (initB 136) 2 (putBe a 8)) 10 (putBe n2 4)).set 1 8) := rfl
    rw [hL]
    refine ⟨?_, h4, rfl, rfl⟩
    rw [hS]
    simp [blocksS, h4, h1, h2, h3, okS6, bitsS, show classI 136 = 1 from rfl]
theorem read_138 : ReadS 138 16 := by
  intro a n2 n3 n4 h
  simp only [fitsN, show fitT 138 = (18446744073709551615, 0, 4294967295, 0, 1) from rfl] at h
  have e3 : n3 = 0 := by omega
  subst e3
  have hA : bigOf (putBe a 8) = a := by rw [bigOf_putBe]; exact Nat.mod_eq_of_lt (by omega)
  have hC : bigOf (putBe n2 4) = n2 := by rw [bigOf_putBe]; exact Nat.mod_eq_of_lt (by omega)
  have e4 : n4 = 0 ∨ n4 = 1 := by omega
  rcases e4 with rfl | rfl
  · have hL : layS 138 a n2 0 0 = (over (over (initB 138) 2 (putBe a 8)) 10 (putBe n2 4)) := rfl
    have h1 : bigAt (over (over (initB 138) 2 (putBe a 8)) 10 (putBe n2 4)) 2 8 = a := Eq.trans (show bigAt (over (over (initB 138) 2 (putBe a 8)) 10 (putBe n2 4)) 2 8 = bigOf (putBe a 8) from rfl) hA
    have h2 : bigAt (over (over (initB 138) 2 (putBe a 8)) 10 (putBe n2 4)) 10 4 = n2 := Eq.trans (show bigAt (over (over (initB 138) 2 (putBe a 8)) 10 (putBe n2 4)) 10 4 = bigOf (putBe n2 4) from rfl) hC
    have h3 : Bn (over (over (initB 138) 2 (putBe a 8)) 10 (putBe n2 4)) 1 = 0 := rfl
    have h4 : (over (over (initB 138) 2 (putBe a 8)) 10 (putBe n2 4)).length = 16 := rfl
    have hS : readS 138 (over (over (initB 138) 2 (putBe a 8)) 10 (putBe n2 4)) = blocksS 138 (over (over (initB 138) 2 (putBe a 8)) 10 (putBe n2 4)) := rfl
    rw [hL]
    refine ⟨?_, h4, rfl, rfl⟩
    rw [hS]
    simp [blocksS, h4, h1, h2, h3, okS6, bitsS, show classI 138 = 2 from rfl]
  · have hL : layS 138 a n2 0 1 = ((over (over (initB 138) 2 (putBe a 8)) 10 (putBe n2 4)).set 1 8) := rfl
    have h1 : bigAt ((over (over (initB 138) 2 (putBe a 8)) 10 (putBe n2 4)).set 1 8) 2 8 = a := Eq.trans (show bigAt ((over (over (initB 138) 2 (putBe a 8)) 10 (putBe n2 4)).set 1 8) 2 8 = bigOf (putBe a 8) from rfl) hA
    have h2 : bigAt ((over (over (initB 138) 2 (putBe a 8)) 10 (putBe n2 4)).set 1 8) 10 4 = n2 := Eq.trans (show bigAt ((over (over (initB 138) 2 (putBe a 8)) 10 (putBe n2 4)).set 1 8) 10 4 = bigOf (putBe n2 4) from rfl) hC
    have h3 : Bn ((over (over (initB 138) 2 (putBe a 8)) 10 (putBe n2 4)).set 1 8) 1 = 8 := rfl
    have h4 : ((over (over (initB 138) 2 (putBe a 8)) 10 (putBe n2 4)).set 1 8).length = 16 := rfl
    have hS : readS 138 ((over (over (initB 138) 2 (putBe a 8)) 10 (putBe n2 4)).set 1 8) = blocksS 138 ((over (over (initB 138) 2 (putBe a 8)) 10 (putBe n2 4)).set 1 8) := rfl
    rw [hL]
    refine ⟨?_, h4, rfl, rfl⟩
    rw [hS]
    simp [blocksS, h4, h1, h2, h3, okS6, bitsS, show classI 138 = 2 from rfl]
theorem read_168 : ReadS 168 12 := by
  intro a n2 n3 n4 h
  simp only [fitsN, show fitT 168 = (4294967295, 0, 4294967295, 0, 1) from rfl] at h
  have e3 : n3 = 0 := by omega
  subst e3
  have hA : bigOf (putBe a 4) = a := by rw [bigOf_putBe]; exact Nat.mod_eq_of_lt (by omega)
  have hC : bigOf (putBe n2 4) = n2 := by rw [bigOf_putBe]; exact Nat.mod_eq_of_lt (by omega)
  have e4 : n4 = 0 ∨ n4 = 1 := by omega
  rcases e4 with rfl | rfl
  · have hL : layS 168 a n2 0 0 = (over (over (initB 168) 2 (putBe a 4)) 6 (putBe n2 4)) := rfl
    have h1 : bigAt (over (over (initB 168) 2 (putBe a 4)) 6 (putBe n2 4)) 2 4 = a := Eq.trans (show bigAt (over (over (initB 168) 2 (putBe a 4)) 6 (putBe n2 4)) 2 4 = bigOf (putBe a 4) from rfl) hA
    have h2 : bigAt (over (over (initB 168) 2 (putBe a 4)) 6 (putBe n2 4)) 6 4 = n2 := Eq.trans (show bigAt (over (over (initB 168) 2 (putBe a 4)) 6 (putBe n2 4)) 6 4 = bigOf (putBe n2 4) from rfl) hC
    have h3 : Bn (over (over (initB 168) 2 (putBe a 4)) 6 (putBe n2 4)) 1 = 0 := rfl
    have h4 : (over (over (initB 168) 2 (putBe a 4)) 6 (putBe n2 4)).length = 12 := rfl
    have hS : readS 168 (over (over (initB 168) 2 (putBe a 4)) 6 (putBe n2 4)) = blocksS 168 (over (over (initB 168) 2 (putBe a 4)) 6 (putBe n2 4)) := rfl
    rw [hL]
    refine ⟨?_, h4, rfl, rfl⟩
    rw [hS]
    simp [blocksS, h4, h1, h2, h3, okS6, bitsS, show classI 168 = 1 from rfl]
  · have hL : layS 168 a n2 0 1 = ((over (over (initB 168) 2 (putBe a 4)) 6 (putBe n2 4)).set 1 8) := rfl
    have h1 : bigAt ((over (over (initB 168) 2 (putBe a 4)) 6 (putBe n2 4)).set 1 8) 2 4 = a := Eq.trans (show bigAt ((over (over (initB 168) 2 (putBe a 4)) 6 (putBe n2 4)).set 1 8) 2 4 = bigOf (putBe a 4) from rfl) hA
    have h2 : bigAt ((over (over (initB 168) 2 (putBe a 4)) 6 (putBe n2 4)).set 1 8) 6 4 = n2 := Eq.trans (show bigAt ((over (over (initB 168) 2 (putBe a 4)) 6 (putBe n2 4)).set 1 8) 6 4 = bigOf (putBe n2 4) from rfl) hC
    have h3 : Bn ((over (over (initB 168) 2 (putBe a 4)) 6 (putBe n2 4)).set 1 8) 1 = 8 := rfl
    have h4 : ((over (over (initB 168) 2 (putBe a 4)) 6 (putBe n2 4)).set 1 8).length = 12 := rfl
    have hS : readS 168 ((over (over (initB 168) 2 (putBe a 4)) 6 (putBe n2 4)).set 1 8) = blocksS 168 ((over (over (initB 168) 2 (putBe a 4)) 6 (putBe n2 4)).set 1 8) := rfl
    rw [hL]
    refine ⟨?_, h4, rfl, rfl⟩
    rw [hS]
    simp [blocksS, h4, h1, h2, h3, okS6, bitsS, show classI 168 = 1 from rfl]
theorem read_170 : ReadS 170 12 := by
  intro a n2 n3 n4 h
  simp only [fitsN, show fitT 170 = (4294967295, 0, 4294967295, 0, 1) from rfl] at h
  have e3 : n3 = 0 := by omega
  subst e3
  have hA : bigOf (putBe a 4) = a := by rw [bigOf_putBe]; exact Nat.mod_eq_of_lt (by omega)
  have hC : bigOf (putBe n2 4) = n2 := by rw [bigOf_putBe]; exact Nat.mod_eq_of_lt (by omega)
  have e4 : n4 = 0 ∨ n4 = 1 := by omega
  rcases e4 with rfl | rfl
  · have hL : layS 170 a n2 0 0 = (over (over (initB 170) 2 (putBe a 4)) 6 (putBe n2 4)) := rfl
    have h1 : bigAt (over (over (initB 170) 2 (putBe a 4)) 6 (putBe n2 4)) 2 4 = a := Eq.trans (show bigAt (over (over (initB 170) 2 (putBe a 4)) 6 (putBe n2 4)) 2 4 = bigOf (putBe a 4) from rfl) hA
    have h2 : bigAt (over (over (initB 170) 2 (putBe a 4)) 6 (putBe n2 4)) 6 4 = n2 := Eq.trans (show bigAt (over (over (initB 170) 2 (putBe a 4)) 6 (putBe n2 4)) 6 4 = bigOf (putBe n2 4) from rfl) hC
    have h3 : Bn (over (over (initB 170) 2 (putBe a 4)) 6 (putBe n2 4)) 1 = 0 := rfl
    have h4 : (over (over (initB 170) 2 (putBe a 4)) 6 (putBe n2 4)).length = 12 := rfl
    have hS : readS 170 (over (over (initB 170) 2 (putBe a 4)) 6 (putBe n2 4)) = blocksS 170 (over (over (initB 170) 2 (putBe a 4)) 6 (putBe n2 4)) := rfl
    rw [hL]
    refine ⟨?_, h4, rfl, rfl⟩
    rw [hS]
    simp [blocksS, h4, h1, h2, h3, okS6, bitsS, show classI 170 = 2 from rfl]
  · have hL : layS 170 a n2 0 1 = ((over (over (initB 170) 2 (putBe a 4)) 6 (putBe n2 4)).set 1 8) := rfl
    have h1 : bigAt ((over (over (initB 170) 2 (putBe a 4)) 6 (putBe n2 4)).set 1 8) 2 4 = a := Eq.trans (show bigAt ((over (over (initB 170) 2 (putBe a 4)) 6 (putBe n2 4)).set 1 8) 2 4 = bigOf (putBe a 4) from rfl) hA
    have h2 : bigAt ((over (over (initB 170) 2 (putBe a 4)) 6 (putBe n2 4)).set 1 8) 6 4 = n2 := Eq.trans (show bigAt ((over (over (initB 170) 2 (putBe a 4)) 6 (putBe n2 4)).set 1 8) 6 4 = bigOf (putBe n2 4) from rfl) hC
    have h3 : Bn ((over (over (initB 170) 2 (putBe a 4)) 6 (putBe n2 4)).set 1 8) 1 = 8 := rfl
    have h4 : ((over (over (initB 170) 2 (putBe a 4)) 6 (putBe n2 4)).set 1 8).length = 12 := rfl
    have hS : readS 170 ((over (over (initB 170) 2 (putBe a 4)) 6 (putBe n2 4)).set 1 8) = blocksS 170 ((over (over (initB 170) 2 (putBe a 4)) 6 (putBe n2 4)).set 1 8) := rfl
    rw [hL]
    refine ⟨?_, h4, rfl, rfl⟩
    rw [hS]
    simp [blocksS, h4, h1, h2, h3, okS6, bitsS, show classI 170 = 2 from rfl]
theorem read_47 : ReadS 47 10 := by
  intro a n2 n3 n4 h
  simp only [fitsN, show fitT 47 = (4294967295, 0, 65535, 0, 1) from rfl] at h
  have e3 : n3 = 0 := by omega
  subst e3
  have hA : bigOf (putBe a 4) = a := by rw [bigOf_putBe]; exact Nat.mod_eq_of_lt (by omega)
  have hC : bigOf (putBe n2 2) = n2 := by rw [bigOf_putBe]; exact Nat.mod_eq_of_lt (by omega)
  have e4 : n4 = 0 ∨ n4 = 1 := by omega
  rcases e4 with rfl | rfl
  · have hL : layS 47 a n2 0 0 = (over (over (initB 47) 2 (putBe a 4)) 7 (putBe n2 2)) := rfl
    have h1 : bigAt (over (over (initB 47) 2 (putBe a 4)) 7 (putBe n2 2)) 2 4 = a := Eq.trans (show bigAt (over (over (initB 47) 2 (putBe a 4)) 7 (putBe n2 2)) 2 4 = bigOf (putBe a 4) from rfl) hA
    have h2 : bigAt (over (over (initB 47) 2 (putBe a 4)) 7 (putBe n2 2)) 7 2 = n2 := Eq.trans (show bigAt (over (over (initB 47) 2 (putBe a 4)) 7 (putBe n2 2)) 7 2 = bigOf (putBe n2 2) from rfl) hC
    have h3 : Bn (over (over (initB 47) 2 (putBe a 4)) 7 (putBe n2 2)) 1 = 0 := rfl
    have h4 : (over (over (initB 47) 2 (putBe a 4)) 7 (putBe n2 2)).length = 10 := rfl
    have hS : readS 47 (over (over (initB 47) 2 (putBe a 4)) 7 (putBe n2 2)) = blocksS 47 (over (over (initB 47) 2 (putBe a 4)) 7 (putBe n2 2)) := rfl
    rw [hL]
    refine ⟨?_, h4, rfl, rfl⟩
    rw [hS]
    simp [blocksS, h4, h1, h2, h3, okS6, bitsS, show classI 47 = 3 from rfl]
  · have hL : layS 47 a n2 0 1 = ((over (over (initB 47) 2 (putBe a 4)) 7 (putBe n2 2)).set 1 2) := rfl
    have h1 : bigAt ((over (over (initB 47) 2 (putBe a 4)) 7 (putBe n2 2)).set 1 2) 2 4 = a := Eq.trans (show bigAt ((over (over (initB 47) 2 (putBe a 4)) 7 (putBe n2 2)).set 1 2) 2 4 = bigOf (putBe a 4) from rfl) hA
    have h2 : bigAt ((over (over (initB 47) 2 (putBe a 4)) 7 (putBe n2 2)).set 1 2) 7 2 = n2 := Eq.trans (show bigAt ((over (over (initB 47) 2 (putBe a 4)) 7 (putBe n2 2)).set 1 2) 7 2 = bigOf (putBe n2 2) from rfl) hC
    have h3 : Bn ((over (over (initB 47) 2 (putBe a 4)) 7 (putBe n2 2)).set 1 2) 1 = 2 := rfl
    have h4 : ((over (over (initB 47) 2 (putBe a 4)) 7 (putBe n2 2)).set 1 2).length = 10 := rfl
    have hS : readS 47 ((over (over (initB 47) 2 (putBe a 4)) 7 (putBe n2 2)).set 1 2) = blocksS 47 ((over (over (initB 47) 2 (putBe a 4)) 7 (putBe n2 2)).set 1 2) := rfl
    rw [hL]
    refine ⟨?_, h4, rfl, rfl⟩
    rw [hS]
    simp [blocksS, h4, h1, h2, h3, okS6, bitsS, show classI 47 = 3 from rfl]
theorem read_143 : ReadS 143 16 := by
  intro a n2 n3 n4 h
  simp only [fitsN, show fitT 143 = (18446744073709551615, 0, 4294967295, 0, 1) from rfl] at h
  have e3 : n3 = 0 := by omega
  subst e3
  have hA : bigOf (putBe a 8) = a := by rw [bigOf_putBe]; exact Nat.mod_eq_of_lt (by omega)
  have hC : bigOf (putBe n2 4) = n2 := by rw [bigOf_putBe]; exact Nat.mod_eq_of_lt (by omega)
  have e4 : n4 = 0 ∨ n4 = 1 := by omega
  rcases e4 with rfl | rfl
  · have hL : layS 143 a n2 0 0 = (over (over (initB 143) 2 (putBe a 8)) 10 (putBe n2 4)) := rfl
    have h1 : bigAt (over (over (initB 143) 2 (putBe a 8)) 10 (putBe n2 4)) 2 8 = a := Eq.trans (show bigAt (over (over (initB 143) 2 (putBe a 8)) 10 (putBe n2 4)) 2 8 = bigOf (putBe a 8) from rfl) hA
    have h2 : bigAt (over (over (initB 143) 2 (putBe a 8)) 10 (putBe n2 4)) 10 4 = n2 := Eq.trans (show bigAt (over (over (initB 143) 2 (putBe a 8)) 10 (putBe n2 4)) 10 4 = bigOf (putBe n2 4) from rfl) hC
    have h3 : Bn (over (over (initB 143) 2 (putBe a 8)) 10 (putBe n2 4)) 1 = 0 := rfl
    have h4 : (over (over (initB 143) 2 (putBe a 8)) 10 (putBe n2 4)).length = 16 := rfl
    have hS : readS 143 (over (over (initB 143) 2 (putBe a 8)) 10 (putBe n2 4)) = blocksS 143 (over (over (initB 143) 2 (putBe a 8)) 10 (putBe n2 4)) := rfl
    rw [hL]
    refine ⟨?_, h4, rfl, rfl⟩
    rw [hS]
    simp [blocksS, h4, h1, h2, h3, okS6, bitsS, show classI 143 = 3 from rfl]
  · have hL : layS 143 a n2 0 1 = ((over (over (initB 143) 2 (putBe a 8)) 10 (putBe n2 4)).set 1 2) := rfl
    have h1 : bigAt ((over (over (initB 143) 2 (putBe a 8)) 10 (putBe n2 4)).set 1 2) 2 8 = a := Eq.trans (show bigAt ((over (over (initB 143) 2 (putBe a 8)) 10 (putBe n2 4)).set 1 2) 2 8 = bigOf (putBe a 8) from rfl) hA
    have h2 : bigAt ((over (over (initB 143) 2 (putBe a 8)) 10 (putBe n2 4)).set 1 2) 10 4 = n2 := Eq.trans (show bigAt ((over (over (initB 143) 2 (putBe a 8)) 10 (putBe n2 4)).set 1 2) 10 4 = bigOf (putBe n2 4) from rfl) hC
    have h3 : Bn ((over (over (initB 143) 2 (putBe a 8)) 10 (putBe n2 4)).set 1 2) 1 = 2 := rfl
    have h4 : ((over (over (initB 143) 2 (putBe a 8)) 10 (putBe n2 4)).set 1 2).length = 16 := rfl
    have hS : readS 143 ((over (over (initB 143) 2 (putBe a 8)) 10 (putBe n2 4)).set 1 2) = blocksS 143 ((over (over (initB 143) 2 (putBe a 8)) 10 (putBe n2 4)).set 1 2) := rfl
    rw [hL]
    refine ⟨?_, h4, rfl, rfl⟩
    rw [hS]
    simp [blocksS, h4, h1, h2, h3, okS6, bitsS, show classI 143 = 3 from rfl]
theorem read_175 : ReadS 175 12 := by
  intro a n2 n3 n4 h
  simp only [fitsN, show fitT 175 = (4294967295, 0, 4294967295, 0, 1) from rfl] at h
  have e3 : n3 = 0 := by omega
  subst e3
  have hA : bigOf (putBe a 4) = a := by rw [bigOf_putBe]; exact Nat.mod_eq_of_lt (by omega)
  have hC : bigOf (putBe n2 4) = n2 := by rw [bigOf_putBe]; exact Nat.mod_eq_of_lt (by omega)
  have e4 : n4 = 0 ∨ n4 = 1 := by omega
  rcases e4 with rfl | rfl
  · have hL : layS 175 a n2 0 0 = (over (over (initB 175) 2 (putBe a 4)) 6 (putBe n2 4)) := rfl
    have h1 : bigAt (over (over (initB 175) 2 (putBe a 4)) 6 (putBe n2 4)) 2 4 = a := Eq.trans (show bigAt (over (over (initB 175) 2 (putBe a 4)) 6 (putBe n2 4)) 2 4 = bigOf (putBe a 4) from rfl) hA
    have h2 : bigAt (over (over (initB 175) 2 (putBe a 4)) 6 (putBe n2 4)) 6 4 = n2 := Eq.trans (show bigAt (over (over (initB 175) 2 (putBe a 4)) 6 (putBe n2 4)) 6 4 = bigOf (putBe n2 4) from rfl) hC
    have h3 : Bn (over (over (initB 175) 2 (putBe a 4)) 6 (putBe n2 4)) 1 = 0 := rfl
    have h4 : (over (over (initB 175) 2 (putBe a 4)) 6 (putBe n2 4)).length = 12 := rfl
    have hS : readS 175 (over (over (initB 175) 2 (putBe a 4)) 6 (putBe n2 4)) = blocksS 175 (over (over (initB 175) 2 (putBe a 4)) 6 (putBe n2 4)) := rfl
    rw [hL]
    refine ⟨?_, h4, rfl, rfl⟩
    rw [hS]
    simp [blocksS, h4, h1, h2, h3, okS6, bitsS, show classI 175 = 3 from rfl]
  · have hL : layS 175 a n2 0 1 = ((over (over (initB 175) 2 (putBe a 4)) 6 (putBe n2 4)).set 1 2) := rfl
    have h1 : bigAt ((over (over (initB 175) 2 (putBe a 4)) 6 (putBe n2 4)).set 1 2) 2 4 = a := Eq.trans (show bigAt ((over (over (initB 175) 2 (putBe a 4)) 6 (putBe n2 4)).set 1 2) 2 4 = bigOf (putBe a 4) from rfl) hA
    have h2 : bigAt ((over (over (initB 175) 2 (putBe a 4)) 6 (putBe n2 4)).set 1 2) 6 4 = n2 := Eq.trans (show bigAt ((over (over (initB 175) 2 (putBe a 4)) 6 (putBe n2 4)).set 1 2) 6 4 = bigOf (putBe n2 4) from rfl) hC
    have h3 : Bn ((over (over (initB 175) 2 (putBe a 4)) 6 (putBe n2 4)).set 1 2) 1 = 2 := rfl
    have h4 : ((over (over (initB 175) 2 (putBe a 4)) 6 (putBe n2 4)).set 1 2).length = 12 := rfl
    have hS : readS 175 ((over (over (initB 175) 2 (putBe a 4)) 6 (putBe n2 4)).set 1 2) = blocksS 175 ((over (over (initB 175) 2 (putBe a 4)) 6 (putBe n2 4)).set 1 2) := rfl
    rw [hL]
    refine ⟨?_, h4, rfl, rfl⟩
    rw [hS]
    simp [blocksS, h4, h1, h2, h3, okS6, bitsS, show classI 175 = 3 from rfl]
theorem read_53 : ReadS 53 10 := by
  intro a n2 n3 n4 h
  simp only [fitsN, show fitT 53 = (4294967295, 0, 65535, 0, 0) from rfl] at h
  have e3 : n3 = 0 := by omega
  subst e3
  have hA : bigOf (putBe a 4) = a := by rw [bigOf_putBe]; exact Nat.mod_eq_of_lt (by omega)
  have hC : bigOf (putBe n2 2) = n2 := by rw [bigOf_putBe]; exact Nat.mod_eq_of_lt (by omega)
  have e4 : n4 = 0 := by omega
  subst e4
  have hL : layS 53 a n2 0 0 = (over (over (initB 53) 2 (putBe a 4)) 7 (putBe n2 2)) := rfl
  have h1 : bigAt (over (over (initB 53) 2 (putBe a 4)) 7 (putBe n2 2)) 2 4 = a := Eq.trans (show bigAt (over (over (initB 53) 2 (putBe a 4)) 7 (putBe n2 2)) 2 4 = bigOf (putBe a 4) from rfl) hA
  have h2 : bigAt (over (over (initB 53) 2 (putBe a 4)) 7 (putBe n2 2)) 7 2 = n2 := Eq.trans (show bigAt (over (over (initB 53) 2 (putBe a 4)) 7 (putBe n2 2)) 7 2 = bigOf (putBe n2 2) from rfl) hC
  have h3 : Bn (over (over (initB 53) 2 (putBe a 4)) 7 (putBe n2 2)) 1 = 0 := rfl
  have h4 : (over (over (initB 53) 2 (putBe a 4)) 7 (putBe n2 2)).length = 10 := rfl
  have hS : readS 53 (over (over (initB 53) 2 (putBe a 4)) 7 (putBe n2 2)) = blocksS 53 (over (over (initB 53) 2 (putBe a 4)) 7 (putBe n2 2)) := rfl
  rw [hL]
  refine ⟨?_, h4, rfl, rfl⟩
  rw [hS]
  simp [blocksS, h4, h1, h2, h3, okS6, bitsS, show classI 53 = 4 from rfl]
theorem read_145 : ReadS 145 16 := by
  intro a n2 n3 n4 h
  simp only [fitsN, show fitT 145 = (18446744073709551615, 0, 4294967295, 0, 0) from rfl] at h
  have e3 : n3 = 0 := by omega
  subst e3
  have hA : bigOf (putBe a 8) = a := by rw [bigOf_putBe]; exact Nat.mod_eq_of_lt (by omega)
  have hC : bigOf (putBe n2 4) = n2 := by rw [bigOf_putBe]; exact Nat.mod_eq_of_lt (by omega)
  have e4 : n4 = 0 := by omega
  subst e4
  have hL : layS 145 a n2 0 0 = (over (over (initB 145) 2 (putBe a 8)) 10 (putBe n2 4)) := rfl
  have h1 : bigAt (over (over (initB 145) 2 (putBe a 8)) 10 (putBe n2 4)) 2 8 = a := Eq.trans (show bigAt (over (over (initB 145) 2 (putBe a 8)) 10 (putBe n2 4)) 2 8 = bigOf (putBe a 8) from rfl) hA
  have h2 : bigAt (over (over (initB 145) 2 (putBe a 8)) 10 (putBe n2 4)) 10 4 = n2 := Eq.trans (show bigAt (over (over (initB 145) 2 (putBe a 8)) 10 (putBe n2 4)) 10 4 = bigOf (putBe n2 4) from rfl) hC
  have h3 : Bn (over (over (initB 145) 2 (putBe a 8)) 10 (putBe n2 4)) 1 = 0 := rfl
  have h4 : (over (over (initB 145) 2 (putBe a 8)) 10 (putBe n2 4)).length = 16 := rfl
  have hS : readS 145 (over (over (initB 145) 2 (putBe a 8)) 10 (putBe n2 4)) = blocksS 145 (over (over (initB 145) 2 (putBe a 8)) 10 (putBe n2 4)) := rfl
  rw [hL]
  refine ⟨?_, h4, rfl, rfl⟩
  rw [hS]
  simp [blocksS, h4, h1, h2, h3, okS6, bitsS, show classI 145 = 4 from rfl]
theorem read_3 : ReadS 3 6 := by
  intro a n2 n3 n4 h
  simp only [fitsN, show fitT 3 = (0, 0, 255, 0, 0) from rfl] at h
  have hL : layS 3 a n2 n3 n4 = ((initB 3).set 4 (bof n2)) := rfl
  have h4 : ((initB 3).set 4 (bof n2)).length = 6 := rfl
  have hS : readS 3 ((initB 3).set 4 (bof n2)) = restS 3 ((initB 3).set 4 (bof n2)) := rfl
  have g4 : Bn ((initB 3).set 4 (bof n2)) 4 = n2 := by
    show (bof n2).toNat = _
    rw [bof_toNat]
    omega
  have g1 : Bn ((initB 3).set 4 (bof n2)) 1 = 0 := rfl
  rw [hL]
  refine ⟨?_, h4, rfl, rfl⟩
  rw [hS]
  simp [restS, g4, g1]
  try omega
theorem read_18 : ReadS 18 6 := by
  intro a n2 n3 n4 h
  simp only [fitsN, show fitT 18 = (0, 0, 65535, 255, 1) from rfl] at h
  have hL : layS 18 a n2 n3 n4 = (over (((initB 18).set 1 (bof (n4 % 2))).set 2 (bof n3)) 3 (putBe n2 2)) := rfl
  have h4 : (over (((initB 18).set 1 (bof (n4 % 2))).set 2 (bof n3)) 3 (putBe n2 2)).length = 6 := rfl
  have hS : readS 18 (over (((initB 18).set 1 (bof (n4 % 2))).set 2 (bof n3)) 3 (putBe n2 2)) = restS 18 (over (((initB 18).set 1 (bof (n4 % 2))).set 2 (bof n3)) 3 (putBe n2 2)) := rfl
  have hC : bigOf (putBe n2 2) = n2 := by rw [bigOf_putBe]; exact Nat.mod_eq_of_lt (by omega)
  have h2 : bigAt (over (((initB 18).set 1 (bof (n4 % 2))).set 2 (bof n3)) 3 (putBe n2 2)) 3 2 = n2 := Eq.trans (show bigAt (over (((initB 18).set 1 (bof (n4 % 2))).set 2 (bof n3)) 3 (putBe n2 2)) 3 2 = bigOf (putBe n2 2) from rfl) hC
  have g1 : Bn (over (((initB 18).set 1 (bof (n4 % 2))).set 2 (bof n3)) 3 (putBe n2 2)) 1 = n4 := by
    show (bof (n4 % 2)).toNat = _
    rw [bof_toNat]
    omega
  have g2 : Bn (over (((initB 18).set 1 (bof (n4 % 2))).set 2 (bof n3)) 3 (putBe n2 2)) 2 = n3 := by
    show (bof n3).toNat = _
    rw [bof_toNat]
    omega
  have h5 := h.2.2.2.2.2 trivial
  rw [hL]
  refine ⟨?_, h4, rfl, rfl⟩
  rw [hS]
  simp [restS, h2, g1, g2]
  try omega
theorem read_21 : ReadS 21 6 := by
  intro a n2 n3 n4 h
  simp only [fitsN, show fitT 21 = (0, 0, 255, 0, 0) from rfl] at h
  have hL : layS 21 a n2 n3 n4 = (((initB 21).set 1 16).set 4 (bof n2)) := rfl
  have h4 : (((initB 21).set 1 16).set 4 (bof n2)).length = 6 := rfl
  have hS : readS 21 (((initB 21).set 1 16).set 4 (bof n2)) = restS 21 (((initB 21).set 1 16).set 4 (bof n2)) := rfl
  have g1 : Bn (((initB 21).set 1 16).set 4 (bof n2)) 1 = 16 := rfl
  have g4 : Bn (((initB 21).set 1 16).set 4 (bof n2)) 4 = n2 := by
    show (bof n2).toNat = _
    rw [bof_toNat]
    omega
  rw [hL]
  refine ⟨?_, h4, rfl, rfl⟩
  rw [hS]
  simp [restS, g1, g4]
  try omega
theorem read_85 : ReadS 85 10 := by
  intro a n2 n3 n4 h
  simp only [fitsN, show fitT 85 = (0, 0, 65535, 0, 0) from rfl] at h
  have hL : layS 85 a n2 n3 n4 = (over ((initB 85).set 1 16) 7 (putBe n2 2)) := rfl
  have h4 : (over ((initB 85).set 1 16) 7 (putBe n2 2)).length = 10 := rfl
  have hS : readS 85 (over ((initB 85).set 1 16) 7 (putBe n2 2)) = restS 85 (over ((initB 85).set 1 16) 7 (putBe n2 2)) := rfl
  have hC : bigOf (putBe n2 2) = n2 := by rw [bigOf_putBe]; exact Nat.mod_eq_of_lt (by omega)
  have h2 : bigAt (over ((initB 85).set 1 16) 7 (putBe n2 2)) 7 2 = n2 := Eq.trans (show bigAt (over ((initB 85).set 1 16) 7 (putBe n2 2)) 7 2 = bigOf (putBe n2 2) from rfl) hC
  have g1 : Bn (over ((initB 85).set 1 16) 7 (putBe n2 2)) 1 = 16 := rfl
  rw [hL]
  refine ⟨?_, h4, rfl, rfl⟩
  rw [hS]
  simp [restS, h2, g1]
  try omega
theorem read_26 : ReadS 26 6 := by
  intro a n2 n3 n4 h
  simp only [fitsN, show fitT 26 = (0, 0, 255, 63, 3) from rfl] at h
  have hL : layS 26 a n2 n3 n4 = (((initB 26).set 2 (bof (n3 % 64 + n4 * 64))).set 4 (bof n2)) := rfl
  have h4 : (((initB 26).set 2 (bof (n3 % 64 + n4 * 64))).set 4 (bof n2)).length = 6 := rfl
  have hS : readS 26 (((initB 26).set 2 (bof (n3 % 64 + n4 * 64))).set 4 (bof n2)) = restS 26 (((initB 26).set 2 (bof (n3 % 64 + n4 * 64))).set 4 (bof n2)) := rfl
  have g2 : Bn (((initB 26).set 2 (bof (n3 % 64 + n4 * 64))).set 4 (bof n2)) 2 = n3 + n4 * 64 := by
    show (bof (n3 % 64 + n4 * 64)).toNat = _
    rw [bof_toNat]
    omega
  have g3 : Bn (((initB 26).set 2 (bof (n3 % 64 + n4 * 64))).set 4 (bof n2)) 3 = 0 := rfl
  have g4 : Bn (((initB 26).set 2 (bof (n3 % 64 + n4 * 64))).set 4 (bof n2)) 4 = n2 := by
    show (bof n2).toNat = _
    rw [bof_toNat]
    omega
  rw [hL]
  refine ⟨?_, h4, rfl, rfl⟩
  rw [hS]
  simp [restS, g2, g3, g4]
  try omega
theorem read_90 : ReadS 90 10 := by
  intro a n2 n3 n4 h
  simp only [fitsN, show fitT 90 = (0, 0, 65535, 63, 3) from rfl] at h
  have hL : layS 90 a n2 n3 n4 = (over ((initB 90).set 2 (bof (n3 % 64 + n4 * 64))) 7 (putBe n2 2)) := rfl
  have h4 : (over ((initB 90).set 2 (bof (n3 % 64 + n4 * 64))) 7 (putBe n2 2)).length = 10 := rfl
  have hS : readS 90 (over ((initB 90).set 2 (bof (n3 % 64 + n4 * 64))) 7 (putBe n2 2)) = restS 90 (over ((initB 90).set 2 (bof (n3 % 64 + n4 * 64))) 7 (putBe n2 2)) := rfl
  have hC : bigOf (putBe n2 2) = n2 := by rw [bigOf_putBe]; exact Nat.mod_eq_of_lt (by omega)
  have h2 : bigAt (over ((initB 90).set 2 (bof (n3 % 64 + n4 * 64))) 7 (putBe n2 2)) 7 2 = n2 := Eq.trans (show bigAt (over ((initB 90).set 2 (bof (n3 % 64 + n4 * 64))) 7 (putBe n2 2)) 7 2 = bigOf (putBe n2 2) from rfl) hC
  have g2 : Bn (over ((initB 90).set 2 (bof (n3 % 64 + n4 * 64))) 7 (putBe n2 2)) 2 = n3 + n4 * 64 := by
    show (bof (n3 % 64 + n4 * 64)).toNat = _
    rw [bof_toNat]
    omega
  have g3 : Bn (over ((initB 90).set 2 (bof (n3 % 64 + n4 * 64))) 7 (putBe n2 2)) 3 = 0 := rfl
  rw [hL]
  refine ⟨?_, h4, rfl, rfl⟩
  rw [hS]
  simp [restS, h2, g2, g3]
  try omega
theorem read_27 : ReadS 27 6 := by
  intro a n2 n3 n4 h
  simp only [fitsN, show fitT 27 = (0, 0, 0, 0, 3) from rfl] at h
  have hL : layS 27 a n2 n3 n4 = ((initB 27).set 4 (bof n4)) := rfl
  have h4 : ((initB 27).set 4 (bof n4)).length = 6 := rfl
  have hS : readS 27 ((initB 27).set 4 (bof n4)) = restS 27 ((initB 27).set 4 (bof n4)) := rfl
  have g4 : Bn ((initB 27).set 4 (bof n4)) 4 = n4 := by
    show (bof n4).toNat = _
    rw [bof_toNat]
    omega
  rw [hL]
  refine ⟨?_, h4, rfl, rfl⟩
  rw [hS]
  simp [restS, g4]
  try omega
theorem read_30 : ReadS 30 6 := by
  intro a n2 n3 n4 h
  simp only [fitsN, show fitT 30 = (0, 0, 0, 0, 1) from rfl] at h
  have hL : layS 30 a n2 n3 n4 = ((initB 30).set 4 (bof n4)) := rfl
  have h4 : ((initB 30).set 4 (bof n4)).length = 6 := rfl
  have hS : readS 30 ((initB 30).set 4 (bof n4)) = restS 30 ((initB 30).set 4 (bof n4)) := rfl
  have g4 : Bn ((initB 30).set 4 (bof n4)) 4 = n4 := by
    show (bof n4).toNat = _
    rw [bof_toNat]
    omega
  rw [hL]
  refine ⟨?_, h4, rfl, rfl⟩
  rw [hS]
  simp [restS, g4]
  try omega
theorem read_37 : ReadS 37 10 := by
  intro a n2 n3 n4 h
  simp only [fitsN, show fitT 37 = (0, 0, 0, 0, 0) from rfl] at h
  have hL : layS 37 a n2 n3 n4 = (initB 37) := rfl
  have h4 : (initB 37).length = 10 := rfl
  have hS : readS 37 (initB 37) = restS 37 (initB 37) := rfl
  have h2 : bigAt (initB 37) 2 4 = 0 := rfl
  have g8 : Bn (initB 37) 8 = 0 := rfl
  rw [hL]
  refine ⟨?_, h4, rfl, rfl⟩
  rw [hS]
  simp [restS, h2, g8]
  try omega
theorem read_158 : ReadS 158 16 := by
  intro a n2 n3 n4 h
  simp only [fitsN, show fitT 158 = (0, 0, 4294967295, 0, 0) from rfl] at h
  have hL : layS 158 a n2 n3 n4 = (over ((initB 158).set 1 16) 10 (putBe n2 4)) := rfl
  have h4 : (over ((initB 158).set 1 16) 10 (putBe n2 4)).length = 16 := rfl
  have hS : readS 158 (over ((initB 158).set 1 16) 10 (putBe n2 4)) = restS 158 (over ((initB 158).set 1 16) 10 (putBe n2 4)) := rfl
  have hC : bigOf (putBe n2 4) = n2 := by rw [bigOf_putBe]; exact Nat.mod_eq_of_lt (by omega)
  have h2 : bigAt (over ((initB 158).set 1 16) 10 (putBe n2 4)) 10 4 = n2 := Eq.trans (show bigAt (over ((initB 158).set 1 16) 10 (putBe n2 4)) 10 4 = bigOf (putBe n2 4) from rfl) hC
  have g1 : Bn (over ((initB 158).set 1 16) 10 (putBe n2 4)) 1 = 16 := rfl
  rw [hL]
  refine ⟨?_, h4, rfl, rfl⟩
  rw [hS]
  simp [restS, h2, g1]
  try omega
theorem read_160 : ReadS 160 12 := by
  intro a n2 n3 n4 h
  simp only [fitsN, show fitT 160 = (0, 16, 4294967295, 0, 0) from rfl] at h
  have hL : layS 160 a n2 n3 n4 = (over (initB 160) 6 (putBe n2 4)) := rfl
  have h4 : (over (initB 160) 6 (putBe n2 4)).length = 12 := rfl
  have hS : readS 160 (over (initB 160) 6 (putBe n2 4)) = restS 160 (over (initB 160) 6 (putBe n2 4)) := rfl
  have hC : bigOf (putBe n2 4) = n2 := by rw [bigOf_putBe]; exact Nat.mod_eq_of_lt (by omega)
  have h2 : bigAt (over (initB 160) 6 (putBe n2 4)) 6 4 = n2 := Eq.trans (show bigAt (over (initB 160) 6 (putBe n2 4)) 6 4 = bigOf (putBe n2 4) from rfl) hC
  have g2 : Bn (over (initB 160) 6 (putBe n2 4)) 2 = 0 := rfl
  rw [hL]
  refine ⟨?_, h4, rfl, rfl⟩
  rw [hS]
  simp [restS, h2, g2]
  try omega
theorem read_0 : ReadS 0 6 := by
  intro a n2 n3 n4 h
  simp only [fitsN, show fitT 0 = (0, 0, 0, 0, 0) from rfl] at h
  have hL : layS 0 a n2 n3 n4 = (initB 0) := rfl
  have h4 : (initB 0).length = 6 := rfl
  have hS : readS 0 (initB 0) = restS 0 (initB 0) := rfl
  rw [hL]
  refine ⟨?_, h4, rfl, rfl⟩
  rw [hS]
  simp [restS]
  try omega
end Go.Proofs.Ytccdgpadjfjoeaa
