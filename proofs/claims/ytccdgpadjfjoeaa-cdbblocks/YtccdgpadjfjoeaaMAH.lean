import Derived.Test.YtccdgpadjfjoeaaMAA
import Derived.Test.YtccdgpadjfjoeaaMAG
namespace Go.Proofs.Ytccdgpadjfjoeaa
open Go.ChangeShapes Go.WideShapes Go.ChangeAt Go.RowKit
set_option linter.unusedVariables false
set_option linter.unusedSimpArgs false

theorem isWidth_any (a : Int) (w : World) :
    Calls Try.prog 47 #[.int .i64 a] w fun e w' => e = .returned (.bool (isW a)) ∧ w' = w := by
  unfold isW
  by_cases h1 : 1 ≤ a
  · by_cases h2 : a ≤ 8
    all_goals
      go_enter Try.func47, Try.ntmps47
      go_wp2
      go_ret
      refine ⟨ret_bool (by first | (simp; done) | (simp; omega)), rfl⟩
  · go_enter Try.func47, Try.ntmps47
    go_wp2
    go_ret
    refine ⟨ret_bool (by first | (simp; done) | (simp; omega)), rfl⟩

theorem holds_yes (c a n : Int) (w : World) (h1 : 1 ≤ n) (h2 : n ≤ 8) (h3 : 0 ≤ a) (h4 : a ≤ c - n) (h5 : c ≤ 9223372036854775807) :
    Calls Try.prog 44 #[.int .i64 c, .int .i64 a, .int .i64 n] w fun e w' => e = .returned (.bool true) ∧ w' = w := by
  go_enter Try.func44, Try.ntmps44
  go_wp2
  go_ret
  exact ⟨rfl, rfl⟩
theorem holds_no (c a n : Int) (w : World) (hc0 : 0 ≤ c) (h5 : c ≤ 9223372036854775807) (hh : ¬ (1 ≤ n ∧ n ≤ 8 ∧ 0 ≤ a ∧ a ≤ c - n)) :
    Calls Try.prog 44 #[.int .i64 c, .int .i64 a, .int .i64 n] w fun e w' => e = .returned (.bool false) ∧ w' = w := by
  by_cases h1 : 1 ≤ n
  · by_cases h2 : n ≤ 8
    · by_cases h3 : 0 ≤ a
      · have h4 : decide (a ≤ c - n) = false := by simp; omega
        clear hh
        go_enter Try.func44, Try.ntmps44
        go_wp2
        go_ret
        exact ⟨rfl, rfl⟩
      · clear hh
        go_enter Try.func44, Try.ntmps44
        go_wp2
        go_ret
        exact ⟨rfl, rfl⟩
    · clear hh
      go_enter Try.func44, Try.ntmps44
      go_wp2
      go_ret
      exact ⟨rfl, rfl⟩
  · clear hh
    go_enter Try.func44, Try.ntmps44
    go_wp2
    go_ret
    exact ⟨rfl, rfl⟩

theorem lowest_any (n : Nat) (w : World) (h1 : 1 ≤ n) (h2 : n ≤ 64) :
    Calls Try.prog 46 #[.int .i64 n] w fun e w' => e = .returned (.int .u64 (18446744073709551615 / 2 ^ (64 - n))) ∧ w' = w := by
  go_enter Try.func46, Try.ntmps46
  go_wp2
  go_ret
  exact ⟨rfl, rfl⟩

theorem areBits_any (f n : Int) (w : World) :
    Calls Try.prog 45 #[.int .i64 f, .int .i64 n] w fun e w' => e = .returned (.bool (areB f n)) ∧ w' = w := by
  unfold areB
  by_cases h1 : 1 ≤ n
  · by_cases h2 : n ≤ 64
    · by_cases h3 : 0 ≤ f
      · by_cases h4 : f ≤ 64 - n
        · go_enter Try.func45, Try.ntmps45
          go_wp2
          go_ret
          refine ⟨ret_bool (by simp [h1, h2, h3, h4]), rfl⟩
        · have h4' : decide (f ≤ 64 - n) = false := by simp; omega
          go_enter Try.func45, Try.ntmps45
          go_wp2
          go_ret
          refine ⟨ret_bool (by first | (simp; done) | (simp; omega)), rfl⟩
      · go_enter Try.func45, Try.ntmps45
        go_wp2
        go_ret
        refine ⟨ret_bool (by first | (simp; done) | (simp; omega)), rfl⟩
    · go_enter Try.func45, Try.ntmps45
      go_wp2
      go_ret
      refine ⟨ret_bool (by first | (simp; done) | (simp; omega)), rfl⟩
  · go_enter Try.func45, Try.ntmps45
    go_wp2
    go_ret
    refine ⟨ret_bool (by first | (simp; done) | (simp; omega)), rfl⟩

theorem bits_yes (x f n : Nat) (w : World) (h1 : 1 ≤ n) (h2 : f + n ≤ 64) (h4 : x ≤ 18446744073709551615) :
    Calls Try.prog 40 #[.int .u64 x, .int .i64 f, .int .i64 n] w fun e w' => e = .returned (.int .u64 (bitsN x f n)) ∧ ∃ m, w' = w.drewN m := by
  have hb : areB f n = true := by simp [areB]; omega
  go_enter Try.func40, Try.ntmps40
  go_wp2_with (go_at_call 45; refine (areBits_any _ _ _).mono ?_; rintro e w' ⟨rfl, rfl⟩)
  go_quiet ((go_at_call 46; exact Calls.quiet_of_same (lowest_any n _ h1 (by omega))))
  go_wp2
  go_ret
  exact ⟨by rw [← bits_go x f n h2 h4]; rfl, _, rfl⟩
theorem bits_no (x : Int) (f n : Int) (w : World) (hb : areB f n = false) :
    Calls Try.prog 40 #[.int .u64 x, .int .i64 f, .int .i64 n] w fun e w' => e = .returned (.int .u64 0) ∧ w' = w := by
  go_enter Try.func40, Try.ntmps40
  go_wp2_with (go_at_call 45; refine (areBits_any _ _ _).mono ?_; rintro e w' ⟨rfl, rfl⟩)
  go_ret
  exact ⟨rfl, rfl⟩

theorem set_yes (x y : Nat) (f n : Nat) (w : World) (h1 : 1 ≤ n) (h2 : f + n ≤ 64) (h4 : x ≤ 18446744073709551615) (h5 : y ≤ 18446744073709551615) :
    Calls Try.prog 43 #[.int .u64 x, .int .i64 f, .int .i64 n, .int .u64 y] w fun e w' => e = .returned (.int .u64 (setN x f n y)) ∧ ∃ m, w' = w.drewN m := by
  have hb : areB f n = true := by simp [areB]; omega
  go_enter Try.func43, Try.ntmps43
  go_wp2_with (first | (go_at_call 45; refine (areBits_any _ _ _).mono ?_; rintro e w' ⟨rfl, rfl⟩) | (go_at_call 46; refine (lowest_any n _ h1 (by omega)).mono ?_; rintro e w' ⟨rfl, rfl⟩))
  go_quiet (fail)
  go_wp2
  go_ret
  exact ⟨by rw [← set_go x f n y h2 h4 h5]; rfl, _, rfl⟩
theorem set_no (x y f n : Int) (w : World) (hb : areB f n = false) :
    Calls Try.prog 43 #[.int .u64 x, .int .i64 f, .int .i64 n, .int .u64 y] w fun e w' => e = .returned (.int .u64 x) ∧ w' = w := by
  go_enter Try.func43, Try.ntmps43
  go_wp2_with (go_at_call 45; refine (areBits_any _ _ _).mono ?_; rintro e w' ⟨rfl, rfl⟩)
  go_ret
  exact ⟨rfl, rfl⟩

/-- one bit more -/
theorem u64_step {r z k o : Nat} (hk : k < 64) (hr : r < 2 ^ k) (ho : o = 2 ^ k) :
    IntKind.u64.wrap ((r : Int) + IntKind.u64.wrap ((z : Int) % 2 * (o : Int))) = ((r + z % 2 * 2 ^ k : Nat) : Int) := by
  subst ho
  have h1 : 2 ^ k * 2 ≤ 18446744073709551616 := by rw [← Nat.pow_succ]; exact two_pow_lt64 (by omega)
  have h2 : z % 2 * 2 ^ k ≤ 1 * 2 ^ k := Nat.mul_le_mul_right _ (by omega)
  have e : (z : Int) % 2 * ((2 ^ k : Nat) : Int) = ((z % 2 * 2 ^ k : Nat) : Int) := by rw [Int.natCast_mul]; rfl
  rw [e, IntKind.wrap_u64, IntKind.wrap_u64]
  omega
theorem u64_two {k o : Nat} (hk : k < 64) (ho : o = 2 ^ k) : ∃ q : Nat, IntKind.u64.wrap ((o : Int) * 2) = (q : Int) ∧ q ≤ 18446744073709551615 ∧ (k + 1 < 64 → q = 2 ^ (k + 1)) := by
  refine ⟨(2 ^ (k + 1)) % 18446744073709551616, by rw [IntKind.wrap_u64, ho, Nat.pow_succ]; omega, by omega, fun h => Nat.mod_eq_of_lt ?_⟩
  have : 2 ^ (k + 1) < 2 ^ 64 := Nat.pow_lt_pow_right (by omega) h
  simpa using this

theorem setN_mod_y (x f n y k : Nat) (h1 : f ≤ k) (h2 : k < f + n) : setN x f n y % 2 ^ (k + 1) = setN x f n y % 2 ^ k + y / 2 ^ (k - f) % 2 * 2 ^ k := by
  rw [mod_succ, bit_mod, bit_mod, setN_bit, if_pos ⟨h1, h2⟩]
theorem setN_mod_x (x f n y k : Nat) (h : ¬ (f ≤ k ∧ k < f + n)) : setN x f n y % 2 ^ (k + 1) = setN x f n y % 2 ^ k + x / 2 ^ k % 2 * 2 ^ k := by
  rw [mod_succ, bit_mod, bit_mod, setN_bit, if_neg h]
end Go.Proofs.Ytccdgpadjfjoeaa

namespace Go.Proofs.Ytccdgpadjfjoeaa
open Go.ChangeShapes Go.WideShapes Go.ChangeAt Go.RowKit
set_option linter.unusedVariables false
set_option linter.unusedSimpArgs false

theorem ret_pair {a b : Int} {c d : Bool} (h : a = b) (k : c = d) : Ending.returned (.tuple #[.int .u64 a, .bool c]) = .returned (.tuple #[.int .u64 b, .bool d]) := by rw [h, k]

theorem big_no (ad : Option Addr) (len cap : Nat) (a n : Int) (w : World) (hm : len ≤ maxLen) (hh : ¬ (1 ≤ n ∧ n ≤ 8 ∧ 0 ≤ a ∧ a ≤ len - n)) :
    Calls Try.prog 39 #[.slice ad len cap, .int .i64 a, .int .i64 n] w fun e w' => e = .returned (.tuple #[.int .u64 0, .bool false]) ∧ w' = w := by
  unfold maxLen at hm
  go_enter Try.func39, Try.ntmps39
  go_wp2_with (go_at_call 44; refine (holds_no _ _ _ _ (by omega) (by omega) hh).mono ?_; rintro e w' ⟨rfl, rfl⟩)
  go_ret2
  exact ⟨rfl, rfl⟩
theorem seg_big_step (l : List UInt8) (a k : Nat) (h : a + k < l.length) (hk : k < 8) : bigOf (seg l a (k + 1)) = bigOf (seg l a k) * 256 + l[a + k].toNat ∧ bigOf (seg l a k) * 256 + 255 < 18446744073709551616 := by
  refine ⟨by rw [seg_snoc l a k h, bigOf_snoc], ?_⟩
  have h1 := bigOf_lt (seg l a k)
  rw [seg_length l a k (by omega)] at h1
  have h2 := pow256 (k := k + 1) (by omega)
  rw [Nat.pow_succ] at h2
  omega
theorem big_yes (bk off len cap : Nat) (l : List UInt8) (a n : Nat) (w : World) (hn : 1 ≤ n) (hn8 : n ≤ 8) (hl : l.length = len) (hm : len ≤ maxLen) (ha : a + n ≤ len)
   (hc : ∀ i (h : i < l.length), w.cell? ⟨bk, off + i, none⟩ = some (.int .u8 (l[i].toNat : Int))) :
    Calls Try.prog 39 #[.slice (some ⟨bk, off, none⟩) len cap, .int .i64 a, .int .i64 n] w fun e w' => e = .returned (.tuple #[.int .u64 (bigOf (seg l a n)), .bool true]) ∧ w' = w := by
  unfold maxLen at hm
  go_enter Try.func39, Try.ntmps39
  go_wp2_with (go_at_call 44; refine (holds_yes _ _ _ _ (by omega) (by omega) (by omega) (by omega) (by omega)).mono ?_; rintro e w' ⟨rfl, rfl⟩)
  go_loop [8, 17] (fun x i => ∃ k : Nat, k ≤ n ∧ i = .int .i64 k ∧ ∃ z : Nat, Hid (z = bigOf (seg l a k)) ∧ z ≤ 18446744073709551615 ∧ x = .int .u64 z) (fun _ i => n - (intOf i).toNat)
  case atStart => exact ⟨0, Nat.zero_le _, rfl, 0, by simp [Hid, seg_zero, bigOf], by omega, rfl⟩
  case round =>
    obtain ⟨k, hk, rfl, z, hz, hz64, rfl⟩ := hrel
    by_cases hlt : k < n
    · have hcx := hc (a + k) (by omega)
      have hs := hide (seg_big_step l a k (by omega) (by omega))
      have hbb := l[a + k].toNat_lt
      generalize l[a + k].toNat = b at hcx hbb hs
      clear hc
      go_wp2
      go_round
      case rel =>
        obtain ⟨s1, s2⟩ := hs.out
        rw [← hz.out] at s1 s2
        refine ⟨k + 1, by omega, by go_num, z * 256 + b, s1.symm, by omega, ?_⟩
        rw [← or_low z b s2 (by omega)]
      case measure => simp [intOf]; omega
    · have hkn : Hid (k = n) := by unfold Hid; omega
      go_wp2
      go_ret2
      exact ⟨ret_pair (by rw [hz.out, hkn.out]) rfl, rfl⟩

theorem rbig_no (ad : Option Addr) (len cap : Nat) (a n : Int) (w : World) (hm : len ≤ maxLen) (hh : ¬ (1 ≤ n ∧ n ≤ 8 ∧ 0 ≤ a ∧ a ≤ len - n)) :
    Calls Try.prog 41 #[.slice ad len cap, .int .i64 a, .int .i64 n] w fun e w' => e = .returned (.tuple #[.int .u64 0, .bool false]) ∧ w' = w := by
  unfold maxLen at hm
  by_cases h1 : n < 1
  · clear hh; go_enter Try.func41, Try.ntmps41
    go_wp2
    go_ret2
    exact ⟨rfl, rfl⟩
  · by_cases h2 : 8 < n
    · clear hh; go_enter Try.func41, Try.ntmps41
      go_wp2
      go_ret2
      exact ⟨rfl, rfl⟩
    · by_cases h3 : a < 0
      · clear hh; go_enter Try.func41, Try.ntmps41
        go_wp2
        go_ret2
        exact ⟨rfl, rfl⟩
      · by_cases h4 : (len : Int) < n
        · clear hh; go_enter Try.func41, Try.ntmps41
          go_wp2
          go_ret2
          exact ⟨rfl, rfl⟩
        · have h5 : (len : Int) - n < a := by omega
          clear hh; go_enter Try.func41, Try.ntmps41
          go_wp2
          go_ret2
          exact ⟨rfl, rfl⟩
theorem rbig_yes (bk off len cap : Nat) (l : List UInt8) (a n : Nat) (w : World) (hn : 1 ≤ n) (hn8 : n ≤ 8) (hl : l.length = len) (hm : len ≤ maxLen) (ha : a + n ≤ len)
   (hc : ∀ i (h : i < l.length), w.cell? ⟨bk, off + i, none⟩ = some (.int .u8 (l[i].toNat : Int))) :
    Calls Try.prog 41 #[.slice (some ⟨bk, off, none⟩) len cap, .int .i64 a, .int .i64 n] w fun e w' => e = .returned (.tuple #[.int .u64 (bigOf (seg l a n)), .bool true]) ∧ w' = w := by
  unfold maxLen at hm
  have h5 : (a : Int) ≤ (len : Int) - n := by omega
  go_enter Try.func41, Try.ntmps41
  go_wp2
  go_loop [8, 9] (fun x i => ∃ k : Nat, k ≤ n ∧ i = .int .i64 k ∧ ∃ z : Nat, Hid (z = bigOf (seg l a k)) ∧ z ≤ 18446744073709551615 ∧ x = .int .u64 z) (fun _ i => n - (intOf i).toNat)
  case atStart => exact ⟨0, Nat.zero_le _, rfl, 0, by simp [Hid, seg_zero, bigOf], by omega, rfl⟩
  case round =>
    obtain ⟨k, hk, rfl, z, hz, hz64, rfl⟩ := hrel
    by_cases hlt : k < n
    · have hcx := hc (a + k) (by omega)
      have hs := seg_big_step l a k (by omega) (by omega)
      have hbb := l[a + k].toNat_lt
      rw [← hz.out] at hs
      generalize l[a + k].toNat = b at hcx hbb hs
      obtain ⟨s1, s2⟩ := hs
      have S1 := hide s1
      clear hc s1
      go_wp2
      go_round
      case rel => exact ⟨k + 1, by omega, by go_num, z * 256 + b, S1.out.symm, by omega, by go_num⟩
      case measure => simp [intOf]; omega
    · have hkn : Hid (k = n) := by unfold Hid; omega
      go_wp2
      go_ret2
      exact ⟨ret_pair (by rw [hz.out, hkn.out]) rfl, rfl⟩

theorem seg_little_up (l : List UInt8) (a k : Nat) (h : a + k < l.length) (hk : k < 8) : littleOf (seg l a (k + 1)) = littleOf (seg l a k) + l[a + k].toNat * 256 ^ k ∧ littleOf (seg l a k) < 256 ^ k := by
  have h1 := littleOf_lt (seg l a k)
  rw [seg_length l a k (by omega)] at h1
  exact ⟨by rw [seg_snoc l a k h, littleOf_snoc, seg_length l a k (by omega)], h1⟩
theorem seg_little_down (l : List UInt8) (a n j : Nat) (h : a + n ≤ l.length) (hn : n ≤ 8) (hj : j < n) : littleOf (seg l (a + j) (n - j)) = littleOf (seg l (a + (j + 1)) (n - (j + 1))) * 256 + (l[a + j]'(by omega)).toNat ∧ littleOf (seg l (a + j) (n - j)) < 18446744073709551616 := by
  refine ⟨?_, seg_little_lt _ _ _ (by omega)⟩
  obtain ⟨m, hm⟩ : ∃ m, n - j = m + 1 := ⟨n - j - 1, by omega⟩
  rw [hm, seg_cons l (a + j) m (by omega), littleOf_cons, show n - (j + 1) = m from by omega]
  rfl
end Go.Proofs.Ytccdgpadjfjoeaa

namespace Go.Proofs.Ytccdgpadjfjoeaa
open Go.ChangeShapes Go.WideShapes Go.ChangeAt Go.RowKit
set_option linter.unusedVariables false
set_option linter.unusedSimpArgs false

def putLe (x n : Nat) : List UInt8 := (List.range n).map fun i => UInt8.ofNat (x / 256 ^ i)
def putBe (x n : Nat) : List UInt8 := (putLe x n).reverse
theorem putLe_length (x n : Nat) : (putLe x n).length = n := by simp [putLe]
theorem putBe_length (x n : Nat) : (putBe x n).length = n := by simp [putBe, putLe]

/-- the first k bytes laid, zeros behind -/
def partLe (x n k : Nat) : List UInt8 := putLe x k ++ List.replicate (n - k) 0
theorem partLe_set (x n k : Nat) (h : k < n) : partLe x n (k + 1) = (partLe x n k).set k (UInt8.ofNat (x / 256 ^ k)) := by
  unfold partLe
  rw [List.set_append_right _ _ (by rw [putLe_length]; exact Nat.le_refl _), putLe_length, Nat.sub_self]
  obtain ⟨m, hm⟩ : ∃ m, n - k = m + 1 := ⟨n - k - 1, by omega⟩
  rw [hm, show n - (k + 1) = m from by omega, List.replicate_succ, List.set_cons_zero]
  simp [putLe, List.range_succ]
theorem shr_byte (x k : Nat) : (x : Int) / 2 ^ (8 * k) % 256 = ((UInt8.ofNat (x / 256 ^ k)).toNat : Int) := by
  rw [UInt8.toNat_ofNat']
  have e : ((x : Int) / 2 ^ (8 * k)) = ((x / 256 ^ k : Nat) : Int) := by
    rw [Int.natCast_ediv, Int.natCast_pow, Int.pow_mul]; rfl
  rw [e]; rfl
theorem mod_byte (z : Nat) : (z : Int) % 256 = ((UInt8.ofNat z).toNat : Int) := by
  rw [UInt8.toNat_ofNat']; rfl
theorem div_byte (x k : Nat) : x / 256 ^ k / 256 = x / 256 ^ (k + 1) := by rw [Nat.div_div_eq_div_mul, Nat.pow_succ]
/-- the last k bytes laid, zeros ahead -/
def partBe (x n k : Nat) : List UInt8 := (partLe x n k).reverse
theorem partLe_length (x n k : Nat) (h : k ≤ n) : (partLe x n k).length = n := by simp [partLe, putLe_length]; omega
theorem reverse_set' {α : Type} (l : List α) (k : Nat) (b : α) (h : k < l.length) : (l.set k b).reverse = l.reverse.set (l.length - 1 - k) b := by
  apply List.ext_getElem
  · simp
  · intro i h1 h2
    simp only [List.length_reverse, List.length_set] at h1 h2
    simp only [List.getElem_reverse, List.getElem_set, List.length_set]
    by_cases e : k = l.length - 1 - i
    · rw [if_pos e, if_pos (by omega)]
    · rw [if_neg e, if_neg (by omega)]
theorem partBe_set (x n k : Nat) (h : k < n) : partBe x n (k + 1) = (partBe x n k).set (n - 1 - k) (UInt8.ofNat (x / 256 ^ k)) := by
  unfold partBe
  rw [partLe_set x n k h, reverse_set' _ _ _ (by rw [partLe_length x n k (by omega)]; exact h), partLe_length x n k (by omega)]
theorem partBe_zero (x n : Nat) : partBe x n 0 = List.replicate n 0 := by simp [partBe, partLe, putLe]
theorem partLe_zero (x n : Nat) : partLe x n 0 = List.replicate n 0 := by simp [partLe, putLe]
theorem partBe_all (x n : Nat) : partBe x n n = putBe x n := by simp [partBe, partLe, putBe]
theorem partLe_all (x n : Nat) : partLe x n n = putLe x n := by simp [partLe]
theorem made_zero (n : Nat) : (madeCells #[Value.int .u8 0] n).toList = bv (List.replicate n 0) := by
  rw [bv_replicate]; exact toList_madeCells_one _ _

/-- one byte stored into a row of our own -/
theorem put_step {w w1 : World} {B g n k : Nat} {l : List UInt8} {b : UInt8} (hb : Below B w w1) (hBg : B ≤ g)
    (h : w1.ownsRow B 5 1 (.slice (some ⟨g, 0, none⟩) n n) n (bv l)) :
    (w1.setCell ⟨g, k, none⟩ (.int .u8 (b.toNat : Int))).ownsRow B 5 1 (.slice (some ⟨g, 0, none⟩) n n) n (bv (l.set k b)) ∧ Below B w (w1.setCell ⟨g, k, none⟩ (.int .u8 (b.toNat : Int))) := by
  refine ⟨?_, hb.setCell hBg _⟩
  rw [bv_set]
  exact (h.stored k _).1
theorem put_cell {w1 : World} {B g n k : Nat} {l : List UInt8} (hk : k < n)
    (h : w1.ownsRow B 5 1 (.slice (some ⟨g, 0, none⟩) n n) n (bv l)) : ∃ u : Value, w1.cell? ⟨g, k, none⟩ = some u := by
  rw [h.cellAt k (by omega)]
  have : k < (bv l).length := by rw [h.1]; omega
  exact ⟨(bv l)[k], by simp [this]⟩

theorem putBig_no (x n : Int) (w : World) (hn : isW n = false) :
    Calls Try.prog 42 #[.int .u64 x, .int .i64 n] w fun e w' => e = .returned (.slice none 0 0) ∧ w' = w := by
  go_enter Try.func42, Try.ntmps42
  go_wp2_with (go_at_call 47; refine (isWidth_any _ _).mono ?_; rintro e w' ⟨rfl, rfl⟩)
  go_ret
  exact ⟨rfl, rfl⟩
set_option maxHeartbeats 400000 in
theorem putBig_yes (x n : Nat) (w : World) (B : Nat) (hB : B ≤ w.heap.size) (hn1 : 1 ≤ n) (hn8 : n ≤ 8) (hx : x ≤ 18446744073709551615) :
    Calls Try.prog 42 #[.int .u64 x, .int .i64 n] w fun e w' => ∃ v, e = .returned v ∧ Below B w w' ∧ w'.ownsRow B 5 1 v n (bv (putBe x n)) := by
  have hw : isW n = true := by simp [isW]; omega
  obtain ⟨i0, hi, hz0, hz1, hz2⟩ := info_parts Try.info_u8
  have HZ := hide hz2
  clear hz2
  go_enter Try.func42, Try.ntmps42
  go_wp2_with (first
    | (go_at_call 47; refine (isWidth_any _ _).mono ?_; rintro e w' ⟨rfl, rfl⟩)
    | (at_make; refine wpList_make_full _ rfl _ _ 22 rfl B 5 i0 (.int .u8 0) 1 Try.underlying22 hi hz0 hz1 .i64 .i64 _ _ n rfl rfl rfl rfl ?c1 ?c2 ?c3 ?_))
  case c1 => rw [HZ.out]; omega
  case c2 => unfold maxLen; omega
  case c3 => exact hB
  rintro w1 hown hgrow
  have hb1 : Below B w' w1 := (Below.refl _ _).grown hgrow hB (fun k e => by cases e)
  rw [made_zero] at hown
  clear hgrow
  go_wp2
  go_loopw [13] (fun i wr => ∃ k : Nat, k ≤ n ∧ i = .int .i64 k ∧ wr.ownsRow B 5 1 (.slice (some ⟨w'.heap.size, 0, none⟩) n n) n (bv (partBe x n k)) ∧ Below B w' wr) (fun i _ => n - (intOf i).toNat)
  case atStart => exact ⟨0, Nat.zero_le _, rfl, by rw [partBe_zero]; exact hown, hb1⟩
  case round =>
    obtain ⟨k, hk, rfl, hownk, hbk⟩ := hrel
    by_cases hlt : k < n
    · obtain ⟨u, hcell⟩ := put_cell (k := (n - 1 - k)) (by omega) hownk
      have hfz := hownk.frozenAt (n - 1 - k)
      have hs := hide (put_step (k := (n - 1 - k)) (b := UInt8.ofNat (x / 256 ^ k)) hbk hB hownk)
      clear hownk hbk hown hb1
      go_wp2
      go_roundw
      case rel =>
        refine ⟨k + 1, by omega, by go_num, ?_⟩
        rw [partBe_set x n k hlt]
        simp only [shr_byte]
        exact hs.out
      case measure => simp [intOf] <;> omega
    · have hkn : Hid (k = n) := by unfold Hid; omega
      go_wp2
      go_ret
      refine ⟨_, rfl, hbk, ?_⟩
      have := hownk
      rw [hkn.out, partBe_all] at this
      exact this
end Go.Proofs.Ytccdgpadjfjoeaa

namespace Go.Proofs.Ytccdgpadjfjoeaa
open Go.ChangeShapes Go.WideShapes Go.ChangeAt Go.RowKit
set_option linter.unusedVariables false
set_option linter.unusedSimpArgs false

def isT (n : Int) : Bool := decide (0 ≤ n ∧ n ≤ 1024)
def textOf (l : List UInt8) (n : Nat) : List UInt8 := l.take n ++ List.replicate (n - l.length) 32
theorem textOf_length (l : List UInt8) (n : Nat) : (textOf l n).length = n := by simp [textOf]; omega

/-- the first k bytes laid -/
def partT (l : List UInt8) (n k : Nat) : List UInt8 := (textOf l n).take k ++ List.replicate (n - k) 0
theorem partT_set (l : List UInt8) (n k : Nat) (h : k < n) (hl : l.length ≤ k) : partT l n (k + 1) = (partT l n k).set k 32 := by
  unfold partT
  have h1 : ((textOf l n).take k).length = k := by rw [List.length_take, textOf_length]; omega
  rw [List.set_append_right _ _ (by omega), h1, Nat.sub_self]
  obtain ⟨m, hm⟩ : ∃ m, n - k = m + 1 := ⟨n - k - 1, by omega⟩
  rw [hm, show n - (k + 1) = m from by omega, List.replicate_succ, List.set_cons_zero]
  rw [List.take_succ_eq_append_getElem (by rw [textOf_length]; exact h)]
  simp [textOf, List.getElem_append, show min n l.length = l.length from by omega, show ¬ k < l.length from by omega]
theorem partT_start (l : List UInt8) (n : Nat) : l.take (Nat.min l.length n) ++ (List.replicate n (0 : UInt8)).drop (Nat.min l.length n) = partT l n (Nat.min l.length n) := by
  unfold partT textOf
  have h1 : Nat.min l.length n ≤ l.length := Nat.min_le_left _ _
  have h2 : Nat.min l.length n ≤ n := Nat.min_le_right _ _
  rw [List.take_append_of_le_length (by rw [List.length_take]; omega), List.take_take, List.drop_replicate]
  congr 2
  omega
theorem partT_all (l : List UInt8) (n : Nat) : partT l n n = textOf l n := by
  unfold partT
  rw [List.take_of_length_le (by rw [textOf_length]; exact Nat.le_refl _)]; simp

theorem textOf_snoc (l : List UInt8) (n k : Nat) (h : k < n) : (textOf l n).take (k + 1) = (textOf l n).take k ++ [if hk : k < l.length then l[k] else 32] := by
  rw [List.take_succ_eq_append_getElem (by rw [textOf_length]; exact h)]
  congr 2
  by_cases hk : k < l.length
  · simp [textOf, List.getElem_append, hk, show k < min n l.length from by omega]
  · simp [textOf, List.getElem_append, show min n l.length = l.length from by omega, hk]

end Go.Proofs.Ytccdgpadjfjoeaa

namespace Go.Proofs.Ytccdgpadjfjoeaa
open Go.ChangeShapes Go.WideShapes Go.ChangeAt Go.RowKit
set_option linter.unusedVariables false
set_option linter.unusedSimpArgs false

/-! The calls' answers, for all arguments. -/
def bigAt (l : List UInt8) (a n : Int) : Nat := if holdsB l.length a n then bigOf (seg l a.toNat n.toNat) else 0
def littleAt (l : List UInt8) (a n : Int) : Nat := if holdsB l.length a n then littleOf (seg l a.toNat n.toNat) else 0
def putBeI (x : Nat) (n : Int) : List UInt8 := if isW n then putBe x n.toNat else []
def putLeI (x : Nat) (n : Int) : List UInt8 := if isW n then putLe x n.toNat else []
def bitsI (x : Nat) (f n : Int) : Nat := if areB f n then bitsN x f.toNat n.toNat else 0
def setI (x : Nat) (f n : Int) (y : Nat) : Nat := if areB f n then setN x f.toNat n.toNat y else x
def textI (l : List UInt8) (n : Int) : List UInt8 := if isT n then textOf l n.toNat else []

theorem reads_c {k : Nat} {val : List UInt8 → Nat} (hno : ∀ (ad : Option Addr) (len cap : Nat) (a n : Int) (w : World) (hm : len ≤ maxLen) (hh : ¬ (1 ≤ n ∧ n ≤ 8 ∧ 0 ≤ a ∧ a ≤ len - n)), Calls Try.prog k #[.slice ad len cap, .int .i64 a, .int .i64 n] w fun e w' => e = .returned (.tuple #[.int .u64 0, .bool false]) ∧ w' = w)
    (hyes : ∀ (bk off len cap : Nat) (l : List UInt8) (a n : Nat) (w : World) (hn : 1 ≤ n) (hn8 : n ≤ 8) (hl : l.length = len) (hm : len ≤ maxLen) (ha : a + n ≤ len) (hc : ∀ i (h : i < l.length), w.cell? ⟨bk, off + i, none⟩ = some (.int .u8 (l[i].toNat : Int))),
      Calls Try.prog k #[.slice (some ⟨bk, off, none⟩) len cap, .int .i64 a, .int .i64 n] w fun e w' => e = .returned (.tuple #[.int .u64 (val (seg l a n)), .bool true]) ∧ w' = w)
    {v : Value} {l : List UInt8} (a n : Int) (w : World) (h : Bs w v l) :
    Calls Try.prog k #[v, .int .i64 a, .int .i64 n] w fun e w' => e = .returned (.tuple #[.int .u64 ((if holdsB l.length a n then val (seg l a.toNat n.toNat) else 0 : Nat) : Int), .bool (holdsB l.length a n)]) ∧ w' = w := by
  obtain ⟨hm, ad, cap, rfl, hcap, h⟩ := h
  by_cases hh : 1 ≤ n ∧ n ≤ 8 ∧ 0 ≤ a ∧ a ≤ (l.length : Int) - n
  · have hb : holdsB l.length a n = true := by simp [holdsB, hh]
    obtain ⟨a', rfl⟩ := Int.eq_ofNat_of_zero_le hh.2.2.1
    obtain ⟨n', rfl⟩ := Int.eq_ofNat_of_zero_le (show 0 ≤ n by omega)
    rcases h with rfl | ⟨b, off, rfl, hc⟩
    · simp at hh; omega
    · refine (hyes b off l.length cap l a' n' w (by omega) (by omega) rfl hm (by omega) hc).mono fun e w' he => ?_
      rw [hb]
      simpa using he
  · have hb : holdsB l.length a n = false := by simp only [holdsB]; exact decide_eq_false hh
    refine (hno ad l.length cap a n w hm hh).mono fun e w' he => ?_
    rw [hb]
    simpa using he
theorem big_c {v : Value} {l : List UInt8} (a n : Int) (w : World) (h : Bs w v l) :
    Calls Try.prog 39 #[v, .int .i64 a, .int .i64 n] w fun e w' => e = .returned (.tuple #[.int .u64 (bigAt l a n : Int), .bool (holdsB l.length a n)]) ∧ w' = w := reads_c big_no big_yes a n w h
theorem rbig_c {v : Value} {l : List UInt8} (a n : Int) (w : World) (h : Bs w v l) :
    Calls Try.prog 41 #[v, .int .i64 a, .int .i64 n] w fun e w' => e = .returned (.tuple #[.int .u64 (bigAt l a n : Int), .bool (holdsB l.length a n)]) ∧ w' = w := reads_c rbig_no rbig_yes a n w h
theorem puts_c {k : Nat} {val : Nat → Nat → List UInt8} (hlen : ∀ x n, (val x n).length = n) (hno : ∀ (x n : Int) (w : World) (hn : isW n = false), Calls Try.prog k #[.int .u64 x, .int .i64 n] w fun e w' => e = .returned (.slice none 0 0) ∧ w' = w)
    (hyes : ∀ (x n : Nat) (w : World) (B : Nat) (hB : B ≤ w.heap.size) (hn1 : 1 ≤ n) (hn8 : n ≤ 8) (hx : x ≤ 18446744073709551615), Calls Try.prog k #[.int .u64 x, .int .i64 n] w fun e w' => ∃ v, e = .returned v ∧ Below B w w' ∧ w'.ownsRow B 5 1 v n (bv (val x n)))
    (x : Nat) (n : Int) (w : World) (B : Nat) (hB : B ≤ w.heap.size) (hx : x ≤ 18446744073709551615) :
    Calls Try.prog k #[.int .u64 x, .int .i64 n] w fun e w' => ∃ v, e = .returned v ∧ Below B w w' ∧ w'.ownsRow B 5 1 v (if isW n then val x n.toNat else []).length (bv (if isW n then val x n.toNat else [])) := by
  by_cases h : isW n = true
  · have h' := h
    simp [isW] at h'
    obtain ⟨n', rfl⟩ := Int.eq_ofNat_of_zero_le (show 0 ≤ n by omega)
    refine (hyes x n' w B hB (by omega) (by omega) hx).mono fun e w' he => ?_
    rw [h]
    simpa [hlen] using he
  · have h' : isW n = false := by simpa using h
    refine (hno x n w h').mono fun e w' he => ?_
    obtain ⟨rfl, rfl⟩ := he
    rw [h']
    exact ⟨_, rfl, Below.refl _ _, World.ownsRow_nil _ _ _ _⟩
theorem putBig_c (x : Nat) (n : Int) (w : World) (B : Nat) (hB : B ≤ w.heap.size) (hx : x ≤ 18446744073709551615) :
    Calls Try.prog 42 #[.int .u64 x, .int .i64 n] w fun e w' => ∃ v, e = .returned v ∧ Below B w w' ∧ w'.ownsRow B 5 1 v (putBeI x n).length (bv (putBeI x n)) := puts_c putBe_length putBig_no putBig_yes x n w B hB hx
theorem texts_c {k : Nat} (hno : ∀ (s : ByteArray) (n : Int) (w : World) (hn : isT n = false), Calls Try.prog k #[.string s, .int .i64 n] w fun e w' => e = .returned (.slice none 0 0) ∧ w' = w)
    (hyes : ∀ (s : ByteArray) (n : Nat) (w : World) (B : Nat) (hB : B ≤ w.heap.size) (hn : n ≤ 1024) (hs : s.size ≤ maxLen), Calls Try.prog k #[.string s, .int .i64 n] w fun e w' => ∃ v, e = .returned v ∧ Below B w w' ∧ w'.ownsRow B 5 1 v n (bv (textOf s.data.toList n)))
    (s : ByteArray) (n : Int) (w : World) (B : Nat) (hB : B ≤ w.heap.size) (hs : s.size ≤ maxLen) :
    Calls Try.prog k #[.string s, .int .i64 n] w fun e w' => ∃ v, e = .returned v ∧ Below B w w' ∧ w'.ownsRow B 5 1 v (textI s.data.toList n).length (bv (textI s.data.toList n)) := by
  unfold textI
  by_cases h : isT n = true
  · have h' := h
    simp [isT] at h'
    obtain ⟨n', rfl⟩ := Int.eq_ofNat_of_zero_le (show 0 ≤ n by omega)
    refine (hyes s n' w B hB (by omega) hs).mono fun e w' he => ?_
    rw [h]
    simpa [textOf_length] using he
  · have h' : isT n = false := by simpa using h
    refine (hno s n w h').mono fun e w' he => ?_
    obtain ⟨rfl, rfl⟩ := he
    rw [h']
    exact ⟨_, rfl, Below.refl _ _, World.ownsRow_nil _ _ _ _⟩
theorem bits_c (x : Nat) (f n : Int) (w : World) (hx : x ≤ 18446744073709551615) :
    Calls Try.prog 40 #[.int .u64 x, .int .i64 f, .int .i64 n] w fun e w' => e = .returned (.int .u64 (bitsI x f n : Int)) ∧ ∃ m, w' = w.drewN m := by
  unfold bitsI
  by_cases h : areB f n = true
  · obtain ⟨a, b, rfl, rfl, h1, h2⟩ := areB_nat h
    refine (bits_yes x a b w h1 h2 hx).mono fun e w' he => ?_
    rw [h]; simpa using he
  · have h' : areB f n = false := by simpa using h
    refine (bits_no x f n w h').mono fun e w' he => ?_
    rw [h']; exact ⟨by simpa using he.1, 0, he.2⟩
theorem set_c (x : Nat) (f n : Int) (y : Nat) (w : World) (hx : x ≤ 18446744073709551615) (hy : y ≤ 18446744073709551615) :
    Calls Try.prog 43 #[.int .u64 x, .int .i64 f, .int .i64 n, .int .u64 y] w fun e w' => e = .returned (.int .u64 (setI x f n y : Int)) ∧ ∃ m, w' = w.drewN m := by
  unfold setI
  by_cases h : areB f n = true
  · obtain ⟨a, b, rfl, rfl, h1, h2⟩ := areB_nat h
    refine (set_yes x y a b w h1 h2 hx hy).mono fun e w' he => ?_
    rw [h]; simpa using he
  · have h' : areB f n = false := by simpa using h
    refine (set_no x y f n w h').mono fun e w' he => ?_
    rw [h']; exact ⟨by simpa using he.1, 0, he.2⟩
theorem bitsI_le (x : Nat) (f n : Int) : bitsI x f n ≤ 18446744073709551615 := by
  unfold bitsI
  by_cases h : areB f n = true
  · obtain ⟨a, b, rfl, rfl, h1, h2⟩ := areB_nat h
    rw [h]; simpa using bitsN_le64 x a b h2
  · simp [h]
theorem setI_le (x : Nat) (f n : Int) (y : Nat) (hx : x ≤ 18446744073709551615) : setI x f n y ≤ 18446744073709551615 := by
  unfold setI
  by_cases h : areB f n = true
  · obtain ⟨a, b, rfl, rfl, h1, h2⟩ := areB_nat h
    rw [h]; simpa using setN_le64 x a b y h2 hx
  · simpa [h] using hx
end Go.Proofs.Ytccdgpadjfjoeaa

namespace Go.Proofs.Ytccdgpadjfjoeaa
open Go.ChangeShapes Go.WideShapes Go.ChangeAt Go.RowKit
set_option linter.unusedVariables false
set_option linter.unusedSimpArgs false

def fiveL : List UInt8 := [9, 0, 0, 1, 2]
theorem Bs.five (w : World) (t : TypeId) : Bs (w.alloc (.cells #[.int .u8 9, .int .u8 0, .int .u8 0, .int .u8 1, .int .u8 2] t)) (.slice (some ⟨w.heap.size, 0, none⟩) 5 5) fiveL := by
  refine ⟨by simp [maxLen, fiveL], _, 5, rfl, by simp [fiveL], .inr ⟨w.heap.size, 0, rfl, fun j hj => ?_⟩⟩
  rw [cell_of_row _ w.heap.size (0 + j) _ t (0, 0) (heap_alloc_new w _)]
  match j, hj with
  | 0, _ => rfl
  | 1, _ => rfl
  | 2, _ => rfl
  | 3, _ => rfl
  | 4, _ => rfl

theorem big_five1 (w : World) (v : Value) (h : Bs w v fiveL) : Calls Try.prog 39 #[v, .int .i64 1, .int .i64 4] w fun e w' => e = .returned (.tuple #[.int .u64 258, .bool true]) ∧ w' = w := by
  have := big_c 1 4 w h
  rwa [show bigAt fiveL 1 4 = 258 from by decide +kernel, show holdsB fiveL.length 1 4 = true from by decide] at this
theorem big_five2 (w : World) (v : Value) (h : Bs w v fiveL) : Calls Try.prog 39 #[v, .int .i64 2, .int .i64 4] w fun e w' => e = .returned (.tuple #[.int .u64 0, .bool false]) ∧ w' = w := by
  have := big_c 2 4 w h
  rwa [show bigAt fiveL 2 4 = 0 from by decide +kernel, show holdsB fiveL.length 2 4 = false from by decide] at this
theorem bits_b6 (w : World) : Calls Try.prog 40 #[.int .u64 182, .int .i64 1, .int .i64 3] w fun e w' => e = .returned (.int .u64 3) ∧ ∃ m, w' = w.drewN m := by
  have := bits_c 182 1 3 w (by omega)
  rwa [show bitsI 182 1 3 = 3 from by decide +kernel] at this
theorem set_ff (w : World) : Calls Try.prog 43 #[.int .u64 255, .int .i64 4, .int .i64 4, .int .u64 5] w fun e w' => e = .returned (.int .u64 95) ∧ ∃ m, w' = w.drewN m := by
  have := set_c 255 4 4 5 w (by omega) (by omega)
  rwa [show setI 255 4 4 5 = 95 from by decide +kernel] at this
theorem putBig_258 (w : World) (B : Nat) (hB : B ≤ w.heap.size) : Calls Try.prog 42 #[.int .u64 258, .int .i64 4] w fun e w' => ∃ v, e = .returned v ∧ Below B w w' ∧ (convert 22 9 v).run Try.prog w' = .ok (.string ⟨#[0, 0, 1, 2]⟩) w' := by
  refine (putBig_c 258 4 w B hB (by omega)).mono fun e w' => ?_
  rintro ⟨v, he, hb, ho⟩
  rw [show putBeI 258 4 = [0, 0, 1, 2] from by decide +kernel] at ho
  exact ⟨v, he, hb, (Bs.of_owns ho).1.str⟩
end Go.Proofs.Ytccdgpadjfjoeaa

namespace Go.Proofs.Ytccdgpadjfjoeaa
open Go.ChangeShapes Go.WideShapes Go.ChangeAt Go.RowKit
set_option linter.unusedVariables false
set_option linter.unusedSimpArgs false

theorem bits_l (x : Nat) (f n : Int) (w : World) (hx : x ≤ 18446744073709551615) :
    Calls Try.prog 40 #[.int .u64 x, .int .i64 f, .int .i64 n] w fun e w' => e = .returned (.int .u64 (bitsI x f n : Int)) ∧ Later w w' :=
  (bits_c x f n w hx).mono fun e w' ⟨he, m, hm⟩ => ⟨he, by rw [hm]; exact (Later.refl w).drewN m⟩
theorem set_l (x : Nat) (f n : Int) (y : Nat) (w : World) (hx : x ≤ 18446744073709551615) (hy : y ≤ 18446744073709551615) :
    Calls Try.prog 43 #[.int .u64 x, .int .i64 f, .int .i64 n, .int .u64 y] w fun e w' => e = .returned (.int .u64 (setI x f n y : Int)) ∧ Later w w' :=
  (set_c x f n y w hx hy).mono fun e w' ⟨he, m, hm⟩ => ⟨he, by rw [hm]; exact (Later.refl w).drewN m⟩
theorem RArr.two {k : IntKind} {v : Value} (h : RArr k 2 v) : ∃ f n : Int, v = .agg #[.int k f, .int k n] ∧ (Lit.int k f).wf = true ∧ (Lit.int k n).wf = true := by
  obtain ⟨zs, hl, rfl, hw⟩ := h
  match zs, hl with
  | [f, n], _ => exact ⟨f, n, rfl, hw f (by simp), hw n (by simp)⟩
theorem RInt.u64 {v : Value} (h : RInt .u64 v) : ∃ x : Nat, v = .int .u64 (x : Int) ∧ x ≤ 18446744073709551615 := by
  obtain ⟨a, rfl, w⟩ := h
  have hx := bounds_u64 w
  obtain ⟨x, rfl⟩ := Int.eq_ofNat_of_zero_le hx.1
  exact ⟨x, rfl, by omega⟩
theorem cell_rg {w b : World} {a : Addr} {v : Value} (h : w.cell? a = some v) (hb : Later w b) : ∀ p : Regrown, (rg b p).cell? a = some v := fun p => by
  have : a.block < w.heap.size := World.block_lt_of_cell? w a h
  rw [Below.cell (Later.trans hb (later_rg b p)) this]; exact h
theorem cell_later {w b : World} {a : Addr} {v : Value} (h : w.cell? a = some v) (hb : Later w b) : b.cell? a = some v := by
  have : a.block < w.heap.size := World.block_lt_of_cell? w a h
  rw [Below.cell hb this]; exact h

end Go.Proofs.Ytccdgpadjfjoeaa

namespace Go.Proofs.Ytccdgpadjfjoeaa
open Go.ChangeShapes Go.WideShapes Go.ChangeAt Go.RowKit
set_option linter.unusedVariables false
set_option linter.unusedSimpArgs false

/-! Ops, and their classes. -/
def classI (op : Int) : Int := if op = 8 ∨ op = 40 ∨ op = 168 ∨ op = 136 then 1 else if op = 10 ∨ op = 42 ∨ op = 170 ∨ op = 138 then 2 else if op = 47 ∨ op = 175 ∨ op = 143 then 3 else if op = 53 ∨ op = 145 then 4 else 0
theorem class_cases (op : Int) : (op = 8 ∨ op = 40 ∨ op = 168 ∨ op = 136 ∨ op = 10 ∨ op = 42 ∨ op = 170 ∨ op = 138 ∨ op = 47 ∨ op = 175 ∨ op = 143 ∨ op = 53 ∨ op = 145) ∨ (op ≠ 8 ∧ op ≠ 40 ∧ op ≠ 168 ∧ op ≠ 136 ∧ op ≠ 10 ∧ op ≠ 42 ∧ op ≠ 170 ∧ op ≠ 138 ∧ op ≠ 47 ∧ op ≠ 175 ∧ op ≠ 143 ∧ op ≠ 53 ∧ op ≠ 145) := by omega
theorem class_other {op : Int} (h : op ≠ 8 ∧ op ≠ 40 ∧ op ≠ 168 ∧ op ≠ 136 ∧ op ≠ 10 ∧ op ≠ 42 ∧ op ≠ 170 ∧ op ≠ 138 ∧ op ≠ 47 ∧ op ≠ 175 ∧ op ≠ 143 ∧ op ≠ 53 ∧ op ≠ 145) : classI op = 0 := by
  unfold classI; simp [h]
set_option maxHeartbeats 1000000 in
theorem class_c (op : Int) (w : World) : Calls Try.prog 14 #[.int .i64 op] w fun e w' => e = .returned (.int .i64 (classI op)) ∧ w' = w := by
  rcases class_cases op with h | h
  · rcases h with rfl | rfl | rfl | rfl | rfl | rfl | rfl | rfl | rfl | rfl | rfl | rfl | rfl <;>
    · go_enter Try.func14, Try.ntmps14
      go_wp2
      go_ret
      exact ⟨rfl, rfl⟩
  · have hc := hide (class_other h)
    obtain ⟨h1, h2, h3, h4, h5, h6, h7, h8, h9, h10, h11, h12, h13⟩ := h
    go_enter Try.func14, Try.ntmps14
    go_wp2
    go_ret
    exact ⟨by rw [hc.out]; rfl, rfl⟩
set_option maxHeartbeats 1000000 in
theorem rclass_c (op : Int) (w : World) : Calls Try.prog 15 #[.int .i64 op] w fun e w' => e = .returned (.int .i64 (classI op)) ∧ w' = w := by
  rcases class_cases op with h | h
  · rcases h with rfl | rfl | rfl | rfl | rfl | rfl | rfl | rfl | rfl | rfl | rfl | rfl | rfl <;>
    · go_enter Try.func15, Try.ntmps15
      go_wp2
      go_ret
      exact ⟨rfl, rfl⟩
  · have hc := hide (class_other h)
    obtain ⟨h1, h2, h3, h4, h5, h6, h7, h8, h9, h10, h11, h12, h13⟩ := h
    go_enter Try.func15, Try.ntmps15
    go_wp2
    go_ret
    exact ⟨by rw [hc.out]; rfl, rfl⟩

/-! Where a number stands. -/
theorem u16_and_nat (a b : Nat) (ha : a < 65536) (hb : b < 65536) : bits .and .u16 (a : Int) (b : Int) = ((a &&& b : Nat) : Int) := by
  have hx : a &&& b < 2 ^ 16 := Nat.and_lt_two_pow _ (by omega)
  show IntKind.u16.wrap ((BitVec.ofInt 16 (a : Int) &&& BitVec.ofInt 16 (b : Int)).toNat : Int) = _
  have h1 : (BitVec.ofInt 16 (a : Int)).toNat = a := by simp [BitVec.toNat_ofInt]; omega
  have h2 : (BitVec.ofInt 16 (b : Int)).toNat = b := by simp [BitVec.toNat_ofInt]; omega
  rw [BitVec.toNat_and, h1, h2, IntKind.wrap_u16]
  omega
def someI (a b c : Int) : Int := bits .or .u16 (bits .or .u16 (IntKind.u16.wrap (IntKind.u16.wrap a)) (IntKind.u16.wrap (IntKind.u16.wrap b * 16))) (IntKind.u16.wrap (IntKind.u16.wrap c * 128))
theorem some_c (a b c : Int) (w : World) : Calls Try.prog 32 #[.int .i64 a, .int .i64 b, .int .i64 c] w fun e w' => e = .returned (.int .u16 (someI a b c)) ∧ w' = w := by
  go_enter Try.func32, Try.ntmps32
  go_wp2
  go_ret
  exact ⟨rfl, rfl⟩
theorem whole_c (a b : Int) (w : World) (ha : 0 ≤ a ∧ a ≤ 20) (hb : 0 ≤ b ∧ b ≤ 20) : Calls Try.prog 31 #[.int .i64 a, .int .i64 b] w fun e w' => e = .returned (.int .u16 (someI b 0 (8 * (b + 1 - a)))) ∧ w' = w := by
  go_enter Try.func31, Try.ntmps31
  go_wp2_with (go_at_call 32; refine (some_c _ _ _ _).mono ?_; rintro e w' ⟨rfl, rfl⟩)
  go_ret
  exact ⟨rfl, rfl⟩
theorem results_tmp4 {fn : Func} {t u v x : Tmp} (h : fn.results = #[.tmp t, .tmp u, .tmp v, .tmp x]) (tmps : Array Value) (P : Program) (w : World) :
    (results fn tmps).run P w = .ok (.tuple #[tmps.getD t undef, tmps.getD u undef, tmps.getD v undef, tmps.getD x undef]) w := by
  simp [results, h]
def pbit (p : Nat) : Nat := p / 16 % 8
def pcount (p : Nat) : Nat := p / 128
def pwidth (p : Nat) : Nat := (p / 16 % 8 + p / 128 + 7) / 8
def pfirst (p : Nat) : Int := (p % 16 : Nat) + 1 - (pwidth p : Int)
theorem parts_c (p : Nat) (w : World) (hp : p < 65536) : Calls Try.prog 38 #[.int .u16 p] w fun e w' => e = .returned (.tuple #[.int .i64 (pbit p : Nat), .int .i64 (pcount p : Nat), .int .i64 (pfirst p), .int .i64 (pwidth p : Nat)]) ∧ w' = w := by
  have e1 : (p : Int) / 16 = ((p / 16 : Nat) : Int) := by omega
  have e2 : (p : Int) / 128 = ((p / 128 : Nat) : Int) := by omega
  have h1 : bits .and .u16 ((p : Int) / 16) 7 = ((p / 16 % 8 : Nat) : Int) := by
    have := u16_and_nat (p / 16) 7 (by omega) (by omega)
    rw [show (7 : Nat) = 2 ^ 3 - 1 from rfl, Nat.and_two_pow_sub_one_eq_mod] at this
    rw [e1]
    simpa using this
  have h2 : bits .and .u16 (p : Int) 15 = ((p % 16 : Nat) : Int) := by
    have := u16_and_nat p 15 (by omega) (by omega)
    rw [show (15 : Nat) = 2 ^ 4 - 1 from rfl, Nat.and_two_pow_sub_one_eq_mod] at this
    simpa using this
  have h3 : p / 16 % 8 < 8 := by omega
  have h4 : p / 128 < 512 := by omega
  have h5 : p % 16 < 16 := by omega
  have h6 : (((p / 16 % 8 : Nat) : Int) + ((p / 128 : Nat) : Int) + 7) / 8 = ((pwidth p : Nat) : Int) := by unfold pwidth; omega
  have h7 : pwidth p < 80 := by unfold pwidth; omega
  clear e1
  unfold pbit pcount pfirst
  generalize p / 16 % 8 = a at *
  generalize p / 128 = c at *
  generalize p % 16 = b at *
  generalize pwidth p = d at *
  go_enter Try.func38, Try.ntmps38
  go_wp2
  exact bodyPost_ret (results_tmp4 rfl _ _ _) rfl ⟨by rw [← h6]; rfl, rfl⟩
def readP (p : Nat) (l : List UInt8) : Nat := bitsI (bigAt l (pfirst p) (pwidth p)) (pbit p) (pcount p)
theorem bigAt_le (l : List UInt8) (a n : Int) : bigAt l a n ≤ 18446744073709551615 := by
  unfold bigAt
  by_cases h : holdsB l.length a n = true
  · rw [h]; simp [holdsB] at h
    have := seg_big_lt l a.toNat n.toNat (by omega)
    simp; omega
  · simp [h]
theorem pread_c (p : Nat) {v : Value} {l : List UInt8} (w : World) (hp : p < 65536) (h : Bs w v l) : Calls Try.prog 35 #[.int .u16 p, v] w fun e w' => e = .returned (.int .u64 (readP p l : Nat)) ∧ Later w w' := by
  have hle := bigAt_le l (pfirst p) (pwidth p)
  go_enter Try.func35, Try.ntmps35
  go_wp2_with fail
  refine (parts_c p _ hp).mono ?_
  rintro e w' ⟨rfl, rfl⟩
  go_wp2_with fail
  refine (big_c _ _ _ h).mono ?_
  rintro e w' ⟨rfl, rfl⟩
  go_wp2_with fail
  refine (bits_l _ _ _ _ hle).mono ?_
  rintro e w' ⟨rfl, hl⟩
  go_wp2
  go_ret
  exact ⟨rfl, hl⟩
end Go.Proofs.Ytccdgpadjfjoeaa
