import Derived.Test.YtfkojecipbjdpaaRows
import Derived.WalkKit
import Derived.ProofKit
import Derived.OpenShut
import Derived.ShutString
import Derived.ChangeOld
import Derived.Below
import Derived.WalkLawsBesides
import Derived.WalkSpells
import Derived.Deep.QuietTactic
import Derived.BigQuiet
import Derived.Test.YtfkojecipbjdpaaNum
namespace Go.Proofs.Ytfkojecipbjdpaa
open Go.ChangeShapes Go.WideShapes Go.ChangeAt Go.RowKit
set_option linter.unusedVariables false
set_option linter.unusedSimpArgs false

theorem isWidth_any (a : Int) (w : World) :
    Calls Try.prog 25 #[.int .i64 a] w fun e w' => e = .returned (.bool (isW a)) ∧ w' = w := by
  unfold isW
  by_cases h1 : 1 ≤ a
  · by_cases h2 : a ≤ 8
    all_goals
      go_enter Try.func25, Try.ntmps25
      go_wp2
      go_ret
      refine ⟨ret_bool (by first | (simp; done) | (simp; omega)), rfl⟩
  · go_enter Try.func25, Try.ntmps25
    go_wp2
    go_ret
    refine ⟨ret_bool (by first | (simp; done) | (simp; omega)), rfl⟩

theorem holds_yes (c a n : Int) (w : World) (h1 : 1 ≤ n) (h2 : n ≤ 8) (h3 : 0 ≤ a) (h4 : a ≤ c - n) (h5 : c ≤ 9223372036854775807) :
    Calls Try.prog 24 #[.int .i64 c, .int .i64 a, .int .i64 n] w fun e w' => e = .returned (.bool true) ∧ w' = w := by
  go_enter Try.func24, Try.ntmps24
  go_wp2
  go_ret
  exact ⟨rfl, rfl⟩
theorem holds_no (c a n : Int) (w : World) (hc0 : 0 ≤ c) (h5 : c ≤ 9223372036854775807) (hh : ¬ (1 ≤ n ∧ n ≤ 8 ∧ 0 ≤ a ∧ a ≤ c - n)) :
    Calls Try.prog 24 #[.int .i64 c, .int .i64 a, .int .i64 n] w fun e w' => e = .returned (.bool false) ∧ w' = w := by
  by_cases h1 : 1 ≤ n
  · by_cases h2 : n ≤ 8
    · by_cases h3 : 0 ≤ a
      · have h4 : decide (a ≤ c - n) = false := by simp; omega
        clear hh
        go_enter Try.func24, Try.ntmps24
        go_wp2
        go_ret
        exact ⟨rfl, rfl⟩
      · clear hh
        go_enter Try.func24, Try.ntmps24
        go_wp2
        go_ret
        exact ⟨rfl, rfl⟩
    · clear hh
      go_enter Try.func24, Try.ntmps24
      go_wp2
      go_ret
      exact ⟨rfl, rfl⟩
  · clear hh
    go_enter Try.func24, Try.ntmps24
    go_wp2
    go_ret
    exact ⟨rfl, rfl⟩

theorem lowest_any (n : Nat) (w : World) (h1 : 1 ≤ n) (h2 : n ≤ 64) :
    Calls Try.prog 27 #[.int .i64 n] w fun e w' => e = .returned (.int .u64 (18446744073709551615 / 2 ^ (64 - n))) ∧ w' = w := by
  go_enter Try.func27, Try.ntmps27
  go_wp2
  go_ret
  exact ⟨rfl, rfl⟩

theorem areBits_any (f n : Int) (w : World) :
    Calls Try.prog 26 #[.int .i64 f, .int .i64 n] w fun e w' => e = .returned (.bool (areB f n)) ∧ w' = w := by
  unfold areB
  by_cases h1 : 1 ≤ n
  · by_cases h2 : n ≤ 64
    · by_cases h3 : 0 ≤ f
      · by_cases h4 : f ≤ 64 - n
        · go_enter Try.func26, Try.ntmps26
          go_wp2
          go_ret
          refine ⟨ret_bool (by simp [h1, h2, h3, h4]), rfl⟩
        · have h4' : decide (f ≤ 64 - n) = false := by simp; omega
          go_enter Try.func26, Try.ntmps26
          go_wp2
          go_ret
          refine ⟨ret_bool (by first | (simp; done) | (simp; omega)), rfl⟩
      · go_enter Try.func26, Try.ntmps26
        go_wp2
        go_ret
        refine ⟨ret_bool (by first | (simp; done) | (simp; omega)), rfl⟩
    · go_enter Try.func26, Try.ntmps26
      go_wp2
      go_ret
      refine ⟨ret_bool (by first | (simp; done) | (simp; omega)), rfl⟩
  · go_enter Try.func26, Try.ntmps26
    go_wp2
    go_ret
    refine ⟨ret_bool (by first | (simp; done) | (simp; omega)), rfl⟩

theorem bits_yes (x f n : Nat) (w : World) (h1 : 1 ≤ n) (h2 : f + n ≤ 64) (h4 : x ≤ 18446744073709551615) :
    Calls Try.prog 18 #[.int .u64 x, .int .i64 f, .int .i64 n] w fun e w' => e = .returned (.int .u64 (bitsN x f n)) ∧ ∃ m, w' = w.drewN m := by
  have hb : areB f n = true := by simp [areB]; omega
  go_enter Try.func18, Try.ntmps18
  go_wp2_with (go_at_call 26; refine (areBits_any _ _ _).mono ?_; rintro e w' ⟨rfl, rfl⟩)
  go_quiet ((go_at_call 27; exact Calls.quiet_of_same (lowest_any n _ h1 (by omega))))
  go_wp2
  go_ret
  exact ⟨by rw [← bits_go x f n h2 h4]; rfl, _, rfl⟩
theorem bits_no (x : Int) (f n : Int) (w : World) (hb : areB f n = false) :
    Calls Try.prog 18 #[.int .u64 x, .int .i64 f, .int .i64 n] w fun e w' => e = .returned (.int .u64 0) ∧ w' = w := by
  go_enter Try.func18, Try.ntmps18
  go_wp2_with (go_at_call 26; refine (areBits_any _ _ _).mono ?_; rintro e w' ⟨rfl, rfl⟩)
  go_ret
  exact ⟨rfl, rfl⟩

theorem set_yes (x y : Nat) (f n : Nat) (w : World) (h1 : 1 ≤ n) (h2 : f + n ≤ 64) (h4 : x ≤ 18446744073709551615) (h5 : y ≤ 18446744073709551615) :
    Calls Try.prog 20 #[.int .u64 x, .int .i64 f, .int .i64 n, .int .u64 y] w fun e w' => e = .returned (.int .u64 (setN x f n y)) ∧ ∃ m, w' = w.drewN m := by
  have hb : areB f n = true := by simp [areB]; omega
  go_enter Try.func20, Try.ntmps20
  go_wp2_with (first | (go_at_call 26; refine (areBits_any _ _ _).mono ?_; rintro e w' ⟨rfl, rfl⟩) | (go_at_call 27; refine (lowest_any n _ h1 (by omega)).mono ?_; rintro e w' ⟨rfl, rfl⟩))
  go_quiet (fail)
  go_wp2
  go_ret
  exact ⟨by rw [← set_go x f n y h2 h4 h5]; rfl, _, rfl⟩
theorem set_no (x y f n : Int) (w : World) (hb : areB f n = false) :
    Calls Try.prog 20 #[.int .u64 x, .int .i64 f, .int .i64 n, .int .u64 y] w fun e w' => e = .returned (.int .u64 x) ∧ w' = w := by
  go_enter Try.func20, Try.ntmps20
  go_wp2_with (go_at_call 26; refine (areBits_any _ _ _).mono ?_; rintro e w' ⟨rfl, rfl⟩)
  go_ret
  exact ⟨rfl, rfl⟩

theorem right_any (f n : Int) (w : World) :
    Calls Try.prog 28 #[.int .i64 f, .int .i64 n] w fun e w' => e = .returned (.bool (areB f n)) ∧ w' = w := by
  unfold areB
  by_cases h3 : 0 ≤ f
  · by_cases h1 : 1 ≤ n
    · by_cases h2 : n ≤ 64
      · by_cases h4 : f ≤ 64 - n
        · go_enter Try.func28, Try.ntmps28
          go_wp2
          go_ret
          refine ⟨ret_bool (by simp [h1, h2, h3, h4]), rfl⟩
        · have h4' : decide (f ≤ 64 - n) = false := by simp; omega
          go_enter Try.func28, Try.ntmps28
          go_wp2
          go_ret
          refine ⟨ret_bool (by first | (simp; done) | (simp; omega)), rfl⟩
      · go_enter Try.func28, Try.ntmps28
        go_wp2
        go_ret
        refine ⟨ret_bool (by first | (simp; done) | (simp; omega)), rfl⟩
    · go_enter Try.func28, Try.ntmps28
      go_wp2
      go_ret
      refine ⟨ret_bool (by first | (simp; done) | (simp; omega)), rfl⟩
  · go_enter Try.func28, Try.ntmps28
    go_wp2
    go_ret
    refine ⟨ret_bool (by first | (simp; done) | (simp; omega)), rfl⟩

theorem rbits_no (x : Int) (f n : Int) (w : World) (hb : areB f n = false) :
    Calls Try.prog 19 #[.int .u64 x, .int .i64 f, .int .i64 n] w fun e w' => e = .returned (.int .u64 0) ∧ w' = w := by
  go_enter Try.func19, Try.ntmps19
  go_wp2_with (go_at_call 28; refine (right_any _ _ _).mono ?_; rintro e w' ⟨rfl, rfl⟩)
  go_ret
  exact ⟨rfl, rfl⟩

/-- one bit more -/
theorem u64_step {r z k o : Nat} (hk : k < 64) (hr : r < 2 ^ k) (ho : o = 2 ^ k) :
    IntKind.u64.wrap ((r : Int) + IntKind.u64.wrap ((z : Int) % 2 * (o : Int))) = ((r + z % 2 * 2 ^ k : Nat) : Int) := by
  subst ho
  have h1 : 2 ^ k * 2 ≤ 18446744073709551616 := by rw [← Nat.pow_succ]; exact two_pow_lt64 (by omega)
  have h2 : z % 2 * 2 ^ k ≤ 1 * 2 ^ k := Nat.mul_le_mul_right _ (by omega)
  have e : (z : Int) % 2 * ((2 ^ k : Nat) : Int) = ((z % 2 * 2 ^ k : Nat) : Int) := by rw [Int.natCast_mul]; rfl
  rw [e, IntKind.wrap_u64, IntKind.wrap_u64]
  omega
theorem u64_two {k o : Nat} (hk : k < 64) (ho : o = 2 ^ k) : ∃ q : Nat, IntKind.u64.wrap ((o : Int) * 2) = (q : Int) ∧ q ≤ 18446744073709551615 ∧ (k + 1 < 64 → q = 2 ^ (k + 1)) := by
  refine ⟨(2 ^ (k + 1)) % 18446744073709551616, by rw [IntKind.wrap_u64, ho, Nat.pow_succ]; omega, by omega, fun h => Nat.mod_eq_of_lt ?_⟩
  have : 2 ^ (k + 1) < 2 ^ 64 := Nat.pow_lt_pow_right (by omega) h
  simpa using this

theorem rbits_yes (x f n : Nat) (w : World) (h1 : 1 ≤ n) (h2 : f + n ≤ 64) (hx : x ≤ 18446744073709551615) :
    Calls Try.prog 19 #[.int .u64 x, .int .i64 f, .int .i64 n] w fun e w' => e = .returned (.int .u64 (bitsN x f n)) ∧ w' = w := by
  have hb : areB f n = true := by simp [areB]; omega
  go_enter Try.func19, Try.ntmps19
  go_wp2_with (go_at_call 28; refine (right_any _ _ _).mono ?_; rintro e w' ⟨rfl, rfl⟩)
  go_loop [0, 7] (fun t i => ∃ k : Nat, k ≤ f ∧ i = .int .i64 k ∧ ∃ z : Nat, Hid (z = x / 2 ^ k) ∧ z ≤ 18446744073709551615 ∧ t = .int .u64 z) (fun _ i => f - (intOf i).toNat)
  case atStart => exact ⟨0, Nat.zero_le _, rfl, x, by simp [Hid], hx, rfl⟩
  case round =>
    obtain ⟨k, hk, rfl, z, hz, hz64, rfl⟩ := hrel
    by_cases hlt : k < f
    · go_wp2
      go_round
      case rel => exact ⟨k + 1, by omega, by go_num, z / 2, by unfold Hid; rw [hz.out, div_succ], by omega, by go_num⟩
      case measure => simp [intOf]; omega
    · have hkf : k = f := by omega
      have hz' : Hid (z = x / 2 ^ f) := by unfold Hid; rw [hz.out, hkf]
      clear hz hkf
      go_wp2
      go_loop [0, 8, 9, 10] (fun t o p i => ∃ k : Nat, k ≤ n ∧ i = .int .i64 k ∧ ∃ y r q : Nat, Hid (y = z / 2 ^ k) ∧ y ≤ 18446744073709551615 ∧ t = .int .u64 y ∧ Hid (r = z % 2 ^ k) ∧ r ≤ 18446744073709551615 ∧ o = .int .u64 r ∧ Hid (k < 64 → q = 2 ^ k) ∧ q ≤ 18446744073709551615 ∧ p = .int .u64 q) (fun _ _ _ i => n - (intOf i).toNat)
      case atStart => exact ⟨0, Nat.zero_le _, rfl, z, 0, 1, by simp [Hid], hz64, rfl, by simp [Hid, Nat.mod_one], by omega, rfl, by simp [Hid], by omega, rfl⟩
      case round =>
        obtain ⟨k, hk, rfl, y, r, q, hy, hy64, rfl, hr, hr64, rfl, hq, hq64, rfl⟩ := hrel
        by_cases hlt : k < n
        · go_wp2
          go_round
          case rel =>
            have hqq := hq.out (by omega)
            have hrl : r < 2 ^ k := by rw [hr.out]; exact Nat.mod_lt _ (Nat.two_pow_pos _)
            obtain ⟨q', e', hq', hq2⟩ := u64_two (show k < 64 by omega) hqq
            have e := u64_step (z := y) (show k < 64 by omega) hrl hqq
            have hm := mod_succ z k
            rw [← hr.out, ← hy.out] at hm
            have hb2 : r + y % 2 * 2 ^ k < 18446744073709551616 := by
              rw [← hm]; exact Nat.lt_of_lt_of_le (Nat.mod_lt _ (Nat.two_pow_pos _)) (two_pow_lt64 (by omega))
            refine ⟨k + 1, by omega, by go_num, y / 2, r + y % 2 * 2 ^ k, q', by unfold Hid; rw [hy.out, div_succ], by omega, by go_num, hm.symm, by omega, ?_, hq2, hq', ?_⟩
            · rw [← e]
            · rw [← e']
          case measure => simp [intOf]; omega
        · go_wp2
          go_ret
          have hkn : k = n := by omega
          exact ⟨ret_int (by rw [hr.out, hkn, hz'.out]; rfl), rfl⟩

theorem rset_no (x y f n : Int) (w : World) (hb : areB f n = false) :
    Calls Try.prog 21 #[.int .u64 x, .int .i64 f, .int .i64 n, .int .u64 y] w fun e w' => e = .returned (.int .u64 x) ∧ w' = w := by
  go_enter Try.func21, Try.ntmps21
  go_wp2_with (go_at_call 28; refine (right_any _ _ _).mono ?_; rintro e w' ⟨rfl, rfl⟩)
  go_ret
  exact ⟨rfl, rfl⟩
theorem setN_mod_y (x f n y k : Nat) (h1 : f ≤ k) (h2 : k < f + n) : setN x f n y % 2 ^ (k + 1) = setN x f n y % 2 ^ k + y / 2 ^ (k - f) % 2 * 2 ^ k := by
  rw [mod_succ, bit_mod, bit_mod, setN_bit, if_pos ⟨h1, h2⟩]
theorem setN_mod_x (x f n y k : Nat) (h : ¬ (f ≤ k ∧ k < f + n)) : setN x f n y % 2 ^ (k + 1) = setN x f n y % 2 ^ k + x / 2 ^ k % 2 * 2 ^ k := by
  rw [mod_succ, bit_mod, bit_mod, setN_bit, if_neg h]
theorem rset_yes (x y f n : Nat) (w : World) (h1 : 1 ≤ n) (h2 : f + n ≤ 64) (hx : x ≤ 18446744073709551615) (hy : y ≤ 18446744073709551615) :
    Calls Try.prog 21 #[.int .u64 x, .int .i64 f, .int .i64 n, .int .u64 y] w fun e w' => e = .returned (.int .u64 (setN x f n y)) ∧ w' = w := by
  have hb : areB f n = true := by simp [areB]; omega
  go_enter Try.func21, Try.ntmps21
  go_wp2_with (go_at_call 28; refine (right_any _ _ _).mono ?_; rintro e w' ⟨rfl, rfl⟩)
  go_loop [0, 3, 9, 10, 11] (fun t s o p i => ∃ k : Nat, k ≤ 64 ∧ i = .int .i64 k ∧ ∃ a c r q : Nat, Hid (a = x / 2 ^ k) ∧ a ≤ 18446744073709551615 ∧ t = .int .u64 a ∧ Hid (k < f + n → c = y / 2 ^ (k - f)) ∧ c ≤ 18446744073709551615 ∧ s = .int .u64 c ∧ Hid (r = setN x f n y % 2 ^ k) ∧ r ≤ 18446744073709551615 ∧ o = .int .u64 r ∧ Hid (k < 64 → q = 2 ^ k) ∧ q ≤ 18446744073709551615 ∧ p = .int .u64 q) (fun _ _ _ _ i => 64 - (intOf i).toNat)
  case atStart => exact ⟨0, Nat.zero_le _, rfl, x, y, 0, 1, by simp [Hid], hx, rfl, by simp [Hid], hy, rfl, by simp [Hid, Nat.mod_one], by omega, rfl, by simp [Hid], by omega, rfl⟩
  case round =>
    obtain ⟨k, hk, rfl, a, c, r, q, ha, ha64, rfl, hc, hc64, rfl, hr, hr64, rfl, hq, hq64, rfl⟩ := hrel
    by_cases hlt : k < 64
    · have hqq : Hid (q = 2 ^ k) := hq.out hlt
      have hrl : Hid (r < 2 ^ k) := by unfold Hid; rw [hr.out]; exact Nat.mod_lt _ (Nat.two_pow_pos _)
      obtain ⟨q', e', hq', hq2⟩ := u64_two hlt hqq.out
      have E' := hide e'
      have Hq2 := hide hq2
      clear e' hq2 hq
      by_cases hin : f ≤ k ∧ k < f + n
      · obtain ⟨hfk, hkn⟩ := hin
        go_wp2
        go_round
        case rel =>
          have e := u64_step (z := c) hlt hrl.out hqq.out
          have hm := setN_mod_y x f n y k hfk hkn
          rw [← hr.out, ← hc.out hkn] at hm
          have hb2 : r + c % 2 * 2 ^ k < 18446744073709551616 := by
            rw [← hm]; exact Nat.lt_of_lt_of_le (Nat.mod_lt _ (Nat.two_pow_pos _)) (two_pow_lt64 (by omega))
          refine ⟨k + 1, by omega, by go_num, a / 2, c / 2, r + c % 2 * 2 ^ k, q', by unfold Hid; rw [ha.out, div_succ], by omega, by go_num, ?_, by omega, by go_num, hm.symm, by omega, ?_, unhide Hq2, hq', ?_⟩
          · intro hh; rw [hc.out hkn, div_succ]; congr 2; omega
          · rw [← e]
          · rw [← unhide E']
        case measure => simp [intOf]; omega
      · have hgo : f ≤ k → ¬ k < f + n := fun a b => hin ⟨a, b⟩
        by_cases hfk : f ≤ k
        · have hkn := hgo hfk
          have hd : decide ((k : Int) < (f : Int) + (n : Int)) = false := by simp; omega
          go_wp2
          go_round
          case rel =>
            have e := u64_step (z := a) hlt hrl.out hqq.out
            have hm := setN_mod_x x f n y k hin
            rw [← hr.out, ← ha.out] at hm
            have hb2 : r + a % 2 * 2 ^ k < 18446744073709551616 := by
              rw [← hm]; exact Nat.lt_of_lt_of_le (Nat.mod_lt _ (Nat.two_pow_pos _)) (two_pow_lt64 (by omega))
            refine ⟨k + 1, by omega, by go_num, a / 2, c, r + a % 2 * 2 ^ k, q', by unfold Hid; rw [ha.out, div_succ], by omega, by go_num, ?_, by omega, by go_num, hm.symm, by omega, ?_, unhide Hq2, hq', ?_⟩
            · intro hh; omega
            · rw [← e]
            · rw [← unhide E']
          case measure => simp [intOf]; omega
        · go_wp2
          go_round
          case rel =>
            have e := u64_step (z := a) hlt hrl.out hqq.out
            have hm := setN_mod_x x f n y k hin
            rw [← hr.out, ← ha.out] at hm
            have hb2 : r + a % 2 * 2 ^ k < 18446744073709551616 := by
              rw [← hm]; exact Nat.lt_of_lt_of_le (Nat.mod_lt _ (Nat.two_pow_pos _)) (two_pow_lt64 (by omega))
            refine ⟨k + 1, by omega, by go_num, a / 2, c, r + a % 2 * 2 ^ k, q', by unfold Hid; rw [ha.out, div_succ], by omega, by go_num, ?_, by omega, by go_num, hm.symm, by omega, ?_, unhide Hq2, hq', ?_⟩
            · intro hh; rw [hc.out (by omega)]; congr 2; omega
            · rw [← e]
            · rw [← unhide E']
          case measure => simp [intOf]; omega
    · have hk64 : Hid (k = 64) := by unfold Hid; omega
      have hs := setN_le64 x f n y h2 hx
      go_wp2
      go_ret
      exact ⟨ret_int (by rw [hr.out, hk64.out, Nat.mod_eq_of_lt (by omega)]), rfl⟩
end Go.Proofs.Ytfkojecipbjdpaa
