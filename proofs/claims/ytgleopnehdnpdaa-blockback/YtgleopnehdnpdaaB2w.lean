import Derived.Test.YtgleopnehdnpdaaB2
namespace Go.Proofs.Ytgleopnehdnpdaa
open Go.ChangeShapes Go.WideShapes Go.ChangeAt Go.RowKit
set_option linter.unusedVariables false
set_option linter.unusedSimpArgs false

theorem bwithin_w (c : Int) (at_ : Nat) (n : Int) (w : World) (hc1 : -9223372036854775808 ≤ c) (hc : c ≤ 9223372036854775807) (ha : at_ ≤ 18446744073709551615) (hn1 : -9223372036854775808 ≤ n) (hn : n ≤ 9223372036854775807) :
    Calls Try.prog 11 #[.int .i64 c, .int .u64 at_, .int .i64 n] w fun e w' => e = .returned (.bool (withinB c at_ n)) ∧ w' = w := by
  unfold withinB
  by_cases h1 : 0 ≤ n
  · have hd : decide (0 ≤ n) = true := by simpa using h1
    by_cases h2 : n ≤ c
    · have hd2 : decide (n ≤ c) = true := by simpa using h2
      go_enter Try.func11, Try.ntmps11
      go_wp2
      go_ret
      refine ⟨ret_bool ?_, rfl⟩
      simp [hd, hd2]
    · have hd2 : decide (n ≤ c) = false := by simpa using h2
      go_enter Try.func11, Try.ntmps11
      go_wp2
      go_ret
      refine ⟨ret_bool (by first | (simp; done) | (simp; omega)), rfl⟩
  · have hd : decide (0 ≤ n) = false := by simpa using h1
    go_enter Try.func11, Try.ntmps11
    go_wp2
    go_ret
    refine ⟨ret_bool (by first | (simp; done) | (simp; omega)), rfl⟩
theorem bwithin_c (c : Int) (at_ : Nat) (n : Int) (w : World) (hc1 : -9223372036854775808 ≤ c) (hc : c ≤ 9223372036854775807) (ha : at_ ≤ 18446744073709551615) (hn1 : -9223372036854775808 ≤ n) (hn : n ≤ 9223372036854775807) :
    Calls Try.prog 11 #[.int .i64 c, .int .u64 at_, .int .i64 n] w fun e w' => e = .returned (.bool (withinB c at_ n)) ∧ Later w w' :=
  (bwithin_w c at_ n w hc1 hc ha hn1 hn).mono fun e w' ⟨he, hw⟩ => ⟨he, by rw [hw]; exact Later.refl w⟩
end Go.Proofs.Ytgleopnehdnpdaa
