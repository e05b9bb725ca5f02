import Derived.Test.YtccdgpadjfjoeaaWR6r
namespace Go.Proofs.Ytccdgpadjfjoeaa
open Go.ChangeShapes Go.WideShapes Go.ChangeAt Go.RowKit
set_option linter.unusedVariables false
set_option linter.unusedSimpArgs false

theorem rbytes_in (op : Int) (hk : knownB op = true) (a n2 n3 n4 : Nat) (ha : a ≤ 18446744073709551615) (h2 : n2 ≤ 9223372036854775807) (h3 : n3 ≤ 255) (h4 : n4 ≤ 3) : IRB (op, a, (n2 : Int), (n3 : Int), (n4 : Int)) (layS op a n2 n3 n4) := by
  rcases known_cases op with h | h
  · rcases h with rfl | rfl | rfl | rfl | rfl | rfl | rfl | rfl | rfl | rfl | rfl | rfl | rfl | rfl | rfl | rfl | rfl | rfl | rfl | rfl | rfl | rfl | rfl | rfl | rfl
    · exact rbytes_0x a n2 n3 n4 ha h2 h3 h4 trivial _ rfl
    · exact rbytes_3x a n2 n3 n4 ha h2 h3 h4 trivial _ rfl
    · exact rbytes_8x a n2 n3 n4 ha h2 h3 h4 trivial _ rfl
    · exact rbytes_10x a n2 n3 n4 ha h2 h3 h4 trivial _ rfl
    · exact rbytes_18x a n2 n3 n4 ha h2 h3 h4 trivial _ rfl
    · exact rbytes_21x a n2 n3 n4 ha h2 h3 h4 trivial _ rfl
    · exact rbytes_26x a n2 n3 n4 ha h2 h3 h4 trivial _ rfl
    · exact rbytes_27x a n2 n3 n4 ha h2 h3 h4 trivial _ rfl
    · exact rbytes_30x a n2 n3 n4 ha h2 h3 h4 trivial _ rfl
    · exact rbytes_37x a n2 n3 n4 ha h2 h3 h4 trivial _ rfl
    · by_cases hb : n4 = 1
      · exact rbytes_40y a n2 n3 n4 ha h2 h3 h4 (by simp [hb]) _ (by subst hb; rfl)
      · exact rbytes_40x a n2 n3 n4 ha h2 h3 h4 (by rw [beq_eq_false_iff_ne]; omega) _ (by simp [layS, hb])
    · by_cases hb : n4 = 1
      · exact rbytes_42y a n2 n3 n4 ha h2 h3 h4 (by simp [hb]) _ (by subst hb; rfl)
      · exact rbytes_42x a n2 n3 n4 ha h2 h3 h4 (by rw [beq_eq_false_iff_ne]; omega) _ (by simp [layS, hb])
    · by_cases hb : n4 = 1
      · exact rbytes_47y a n2 n3 n4 ha h2 h3 h4 (by simp [hb]) _ (by subst hb; rfl)
      · exact rbytes_47x a n2 n3 n4 ha h2 h3 h4 (by rw [beq_eq_false_iff_ne]; omega) _ (by simp [layS, hb])
    · exact rbytes_53x a n2 n3 n4 ha h2 h3 h4 trivial _ rfl
    · exact rbytes_85x a n2 n3 n4 ha h2 h3 h4 trivial _ rfl
    · exact rbytes_90x a n2 n3 n4 ha h2 h3 h4 trivial _ rfl
    · by_cases hb : n4 = 1
      · exact rbytes_136y a n2 n3 n4 ha h2 h3 h4 (by simp [hb]) _ (by subst hb; rfl)
      · exact rbytes_136x a n2 n3 n4 ha h2 h3 h4 (by rw [beq_eq_false_iff_ne]; omega) _ (by simp [layS, hb])
    · by_cases hb : n4 = 1
      · exact rbytes_138y a n2 n3 n4 ha h2 h3 h4 (by simp [hb]) _ (by subst hb; rfl)
      · exact rbytes_138x a n2 n3 n4 ha h2 h3 h4 (by rw [beq_eq_false_iff_ne]; omega) _ (by simp [layS, hb])
    · by_cases hb : n4 = 1
      · exact rbytes_143y a n2 n3 n4 ha h2 h3 h4 (by simp [hb]) _ (by subst hb; rfl)
      · exact rbytes_143x a n2 n3 n4 ha h2 h3 h4 (by rw [beq_eq_false_iff_ne]; omega) _ (by simp [layS, hb])
    · exact rbytes_145x a n2 n3 n4 ha h2 h3 h4 trivial _ rfl
    · exact rbytes_158x a n2 n3 n4 ha h2 h3 h4 trivial _ rfl
    · exact rbytes_160x a n2 n3 n4 ha h2 h3 h4 trivial _ rfl
    · by_cases hb : n4 = 1
      · exact rbytes_168y a n2 n3 n4 ha h2 h3 h4 (by simp [hb]) _ (by subst hb; rfl)
      · exact rbytes_168x a n2 n3 n4 ha h2 h3 h4 (by rw [beq_eq_false_iff_ne]; omega) _ (by simp [layS, hb])
    · by_cases hb : n4 = 1
      · exact rbytes_170y a n2 n3 n4 ha h2 h3 h4 (by simp [hb]) _ (by subst hb; rfl)
      · exact rbytes_170x a n2 n3 n4 ha h2 h3 h4 (by rw [beq_eq_false_iff_ne]; omega) _ (by simp [layS, hb])
    · by_cases hb : n4 = 1
      · exact rbytes_175y a n2 n3 n4 ha h2 h3 h4 (by simp [hb]) _ (by subst hb; rfl)
      · exact rbytes_175x a n2 n3 n4 ha h2 h3 h4 (by rw [beq_eq_false_iff_ne]; omega) _ (by simp [layS, hb])
  · rw [(known_other h).1] at hk; cases hk
theorem rbytes6_c (c : Cmd) (w : World) (hc : OkC c) : Calls Try.prog 17 #[cval c] w fun e w' => ∃ v, e = .returned (.tuple #[v, .bool (bytesB c)]) ∧ Later w w' ∧ Bs w' v (bytesI c) := by
  obtain ⟨op, a, c2, c3, c4⟩ := c
  by_cases h : knownB op = false ∨ c2 < 0 ∨ c3 < 0 ∨ c4 < 0 ∨ 3 < c4 ∨ 255 < c3
  · have hn : ¬ fitsC (op, a, c2, c3, c4) := by
      intro hf
      obtain ⟨f1, f2, f3, f4, f5, f6⟩ := fits_pre hf
      simp only at f1 f2 f3 f4 f5 f6
      rcases h with h | h | h | h | h | h
      · rw [f1] at h; cases h
      all_goals omega
    obtain ⟨b1, b2⟩ := bytes_no hn
    refine (rbytes_no op a c2 c3 c4 w h).mono ?_
    rintro e w' ⟨rfl, hl⟩
    exact ⟨_, by rw [b1], hl, by rw [b2]; exact Bs.nil _⟩
  · have h1 : knownB op = true := by
      cases hk : knownB op with
      | true => rfl
      | false => exact absurd (.inl hk) h
    have h2 : 0 ≤ c2 ∧ 0 ≤ c3 ∧ 0 ≤ c4 ∧ c4 ≤ 3 ∧ c3 ≤ 255 := by omega
    obtain ⟨n2, rfl⟩ : ∃ n : Nat, c2 = n := ⟨c2.toNat, by omega⟩
    obtain ⟨n3, rfl⟩ : ∃ n : Nat, c3 = n := ⟨c3.toNat, by omega⟩
    obtain ⟨n4, rfl⟩ : ∃ n : Nat, c4 = n := ⟨c4.toNat, by omega⟩
    obtain ⟨o1, o2, o3, o4, o5⟩ := hc
    simp only at o2 o3
    obtain ⟨s1, s2⟩ := rt_same op h1 a n2 n3 n4
    refine (rbytes_in op h1 a n2 n3 n4 o2 (by omega) (by omega) (by omega) w).mono ?_
    rintro e w' ⟨v, rfl, hl, hb⟩
    exact ⟨v, by rw [s1], hl, by rw [← s2]; exact hb⟩
end Go.Proofs.Ytccdgpadjfjoeaa
