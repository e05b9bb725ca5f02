import Derived.Test.YtccdgpadjfjoeaaWQ6e
import Derived.Test.YtccdgpadjfjoeaaWQ6f
import Derived.Test.YtccdgpadjfjoeaaWQ6g
namespace Go.Proofs.Ytccdgpadjfjoeaa
open Go.ChangeShapes Go.WideShapes Go.ChangeAt Go.RowKit
set_option linter.unusedVariables false
set_option linter.unusedSimpArgs false

/-! A command has bytes just if it fits. -/
theorem fit_c (op : Int) (hk : knownB op = true) (l : List UInt8) (hl : l.length = sizeN op) : FitS op l := by
  rcases known_cases op with h | h
  · rcases h with rfl | rfl | rfl | rfl | rfl | rfl | rfl | rfl | rfl | rfl | rfl | rfl | rfl | rfl | rfl | rfl | rfl | rfl | rfl | rfl | rfl | rfl | rfl | rfl | rfl
    · exact fit_0 l hl
    · exact fit_3 l hl
    · exact fit_8 l hl
    · exact fit_10 l hl
    · exact fit_18 l hl
    · exact fit_21 l hl
    · exact fit_26 l hl
    · exact fit_27 l hl
    · exact fit_30 l hl
    · exact fit_37 l hl
    · exact fit_40 l hl
    · exact fit_42 l hl
    · exact fit_47 l hl
    · exact fit_53 l hl
    · exact fit_85 l hl
    · exact fit_90 l hl
    · exact fit_136 l hl
    · exact fit_138 l hl
    · exact fit_143 l hl
    · exact fit_145 l hl
    · exact fit_158 l hl
    · exact fit_160 l hl
    · exact fit_168 l hl
    · exact fit_170 l hl
    · exact fit_175 l hl
  · rw [(known_other h).1] at hk; cases hk
theorem lay_c (op : Int) (hk : knownB op = true) : LayS op := by
  rcases known_cases op with h | h
  · rcases h with rfl | rfl | rfl | rfl | rfl | rfl | rfl | rfl | rfl | rfl | rfl | rfl | rfl | rfl | rfl | rfl | rfl | rfl | rfl | rfl | rfl | rfl | rfl | rfl | rfl
    · exact lay_0
    · exact lay_3
    · exact lay_8
    · exact lay_10
    · exact lay_18
    · exact lay_21
    · exact lay_26
    · exact lay_27
    · exact lay_30
    · exact lay_37
    · exact lay_40
    · exact lay_42
    · exact lay_47
    · exact lay_53
    · exact lay_85
    · exact lay_90
    · exact lay_136
    · exact lay_138
    · exact lay_143
    · exact lay_145
    · exact lay_158
    · exact lay_160
    · exact lay_168
    · exact lay_170
    · exact lay_175
  · rw [(known_other h).1] at hk; cases hk
theorem read_c (op : Int) (hk : knownB op = true) : ReadS op (sizeN op) := by
  rcases known_cases op with h | h
  · rcases h with rfl | rfl | rfl | rfl | rfl | rfl | rfl | rfl | rfl | rfl | rfl | rfl | rfl | rfl | rfl | rfl | rfl | rfl | rfl | rfl | rfl | rfl | rfl | rfl | rfl
    · exact read_0
    · exact read_3
    · exact read_8
    · exact read_10
    · exact read_18
    · exact read_21
    · exact read_26
    · exact read_27
    · exact read_30
    · exact read_37
    · exact read_40
    · exact read_42
    · exact read_47
    · exact read_53
    · exact read_85
    · exact read_90
    · exact read_136
    · exact read_138
    · exact read_143
    · exact read_145
    · exact read_158
    · exact read_160
    · exact read_168
    · exact read_170
    · exact read_175
  · rw [(known_other h).1] at hk; cases hk
def fitsC (c : Cmd) : Prop := knownB c.1 = true ∧ ∃ a n2 n3 n4 : Nat, c = (c.1, a, (n2 : Int), (n3 : Int), (n4 : Int)) ∧ fitsN c.1 a n2 n3 n4
theorem parse_fit {l : List UInt8} {c : Cmd} (h : parseI l = (c, (0, 0, 0))) : fitsC c := by
  rw [parse_same] at h
  unfold parseR at h
  by_cases h0 : l.length = 0
  · rw [if_pos h0] at h; simp at h
  rw [if_neg h0] at h
  generalize ((Bn l 0 : Nat) : Int) = op at *
  unfold parseRo at h
  by_cases hk : knownB op = false
  · rw [if_pos hk] at h; simp at h
  rw [if_neg hk] at h
  have hk' : knownB op = true := by simpa using hk
  by_cases h2 : l.length < sizeN op ∨ Bn l (sizeN op - 1) ≠ 0
  · rw [if_pos h2] at h; simp at h
  rw [if_neg h2] at h
  have h3 : sizeN op ≤ l.length := by
    have : ¬ l.length < sizeN op := fun h => h2 (.inl h)
    omega
  by_cases h4 : (readS op (l.take (sizeN op))).2 = false
  · rw [if_pos h4] at h; simp at h
  rw [if_neg h4] at h
  obtain ⟨a, n2, n3, n4, e, hf⟩ := fit_c op hk' (l.take (sizeN op)) (by simp; omega) (by simpa using h4)
  rw [e] at h
  simp only [Prod.mk.injEq] at h
  have hc := h.1.symm
  subst hc
  exact ⟨hk', a, n2, n3, n4, rfl, hf⟩
theorem lay_parse {op : Int} (hk : knownB op = true) {a n2 n3 n4 : Nat} (hf : fitsN op a n2 n3 n4) : parseI (layS op a n2 n3 n4) = ((op, a, (n2 : Int), (n3 : Int), (n4 : Int)), (0, 0, 0)) := by
  obtain ⟨h1, h2, h3, h4⟩ := read_c op hk a n2 n3 n4 hf
  obtain ⟨m, hm, _⟩ := size_pos hk
  rw [parse_same, parseR, if_neg (by rw [h2]; omega), h3, parseRo, if_neg (by rw [hk]; simp), if_neg (by rw [h2, h4]; simp), List.take_of_length_le (by rw [h2]; omega), h1]
  rfl
theorem bytes_fit {c : Cmd} (h : fitsC c) : bytesB c = true ∧ bytesI c = layS c.1 c.2.1 c.2.2.1.toNat c.2.2.2.1.toNat c.2.2.2.2.toNat ∧ (bytesI c).length = sizeN c.1 ∧ parseI (bytesI c) = (c, (0, 0, 0)) := by
  obtain ⟨hk, a, n2, n3, n4, e, hf⟩ := h
  obtain ⟨op, a', c2, c3, c4⟩ := c
  simp only at hk e hf
  simp only [Prod.mk.injEq, true_and] at e
  obtain ⟨rfl, rfl, rfl, rfl⟩ := e
  have h1 := lay_c op hk a' n2 n3 n4 hf
  have h2 := lay_parse hk hf
  have hb : bytesB (op, a', (n2 : Int), (n3 : Int), (n4 : Int)) = true := by
    unfold bytesB
    rw [h1, h2, hk]
    simp
  refine ⟨hb, ?_, ?_, ?_⟩
  · unfold bytesI
    rw [hb, if_pos rfl, h1]
    simp
  · unfold bytesI
    rw [hb, if_pos rfl, h1]
    exact (read_c op hk a' n2 n3 n4 hf).2.1
  · unfold bytesI
    rw [hb, if_pos rfl, h1]
    exact h2
theorem fit_bytes {c : Cmd} (h : bytesB c = true) : fitsC c := by
  unfold bytesB at h
  simp only [Bool.and_eq_true, beq_iff_eq] at h
  exact parse_fit (l := layC c) (Prod.ext h.2.1 h.2.2)
theorem bytes_no {c : Cmd} (h : ¬ fitsC c) : bytesB c = false ∧ bytesI c = [] := by
  have hb : bytesB c = false := by
    cases hb : bytesB c with
    | false => rfl
    | true => exact absurd (fit_bytes hb) h
  exact ⟨hb, by rw [bytesI, hb]; rfl⟩
/-- what the document lays comes back just if it fits -/
theorem rt_same (op : Int) (hk : knownB op = true) (a n2 n3 n4 : Nat) : rtB (op, a, (n2 : Int), (n3 : Int), (n4 : Int)) (layS op a n2 n3 n4) = bytesB (op, a, (n2 : Int), (n3 : Int), (n4 : Int)) ∧ rtL (op, a, (n2 : Int), (n3 : Int), (n4 : Int)) (layS op a n2 n3 n4) = bytesI (op, a, (n2 : Int), (n3 : Int), (n4 : Int)) := by
  unfold rtL
  by_cases hf : fitsC (op, a, (n2 : Int), (n3 : Int), (n4 : Int))
  · obtain ⟨b1, b2, _, _⟩ := bytes_fit hf
    have hr : rtB (op, a, (n2 : Int), (n3 : Int), (n4 : Int)) (layS op a n2 n3 n4) = true := by
      obtain ⟨_, a', m2, m3, m4, e, hf'⟩ := hf
      simp only [Prod.mk.injEq, true_and, Int.natCast_inj] at e
      obtain ⟨rfl, rfl, rfl, rfl⟩ := e
      have h2 := lay_parse hk hf'
      rw [parse_same] at h2
      unfold rtB
      rw [h2]
      simp
    rw [hr, b1, b2]
    simp
  · obtain ⟨b1, b2⟩ := bytes_no hf
    have hr : rtB (op, a, (n2 : Int), (n3 : Int), (n4 : Int)) (layS op a n2 n3 n4) = false := by
      cases hr : rtB (op, a, (n2 : Int), (n3 : Int), (n4 : Int)) (layS op a n2 n3 n4) with
      | false => rfl
      | true =>
        exfalso
        unfold rtB at hr
        simp only [Bool.and_eq_true, beq_iff_eq] at hr
        exact hf (parse_fit (l := layS op a n2 n3 n4) (by rw [parse_same]; exact Prod.ext hr.2 hr.1))
    rw [hr, b1, b2]
    simp
theorem fitT_le (op : Int) : (fitT op).2.2.2.1 ≤ 255 ∧ (fitT op).2.2.2.2 ≤ 3 := by
  rcases known_cases op with h | h
  · rcases h with rfl | rfl | rfl | rfl | rfl | rfl | rfl | rfl | rfl | rfl | rfl | rfl | rfl | rfl | rfl | rfl | rfl | rfl | rfl | rfl | rfl | rfl | rfl | rfl | rfl <;> decide
  · obtain ⟨h0, h3, h8, h10, h18, h21, h26, h27, h30, h37, h40, h42, h47, h53, h85, h90, h136, h138, h143, h145, h158, h160, h168, h170, h175⟩ := h
    simp [fitT, h3, h8, h10, h18, h21, h26, h27, h30, h40, h42, h47, h53, h85, h90, h136, h138, h143, h145, h158, h160, h168, h170, h175]
theorem fits_pre {c : Cmd} (h : fitsC c) : knownB c.1 = true ∧ 0 ≤ c.2.2.1 ∧ 0 ≤ c.2.2.2.1 ∧ 0 ≤ c.2.2.2.2 ∧ c.2.2.2.2 ≤ 3 ∧ c.2.2.2.1 ≤ 255 := by
  obtain ⟨hk, a, n2, n3, n4, e, hf⟩ := h
  have := fitT_le c.1
  obtain ⟨f1, f2, f3, f4, f5, _⟩ := hf
  rw [e]
  simp only
  exact ⟨hk, by omega, by omega, by omega, by omega, by omega⟩
end Go.Proofs.Ytccdgpadjfjoeaa
