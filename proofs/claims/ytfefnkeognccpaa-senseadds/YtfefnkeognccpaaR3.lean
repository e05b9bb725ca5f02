import Derived.Test.YtfefnkeognccpaaR2e
namespace Go.Proofs.Ytfefnkeognccpaa
open Go.ChangeShapes Go.WideShapes Go.ChangeAt Go.RowKit
set_option linter.unusedVariables false
set_option linter.unusedSimpArgs false

/-! Media: blocks as flat bytes, the cached writes as a list of places and bytes. -/
abbrev Drt := Int × List UInt8
def dv (D : List Drt) : List Value := D.flatMap fun d => .int .i64 d.1 :: bv d.2
def Ok (D : List Drt) : Prop := ∀ d ∈ D, d.2.length = 64 ∧ -9223372036854775808 ≤ d.1 ∧ d.1 ≤ 9223372036854775807
def Med (w : World) (v : Value) (n : Nat) (F : List UInt8) (D : List Drt) : Prop :=
  ∃ vb vd, v = .agg #[vb, vd] ∧ Rw 64 w vb n (bv F) ∧ Rw 65 w vd D.length (dv D) ∧ Ok D

theorem dv_nil : dv [] = [] := rfl
theorem dv_cons (d : Drt) (D : List Drt) : dv (d :: D) = (.int .i64 d.1 :: bv d.2) ++ dv D := by simp [dv]
theorem dv_append (D E : List Drt) : dv (D ++ E) = dv D ++ dv E := by simp [dv]
theorem dv_one (D : List Drt) : ∀ u ∈ dv D, u.oneCell' = true := by
  intro u hu
  simp only [dv, List.mem_flatMap] at hu
  obtain ⟨d, _, hd⟩ := hu
  rcases List.mem_cons.1 hd with rfl | h
  · rfl
  · exact bv_one _ u h
theorem Ok.tail {d : Drt} {D : List Drt} (h : Ok (d :: D)) : Ok D := fun x hx => h x (by simp [hx])
theorem Ok.append {D E : List Drt} (h : Ok D) (h' : Ok E) : Ok (D ++ E) := fun x hx => by
  rcases List.mem_append.1 hx with hx | hx
  · exact h x hx
  · exact h' x hx
theorem dv_length : ∀ (D : List Drt), Ok D → (dv D).length = D.length * 65
  | [], _ => rfl
  | d :: D, h => by rw [dv_cons, List.length_append, dv_length D h.tail]; simp [bv_length, (h d (by simp)).1]; omega
theorem dv_drop : ∀ (D : List Drt) (k : Nat), Ok D → (dv D).drop (k * 65) = dv (D.drop k)
  | D, 0, _ => by simp
  | [], k + 1, _ => by simp [dv]
  | d :: D, k + 1, h => by
    have hl : (Value.int .i64 d.1 :: bv d.2).length = 65 := by simp [bv_length, (h d (by simp)).1]
    rw [dv_cons, List.drop_succ_cons, ← dv_drop D k h.tail, List.drop_append, hl, List.drop_of_length_le (by omega), List.nil_append]
    congr 1; omega
theorem dv_part (D : List Drt) (k : Nat) (hk : k < D.length) (h : Ok D) : ((dv D).drop (k * 65)).take 65 = .int .i64 D[k].1 :: bv D[k].2 := by
  have hl : (Value.int .i64 D[k].1 :: bv D[k].2).length = 65 := by simp [bv_length, (h D[k] (List.getElem_mem hk)).1]
  rw [dv_drop D k h, List.drop_eq_getElem_cons hk, dv_cons]
  have := List.take_left (l₁ := Value.int .i64 D[k].1 :: bv D[k].2) (l₂ := dv (D.drop (k + 1)))
  rw [hl] at this
  exact this
theorem dv_at (D : List Drt) (k : Nat) (hk : k < D.length) (h : Ok D) : (dv D)[k * 65]? = some (.int .i64 D[k].1) := by
  have := dv_part D k hk h
  have h2 := congrArg (fun l : List Value => l[0]?) this
  simpa [List.getElem?_take, List.getElem?_drop] using h2


def rightB (n : Nat) (D : List Drt) : Bool := decide (n ≤ 64 ∧ D.length ≤ 64 ∧ ∀ d ∈ D, 0 ≤ d.1 ∧ d.1 < n)

end Go.Proofs.Ytfefnkeognccpaa
