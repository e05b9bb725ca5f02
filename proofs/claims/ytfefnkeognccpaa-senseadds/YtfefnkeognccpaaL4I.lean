import Derived.Test.YtfefnkeognccpaaR4c
namespace Go.Proofs.Ytfefnkeognccpaa
open Go.ChangeShapes Go.WideShapes Go.ChangeAt Go.RowKit
set_option linter.unusedVariables false
set_option linter.unusedSimpArgs false

/-! What the landed sense does, said; proved in P4. -/
def IConS (f : FuncId) (s : Sns) : Prop := ∀ w : World, Calls Try.prog f #[] w fun e w' => e = .returned (sval s) ∧ Later w w'
def IBytesS : Prop := ∀ (s : Sns) (w : World), OkS s → Calls Try.prog 10 #[sval s] w fun e w' => ∃ v, e = .returned v ∧ Later w w' ∧ Bs w' v (bytesL s)
def IParseS : Prop := ∀ (v : Value) (l : List UInt8) (w : World), Bs w v l → l.length ≤ 100 → Calls Try.prog 8 #[v] w fun e w' => e = .returned (.tuple #[sval (parseS l), .bool (parseB l)]) ∧ Later w w'
def IGoodS : Prop := ∀ (s : Sns) (w : World), OkS s → Calls Try.prog 12 #[sval s] w fun e w' => e = .returned (.bool (s == (0, 0, 0))) ∧ Later w w'
def IAddS : Prop := ∀ (v : Value) (L : List Sns) (s : Sns) (w : World), Sl w v L → OkS s → L.length ≤ 100 →
  Calls Try.prog 14 #[v, sval s] w fun e w' => ∃ v', e = .returned v' ∧ Later w w' ∧ Sl w' v' (addL L s) ∧ ∀ g, g < w.heap.size → OffS g v'
def IFirstS : Prop := ∀ (v : Value) (L : List Sns) (w : World), Sl w v L → L.length ≤ 100 →
  Calls Try.prog 16 #[v] w fun e w' => ∃ v', e = .returned (.tuple #[sval (headS L), v']) ∧ Later w w' ∧ Sl w' v' L.tail ∧ ∀ g, g < w.heap.size → OffS g v'
def Alive4 : Prop := ∀ w : World, Calls Try.prog 7 #[] w fun e w' => e = .returned (.bool true) ∧ Later w w'

theorem headS_ok {L : List Sns} (h : ∀ x ∈ L, OkS x) : OkS (headS L) := by
  cases L with
  | nil => exact ⟨by simp [headS], by simp [headS], by simp [headS]⟩
  | cons s M => exact h s (by simp)
theorem tail_ok {L : List Sns} (h : ∀ x ∈ L, OkS x) : ∀ x ∈ L.tail, OkS x := fun x hx => h x (List.mem_of_mem_tail hx)
theorem Sl.shape {w : World} {v : Value} {L : List Sns} (h : Sl w v L) : ∃ a n c, v = .slice a n c ∧ Hid (n = L.length) ∧ n ≤ 9223372036854775807 := by
  obtain ⟨a, c, rfl⟩ := h.1.shape
  have := h.1.2.1
  unfold maxLen at this
  exact ⟨a, _, c, rfl, rfl, by omega⟩
theorem box_sense {w : World} {g : Nat} {t : TypeId} {L : List Sns} (hB : Box w g t (sv L)) (k : Nat) (hk : k < L.length) : w.cell? ⟨g, k * 3, none⟩ = some (.int .i64 L[k].1) ∧ w.cell? ⟨g, k * 3 + 1, none⟩ = some (.int .i64 L[k].2.1) ∧ w.cell? ⟨g, k * 3 + 2, none⟩ = some (.int .i64 L[k].2.2) := by
  have h := sv_at L k hk
  exact ⟨(hB.cell _).trans h.1, (hB.cell _).trans h.2.1, (hB.cell _).trans h.2.2⟩
end Go.Proofs.Ytfefnkeognccpaa
