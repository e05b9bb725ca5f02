import Derived.Test.YtfefnkeognccpaaR2b
namespace Go.Proofs.Ytfefnkeognccpaa
open Go.ChangeShapes Go.WideShapes Go.ChangeAt Go.RowKit
set_option linter.unusedVariables false
set_option linter.unusedSimpArgs false

def z64 : Value := .agg (Array.replicate 64 (.int .u8 0))
theorem made64 (n : Nat) : (madeCells z64.cells (n * 64)).toList = bv (List.replicate (n * 64) 0) := by
  rw [bv_replicate]; exact madeCells_rep _ 64 _ (by omega)

/-- so many bytes laid, zeros behind -/
def fillP (c : UInt8) (all k : Nat) : List UInt8 := List.replicate k c ++ List.replicate (all - k) 0
theorem fillP_set (c : UInt8) (all k : Nat) (h : k < all) : fillP c all (k + 1) = (fillP c all k).set k c := by
  unfold fillP
  rw [List.set_append_right _ _ (by simp), List.length_replicate, Nat.sub_self]
  obtain ⟨m, hm⟩ : ∃ m, all - k = m + 1 := ⟨all - k - 1, by omega⟩
  rw [hm, show all - (k + 1) = m from by omega, List.replicate_succ (n := m), List.set_cons_zero, List.replicate_succ']
  simp
theorem fillP_zero (c : UInt8) (all : Nat) : fillP c all 0 = List.replicate all 0 := by simp [fillP]
theorem fillP_all (c : UInt8) (all : Nat) : fillP c all all = List.replicate all c := by simp [fillP]
theorem fillP_length (c : UInt8) (all k : Nat) (h : k ≤ all) : (fillP c all k).length = all := by simp [fillP]; omega

end Go.Proofs.Ytfefnkeognccpaa
