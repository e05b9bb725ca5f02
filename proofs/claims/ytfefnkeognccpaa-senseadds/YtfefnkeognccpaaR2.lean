import Derived.Test.YtfefnkeognccpaaRow
namespace Go.Proofs.Ytfefnkeognccpaa
open Go.ChangeShapes Go.WideShapes Go.ChangeAt Go.RowKit
set_option linter.unusedVariables false
set_option linter.unusedSimpArgs false

def withinB (c : Int) (at_ : Nat) (n : Int) : Bool := decide (0 ≤ n ∧ n ≤ c ∧ (at_ : Int) ≤ c - n)
def partB (l : List UInt8) (a k : Nat) : List UInt8 := seg l a k ++ List.replicate (64 - k) 0
theorem partB_length (l : List UInt8) (a k : Nat) (h : k ≤ 64) (ha : a + 64 ≤ l.length) : (partB l a k).length = 64 := by simp [partB, seg_length l a k (by omega)]; omega
theorem partB_set (l : List UInt8) (a k : Nat) (h : k < 64) (ha : a + 64 ≤ l.length) : partB l a (k + 1) = (partB l a k).set k (l[a + k]'(by omega)) := by
  unfold partB
  have hs := seg_length l a k (by omega)
  rw [List.set_append_right _ _ (by omega), hs, Nat.sub_self, seg_snoc l a k (by omega)]
  obtain ⟨m, hm⟩ : ∃ m, 64 - k = m + 1 := ⟨63 - k, by omega⟩
  rw [hm, show 64 - (k + 1) = m from by omega, List.replicate_succ, List.set_cons_zero]
  simp
theorem partB_all (l : List UInt8) (a : Nat) : partB l a 64 = seg l a 64 := by simp [partB]
theorem partB_zero (l : List UInt8) (a : Nat) : partB l a 0 = List.replicate 64 0 := by simp [partB, seg_zero]

theorem zeros64 : (bv (List.replicate 64 0)) = List.replicate 64 (Value.int .u8 0) := bv_replicate 64

end Go.Proofs.Ytfefnkeognccpaa
