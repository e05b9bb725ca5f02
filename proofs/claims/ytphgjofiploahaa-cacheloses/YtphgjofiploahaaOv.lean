import Derived.Test.YtphgjofiploahaaR2e
namespace Go.Proofs.Ytphgjofiploahaa
set_option linter.unusedVariables false
set_option linter.unusedSimpArgs false

/-! Bytes laid over others. -/
theorem seg_over (F : List UInt8) (o : Nat) (l : List UInt8) (h : o + l.length ≤ F.length) : seg (over F o l) o l.length = l := by
  unfold seg over
  have h1 : (F.take o).length = o := by simp; omega
  rw [List.append_assoc, List.drop_append_of_le_length (by omega), List.drop_of_length_le (by omega), List.nil_append, List.take_left]
theorem seg_over_else (F : List UInt8) (o : Nat) (l : List UInt8) (h : o + l.length ≤ F.length) (i n : Nat) (hi : i + n ≤ o ∨ o + l.length ≤ i) : seg (over F o l) i n = seg F i n := by
  apply List.ext_getElem?
  intro j
  unfold seg
  by_cases hj : j < n
  · rw [List.getElem?_take_of_lt hj, List.getElem?_take_of_lt hj, List.getElem?_drop, List.getElem?_drop, over_get F o l h, if_neg (by omega)]
  · rw [List.getElem?_take_eq_none (by omega), List.getElem?_take_eq_none (by omega)]
theorem over_comm (F A B : List UInt8) (i j : Nat) (hi : i + A.length ≤ F.length) (hj : j + B.length ≤ F.length) (h : i + A.length ≤ j ∨ j + B.length ≤ i) : over (over F i A) j B = over (over F j B) i A := by
  apply List.ext_getElem?
  intro k
  rw [over_get _ j B (by rw [over_length _ _ _ hi]; exact hj), over_get _ i A hi, over_get _ i A (by rw [over_length _ _ _ hj]; exact hi), over_get _ j B hj]
  by_cases c1 : j ≤ k ∧ k < j + B.length
  · rw [if_pos c1, if_neg (by omega), if_pos c1]
  · rw [if_neg c1, if_neg c1]
end Go.Proofs.Ytphgjofiploahaa
