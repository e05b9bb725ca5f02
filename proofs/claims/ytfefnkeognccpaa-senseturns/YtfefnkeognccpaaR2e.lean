import Derived.Test.YtfefnkeognccpaaR2d
namespace Go.Proofs.Ytfefnkeognccpaa
open Go.ChangeShapes Go.WideShapes Go.ChangeAt Go.RowKit
set_option linter.unusedVariables false
set_option linter.unusedSimpArgs false

/-- bytes laid over others from a place on -/
def over (F : List UInt8) (o : Nat) (l : List UInt8) : List UInt8 := F.take o ++ l ++ F.drop (o + l.length)
theorem over_get (F : List UInt8) (o : Nat) (l : List UInt8) (h : o + l.length ≤ F.length) (i : Nat) : (over F o l)[i]? = if o ≤ i ∧ i < o + l.length then l[i - o]? else F[i]? := by
  unfold over
  have h1 : (F.take o).length = o := by simp; omega
  by_cases c1 : i < o
  · rw [if_neg (by omega), List.append_assoc, List.getElem?_append_left (by omega), List.getElem?_take_of_lt c1]
  · by_cases c2 : i < o + l.length
    · rw [if_pos (by omega), List.getElem?_append_left (by simp; omega), List.getElem?_append_right (by omega), h1]
    · rw [if_neg (by omega), List.getElem?_append_right (by simp; omega), List.getElem?_drop]
      congr 1
      simp
      omega
theorem over_length (F : List UInt8) (o : Nat) (l : List UInt8) (h : o + l.length ≤ F.length) : (over F o l).length = F.length := by simp [over]; omega
theorem over_nil (F : List UInt8) (o : Nat) : over F o [] = F := by simp [over]
theorem over_over (F : List UInt8) (o : Nat) (l m : List UInt8) (h : o + l.length + m.length ≤ F.length) : over (over F o l) (o + l.length) m = over F o (l ++ m) := by
  apply List.ext_getElem?
  intro i
  rw [over_get (over F o l) (o + l.length) m (by rw [over_length _ _ _ (by omega)]; omega), over_get F o l (by omega), over_get F o (l ++ m) (by simp; omega)]
  simp only [List.length_append]
  by_cases c1 : o + l.length ≤ i ∧ i < o + l.length + m.length
  · rw [if_pos c1, if_pos (by omega), List.getElem?_append_right (by omega)]
    congr 1; omega
  · rw [if_neg c1]
    by_cases c2 : o ≤ i ∧ i < o + l.length
    · rw [if_pos c2, if_pos (by omega), List.getElem?_append_left (by omega)]
    · rw [if_neg c2, if_neg (by omega)]
theorem bv_over (F : List UInt8) (o : Nat) (l : List UInt8) : bv (over F o l) = (bv F).take o ++ bv l ++ (bv F).drop (o + (bv l).length) := by simp [over, bv, List.map_take, List.map_drop]

def writeE (len a lb : Nat) : Int := if 64 < len then 4 else if lb % 64 ≠ 0 then 3 else if withinB len a ((lb : Int) / 64) then 0 else 5
def writeL (len : Nat) (F : List UInt8) (a : Nat) (l : List UInt8) : List UInt8 := if writeE len a l.length = 0 then over F (a * 64) l else []
def writeN (len a lb : Nat) : Nat := if writeE len a lb = 0 then len else 0
def makeE (n : Int) : Int := if 0 ≤ n ∧ n ≤ 64 then 0 else 1
def makeN (n : Int) : Nat := if 0 ≤ n ∧ n ≤ 64 then n.toNat else 0
end Go.Proofs.Ytfefnkeognccpaa
