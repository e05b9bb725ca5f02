import Derived.Test.YtfefnkeognccpaaR2
namespace Go.Proofs.Ytfefnkeognccpaa
open Go.ChangeShapes Go.WideShapes Go.ChangeAt Go.RowKit
set_option linter.unusedVariables false
set_option linter.unusedSimpArgs false

theorem Try.elem_u8 : Elem Try.prog 5 1 1 (.int .u8 0) := by
  obtain ⟨i, hi, h1, h2, h3⟩ := info_parts Try.info_u8
  exact ⟨i, hi, h1, h2, h3⟩

theorem seg_add (l : List UInt8) (a i k : Nat) : seg l a (i + k) = seg l a i ++ seg l (a + i) k := by
  simp [seg, List.take_add, List.drop_drop]
theorem seg_seg (l : List UInt8) (a b k n : Nat) (h : b + k ≤ n) : seg (seg l a n) b k = seg l (a + b) k := by
  unfold seg
  rw [List.drop_take, List.take_take, List.drop_drop, Nat.min_eq_left (by omega)]

theorem owns_kept {w w' : World} {B : Nat} {e : TypeId} {sz : Nat} {v : Value} {n : Nat} {xs : List Value} (h : w.ownsRow B e sz v n xs) (hk : ∀ g, v.ownBlock = some g → w'.heap[g]? = w.heap[g]?) : w'.ownsRow B e sz v n xs := by
  refine ⟨h.1, ?_⟩
  rcases h.2 with hn | ⟨g, cap, cur, rfl, hb, hg, rest⟩
  · exact .inl hn
  · exact .inr ⟨g, cap, cur, rfl, hb, by rw [hk g rfl]; exact hg, rest⟩

theorem box_grown {w w' : World} {g : Nat} {t : TypeId} {xs : List Value} {B : Nat} {e : TypeId} {sz : Nat} {v : Value} {n : Nat} {ys : List Value} (hB : Box w g t xs) (ho : w.ownsRow B e sz v n ys) (hne : t ≠ e) (hg : w.grownBy w' v.ownBlock) : Box w' g t xs := by
  unfold Box
  rw [hg.block g hB.lt ?_]
  · exact hB
  · intro he
    rcases ho.2 with ⟨rfl, _⟩ | ⟨g', cap, cur, rfl, _, hg', _⟩
    · simp [Value.ownBlock] at he
    · simp [Value.ownBlock] at he
      subst he
      unfold Box at hB
      rw [hg'] at hB
      simp at hB
      exact hne hB.2.symm

/-- what is read of a store of len blocks, the bytes F -/
def readE (len : Nat) (a : Nat) (n : Int) : Int := if 64 < len then 4 else if withinB len a n then 0 else 5
def readL (len : Nat) (F : List UInt8) (a : Nat) (n : Int) : List UInt8 := if 64 < len then [] else if withinB len a n then seg F (a * 64) (n.toNat * 64) else []
end Go.Proofs.Ytfefnkeognccpaa
