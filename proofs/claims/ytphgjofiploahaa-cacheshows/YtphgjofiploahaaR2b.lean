import Derived.Test.YtphgjofiploahaaR2
namespace Go.Proofs.Ytphgjofiploahaa
open Go.ChangeShapes Go.WideShapes Go.ChangeAt Go.RowKit
set_option linter.unusedVariables false
set_option linter.unusedSimpArgs false

theorem Try.elem_block : Elem Try.prog 27 64 64 (.agg (Array.replicate 64 (.int .u8 0))) := by
  have h : (Try.prog.info? 27).map (fun i => (i.zero, i.size, i.bytes)) = some (some (.agg (Array.replicate 64 (.int .u8 0))), 64, 64) := by kernel_rfl
  obtain ⟨i, hi, h1, h2, h3⟩ := info_parts h
  exact ⟨i, hi, h1, h2, h3⟩
theorem Try.elem_u8 : Elem Try.prog 5 1 1 (.int .u8 0) := by
  obtain ⟨i, hi, h1, h2, h3⟩ := info_parts Try.info_u8
  exact ⟨i, hi, h1, h2, h3⟩

theorem rcopy_c {v : Value} {n : Nat} {F : List UInt8} (w : World) (B : Nat) (hB : B ≤ w.heap.size) (h : Rw 64 w v n (bv F)) (hn : n * 64 ≤ 140737488355328) :
    Calls Try.prog 26 #[v] w fun e w' => ∃ v', e = .returned v' ∧ Below B w w' ∧ w'.ownsRow B 27 64 v' n (bv F) := by
  have hown : Hid ((w.alloc (.cells #[] 27)).ownsRow B 27 64 (.slice (some ⟨w.heap.size, 0, none⟩) 0 0) 0 []) := World.ownsRow_lit w #[] 0 hB (by simp [maxLen]) rfl
  have hb : Hid (Below B w (w.alloc (.cells #[] 27))) := (Below.refl _ _).alloc hB _
  have hr := hide (h.later ((Later.refl w).alloc (.cells #[] 27)))
  have hlen := h.2.1
  unfold maxLen at hlen
  obtain ⟨_, _, a, cap, rfl, _, _⟩ := h
  go_enter Try.func26, Try.ntmps26
  go_wp2_with (at_builtin; refine wpList_append_rw Try.elem_block Try.underlying22 rfl (by decide) rfl (.tmp 3) (.tmp 4) rfl B _ 0 [] rfl hown.out _ n (bv F) rfl hr.out (bv_one F) ?c1 ?c2 ?c3 w hb.out ?_)
  case c1 => omega
  case c2 => unfold maxLen; omega
  case c3 => simp; omega
  intro v' w' ho hbl _
  go_wp2
  go_ret
  exact ⟨_, rfl, hbl, by simpa using ho⟩

theorem seg_add (l : List UInt8) (a i k : Nat) : seg l a (i + k) = seg l a i ++ seg l (a + i) k := by
  simp [seg, List.take_add, List.drop_drop]
theorem seg_seg (l : List UInt8) (a b k n : Nat) (h : b + k ≤ n) : seg (seg l a n) b k = seg l (a + b) k := by
  unfold seg
  rw [List.drop_take, List.take_take, List.drop_drop, Nat.min_eq_left (by omega)]

theorem owns_kept {w w' : World} {B : Nat} {e : TypeId} {sz : Nat} {v : Value} {n : Nat} {xs : List Value} (h : w.ownsRow B e sz v n xs) (hk : ∀ g, v.ownBlock = some g → w'.heap[g]? = w.heap[g]?) : w'.ownsRow B e sz v n xs := by
  refine ⟨h.1, ?_⟩
  rcases h.2 with hn | ⟨g, cap, cur, rfl, hb, hg, rest⟩
  · exact .inl hn
  · exact .inr ⟨g, cap, cur, rfl, hb, by rw [hk g rfl]; exact hg, rest⟩

theorem box_grown {w w' : World} {g : Nat} {t : TypeId} {xs : List Value} {B : Nat} {e : TypeId} {sz : Nat} {v : Value} {n : Nat} {ys : List Value} (hB : Box w g t xs) (ho : w.ownsRow B e sz v n ys) (hne : t ≠ e) (hg : w.grownBy w' v.ownBlock) : Box w' g t xs := by
  unfold Box
  rw [hg.block g hB.lt ?_]
  · exact hB
  · intro he
    rcases ho.2 with ⟨rfl, _⟩ | ⟨g', cap, cur, rfl, _, hg', _⟩
    · simp [Value.ownBlock] at he
    · simp [Value.ownBlock] at he
      subst he
      unfold Box at hB
      rw [hg'] at hB
      simp at hB
      exact hne hB.2.symm

/-- what is read of a store of len blocks, the bytes F -/
def readE (len : Nat) (a : Nat) (n : Int) : Int := if 64 < len then 4 else if withinB len a n then 0 else 5
def readL (len : Nat) (F : List UInt8) (a : Nat) (n : Int) : List UInt8 := if 64 < len then [] else if withinB len a n then seg F (a * 64) (n.toNat * 64) else []
end Go.Proofs.Ytphgjofiploahaa
