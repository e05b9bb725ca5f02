import Derived.Test.YtcjdodkbnhkbiaaMAP
namespace Go.Proofs.Ytcjdodkbnhkbiaa
open Go.ChangeShapes Go.WideShapes Go.ChangeAt Go.RowKit
set_option linter.unusedVariables false
set_option linter.unusedSimpArgs false

set_option maxHeartbeats 2000000 in
theorem modeSelects_walk (hal : Alive8) (iS : ISel8) (v : Value) (l : List UInt8) (ten caching : Bool) (w : World) (h : Bs w v l) :
    Calls Try.prog 4 #[v, .bool ten, .bool caching] w fun e w' => e = .returned (.bool true) ∧ Below w.heap.size w w' := by
  have HB := hide h
  have LL := hide (Later.refl w)
  have hlm := h.1
  unfold maxLen at hlm
  obtain ⟨_, ad, cap, rfl, hcap, hd⟩ := h
  clear hd
  go_enter Try.func4, Try.ntmps4
  go_wp2_with fail
  refine (hal _).mono ?_
  rintro e w1 ⟨rfl, hl⟩
  replace HB := hide (HB.out.later hl)
  replace LL := hide (LL.out.trans hl)
  clear hl
  by_cases hn : 600 < l.length
  · go_wp2
    go_ret
    exact ⟨rfl, LL.out⟩
  go_wp2_with fail
  refine (iS _ l ten caching _ HB.out (by omega)).mono ?_
  rintro e w2 ⟨rfl, hl⟩
  replace HB := hide (HB.out.later hl)
  replace LL := hide (LL.out.trans hl)
  clear hl
  generalize hp : selR l ten caching = p at *
  have HP := hide hp
  clear hp
  obtain ⟨x, s⟩ := p
  simp only
  go_wp2_with (refine wpList_newAS rfl rfl rfl rfl 8 7 rfl rfl (by simp) (by decide) (.tmp 21) (.tmp 22) (by simp) (by simp) (by simp) rfl rfl rfl _ s rfl rfl ?_)
  intro g8 w3 hB hl hg
  replace HB := hide (HB.out.later hl)
  replace LL := hide (LL.out.trans hl)
  have B8 := hide hB
  clear hl hg hB
  go_wp2_with fail
  refine (rselect_c ten caching _ HB.out (by omega)).mono ?_
  rintro e w4 ⟨rfl, hl⟩
  rw [HP.out]
  simp only
  replace B8 := hide (B8.out.later hl)
  replace LL := hide (LL.out.trans hl)
  clear hl
  go_wp2_with (refine wpList_newAS rfl rfl rfl rfl 10 9 rfl rfl (by simp) (by decide) (.tmp 28) (.tmp 29) (by simp) (by simp) (by simp) rfl rfl rfl _ s rfl rfl ?_)
  intro g9 w5 hB hl hg
  replace B8 := hide (B8.out.later hl)
  replace LL := hide (LL.out.trans hl)
  have B9 := hide hB
  clear hl hg hB
  have s0 := B8.out.cell 0
  have s1 := B8.out.cell 1
  have s2 := B8.out.cell 2
  have t0 := B9.out.cell 0
  have t1 := B9.out.cell 1
  have t2 := B9.out.cell 2
  go_wp2_with (refine wpList_eqS8 (by kernel_rfl) (.tmp 34) (.tmp 35) rfl s s rfl rfl true (by simp) ?_)
  go_ret
  refine ⟨?_, LL.out⟩
  first | rfl | simp
end Go.Proofs.Ytcjdodkbnhkbiaa
