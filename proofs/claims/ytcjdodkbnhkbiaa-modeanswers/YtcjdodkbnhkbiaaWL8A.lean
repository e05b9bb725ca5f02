import Derived.Test.YtcjdodkbnhkbiaaMAP
namespace Go.Proofs.Ytcjdodkbnhkbiaa
open Go.ChangeShapes Go.WideShapes Go.ChangeAt Go.RowKit
set_option linter.unusedVariables false
set_option linter.unusedSimpArgs false

set_option maxHeartbeats 2000000 in
theorem modeAnswers_walk (hal : Alive8) (iA : IAns8) (iP : IPage8) (c : Cmd) (caching protect : Bool) (w : World) (hc : OkC7 c) :
    Calls Try.prog 3 #[cval c, .bool caching, .bool protect] w fun e w' => e = .returned (.bool true) ∧ Below w.heap.size w w' := by
  have HC := hide hc
  clear hc
  have BX := hide (Box.new w 24 #[.int .i64 c.1, .int .u64 (c.2.1 : Int), .int .i64 c.2.2.1, .int .i64 c.2.2.2.1, .int .i64 c.2.2.2.2])
  have LL := hide ((Later.refl w).alloc (.cells #[.int .i64 c.1, .int .u64 (c.2.1 : Int), .int .i64 c.2.2.1, .int .i64 c.2.2.2.1, .int .i64 c.2.2.2.2] 24))
  go_enter Try.func3, Try.ntmps3
  go_wp2_with fail
  refine (hal _).mono ?_
  rintro e w1 ⟨rfl, hl⟩
  replace BX := hide (BX.out.later hl)
  replace LL := hide (LL.out.trans hl)
  clear hl
  have x0 := BX.out.cell 0
  have x1 := BX.out.cell 1
  have x2 := BX.out.cell 2
  have x3 := BX.out.cell 3
  have x4 := BX.out.cell 4
  go_wp2_with fail
  refine (iA c caching protect _ HC.out).mono ?_
  rintro e w2 ⟨va, rfl, hl, ha⟩
  replace BX := hide (BX.out.later hl)
  replace LL := hide (LL.out.trans hl)
  have VA := hide ha
  clear hl ha x0 x1 x2 x3 x4
  have HS : Hid (∃ l s, mansR c caching protect = (l, s)) := ⟨_, _, rfl⟩
  generalize hp : mansR c caching protect = p at *
  have HP := hide hp
  clear hp HS
  obtain ⟨l, s⟩ := p
  simp only at VA ⊢
  go_wp2_with (refine wpList_newAS rfl rfl rfl rfl 8 7 rfl rfl (by simp) (by decide) (.tmp 22) (.tmp 23) (by simp) (by simp) (by simp) rfl rfl rfl _ s rfl rfl ?_)
  intro g8 w3 hB hl hg
  replace BX := hide (BX.out.later hl)
  replace VA := hide (VA.out.later hl)
  replace LL := hide (LL.out.trans hl)
  have B8 := hide hB
  clear hl hg hB
  have x0 := BX.out.cell 0
  have x1 := BX.out.cell 1
  have x2 := BX.out.cell 2
  have x3 := BX.out.cell 3
  have x4 := BX.out.cell 4
  go_wp2_with fail
  refine (rmanswer_c c caching protect _).mono ?_
  rintro e w4 ⟨vb, rfl, hl, hb⟩
  rw [HP.out] at hb ⊢
  simp only at hb ⊢
  replace BX := hide (BX.out.later hl)
  replace VA := hide (VA.out.later hl)
  replace B8 := hide (B8.out.later hl)
  replace LL := hide (LL.out.trans hl)
  have VB := hide hb
  clear hl hb x0 x1 x2 x3 x4
  go_wp2_with (refine wpList_newAS rfl rfl rfl rfl 10 9 rfl rfl (by simp) (by decide) (.tmp 29) (.tmp 30) (by simp) (by simp) (by simp) rfl rfl rfl _ s rfl rfl ?_)
  intro g9 w5 hB hl hg
  replace BX := hide (BX.out.later hl)
  replace VA := hide (VA.out.later hl)
  replace VB := hide (VB.out.later hl)
  replace B8 := hide (B8.out.later hl)
  replace LL := hide (LL.out.trans hl)
  have B9 := hide hB
  clear hl hg hB
  have x0 := BX.out.cell 0
  have x1 := BX.out.cell 1
  have x2 := BX.out.cell 2
  have x3 := BX.out.cell 3
  have x4 := BX.out.cell 4
  go_wp2_with fail
  refine (iP c.2.2.2.1 c.2.2.2.2 caching HC.out.2.2.2.1 HC.out.2.2.2.2 _).mono ?_
  rintro e w6 ⟨vp, rfl, hl, hb⟩
  replace BX := hide (BX.out.later hl)
  replace VA := hide (VA.out.later hl)
  replace VB := hide (VB.out.later hl)
  replace B8 := hide (B8.out.later hl)
  replace B9 := hide (B9.out.later hl)
  replace LL := hide (LL.out.trans hl)
  have VP := hide hb
  clear hl hb x0 x1 x2 x3 x4
  have x0 := BX.out.cell 0
  have x1 := BX.out.cell 1
  have x2 := BX.out.cell 2
  have x3 := BX.out.cell 3
  have x4 := BX.out.cell 4
  go_wp2_with fail
  refine (rmpage_c c.2.2.2.1 c.2.2.2.2 caching _).mono ?_
  rintro e w7 ⟨vq, rfl, hl, hb⟩
  replace BX := hide (BX.out.later hl)
  replace VA := hide (VA.out.later hl)
  replace VB := hide (VB.out.later hl)
  replace VP := hide (VP.out.later hl)
  replace B8 := hide (B8.out.later hl)
  replace B9 := hide (B9.out.later hl)
  replace LL := hide (LL.out.trans hl)
  have VQ := hide hb
  clear hl hb x0 x1 x2 x3 x4
  have g1 := VA.out.strOf
  have g2 := VB.out.strOf
  have g3 := VP.out.strOf
  have g4 := VQ.out.strOf
  have s0 := B8.out.cell 0
  have s1 := B8.out.cell 1
  have s2 := B8.out.cell 2
  have t0 := B9.out.cell 0
  have t1 := B9.out.cell 1
  have t2 := B9.out.cell 2
  generalize strOf l = sl at *
  generalize strOf (mpL c.2.2.2.1 c.2.2.2.2 caching) = sp at *
  generalize mpB c.2.2.2.1 = ok at *
  go_wp2_with (refine wpList_eqS8 (by kernel_rfl) (.tmp 55) (.tmp 56) rfl s s rfl rfl true (by simp) ?_)
  go_ret
  refine ⟨?_, LL.out⟩
  first | rfl | simp
end Go.Proofs.Ytcjdodkbnhkbiaa
