import Derived.Test.YtbcikndebaeahaaMAP
namespace Go.Proofs.Ytbcikndebaeahaa
open Go.ChangeShapes Go.WideShapes Go.ChangeAt Go.RowKit
set_option linter.unusedVariables false
set_option maxRecDepth 4000
set_option linter.unusedSimpArgs false
set_option maxRecDepth 20000 in
set_option maxHeartbeats 4000000 in
theorem jobStarts_walk (hal : Alive10) (iS : IStart10) (c : Cmd) (w : World) (hc : OkC7 c) :
    Calls Try.prog 4 #[cval c] w fun e w' => e = .returned (.bool true) ∧ Below w.heap.size w w' := by
  have HC := hide hc
  clear hc
  have BX := hide (Box.new w 35 #[.int .i64 c.1, .int .u64 (c.2.1 : Int), .int .i64 c.2.2.1, .int .i64 c.2.2.2.1, .int .i64 c.2.2.2.2])
  have LL := hide ((Later.refl w).alloc (.cells #[.int .i64 c.1, .int .u64 (c.2.1 : Int), .int .i64 c.2.2.1, .int .i64 c.2.2.2.1, .int .i64 c.2.2.2.2] 35))
  go_enter Try.func4, Try.ntmps4
  go_wp2_with fail
  refine (hal _).mono ?_
  rintro e w1 ⟨rfl, hl⟩
  replace BX := hide (BX.out.later hl)
  replace LL := hide (LL.out.trans hl)
  clear hl
  have x0 := BX.out.cell 0
  have x1 := BX.out.cell 1
  have x2 := BX.out.cell 2
  have x3 := BX.out.cell 3
  have x4 := BX.out.cell 4
  go_wp2_with fail
  refine (iS c _ HC.out).mono ?_
  rintro e w2 ⟨va, rfl, hl, ar, cr, rfl, hb⟩
  replace BX := hide (BX.out.later hl)
  replace LL := hide (LL.out.trans hl)
  have VA := hide hb
  clear hl hb x0 x1 x2 x3 x4
  go_wp2_with (refine wpList_newJ rfl rfl rfl 3 rfl (by simp) (.tmp 12) (by simp) rfl (startC c) (startN c) 0 ar 0 cr (0, 0, 0) rfl ?_)
  intro g3 w3 hB hl hg
  replace BX := hide (BX.out.later hl)
  replace LL := hide (LL.out.trans hl)
  replace VA := hide (VA.out.later hl)
  have B3 := hide hB
  clear hl hg hB
  have x0 := BX.out.cell 0
  have x1 := BX.out.cell 1
  have x2 := BX.out.cell 2
  have x3 := BX.out.cell 3
  have x4 := BX.out.cell 4
  go_wp2_with fail
  refine (rstart_c c _ HC.out).mono ?_
  rintro e w4 ⟨rfl, hl⟩
  obtain ⟨hj, he⟩ := startJ_jb c w4
  rw [he]
  obtain ⟨ar', cr', hjv, hb⟩ := hj
  rw [hjv]
  replace LL := hide (LL.out.trans hl)
  replace VA := hide (VA.out.later hl)
  replace B3 := hide (B3.out.later hl)
  have VB := hide hb
  clear hl hb x0 x1 x2 x3 x4 BX he hjv
  go_wp2_with (refine wpList_newJ rfl rfl rfl 5 rfl (by simp) (.tmp 17) (by simp) rfl (startC c) (startN c) 0 ar' 0 cr' (0, 0, 0) rfl ?_)
  intro g5 w5 hB hl hg
  replace LL := hide (LL.out.trans hl)
  replace VA := hide (VA.out.later hl)
  replace VB := hide (VB.out.later hl)
  replace B3 := hide (B3.out.later hl)
  have B5 := hide hB
  clear hl hg hB
  have x_0 := B3.out.cell 0
  have x_1 := B3.out.cell 1
  have x_2 := B3.out.cell 2
  have x_3 := B3.out.cell 3
  have x_4 := B3.out.cell 4
  have x_5 := B3.out.cell 5
  have x_6 := B3.out.cell 6
  have x_7 := B3.out.cell 7
  have x_8 := B3.out.cell 8
  have x_9 := B3.out.cell 9
  have x_10 := B3.out.cell 10
  have y_0 := B5.out.cell 0
  have y_1 := B5.out.cell 1
  have y_2 := B5.out.cell 2
  have y_3 := B5.out.cell 3
  have y_4 := B5.out.cell 4
  have y_5 := B5.out.cell 5
  have y_6 := B5.out.cell 6
  have y_7 := B5.out.cell 7
  have y_8 := B5.out.cell 8
  have y_9 := B5.out.cell 9
  have y_10 := B5.out.cell 10
  go_wp2_with fail
  refine (rsame10_c _ (show Jb w5 (jval (startC c) (startN c) 0 ar 0 cr (0, 0, 0)) (startC c) (startN c) 0 [] (0, 0, 0) from ⟨ar, cr, rfl, VA.out⟩) (show Jb w5 (jval (startC c) (startN c) 0 ar' 0 cr' (0, 0, 0)) (startC c) (startN c) 0 [] (0, 0, 0) from ⟨ar', cr', rfl, VB.out⟩)).mono ?_
  rintro e w6 ⟨rfl, hl⟩
  replace LL := hide (LL.out.trans hl)
  clear hl
  rw [show (startC c == startC c && (startN c == startN c && ((0 : Int) == 0 && (([] : List UInt8) == [] && ((0, 0, 0) : Sns) == (0, 0, 0))))) = true from by simp]
  go_wp2
  go_ret
  exact ⟨by first | rfl | simp, LL.out⟩
end Go.Proofs.Ytbcikndebaeahaa
