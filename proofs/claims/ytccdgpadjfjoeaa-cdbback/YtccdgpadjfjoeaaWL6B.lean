import Derived.Test.YtccdgpadjfjoeaaWL6A
import Derived.Test.YtccdgpadjfjoeaaMAR
namespace Go.Proofs.Ytccdgpadjfjoeaa
open Go.ChangeShapes Go.WideShapes Go.ChangeAt Go.RowKit
set_option linter.unusedVariables false
set_option linter.unusedSimpArgs false

theorem wpList_eqS' {w : World} {ops : Array Oper} {rest : List Oper} {o : Oper} {a : Act} {Q : Exit → Act → World → Prop} (hw : Region.wanted o (yielded ops a.tmps) = true) (x y : Operand) (hop : o.op = .binOp .eql 28 x y 28)
    (s t : Sns) (hx : a.eval x = sval s) (hy : a.eval y = sval t) (r : Bool) (hr : (s == t) = r) (h : wpList Try.prog ops Q rest (a.put o.dst (.bool r)) w) : wpList Try.prog ops Q (o :: rest) a w := by
  subst hr
  exact wpList_eqS hw x y hop s t hx hy h
set_option maxHeartbeats 2000000 in
theorem cdbParses_ok (v0 v1 : Value) (w : World) (h0 : RBytes w v0) (h1 : RInt .i64 v1) :
    Calls Try.prog 3 #[v0, v1] w fun e w' => e = .returned (.bool true) ∧ Below w.heap.size w w' := by
  obtain ⟨l, hb⟩ := h0
  obtain ⟨op, rfl, hop⟩ := h1
  clear hop
  have HB := hide hb
  obtain ⟨hlm, al, cl, rfl, _, _⟩ := hb
  unfold maxLen at hlm
  obtain ⟨n, hn⟩ : ∃ n, n = l.length := ⟨_, rfl⟩
  rw [← hn] at HB hlm ⊢
  clear hn
  go_enter Try.func3, Try.ntmps3
  go_wp2_with fail
  refine (alive6_c _).mono ?_
  rintro e w1 ⟨rfl, hl⟩
  have LL := hide hl
  clear hl
  by_cases h100 : 100 < n
  · go_wp2
    go_ret
    exact ⟨rfl, LL.out⟩
  have hn100 : n ≤ 100 := by omega
  go_wp2_with fail
  refine (parse_c _ (HB.out.later LL.out)).mono ?_
  rintro e w2 ⟨rfl, hl⟩
  replace LL := hide (LL.out.trans hl)
  clear hl
  have HS := hide (parse_same l)
  generalize parseI l = p at *
  obtain ⟨C, S⟩ := p
  simp only
  go_wp2_with (refine wpList_newCS rfl rfl rfl rfl rfl rfl 5 6 rfl rfl (by simp) (by simp) (by decide) (.tmp 17) (.tmp 18) (by simp) (by simp) (by simp) (by simp) rfl rfl rfl rfl C S rfl rfl ?_)
  intro gA hA wA hB1 hB2 hl hg
  replace LL := hide (LL.out.trans hl)
  have CA := hide hB1
  have SA := hide hB2
  clear hl hg hB1 hB2
  go_wp2_with fail
  refine (rparse6_c _ (HB.out.later LL.out)).mono ?_
  rintro e w2 ⟨rfl, hl⟩
  rw [← HS.out]
  replace LL := hide (LL.out.trans hl)
  replace CA := hide (CA.out.later hl)
  replace SA := hide (SA.out.later hl)
  clear hl HS
  simp only
  go_wp2_with (refine wpList_newCS rfl rfl rfl rfl rfl rfl 7 8 rfl rfl (by simp) (by simp) (by decide) (.tmp 22) (.tmp 23) (by simp) (by simp) (by simp) (by simp) rfl rfl rfl rfl C S rfl rfl ?_)
  intro gB hB wB hB1 hB2 hl hg
  replace LL := hide (LL.out.trans hl)
  replace CA := hide (CA.out.later hl)
  replace SA := hide (SA.out.later hl)
  have CB := hide hB1
  have SB := hide hB2
  clear hl hg hB1 hB2
  have a0 := CA.out.cell 0
  have a1 := CA.out.cell 1
  have a2 := CA.out.cell 2
  have a3 := CA.out.cell 3
  have a4 := CA.out.cell 4
  have b0 := CB.out.cell 0
  have b1 := CB.out.cell 1
  have b2 := CB.out.cell 2
  have b3 := CB.out.cell 3
  have b4 := CB.out.cell 4
  have c0 := SA.out.cell 0
  have c1 := SA.out.cell 1
  have c2 := SA.out.cell 2
  have d0 := SB.out.cell 0
  have d1 := SB.out.cell 1
  have d2 := SB.out.cell 2
  go_wp2_with (first | (refine wpList_eqC (by kernel_rfl) (.tmp 24) (.tmp 25) rfl C C rfl rfl true (by simp) ?_) | (refine wpList_eqS' (by kernel_rfl) (.tmp 28) (.tmp 29) rfl S S rfl rfl true (by simp) ?_))
  clear a0 a1 a2 a3 a4 b0 b1 b2 b3 b4 c0 c1 c2 d0 d1 d2
  refine (size_c op _).mono ?_
  rintro e wq ⟨rfl, hl⟩
  replace LL := hide (LL.out.trans hl)
  clear hl
  go_wp2_with fail
  refine (rsize_c op _).mono ?_
  rintro e wq ⟨rfl, hl⟩
  replace LL := hide (LL.out.trans hl)
  clear hl
  go_wp2_with fail
  refine (known_c op _).mono ?_
  rintro e wq ⟨rfl, hl⟩
  replace LL := hide (LL.out.trans hl)
  clear hl
  go_wp2_with fail
  refine (rknown_c op _).mono ?_
  rintro e wq ⟨rfl, hl⟩
  replace LL := hide (LL.out.trans hl)
  clear hl
  go_wp2_with fail
  refine (class_c op _).mono ?_
  rintro e wq ⟨rfl, hw⟩
  have hw2 := hw.symm
  subst hw2
  clear hw
  go_wp2_with fail
  refine (rclass_c op _).mono ?_
  rintro e wq ⟨rfl, hw⟩
  have hw2 := hw.symm
  subst hw2
  clear hw
  go_wp2
  go_ret
  refine ⟨?_, LL.out⟩
  first | rfl | simp
end Go.Proofs.Ytccdgpadjfjoeaa
