import Derived.Test.YtcjdodkbnhkbiaaMAP
namespace Go.Proofs.Ytcjdodkbnhkbiaa
open Go.ChangeShapes Go.WideShapes Go.ChangeAt Go.RowKit
set_option linter.unusedVariables false
set_option linter.unusedSimpArgs false

theorem wpList_neqS8 {w : World} {ops : Array Oper} {rest : List Oper} {o : Oper} {a : Act} {Q : Exit → Act → World → Prop} (hw : Region.wanted o (yielded ops a.tmps) = true) (x y : Operand) (hop : o.op = .binOp .neq 28 x y 28)
    (s t : Sns) (hx : a.eval x = sval s) (hy : a.eval y = sval t) (r : Bool) (hr : (!(s == t)) = r) (h : wpList Try.prog ops Q rest (a.put o.dst (.bool r)) w) : wpList Try.prog ops Q (o :: rest) a w := by
  subst hr
  exact wpList_neqS hw x y hop s t hx hy h
def opB (ten : Bool) : Int := if ten then 90 else 26
theorem mans_no (ten : Bool) (page : Int) (a p : Bool) (h8 : page ≠ 8) (h28 : page ≠ 28) (h63 : page ≠ 63) : mansR (opB ten, 0, 200, page, 0) a p = ([], (5, 36, 0)) := by
  have hb : mpB page = false := by simp [mpB, h8, h28, h63]
  unfold mansR
  simp only [hb]
  rw [if_neg (by cases ten <;> simp [opB]), if_neg (by simp), if_pos trivial]
theorem mans_yes (ten : Bool) (page : Int) (a p c : Bool) (h : page = 8 ∨ page = 28 ∨ page = 63) : ∃ l, l.length ≤ 40 ∧ mansR (opB ten, 0, 200, page, 0) a p = (l, (0, 0, 0)) ∧
    selR l ten c = ((if page = 28 then c else a), (0, 0, 0)) ∧ mansR (opB ten, 0, 200, page, 0) (if page = 28 then c else a) p = (l, (0, 0, 0)) := by
  rcases h with rfl | rfl | rfl <;> cases ten <;> cases a <;> cases p <;> cases c <;> exact ⟨_, by decide, rfl, by decide, by decide⟩
set_option maxRecDepth 20000 in
set_option maxHeartbeats 4000000 in
theorem mback_no_true (hal : Alive8) (iA : IAns8) (page : Int) (a p c : Bool) (w : World) (hp : In64 page) (h8 : page ≠ 8) (h28 : page ≠ 28) (h63 : page ≠ 63) :
    Calls Try.prog 5 #[.int .i64 page, .bool true, .agg #[.bool a, .bool p, .bool c]] w fun e w' => e = .returned (.bool true) ∧ Below w.heap.size w w' := by
  have HP := hide hp
  have HM := hide (mans_no true page a p h8 h28 h63)
  have e8 : (page != 8) = true := by simp [h8]
  have e28 : (page != 28) = true := by simp [h28]
  have e63 : (page != 63) = true := by simp [h63]
  clear hp h8 h28 h63
  have BX := hide (Box.new w 37 #[.bool a, .bool p, .bool c])
  have LL := hide ((Later.refl w).alloc (.cells #[.bool a, .bool p, .bool c] 37))
  go_enter Try.func5, Try.ntmps5
  go_wp2_with fail
  refine (hal _).mono ?_
  rintro e w1 ⟨rfl, hl⟩
  replace BX := hide (BX.out.later hl)
  replace LL := hide (LL.out.trans hl)
  clear hl
  have z0 := BX.out.cell 0
  have z1 := BX.out.cell 1
  have z2 := BX.out.cell 2
  go_wp2_with fail
  refine (iA (90, 0, 200, page, 0) a p _ ⟨(by decide : In64 90), (by decide : (0 : Nat) ≤ 18446744073709551615), (by decide : In64 200), HP.out, (by decide : In64 0)⟩).mono ?_
  rintro e w2 ⟨vb, rfl, hl, hv⟩
  rw [show mansR (90, 0, 200, page, 0) a p = ([], (5, 36, 0)) from HM.out] at hv ⊢
  simp only at hv ⊢
  replace LL := hide (LL.out.trans hl)
  have VB := hide hv
  clear hl hv z0 z1 z2 BX
  go_wp2_with (refine wpList_newAS rfl rfl rfl rfl 9 8 rfl rfl (by simp) (by decide) (.tmp 27) (.tmp 28) (by simp) (by simp) (by simp) rfl rfl rfl _ (5, 36, 0) rfl rfl ?_)
  intro g9 w3 hB hl hg
  replace LL := hide (LL.out.trans hl)
  have S9 := hide hB
  clear hl hg hB
  obtain ⟨_, ab, cb, rfl, _, _⟩ := VB.out
  clear VB
  have s0 := S9.out.cell 0
  have s1 := S9.out.cell 1
  have s2 := S9.out.cell 2
  go_wp2_with (refine wpList_neqS8 (by kernel_rfl) (.tmp 29) (.tmp 30) rfl (5, 36, 0) (0, 0, 0) rfl rfl true rfl ?_)
  go_ret
  exact ⟨by first | rfl | simp, LL.out⟩
set_option maxRecDepth 20000 in
set_option maxHeartbeats 4000000 in
theorem mback_no_false (hal : Alive8) (iA : IAns8) (page : Int) (a p c : Bool) (w : World) (hp : In64 page) (h8 : page ≠ 8) (h28 : page ≠ 28) (h63 : page ≠ 63) :
    Calls Try.prog 5 #[.int .i64 page, .bool false, .agg #[.bool a, .bool p, .bool c]] w fun e w' => e = .returned (.bool true) ∧ Below w.heap.size w w' := by
  have HP := hide hp
  have HM := hide (mans_no false page a p h8 h28 h63)
  have e8 : (page != 8) = true := by simp [h8]
  have e28 : (page != 28) = true := by simp [h28]
  have e63 : (page != 63) = true := by simp [h63]
  clear hp h8 h28 h63
  have BX := hide (Box.new w 37 #[.bool a, .bool p, .bool c])
  have LL := hide ((Later.refl w).alloc (.cells #[.bool a, .bool p, .bool c] 37))
  go_enter Try.func5, Try.ntmps5
  go_wp2_with fail
  refine (hal _).mono ?_
  rintro e w1 ⟨rfl, hl⟩
  replace BX := hide (BX.out.later hl)
  replace LL := hide (LL.out.trans hl)
  clear hl
  have z0 := BX.out.cell 0
  have z1 := BX.out.cell 1
  have z2 := BX.out.cell 2
  go_wp2_with fail
  refine (iA (26, 0, 200, page, 0) a p _ ⟨(by decide : In64 26), (by decide : (0 : Nat) ≤ 18446744073709551615), (by decide : In64 200), HP.out, (by decide : In64 0)⟩).mono ?_
  rintro e w2 ⟨vb, rfl, hl, hv⟩
  rw [show mansR (26, 0, 200, page, 0) a p = ([], (5, 36, 0)) from HM.out] at hv ⊢
  simp only at hv ⊢
  replace LL := hide (LL.out.trans hl)
  have VB := hide hv
  clear hl hv z0 z1 z2 BX
  go_wp2_with (refine wpList_newAS rfl rfl rfl rfl 9 8 rfl rfl (by simp) (by decide) (.tmp 27) (.tmp 28) (by simp) (by simp) (by simp) rfl rfl rfl _ (5, 36, 0) rfl rfl ?_)
  intro g9 w3 hB hl hg
  replace LL := hide (LL.out.trans hl)
  have S9 := hide hB
  clear hl hg hB
  obtain ⟨_, ab, cb, rfl, _, _⟩ := VB.out
  clear VB
  have s0 := S9.out.cell 0
  have s1 := S9.out.cell 1
  have s2 := S9.out.cell 2
  go_wp2_with (refine wpList_neqS8 (by kernel_rfl) (.tmp 29) (.tmp 30) rfl (5, 36, 0) (0, 0, 0) rfl rfl true rfl ?_)
  go_ret
  exact ⟨by first | rfl | simp, LL.out⟩
set_option maxRecDepth 20000 in
set_option maxHeartbeats 4000000 in
theorem mback_true_true (hal : Alive8) (iA : IAns8) (iS : ISel8) (page : Int) (a p c : Bool) (w : World) (hp : In64 page) (hg : page = 8 ∨ page = 28 ∨ page = 63) (h28 : (page == 28) = true) :
    Calls Try.prog 5 #[.int .i64 page, .bool true, .agg #[.bool a, .bool p, .bool c]] w fun e w' => e = .returned (.bool true) ∧ Below w.heap.size w w' := by
  have HP := hide hp
  obtain ⟨l, hl, hm1, hm2, hm3⟩ := mans_yes true page a p c hg
  have hx : (if page = 28 then c else a) = c := if_pos (by simpa using h28)
  rw [hx] at hm2 hm3
  have HL := hide hl
  have HM1 := hide hm1
  have HM2 := hide hm2
  have HM3 := hide hm3
  clear hp hg hl hm1 hm2 hm3 hx
  have BX := hide (Box.new w 37 #[.bool a, .bool p, .bool c])
  have LL := hide ((Later.refl w).alloc (.cells #[.bool a, .bool p, .bool c] 37))
  go_enter Try.func5, Try.ntmps5
  go_wp2_with fail
  refine (hal _).mono ?_
  rintro e w1 ⟨rfl, hl⟩
  replace BX := hide (BX.out.later hl)
  replace LL := hide (LL.out.trans hl)
  clear hl
  have z0 := BX.out.cell 0
  have z1 := BX.out.cell 1
  have z2 := BX.out.cell 2
  go_wp2_with fail
  refine (iA (90, 0, 200, page, 0) a p _ ⟨(by decide : In64 90), (by decide : (0 : Nat) ≤ 18446744073709551615), (by decide : In64 200), HP.out, (by decide : In64 0)⟩).mono ?_
  rintro e w2 ⟨vb, rfl, hl, hv⟩
  rw [show mansR (90, 0, 200, page, 0) a p = (l, (0, 0, 0)) from HM1.out] at hv ⊢
  simp only at hv ⊢
  replace LL := hide (LL.out.trans hl)
  replace BX := hide (BX.out.later hl)
  have VB := hide hv
  clear hl hv z0 z1 z2
  go_wp2_with (refine wpList_newAS rfl rfl rfl rfl 9 8 rfl rfl (by simp) (by decide) (.tmp 27) (.tmp 28) (by simp) (by simp) (by simp) rfl rfl rfl _ (0, 0, 0) rfl rfl ?_)
  intro g9 w3 hB hl hg
  replace LL := hide (LL.out.trans hl)
  replace BX := hide (BX.out.later hl)
  replace VB := hide (VB.out.later hl)
  have S9 := hide hB
  clear hl hg hB
  have s0 := S9.out.cell 0
  have s1 := S9.out.cell 1
  have s2 := S9.out.cell 2
  have z0 := BX.out.cell 0
  have z1 := BX.out.cell 1
  have z2 := BX.out.cell 2
  go_wp2_with (refine wpList_neqS8 (by kernel_rfl) (.tmp 29) (.tmp 30) rfl (0, 0, 0) (0, 0, 0) rfl rfl false rfl ?_)
  refine (iS _ l true c _ VB.out (by have := HL.out; omega)).mono ?_
  rintro e w4 ⟨rfl, hl⟩
  rw [show selR l true c = (c, (0, 0, 0)) from HM2.out]
  simp only
  replace LL := hide (LL.out.trans hl)
  replace BX := hide (BX.out.later hl)
  replace VB := hide (VB.out.later hl)
  replace S9 := hide (S9.out.later hl)
  clear hl z0 z1 z2 s0 s1 s2
  go_wp2_with (refine wpList_newAS rfl rfl rfl rfl 11 10 rfl rfl (by simp) (by decide) (.tmp 53) (.tmp 54) (by simp) (by simp) (by simp) rfl rfl rfl _ (0, 0, 0) rfl rfl ?_)
  intro g11 w5 hB hl hg
  replace LL := hide (LL.out.trans hl)
  replace BX := hide (BX.out.later hl)
  replace VB := hide (VB.out.later hl)
  replace S9 := hide (S9.out.later hl)
  have S11 := hide hB
  clear hl hg hB
  have z0 := BX.out.cell 0
  have z1 := BX.out.cell 1
  have z2 := BX.out.cell 2
  go_wp2_with fail
  refine (iA (90, 0, 200, page, 0) c p _ ⟨(by decide : In64 90), (by decide : (0 : Nat) ≤ 18446744073709551615), (by decide : In64 200), HP.out, (by decide : In64 0)⟩).mono ?_
  rintro e w6 ⟨vc, rfl, hl, hv⟩
  rw [show mansR (90, 0, 200, page, 0) c p = (l, (0, 0, 0)) from HM3.out] at hv ⊢
  simp only at hv ⊢
  replace LL := hide (LL.out.trans hl)
  replace VB := hide (VB.out.later hl)
  replace S9 := hide (S9.out.later hl)
  replace S11 := hide (S11.out.later hl)
  have VC := hide hv
  clear hl hv z0 z1 z2 BX
  go_wp2_with (refine wpList_newAS rfl rfl rfl rfl 14 13 rfl rfl (by simp) (by decide) (.tmp 69) (.tmp 70) (by simp) (by simp) (by simp) rfl rfl rfl _ (0, 0, 0) rfl rfl ?_)
  intro g14 w7 hB hl hg
  replace LL := hide (LL.out.trans hl)
  replace VB := hide (VB.out.later hl)
  replace VC := hide (VC.out.later hl)
  replace S9 := hide (S9.out.later hl)
  replace S11 := hide (S11.out.later hl)
  have S14 := hide hB
  clear hl hg hB
  have s0 := S9.out.cell 0
  have s1 := S9.out.cell 1
  have s2 := S9.out.cell 2
  have t0 := S11.out.cell 0
  have t1 := S11.out.cell 1
  have t2 := S11.out.cell 2
  have u0 := S14.out.cell 0
  have u1 := S14.out.cell 1
  have u2 := S14.out.cell 2
  have gb := VB.out.strOf
  have gc := VC.out.strOf
  generalize strOf l = sl at *
  go_wp2_with (first
    | refine wpList_eqS8 (by kernel_rfl) (.tmp 71) (.tmp 72) rfl (0, 0, 0) (0, 0, 0) rfl rfl true rfl ?_
    | refine wpList_eqS8 (by kernel_rfl) (.tmp 75) (.tmp 76) rfl (0, 0, 0) (0, 0, 0) rfl rfl true rfl ?_)
  go_ret
  exact ⟨by first | rfl | simp, LL.out⟩
set_option maxRecDepth 20000 in
set_option maxHeartbeats 4000000 in
theorem mback_true_false (hal : Alive8) (iA : IAns8) (iS : ISel8) (page : Int) (a p c : Bool) (w : World) (hp : In64 page) (hg : page = 8 ∨ page = 28 ∨ page = 63) (h28 : (page == 28) = false) :
    Calls Try.prog 5 #[.int .i64 page, .bool true, .agg #[.bool a, .bool p, .bool c]] w fun e w' => e = .returned (.bool true) ∧ Below w.heap.size w w' := by
  have HP := hide hp
  obtain ⟨l, hl, hm1, hm2, hm3⟩ := mans_yes true page a p c hg
  have hx : (if page = 28 then c else a) = a := if_neg (by simpa using h28)
  rw [hx] at hm2 hm3
  have HL := hide hl
  have HM1 := hide hm1
  have HM2 := hide hm2
  have HM3 := hide hm3
  clear hp hg hl hm1 hm2 hm3 hx
  have BX := hide (Box.new w 37 #[.bool a, .bool p, .bool c])
  have LL := hide ((Later.refl w).alloc (.cells #[.bool a, .bool p, .bool c] 37))
  go_enter Try.func5, Try.ntmps5
  go_wp2_with fail
  refine (hal _).mono ?_
  rintro e w1 ⟨rfl, hl⟩
  replace BX := hide (BX.out.later hl)
  replace LL := hide (LL.out.trans hl)
  clear hl
  have z0 := BX.out.cell 0
  have z1 := BX.out.cell 1
  have z2 := BX.out.cell 2
  go_wp2_with fail
  refine (iA (90, 0, 200, page, 0) a p _ ⟨(by decide : In64 90), (by decide : (0 : Nat) ≤ 18446744073709551615), (by decide : In64 200), HP.out, (by decide : In64 0)⟩).mono ?_
  rintro e w2 ⟨vb, rfl, hl, hv⟩
  rw [show mansR (90, 0, 200, page, 0) a p = (l, (0, 0, 0)) from HM1.out] at hv ⊢
  simp only at hv ⊢
  replace LL := hide (LL.out.trans hl)
  replace BX := hide (BX.out.later hl)
  have VB := hide hv
  clear hl hv z0 z1 z2
  go_wp2_with (refine wpList_newAS rfl rfl rfl rfl 9 8 rfl rfl (by simp) (by decide) (.tmp 27) (.tmp 28) (by simp) (by simp) (by simp) rfl rfl rfl _ (0, 0, 0) rfl rfl ?_)
  intro g9 w3 hB hl hg
  replace LL := hide (LL.out.trans hl)
  replace BX := hide (BX.out.later hl)
  replace VB := hide (VB.out.later hl)
  have S9 := hide hB
  clear hl hg hB
  have s0 := S9.out.cell 0
  have s1 := S9.out.cell 1
  have s2 := S9.out.cell 2
  have z0 := BX.out.cell 0
  have z1 := BX.out.cell 1
  have z2 := BX.out.cell 2
  go_wp2_with (refine wpList_neqS8 (by kernel_rfl) (.tmp 29) (.tmp 30) rfl (0, 0, 0) (0, 0, 0) rfl rfl false rfl ?_)
  refine (iS _ l true c _ VB.out (by have := HL.out; omega)).mono ?_
  rintro e w4 ⟨rfl, hl⟩
  rw [show selR l true c = (a, (0, 0, 0)) from HM2.out]
  simp only
  replace LL := hide (LL.out.trans hl)
  replace BX := hide (BX.out.later hl)
  replace VB := hide (VB.out.later hl)
  replace S9 := hide (S9.out.later hl)
  clear hl z0 z1 z2 s0 s1 s2
  go_wp2_with (refine wpList_newAS rfl rfl rfl rfl 11 10 rfl rfl (by simp) (by decide) (.tmp 53) (.tmp 54) (by simp) (by simp) (by simp) rfl rfl rfl _ (0, 0, 0) rfl rfl ?_)
  intro g11 w5 hB hl hg
  replace LL := hide (LL.out.trans hl)
  replace BX := hide (BX.out.later hl)
  replace VB := hide (VB.out.later hl)
  replace S9 := hide (S9.out.later hl)
  have S11 := hide hB
  clear hl hg hB
  have z0 := BX.out.cell 0
  have z1 := BX.out.cell 1
  have z2 := BX.out.cell 2
  go_wp2_with fail
  refine (iA (90, 0, 200, page, 0) a p _ ⟨(by decide : In64 90), (by decide : (0 : Nat) ≤ 18446744073709551615), (by decide : In64 200), HP.out, (by decide : In64 0)⟩).mono ?_
  rintro e w6 ⟨vc, rfl, hl, hv⟩
  rw [show mansR (90, 0, 200, page, 0) a p = (l, (0, 0, 0)) from HM3.out] at hv ⊢
  simp only at hv ⊢
  replace LL := hide (LL.out.trans hl)
  replace VB := hide (VB.out.later hl)
  replace S9 := hide (S9.out.later hl)
  replace S11 := hide (S11.out.later hl)
  have VC := hide hv
  clear hl hv z0 z1 z2 BX
  go_wp2_with (refine wpList_newAS rfl rfl rfl rfl 14 13 rfl rfl (by simp) (by decide) (.tmp 69) (.tmp 70) (by simp) (by simp) (by simp) rfl rfl rfl _ (0, 0, 0) rfl rfl ?_)
  intro g14 w7 hB hl hg
  replace LL := hide (LL.out.trans hl)
  replace VB := hide (VB.out.later hl)
  replace VC := hide (VC.out.later hl)
  replace S9 := hide (S9.out.later hl)
  replace S11 := hide (S11.out.later hl)
  have S14 := hide hB
  clear hl hg hB
  have s0 := S9.out.cell 0
  have s1 := S9.out.cell 1
  have s2 := S9.out.cell 2
  have t0 := S11.out.cell 0
  have t1 := S11.out.cell 1
  have t2 := S11.out.cell 2
  have u0 := S14.out.cell 0
  have u1 := S14.out.cell 1
  have u2 := S14.out.cell 2
  have gb := VB.out.strOf
  have gc := VC.out.strOf
  generalize strOf l = sl at *
  go_wp2_with (first
    | refine wpList_eqS8 (by kernel_rfl) (.tmp 71) (.tmp 72) rfl (0, 0, 0) (0, 0, 0) rfl rfl true rfl ?_
    | refine wpList_eqS8 (by kernel_rfl) (.tmp 75) (.tmp 76) rfl (0, 0, 0) (0, 0, 0) rfl rfl true rfl ?_)
  go_ret
  exact ⟨by first | rfl | simp, LL.out⟩
set_option maxRecDepth 20000 in
set_option maxHeartbeats 4000000 in
theorem mback_false_true (hal : Alive8) (iA : IAns8) (iS : ISel8) (page : Int) (a p c : Bool) (w : World) (hp : In64 page) (hg : page = 8 ∨ page = 28 ∨ page = 63) (h28 : (page == 28) = true) :
    Calls Try.prog 5 #[.int .i64 page, .bool false, .agg #[.bool a, .bool p, .bool c]] w fun e w' => e = .returned (.bool true) ∧ Below w.heap.size w w' := by
  have HP := hide hp
  obtain ⟨l, hl, hm1, hm2, hm3⟩ := mans_yes false page a p c hg
  have hx : (if page = 28 then c else a) = c := if_pos (by simpa using h28)
  rw [hx] at hm2 hm3
  have HL := hide hl
  have HM1 := hide hm1
  have HM2 := hide hm2
  have HM3 := hide hm3
  clear hp hg hl hm1 hm2 hm3 hx
  have BX := hide (Box.new w 37 #[.bool a, .bool p, .bool c])
  have LL := hide ((Later.refl w).alloc (.cells #[.bool a, .bool p, .bool c] 37))
  go_enter Try.func5, Try.ntmps5
  go_wp2_with fail
  refine (hal _).mono ?_
  rintro e w1 ⟨rfl, hl⟩
  replace BX := hide (BX.out.later hl)
  replace LL := hide (LL.out.trans hl)
  clear hl
  have z0 := BX.out.cell 0
  have z1 := BX.out.cell 1
  have z2 := BX.out.cell 2
  go_wp2_with fail
  refine (iA (26, 0, 200, page, 0) a p _ ⟨(by decide : In64 26), (by decide : (0 : Nat) ≤ 18446744073709551615), (by decide : In64 200), HP.out, (by decide : In64 0)⟩).mono ?_
  rintro e w2 ⟨vb, rfl, hl, hv⟩
  rw [show mansR (26, 0, 200, page, 0) a p = (l, (0, 0, 0)) from HM1.out] at hv ⊢
  simp only at hv ⊢
  replace LL := hide (LL.out.trans hl)
  replace BX := hide (BX.out.later hl)
  have VB := hide hv
  clear hl hv z0 z1 z2
  go_wp2_with (refine wpList_newAS rfl rfl rfl rfl 9 8 rfl rfl (by simp) (by decide) (.tmp 27) (.tmp 28) (by simp) (by simp) (by simp) rfl rfl rfl _ (0, 0, 0) rfl rfl ?_)
  intro g9 w3 hB hl hg
  replace LL := hide (LL.out.trans hl)
  replace BX := hide (BX.out.later hl)
  replace VB := hide (VB.out.later hl)
  have S9 := hide hB
  clear hl hg hB
  have s0 := S9.out.cell 0
  have s1 := S9.out.cell 1
  have s2 := S9.out.cell 2
  have z0 := BX.out.cell 0
  have z1 := BX.out.cell 1
  have z2 := BX.out.cell 2
  go_wp2_with (refine wpList_neqS8 (by kernel_rfl) (.tmp 29) (.tmp 30) rfl (0, 0, 0) (0, 0, 0) rfl rfl false rfl ?_)
  refine (iS _ l false c _ VB.out (by have := HL.out; omega)).mono ?_
  rintro e w4 ⟨rfl, hl⟩
  rw [show selR l false c = (c, (0, 0, 0)) from HM2.out]
  simp only
  replace LL := hide (LL.out.trans hl)
  replace BX := hide (BX.out.later hl)
  replace VB := hide (VB.out.later hl)
  replace S9 := hide (S9.out.later hl)
  clear hl z0 z1 z2 s0 s1 s2
  go_wp2_with (refine wpList_newAS rfl rfl rfl rfl 11 10 rfl rfl (by simp) (by decide) (.tmp 53) (.tmp 54) (by simp) (by simp) (by simp) rfl rfl rfl _ (0, 0, 0) rfl rfl ?_)
  intro g11 w5 hB hl hg
  replace LL := hide (LL.out.trans hl)
  replace BX := hide (BX.out.later hl)
  replace VB := hide (VB.out.later hl)
  replace S9 := hide (S9.out.later hl)
  have S11 := hide hB
  clear hl hg hB
  have z0 := BX.out.cell 0
  have z1 := BX.out.cell 1
  have z2 := BX.out.cell 2
  go_wp2_with fail
  refine (iA (26, 0, 200, page, 0) c p _ ⟨(by decide : In64 26), (by decide : (0 : Nat) ≤ 18446744073709551615), (by decide : In64 200), HP.out, (by decide : In64 0)⟩).mono ?_
  rintro e w6 ⟨vc, rfl, hl, hv⟩
  rw [show mansR (26, 0, 200, page, 0) c p = (l, (0, 0, 0)) from HM3.out] at hv ⊢
  simp only at hv ⊢
  replace LL := hide (LL.out.trans hl)
  replace VB := hide (VB.out.later hl)
  replace S9 := hide (S9.out.later hl)
  replace S11 := hide (S11.out.later hl)
  have VC := hide hv
  clear hl hv z0 z1 z2 BX
  go_wp2_with (refine wpList_newAS rfl rfl rfl rfl 14 13 rfl rfl (by simp) (by decide) (.tmp 69) (.tmp 70) (by simp) (by simp) (by simp) rfl rfl rfl _ (0, 0, 0) rfl rfl ?_)
  intro g14 w7 hB hl hg
  replace LL := hide (LL.out.trans hl)
  replace VB := hide (VB.out.later hl)
  replace VC := hide (VC.out.later hl)
  replace S9 := hide (S9.out.later hl)
  replace S11 := hide (S11.out.later hl)
  have S14 := hide hB
  clear hl hg hB
  have s0 := S9.out.cell 0
  have s1 := S9.out.cell 1
  have s2 := S9.out.cell 2
  have t0 := S11.out.cell 0
  have t1 := S11.out.cell 1
  have t2 := S11.out.cell 2
  have u0 := S14.out.cell 0
  have u1 := S14.out.cell 1
  have u2 := S14.out.cell 2
  have gb := VB.out.strOf
  have gc := VC.out.strOf
  generalize strOf l = sl at *
  go_wp2_with (first
    | refine wpList_eqS8 (by kernel_rfl) (.tmp 71) (.tmp 72) rfl (0, 0, 0) (0, 0, 0) rfl rfl true rfl ?_
    | refine wpList_eqS8 (by kernel_rfl) (.tmp 75) (.tmp 76) rfl (0, 0, 0) (0, 0, 0) rfl rfl true rfl ?_)
  go_ret
  exact ⟨by first | rfl | simp, LL.out⟩
set_option maxRecDepth 20000 in
set_option maxHeartbeats 4000000 in
theorem mback_false_false (hal : Alive8) (iA : IAns8) (iS : ISel8) (page : Int) (a p c : Bool) (w : World) (hp : In64 page) (hg : page = 8 ∨ page = 28 ∨ page = 63) (h28 : (page == 28) = false) :
    Calls Try.prog 5 #[.int .i64 page, .bool false, .agg #[.bool a, .bool p, .bool c]] w fun e w' => e = .returned (.bool true) ∧ Below w.heap.size w w' := by
  have HP := hide hp
  obtain ⟨l, hl, hm1, hm2, hm3⟩ := mans_yes false page a p c hg
  have hx : (if page = 28 then c else a) = a := if_neg (by simpa using h28)
  rw [hx] at hm2 hm3
  have HL := hide hl
  have HM1 := hide hm1
  have HM2 := hide hm2
  have HM3 := hide hm3
  clear hp hg hl hm1 hm2 hm3 hx
  have BX := hide (Box.new w 37 #[.bool a, .bool p, .bool c])
  have LL := hide ((Later.refl w).alloc (.cells #[.bool a, .bool p, .bool c] 37))
  go_enter Try.func5, Try.ntmps5
  go_wp2_with fail
  refine (hal _).mono ?_
  rintro e w1 ⟨rfl, hl⟩
  replace BX := hide (BX.out.later hl)
  replace LL := hide (LL.out.trans hl)
  clear hl
  have z0 := BX.out.cell 0
  have z1 := BX.out.cell 1
  have z2 := BX.out.cell 2
  go_wp2_with fail
  refine (iA (26, 0, 200, page, 0) a p _ ⟨(by decide : In64 26), (by decide : (0 : Nat) ≤ 18446744073709551615), (by decide : In64 200), HP.out, (by decide : In64 0)⟩).mono ?_
  rintro e w2 ⟨vb, rfl, hl, hv⟩
  rw [show mansR (26, 0, 200, page, 0) a p = (l, (0, 0, 0)) from HM1.out] at hv ⊢
  simp only at hv ⊢
  replace LL := hide (LL.out.trans hl)
  replace BX := hide (BX.out.later hl)
  have VB := hide hv
  clear hl hv z0 z1 z2
  go_wp2_with (refine wpList_newAS rfl rfl rfl rfl 9 8 rfl rfl (by simp) (by decide) (.tmp 27) (.tmp 28) (by simp) (by simp) (by simp) rfl rfl rfl _ (0, 0, 0) rfl rfl ?_)
  intro g9 w3 hB hl hg
  replace LL := hide (LL.out.trans hl)
  replace BX := hide (BX.out.later hl)
  replace VB := hide (VB.out.later hl)
  have S9 := hide hB
  clear hl hg hB
  have s0 := S9.out.cell 0
  have s1 := S9.out.cell 1
  have s2 := S9.out.cell 2
  have z0 := BX.out.cell 0
  have z1 := BX.out.cell 1
  have z2 := BX.out.cell 2
  go_wp2_with (refine wpList_neqS8 (by kernel_rfl) (.tmp 29) (.tmp 30) rfl (0, 0, 0) (0, 0, 0) rfl rfl false rfl ?_)
  refine (iS _ l false c _ VB.out (by have := HL.out; omega)).mono ?_
  rintro e w4 ⟨rfl, hl⟩
  rw [show selR l false c = (a, (0, 0, 0)) from HM2.out]
  simp only
  replace LL := hide (LL.out.trans hl)
  replace BX := hide (BX.out.later hl)
  replace VB := hide (VB.out.later hl)
  replace S9 := hide (S9.out.later hl)
  clear hl z0 z1 z2 s0 s1 s2
  go_wp2_with (refine wpList_newAS rfl rfl rfl rfl 11 10 rfl rfl (by simp) (by decide) (.tmp 53) (.tmp 54) (by simp) (by simp) (by simp) rfl rfl rfl _ (0, 0, 0) rfl rfl ?_)
  intro g11 w5 hB hl hg
  replace LL := hide (LL.out.trans hl)
  replace BX := hide (BX.out.later hl)
  replace VB := hide (VB.out.later hl)
  replace S9 := hide (S9.out.later hl)
  have S11 := hide hB
  clear hl hg hB
  have z0 := BX.out.cell 0
  have z1 := BX.out.cell 1
  have z2 := BX.out.cell 2
  go_wp2_with fail
  refine (iA (26, 0, 200, page, 0) a p _ ⟨(by decide : In64 26), (by decide : (0 : Nat) ≤ 18446744073709551615), (by decide : In64 200), HP.out, (by decide : In64 0)⟩).mono ?_
  rintro e w6 ⟨vc, rfl, hl, hv⟩
  rw [show mansR (26, 0, 200, page, 0) a p = (l, (0, 0, 0)) from HM3.out] at hv ⊢
  simp only at hv ⊢
  replace LL := hide (LL.out.trans hl)
  replace VB := hide (VB.out.later hl)
  replace S9 := hide (S9.out.later hl)
  replace S11 := hide (S11.out.later hl)
  have VC := hide hv
  clear hl hv z0 z1 z2 BX
  go_wp2_with (refine wpList_newAS rfl rfl rfl rfl 14 13 rfl rfl (by simp) (by decide) (.tmp 69) (.tmp 70) (by simp) (by simp) (by simp) rfl rfl rfl _ (0, 0, 0) rfl rfl ?_)
  intro g14 w7 hB hl hg
  replace LL := hide (LL.out.trans hl)
  replace VB := hide (VB.out.later hl)
  replace VC := hide (VC.out.later hl)
  replace S9 := hide (S9.out.later hl)
  replace S11 := hide (S11.out.later hl)
  have S14 := hide hB
  clear hl hg hB
  have s0 := S9.out.cell 0
  have s1 := S9.out.cell 1
  have s2 := S9.out.cell 2
  have t0 := S11.out.cell 0
  have t1 := S11.out.cell 1
  have t2 := S11.out.cell 2
  have u0 := S14.out.cell 0
  have u1 := S14.out.cell 1
  have u2 := S14.out.cell 2
  have gb := VB.out.strOf
  have gc := VC.out.strOf
  generalize strOf l = sl at *
  go_wp2_with (first
    | refine wpList_eqS8 (by kernel_rfl) (.tmp 71) (.tmp 72) rfl (0, 0, 0) (0, 0, 0) rfl rfl true rfl ?_
    | refine wpList_eqS8 (by kernel_rfl) (.tmp 75) (.tmp 76) rfl (0, 0, 0) (0, 0, 0) rfl rfl true rfl ?_)
  go_ret
  exact ⟨by first | rfl | simp, LL.out⟩
theorem modeBack_walk (hal : Alive8) (iA : IAns8) (iS : ISel8) (page : Int) (ten a p c : Bool) (w : World) (hp : In64 page) :
    Calls Try.prog 5 #[.int .i64 page, .bool ten, .agg #[.bool a, .bool p, .bool c]] w fun e w' => e = .returned (.bool true) ∧ Below w.heap.size w w' := by
  by_cases hg : page = 8 ∨ page = 28 ∨ page = 63
  · by_cases h28 : page = 28
    · cases ten with
      | true => exact mback_true_true hal iA iS page a p c w hp hg (by simp [h28])
      | false => exact mback_false_true hal iA iS page a p c w hp hg (by simp [h28])
    · cases ten with
      | true => exact mback_true_false hal iA iS page a p c w hp hg (by simp [h28])
      | false => exact mback_false_false hal iA iS page a p c w hp hg (by simp [h28])
  · cases ten with
    | true => exact mback_no_true hal iA page a p c w hp (fun h => hg (.inl h)) (fun h => hg (.inr (.inl h))) (fun h => hg (.inr (.inr h)))
    | false => exact mback_no_false hal iA page a p c w hp (fun h => hg (.inl h)) (fun h => hg (.inr (.inl h))) (fun h => hg (.inr (.inr h)))
end Go.Proofs.Ytcjdodkbnhkbiaa
