import Derived.Test.YtmelkgmbiiobgaaMAM
namespace Go.Proofs.Ytmelkgmbiiobgaa
open Go.ChangeShapes Go.WideShapes Go.ChangeAt Go.RowKit
set_option linter.unusedVariables false
set_option maxRecDepth 4000
set_option linter.unusedSimpArgs false
/-! An intent has as many bytes as it says. -/
def Many (c : Cmd) (T : Itt) : Prop := (T.2.2.2.2.2 ≠ (0, 0, 0) → T.1 = 0) ∧
  ((T.1 = 0 ∧ T.2.1 = 0 ∧ T.2.2.1.length = 0 ∧ T.2.2.2.2.1 = 0) ∨ (T.1 = 1 ∧ T.2.1 = (T.2.2.1.length : Int) ∧ 0 < T.2.1 ∧ T.2.2.2.2.1 = 0) ∨ (T.1 = 2 ∧ T.2.1 = T.2.2.2.2.1 ∧ 0 < T.2.1 ∧ T.2.2.1.length = 0 ∧ T.2.2.2.1 = c))
theorem many_none (c : Cmd) (s : Sns) : Many c (noneI s) := ⟨fun _ => rfl, .inl ⟨rfl, rfl, rfl, rfl⟩⟩
theorem many_in (c : Cmd) (L : List UInt8) (s : Sns) : Many c (inI L s) := by
  unfold inI
  split
  · rename_i h
    refine ⟨fun h' => absurd rfl h', .inr (.inl ⟨rfl, rfl, ?_, rfl⟩)⟩
    have := h.2
    show (0 : Int) < (L.length : Int)
    omega
  · exact many_none c s
theorem startL_pos {c : Cmd} {z : Int} (h : startL c = some z) : 0 < z := by
  unfold startL at h
  split at h
  · cases h
  split at h
  · simp only [Option.some.injEq] at h; omega
  split at h
  · simp only [Option.some.injEq] at h; omega
  · cases h
theorem many_out (c : Cmd) (s : Sns) : Many c (outI c s) := by
  unfold outI
  split
  · rename_i z hz
    split
    · exact ⟨fun h' => absurd rfl h', .inr (.inr ⟨rfl, rfl, startL_pos hz, rfl, rfl⟩)⟩
    · exact many_none c s
  · exact many_none c s
theorem ite_all11 {α : Sort _} {P : α → Prop} {q : Prop} [Decidable q] {a b : α} (h1 : P a) (h2 : P b) : P (if q then a else b) := by
  split
  · exact h1
  · exact h2
theorem many_st (c : Cmd) (n : Nat) (F : List UInt8) (D : List Drt) (p l : Bool) (M : List Sns) (s : Sns) (bits : Int) : Many c (stI n F D p l M s bits).2 := by
  unfold stI
  exact ite_all11 (P := fun Z : Utt × Itt => Many c Z.2) (many_none c _) (ite_all11 (P := fun Z : Utt × Itt => Many c Z.2) (many_none c _) (ite_all11 (P := fun Z : Utt × Itt => Many c Z.2) (many_none c _) (many_none c _)))
theorem many_bl (n : Nat) (F : List UInt8) (D : List Drt) (p r l : Bool) (M : List Sns) (s : Sns) (c : Cmd) : Many c (blI n F D p r l M s c).2 := by
  unfold blI
  exact ite_all11 (P := fun Z : Utt × Itt => Many c Z.2) (many_in c _ _) (ite_all11 (P := fun Z : Utt × Itt => Many c Z.2) (many_out c _) (ite_all11 (P := fun Z : Utt × Itt => Many c Z.2) (many_out c _) (ite_all11 (P := fun Z : Utt × Itt => Many c Z.2) (many_none c _) (many_none c _))))
theorem many_beg (n : Nat) (F : List UInt8) (D : List Drt) (p r l cc : Bool) (M : List Sns) (s : Sns) (lun luns : Int) (c : Cmd) : Many c (begI n F D p r l cc M s lun luns c).2 := by
  unfold begI
  refine ite_all11 (P := fun Z : Utt × Itt => Many c Z.2) (many_none c _) ?_
  refine ite_all11 (P := fun Z : Utt × Itt => Many c Z.2) (many_in c _ _) ?_
  refine ite_all11 (P := fun Z : Utt × Itt => Many c Z.2) (many_in c _ _) ?_
  refine ite_all11 (P := fun Z : Utt × Itt => Many c Z.2) (many_in c _ _) ?_
  refine ite_all11 (P := fun Z : Utt × Itt => Many c Z.2) (many_out c _) ?_
  refine ite_all11 (P := fun Z : Utt × Itt => Many c Z.2) (many_st c _ _ _ _ _ _ _ _) ?_
  refine ite_all11 (P := fun Z : Utt × Itt => Many c Z.2) (many_none c _) ?_
  refine ite_all11 (P := fun Z : Utt × Itt => Many c Z.2) (many_in c _ _) ?_
  refine ite_all11 (P := fun Z : Utt × Itt => Many c Z.2) (many_in c _ _) ?_
  refine ite_all11 (P := fun Z : Utt × Itt => Many c Z.2) (many_in c _ _) ?_
  refine ite_all11 (P := fun Z : Utt × Itt => Many c Z.2) (many_none c _) ?_
  exact many_bl _ _ _ _ _ _ _ _ _
set_option maxRecDepth 20000 in
set_option maxHeartbeats 8000000 in
theorem intentMany_walk (hal : Alive11) (iB : IBegin11) {ab : Option Addr} {n cb : Nat} {aD : Option Addr} {k cD : Nat} {F : List UInt8} {D : List Drt} {p r l cc : Bool} {am : Option Addr} {m cm : Nat} {s : Sns} {M : List Sns} {a b : Int} {c : Cmd} (w : World)
    (hm : Med w (.agg #[.slice ab n cb, .slice aD k cD]) n F D) (hA : Sl w (.slice am m cm) M) (hs : OkS s) (hc : OkC7 c) (ha : In64 a) (hb : In64 b) (hm1 : m ≤ maxLen) :
    Calls Try.prog 3 #[uval ab n cb aD k cD p r l cc am m cm s, .agg #[.int .i64 a, .int .i64 b], cval c] w fun e w' => e = .returned (.bool true) ∧ Below w.heap.size w w' := by
  have HM := hide hm
  have HA := hide hA
  have HS := hide hs
  have HC := hide hc
  have HI := hide (And.intro ha hb)
  have N1 := hide hm1
  clear hm hA hs hc ha hb hm1
  have BX := hide (((Box.new w 32 (uc ab n cb aD k cD p r l cc am m cm s).toArray).alloc (.cells #[.int .i64 a, .int .i64 b] 33)).alloc (.cells #[.int .i64 c.1, .int .u64 (c.2.1 : Int), .int .i64 c.2.2.1, .int .i64 c.2.2.2.1, .int .i64 c.2.2.2.2] 36))
  have BT : Hid (Box _ (w.heap.size + 1) 33 [.int .i64 a, .int .i64 b]) := (Box.new' (w.alloc (.cells (uc ab n cb aD k cD p r l cc am m cm s).toArray 32)) 33 #[.int .i64 a, .int .i64 b] _ rfl _ (by simp)).alloc (.cells #[.int .i64 c.1, .int .u64 (c.2.1 : Int), .int .i64 c.2.2.1, .int .i64 c.2.2.2.1, .int .i64 c.2.2.2.2] 36)
  have BC : Hid (Box _ (w.heap.size + 1 + 1) 36 [.int .i64 c.1, .int .u64 (c.2.1 : Int), .int .i64 c.2.2.1, .int .i64 c.2.2.2.1, .int .i64 c.2.2.2.2]) := Box.new' ((w.alloc (.cells (uc ab n cb aD k cD p r l cc am m cm s).toArray 32)).alloc (.cells #[.int .i64 a, .int .i64 b] 33)) 36 #[.int .i64 c.1, .int .u64 (c.2.1 : Int), .int .i64 c.2.2.1, .int .i64 c.2.2.2.1, .int .i64 c.2.2.2.2] _ rfl _ (by simp)
  have LL := hide ((((Later.refl w).alloc (.cells (uc ab n cb aD k cD p r l cc am m cm s).toArray 32)).alloc (.cells #[.int .i64 a, .int .i64 b] 33)).alloc (.cells #[.int .i64 c.1, .int .u64 (c.2.1 : Int), .int .i64 c.2.2.1, .int .i64 c.2.2.2.1, .int .i64 c.2.2.2.2] 36))
  go_enter Try.func3, Try.ntmps3
  go_wp2_with fail
  generalize ((w.alloc (.cells (uc ab n cb aD k cD p r l cc am m cm s).toArray 32)).alloc (.cells #[.int .i64 a, .int .i64 b] 33)).alloc (.cells #[.int .i64 c.1, .int .u64 (c.2.1 : Int), .int .i64 c.2.2.1, .int .i64 c.2.2.2.1, .int .i64 c.2.2.2.2] 36) = w1 at *
  replace HM := hide (HM.out.later LL.out)
  replace HA := hide (HA.out.later LL.out)
  obtain ⟨gc, hgc⟩ : ∃ gc, gc = w.heap.size + 1 + 1 := ⟨_, rfl⟩
  obtain ⟨gt, hgt⟩ : ∃ gt, gt = w.heap.size + 1 := ⟨_, rfl⟩
  obtain ⟨gx, hgx⟩ : ∃ gx, gx = w.heap.size := ⟨_, rfl⟩
  rw [← hgc] at BC ⊢
  rw [← hgt] at BT ⊢
  rw [← hgx] at BX ⊢
  clear hgc hgt hgx
  refine (hal _).mono ?_
  rintro e w2 ⟨rfl, hl⟩
  replace LL := hide (LL.out.trans hl)
  replace HM := hide (HM.out.later hl)
  replace HA := hide (HA.out.later hl)
  replace BX := hide (BX.out.later hl)
  replace BT := hide (BT.out.later hl)
  replace BC := hide (BC.out.later hl)
  clear hl
  have x_0 := BX.out.cell 0
  have x_1 := BX.out.cell 1
  have x_2 := BX.out.cell 2
  have x_3 := BX.out.cell 3
  have x_4 := BX.out.cell 4
  have x_5 := BX.out.cell 5
  have x_6 := BX.out.cell 6
  have x_7 := BX.out.cell 7
  have x_8 := BX.out.cell 8
  have x_9 := BX.out.cell 9
  have c0 := BC.out.cell 0
  have c1 := BC.out.cell 1
  have c2 := BC.out.cell 2
  have c3 := BC.out.cell 3
  have c4 := BC.out.cell 4
  go_wp2_with fail
  refine (great11_c (l := l) (r := r) (p := p) (cc := cc) (am := am) (m := m) (cm := cm) (s := s) (c := c) _ HM.out N1.out).mono ?_
  rintro e w3 ⟨rfl, hl⟩
  replace LL := hide (LL.out.trans hl)
  replace HM := hide (HM.out.later hl)
  replace HA := hide (HA.out.later hl)
  replace BX := hide (BX.out.later hl)
  replace BT := hide (BT.out.later hl)
  replace BC := hide (BC.out.later hl)
  clear hl c0 c1 c2 c3 c4
  clear x_0 x_1 x_2 x_3 x_4 x_5 x_6 x_7 x_8 x_9
  cases hG : great11 n D m with
  | true =>
    go_wp2
    go_ret
    exact ⟨rfl, LL.out⟩
  | false =>
  have HN := hide (great11_no hG)
  clear hG N1
  have x_0 := BX.out.cell 0
  have x_1 := BX.out.cell 1
  have x_2 := BX.out.cell 2
  have x_3 := BX.out.cell 3
  have x_4 := BX.out.cell 4
  have x_5 := BX.out.cell 5
  have x_6 := BX.out.cell 6
  have x_7 := BX.out.cell 7
  have x_8 := BX.out.cell 8
  have x_9 := BX.out.cell 9
  have t0 := BT.out.cell 0
  have t1 := BT.out.cell 1
  have c0 := BC.out.cell 0
  have c1 := BC.out.cell 1
  have c2 := BC.out.cell 2
  have c3 := BC.out.cell 3
  have c4 := BC.out.cell 4
  go_wp2_with fail
  refine (iB (uval ab n cb aD k cD p r l cc am m cm s) n F D p r l cc am m cm s M a b c _ ⟨_, _, _, _, _, rfl, HM.out⟩ HA.out HC.out HS.out HI.out.1 HI.out.2 HN.out.1 HN.out.2.1 HN.out.2.2).mono ?_
  rintro e w4 ⟨u', i', rfl, hl, ⟨ab', cb', aD', k', cD', am', cm', rfl, hm', hA'⟩, ax, cx, ar, cr, rfl, hbs⟩
  have HMy := hide (many_beg n F D p r l cc M s a b c)
  clear hm' hA' hbs
  generalize begI n F D p r l cc M s a b c = Z at *
  obtain ⟨⟨F', D', p', l', M', s'⟩, dir, len, L, cj, jl, sx⟩ := Z
  simp only [Many] at HMy ⊢
  generalize L.length = kx at *
  generalize M'.length = m' at *
  replace LL := hide (LL.out.trans hl)
  replace BC := hide (BC.out.later hl)
  clear hl c0 c1 c2 c3 c4 t0 t1 BX BT HM HA
  clear x_0 x_1 x_2 x_3 x_4 x_5 x_6 x_7 x_8 x_9
  go_wp2_with (refine wpList_newUI rfl rfl rfl rfl rfl rfl 7 8 rfl rfl (by simp) (by simp) (by decide) (.tmp 22) (.tmp 23) (by simp) (by simp) (by simp) (by simp) rfl rfl rfl rfl ab' n cb' aD' k' cD' p' r l' cc am' m' cm' s' rfl dir len ax kx cx cj jl 0 ar 0 cr (0, 0, 0) sx rfl ?_)
  intro g7 g8 w5 hB7 hB8 hl hg
  replace LL := hide (LL.out.trans hl)
  replace BC := hide (BC.out.later hl)
  have B8 := hide hB8
  clear hl hB7 hB8 hg
  have y_0 := B8.out.cell 0
  have y_1 := B8.out.cell 1
  have y_2 := B8.out.cell 2
  have y_3 := B8.out.cell 3
  have y_4 := B8.out.cell 4
  have y_5 := B8.out.cell 5
  have y_6 := B8.out.cell 6
  have y_7 := B8.out.cell 7
  have y_8 := B8.out.cell 8
  have y_9 := B8.out.cell 9
  have y_10 := B8.out.cell 10
  have y_11 := B8.out.cell 11
  have y_12 := B8.out.cell 12
  have y_13 := B8.out.cell 13
  have y_14 := B8.out.cell 14
  have y_15 := B8.out.cell 15
  have y_16 := B8.out.cell 16
  have c0 := BC.out.cell 0
  have c1 := BC.out.cell 1
  have c2 := BC.out.cell 2
  have c3 := BC.out.cell 3
  have c4 := BC.out.cell 4
  obtain ⟨h1, h2⟩ := HMy.out
  clear HMy
  rcases h2 with ⟨rfl, rfl, rfl, rfl⟩ | ⟨rfl, h3, h4, rfl⟩ | ⟨rfl, rfl, h4, rfl, rfl⟩
  · clear h1
    by_cases hsx : sx = (0, 0, 0)
    · go_wp2_with (refine wpList_neqS9 (by kernel_rfl) (.tmp 25) (.tmp 26) rfl sx (0, 0, 0) rfl rfl false (by simp [hsx]) ?_)
      go_ret
      exact ⟨rfl, LL.out⟩
    · go_wp2_with (refine wpList_neqS9 (by kernel_rfl) (.tmp 25) (.tmp 26) rfl sx (0, 0, 0) rfl rfl true (by simp [hsx]) ?_)
      go_ret
      exact ⟨rfl, LL.out⟩
  · have hsx : sx = (0, 0, 0) := by
      by_cases h : sx = (0, 0, 0)
      · exact h
      · exact absurd (h1 h) (by decide)
    subst h3
    clear h1
    go_wp2_with (refine wpList_neqS9 (by kernel_rfl) (.tmp 25) (.tmp 26) rfl sx (0, 0, 0) rfl rfl false (by simp [hsx]) ?_)
    go_ret
    exact ⟨by first | rfl | (simp; done) | (simp; omega), LL.out⟩
  · have hsx : sx = (0, 0, 0) := by
      by_cases h : sx = (0, 0, 0)
      · exact h
      · exact absurd (h1 h) (by decide)
    clear h1
    go_wp2_with (first | refine wpList_neqS9 (by kernel_rfl) (.tmp 25) (.tmp 26) rfl sx (0, 0, 0) rfl rfl false (by simp [hsx]) ?_ | refine wpList_eqC (by kernel_rfl) (.tmp 99) (.tmp 100) rfl cj cj rfl rfl true (by simp) ?_)
    go_ret
    exact ⟨by first | rfl | (simp; done) | (simp; omega), LL.out⟩
end Go.Proofs.Ytmelkgmbiiobgaa
