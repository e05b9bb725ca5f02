import Derived.Test.YtfakboehmcimpaaGreatMBE
namespace Go.Proofs.YtfakboehmcimpaaGreat
open Go.ChangeShapes Go.WideShapes Go.ChangeAt Go.RowKit
set_option linter.unusedVariables false
set_option maxRecDepth 4000
set_option linter.unusedSimpArgs false
/-! The landed intent: Begin of ModeSense, ReportLuns, ModeSelect. -/
set_option maxRecDepth 20000 in
set_option maxHeartbeats 8000000 in
theorem beg_ms6 {ab : Option Addr} {n cb : Nat} {aD : Option Addr} {k cD : Nat} {F : List UInt8} {D : List Drt} {p r l cc : Bool} {am : Option Addr} {m cm : Nat} {s : Sns} {M : List Sns} {lun luns : Int} (at_ : Nat) (nn pg bt : Int) (w : World) (hm : Med w (.agg #[.slice ab n cb, .slice aD k cD]) n F D) (hA : Sl w (.slice am m cm) M) (hc : OkC7 (26, at_, nn, pg, bt)) (hs : OkS s) (h1 : In64 lun) (h2 : In64 luns) (hn : n ≤ 100) (hD : D.length ≤ 100) (hm1 : m ≤ 100) :
    Calls Tryz.prog 7 #[uval ab n cb aD k cD p r l cc am m cm s, .int .i64 lun, .int .i64 luns, cval (26, at_, nn, pg, bt)] w fun e w' => ∃ x y, e = .returned (.tuple #[.agg x.toArray, .agg y.toArray]) ∧ Later w w' ∧ PdI w n r cc am cm M (begI n F D p r l cc M s lun luns (26, at_, nn, pg, bt)) x y w' := by
  have HML : Hid (m = M.length) := by
    obtain ⟨a', c', e'⟩ := hA.1.shape
    simp at e'
    exact e'.2.1
  have HKD : Hid (k = D.length) := by
    obtain ⟨vb, vd, e, _, hd, _⟩ := hm
    simp at e
    obtain ⟨rfl, rfl⟩ := e
    obtain ⟨_, _, a', c', e', _⟩ := hd
    simp at e'
    exact e'.2.1
  have HOk : Hid (Ok D) := by obtain ⟨_, _, _, _, _, ho⟩ := hm; exact ho
  have HOM : Hid (∀ s ∈ M, OkS s) := hA.2
  have HM := hide hm
  have HA := hide hA
  have HC := hide hc
  have HS := hide hs
  have HI := hide (And.intro h1 h2)
  have HN := hide (And.intro hn (And.intro hD hm1))
  clear hm hA hc hs h1 h2 hn hD hm1
  have HR : Hid (begI n F D p r l cc M s lun luns (26, at_, nn, pg, bt) = ((F, D, p, l, M, s), inI (mansR (26, at_, nn, pg, bt) cc r).1 (mansR (26, at_, nn, pg, bt) cc r).2)) := by first | rfl | exact hB | (simp [Hid, begI]; done)
  have BU := hide ((((Box.new w 32 (uc ab n cb aD k cD p r l cc am m cm s).toArray).alloc (.cells (cmc (26, at_, nn, pg, bt)).toArray 36)).alloc (.cells zU.toArray 32)).alloc (.cells zI.toArray 44))
  have BC : Hid (Box _ (w.heap.size + 1) 36 (cmc (26, at_, nn, pg, bt))) := ((Box.new' (w.alloc (.cells (uc ab n cb aD k cD p r l cc am m cm s).toArray 32)) 36 (cmc (26, at_, nn, pg, bt)).toArray _ rfl _ (by simp)).alloc (.cells zU.toArray 32)).alloc (.cells zI.toArray 44)
  have BV : Hid (Box _ (w.heap.size + 1 + 1) 32 zU) := (Box.new' ((w.alloc (.cells (uc ab n cb aD k cD p r l cc am m cm s).toArray 32)).alloc (.cells (cmc (26, at_, nn, pg, bt)).toArray 36)) 32 zU.toArray _ rfl _ (by simp)).alloc (.cells zI.toArray 44)
  have BI : Hid (Box _ (w.heap.size + 1 + 1 + 1) 44 zI) := Box.new' (((w.alloc (.cells (uc ab n cb aD k cD p r l cc am m cm s).toArray 32)).alloc (.cells (cmc (26, at_, nn, pg, bt)).toArray 36)).alloc (.cells zU.toArray 32)) 44 zI.toArray _ rfl _ (by simp)
  have LL := hide (((((Later.refl w).alloc (.cells (uc ab n cb aD k cD p r l cc am m cm s).toArray 32)).alloc (.cells (cmc (26, at_, nn, pg, bt)).toArray 36)).alloc (.cells zU.toArray 32)).alloc (.cells zI.toArray 44))
  have x_0 := BU.out.cell 0
  have x_1 := BU.out.cell 1
  have x_2 := BU.out.cell 2
  have x_3 := BU.out.cell 3
  have x_4 := BU.out.cell 4
  have x_5 := BU.out.cell 5
  have x_6 := BU.out.cell 6
  have x_7 := BU.out.cell 7
  have x_8 := BU.out.cell 8
  have x_9 := BU.out.cell 9
  go_enter Tryz.func7, Tryz.ntmps7
  go_wp2_with fail
  clear x_0 x_1 x_2 x_3 x_4 x_5 x_6 x_7 x_8 x_9
  generalize (((w.alloc (.cells (uc ab n cb aD k cD p r l cc am m cm s).toArray 32)).alloc (.cells (cmc (26, at_, nn, pg, bt)).toArray 36)).alloc (.cells zU.toArray 32)).alloc (.cells zI.toArray 44) = w1 at *
  obtain ⟨gu, hgu⟩ : ∃ gu, gu = w.heap.size := ⟨_, rfl⟩
  obtain ⟨gc, hgc⟩ : ∃ gc, gc = w.heap.size + 1 := ⟨_, rfl⟩
  obtain ⟨gv, hgv⟩ : ∃ gv, gv = w.heap.size + 1 + 1 := ⟨_, rfl⟩
  obtain ⟨gi, hgi⟩ : ∃ gi, gi = w.heap.size + 1 + 1 + 1 := ⟨_, rfl⟩
  rw [← hgi] at BI ⊢
  rw [← hgv] at BV ⊢
  rw [← hgc] at BC ⊢
  rw [← hgu] at BU ⊢
  have HG : Hid (w.heap.size ≤ gu ∧ w.heap.size ≤ gv ∧ w.heap.size ≤ gi ∧ gu ≠ gv ∧ gu ≠ gi ∧ gv ≠ gi ∧ gc ≠ gu) := by rw [Hid]; omega
  clear hgu hgc hgv hgi
  refine (own11_c (F := F) (D := D) (M := M) w1 (HM.out.later LL.out) (HA.out.later LL.out) HN.out.1 HN.out.2.1 HN.out.2.2).mono ?_
  rintro e w2 ⟨xb, xcb, xd, xcD, xm, xcm, rfl, hl, ho⟩
  replace HM : Hid (Med w2 (.agg #[.slice xb n xcb, .slice xd k xcD]) n F D) := ⟨_, _, rfl, Rw.of_owns ho.1, by have h := Rw.of_owns ho.2.1; have e := HKD.out; rw [e] at h ⊢; exact h, HOk.out⟩
  have HO := hide (owns_rebase ho.2.2 LL.out.size)
  replace BU := hide (BU.out.later hl)
  replace BC := hide (BC.out.later hl)
  replace BV := hide (BV.out.later hl)
  replace BI := hide (BI.out.later hl)
  replace LL := hide (LL.out.trans hl)
  clear hl ho HA
  go_wp2_with (refine wpList_storeU rfl 32 (.tmp 4) (.tmp 11) rfl gu 0 rfl (uc xb n xcb xd k xcD p r l cc xm m xcm s) rfl Tryz.info_unit (uc_one _ _ _ _ _ _ _ _ _ _ _ _ _ _) _ _ BU.out (by simp) ?_)
  intro w3 h3
  replace HO : Hid (World.ownsRow w3 _ _ _ _ _ _) := hide (by rw [h3.out]; exact owns_setBox10 (owns_later HO.out (Later.refl _)) BU.out (by decide) _ _)
  replace BC : Hid (Box w3 gc 36 (cmc (26, at_, nn, pg, bt))) := by rw [h3.out]; exact BC.out.apart gu (by have := HG.out; omega) _ _
  have BUn : Hid (Box _ gu 32 (uc xb n xcb xd k xcD p r l cc xm m xcm s)) := hide (by have h := BU.out.setCells (uc xb n xcb xd k xcD p r l cc xm m xcm s) 0 (by simp); rw [← h3.out] at h; exact h)
  replace BV : Hid (Box _ gv 32 zU) := hide (by have h := BV.out.apart gu (by have := HG.out; omega) (uc xb n xcb xd k xcD p r l cc xm m xcm s) 0; rw [← h3.out] at h; exact h)
  replace BI : Hid (Box _ gi 44 zI) := hide (by have h := BI.out.apart gu (by have := HG.out; omega) (uc xb n xcb xd k xcD p r l cc xm m xcm s) 0; rw [← h3.out] at h; exact h)
  replace LL : Hid (Later w _) := hide (by have h := LL.out.setCells HG.out.1 (uc xb n xcb xd k xcD p r l cc xm m xcm s) 0; rw [← h3.out] at h; exact h)
  replace HM : Hid (Med _ _ n _ _) := hide (by have h := HM.out.setNoB BU.out (uc_nob _ _ _ _ _ _ _ _ _ _ _ _ _ _) (uc xb n xcb xd k xcD p r l cc xm m xcm s) 0; rw [← h3.out] at h; exact h)
  replace BU := BUn
  clear BUn h3
  have HT : Hid (At11 w w3 am cm M xm xcm M) := .inr ⟨by have h := HO.out; have e := HML.out; rw [e] at h; exact h, HOM.out⟩
  have y0 := BC.out.cell 0
  go_wp2_with fail
  refine (class_c (26) w3).mono ?_
  rintro e wx ⟨rfl, hw1⟩
  have hw2 := hw1.symm
  subst hw2
  rw [show classI 26 = 0 from rfl]
  have hc := fun q => ((Later.refl w3).drew.trans (later_rg w3.drew q))
  have d0 := fun q => (BU.out.later (hc q)).cell 0
  have d1 := fun q => (BU.out.later (hc q)).cell 1
  have d2 := fun q => (BU.out.later (hc q)).cell 2
  have d3 := fun q => (BU.out.later (hc q)).cell 3
  have d4 := fun q => (BU.out.later (hc q)).cell 4
  have d5 := fun q => (BU.out.later (hc q)).cell 5
  have z2 := fun q => (BC.out.later (hc q)).cell 2
  have HF := hide ((Fr11.mk LL.out HG.out.2.1 HG.out.2.2.1 HG.out.2.2.2.2.2.1 BV.out rfl (uc_nob _ _ _ _ _ _ _ _ _ _ _ _ _ _) BI.out rfl (ic_nob _ _ _ _ _ _ _ _ _ _ _ _ _)).later (Later.refl _).drew)
  go_wp2_with fail
  refine wp_region_tree [0, 1, 2, 3, 4, 5, 6] [7, 8, 9, 10] [11, 12] (by kernel_rfl) (by kernel_rfl) (by kernel_rfl) (by kernel_rfl) ?_
  refine wpT_loadG rfl (by kernel_rfl) 32 (.tmp 4) rfl gu 0 rfl (uc xb n xcb xd k xcD p r l cc xm m xcm s) _ ((World.rangeAt_drew _ _ _ _).2 BU.out.range) Tryz.underlying32 rfl Tryz.info_unit ?_
  refine wpT_loadG rfl (by kernel_rfl) 36 (.tmp 7) rfl gc 0 rfl (cmc (26, at_, nn, pg, bt)) _ ((World.rangeAt_drew _ _ _ _).2 BC.out.range) Tryz.underlying36 rfl Tryz.info_cmd ?_
  iterate 5 (refine wpT_mild rfl (fun K hK => ?_); go_simp; refine hK _ ?_; clear hK K)
  clear d0 d1 d2 d3 d4 d5 z2 hc y0
  have HLn := hide (len_mans (26, at_, nn, pg, bt) cc r)
  have HOa : Hid (OkS (mansR (26, at_, nn, pg, bt) cc r).2) := okS_mans _ _ _
  generalize hT : mansR (26, at_, nn, pg, bt) cc r = T at *
  have HTe := hide hT
  clear hT
  refine fin_ext (bb := w) w gv gi HF.out 8 54 9 ⟨_, rfl, rfl, rfl, rfl⟩ ⟨_, rfl, rfl, rfl, rfl⟩ (uc xb n xcb xd k xcD p r l cc xm m xcm s) rfl rfl rfl 61 62 63 (by simp [put_size]) (by simp [put_size]) (by simp [put_size]) (by simp [put_size]) (by decide) 23 (Plain.of (by kernel_rfl)) [.tmp 55, .tmp 57, .tmp 60] _ [cval (26, at_, nn, pg, bt), .bool cc, .bool r] rfl ⟨_, rfl, rfl, rfl, rfl⟩ ⟨_, rfl, rfl, rfl, rfl⟩ ⟨_, rfl, rfl, rfl, rfl⟩ 21 (Plain.of (by kernel_rfl)) _ ⟨_, rfl, rfl, rfl, rfl⟩ (by decide) (by kernel_rfl) (sval T.2) (fun v W => Bs W v T.1) (fun _ _ _ hl h => h.later hl)
    (fun W hW => (manswer_c (26, at_, nn, pg, bt) cc r W HC.out).mono (by
      rintro e w' ⟨v', rfl, hl, hb⟩
      rw [HTe.out] at hb ⊢
      exact ⟨v', rfl, hl, hb⟩))
    (fun v W hW hv => give11 HM.out HT.out HML.out ((Later.refl _).drew.trans hW) (iin11 v T.1 T.2 W hv HOa.out HLn.out)) ?_
  intro v0
  intro y W hLW hB4 hB5 hPW
  have HLW := hide hLW
  have HB4 := hide hB4
  have HB5 := hide hB5
  have HPW := hide hPW
  clear hLW hB4 hB5 hPW
  go_wp2
  exact bodyPost_ret (results_cell_cell' rfl _ _ _ gv 0 gi 0 rfl rfl _ _ (load_unit HB4.out rfl) (load_intent HB5.out HPW.out.one.2.1)) rfl ⟨_, y, rfl, HLW.out, by rw [HR.out]; exact HPW.out⟩
set_option maxRecDepth 20000 in
set_option maxHeartbeats 8000000 in
theorem beg_ms10 {ab : Option Addr} {n cb : Nat} {aD : Option Addr} {k cD : Nat} {F : List UInt8} {D : List Drt} {p r l cc : Bool} {am : Option Addr} {m cm : Nat} {s : Sns} {M : List Sns} {lun luns : Int} (at_ : Nat) (nn pg bt : Int) (w : World) (hm : Med w (.agg #[.slice ab n cb, .slice aD k cD]) n F D) (hA : Sl w (.slice am m cm) M) (hc : OkC7 (90, at_, nn, pg, bt)) (hs : OkS s) (h1 : In64 lun) (h2 : In64 luns) (hn : n ≤ 100) (hD : D.length ≤ 100) (hm1 : m ≤ 100) :
    Calls Tryz.prog 7 #[uval ab n cb aD k cD p r l cc am m cm s, .int .i64 lun, .int .i64 luns, cval (90, at_, nn, pg, bt)] w fun e w' => ∃ x y, e = .returned (.tuple #[.agg x.toArray, .agg y.toArray]) ∧ Later w w' ∧ PdI w n r cc am cm M (begI n F D p r l cc M s lun luns (90, at_, nn, pg, bt)) x y w' := by
  have HML : Hid (m = M.length) := by
    obtain ⟨a', c', e'⟩ := hA.1.shape
    simp at e'
    exact e'.2.1
  have HKD : Hid (k = D.length) := by
    obtain ⟨vb, vd, e, _, hd, _⟩ := hm
    simp at e
    obtain ⟨rfl, rfl⟩ := e
    obtain ⟨_, _, a', c', e', _⟩ := hd
    simp at e'
    exact e'.2.1
  have HOk : Hid (Ok D) := by obtain ⟨_, _, _, _, _, ho⟩ := hm; exact ho
  have HOM : Hid (∀ s ∈ M, OkS s) := hA.2
  have HM := hide hm
  have HA := hide hA
  have HC := hide hc
  have HS := hide hs
  have HI := hide (And.intro h1 h2)
  have HN := hide (And.intro hn (And.intro hD hm1))
  clear hm hA hc hs h1 h2 hn hD hm1
  have HR : Hid (begI n F D p r l cc M s lun luns (90, at_, nn, pg, bt) = ((F, D, p, l, M, s), inI (mansR (90, at_, nn, pg, bt) cc r).1 (mansR (90, at_, nn, pg, bt) cc r).2)) := by first | rfl | exact hB | (simp [Hid, begI]; done)
  have BU := hide ((((Box.new w 32 (uc ab n cb aD k cD p r l cc am m cm s).toArray).alloc (.cells (cmc (90, at_, nn, pg, bt)).toArray 36)).alloc (.cells zU.toArray 32)).alloc (.cells zI.toArray 44))
  have BC : Hid (Box _ (w.heap.size + 1) 36 (cmc (90, at_, nn, pg, bt))) := ((Box.new' (w.alloc (.cells (uc ab n cb aD k cD p r l cc am m cm s).toArray 32)) 36 (cmc (90, at_, nn, pg, bt)).toArray _ rfl _ (by simp)).alloc (.cells zU.toArray 32)).alloc (.cells zI.toArray 44)
  have BV : Hid (Box _ (w.heap.size + 1 + 1) 32 zU) := (Box.new' ((w.alloc (.cells (uc ab n cb aD k cD p r l cc am m cm s).toArray 32)).alloc (.cells (cmc (90, at_, nn, pg, bt)).toArray 36)) 32 zU.toArray _ rfl _ (by simp)).alloc (.cells zI.toArray 44)
  have BI : Hid (Box _ (w.heap.size + 1 + 1 + 1) 44 zI) := Box.new' (((w.alloc (.cells (uc ab n cb aD k cD p r l cc am m cm s).toArray 32)).alloc (.cells (cmc (90, at_, nn, pg, bt)).toArray 36)).alloc (.cells zU.toArray 32)) 44 zI.toArray _ rfl _ (by simp)
  have LL := hide (((((Later.refl w).alloc (.cells (uc ab n cb aD k cD p r l cc am m cm s).toArray 32)).alloc (.cells (cmc (90, at_, nn, pg, bt)).toArray 36)).alloc (.cells zU.toArray 32)).alloc (.cells zI.toArray 44))
  have x_0 := BU.out.cell 0
  have x_1 := BU.out.cell 1
  have x_2 := BU.out.cell 2
  have x_3 := BU.out.cell 3
  have x_4 := BU.out.cell 4
  have x_5 := BU.out.cell 5
  have x_6 := BU.out.cell 6
  have x_7 := BU.out.cell 7
  have x_8 := BU.out.cell 8
  have x_9 := BU.out.cell 9
  go_enter Tryz.func7, Tryz.ntmps7
  go_wp2_with fail
  clear x_0 x_1 x_2 x_3 x_4 x_5 x_6 x_7 x_8 x_9
  generalize (((w.alloc (.cells (uc ab n cb aD k cD p r l cc am m cm s).toArray 32)).alloc (.cells (cmc (90, at_, nn, pg, bt)).toArray 36)).alloc (.cells zU.toArray 32)).alloc (.cells zI.toArray 44) = w1 at *
  obtain ⟨gu, hgu⟩ : ∃ gu, gu = w.heap.size := ⟨_, rfl⟩
  obtain ⟨gc, hgc⟩ : ∃ gc, gc = w.heap.size + 1 := ⟨_, rfl⟩
  obtain ⟨gv, hgv⟩ : ∃ gv, gv = w.heap.size + 1 + 1 := ⟨_, rfl⟩
  obtain ⟨gi, hgi⟩ : ∃ gi, gi = w.heap.size + 1 + 1 + 1 := ⟨_, rfl⟩
  rw [← hgi] at BI ⊢
  rw [← hgv] at BV ⊢
  rw [← hgc] at BC ⊢
  rw [← hgu] at BU ⊢
  have HG : Hid (w.heap.size ≤ gu ∧ w.heap.size ≤ gv ∧ w.heap.size ≤ gi ∧ gu ≠ gv ∧ gu ≠ gi ∧ gv ≠ gi ∧ gc ≠ gu) := by rw [Hid]; omega
  clear hgu hgc hgv hgi
  refine (own11_c (F := F) (D := D) (M := M) w1 (HM.out.later LL.out) (HA.out.later LL.out) HN.out.1 HN.out.2.1 HN.out.2.2).mono ?_
  rintro e w2 ⟨xb, xcb, xd, xcD, xm, xcm, rfl, hl, ho⟩
  replace HM : Hid (Med w2 (.agg #[.slice xb n xcb, .slice xd k xcD]) n F D) := ⟨_, _, rfl, Rw.of_owns ho.1, by have h := Rw.of_owns ho.2.1; have e := HKD.out; rw [e] at h ⊢; exact h, HOk.out⟩
  have HO := hide (owns_rebase ho.2.2 LL.out.size)
  replace BU := hide (BU.out.later hl)
  replace BC := hide (BC.out.later hl)
  replace BV := hide (BV.out.later hl)
  replace BI := hide (BI.out.later hl)
  replace LL := hide (LL.out.trans hl)
  clear hl ho HA
  go_wp2_with (refine wpList_storeU rfl 32 (.tmp 4) (.tmp 11) rfl gu 0 rfl (uc xb n xcb xd k xcD p r l cc xm m xcm s) rfl Tryz.info_unit (uc_one _ _ _ _ _ _ _ _ _ _ _ _ _ _) _ _ BU.out (by simp) ?_)
  intro w3 h3
  replace HO : Hid (World.ownsRow w3 _ _ _ _ _ _) := hide (by rw [h3.out]; exact owns_setBox10 (owns_later HO.out (Later.refl _)) BU.out (by decide) _ _)
  replace BC : Hid (Box w3 gc 36 (cmc (90, at_, nn, pg, bt))) := by rw [h3.out]; exact BC.out.apart gu (by have := HG.out; omega) _ _
  have BUn : Hid (Box _ gu 32 (uc xb n xcb xd k xcD p r l cc xm m xcm s)) := hide (by have h := BU.out.setCells (uc xb n xcb xd k xcD p r l cc xm m xcm s) 0 (by simp); rw [← h3.out] at h; exact h)
  replace BV : Hid (Box _ gv 32 zU) := hide (by have h := BV.out.apart gu (by have := HG.out; omega) (uc xb n xcb xd k xcD p r l cc xm m xcm s) 0; rw [← h3.out] at h; exact h)
  replace BI : Hid (Box _ gi 44 zI) := hide (by have h := BI.out.apart gu (by have := HG.out; omega) (uc xb n xcb xd k xcD p r l cc xm m xcm s) 0; rw [← h3.out] at h; exact h)
  replace LL : Hid (Later w _) := hide (by have h := LL.out.setCells HG.out.1 (uc xb n xcb xd k xcD p r l cc xm m xcm s) 0; rw [← h3.out] at h; exact h)
  replace HM : Hid (Med _ _ n _ _) := hide (by have h := HM.out.setNoB BU.out (uc_nob _ _ _ _ _ _ _ _ _ _ _ _ _ _) (uc xb n xcb xd k xcD p r l cc xm m xcm s) 0; rw [← h3.out] at h; exact h)
  replace BU := BUn
  clear BUn h3
  have HT : Hid (At11 w w3 am cm M xm xcm M) := .inr ⟨by have h := HO.out; have e := HML.out; rw [e] at h; exact h, HOM.out⟩
  have y0 := BC.out.cell 0
  go_wp2_with fail
  refine (class_c (90) w3).mono ?_
  rintro e wx ⟨rfl, hw1⟩
  have hw2 := hw1.symm
  subst hw2
  rw [show classI 90 = 0 from rfl]
  have hc := fun q => ((Later.refl w3).drew.trans (later_rg w3.drew q))
  have d0 := fun q => (BU.out.later (hc q)).cell 0
  have d1 := fun q => (BU.out.later (hc q)).cell 1
  have d2 := fun q => (BU.out.later (hc q)).cell 2
  have d3 := fun q => (BU.out.later (hc q)).cell 3
  have d4 := fun q => (BU.out.later (hc q)).cell 4
  have d5 := fun q => (BU.out.later (hc q)).cell 5
  have z2 := fun q => (BC.out.later (hc q)).cell 2
  have HF := hide ((Fr11.mk LL.out HG.out.2.1 HG.out.2.2.1 HG.out.2.2.2.2.2.1 BV.out rfl (uc_nob _ _ _ _ _ _ _ _ _ _ _ _ _ _) BI.out rfl (ic_nob _ _ _ _ _ _ _ _ _ _ _ _ _)).later (Later.refl _).drew)
  go_wp2_with fail
  refine wp_region_tree [0, 1, 2, 3, 4, 5, 6] [7, 8, 9, 10] [11, 12] (by kernel_rfl) (by kernel_rfl) (by kernel_rfl) (by kernel_rfl) ?_
  refine wpT_loadG rfl (by kernel_rfl) 32 (.tmp 4) rfl gu 0 rfl (uc xb n xcb xd k xcD p r l cc xm m xcm s) _ ((World.rangeAt_drew _ _ _ _).2 BU.out.range) Tryz.underlying32 rfl Tryz.info_unit ?_
  refine wpT_loadG rfl (by kernel_rfl) 36 (.tmp 7) rfl gc 0 rfl (cmc (90, at_, nn, pg, bt)) _ ((World.rangeAt_drew _ _ _ _).2 BC.out.range) Tryz.underlying36 rfl Tryz.info_cmd ?_
  iterate 5 (refine wpT_mild rfl (fun K hK => ?_); go_simp; refine hK _ ?_; clear hK K)
  clear d0 d1 d2 d3 d4 d5 z2 hc y0
  have HLn := hide (len_mans (90, at_, nn, pg, bt) cc r)
  have HOa : Hid (OkS (mansR (90, at_, nn, pg, bt) cc r).2) := okS_mans _ _ _
  generalize hT : mansR (90, at_, nn, pg, bt) cc r = T at *
  have HTe := hide hT
  clear hT
  refine fin_ext (bb := w) w gv gi HF.out 8 54 9 ⟨_, rfl, rfl, rfl, rfl⟩ ⟨_, rfl, rfl, rfl, rfl⟩ (uc xb n xcb xd k xcD p r l cc xm m xcm s) rfl rfl rfl 61 62 63 (by simp [put_size]) (by simp [put_size]) (by simp [put_size]) (by simp [put_size]) (by decide) 23 (Plain.of (by kernel_rfl)) [.tmp 55, .tmp 57, .tmp 60] _ [cval (90, at_, nn, pg, bt), .bool cc, .bool r] rfl ⟨_, rfl, rfl, rfl, rfl⟩ ⟨_, rfl, rfl, rfl, rfl⟩ ⟨_, rfl, rfl, rfl, rfl⟩ 21 (Plain.of (by kernel_rfl)) _ ⟨_, rfl, rfl, rfl, rfl⟩ (by decide) (by kernel_rfl) (sval T.2) (fun v W => Bs W v T.1) (fun _ _ _ hl h => h.later hl)
    (fun W hW => (manswer_c (90, at_, nn, pg, bt) cc r W HC.out).mono (by
      rintro e w' ⟨v', rfl, hl, hb⟩
      rw [HTe.out] at hb ⊢
      exact ⟨v', rfl, hl, hb⟩))
    (fun v W hW hv => give11 HM.out HT.out HML.out ((Later.refl _).drew.trans hW) (iin11 v T.1 T.2 W hv HOa.out HLn.out)) ?_
  intro v0
  intro y W hLW hB4 hB5 hPW
  have HLW := hide hLW
  have HB4 := hide hB4
  have HB5 := hide hB5
  have HPW := hide hPW
  clear hLW hB4 hB5 hPW
  go_wp2
  exact bodyPost_ret (results_cell_cell' rfl _ _ _ gv 0 gi 0 rfl rfl _ _ (load_unit HB4.out rfl) (load_intent HB5.out HPW.out.one.2.1)) rfl ⟨_, y, rfl, HLW.out, by rw [HR.out]; exact HPW.out⟩
set_option maxRecDepth 20000 in
set_option maxHeartbeats 8000000 in
theorem beg_luns {ab : Option Addr} {n cb : Nat} {aD : Option Addr} {k cD : Nat} {F : List UInt8} {D : List Drt} {p r l cc : Bool} {am : Option Addr} {m cm : Nat} {s : Sns} {M : List Sns} {lun luns : Int} (at_ : Nat) (nn pg bt : Int) (w : World) (hm : Med w (.agg #[.slice ab n cb, .slice aD k cD]) n F D) (hA : Sl w (.slice am m cm) M) (hc : OkC7 (160, at_, nn, pg, bt)) (hs : OkS s) (h1 : In64 lun) (h2 : In64 luns) (hn : n ≤ 100) (hD : D.length ≤ 100) (hm1 : m ≤ 100) :
    Calls Tryz.prog 7 #[uval ab n cb aD k cD p r l cc am m cm s, .int .i64 lun, .int .i64 luns, cval (160, at_, nn, pg, bt)] w fun e w' => ∃ x y, e = .returned (.tuple #[.agg x.toArray, .agg y.toArray]) ∧ Later w w' ∧ PdI w n r cc am cm M (begI n F D p r l cc M s lun luns (160, at_, nn, pg, bt)) x y w' := by
  have HML : Hid (m = M.length) := by
    obtain ⟨a', c', e'⟩ := hA.1.shape
    simp at e'
    exact e'.2.1
  have HKD : Hid (k = D.length) := by
    obtain ⟨vb, vd, e, _, hd, _⟩ := hm
    simp at e
    obtain ⟨rfl, rfl⟩ := e
    obtain ⟨_, _, a', c', e', _⟩ := hd
    simp at e'
    exact e'.2.1
  have HOk : Hid (Ok D) := by obtain ⟨_, _, _, _, _, ho⟩ := hm; exact ho
  have HOM : Hid (∀ s ∈ M, OkS s) := hA.2
  have HM := hide hm
  have HA := hide hA
  have HC := hide hc
  have HS := hide hs
  have HI := hide (And.intro h1 h2)
  have HN := hide (And.intro hn (And.intro hD hm1))
  clear hm hA hc hs h1 h2 hn hD hm1
  have HR : Hid (begI n F D p r l cc M s lun luns (160, at_, nn, pg, bt) = ((F, D, p, l, M, s), inI (cutL (lunsL (cntN luns)) nn) (0, 0, 0))) := by first | rfl | exact hB | (simp [Hid, begI]; done)
  have BU := hide ((((Box.new w 32 (uc ab n cb aD k cD p r l cc am m cm s).toArray).alloc (.cells (cmc (160, at_, nn, pg, bt)).toArray 36)).alloc (.cells zU.toArray 32)).alloc (.cells zI.toArray 44))
  have BC : Hid (Box _ (w.heap.size + 1) 36 (cmc (160, at_, nn, pg, bt))) := ((Box.new' (w.alloc (.cells (uc ab n cb aD k cD p r l cc am m cm s).toArray 32)) 36 (cmc (160, at_, nn, pg, bt)).toArray _ rfl _ (by simp)).alloc (.cells zU.toArray 32)).alloc (.cells zI.toArray 44)
  have BV : Hid (Box _ (w.heap.size + 1 + 1) 32 zU) := (Box.new' ((w.alloc (.cells (uc ab n cb aD k cD p r l cc am m cm s).toArray 32)).alloc (.cells (cmc (160, at_, nn, pg, bt)).toArray 36)) 32 zU.toArray _ rfl _ (by simp)).alloc (.cells zI.toArray 44)
  have BI : Hid (Box _ (w.heap.size + 1 + 1 + 1) 44 zI) := Box.new' (((w.alloc (.cells (uc ab n cb aD k cD p r l cc am m cm s).toArray 32)).alloc (.cells (cmc (160, at_, nn, pg, bt)).toArray 36)).alloc (.cells zU.toArray 32)) 44 zI.toArray _ rfl _ (by simp)
  have LL := hide (((((Later.refl w).alloc (.cells (uc ab n cb aD k cD p r l cc am m cm s).toArray 32)).alloc (.cells (cmc (160, at_, nn, pg, bt)).toArray 36)).alloc (.cells zU.toArray 32)).alloc (.cells zI.toArray 44))
  have x_0 := BU.out.cell 0
  have x_1 := BU.out.cell 1
  have x_2 := BU.out.cell 2
  have x_3 := BU.out.cell 3
  have x_4 := BU.out.cell 4
  have x_5 := BU.out.cell 5
  have x_6 := BU.out.cell 6
  have x_7 := BU.out.cell 7
  have x_8 := BU.out.cell 8
  have x_9 := BU.out.cell 9
  go_enter Tryz.func7, Tryz.ntmps7
  go_wp2_with fail
  clear x_0 x_1 x_2 x_3 x_4 x_5 x_6 x_7 x_8 x_9
  generalize (((w.alloc (.cells (uc ab n cb aD k cD p r l cc am m cm s).toArray 32)).alloc (.cells (cmc (160, at_, nn, pg, bt)).toArray 36)).alloc (.cells zU.toArray 32)).alloc (.cells zI.toArray 44) = w1 at *
  obtain ⟨gu, hgu⟩ : ∃ gu, gu = w.heap.size := ⟨_, rfl⟩
  obtain ⟨gc, hgc⟩ : ∃ gc, gc = w.heap.size + 1 := ⟨_, rfl⟩
  obtain ⟨gv, hgv⟩ : ∃ gv, gv = w.heap.size + 1 + 1 := ⟨_, rfl⟩
  obtain ⟨gi, hgi⟩ : ∃ gi, gi = w.heap.size + 1 + 1 + 1 := ⟨_, rfl⟩
  rw [← hgi] at BI ⊢
  rw [← hgv] at BV ⊢
  rw [← hgc] at BC ⊢
  rw [← hgu] at BU ⊢
  have HG : Hid (w.heap.size ≤ gu ∧ w.heap.size ≤ gv ∧ w.heap.size ≤ gi ∧ gu ≠ gv ∧ gu ≠ gi ∧ gv ≠ gi ∧ gc ≠ gu) := by rw [Hid]; omega
  clear hgu hgc hgv hgi
  refine (own11_c (F := F) (D := D) (M := M) w1 (HM.out.later LL.out) (HA.out.later LL.out) HN.out.1 HN.out.2.1 HN.out.2.2).mono ?_
  rintro e w2 ⟨xb, xcb, xd, xcD, xm, xcm, rfl, hl, ho⟩
  replace HM : Hid (Med w2 (.agg #[.slice xb n xcb, .slice xd k xcD]) n F D) := ⟨_, _, rfl, Rw.of_owns ho.1, by have h := Rw.of_owns ho.2.1; have e := HKD.out; rw [e] at h ⊢; exact h, HOk.out⟩
  have HO := hide (owns_rebase ho.2.2 LL.out.size)
  replace BU := hide (BU.out.later hl)
  replace BC := hide (BC.out.later hl)
  replace BV := hide (BV.out.later hl)
  replace BI := hide (BI.out.later hl)
  replace LL := hide (LL.out.trans hl)
  clear hl ho HA
  go_wp2_with (refine wpList_storeU rfl 32 (.tmp 4) (.tmp 11) rfl gu 0 rfl (uc xb n xcb xd k xcD p r l cc xm m xcm s) rfl Tryz.info_unit (uc_one _ _ _ _ _ _ _ _ _ _ _ _ _ _) _ _ BU.out (by simp) ?_)
  intro w3 h3
  replace HO : Hid (World.ownsRow w3 _ _ _ _ _ _) := hide (by rw [h3.out]; exact owns_setBox10 (owns_later HO.out (Later.refl _)) BU.out (by decide) _ _)
  replace BC : Hid (Box w3 gc 36 (cmc (160, at_, nn, pg, bt))) := by rw [h3.out]; exact BC.out.apart gu (by have := HG.out; omega) _ _
  have BUn : Hid (Box _ gu 32 (uc xb n xcb xd k xcD p r l cc xm m xcm s)) := hide (by have h := BU.out.setCells (uc xb n xcb xd k xcD p r l cc xm m xcm s) 0 (by simp); rw [← h3.out] at h; exact h)
  replace BV : Hid (Box _ gv 32 zU) := hide (by have h := BV.out.apart gu (by have := HG.out; omega) (uc xb n xcb xd k xcD p r l cc xm m xcm s) 0; rw [← h3.out] at h; exact h)
  replace BI : Hid (Box _ gi 44 zI) := hide (by have h := BI.out.apart gu (by have := HG.out; omega) (uc xb n xcb xd k xcD p r l cc xm m xcm s) 0; rw [← h3.out] at h; exact h)
  replace LL : Hid (Later w _) := hide (by have h := LL.out.setCells HG.out.1 (uc xb n xcb xd k xcD p r l cc xm m xcm s) 0; rw [← h3.out] at h; exact h)
  replace HM : Hid (Med _ _ n _ _) := hide (by have h := HM.out.setNoB BU.out (uc_nob _ _ _ _ _ _ _ _ _ _ _ _ _ _) (uc xb n xcb xd k xcD p r l cc xm m xcm s) 0; rw [← h3.out] at h; exact h)
  replace BU := BUn
  clear BUn h3
  have HT : Hid (At11 w w3 am cm M xm xcm M) := .inr ⟨by have h := HO.out; have e := HML.out; rw [e] at h; exact h, HOM.out⟩
  have y0 := BC.out.cell 0
  go_wp2_with fail
  refine (class_c (160) w3).mono ?_
  rintro e wx ⟨rfl, hw1⟩
  have hw2 := hw1.symm
  subst hw2
  rw [show classI 160 = 0 from rfl]
  have hc := fun q => ((Later.refl w3).drew.trans (later_rg w3.drew q))
  have d0 := fun q => (BU.out.later (hc q)).cell 0
  have d1 := fun q => (BU.out.later (hc q)).cell 1
  have d2 := fun q => (BU.out.later (hc q)).cell 2
  have d3 := fun q => (BU.out.later (hc q)).cell 3
  have d4 := fun q => (BU.out.later (hc q)).cell 4
  have d5 := fun q => (BU.out.later (hc q)).cell 5
  have z2 := fun q => (BC.out.later (hc q)).cell 2
  have HF := hide ((Fr11.mk LL.out HG.out.2.1 HG.out.2.2.1 HG.out.2.2.2.2.2.1 BV.out rfl (uc_nob _ _ _ _ _ _ _ _ _ _ _ _ _ _) BI.out rfl (ic_nob _ _ _ _ _ _ _ _ _ _ _ _ _)).later (Later.refl _).drew)
  go_wp2_with fail
  refine wp_region_tree [0, 1, 2, 3, 5] [4, 6] [7, 8] (by kernel_rfl) (by kernel_rfl) (by kernel_rfl) (by kernel_rfl) ?_
  refine wpT_loadG rfl (by kernel_rfl) 32 (.tmp 4) rfl gu 0 rfl (uc xb n xcb xd k xcD p r l cc xm m xcm s) _ ((World.rangeAt_drew _ _ _ _).2 BU.out.range) Tryz.underlying32 rfl Tryz.info_unit ?_
  iterate 4 (refine wpT_mild rfl (fun K hK => ?_); go_simp; refine hK _ ?_; clear hK K)
  clear d0 d1 d2 d3 d4 d5 z2 hc y0
  have HLn := hide (len_luns luns nn)
  generalize hT : cutL (lunsL (cntN luns)) nn = L at *
  have HTe := hide hT
  clear hT
  refine fin_two (bb := w) w gv gi HF.out 8 67 9 ⟨_, rfl, rfl, rfl, rfl⟩ ⟨_, rfl, rfl, rfl, rfl⟩ (uc xb n xcb xd k xcD p r l cc xm m xcm s) rfl rfl rfl 71 (by simp [put_size]) (by simp [put_size]) (by decide) 24 (Plain.of (by kernel_rfl)) [.tmp 68, .tmp 70] _ [.int .i64 luns, .int .i64 nn] rfl ⟨_, rfl, rfl, rfl, rfl⟩ 21 (Plain.of (by kernel_rfl)) [.tmp 71, .tmp 72] _ (fun v => [v, sval (0, 0, 0)]) (fun v => by
      simp only [List.map]
      rw [eval_same (by simp [put_size]), eval_put_ne (by decide)]
      rfl) ⟨_, rfl, rfl, rfl, rfl⟩ (by decide) (by kernel_rfl) (fun v W => Bs W v L) (fun _ _ _ hl h => h.later hl)
    (fun W hW => (luns9_c luns nn HC.out.2.2.1 W).mono (by
      rintro e w' ⟨v', rfl, hl, hb⟩
      rw [HTe.out] at hb
      exact ⟨v', rfl, hl, hb⟩))
    (fun v W hW hv => give11 HM.out HT.out HML.out ((Later.refl _).drew.trans hW) (iin11 v L (0, 0, 0) W hv okS_zero HLn.out)) ?_
  intro v0
  intro y W hLW hB4 hB5 hPW
  have HLW := hide hLW
  have HB4 := hide hB4
  have HB5 := hide hB5
  have HPW := hide hPW
  clear hLW hB4 hB5 hPW
  go_wp2
  exact bodyPost_ret (results_cell_cell' rfl _ _ _ gv 0 gi 0 rfl rfl _ _ (load_unit HB4.out rfl) (load_intent HB5.out HPW.out.one.2.1)) rfl ⟨_, y, rfl, HLW.out, by rw [HR.out]; exact HPW.out⟩
set_option maxRecDepth 20000 in
set_option maxHeartbeats 8000000 in
theorem beg_sel6 {ab : Option Addr} {n cb : Nat} {aD : Option Addr} {k cD : Nat} {F : List UInt8} {D : List Drt} {p r l cc : Bool} {am : Option Addr} {m cm : Nat} {s : Sns} {M : List Sns} {lun luns : Int} (at_ : Nat) (nn pg bt : Int) (w : World) (hm : Med w (.agg #[.slice ab n cb, .slice aD k cD]) n F D) (hA : Sl w (.slice am m cm) M) (hc : OkC7 (21, at_, nn, pg, bt)) (hs : OkS s) (h1 : In64 lun) (h2 : In64 luns) (hn : n ≤ 100) (hD : D.length ≤ 100) (hm1 : m ≤ 100) :
    Calls Tryz.prog 7 #[uval ab n cb aD k cD p r l cc am m cm s, .int .i64 lun, .int .i64 luns, cval (21, at_, nn, pg, bt)] w fun e w' => ∃ x y, e = .returned (.tuple #[.agg x.toArray, .agg y.toArray]) ∧ Later w w' ∧ PdI w n r cc am cm M (begI n F D p r l cc M s lun luns (21, at_, nn, pg, bt)) x y w' := by
  have HML : Hid (m = M.length) := by
    obtain ⟨a', c', e'⟩ := hA.1.shape
    simp at e'
    exact e'.2.1
  have HKD : Hid (k = D.length) := by
    obtain ⟨vb, vd, e, _, hd, _⟩ := hm
    simp at e
    obtain ⟨rfl, rfl⟩ := e
    obtain ⟨_, _, a', c', e', _⟩ := hd
    simp at e'
    exact e'.2.1
  have HOk : Hid (Ok D) := by obtain ⟨_, _, _, _, _, ho⟩ := hm; exact ho
  have HOM : Hid (∀ s ∈ M, OkS s) := hA.2
  have HM := hide hm
  have HA := hide hA
  have HC := hide hc
  have HS := hide hs
  have HI := hide (And.intro h1 h2)
  have HN := hide (And.intro hn (And.intro hD hm1))
  clear hm hA hc hs h1 h2 hn hD hm1
  have HR : Hid (begI n F D p r l cc M s lun luns (21, at_, nn, pg, bt) = ((F, D, p, l, M, s), outI (21, at_, nn, pg, bt) (0, 0, 0))) := by first | rfl | exact hB | (simp [Hid, begI]; done)
  have BU := hide ((((Box.new w 32 (uc ab n cb aD k cD p r l cc am m cm s).toArray).alloc (.cells (cmc (21, at_, nn, pg, bt)).toArray 36)).alloc (.cells zU.toArray 32)).alloc (.cells zI.toArray 44))
  have BC : Hid (Box _ (w.heap.size + 1) 36 (cmc (21, at_, nn, pg, bt))) := ((Box.new' (w.alloc (.cells (uc ab n cb aD k cD p r l cc am m cm s).toArray 32)) 36 (cmc (21, at_, nn, pg, bt)).toArray _ rfl _ (by simp)).alloc (.cells zU.toArray 32)).alloc (.cells zI.toArray 44)
  have BV : Hid (Box _ (w.heap.size + 1 + 1) 32 zU) := (Box.new' ((w.alloc (.cells (uc ab n cb aD k cD p r l cc am m cm s).toArray 32)).alloc (.cells (cmc (21, at_, nn, pg, bt)).toArray 36)) 32 zU.toArray _ rfl _ (by simp)).alloc (.cells zI.toArray 44)
  have BI : Hid (Box _ (w.heap.size + 1 + 1 + 1) 44 zI) := Box.new' (((w.alloc (.cells (uc ab n cb aD k cD p r l cc am m cm s).toArray 32)).alloc (.cells (cmc (21, at_, nn, pg, bt)).toArray 36)).alloc (.cells zU.toArray 32)) 44 zI.toArray _ rfl _ (by simp)
  have LL := hide (((((Later.refl w).alloc (.cells (uc ab n cb aD k cD p r l cc am m cm s).toArray 32)).alloc (.cells (cmc (21, at_, nn, pg, bt)).toArray 36)).alloc (.cells zU.toArray 32)).alloc (.cells zI.toArray 44))
  have x_0 := BU.out.cell 0
  have x_1 := BU.out.cell 1
  have x_2 := BU.out.cell 2
  have x_3 := BU.out.cell 3
  have x_4 := BU.out.cell 4
  have x_5 := BU.out.cell 5
  have x_6 := BU.out.cell 6
  have x_7 := BU.out.cell 7
  have x_8 := BU.out.cell 8
  have x_9 := BU.out.cell 9
  go_enter Tryz.func7, Tryz.ntmps7
  go_wp2_with fail
  clear x_0 x_1 x_2 x_3 x_4 x_5 x_6 x_7 x_8 x_9
  generalize (((w.alloc (.cells (uc ab n cb aD k cD p r l cc am m cm s).toArray 32)).alloc (.cells (cmc (21, at_, nn, pg, bt)).toArray 36)).alloc (.cells zU.toArray 32)).alloc (.cells zI.toArray 44) = w1 at *
  obtain ⟨gu, hgu⟩ : ∃ gu, gu = w.heap.size := ⟨_, rfl⟩
  obtain ⟨gc, hgc⟩ : ∃ gc, gc = w.heap.size + 1 := ⟨_, rfl⟩
  obtain ⟨gv, hgv⟩ : ∃ gv, gv = w.heap.size + 1 + 1 := ⟨_, rfl⟩
  obtain ⟨gi, hgi⟩ : ∃ gi, gi = w.heap.size + 1 + 1 + 1 := ⟨_, rfl⟩
  rw [← hgi] at BI ⊢
  rw [← hgv] at BV ⊢
  rw [← hgc] at BC ⊢
  rw [← hgu] at BU ⊢
  have HG : Hid (w.heap.size ≤ gu ∧ w.heap.size ≤ gv ∧ w.heap.size ≤ gi ∧ gu ≠ gv ∧ gu ≠ gi ∧ gv ≠ gi ∧ gc ≠ gu) := by rw [Hid]; omega
  clear hgu hgc hgv hgi
  refine (own11_c (F := F) (D := D) (M := M) w1 (HM.out.later LL.out) (HA.out.later LL.out) HN.out.1 HN.out.2.1 HN.out.2.2).mono ?_
  rintro e w2 ⟨xb, xcb, xd, xcD, xm, xcm, rfl, hl, ho⟩
  replace HM : Hid (Med w2 (.agg #[.slice xb n xcb, .slice xd k xcD]) n F D) := ⟨_, _, rfl, Rw.of_owns ho.1, by have h := Rw.of_owns ho.2.1; have e := HKD.out; rw [e] at h ⊢; exact h, HOk.out⟩
  have HO := hide (owns_rebase ho.2.2 LL.out.size)
  replace BU := hide (BU.out.later hl)
  replace BC := hide (BC.out.later hl)
  replace BV := hide (BV.out.later hl)
  replace BI := hide (BI.out.later hl)
  replace LL := hide (LL.out.trans hl)
  clear hl ho HA
  go_wp2_with (refine wpList_storeU rfl 32 (.tmp 4) (.tmp 11) rfl gu 0 rfl (uc xb n xcb xd k xcD p r l cc xm m xcm s) rfl Tryz.info_unit (uc_one _ _ _ _ _ _ _ _ _ _ _ _ _ _) _ _ BU.out (by simp) ?_)
  intro w3 h3
  replace HO : Hid (World.ownsRow w3 _ _ _ _ _ _) := hide (by rw [h3.out]; exact owns_setBox10 (owns_later HO.out (Later.refl _)) BU.out (by decide) _ _)
  replace BC : Hid (Box w3 gc 36 (cmc (21, at_, nn, pg, bt))) := by rw [h3.out]; exact BC.out.apart gu (by have := HG.out; omega) _ _
  have BUn : Hid (Box _ gu 32 (uc xb n xcb xd k xcD p r l cc xm m xcm s)) := hide (by have h := BU.out.setCells (uc xb n xcb xd k xcD p r l cc xm m xcm s) 0 (by simp); rw [← h3.out] at h; exact h)
  replace BV : Hid (Box _ gv 32 zU) := hide (by have h := BV.out.apart gu (by have := HG.out; omega) (uc xb n xcb xd k xcD p r l cc xm m xcm s) 0; rw [← h3.out] at h; exact h)
  replace BI : Hid (Box _ gi 44 zI) := hide (by have h := BI.out.apart gu (by have := HG.out; omega) (uc xb n xcb xd k xcD p r l cc xm m xcm s) 0; rw [← h3.out] at h; exact h)
  replace LL : Hid (Later w _) := hide (by have h := LL.out.setCells HG.out.1 (uc xb n xcb xd k xcD p r l cc xm m xcm s) 0; rw [← h3.out] at h; exact h)
  replace HM : Hid (Med _ _ n _ _) := hide (by have h := HM.out.setNoB BU.out (uc_nob _ _ _ _ _ _ _ _ _ _ _ _ _ _) (uc xb n xcb xd k xcD p r l cc xm m xcm s) 0; rw [← h3.out] at h; exact h)
  replace BU := BUn
  clear BUn h3
  have HT : Hid (At11 w w3 am cm M xm xcm M) := .inr ⟨by have h := HO.out; have e := HML.out; rw [e] at h; exact h, HOM.out⟩
  have y0 := BC.out.cell 0
  go_wp2_with fail
  refine (class_c (21) w3).mono ?_
  rintro e wx ⟨rfl, hw1⟩
  have hw2 := hw1.symm
  subst hw2
  rw [show classI 21 = 0 from rfl]
  have hc := fun q => ((Later.refl w3).drew.trans (later_rg w3.drew q))
  have d0 := fun q => (BU.out.later (hc q)).cell 0
  have d1 := fun q => (BU.out.later (hc q)).cell 1
  have d2 := fun q => (BU.out.later (hc q)).cell 2
  have d3 := fun q => (BU.out.later (hc q)).cell 3
  have d4 := fun q => (BU.out.later (hc q)).cell 4
  have d5 := fun q => (BU.out.later (hc q)).cell 5
  have z2 := fun q => (BC.out.later (hc q)).cell 2
  have HF := hide ((Fr11.mk LL.out HG.out.2.1 HG.out.2.2.1 HG.out.2.2.2.2.2.1 BV.out rfl (uc_nob _ _ _ _ _ _ _ _ _ _ _ _ _ _) BI.out rfl (ic_nob _ _ _ _ _ _ _ _ _ _ _ _ _)).later (Later.refl _).drew)
  go_wp2_with fail
  refine wp_region_tree [0, 1, 2] [3] [4, 5] (by kernel_rfl) (by kernel_rfl) (by kernel_rfl) (by kernel_rfl) ?_
  refine wpT_loadG rfl (by kernel_rfl) 32 (.tmp 4) rfl gu 0 rfl (uc xb n xcb xd k xcD p r l cc xm m xcm s) _ ((World.rangeAt_drew _ _ _ _).2 BU.out.range) Tryz.underlying32 rfl Tryz.info_unit ?_
  refine wpT_loadG rfl (by kernel_rfl) 36 (.tmp 7) rfl gc 0 rfl (cmc (21, at_, nn, pg, bt)) _ ((World.rangeAt_drew _ _ _ _).2 BC.out.range) Tryz.underlying36 rfl Tryz.info_cmd ?_
  iterate 1 (refine wpT_mild rfl (fun K hK => ?_); go_simp; refine hK _ ?_; clear hK K)
  clear d0 d1 d2 d3 d4 d5 z2 hc y0
  refine fin_one (bb := w) w gv gi HF.out 8 77 9 ⟨_, rfl, rfl, rfl, rfl⟩ ⟨_, rfl, rfl, rfl, rfl⟩ (uc xb n xcb xd k xcD p r l cc xm m xcm s) rfl rfl rfl (by simp [put_size]) (by decide) 25 (Plain.of (by kernel_rfl)) [.tmp 78, .tmp 79] _ [cval (21, at_, nn, pg, bt), sval (0, 0, 0)] rfl ⟨_, rfl, rfl, rfl, rfl⟩ (by kernel_rfl)
    (fun W hW => give11 HM.out HT.out HML.out ((Later.refl _).drew.trans hW) (iout11 (21, at_, nn, pg, bt) (0, 0, 0) W HC.out okS_zero)) ?_
  intro y W hLW hB4 hB5 hPW
  have HLW := hide hLW
  have HB4 := hide hB4
  have HB5 := hide hB5
  have HPW := hide hPW
  clear hLW hB4 hB5 hPW
  go_wp2
  exact bodyPost_ret (results_cell_cell' rfl _ _ _ gv 0 gi 0 rfl rfl _ _ (load_unit HB4.out rfl) (load_intent HB5.out HPW.out.one.2.1)) rfl ⟨_, y, rfl, HLW.out, by rw [HR.out]; exact HPW.out⟩
set_option maxRecDepth 20000 in
set_option maxHeartbeats 8000000 in
theorem beg_sel10 {ab : Option Addr} {n cb : Nat} {aD : Option Addr} {k cD : Nat} {F : List UInt8} {D : List Drt} {p r l cc : Bool} {am : Option Addr} {m cm : Nat} {s : Sns} {M : List Sns} {lun luns : Int} (at_ : Nat) (nn pg bt : Int) (w : World) (hm : Med w (.agg #[.slice ab n cb, .slice aD k cD]) n F D) (hA : Sl w (.slice am m cm) M) (hc : OkC7 (85, at_, nn, pg, bt)) (hs : OkS s) (h1 : In64 lun) (h2 : In64 luns) (hn : n ≤ 100) (hD : D.length ≤ 100) (hm1 : m ≤ 100) :
    Calls Tryz.prog 7 #[uval ab n cb aD k cD p r l cc am m cm s, .int .i64 lun, .int .i64 luns, cval (85, at_, nn, pg, bt)] w fun e w' => ∃ x y, e = .returned (.tuple #[.agg x.toArray, .agg y.toArray]) ∧ Later w w' ∧ PdI w n r cc am cm M (begI n F D p r l cc M s lun luns (85, at_, nn, pg, bt)) x y w' := by
  have HML : Hid (m = M.length) := by
    obtain ⟨a', c', e'⟩ := hA.1.shape
    simp at e'
    exact e'.2.1
  have HKD : Hid (k = D.length) := by
    obtain ⟨vb, vd, e, _, hd, _⟩ := hm
    simp at e
    obtain ⟨rfl, rfl⟩ := e
    obtain ⟨_, _, a', c', e', _⟩ := hd
    simp at e'
    exact e'.2.1
  have HOk : Hid (Ok D) := by obtain ⟨_, _, _, _, _, ho⟩ := hm; exact ho
  have HOM : Hid (∀ s ∈ M, OkS s) := hA.2
  have HM := hide hm
  have HA := hide hA
  have HC := hide hc
  have HS := hide hs
  have HI := hide (And.intro h1 h2)
  have HN := hide (And.intro hn (And.intro hD hm1))
  clear hm hA hc hs h1 h2 hn hD hm1
  have HR : Hid (begI n F D p r l cc M s lun luns (85, at_, nn, pg, bt) = ((F, D, p, l, M, s), outI (85, at_, nn, pg, bt) (0, 0, 0))) := by first | rfl | exact hB | (simp [Hid, begI]; done)
  have BU := hide ((((Box.new w 32 (uc ab n cb aD k cD p r l cc am m cm s).toArray).alloc (.cells (cmc (85, at_, nn, pg, bt)).toArray 36)).alloc (.cells zU.toArray 32)).alloc (.cells zI.toArray 44))
  have BC : Hid (Box _ (w.heap.size + 1) 36 (cmc (85, at_, nn, pg, bt))) := ((Box.new' (w.alloc (.cells (uc ab n cb aD k cD p r l cc am m cm s).toArray 32)) 36 (cmc (85, at_, nn, pg, bt)).toArray _ rfl _ (by simp)).alloc (.cells zU.toArray 32)).alloc (.cells zI.toArray 44)
  have BV : Hid (Box _ (w.heap.size + 1 + 1) 32 zU) := (Box.new' ((w.alloc (.cells (uc ab n cb aD k cD p r l cc am m cm s).toArray 32)).alloc (.cells (cmc (85, at_, nn, pg, bt)).toArray 36)) 32 zU.toArray _ rfl _ (by simp)).alloc (.cells zI.toArray 44)
  have BI : Hid (Box _ (w.heap.size + 1 + 1 + 1) 44 zI) := Box.new' (((w.alloc (.cells (uc ab n cb aD k cD p r l cc am m cm s).toArray 32)).alloc (.cells (cmc (85, at_, nn, pg, bt)).toArray 36)).alloc (.cells zU.toArray 32)) 44 zI.toArray _ rfl _ (by simp)
  have LL := hide (((((Later.refl w).alloc (.cells (uc ab n cb aD k cD p r l cc am m cm s).toArray 32)).alloc (.cells (cmc (85, at_, nn, pg, bt)).toArray 36)).alloc (.cells zU.toArray 32)).alloc (.cells zI.toArray 44))
  have x_0 := BU.out.cell 0
  have x_1 := BU.out.cell 1
  have x_2 := BU.out.cell 2
  have x_3 := BU.out.cell 3
  have x_4 := BU.out.cell 4
  have x_5 := BU.out.cell 5
  have x_6 := BU.out.cell 6
  have x_7 := BU.out.cell 7
  have x_8 := BU.out.cell 8
  have x_9 := BU.out.cell 9
  go_enter Tryz.func7, Tryz.ntmps7
  go_wp2_with fail
  clear x_0 x_1 x_2 x_3 x_4 x_5 x_6 x_7 x_8 x_9
  generalize (((w.alloc (.cells (uc ab n cb aD k cD p r l cc am m cm s).toArray 32)).alloc (.cells (cmc (85, at_, nn, pg, bt)).toArray 36)).alloc (.cells zU.toArray 32)).alloc (.cells zI.toArray 44) = w1 at *
  obtain ⟨gu, hgu⟩ : ∃ gu, gu = w.heap.size := ⟨_, rfl⟩
  obtain ⟨gc, hgc⟩ : ∃ gc, gc = w.heap.size + 1 := ⟨_, rfl⟩
  obtain ⟨gv, hgv⟩ : ∃ gv, gv = w.heap.size + 1 + 1 := ⟨_, rfl⟩
  obtain ⟨gi, hgi⟩ : ∃ gi, gi = w.heap.size + 1 + 1 + 1 := ⟨_, rfl⟩
  rw [← hgi] at BI ⊢
  rw [← hgv] at BV ⊢
  rw [← hgc] at BC ⊢
  rw [← hgu] at BU ⊢
  have HG : Hid (w.heap.size ≤ gu ∧ w.heap.size ≤ gv ∧ w.heap.size ≤ gi ∧ gu ≠ gv ∧ gu ≠ gi ∧ gv ≠ gi ∧ gc ≠ gu) := by rw [Hid]; omega
  clear hgu hgc hgv hgi
  refine (own11_c (F := F) (D := D) (M := M) w1 (HM.out.later LL.out) (HA.out.later LL.out) HN.out.1 HN.out.2.1 HN.out.2.2).mono ?_
  rintro e w2 ⟨xb, xcb, xd, xcD, xm, xcm, rfl, hl, ho⟩
  replace HM : Hid (Med w2 (.agg #[.slice xb n xcb, .slice xd k xcD]) n F D) := ⟨_, _, rfl, Rw.of_owns ho.1, by have h := Rw.of_owns ho.2.1; have e := HKD.out; rw [e] at h ⊢; exact h, HOk.out⟩
  have HO := hide (owns_rebase ho.2.2 LL.out.size)
  replace BU := hide (BU.out.later hl)
  replace BC := hide (BC.out.later hl)
  replace BV := hide (BV.out.later hl)
  replace BI := hide (BI.out.later hl)
  replace LL := hide (LL.out.trans hl)
  clear hl ho HA
  go_wp2_with (refine wpList_storeU rfl 32 (.tmp 4) (.tmp 11) rfl gu 0 rfl (uc xb n xcb xd k xcD p r l cc xm m xcm s) rfl Tryz.info_unit (uc_one _ _ _ _ _ _ _ _ _ _ _ _ _ _) _ _ BU.out (by simp) ?_)
  intro w3 h3
  replace HO : Hid (World.ownsRow w3 _ _ _ _ _ _) := hide (by rw [h3.out]; exact owns_setBox10 (owns_later HO.out (Later.refl _)) BU.out (by decide) _ _)
  replace BC : Hid (Box w3 gc 36 (cmc (85, at_, nn, pg, bt))) := by rw [h3.out]; exact BC.out.apart gu (by have := HG.out; omega) _ _
  have BUn : Hid (Box _ gu 32 (uc xb n xcb xd k xcD p r l cc xm m xcm s)) := hide (by have h := BU.out.setCells (uc xb n xcb xd k xcD p r l cc xm m xcm s) 0 (by simp); rw [← h3.out] at h; exact h)
  replace BV : Hid (Box _ gv 32 zU) := hide (by have h := BV.out.apart gu (by have := HG.out; omega) (uc xb n xcb xd k xcD p r l cc xm m xcm s) 0; rw [← h3.out] at h; exact h)
  replace BI : Hid (Box _ gi 44 zI) := hide (by have h := BI.out.apart gu (by have := HG.out; omega) (uc xb n xcb xd k xcD p r l cc xm m xcm s) 0; rw [← h3.out] at h; exact h)
  replace LL : Hid (Later w _) := hide (by have h := LL.out.setCells HG.out.1 (uc xb n xcb xd k xcD p r l cc xm m xcm s) 0; rw [← h3.out] at h; exact h)
  replace HM : Hid (Med _ _ n _ _) := hide (by have h := HM.out.setNoB BU.out (uc_nob _ _ _ _ _ _ _ _ _ _ _ _ _ _) (uc xb n xcb xd k xcD p r l cc xm m xcm s) 0; rw [← h3.out] at h; exact h)
  replace BU := BUn
  clear BUn h3
  have HT : Hid (At11 w w3 am cm M xm xcm M) := .inr ⟨by have h := HO.out; have e := HML.out; rw [e] at h; exact h, HOM.out⟩
  have y0 := BC.out.cell 0
  go_wp2_with fail
  refine (class_c (85) w3).mono ?_
  rintro e wx ⟨rfl, hw1⟩
  have hw2 := hw1.symm
  subst hw2
  rw [show classI 85 = 0 from rfl]
  have hc := fun q => ((Later.refl w3).drew.trans (later_rg w3.drew q))
  have d0 := fun q => (BU.out.later (hc q)).cell 0
  have d1 := fun q => (BU.out.later (hc q)).cell 1
  have d2 := fun q => (BU.out.later (hc q)).cell 2
  have d3 := fun q => (BU.out.later (hc q)).cell 3
  have d4 := fun q => (BU.out.later (hc q)).cell 4
  have d5 := fun q => (BU.out.later (hc q)).cell 5
  have z2 := fun q => (BC.out.later (hc q)).cell 2
  have HF := hide ((Fr11.mk LL.out HG.out.2.1 HG.out.2.2.1 HG.out.2.2.2.2.2.1 BV.out rfl (uc_nob _ _ _ _ _ _ _ _ _ _ _ _ _ _) BI.out rfl (ic_nob _ _ _ _ _ _ _ _ _ _ _ _ _)).later (Later.refl _).drew)
  go_wp2_with fail
  refine wp_region_tree [0, 1, 2] [3] [4, 5] (by kernel_rfl) (by kernel_rfl) (by kernel_rfl) (by kernel_rfl) ?_
  refine wpT_loadG rfl (by kernel_rfl) 32 (.tmp 4) rfl gu 0 rfl (uc xb n xcb xd k xcD p r l cc xm m xcm s) _ ((World.rangeAt_drew _ _ _ _).2 BU.out.range) Tryz.underlying32 rfl Tryz.info_unit ?_
  refine wpT_loadG rfl (by kernel_rfl) 36 (.tmp 7) rfl gc 0 rfl (cmc (85, at_, nn, pg, bt)) _ ((World.rangeAt_drew _ _ _ _).2 BC.out.range) Tryz.underlying36 rfl Tryz.info_cmd ?_
  iterate 1 (refine wpT_mild rfl (fun K hK => ?_); go_simp; refine hK _ ?_; clear hK K)
  clear d0 d1 d2 d3 d4 d5 z2 hc y0
  refine fin_one (bb := w) w gv gi HF.out 8 77 9 ⟨_, rfl, rfl, rfl, rfl⟩ ⟨_, rfl, rfl, rfl, rfl⟩ (uc xb n xcb xd k xcD p r l cc xm m xcm s) rfl rfl rfl (by simp [put_size]) (by decide) 25 (Plain.of (by kernel_rfl)) [.tmp 78, .tmp 79] _ [cval (85, at_, nn, pg, bt), sval (0, 0, 0)] rfl ⟨_, rfl, rfl, rfl, rfl⟩ (by kernel_rfl)
    (fun W hW => give11 HM.out HT.out HML.out ((Later.refl _).drew.trans hW) (iout11 (85, at_, nn, pg, bt) (0, 0, 0) W HC.out okS_zero)) ?_
  intro y W hLW hB4 hB5 hPW
  have HLW := hide hLW
  have HB4 := hide hB4
  have HB5 := hide hB5
  have HPW := hide hPW
  clear hLW hB4 hB5 hPW
  go_wp2
  exact bodyPost_ret (results_cell_cell' rfl _ _ _ gv 0 gi 0 rfl rfl _ _ (load_unit HB4.out rfl) (load_intent HB5.out HPW.out.one.2.1)) rfl ⟨_, y, rfl, HLW.out, by rw [HR.out]; exact HPW.out⟩
end Go.Proofs.YtfakboehmcimpaaGreat
