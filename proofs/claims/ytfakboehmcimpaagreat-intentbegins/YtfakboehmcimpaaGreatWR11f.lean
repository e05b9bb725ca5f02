import Derived.Test.YtfakboehmcimpaaGreatWR11c
import Derived.Test.YtfakboehmcimpaaGreatMAS
import Derived.Test.YtfakboehmcimpaaGreatMAP
import Derived.Test.YtfakboehmcimpaaGreatMAN
namespace Go.Proofs.YtfakboehmcimpaaGreat
open Go.ChangeShapes Go.WideShapes Go.ChangeAt Go.RowKit
set_option linter.unusedVariables false
set_option maxRecDepth 4000
set_option linter.unusedSimpArgs false
/-! The document's Begin: Prevent, Capacity, ReportLuns. -/
set_option maxRecDepth 20000 in
set_option maxHeartbeats 8000000 in
theorem rbeg_keep {ab : Option Addr} {n cb : Nat} {aD : Option Addr} {k cD : Nat} {F : List UInt8} {D : List Drt} {p r l cc : Bool} {am : Option Addr} {m cm : Nat} {s : Sns} {M : List Sns} {lun luns : Int} (at_ : Nat) (nn pg bt : Int) (w : World) (hm : Med w (.agg #[.slice ab n cb, .slice aD k cD]) n F D) (hA : Sl w (.slice am m cm) M) (hc : OkC7 (30, at_, nn, pg, bt)) (hs : OkS s) (h1 : In64 lun) (h2 : In64 luns) (hm1 : m ≤ 100) :
    Calls Tryz.prog 8 #[uval ab n cb aD k cD p r l cc am m cm s, .int .i64 lun, .int .i64 luns, cval (30, at_, nn, pg, bt)] w fun e w' => ∃ x y, e = .returned (.tuple #[.agg x.toArray, .agg y.toArray]) ∧ Later w w' ∧ PdI w n r cc am cm M (begI n F D p r l cc M s lun luns (30, at_, nn, pg, bt)) x y w' := by
  have HML : Hid (m = M.length) := by
    obtain ⟨a', c', e'⟩ := hA.1.shape
    simp at e'
    exact e'.2.1
  have HM := hide hm
  have HA := hide hA
  have HC := hide hc
  have HS := hide hs
  have HI := hide (And.intro h1 h2)
  have HN := hide hm1
  clear hm hA hc hs h1 h2 hm1
  have HR : Hid (begI n F D p r l cc M s lun luns (30, at_, nn, pg, bt) = ((F, D, p, kpL p (bt == 1) l, M, s), noneI (readyS p))) := by first | rfl | exact hB | (simp [Hid, begI]; done)
  have BU := hide ((((Box.new w 32 (uc ab n cb aD k cD p r l cc am m cm s).toArray).alloc (.cells (cmc (30, at_, nn, pg, bt)).toArray 36)).alloc (.cells zU.toArray 32)).alloc (.cells zI.toArray 44))
  have BC : Hid (Box _ (w.heap.size + 1) 36 (cmc (30, at_, nn, pg, bt))) := ((Box.new' (w.alloc (.cells (uc ab n cb aD k cD p r l cc am m cm s).toArray 32)) 36 (cmc (30, at_, nn, pg, bt)).toArray _ rfl _ (by simp)).alloc (.cells zU.toArray 32)).alloc (.cells zI.toArray 44)
  have BV : Hid (Box _ (w.heap.size + 1 + 1) 32 zU) := (Box.new' ((w.alloc (.cells (uc ab n cb aD k cD p r l cc am m cm s).toArray 32)).alloc (.cells (cmc (30, at_, nn, pg, bt)).toArray 36)) 32 zU.toArray _ rfl _ (by simp)).alloc (.cells zI.toArray 44)
  have BI : Hid (Box _ (w.heap.size + 1 + 1 + 1) 44 zI) := Box.new' (((w.alloc (.cells (uc ab n cb aD k cD p r l cc am m cm s).toArray 32)).alloc (.cells (cmc (30, at_, nn, pg, bt)).toArray 36)).alloc (.cells zU.toArray 32)) 44 zI.toArray _ rfl _ (by simp)
  have LL := hide (((((Later.refl w).alloc (.cells (uc ab n cb aD k cD p r l cc am m cm s).toArray 32)).alloc (.cells (cmc (30, at_, nn, pg, bt)).toArray 36)).alloc (.cells zU.toArray 32)).alloc (.cells zI.toArray 44))
  replace HM := hide (HM.out.later LL.out)
  have d0 := BU.out.cell 0
  have d1 := BU.out.cell 1
  have d2 := BU.out.cell 2
  have d3 := BU.out.cell 3
  have d4 := BU.out.cell 4
  go_enter Tryz.func8, Tryz.ntmps8
  go_wp2_with fail
  clear d0 d1 d2 d3 d4
  generalize (((w.alloc (.cells (uc ab n cb aD k cD p r l cc am m cm s).toArray 32)).alloc (.cells (cmc (30, at_, nn, pg, bt)).toArray 36)).alloc (.cells zU.toArray 32)).alloc (.cells zI.toArray 44) = w1 at *
  obtain ⟨gu, hgu⟩ : ∃ gu, gu = w.heap.size := ⟨_, rfl⟩
  obtain ⟨gc, hgc⟩ : ∃ gc, gc = w.heap.size + 1 := ⟨_, rfl⟩
  obtain ⟨gv, hgv⟩ : ∃ gv, gv = w.heap.size + 1 + 1 := ⟨_, rfl⟩
  obtain ⟨gi, hgi⟩ : ∃ gi, gi = w.heap.size + 1 + 1 + 1 := ⟨_, rfl⟩
  rw [← hgi] at BI ⊢
  rw [← hgv] at BV ⊢
  rw [← hgc] at BC ⊢
  rw [← hgu] at BU ⊢
  have HG : Hid (w.heap.size ≤ gu ∧ w.heap.size ≤ gv ∧ w.heap.size ≤ gi ∧ gu ≠ gv ∧ gu ≠ gi ∧ gv ≠ gi ∧ gc ≠ gu) := by rw [Hid]; omega
  clear hgu hgc hgv hgi
  refine (rready_c (F := F) (D := D) w1 ⟨ab, cb, aD, k, cD, rfl, HM.out⟩).mono ?_
  rintro e w2 ⟨rfl, hl⟩
  replace BU := hide (BU.out.later hl)
  replace BV := hide (BV.out.later hl)
  replace BI := hide (BI.out.later hl)
  replace HM := hide (HM.out.later hl)
  replace LL := hide (LL.out.trans hl)
  replace BC := hide (BC.out.later hl)
  clear hl
  go_wp2_with (refine wpList_newS rfl rfl rfl 10 rfl (by simp) (.tmp 21) (by simp) rfl (readyS p) rfl ?_)
  intro g7 w3 hB7 hl hg
  replace BU := hide (BU.out.later hl)
  replace BV := hide (BV.out.later hl)
  replace BI := hide (BI.out.later hl)
  replace HM := hide (HM.out.later hl)
  replace LL := hide (LL.out.trans hl)
  replace BC := hide (BC.out.later hl)
  have B7 := hide hB7
  clear hB7 hl hg
  have d0 := BU.out.cell 0
  have d1 := BU.out.cell 1
  go_wp2_with fail
  clear d0 d1
  refine (rall_b (F := F) (D := D) _ HM.out).mono ?_
  rintro e w4 ⟨v4, rfl, hl, hr⟩
  obtain ⟨a4, c4, rfl⟩ := hr.shape
  replace BU := hide (BU.out.later hl)
  replace BV := hide (BV.out.later hl)
  replace BI := hide (BI.out.later hl)
  replace HM := hide (HM.out.later hl)
  replace LL := hide (LL.out.trans hl)
  replace BC := hide (BC.out.later hl)
  replace B7 := hide (B7.out.later hl)
  clear hl hr
  obtain ⟨N, hN⟩ : ∃ N, N = allN n D := ⟨_, rfl⟩
  have hN9 : (N : Int) ≤ 9223372036854775807 := by have := allN_small n D; omega
  rw [← hN]
  have HNe := hide hN
  clear hN
  have HF := hide ((Fr11.mk LL.out HG.out.2.1 HG.out.2.2.1 HG.out.2.2.2.2.2.1 BV.out rfl (uc_nob _ _ _ _ _ _ _ _ _ _ _ _ _ _) BI.out rfl (ic_nob _ _ _ _ _ _ _ _ _ _ _ _ _)).later (Later.refl _).drew)
  have y0 := BC.out.cell 0
  have y4 := BC.out.cell 4
  have d0 := BU.out.cell 0
  have d1 := BU.out.cell 1
  have d2 := BU.out.cell 2
  have d3 := BU.out.cell 3
  have d4 := BU.out.cell 4
  go_wp2_with fail
  clear y0 y4 d0 d1 d2 d3 d4 HF B7
  refine (rkeep_c (F := F) (D := D) (bt == 1) _ ⟨ab, cb, aD, k, cD, rfl, HM.out⟩).mono ?_
  rintro e w5 ⟨v5, rfl, hl, hs5⟩
  obtain ⟨b3, f3, b6, j6, f6, rfl, hm5⟩ := hs5
  obtain ⟨l2, hl2⟩ : ∃ l2, l2 = kpL p (bt == 1) l := ⟨_, rfl⟩
  rw [show (if p = true then bt == 1 else l) = l2 from hl2.symm]
  rw [← hl2] at HR
  clear hl2
  replace BU := hide (BU.out.later hl)
  replace BV := hide (BV.out.later hl)
  replace BI := hide (BI.out.later hl)
  replace HM := hide (HM.out.later hl)
  replace LL := hide (LL.out.trans hl)
  replace BC := hide (BC.out.later hl)
  replace HM := hide hm5
  clear hl hm5
  go_wp2_with (refine wpList_newTS rfl rfl rfl rfl rfl rfl 17 18 rfl rfl (by simp) (by simp) (by decide) (.tmp 102) (.tmp 103) (by simp) (by simp) (by simp) (by simp) rfl rfl rfl rfl b3 b6 n f3 j6 f6 p r l2 (readyS p) rfl rfl ?_)
  intro g6 g8 w6 hB6 hB8 hl hg
  replace BU := hide (BU.out.later hl)
  replace BV := hide (BV.out.later hl)
  replace BI := hide (BI.out.later hl)
  replace HM := hide (HM.out.later hl)
  replace LL := hide (LL.out.trans hl)
  replace BC := hide (BC.out.later hl)
  have B6 := hide hB6
  have B8 := hide hB8
  have HG8 : Hid (g8 ≠ gu) := box_ne B8.out BU.out (by decide)
  clear hB6 hB8 hl hg
  have d0 := B6.out.cell 0
  have d1 := B6.out.cell 1
  have d2 := B6.out.cell 2
  have d3 := B6.out.cell 3
  have d4 := B6.out.cell 4
  go_wp2_with (refine wpList_storeU rfl 27 (.tmp 105) (.tmp 104) rfl gu 0 rfl (tc (.slice b3 n f3) (.slice b6 j6 f6) p r l2) rfl Tryz.info_slot (tc_one _ _ _ _ _ _ _ _ _) _ _ BU.out (by simp) ?_)
  intro w7 h7
  clear d0 d1 d2 d3 d4 B6
  replace B8 : Hid (Box w7 g8 30 (sc (readyS p))) := by rw [h7.out]; exact B8.out.apart gu HG8.out _ _
  have BUn : Hid (Box _ gu 32 (uc b3 n f3 b6 j6 f6 p r l2 cc am m cm s)) := hide (by have h := BU.out.setCells (tc (.slice b3 n f3) (.slice b6 j6 f6) p r l2) 0 (by simp); rw [← h7.out] at h; exact h)
  replace BV : Hid (Box _ gv 32 zU) := hide (by have h := BV.out.apart gu (by have := HG.out; omega) (tc (.slice b3 n f3) (.slice b6 j6 f6) p r l2) 0; rw [← h7.out] at h; exact h)
  replace BI : Hid (Box _ gi 44 zI) := hide (by have h := BI.out.apart gu (by have := HG.out; omega) (tc (.slice b3 n f3) (.slice b6 j6 f6) p r l2) 0; rw [← h7.out] at h; exact h)
  replace LL : Hid (Later w _) := hide (by have h := LL.out.setCells HG.out.1 (tc (.slice b3 n f3) (.slice b6 j6 f6) p r l2) 0; rw [← h7.out] at h; exact h)
  replace HM : Hid (Med _ _ n _ _) := hide (by have h := HM.out.setNoB BU.out (uc_nob _ _ _ _ _ _ _ _ _ _ _ _ _ _) (tc (.slice b3 n f3) (.slice b6 j6 f6) p r l2) 0; rw [← h7.out] at h; exact h)
  replace BU := BUn
  clear BUn h7
  go_wp2_with fail
  refine wp_region_tree [0, 1] [2] [3, 4] (by kernel_rfl) (by kernel_rfl) (by kernel_rfl) (by kernel_rfl) ?_
  refine wpT_loadG rfl (by kernel_rfl) 32 (.tmp 4) rfl gu 0 rfl (uc b3 n f3 b6 j6 f6 p r l2 cc am m cm s) _ ((World.rangeAt_drew _ _ _ _).2 BU.out.range) Tryz.underlying32 rfl Tryz.info_unit ?_
  refine wpT_loadG rfl (by kernel_rfl) 30 (.tmp 18) rfl g8 0 rfl (sc (readyS p)) _ ((World.rangeAt_drew _ _ _ _).2 B8.out.range) Tryz.underlying30 rfl Tryz.info_sense ?_
  refine fin_one (bb := w) w gv gi ((Fr11.mk LL.out HG.out.2.1 HG.out.2.2.1 HG.out.2.2.2.2.2.1 BV.out rfl (uc_nob _ _ _ _ _ _ _ _ _ _ _ _ _ _) BI.out rfl (ic_nob _ _ _ _ _ _ _ _ _ _ _ _ _)).later (Later.refl _).drew) 8 106 9 ⟨_, rfl, rfl, rfl, rfl⟩ ⟨_, rfl, rfl, rfl, rfl⟩ (uc b3 n f3 b6 j6 f6 p r l2 cc am m cm s) rfl rfl rfl (by simp [put_size]) (by decide) 32 (Plain.of (by kernel_rfl)) [.tmp 107] _ [sval (readyS p)] rfl ⟨_, rfl, rfl, rfl, rfl⟩ (by kernel_rfl)
    (fun W hW => give11 HM.out At11.same HML.out ((Later.refl _).drew.trans hW) rnone11) ?_
  intro y W hLW hB4 hB5 hPW
  have HLW := hide hLW
  have HB4 := hide hB4
  have HB5 := hide hB5
  have HPW := hide hPW
  clear hLW hB4 hB5 hPW
  go_wp2
  exact bodyPost_ret (results_cell_cell' rfl _ _ _ gv 0 gi 0 rfl rfl _ _ (load_unit HB4.out rfl) (load_intent HB5.out HPW.out.one.2.1)) rfl ⟨_, y, rfl, HLW.out, by rw [HR.out]; exact HPW.out⟩
set_option maxRecDepth 20000 in
set_option maxHeartbeats 8000000 in
theorem rbeg_cap10 {ab : Option Addr} {n cb : Nat} {aD : Option Addr} {k cD : Nat} {F : List UInt8} {D : List Drt} {p r l cc : Bool} {am : Option Addr} {m cm : Nat} {s : Sns} {M : List Sns} {lun luns : Int} (at_ : Nat) (nn pg bt : Int) (w : World) (hm : Med w (.agg #[.slice ab n cb, .slice aD k cD]) n F D) (hA : Sl w (.slice am m cm) M) (hc : OkC7 (37, at_, nn, pg, bt)) (hs : OkS s) (h1 : In64 lun) (h2 : In64 luns) (hm1 : m ≤ 100) :
    Calls Tryz.prog 8 #[uval ab n cb aD k cD p r l cc am m cm s, .int .i64 lun, .int .i64 luns, cval (37, at_, nn, pg, bt)] w fun e w' => ∃ x y, e = .returned (.tuple #[.agg x.toArray, .agg y.toArray]) ∧ Later w w' ∧ PdI w n r cc am cm M (begI n F D p r l cc M s lun luns (37, at_, nn, pg, bt)) x y w' := by
  have HML : Hid (m = M.length) := by
    obtain ⟨a', c', e'⟩ := hA.1.shape
    simp at e'
    exact e'.2.1
  have HM := hide hm
  have HA := hide hA
  have HC := hide hc
  have HS := hide hs
  have HI := hide (And.intro h1 h2)
  have HN := hide hm1
  clear hm hA hc hs h1 h2 hm1
  have HR : Hid (begI n F D p r l cc M s lun luns (37, at_, nn, pg, bt) = ((F, D, p, l, M, s), inI (tenL (allN n D : Int)) (readyS p))) := by first | rfl | exact hB | (simp [Hid, begI]; done)
  have BU := hide ((((Box.new w 32 (uc ab n cb aD k cD p r l cc am m cm s).toArray).alloc (.cells (cmc (37, at_, nn, pg, bt)).toArray 36)).alloc (.cells zU.toArray 32)).alloc (.cells zI.toArray 44))
  have BC : Hid (Box _ (w.heap.size + 1) 36 (cmc (37, at_, nn, pg, bt))) := ((Box.new' (w.alloc (.cells (uc ab n cb aD k cD p r l cc am m cm s).toArray 32)) 36 (cmc (37, at_, nn, pg, bt)).toArray _ rfl _ (by simp)).alloc (.cells zU.toArray 32)).alloc (.cells zI.toArray 44)
  have BV : Hid (Box _ (w.heap.size + 1 + 1) 32 zU) := (Box.new' ((w.alloc (.cells (uc ab n cb aD k cD p r l cc am m cm s).toArray 32)).alloc (.cells (cmc (37, at_, nn, pg, bt)).toArray 36)) 32 zU.toArray _ rfl _ (by simp)).alloc (.cells zI.toArray 44)
  have BI : Hid (Box _ (w.heap.size + 1 + 1 + 1) 44 zI) := Box.new' (((w.alloc (.cells (uc ab n cb aD k cD p r l cc am m cm s).toArray 32)).alloc (.cells (cmc (37, at_, nn, pg, bt)).toArray 36)).alloc (.cells zU.toArray 32)) 44 zI.toArray _ rfl _ (by simp)
  have LL := hide (((((Later.refl w).alloc (.cells (uc ab n cb aD k cD p r l cc am m cm s).toArray 32)).alloc (.cells (cmc (37, at_, nn, pg, bt)).toArray 36)).alloc (.cells zU.toArray 32)).alloc (.cells zI.toArray 44))
  replace HM := hide (HM.out.later LL.out)
  have d0 := BU.out.cell 0
  have d1 := BU.out.cell 1
  have d2 := BU.out.cell 2
  have d3 := BU.out.cell 3
  have d4 := BU.out.cell 4
  go_enter Tryz.func8, Tryz.ntmps8
  go_wp2_with fail
  clear d0 d1 d2 d3 d4
  generalize (((w.alloc (.cells (uc ab n cb aD k cD p r l cc am m cm s).toArray 32)).alloc (.cells (cmc (37, at_, nn, pg, bt)).toArray 36)).alloc (.cells zU.toArray 32)).alloc (.cells zI.toArray 44) = w1 at *
  obtain ⟨gu, hgu⟩ : ∃ gu, gu = w.heap.size := ⟨_, rfl⟩
  obtain ⟨gc, hgc⟩ : ∃ gc, gc = w.heap.size + 1 := ⟨_, rfl⟩
  obtain ⟨gv, hgv⟩ : ∃ gv, gv = w.heap.size + 1 + 1 := ⟨_, rfl⟩
  obtain ⟨gi, hgi⟩ : ∃ gi, gi = w.heap.size + 1 + 1 + 1 := ⟨_, rfl⟩
  rw [← hgi] at BI ⊢
  rw [← hgv] at BV ⊢
  rw [← hgc] at BC ⊢
  rw [← hgu] at BU ⊢
  have HG : Hid (w.heap.size ≤ gu ∧ w.heap.size ≤ gv ∧ w.heap.size ≤ gi ∧ gu ≠ gv ∧ gu ≠ gi ∧ gv ≠ gi ∧ gc ≠ gu) := by rw [Hid]; omega
  clear hgu hgc hgv hgi
  refine (rready_c (F := F) (D := D) w1 ⟨ab, cb, aD, k, cD, rfl, HM.out⟩).mono ?_
  rintro e w2 ⟨rfl, hl⟩
  replace BU := hide (BU.out.later hl)
  replace BV := hide (BV.out.later hl)
  replace BI := hide (BI.out.later hl)
  replace HM := hide (HM.out.later hl)
  replace LL := hide (LL.out.trans hl)
  replace BC := hide (BC.out.later hl)
  clear hl
  go_wp2_with (refine wpList_newS rfl rfl rfl 10 rfl (by simp) (.tmp 21) (by simp) rfl (readyS p) rfl ?_)
  intro g7 w3 hB7 hl hg
  replace BU := hide (BU.out.later hl)
  replace BV := hide (BV.out.later hl)
  replace BI := hide (BI.out.later hl)
  replace HM := hide (HM.out.later hl)
  replace LL := hide (LL.out.trans hl)
  replace BC := hide (BC.out.later hl)
  have B7 := hide hB7
  clear hB7 hl hg
  have d0 := BU.out.cell 0
  have d1 := BU.out.cell 1
  go_wp2_with fail
  clear d0 d1
  refine (rall_b (F := F) (D := D) _ HM.out).mono ?_
  rintro e w4 ⟨v4, rfl, hl, hr⟩
  obtain ⟨a4, c4, rfl⟩ := hr.shape
  replace BU := hide (BU.out.later hl)
  replace BV := hide (BV.out.later hl)
  replace BI := hide (BI.out.later hl)
  replace HM := hide (HM.out.later hl)
  replace LL := hide (LL.out.trans hl)
  replace BC := hide (BC.out.later hl)
  replace B7 := hide (B7.out.later hl)
  clear hl hr
  obtain ⟨N, hN⟩ : ∃ N, N = allN n D := ⟨_, rfl⟩
  have hN9 : (N : Int) ≤ 9223372036854775807 := by have := allN_small n D; omega
  rw [← hN]
  have HNe := hide hN
  clear hN
  have HF := hide ((Fr11.mk LL.out HG.out.2.1 HG.out.2.2.1 HG.out.2.2.2.2.2.1 BV.out rfl (uc_nob _ _ _ _ _ _ _ _ _ _ _ _ _ _) BI.out rfl (ic_nob _ _ _ _ _ _ _ _ _ _ _ _ _)).later (Later.refl _).drew)
  have y0 := BC.out.cell 0
  have hc := fun q => ((Later.refl w4).drew.trans (later_rg w4.drew q))
  have z2 := fun q => (BC.out.later (hc q)).cell 2
  go_wp2_with fail
  refine wp_region_tree [0, 1, 3] [2, 4] [5, 6] (by kernel_rfl) (by kernel_rfl) (by kernel_rfl) (by kernel_rfl) ?_
  refine wpT_loadG rfl (by kernel_rfl) 32 (.tmp 4) rfl gu 0 rfl (uc ab n cb aD k cD p r l cc am m cm s) _ ((World.rangeAt_drew _ _ _ _).2 BU.out.range) Tryz.underlying32 rfl Tryz.info_unit ?_
  iterate 1 (refine wpT_mild rfl (fun K hK => ?_); go_simp; refine hK _ ?_; clear hK K)
  refine wpT_loadG rfl (by kernel_rfl) 30 (.tmp 10) rfl g7 0 rfl (sc (readyS p)) _ ((World.rangeAt_drew _ _ _ _).2 B7.out.range) Tryz.underlying30 rfl Tryz.info_sense ?_
  clear z2 hc y0
  obtain ⟨L, hL⟩ : ∃ L, L = tenL (allN n D : Int) := ⟨_, rfl⟩
  rw [← hL] at HR
  have HL := hide hL
  clear hL
  refine fin_two (bb := w) w gv gi HF.out 8 111 9 ⟨_, rfl, rfl, rfl, rfl⟩ ⟨_, rfl, rfl, rfl, rfl⟩ (uc ab n cb aD k cD p r l cc am m cm s) rfl rfl rfl 113 (by simp [put_size]) (by simp [put_size]) (by decide) 41 (Plain.of (by kernel_rfl)) [.tmp 112] _ [.int .i64 (N : Int)] rfl ⟨_, rfl, rfl, rfl, rfl⟩ 35 (Plain.of (by kernel_rfl)) [.tmp 113, .tmp 114] _ (fun v => [v, sval (readyS p)]) (fun v => by
      simp only [List.map]
      rw [eval_same (by simp [put_size]), eval_put_ne (by decide)]
      rfl) ⟨_, rfl, rfl, rfl, rfl⟩ (by decide) (by kernel_rfl) (fun v W => Bs W v L) (fun _ _ _ hl h => h.later hl)
    (fun W hW => (rten9_c (N : Int) W).mono (by
      rintro e w' ⟨v', rfl, hl, hb⟩
      rw [HNe.out, ← HL.out] at hb
      exact ⟨v', rfl, hl, hb⟩))
    (fun v W hW hv => give11 HM.out At11.same HML.out ((Later.refl _).drew.trans hW) (rin11_c (L := L) (readyS p) W hv)) ?_
  intro v0
  intro y W hLW hB4 hB5 hPW
  have HLW := hide hLW
  have HB4 := hide hB4
  have HB5 := hide hB5
  have HPW := hide hPW
  clear hLW hB4 hB5 hPW
  go_wp2
  exact bodyPost_ret (results_cell_cell' rfl _ _ _ gv 0 gi 0 rfl rfl _ _ (load_unit HB4.out rfl) (load_intent HB5.out HPW.out.one.2.1)) rfl ⟨_, y, rfl, HLW.out, by rw [HR.out]; exact HPW.out⟩
set_option maxRecDepth 20000 in
set_option maxHeartbeats 8000000 in
theorem rbeg_cap16 {ab : Option Addr} {n cb : Nat} {aD : Option Addr} {k cD : Nat} {F : List UInt8} {D : List Drt} {p r l cc : Bool} {am : Option Addr} {m cm : Nat} {s : Sns} {M : List Sns} {lun luns : Int} (at_ : Nat) (nn pg bt : Int) (w : World) (hm : Med w (.agg #[.slice ab n cb, .slice aD k cD]) n F D) (hA : Sl w (.slice am m cm) M) (hc : OkC7 (158, at_, nn, pg, bt)) (hs : OkS s) (h1 : In64 lun) (h2 : In64 luns) (hm1 : m ≤ 100) :
    Calls Tryz.prog 8 #[uval ab n cb aD k cD p r l cc am m cm s, .int .i64 lun, .int .i64 luns, cval (158, at_, nn, pg, bt)] w fun e w' => ∃ x y, e = .returned (.tuple #[.agg x.toArray, .agg y.toArray]) ∧ Later w w' ∧ PdI w n r cc am cm M (begI n F D p r l cc M s lun luns (158, at_, nn, pg, bt)) x y w' := by
  have HML : Hid (m = M.length) := by
    obtain ⟨a', c', e'⟩ := hA.1.shape
    simp at e'
    exact e'.2.1
  have HM := hide hm
  have HA := hide hA
  have HC := hide hc
  have HS := hide hs
  have HI := hide (And.intro h1 h2)
  have HN := hide hm1
  clear hm hA hc hs h1 h2 hm1
  have HR : Hid (begI n F D p r l cc M s lun luns (158, at_, nn, pg, bt) = ((F, D, p, l, M, s), inI (cutL (sixL (allN n D : Int)) nn) (readyS p))) := by first | rfl | exact hB | (simp [Hid, begI]; done)
  have BU := hide ((((Box.new w 32 (uc ab n cb aD k cD p r l cc am m cm s).toArray).alloc (.cells (cmc (158, at_, nn, pg, bt)).toArray 36)).alloc (.cells zU.toArray 32)).alloc (.cells zI.toArray 44))
  have BC : Hid (Box _ (w.heap.size + 1) 36 (cmc (158, at_, nn, pg, bt))) := ((Box.new' (w.alloc (.cells (uc ab n cb aD k cD p r l cc am m cm s).toArray 32)) 36 (cmc (158, at_, nn, pg, bt)).toArray _ rfl _ (by simp)).alloc (.cells zU.toArray 32)).alloc (.cells zI.toArray 44)
  have BV : Hid (Box _ (w.heap.size + 1 + 1) 32 zU) := (Box.new' ((w.alloc (.cells (uc ab n cb aD k cD p r l cc am m cm s).toArray 32)).alloc (.cells (cmc (158, at_, nn, pg, bt)).toArray 36)) 32 zU.toArray _ rfl _ (by simp)).alloc (.cells zI.toArray 44)
  have BI : Hid (Box _ (w.heap.size + 1 + 1 + 1) 44 zI) := Box.new' (((w.alloc (.cells (uc ab n cb aD k cD p r l cc am m cm s).toArray 32)).alloc (.cells (cmc (158, at_, nn, pg, bt)).toArray 36)).alloc (.cells zU.toArray 32)) 44 zI.toArray _ rfl _ (by simp)
  have LL := hide (((((Later.refl w).alloc (.cells (uc ab n cb aD k cD p r l cc am m cm s).toArray 32)).alloc (.cells (cmc (158, at_, nn, pg, bt)).toArray 36)).alloc (.cells zU.toArray 32)).alloc (.cells zI.toArray 44))
  replace HM := hide (HM.out.later LL.out)
  have d0 := BU.out.cell 0
  have d1 := BU.out.cell 1
  have d2 := BU.out.cell 2
  have d3 := BU.out.cell 3
  have d4 := BU.out.cell 4
  go_enter Tryz.func8, Tryz.ntmps8
  go_wp2_with fail
  clear d0 d1 d2 d3 d4
  generalize (((w.alloc (.cells (uc ab n cb aD k cD p r l cc am m cm s).toArray 32)).alloc (.cells (cmc (158, at_, nn, pg, bt)).toArray 36)).alloc (.cells zU.toArray 32)).alloc (.cells zI.toArray 44) = w1 at *
  obtain ⟨gu, hgu⟩ : ∃ gu, gu = w.heap.size := ⟨_, rfl⟩
  obtain ⟨gc, hgc⟩ : ∃ gc, gc = w.heap.size + 1 := ⟨_, rfl⟩
  obtain ⟨gv, hgv⟩ : ∃ gv, gv = w.heap.size + 1 + 1 := ⟨_, rfl⟩
  obtain ⟨gi, hgi⟩ : ∃ gi, gi = w.heap.size + 1 + 1 + 1 := ⟨_, rfl⟩
  rw [← hgi] at BI ⊢
  rw [← hgv] at BV ⊢
  rw [← hgc] at BC ⊢
  rw [← hgu] at BU ⊢
  have HG : Hid (w.heap.size ≤ gu ∧ w.heap.size ≤ gv ∧ w.heap.size ≤ gi ∧ gu ≠ gv ∧ gu ≠ gi ∧ gv ≠ gi ∧ gc ≠ gu) := by rw [Hid]; omega
  clear hgu hgc hgv hgi
  refine (rready_c (F := F) (D := D) w1 ⟨ab, cb, aD, k, cD, rfl, HM.out⟩).mono ?_
  rintro e w2 ⟨rfl, hl⟩
  replace BU := hide (BU.out.later hl)
  replace BV := hide (BV.out.later hl)
  replace BI := hide (BI.out.later hl)
  replace HM := hide (HM.out.later hl)
  replace LL := hide (LL.out.trans hl)
  replace BC := hide (BC.out.later hl)
  clear hl
  go_wp2_with (refine wpList_newS rfl rfl rfl 10 rfl (by simp) (.tmp 21) (by simp) rfl (readyS p) rfl ?_)
  intro g7 w3 hB7 hl hg
  replace BU := hide (BU.out.later hl)
  replace BV := hide (BV.out.later hl)
  replace BI := hide (BI.out.later hl)
  replace HM := hide (HM.out.later hl)
  replace LL := hide (LL.out.trans hl)
  replace BC := hide (BC.out.later hl)
  have B7 := hide hB7
  clear hB7 hl hg
  have d0 := BU.out.cell 0
  have d1 := BU.out.cell 1
  go_wp2_with fail
  clear d0 d1
  refine (rall_b (F := F) (D := D) _ HM.out).mono ?_
  rintro e w4 ⟨v4, rfl, hl, hr⟩
  obtain ⟨a4, c4, rfl⟩ := hr.shape
  replace BU := hide (BU.out.later hl)
  replace BV := hide (BV.out.later hl)
  replace BI := hide (BI.out.later hl)
  replace HM := hide (HM.out.later hl)
  replace LL := hide (LL.out.trans hl)
  replace BC := hide (BC.out.later hl)
  replace B7 := hide (B7.out.later hl)
  clear hl hr
  obtain ⟨N, hN⟩ : ∃ N, N = allN n D := ⟨_, rfl⟩
  have hN9 : (N : Int) ≤ 9223372036854775807 := by have := allN_small n D; omega
  rw [← hN]
  have HNe := hide hN
  clear hN
  have HF := hide ((Fr11.mk LL.out HG.out.2.1 HG.out.2.2.1 HG.out.2.2.2.2.2.1 BV.out rfl (uc_nob _ _ _ _ _ _ _ _ _ _ _ _ _ _) BI.out rfl (ic_nob _ _ _ _ _ _ _ _ _ _ _ _ _)).later (Later.refl _).drew)
  have y0 := BC.out.cell 0
  have hc := fun q => ((Later.refl w4).drew.trans (later_rg w4.drew q))
  have z2 := fun q => (BC.out.later (hc q)).cell 2
  go_wp2_with fail
  refine wp_region_tree [0, 1, 2, 3, 5] [4, 6] [7, 8] (by kernel_rfl) (by kernel_rfl) (by kernel_rfl) (by kernel_rfl) ?_
  refine wpT_loadG rfl (by kernel_rfl) 32 (.tmp 4) rfl gu 0 rfl (uc ab n cb aD k cD p r l cc am m cm s) _ ((World.rangeAt_drew _ _ _ _).2 BU.out.range) Tryz.underlying32 rfl Tryz.info_unit ?_
  iterate 3 (refine wpT_mild rfl (fun K hK => ?_); go_simp; refine hK _ ?_; clear hK K)
  refine wpT_loadG rfl (by kernel_rfl) 30 (.tmp 10) rfl g7 0 rfl (sc (readyS p)) _ ((World.rangeAt_drew _ _ _ _).2 B7.out.range) Tryz.underlying30 rfl Tryz.info_sense ?_
  clear z2 hc y0
  obtain ⟨L, hL⟩ : ∃ L, L = cutL (sixL (allN n D : Int)) nn := ⟨_, rfl⟩
  rw [← hL] at HR
  have HL := hide hL
  clear hL
  refine fin_two (bb := w) w gv gi HF.out 8 118 9 ⟨_, rfl, rfl, rfl, rfl⟩ ⟨_, rfl, rfl, rfl, rfl⟩ (uc ab n cb aD k cD p r l cc am m cm s) rfl rfl rfl 122 (by simp [put_size]) (by simp [put_size]) (by decide) 42 (Plain.of (by kernel_rfl)) [.tmp 119, .tmp 121] _ [.int .i64 (N : Int), .int .i64 nn] rfl ⟨_, rfl, rfl, rfl, rfl⟩ 35 (Plain.of (by kernel_rfl)) [.tmp 122, .tmp 123] _ (fun v => [v, sval (readyS p)]) (fun v => by
      simp only [List.map]
      rw [eval_same (by simp [put_size]), eval_put_ne (by decide)]
      rfl) ⟨_, rfl, rfl, rfl, rfl⟩ (by decide) (by kernel_rfl) (fun v W => Bs W v L) (fun _ _ _ hl h => h.later hl)
    (fun W hW => (rsix9_c (N : Int) nn W).mono (by
      rintro e w' ⟨v', rfl, hl, hb⟩
      rw [HNe.out, ← HL.out] at hb
      exact ⟨v', rfl, hl, hb⟩))
    (fun v W hW hv => give11 HM.out At11.same HML.out ((Later.refl _).drew.trans hW) (rin11_c (L := L) (readyS p) W hv)) ?_
  intro v0
  intro y W hLW hB4 hB5 hPW
  have HLW := hide hLW
  have HB4 := hide hB4
  have HB5 := hide hB5
  have HPW := hide hPW
  clear hLW hB4 hB5 hPW
  go_wp2
  exact bodyPost_ret (results_cell_cell' rfl _ _ _ gv 0 gi 0 rfl rfl _ _ (load_unit HB4.out rfl) (load_intent HB5.out HPW.out.one.2.1)) rfl ⟨_, y, rfl, HLW.out, by rw [HR.out]; exact HPW.out⟩
set_option maxRecDepth 20000 in
set_option maxHeartbeats 8000000 in
theorem rbeg_luns {ab : Option Addr} {n cb : Nat} {aD : Option Addr} {k cD : Nat} {F : List UInt8} {D : List Drt} {p r l cc : Bool} {am : Option Addr} {m cm : Nat} {s : Sns} {M : List Sns} {lun luns : Int} (at_ : Nat) (nn pg bt : Int) (w : World) (hm : Med w (.agg #[.slice ab n cb, .slice aD k cD]) n F D) (hA : Sl w (.slice am m cm) M) (hc : OkC7 (160, at_, nn, pg, bt)) (hs : OkS s) (h1 : In64 lun) (h2 : In64 luns) (hm1 : m ≤ 100) :
    Calls Tryz.prog 8 #[uval ab n cb aD k cD p r l cc am m cm s, .int .i64 lun, .int .i64 luns, cval (160, at_, nn, pg, bt)] w fun e w' => ∃ x y, e = .returned (.tuple #[.agg x.toArray, .agg y.toArray]) ∧ Later w w' ∧ PdI w n r cc am cm M (begI n F D p r l cc M s lun luns (160, at_, nn, pg, bt)) x y w' := by
  have HML : Hid (m = M.length) := by
    obtain ⟨a', c', e'⟩ := hA.1.shape
    simp at e'
    exact e'.2.1
  have HM := hide hm
  have HA := hide hA
  have HC := hide hc
  have HS := hide hs
  have HI := hide (And.intro h1 h2)
  have HN := hide hm1
  clear hm hA hc hs h1 h2 hm1
  have HR : Hid (begI n F D p r l cc M s lun luns (160, at_, nn, pg, bt) = ((F, D, p, l, M, s), inI (cutL (lunsL (cntN luns)) nn) (0, 0, 0))) := by first | rfl | exact hB | (simp [Hid, begI]; done)
  have BU := hide ((((Box.new w 32 (uc ab n cb aD k cD p r l cc am m cm s).toArray).alloc (.cells (cmc (160, at_, nn, pg, bt)).toArray 36)).alloc (.cells zU.toArray 32)).alloc (.cells zI.toArray 44))
  have BC : Hid (Box _ (w.heap.size + 1) 36 (cmc (160, at_, nn, pg, bt))) := ((Box.new' (w.alloc (.cells (uc ab n cb aD k cD p r l cc am m cm s).toArray 32)) 36 (cmc (160, at_, nn, pg, bt)).toArray _ rfl _ (by simp)).alloc (.cells zU.toArray 32)).alloc (.cells zI.toArray 44)
  have BV : Hid (Box _ (w.heap.size + 1 + 1) 32 zU) := (Box.new' ((w.alloc (.cells (uc ab n cb aD k cD p r l cc am m cm s).toArray 32)).alloc (.cells (cmc (160, at_, nn, pg, bt)).toArray 36)) 32 zU.toArray _ rfl _ (by simp)).alloc (.cells zI.toArray 44)
  have BI : Hid (Box _ (w.heap.size + 1 + 1 + 1) 44 zI) := Box.new' (((w.alloc (.cells (uc ab n cb aD k cD p r l cc am m cm s).toArray 32)).alloc (.cells (cmc (160, at_, nn, pg, bt)).toArray 36)).alloc (.cells zU.toArray 32)) 44 zI.toArray _ rfl _ (by simp)
  have LL := hide (((((Later.refl w).alloc (.cells (uc ab n cb aD k cD p r l cc am m cm s).toArray 32)).alloc (.cells (cmc (160, at_, nn, pg, bt)).toArray 36)).alloc (.cells zU.toArray 32)).alloc (.cells zI.toArray 44))
  replace HM := hide (HM.out.later LL.out)
  have d0 := BU.out.cell 0
  have d1 := BU.out.cell 1
  have d2 := BU.out.cell 2
  have d3 := BU.out.cell 3
  have d4 := BU.out.cell 4
  go_enter Tryz.func8, Tryz.ntmps8
  go_wp2_with fail
  clear d0 d1 d2 d3 d4
  generalize (((w.alloc (.cells (uc ab n cb aD k cD p r l cc am m cm s).toArray 32)).alloc (.cells (cmc (160, at_, nn, pg, bt)).toArray 36)).alloc (.cells zU.toArray 32)).alloc (.cells zI.toArray 44) = w1 at *
  obtain ⟨gu, hgu⟩ : ∃ gu, gu = w.heap.size := ⟨_, rfl⟩
  obtain ⟨gc, hgc⟩ : ∃ gc, gc = w.heap.size + 1 := ⟨_, rfl⟩
  obtain ⟨gv, hgv⟩ : ∃ gv, gv = w.heap.size + 1 + 1 := ⟨_, rfl⟩
  obtain ⟨gi, hgi⟩ : ∃ gi, gi = w.heap.size + 1 + 1 + 1 := ⟨_, rfl⟩
  rw [← hgi] at BI ⊢
  rw [← hgv] at BV ⊢
  rw [← hgc] at BC ⊢
  rw [← hgu] at BU ⊢
  have HG : Hid (w.heap.size ≤ gu ∧ w.heap.size ≤ gv ∧ w.heap.size ≤ gi ∧ gu ≠ gv ∧ gu ≠ gi ∧ gv ≠ gi ∧ gc ≠ gu) := by rw [Hid]; omega
  clear hgu hgc hgv hgi
  refine (rready_c (F := F) (D := D) w1 ⟨ab, cb, aD, k, cD, rfl, HM.out⟩).mono ?_
  rintro e w2 ⟨rfl, hl⟩
  replace BU := hide (BU.out.later hl)
  replace BV := hide (BV.out.later hl)
  replace BI := hide (BI.out.later hl)
  replace HM := hide (HM.out.later hl)
  replace LL := hide (LL.out.trans hl)
  replace BC := hide (BC.out.later hl)
  clear hl
  go_wp2_with (refine wpList_newS rfl rfl rfl 10 rfl (by simp) (.tmp 21) (by simp) rfl (readyS p) rfl ?_)
  intro g7 w3 hB7 hl hg
  replace BU := hide (BU.out.later hl)
  replace BV := hide (BV.out.later hl)
  replace BI := hide (BI.out.later hl)
  replace HM := hide (HM.out.later hl)
  replace LL := hide (LL.out.trans hl)
  replace BC := hide (BC.out.later hl)
  have B7 := hide hB7
  clear hB7 hl hg
  have d0 := BU.out.cell 0
  have d1 := BU.out.cell 1
  go_wp2_with fail
  clear d0 d1
  refine (rall_b (F := F) (D := D) _ HM.out).mono ?_
  rintro e w4 ⟨v4, rfl, hl, hr⟩
  obtain ⟨a4, c4, rfl⟩ := hr.shape
  replace BU := hide (BU.out.later hl)
  replace BV := hide (BV.out.later hl)
  replace BI := hide (BI.out.later hl)
  replace HM := hide (HM.out.later hl)
  replace LL := hide (LL.out.trans hl)
  replace BC := hide (BC.out.later hl)
  replace B7 := hide (B7.out.later hl)
  clear hl hr
  obtain ⟨N, hN⟩ : ∃ N, N = allN n D := ⟨_, rfl⟩
  have hN9 : (N : Int) ≤ 9223372036854775807 := by have := allN_small n D; omega
  rw [← hN]
  have HNe := hide hN
  clear hN
  have HF := hide ((Fr11.mk LL.out HG.out.2.1 HG.out.2.2.1 HG.out.2.2.2.2.2.1 BV.out rfl (uc_nob _ _ _ _ _ _ _ _ _ _ _ _ _ _) BI.out rfl (ic_nob _ _ _ _ _ _ _ _ _ _ _ _ _)).later (Later.refl _).drew)
  have y0 := BC.out.cell 0
  have hc := fun q => ((Later.refl w4).drew.trans (later_rg w4.drew q))
  have z2 := fun q => (BC.out.later (hc q)).cell 2
  go_wp2_with fail
  refine wp_region_tree [0, 1, 2, 3, 5] [4, 6] [7, 8] (by kernel_rfl) (by kernel_rfl) (by kernel_rfl) (by kernel_rfl) ?_
  refine wpT_loadG rfl (by kernel_rfl) 32 (.tmp 4) rfl gu 0 rfl (uc ab n cb aD k cD p r l cc am m cm s) _ ((World.rangeAt_drew _ _ _ _).2 BU.out.range) Tryz.underlying32 rfl Tryz.info_unit ?_
  iterate 4 (refine wpT_mild rfl (fun K hK => ?_); go_simp; refine hK _ ?_; clear hK K)
  clear z2 hc y0
  obtain ⟨L, hL⟩ : ∃ L, L = cutL (lunsL (cntN luns)) nn := ⟨_, rfl⟩
  rw [← hL] at HR
  have HL := hide hL
  clear hL
  refine fin_two (bb := w) w gv gi HF.out 8 127 9 ⟨_, rfl, rfl, rfl, rfl⟩ ⟨_, rfl, rfl, rfl, rfl⟩ (uc ab n cb aD k cD p r l cc am m cm s) rfl rfl rfl 131 (by simp [put_size]) (by simp [put_size]) (by decide) 43 (Plain.of (by kernel_rfl)) [.tmp 128, .tmp 130] _ [.int .i64 luns, .int .i64 nn] rfl ⟨_, rfl, rfl, rfl, rfl⟩ 35 (Plain.of (by kernel_rfl)) [.tmp 131, .tmp 132] _ (fun v => [v, sval (0, 0, 0)]) (fun v => by
      simp only [List.map]
      rw [eval_same (by simp [put_size]), eval_put_ne (by decide)]
      rfl) ⟨_, rfl, rfl, rfl, rfl⟩ (by decide) (by kernel_rfl) (fun v W => Bs W v L) (fun _ _ _ hl h => h.later hl)
    (fun W hW => (rluns9_c luns nn W).mono (by
      rintro e w' ⟨v', rfl, hl, hb⟩
      rw [← HL.out] at hb
      exact ⟨v', rfl, hl, hb⟩))
    (fun v W hW hv => give11 HM.out At11.same HML.out ((Later.refl _).drew.trans hW) (rin11_c (L := L) (0, 0, 0) W hv)) ?_
  intro v0
  intro y W hLW hB4 hB5 hPW
  have HLW := hide hLW
  have HB4 := hide hB4
  have HB5 := hide hB5
  have HPW := hide hPW
  clear hLW hB4 hB5 hPW
  go_wp2
  exact bodyPost_ret (results_cell_cell' rfl _ _ _ gv 0 gi 0 rfl rfl _ _ (load_unit HB4.out rfl) (load_intent HB5.out HPW.out.one.2.1)) rfl ⟨_, y, rfl, HLW.out, by rw [HR.out]; exact HPW.out⟩
end Go.Proofs.YtfakboehmcimpaaGreat
