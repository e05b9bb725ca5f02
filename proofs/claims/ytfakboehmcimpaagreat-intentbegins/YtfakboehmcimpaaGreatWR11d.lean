import Derived.Test.YtfakboehmcimpaaGreatWR11c
import Derived.Test.YtfakboehmcimpaaGreatMAS
import Derived.Test.YtfakboehmcimpaaGreatMAP
import Derived.Test.YtfakboehmcimpaaGreatMAN
namespace Go.Proofs.YtfakboehmcimpaaGreat
open Go.ChangeShapes Go.WideShapes Go.ChangeAt Go.RowKit
set_option linter.unusedVariables false
set_option maxRecDepth 4000
set_option linter.unusedSimpArgs false
/-! The document's Begin: TestReady, RequestSense, Inquiry. -/
set_option maxRecDepth 20000 in
set_option maxHeartbeats 8000000 in
theorem rbeg_ready {ab : Option Addr} {n cb : Nat} {aD : Option Addr} {k cD : Nat} {F : List UInt8} {D : List Drt} {p r l cc : Bool} {am : Option Addr} {m cm : Nat} {s : Sns} {M : List Sns} {lun luns : Int} (at_ : Nat) (nn pg bt : Int) (w : World) (hm : Med w (.agg #[.slice ab n cb, .slice aD k cD]) n F D) (hA : Sl w (.slice am m cm) M) (hc : OkC7 (0, at_, nn, pg, bt)) (hs : OkS s) (h1 : In64 lun) (h2 : In64 luns) (hm1 : m ≤ 100) :
    Calls Tryz.prog 8 #[uval ab n cb aD k cD p r l cc am m cm s, .int .i64 lun, .int .i64 luns, cval (0, at_, nn, pg, bt)] w fun e w' => ∃ x y, e = .returned (.tuple #[.agg x.toArray, .agg y.toArray]) ∧ Later w w' ∧ PdI w n r cc am cm M (begI n F D p r l cc M s lun luns (0, at_, nn, pg, bt)) x y w' := by
  have HML : Hid (m = M.length) := by
    obtain ⟨a', c', e'⟩ := hA.1.shape
    simp at e'
    exact e'.2.1
  have HM := hide hm
  have HA := hide hA
  have HC := hide hc
  have HS := hide hs
  have HI := hide (And.intro h1 h2)
  have HN := hide hm1
  clear hm hA hc hs h1 h2 hm1
  have HR : Hid (begI n F D p r l cc M s lun luns (0, at_, nn, pg, bt) = ((F, D, p, l, M, s), noneI (readyS p))) := by first | rfl | exact hB | (simp [Hid, begI]; done)
  have BU := hide ((((Box.new w 32 (uc ab n cb aD k cD p r l cc am m cm s).toArray).alloc (.cells (cmc (0, at_, nn, pg, bt)).toArray 36)).alloc (.cells zU.toArray 32)).alloc (.cells zI.toArray 44))
  have BC : Hid (Box _ (w.heap.size + 1) 36 (cmc (0, at_, nn, pg, bt))) := ((Box.new' (w.alloc (.cells (uc ab n cb aD k cD p r l cc am m cm s).toArray 32)) 36 (cmc (0, at_, nn, pg, bt)).toArray _ rfl _ (by simp)).alloc (.cells zU.toArray 32)).alloc (.cells zI.toArray 44)
  have BV : Hid (Box _ (w.heap.size + 1 + 1) 32 zU) := (Box.new' ((w.alloc (.cells (uc ab n cb aD k cD p r l cc am m cm s).toArray 32)).alloc (.cells (cmc (0, at_, nn, pg, bt)).toArray 36)) 32 zU.toArray _ rfl _ (by simp)).alloc (.cells zI.toArray 44)
  have BI : Hid (Box _ (w.heap.size + 1 + 1 + 1) 44 zI) := Box.new' (((w.alloc (.cells (uc ab n cb aD k cD p r l cc am m cm s).toArray 32)).alloc (.cells (cmc (0, at_, nn, pg, bt)).toArray 36)).alloc (.cells zU.toArray 32)) 44 zI.toArray _ rfl _ (by simp)
  have LL := hide (((((Later.refl w).alloc (.cells (uc ab n cb aD k cD p r l cc am m cm s).toArray 32)).alloc (.cells (cmc (0, at_, nn, pg, bt)).toArray 36)).alloc (.cells zU.toArray 32)).alloc (.cells zI.toArray 44))
  replace HM := hide (HM.out.later LL.out)
  have d0 := BU.out.cell 0
  have d1 := BU.out.cell 1
  have d2 := BU.out.cell 2
  have d3 := BU.out.cell 3
  have d4 := BU.out.cell 4
  go_enter Tryz.func8, Tryz.ntmps8
  go_wp2_with fail
  clear d0 d1 d2 d3 d4
  generalize (((w.alloc (.cells (uc ab n cb aD k cD p r l cc am m cm s).toArray 32)).alloc (.cells (cmc (0, at_, nn, pg, bt)).toArray 36)).alloc (.cells zU.toArray 32)).alloc (.cells zI.toArray 44) = w1 at *
  obtain ⟨gu, hgu⟩ : ∃ gu, gu = w.heap.size := ⟨_, rfl⟩
  obtain ⟨gc, hgc⟩ : ∃ gc, gc = w.heap.size + 1 := ⟨_, rfl⟩
  obtain ⟨gv, hgv⟩ : ∃ gv, gv = w.heap.size + 1 + 1 := ⟨_, rfl⟩
  obtain ⟨gi, hgi⟩ : ∃ gi, gi = w.heap.size + 1 + 1 + 1 := ⟨_, rfl⟩
  rw [← hgi] at BI ⊢
  rw [← hgv] at BV ⊢
  rw [← hgc] at BC ⊢
  rw [← hgu] at BU ⊢
  have HG : Hid (w.heap.size ≤ gu ∧ w.heap.size ≤ gv ∧ w.heap.size ≤ gi ∧ gu ≠ gv ∧ gu ≠ gi ∧ gv ≠ gi ∧ gc ≠ gu) := by rw [Hid]; omega
  clear hgu hgc hgv hgi
  refine (rready_c (F := F) (D := D) w1 ⟨ab, cb, aD, k, cD, rfl, HM.out⟩).mono ?_
  rintro e w2 ⟨rfl, hl⟩
  replace BU := hide (BU.out.later hl)
  replace BV := hide (BV.out.later hl)
  replace BI := hide (BI.out.later hl)
  replace HM := hide (HM.out.later hl)
  replace LL := hide (LL.out.trans hl)
  replace BC := hide (BC.out.later hl)
  clear hl
  go_wp2_with (refine wpList_newS rfl rfl rfl 10 rfl (by simp) (.tmp 21) (by simp) rfl (readyS p) rfl ?_)
  intro g7 w3 hB7 hl hg
  replace BU := hide (BU.out.later hl)
  replace BV := hide (BV.out.later hl)
  replace BI := hide (BI.out.later hl)
  replace HM := hide (HM.out.later hl)
  replace LL := hide (LL.out.trans hl)
  replace BC := hide (BC.out.later hl)
  have B7 := hide hB7
  clear hB7 hl hg
  have d0 := BU.out.cell 0
  have d1 := BU.out.cell 1
  go_wp2_with fail
  clear d0 d1
  refine (rall_b (F := F) (D := D) _ HM.out).mono ?_
  rintro e w4 ⟨v4, rfl, hl, hr⟩
  obtain ⟨a4, c4, rfl⟩ := hr.shape
  replace BU := hide (BU.out.later hl)
  replace BV := hide (BV.out.later hl)
  replace BI := hide (BI.out.later hl)
  replace HM := hide (HM.out.later hl)
  replace LL := hide (LL.out.trans hl)
  replace BC := hide (BC.out.later hl)
  replace B7 := hide (B7.out.later hl)
  clear hl hr
  obtain ⟨N, hN⟩ : ∃ N, N = allN n D := ⟨_, rfl⟩
  have hN9 : (N : Int) ≤ 9223372036854775807 := by have := allN_small n D; omega
  rw [← hN]
  have HNe := hide hN
  clear hN
  have HF := hide ((Fr11.mk LL.out HG.out.2.1 HG.out.2.2.1 HG.out.2.2.2.2.2.1 BV.out rfl (uc_nob _ _ _ _ _ _ _ _ _ _ _ _ _ _) BI.out rfl (ic_nob _ _ _ _ _ _ _ _ _ _ _ _ _)).later (Later.refl _).drew)
  have y0 := BC.out.cell 0
  go_wp2_with fail
  refine wp_region_tree [0, 1] [2] [3, 4] (by kernel_rfl) (by kernel_rfl) (by kernel_rfl) (by kernel_rfl) ?_
  refine wpT_loadG rfl (by kernel_rfl) 32 (.tmp 4) rfl gu 0 rfl (uc ab n cb aD k cD p r l cc am m cm s) _ ((World.rangeAt_drew _ _ _ _).2 BU.out.range) Tryz.underlying32 rfl Tryz.info_unit ?_
  refine wpT_loadG rfl (by kernel_rfl) 30 (.tmp 10) rfl g7 0 rfl (sc (readyS p)) _ ((World.rangeAt_drew _ _ _ _).2 B7.out.range) Tryz.underlying30 rfl Tryz.info_sense ?_
  refine fin_one (bb := w) w gv gi HF.out 8 31 9 ⟨_, rfl, rfl, rfl, rfl⟩ ⟨_, rfl, rfl, rfl, rfl⟩ (uc ab n cb aD k cD p r l cc am m cm s) rfl rfl rfl (by simp [put_size]) (by decide) 32 (Plain.of (by kernel_rfl)) [.tmp 32] _ [sval (readyS p)] rfl ⟨_, rfl, rfl, rfl, rfl⟩ (by kernel_rfl)
    (fun W hW => give11 HM.out At11.same HML.out ((Later.refl _).drew.trans hW) rnone11) ?_
  intro y W hLW hB4 hB5 hPW
  have HLW := hide hLW
  have HB4 := hide hB4
  have HB5 := hide hB5
  have HPW := hide hPW
  clear hLW hB4 hB5 hPW
  go_wp2
  exact bodyPost_ret (results_cell_cell' rfl _ _ _ gv 0 gi 0 rfl rfl _ _ (load_unit HB4.out rfl) (load_intent HB5.out HPW.out.one.2.1)) rfl ⟨_, y, rfl, HLW.out, by rw [HR.out]; exact HPW.out⟩
set_option maxRecDepth 20000 in
set_option maxHeartbeats 8000000 in
theorem rbeg_sense {ab : Option Addr} {n cb : Nat} {aD : Option Addr} {k cD : Nat} {F : List UInt8} {D : List Drt} {p r l cc : Bool} {am : Option Addr} {m cm : Nat} {s : Sns} {M : List Sns} {lun luns : Int} (at_ : Nat) (nn pg bt : Int) (w : World) (hm : Med w (.agg #[.slice ab n cb, .slice aD k cD]) n F D) (hA : Sl w (.slice am m cm) M) (hc : OkC7 (3, at_, nn, pg, bt)) (hs : OkS s) (h1 : In64 lun) (h2 : In64 luns) (hm1 : m ≤ 100) :
    Calls Tryz.prog 8 #[uval ab n cb aD k cD p r l cc am m cm s, .int .i64 lun, .int .i64 luns, cval (3, at_, nn, pg, bt)] w fun e w' => ∃ x y, e = .returned (.tuple #[.agg x.toArray, .agg y.toArray]) ∧ Later w w' ∧ PdI w n r cc am cm M (begI n F D p r l cc M s lun luns (3, at_, nn, pg, bt)) x y w' := by
  have HML : Hid (m = M.length) := by
    obtain ⟨a', c', e'⟩ := hA.1.shape
    simp at e'
    exact e'.2.1
  have HM := hide hm
  have HA := hide hA
  have HC := hide hc
  have HS := hide hs
  have HI := hide (And.intro h1 h2)
  have HN := hide hm1
  clear hm hA hc hs h1 h2 hm1
  have HR : Hid (begI n F D p r l cc M s lun luns (3, at_, nn, pg, bt) = ((F, D, p, l, M, (0, 0, 0)), inI (cutL (bytesL s) nn) (0, 0, 0))) := by first | rfl | exact hB | (simp [Hid, begI]; done)
  have BU := hide ((((Box.new w 32 (uc ab n cb aD k cD p r l cc am m cm s).toArray).alloc (.cells (cmc (3, at_, nn, pg, bt)).toArray 36)).alloc (.cells zU.toArray 32)).alloc (.cells zI.toArray 44))
  have BC : Hid (Box _ (w.heap.size + 1) 36 (cmc (3, at_, nn, pg, bt))) := ((Box.new' (w.alloc (.cells (uc ab n cb aD k cD p r l cc am m cm s).toArray 32)) 36 (cmc (3, at_, nn, pg, bt)).toArray _ rfl _ (by simp)).alloc (.cells zU.toArray 32)).alloc (.cells zI.toArray 44)
  have BV : Hid (Box _ (w.heap.size + 1 + 1) 32 zU) := (Box.new' ((w.alloc (.cells (uc ab n cb aD k cD p r l cc am m cm s).toArray 32)).alloc (.cells (cmc (3, at_, nn, pg, bt)).toArray 36)) 32 zU.toArray _ rfl _ (by simp)).alloc (.cells zI.toArray 44)
  have BI : Hid (Box _ (w.heap.size + 1 + 1 + 1) 44 zI) := Box.new' (((w.alloc (.cells (uc ab n cb aD k cD p r l cc am m cm s).toArray 32)).alloc (.cells (cmc (3, at_, nn, pg, bt)).toArray 36)).alloc (.cells zU.toArray 32)) 44 zI.toArray _ rfl _ (by simp)
  have LL := hide (((((Later.refl w).alloc (.cells (uc ab n cb aD k cD p r l cc am m cm s).toArray 32)).alloc (.cells (cmc (3, at_, nn, pg, bt)).toArray 36)).alloc (.cells zU.toArray 32)).alloc (.cells zI.toArray 44))
  replace HM := hide (HM.out.later LL.out)
  have d0 := BU.out.cell 0
  have d1 := BU.out.cell 1
  have d2 := BU.out.cell 2
  have d3 := BU.out.cell 3
  have d4 := BU.out.cell 4
  go_enter Tryz.func8, Tryz.ntmps8
  go_wp2_with fail
  clear d0 d1 d2 d3 d4
  generalize (((w.alloc (.cells (uc ab n cb aD k cD p r l cc am m cm s).toArray 32)).alloc (.cells (cmc (3, at_, nn, pg, bt)).toArray 36)).alloc (.cells zU.toArray 32)).alloc (.cells zI.toArray 44) = w1 at *
  obtain ⟨gu, hgu⟩ : ∃ gu, gu = w.heap.size := ⟨_, rfl⟩
  obtain ⟨gc, hgc⟩ : ∃ gc, gc = w.heap.size + 1 := ⟨_, rfl⟩
  obtain ⟨gv, hgv⟩ : ∃ gv, gv = w.heap.size + 1 + 1 := ⟨_, rfl⟩
  obtain ⟨gi, hgi⟩ : ∃ gi, gi = w.heap.size + 1 + 1 + 1 := ⟨_, rfl⟩
  rw [← hgi] at BI ⊢
  rw [← hgv] at BV ⊢
  rw [← hgc] at BC ⊢
  rw [← hgu] at BU ⊢
  have HG : Hid (w.heap.size ≤ gu ∧ w.heap.size ≤ gv ∧ w.heap.size ≤ gi ∧ gu ≠ gv ∧ gu ≠ gi ∧ gv ≠ gi ∧ gc ≠ gu) := by rw [Hid]; omega
  clear hgu hgc hgv hgi
  refine (rready_c (F := F) (D := D) w1 ⟨ab, cb, aD, k, cD, rfl, HM.out⟩).mono ?_
  rintro e w2 ⟨rfl, hl⟩
  replace BU := hide (BU.out.later hl)
  replace BV := hide (BV.out.later hl)
  replace BI := hide (BI.out.later hl)
  replace HM := hide (HM.out.later hl)
  replace LL := hide (LL.out.trans hl)
  replace BC := hide (BC.out.later hl)
  clear hl
  go_wp2_with (refine wpList_newS rfl rfl rfl 10 rfl (by simp) (.tmp 21) (by simp) rfl (readyS p) rfl ?_)
  intro g7 w3 hB7 hl hg
  replace BU := hide (BU.out.later hl)
  replace BV := hide (BV.out.later hl)
  replace BI := hide (BI.out.later hl)
  replace HM := hide (HM.out.later hl)
  replace LL := hide (LL.out.trans hl)
  replace BC := hide (BC.out.later hl)
  have B7 := hide hB7
  clear hB7 hl hg
  have d0 := BU.out.cell 0
  have d1 := BU.out.cell 1
  go_wp2_with fail
  clear d0 d1
  refine (rall_b (F := F) (D := D) _ HM.out).mono ?_
  rintro e w4 ⟨v4, rfl, hl, hr⟩
  obtain ⟨a4, c4, rfl⟩ := hr.shape
  replace BU := hide (BU.out.later hl)
  replace BV := hide (BV.out.later hl)
  replace BI := hide (BI.out.later hl)
  replace HM := hide (HM.out.later hl)
  replace LL := hide (LL.out.trans hl)
  replace BC := hide (BC.out.later hl)
  replace B7 := hide (B7.out.later hl)
  clear hl hr
  obtain ⟨N, hN⟩ : ∃ N, N = allN n D := ⟨_, rfl⟩
  have hN9 : (N : Int) ≤ 9223372036854775807 := by have := allN_small n D; omega
  rw [← hN]
  have HNe := hide hN
  clear hN
  have HF := hide ((Fr11.mk LL.out HG.out.2.1 HG.out.2.2.1 HG.out.2.2.2.2.2.1 BV.out rfl (uc_nob _ _ _ _ _ _ _ _ _ _ _ _ _ _) BI.out rfl (ic_nob _ _ _ _ _ _ _ _ _ _ _ _ _)).later (Later.refl _).drew)
  have y0 := BC.out.cell 0
  have hc := fun q => ((Later.refl w4).drew.trans (later_rg w4.drew q))
  have d7 := fun q => (BU.out.later (hc q)).cell 7
  have d8 := fun q => (BU.out.later (hc q)).cell 8
  have d9 := fun q => (BU.out.later (hc q)).cell 9
  have z2 := fun q => (BC.out.later (hc q)).cell 2
  go_wp2_with fail
  refine wp_region_tree [0, 1, 3, 4] [2, 5] [6] (by kernel_rfl) (by kernel_rfl) (by kernel_rfl) (by kernel_rfl) ?_
  iterate 4 (refine wpT_mild rfl (fun K hK => ?_); go_simp; refine hK _ ?_; clear hK K)
  clear d7 d8 d9 z2 hc y0 HF
  obtain ⟨L, hL⟩ : ∃ L, L = cutL (bytesL s) nn := ⟨_, rfl⟩
  rw [← hL] at HR
  have HL := hide hL
  clear hL
  refine wpT_twoD 2 5 (some 38) (some 41) rfl rfl (by decide) (fun v W => Bs W v (bytesL s)) (fun _ u W => Bs W u L) (by kernel_rfl) (fun _ _ _ hl h => h.later hl) (fun _ _ _ _ hl h => h.later hl) ?t3 ?t4 ?t5
  case t3 =>
    intro W hW
    refine lVal_callAt ⟨_, rfl, rfl, rfl, rfl⟩ (Plain.of (by kernel_rfl)) [sval s] rfl ((rbytes_c s W).mono ?_)
    rintro e w' ⟨v', rfl, hl, hb⟩
    exact ⟨_, rfl, hl, hb⟩
  case t4 =>
    intro v W hW hv
    refine lVal_callAt ⟨_, rfl, rfl, rfl, rfl⟩ (Plain.of (by kernel_rfl)) [v, .int .i64 nn] (xs := [.tmp 38, .tmp 40]) (by simp only [List.map]; rw [eval_same (by simp [put_size]), eval_put_ne (by decide)]; rfl) ((rcut_c (l := bytesL s) nn W hv (by rw [bytesL_length]; omega)).mono ?_)
    rintro e w' ⟨v', rfl, hl, hb⟩
    rw [← HL.out] at hb
    exact ⟨_, rfl, hl, hb⟩
  case t5 =>
    intro v u W hW hu
    have hw := (Later.refl w4).drew.trans hW
    have HB := hide hu
    replace BU := hide (BU.out.later hw)
    replace BV := hide (BV.out.later hw)
    replace BI := hide (BI.out.later hw)
    replace HM := hide (HM.out.later hw)
    replace LL := hide (LL.out.trans hw)
    replace BC := hide (BC.out.later hw)
    clear hw hW hu B7
    refine wpL_cons rfl (fun K hK => ?_)
    go_simp
    refine hK _ _ ?_
    clear hK K
    refine wpL_nil ?_
    go_wp2_with (refine wpList_storeU rfl 30 (.tmp 43) (.tmp 42) rfl gu 7 rfl (sc (0, 0, 0)) rfl Tryz.info_sense (sc_one _) _ _ BU.out (by simp) ?_)
    intro w6 h6
    replace HB : Hid (Bs w6 u L) := by rw [h6.out]; exact HB.out.setNoB BU.out (uc_nob _ _ _ _ _ _ _ _ _ _ _ _ _ _) _ _
    have BUn : Hid (Box _ gu 32 (uc ab n cb aD k cD p r l cc am m cm (0, 0, 0))) := hide (by have h := BU.out.setCells (sc (0, 0, 0)) 7 (by simp); rw [← h6.out] at h; exact h)
    replace BV : Hid (Box _ gv 32 zU) := hide (by have h := BV.out.apart gu (by have := HG.out; omega) (sc (0, 0, 0)) 7; rw [← h6.out] at h; exact h)
    replace BI : Hid (Box _ gi 44 zI) := hide (by have h := BI.out.apart gu (by have := HG.out; omega) (sc (0, 0, 0)) 7; rw [← h6.out] at h; exact h)
    replace LL : Hid (Later w _) := hide (by have h := LL.out.setCells HG.out.1 (sc (0, 0, 0)) 7; rw [← h6.out] at h; exact h)
    replace HM : Hid (Med _ _ n _ _) := hide (by have h := HM.out.setNoB BU.out (uc_nob _ _ _ _ _ _ _ _ _ _ _ _ _ _) (sc (0, 0, 0)) 7; rw [← h6.out] at h; exact h)
    replace BU := BUn
    clear BUn h6
    go_wp2_with fail
    refine wp_region_tree [0, 1, 2] [3] [4, 5] (by kernel_rfl) (by kernel_rfl) (by kernel_rfl) (by kernel_rfl) ?_
    refine wpT_loadG rfl (by kernel_rfl) 32 (.tmp 4) rfl gu 0 rfl (uc ab n cb aD k cD p r l cc am m cm (0, 0, 0)) _ ((World.rangeAt_drew _ _ _ _).2 BU.out.range) Tryz.underlying32 rfl Tryz.info_unit ?_
    iterate 2 (refine wpT_mild rfl (fun K hK => ?_); go_simp; refine hK _ ?_; clear hK K)
    refine fin_one (bb := w) w gv gi ((Fr11.mk LL.out HG.out.2.1 HG.out.2.2.1 HG.out.2.2.2.2.2.1 BV.out rfl (uc_nob _ _ _ _ _ _ _ _ _ _ _ _ _ _) BI.out rfl (ic_nob _ _ _ _ _ _ _ _ _ _ _ _ _)).later (Later.refl _).drew) 8 44 9 ⟨_, rfl, rfl, rfl, rfl⟩ ⟨_, rfl, rfl, rfl, rfl⟩ (uc ab n cb aD k cD p r l cc am m cm (0, 0, 0)) rfl rfl rfl (by simp [put_size]) (by decide) 35 (Plain.of (by kernel_rfl)) [.tmp 45, .tmp 46] _ [u, sval (0, 0, 0)] rfl ⟨_, rfl, rfl, rfl, rfl⟩ (by kernel_rfl)
      (fun W hW => give11 HM.out At11.same HML.out ((Later.refl _).drew.trans hW) (rin11_c (L := L) (0, 0, 0) W (HB.out.later ((Later.refl _).drew.trans hW)))) ?_
    intro y W hLW hB4 hB5 hPW
    have HLW := hide hLW
    have HB4 := hide hB4
    have HB5 := hide hB5
    have HPW := hide hPW
    clear hLW hB4 hB5 hPW
    go_wp2
    exact bodyPost_ret (results_cell_cell' rfl _ _ _ gv 0 gi 0 rfl rfl _ _ (load_unit HB4.out rfl) (load_intent HB5.out HPW.out.one.2.1)) rfl ⟨_, y, rfl, HLW.out, by rw [HR.out]; exact HPW.out⟩
set_option maxRecDepth 20000 in
set_option maxHeartbeats 8000000 in
theorem rbeg_inquiry {ab : Option Addr} {n cb : Nat} {aD : Option Addr} {k cD : Nat} {F : List UInt8} {D : List Drt} {p r l cc : Bool} {am : Option Addr} {m cm : Nat} {s : Sns} {M : List Sns} {lun luns : Int} (at_ : Nat) (nn pg bt : Int) (w : World) (hm : Med w (.agg #[.slice ab n cb, .slice aD k cD]) n F D) (hA : Sl w (.slice am m cm) M) (hc : OkC7 (18, at_, nn, pg, bt)) (hs : OkS s) (h1 : In64 lun) (h2 : In64 luns) (hm1 : m ≤ 100) :
    Calls Tryz.prog 8 #[uval ab n cb aD k cD p r l cc am m cm s, .int .i64 lun, .int .i64 luns, cval (18, at_, nn, pg, bt)] w fun e w' => ∃ x y, e = .returned (.tuple #[.agg x.toArray, .agg y.toArray]) ∧ Later w w' ∧ PdI w n r cc am cm M (begI n F D p r l cc M s lun luns (18, at_, nn, pg, bt)) x y w' := by
  have HML : Hid (m = M.length) := by
    obtain ⟨a', c', e'⟩ := hA.1.shape
    simp at e'
    exact e'.2.1
  have HM := hide hm
  have HA := hide hA
  have HC := hide hc
  have HS := hide hs
  have HI := hide (And.intro h1 h2)
  have HN := hide hm1
  clear hm hA hc hs h1 h2 hm1
  have HR : Hid (begI n F D p r l cc M s lun luns (18, at_, nn, pg, bt) = ((F, D, p, l, M, s), inI (ansR (18, at_, nn, pg, bt) lun luns).1 (ansR (18, at_, nn, pg, bt) lun luns).2)) := by first | rfl | exact hB | (simp [Hid, begI]; done)
  have BU := hide ((((Box.new w 32 (uc ab n cb aD k cD p r l cc am m cm s).toArray).alloc (.cells (cmc (18, at_, nn, pg, bt)).toArray 36)).alloc (.cells zU.toArray 32)).alloc (.cells zI.toArray 44))
  have BC : Hid (Box _ (w.heap.size + 1) 36 (cmc (18, at_, nn, pg, bt))) := ((Box.new' (w.alloc (.cells (uc ab n cb aD k cD p r l cc am m cm s).toArray 32)) 36 (cmc (18, at_, nn, pg, bt)).toArray _ rfl _ (by simp)).alloc (.cells zU.toArray 32)).alloc (.cells zI.toArray 44)
  have BV : Hid (Box _ (w.heap.size + 1 + 1) 32 zU) := (Box.new' ((w.alloc (.cells (uc ab n cb aD k cD p r l cc am m cm s).toArray 32)).alloc (.cells (cmc (18, at_, nn, pg, bt)).toArray 36)) 32 zU.toArray _ rfl _ (by simp)).alloc (.cells zI.toArray 44)
  have BI : Hid (Box _ (w.heap.size + 1 + 1 + 1) 44 zI) := Box.new' (((w.alloc (.cells (uc ab n cb aD k cD p r l cc am m cm s).toArray 32)).alloc (.cells (cmc (18, at_, nn, pg, bt)).toArray 36)).alloc (.cells zU.toArray 32)) 44 zI.toArray _ rfl _ (by simp)
  have LL := hide (((((Later.refl w).alloc (.cells (uc ab n cb aD k cD p r l cc am m cm s).toArray 32)).alloc (.cells (cmc (18, at_, nn, pg, bt)).toArray 36)).alloc (.cells zU.toArray 32)).alloc (.cells zI.toArray 44))
  replace HM := hide (HM.out.later LL.out)
  have d0 := BU.out.cell 0
  have d1 := BU.out.cell 1
  have d2 := BU.out.cell 2
  have d3 := BU.out.cell 3
  have d4 := BU.out.cell 4
  go_enter Tryz.func8, Tryz.ntmps8
  go_wp2_with fail
  clear d0 d1 d2 d3 d4
  generalize (((w.alloc (.cells (uc ab n cb aD k cD p r l cc am m cm s).toArray 32)).alloc (.cells (cmc (18, at_, nn, pg, bt)).toArray 36)).alloc (.cells zU.toArray 32)).alloc (.cells zI.toArray 44) = w1 at *
  obtain ⟨gu, hgu⟩ : ∃ gu, gu = w.heap.size := ⟨_, rfl⟩
  obtain ⟨gc, hgc⟩ : ∃ gc, gc = w.heap.size + 1 := ⟨_, rfl⟩
  obtain ⟨gv, hgv⟩ : ∃ gv, gv = w.heap.size + 1 + 1 := ⟨_, rfl⟩
  obtain ⟨gi, hgi⟩ : ∃ gi, gi = w.heap.size + 1 + 1 + 1 := ⟨_, rfl⟩
  rw [← hgi] at BI ⊢
  rw [← hgv] at BV ⊢
  rw [← hgc] at BC ⊢
  rw [← hgu] at BU ⊢
  have HG : Hid (w.heap.size ≤ gu ∧ w.heap.size ≤ gv ∧ w.heap.size ≤ gi ∧ gu ≠ gv ∧ gu ≠ gi ∧ gv ≠ gi ∧ gc ≠ gu) := by rw [Hid]; omega
  clear hgu hgc hgv hgi
  refine (rready_c (F := F) (D := D) w1 ⟨ab, cb, aD, k, cD, rfl, HM.out⟩).mono ?_
  rintro e w2 ⟨rfl, hl⟩
  replace BU := hide (BU.out.later hl)
  replace BV := hide (BV.out.later hl)
  replace BI := hide (BI.out.later hl)
  replace HM := hide (HM.out.later hl)
  replace LL := hide (LL.out.trans hl)
  replace BC := hide (BC.out.later hl)
  clear hl
  go_wp2_with (refine wpList_newS rfl rfl rfl 10 rfl (by simp) (.tmp 21) (by simp) rfl (readyS p) rfl ?_)
  intro g7 w3 hB7 hl hg
  replace BU := hide (BU.out.later hl)
  replace BV := hide (BV.out.later hl)
  replace BI := hide (BI.out.later hl)
  replace HM := hide (HM.out.later hl)
  replace LL := hide (LL.out.trans hl)
  replace BC := hide (BC.out.later hl)
  have B7 := hide hB7
  clear hB7 hl hg
  have d0 := BU.out.cell 0
  have d1 := BU.out.cell 1
  go_wp2_with fail
  clear d0 d1
  refine (rall_b (F := F) (D := D) _ HM.out).mono ?_
  rintro e w4 ⟨v4, rfl, hl, hr⟩
  obtain ⟨a4, c4, rfl⟩ := hr.shape
  replace BU := hide (BU.out.later hl)
  replace BV := hide (BV.out.later hl)
  replace BI := hide (BI.out.later hl)
  replace HM := hide (HM.out.later hl)
  replace LL := hide (LL.out.trans hl)
  replace BC := hide (BC.out.later hl)
  replace B7 := hide (B7.out.later hl)
  clear hl hr
  obtain ⟨N, hN⟩ : ∃ N, N = allN n D := ⟨_, rfl⟩
  have hN9 : (N : Int) ≤ 9223372036854775807 := by have := allN_small n D; omega
  rw [← hN]
  have HNe := hide hN
  clear hN
  have HF := hide ((Fr11.mk LL.out HG.out.2.1 HG.out.2.2.1 HG.out.2.2.2.2.2.1 BV.out rfl (uc_nob _ _ _ _ _ _ _ _ _ _ _ _ _ _) BI.out rfl (ic_nob _ _ _ _ _ _ _ _ _ _ _ _ _)).later (Later.refl _).drew)
  have y0 := BC.out.cell 0
  have y1 := BC.out.cell 1
  have y2 := BC.out.cell 2
  have y3 := BC.out.cell 3
  have y4 := BC.out.cell 4
  go_wp2_with fail
  clear y1 y2 y3 y4 y0 HF
  refine (ranswer_c (18, at_, nn, pg, bt) lun luns _ HI.out.1).mono ?_
  rintro e w5 ⟨v5, rfl, hl, hb⟩
  replace BU := hide (BU.out.later hl)
  replace BV := hide (BV.out.later hl)
  replace BI := hide (BI.out.later hl)
  replace HM := hide (HM.out.later hl)
  replace LL := hide (LL.out.trans hl)
  replace BC := hide (BC.out.later hl)
  have HB := hide hb
  clear hl hb B7
  generalize ansR (18, at_, nn, pg, bt) lun luns = T at *
  go_wp2_with (refine wpList_newAS rfl rfl rfl rfl 14 13 rfl rfl (by simp) (by decide) (.tmp 55) (.tmp 56) (by simp) (by simp) (by simp) rfl rfl rfl v5 T.2 rfl rfl ?_)
  intro g8 w6 hB8 hl hg
  replace BU := hide (BU.out.later hl)
  replace BV := hide (BV.out.later hl)
  replace BI := hide (BI.out.later hl)
  replace HM := hide (HM.out.later hl)
  replace LL := hide (LL.out.trans hl)
  replace BC := hide (BC.out.later hl)
  replace HB := hide (HB.out.later hl)
  have B8 := hide hB8
  clear hB8 hl hg
  have HF := hide ((Fr11.mk LL.out HG.out.2.1 HG.out.2.2.1 HG.out.2.2.2.2.2.1 BV.out rfl (uc_nob _ _ _ _ _ _ _ _ _ _ _ _ _ _) BI.out rfl (ic_nob _ _ _ _ _ _ _ _ _ _ _ _ _)).later (Later.refl _).drew)
  go_wp2_with fail
  refine wp_region_tree [0, 1, 2] [3] [4, 5] (by kernel_rfl) (by kernel_rfl) (by kernel_rfl) (by kernel_rfl) ?_
  refine wpT_loadG rfl (by kernel_rfl) 32 (.tmp 4) rfl gu 0 rfl (uc ab n cb aD k cD p r l cc am m cm s) _ ((World.rangeAt_drew _ _ _ _).2 BU.out.range) Tryz.underlying32 rfl Tryz.info_unit ?_
  iterate 1 (refine wpT_mild rfl (fun K hK => ?_); go_simp; refine hK _ ?_; clear hK K)
  refine wpT_loadG rfl (by kernel_rfl) 30 (.tmp 14) rfl g8 0 rfl (sc T.2) _ ((World.rangeAt_drew _ _ _ _).2 B8.out.range) Tryz.underlying30 rfl Tryz.info_sense ?_
  refine fin_one (bb := w) w gv gi HF.out 8 57 9 ⟨_, rfl, rfl, rfl, rfl⟩ ⟨_, rfl, rfl, rfl, rfl⟩ (uc ab n cb aD k cD p r l cc am m cm s) rfl rfl rfl (by simp [put_size]) (by decide) 35 (Plain.of (by kernel_rfl)) [.tmp 58, .tmp 59] _ [v5, sval T.2] rfl ⟨_, rfl, rfl, rfl, rfl⟩ (by kernel_rfl)
    (fun W hW => give11 HM.out At11.same HML.out ((Later.refl _).drew.trans hW) (rin11_c (L := T.1) T.2 W (HB.out.later ((Later.refl _).drew.trans hW)))) ?_
  intro y W hLW hB4 hB5 hPW
  have HLW := hide hLW
  have HB4 := hide hB4
  have HB5 := hide hB5
  have HPW := hide hPW
  clear hLW hB4 hB5 hPW
  go_wp2
  exact bodyPost_ret (results_cell_cell' rfl _ _ _ gv 0 gi 0 rfl rfl _ _ (load_unit HB4.out rfl) (load_intent HB5.out HPW.out.one.2.1)) rfl ⟨_, y, rfl, HLW.out, by rw [HR.out]; exact HPW.out⟩
end Go.Proofs.YtfakboehmcimpaaGreat
