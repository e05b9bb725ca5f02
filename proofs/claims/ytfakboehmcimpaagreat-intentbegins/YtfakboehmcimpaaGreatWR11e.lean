import Derived.Test.YtfakboehmcimpaaGreatWR11c
import Derived.Test.YtfakboehmcimpaaGreatMAS
import Derived.Test.YtfakboehmcimpaaGreatMAP
import Derived.Test.YtfakboehmcimpaaGreatMAN
namespace Go.Proofs.YtfakboehmcimpaaGreat
open Go.ChangeShapes Go.WideShapes Go.ChangeAt Go.RowKit
set_option linter.unusedVariables false
set_option maxRecDepth 4000
set_option linter.unusedSimpArgs false
/-! The document's Begin: ModeSense, ModeSelect, StartStop. -/
set_option maxRecDepth 20000 in
set_option maxHeartbeats 8000000 in
theorem rbeg_ms6 {ab : Option Addr} {n cb : Nat} {aD : Option Addr} {k cD : Nat} {F : List UInt8} {D : List Drt} {p r l cc : Bool} {am : Option Addr} {m cm : Nat} {s : Sns} {M : List Sns} {lun luns : Int} (at_ : Nat) (nn pg bt : Int) (w : World) (hm : Med w (.agg #[.slice ab n cb, .slice aD k cD]) n F D) (hA : Sl w (.slice am m cm) M) (hc : OkC7 (26, at_, nn, pg, bt)) (hs : OkS s) (h1 : In64 lun) (h2 : In64 luns) (hm1 : m ≤ 100) :
    Calls Tryz.prog 8 #[uval ab n cb aD k cD p r l cc am m cm s, .int .i64 lun, .int .i64 luns, cval (26, at_, nn, pg, bt)] w fun e w' => ∃ x y, e = .returned (.tuple #[.agg x.toArray, .agg y.toArray]) ∧ Later w w' ∧ PdI w n r cc am cm M (begI n F D p r l cc M s lun luns (26, at_, nn, pg, bt)) x y w' := by
  have HML : Hid (m = M.length) := by
    obtain ⟨a', c', e'⟩ := hA.1.shape
    simp at e'
    exact e'.2.1
  have HM := hide hm
  have HA := hide hA
  have HC := hide hc
  have HS := hide hs
  have HI := hide (And.intro h1 h2)
  have HN := hide hm1
  clear hm hA hc hs h1 h2 hm1
  have HR : Hid (begI n F D p r l cc M s lun luns (26, at_, nn, pg, bt) = ((F, D, p, l, M, s), inI (mansR (26, at_, nn, pg, bt) cc r).1 (mansR (26, at_, nn, pg, bt) cc r).2)) := by first | rfl | exact hB | (simp [Hid, begI]; done)
  have BU := hide ((((Box.new w 32 (uc ab n cb aD k cD p r l cc am m cm s).toArray).alloc (.cells (cmc (26, at_, nn, pg, bt)).toArray 36)).alloc (.cells zU.toArray 32)).alloc (.cells zI.toArray 44))
  have BC : Hid (Box _ (w.heap.size + 1) 36 (cmc (26, at_, nn, pg, bt))) := ((Box.new' (w.alloc (.cells (uc ab n cb aD k cD p r l cc am m cm s).toArray 32)) 36 (cmc (26, at_, nn, pg, bt)).toArray _ rfl _ (by simp)).alloc (.cells zU.toArray 32)).alloc (.cells zI.toArray 44)
  have BV : Hid (Box _ (w.heap.size + 1 + 1) 32 zU) := (Box.new' ((w.alloc (.cells (uc ab n cb aD k cD p r l cc am m cm s).toArray 32)).alloc (.cells (cmc (26, at_, nn, pg, bt)).toArray 36)) 32 zU.toArray _ rfl _ (by simp)).alloc (.cells zI.toArray 44)
  have BI : Hid (Box _ (w.heap.size + 1 + 1 + 1) 44 zI) := Box.new' (((w.alloc (.cells (uc ab n cb aD k cD p r l cc am m cm s).toArray 32)).alloc (.cells (cmc (26, at_, nn, pg, bt)).toArray 36)).alloc (.cells zU.toArray 32)) 44 zI.toArray _ rfl _ (by simp)
  have LL := hide (((((Later.refl w).alloc (.cells (uc ab n cb aD k cD p r l cc am m cm s).toArray 32)).alloc (.cells (cmc (26, at_, nn, pg, bt)).toArray 36)).alloc (.cells zU.toArray 32)).alloc (.cells zI.toArray 44))
  replace HM := hide (HM.out.later LL.out)
  have d0 := BU.out.cell 0
  have d1 := BU.out.cell 1
  have d2 := BU.out.cell 2
  have d3 := BU.out.cell 3
  have d4 := BU.out.cell 4
  go_enter Tryz.func8, Tryz.ntmps8
  go_wp2_with fail
  clear d0 d1 d2 d3 d4
  generalize (((w.alloc (.cells (uc ab n cb aD k cD p r l cc am m cm s).toArray 32)).alloc (.cells (cmc (26, at_, nn, pg, bt)).toArray 36)).alloc (.cells zU.toArray 32)).alloc (.cells zI.toArray 44) = w1 at *
  obtain ⟨gu, hgu⟩ : ∃ gu, gu = w.heap.size := ⟨_, rfl⟩
  obtain ⟨gc, hgc⟩ : ∃ gc, gc = w.heap.size + 1 := ⟨_, rfl⟩
  obtain ⟨gv, hgv⟩ : ∃ gv, gv = w.heap.size + 1 + 1 := ⟨_, rfl⟩
  obtain ⟨gi, hgi⟩ : ∃ gi, gi = w.heap.size + 1 + 1 + 1 := ⟨_, rfl⟩
  rw [← hgi] at BI ⊢
  rw [← hgv] at BV ⊢
  rw [← hgc] at BC ⊢
  rw [← hgu] at BU ⊢
  have HG : Hid (w.heap.size ≤ gu ∧ w.heap.size ≤ gv ∧ w.heap.size ≤ gi ∧ gu ≠ gv ∧ gu ≠ gi ∧ gv ≠ gi ∧ gc ≠ gu) := by rw [Hid]; omega
  clear hgu hgc hgv hgi
  refine (rready_c (F := F) (D := D) w1 ⟨ab, cb, aD, k, cD, rfl, HM.out⟩).mono ?_
  rintro e w2 ⟨rfl, hl⟩
  replace BU := hide (BU.out.later hl)
  replace BV := hide (BV.out.later hl)
  replace BI := hide (BI.out.later hl)
  replace HM := hide (HM.out.later hl)
  replace LL := hide (LL.out.trans hl)
  replace BC := hide (BC.out.later hl)
  clear hl
  go_wp2_with (refine wpList_newS rfl rfl rfl 10 rfl (by simp) (.tmp 21) (by simp) rfl (readyS p) rfl ?_)
  intro g7 w3 hB7 hl hg
  replace BU := hide (BU.out.later hl)
  replace BV := hide (BV.out.later hl)
  replace BI := hide (BI.out.later hl)
  replace HM := hide (HM.out.later hl)
  replace LL := hide (LL.out.trans hl)
  replace BC := hide (BC.out.later hl)
  have B7 := hide hB7
  clear hB7 hl hg
  have d0 := BU.out.cell 0
  have d1 := BU.out.cell 1
  go_wp2_with fail
  clear d0 d1
  refine (rall_b (F := F) (D := D) _ HM.out).mono ?_
  rintro e w4 ⟨v4, rfl, hl, hr⟩
  obtain ⟨a4, c4, rfl⟩ := hr.shape
  replace BU := hide (BU.out.later hl)
  replace BV := hide (BV.out.later hl)
  replace BI := hide (BI.out.later hl)
  replace HM := hide (HM.out.later hl)
  replace LL := hide (LL.out.trans hl)
  replace BC := hide (BC.out.later hl)
  replace B7 := hide (B7.out.later hl)
  clear hl hr
  obtain ⟨N, hN⟩ : ∃ N, N = allN n D := ⟨_, rfl⟩
  have hN9 : (N : Int) ≤ 9223372036854775807 := by have := allN_small n D; omega
  rw [← hN]
  have HNe := hide hN
  clear hN
  have HF := hide ((Fr11.mk LL.out HG.out.2.1 HG.out.2.2.1 HG.out.2.2.2.2.2.1 BV.out rfl (uc_nob _ _ _ _ _ _ _ _ _ _ _ _ _ _) BI.out rfl (ic_nob _ _ _ _ _ _ _ _ _ _ _ _ _)).later (Later.refl _).drew)
  have y0 := BC.out.cell 0
  have y1 := BC.out.cell 1
  have y2 := BC.out.cell 2
  have y3 := BC.out.cell 3
  have y4 := BC.out.cell 4
  have d3 := BU.out.cell 3
  have d5 := BU.out.cell 5
  go_wp2_with fail
  clear y1 y2 y3 y4 d3 d5 y0 HF
  refine (rmanswer_c (26, at_, nn, pg, bt) cc r _).mono ?_
  rintro e w5 ⟨v5, rfl, hl, hb⟩
  replace BU := hide (BU.out.later hl)
  replace BV := hide (BV.out.later hl)
  replace BI := hide (BI.out.later hl)
  replace HM := hide (HM.out.later hl)
  replace LL := hide (LL.out.trans hl)
  replace BC := hide (BC.out.later hl)
  have HB := hide hb
  clear hl hb B7
  generalize mansR (26, at_, nn, pg, bt) cc r = T at *
  go_wp2_with (refine wpList_newAS rfl rfl rfl rfl 16 15 rfl rfl (by simp) (by decide) (.tmp 72) (.tmp 73) (by simp) (by simp) (by simp) rfl rfl rfl v5 T.2 rfl rfl ?_)
  intro g8 w6 hB8 hl hg
  replace BU := hide (BU.out.later hl)
  replace BV := hide (BV.out.later hl)
  replace BI := hide (BI.out.later hl)
  replace HM := hide (HM.out.later hl)
  replace LL := hide (LL.out.trans hl)
  replace BC := hide (BC.out.later hl)
  replace HB := hide (HB.out.later hl)
  have B8 := hide hB8
  clear hB8 hl hg
  have HF := hide ((Fr11.mk LL.out HG.out.2.1 HG.out.2.2.1 HG.out.2.2.2.2.2.1 BV.out rfl (uc_nob _ _ _ _ _ _ _ _ _ _ _ _ _ _) BI.out rfl (ic_nob _ _ _ _ _ _ _ _ _ _ _ _ _)).later (Later.refl _).drew)
  go_wp2_with fail
  refine wp_region_tree [0, 1, 2] [3] [4, 5] (by kernel_rfl) (by kernel_rfl) (by kernel_rfl) (by kernel_rfl) ?_
  refine wpT_loadG rfl (by kernel_rfl) 32 (.tmp 4) rfl gu 0 rfl (uc ab n cb aD k cD p r l cc am m cm s) _ ((World.rangeAt_drew _ _ _ _).2 BU.out.range) Tryz.underlying32 rfl Tryz.info_unit ?_
  iterate 1 (refine wpT_mild rfl (fun K hK => ?_); go_simp; refine hK _ ?_; clear hK K)
  refine wpT_loadG rfl (by kernel_rfl) 30 (.tmp 16) rfl g8 0 rfl (sc T.2) _ ((World.rangeAt_drew _ _ _ _).2 B8.out.range) Tryz.underlying30 rfl Tryz.info_sense ?_
  refine fin_one (bb := w) w gv gi HF.out 8 74 9 ⟨_, rfl, rfl, rfl, rfl⟩ ⟨_, rfl, rfl, rfl, rfl⟩ (uc ab n cb aD k cD p r l cc am m cm s) rfl rfl rfl (by simp [put_size]) (by decide) 35 (Plain.of (by kernel_rfl)) [.tmp 75, .tmp 76] _ [v5, sval T.2] rfl ⟨_, rfl, rfl, rfl, rfl⟩ (by kernel_rfl)
    (fun W hW => give11 HM.out At11.same HML.out ((Later.refl _).drew.trans hW) (rin11_c (L := T.1) T.2 W (HB.out.later ((Later.refl _).drew.trans hW)))) ?_
  intro y W hLW hB4 hB5 hPW
  have HLW := hide hLW
  have HB4 := hide hB4
  have HB5 := hide hB5
  have HPW := hide hPW
  clear hLW hB4 hB5 hPW
  go_wp2
  exact bodyPost_ret (results_cell_cell' rfl _ _ _ gv 0 gi 0 rfl rfl _ _ (load_unit HB4.out rfl) (load_intent HB5.out HPW.out.one.2.1)) rfl ⟨_, y, rfl, HLW.out, by rw [HR.out]; exact HPW.out⟩
set_option maxRecDepth 20000 in
set_option maxHeartbeats 8000000 in
theorem rbeg_ms10 {ab : Option Addr} {n cb : Nat} {aD : Option Addr} {k cD : Nat} {F : List UInt8} {D : List Drt} {p r l cc : Bool} {am : Option Addr} {m cm : Nat} {s : Sns} {M : List Sns} {lun luns : Int} (at_ : Nat) (nn pg bt : Int) (w : World) (hm : Med w (.agg #[.slice ab n cb, .slice aD k cD]) n F D) (hA : Sl w (.slice am m cm) M) (hc : OkC7 (90, at_, nn, pg, bt)) (hs : OkS s) (h1 : In64 lun) (h2 : In64 luns) (hm1 : m ≤ 100) :
    Calls Tryz.prog 8 #[uval ab n cb aD k cD p r l cc am m cm s, .int .i64 lun, .int .i64 luns, cval (90, at_, nn, pg, bt)] w fun e w' => ∃ x y, e = .returned (.tuple #[.agg x.toArray, .agg y.toArray]) ∧ Later w w' ∧ PdI w n r cc am cm M (begI n F D p r l cc M s lun luns (90, at_, nn, pg, bt)) x y w' := by
  have HML : Hid (m = M.length) := by
    obtain ⟨a', c', e'⟩ := hA.1.shape
    simp at e'
    exact e'.2.1
  have HM := hide hm
  have HA := hide hA
  have HC := hide hc
  have HS := hide hs
  have HI := hide (And.intro h1 h2)
  have HN := hide hm1
  clear hm hA hc hs h1 h2 hm1
  have HR : Hid (begI n F D p r l cc M s lun luns (90, at_, nn, pg, bt) = ((F, D, p, l, M, s), inI (mansR (90, at_, nn, pg, bt) cc r).1 (mansR (90, at_, nn, pg, bt) cc r).2)) := by first | rfl | exact hB | (simp [Hid, begI]; done)
  have BU := hide ((((Box.new w 32 (uc ab n cb aD k cD p r l cc am m cm s).toArray).alloc (.cells (cmc (90, at_, nn, pg, bt)).toArray 36)).alloc (.cells zU.toArray 32)).alloc (.cells zI.toArray 44))
  have BC : Hid (Box _ (w.heap.size + 1) 36 (cmc (90, at_, nn, pg, bt))) := ((Box.new' (w.alloc (.cells (uc ab n cb aD k cD p r l cc am m cm s).toArray 32)) 36 (cmc (90, at_, nn, pg, bt)).toArray _ rfl _ (by simp)).alloc (.cells zU.toArray 32)).alloc (.cells zI.toArray 44)
  have BV : Hid (Box _ (w.heap.size + 1 + 1) 32 zU) := (Box.new' ((w.alloc (.cells (uc ab n cb aD k cD p r l cc am m cm s).toArray 32)).alloc (.cells (cmc (90, at_, nn, pg, bt)).toArray 36)) 32 zU.toArray _ rfl _ (by simp)).alloc (.cells zI.toArray 44)
  have BI : Hid (Box _ (w.heap.size + 1 + 1 + 1) 44 zI) := Box.new' (((w.alloc (.cells (uc ab n cb aD k cD p r l cc am m cm s).toArray 32)).alloc (.cells (cmc (90, at_, nn, pg, bt)).toArray 36)).alloc (.cells zU.toArray 32)) 44 zI.toArray _ rfl _ (by simp)
  have LL := hide (((((Later.refl w).alloc (.cells (uc ab n cb aD k cD p r l cc am m cm s).toArray 32)).alloc (.cells (cmc (90, at_, nn, pg, bt)).toArray 36)).alloc (.cells zU.toArray 32)).alloc (.cells zI.toArray 44))
  replace HM := hide (HM.out.later LL.out)
  have d0 := BU.out.cell 0
  have d1 := BU.out.cell 1
  have d2 := BU.out.cell 2
  have d3 := BU.out.cell 3
  have d4 := BU.out.cell 4
  go_enter Tryz.func8, Tryz.ntmps8
  go_wp2_with fail
  clear d0 d1 d2 d3 d4
  generalize (((w.alloc (.cells (uc ab n cb aD k cD p r l cc am m cm s).toArray 32)).alloc (.cells (cmc (90, at_, nn, pg, bt)).toArray 36)).alloc (.cells zU.toArray 32)).alloc (.cells zI.toArray 44) = w1 at *
  obtain ⟨gu, hgu⟩ : ∃ gu, gu = w.heap.size := ⟨_, rfl⟩
  obtain ⟨gc, hgc⟩ : ∃ gc, gc = w.heap.size + 1 := ⟨_, rfl⟩
  obtain ⟨gv, hgv⟩ : ∃ gv, gv = w.heap.size + 1 + 1 := ⟨_, rfl⟩
  obtain ⟨gi, hgi⟩ : ∃ gi, gi = w.heap.size + 1 + 1 + 1 := ⟨_, rfl⟩
  rw [← hgi] at BI ⊢
  rw [← hgv] at BV ⊢
  rw [← hgc] at BC ⊢
  rw [← hgu] at BU ⊢
  have HG : Hid (w.heap.size ≤ gu ∧ w.heap.size ≤ gv ∧ w.heap.size ≤ gi ∧ gu ≠ gv ∧ gu ≠ gi ∧ gv ≠ gi ∧ gc ≠ gu) := by rw [Hid]; omega
  clear hgu hgc hgv hgi
  refine (rready_c (F := F) (D := D) w1 ⟨ab, cb, aD, k, cD, rfl, HM.out⟩).mono ?_
  rintro e w2 ⟨rfl, hl⟩
  replace BU := hide (BU.out.later hl)
  replace BV := hide (BV.out.later hl)
  replace BI := hide (BI.out.later hl)
  replace HM := hide (HM.out.later hl)
  replace LL := hide (LL.out.trans hl)
  replace BC := hide (BC.out.later hl)
  clear hl
  go_wp2_with (refine wpList_newS rfl rfl rfl 10 rfl (by simp) (.tmp 21) (by simp) rfl (readyS p) rfl ?_)
  intro g7 w3 hB7 hl hg
  replace BU := hide (BU.out.later hl)
  replace BV := hide (BV.out.later hl)
  replace BI := hide (BI.out.later hl)
  replace HM := hide (HM.out.later hl)
  replace LL := hide (LL.out.trans hl)
  replace BC := hide (BC.out.later hl)
  have B7 := hide hB7
  clear hB7 hl hg
  have d0 := BU.out.cell 0
  have d1 := BU.out.cell 1
  go_wp2_with fail
  clear d0 d1
  refine (rall_b (F := F) (D := D) _ HM.out).mono ?_
  rintro e w4 ⟨v4, rfl, hl, hr⟩
  obtain ⟨a4, c4, rfl⟩ := hr.shape
  replace BU := hide (BU.out.later hl)
  replace BV := hide (BV.out.later hl)
  replace BI := hide (BI.out.later hl)
  replace HM := hide (HM.out.later hl)
  replace LL := hide (LL.out.trans hl)
  replace BC := hide (BC.out.later hl)
  replace B7 := hide (B7.out.later hl)
  clear hl hr
  obtain ⟨N, hN⟩ : ∃ N, N = allN n D := ⟨_, rfl⟩
  have hN9 : (N : Int) ≤ 9223372036854775807 := by have := allN_small n D; omega
  rw [← hN]
  have HNe := hide hN
  clear hN
  have HF := hide ((Fr11.mk LL.out HG.out.2.1 HG.out.2.2.1 HG.out.2.2.2.2.2.1 BV.out rfl (uc_nob _ _ _ _ _ _ _ _ _ _ _ _ _ _) BI.out rfl (ic_nob _ _ _ _ _ _ _ _ _ _ _ _ _)).later (Later.refl _).drew)
  have y0 := BC.out.cell 0
  have y1 := BC.out.cell 1
  have y2 := BC.out.cell 2
  have y3 := BC.out.cell 3
  have y4 := BC.out.cell 4
  have d3 := BU.out.cell 3
  have d5 := BU.out.cell 5
  go_wp2_with fail
  clear y1 y2 y3 y4 d3 d5 y0 HF
  refine (rmanswer_c (90, at_, nn, pg, bt) cc r _).mono ?_
  rintro e w5 ⟨v5, rfl, hl, hb⟩
  replace BU := hide (BU.out.later hl)
  replace BV := hide (BV.out.later hl)
  replace BI := hide (BI.out.later hl)
  replace HM := hide (HM.out.later hl)
  replace LL := hide (LL.out.trans hl)
  replace BC := hide (BC.out.later hl)
  have HB := hide hb
  clear hl hb B7
  generalize mansR (90, at_, nn, pg, bt) cc r = T at *
  go_wp2_with (refine wpList_newAS rfl rfl rfl rfl 16 15 rfl rfl (by simp) (by decide) (.tmp 72) (.tmp 73) (by simp) (by simp) (by simp) rfl rfl rfl v5 T.2 rfl rfl ?_)
  intro g8 w6 hB8 hl hg
  replace BU := hide (BU.out.later hl)
  replace BV := hide (BV.out.later hl)
  replace BI := hide (BI.out.later hl)
  replace HM := hide (HM.out.later hl)
  replace LL := hide (LL.out.trans hl)
  replace BC := hide (BC.out.later hl)
  replace HB := hide (HB.out.later hl)
  have B8 := hide hB8
  clear hB8 hl hg
  have HF := hide ((Fr11.mk LL.out HG.out.2.1 HG.out.2.2.1 HG.out.2.2.2.2.2.1 BV.out rfl (uc_nob _ _ _ _ _ _ _ _ _ _ _ _ _ _) BI.out rfl (ic_nob _ _ _ _ _ _ _ _ _ _ _ _ _)).later (Later.refl _).drew)
  go_wp2_with fail
  refine wp_region_tree [0, 1, 2] [3] [4, 5] (by kernel_rfl) (by kernel_rfl) (by kernel_rfl) (by kernel_rfl) ?_
  refine wpT_loadG rfl (by kernel_rfl) 32 (.tmp 4) rfl gu 0 rfl (uc ab n cb aD k cD p r l cc am m cm s) _ ((World.rangeAt_drew _ _ _ _).2 BU.out.range) Tryz.underlying32 rfl Tryz.info_unit ?_
  iterate 1 (refine wpT_mild rfl (fun K hK => ?_); go_simp; refine hK _ ?_; clear hK K)
  refine wpT_loadG rfl (by kernel_rfl) 30 (.tmp 16) rfl g8 0 rfl (sc T.2) _ ((World.rangeAt_drew _ _ _ _).2 B8.out.range) Tryz.underlying30 rfl Tryz.info_sense ?_
  refine fin_one (bb := w) w gv gi HF.out 8 74 9 ⟨_, rfl, rfl, rfl, rfl⟩ ⟨_, rfl, rfl, rfl, rfl⟩ (uc ab n cb aD k cD p r l cc am m cm s) rfl rfl rfl (by simp [put_size]) (by decide) 35 (Plain.of (by kernel_rfl)) [.tmp 75, .tmp 76] _ [v5, sval T.2] rfl ⟨_, rfl, rfl, rfl, rfl⟩ (by kernel_rfl)
    (fun W hW => give11 HM.out At11.same HML.out ((Later.refl _).drew.trans hW) (rin11_c (L := T.1) T.2 W (HB.out.later ((Later.refl _).drew.trans hW)))) ?_
  intro y W hLW hB4 hB5 hPW
  have HLW := hide hLW
  have HB4 := hide hB4
  have HB5 := hide hB5
  have HPW := hide hPW
  clear hLW hB4 hB5 hPW
  go_wp2
  exact bodyPost_ret (results_cell_cell' rfl _ _ _ gv 0 gi 0 rfl rfl _ _ (load_unit HB4.out rfl) (load_intent HB5.out HPW.out.one.2.1)) rfl ⟨_, y, rfl, HLW.out, by rw [HR.out]; exact HPW.out⟩
set_option maxRecDepth 20000 in
set_option maxHeartbeats 8000000 in
theorem rbeg_sel6 {ab : Option Addr} {n cb : Nat} {aD : Option Addr} {k cD : Nat} {F : List UInt8} {D : List Drt} {p r l cc : Bool} {am : Option Addr} {m cm : Nat} {s : Sns} {M : List Sns} {lun luns : Int} (at_ : Nat) (nn pg bt : Int) (w : World) (hm : Med w (.agg #[.slice ab n cb, .slice aD k cD]) n F D) (hA : Sl w (.slice am m cm) M) (hc : OkC7 (21, at_, nn, pg, bt)) (hs : OkS s) (h1 : In64 lun) (h2 : In64 luns) (hm1 : m ≤ 100) :
    Calls Tryz.prog 8 #[uval ab n cb aD k cD p r l cc am m cm s, .int .i64 lun, .int .i64 luns, cval (21, at_, nn, pg, bt)] w fun e w' => ∃ x y, e = .returned (.tuple #[.agg x.toArray, .agg y.toArray]) ∧ Later w w' ∧ PdI w n r cc am cm M (begI n F D p r l cc M s lun luns (21, at_, nn, pg, bt)) x y w' := by
  have HML : Hid (m = M.length) := by
    obtain ⟨a', c', e'⟩ := hA.1.shape
    simp at e'
    exact e'.2.1
  have HM := hide hm
  have HA := hide hA
  have HC := hide hc
  have HS := hide hs
  have HI := hide (And.intro h1 h2)
  have HN := hide hm1
  clear hm hA hc hs h1 h2 hm1
  have HR : Hid (begI n F D p r l cc M s lun luns (21, at_, nn, pg, bt) = ((F, D, p, l, M, s), outI (21, at_, nn, pg, bt) (0, 0, 0))) := by first | rfl | exact hB | (simp [Hid, begI]; done)
  have BU := hide ((((Box.new w 32 (uc ab n cb aD k cD p r l cc am m cm s).toArray).alloc (.cells (cmc (21, at_, nn, pg, bt)).toArray 36)).alloc (.cells zU.toArray 32)).alloc (.cells zI.toArray 44))
  have BC : Hid (Box _ (w.heap.size + 1) 36 (cmc (21, at_, nn, pg, bt))) := ((Box.new' (w.alloc (.cells (uc ab n cb aD k cD p r l cc am m cm s).toArray 32)) 36 (cmc (21, at_, nn, pg, bt)).toArray _ rfl _ (by simp)).alloc (.cells zU.toArray 32)).alloc (.cells zI.toArray 44)
  have BV : Hid (Box _ (w.heap.size + 1 + 1) 32 zU) := (Box.new' ((w.alloc (.cells (uc ab n cb aD k cD p r l cc am m cm s).toArray 32)).alloc (.cells (cmc (21, at_, nn, pg, bt)).toArray 36)) 32 zU.toArray _ rfl _ (by simp)).alloc (.cells zI.toArray 44)
  have BI : Hid (Box _ (w.heap.size + 1 + 1 + 1) 44 zI) := Box.new' (((w.alloc (.cells (uc ab n cb aD k cD p r l cc am m cm s).toArray 32)).alloc (.cells (cmc (21, at_, nn, pg, bt)).toArray 36)).alloc (.cells zU.toArray 32)) 44 zI.toArray _ rfl _ (by simp)
  have LL := hide (((((Later.refl w).alloc (.cells (uc ab n cb aD k cD p r l cc am m cm s).toArray 32)).alloc (.cells (cmc (21, at_, nn, pg, bt)).toArray 36)).alloc (.cells zU.toArray 32)).alloc (.cells zI.toArray 44))
  replace HM := hide (HM.out.later LL.out)
  have d0 := BU.out.cell 0
  have d1 := BU.out.cell 1
  have d2 := BU.out.cell 2
  have d3 := BU.out.cell 3
  have d4 := BU.out.cell 4
  go_enter Tryz.func8, Tryz.ntmps8
  go_wp2_with fail
  clear d0 d1 d2 d3 d4
  generalize (((w.alloc (.cells (uc ab n cb aD k cD p r l cc am m cm s).toArray 32)).alloc (.cells (cmc (21, at_, nn, pg, bt)).toArray 36)).alloc (.cells zU.toArray 32)).alloc (.cells zI.toArray 44) = w1 at *
  obtain ⟨gu, hgu⟩ : ∃ gu, gu = w.heap.size := ⟨_, rfl⟩
  obtain ⟨gc, hgc⟩ : ∃ gc, gc = w.heap.size + 1 := ⟨_, rfl⟩
  obtain ⟨gv, hgv⟩ : ∃ gv, gv = w.heap.size + 1 + 1 := ⟨_, rfl⟩
  obtain ⟨gi, hgi⟩ : ∃ gi, gi = w.heap.size + 1 + 1 + 1 := ⟨_, rfl⟩
  rw [← hgi] at BI ⊢
  rw [← hgv] at BV ⊢
  rw [← hgc] at BC ⊢
  rw [← hgu] at BU ⊢
  have HG : Hid (w.heap.size ≤ gu ∧ w.heap.size ≤ gv ∧ w.heap.size ≤ gi ∧ gu ≠ gv ∧ gu ≠ gi ∧ gv ≠ gi ∧ gc ≠ gu) := by rw [Hid]; omega
  clear hgu hgc hgv hgi
  refine (rready_c (F := F) (D := D) w1 ⟨ab, cb, aD, k, cD, rfl, HM.out⟩).mono ?_
  rintro e w2 ⟨rfl, hl⟩
  replace BU := hide (BU.out.later hl)
  replace BV := hide (BV.out.later hl)
  replace BI := hide (BI.out.later hl)
  replace HM := hide (HM.out.later hl)
  replace LL := hide (LL.out.trans hl)
  replace BC := hide (BC.out.later hl)
  clear hl
  go_wp2_with (refine wpList_newS rfl rfl rfl 10 rfl (by simp) (.tmp 21) (by simp) rfl (readyS p) rfl ?_)
  intro g7 w3 hB7 hl hg
  replace BU := hide (BU.out.later hl)
  replace BV := hide (BV.out.later hl)
  replace BI := hide (BI.out.later hl)
  replace HM := hide (HM.out.later hl)
  replace LL := hide (LL.out.trans hl)
  replace BC := hide (BC.out.later hl)
  have B7 := hide hB7
  clear hB7 hl hg
  have d0 := BU.out.cell 0
  have d1 := BU.out.cell 1
  go_wp2_with fail
  clear d0 d1
  refine (rall_b (F := F) (D := D) _ HM.out).mono ?_
  rintro e w4 ⟨v4, rfl, hl, hr⟩
  obtain ⟨a4, c4, rfl⟩ := hr.shape
  replace BU := hide (BU.out.later hl)
  replace BV := hide (BV.out.later hl)
  replace BI := hide (BI.out.later hl)
  replace HM := hide (HM.out.later hl)
  replace LL := hide (LL.out.trans hl)
  replace BC := hide (BC.out.later hl)
  replace B7 := hide (B7.out.later hl)
  clear hl hr
  obtain ⟨N, hN⟩ : ∃ N, N = allN n D := ⟨_, rfl⟩
  have hN9 : (N : Int) ≤ 9223372036854775807 := by have := allN_small n D; omega
  rw [← hN]
  have HNe := hide hN
  clear hN
  have HF := hide ((Fr11.mk LL.out HG.out.2.1 HG.out.2.2.1 HG.out.2.2.2.2.2.1 BV.out rfl (uc_nob _ _ _ _ _ _ _ _ _ _ _ _ _ _) BI.out rfl (ic_nob _ _ _ _ _ _ _ _ _ _ _ _ _)).later (Later.refl _).drew)
  have y0 := BC.out.cell 0
  go_wp2_with fail
  refine wp_region_tree [0, 1, 2] [3] [4, 5] (by kernel_rfl) (by kernel_rfl) (by kernel_rfl) (by kernel_rfl) ?_
  refine wpT_loadG rfl (by kernel_rfl) 32 (.tmp 4) rfl gu 0 rfl (uc ab n cb aD k cD p r l cc am m cm s) _ ((World.rangeAt_drew _ _ _ _).2 BU.out.range) Tryz.underlying32 rfl Tryz.info_unit ?_
  refine wpT_loadG rfl (by kernel_rfl) 36 (.tmp 7) rfl gc 0 rfl (cmc (21, at_, nn, pg, bt)) _ ((World.rangeAt_drew _ _ _ _).2 BC.out.range) Tryz.underlying36 rfl Tryz.info_cmd ?_
  iterate 1 (refine wpT_mild rfl (fun K hK => ?_); go_simp; refine hK _ ?_; clear hK K)
  refine fin_one (bb := w) w gv gi HF.out 8 81 9 ⟨_, rfl, rfl, rfl, rfl⟩ ⟨_, rfl, rfl, rfl, rfl⟩ (uc ab n cb aD k cD p r l cc am m cm s) rfl rfl rfl (by simp [put_size]) (by decide) 38 (Plain.of (by kernel_rfl)) [.tmp 82, .tmp 83] _ [cval (21, at_, nn, pg, bt), sval (0, 0, 0)] rfl ⟨_, rfl, rfl, rfl, rfl⟩ (by kernel_rfl)
    (fun W hW => give11 HM.out At11.same HML.out ((Later.refl _).drew.trans hW) (rout11 (21, at_, nn, pg, bt) (0, 0, 0) W HC.out)) ?_
  intro y W hLW hB4 hB5 hPW
  have HLW := hide hLW
  have HB4 := hide hB4
  have HB5 := hide hB5
  have HPW := hide hPW
  clear hLW hB4 hB5 hPW
  go_wp2
  exact bodyPost_ret (results_cell_cell' rfl _ _ _ gv 0 gi 0 rfl rfl _ _ (load_unit HB4.out rfl) (load_intent HB5.out HPW.out.one.2.1)) rfl ⟨_, y, rfl, HLW.out, by rw [HR.out]; exact HPW.out⟩
set_option maxRecDepth 20000 in
set_option maxHeartbeats 8000000 in
theorem rbeg_sel10 {ab : Option Addr} {n cb : Nat} {aD : Option Addr} {k cD : Nat} {F : List UInt8} {D : List Drt} {p r l cc : Bool} {am : Option Addr} {m cm : Nat} {s : Sns} {M : List Sns} {lun luns : Int} (at_ : Nat) (nn pg bt : Int) (w : World) (hm : Med w (.agg #[.slice ab n cb, .slice aD k cD]) n F D) (hA : Sl w (.slice am m cm) M) (hc : OkC7 (85, at_, nn, pg, bt)) (hs : OkS s) (h1 : In64 lun) (h2 : In64 luns) (hm1 : m ≤ 100) :
    Calls Tryz.prog 8 #[uval ab n cb aD k cD p r l cc am m cm s, .int .i64 lun, .int .i64 luns, cval (85, at_, nn, pg, bt)] w fun e w' => ∃ x y, e = .returned (.tuple #[.agg x.toArray, .agg y.toArray]) ∧ Later w w' ∧ PdI w n r cc am cm M (begI n F D p r l cc M s lun luns (85, at_, nn, pg, bt)) x y w' := by
  have HML : Hid (m = M.length) := by
    obtain ⟨a', c', e'⟩ := hA.1.shape
    simp at e'
    exact e'.2.1
  have HM := hide hm
  have HA := hide hA
  have HC := hide hc
  have HS := hide hs
  have HI := hide (And.intro h1 h2)
  have HN := hide hm1
  clear hm hA hc hs h1 h2 hm1
  have HR : Hid (begI n F D p r l cc M s lun luns (85, at_, nn, pg, bt) = ((F, D, p, l, M, s), outI (85, at_, nn, pg, bt) (0, 0, 0))) := by first | rfl | exact hB | (simp [Hid, begI]; done)
  have BU := hide ((((Box.new w 32 (uc ab n cb aD k cD p r l cc am m cm s).toArray).alloc (.cells (cmc (85, at_, nn, pg, bt)).toArray 36)).alloc (.cells zU.toArray 32)).alloc (.cells zI.toArray 44))
  have BC : Hid (Box _ (w.heap.size + 1) 36 (cmc (85, at_, nn, pg, bt))) := ((Box.new' (w.alloc (.cells (uc ab n cb aD k cD p r l cc am m cm s).toArray 32)) 36 (cmc (85, at_, nn, pg, bt)).toArray _ rfl _ (by simp)).alloc (.cells zU.toArray 32)).alloc (.cells zI.toArray 44)
  have BV : Hid (Box _ (w.heap.size + 1 + 1) 32 zU) := (Box.new' ((w.alloc (.cells (uc ab n cb aD k cD p r l cc am m cm s).toArray 32)).alloc (.cells (cmc (85, at_, nn, pg, bt)).toArray 36)) 32 zU.toArray _ rfl _ (by simp)).alloc (.cells zI.toArray 44)
  have BI : Hid (Box _ (w.heap.size + 1 + 1 + 1) 44 zI) := Box.new' (((w.alloc (.cells (uc ab n cb aD k cD p r l cc am m cm s).toArray 32)).alloc (.cells (cmc (85, at_, nn, pg, bt)).toArray 36)).alloc (.cells zU.toArray 32)) 44 zI.toArray _ rfl _ (by simp)
  have LL := hide (((((Later.refl w).alloc (.cells (uc ab n cb aD k cD p r l cc am m cm s).toArray 32)).alloc (.cells (cmc (85, at_, nn, pg, bt)).toArray 36)).alloc (.cells zU.toArray 32)).alloc (.cells zI.toArray 44))
  replace HM := hide (HM.out.later LL.out)
  have d0 := BU.out.cell 0
  have d1 := BU.out.cell 1
  have d2 := BU.out.cell 2
  have d3 := BU.out.cell 3
  have d4 := BU.out.cell 4
  go_enter Tryz.func8, Tryz.ntmps8
  go_wp2_with fail
  clear d0 d1 d2 d3 d4
  generalize (((w.alloc (.cells (uc ab n cb aD k cD p r l cc am m cm s).toArray 32)).alloc (.cells (cmc (85, at_, nn, pg, bt)).toArray 36)).alloc (.cells zU.toArray 32)).alloc (.cells zI.toArray 44) = w1 at *
  obtain ⟨gu, hgu⟩ : ∃ gu, gu = w.heap.size := ⟨_, rfl⟩
  obtain ⟨gc, hgc⟩ : ∃ gc, gc = w.heap.size + 1 := ⟨_, rfl⟩
  obtain ⟨gv, hgv⟩ : ∃ gv, gv = w.heap.size + 1 + 1 := ⟨_, rfl⟩
  obtain ⟨gi, hgi⟩ : ∃ gi, gi = w.heap.size + 1 + 1 + 1 := ⟨_, rfl⟩
  rw [← hgi] at BI ⊢
  rw [← hgv] at BV ⊢
  rw [← hgc] at BC ⊢
  rw [← hgu] at BU ⊢
  have HG : Hid (w.heap.size ≤ gu ∧ w.heap.size ≤ gv ∧ w.heap.size ≤ gi ∧ gu ≠ gv ∧ gu ≠ gi ∧ gv ≠ gi ∧ gc ≠ gu) := by rw [Hid]; omega
  clear hgu hgc hgv hgi
  refine (rready_c (F := F) (D := D) w1 ⟨ab, cb, aD, k, cD, rfl, HM.out⟩).mono ?_
  rintro e w2 ⟨rfl, hl⟩
  replace BU := hide (BU.out.later hl)
  replace BV := hide (BV.out.later hl)
  replace BI := hide (BI.out.later hl)
  replace HM := hide (HM.out.later hl)
  replace LL := hide (LL.out.trans hl)
  replace BC := hide (BC.out.later hl)
  clear hl
  go_wp2_with (refine wpList_newS rfl rfl rfl 10 rfl (by simp) (.tmp 21) (by simp) rfl (readyS p) rfl ?_)
  intro g7 w3 hB7 hl hg
  replace BU := hide (BU.out.later hl)
  replace BV := hide (BV.out.later hl)
  replace BI := hide (BI.out.later hl)
  replace HM := hide (HM.out.later hl)
  replace LL := hide (LL.out.trans hl)
  replace BC := hide (BC.out.later hl)
  have B7 := hide hB7
  clear hB7 hl hg
  have d0 := BU.out.cell 0
  have d1 := BU.out.cell 1
  go_wp2_with fail
  clear d0 d1
  refine (rall_b (F := F) (D := D) _ HM.out).mono ?_
  rintro e w4 ⟨v4, rfl, hl, hr⟩
  obtain ⟨a4, c4, rfl⟩ := hr.shape
  replace BU := hide (BU.out.later hl)
  replace BV := hide (BV.out.later hl)
  replace BI := hide (BI.out.later hl)
  replace HM := hide (HM.out.later hl)
  replace LL := hide (LL.out.trans hl)
  replace BC := hide (BC.out.later hl)
  replace B7 := hide (B7.out.later hl)
  clear hl hr
  obtain ⟨N, hN⟩ : ∃ N, N = allN n D := ⟨_, rfl⟩
  have hN9 : (N : Int) ≤ 9223372036854775807 := by have := allN_small n D; omega
  rw [← hN]
  have HNe := hide hN
  clear hN
  have HF := hide ((Fr11.mk LL.out HG.out.2.1 HG.out.2.2.1 HG.out.2.2.2.2.2.1 BV.out rfl (uc_nob _ _ _ _ _ _ _ _ _ _ _ _ _ _) BI.out rfl (ic_nob _ _ _ _ _ _ _ _ _ _ _ _ _)).later (Later.refl _).drew)
  have y0 := BC.out.cell 0
  go_wp2_with fail
  refine wp_region_tree [0, 1, 2] [3] [4, 5] (by kernel_rfl) (by kernel_rfl) (by kernel_rfl) (by kernel_rfl) ?_
  refine wpT_loadG rfl (by kernel_rfl) 32 (.tmp 4) rfl gu 0 rfl (uc ab n cb aD k cD p r l cc am m cm s) _ ((World.rangeAt_drew _ _ _ _).2 BU.out.range) Tryz.underlying32 rfl Tryz.info_unit ?_
  refine wpT_loadG rfl (by kernel_rfl) 36 (.tmp 7) rfl gc 0 rfl (cmc (85, at_, nn, pg, bt)) _ ((World.rangeAt_drew _ _ _ _).2 BC.out.range) Tryz.underlying36 rfl Tryz.info_cmd ?_
  iterate 1 (refine wpT_mild rfl (fun K hK => ?_); go_simp; refine hK _ ?_; clear hK K)
  refine fin_one (bb := w) w gv gi HF.out 8 81 9 ⟨_, rfl, rfl, rfl, rfl⟩ ⟨_, rfl, rfl, rfl, rfl⟩ (uc ab n cb aD k cD p r l cc am m cm s) rfl rfl rfl (by simp [put_size]) (by decide) 38 (Plain.of (by kernel_rfl)) [.tmp 82, .tmp 83] _ [cval (85, at_, nn, pg, bt), sval (0, 0, 0)] rfl ⟨_, rfl, rfl, rfl, rfl⟩ (by kernel_rfl)
    (fun W hW => give11 HM.out At11.same HML.out ((Later.refl _).drew.trans hW) (rout11 (85, at_, nn, pg, bt) (0, 0, 0) W HC.out)) ?_
  intro y W hLW hB4 hB5 hPW
  have HLW := hide hLW
  have HB4 := hide hB4
  have HB5 := hide hB5
  have HPW := hide hPW
  clear hLW hB4 hB5 hPW
  go_wp2
  exact bodyPost_ret (results_cell_cell' rfl _ _ _ gv 0 gi 0 rfl rfl _ _ (load_unit HB4.out rfl) (load_intent HB5.out HPW.out.one.2.1)) rfl ⟨_, y, rfl, HLW.out, by rw [HR.out]; exact HPW.out⟩
set_option maxRecDepth 20000 in
set_option maxHeartbeats 8000000 in
theorem rbeg_stop {ab : Option Addr} {n cb : Nat} {aD : Option Addr} {k cD : Nat} {F : List UInt8} {D : List Drt} {p r l cc : Bool} {am : Option Addr} {m cm : Nat} {s : Sns} {M : List Sns} {lun luns : Int} (at_ : Nat) (nn pg bt : Int) (w : World) (hm : Med w (.agg #[.slice ab n cb, .slice aD k cD]) n F D) (hA : Sl w (.slice am m cm) M) (hc : OkC7 (27, at_, nn, pg, bt)) (hs : OkS s) (h1 : In64 lun) (h2 : In64 luns) (hm1 : m ≤ 100) :
    Calls Tryz.prog 8 #[uval ab n cb aD k cD p r l cc am m cm s, .int .i64 lun, .int .i64 luns, cval (27, at_, nn, pg, bt)] w fun e w' => ∃ x y, e = .returned (.tuple #[.agg x.toArray, .agg y.toArray]) ∧ Later w w' ∧ PdI w n r cc am cm M (begI n F D p r l cc M s lun luns (27, at_, nn, pg, bt)) x y w' := by
  have HML : Hid (m = M.length) := by
    obtain ⟨a', c', e'⟩ := hA.1.shape
    simp at e'
    exact e'.2.1
  have HM := hide hm
  have HA := hide hA
  have HC := hide hc
  have HS := hide hs
  have HI := hide (And.intro h1 h2)
  have HN := hide hm1
  clear hm hA hc hs h1 h2 hm1
  have HR : Hid (begI n F D p r l cc M s lun luns (27, at_, nn, pg, bt) = stI n F D p l M s bt) := by first | rfl | exact hB | (simp [Hid, begI]; done)
  have BU := hide ((((Box.new w 32 (uc ab n cb aD k cD p r l cc am m cm s).toArray).alloc (.cells (cmc (27, at_, nn, pg, bt)).toArray 36)).alloc (.cells zU.toArray 32)).alloc (.cells zI.toArray 44))
  have BC : Hid (Box _ (w.heap.size + 1) 36 (cmc (27, at_, nn, pg, bt))) := ((Box.new' (w.alloc (.cells (uc ab n cb aD k cD p r l cc am m cm s).toArray 32)) 36 (cmc (27, at_, nn, pg, bt)).toArray _ rfl _ (by simp)).alloc (.cells zU.toArray 32)).alloc (.cells zI.toArray 44)
  have BV : Hid (Box _ (w.heap.size + 1 + 1) 32 zU) := (Box.new' ((w.alloc (.cells (uc ab n cb aD k cD p r l cc am m cm s).toArray 32)).alloc (.cells (cmc (27, at_, nn, pg, bt)).toArray 36)) 32 zU.toArray _ rfl _ (by simp)).alloc (.cells zI.toArray 44)
  have BI : Hid (Box _ (w.heap.size + 1 + 1 + 1) 44 zI) := Box.new' (((w.alloc (.cells (uc ab n cb aD k cD p r l cc am m cm s).toArray 32)).alloc (.cells (cmc (27, at_, nn, pg, bt)).toArray 36)).alloc (.cells zU.toArray 32)) 44 zI.toArray _ rfl _ (by simp)
  have LL := hide (((((Later.refl w).alloc (.cells (uc ab n cb aD k cD p r l cc am m cm s).toArray 32)).alloc (.cells (cmc (27, at_, nn, pg, bt)).toArray 36)).alloc (.cells zU.toArray 32)).alloc (.cells zI.toArray 44))
  replace HM := hide (HM.out.later LL.out)
  have d0 := BU.out.cell 0
  have d1 := BU.out.cell 1
  have d2 := BU.out.cell 2
  have d3 := BU.out.cell 3
  have d4 := BU.out.cell 4
  go_enter Tryz.func8, Tryz.ntmps8
  go_wp2_with fail
  clear d0 d1 d2 d3 d4
  generalize (((w.alloc (.cells (uc ab n cb aD k cD p r l cc am m cm s).toArray 32)).alloc (.cells (cmc (27, at_, nn, pg, bt)).toArray 36)).alloc (.cells zU.toArray 32)).alloc (.cells zI.toArray 44) = w1 at *
  obtain ⟨gu, hgu⟩ : ∃ gu, gu = w.heap.size := ⟨_, rfl⟩
  obtain ⟨gc, hgc⟩ : ∃ gc, gc = w.heap.size + 1 := ⟨_, rfl⟩
  obtain ⟨gv, hgv⟩ : ∃ gv, gv = w.heap.size + 1 + 1 := ⟨_, rfl⟩
  obtain ⟨gi, hgi⟩ : ∃ gi, gi = w.heap.size + 1 + 1 + 1 := ⟨_, rfl⟩
  rw [← hgi] at BI ⊢
  rw [← hgv] at BV ⊢
  rw [← hgc] at BC ⊢
  rw [← hgu] at BU ⊢
  have HG : Hid (w.heap.size ≤ gu ∧ w.heap.size ≤ gv ∧ w.heap.size ≤ gi ∧ gu ≠ gv ∧ gu ≠ gi ∧ gv ≠ gi ∧ gc ≠ gu) := by rw [Hid]; omega
  clear hgu hgc hgv hgi
  refine (rready_c (F := F) (D := D) w1 ⟨ab, cb, aD, k, cD, rfl, HM.out⟩).mono ?_
  rintro e w2 ⟨rfl, hl⟩
  replace BU := hide (BU.out.later hl)
  replace BV := hide (BV.out.later hl)
  replace BI := hide (BI.out.later hl)
  replace HM := hide (HM.out.later hl)
  replace LL := hide (LL.out.trans hl)
  replace BC := hide (BC.out.later hl)
  clear hl
  go_wp2_with (refine wpList_newS rfl rfl rfl 10 rfl (by simp) (.tmp 21) (by simp) rfl (readyS p) rfl ?_)
  intro g7 w3 hB7 hl hg
  replace BU := hide (BU.out.later hl)
  replace BV := hide (BV.out.later hl)
  replace BI := hide (BI.out.later hl)
  replace HM := hide (HM.out.later hl)
  replace LL := hide (LL.out.trans hl)
  replace BC := hide (BC.out.later hl)
  have B7 := hide hB7
  clear hB7 hl hg
  have d0 := BU.out.cell 0
  have d1 := BU.out.cell 1
  go_wp2_with fail
  clear d0 d1
  refine (rall_b (F := F) (D := D) _ HM.out).mono ?_
  rintro e w4 ⟨v4, rfl, hl, hr⟩
  obtain ⟨a4, c4, rfl⟩ := hr.shape
  replace BU := hide (BU.out.later hl)
  replace BV := hide (BV.out.later hl)
  replace BI := hide (BI.out.later hl)
  replace HM := hide (HM.out.later hl)
  replace LL := hide (LL.out.trans hl)
  replace BC := hide (BC.out.later hl)
  replace B7 := hide (B7.out.later hl)
  clear hl hr
  obtain ⟨N, hN⟩ : ∃ N, N = allN n D := ⟨_, rfl⟩
  have hN9 : (N : Int) ≤ 9223372036854775807 := by have := allN_small n D; omega
  rw [← hN]
  have HNe := hide hN
  clear hN
  have HF := hide ((Fr11.mk LL.out HG.out.2.1 HG.out.2.2.1 HG.out.2.2.2.2.2.1 BV.out rfl (uc_nob _ _ _ _ _ _ _ _ _ _ _ _ _ _) BI.out rfl (ic_nob _ _ _ _ _ _ _ _ _ _ _ _ _)).later (Later.refl _).drew)
  have y0 := BC.out.cell 0
  have y4 := BC.out.cell 4
  have x_0 := BU.out.cell 0
  have x_1 := BU.out.cell 1
  have x_2 := BU.out.cell 2
  have x_3 := BU.out.cell 3
  have x_4 := BU.out.cell 4
  have x_5 := BU.out.cell 5
  have x_6 := BU.out.cell 6
  have x_7 := BU.out.cell 7
  have x_8 := BU.out.cell 8
  have x_9 := BU.out.cell 9
  go_wp2_with fail
  clear x_0 x_1 x_2 x_3 x_4 x_5 x_6 x_7 x_8 x_9
  clear y0 y4
  refine (rstarts11_c (M := M) bt _ HM.out (HA.out.later LL.out) HN.out).mono ?_
  rintro e w5 ⟨x, y, rfl, hl, hp⟩
  have HP : Hid (PdI w n r cc am cm M _ x y w5) := hp.base11 LL.out.size
  have O1 := hide HP.out.one
  replace BV := hide (BV.out.later hl)
  replace BI := hide (BI.out.later hl)
  replace LL := hide (LL.out.trans hl)
  clear hl hp HM BU BC HF
  go_wp2_with (refine wpList_storeU rfl 32 (.tmp 8) (.tmp 91) rfl gv 0 rfl x rfl (by rw [Tryz.info_unit, O1.out.1.1]) O1.out.1.2.2 _ _ BV.out (by rw [O1.out.1.1]; simp) ?_)
  intro w6 h6
  replace HP := hide (by have h := HP.out.set (.inl rfl) BV.out (uc_nob _ _ _ _ _ _ _ _ _ _ _ _ _ _) x; rw [← h6.out] at h; exact h)
  replace BI : Hid (Box w6 gi 44 zI) := by rw [h6.out]; exact BI.out.apart gv (by have := HG.out; omega) _ _
  replace LL : Hid (Later w w6) := by rw [h6.out]; exact LL.out.setCells HG.out.2.1 _ _
  replace BV : Hid (Box w6 gv 32 x) := by rw [h6.out]; exact BV.out.all x (by rw [O1.out.1.1]; rfl)
  clear h6
  go_wp2_with (refine wpList_storeU rfl 44 (.tmp 9) (.tmp 92) rfl gi 0 rfl y rfl (by rw [Tryz.info_intent, O1.out.2.1]) O1.out.2.2.2 _ _ BI.out (by rw [O1.out.2.1]; simp) ?_)
  intro w7 h7
  replace HP := hide (by have h := HP.out.set (.inr rfl) BI.out (ic_nob _ _ _ _ _ _ _ _ _ _ _ _ _) y; rw [← h7.out] at h; exact h)
  replace BV : Hid (Box w7 gv 32 x) := by rw [h7.out]; exact BV.out.apart gi (by have := HG.out; omega) _ _
  replace LL : Hid (Later w w7) := by rw [h7.out]; exact LL.out.setCells HG.out.2.2.1 _ _
  replace BI : Hid (Box w7 gi 44 y) := by rw [h7.out]; exact BI.out.all y (by rw [O1.out.2.1]; rfl)
  clear h7
  go_wp2
  exact bodyPost_ret (results_cell_cell' rfl _ _ _ gv 0 gi 0 rfl rfl _ _ (load_unit BV.out O1.out.1.1) (load_intent BI.out O1.out.2.1)) rfl ⟨x, y, rfl, LL.out, by rw [HR.out]; exact HP.out⟩
end Go.Proofs.YtfakboehmcimpaaGreat
