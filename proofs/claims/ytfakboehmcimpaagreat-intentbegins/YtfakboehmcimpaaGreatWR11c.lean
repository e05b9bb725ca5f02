import Derived.Test.YtfakboehmcimpaaGreatMBF
namespace Go.Proofs.YtfakboehmcimpaaGreat
open Go.ChangeShapes Go.WideShapes Go.ChangeAt Go.RowKit
set_option linter.unusedVariables false
set_option maxRecDepth 4000
set_option linter.unusedSimpArgs false
/-! The document's intents: blocks. -/
set_option maxRecDepth 20000 in
set_option maxHeartbeats 8000000 in
theorem rblocks11_c {ab : Option Addr} {n cb : Nat} {aD : Option Addr} {k cD : Nat} {F : List UInt8} {D : List Drt} {p r l cc : Bool} {am : Option Addr} {m cm : Nat} {s : Sns} {M : List Sns} (op : Int) (at_ : Nat) (nn pg bt : Int) (w : World) (hm : Med w (.agg #[.slice ab n cb, .slice aD k cD]) n F D) (hml : m = M.length) (hc : OkC7 (op, at_, nn, pg, bt)) (hk0 : classI op ≠ 0) :
    Calls Tryz.prog 45 #[uval ab n cb aD k cD p r l cc am m cm s, cval (op, at_, nn, pg, bt)] w fun e w' => ∃ x y, e = .returned (.tuple #[.agg x.toArray, .agg y.toArray]) ∧ Later w w' ∧ PdI w n r cc am cm M (blI n F D p r l M s (op, at_, nn, pg, bt)) x y w' := by
  have HM := hide hm
  have HML := hide hml
  have HC := hide hc
  have HK0 := hide hk0
  have HK5 := hide (class_five op)
  clear hm hml hc hk0
  have HR0 : Hid (blI n F D p r l M s (op, at_, nn, pg, bt) = if classI op = 1 then ((F, D, p, l, M, s), inI (rdL n F D (checkS n D p r at_ nn false) at_ nn) (checkS n D p r at_ nn false))
    else if classI op = 2 then ((F, D, p, l, M, s), outI (op, at_, nn, pg, bt) (checkS n D p r at_ nn true))
    else if classI op = 3 then ((F, D, p, l, M, s), outI (op, at_, nn, pg, bt) (checkS n D p r at_ nn false))
    else if checkS n D p r at_ nn false = (0, 0, 0) ∧ rightB n D = true then ((flushF n F D at_ nn, flushD n D at_ nn, p, l, M, s), noneI (0, 0, 0))
    else ((F, D, p, l, M, s), noneI (checkS n D p r at_ nn false))) := rfl
  have BU := hide ((((Box.new w 32 (uc ab n cb aD k cD p r l cc am m cm s).toArray).alloc (.cells (cmc (op, at_, nn, pg, bt)).toArray 36)).alloc (.cells zU.toArray 32)).alloc (.cells zI.toArray 44))
  have BC : Hid (Box _ (w.heap.size + 1) 36 (cmc (op, at_, nn, pg, bt))) := ((Box.new' (w.alloc (.cells (uc ab n cb aD k cD p r l cc am m cm s).toArray 32)) 36 (cmc (op, at_, nn, pg, bt)).toArray _ rfl _ (by simp)).alloc (.cells zU.toArray 32)).alloc (.cells zI.toArray 44)
  have BV : Hid (Box _ (w.heap.size + 1 + 1) 32 zU) := (Box.new' ((w.alloc (.cells (uc ab n cb aD k cD p r l cc am m cm s).toArray 32)).alloc (.cells (cmc (op, at_, nn, pg, bt)).toArray 36)) 32 zU.toArray _ rfl _ (by simp)).alloc (.cells zI.toArray 44)
  have BI : Hid (Box _ (w.heap.size + 1 + 1 + 1) 44 zI) := Box.new' (((w.alloc (.cells (uc ab n cb aD k cD p r l cc am m cm s).toArray 32)).alloc (.cells (cmc (op, at_, nn, pg, bt)).toArray 36)).alloc (.cells zU.toArray 32)) 44 zI.toArray _ rfl _ (by simp)
  have LL := hide (((((Later.refl w).alloc (.cells (uc ab n cb aD k cD p r l cc am m cm s).toArray 32)).alloc (.cells (cmc (op, at_, nn, pg, bt)).toArray 36)).alloc (.cells zU.toArray 32)).alloc (.cells zI.toArray 44))
  replace HM := hide (HM.out.later LL.out)
  have y0 := BC.out.cell 0
  go_enter Tryz.func45, Tryz.ntmps45
  go_wp2_with fail
  generalize (((w.alloc (.cells (uc ab n cb aD k cD p r l cc am m cm s).toArray 32)).alloc (.cells (cmc (op, at_, nn, pg, bt)).toArray 36)).alloc (.cells zU.toArray 32)).alloc (.cells zI.toArray 44) = w1 at *
  obtain ⟨gu, hgu⟩ : ∃ gu, gu = w.heap.size := ⟨_, rfl⟩
  obtain ⟨gc, hgc⟩ : ∃ gc, gc = w.heap.size + 1 := ⟨_, rfl⟩
  obtain ⟨gv, hgv⟩ : ∃ gv, gv = w.heap.size + 1 + 1 := ⟨_, rfl⟩
  obtain ⟨gi, hgi⟩ : ∃ gi, gi = w.heap.size + 1 + 1 + 1 := ⟨_, rfl⟩
  rw [← hgi] at BI ⊢
  rw [← hgv] at BV ⊢
  rw [← hgc] at BC ⊢
  rw [← hgu] at BU ⊢
  have HG : Hid (w.heap.size ≤ gu ∧ w.heap.size ≤ gv ∧ w.heap.size ≤ gi ∧ gu ≠ gv ∧ gu ≠ gi ∧ gv ≠ gi ∧ gc ≠ gu) := by rw [Hid]; omega
  clear hgu hgc hgv hgi
  clear y0
  refine (rclass_c op w1).mono ?_
  rintro e wx ⟨rfl, hw1⟩
  have hw2 := hw1.symm
  subst hw2
  by_cases h1 : classI op = 1
  · have HR : Hid (blI n F D p r l M s (op, at_, nn, pg, bt) = ((F, D, p, l, M, s), inI (rdL n F D (checkS n D p r at_ nn false) at_ nn) (checkS n D p r at_ nn false))) := by rw [Hid, HR0.out, if_pos h1]
    rw [h1]
    clear h1 HR0 HK0 HK5
    have d0 := BU.out.cell 0
    have d1 := BU.out.cell 1
    have d2 := BU.out.cell 2
    have d3 := BU.out.cell 3
    have d4 := BU.out.cell 4
    have y1 := BC.out.cell 1
    have y2 := BC.out.cell 2
    go_wp2_with fail
    clear d0 d1 d2 d3 d4 y1 y2
    refine (rread5_c (F := F) (D := D) at_ nn w1 ⟨ab, cb, aD, k, cD, rfl, HM.out⟩ HC.out.2.1).mono ?_
    rintro e w2 ⟨v2, rfl, hl, hb⟩
    replace BU := hide (BU.out.later hl)
    replace BV := hide (BV.out.later hl)
    replace BI := hide (BI.out.later hl)
    replace HM := hide (HM.out.later hl)
    replace LL := hide (LL.out.trans hl)
    replace BC := hide (BC.out.later hl)
    have HB := hide hb
    clear hl hb
    generalize checkS n D p r at_ nn false = S at *
    generalize rdL n F D S at_ nn = L at *
    go_wp2_with (refine wpList_newAS rfl rfl rfl rfl 7 6 rfl rfl (by simp) (by decide) (.tmp 22) (.tmp 23) (by simp) (by simp) (by simp) rfl rfl rfl v2 S rfl rfl ?_)
    intro g7 w3 hB7 hl hg
    replace BU := hide (BU.out.later hl)
    replace BV := hide (BV.out.later hl)
    replace BI := hide (BI.out.later hl)
    replace HM := hide (HM.out.later hl)
    replace LL := hide (LL.out.trans hl)
    replace BC := hide (BC.out.later hl)
    replace HB := hide (HB.out.later hl)
    have B7 := hide hB7
    clear hB7 hl hg
    go_wp2_with fail
    refine wp_region_tree [0, 1, 2] [3] [4, 5] (by kernel_rfl) (by kernel_rfl) (by kernel_rfl) (by kernel_rfl) ?_
    refine wpT_loadG rfl (by kernel_rfl) 32 (.tmp 2) rfl gu 0 rfl (uc ab n cb aD k cD p r l cc am m cm s) _ ((World.rangeAt_drew _ _ _ _).2 BU.out.range) Tryz.underlying32 rfl Tryz.info_unit ?_
    iterate 1 (refine wpT_mild rfl (fun K hK => ?_); go_simp; refine hK _ ?_; clear hK K)
    refine wpT_loadG rfl (by kernel_rfl) 30 (.tmp 7) rfl g7 0 rfl (sc S) _ ((World.rangeAt_drew _ _ _ _).2 B7.out.range) Tryz.underlying30 rfl Tryz.info_sense ?_
    refine fin_one (bb := w) w gv gi ((Fr11.mk LL.out HG.out.2.1 HG.out.2.2.1 HG.out.2.2.2.2.2.1 BV.out rfl (uc_nob _ _ _ _ _ _ _ _ _ _ _ _ _ _) BI.out rfl (ic_nob _ _ _ _ _ _ _ _ _ _ _ _ _)).later (Later.refl _).drew) 4 24 5 ⟨_, rfl, rfl, rfl, rfl⟩ ⟨_, rfl, rfl, rfl, rfl⟩ (uc ab n cb aD k cD p r l cc am m cm s) rfl rfl rfl (by simp [put_size]) (by decide) 35 (Plain.of (by kernel_rfl)) [.tmp 25, .tmp 26] _ [v2, sval S] rfl ⟨_, rfl, rfl, rfl, rfl⟩ (by kernel_rfl)
      (fun W hW => give11 HM.out At11.same HML.out ((Later.refl _).drew.trans hW) (rin11_c (L := L) S W (HB.out.later ((Later.refl _).drew.trans hW)))) ?_
    intro y W hLW hB4 hB5 hPW
    have HLW := hide hLW
    have HB4 := hide hB4
    have HB5 := hide hB5
    have HPW := hide hPW
    clear hLW hB4 hB5 hPW
    go_wp2
    exact bodyPost_ret (results_cell_cell' rfl _ _ _ gv 0 gi 0 rfl rfl _ _ (load_unit HB4.out rfl) (load_intent HB5.out HPW.out.one.2.1)) rfl ⟨_, y, rfl, HLW.out, by rw [HR.out]; exact HPW.out⟩
  by_cases h2 : classI op = 2
  · have HR : Hid (blI n F D p r l M s (op, at_, nn, pg, bt) = ((F, D, p, l, M, s), outI (op, at_, nn, pg, bt) (checkS n D p r at_ nn true))) := by rw [Hid, HR0.out]; rw [if_neg h1, if_pos h2]
    rw [h2]
    clear h1 h2 HR0 HK0 HK5
    obtain ⟨S, hS⟩ : ∃ S, S = checkS n D p r at_ nn true := ⟨_, rfl⟩
    rw [← hS] at HR
    have HSS := hide hS
    clear hS
    have hc := fun q => ((Later.refl w1).drew.trans (later_rg w1.drew q))
    have d0 := fun q => (BU.out.later (hc q)).cell 0
    have d1 := fun q => (BU.out.later (hc q)).cell 1
    have d2 := fun q => (BU.out.later (hc q)).cell 2
    have d3 := fun q => (BU.out.later (hc q)).cell 3
    have d4 := fun q => (BU.out.later (hc q)).cell 4
    have y1 := fun q => (BC.out.later (hc q)).cell 1
    have y2 := fun q => (BC.out.later (hc q)).cell 2
    have HF := hide ((Fr11.mk LL.out HG.out.2.1 HG.out.2.2.1 HG.out.2.2.2.2.2.1 BV.out rfl (uc_nob _ _ _ _ _ _ _ _ _ _ _ _ _ _) BI.out rfl (ic_nob _ _ _ _ _ _ _ _ _ _ _ _ _)).later (Later.refl _).drew)
    go_wp2_with fail
    refine wp_region_tree [0, 1, 2, 3, 4, 5, 6, 7] [8, 9] [10, 11] (by kernel_rfl) (by kernel_rfl) (by kernel_rfl) (by kernel_rfl) ?_
    refine wpT_loadG rfl (by kernel_rfl) 32 (.tmp 2) rfl gu 0 rfl (uc ab n cb aD k cD p r l cc am m cm s) _ ((World.rangeAt_drew _ _ _ _).2 BU.out.range) Tryz.underlying32 rfl Tryz.info_unit ?_
    refine wpT_loadG rfl (by kernel_rfl) 36 (.tmp 3) rfl gc 0 rfl (cmc (op, at_, nn, pg, bt)) _ ((World.rangeAt_drew _ _ _ _).2 BC.out.range) Tryz.underlying36 rfl Tryz.info_cmd ?_
    iterate 6 (refine wpT_mild rfl (fun K hK => ?_); go_simp; refine hK _ ?_; clear hK K)
    clear d0 d1 d2 d3 d4 y1 y2 hc
    refine fin_two (bb := w) w gv gi HF.out 4 30 5 ⟨_, rfl, rfl, rfl, rfl⟩ ⟨_, rfl, rfl, rfl, rfl⟩ (uc ab n cb aD k cD p r l cc am m cm s) rfl rfl rfl 38 (by simp [put_size]) (by simp [put_size]) (by decide) 89 (Plain.of (by kernel_rfl)) [.tmp 33, .tmp 35, .tmp 37, .const (.bool true)] _ [.agg #[.slice ab n cb, .slice aD k cD, .bool p, .bool r, .bool l], .int .u64 (at_ : Int), .int .i64 nn, .bool true] rfl ⟨_, rfl, rfl, rfl, rfl⟩ 38 (Plain.of (by kernel_rfl)) [.tmp 31, .tmp 38] _ (fun v => [cval (op, at_, nn, pg, bt), v]) (fun v => by
        simp only [List.map]
        rw [eval_put_ne (by decide), eval_same (by simp [put_size])]
        rfl) ⟨_, rfl, rfl, rfl, rfl⟩ (by decide) (by kernel_rfl) (fun v _ => v = sval S) (fun _ _ _ _ h => h)
      (fun W hW => (rcheck_c (F := F) (D := D) at_ nn true W ⟨ab, cb, aD, k, cD, rfl, HM.out.later ((Later.refl _).drew.trans hW)⟩ HC.out.2.1).mono (by
        rintro e w' ⟨rfl, hl⟩
        exact ⟨_, rfl, hl, by rw [HSS.out]⟩))
      (fun v W hW hv => by subst hv; exact give11 HM.out At11.same HML.out ((Later.refl _).drew.trans hW) (rout11 (op, at_, nn, pg, bt) S W HC.out)) ?_
    intro v0
    intro y W hLW hB4 hB5 hPW
    have HLW := hide hLW
    have HB4 := hide hB4
    have HB5 := hide hB5
    have HPW := hide hPW
    clear hLW hB4 hB5 hPW
    go_wp2
    exact bodyPost_ret (results_cell_cell' rfl _ _ _ gv 0 gi 0 rfl rfl _ _ (load_unit HB4.out rfl) (load_intent HB5.out HPW.out.one.2.1)) rfl ⟨_, y, rfl, HLW.out, by rw [HR.out]; exact HPW.out⟩
  by_cases h3 : classI op = 3
  · have HR : Hid (blI n F D p r l M s (op, at_, nn, pg, bt) = ((F, D, p, l, M, s), outI (op, at_, nn, pg, bt) (checkS n D p r at_ nn false))) := by rw [Hid, HR0.out]; rw [if_neg h1, if_neg h2, if_pos h3]
    rw [h3]
    clear h1 h2 h3 HR0 HK0 HK5
    obtain ⟨S, hS⟩ : ∃ S, S = checkS n D p r at_ nn false := ⟨_, rfl⟩
    rw [← hS] at HR
    have HSS := hide hS
    clear hS
    have hc := fun q => ((Later.refl w1).drew.trans (later_rg w1.drew q))
    have d0 := fun q => (BU.out.later (hc q)).cell 0
    have d1 := fun q => (BU.out.later (hc q)).cell 1
    have d2 := fun q => (BU.out.later (hc q)).cell 2
    have d3 := fun q => (BU.out.later (hc q)).cell 3
    have d4 := fun q => (BU.out.later (hc q)).cell 4
    have y1 := fun q => (BC.out.later (hc q)).cell 1
    have y2 := fun q => (BC.out.later (hc q)).cell 2
    have HF := hide ((Fr11.mk LL.out HG.out.2.1 HG.out.2.2.1 HG.out.2.2.2.2.2.1 BV.out rfl (uc_nob _ _ _ _ _ _ _ _ _ _ _ _ _ _) BI.out rfl (ic_nob _ _ _ _ _ _ _ _ _ _ _ _ _)).later (Later.refl _).drew)
    go_wp2_with fail
    refine wp_region_tree [0, 1, 2, 3, 4, 5, 6, 7] [8, 9] [10, 11] (by kernel_rfl) (by kernel_rfl) (by kernel_rfl) (by kernel_rfl) ?_
    refine wpT_loadG rfl (by kernel_rfl) 32 (.tmp 2) rfl gu 0 rfl (uc ab n cb aD k cD p r l cc am m cm s) _ ((World.rangeAt_drew _ _ _ _).2 BU.out.range) Tryz.underlying32 rfl Tryz.info_unit ?_
    refine wpT_loadG rfl (by kernel_rfl) 36 (.tmp 3) rfl gc 0 rfl (cmc (op, at_, nn, pg, bt)) _ ((World.rangeAt_drew _ _ _ _).2 BC.out.range) Tryz.underlying36 rfl Tryz.info_cmd ?_
    iterate 6 (refine wpT_mild rfl (fun K hK => ?_); go_simp; refine hK _ ?_; clear hK K)
    clear d0 d1 d2 d3 d4 y1 y2 hc
    refine fin_two (bb := w) w gv gi HF.out 4 42 5 ⟨_, rfl, rfl, rfl, rfl⟩ ⟨_, rfl, rfl, rfl, rfl⟩ (uc ab n cb aD k cD p r l cc am m cm s) rfl rfl rfl 50 (by simp [put_size]) (by simp [put_size]) (by decide) 89 (Plain.of (by kernel_rfl)) [.tmp 45, .tmp 47, .tmp 49, .const (.bool false)] _ [.agg #[.slice ab n cb, .slice aD k cD, .bool p, .bool r, .bool l], .int .u64 (at_ : Int), .int .i64 nn, .bool false] rfl ⟨_, rfl, rfl, rfl, rfl⟩ 38 (Plain.of (by kernel_rfl)) [.tmp 43, .tmp 50] _ (fun v => [cval (op, at_, nn, pg, bt), v]) (fun v => by
        simp only [List.map]
        rw [eval_put_ne (by decide), eval_same (by simp [put_size])]
        rfl) ⟨_, rfl, rfl, rfl, rfl⟩ (by decide) (by kernel_rfl) (fun v _ => v = sval S) (fun _ _ _ _ h => h)
      (fun W hW => (rcheck_c (F := F) (D := D) at_ nn false W ⟨ab, cb, aD, k, cD, rfl, HM.out.later ((Later.refl _).drew.trans hW)⟩ HC.out.2.1).mono (by
        rintro e w' ⟨rfl, hl⟩
        exact ⟨_, rfl, hl, by rw [HSS.out]⟩))
      (fun v W hW hv => by subst hv; exact give11 HM.out At11.same HML.out ((Later.refl _).drew.trans hW) (rout11 (op, at_, nn, pg, bt) S W HC.out)) ?_
    intro v0
    intro y W hLW hB4 hB5 hPW
    have HLW := hide hLW
    have HB4 := hide hB4
    have HB5 := hide hB5
    have HPW := hide hPW
    clear hLW hB4 hB5 hPW
    go_wp2
    exact bodyPost_ret (results_cell_cell' rfl _ _ _ gv 0 gi 0 rfl rfl _ _ (load_unit HB4.out rfl) (load_intent HB5.out HPW.out.one.2.1)) rfl ⟨_, y, rfl, HLW.out, by rw [HR.out]; exact HPW.out⟩
  have h4 : classI op = 4 := by have := HK5.out; have := HK0.out; omega
  have HR1 : Hid (blI n F D p r l M s (op, at_, nn, pg, bt) = if checkS n D p r at_ nn false = (0, 0, 0) ∧ rightB n D = true then ((flushF n F D at_ nn, flushD n D at_ nn, p, l, M, s), noneI (0, 0, 0)) else ((F, D, p, l, M, s), noneI (checkS n D p r at_ nn false))) := by rw [Hid, HR0.out, if_neg h1, if_neg h2, if_neg h3]
  rw [h4]
  have HA : Hid (checkS n D p r at_ nn false = (0, 0, 0) → rightB n D = true → flushE n D at_ nn = 0 ∧ at_ ≤ 1000) := fun h hr => by
    have h1 := (checkS_zero h).2.2
    simp only [withinB, decide_eq_true_eq, allN, hr, if_true] at h1
    have h2 := allN_small n D
    simp only [allN, hr, if_true] at h2
    have hE : flushE n D at_ nn = 0 := by
      rw [flushE, if_pos hr, if_pos]
      simp only [flushOk, decide_eq_true_eq]
      omega
    exact ⟨hE, by omega⟩
  clear h1 h2 h3 h4 HR0 HK0 HK5
  have d0 := BU.out.cell 0
  have d1 := BU.out.cell 1
  have d2 := BU.out.cell 2
  have d3 := BU.out.cell 3
  have d4 := BU.out.cell 4
  have y1 := BC.out.cell 1
  have y2 := BC.out.cell 2
  go_wp2_with fail
  clear d0 d1 d2 d3 d4 y1 y2
  refine (rcheck_c (F := F) (D := D) at_ nn false w1 ⟨ab, cb, aD, k, cD, rfl, HM.out⟩ HC.out.2.1).mono ?_
  rintro e w2 ⟨rfl, hl⟩
  replace BU := hide (BU.out.later hl)
  replace BV := hide (BV.out.later hl)
  replace BI := hide (BI.out.later hl)
  replace HM := hide (HM.out.later hl)
  replace LL := hide (LL.out.trans hl)
  replace BC := hide (BC.out.later hl)
  clear hl
  generalize checkS n D p r at_ nn false = S at *
  go_wp2_with (refine wpList_newS rfl rfl rfl 8 rfl (by simp) (.tmp 58) (by simp) rfl S rfl ?_)
  intro g7 w3 hB7 hl hg
  replace BU := hide (BU.out.later hl)
  replace BV := hide (BV.out.later hl)
  replace BI := hide (BI.out.later hl)
  replace HM := hide (HM.out.later hl)
  replace LL := hide (LL.out.trans hl)
  replace BC := hide (BC.out.later hl)
  have B7 := hide hB7
  have HG7 : Hid (g7 ≠ gu) := box_ne B7.out BU.out (by decide)
  clear hB7 hl hg
  have t0 := B7.out.cell 0
  have t1 := B7.out.cell 1
  have t2 := B7.out.cell 2
  by_cases hz : S = (0, 0, 0)
  · subst hz
    have d0 := BU.out.cell 0
    have d1 := BU.out.cell 1
    go_wp2_with (refine wpList_eqS9 (by kernel_rfl) (.tmp 59) (.tmp 60) rfl (0, 0, 0) (0, 0, 0) rfl rfl true rfl ?_)
    clear d0 d1 t0 t1 t2
    refine (rright_c _ HM.out).mono ?_
    rintro e w4 ⟨rfl, hl⟩
    replace BU := hide (BU.out.later hl)
    replace BV := hide (BV.out.later hl)
    replace BI := hide (BI.out.later hl)
    replace HM := hide (HM.out.later hl)
    replace LL := hide (LL.out.trans hl)
    replace BC := hide (BC.out.later hl)
    replace B7 := hide (B7.out.later hl)
    clear hl
    cases hR : rightB n D with
    | true =>
      have HR : Hid (blI n F D p r l M s (op, at_, nn, pg, bt) = ((flushF n F D at_ nn, flushD n D at_ nn, p, l, M, s), noneI (0, 0, 0))) := by rw [Hid, HR1.out, if_pos ⟨by simp, hR⟩]
      obtain ⟨hE, hat⟩ := HA.out (by simp) hR
      have HE := hide hE
      have hN : flushN n D at_ nn = n := by rw [flushN, if_pos hE]
      have HNn := hide hN
      clear HR1 HA hR hE hN
      have hwr : IntKind.i64.wrap (at_ : Int) = (at_ : Int) := by rw [IntKind.wrap_i64] <;> omega
      have HAt := hide hat
      clear hat
      have d0 := BU.out.cell 0
      have d1 := BU.out.cell 1
      have y1 := BC.out.cell 1
      have y2 := BC.out.cell 2
      go_wp2_with fail
      clear d0 d1 y1 y2
      refine (rflush_c (F := F) (D := D) (at_ : Int) nn w4 HM.out (by have := HAt.out; omega) (by have := HAt.out; omega) HC.out.2.2.1.1 HC.out.2.2.1.2).mono ?_
      rintro e w5 ⟨v5, rfl, hl, hm5⟩
      rw [HE.out]
      rw [HNn.out] at hm5
      obtain ⟨b3, f3, b6, j6, f6, rfl, _, _, _⟩ := hm5.shape
      replace BU := hide (BU.out.later hl)
      replace BV := hide (BV.out.later hl)
      replace BI := hide (BI.out.later hl)
      replace HM := hide (HM.out.later hl)
      replace LL := hide (LL.out.trans hl)
      replace BC := hide (BC.out.later hl)
      replace B7 := hide (B7.out.later hl)
      replace HM := hide hm5
      clear hl hm5 hwr
      generalize flushF n F D at_ nn = F2 at *
      generalize flushD n D at_ nn = D2 at *
      go_wp2_with (refine wpList_storeU rfl 25 (.tmp 81) (.tmp 78) rfl gu 0 rfl [.slice b3 n f3, .slice b6 j6 f6] rfl (zero_of_info Tryz.zero_medium).2 (by simp [Value.oneCell']) _ _ BU.out (by simp) ?_)
      intro w6 h6
      replace B7 : Hid (Box w6 g7 30 (sc (0, 0, 0))) := by rw [h6.out]; exact B7.out.apart gu HG7.out _ _
      have BUn : Hid (Box _ gu 32 (uc b3 n f3 b6 j6 f6 p r l cc am m cm s)) := hide (by have h := BU.out.setCells ([.slice b3 n f3, .slice b6 j6 f6]) 0 (by simp); rw [← h6.out] at h; exact h)
      replace BV : Hid (Box _ gv 32 zU) := hide (by have h := BV.out.apart gu (by have := HG.out; omega) ([.slice b3 n f3, .slice b6 j6 f6]) 0; rw [← h6.out] at h; exact h)
      replace BI : Hid (Box _ gi 44 zI) := hide (by have h := BI.out.apart gu (by have := HG.out; omega) ([.slice b3 n f3, .slice b6 j6 f6]) 0; rw [← h6.out] at h; exact h)
      replace LL : Hid (Later w _) := hide (by have h := LL.out.setCells HG.out.1 ([.slice b3 n f3, .slice b6 j6 f6]) 0; rw [← h6.out] at h; exact h)
      replace HM : Hid (Med _ _ n _ _) := hide (by have h := HM.out.setNoB BU.out (uc_nob _ _ _ _ _ _ _ _ _ _ _ _ _ _) ([.slice b3 n f3, .slice b6 j6 f6]) 0; rw [← h6.out] at h; exact h)
      replace BU := BUn
      clear BUn h6
      go_wp2_with fail
      refine wp_region_tree [0, 1] [2] [3, 4] (by kernel_rfl) (by kernel_rfl) (by kernel_rfl) (by kernel_rfl) ?_
      refine wpT_loadG rfl (by kernel_rfl) 32 (.tmp 2) rfl gu 0 rfl (uc b3 n f3 b6 j6 f6 p r l cc am m cm s) _ ((World.rangeAt_drew _ _ _ _).2 BU.out.range) Tryz.underlying32 rfl Tryz.info_unit ?_
      refine wpT_loadG rfl (by kernel_rfl) 30 (.tmp 8) rfl g7 0 rfl (sc (0, 0, 0)) _ ((World.rangeAt_drew _ _ _ _).2 B7.out.range) Tryz.underlying30 rfl Tryz.info_sense ?_
      refine fin_one (bb := w) w gv gi ((Fr11.mk LL.out HG.out.2.1 HG.out.2.2.1 HG.out.2.2.2.2.2.1 BV.out rfl (uc_nob _ _ _ _ _ _ _ _ _ _ _ _ _ _) BI.out rfl (ic_nob _ _ _ _ _ _ _ _ _ _ _ _ _)).later (Later.refl _).drew) 4 82 5 ⟨_, rfl, rfl, rfl, rfl⟩ ⟨_, rfl, rfl, rfl, rfl⟩ (uc b3 n f3 b6 j6 f6 p r l cc am m cm s) rfl rfl rfl (by simp [put_size]) (by decide) 32 (Plain.of (by kernel_rfl)) [.tmp 83] _ [sval (0, 0, 0)] rfl ⟨_, rfl, rfl, rfl, rfl⟩ (by kernel_rfl)
        (fun W hW => give11 HM.out At11.same HML.out ((Later.refl _).drew.trans hW) rnone11) ?_
      intro y W hLW hB4 hB5 hPW
      have HLW := hide hLW
      have HB4 := hide hB4
      have HB5 := hide hB5
      have HPW := hide hPW
      clear hLW hB4 hB5 hPW
      go_wp2
      exact bodyPost_ret (results_cell_cell' rfl _ _ _ gv 0 gi 0 rfl rfl _ _ (load_unit HB4.out rfl) (load_intent HB5.out HPW.out.one.2.1)) rfl ⟨_, y, rfl, HLW.out, by rw [HR.out]; exact HPW.out⟩
    | false =>
      have HR : Hid (blI n F D p r l M s (op, at_, nn, pg, bt) = ((F, D, p, l, M, s), noneI (0, 0, 0))) := by rw [Hid, HR1.out, if_neg (fun h => by rw [hR] at h; cases h.2)]
      clear HR1 HA hR
      go_wp2_with fail
      refine wp_region_tree [0, 1] [2] [3, 4] (by kernel_rfl) (by kernel_rfl) (by kernel_rfl) (by kernel_rfl) ?_
      refine wpT_loadG rfl (by kernel_rfl) 32 (.tmp 2) rfl gu 0 rfl (uc ab n cb aD k cD p r l cc am m cm s) _ ((World.rangeAt_drew _ _ _ _).2 BU.out.range) Tryz.underlying32 rfl Tryz.info_unit ?_
      refine wpT_loadG rfl (by kernel_rfl) 30 (.tmp 8) rfl g7 0 rfl (sc (0, 0, 0)) _ ((World.rangeAt_drew _ _ _ _).2 B7.out.range) Tryz.underlying30 rfl Tryz.info_sense ?_
      refine fin_one (bb := w) w gv gi ((Fr11.mk LL.out HG.out.2.1 HG.out.2.2.1 HG.out.2.2.2.2.2.1 BV.out rfl (uc_nob _ _ _ _ _ _ _ _ _ _ _ _ _ _) BI.out rfl (ic_nob _ _ _ _ _ _ _ _ _ _ _ _ _)).later (Later.refl _).drew) 4 82 5 ⟨_, rfl, rfl, rfl, rfl⟩ ⟨_, rfl, rfl, rfl, rfl⟩ (uc ab n cb aD k cD p r l cc am m cm s) rfl rfl rfl (by simp [put_size]) (by decide) 32 (Plain.of (by kernel_rfl)) [.tmp 83] _ [sval (0, 0, 0)] rfl ⟨_, rfl, rfl, rfl, rfl⟩ (by kernel_rfl)
        (fun W hW => give11 HM.out At11.same HML.out ((Later.refl _).drew.trans hW) rnone11) ?_
      intro y W hLW hB4 hB5 hPW
      have HLW := hide hLW
      have HB4 := hide hB4
      have HB5 := hide hB5
      have HPW := hide hPW
      clear hLW hB4 hB5 hPW
      go_wp2
      exact bodyPost_ret (results_cell_cell' rfl _ _ _ gv 0 gi 0 rfl rfl _ _ (load_unit HB4.out rfl) (load_intent HB5.out HPW.out.one.2.1)) rfl ⟨_, y, rfl, HLW.out, by rw [HR.out]; exact HPW.out⟩
  · have es : (S == (0, 0, 0)) = false := by simpa using hz
    have HR : Hid (blI n F D p r l M s (op, at_, nn, pg, bt) = ((F, D, p, l, M, s), noneI S)) := by rw [Hid, HR1.out, if_neg (fun h => hz h.1)]
    clear HR1 HA hz
    go_wp2_with (refine wpList_eqS9 (by kernel_rfl) (.tmp 59) (.tmp 60) rfl S (0, 0, 0) rfl rfl false es ?_)
    clear t0 t1 t2
    go_wp2_with fail
    refine wp_region_tree [0, 1] [2] [3, 4] (by kernel_rfl) (by kernel_rfl) (by kernel_rfl) (by kernel_rfl) ?_
    refine wpT_loadG rfl (by kernel_rfl) 32 (.tmp 2) rfl gu 0 rfl (uc ab n cb aD k cD p r l cc am m cm s) _ ((World.rangeAt_drew _ _ _ _).2 BU.out.range) Tryz.underlying32 rfl Tryz.info_unit ?_
    refine wpT_loadG rfl (by kernel_rfl) 30 (.tmp 8) rfl g7 0 rfl (sc S) _ ((World.rangeAt_drew _ _ _ _).2 B7.out.range) Tryz.underlying30 rfl Tryz.info_sense ?_
    refine fin_one (bb := w) w gv gi ((Fr11.mk LL.out HG.out.2.1 HG.out.2.2.1 HG.out.2.2.2.2.2.1 BV.out rfl (uc_nob _ _ _ _ _ _ _ _ _ _ _ _ _ _) BI.out rfl (ic_nob _ _ _ _ _ _ _ _ _ _ _ _ _)).later (Later.refl _).drew) 4 82 5 ⟨_, rfl, rfl, rfl, rfl⟩ ⟨_, rfl, rfl, rfl, rfl⟩ (uc ab n cb aD k cD p r l cc am m cm s) rfl rfl rfl (by simp [put_size]) (by decide) 32 (Plain.of (by kernel_rfl)) [.tmp 83] _ [sval S] rfl ⟨_, rfl, rfl, rfl, rfl⟩ (by kernel_rfl)
      (fun W hW => give11 HM.out At11.same HML.out ((Later.refl _).drew.trans hW) rnone11) ?_
    intro y W hLW hB4 hB5 hPW
    have HLW := hide hLW
    have HB4 := hide hB4
    have HB5 := hide hB5
    have HPW := hide hPW
    clear hLW hB4 hB5 hPW
    go_wp2
    exact bodyPost_ret (results_cell_cell' rfl _ _ _ gv 0 gi 0 rfl rfl _ _ (load_unit HB4.out rfl) (load_intent HB5.out HPW.out.one.2.1)) rfl ⟨_, y, rfl, HLW.out, by rw [HR.out]; exact HPW.out⟩
end Go.Proofs.YtfakboehmcimpaaGreat
