import Derived.Test.YtfakboehmcimpaaGreatMBB
namespace Go.Proofs.YtfakboehmcimpaaGreat
open Go.ChangeShapes Go.WideShapes Go.ChangeAt Go.RowKit
set_option linter.unusedVariables false
set_option maxRecDepth 4000
set_option linter.unusedSimpArgs false
/-! The landed intent: ofBlocks. -/
theorem okS_check (n : Nat) (D : List Drt) (p r : Bool) (a : Nat) (m : Int) (wr : Bool) : OkS (checkS n D p r a m wr) := by
  unfold checkS
  split
  · exact okS_of _ (by decide)
  · split
    · exact okS_of _ (by decide)
    · split <;> exact okS_of _ (by decide)
theorem class_five (op : Int) : classI op = 0 ∨ classI op = 1 ∨ classI op = 2 ∨ classI op = 3 ∨ classI op = 4 := by
  unfold classI
  repeat' split
  all_goals simp
set_option maxRecDepth 20000 in
set_option maxHeartbeats 8000000 in
theorem blocks11_c {ab : Option Addr} {n cb : Nat} {aD : Option Addr} {k cD : Nat} {F : List UInt8} {D : List Drt} {p r l cc : Bool} {am : Option Addr} {m cm : Nat} {s : Sns} {M : List Sns} (op : Int) (at_ : Nat) (nn pg bt : Int) (w : World) (hm : Med w (.agg #[.slice ab n cb, .slice aD k cD]) n F D) (hml : m = M.length) (hc : OkC7 (op, at_, nn, pg, bt)) (hn : n ≤ 100) (hD : D.length ≤ 100) (hk0 : classI op ≠ 0) :
    Calls Tryz.prog 17 #[uval ab n cb aD k cD p r l cc am m cm s, cval (op, at_, nn, pg, bt)] w fun e w' => ∃ x y, e = .returned (.tuple #[.agg x.toArray, .agg y.toArray]) ∧ Later w w' ∧ PdI w n r cc am cm M (blI n F D p r l M s (op, at_, nn, pg, bt)) x y w' := by
  have HM := hide hm
  have HML := hide hml
  have HC := hide hc
  have HN := hide (And.intro hn hD)
  have HK0 := hide hk0
  have HK5 := hide (class_five op)
  clear hm hml hc hn hD hk0
  have HR0 : Hid (blI n F D p r l M s (op, at_, nn, pg, bt) = if classI op = 1 then ((F, D, p, l, M, s), inI (rdL n F D (checkS n D p r at_ nn false) at_ nn) (checkS n D p r at_ nn false))
    else if classI op = 2 then ((F, D, p, l, M, s), outI (op, at_, nn, pg, bt) (checkS n D p r at_ nn true))
    else if classI op = 3 then ((F, D, p, l, M, s), outI (op, at_, nn, pg, bt) (checkS n D p r at_ nn false))
    else if checkS n D p r at_ nn false = (0, 0, 0) ∧ rightB n D = true then ((flushF n F D at_ nn, flushD n D at_ nn, p, l, M, s), noneI (0, 0, 0))
    else ((F, D, p, l, M, s), noneI (checkS n D p r at_ nn false))) := rfl
  have BU := hide ((((Box.new w 32 (uc ab n cb aD k cD p r l cc am m cm s).toArray).alloc (.cells (cmc (op, at_, nn, pg, bt)).toArray 36)).alloc (.cells zU.toArray 32)).alloc (.cells zI.toArray 44))
  have BC : Hid (Box _ (w.heap.size + 1) 36 (cmc (op, at_, nn, pg, bt))) := ((Box.new' (w.alloc (.cells (uc ab n cb aD k cD p r l cc am m cm s).toArray 32)) 36 (cmc (op, at_, nn, pg, bt)).toArray _ rfl _ (by simp)).alloc (.cells zU.toArray 32)).alloc (.cells zI.toArray 44)
  have BV : Hid (Box _ (w.heap.size + 1 + 1) 32 zU) := (Box.new' ((w.alloc (.cells (uc ab n cb aD k cD p r l cc am m cm s).toArray 32)).alloc (.cells (cmc (op, at_, nn, pg, bt)).toArray 36)) 32 zU.toArray _ rfl _ (by simp)).alloc (.cells zI.toArray 44)
  have BI : Hid (Box _ (w.heap.size + 1 + 1 + 1) 44 zI) := Box.new' (((w.alloc (.cells (uc ab n cb aD k cD p r l cc am m cm s).toArray 32)).alloc (.cells (cmc (op, at_, nn, pg, bt)).toArray 36)).alloc (.cells zU.toArray 32)) 44 zI.toArray _ rfl _ (by simp)
  have LL := hide (((((Later.refl w).alloc (.cells (uc ab n cb aD k cD p r l cc am m cm s).toArray 32)).alloc (.cells (cmc (op, at_, nn, pg, bt)).toArray 36)).alloc (.cells zU.toArray 32)).alloc (.cells zI.toArray 44))
  replace HM := hide (HM.out.later LL.out)
  have y0 := BC.out.cell 0
  go_enter Tryz.func17, Tryz.ntmps17
  go_wp2_with fail
  generalize (((w.alloc (.cells (uc ab n cb aD k cD p r l cc am m cm s).toArray 32)).alloc (.cells (cmc (op, at_, nn, pg, bt)).toArray 36)).alloc (.cells zU.toArray 32)).alloc (.cells zI.toArray 44) = w1 at *
  obtain ⟨gu, hgu⟩ : ∃ gu, gu = w.heap.size := ⟨_, rfl⟩
  obtain ⟨gc, hgc⟩ : ∃ gc, gc = w.heap.size + 1 := ⟨_, rfl⟩
  obtain ⟨gv, hgv⟩ : ∃ gv, gv = w.heap.size + 1 + 1 := ⟨_, rfl⟩
  obtain ⟨gi, hgi⟩ : ∃ gi, gi = w.heap.size + 1 + 1 + 1 := ⟨_, rfl⟩
  rw [← hgi] at BI ⊢
  rw [← hgv] at BV ⊢
  rw [← hgc] at BC ⊢
  rw [← hgu] at BU ⊢
  have HG : Hid (w.heap.size ≤ gu ∧ w.heap.size ≤ gv ∧ w.heap.size ≤ gi ∧ gu ≠ gv ∧ gu ≠ gi ∧ gv ≠ gi ∧ gc ≠ gu) := by rw [Hid]; omega
  clear hgu hgc hgv hgi y0
  refine (class_c op w1).mono ?_
  rintro e wx ⟨rfl, hw1⟩
  have hw2 := hw1.symm
  subst hw2
  by_cases h1 : classI op = 1
  · have HR : Hid (blI n F D p r l M s (op, at_, nn, pg, bt) = ((F, D, p, l, M, s), inI (rdL n F D (checkS n D p r at_ nn false) at_ nn) (checkS n D p r at_ nn false))) := by rw [Hid, HR0.out, if_pos h1]
    rw [h1]
    have HLn := hide (len_rd n F D p r at_ nn)
    clear h1 HR0 HK0 HK5
    have d0 := BU.out.cell 0
    have d1 := BU.out.cell 1
    have d2 := BU.out.cell 2
    have d3 := BU.out.cell 3
    have d4 := BU.out.cell 4
    have y1 := BC.out.cell 1
    have y2 := BC.out.cell 2
    go_wp2_with fail
    clear d0 d1 d2 d3 d4 y1 y2
    refine (scheck_c _ n F D p r l at_ nn false w1 ⟨ab, cb, aD, k, cD, rfl, HM.out⟩ HC.out.2.1 HC.out.2.2.1.1 HC.out.2.2.1.2 HN.out.1 HN.out.2).mono ?_
    rintro e w2 ⟨rfl, hl⟩
    replace BU := hide (BU.out.later hl)
    replace BV := hide (BV.out.later hl)
    replace BI := hide (BI.out.later hl)
    replace HM := hide (HM.out.later hl)
    replace LL := hide (LL.out.trans hl)
    replace BC := hide (BC.out.later hl)
    clear hl
    obtain ⟨S, hS⟩ : ∃ S, S = checkS n D p r at_ nn false := ⟨_, rfl⟩
    rw [← hS] at HR ⊢
    have HOr : Hid (OkS S) := by rw [Hid, hS]; exact okS_check _ _ _ _ _ _ _
    have HSS := hide hS
    clear hS
    go_wp2_with (refine wpList_newS rfl rfl rfl 7 rfl (by simp) (.tmp 19) (by simp) rfl S rfl ?_)
    intro g7 w3 hB7 hl hg
    replace BU := hide (BU.out.later hl)
    replace BV := hide (BV.out.later hl)
    replace BI := hide (BI.out.later hl)
    replace HM := hide (HM.out.later hl)
    replace LL := hide (LL.out.trans hl)
    replace BC := hide (BC.out.later hl)
    have B7 := hide hB7
    have HG7 : Hid (g7 ≠ gu) := box_ne B7.out BU.out (by decide)
    clear hB7 hl hg
    rw [← HSS.out] at HLn
    obtain ⟨L, hL⟩ : ∃ L, L = rdL n F D S at_ nn := ⟨_, rfl⟩
    rw [← hL] at HLn HR
    have HL := hide hL
    clear hL
    have hc := fun q => ((Later.refl w3).drew.trans (later_rg w3.drew q))
    have d0 := fun q => (BU.out.later (hc q)).cell 0
    have d1 := fun q => (BU.out.later (hc q)).cell 1
    have d2 := fun q => (BU.out.later (hc q)).cell 2
    have d3 := fun q => (BU.out.later (hc q)).cell 3
    have d4 := fun q => (BU.out.later (hc q)).cell 4
    have y1 := fun q => (BC.out.later (hc q)).cell 1
    have y2 := fun q => (BC.out.later (hc q)).cell 2
    have HF := hide ((Fr11.mk LL.out HG.out.2.1 HG.out.2.2.1 HG.out.2.2.2.2.2.1 BV.out rfl (uc_nob _ _ _ _ _ _ _ _ _ _ _ _ _ _) BI.out rfl (ic_nob _ _ _ _ _ _ _ _ _ _ _ _ _)).later (Later.refl _).drew)
    go_wp2_with fail
    refine wp_region_tree [0, 1, 2, 3, 4, 5, 6] [7, 8, 9, 10] [11, 12] (by kernel_rfl) (by kernel_rfl) (by kernel_rfl) (by kernel_rfl) ?_
    refine wpT_loadG rfl (by kernel_rfl) 32 (.tmp 2) rfl gu 0 rfl (uc ab n cb aD k cD p r l cc am m cm s) _ ((World.rangeAt_drew _ _ _ _).2 BU.out.range) Tryz.underlying32 rfl Tryz.info_unit ?_
    iterate 6 (refine wpT_mild rfl (fun K hK => ?_); go_simp; refine hK _ ?_; clear hK K)
    clear d0 d1 d2 d3 d4 y1 y2 hc
    refine fin_ext (bb := w) w gv gi HF.out 4 27 5 ⟨_, rfl, rfl, rfl, rfl⟩ ⟨_, rfl, rfl, rfl, rfl⟩ (uc ab n cb aD k cD p r l cc am m cm s) rfl rfl rfl 34 35 36 (by simp [put_size]) (by simp [put_size]) (by simp [put_size]) (by simp [put_size]) (by decide) 54 (Plain.of (by kernel_rfl)) [.tmp 29, .tmp 31, .tmp 33] _ [.agg #[.slice ab n cb, .slice aD k cD, .bool p, .bool r, .bool l], .int .u64 (at_ : Int), .int .i64 nn] rfl ⟨_, rfl, rfl, rfl, rfl⟩ ⟨_, rfl, rfl, rfl, rfl⟩ ⟨_, rfl, rfl, rfl, rfl⟩ 21 (Plain.of (by kernel_rfl)) _ ⟨_, rfl, rfl, rfl, rfl⟩ (by decide) (by kernel_rfl) (sval S) (fun v W => Bs W v L) (fun _ _ _ hl h => h.later hl)
      (fun W hW => (sread_c _ n F D p r l at_ nn W ⟨ab, cb, aD, k, cD, rfl, HM.out.later ((Later.refl _).drew.trans hW)⟩ HC.out.2.1 HC.out.2.2.1.1 HC.out.2.2.1.2 HN.out.1 HN.out.2).mono (by
        rintro e w' ⟨v', rfl, hl, hb⟩
        rw [← HSS.out] at hb ⊢
        rw [← HL.out] at hb
        exact ⟨v', rfl, hl, hb⟩))
      (fun v W hW hv => give11 HM.out At11.same HML.out ((Later.refl _).drew.trans hW) (iin11 v L S W hv HOr.out HLn.out)) ?_
    intro v0
    intro y W hLW hB4 hB5 hPW
    have HLW := hide hLW
    have HB4 := hide hB4
    have HB5 := hide hB5
    have HPW := hide hPW
    clear hLW hB4 hB5 hPW
    go_wp2
    exact bodyPost_ret (results_cell_cell' rfl _ _ _ gv 0 gi 0 rfl rfl _ _ (load_unit HB4.out rfl) (load_intent HB5.out HPW.out.one.2.1)) rfl ⟨_, y, rfl, HLW.out, by rw [HR.out]; exact HPW.out⟩
  · by_cases h4 : classI op = 4
    · have HR1 : Hid (blI n F D p r l M s (op, at_, nn, pg, bt) = if checkS n D p r at_ nn false = (0, 0, 0) ∧ rightB n D = true then ((flushF n F D at_ nn, flushD n D at_ nn, p, l, M, s), noneI (0, 0, 0)) else ((F, D, p, l, M, s), noneI (checkS n D p r at_ nn false))) := by
        rw [Hid, HR0.out, if_neg h1, if_neg (by omega), if_neg (by omega)]
      have HR : Hid (blI n F D p r l M s (op, at_, nn, pg, bt) = if checkS n D p r at_ nn false = (0, 0, 0) then ((fsF n F D at_ nn, fsD n D at_ nn, p, l, M, s), noneI (0, 0, 0)) else ((F, D, p, l, M, s), noneI (checkS n D p r at_ nn false))) := by
        rw [Hid, HR1.out]
        by_cases q : checkS n D p r at_ nn false = (0, 0, 0)
        · by_cases q2 : rightB n D = true
          · rw [if_pos ⟨q, q2⟩, if_pos q, (fs_yes q q2).1, (fs_yes (F := F) q q2).2]
          · rw [if_neg (fun h => q2 h.2), if_pos q, (fs_no q2).1, (fs_no (F := F) q2).2, q]
        · rw [if_neg (fun h => q h.1), if_neg q]
      rw [h4]
      have HA : Hid (checkS n D p r at_ nn false = (0, 0, 0) → at_ ≤ 1000) := fun h => by
        have h1 := (checkS_zero h).2.2
        simp only [withinB, decide_eq_true_eq] at h1
        have h2 := allN_small n D
        omega
      clear h1 h4 HR0 HR1 HK0 HK5
      have d0 := BU.out.cell 0
      have d1 := BU.out.cell 1
      have d2 := BU.out.cell 2
      have d3 := BU.out.cell 3
      have d4 := BU.out.cell 4
      have y1 := BC.out.cell 1
      have y2 := BC.out.cell 2
      go_wp2_with fail
      clear d0 d1 d2 d3 d4 y1 y2
      refine (scheck_c _ n F D p r l at_ nn false w1 ⟨ab, cb, aD, k, cD, rfl, HM.out⟩ HC.out.2.1 HC.out.2.2.1.1 HC.out.2.2.1.2 HN.out.1 HN.out.2).mono ?_
      rintro e w2 ⟨rfl, hl⟩
      replace BU := hide (BU.out.later hl)
      replace BV := hide (BV.out.later hl)
      replace BI := hide (BI.out.later hl)
      replace HM := hide (HM.out.later hl)
      replace LL := hide (LL.out.trans hl)
      replace BC := hide (BC.out.later hl)
      clear hl
      obtain ⟨S, hS⟩ : ∃ S, S = checkS n D p r at_ nn false := ⟨_, rfl⟩
      rw [← hS] at HR ⊢
      have HOr : Hid (OkS S) := by rw [Hid, hS]; exact okS_check _ _ _ _ _ _ _
      have HSS := hide hS
      clear hS
      go_wp2_with (refine wpList_newS rfl rfl rfl 7 rfl (by simp) (.tmp 19) (by simp) rfl S rfl ?_)
      intro g7 w3 hB7 hl hg
      replace BU := hide (BU.out.later hl)
      replace BV := hide (BV.out.later hl)
      replace BI := hide (BI.out.later hl)
      replace HM := hide (HM.out.later hl)
      replace LL := hide (LL.out.trans hl)
      replace BC := hide (BC.out.later hl)
      have B7 := hide hB7
      have HG7 : Hid (g7 ≠ gu) := box_ne B7.out BU.out (by decide)
      clear hB7 hl hg
      rw [← HSS.out] at HA
      have t0 := B7.out.cell 0
      have t1 := B7.out.cell 1
      have t2 := B7.out.cell 2
      go_wp2_with fail
      clear t0 t1 t2
      refine (sgood_c S w3 HOr.out).mono ?_
      rintro e w4 ⟨rfl, hl⟩
      replace BU := hide (BU.out.later hl)
      replace BV := hide (BV.out.later hl)
      replace BI := hide (BI.out.later hl)
      replace HM := hide (HM.out.later hl)
      replace LL := hide (LL.out.trans hl)
      replace BC := hide (BC.out.later hl)
      replace B7 := hide (B7.out.later hl)
      clear hl
      by_cases hz : S = (0, 0, 0)
      · have ez : (S == (0, 0, 0)) = true := by simp [hz]
        rw [ez]
        replace HR := hide (HR.out.trans (if_pos hz))
        subst hz
        have hat := HA.out rfl
        clear ez HA
        have HAt := hide hat
        clear hat
        have d0 := BU.out.cell 0
        have d1 := BU.out.cell 1
        have y0 := BC.out.cell 0
        have y1 := BC.out.cell 1
        have y2 := BC.out.cell 2
        have y3 := BC.out.cell 3
        have y4 := BC.out.cell 4
        go_wp2_with fail
        clear d0 d1 y0 y1 y2 y3 y4
        refine (flushed11_c op at_ nn pg bt w4 HM.out HC.out.2.2.1 HAt.out).mono ?_
        rintro e w5 ⟨b3, f3, b6, j6, f6, rfl, hl, hm5⟩
        replace BU := hide (BU.out.later hl)
        replace BV := hide (BV.out.later hl)
        replace BI := hide (BI.out.later hl)
        replace HM := hide (HM.out.later hl)
        replace LL := hide (LL.out.trans hl)
        replace BC := hide (BC.out.later hl)
        replace B7 := hide (B7.out.later hl)
        replace HM := hide hm5
        clear hl hm5
        go_wp2_with (refine wpList_storeU rfl 25 (.tmp 48) (.tmp 46) rfl gu 0 rfl [.slice b3 n f3, .slice b6 j6 f6] rfl (zero_of_info Tryz.zero_medium).2 (by simp [Value.oneCell']) _ _ BU.out (by simp) ?_)
        intro w6 h6
        replace B7 : Hid (Box w6 g7 30 (sc (0, 0, 0))) := by rw [h6.out]; exact B7.out.apart gu HG7.out _ _
        have BUn : Hid (Box _ gu 32 (uc b3 n f3 b6 j6 f6 p r l cc am m cm s)) := hide (by have h := BU.out.setCells ([.slice b3 n f3, .slice b6 j6 f6]) 0 (by simp); rw [← h6.out] at h; exact h)
        replace BV : Hid (Box _ gv 32 zU) := hide (by have h := BV.out.apart gu (by have := HG.out; omega) ([.slice b3 n f3, .slice b6 j6 f6]) 0; rw [← h6.out] at h; exact h)
        replace BI : Hid (Box _ gi 44 zI) := hide (by have h := BI.out.apart gu (by have := HG.out; omega) ([.slice b3 n f3, .slice b6 j6 f6]) 0; rw [← h6.out] at h; exact h)
        replace LL : Hid (Later w _) := hide (by have h := LL.out.setCells HG.out.1 ([.slice b3 n f3, .slice b6 j6 f6]) 0; rw [← h6.out] at h; exact h)
        replace HM : Hid (Med _ _ n _ _) := hide (by have h := HM.out.setNoB BU.out (uc_nob _ _ _ _ _ _ _ _ _ _ _ _ _ _) ([.slice b3 n f3, .slice b6 j6 f6]) 0; rw [← h6.out] at h; exact h)
        replace BU := BUn
        clear BUn h6
        have HF := hide ((Fr11.mk LL.out HG.out.2.1 HG.out.2.2.1 HG.out.2.2.2.2.2.1 BV.out rfl (uc_nob _ _ _ _ _ _ _ _ _ _ _ _ _ _) BI.out rfl (ic_nob _ _ _ _ _ _ _ _ _ _ _ _ _)).later (Later.refl _).drew)
        go_wp2_with fail
        refine wp_region_tree [0, 1] [2] [3, 4] (by kernel_rfl) (by kernel_rfl) (by kernel_rfl) (by kernel_rfl) ?_
        refine wpT_loadG rfl (by kernel_rfl) 32 (.tmp 2) rfl gu 0 rfl (uc b3 n f3 b6 j6 f6 p r l cc am m cm s) _ ((World.rangeAt_drew _ _ _ _).2 BU.out.range) Tryz.underlying32 rfl Tryz.info_unit ?_
        refine wpT_loadG rfl (by kernel_rfl) 30 (.tmp 7) rfl g7 0 rfl (sc (0, 0, 0)) _ ((World.rangeAt_drew _ _ _ _).2 B7.out.range) Tryz.underlying30 rfl Tryz.info_sense ?_
        refine fin_one (bb := w) w gv gi HF.out 4 49 5 ⟨_, rfl, rfl, rfl, rfl⟩ ⟨_, rfl, rfl, rfl, rfl⟩ (uc b3 n f3 b6 j6 f6 p r l cc am m cm s) rfl rfl rfl (by simp [put_size]) (by decide) 18 (Plain.of (by kernel_rfl)) [.tmp 50] _ [sval (0, 0, 0)] rfl ⟨_, rfl, rfl, rfl, rfl⟩ (by kernel_rfl)
          (fun W hW => give11 HM.out At11.same HML.out ((Later.refl _).drew.trans hW) none11) ?_
        intro y W hLW hB4 hB5 hPW
        have HLW := hide hLW
        have HB4 := hide hB4
        have HB5 := hide hB5
        have HPW := hide hPW
        clear hLW hB4 hB5 hPW
        go_wp2
        exact bodyPost_ret (results_cell_cell' rfl _ _ _ gv 0 gi 0 rfl rfl _ _ (load_unit HB4.out rfl) (load_intent HB5.out HPW.out.one.2.1)) rfl ⟨_, y, rfl, HLW.out, by rw [HR.out]; exact HPW.out⟩
      · have ez : (S == (0, 0, 0)) = false := by simpa using hz
        rw [ez]
        replace HR := hide (HR.out.trans (if_neg hz))
        clear ez hz HA
        have HF := hide ((Fr11.mk LL.out HG.out.2.1 HG.out.2.2.1 HG.out.2.2.2.2.2.1 BV.out rfl (uc_nob _ _ _ _ _ _ _ _ _ _ _ _ _ _) BI.out rfl (ic_nob _ _ _ _ _ _ _ _ _ _ _ _ _)).later (Later.refl _).drew)
        go_wp2_with fail
        refine wp_region_tree [0, 1] [2] [3, 4] (by kernel_rfl) (by kernel_rfl) (by kernel_rfl) (by kernel_rfl) ?_
        refine wpT_loadG rfl (by kernel_rfl) 32 (.tmp 2) rfl gu 0 rfl (uc ab n cb aD k cD p r l cc am m cm s) _ ((World.rangeAt_drew _ _ _ _).2 BU.out.range) Tryz.underlying32 rfl Tryz.info_unit ?_
        refine wpT_loadG rfl (by kernel_rfl) 30 (.tmp 7) rfl g7 0 rfl (sc S) _ ((World.rangeAt_drew _ _ _ _).2 B7.out.range) Tryz.underlying30 rfl Tryz.info_sense ?_
        refine fin_one (bb := w) w gv gi HF.out 4 49 5 ⟨_, rfl, rfl, rfl, rfl⟩ ⟨_, rfl, rfl, rfl, rfl⟩ (uc ab n cb aD k cD p r l cc am m cm s) rfl rfl rfl (by simp [put_size]) (by decide) 18 (Plain.of (by kernel_rfl)) [.tmp 50] _ [sval S] rfl ⟨_, rfl, rfl, rfl, rfl⟩ (by kernel_rfl)
          (fun W hW => give11 HM.out At11.same HML.out ((Later.refl _).drew.trans hW) none11) ?_
        intro y W hLW hB4 hB5 hPW
        have HLW := hide hLW
        have HB4 := hide hB4
        have HB5 := hide hB5
        have HPW := hide hPW
        clear hLW hB4 hB5 hPW
        go_wp2
        exact bodyPost_ret (results_cell_cell' rfl _ _ _ gv 0 gi 0 rfl rfl _ _ (load_unit HB4.out rfl) (load_intent HB5.out HPW.out.one.2.1)) rfl ⟨_, y, rfl, HLW.out, by rw [HR.out]; exact HPW.out⟩
    · have e1 : (classI op == 1) = false := by simpa using h1
      have e4 : (classI op == 4) = false := by simpa using h4
      have HR : Hid (blI n F D p r l M s (op, at_, nn, pg, bt) = ((F, D, p, l, M, s), outI (op, at_, nn, pg, bt) (checkS n D p r at_ nn (classI op == 2)))) := by
        rw [Hid, HR0.out, if_neg h1]
        by_cases h2 : classI op = 2
        · rw [if_pos h2, h2]; rfl
        · have h3 : classI op = 3 := by have := HK5.out; have := HK0.out; omega
          rw [if_neg h2, if_pos h3, h3]; rfl
      clear HR0 HK0 HK5 h1 h4
      generalize classI op = K at *
      have d0 := BU.out.cell 0
      have d1 := BU.out.cell 1
      have d2 := BU.out.cell 2
      have d3 := BU.out.cell 3
      have d4 := BU.out.cell 4
      have y1 := BC.out.cell 1
      have y2 := BC.out.cell 2
      go_wp2_with fail
      clear d0 d1 d2 d3 d4 y1 y2
      refine (scheck_c _ n F D p r l at_ nn (K == 2) w1 ⟨ab, cb, aD, k, cD, rfl, HM.out⟩ HC.out.2.1 HC.out.2.2.1.1 HC.out.2.2.1.2 HN.out.1 HN.out.2).mono ?_
      rintro e w2 ⟨rfl, hl⟩
      replace BU := hide (BU.out.later hl)
      replace BV := hide (BV.out.later hl)
      replace BI := hide (BI.out.later hl)
      replace HM := hide (HM.out.later hl)
      replace LL := hide (LL.out.trans hl)
      replace BC := hide (BC.out.later hl)
      clear hl
      obtain ⟨S, hS⟩ : ∃ S, S = checkS n D p r at_ nn (K == 2) := ⟨_, rfl⟩
      rw [← hS] at HR ⊢
      have HOr : Hid (OkS S) := by rw [Hid, hS]; exact okS_check _ _ _ _ _ _ _
      have HSS := hide hS
      clear hS
      go_wp2_with (refine wpList_newS rfl rfl rfl 7 rfl (by simp) (.tmp 19) (by simp) rfl S rfl ?_)
      intro g7 w3 hB7 hl hg
      replace BU := hide (BU.out.later hl)
      replace BV := hide (BV.out.later hl)
      replace BI := hide (BI.out.later hl)
      replace HM := hide (HM.out.later hl)
      replace LL := hide (LL.out.trans hl)
      replace BC := hide (BC.out.later hl)
      have B7 := hide hB7
      have HG7 : Hid (g7 ≠ gu) := box_ne B7.out BU.out (by decide)
      clear hB7 hl hg
      have HF := hide ((Fr11.mk LL.out HG.out.2.1 HG.out.2.2.1 HG.out.2.2.2.2.2.1 BV.out rfl (uc_nob _ _ _ _ _ _ _ _ _ _ _ _ _ _) BI.out rfl (ic_nob _ _ _ _ _ _ _ _ _ _ _ _ _)).later (Later.refl _).drew)
      go_wp2_with fail
      refine wp_region_tree [0, 1, 2] [3] [4, 5] (by kernel_rfl) (by kernel_rfl) (by kernel_rfl) (by kernel_rfl) ?_
      refine wpT_loadG rfl (by kernel_rfl) 32 (.tmp 2) rfl gu 0 rfl (uc ab n cb aD k cD p r l cc am m cm s) _ ((World.rangeAt_drew _ _ _ _).2 BU.out.range) Tryz.underlying32 rfl Tryz.info_unit ?_
      refine wpT_loadG rfl (by kernel_rfl) 36 (.tmp 3) rfl gc 0 rfl (cmc (op, at_, nn, pg, bt)) _ ((World.rangeAt_drew _ _ _ _).2 BC.out.range) Tryz.underlying36 rfl Tryz.info_cmd ?_
      refine wpT_loadG rfl (by kernel_rfl) 30 (.tmp 7) rfl g7 0 rfl (sc S) _ ((World.rangeAt_drew _ _ _ _).2 B7.out.range) Tryz.underlying30 rfl Tryz.info_sense ?_
      refine fin_one (bb := w) w gv gi HF.out 4 21 5 ⟨_, rfl, rfl, rfl, rfl⟩ ⟨_, rfl, rfl, rfl, rfl⟩ (uc ab n cb aD k cD p r l cc am m cm s) rfl rfl rfl (by simp [put_size]) (by decide) 25 (Plain.of (by kernel_rfl)) [.tmp 22, .tmp 23] _ [cval (op, at_, nn, pg, bt), sval S] rfl ⟨_, rfl, rfl, rfl, rfl⟩ (by kernel_rfl)
        (fun W hW => give11 HM.out At11.same HML.out ((Later.refl _).drew.trans hW) (iout11 (op, at_, nn, pg, bt) S W HC.out HOr.out)) ?_
      intro y W hLW hB4 hB5 hPW
      have HLW := hide hLW
      have HB4 := hide hB4
      have HB5 := hide hB5
      have HPW := hide hPW
      clear hLW hB4 hB5 hPW
      go_wp2
      exact bodyPost_ret (results_cell_cell' rfl _ _ _ gv 0 gi 0 rfl rfl _ _ (load_unit HB4.out rfl) (load_intent HB5.out HPW.out.one.2.1)) rfl ⟨_, y, rfl, HLW.out, by rw [HR.out]; exact HPW.out⟩
end Go.Proofs.YtfakboehmcimpaaGreat
