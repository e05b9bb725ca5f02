import Derived.Test.YtfakboehmcimpaaGreatMBE
import Derived.Test.YtfakboehmcimpaaGreatMAK
import Derived.Test.YtfakboehmcimpaaGreatMAI
namespace Go.Proofs.YtfakboehmcimpaaGreat
open Go.ChangeShapes Go.WideShapes Go.ChangeAt Go.RowKit
set_option linter.unusedVariables false
set_option maxRecDepth 4000
set_option linter.unusedSimpArgs false
/-! The document's intents: Out, starts. -/
theorem rnone11 {s : Sns} {W : World} : Calls Tryz.prog 32 #[sval s] W fun e w' => ∃ i', e = .returned i' ∧ Later W w' ∧ IV w' i' (noneI s) := by
  refine (rnone11_c s W).mono ?_
  rintro e w' ⟨rfl, hl⟩
  exact ⟨_, rfl, hl, IV.nil11 w' s⟩
theorem PdI.base11 {b w W : World} {n : Nat} {r cc : Bool} {am : Option Addr} {cm : Nat} {M : List Sns} {T : Utt × Itt} {x y : List Value} (h : PdI b n r cc am cm M T x y W) (hb : w.heap.size ≤ b.heap.size) : PdI w n r cc am cm M T x y W := by
  obtain ⟨⟨a1, a2, a3, a4, a5, a6, a7, e, hm, ha⟩, hi⟩ := h
  exact ⟨⟨a1, a2, a3, a4, a5, a6, a7, e, hm, ha.base hb⟩, hi⟩
set_option maxRecDepth 20000 in
set_option maxHeartbeats 2000000 in
theorem rout11 (c : Cmd) (s : Sns) (w : World) (hc : OkC7 c) : Calls Tryz.prog 38 #[cval c, sval s] w fun e w' => ∃ i', e = .returned i' ∧ Later w w' ∧ IV w' i' (outI c s) := by
  have HC := hide hc
  clear hc
  have BC := hide (((Box.new w 36 #[.int .i64 c.1, .int .u64 (c.2.1 : Int), .int .i64 c.2.2.1, .int .i64 c.2.2.2.1, .int .i64 c.2.2.2.2]).alloc (.cells #[.int .i64 s.1, .int .i64 s.2.1, .int .i64 s.2.2] 30)).alloc (.cells zI.toArray 44))
  have BX : Hid (Box _ (w.heap.size + 1) 30 (sc s)) := (Box.new' (w.alloc (.cells #[.int .i64 c.1, .int .u64 (c.2.1 : Int), .int .i64 c.2.2.1, .int .i64 c.2.2.2.1, .int .i64 c.2.2.2.2] 36)) 30 #[.int .i64 s.1, .int .i64 s.2.1, .int .i64 s.2.2] _ rfl _ (by simp)).alloc (.cells zI.toArray 44)
  have BI : Hid (Box _ (w.heap.size + 1 + 1) 44 zI) := Box.new' ((w.alloc (.cells #[.int .i64 c.1, .int .u64 (c.2.1 : Int), .int .i64 c.2.2.1, .int .i64 c.2.2.2.1, .int .i64 c.2.2.2.2] 36)).alloc (.cells #[.int .i64 s.1, .int .i64 s.2.1, .int .i64 s.2.2] 30)) 44 zI.toArray _ rfl _ (by simp)
  have LL := hide ((((Later.refl w).alloc (.cells #[.int .i64 c.1, .int .u64 (c.2.1 : Int), .int .i64 c.2.2.1, .int .i64 c.2.2.2.1, .int .i64 c.2.2.2.2] 36)).alloc (.cells #[.int .i64 s.1, .int .i64 s.2.1, .int .i64 s.2.2] 30)).alloc (.cells zI.toArray 44))
  have y0 := BC.out.cell 0
  have y1 := BC.out.cell 1
  have y2 := BC.out.cell 2
  have y3 := BC.out.cell 3
  have y4 := BC.out.cell 4
  go_enter Tryz.func38, Tryz.ntmps38
  go_wp2_with fail
  generalize ((w.alloc (.cells #[.int .i64 c.1, .int .u64 (c.2.1 : Int), .int .i64 c.2.2.1, .int .i64 c.2.2.2.1, .int .i64 c.2.2.2.2] 36)).alloc (.cells #[.int .i64 s.1, .int .i64 s.2.1, .int .i64 s.2.2] 30)).alloc (.cells zI.toArray 44) = w1 at *
  obtain ⟨gx, hgx⟩ : ∃ gx, gx = w.heap.size + 1 := ⟨_, rfl⟩
  obtain ⟨gr, hgr⟩ : ∃ gr, gr = w.heap.size + 1 + 1 := ⟨_, rfl⟩
  rw [← hgr] at BI ⊢
  rw [← hgx] at BX ⊢
  have HG : Hid (w.heap.size ≤ gr) := by rw [Hid]; omega
  clear hgr hgx y0 y1 y2 y3 y4 BC
  refine (rstart_c c w1 HC.out).mono ?_
  rintro e w2 ⟨rfl, hl⟩
  replace BX := hide (BX.out.later hl)
  replace BI := hide (BI.out.later hl)
  replace LL := hide (LL.out.trans hl)
  clear hl HC
  cases hst : startL c with
  | none =>
    have HJ : startJ c = (jval (0, 0, 0, 0, 0) 0 0 none 0 0 (0, 0, 0), false) := by rw [startJ, hst]
    have HR : Hid (outI c s = noneI s) := by rw [Hid, outI, hst]
    rw [HJ]
    clear HJ hst
    go_wp2_with (refine wpList_newJ rfl rfl rfl 5 rfl (by simp) (.tmp 10) (by simp) rfl (0, 0, 0, 0, 0) 0 0 none 0 0 (0, 0, 0) rfl ?_)
    intro g5 w3 hB hl hg
    replace BX := hide (BX.out.later hl)
    replace BI := hide (BI.out.later hl)
    replace LL := hide (LL.out.trans hl)
    clear hl hB hg
    have x0 := BX.out.cell 0
    have x1 := BX.out.cell 1
    have x2 := BX.out.cell 2
    go_wp2_with fail
    refine (rnone11_c s _).mono ?_
    rintro e w5 ⟨rfl, hl⟩
    replace BI := hide (BI.out.later hl)
    replace LL := hide (LL.out.trans hl)
    clear hl x0 x1 x2
    go_wp2_with (refine wpList_storeU rfl 44 (.tmp 4) (.tmp 23) rfl gr 0 rfl (ic 0 0 none 0 0 (0, 0, 0, 0, 0) 0 0 none 0 0 (0, 0, 0) s) rfl Tryz.info_intent (ic_one _ _ _ _ _ _ _ _ _ _ _ _ _) _ _ BI.out (by simp) ?_)
    intro wz hz
    have BZ : Hid (Box wz gr 44 (ic 0 0 none 0 0 (0, 0, 0, 0, 0) 0 0 none 0 0 (0, 0, 0) s)) := by rw [hz.out]; exact BI.out.all _ rfl
    have LZ : Hid (Later w wz) := by rw [hz.out]; exact LL.out.setCells HG.out _ _
    clear hz
    go_wp2
    refine bodyPost_ret (results_cell1 rfl _ _ _ gr 0 rfl (.agg (ic 0 0 none 0 0 (0, 0, 0, 0, 0) 0 0 none 0 0 (0, 0, 0) s).toArray) (load_intent BZ.out rfl)) rfl ⟨_, rfl, LZ.out, ?_⟩
    rw [HR.out]
    exact IV.nil11 _ s
  | some z =>
    have HJ : startJ c = (jval c z 0 none 0 0 (0, 0, 0), true) := by rw [startJ, hst]
    have HR0 : Hid (outI c s = if s = (0, 0, 0) then (2, z, [], c, z, (0, 0, 0)) else noneI s) := by rw [Hid, outI, hst]
    rw [HJ]
    clear HJ hst
    go_wp2_with (refine wpList_newJ rfl rfl rfl 5 rfl (by simp) (.tmp 10) (by simp) rfl c z 0 none 0 0 (0, 0, 0) rfl ?_)
    intro g5 w3 hB hl hg
    have B5 := hide hB
    replace BX := hide (BX.out.later hl)
    replace BI := hide (BI.out.later hl)
    replace LL := hide (LL.out.trans hl)
    clear hl hB hg
    have x0 := BX.out.cell 0
    have x1 := BX.out.cell 1
    have x2 := BX.out.cell 2
    by_cases hz : s = (0, 0, 0)
    · have HR : Hid (outI c s = (2, z, [], c, z, (0, 0, 0))) := by rw [Hid, HR0.out, if_pos hz]
      have es : (s == (0, 0, 0)) = true := by simp [hz]
      clear hz HR0
      have y_0 := B5.out.cell 0
      have y_1 := B5.out.cell 1
      have y_2 := B5.out.cell 2
      have y_3 := B5.out.cell 3
      have y_4 := B5.out.cell 4
      have y_5 := B5.out.cell 5
      have y_6 := B5.out.cell 6
      have y_7 := B5.out.cell 7
      have y_8 := B5.out.cell 8
      have y_9 := B5.out.cell 9
      have y_10 := B5.out.cell 10
      go_wp2_with (first | refine wpList_eqS9 (by kernel_rfl) (.tmp 14) (.tmp 15) rfl s (0, 0, 0) rfl rfl true es ?_ | refine wpList_storeU rfl 44 (.tmp 4) (.tmp 21) rfl gr 0 rfl (ic 2 z none 0 0 c z 0 none 0 0 (0, 0, 0) (0, 0, 0)) rfl Tryz.info_intent (ic_one _ _ _ _ _ _ _ _ _ _ _ _ _) _ _ BI.out (by simp) ?_)
      intro wz hz
      have BZ : Hid (Box wz gr 44 (ic 2 z none 0 0 c z 0 none 0 0 (0, 0, 0) (0, 0, 0))) := by rw [hz.out]; exact BI.out.all _ rfl
      have LZ : Hid (Later w wz) := by rw [hz.out]; exact LL.out.setCells HG.out _ _
      clear hz
      go_wp2
      refine bodyPost_ret (results_cell1 rfl _ _ _ gr 0 rfl (.agg (ic 2 z none 0 0 c z 0 none 0 0 (0, 0, 0) (0, 0, 0)).toArray) (load_intent BZ.out rfl)) rfl ⟨_, rfl, LZ.out, ?_⟩
      rw [HR.out]
      exact ⟨none, 0, none, 0, rfl, Bs.nil wz⟩
    · have HR : Hid (outI c s = noneI s) := by rw [Hid, HR0.out, if_neg hz]
      have es : (s == (0, 0, 0)) = false := by simpa using hz
      clear hz HR0
      go_wp2_with (refine wpList_eqS9 (by kernel_rfl) (.tmp 14) (.tmp 15) rfl s (0, 0, 0) rfl rfl false es ?_)
      refine (rnone11_c s _).mono ?_
      rintro e w5 ⟨rfl, hl⟩
      replace BI := hide (BI.out.later hl)
      replace LL := hide (LL.out.trans hl)
      clear hl x0 x1 x2
      go_wp2_with (refine wpList_storeU rfl 44 (.tmp 4) (.tmp 23) rfl gr 0 rfl (ic 0 0 none 0 0 (0, 0, 0, 0, 0) 0 0 none 0 0 (0, 0, 0) s) rfl Tryz.info_intent (ic_one _ _ _ _ _ _ _ _ _ _ _ _ _) _ _ BI.out (by simp) ?_)
      intro wz hz
      have BZ : Hid (Box wz gr 44 (ic 0 0 none 0 0 (0, 0, 0, 0, 0) 0 0 none 0 0 (0, 0, 0) s)) := by rw [hz.out]; exact BI.out.all _ rfl
      have LZ : Hid (Later w wz) := by rw [hz.out]; exact LL.out.setCells HG.out _ _
      clear hz
      go_wp2
      refine bodyPost_ret (results_cell1 rfl _ _ _ gr 0 rfl (.agg (ic 0 0 none 0 0 (0, 0, 0, 0, 0) 0 0 none 0 0 (0, 0, 0) s).toArray) (load_intent BZ.out rfl)) rfl ⟨_, rfl, LZ.out, ?_⟩
      rw [HR.out]
      exact IV.nil11 _ s
set_option maxRecDepth 20000 in
set_option maxHeartbeats 8000000 in
theorem rstarts11_c {ab : Option Addr} {n cb : Nat} {aD : Option Addr} {k cD : Nat} {F : List UInt8} {D : List Drt} {p r l cc : Bool} {am : Option Addr} {m cm : Nat} {s : Sns} {M : List Sns} (bits : Int) (w : World) (hm : Med w (.agg #[.slice ab n cb, .slice aD k cD]) n F D) (hA : Sl w (.slice am m cm) M) (hm1 : m ≤ 100) :
    Calls Tryz.prog 39 #[uval ab n cb aD k cD p r l cc am m cm s, .int .i64 bits] w fun e w' => ∃ x y, e = .returned (.tuple #[.agg x.toArray, .agg y.toArray]) ∧ Later w w' ∧ PdI w n r cc am cm M (stI n F D p l M s bits) x y w' := by
  have HML : Hid (m = M.length) := by
    obtain ⟨a', c', e'⟩ := hA.1.shape
    simp at e'
    exact e'.2.1
  have HM := hide hm
  have HA := hide hA
  have HN := hide hm1
  clear hm hA hm1
  have HR0 : Hid (stI n F D p l M s bits = if bits = 3 then ((F, D, true, l, if p then M else addL M (6, 40, 0), s), noneI (0, 0, 0)) else if bits = 2 then ((btF p l n F D, btD p l n D, p && l, l, M, s), noneI (ulS p l)) else if readyS p = (0, 0, 0) ∧ bits = 0 then ((syncF n F D, syncD n D, p, l, M, s), noneI (readyS p)) else ((F, D, p, l, M, s), noneI (readyS p))) := rfl
  by_cases h3 : bits = 3
  · have e3 : (bits == 3) = true := by simp [h3]
    have HR : Hid (stI n F D p l M s bits = ((F, D, true, l, insM p M, s), noneI (0, 0, 0))) := by rw [Hid, HR0.out, if_pos h3]; rfl
    clear h3 HR0
    have BU := hide (((Box.new w 32 (uc ab n cb aD k cD p r l cc am m cm s).toArray).alloc (.cells zU.toArray 32)).alloc (.cells zI.toArray 44))
    have BV : Hid (Box _ (w.heap.size + 1) 32 zU) := (Box.new' (w.alloc (.cells (uc ab n cb aD k cD p r l cc am m cm s).toArray 32)) 32 zU.toArray _ rfl _ (by simp)).alloc (.cells zI.toArray 44)
    have BI : Hid (Box _ (w.heap.size + 1 + 1) 44 zI) := Box.new' ((w.alloc (.cells (uc ab n cb aD k cD p r l cc am m cm s).toArray 32)).alloc (.cells zU.toArray 32)) 44 zI.toArray _ rfl _ (by simp)
    have LL := hide ((((Later.refl w).alloc (.cells (uc ab n cb aD k cD p r l cc am m cm s).toArray 32)).alloc (.cells zU.toArray 32)).alloc (.cells zI.toArray 44))
    replace HM := hide (HM.out.later LL.out)
    have x_0 := BU.out.cell 0
    have x_1 := BU.out.cell 1
    have x_2 := BU.out.cell 2
    have x_3 := BU.out.cell 3
    have x_4 := BU.out.cell 4
    have x_5 := BU.out.cell 5
    have x_6 := BU.out.cell 6
    have x_7 := BU.out.cell 7
    have x_8 := BU.out.cell 8
    have x_9 := BU.out.cell 9
    go_enter Tryz.func39, Tryz.ntmps39
    go_wp2_with fail
    clear x_0 x_1 x_2 x_3 x_4 x_5 x_6 x_7 x_8 x_9
    generalize ((w.alloc (.cells (uc ab n cb aD k cD p r l cc am m cm s).toArray 32)).alloc (.cells zU.toArray 32)).alloc (.cells zI.toArray 44) = w1 at *
    obtain ⟨gu, hgu⟩ : ∃ gu, gu = w.heap.size := ⟨_, rfl⟩
    obtain ⟨gv, hgv⟩ : ∃ gv, gv = w.heap.size + 1 := ⟨_, rfl⟩
    obtain ⟨gi, hgi⟩ : ∃ gi, gi = w.heap.size + 1 + 1 := ⟨_, rfl⟩
    rw [← hgi] at BI ⊢
    rw [← hgv] at BV ⊢
    rw [← hgu] at BU ⊢
    have HG : Hid (w.heap.size ≤ gu ∧ w.heap.size ≤ gv ∧ w.heap.size ≤ gi ∧ gu ≠ gv ∧ gu ≠ gi ∧ gv ≠ gi) := by rw [Hid]; omega
    clear hgu hgv hgi
    refine (rinsert_c (F := F) (D := D) w1 ⟨ab, cb, aD, k, cD, rfl, HM.out⟩).mono ?_
    rintro e w2 ⟨v2, rfl, hl, hs2, _⟩
    obtain ⟨b3, f3, b6, j6, f6, rfl, hm2⟩ := hs2
    replace BU := hide (BU.out.later hl)
    replace BV := hide (BV.out.later hl)
    replace BI := hide (BI.out.later hl)
    replace HM := hide (HM.out.later hl)
    replace LL := hide (LL.out.trans hl)
    replace HM := hide hm2
    clear hl hm2
    go_wp2_with (refine wpList_newT rfl rfl rfl 6 rfl (by simp) (.tmp 17) (by simp) rfl b3 b6 n f3 j6 f6 true r l rfl ?_)
    intro g6 w3 hB6 hl hg
    replace BU := hide (BU.out.later hl)
    replace BV := hide (BV.out.later hl)
    replace BI := hide (BI.out.later hl)
    replace HM := hide (HM.out.later hl)
    replace LL := hide (LL.out.trans hl)
    have B6 := hide hB6
    clear hB6 hl hg
    have d0 := B6.out.cell 0
    have d1 := B6.out.cell 1
    have d2 := B6.out.cell 2
    have d3 := B6.out.cell 3
    have d4 := B6.out.cell 4
    go_wp2_with (refine wpList_storeU rfl 27 (.tmp 20) (.tmp 19) rfl gu 0 rfl (tc (.slice b3 n f3) (.slice b6 j6 f6) true r l) rfl Tryz.info_slot (tc_one _ _ _ _ _ _ _ _ _) _ _ BU.out (by simp) ?_)
    intro w4 h4
    clear d0 d1 d2 d3 d4 B6
    have BUn : Hid (Box _ gu 32 (uc b3 n f3 b6 j6 f6 true r l cc am m cm s)) := hide (by have h := BU.out.setCells (tc (.slice b3 n f3) (.slice b6 j6 f6) true r l) 0 (by simp); rw [← h4.out] at h; exact h)
    replace BV : Hid (Box _ gv 32 zU) := hide (by have h := BV.out.apart gu (by have := HG.out; omega) (tc (.slice b3 n f3) (.slice b6 j6 f6) true r l) 0; rw [← h4.out] at h; exact h)
    replace BI : Hid (Box _ gi 44 zI) := hide (by have h := BI.out.apart gu (by have := HG.out; omega) (tc (.slice b3 n f3) (.slice b6 j6 f6) true r l) 0; rw [← h4.out] at h; exact h)
    replace LL : Hid (Later w _) := hide (by have h := LL.out.setCells HG.out.1 (tc (.slice b3 n f3) (.slice b6 j6 f6) true r l) 0; rw [← h4.out] at h; exact h)
    replace HM : Hid (Med _ _ n _ _) := hide (by have h := HM.out.setNoB BU.out (uc_nob _ _ _ _ _ _ _ _ _ _ _ _ _ _) (tc (.slice b3 n f3) (.slice b6 j6 f6) true r l) 0; rw [← h4.out] at h; exact h)
    replace BU := BUn
    clear BUn h4
    cases p with
    | true =>
      replace HR : Hid (stI n F D true l M s bits = ((F, D, true, l, M, s), noneI (0, 0, 0))) := HR.out
      go_wp2_with fail
      refine wp_region_tree [0, 1] [2] [3, 4] (by kernel_rfl) (by kernel_rfl) (by kernel_rfl) (by kernel_rfl) ?_
      refine wpT_loadG rfl (by kernel_rfl) 32 (.tmp 2) rfl gu 0 rfl (uc b3 n f3 b6 j6 f6 true r l cc am m cm s) _ ((World.rangeAt_drew _ _ _ _).2 BU.out.range) Tryz.underlying32 rfl Tryz.info_unit ?_
      iterate 1 (refine wpT_mild rfl (fun K hK => ?_); go_simp; refine hK _ ?_; clear hK K)
      refine fin_one (bb := w) w gv gi ((Fr11.mk LL.out HG.out.2.1 HG.out.2.2.1 HG.out.2.2.2.2.2 BV.out rfl (uc_nob _ _ _ _ _ _ _ _ _ _ _ _ _ _) BI.out rfl (ic_nob _ _ _ _ _ _ _ _ _ _ _ _ _)).later (Later.refl _).drew) 4 27 5 ⟨_, rfl, rfl, rfl, rfl⟩ ⟨_, rfl, rfl, rfl, rfl⟩ (uc b3 n f3 b6 j6 f6 true r l cc am m cm s) rfl rfl rfl (by simp [put_size]) (by decide) 32 (Plain.of (by kernel_rfl)) [.tmp 28] _ [sval (0, 0, 0)] rfl ⟨_, rfl, rfl, rfl, rfl⟩ (by kernel_rfl)
        (fun W hW => give11 HM.out At11.same HML.out ((Later.refl _).drew.trans hW) rnone11) ?_
      intro y W hLW hB4 hB5 hPW
      have HLW := hide hLW
      have HB4 := hide hB4
      have HB5 := hide hB5
      have HPW := hide hPW
      clear hLW hB4 hB5 hPW
      go_wp2
      exact bodyPost_ret (results_cell_cell' rfl _ _ _ gv 0 gi 0 rfl rfl _ _ (load_unit HB4.out rfl) (load_intent HB5.out HPW.out.one.2.1)) rfl ⟨_, y, rfl, HLW.out, (by rw [HR.out]; exact HPW.out)⟩
    | false =>
      replace HR : Hid (stI n F D false l M s bits = ((F, D, true, l, addL M (6, 40, 0), s), noneI (0, 0, 0))) := HR.out
      have x_6 := fun q => (BU.out.later ((Later.refl w4).drew.trans (later_rg w4.drew q))).cell 6
      go_wp2_with fail
      refine wp_region_tree [0, 1] [2, 3] [4, 5] (by kernel_rfl) (by kernel_rfl) (by kernel_rfl) (by kernel_rfl) ?_
      iterate 2 (refine wpT_mild rfl (fun K hK => ?_); go_simp; refine hK _ ?_; clear hK K)
      clear x_6
      refine wpT_twoD 2 3 (some 24) (some 25) rfl rfl (by decide) (fun v _ => v = sval (6, 40, 0)) (fun _ u W => ∃ am' cm', u = .slice am' (addL M (6, 40, 0)).length cm' ∧ W.ownsRow w.heap.size 30 3 u (addL M (6, 40, 0)).length (sv (addL M (6, 40, 0)))) (by kernel_rfl) (fun _ _ _ _ h => h) ?t2 ?t3 ?t4 ?t5
      case t2 =>
        rintro v u W W' hl ⟨a', c', e, h⟩
        exact ⟨a', c', e, owns_later h hl⟩
      case t3 =>
        intro W hW
        refine lVal_callAt ⟨_, rfl, rfl, rfl, rfl⟩ (Plain.of (by kernel_rfl)) [.int .i64 6, .int .i64 40, .int .i64 0] rfl ((rof_c 6 40 0 W).mono ?_)
        rintro e w' ⟨rfl, hl⟩
        exact ⟨_, rfl, hl, rfl⟩
      case t4 =>
        rintro v W hW rfl
        have hw := (Later.refl w4).drew.trans hW
        refine lVal_callAt ⟨_, rfl, rfl, rfl, rfl⟩ (Plain.of (by kernel_rfl)) [.slice am m cm, sval (6, 40, 0)] rfl ((radd_c (L := M) (6, 40, 0) W (HA.out.later (LL.out.trans hw)) (by have h1 := HML.out; have h2 := HN.out; omega)).mono ?_)
        rintro e w' ⟨v', rfl, hl, ho⟩
        obtain ⟨a', c', rfl⟩ := (Rw.of_owns ho).shape
        exact ⟨_, rfl, hl, a', c', rfl, owns_rebase ho (Nat.le_trans LL.out.size hw.size)⟩
      case t5 =>
        rintro v u W hW ⟨a', c', rfl, ho⟩
        have hw := (Later.refl w4).drew.trans hW
        refine wpL_cons rfl (fun K hK => ?_)
        go_simp
        refine hK _ _ ?_
        clear hK K
        refine wpL_storeV ⟨_, rfl, rfl, rfl, rfl⟩ gu 6 rfl a' _ c' rfl Tryz.info1_sns10 _ _ (BU.out.later hw) (by simp) ?_
        have BUn : Hid (Box (W.setCells gu 6 [.slice a' (addL M (6, 40, 0)).length c']) gu 32 (uc b3 n f3 b6 j6 f6 true r l cc a' (addL M (6, 40, 0)).length c' s)) := hide ((BU.out.later hw).setCells [.slice a' (addL M (6, 40, 0)).length c'] 6 (by simp))
        have O : Hid ((W.setCells gu 6 [.slice a' (addL M (6, 40, 0)).length c']).ownsRow w.heap.size 30 3 (.slice a' (addL M (6, 40, 0)).length c') (addL M (6, 40, 0)).length (sv (addL M (6, 40, 0)))) := owns_setBox10 ho (BU.out.later hw) (by decide) _ _
        replace BV := hide ((BV.out.later hw).apart gu (by have := HG.out; omega) [.slice a' (addL M (6, 40, 0)).length c'] 6)
        replace BI := hide ((BI.out.later hw).apart gu (by have := HG.out; omega) [.slice a' (addL M (6, 40, 0)).length c'] 6)
        replace LL := hide ((LL.out.trans hw).setCells HG.out.1 [.slice a' (addL M (6, 40, 0)).length c'] 6)
        replace HM := hide ((HM.out.later hw).setNoB (BU.out.later hw) (uc_nob _ _ _ _ _ _ _ _ _ _ _ _ _ _) [.slice a' (addL M (6, 40, 0)).length c'] 6)
        clear BU hw hW ho
        have HOk : Hid (∀ x ∈ addL M (6, 40, 0), OkS x) := addL_ok HA.out.2 (okS_of _ (by decide))
        generalize W.setCells gu 6 [.slice a' (addL M (6, 40, 0)).length c'] = w5 at *
        clear HA W
        have BU := BUn
        clear BUn
        refine wpL_nil ?_
        have HT : Hid (At11 w w5 am cm M a' c' (addL M (6, 40, 0))) := .inr ⟨O.out, HOk.out⟩
        clear O HOk
        generalize addL M (6, 40, 0) = M2 at *
        obtain ⟨m2, hm2⟩ : ∃ m2, m2 = M2.length := ⟨_, rfl⟩
        rw [← hm2] at BU ⊢
        have HM2 := hide hm2
        clear hm2
        go_wp2_with fail
        refine wp_region_tree [0, 1] [2] [3, 4] (by kernel_rfl) (by kernel_rfl) (by kernel_rfl) (by kernel_rfl) ?_
        refine wpT_loadG rfl (by kernel_rfl) 32 (.tmp 2) rfl gu 0 rfl (uc b3 n f3 b6 j6 f6 true r l cc a' m2 c' s) _ ((World.rangeAt_drew _ _ _ _).2 BU.out.range) Tryz.underlying32 rfl Tryz.info_unit ?_
        iterate 1 (refine wpT_mild rfl (fun K hK => ?_); go_simp; refine hK _ ?_; clear hK K)
        refine fin_one (bb := w) w gv gi ((Fr11.mk LL.out HG.out.2.1 HG.out.2.2.1 HG.out.2.2.2.2.2 BV.out rfl (uc_nob _ _ _ _ _ _ _ _ _ _ _ _ _ _) BI.out rfl (ic_nob _ _ _ _ _ _ _ _ _ _ _ _ _)).later (Later.refl _).drew) 4 27 5 ⟨_, rfl, rfl, rfl, rfl⟩ ⟨_, rfl, rfl, rfl, rfl⟩ (uc b3 n f3 b6 j6 f6 true r l cc a' m2 c' s) rfl rfl rfl (by simp [put_size]) (by decide) 32 (Plain.of (by kernel_rfl)) [.tmp 28] _ [sval (0, 0, 0)] rfl ⟨_, rfl, rfl, rfl, rfl⟩ (by kernel_rfl)
          (fun W hW => give11 HM.out HT.out HM2.out ((Later.refl _).drew.trans hW) rnone11) ?_
        intro y W hLW hB4 hB5 hPW
        have HLW := hide hLW
        have HB4 := hide hB4
        have HB5 := hide hB5
        have HPW := hide hPW
        clear hLW hB4 hB5 hPW
        go_wp2
        exact bodyPost_ret (results_cell_cell' rfl _ _ _ gv 0 gi 0 rfl rfl _ _ (load_unit HB4.out rfl) (load_intent HB5.out HPW.out.one.2.1)) rfl ⟨_, y, rfl, HLW.out, (by rw [HR.out]; exact HPW.out)⟩
  · have e3 : (bits == 3) = false := by simp [h3]
    by_cases h2 : bits = 2
    · have e2 : (bits == 2) = true := by simp [h2]
      have HR : Hid (stI n F D p l M s bits = ((btF p l n F D, btD p l n D, p && l, l, M, s), noneI (ulS p l))) := by rw [Hid, HR0.out, if_neg h3, if_pos h2]
      clear h3 h2 HR0
      have BU := hide (((Box.new w 32 (uc ab n cb aD k cD p r l cc am m cm s).toArray).alloc (.cells zU.toArray 32)).alloc (.cells zI.toArray 44))
      have BV : Hid (Box _ (w.heap.size + 1) 32 zU) := (Box.new' (w.alloc (.cells (uc ab n cb aD k cD p r l cc am m cm s).toArray 32)) 32 zU.toArray _ rfl _ (by simp)).alloc (.cells zI.toArray 44)
      have BI : Hid (Box _ (w.heap.size + 1 + 1) 44 zI) := Box.new' ((w.alloc (.cells (uc ab n cb aD k cD p r l cc am m cm s).toArray 32)).alloc (.cells zU.toArray 32)) 44 zI.toArray _ rfl _ (by simp)
      have LL := hide ((((Later.refl w).alloc (.cells (uc ab n cb aD k cD p r l cc am m cm s).toArray 32)).alloc (.cells zU.toArray 32)).alloc (.cells zI.toArray 44))
      replace HM := hide (HM.out.later LL.out)
      have x_0 := BU.out.cell 0
      have x_1 := BU.out.cell 1
      have x_2 := BU.out.cell 2
      have x_3 := BU.out.cell 3
      have x_4 := BU.out.cell 4
      have x_5 := BU.out.cell 5
      have x_6 := BU.out.cell 6
      have x_7 := BU.out.cell 7
      have x_8 := BU.out.cell 8
      have x_9 := BU.out.cell 9
      go_enter Tryz.func39, Tryz.ntmps39
      go_wp2_with fail
      clear x_0 x_1 x_2 x_3 x_4 x_5 x_6 x_7 x_8 x_9
      generalize ((w.alloc (.cells (uc ab n cb aD k cD p r l cc am m cm s).toArray 32)).alloc (.cells zU.toArray 32)).alloc (.cells zI.toArray 44) = w1 at *
      obtain ⟨gu, hgu⟩ : ∃ gu, gu = w.heap.size := ⟨_, rfl⟩
      obtain ⟨gv, hgv⟩ : ∃ gv, gv = w.heap.size + 1 := ⟨_, rfl⟩
      obtain ⟨gi, hgi⟩ : ∃ gi, gi = w.heap.size + 1 + 1 := ⟨_, rfl⟩
      rw [← hgi] at BI ⊢
      rw [← hgv] at BV ⊢
      rw [← hgu] at BU ⊢
      have HG : Hid (w.heap.size ≤ gu ∧ w.heap.size ≤ gv ∧ w.heap.size ≤ gi ∧ gu ≠ gv ∧ gu ≠ gi ∧ gv ≠ gi) := by rw [Hid]; omega
      clear hgu hgv hgi
      refine (runload_c (F := F) (D := D) w1 ⟨ab, cb, aD, k, cD, rfl, HM.out⟩).mono ?_
      rintro e w2 ⟨v2, rfl, hl, hs2⟩
      obtain ⟨b3, f3, b6, j6, f6, rfl, hm2⟩ := hs2
      replace BU := hide (BU.out.later hl)
      replace BV := hide (BV.out.later hl)
      replace BI := hide (BI.out.later hl)
      replace HM := hide (HM.out.later hl)
      replace LL := hide (LL.out.trans hl)
      replace HM := hide hm2
      clear hl hm2
      generalize (p && l) = p2 at *
      generalize ulS p l = S at *
      generalize btF p l n F D = F2 at *
      generalize btD p l n D = D2 at *
      go_wp2_with (refine wpList_newTS rfl rfl rfl rfl rfl rfl 8 9 rfl rfl (by simp) (by simp) (by decide) (.tmp 36) (.tmp 37) (by simp) (by simp) (by simp) (by simp) rfl rfl rfl rfl b3 b6 n f3 j6 f6 p2 r l S rfl rfl ?_)
      intro g5 g6 w3 hB5 hB6 hl hg
      replace BU := hide (BU.out.later hl)
      replace BV := hide (BV.out.later hl)
      replace BI := hide (BI.out.later hl)
      replace HM := hide (HM.out.later hl)
      replace LL := hide (LL.out.trans hl)
      have B5 := hide hB5
      have B6 := hide hB6
      have HG6 : Hid (g6 ≠ gu) := box_ne B6.out BU.out (by decide)
      clear hB5 hB6 hl hg
      have d0 := B5.out.cell 0
      have d1 := B5.out.cell 1
      have d2 := B5.out.cell 2
      have d3 := B5.out.cell 3
      have d4 := B5.out.cell 4
      go_wp2_with (refine wpList_storeU rfl 27 (.tmp 39) (.tmp 38) rfl gu 0 rfl (tc (.slice b3 n f3) (.slice b6 j6 f6) p2 r l) rfl Tryz.info_slot (tc_one _ _ _ _ _ _ _ _ _) _ _ BU.out (by simp) ?_)
      intro w4 h4
      clear d0 d1 d2 d3 d4 B5
      replace B6 : Hid (Box w4 g6 30 (sc S)) := by rw [h4.out]; exact B6.out.apart gu HG6.out _ _
      have BUn : Hid (Box _ gu 32 (uc b3 n f3 b6 j6 f6 p2 r l cc am m cm s)) := hide (by have h := BU.out.setCells (tc (.slice b3 n f3) (.slice b6 j6 f6) p2 r l) 0 (by simp); rw [← h4.out] at h; exact h)
      replace BV : Hid (Box _ gv 32 zU) := hide (by have h := BV.out.apart gu (by have := HG.out; omega) (tc (.slice b3 n f3) (.slice b6 j6 f6) p2 r l) 0; rw [← h4.out] at h; exact h)
      replace BI : Hid (Box _ gi 44 zI) := hide (by have h := BI.out.apart gu (by have := HG.out; omega) (tc (.slice b3 n f3) (.slice b6 j6 f6) p2 r l) 0; rw [← h4.out] at h; exact h)
      replace LL : Hid (Later w _) := hide (by have h := LL.out.setCells HG.out.1 (tc (.slice b3 n f3) (.slice b6 j6 f6) p2 r l) 0; rw [← h4.out] at h; exact h)
      replace HM : Hid (Med _ _ n _ _) := hide (by have h := HM.out.setNoB BU.out (uc_nob _ _ _ _ _ _ _ _ _ _ _ _ _ _) (tc (.slice b3 n f3) (.slice b6 j6 f6) p2 r l) 0; rw [← h4.out] at h; exact h)
      replace BU := BUn
      clear BUn h4
      go_wp2_with fail
      refine wp_region_tree [0, 1] [2] [3, 4] (by kernel_rfl) (by kernel_rfl) (by kernel_rfl) (by kernel_rfl) ?_
      refine wpT_loadG rfl (by kernel_rfl) 32 (.tmp 2) rfl gu 0 rfl (uc b3 n f3 b6 j6 f6 p2 r l cc am m cm s) _ ((World.rangeAt_drew _ _ _ _).2 BU.out.range) Tryz.underlying32 rfl Tryz.info_unit ?_
      refine wpT_loadG rfl (by kernel_rfl) 30 (.tmp 9) rfl g6 0 rfl (sc S) _ ((World.rangeAt_drew _ _ _ _).2 B6.out.range) Tryz.underlying30 rfl Tryz.info_sense ?_
      refine fin_one (bb := w) w gv gi ((Fr11.mk LL.out HG.out.2.1 HG.out.2.2.1 HG.out.2.2.2.2.2 BV.out rfl (uc_nob _ _ _ _ _ _ _ _ _ _ _ _ _ _) BI.out rfl (ic_nob _ _ _ _ _ _ _ _ _ _ _ _ _)).later (Later.refl _).drew) 4 40 5 ⟨_, rfl, rfl, rfl, rfl⟩ ⟨_, rfl, rfl, rfl, rfl⟩ (uc b3 n f3 b6 j6 f6 p2 r l cc am m cm s) rfl rfl rfl (by simp [put_size]) (by decide) 32 (Plain.of (by kernel_rfl)) [.tmp 41] _ [sval S] rfl ⟨_, rfl, rfl, rfl, rfl⟩ (by kernel_rfl)
        (fun W hW => give11 HM.out At11.same HML.out ((Later.refl _).drew.trans hW) rnone11) ?_
      intro y W hLW hB4 hB5 hPW
      have HLW := hide hLW
      have HB4 := hide hB4
      have HB5 := hide hB5
      have HPW := hide hPW
      clear hLW hB4 hB5 hPW
      go_wp2
      exact bodyPost_ret (results_cell_cell' rfl _ _ _ gv 0 gi 0 rfl rfl _ _ (load_unit HB4.out rfl) (load_intent HB5.out HPW.out.one.2.1)) rfl ⟨_, y, rfl, HLW.out, (by rw [HR.out]; exact HPW.out)⟩
    · have e2 : (bits == 2) = false := by simp [h2]
      have HR1 : Hid (stI n F D p l M s bits = if readyS p = (0, 0, 0) ∧ bits = 0 then ((syncF n F D, syncD n D, p, l, M, s), noneI (readyS p)) else ((F, D, p, l, M, s), noneI (readyS p))) := by rw [Hid, HR0.out, if_neg h3, if_neg h2]
      clear h3 h2 HR0
      have BU := hide (((Box.new w 32 (uc ab n cb aD k cD p r l cc am m cm s).toArray).alloc (.cells zU.toArray 32)).alloc (.cells zI.toArray 44))
      have BV : Hid (Box _ (w.heap.size + 1) 32 zU) := (Box.new' (w.alloc (.cells (uc ab n cb aD k cD p r l cc am m cm s).toArray 32)) 32 zU.toArray _ rfl _ (by simp)).alloc (.cells zI.toArray 44)
      have BI : Hid (Box _ (w.heap.size + 1 + 1) 44 zI) := Box.new' ((w.alloc (.cells (uc ab n cb aD k cD p r l cc am m cm s).toArray 32)).alloc (.cells zU.toArray 32)) 44 zI.toArray _ rfl _ (by simp)
      have LL := hide ((((Later.refl w).alloc (.cells (uc ab n cb aD k cD p r l cc am m cm s).toArray 32)).alloc (.cells zU.toArray 32)).alloc (.cells zI.toArray 44))
      replace HM := hide (HM.out.later LL.out)
      have x_0 := BU.out.cell 0
      have x_1 := BU.out.cell 1
      have x_2 := BU.out.cell 2
      have x_3 := BU.out.cell 3
      have x_4 := BU.out.cell 4
      have x_5 := BU.out.cell 5
      have x_6 := BU.out.cell 6
      have x_7 := BU.out.cell 7
      have x_8 := BU.out.cell 8
      have x_9 := BU.out.cell 9
      go_enter Tryz.func39, Tryz.ntmps39
      go_wp2_with fail
      clear x_0 x_1 x_2 x_3 x_4 x_5 x_6 x_7 x_8 x_9
      generalize ((w.alloc (.cells (uc ab n cb aD k cD p r l cc am m cm s).toArray 32)).alloc (.cells zU.toArray 32)).alloc (.cells zI.toArray 44) = w1 at *
      obtain ⟨gu, hgu⟩ : ∃ gu, gu = w.heap.size := ⟨_, rfl⟩
      obtain ⟨gv, hgv⟩ : ∃ gv, gv = w.heap.size + 1 := ⟨_, rfl⟩
      obtain ⟨gi, hgi⟩ : ∃ gi, gi = w.heap.size + 1 + 1 := ⟨_, rfl⟩
      rw [← hgi] at BI ⊢
      rw [← hgv] at BV ⊢
      rw [← hgu] at BU ⊢
      have HG : Hid (w.heap.size ≤ gu ∧ w.heap.size ≤ gv ∧ w.heap.size ≤ gi ∧ gu ≠ gv ∧ gu ≠ gi ∧ gv ≠ gi) := by rw [Hid]; omega
      clear hgu hgv hgi
      refine (rready_c (F := F) (D := D) w1 ⟨ab, cb, aD, k, cD, rfl, HM.out⟩).mono ?_
      rintro e w2 ⟨rfl, hl⟩
      replace BU := hide (BU.out.later hl)
      replace BV := hide (BV.out.later hl)
      replace BI := hide (BI.out.later hl)
      replace HM := hide (HM.out.later hl)
      replace LL := hide (LL.out.trans hl)
      clear hl
      go_wp2_with (refine wpList_newS rfl rfl rfl 10 rfl (by simp) (.tmp 45) (by simp) rfl (readyS p) rfl ?_)
      intro g6 w3 hB6 hl hg
      replace BU := hide (BU.out.later hl)
      replace BV := hide (BV.out.later hl)
      replace BI := hide (BI.out.later hl)
      replace HM := hide (HM.out.later hl)
      replace LL := hide (LL.out.trans hl)
      have B6 := hide hB6
      have HG6 : Hid (g6 ≠ gu) := box_ne B6.out BU.out (by decide)
      clear hB6 hl hg
      have t0 := B6.out.cell 0
      have t1 := B6.out.cell 1
      have t2 := B6.out.cell 2
      cases p with
      | true =>
        by_cases h0 : bits = 0
        · have e0 : (bits == 0) = true := by simp [h0]
          have HR : Hid (stI n F D true l M s bits = ((syncF n F D, syncD n D, true, l, M, s), noneI (0, 0, 0))) := by rw [Hid, HR1.out, if_pos ⟨rfl, h0⟩]; rfl
          clear HR1 h0
          have d0 := BU.out.cell 0
          have d1 := BU.out.cell 1
          have d2 := BU.out.cell 2
          have d3 := BU.out.cell 3
          have d4 := BU.out.cell 4
          go_wp2_with (refine wpList_eqS9 (by kernel_rfl) (.tmp 46) (.tmp 47) rfl (0, 0, 0) (0, 0, 0) rfl rfl true rfl ?_)
          clear d0 d1 d2 d3 d4 t0 t1 t2
          refine (rsync_c (F := F) (D := D) w3 ⟨ab, cb, aD, k, cD, rfl, HM.out⟩).mono ?_
          rintro e w5 ⟨v5, rfl, hl, hs5, _⟩
          obtain ⟨b3, f3, b6, j6, f6, rfl, hm5⟩ := hs5
          replace BU := hide (BU.out.later hl)
          replace BV := hide (BV.out.later hl)
          replace BI := hide (BI.out.later hl)
          replace HM := hide (HM.out.later hl)
          replace LL := hide (LL.out.trans hl)
          replace B6 := hide (B6.out.later hl)
          replace HM := hide hm5
          clear hl hm5
          generalize syncF n F D = F2 at *
          generalize syncD n D = D2 at *
          go_wp2_with (refine wpList_storeU rfl 27 (.tmp 56) (.tmp 55) rfl gu 0 rfl (tc (.slice b3 n f3) (.slice b6 j6 f6) true r l) rfl Tryz.info_slot (tc_one _ _ _ _ _ _ _ _ _) _ _ BU.out (by simp) ?_)
          intro w6 h6
          replace B6 : Hid (Box w6 g6 30 (sc (0, 0, 0))) := by rw [h6.out]; exact B6.out.apart gu HG6.out _ _
          have BUn : Hid (Box _ gu 32 (uc b3 n f3 b6 j6 f6 true r l cc am m cm s)) := hide (by have h := BU.out.setCells (tc (.slice b3 n f3) (.slice b6 j6 f6) true r l) 0 (by simp); rw [← h6.out] at h; exact h)
          replace BV : Hid (Box _ gv 32 zU) := hide (by have h := BV.out.apart gu (by have := HG.out; omega) (tc (.slice b3 n f3) (.slice b6 j6 f6) true r l) 0; rw [← h6.out] at h; exact h)
          replace BI : Hid (Box _ gi 44 zI) := hide (by have h := BI.out.apart gu (by have := HG.out; omega) (tc (.slice b3 n f3) (.slice b6 j6 f6) true r l) 0; rw [← h6.out] at h; exact h)
          replace LL : Hid (Later w _) := hide (by have h := LL.out.setCells HG.out.1 (tc (.slice b3 n f3) (.slice b6 j6 f6) true r l) 0; rw [← h6.out] at h; exact h)
          replace HM : Hid (Med _ _ n _ _) := hide (by have h := HM.out.setNoB BU.out (uc_nob _ _ _ _ _ _ _ _ _ _ _ _ _ _) (tc (.slice b3 n f3) (.slice b6 j6 f6) true r l) 0; rw [← h6.out] at h; exact h)
          replace BU := BUn
          clear BUn h6
          go_wp2_with fail
          refine wp_region_tree [0, 1] [2] [3, 4] (by kernel_rfl) (by kernel_rfl) (by kernel_rfl) (by kernel_rfl) ?_
          refine wpT_loadG rfl (by kernel_rfl) 32 (.tmp 2) rfl gu 0 rfl (uc b3 n f3 b6 j6 f6 true r l cc am m cm s) _ ((World.rangeAt_drew _ _ _ _).2 BU.out.range) Tryz.underlying32 rfl Tryz.info_unit ?_
          refine wpT_loadG rfl (by kernel_rfl) 30 (.tmp 10) rfl g6 0 rfl (sc (0, 0, 0)) _ ((World.rangeAt_drew _ _ _ _).2 B6.out.range) Tryz.underlying30 rfl Tryz.info_sense ?_
          refine fin_one (bb := w) w gv gi ((Fr11.mk LL.out HG.out.2.1 HG.out.2.2.1 HG.out.2.2.2.2.2 BV.out rfl (uc_nob _ _ _ _ _ _ _ _ _ _ _ _ _ _) BI.out rfl (ic_nob _ _ _ _ _ _ _ _ _ _ _ _ _)).later (Later.refl _).drew) 4 57 5 ⟨_, rfl, rfl, rfl, rfl⟩ ⟨_, rfl, rfl, rfl, rfl⟩ (uc b3 n f3 b6 j6 f6 true r l cc am m cm s) rfl rfl rfl (by simp [put_size]) (by decide) 32 (Plain.of (by kernel_rfl)) [.tmp 58] _ [sval (0, 0, 0)] rfl ⟨_, rfl, rfl, rfl, rfl⟩ (by kernel_rfl)
            (fun W hW => give11 HM.out At11.same HML.out ((Later.refl _).drew.trans hW) rnone11) ?_
          intro y W hLW hB4 hB5 hPW
          have HLW := hide hLW
          have HB4 := hide hB4
          have HB5 := hide hB5
          have HPW := hide hPW
          clear hLW hB4 hB5 hPW
          go_wp2
          exact bodyPost_ret (results_cell_cell' rfl _ _ _ gv 0 gi 0 rfl rfl _ _ (load_unit HB4.out rfl) (load_intent HB5.out HPW.out.one.2.1)) rfl ⟨_, y, rfl, HLW.out, (by rw [HR.out]; exact HPW.out)⟩
        · have e0 : (bits == 0) = false := by simp [h0]
          have HR : Hid (stI n F D true l M s bits = ((F, D, true, l, M, s), noneI (0, 0, 0))) := by rw [Hid, HR1.out, if_neg (fun h => h0 h.2)]; rfl
          clear HR1 h0
          go_wp2_with (refine wpList_eqS9 (by kernel_rfl) (.tmp 46) (.tmp 47) rfl (0, 0, 0) (0, 0, 0) rfl rfl true rfl ?_)
          clear t0 t1 t2
          go_wp2_with fail
          refine wp_region_tree [0, 1] [2] [3, 4] (by kernel_rfl) (by kernel_rfl) (by kernel_rfl) (by kernel_rfl) ?_
          refine wpT_loadG rfl (by kernel_rfl) 32 (.tmp 2) rfl gu 0 rfl (uc ab n cb aD k cD true r l cc am m cm s) _ ((World.rangeAt_drew _ _ _ _).2 BU.out.range) Tryz.underlying32 rfl Tryz.info_unit ?_
          refine wpT_loadG rfl (by kernel_rfl) 30 (.tmp 10) rfl g6 0 rfl (sc (0, 0, 0)) _ ((World.rangeAt_drew _ _ _ _).2 B6.out.range) Tryz.underlying30 rfl Tryz.info_sense ?_
          refine fin_one (bb := w) w gv gi ((Fr11.mk LL.out HG.out.2.1 HG.out.2.2.1 HG.out.2.2.2.2.2 BV.out rfl (uc_nob _ _ _ _ _ _ _ _ _ _ _ _ _ _) BI.out rfl (ic_nob _ _ _ _ _ _ _ _ _ _ _ _ _)).later (Later.refl _).drew) 4 57 5 ⟨_, rfl, rfl, rfl, rfl⟩ ⟨_, rfl, rfl, rfl, rfl⟩ (uc ab n cb aD k cD true r l cc am m cm s) rfl rfl rfl (by simp [put_size]) (by decide) 32 (Plain.of (by kernel_rfl)) [.tmp 58] _ [sval (0, 0, 0)] rfl ⟨_, rfl, rfl, rfl, rfl⟩ (by kernel_rfl)
            (fun W hW => give11 HM.out At11.same HML.out ((Later.refl _).drew.trans hW) rnone11) ?_
          intro y W hLW hB4 hB5 hPW
          have HLW := hide hLW
          have HB4 := hide hB4
          have HB5 := hide hB5
          have HPW := hide hPW
          clear hLW hB4 hB5 hPW
          go_wp2
          exact bodyPost_ret (results_cell_cell' rfl _ _ _ gv 0 gi 0 rfl rfl _ _ (load_unit HB4.out rfl) (load_intent HB5.out HPW.out.one.2.1)) rfl ⟨_, y, rfl, HLW.out, (by rw [HR.out]; exact HPW.out)⟩
      | false =>
        have HR : Hid (stI n F D false l M s bits = ((F, D, false, l, M, s), noneI (2, 58, 0))) := by rw [Hid, HR1.out, if_neg (fun h => by cases h.1)]; rfl
        clear HR1
        go_wp2_with (refine wpList_eqS9 (by kernel_rfl) (.tmp 46) (.tmp 47) rfl (2, 58, 0) (0, 0, 0) rfl rfl false rfl ?_)
        clear t0 t1 t2
        go_wp2_with fail
        refine wp_region_tree [0, 1] [2] [3, 4] (by kernel_rfl) (by kernel_rfl) (by kernel_rfl) (by kernel_rfl) ?_
        refine wpT_loadG rfl (by kernel_rfl) 32 (.tmp 2) rfl gu 0 rfl (uc ab n cb aD k cD false r l cc am m cm s) _ ((World.rangeAt_drew _ _ _ _).2 BU.out.range) Tryz.underlying32 rfl Tryz.info_unit ?_
        refine wpT_loadG rfl (by kernel_rfl) 30 (.tmp 10) rfl g6 0 rfl (sc (2, 58, 0)) _ ((World.rangeAt_drew _ _ _ _).2 B6.out.range) Tryz.underlying30 rfl Tryz.info_sense ?_
        refine fin_one (bb := w) w gv gi ((Fr11.mk LL.out HG.out.2.1 HG.out.2.2.1 HG.out.2.2.2.2.2 BV.out rfl (uc_nob _ _ _ _ _ _ _ _ _ _ _ _ _ _) BI.out rfl (ic_nob _ _ _ _ _ _ _ _ _ _ _ _ _)).later (Later.refl _).drew) 4 57 5 ⟨_, rfl, rfl, rfl, rfl⟩ ⟨_, rfl, rfl, rfl, rfl⟩ (uc ab n cb aD k cD false r l cc am m cm s) rfl rfl rfl (by simp [put_size]) (by decide) 32 (Plain.of (by kernel_rfl)) [.tmp 58] _ [sval (2, 58, 0)] rfl ⟨_, rfl, rfl, rfl, rfl⟩ (by kernel_rfl)
          (fun W hW => give11 HM.out At11.same HML.out ((Later.refl _).drew.trans hW) rnone11) ?_
        intro y W hLW hB4 hB5 hPW
        have HLW := hide hLW
        have HB4 := hide hB4
        have HB5 := hide hB5
        have HPW := hide hPW
        clear hLW hB4 hB5 hPW
        go_wp2
        exact bodyPost_ret (results_cell_cell' rfl _ _ _ gv 0 gi 0 rfl rfl _ _ (load_unit HB4.out rfl) (load_intent HB5.out HPW.out.one.2.1)) rfl ⟨_, y, rfl, HLW.out, (by rw [HR.out]; exact HPW.out)⟩
end Go.Proofs.YtfakboehmcimpaaGreat
