import Derived.Test.YtfakboehmcimpaaGreatMBA
import Derived.Test.YtfakboehmcimpaaGreatMAV
import Derived.Test.YtfakboehmcimpaaGreatMAZ
namespace Go.Proofs.YtfakboehmcimpaaGreat
open Go.ChangeShapes Go.WideShapes Go.ChangeAt Go.RowKit
set_option linter.unusedVariables false
set_option maxRecDepth 4000
set_option linter.unusedSimpArgs false
/-! The landed intent: insert, startStop. -/
def insM (p : Bool) (M : List Sns) : List Sns := if p then M else addL M (6, 40, 0)
/-- a slice goes into a variable's cell, last in a region -/
theorem wpL_storeV {P : Program} {ops : Array Oper} {Q : Exit → Act → World → Prop} {τ : List Nat} {i : Nat} {a : Act} {w : World} {ty : TypeId} {x y : Operand} (h : OpAt ops i none (.store ty x y)) (g o : Nat) (hx : a.eval x = .pointer (some ⟨g, o, none⟩)) (A : Option Addr) (n c : Nat) (hy : a.eval y = .slice A n c)
    (hs : (P.info? ty).map (·.size) = some 1) (t : TypeId) (cs : List Value) (hB : Box w g t cs) (hl : o < cs.length)
    (hk : wpL P ops Q τ a (w.setCells g o [.slice A n c])) : wpL P ops Q (i :: τ) a w := by
  obtain ⟨op, q1, q2, q3, q4⟩ := h
  refine wpL_cons q1 fun K hK => ?_
  rw [if_pos (by simp [Region.wanted, q2])]
  have hc : w.cell? ⟨g, o, none⟩ = some (cs[o]'hl) := by rw [hB.cell o, List.getElem?_eq_getElem hl]
  have hf := hB.frozen o
  have hrun : (Instr.storeAt ty (.pointer (some ⟨g, o, none⟩)) (.slice A n c)).run P w = .ok () (w.setCells g o [.slice A n c]) := by
    simp [Instr.storeAt, Instr.sureAddr, storeVar, run_size hs, Value.cells, World.setCells]
    go_simp
  unfold Go.Oper.wp
  simp [execOp, q4, hx, hy, hrun, Result.andThen]
  exact hK _ _ (by rw [q3]; exact hk)
theorem wpT_twoD {P : Program} {ops : Array Oper} {Q : Exit → Act → World → Prop} {τ : List Nat} {a : Act} {b : World} (c1 c2 : Nat) (d1 d2 : Option Tmp) (e1 : dstOf ops c1 = d1) (e2 : dstOf ops c2 = d2) (hne : c1 ≠ c2) (R1 : Value → World → Prop) (R2 : Value → Value → World → Prop) (hd : ([c1, c2].all fun i => ([c1, c2].filter fun k => dep .any ops i k) == (if i = c2 then [c1] else [])) = true)
    (s1 : ∀ v w w', Later w w' → R1 v w → R1 v w') (s2 : ∀ v u w w', Later w w' → R2 v u w → R2 v u w') (h1 : ∀ W, Later b W → lVal P ops c1 R1 a W) (h2 : ∀ v W, Later b W → R1 v W → lVal P ops c2 (R2 v) (a.put d1 v) W)
    (h : ∀ v u W, Later b W → R2 v u W → wpL P ops Q τ ((a.put d1 v).put d2 u) W) : wpT P ops Q τ [c1, c2] [] a b := by
  subst e1 e2
  exact wpT_two c1 c2 hne R1 R2 hd s1 s2 h1 h2 h
set_option maxRecDepth 20000 in
set_option maxHeartbeats 4000000 in
theorem insert11_c {ab : Option Addr} {n cb : Nat} {aD : Option Addr} {k cD : Nat} {F : List UInt8} {D : List Drt} {p r l cc : Bool} {am : Option Addr} {m cm : Nat} {s : Sns} {M : List Sns} (w : World) (hm : Med w (.agg #[.slice ab n cb, .slice aD k cD]) n F D) (hA : Sl w (.slice am m cm) M) (hn : n ≤ 100) (hD : D.length ≤ 100) (hm1 : m ≤ 100) :
    Calls Tryz.prog 70 #[uval ab n cb aD k cD p r l cc am m cm s] w fun e w' => ∃ ab' cb' aD' k' cD' am' cm', e = .returned (uval ab' n cb' aD' k' cD' true r l cc am' (insM p M).length cm' s) ∧ Later w w' ∧ Med w' (.agg #[.slice ab' n cb', .slice aD' k' cD']) n F D ∧ At11 w w' am cm M am' cm' (insM p M) := by
  have HML : Hid (m = M.length) := by
    obtain ⟨a', c', e'⟩ := hA.1.shape
    simp at e'
    exact e'.2.1
  have HM := hide hm
  have HA := hide hA
  have HN := hide (And.intro hn (And.intro hD hm1))
  clear hm hA hn hD hm1
  have BU := hide ((Box.new w 32 (uc ab n cb aD k cD p r l cc am m cm s).toArray).alloc (.cells zU.toArray 32))
  have BV : Hid (Box _ (w.heap.size + 1) 32 zU) := Box.new' (w.alloc (.cells (uc ab n cb aD k cD p r l cc am m cm s).toArray 32)) 32 zU.toArray _ rfl _ (by simp)
  have LL := hide (((Later.refl w).alloc (.cells (uc ab n cb aD k cD p r l cc am m cm s).toArray 32)).alloc (.cells zU.toArray 32))
  replace HM := hide (HM.out.later LL.out)
  have x_0 := BU.out.cell 0
  have x_1 := BU.out.cell 1
  have x_2 := BU.out.cell 2
  have x_3 := BU.out.cell 3
  have x_4 := BU.out.cell 4
  have x_5 := BU.out.cell 5
  have x_6 := BU.out.cell 6
  have x_7 := BU.out.cell 7
  have x_8 := BU.out.cell 8
  have x_9 := BU.out.cell 9
  go_enter Tryz.func70, Tryz.ntmps70
  go_wp2_with fail
  clear x_0 x_1 x_2 x_3 x_4 x_5 x_6 x_7 x_8 x_9
  generalize (w.alloc (.cells (uc ab n cb aD k cD p r l cc am m cm s).toArray 32)).alloc (.cells zU.toArray 32) = w1 at *
  obtain ⟨gu, hgu⟩ : ∃ gu, gu = w.heap.size := ⟨_, rfl⟩
  obtain ⟨gv, hgv⟩ : ∃ gv, gv = w.heap.size + 1 := ⟨_, rfl⟩
  rw [← hgv] at BV ⊢
  rw [← hgu] at BU ⊢
  have HG : Hid (w.heap.size ≤ gu ∧ w.heap.size ≤ gv ∧ gu ≠ gv) := by rw [Hid]; omega
  clear hgu hgv
  refine (sinsert_c _ n F D p r l w1 ⟨ab, cb, aD, k, cD, rfl, HM.out⟩ HN.out.1 HN.out.2.1).mono ?_
  rintro e w2 ⟨v2, rfl, hl, hs2⟩
  obtain ⟨b3, f3, b6, j6, f6, rfl, hm2⟩ := hs2
  replace BU := hide (BU.out.later hl)
  replace BV := hide (BV.out.later hl)
  replace LL := hide (LL.out.trans hl)
  replace HM := hide hm2
  clear hl hm2
  go_wp2_with (refine wpList_newT rfl rfl rfl 3 rfl (by simp) (.tmp 9) (by simp) rfl b3 b6 n f3 j6 f6 true r l rfl ?_)
  intro g6 w3 hB6 hl hg
  replace BU := hide (BU.out.later hl)
  replace BV := hide (BV.out.later hl)
  replace HM := hide (HM.out.later hl)
  replace LL := hide (LL.out.trans hl)
  have B6 := hide hB6
  clear hB6 hl hg
  have d0 := B6.out.cell 0
  have d1 := B6.out.cell 1
  have d2 := B6.out.cell 2
  have d3 := B6.out.cell 3
  have d4 := B6.out.cell 4
  go_wp2_with (refine wpList_storeU rfl 27 (.tmp 12) (.tmp 11) rfl gu 0 rfl (tc (.slice b3 n f3) (.slice b6 j6 f6) true r l) rfl Tryz.info_slot (tc_one _ _ _ _ _ _ _ _ _) _ _ BU.out (by simp) ?_)
  intro w4 h4
  clear d0 d1 d2 d3 d4 B6
  have BUn : Hid (Box w4 gu 32 (uc b3 n f3 b6 j6 f6 true r l cc am m cm s)) := hide (by have h := BU.out.setCells (tc (.slice b3 n f3) (.slice b6 j6 f6) true r l) 0 (by simp); rw [← h4.out] at h; exact h)
  replace BV : Hid (Box w4 gv 32 zU) := hide (by have h := BV.out.apart gu (by have := HG.out; omega) (tc (.slice b3 n f3) (.slice b6 j6 f6) true r l) 0; rw [← h4.out] at h; exact h)
  replace LL : Hid (Later w w4) := hide (by have h := LL.out.setCells HG.out.1 (tc (.slice b3 n f3) (.slice b6 j6 f6) true r l) 0; rw [← h4.out] at h; exact h)
  replace HM : Hid (Med w4 _ n _ _) := hide (by have h := HM.out.setNoB BU.out (uc_nob _ _ _ _ _ _ _ _ _ _ _ _ _ _) (tc (.slice b3 n f3) (.slice b6 j6 f6) true r l) 0; rw [← h4.out] at h; exact h)
  replace BU := BUn
  clear BUn h4
  cases p with
  | true =>
    have HI : Hid (insM true M = M) := rfl
    have x_0 := BU.out.cell 0
    have x_1 := BU.out.cell 1
    have x_2 := BU.out.cell 2
    have x_3 := BU.out.cell 3
    have x_4 := BU.out.cell 4
    have x_5 := BU.out.cell 5
    have x_6 := BU.out.cell 6
    have x_7 := BU.out.cell 7
    have x_8 := BU.out.cell 8
    have x_9 := BU.out.cell 9
    go_wp2_with (refine wpList_storeU rfl 32 (.tmp 2) (.tmp 19) rfl gv 0 rfl (uc b3 n f3 b6 j6 f6 true r l cc am m cm s) rfl Tryz.info_unit (uc_one _ _ _ _ _ _ _ _ _ _ _ _ _ _) _ _ BV.out (by simp) ?_)
    intro wz hz
    have BZ : Hid (Box wz gv 32 (uc b3 n f3 b6 j6 f6 true r l cc am m cm s)) := by rw [hz.out]; exact BV.out.all _ rfl
    have LZ : Hid (Later w wz) := by rw [hz.out]; exact LL.out.setCells HG.out.2.1 _ _
    have MZ : Hid (Med wz (.agg #[.slice b3 n f3, .slice b6 j6 f6]) n F D) := by rw [hz.out]; exact HM.out.setNoB BV.out (uc_nob _ _ _ _ _ _ _ _ _ _ _ _ _ _) _ _
    clear hz
    clear x_0 x_1 x_2 x_3 x_4 x_5 x_6 x_7 x_8 x_9
    go_wp2
    refine bodyPost_ret (results_cell1 rfl _ _ _ gv 0 rfl (uval b3 n f3 b6 j6 f6 true r l cc am m cm s) (load_unit BZ.out rfl)) rfl ⟨b3, f3, b6, j6, f6, am, cm, ?_, LZ.out, MZ.out, ?_⟩
    · rw [HI.out, ← HML.out]
    · rw [HI.out]
      exact At11.same
  | false =>
    have HI : Hid (insM false M = addL M (6, 40, 0)) := rfl
    have x_6 := fun q => (BU.out.later ((Later.refl w4).drew.trans (later_rg w4.drew q))).cell 6
    go_wp2_with fail
    refine wp_region_tree [0, 1] [2, 3] [4, 5] (by kernel_rfl) (by kernel_rfl) (by kernel_rfl) (by kernel_rfl) ?_
    iterate 2 (refine wpT_mild rfl (fun K hK => ?_); go_simp; refine hK _ ?_; clear hK K)
    clear x_6
    refine wpT_twoD 2 3 (some 16) (some 17) rfl rfl (by decide) (fun v _ => v = sval (6, 40, 0)) (fun _ u W => ∃ am' cm', u = .slice am' (addL M (6, 40, 0)).length cm' ∧ W.ownsRow w.heap.size 30 3 u (addL M (6, 40, 0)).length (sv (addL M (6, 40, 0)))) (by kernel_rfl) (fun _ _ _ _ h => h) ?t2 ?t3 ?t4 ?t5
    case t2 =>
      rintro v u W W' hl ⟨a', c', e, h⟩
      exact ⟨a', c', e, owns_later h hl⟩
    case t3 =>
      intro W hW
      refine lVal_callAt ⟨_, rfl, rfl, rfl, rfl⟩ (Plain.of (by kernel_rfl)) [] rfl ((con_NewMedium W).mono ?_)
      rintro e w' ⟨rfl, hl⟩
      exact ⟨_, rfl, hl, rfl⟩
    case t4 =>
      rintro v W hW rfl
      have hw := (Later.refl w4).drew.trans hW
      refine lVal_callAt ⟨_, rfl, rfl, rfl, rfl⟩ (Plain.of (by kernel_rfl)) [.slice am m cm, sval (6, 40, 0)] rfl ((sadd_o _ M (6, 40, 0) W (HA.out.later (LL.out.trans hw)) (okS_of _ (by decide)) (by have h1 := HML.out; have h2 := HN.out; omega)).mono ?_)
      rintro e w' ⟨v', rfl, hl, ho⟩
      obtain ⟨a', c', rfl⟩ := (Rw.of_owns ho).shape
      exact ⟨_, rfl, hl, a', c', rfl, owns_rebase ho (Nat.le_trans LL.out.size hw.size)⟩
    case t5 =>
      rintro v u W hW ⟨a', c', rfl, ho⟩
      have hw := (Later.refl w4).drew.trans hW
      refine wpL_cons rfl (fun K hK => ?_)
      go_simp
      refine hK _ _ ?_
      clear hK K
      refine wpL_storeV ⟨_, rfl, rfl, rfl, rfl⟩ gu 6 rfl a' _ c' rfl Tryz.info1_sns10 _ _ (BU.out.later hw) (by simp) ?_
      have BUn : Hid (Box (W.setCells gu 6 [.slice a' (addL M (6, 40, 0)).length c']) gu 32 (uc b3 n f3 b6 j6 f6 true r l cc a' (addL M (6, 40, 0)).length c' s)) := hide ((BU.out.later hw).setCells [.slice a' (addL M (6, 40, 0)).length c'] 6 (by simp))
      have O : Hid ((W.setCells gu 6 [.slice a' (addL M (6, 40, 0)).length c']).ownsRow w.heap.size 30 3 (.slice a' (addL M (6, 40, 0)).length c') (addL M (6, 40, 0)).length (sv (addL M (6, 40, 0)))) := owns_setBox10 ho (BU.out.later hw) (by decide) _ _
      replace BV := hide ((BV.out.later hw).apart gu (by have := HG.out; omega) [.slice a' (addL M (6, 40, 0)).length c'] 6)
      replace LL := hide ((LL.out.trans hw).setCells HG.out.1 [.slice a' (addL M (6, 40, 0)).length c'] 6)
      replace HM := hide ((HM.out.later hw).setNoB (BU.out.later hw) (uc_nob _ _ _ _ _ _ _ _ _ _ _ _ _ _) [.slice a' (addL M (6, 40, 0)).length c'] 6)
      clear BU hw hW ho
      have HOk : Hid (∀ x ∈ addL M (6, 40, 0), OkS x) := addL_ok HA.out.2 (okS_of _ (by decide))
      generalize W.setCells gu 6 [.slice a' (addL M (6, 40, 0)).length c'] = w5 at *
      clear HA W
      refine wpL_nil ?_
      generalize addL M (6, 40, 0) = M2 at *
      obtain ⟨m2, hm2⟩ : ∃ m2, m2 = M2.length := ⟨_, rfl⟩
      rw [← hm2] at BUn O ⊢
      have HM2 := hide hm2
      clear hm2
      have x_0 := BUn.out.cell 0
      have x_1 := BUn.out.cell 1
      have x_2 := BUn.out.cell 2
      have x_3 := BUn.out.cell 3
      have x_4 := BUn.out.cell 4
      have x_5 := BUn.out.cell 5
      have x_6 := BUn.out.cell 6
      have x_7 := BUn.out.cell 7
      have x_8 := BUn.out.cell 8
      have x_9 := BUn.out.cell 9
      go_wp2_with (refine wpList_storeU rfl 32 (.tmp 2) (.tmp 19) rfl gv 0 rfl (uc b3 n f3 b6 j6 f6 true r l cc a' m2 c' s) rfl Tryz.info_unit (uc_one _ _ _ _ _ _ _ _ _ _ _ _ _ _) _ _ BV.out (by simp) ?_)
      intro wz hz
      have BZ : Hid (Box wz gv 32 (uc b3 n f3 b6 j6 f6 true r l cc a' m2 c' s)) := by rw [hz.out]; exact BV.out.all _ rfl
      have LZ : Hid (Later w wz) := by rw [hz.out]; exact LL.out.setCells HG.out.2.1 _ _
      have MZ : Hid (Med wz (.agg #[.slice b3 n f3, .slice b6 j6 f6]) n F D) := by rw [hz.out]; exact HM.out.setNoB BV.out (uc_nob _ _ _ _ _ _ _ _ _ _ _ _ _ _) _ _
      have OZ : Hid (wz.ownsRow w.heap.size 30 3 (.slice a' m2 c') m2 (sv M2)) := by rw [hz.out]; exact owns_setBox10 O.out BV.out (by decide) _ _
      clear hz
      clear x_0 x_1 x_2 x_3 x_4 x_5 x_6 x_7 x_8 x_9
      go_wp2
      refine bodyPost_ret (results_cell1 rfl _ _ _ gv 0 rfl (uval b3 n f3 b6 j6 f6 true r l cc a' m2 c' s) (load_unit BZ.out rfl)) rfl ⟨b3, f3, b6, j6, f6, a', c', by rw [HI.out, ← HM2.out], LZ.out, MZ.out, ?_⟩
      rw [HI.out]
      exact .inr ⟨by have h := OZ.out; rwa [HM2.out] at h, HOk.out⟩
set_option maxRecDepth 20000 in
set_option maxHeartbeats 8000000 in
theorem stop11_c {ab : Option Addr} {n cb : Nat} {aD : Option Addr} {k cD : Nat} {F : List UInt8} {D : List Drt} {p r l cc : Bool} {am : Option Addr} {m cm : Nat} {s : Sns} {M : List Sns} (bits : Int) (w : World) (hm : Med w (.agg #[.slice ab n cb, .slice aD k cD]) n F D) (hA : Sl w (.slice am m cm) M) (hb : In64 bits) (hn : n ≤ 100) (hD : D.length ≤ 100) (hm1 : m ≤ 100) :
    Calls Tryz.prog 26 #[uval ab n cb aD k cD p r l cc am m cm s, .int .i64 bits] w fun e w' => ∃ x y, e = .returned (.tuple #[.agg x.toArray, .agg y.toArray]) ∧ Later w w' ∧ PdI w n r cc am cm M (stI n F D p l M s bits) x y w' := by
  have HML : Hid (m = M.length) := by
    obtain ⟨a', c', e'⟩ := hA.1.shape
    simp at e'
    exact e'.2.1
  have HM := hide hm
  have HA := hide hA
  have HN := hide (And.intro hn (And.intro hD hm1))
  clear hm hA hn hD hm1 hb
  have HR0 : Hid (stI n F D p l M s bits = if bits = 3 then ((F, D, true, l, if p then M else addL M (6, 40, 0), s), noneI (0, 0, 0)) else if bits = 2 then ((btF p l n F D, btD p l n D, p && l, l, M, s), noneI (ulS p l)) else if readyS p = (0, 0, 0) ∧ bits = 0 then ((syncF n F D, syncD n D, p, l, M, s), noneI (readyS p)) else ((F, D, p, l, M, s), noneI (readyS p))) := rfl
  have BU := hide (((Box.new w 32 (uc ab n cb aD k cD p r l cc am m cm s).toArray).alloc (.cells zU.toArray 32)).alloc (.cells zI.toArray 44))
  have BV : Hid (Box _ (w.heap.size + 1) 32 zU) := (Box.new' (w.alloc (.cells (uc ab n cb aD k cD p r l cc am m cm s).toArray 32)) 32 zU.toArray _ rfl _ (by simp)).alloc (.cells zI.toArray 44)
  have BI : Hid (Box _ (w.heap.size + 1 + 1) 44 zI) := Box.new' ((w.alloc (.cells (uc ab n cb aD k cD p r l cc am m cm s).toArray 32)).alloc (.cells zU.toArray 32)) 44 zI.toArray _ rfl _ (by simp)
  have LL := hide ((((Later.refl w).alloc (.cells (uc ab n cb aD k cD p r l cc am m cm s).toArray 32)).alloc (.cells zU.toArray 32)).alloc (.cells zI.toArray 44))
  replace HM := hide (HM.out.later LL.out)
  have x_0 := BU.out.cell 0
  have x_1 := BU.out.cell 1
  have x_2 := BU.out.cell 2
  have x_3 := BU.out.cell 3
  have x_4 := BU.out.cell 4
  have x_5 := BU.out.cell 5
  have x_6 := BU.out.cell 6
  have x_7 := BU.out.cell 7
  have x_8 := BU.out.cell 8
  have x_9 := BU.out.cell 9
  go_enter Tryz.func26, Tryz.ntmps26
  go_wp2_with fail
  clear x_0 x_1 x_2 x_3 x_4 x_5 x_6 x_7 x_8 x_9
  generalize ((w.alloc (.cells (uc ab n cb aD k cD p r l cc am m cm s).toArray 32)).alloc (.cells zU.toArray 32)).alloc (.cells zI.toArray 44) = w1 at *
  obtain ⟨gu, hgu⟩ : ∃ gu, gu = w.heap.size := ⟨_, rfl⟩
  obtain ⟨gv, hgv⟩ : ∃ gv, gv = w.heap.size + 1 := ⟨_, rfl⟩
  obtain ⟨gi, hgi⟩ : ∃ gi, gi = w.heap.size + 1 + 1 := ⟨_, rfl⟩
  rw [← hgi] at BI ⊢
  rw [← hgv] at BV ⊢
  rw [← hgu] at BU ⊢
  have HG : Hid (w.heap.size ≤ gu ∧ w.heap.size ≤ gv ∧ w.heap.size ≤ gi ∧ gu ≠ gv ∧ gu ≠ gi ∧ gv ≠ gi) := by rw [Hid]; omega
  clear hgu hgv hgi
  refine (sready_c _ n F D p r l w1 ⟨ab, cb, aD, k, cD, rfl, HM.out⟩).mono ?_
  rintro e w2 ⟨rfl, hl⟩
  replace BU := hide (BU.out.later hl)
  replace BV := hide (BV.out.later hl)
  replace BI := hide (BI.out.later hl)
  replace HM := hide (HM.out.later hl)
  replace LL := hide (LL.out.trans hl)
  clear hl
  have HOr := hide (okS_ready p)
  go_wp2_with (refine wpList_newS rfl rfl rfl 6 rfl (by simp) (.tmp 9) (by simp) rfl (readyS p) rfl ?_)
  intro g6 w3 hB6 hl hg
  have HQ := hide LL.out.size
  replace BU := hide (BU.out.later hl)
  replace BV := hide (BV.out.later hl)
  replace BI := hide (BI.out.later hl)
  replace HM := hide (HM.out.later hl)
  replace LL := hide (LL.out.trans hl)
  have B6 := hide hB6
  have HG6 : Hid (g6 ≠ gu ∧ w.heap.size ≤ g6 ∧ g6 ≠ gv ∧ g6 ≠ gi) := ⟨box_ne B6.out BU.out (by decide), by rw [hg.out.1]; exact HQ.out, box_ne B6.out BV.out (by decide), box_ne B6.out BI.out (by decide)⟩
  clear hB6 hl hg
  by_cases h3 : bits = 3
  · have e3 : (bits == 3) = true := by simp [h3]
    have HR : Hid (stI n F D p l M s bits = ((F, D, true, l, insM p M, s), noneI (0, 0, 0))) := by rw [Hid, HR0.out, if_pos h3]; rfl
    clear h3 HR0
    have x_0 := BU.out.cell 0
    have x_1 := BU.out.cell 1
    have x_2 := BU.out.cell 2
    have x_3 := BU.out.cell 3
    have x_4 := BU.out.cell 4
    have x_5 := BU.out.cell 5
    have x_6 := BU.out.cell 6
    have x_7 := BU.out.cell 7
    have x_8 := BU.out.cell 8
    have x_9 := BU.out.cell 9
    go_wp2_with fail
    clear x_0 x_1 x_2 x_3 x_4 x_5 x_6 x_7 x_8 x_9
    refine (insert11_c (M := M) w3 HM.out (HA.out.later LL.out) HN.out.1 HN.out.2.1 HN.out.2.2).mono ?_
    rintro e w4 ⟨xb, xcb, xd, xk, xcD, am', cm', rfl, hl, hm4, ha4⟩
    have HT : Hid (At11 w w4 am cm M am' cm' (insM p M)) := ha4.base LL.out.size
    replace BU := hide (BU.out.later hl)
    replace BV := hide (BV.out.later hl)
    replace BI := hide (BI.out.later hl)
    replace HM := hide (HM.out.later hl)
    replace LL := hide (LL.out.trans hl)
    replace HM := hide hm4
    clear hl hm4 ha4 B6
    generalize insM p M = M2 at *
    obtain ⟨m2, hm2⟩ : ∃ m2, m2 = M2.length := ⟨_, rfl⟩
    rw [← hm2]
    have HM2 := hide hm2
    clear hm2
    go_wp2_with fail
    refine (inone11_c (0, 0, 0) w4).mono ?_
    rintro e w5 ⟨rfl, hl⟩
    replace BU := hide (BU.out.later hl)
    replace BV := hide (BV.out.later hl)
    replace BI := hide (BI.out.later hl)
    replace HM := hide (HM.out.later hl)
    replace LL := hide (LL.out.trans hl)
    replace HT := hide (HT.out.later hl)
    clear hl
    go_wp2_with (refine wpList_storeU rfl 32 (.tmp 4) (.tmp 14) rfl gv 0 rfl (uc xb n xcb xd xk xcD true r l cc am' m2 cm' s) rfl Tryz.info_unit (uc_one _ _ _ _ _ _ _ _ _ _ _ _ _ _) _ _ BV.out (by simp) ?_)
    intro w6 h6
    replace HT : Hid (At11 w w6 am cm M am' cm' M2) := by rw [h6.out]; exact HT.out.set BV.out (by decide) _ _
    replace HM : Hid (Med w6 (.agg #[.slice xb n xcb, .slice xd xk xcD]) n F D) := by rw [h6.out]; exact HM.out.setNoB BV.out (uc_nob _ _ _ _ _ _ _ _ _ _ _ _ _ _) _ _
    replace BI : Hid (Box w6 gi 44 zI) := by rw [h6.out]; exact BI.out.apart gv (by have := HG.out; omega) _ _
    replace LL : Hid (Later w w6) := by rw [h6.out]; exact LL.out.setCells HG.out.2.1 _ _
    replace BV : Hid (Box w6 gv 32 (uc xb n xcb xd xk xcD true r l cc am' m2 cm' s)) := by rw [h6.out]; exact BV.out.all _ rfl
    clear h6 BU
    go_wp2_with (refine wpList_storeU rfl 44 (.tmp 5) (.tmp 16) rfl gi 0 rfl (ic 0 0 none 0 0 (0, 0, 0, 0, 0) 0 0 none 0 0 (0, 0, 0) (0, 0, 0)) rfl Tryz.info_intent (ic_one _ _ _ _ _ _ _ _ _ _ _ _ _) _ _ BI.out (by simp) ?_)
    intro w7 h7
    replace HT : Hid (At11 w w7 am cm M am' cm' M2) := by rw [h7.out]; exact HT.out.set BI.out (by decide) _ _
    replace HM : Hid (Med w7 (.agg #[.slice xb n xcb, .slice xd xk xcD]) n F D) := by rw [h7.out]; exact HM.out.setNoB BI.out (ic_nob _ _ _ _ _ _ _ _ _ _ _ _ _) _ _
    replace BV : Hid (Box w7 gv 32 (uc xb n xcb xd xk xcD true r l cc am' m2 cm' s)) := by rw [h7.out]; exact BV.out.apart gi (by have := HG.out; omega) _ _
    replace LL : Hid (Later w w7) := by rw [h7.out]; exact LL.out.setCells HG.out.2.2.1 _ _
    replace BI : Hid (Box w7 gi 44 (ic 0 0 none 0 0 (0, 0, 0, 0, 0) 0 0 none 0 0 (0, 0, 0) (0, 0, 0))) := by rw [h7.out]; exact BI.out.all _ rfl
    clear h7
    go_wp2
    refine bodyPost_ret (results_cell_cell' rfl _ _ _ gv 0 gi 0 rfl rfl _ _ (load_unit BV.out rfl) (load_intent BI.out rfl)) rfl ⟨_, _, rfl, LL.out, ?_⟩
    rw [HR.out]
    exact PdI.mk11 HM.out HT.out HM2.out ⟨none, 0, none, 0, rfl, Bs.nil w7⟩
  · have e3 : (bits == 3) = false := by simp [h3]
    by_cases h2 : bits = 2
    · have e2 : (bits == 2) = true := by simp [h2]
      have HR : Hid (stI n F D p l M s bits = ((btF p l n F D, btD p l n D, p && l, l, M, s), noneI (ulS p l))) := by rw [Hid, HR0.out, if_neg h3, if_pos h2]
      clear h3 h2 HR0
      have d0 := BU.out.cell 0
      have d1 := BU.out.cell 1
      have d2 := BU.out.cell 2
      have d3 := BU.out.cell 3
      have d4 := BU.out.cell 4
      go_wp2_with fail
      clear d0 d1 d2 d3 d4
      refine (sunload_c _ n F D p r l w3 ⟨ab, cb, aD, k, cD, rfl, HM.out⟩ HN.out.1 HN.out.2.1).mono ?_
      rintro e w4 ⟨v4, rfl, hl, hs4⟩
      obtain ⟨b3, f3, b6, j6, f6, rfl, hm4⟩ := hs4
      replace BU := hide (BU.out.later hl)
      replace BV := hide (BV.out.later hl)
      replace BI := hide (BI.out.later hl)
      replace HM := hide (HM.out.later hl)
      replace LL := hide (LL.out.trans hl)
      replace B6 := hide (B6.out.later hl)
      replace HM := hide hm4
      clear hl hm4
      generalize (p && l) = p2 at *
      generalize ulS p l = S at *
      generalize btF p l n F D = F2 at *
      generalize btD p l n D = D2 at *
      go_wp2_with (refine wpList_storeU rfl 27 (.tmp 25) (.tmp 23) rfl gu 0 rfl (tc (.slice b3 n f3) (.slice b6 j6 f6) p2 r l) rfl Tryz.info_slot (tc_one _ _ _ _ _ _ _ _ _) _ _ BU.out (by simp) ?_)
      intro w5 h5
      replace B6 : Hid (Box w5 g6 30 (sc (readyS p))) := by rw [h5.out]; exact B6.out.apart gu HG6.out.1 _ _
      have BUn : Hid (Box _ gu 32 (uc b3 n f3 b6 j6 f6 p2 r l cc am m cm s)) := hide (by have h := BU.out.setCells (tc (.slice b3 n f3) (.slice b6 j6 f6) p2 r l) 0 (by simp); rw [← h5.out] at h; exact h)
      replace BV : Hid (Box _ gv 32 zU) := hide (by have h := BV.out.apart gu (by have := HG.out; omega) (tc (.slice b3 n f3) (.slice b6 j6 f6) p2 r l) 0; rw [← h5.out] at h; exact h)
      replace BI : Hid (Box _ gi 44 zI) := hide (by have h := BI.out.apart gu (by have := HG.out; omega) (tc (.slice b3 n f3) (.slice b6 j6 f6) p2 r l) 0; rw [← h5.out] at h; exact h)
      replace LL : Hid (Later w _) := hide (by have h := LL.out.setCells HG.out.1 (tc (.slice b3 n f3) (.slice b6 j6 f6) p2 r l) 0; rw [← h5.out] at h; exact h)
      replace HM : Hid (Med _ _ n _ _) := hide (by have h := HM.out.setNoB BU.out (uc_nob _ _ _ _ _ _ _ _ _ _ _ _ _ _) (tc (.slice b3 n f3) (.slice b6 j6 f6) p2 r l) 0; rw [← h5.out] at h; exact h)
      replace BU := BUn
      clear BUn h5
      go_wp2_with (refine wpList_storeU rfl 30 (.tmp 6) (.tmp 24) rfl g6 0 rfl (sc S) rfl Tryz.info_sense (sc_one _) _ _ B6.out (by simp) ?_)
      intro w6 h6
      replace BU : Hid (Box w6 gu 32 (uc b3 n f3 b6 j6 f6 p2 r l cc am m cm s)) := by rw [h6.out]; exact BU.out.apart g6 (fun e => HG6.out.1 e.symm) _ _
      replace BV : Hid (Box w6 gv 32 zU) := by rw [h6.out]; exact BV.out.apart g6 (fun e => HG6.out.2.2.1 e.symm) _ _
      replace BI : Hid (Box w6 gi 44 zI) := by rw [h6.out]; exact BI.out.apart g6 (fun e => HG6.out.2.2.2 e.symm) _ _
      replace HM : Hid (Med w6 (.agg #[.slice b3 n f3, .slice b6 j6 f6]) n F2 D2) := by rw [h6.out]; exact HM.out.setNoB B6.out (sc_nob _) _ _
      replace LL : Hid (Later w w6) := by rw [h6.out]; exact LL.out.setCells HG6.out.2.1 _ _
      replace B6 : Hid (Box w6 g6 30 (sc S)) := by rw [h6.out]; exact B6.out.all _ rfl
      clear h6
      go_wp2_with fail
      refine wp_region_tree [0, 1] [2] [3, 4] (by kernel_rfl) (by kernel_rfl) (by kernel_rfl) (by kernel_rfl) ?_
      refine wpT_loadG rfl (by kernel_rfl) 32 (.tmp 2) rfl gu 0 rfl (uc b3 n f3 b6 j6 f6 p2 r l cc am m cm s) _ ((World.rangeAt_drew _ _ _ _).2 BU.out.range) Tryz.underlying32 rfl Tryz.info_unit ?_
      refine wpT_loadG rfl (by kernel_rfl) 30 (.tmp 6) rfl g6 0 rfl (sc S) _ ((World.rangeAt_drew _ _ _ _).2 B6.out.range) Tryz.underlying30 rfl Tryz.info_sense ?_
      refine fin_one (bb := w) w gv gi ((Fr11.mk LL.out HG.out.2.1 HG.out.2.2.1 HG.out.2.2.2.2.2 BV.out rfl (uc_nob _ _ _ _ _ _ _ _ _ _ _ _ _ _) BI.out rfl (ic_nob _ _ _ _ _ _ _ _ _ _ _ _ _)).later (Later.refl _).drew) 4 34 5 ⟨_, rfl, rfl, rfl, rfl⟩ ⟨_, rfl, rfl, rfl, rfl⟩ (uc b3 n f3 b6 j6 f6 p2 r l cc am m cm s) rfl rfl rfl (by simp [put_size]) (by decide) 18 (Plain.of (by kernel_rfl)) [.tmp 35] _ [sval S] rfl ⟨_, rfl, rfl, rfl, rfl⟩ (by kernel_rfl)
        (fun W hW => give11 HM.out At11.same HML.out ((Later.refl _).drew.trans hW) none11) ?_
      intro y W hLW hB4 hB5 hPW
      have HLW := hide hLW
      have HB4 := hide hB4
      have HB5 := hide hB5
      have HPW := hide hPW
      clear hLW hB4 hB5 hPW
      go_wp2
      exact bodyPost_ret (results_cell_cell' rfl _ _ _ gv 0 gi 0 rfl rfl _ _ (load_unit HB4.out rfl) (load_intent HB5.out HPW.out.one.2.1)) rfl ⟨_, y, rfl, HLW.out, (by rw [HR.out]; exact HPW.out)⟩
    · have e2 : (bits == 2) = false := by simp [h2]
      by_cases h0 : bits = 0
      · have e0 : (bits == 0) = true := by simp [h0]
        have HR1 : Hid (stI n F D p l M s bits = if readyS p = (0, 0, 0) then ((syncF n F D, syncD n D, p, l, M, s), noneI (readyS p)) else ((F, D, p, l, M, s), noneI (readyS p))) := by
          rw [Hid, HR0.out, if_neg h3, if_neg h2]
          simp only [h0, and_true]
        clear h3 h2 h0 HR0
        have t0 := B6.out.cell 0
        have t1 := B6.out.cell 1
        have t2 := B6.out.cell 2
        go_wp2_with fail
        clear t0 t1 t2
        refine (sgood_c (readyS p) w3 HOr.out).mono ?_
        rintro e w4 ⟨rfl, hl⟩
        replace BU := hide (BU.out.later hl)
        replace BV := hide (BV.out.later hl)
        replace BI := hide (BI.out.later hl)
        replace HM := hide (HM.out.later hl)
        replace LL := hide (LL.out.trans hl)
        replace B6 := hide (B6.out.later hl)
        clear hl
        cases p with
        | true =>
          have HR : Hid (stI n F D true l M s bits = ((syncF n F D, syncD n D, true, l, M, s), noneI (0, 0, 0))) := HR1.out
          clear HR1
          rw [show (readyS true == (0, 0, 0)) = true from rfl]
          have d0 := BU.out.cell 0
          have d1 := BU.out.cell 1
          have d2 := BU.out.cell 2
          have d3 := BU.out.cell 3
          have d4 := BU.out.cell 4
          go_wp2_with fail
          clear d0 d1 d2 d3 d4
          refine (ssync_c _ n F D true r l w4 ⟨ab, cb, aD, k, cD, rfl, HM.out⟩ HN.out.1 HN.out.2.1).mono ?_
          rintro e w5 ⟨v5, rfl, hl, hs5⟩
          obtain ⟨b3, f3, b6, j6, f6, rfl, hm5⟩ := hs5
          replace BU := hide (BU.out.later hl)
          replace BV := hide (BV.out.later hl)
          replace BI := hide (BI.out.later hl)
          replace HM := hide (HM.out.later hl)
          replace LL := hide (LL.out.trans hl)
          replace B6 := hide (B6.out.later hl)
          replace HM := hide hm5
          clear hl hm5
          generalize syncF n F D = F2 at *
          generalize syncD n D = D2 at *
          go_wp2_with (refine wpList_storeU rfl 27 (.tmp 33) (.tmp 32) rfl gu 0 rfl (tc (.slice b3 n f3) (.slice b6 j6 f6) true r l) rfl Tryz.info_slot (tc_one _ _ _ _ _ _ _ _ _) _ _ BU.out (by simp) ?_)
          intro w6 h6
          replace B6 : Hid (Box w6 g6 30 (sc (0, 0, 0))) := by rw [h6.out]; exact B6.out.apart gu HG6.out.1 _ _
          have BUn : Hid (Box _ gu 32 (uc b3 n f3 b6 j6 f6 true r l cc am m cm s)) := hide (by have h := BU.out.setCells (tc (.slice b3 n f3) (.slice b6 j6 f6) true r l) 0 (by simp); rw [← h6.out] at h; exact h)
          replace BV : Hid (Box _ gv 32 zU) := hide (by have h := BV.out.apart gu (by have := HG.out; omega) (tc (.slice b3 n f3) (.slice b6 j6 f6) true r l) 0; rw [← h6.out] at h; exact h)
          replace BI : Hid (Box _ gi 44 zI) := hide (by have h := BI.out.apart gu (by have := HG.out; omega) (tc (.slice b3 n f3) (.slice b6 j6 f6) true r l) 0; rw [← h6.out] at h; exact h)
          replace LL : Hid (Later w _) := hide (by have h := LL.out.setCells HG.out.1 (tc (.slice b3 n f3) (.slice b6 j6 f6) true r l) 0; rw [← h6.out] at h; exact h)
          replace HM : Hid (Med _ _ n _ _) := hide (by have h := HM.out.setNoB BU.out (uc_nob _ _ _ _ _ _ _ _ _ _ _ _ _ _) (tc (.slice b3 n f3) (.slice b6 j6 f6) true r l) 0; rw [← h6.out] at h; exact h)
          replace BU := BUn
          clear BUn h6
          go_wp2_with fail
          refine wp_region_tree [0, 1] [2] [3, 4] (by kernel_rfl) (by kernel_rfl) (by kernel_rfl) (by kernel_rfl) ?_
          refine wpT_loadG rfl (by kernel_rfl) 32 (.tmp 2) rfl gu 0 rfl (uc b3 n f3 b6 j6 f6 true r l cc am m cm s) _ ((World.rangeAt_drew _ _ _ _).2 BU.out.range) Tryz.underlying32 rfl Tryz.info_unit ?_
          refine wpT_loadG rfl (by kernel_rfl) 30 (.tmp 6) rfl g6 0 rfl (sc (0, 0, 0)) _ ((World.rangeAt_drew _ _ _ _).2 B6.out.range) Tryz.underlying30 rfl Tryz.info_sense ?_
          refine fin_one (bb := w) w gv gi ((Fr11.mk LL.out HG.out.2.1 HG.out.2.2.1 HG.out.2.2.2.2.2 BV.out rfl (uc_nob _ _ _ _ _ _ _ _ _ _ _ _ _ _) BI.out rfl (ic_nob _ _ _ _ _ _ _ _ _ _ _ _ _)).later (Later.refl _).drew) 4 34 5 ⟨_, rfl, rfl, rfl, rfl⟩ ⟨_, rfl, rfl, rfl, rfl⟩ (uc b3 n f3 b6 j6 f6 true r l cc am m cm s) rfl rfl rfl (by simp [put_size]) (by decide) 18 (Plain.of (by kernel_rfl)) [.tmp 35] _ [sval (0, 0, 0)] rfl ⟨_, rfl, rfl, rfl, rfl⟩ (by kernel_rfl)
            (fun W hW => give11 HM.out At11.same HML.out ((Later.refl _).drew.trans hW) none11) ?_
          intro y W hLW hB4 hB5 hPW
          have HLW := hide hLW
          have HB4 := hide hB4
          have HB5 := hide hB5
          have HPW := hide hPW
          clear hLW hB4 hB5 hPW
          go_wp2
          exact bodyPost_ret (results_cell_cell' rfl _ _ _ gv 0 gi 0 rfl rfl _ _ (load_unit HB4.out rfl) (load_intent HB5.out HPW.out.one.2.1)) rfl ⟨_, y, rfl, HLW.out, (by rw [HR.out]; exact HPW.out)⟩
        | false =>
          have HR : Hid (stI n F D false l M s bits = ((F, D, false, l, M, s), noneI (2, 58, 0))) := HR1.out
          clear HR1
          rw [show (readyS false == (0, 0, 0)) = false from rfl]
          go_wp2_with fail
          refine wp_region_tree [0, 1] [2] [3, 4] (by kernel_rfl) (by kernel_rfl) (by kernel_rfl) (by kernel_rfl) ?_
          refine wpT_loadG rfl (by kernel_rfl) 32 (.tmp 2) rfl gu 0 rfl (uc ab n cb aD k cD false r l cc am m cm s) _ ((World.rangeAt_drew _ _ _ _).2 BU.out.range) Tryz.underlying32 rfl Tryz.info_unit ?_
          refine wpT_loadG rfl (by kernel_rfl) 30 (.tmp 6) rfl g6 0 rfl (sc (2, 58, 0)) _ ((World.rangeAt_drew _ _ _ _).2 B6.out.range) Tryz.underlying30 rfl Tryz.info_sense ?_
          refine fin_one (bb := w) w gv gi ((Fr11.mk LL.out HG.out.2.1 HG.out.2.2.1 HG.out.2.2.2.2.2 BV.out rfl (uc_nob _ _ _ _ _ _ _ _ _ _ _ _ _ _) BI.out rfl (ic_nob _ _ _ _ _ _ _ _ _ _ _ _ _)).later (Later.refl _).drew) 4 34 5 ⟨_, rfl, rfl, rfl, rfl⟩ ⟨_, rfl, rfl, rfl, rfl⟩ (uc ab n cb aD k cD false r l cc am m cm s) rfl rfl rfl (by simp [put_size]) (by decide) 18 (Plain.of (by kernel_rfl)) [.tmp 35] _ [sval (2, 58, 0)] rfl ⟨_, rfl, rfl, rfl, rfl⟩ (by kernel_rfl)
            (fun W hW => give11 HM.out At11.same HML.out ((Later.refl _).drew.trans hW) none11) ?_
          intro y W hLW hB4 hB5 hPW
          have HLW := hide hLW
          have HB4 := hide hB4
          have HB5 := hide hB5
          have HPW := hide hPW
          clear hLW hB4 hB5 hPW
          go_wp2
          exact bodyPost_ret (results_cell_cell' rfl _ _ _ gv 0 gi 0 rfl rfl _ _ (load_unit HB4.out rfl) (load_intent HB5.out HPW.out.one.2.1)) rfl ⟨_, y, rfl, HLW.out, (by rw [HR.out]; exact HPW.out)⟩
      · have e0 : (bits == 0) = false := by simp [h0]
        have HR : Hid (stI n F D p l M s bits = ((F, D, p, l, M, s), noneI (readyS p))) := by rw [Hid, HR0.out, if_neg h3, if_neg h2, if_neg (fun h => h0 h.2)]
        clear h3 h2 h0 HR0
        generalize readyS p = S at *
        go_wp2_with fail
        refine wp_region_tree [0, 1] [2] [3, 4] (by kernel_rfl) (by kernel_rfl) (by kernel_rfl) (by kernel_rfl) ?_
        refine wpT_loadG rfl (by kernel_rfl) 32 (.tmp 2) rfl gu 0 rfl (uc ab n cb aD k cD p r l cc am m cm s) _ ((World.rangeAt_drew _ _ _ _).2 BU.out.range) Tryz.underlying32 rfl Tryz.info_unit ?_
        refine wpT_loadG rfl (by kernel_rfl) 30 (.tmp 6) rfl g6 0 rfl (sc S) _ ((World.rangeAt_drew _ _ _ _).2 B6.out.range) Tryz.underlying30 rfl Tryz.info_sense ?_
        refine fin_one (bb := w) w gv gi ((Fr11.mk LL.out HG.out.2.1 HG.out.2.2.1 HG.out.2.2.2.2.2 BV.out rfl (uc_nob _ _ _ _ _ _ _ _ _ _ _ _ _ _) BI.out rfl (ic_nob _ _ _ _ _ _ _ _ _ _ _ _ _)).later (Later.refl _).drew) 4 34 5 ⟨_, rfl, rfl, rfl, rfl⟩ ⟨_, rfl, rfl, rfl, rfl⟩ (uc ab n cb aD k cD p r l cc am m cm s) rfl rfl rfl (by simp [put_size]) (by decide) 18 (Plain.of (by kernel_rfl)) [.tmp 35] _ [sval S] rfl ⟨_, rfl, rfl, rfl, rfl⟩ (by kernel_rfl)
          (fun W hW => give11 HM.out At11.same HML.out ((Later.refl _).drew.trans hW) none11) ?_
        intro y W hLW hB4 hB5 hPW
        have HLW := hide hLW
        have HB4 := hide hB4
        have HB5 := hide hB5
        have HPW := hide hPW
        clear hLW hB4 hB5 hPW
        go_wp2
        exact bodyPost_ret (results_cell_cell' rfl _ _ _ gv 0 gi 0 rfl rfl _ _ (load_unit HB4.out rfl) (load_intent HB5.out HPW.out.one.2.1)) rfl ⟨_, y, rfl, HLW.out, (by rw [HR.out]; exact HPW.out)⟩
end Go.Proofs.YtfakboehmcimpaaGreat

namespace Go.Proofs.YtfakboehmcimpaaGreat
open Go.ChangeShapes Go.WideShapes Go.ChangeAt Go.RowKit
set_option linter.unusedVariables false
set_option maxRecDepth 4000
set_option linter.unusedSimpArgs false
/-! The landed intent: flushed, ofBlocks. -/
abbrev cmc (c : Cmd) : List Value := [.int .i64 c.1, .int .u64 (c.2.1 : Int), .int .i64 c.2.2.1, .int .i64 c.2.2.2.1, .int .i64 c.2.2.2.2]
def fsF (n : Nat) (F : List UInt8) (D : List Drt) (a m : Int) : List UInt8 := if flushE n D a m = 0 then flushF n F D a m else F
def fsD (n : Nat) (D : List Drt) (a m : Int) : List Drt := if flushE n D a m = 0 then flushD n D a m else D
theorem load_medium11 {w : World} {R : Nat} {x1 x2 : Option Addr} {n1 c1 n2 c2 : Nat} (h : Box w R 25 [.slice x1 n1 c1, .slice x2 n2 c2]) : (loadVar 25 ⟨R, 0, none⟩).run Tryz.prog w = .ok (.agg #[.slice x1 n1 c1, .slice x2 n2 c2]) w :=
  run_loadVar_mid _ _ _ _ [.slice x1 n1 c1, .slice x2 n2 c2] _ h.range Tryz.underlying25 rfl (zero_of_info Tryz.zero_medium).2
theorem md_nob (x1 x2 : Option Addr) (n1 c1 n2 c2 : Nat) : NoB [.slice x1 n1 c1, .slice x2 n2 c2] := by intro z h; simp at h
set_option maxRecDepth 20000 in
set_option maxHeartbeats 4000000 in
theorem flushed11_c {ab : Option Addr} {n cb : Nat} {aD : Option Addr} {k cD : Nat} {F : List UInt8} {D : List Drt} (op : Int) (at_ : Nat) (nn pg bt : Int) (w : World) (hm : Med w (.agg #[.slice ab n cb, .slice aD k cD]) n F D) (hn : In64 nn) (ha : at_ ≤ 1000) :
    Calls Tryz.prog 56 #[.agg #[.slice ab n cb, .slice aD k cD], cval (op, at_, nn, pg, bt)] w fun e w' => ∃ b3 f3 b6 j6 f6, e = .returned (.agg #[.slice b3 n f3, .slice b6 j6 f6]) ∧ Later w w' ∧ Med w' (.agg #[.slice b3 n f3, .slice b6 j6 f6]) n (fsF n F D at_ nn) (fsD n D at_ nn) := by
  have HM := hide hm
  have HI := hide hn
  have hwr : IntKind.i64.wrap (at_ : Int) = (at_ : Int) := by rw [IntKind.wrap_i64] <;> omega
  have HF : Hid (fsF n F D at_ nn = if flushE n D at_ nn = 0 then flushF n F D at_ nn else F) := rfl
  have HD : Hid (fsD n D at_ nn = if flushE n D at_ nn = 0 then flushD n D at_ nn else D) := rfl
  have HN : Hid (flushE n D at_ nn = 0 → flushN n D at_ nn = n) := fun h => by rw [flushN, if_pos h]
  clear hm hn
  have BX := hide (((Box.new w 25 #[.slice ab n cb, .slice aD k cD]).alloc (.cells #[.int .i64 op, .int .u64 (at_ : Int), .int .i64 nn, .int .i64 pg, .int .i64 bt] 36)).alloc (.cells #[.slice none 0 0, .slice none 0 0] 25))
  have BC : Hid (Box _ (w.heap.size + 1) 36 (cc (op, at_, nn, pg, bt))) := (Box.new' (w.alloc (.cells #[.slice ab n cb, .slice aD k cD] 25)) 36 #[.int .i64 op, .int .u64 (at_ : Int), .int .i64 nn, .int .i64 pg, .int .i64 bt] _ rfl _ (by simp)).alloc (.cells #[.slice none 0 0, .slice none 0 0] 25)
  have BR : Hid (Box _ (w.heap.size + 1 + 1) 25 [.slice none 0 0, .slice none 0 0]) := Box.new' ((w.alloc (.cells #[.slice ab n cb, .slice aD k cD] 25)).alloc (.cells #[.int .i64 op, .int .u64 (at_ : Int), .int .i64 nn, .int .i64 pg, .int .i64 bt] 36)) 25 #[.slice none 0 0, .slice none 0 0] _ rfl _ (by simp)
  have LL := hide ((((Later.refl w).alloc (.cells #[.slice ab n cb, .slice aD k cD] 25)).alloc (.cells #[.int .i64 op, .int .u64 (at_ : Int), .int .i64 nn, .int .i64 pg, .int .i64 bt] 36)).alloc (.cells #[.slice none 0 0, .slice none 0 0] 25))
  replace HM := hide (HM.out.later LL.out)
  have x0 := BX.out.cell 0
  have x1 := BX.out.cell 1
  have y1 := BC.out.cell 1
  have y2 := BC.out.cell 2
  go_enter Tryz.func56, Tryz.ntmps56
  go_wp2_with fail
  generalize ((w.alloc (.cells #[.slice ab n cb, .slice aD k cD] 25)).alloc (.cells #[.int .i64 op, .int .u64 (at_ : Int), .int .i64 nn, .int .i64 pg, .int .i64 bt] 36)).alloc (.cells #[.slice none 0 0, .slice none 0 0] 25) = w1 at *
  obtain ⟨gx, hgx⟩ : ∃ gx, gx = w.heap.size := ⟨_, rfl⟩
  obtain ⟨gr, hgr⟩ : ∃ gr, gr = w.heap.size + 1 + 1 := ⟨_, rfl⟩
  rw [← hgr] at BR ⊢
  rw [← hgx] at BX ⊢
  have HG : Hid (w.heap.size ≤ gr) := by rw [Hid]; omega
  clear hgr hgx x0 x1 y1 y2 BC
  refine (cflush3_x _ n F D (at_ : Int) nn w1 HM.out (by omega) (by omega) HI.out.1 HI.out.2).mono ?_
  rintro e w2 ⟨v2, rfl, hl, hm2, _⟩
  replace BX := hide (BX.out.later hl)
  replace BR := hide (BR.out.later hl)
  replace LL := hide (LL.out.trans hl)
  replace HM := hide (HM.out.later hl)
  obtain ⟨a3, c3, a6, k6, c6, rfl, _, _, _⟩ := hm2.shape
  have HM2 := hide hm2
  clear hl hm2
  generalize hN2 : flushN n D at_ nn = n2 at *
  generalize hE : flushE n D at_ nn = E at *
  have HE := hide hE
  clear hE hN2
  go_wp2_with (refine wpList_newM rfl rfl rfl 5 rfl (by simp) (.tmp 15) (by simp) rfl a3 a6 _ c3 k6 c6 rfl ?_)
  intro g5 w3 hB hl hg
  replace BX := hide (BX.out.later hl)
  replace BR := hide (BR.out.later hl)
  replace LL := hide (LL.out.trans hl)
  replace HM := hide (HM.out.later hl)
  replace HM2 := hide (HM2.out.later hl)
  have B5 := hide hB
  clear hB hl hg
  by_cases h0 : E = 0
  · subst h0
    replace HF := hide (HF.out.trans (if_pos rfl))
    replace HD := hide (HD.out.trans (if_pos rfl))
    obtain rfl : n = n2 := (HN.out rfl).symm
    have e0 := B5.out.cell 0
    have e1 := B5.out.cell 1
    go_wp2_with (refine wpList_storeU rfl 25 (.tmp 4) (.tmp 20) rfl gr 0 rfl [.slice a3 n c3, .slice a6 k6 c6] rfl (zero_of_info Tryz.zero_medium).2 (by simp [Value.oneCell']) _ _ BR.out (by simp) ?_)
    intro wz hz
    have BZ : Hid (Box wz gr 25 [.slice a3 n c3, .slice a6 k6 c6]) := by rw [hz.out]; exact BR.out.all _ rfl
    have LZ : Hid (Later w wz) := by rw [hz.out]; exact LL.out.setCells HG.out _ _
    have MZ : Hid (Med wz (.agg #[.slice a3 n c3, .slice a6 k6 c6]) n _ _) := hide (by have h := HM2.out.setNoB BR.out (md_nob _ _ _ _ _ _) [.slice a3 n c3, .slice a6 k6 c6] 0; rw [← hz.out] at h; exact h)
    clear hz e0 e1
    go_wp2
    refine bodyPost_ret (results_cell1 rfl _ _ _ gr 0 rfl (.agg #[.slice a3 n c3, .slice a6 k6 c6]) (load_medium11 BZ.out)) rfl ⟨_, _, _, _, _, rfl, LZ.out, ?_⟩
    rw [HF.out, HD.out]
    exact MZ.out
  · have e5 : (E == 0) = false := by simp [h0]
    replace HF := hide (HF.out.trans (if_neg h0))
    replace HD := hide (HD.out.trans (if_neg h0))
    clear h0
    have e0 := BX.out.cell 0
    have e1 := BX.out.cell 1
    go_wp2_with (refine wpList_storeU rfl 25 (.tmp 4) (.tmp 19) rfl gr 0 rfl [.slice ab n cb, .slice aD k cD] rfl (zero_of_info Tryz.zero_medium).2 (by simp [Value.oneCell']) _ _ BR.out (by simp) ?_)
    intro wz hz
    have BZ : Hid (Box wz gr 25 [.slice ab n cb, .slice aD k cD]) := by rw [hz.out]; exact BR.out.all _ rfl
    have LZ : Hid (Later w wz) := by rw [hz.out]; exact LL.out.setCells HG.out _ _
    have MZ : Hid (Med wz (.agg #[.slice ab n cb, .slice aD k cD]) n _ _) := hide (by have h := HM.out.setNoB BR.out (md_nob _ _ _ _ _ _) [.slice ab n cb, .slice aD k cD] 0; rw [← hz.out] at h; exact h)
    clear hz e0 e1
    go_wp2
    refine bodyPost_ret (results_cell1 rfl _ _ _ gr 0 rfl (.agg #[.slice ab n cb, .slice aD k cD]) (load_medium11 BZ.out)) rfl ⟨_, _, _, _, _, rfl, LZ.out, ?_⟩
    rw [HF.out, HD.out]
    exact MZ.out
theorem fs_yes {n : Nat} {F : List UInt8} {D : List Drt} {p r : Bool} {at_ : Nat} {m : Int} (h : checkS n D p r at_ m false = (0, 0, 0)) (hr : rightB n D = true) : fsF n F D at_ m = flushF n F D at_ m ∧ fsD n D at_ m = flushD n D at_ m := by
  have h1 := (checkS_zero h).2.2
  simp only [withinB, decide_eq_true_eq, allN, hr, if_true] at h1
  have hE : flushE n D at_ m = 0 := by
    rw [flushE, if_pos hr, if_pos]
    simp only [flushOk, decide_eq_true_eq]
    omega
  exact ⟨if_pos hE, if_pos hE⟩
theorem fs_no {n : Nat} {F : List UInt8} {D : List Drt} {a m : Int} (hr : ¬ rightB n D = true) : fsF n F D a m = F ∧ fsD n D a m = D := by
  have hE : flushE n D a m = 1 := by rw [flushE, if_neg hr]
  exact ⟨if_neg (by omega), if_neg (by omega)⟩
end Go.Proofs.YtfakboehmcimpaaGreat
