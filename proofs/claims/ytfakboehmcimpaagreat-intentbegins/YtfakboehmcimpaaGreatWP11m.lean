import Derived.Test.YtfakboehmcimpaaGreatWP11j
import Derived.Test.YtfakboehmcimpaaGreatWP11k
import Derived.Test.YtfakboehmcimpaaGreatWP11l
namespace Go.Proofs.YtfakboehmcimpaaGreat
open Go.ChangeShapes Go.WideShapes Go.ChangeAt Go.RowKit
set_option linter.unusedVariables false
set_option maxRecDepth 4000
set_option linter.unusedSimpArgs false
/-! The landed intent: Begin of any other command, and Begin. -/
theorem beg_rest {n : Nat} {F : List UInt8} {D : List Drt} {p r l cc : Bool} {M : List Sns} {s : Sns} {lun luns : Int} {op : Int} {at_ : Nat} {nn pg bt : Int} (h0 : op ≠ 0) (h3 : op ≠ 3) (h18 : op ≠ 18) (h26 : op ≠ 26) (h90 : op ≠ 90) (h160 : op ≠ 160) (h21 : op ≠ 21) (h85 : op ≠ 85) (h27 : op ≠ 27) (h30 : op ≠ 30) (h37 : op ≠ 37) (h158 : op ≠ 158) :
    begI n F D p r l cc M s lun luns (op, at_, nn, pg, bt) = if classI op = 0 then ((F, D, p, l, M, s), noneI (5, 32, 0)) else blI n F D p r l M s (op, at_, nn, pg, bt) := by
  unfold begI
  rw [if_neg h0, if_neg h3, if_neg h18, if_neg (by simp only; omega), if_neg (by simp only; omega), if_neg h27, if_neg h30, if_neg h37, if_neg h158, if_neg h160]
theorem beg_class {n : Nat} {F : List UInt8} {D : List Drt} {p r l cc : Bool} {M : List Sns} {s : Sns} {lun luns : Int} {op : Int} {at_ : Nat} {nn pg bt : Int} (hk : classI op ≠ 0) : begI n F D p r l cc M s lun luns (op, at_, nn, pg, bt) = blI n F D p r l M s (op, at_, nn, pg, bt) := by
  have hno : ∀ x : Int, classI x = 0 → op ≠ x := fun x hx e => hk (by rw [e, hx])
  rw [beg_rest (hno 0 rfl) (hno 3 rfl) (hno 18 rfl) (hno 26 rfl) (hno 90 rfl) (hno 160 rfl) (hno 21 rfl) (hno 85 rfl) (hno 27 rfl) (hno 30 rfl) (hno 37 rfl) (hno 158 rfl), if_neg hk]
set_option maxRecDepth 20000 in
set_option maxHeartbeats 8000000 in
theorem beg_other {ab : Option Addr} {n cb : Nat} {aD : Option Addr} {k cD : Nat} {F : List UInt8} {D : List Drt} {p r l cc : Bool} {am : Option Addr} {m cm : Nat} {s : Sns} {M : List Sns} {lun luns : Int} (at_ : Nat) (nn pg bt : Int) (op : Int) (hB : begI n F D p r l cc M s lun luns (op, at_, nn, pg, bt) = ((F, D, p, l, M, s), noneI (5, 32, 0))) (hk : classI op = 0) (e0 : (op == 0) = false) (e3 : (op == 3) = false) (e18 : (op == 18) = false) (e26 : (op == 26) = false) (e90 : (op == 90) = false) (e160 : (op == 160) = false) (e21 : (op == 21) = false) (e85 : (op == 85) = false) (e27 : (op == 27) = false) (e30 : (op == 30) = false) (e37 : (op == 37) = false) (e158 : (op == 158) = false)(w : World) (hm : Med w (.agg #[.slice ab n cb, .slice aD k cD]) n F D) (hA : Sl w (.slice am m cm) M) (hc : OkC7 (op, at_, nn, pg, bt)) (hs : OkS s) (h1 : In64 lun) (h2 : In64 luns) (hn : n ≤ 100) (hD : D.length ≤ 100) (hm1 : m ≤ 100) :
    Calls Tryz.prog 7 #[uval ab n cb aD k cD p r l cc am m cm s, .int .i64 lun, .int .i64 luns, cval (op, at_, nn, pg, bt)] w fun e w' => ∃ x y, e = .returned (.tuple #[.agg x.toArray, .agg y.toArray]) ∧ Later w w' ∧ PdI w n r cc am cm M (begI n F D p r l cc M s lun luns (op, at_, nn, pg, bt)) x y w' := by
  have HML : Hid (m = M.length) := by
    obtain ⟨a', c', e'⟩ := hA.1.shape
    simp at e'
    exact e'.2.1
  have HKD : Hid (k = D.length) := by
    obtain ⟨vb, vd, e, _, hd, _⟩ := hm
    simp at e
    obtain ⟨rfl, rfl⟩ := e
    obtain ⟨_, _, a', c', e', _⟩ := hd
    simp at e'
    exact e'.2.1
  have HOk : Hid (Ok D) := by obtain ⟨_, _, _, _, _, ho⟩ := hm; exact ho
  have HOM : Hid (∀ s ∈ M, OkS s) := hA.2
  have HM := hide hm
  have HA := hide hA
  have HC := hide hc
  have HS := hide hs
  have HI := hide (And.intro h1 h2)
  have HN := hide (And.intro hn (And.intro hD hm1))
  clear hm hA hc hs h1 h2 hn hD hm1
  have HR : Hid (begI n F D p r l cc M s lun luns (op, at_, nn, pg, bt) = ((F, D, p, l, M, s), noneI (5, 32, 0))) := by first | rfl | exact hB | (simp [Hid, begI]; done)
  have BU := hide ((((Box.new w 32 (uc ab n cb aD k cD p r l cc am m cm s).toArray).alloc (.cells (cmc (op, at_, nn, pg, bt)).toArray 36)).alloc (.cells zU.toArray 32)).alloc (.cells zI.toArray 44))
  have BC : Hid (Box _ (w.heap.size + 1) 36 (cmc (op, at_, nn, pg, bt))) := ((Box.new' (w.alloc (.cells (uc ab n cb aD k cD p r l cc am m cm s).toArray 32)) 36 (cmc (op, at_, nn, pg, bt)).toArray _ rfl _ (by simp)).alloc (.cells zU.toArray 32)).alloc (.cells zI.toArray 44)
  have BV : Hid (Box _ (w.heap.size + 1 + 1) 32 zU) := (Box.new' ((w.alloc (.cells (uc ab n cb aD k cD p r l cc am m cm s).toArray 32)).alloc (.cells (cmc (op, at_, nn, pg, bt)).toArray 36)) 32 zU.toArray _ rfl _ (by simp)).alloc (.cells zI.toArray 44)
  have BI : Hid (Box _ (w.heap.size + 1 + 1 + 1) 44 zI) := Box.new' (((w.alloc (.cells (uc ab n cb aD k cD p r l cc am m cm s).toArray 32)).alloc (.cells (cmc (op, at_, nn, pg, bt)).toArray 36)).alloc (.cells zU.toArray 32)) 44 zI.toArray _ rfl _ (by simp)
  have LL := hide (((((Later.refl w).alloc (.cells (uc ab n cb aD k cD p r l cc am m cm s).toArray 32)).alloc (.cells (cmc (op, at_, nn, pg, bt)).toArray 36)).alloc (.cells zU.toArray 32)).alloc (.cells zI.toArray 44))
  have x_0 := BU.out.cell 0
  have x_1 := BU.out.cell 1
  have x_2 := BU.out.cell 2
  have x_3 := BU.out.cell 3
  have x_4 := BU.out.cell 4
  have x_5 := BU.out.cell 5
  have x_6 := BU.out.cell 6
  have x_7 := BU.out.cell 7
  have x_8 := BU.out.cell 8
  have x_9 := BU.out.cell 9
  go_enter Tryz.func7, Tryz.ntmps7
  go_wp2_with fail
  clear x_0 x_1 x_2 x_3 x_4 x_5 x_6 x_7 x_8 x_9
  generalize (((w.alloc (.cells (uc ab n cb aD k cD p r l cc am m cm s).toArray 32)).alloc (.cells (cmc (op, at_, nn, pg, bt)).toArray 36)).alloc (.cells zU.toArray 32)).alloc (.cells zI.toArray 44) = w1 at *
  obtain ⟨gu, hgu⟩ : ∃ gu, gu = w.heap.size := ⟨_, rfl⟩
  obtain ⟨gc, hgc⟩ : ∃ gc, gc = w.heap.size + 1 := ⟨_, rfl⟩
  obtain ⟨gv, hgv⟩ : ∃ gv, gv = w.heap.size + 1 + 1 := ⟨_, rfl⟩
  obtain ⟨gi, hgi⟩ : ∃ gi, gi = w.heap.size + 1 + 1 + 1 := ⟨_, rfl⟩
  rw [← hgi] at BI ⊢
  rw [← hgv] at BV ⊢
  rw [← hgc] at BC ⊢
  rw [← hgu] at BU ⊢
  have HG : Hid (w.heap.size ≤ gu ∧ w.heap.size ≤ gv ∧ w.heap.size ≤ gi ∧ gu ≠ gv ∧ gu ≠ gi ∧ gv ≠ gi ∧ gc ≠ gu) := by rw [Hid]; omega
  clear hgu hgc hgv hgi
  refine (own11_c (F := F) (D := D) (M := M) w1 (HM.out.later LL.out) (HA.out.later LL.out) HN.out.1 HN.out.2.1 HN.out.2.2).mono ?_
  rintro e w2 ⟨xb, xcb, xd, xcD, xm, xcm, rfl, hl, ho⟩
  replace HM : Hid (Med w2 (.agg #[.slice xb n xcb, .slice xd k xcD]) n F D) := ⟨_, _, rfl, Rw.of_owns ho.1, by have h := Rw.of_owns ho.2.1; have e := HKD.out; rw [e] at h ⊢; exact h, HOk.out⟩
  have HO := hide (owns_rebase ho.2.2 LL.out.size)
  replace BU := hide (BU.out.later hl)
  replace BC := hide (BC.out.later hl)
  replace BV := hide (BV.out.later hl)
  replace BI := hide (BI.out.later hl)
  replace LL := hide (LL.out.trans hl)
  clear hl ho HA
  go_wp2_with (refine wpList_storeU rfl 32 (.tmp 4) (.tmp 11) rfl gu 0 rfl (uc xb n xcb xd k xcD p r l cc xm m xcm s) rfl Tryz.info_unit (uc_one _ _ _ _ _ _ _ _ _ _ _ _ _ _) _ _ BU.out (by simp) ?_)
  intro w3 h3
  replace HO : Hid (World.ownsRow w3 _ _ _ _ _ _) := hide (by rw [h3.out]; exact owns_setBox10 (owns_later HO.out (Later.refl _)) BU.out (by decide) _ _)
  replace BC : Hid (Box w3 gc 36 (cmc (op, at_, nn, pg, bt))) := by rw [h3.out]; exact BC.out.apart gu (by have := HG.out; omega) _ _
  have BUn : Hid (Box _ gu 32 (uc xb n xcb xd k xcD p r l cc xm m xcm s)) := hide (by have h := BU.out.setCells (uc xb n xcb xd k xcD p r l cc xm m xcm s) 0 (by simp); rw [← h3.out] at h; exact h)
  replace BV : Hid (Box _ gv 32 zU) := hide (by have h := BV.out.apart gu (by have := HG.out; omega) (uc xb n xcb xd k xcD p r l cc xm m xcm s) 0; rw [← h3.out] at h; exact h)
  replace BI : Hid (Box _ gi 44 zI) := hide (by have h := BI.out.apart gu (by have := HG.out; omega) (uc xb n xcb xd k xcD p r l cc xm m xcm s) 0; rw [← h3.out] at h; exact h)
  replace LL : Hid (Later w _) := hide (by have h := LL.out.setCells HG.out.1 (uc xb n xcb xd k xcD p r l cc xm m xcm s) 0; rw [← h3.out] at h; exact h)
  replace HM : Hid (Med _ _ n _ _) := hide (by have h := HM.out.setNoB BU.out (uc_nob _ _ _ _ _ _ _ _ _ _ _ _ _ _) (uc xb n xcb xd k xcD p r l cc xm m xcm s) 0; rw [← h3.out] at h; exact h)
  replace BU := BUn
  clear BUn h3
  have HT : Hid (At11 w w3 am cm M xm xcm M) := .inr ⟨by have h := HO.out; have e := HML.out; rw [e] at h; exact h, HOM.out⟩
  have y0 := BC.out.cell 0
  go_wp2_with fail
  refine (class_c (op) w3).mono ?_
  rintro e wx ⟨rfl, hw1⟩
  have hw2 := hw1.symm
  subst hw2
  rw [hk]
  clear hk
  have hc := fun q => ((Later.refl w3).drew.trans (later_rg w3.drew q))
  have d0 := fun q => (BU.out.later (hc q)).cell 0
  have d1 := fun q => (BU.out.later (hc q)).cell 1
  have d2 := fun q => (BU.out.later (hc q)).cell 2
  have d3 := fun q => (BU.out.later (hc q)).cell 3
  have d4 := fun q => (BU.out.later (hc q)).cell 4
  have d5 := fun q => (BU.out.later (hc q)).cell 5
  have z2 := fun q => (BC.out.later (hc q)).cell 2
  have HF := hide ((Fr11.mk LL.out HG.out.2.1 HG.out.2.2.1 HG.out.2.2.2.2.2.1 BV.out rfl (uc_nob _ _ _ _ _ _ _ _ _ _ _ _ _ _) BI.out rfl (ic_nob _ _ _ _ _ _ _ _ _ _ _ _ _)).later (Later.refl _).drew)
  go_wp2_with fail
  refine wp_region_tree [0] [1, 2] [3, 4] (by kernel_rfl) (by kernel_rfl) (by kernel_rfl) (by kernel_rfl) ?_
  refine wpT_loadG rfl (by kernel_rfl) 32 (.tmp 4) rfl gu 0 rfl (uc xb n xcb xd k xcD p r l cc xm m xcm s) _ ((World.rangeAt_drew _ _ _ _).2 BU.out.range) Tryz.underlying32 rfl Tryz.info_unit ?_
  clear d0 d1 d2 d3 d4 d5 z2 hc y0
  refine fin_two (bb := w) w gv gi HF.out 8 23 9 ⟨_, rfl, rfl, rfl, rfl⟩ ⟨_, rfl, rfl, rfl, rfl⟩ (uc xb n xcb xd k xcD p r l cc xm m xcm s) rfl rfl rfl 24 (by simp [put_size]) (by simp [put_size]) (by decide) 29 (Plain.of (by kernel_rfl)) [] _ [] rfl ⟨_, rfl, rfl, rfl, rfl⟩ 18 (Plain.of (by kernel_rfl)) [.tmp 24] _ (fun v => [v]) (fun v => congrArg (fun z => [z]) (eval_same (by simp [put_size]))) ⟨_, rfl, rfl, rfl, rfl⟩ (by decide) (by kernel_rfl) (fun v _ => v = sval (5, 32, 0)) (fun _ _ _ _ h => h)
    (fun W hW => (con_Unknown W).mono (by rintro e w' ⟨rfl, hl⟩; exact ⟨_, rfl, hl, rfl⟩))
    (fun v W hW hv => by subst hv; exact give11 HM.out HT.out HML.out ((Later.refl _).drew.trans hW) none11) ?_
  intro v0
  intro y W hLW hB4 hB5 hPW
  have HLW := hide hLW
  have HB4 := hide hB4
  have HB5 := hide hB5
  have HPW := hide hPW
  clear hLW hB4 hB5 hPW
  go_wp2
  exact bodyPost_ret (results_cell_cell' rfl _ _ _ gv 0 gi 0 rfl rfl _ _ (load_unit HB4.out rfl) (load_intent HB5.out HPW.out.one.2.1)) rfl ⟨_, y, rfl, HLW.out, by rw [HR.out]; exact HPW.out⟩
set_option maxRecDepth 20000 in
set_option maxHeartbeats 8000000 in
theorem beg_blocks {ab : Option Addr} {n cb : Nat} {aD : Option Addr} {k cD : Nat} {F : List UInt8} {D : List Drt} {p r l cc : Bool} {am : Option Addr} {m cm : Nat} {s : Sns} {M : List Sns} {lun luns : Int} (at_ : Nat) (nn pg bt : Int) (op : Int) (hB : begI n F D p r l cc M s lun luns (op, at_, nn, pg, bt) = blI n F D p r l M s (op, at_, nn, pg, bt)) (hk : classI op ≠ 0)(w : World) (hm : Med w (.agg #[.slice ab n cb, .slice aD k cD]) n F D) (hA : Sl w (.slice am m cm) M) (hc : OkC7 (op, at_, nn, pg, bt)) (hs : OkS s) (h1 : In64 lun) (h2 : In64 luns) (hn : n ≤ 100) (hD : D.length ≤ 100) (hm1 : m ≤ 100) :
    Calls Tryz.prog 7 #[uval ab n cb aD k cD p r l cc am m cm s, .int .i64 lun, .int .i64 luns, cval (op, at_, nn, pg, bt)] w fun e w' => ∃ x y, e = .returned (.tuple #[.agg x.toArray, .agg y.toArray]) ∧ Later w w' ∧ PdI w n r cc am cm M (begI n F D p r l cc M s lun luns (op, at_, nn, pg, bt)) x y w' := by
  have HML : Hid (m = M.length) := by
    obtain ⟨a', c', e'⟩ := hA.1.shape
    simp at e'
    exact e'.2.1
  have HKD : Hid (k = D.length) := by
    obtain ⟨vb, vd, e, _, hd, _⟩ := hm
    simp at e
    obtain ⟨rfl, rfl⟩ := e
    obtain ⟨_, _, a', c', e', _⟩ := hd
    simp at e'
    exact e'.2.1
  have HOk : Hid (Ok D) := by obtain ⟨_, _, _, _, _, ho⟩ := hm; exact ho
  have HOM : Hid (∀ s ∈ M, OkS s) := hA.2
  have HM := hide hm
  have HA := hide hA
  have HC := hide hc
  have HS := hide hs
  have HI := hide (And.intro h1 h2)
  have HN := hide (And.intro hn (And.intro hD hm1))
  clear hm hA hc hs h1 h2 hn hD hm1
  have HR : Hid (begI n F D p r l cc M s lun luns (op, at_, nn, pg, bt) = blI n F D p r l M s (op, at_, nn, pg, bt)) := by first | rfl | exact hB | (simp [Hid, begI]; done)
  have BU := hide ((((Box.new w 32 (uc ab n cb aD k cD p r l cc am m cm s).toArray).alloc (.cells (cmc (op, at_, nn, pg, bt)).toArray 36)).alloc (.cells zU.toArray 32)).alloc (.cells zI.toArray 44))
  have BC : Hid (Box _ (w.heap.size + 1) 36 (cmc (op, at_, nn, pg, bt))) := ((Box.new' (w.alloc (.cells (uc ab n cb aD k cD p r l cc am m cm s).toArray 32)) 36 (cmc (op, at_, nn, pg, bt)).toArray _ rfl _ (by simp)).alloc (.cells zU.toArray 32)).alloc (.cells zI.toArray 44)
  have BV : Hid (Box _ (w.heap.size + 1 + 1) 32 zU) := (Box.new' ((w.alloc (.cells (uc ab n cb aD k cD p r l cc am m cm s).toArray 32)).alloc (.cells (cmc (op, at_, nn, pg, bt)).toArray 36)) 32 zU.toArray _ rfl _ (by simp)).alloc (.cells zI.toArray 44)
  have BI : Hid (Box _ (w.heap.size + 1 + 1 + 1) 44 zI) := Box.new' (((w.alloc (.cells (uc ab n cb aD k cD p r l cc am m cm s).toArray 32)).alloc (.cells (cmc (op, at_, nn, pg, bt)).toArray 36)).alloc (.cells zU.toArray 32)) 44 zI.toArray _ rfl _ (by simp)
  have LL := hide (((((Later.refl w).alloc (.cells (uc ab n cb aD k cD p r l cc am m cm s).toArray 32)).alloc (.cells (cmc (op, at_, nn, pg, bt)).toArray 36)).alloc (.cells zU.toArray 32)).alloc (.cells zI.toArray 44))
  have x_0 := BU.out.cell 0
  have x_1 := BU.out.cell 1
  have x_2 := BU.out.cell 2
  have x_3 := BU.out.cell 3
  have x_4 := BU.out.cell 4
  have x_5 := BU.out.cell 5
  have x_6 := BU.out.cell 6
  have x_7 := BU.out.cell 7
  have x_8 := BU.out.cell 8
  have x_9 := BU.out.cell 9
  go_enter Tryz.func7, Tryz.ntmps7
  go_wp2_with fail
  clear x_0 x_1 x_2 x_3 x_4 x_5 x_6 x_7 x_8 x_9
  generalize (((w.alloc (.cells (uc ab n cb aD k cD p r l cc am m cm s).toArray 32)).alloc (.cells (cmc (op, at_, nn, pg, bt)).toArray 36)).alloc (.cells zU.toArray 32)).alloc (.cells zI.toArray 44) = w1 at *
  obtain ⟨gu, hgu⟩ : ∃ gu, gu = w.heap.size := ⟨_, rfl⟩
  obtain ⟨gc, hgc⟩ : ∃ gc, gc = w.heap.size + 1 := ⟨_, rfl⟩
  obtain ⟨gv, hgv⟩ : ∃ gv, gv = w.heap.size + 1 + 1 := ⟨_, rfl⟩
  obtain ⟨gi, hgi⟩ : ∃ gi, gi = w.heap.size + 1 + 1 + 1 := ⟨_, rfl⟩
  rw [← hgi] at BI ⊢
  rw [← hgv] at BV ⊢
  rw [← hgc] at BC ⊢
  rw [← hgu] at BU ⊢
  have HG : Hid (w.heap.size ≤ gu ∧ w.heap.size ≤ gv ∧ w.heap.size ≤ gi ∧ gu ≠ gv ∧ gu ≠ gi ∧ gv ≠ gi ∧ gc ≠ gu) := by rw [Hid]; omega
  clear hgu hgc hgv hgi
  refine (own11_c (F := F) (D := D) (M := M) w1 (HM.out.later LL.out) (HA.out.later LL.out) HN.out.1 HN.out.2.1 HN.out.2.2).mono ?_
  rintro e w2 ⟨xb, xcb, xd, xcD, xm, xcm, rfl, hl, ho⟩
  replace HM : Hid (Med w2 (.agg #[.slice xb n xcb, .slice xd k xcD]) n F D) := ⟨_, _, rfl, Rw.of_owns ho.1, by have h := Rw.of_owns ho.2.1; have e := HKD.out; rw [e] at h ⊢; exact h, HOk.out⟩
  have HO := hide (owns_rebase ho.2.2 LL.out.size)
  replace BU := hide (BU.out.later hl)
  replace BC := hide (BC.out.later hl)
  replace BV := hide (BV.out.later hl)
  replace BI := hide (BI.out.later hl)
  replace LL := hide (LL.out.trans hl)
  clear hl ho HA
  go_wp2_with (refine wpList_storeU rfl 32 (.tmp 4) (.tmp 11) rfl gu 0 rfl (uc xb n xcb xd k xcD p r l cc xm m xcm s) rfl Tryz.info_unit (uc_one _ _ _ _ _ _ _ _ _ _ _ _ _ _) _ _ BU.out (by simp) ?_)
  intro w3 h3
  replace HO : Hid (World.ownsRow w3 _ _ _ _ _ _) := hide (by rw [h3.out]; exact owns_setBox10 (owns_later HO.out (Later.refl _)) BU.out (by decide) _ _)
  replace BC : Hid (Box w3 gc 36 (cmc (op, at_, nn, pg, bt))) := by rw [h3.out]; exact BC.out.apart gu (by have := HG.out; omega) _ _
  have BUn : Hid (Box _ gu 32 (uc xb n xcb xd k xcD p r l cc xm m xcm s)) := hide (by have h := BU.out.setCells (uc xb n xcb xd k xcD p r l cc xm m xcm s) 0 (by simp); rw [← h3.out] at h; exact h)
  replace BV : Hid (Box _ gv 32 zU) := hide (by have h := BV.out.apart gu (by have := HG.out; omega) (uc xb n xcb xd k xcD p r l cc xm m xcm s) 0; rw [← h3.out] at h; exact h)
  replace BI : Hid (Box _ gi 44 zI) := hide (by have h := BI.out.apart gu (by have := HG.out; omega) (uc xb n xcb xd k xcD p r l cc xm m xcm s) 0; rw [← h3.out] at h; exact h)
  replace LL : Hid (Later w _) := hide (by have h := LL.out.setCells HG.out.1 (uc xb n xcb xd k xcD p r l cc xm m xcm s) 0; rw [← h3.out] at h; exact h)
  replace HM : Hid (Med _ _ n _ _) := hide (by have h := HM.out.setNoB BU.out (uc_nob _ _ _ _ _ _ _ _ _ _ _ _ _ _) (uc xb n xcb xd k xcD p r l cc xm m xcm s) 0; rw [← h3.out] at h; exact h)
  replace BU := BUn
  clear BUn h3
  have HT : Hid (At11 w w3 am cm M xm xcm M) := .inr ⟨by have h := HO.out; have e := HML.out; rw [e] at h; exact h, HOM.out⟩
  have y0 := BC.out.cell 0
  go_wp2_with fail
  refine (class_c (op) w3).mono ?_
  rintro e wx ⟨rfl, hw1⟩
  have hw2 := hw1.symm
  subst hw2
  have HK := hide hk
  have ek : (classI op == 0) = false := by simpa using hk
  clear hk
  have y1 := BC.out.cell 1
  have y2 := BC.out.cell 2
  have y3 := BC.out.cell 3
  have y4 := BC.out.cell 4
  have x_0 := BU.out.cell 0
  have x_1 := BU.out.cell 1
  have x_2 := BU.out.cell 2
  have x_3 := BU.out.cell 3
  have x_4 := BU.out.cell 4
  have x_5 := BU.out.cell 5
  have x_6 := BU.out.cell 6
  have x_7 := BU.out.cell 7
  have x_8 := BU.out.cell 8
  have x_9 := BU.out.cell 9
  go_wp2_with fail
  clear x_0 x_1 x_2 x_3 x_4 x_5 x_6 x_7 x_8 x_9
  clear y0 y1 y2 y3 y4 ek
  refine (blocks11_c (M := M) op at_ nn pg bt w3 HM.out HML.out HC.out HN.out.1 HN.out.2.1 HK.out).mono ?_
  rintro e w5 ⟨x, y, rfl, hl, hp⟩
  have HP : Hid (PdI w n r cc am cm M _ x y w5) := hp.own11 (owns_later HO.out hl) HML.out HOM.out LL.out.size
  have O1 := hide HP.out.one
  replace BV := hide (BV.out.later hl)
  replace BI := hide (BI.out.later hl)
  replace LL := hide (LL.out.trans hl)
  clear hl hp HO HT HM BU BC
  go_wp2_with (refine wpList_storeU rfl 32 (.tmp 8) (.tmp 19) rfl gv 0 rfl x rfl (by rw [Tryz.info_unit, O1.out.1.1]) O1.out.1.2.2 _ _ BV.out (by rw [O1.out.1.1]; simp) ?_)
  intro w6 h6
  replace HP := hide (by have h := HP.out.set (.inl rfl) BV.out (uc_nob _ _ _ _ _ _ _ _ _ _ _ _ _ _) x; rw [← h6.out] at h; exact h)
  replace BI : Hid (Box w6 gi 44 zI) := by rw [h6.out]; exact BI.out.apart gv (by have := HG.out; omega) _ _
  replace LL : Hid (Later w w6) := by rw [h6.out]; exact LL.out.setCells HG.out.2.1 _ _
  replace BV : Hid (Box w6 gv 32 x) := by rw [h6.out]; exact BV.out.all x (by rw [O1.out.1.1]; rfl)
  clear h6
  go_wp2_with (refine wpList_storeU rfl 44 (.tmp 9) (.tmp 20) rfl gi 0 rfl y rfl (by rw [Tryz.info_intent, O1.out.2.1]) O1.out.2.2.2 _ _ BI.out (by rw [O1.out.2.1]; simp) ?_)
  intro w7 h7
  replace HP := hide (by have h := HP.out.set (.inr rfl) BI.out (ic_nob _ _ _ _ _ _ _ _ _ _ _ _ _) y; rw [← h7.out] at h; exact h)
  replace BV : Hid (Box w7 gv 32 x) := by rw [h7.out]; exact BV.out.apart gi (by have := HG.out; omega) _ _
  replace LL : Hid (Later w w7) := by rw [h7.out]; exact LL.out.setCells HG.out.2.2.1 _ _
  replace BI : Hid (Box w7 gi 44 y) := by rw [h7.out]; exact BI.out.all y (by rw [O1.out.2.1]; rfl)
  clear h7
  go_wp2
  exact bodyPost_ret (results_cell_cell' rfl _ _ _ gv 0 gi 0 rfl rfl _ _ (load_unit BV.out O1.out.1.1) (load_intent BI.out O1.out.2.1)) rfl ⟨x, y, rfl, LL.out, by rw [HR.out]; exact HP.out⟩
theorem ibegin11 : IBegin11 := by
  intro u n F D p r l cc am m cm s M lun luns c w hU hA hc hs h1 h2 hn hD hm1
  obtain ⟨ab, cb, aD, k, cD, rfl, hm⟩ := hU
  obtain ⟨op, at_, nn, pg, bt⟩ := c
  by_cases hk : classI op = 0
  · by_cases q0 : op = 0
    · subst q0; exact beg_ready at_ nn pg bt w hm hA hc hs h1 h2 (by omega) (by omega) (by omega)
    by_cases q3 : op = 3
    · subst q3; exact beg_sense at_ nn pg bt w hm hA hc hs h1 h2 (by omega) (by omega) (by omega)
    by_cases q18 : op = 18
    · subst q18; exact beg_inquiry at_ nn pg bt w hm hA hc hs h1 h2 (by omega) (by omega) (by omega)
    by_cases q26 : op = 26
    · subst q26; exact beg_ms6 at_ nn pg bt w hm hA hc hs h1 h2 (by omega) (by omega) (by omega)
    by_cases q90 : op = 90
    · subst q90; exact beg_ms10 at_ nn pg bt w hm hA hc hs h1 h2 (by omega) (by omega) (by omega)
    by_cases q160 : op = 160
    · subst q160; exact beg_luns at_ nn pg bt w hm hA hc hs h1 h2 (by omega) (by omega) (by omega)
    by_cases q21 : op = 21
    · subst q21; exact beg_sel6 at_ nn pg bt w hm hA hc hs h1 h2 (by omega) (by omega) (by omega)
    by_cases q85 : op = 85
    · subst q85; exact beg_sel10 at_ nn pg bt w hm hA hc hs h1 h2 (by omega) (by omega) (by omega)
    by_cases q27 : op = 27
    · subst q27; exact beg_stop at_ nn pg bt w hm hA hc hs h1 h2 (by omega) (by omega) (by omega)
    by_cases q30 : op = 30
    · subst q30; exact beg_keep at_ nn pg bt w hm hA hc hs h1 h2 (by omega) (by omega) (by omega)
    by_cases q37 : op = 37
    · subst q37; exact beg_cap10 at_ nn pg bt w hm hA hc hs h1 h2 (by omega) (by omega) (by omega)
    by_cases q158 : op = 158
    · subst q158; exact beg_cap16 at_ nn pg bt w hm hA hc hs h1 h2 (by omega) (by omega) (by omega)
    exact beg_other at_ nn pg bt op (by rw [beg_rest q0 q3 q18 q26 q90 q160 q21 q85 q27 q30 q37 q158, if_pos hk]) hk (by simpa using q0) (by simpa using q3) (by simpa using q18) (by simpa using q26) (by simpa using q90) (by simpa using q160) (by simpa using q21) (by simpa using q85) (by simpa using q27) (by simpa using q30) (by simpa using q37) (by simpa using q158) w hm hA hc hs h1 h2 (by omega) (by omega) (by omega)
  · exact beg_blocks at_ nn pg bt op (beg_class hk) hk w hm hA hc hs h1 h2 (by omega) (by omega) (by omega)
end Go.Proofs.YtfakboehmcimpaaGreat
