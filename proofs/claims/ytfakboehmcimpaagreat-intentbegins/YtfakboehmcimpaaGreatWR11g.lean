import Derived.Test.YtfakboehmcimpaaGreatWR11d
import Derived.Test.YtfakboehmcimpaaGreatWR11e
import Derived.Test.YtfakboehmcimpaaGreatWR11f
import Derived.Test.YtfakboehmcimpaaGreatWP11m
import Derived.Test.YtfakboehmcimpaaGreatMAS
import Derived.Test.YtfakboehmcimpaaGreatMAP
import Derived.Test.YtfakboehmcimpaaGreatMAN
namespace Go.Proofs.YtfakboehmcimpaaGreat
open Go.ChangeShapes Go.WideShapes Go.ChangeAt Go.RowKit
set_option linter.unusedVariables false
set_option maxRecDepth 4000
set_option linter.unusedSimpArgs false
/-! The document's Begin: any other command, and Begin. -/
set_option maxRecDepth 20000 in
set_option maxHeartbeats 8000000 in
theorem rbeg_other {ab : Option Addr} {n cb : Nat} {aD : Option Addr} {k cD : Nat} {F : List UInt8} {D : List Drt} {p r l cc : Bool} {am : Option Addr} {m cm : Nat} {s : Sns} {M : List Sns} {lun luns : Int} (at_ : Nat) (nn pg bt : Int) (op : Int) (hB : begI n F D p r l cc M s lun luns (op, at_, nn, pg, bt) = ((F, D, p, l, M, s), noneI (5, 32, 0))) (hk : classI op = 0) (e0 : (op == 0) = false) (e3 : (op == 3) = false) (e18 : (op == 18) = false) (e26 : (op == 26) = false) (e90 : (op == 90) = false) (e21 : (op == 21) = false) (e85 : (op == 85) = false) (e27 : (op == 27) = false) (e30 : (op == 30) = false) (e37 : (op == 37) = false) (e158 : (op == 158) = false) (e160 : (op == 160) = false)(w : World) (hm : Med w (.agg #[.slice ab n cb, .slice aD k cD]) n F D) (hA : Sl w (.slice am m cm) M) (hc : OkC7 (op, at_, nn, pg, bt)) (hs : OkS s) (h1 : In64 lun) (h2 : In64 luns) (hm1 : m ≤ 100) :
    Calls Tryz.prog 8 #[uval ab n cb aD k cD p r l cc am m cm s, .int .i64 lun, .int .i64 luns, cval (op, at_, nn, pg, bt)] w fun e w' => ∃ x y, e = .returned (.tuple #[.agg x.toArray, .agg y.toArray]) ∧ Later w w' ∧ PdI w n r cc am cm M (begI n F D p r l cc M s lun luns (op, at_, nn, pg, bt)) x y w' := by
  have HML : Hid (m = M.length) := by
    obtain ⟨a', c', e'⟩ := hA.1.shape
    simp at e'
    exact e'.2.1
  have HM := hide hm
  have HA := hide hA
  have HC := hide hc
  have HS := hide hs
  have HI := hide (And.intro h1 h2)
  have HN := hide hm1
  clear hm hA hc hs h1 h2 hm1
  have HR : Hid (begI n F D p r l cc M s lun luns (op, at_, nn, pg, bt) = ((F, D, p, l, M, s), noneI (5, 32, 0))) := by first | rfl | exact hB | (simp [Hid, begI]; done)
  have BU := hide ((((Box.new w 32 (uc ab n cb aD k cD p r l cc am m cm s).toArray).alloc (.cells (cmc (op, at_, nn, pg, bt)).toArray 36)).alloc (.cells zU.toArray 32)).alloc (.cells zI.toArray 44))
  have BC : Hid (Box _ (w.heap.size + 1) 36 (cmc (op, at_, nn, pg, bt))) := ((Box.new' (w.alloc (.cells (uc ab n cb aD k cD p r l cc am m cm s).toArray 32)) 36 (cmc (op, at_, nn, pg, bt)).toArray _ rfl _ (by simp)).alloc (.cells zU.toArray 32)).alloc (.cells zI.toArray 44)
  have BV : Hid (Box _ (w.heap.size + 1 + 1) 32 zU) := (Box.new' ((w.alloc (.cells (uc ab n cb aD k cD p r l cc am m cm s).toArray 32)).alloc (.cells (cmc (op, at_, nn, pg, bt)).toArray 36)) 32 zU.toArray _ rfl _ (by simp)).alloc (.cells zI.toArray 44)
  have BI : Hid (Box _ (w.heap.size + 1 + 1 + 1) 44 zI) := Box.new' (((w.alloc (.cells (uc ab n cb aD k cD p r l cc am m cm s).toArray 32)).alloc (.cells (cmc (op, at_, nn, pg, bt)).toArray 36)).alloc (.cells zU.toArray 32)) 44 zI.toArray _ rfl _ (by simp)
  have LL := hide (((((Later.refl w).alloc (.cells (uc ab n cb aD k cD p r l cc am m cm s).toArray 32)).alloc (.cells (cmc (op, at_, nn, pg, bt)).toArray 36)).alloc (.cells zU.toArray 32)).alloc (.cells zI.toArray 44))
  replace HM := hide (HM.out.later LL.out)
  have d0 := BU.out.cell 0
  have d1 := BU.out.cell 1
  have d2 := BU.out.cell 2
  have d3 := BU.out.cell 3
  have d4 := BU.out.cell 4
  go_enter Tryz.func8, Tryz.ntmps8
  go_wp2_with fail
  clear d0 d1 d2 d3 d4
  generalize (((w.alloc (.cells (uc ab n cb aD k cD p r l cc am m cm s).toArray 32)).alloc (.cells (cmc (op, at_, nn, pg, bt)).toArray 36)).alloc (.cells zU.toArray 32)).alloc (.cells zI.toArray 44) = w1 at *
  obtain ⟨gu, hgu⟩ : ∃ gu, gu = w.heap.size := ⟨_, rfl⟩
  obtain ⟨gc, hgc⟩ : ∃ gc, gc = w.heap.size + 1 := ⟨_, rfl⟩
  obtain ⟨gv, hgv⟩ : ∃ gv, gv = w.heap.size + 1 + 1 := ⟨_, rfl⟩
  obtain ⟨gi, hgi⟩ : ∃ gi, gi = w.heap.size + 1 + 1 + 1 := ⟨_, rfl⟩
  rw [← hgi] at BI ⊢
  rw [← hgv] at BV ⊢
  rw [← hgc] at BC ⊢
  rw [← hgu] at BU ⊢
  have HG : Hid (w.heap.size ≤ gu ∧ w.heap.size ≤ gv ∧ w.heap.size ≤ gi ∧ gu ≠ gv ∧ gu ≠ gi ∧ gv ≠ gi ∧ gc ≠ gu) := by rw [Hid]; omega
  clear hgu hgc hgv hgi
  refine (rready_c (F := F) (D := D) w1 ⟨ab, cb, aD, k, cD, rfl, HM.out⟩).mono ?_
  rintro e w2 ⟨rfl, hl⟩
  replace BU := hide (BU.out.later hl)
  replace BV := hide (BV.out.later hl)
  replace BI := hide (BI.out.later hl)
  replace HM := hide (HM.out.later hl)
  replace LL := hide (LL.out.trans hl)
  replace BC := hide (BC.out.later hl)
  clear hl
  go_wp2_with (refine wpList_newS rfl rfl rfl 10 rfl (by simp) (.tmp 21) (by simp) rfl (readyS p) rfl ?_)
  intro g7 w3 hB7 hl hg
  replace BU := hide (BU.out.later hl)
  replace BV := hide (BV.out.later hl)
  replace BI := hide (BI.out.later hl)
  replace HM := hide (HM.out.later hl)
  replace LL := hide (LL.out.trans hl)
  replace BC := hide (BC.out.later hl)
  have B7 := hide hB7
  clear hB7 hl hg
  have d0 := BU.out.cell 0
  have d1 := BU.out.cell 1
  go_wp2_with fail
  clear d0 d1
  refine (rall_b (F := F) (D := D) _ HM.out).mono ?_
  rintro e w4 ⟨v4, rfl, hl, hr⟩
  obtain ⟨a4, c4, rfl⟩ := hr.shape
  replace BU := hide (BU.out.later hl)
  replace BV := hide (BV.out.later hl)
  replace BI := hide (BI.out.later hl)
  replace HM := hide (HM.out.later hl)
  replace LL := hide (LL.out.trans hl)
  replace BC := hide (BC.out.later hl)
  replace B7 := hide (B7.out.later hl)
  clear hl hr
  obtain ⟨N, hN⟩ : ∃ N, N = allN n D := ⟨_, rfl⟩
  have hN9 : (N : Int) ≤ 9223372036854775807 := by have := allN_small n D; omega
  rw [← hN]
  have HNe := hide hN
  clear hN
  have HF := hide ((Fr11.mk LL.out HG.out.2.1 HG.out.2.2.1 HG.out.2.2.2.2.2.1 BV.out rfl (uc_nob _ _ _ _ _ _ _ _ _ _ _ _ _ _) BI.out rfl (ic_nob _ _ _ _ _ _ _ _ _ _ _ _ _)).later (Later.refl _).drew)
  have y0 := BC.out.cell 0
  go_wp2_with fail
  refine (rclass_c op _).mono ?_
  rintro e wx ⟨rfl, hw1⟩
  have hw2 := hw1.symm
  subst hw2
  rw [hk]
  clear hk
  go_wp2_with fail
  refine wp_region_tree [0] [1, 2] [3, 4] (by kernel_rfl) (by kernel_rfl) (by kernel_rfl) (by kernel_rfl) ?_
  refine wpT_loadG rfl (by kernel_rfl) 32 (.tmp 4) rfl gu 0 rfl (uc ab n cb aD k cD p r l cc am m cm s) _ ((World.rangeAt_drew _ _ _ _).2 BU.out.range) Tryz.underlying32 rfl Tryz.info_unit ?_
  refine fin_two (bb := w) w gv gi HF.out 8 138 9 ⟨_, rfl, rfl, rfl, rfl⟩ ⟨_, rfl, rfl, rfl, rfl⟩ (uc ab n cb aD k cD p r l cc am m cm s) rfl rfl rfl 139 (by simp [put_size]) (by simp [put_size]) (by decide) 12 (Plain.of (by kernel_rfl)) [.const (.int .i64 5), .const (.int .i64 32), .const (.int .i64 0)] _ [.int .i64 5, .int .i64 32, .int .i64 0] rfl ⟨_, rfl, rfl, rfl, rfl⟩ 32 (Plain.of (by kernel_rfl)) [.tmp 139] _ (fun v => [v]) (fun v => congrArg (fun z => [z]) (eval_same (by simp [put_size]))) ⟨_, rfl, rfl, rfl, rfl⟩ (by decide) (by kernel_rfl) (fun v _ => v = sval (5, 32, 0)) (fun _ _ _ _ h => h)
    (fun W hW => (rof_c 5 32 0 W).mono (by rintro e w' ⟨rfl, hl⟩; exact ⟨_, rfl, hl, rfl⟩))
    (fun v W hW hv => by subst hv; exact give11 HM.out At11.same HML.out ((Later.refl _).drew.trans hW) rnone11) ?_
  intro v0
  intro y W hLW hB4 hB5 hPW
  have HLW := hide hLW
  have HB4 := hide hB4
  have HB5 := hide hB5
  have HPW := hide hPW
  clear hLW hB4 hB5 hPW
  go_wp2
  exact bodyPost_ret (results_cell_cell' rfl _ _ _ gv 0 gi 0 rfl rfl _ _ (load_unit HB4.out rfl) (load_intent HB5.out HPW.out.one.2.1)) rfl ⟨_, y, rfl, HLW.out, by rw [HR.out]; exact HPW.out⟩
set_option maxRecDepth 20000 in
set_option maxHeartbeats 8000000 in
theorem rbeg_blocks {ab : Option Addr} {n cb : Nat} {aD : Option Addr} {k cD : Nat} {F : List UInt8} {D : List Drt} {p r l cc : Bool} {am : Option Addr} {m cm : Nat} {s : Sns} {M : List Sns} {lun luns : Int} (at_ : Nat) (nn pg bt : Int) (op : Int) (hB : begI n F D p r l cc M s lun luns (op, at_, nn, pg, bt) = blI n F D p r l M s (op, at_, nn, pg, bt)) (hk : classI op ≠ 0) (e0 : (op == 0) = false) (e3 : (op == 3) = false) (e18 : (op == 18) = false) (e26 : (op == 26) = false) (e90 : (op == 90) = false) (e21 : (op == 21) = false) (e85 : (op == 85) = false) (e27 : (op == 27) = false) (e30 : (op == 30) = false) (e37 : (op == 37) = false) (e158 : (op == 158) = false) (e160 : (op == 160) = false)(w : World) (hm : Med w (.agg #[.slice ab n cb, .slice aD k cD]) n F D) (hA : Sl w (.slice am m cm) M) (hc : OkC7 (op, at_, nn, pg, bt)) (hs : OkS s) (h1 : In64 lun) (h2 : In64 luns) (hm1 : m ≤ 100) :
    Calls Tryz.prog 8 #[uval ab n cb aD k cD p r l cc am m cm s, .int .i64 lun, .int .i64 luns, cval (op, at_, nn, pg, bt)] w fun e w' => ∃ x y, e = .returned (.tuple #[.agg x.toArray, .agg y.toArray]) ∧ Later w w' ∧ PdI w n r cc am cm M (begI n F D p r l cc M s lun luns (op, at_, nn, pg, bt)) x y w' := by
  have HML : Hid (m = M.length) := by
    obtain ⟨a', c', e'⟩ := hA.1.shape
    simp at e'
    exact e'.2.1
  have HM := hide hm
  have HA := hide hA
  have HC := hide hc
  have HS := hide hs
  have HI := hide (And.intro h1 h2)
  have HN := hide hm1
  clear hm hA hc hs h1 h2 hm1
  have HR : Hid (begI n F D p r l cc M s lun luns (op, at_, nn, pg, bt) = blI n F D p r l M s (op, at_, nn, pg, bt)) := by first | rfl | exact hB | (simp [Hid, begI]; done)
  have BU := hide ((((Box.new w 32 (uc ab n cb aD k cD p r l cc am m cm s).toArray).alloc (.cells (cmc (op, at_, nn, pg, bt)).toArray 36)).alloc (.cells zU.toArray 32)).alloc (.cells zI.toArray 44))
  have BC : Hid (Box _ (w.heap.size + 1) 36 (cmc (op, at_, nn, pg, bt))) := ((Box.new' (w.alloc (.cells (uc ab n cb aD k cD p r l cc am m cm s).toArray 32)) 36 (cmc (op, at_, nn, pg, bt)).toArray _ rfl _ (by simp)).alloc (.cells zU.toArray 32)).alloc (.cells zI.toArray 44)
  have BV : Hid (Box _ (w.heap.size + 1 + 1) 32 zU) := (Box.new' ((w.alloc (.cells (uc ab n cb aD k cD p r l cc am m cm s).toArray 32)).alloc (.cells (cmc (op, at_, nn, pg, bt)).toArray 36)) 32 zU.toArray _ rfl _ (by simp)).alloc (.cells zI.toArray 44)
  have BI : Hid (Box _ (w.heap.size + 1 + 1 + 1) 44 zI) := Box.new' (((w.alloc (.cells (uc ab n cb aD k cD p r l cc am m cm s).toArray 32)).alloc (.cells (cmc (op, at_, nn, pg, bt)).toArray 36)).alloc (.cells zU.toArray 32)) 44 zI.toArray _ rfl _ (by simp)
  have LL := hide (((((Later.refl w).alloc (.cells (uc ab n cb aD k cD p r l cc am m cm s).toArray 32)).alloc (.cells (cmc (op, at_, nn, pg, bt)).toArray 36)).alloc (.cells zU.toArray 32)).alloc (.cells zI.toArray 44))
  replace HM := hide (HM.out.later LL.out)
  have d0 := BU.out.cell 0
  have d1 := BU.out.cell 1
  have d2 := BU.out.cell 2
  have d3 := BU.out.cell 3
  have d4 := BU.out.cell 4
  go_enter Tryz.func8, Tryz.ntmps8
  go_wp2_with fail
  clear d0 d1 d2 d3 d4
  generalize (((w.alloc (.cells (uc ab n cb aD k cD p r l cc am m cm s).toArray 32)).alloc (.cells (cmc (op, at_, nn, pg, bt)).toArray 36)).alloc (.cells zU.toArray 32)).alloc (.cells zI.toArray 44) = w1 at *
  obtain ⟨gu, hgu⟩ : ∃ gu, gu = w.heap.size := ⟨_, rfl⟩
  obtain ⟨gc, hgc⟩ : ∃ gc, gc = w.heap.size + 1 := ⟨_, rfl⟩
  obtain ⟨gv, hgv⟩ : ∃ gv, gv = w.heap.size + 1 + 1 := ⟨_, rfl⟩
  obtain ⟨gi, hgi⟩ : ∃ gi, gi = w.heap.size + 1 + 1 + 1 := ⟨_, rfl⟩
  rw [← hgi] at BI ⊢
  rw [← hgv] at BV ⊢
  rw [← hgc] at BC ⊢
  rw [← hgu] at BU ⊢
  have HG : Hid (w.heap.size ≤ gu ∧ w.heap.size ≤ gv ∧ w.heap.size ≤ gi ∧ gu ≠ gv ∧ gu ≠ gi ∧ gv ≠ gi ∧ gc ≠ gu) := by rw [Hid]; omega
  clear hgu hgc hgv hgi
  refine (rready_c (F := F) (D := D) w1 ⟨ab, cb, aD, k, cD, rfl, HM.out⟩).mono ?_
  rintro e w2 ⟨rfl, hl⟩
  replace BU := hide (BU.out.later hl)
  replace BV := hide (BV.out.later hl)
  replace BI := hide (BI.out.later hl)
  replace HM := hide (HM.out.later hl)
  replace LL := hide (LL.out.trans hl)
  replace BC := hide (BC.out.later hl)
  clear hl
  go_wp2_with (refine wpList_newS rfl rfl rfl 10 rfl (by simp) (.tmp 21) (by simp) rfl (readyS p) rfl ?_)
  intro g7 w3 hB7 hl hg
  replace BU := hide (BU.out.later hl)
  replace BV := hide (BV.out.later hl)
  replace BI := hide (BI.out.later hl)
  replace HM := hide (HM.out.later hl)
  replace LL := hide (LL.out.trans hl)
  replace BC := hide (BC.out.later hl)
  have B7 := hide hB7
  clear hB7 hl hg
  have d0 := BU.out.cell 0
  have d1 := BU.out.cell 1
  go_wp2_with fail
  clear d0 d1
  refine (rall_b (F := F) (D := D) _ HM.out).mono ?_
  rintro e w4 ⟨v4, rfl, hl, hr⟩
  obtain ⟨a4, c4, rfl⟩ := hr.shape
  replace BU := hide (BU.out.later hl)
  replace BV := hide (BV.out.later hl)
  replace BI := hide (BI.out.later hl)
  replace HM := hide (HM.out.later hl)
  replace LL := hide (LL.out.trans hl)
  replace BC := hide (BC.out.later hl)
  replace B7 := hide (B7.out.later hl)
  clear hl hr
  obtain ⟨N, hN⟩ : ∃ N, N = allN n D := ⟨_, rfl⟩
  have hN9 : (N : Int) ≤ 9223372036854775807 := by have := allN_small n D; omega
  rw [← hN]
  have HNe := hide hN
  clear hN
  have HF := hide ((Fr11.mk LL.out HG.out.2.1 HG.out.2.2.1 HG.out.2.2.2.2.2.1 BV.out rfl (uc_nob _ _ _ _ _ _ _ _ _ _ _ _ _ _) BI.out rfl (ic_nob _ _ _ _ _ _ _ _ _ _ _ _ _)).later (Later.refl _).drew)
  have y0 := BC.out.cell 0
  have HK := hide hk
  have ek : (classI op == 0) = false := by simpa using hk
  clear hk
  go_wp2_with fail
  refine (rclass_c op _).mono ?_
  rintro e wx ⟨rfl, hw1⟩
  have hw2 := hw1.symm
  subst hw2
  have y1 := BC.out.cell 1
  have y2 := BC.out.cell 2
  have y3 := BC.out.cell 3
  have y4 := BC.out.cell 4
  have x_0 := BU.out.cell 0
  have x_1 := BU.out.cell 1
  have x_2 := BU.out.cell 2
  have x_3 := BU.out.cell 3
  have x_4 := BU.out.cell 4
  have x_5 := BU.out.cell 5
  have x_6 := BU.out.cell 6
  have x_7 := BU.out.cell 7
  have x_8 := BU.out.cell 8
  have x_9 := BU.out.cell 9
  go_wp2_with fail
  clear x_0 x_1 x_2 x_3 x_4 x_5 x_6 x_7 x_8 x_9
  clear y0 y1 y2 y3 y4 ek e0 e3 e18 e26 e90 e21 e85 e27 e30 e37 e158 e160
  refine (rblocks11_c (M := M) op at_ nn pg bt _ HM.out HML.out HC.out HK.out).mono ?_
  rintro e w5 ⟨x, y, rfl, hl, hp⟩
  have HP : Hid (PdI w n r cc am cm M _ x y w5) := hp.base11 LL.out.size
  have O1 := hide HP.out.one
  replace BV := hide (BV.out.later hl)
  replace BI := hide (BI.out.later hl)
  replace LL := hide (LL.out.trans hl)
  clear hl hp HM BU BC HF
  go_wp2_with (refine wpList_storeU rfl 32 (.tmp 8) (.tmp 144) rfl gv 0 rfl x rfl (by rw [Tryz.info_unit, O1.out.1.1]) O1.out.1.2.2 _ _ BV.out (by rw [O1.out.1.1]; simp) ?_)
  intro w6 h6
  replace HP := hide (by have h := HP.out.set (.inl rfl) BV.out (uc_nob _ _ _ _ _ _ _ _ _ _ _ _ _ _) x; rw [← h6.out] at h; exact h)
  replace BI : Hid (Box w6 gi 44 zI) := by rw [h6.out]; exact BI.out.apart gv (by have := HG.out; omega) _ _
  replace LL : Hid (Later w w6) := by rw [h6.out]; exact LL.out.setCells HG.out.2.1 _ _
  replace BV : Hid (Box w6 gv 32 x) := by rw [h6.out]; exact BV.out.all x (by rw [O1.out.1.1]; rfl)
  clear h6
  go_wp2_with (refine wpList_storeU rfl 44 (.tmp 9) (.tmp 145) rfl gi 0 rfl y rfl (by rw [Tryz.info_intent, O1.out.2.1]) O1.out.2.2.2 _ _ BI.out (by rw [O1.out.2.1]; simp) ?_)
  intro w7 h7
  replace HP := hide (by have h := HP.out.set (.inr rfl) BI.out (ic_nob _ _ _ _ _ _ _ _ _ _ _ _ _) y; rw [← h7.out] at h; exact h)
  replace BV : Hid (Box w7 gv 32 x) := by rw [h7.out]; exact BV.out.apart gi (by have := HG.out; omega) _ _
  replace LL : Hid (Later w w7) := by rw [h7.out]; exact LL.out.setCells HG.out.2.2.1 _ _
  replace BI : Hid (Box w7 gi 44 y) := by rw [h7.out]; exact BI.out.all y (by rw [O1.out.2.1]; rfl)
  clear h7
  go_wp2
  exact bodyPost_ret (results_cell_cell' rfl _ _ _ gv 0 gi 0 rfl rfl _ _ (load_unit BV.out O1.out.1.1) (load_intent BI.out O1.out.2.1)) rfl ⟨x, y, rfl, LL.out, by rw [HR.out]; exact HP.out⟩
theorem rbegin11 (u : Value) (n : Nat) (F : List UInt8) (D : List Drt) (p r l cc : Bool) (am : Option Addr) (m cm : Nat) (s : Sns) (M : List Sns) (lun luns : Int) (c : Cmd) (w : World) (hU : Un w u n F D p r l cc am m cm s) (hA : Sl w (.slice am m cm) M) (hc : OkC7 c) (hs : OkS s) (h1 : In64 lun) (h2 : In64 luns) (hm1 : m ≤ 20) :
    Calls Tryz.prog 8 #[u, .int .i64 lun, .int .i64 luns, cval c] w fun e w' => ∃ x y, e = .returned (.tuple #[.agg x.toArray, .agg y.toArray]) ∧ Later w w' ∧ PdI w n r cc am cm M (begI n F D p r l cc M s lun luns c) x y w' := by
  obtain ⟨ab, cb, aD, k, cD, rfl, hm⟩ := hU
  obtain ⟨op, at_, nn, pg, bt⟩ := c
  by_cases q0 : op = 0
  · subst q0; exact rbeg_ready at_ nn pg bt w hm hA hc hs h1 h2 (by omega)
  by_cases q3 : op = 3
  · subst q3; exact rbeg_sense at_ nn pg bt w hm hA hc hs h1 h2 (by omega)
  by_cases q18 : op = 18
  · subst q18; exact rbeg_inquiry at_ nn pg bt w hm hA hc hs h1 h2 (by omega)
  by_cases q26 : op = 26
  · subst q26; exact rbeg_ms6 at_ nn pg bt w hm hA hc hs h1 h2 (by omega)
  by_cases q90 : op = 90
  · subst q90; exact rbeg_ms10 at_ nn pg bt w hm hA hc hs h1 h2 (by omega)
  by_cases q21 : op = 21
  · subst q21; exact rbeg_sel6 at_ nn pg bt w hm hA hc hs h1 h2 (by omega)
  by_cases q85 : op = 85
  · subst q85; exact rbeg_sel10 at_ nn pg bt w hm hA hc hs h1 h2 (by omega)
  by_cases q27 : op = 27
  · subst q27; exact rbeg_stop at_ nn pg bt w hm hA hc hs h1 h2 (by omega)
  by_cases q30 : op = 30
  · subst q30; exact rbeg_keep at_ nn pg bt w hm hA hc hs h1 h2 (by omega)
  by_cases q37 : op = 37
  · subst q37; exact rbeg_cap10 at_ nn pg bt w hm hA hc hs h1 h2 (by omega)
  by_cases q158 : op = 158
  · subst q158; exact rbeg_cap16 at_ nn pg bt w hm hA hc hs h1 h2 (by omega)
  by_cases q160 : op = 160
  · subst q160; exact rbeg_luns at_ nn pg bt w hm hA hc hs h1 h2 (by omega)
  by_cases hk : classI op = 0
  · exact rbeg_other at_ nn pg bt op (by rw [beg_rest q0 q3 q18 q26 q90 q160 q21 q85 q27 q30 q37 q158, if_pos hk]) hk (by simpa using q0) (by simpa using q3) (by simpa using q18) (by simpa using q26) (by simpa using q90) (by simpa using q21) (by simpa using q85) (by simpa using q27) (by simpa using q30) (by simpa using q37) (by simpa using q158) (by simpa using q160) w hm hA hc hs h1 h2 (by omega)
  · exact rbeg_blocks at_ nn pg bt op (beg_class hk) hk (by simpa using q0) (by simpa using q3) (by simpa using q18) (by simpa using q26) (by simpa using q90) (by simpa using q21) (by simpa using q85) (by simpa using q27) (by simpa using q30) (by simpa using q37) (by simpa using q158) (by simpa using q160) w hm hA hc hs h1 h2 (by omega)
end Go.Proofs.YtfakboehmcimpaaGreat
