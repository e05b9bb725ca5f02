import Derived.Test.YtphgjofiploahaaP3f
namespace Go.Proofs.Ytphgjofiploahaa
open Go.ChangeShapes Go.WideShapes Go.ChangeAt Go.RowKit
set_option linter.unusedVariables false
set_option linter.unusedSimpArgs false

/-! The landed cache: Flush. -/
set_option maxRecDepth 20000 in
set_option maxHeartbeats 1000000 in
theorem cflush3_c : IFlush := by
  intro v n F D at_ m w h ha ha' hm hm'
  have HM := hide h
  obtain ⟨vb, vd, rfl, hb, hd, hok⟩ := h
  obtain ⟨ab, cb, rfl⟩ := hb.shape
  obtain ⟨k, hk⟩ : ∃ k, k = D.length := ⟨_, rfl⟩
  rw [← hk] at hd
  obtain ⟨aD, cD, rfl⟩ := hd.shape
  have hnm := hb.2.1
  unfold maxLen at hnm
  have HO := hide hok
  have HK := hide hk
  clear hb hd hk hok
  go_enter Try.func21, Try.ntmps21
  go_wp2_with fail
  refine (cright_c _ (HM.out.later (((Later.refl w).alloc _).alloc _))).mono ?_
  rintro e w2 ⟨rfl, hl2⟩
  have L2 : Hid (Later w w2) := Later.trans (((Later.refl w).alloc _).alloc _) hl2
  have BX : Hid (Box w2 w.heap.size 25 [.slice ab n cb, .slice aD k cD]) := Box.later ((Box.new w 25 #[.slice ab n cb, .slice aD k cD]).alloc _) hl2
  have BR : Hid (Box w2 (w.heap.size + 1) 25 [.slice none 0 0, .slice none 0 0]) := Box.later (Box.new' _ _ _ _ rfl _ (by simp)) hl2
  clear hl2
  have d0 := BX.out.cell 0
  have d1 := BX.out.cell 1
  have r0 := BR.out.cell 0
  have r1 := BR.out.cell 1
  have f0 := BR.out.frozen 0
  have f1 := BR.out.frozen 1
  have BZ : Hid (Box ((w2.setCell ⟨w.heap.size + 1, 0, none⟩ (.slice none 0 0)).setCell ⟨w.heap.size + 1, 1, none⟩ (.slice none 0 0)) (w.heap.size + 1) 25 [.slice none 0 0, .slice none 0 0]) := (BR.out.set 0 _).set 1 _
  have LZ : Hid (Later w ((w2.setCell ⟨w.heap.size + 1, 0, none⟩ (.slice none 0 0)).setCell ⟨w.heap.size + 1, 1, none⟩ (.slice none 0 0))) := (L2.out.setCell (by simp) _).setCell (by simp) _
  by_cases hR : rightB n D = true
  case neg =>
    have hR' : rightB n D = false := by simpa using hR
    rw [hR']
    go_wp2
    refine bodyPost_ret (results_cell_tmp rfl _ _ _ (w.heap.size + 1) 0 rfl (.agg #[.slice none 0 0, .slice none 0 0]) (.int .i64 1) (run_loadVar_mid _ _ _ _ [.slice none 0 0, .slice none 0 0] _ BZ.out.range Try.underlying25 rfl (by kernel_rfl)) rfl) rfl ⟨.agg #[.slice none 0 0, .slice none 0 0], ?_, LZ.out, ?_⟩
    · simp [flushE, hR']
    · simpa [flushE, flushN, flushF, flushD, hR'] using Med.nil _
  rw [hR]
  by_cases hin : flushOk n at_ m = true
  case neg =>
    have hE : Hid (flushE n D at_ m = 5) := by simp [Hid, flushE, hR, hin]
    have hin' : ¬ (0 ≤ at_ ∧ 0 ≤ m ∧ at_ ≤ n) := by simpa [flushOk] using hin
    clear hin
    by_cases c1 : at_ < 0
    · go_wp2
      refine bodyPost_ret (results_cell_tmp rfl _ _ _ (w.heap.size + 1) 0 rfl (.agg #[.slice none 0 0, .slice none 0 0]) (.int .i64 5) (run_loadVar_mid _ _ _ _ [.slice none 0 0, .slice none 0 0] _ BZ.out.range Try.underlying25 rfl (by kernel_rfl)) rfl) rfl ⟨.agg #[.slice none 0 0, .slice none 0 0], by rw [hE.out], LZ.out, ?_⟩
      simpa [flushN, flushF, flushD, hE.out] using Med.nil _
    · by_cases c2 : m < 0
      · go_wp2
        refine bodyPost_ret (results_cell_tmp rfl _ _ _ (w.heap.size + 1) 0 rfl (.agg #[.slice none 0 0, .slice none 0 0]) (.int .i64 5) (run_loadVar_mid _ _ _ _ [.slice none 0 0, .slice none 0 0] _ BZ.out.range Try.underlying25 rfl (by kernel_rfl)) rfl) rfl ⟨.agg #[.slice none 0 0, .slice none 0 0], by rw [hE.out], LZ.out, ?_⟩
        simpa [flushN, flushF, flushD, hE.out] using Med.nil _
      · have c3 : (n : Int) < at_ := by omega
        go_wp2
        refine bodyPost_ret (results_cell_tmp rfl _ _ _ (w.heap.size + 1) 0 rfl (.agg #[.slice none 0 0, .slice none 0 0]) (.int .i64 5) (run_loadVar_mid _ _ _ _ [.slice none 0 0, .slice none 0 0] _ BZ.out.range Try.underlying25 rfl (by kernel_rfl)) rfl) rfl ⟨.agg #[.slice none 0 0, .slice none 0 0], by rw [hE.out], LZ.out, ?_⟩
        simpa [flushN, flushF, flushD, hE.out] using Med.nil _
  have hin' : 0 ≤ at_ ∧ 0 ≤ m ∧ at_ ≤ n := by simpa [flushOk] using hin
  have hE : Hid (flushE n D at_ m = 0) := by simp [Hid, flushE, hR, hin]
  have hR2 := hR
  simp only [rightB, decide_eq_true_eq] at hR2
  have hn64 := hR2.1
  have HL := hide hR2.2.1
  have HFit := hide (fit_of_right hR HO.out)
  have c1 : ¬ at_ < 0 := by omega
  have c2 : ¬ m < 0 := by omega
  have c3 : ¬ (n : Int) < at_ := by omega
  clear hin hR2 hR
  have hF : Hid (flushF n F D at_ m = app F (D.filter (inR at_ (flushTo n at_ m)))) := by simp [Hid, flushF, hE.out]
  have hD : Hid (flushD n D at_ m = D.filter (fun d => !inR at_ (flushTo n at_ m) d)) := by simp [Hid, flushD, hE.out]
  have hN : Hid (flushN n D at_ m = n) := by simp [Hid, flushN, hE.out]
  have hend := hide fun (w' : World) => cend_c n at_ m w' hn64 hin'.1 hin'.2.2 hin'.2.1 hm'
  generalize hT : flushTo n at_ m = T at *
  clear hT r0 r1 f0 f1 BZ LZ
  go_wp2_with fail
  have hc0 := fun r => (Box.later BX.out ((Later.refl w2).drew.trans (later_rg w2.drew r))).cell 0
  have hc1 := fun r => (Box.later BX.out ((Later.refl w2).drew.trans (later_rg w2.drew r))).cell 1
  refine wp_region_tree [0, 1, 2, 3, 4, 5, 6, 7] [8] [9, 10] (by kernel_rfl) (by kernel_rfl) (by kernel_rfl) (by kernel_rfl) ?_
  iterate 7 (refine wpT_mild rfl (fun K hK => ?_); go_simp; refine hK _ ?_; clear hK K)
  clear hc0 hc1 d0 d1
  refine wpT_call rfl (by kernel_rfl) 33 (Plain.of (by kernel_rfl)) [.tmp 30, .tmp 31, .tmp 32] _ rfl [.int .i64 n, .int .i64 at_, .int .i64 m] rfl (.int .i64 T) (fun wx hx => hend.out wx) ?_
  refine wpT_one (fun v W => ∃ vb vd, v = .agg #[vb, vd] ∧ W.ownsRow w.heap.size 27 64 vb n (bv (app F (D.filter (inR at_ T)))) ∧ W.ownsRow w.heap.size 53 65 vd (D.filter fun d => !inR at_ T d).length (dv (D.filter fun d => !inR at_ T d))) (by kernel_rfl)
    (fun v W W' hl ⟨vb, vd, h1, h2, h3⟩ => ⟨vb, vd, h1, owns_later h2 hl, owns_later h3 hl⟩) (fun W hl => ?_) ?_
  · have LW := hide (L2.out.trans ((Later.refl w2).drew.trans hl))
    refine lVal_step rfl (fun K hK => ?_)
    go_simp
    refine (cflush_i at_ T W (HM.out.later LW.out) hn64 HL.out HFit.out).mono ?_
    rintro e w3 ⟨vb, vd, rfl, hl3, h1, h2⟩
    exact ⟨_, rfl, hl3, hK _ _ ⟨vb, vd, rfl, owns_rebase h1 LW.out.size, owns_rebase h2 LW.out.size⟩⟩
  · intro v W hl ⟨vb, vd, hv, h1, h2⟩
    subst hv
    have LW := hide (L2.out.trans ((Later.refl w2).drew.trans hl))
    have BR3 := hide (BR.out.later ((Later.refl w2).drew.trans hl))
    have O1 := hide h1
    have O2 := hide h2
    clear h1 h2 hl
    obtain ⟨a3, c3, rfl⟩ := (Rw.of_owns O1.out).shape
    generalize hm6 : (D.filter fun d => !inR at_ T d).length = m6 at *
    have HM6 := hide hm6
    clear hm6
    obtain ⟨a6, c6, rfl⟩ := (Rw.of_owns O2.out).shape
    have HE := hide (med_ret (by omega) BR3.out LW.out O1.out O2.out)
    have r0 := BR3.out.cell 0
    have r1 := BR3.out.cell 1
    have f0 := BR3.out.frozen 0
    have f1 := BR3.out.frozen 1
    clear O1 O2 LW
    refine wpL_cons rfl (fun K hK => ?_)
    simp only [dstOf]
    go_simp
    refine hK _ _ ?_
    clear hK K
    refine wpL_cons rfl (fun K hK => ?_)
    go_simp
    refine hK _ _ (wpL_nil ?_)
    clear hK K
    go_wp2
    have HEE := med_of_owns (F := app F (D.filter (inR at_ T))) (D := D.filter fun d => !inR at_ T d) (HO.out.filter _) HE.out.2.2.1 (by rw [HM6.out]; exact HE.out.2.2.2)
    exact bodyPost_ret (results_cell_tmp rfl _ _ _ (w.heap.size + 1) 0 rfl (.agg #[.slice a3 n c3, .slice a6 m6 c6]) (.int .i64 0) (run_loadVar_mid _ _ _ _ [.slice a3 n c3, .slice a6 m6 c6] _ HE.out.1.range Try.underlying25 rfl (by kernel_rfl)) rfl) rfl ⟨.agg #[.slice a3 n c3, .slice a6 m6 c6], by rw [hE.out], HE.out.2.1, by rw [hN.out, hF.out, hD.out]; exact HEE.1⟩
end Go.Proofs.Ytphgjofiploahaa
