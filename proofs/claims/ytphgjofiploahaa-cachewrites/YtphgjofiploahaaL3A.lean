import Derived.Test.YtphgjofiploahaaL3I
namespace Go.Proofs.Ytphgjofiploahaa
open Go.ChangeShapes Go.WideShapes Go.ChangeAt Go.RowKit
set_option linter.unusedVariables false
set_option linter.unusedSimpArgs false

set_option maxRecDepth 20000 in
set_option maxHeartbeats 2000000 in
theorem cacheWrites_walk (hal : Alive3) (iR : IRight) (iS : IShow) (iW : IWrite) (iA : IAll) (v0 v1 v2 : Value) (w : World) (h0 : RMed w v0) (h1 : RInt .i64 v1) (h2 : RWrite3 v2) :
    Calls Try.prog 3 #[v0, v1, v2] w fun e w' => e = .returned (.bool true) ∧ Below w.heap.size w w' := by
  obtain ⟨n, F, D, hm⟩ := h0
  obtain ⟨at_, rfl, wa⟩ := h1
  have ha := bounds_i64 wa
  obtain ⟨X, th, hX, rfl⟩ := h2
  have M := hide hm
  have hFl := hm.flat
  obtain ⟨ab, cb, aD, k, cD, rfl, HK, hn, hk⟩ := hm.shape
  have HX := hide hX
  have HF := hide hFl
  clear hm wa hX hFl
  have BM := hide ((Box.new w 25 #[.slice ab n cb, .slice aD k cD]).alloc (.cells (bv X ++ [Value.bool th]).toArray 29))
  have BH := hide (Box.new' (w.alloc (.cells #[.slice ab n cb, .slice aD k cD] 25)) 29 (bv X ++ [Value.bool th]).toArray (bv X ++ [Value.bool th]) (by simp) (w.heap.size + 1) (by simp))
  have L := hide (((Later.refl w).alloc (.cells #[.slice ab n cb, .slice aD k cD] 25)).alloc (.cells (bv X ++ [Value.bool th]).toArray 29))
  go_enter Try.func3, Try.ntmps3
  go_wp2_with fail
  refine (hal _).mono ?_
  rintro e w1 ⟨rfl, hl⟩
  replace BM := hide (BM.out.later hl)
  replace BH := hide (BH.out.later hl)
  replace L := hide (L.out.later hl)
  clear hl
  have m0 := BM.out.cell 0
  have m1 := BM.out.cell 1
  go_wp2_with fail
  refine (rgreat_c _ (M.out.later L.out)).mono ?_
  rintro e w2 ⟨rfl, hl⟩
  replace BM := hide (BM.out.later hl)
  replace BH := hide (BH.out.later hl)
  replace L := hide (L.out.later hl)
  clear hl m0 m1
  by_cases hg : greatB n D = true
  · rw [hg]
    go_wp2
    go_ret
    exact ⟨rfl, L.out⟩
  have hg' : greatB n D = false := by simpa using hg
  rw [hg']
  have hnk : n ≤ 70 ∧ k ≤ 70 := by have := HK.out; simp [greatB] at hg'; omega
  clear hg hg'
  have m0 := BM.out.cell 0
  have m1 := BM.out.cell 1
  go_wp2_with fail
  refine (rcopy3_c _ (M.out.later L.out) (by omega) (by have := HK.out; omega)).mono ?_
  rintro e w3 ⟨vo, rfl, hl, ho⟩
  replace BM := hide (BM.out.later hl)
  replace BH := hide (BH.out.later hl)
  replace L := hide (L.out.later hl)
  have O := hide ho
  obtain ⟨ao, co, aO, ko, cO, rfl, HKo, hno, hko⟩ := ho.shape
  clear hl ho m0 m1
  go_wp2_with (refine wpList_newM rfl rfl rfl 7 rfl (by simp) (.tmp 21) (by simp) rfl ao aO n co ko cO rfl ?_)
  intro gO w4 hB hl hg
  replace BM := hide (BM.out.later hl)
  replace BH := hide (BH.out.later hl)
  replace L := hide (L.out.later hl)
  replace O := hide (O.out.later hl)
  have BO := hide hB
  clear hl hB hg
  have m0 := BO.out.cell 0
  have m1 := BO.out.cell 1
  have hth : w4.cell? ⟨w.heap.size + 1, 64, none⟩ = some (.bool th) := by
    rw [BH.out.cell 64, List.getElem?_append_right (by rw [bv_length, HX.out]; omega), bv_length, HX.out]
    rfl
  have hrx : Hid (w4.rangeAt (w.heap.size + 1) 0 (bv X)) := by
    have := range_part BH.out.range 0 64
    rw [List.drop_zero, List.take_left' (by rw [bv_length, HX.out])] at this
    exact this
  go_wp2_with (refine wpList_load_mid rfl 27 (.tmp 25) rfl (w.heap.size + 1) 0 rfl (bv X) _ hrx.out Try.underlying27 rfl (by rw [Try.info_block, bv_length, HX.out]) ?_)
  refine (iW _ _ _ _ at_ X th _ O.out HX.out ha.1 ha.2).mono ?_
  rintro e w5 ⟨va, rfl, hl, hA⟩
  replace BM := hide (BM.out.later hl)
  replace BH := hide (BH.out.later hl)
  replace L := hide (L.out.later hl)
  replace O := hide (O.out.later hl)
  replace BO := hide (BO.out.later hl)
  have A := hide hA
  obtain ⟨aa, ca, aA, ka, cA, rfl, HKa, hna, hka⟩ := hA.shape
  clear hA hl m0 m1 hth hrx
  go_wp2_with (refine wpList_newM rfl rfl rfl 8 rfl (by simp) (.tmp 30) (by simp) rfl aa aA _ ca ka cA rfl ?_)
  intro gA w6 hB hl hg
  replace BM := hide (BM.out.later hl)
  replace BH := hide (BH.out.later hl)
  replace L := hide (L.out.later hl)
  replace O := hide (O.out.later hl)
  replace BO := hide (BO.out.later hl)
  replace A := hide (A.out.later hl)
  have BA := hide hB
  clear hl hB hg
  have m0 := BM.out.cell 0
  have m1 := BM.out.cell 1
  have hth : w6.cell? ⟨w.heap.size + 1, 64, none⟩ = some (.bool th) := by
    rw [BH.out.cell 64, List.getElem?_append_right (by rw [bv_length, HX.out]; omega), bv_length, HX.out]
    rfl
  have hrx : Hid (w6.rangeAt (w.heap.size + 1) 0 (bv X)) := by
    have := range_part BH.out.range 0 64
    rw [List.drop_zero, List.take_left' (by rw [bv_length, HX.out])] at this
    exact this
  go_wp2_with (refine wpList_load_mid rfl 27 (.tmp 35) rfl (w.heap.size + 1) 0 rfl (bv X) _ hrx.out Try.underlying27 rfl (by rw [Try.info_block, bv_length, HX.out]) ?_)
  refine (rwrite3_c at_ X th _ (M.out.later L.out) HX.out ha.1 ha.2).mono ?_
  rintro e w7 ⟨vb, rfl, hl, hA⟩
  replace BM := hide (BM.out.later hl)
  replace BH := hide (BH.out.later hl)
  replace L := hide (L.out.later hl)
  replace O := hide (O.out.later hl)
  replace BO := hide (BO.out.later hl)
  replace A := hide (A.out.later hl)
  replace BA := hide (BA.out.later hl)
  have B := hide hA
  obtain ⟨a7, c7, a8, k8, c8, rfl, HK8, hn7, hk8⟩ := hA.shape
  clear hA hl m0 m1 hth hrx
  go_wp2_with (refine wpList_newM rfl rfl rfl 10 rfl (by simp) (.tmp 40) (by simp) rfl a7 a8 _ c7 k8 c8 rfl ?_)
  intro gB w8 hB hl hg
  replace BM := hide (BM.out.later hl)
  replace BH := hide (BH.out.later hl)
  replace L := hide (L.out.later hl)
  replace O := hide (O.out.later hl)
  replace BO := hide (BO.out.later hl)
  replace A := hide (A.out.later hl)
  replace BA := hide (BA.out.later hl)
  replace B := hide (B.out.later hl)
  have BB := hide hB
  clear hl hB hg
  have m0 := BO.out.cell 0
  have m1 := BO.out.cell 1
  have SL := hide (showL_length n F D at_ HF.out.1 HF.out.2)
  go_wp2_with fail
  refine (iS _ _ _ _ at_ _ O.out ha.1 ha.2).mono ?_
  rintro e w9 ⟨rfl, hl⟩
  replace BM := hide (BM.out.later hl)
  replace BH := hide (BH.out.later hl)
  replace L := hide (L.out.later hl)
  replace O := hide (O.out.later hl)
  replace BO := hide (BO.out.later hl)
  replace A := hide (A.out.later hl)
  replace BA := hide (BA.out.later hl)
  replace B := hide (B.out.later hl)
  replace BB := hide (BB.out.later hl)
  clear hl m0 m1
  generalize hS : showL n F D at_ = S at *
  go_wp2_with (refine wpList_newB rfl rfl rfl 12 rfl (by simp) (.tmp 46) (by simp) rfl S SL.out rfl ?_)
  intro gX wa hB hl hg
  replace BM := hide (BM.out.later hl)
  replace BH := hide (BH.out.later hl)
  replace L := hide (L.out.later hl)
  replace O := hide (O.out.later hl)
  replace BO := hide (BO.out.later hl)
  replace A := hide (A.out.later hl)
  replace BA := hide (BA.out.later hl)
  replace B := hide (B.out.later hl)
  replace BB := hide (BB.out.later hl)
  have BX := hide hB
  clear hl hB hg
  have m0 := BM.out.cell 0
  have m1 := BM.out.cell 1
  go_wp2_with fail
  refine (rshow_c at_ _ (M.out.later L.out)).mono ?_
  rw [hS]
  rintro e wb ⟨rfl, hl⟩
  replace BM := hide (BM.out.later hl)
  replace BH := hide (BH.out.later hl)
  replace L := hide (L.out.later hl)
  replace O := hide (O.out.later hl)
  replace BO := hide (BO.out.later hl)
  replace A := hide (A.out.later hl)
  replace BA := hide (BA.out.later hl)
  replace B := hide (B.out.later hl)
  replace BB := hide (BB.out.later hl)
  replace BX := hide (BX.out.later hl)
  clear hl m0 m1
  go_wp2_with (refine wpList_newB rfl rfl rfl 14 rfl (by simp) (.tmp 52) (by simp) rfl S SL.out rfl ?_)
  intro gY wc hB hl hg
  replace BM := hide (BM.out.later hl)
  replace BH := hide (BH.out.later hl)
  replace L := hide (L.out.later hl)
  replace O := hide (O.out.later hl)
  replace BO := hide (BO.out.later hl)
  replace A := hide (A.out.later hl)
  replace BA := hide (BA.out.later hl)
  replace B := hide (B.out.later hl)
  replace BB := hide (BB.out.later hl)
  replace BX := hide (BX.out.later hl)
  have BY := hide hB
  clear hl hB hg hS
  go_wp2_with fail
  have hc := fun r => ((Later.refl wc).drew.trans (later_rg wc.drew r))
  have a0 := fun r => (BA.out.later (hc r)).cell 0
  have a1 := fun r => (BA.out.later (hc r)).cell 1
  have b0 := fun r => (BB.out.later (hc r)).cell 0
  have b1 := fun r => (BB.out.later (hc r)).cell 1
  refine wp_region_sched ([0, 1, 2, 3, 4, 5, 6, 7, 8, 9, 10, 11, 12, 13, 14, 15, 16, 17, 18, 19, 20, 21, 22, 23, 24, 25, 26, 28].map (fun i => (i, false)) ++ [(27, true), (29, true)] ++ [30, 31, 32, 33, 34, 35, 36, 37].map fun i => (i, false)) (by kernel_rfl) (by kernel_rfl) (by kernel_rfl) (by kernel_rfl) ?_
  simp only [List.map, List.append_assoc, List.cons_append, List.nil_append]
  iterate 2 (refine wpS_mild rfl (fun K hK => ?_); go_simp; refine hK _ ?_; clear hK K)
  have hwc := (Later.refl wc).drew
  refine wpS_call rfl rfl 15 (Plain.of (by kernel_rfl)) [.tmp 54, .tmp 55] _ rfl [.agg #[.slice aa (wrN n D at_) ca, .slice aA ka cA], .agg #[.slice a7 (wrN n D at_) c7, .slice a8 k8 c8]] rfl (.bool true) (fun wx hx => ?c1) ?_
  case c1 =>
    refine (rsame3_c _ (A.out.later (hwc.trans hx)) (B.out.later (hwc.trans hx))).mono fun e w' ⟨he, hl⟩ => ⟨?_, hl⟩
    rw [he]; simp
  clear a0 a1 b0 b1
  iterate 6 (refine wpS_mild rfl (fun K hK => ?_); go_simp; refine hK _ ?_; clear hK K)
  refine wpS_loadG rfl (by kernel_rfl) 27 (.tmp 12) rfl gX 0 rfl (bv S) _ ((World.rangeAt_drew _ _ _ _).2 BX.out.range) Try.underlying27 rfl (by rw [Try.info_block, bv_length, SL.out]) ?_
  refine wpS_loadG rfl (by kernel_rfl) 27 (.tmp 14) rfl gY 0 rfl (bv S) _ ((World.rangeAt_drew _ _ _ _).2 BY.out.range) Try.underlying27 rfl (by rw [Try.info_block, bv_length, SL.out]) ?_
  refine wpS_eqG rfl (by kernel_rfl) 27 27 (.tmp 63) (.tmp 64) rfl _ _ rfl rfl Try.guard_block true (fun w => by rw [block_eq S S SL.out SL.out]; simp) ?_
  iterate 7 (refine wpS_mild rfl (fun K hK => ?_); go_simp; refine hK _ ?_; clear hK K)
  have m0 := fun r => (BM.out.later (hc r)).cell 0
  have m1 := fun r => (BM.out.later (hc r)).cell 1
  refine wpS_mild rfl (fun K hK => ?_); go_simp; refine hK _ ?_; clear hK K
  refine wpS_call rfl (by kernel_rfl) 16 (Plain.of (by kernel_rfl)) [.tmp 73] _ rfl [.agg #[.slice ab n cb, .slice aD k cD]] rfl (.bool (rightB n D)) (fun wx hx => iR _ _ _ _ _ (M.out.later (L.out.trans (hwc.trans hx)))) ?_
  refine wpS_mild rfl (fun K hK => ?_); go_simp; refine hK _ ?_; clear hK K
  refine wpS_call rfl (by kernel_rfl) 17 (Plain.of (by kernel_rfl)) [.tmp 75] _ rfl [.agg #[.slice ab n cb, .slice aD k cD]] rfl (.bool (rightB n D)) (fun wx hx => rright_c _ (M.out.later (L.out.trans (hwc.trans hx)))) ?_
  iterate 5 (refine wpS_mild rfl (fun K hK => ?_); go_simp; refine hK _ ?_; clear hK K)
  clear m0 m1
  refine wpS_callL rfl (by kernel_rfl) 19 (Plain.of (by kernel_rfl)) [.tmp 80] _ rfl [.agg #[.slice ab n cb, .slice aD k cD]] rfl (fun v w' => Rw 64 w' v (allN n D) (bv (allF n F D))) (fun wx hx => iA _ _ _ _ _ (M.out.later (L.out.trans (hwc.trans hx)))) ?_
  intro v1 d1 hd1 R1
  refine wpS_callL rfl (by kernel_rfl) 20 (Plain.of (by kernel_rfl)) [.tmp 82] _ rfl [.agg #[.slice ab n cb, .slice aD k cD]] rfl (fun v w' => Rw 64 w' v (allN n D) (bv (allF n F D))) (fun wx hx => rall_b _ (M.out.later (L.out.trans (hwc.trans (hd1.trans hx))))) ?_
  intro v2 d2 hd2 R2
  refine wpS_call rfl (by kernel_rfl) 18 (Plain.of (by kernel_rfl)) [.tmp 81, .tmp 83] _ rfl [v1, v2] rfl (.bool true) (fun wx hx => ?c2) ?_
  case c2 =>
    refine (rsame_c _ (R1.later (hd2.trans hx)) (R2.later hx)).mono fun e w' ⟨he, hl⟩ => ⟨?_, hl⟩
    rw [he]; simp
  have hd := hwc.trans (hd1.trans hd2)
  have hc' := fun r => hd.trans (later_rg d2 r)
  iterate 2 (refine wpS_mild rfl (fun K hK => ?_); go_simp; refine hK _ ?_; clear hK K)
  have m0 := fun r => (BM.out.later (hc' r)).cell 0
  have m1 := fun r => (BM.out.later (hc' r)).cell 1
  have o0 := fun r => (BO.out.later (hc' r)).cell 0
  have o1 := fun r => (BO.out.later (hc' r)).cell 1
  iterate 2 (refine wpS_mild rfl (fun K hK => ?_); go_simp; refine hK _ ?_; clear hK K)
  clear m0 m1 o0 o1
  refine wpS_call rfl (by kernel_rfl) 15 (Plain.of (by kernel_rfl)) [.tmp 87, .tmp 88] _ rfl [.agg #[.slice ao n co, .slice aO ko cO], .agg #[.slice ab n cb, .slice aD k cD]] rfl (.bool true) (fun wx hx => ?c3) ?_
  case c3 =>
    refine (rsame3_c _ (O.out.later (hd.trans hx)) (M.out.later (L.out.trans (hd.trans hx)))).mono fun e w' ⟨he, hl⟩ => ⟨?_, hl⟩
    rw [he]; simp
  iterate 2 (refine wpS_mild rfl (fun K hK => ?_); go_simp; refine hK _ ?_; clear hK K)
  refine wpS_nil (fun wx hx => ?_)
  have LX := hide (L.out.trans (hd.trans hx))
  clear hc hc' hx
  go_wp2
  go_ret
  exact ⟨rfl, LX.out⟩
end Go.Proofs.Ytphgjofiploahaa
