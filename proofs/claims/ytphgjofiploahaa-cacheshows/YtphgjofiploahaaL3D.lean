import Derived.Test.YtphgjofiploahaaCall3
namespace Go.Proofs.Ytphgjofiploahaa
open Go.ChangeShapes Go.WideShapes Go.ChangeAt Go.RowKit
set_option linter.unusedVariables false
set_option linter.unusedSimpArgs false

set_option maxHeartbeats 400000 in
theorem lfilled_c (c : UInt8) (w : World) :
    Calls Try.prog 25 #[.int .u8 (c.toNat : Int)] w fun e w' => e = .returned (.agg (bv (List.replicate 64 c)).toArray) ∧ Later w w' := by
  go_enter Try.func25, Try.ntmps25
  go_wp2
  go_loopw [4] (fun i wr => ∃ k : Nat, k ≤ 64 ∧ i = .int .i64 k ∧ Hid (∃ zs, zs.length = 64 ∧ Box wr w.heap.size 27 zs) ∧ Hid (Box wr (w.heap.size + 1) 27 (bv (fillP c 64 k))) ∧ Hid (Later w wr)) (fun i _ => 64 - (intOf i).toNat)
  case atStart =>
    refine ⟨0, Nat.zero_le _, rfl, ?_, ?_, ?_⟩
    · exact ⟨_, rfl, (Box.new w _ _).alloc _⟩
    · rw [fillP_zero, zeros64]
      exact Box.new' (w.alloc _) _ _ _ rfl _ (by simp)
    · exact ((Later.refl w).alloc _).alloc _
  case round =>
    obtain ⟨k, hk, rfl, hz, hbox, hlat⟩ := hrel
    by_cases hlt : k < 64
    · have hst := hide (fillP_set c 64 k hlt)
      have hlen := fillP_length c 64 k (by omega)
      obtain ⟨u, hcell⟩ : ∃ u : Value, wr.cell? ⟨w.heap.size + 1, k, none⟩ = some u := by
        rw [hbox.out.cell k]
        exact ⟨_, List.getElem?_eq_getElem (by rw [bv_length, hlen]; exact hlt)⟩
      have hfz := hbox.out.frozen k
      clear hlen
      go_wp2
      go_roundw
      case rel =>
        refine ⟨k + 1, by omega, by go_num, ?_, ?_, ?_⟩
        · obtain ⟨zs, h1, h2⟩ := hz.out
          exact ⟨zs, h1, h2.other _ _ (by simp)⟩
        · unfold Hid
          rw [hst.out, bv_set]
          exact hbox.out.set k _
        · exact hlat.out.setCell (by simp) _
      case measure => simp [intOf]; omega
    · have hk64 : k = 64 := by omega
      rw [hk64, fillP_all] at hbox
      generalize hX : List.replicate 64 c = X at *
      have hsl : X.length = 64 := by rw [← hX]; simp
      have HX := hide hX
      clear hX
      obtain ⟨zs, hzl, hzb⟩ := hz.out
      clear hk64 hz
      have hth := hzb.there 0 64 (by omega)
      have hbl : (bv X).toArray.size = 64 := by simp [bv_length, hsl]
      have Hb := hzb.setCells (bv X) 0 (by rw [bv_length]; omega)
      have HB : Hid (Box (wr.setCells w.heap.size 0 (bv X)) w.heap.size 27 (bv X)) := by
        have e : zs.take 0 ++ bv X ++ zs.drop (0 + (bv X).length) = bv X := by
          rw [bv_length, hsl, List.drop_of_length_le (by omega)]; simp
        rwa [e] at Hb
      have HL := hide (hlat.out.setCells (Nat.le_refl _) (bv X) 0)
      have hbx := hide hbox.out.range
      have HTH := hide hth
      have HSZ := hide hbl
      have HSL := hide hsl
      clear Hb hzb hzl hsl hth hbl hbox hlat
      go_wp2_with (first
        | refine wpList_load_mid rfl 27 (.tmp 3) rfl (w.heap.size + 1) 0 rfl (bv X) _ hbx.out Try.underlying27 rfl (by rw [Try.info_block, bv_length, HSL.out]) ?_
        | refine wpList_store_mid rfl 27 (.tmp 2) (.tmp 12) rfl w.heap.size 0 (bv X).toArray rfl rfl (by rw [HSZ.out]; exact HTH.out) (by rw [HSZ.out]; exact Try.info_block) (all_oneCell_toArray (bv_one _)) ?_)
      refine bodyPost_ret (results_cell1 rfl _ _ _ w.heap.size 0 rfl (.agg (bv X).toArray) (run_loadVar_mid _ _ _ _ _ _ HB.out.range Try.underlying27 rfl (by rw [Try.info_block, bv_length, HSL.out]))) rfl ⟨by rw [HX.out], HL.out⟩

set_option maxRecDepth 20000 in
set_option maxHeartbeats 2000000 in
theorem cacheThrough_walk (hal : Alive3) (iS : IShow) (iW : IWrite) (iL : ILose) (v0 v1 v2 : Value) (w : World) (h0 : RMed w v0) (h1 : RInt .u8 v1) (h2 : RLoss v2) :
    Calls Try.prog 7 #[v0, v1, v2] w fun e w' => e = .returned (.bool true) ∧ Below w.heap.size w w' := by
  obtain ⟨n, F, D, hm⟩ := h0
  obtain ⟨x, rfl, wx⟩ := h1
  have hx := bounds_u8 wx
  obtain ⟨xa, rfl⟩ := Int.eq_ofNat_of_zero_le hx.1
  obtain ⟨c, mk, hmk, rfl⟩ := h2
  have M := hide hm
  have HF := hide hm.flat
  obtain ⟨ab, cb, aD, k, cD, rfl, HK, hn, hk⟩ := hm.shape
  clear hm wx
  have BM := hide ((Box.new w 25 #[.slice ab n cb, .slice aD k cD]).alloc (.cells #[.int .u8 (c.toNat : Int), .int .u64 (mk : Int)] 56))
  have BT := hide (Box.new' (w.alloc (.cells #[.slice ab n cb, .slice aD k cD] 25)) 56 #[.int .u8 (c.toNat : Int), .int .u64 (mk : Int)] [.int .u8 (c.toNat : Int), .int .u64 (mk : Int)] rfl (w.heap.size + 1) (by simp))
  have L := hide (((Later.refl w).alloc (.cells #[.slice ab n cb, .slice aD k cD] 25)).alloc (.cells #[.int .u8 (c.toNat : Int), .int .u64 (mk : Int)] 56))
  go_enter Try.func7, Try.ntmps7
  go_wp2_with fail
  refine (hal _).mono ?_
  rintro e w1 ⟨rfl, hl⟩
  replace BM := hide (BM.out.later hl)
  replace BT := hide (BT.out.later hl)
  replace L := hide (L.out.later hl)
  clear hl
  have m0 := BM.out.cell 0
  have m1 := BM.out.cell 1
  go_wp2_with fail
  refine (rgreat_c _ (M.out.later L.out)).mono ?_
  clear m0 m1
  rintro e w2 ⟨rfl, hl⟩
  replace BM := hide (BM.out.later hl)
  replace BT := hide (BT.out.later hl)
  replace L := hide (L.out.later hl)
  clear hl
  by_cases hg : greatB n D = true
  · rw [hg]
    go_wp2
    go_ret
    exact ⟨rfl, L.out⟩
  have hg' : greatB n D = false := by simpa using hg
  rw [hg']
  clear hg hg'
  have m0 := BM.out.cell 0
  have m1 := BM.out.cell 1
  go_wp2_with fail
  refine (rright_c _ (M.out.later L.out)).mono ?_
  clear m0 m1
  rintro e w3 ⟨rfl, hl⟩
  replace BM := hide (BM.out.later hl)
  replace BT := hide (BT.out.later hl)
  replace L := hide (L.out.later hl)
  clear hl
  by_cases hR : rightB n D = true
  case neg =>
    have hR' : rightB n D = false := by simpa using hR
    rw [hR']
    go_wp2
    go_ret
    exact ⟨rfl, L.out⟩
  rw [hR]
  have m0 := BM.out.cell 0
  have m1 := BM.out.cell 1
  by_cases hn0 : n = 0
  · subst hn0
    go_wp2
    go_ret
    exact ⟨rfl, L.out⟩
  have hnz : ((n : Int) == 0) = false := by simpa using hn0
  obtain ⟨q, hq⟩ : ∃ q : Nat, q = xa % n := ⟨_, rfl⟩
  have hqn : q < n := by rw [hq]; exact Nat.mod_lt _ (by omega)
  have hqi : ((xa : Int) % (n : Int)) = (q : Int) := by rw [hq]; rfl
  have HR := hide hR
  clear hq hR
  have hxa : xa ≤ 255 := by omega
  have HT := hide (through_lasts (F := F) q (List.replicate 64 c) mk HR.out HF.out.2 HF.out.1 hqn (by simp))
  have HXl : Hid ((List.replicate 64 c).length = 64) := by simp [Hid]
  go_wp2_with fail
  rw [hqi]
  generalize hX : List.replicate 64 c = X at *
  have HX := hide hX
  clear m0 m1 hX
  have hc := fun r => ((Later.refl w3).drew.trans (later_rg w3.drew r))
  have m0 := fun r => (BM.out.later (hc r)).cell 0
  have m1 := fun r => (BM.out.later (hc r)).cell 1
  have t0 := fun r => (BT.out.later (hc r)).cell 0
  refine wp_region_bag [0, 1, 2, 3, 4] [5, 6, 7, 8, 9, 10, 11] [10] (by kernel_rfl) (by kernel_rfl) (by kernel_rfl) (by kernel_rfl) ?_
  iterate 4 (refine wpM_mild rfl (fun K hK => ?_); go_simp; refine hK _ ?_; clear hK K)
  refine wpM_call rfl (by kernel_rfl) 25 (Plain.of (by kernel_rfl)) [.tmp 39] _ rfl [.int .u8 (c.toNat : Int)] rfl (.agg (bv X).toArray) (fun wx hx => (lfilled_c c wx).mono fun e w' ⟨he, hl⟩ => ⟨by rw [he, HX.out], hl⟩) ?_
  clear m0 m1 t0 hc
  have hwd := (Later.refl w3).drew
  refine wpM_nil (call2_med 5 6 7 8 9 10 11 rfl rfl rfl rfl rfl rfl rfl rfl rfl rfl rfl rfl rfl rfl _ _ _ _ _ _ rfl rfl rfl rfl rfl rfl rfl rfl (by decide) 11 (Plain.of (by kernel_rfl)) [.tmp 36, .tmp 37, .tmp 40, .const (.bool true)] _ rfl [.agg #[.slice ab n cb, .slice aD k cD], .int .i64 (q : Int), .agg (bv X).toArray, .bool true] rfl rfl rfl rfl rfl rfl rfl (by decide) (by kernel_rfl) (by kernel_rfl) (by kernel_rfl) (by kernel_rfl) (by kernel_rfl) (by kernel_rfl) (by kernel_rfl) 0 n (wrF n F D q X true) (wrD n D q X true) ?_ ?_)
  · intro wx hx
    have := iW _ _ _ _ (q : Int) X true wx (M.out.later (L.out.trans (hwd.trans hx))) HXl.out (by omega) (by omega)
    rw [HT.out.1, HT.out.2.1] at this
    exact this
  intro p5 c5 q5 k5 d5 g5 w5 hl hg HK5 hA hB
  have A := hide hA
  have BA := hide hB
  have hl' := hwd.trans hl
  replace BM := hide (BM.out.later hl')
  replace BT := hide (BT.out.later hl')
  replace L := hide (L.out.later hl')
  have eE : loseE n (wrD n D q X true) = 0 := by simp [loseE, HT.out.2.2.1]
  have eN : loseN n (wrD n D q X true) = n := by simp [loseN, HT.out.2.2.1]
  have eF : loseF n (wrF n F D q X true) (wrD n D q X true) mk = app (wrF n F D q X true) (pickM (wrD n D q X true) mk) := by simp [loseF, HT.out.2.2.1]
  have HE := hide (And.intro eE (And.intro eN eF))
  clear hl hl' hA hB hg eE eN eF hwd
  have m0 := BA.out.cell 0
  have m1 := BA.out.cell 1
  have t1 := BT.out.cell 1
  go_wp2_with fail
  have hcl := iL _ _ _ _ mk _ A.out hmk
  rw [HE.out.1, HE.out.2.1, HE.out.2.2] at hcl
  refine hcl.mono ?_
  clear hcl m0 m1 t1
  rintro e w6 ⟨v6, rfl, hl, hA⟩
  replace BM := hide (BM.out.later hl)
  replace BT := hide (BT.out.later hl)
  replace L := hide (L.out.later hl)
  have Y := hide hA
  obtain ⟨p6, c6, q6, k6, d6, rfl, HK6, hn6, hk6⟩ := hA.shape
  clear hA hl
  go_wp2_with (refine wpList_newM rfl rfl rfl 10 rfl (by simp) (.tmp 49) (by simp) rfl p6 q6 _ c6 k6 d6 rfl ?_)
  intro g6 w7 hB hl hg
  replace BM := hide (BM.out.later hl)
  replace BT := hide (BT.out.later hl)
  replace L := hide (L.out.later hl)
  replace Y := hide (Y.out.later hl)
  have BY := hide hB
  clear hl hB hg
  generalize hG : app (wrF n F D q X true) (pickM (wrD n D q X true) mk) = G at *
  have hrn := right_nil HR.out
  have eS : showE n [] (q : Int) = 0 := by simp only [showE, hrn, if_true]; rw [if_pos (by omega)]
  have eL : showL n G [] (q : Int) = X := by
    rw [showL, if_pos ⟨hrn, by omega, by omega⟩, app_nil]
    exact HT.out.2.2.2.2
  have HS := hide (And.intro eS eL)
  clear eS eL hG hrn
  have m0 := BY.out.cell 0
  have m1 := BY.out.cell 1
  go_wp2_with fail
  have hcl := iS _ _ _ _ (q : Int) _ Y.out (by omega) (by omega)
  rw [HS.out.1, HS.out.2] at hcl
  refine hcl.mono ?_
  clear hcl m0 m1
  rintro e w8 ⟨rfl, hl⟩
  replace BT := hide (BT.out.later hl)
  replace L := hide (L.out.later hl)
  replace Y := hide (Y.out.later hl)
  replace BY := hide (BY.out.later hl)
  clear hl
  go_wp2_with (refine wpList_newB rfl rfl rfl 12 rfl (by simp) (.tmp 55) (by simp) rfl X HXl.out rfl ?_)
  intro gX w9 hB hl hg
  replace BT := hide (BT.out.later hl)
  replace L := hide (L.out.later hl)
  replace Y := hide (Y.out.later hl)
  replace BY := hide (BY.out.later hl)
  have BX := hide hB
  clear hl hB hg
  obtain rfl : k6 = 0 := HK6.out
  go_wp2_with fail
  have hc := fun r => ((Later.refl w9).drew.trans (later_rg w9.drew r))
  have t0 := fun r => (BT.out.later (hc r)).cell 0
  have y1 := fun r => (BY.out.later (hc r)).cell 1
  refine wp_region_sched ((List.range 24).map fun i => (i, false)) (by kernel_rfl) (by kernel_rfl) (by kernel_rfl) (by kernel_rfl) ?_
  simp only [List.range, List.range.loop, List.map]
  iterate 11 (refine wpS_mild rfl (fun K hK => ?_); go_simp; refine hK _ ?_; clear hK K)
  refine wpS_loadG rfl (by kernel_rfl) 27 (.tmp 12) rfl gX 0 rfl (bv X) _ ((World.rangeAt_drew _ _ _ _).2 BX.out.range) Try.underlying27 rfl (by rw [Try.info_block, bv_length, HXl.out]) ?_
  iterate 2 (refine wpS_mild rfl (fun K hK => ?_); go_simp; refine hK _ ?_; clear hK K)
  refine wpS_call rfl (by kernel_rfl) 25 (Plain.of (by kernel_rfl)) [.tmp 70] _ rfl [.int .u8 (c.toNat : Int)] rfl (.agg (bv X).toArray) (fun wx hx => (lfilled_c c wx).mono fun e w' ⟨he, hl⟩ => ⟨by rw [he, HX.out], hl⟩) ?_
  refine wpS_eqG rfl (by kernel_rfl) 27 27 (.tmp 68) (.tmp 71) rfl _ _ rfl rfl Try.guard_block true (fun w => by rw [block_eq X X HXl.out HXl.out]; simp) ?_
  iterate 8 (refine wpS_mild rfl (fun K hK => ?_); go_simp; refine hK _ ?_; clear hK K)
  refine wpS_nil (fun wx hx => ?_)
  have LX := hide (L.out.trans ((Later.refl w9).drew.trans hx))
  clear hc hx t0 y1
  go_wp2
  go_ret
  exact ⟨rfl, LX.out⟩
end Go.Proofs.Ytphgjofiploahaa
