import Derived.Test.YtphgjofiploahaaP3c
namespace Go.Proofs.Ytphgjofiploahaa
open Go.ChangeShapes Go.WideShapes Go.ChangeAt Go.RowKit
set_option linter.unusedVariables false
set_option linter.unusedSimpArgs false

/-! The landed cache: Show. -/
theorem showE_no {n : Nat} {F : List UInt8} {D : List Drt} {at_ : Int} (h : showE n D at_ ≠ 0) : showL n F D at_ = z64L := by
  unfold showL
  rw [if_neg, z64L]
  intro ⟨h1, h2⟩
  unfold showE at h
  rw [if_pos h1, if_pos h2] at h
  exact h rfl
theorem showE_yes {n : Nat} {D : List Drt} {at_ : Int} (h : showE n D at_ = 0) : rightB n D = true ∧ 0 ≤ at_ ∧ at_ < n := by
  unfold showE at h
  split at h
  · rename_i h1
    split at h
    · rename_i h2; exact ⟨h1, h2⟩
    · omega
  · omega

set_option maxRecDepth 20000 in
set_option maxHeartbeats 1000000 in
theorem cshow_c : IShow := by
  intro v n F D at_ w h ha ha'
  have HM := hide h
  obtain ⟨vb, vd, rfl, hb, hd, hok⟩ := h
  obtain ⟨ab, cb, rfl⟩ := hb.shape
  obtain ⟨k, hk⟩ : ∃ k, k = D.length := ⟨_, rfl⟩
  rw [← hk] at hd
  obtain ⟨aD, cD, rfl⟩ := hd.shape
  have hnm := hb.2.1
  have hkm := hd.2.1
  unfold maxLen at hnm hkm
  have HFl : Hid (F.length = n * 64) := by have := hb.1; rwa [bv_length] at this
  have HB := hide hb
  have HD := hide hd
  have HO := hide hok
  have HK := hide hk
  clear hb hd hk hok
  go_enter Try.func13, Try.ntmps13
  go_wp2_with fail
  refine (ccheck_c at_ _ (HM.out.later (((Later.refl w).alloc _).alloc _))).mono ?_
  rintro e w2 ⟨rfl, hl2⟩
  have L2 : Hid (Later w w2) := Later.trans (((Later.refl w).alloc _).alloc _) hl2
  have BX : Hid (Box w2 w.heap.size 25 [.slice ab n cb, .slice aD k cD]) := Box.later ((Box.new w 25 #[.slice ab n cb, .slice aD k cD]).alloc _) hl2
  have BR : Hid (Box w2 (w.heap.size + 1) 27 (bv z64L)) := Box.later (Box.new' _ _ _ _ z64L_is _ (by simp)) hl2
  clear hl2
  have d0 := BX.out.cell 0
  have d1 := BX.out.cell 1
  by_cases hR : showE n D at_ = 0
  case neg =>
    have hno := hide (showE_no (F := F) hR)
    have hne : (showE n D at_ != 0) = true := by rw [bne_iff_ne]; exact hR
    generalize hE : showE n D at_ = er at *
    have HE := hide hE
    clear hE
    have ht : Hid (w2.there (w.heap.size + 1) 0 (bv z64L).toArray.size) := BR.out.there 0 _ (by simp)
    go_wp2_with (refine wpList_store_mid rfl 27 (.tmp 4) (.tmp 15) rfl (w.heap.size + 1) 0 (bv z64L).toArray rfl (by kernel_rfl) ht.out (by kernel_rfl) (all_oneCell_toArray (bv_one _)) ?_)
    have BZ := hide (BR.out.all (bv z64L) rfl)
    have LZ := hide (L2.out.setCells (g := w.heap.size + 1) (by omega) (bv z64L) 0)
    refine bodyPost_ret (results_cell_tmp rfl _ _ _ (w.heap.size + 1) 0 rfl (.agg (bv z64L).toArray) (.int .i64 er) (run_loadVar_mid _ _ _ _ (bv z64L) _ BZ.out.range Try.underlying27 rfl (by kernel_rfl)) rfl) rfl ⟨?_, LZ.out⟩
    rw [hno.out, HE.out]
  have hy := showE_yes hR
  have HR := hide hy.1
  have HFit := hide (fit_of_right hy.1 HO.out)
  have hn64 := (right_parts hy.1).1
  have hk64 : k ≤ 64 := by have := (right_parts hy.1).2; have := HK.out; omega
  have HSL : Hid (showL n F D at_ = seg (app F D) (at_.toNat * 64) 64) := by unfold Hid showL; rw [if_pos hy]
  rw [hR]
  obtain ⟨z, rfl⟩ := Int.eq_ofNat_of_zero_le hy.2.1
  have hzn : z < n := by have := hy.2.2; omega
  clear hR hy
  obtain ⟨bB, oB, e, hrB⟩ := (HB.out.later L2.out).lies? (by omega)
  subst e
  have hra := range_part hrB (z * 64) 64
  rw [bv_part] at hra
  have hXl := hide (seg_length F (z * 64) 64 (by have := HFl.out; omega))
  have HX0 : Hid (seg (app F (D.take 0)) (z * 64) 64 = seg F (z * 64) 64) := by simp [Hid, app]
  generalize seg F (z * 64) 64 = X0 at *
  have hra' := hide hra
  have hbox := hide (Box.new' w2 27 (Array.replicate 64 (.int .u8 0)) _ rfl w2.heap.size rfl)
  have hbl1 := hide (L2.out.alloc (.cells (Array.replicate 64 (.int .u8 0)) 27))
  have hszr := L2.out.size
  have hG2 : w.heap.size + 1 < w2.heap.size := BR.out.lt
  clear hra hrB
  go_wp2_with (first
    | refine wpList_load_mid rfl 27 (.tmp 20) rfl bB (oB + z * 64) rfl (bv X0) _ hra'.out Try.underlying27 rfl (by rw [Try.info_block, bv_length, hXl.out]) ?_
    | refine wpList_store_new rfl 27 (.tmp 7) (.tmp 21) rfl w2.heap.size (bv X0) rfl rfl _ hbox.out (by rw [bv_length, hXl.out]; simp) (by rw [bv_length, hXl.out, Try.info_block]) (bv_one _) w hbl1.out hszr ?_)
  intro w5 hb5 hl5 hk5 hs5
  have hkeep : ∀ j, j < w2.heap.size → w5.heap[j]? = w2.heap[j]? := fun j hj => by rw [hk5 j (by omega)]; exact Below.heap_alloc w2 _ j hj
  have X5 : Hid (Box w5 w.heap.size 25 [.slice (some ⟨bB, oB, none⟩) n cb, .slice aD k cD]) := BX.out.kept (hkeep _ BX.out.lt)
  have R5 : Hid (Box w5 (w.heap.size + 1) 27 (bv z64L)) := BR.out.kept (hkeep _ BR.out.lt)
  have S5 : Hid (Box w5 w2.heap.size 27 (bv (seg (app F (D.take 0)) (z * 64) 64))) := by unfold Hid; rw [HX0.out]; exact hb5
  have L5 := hide hl5
  clear d0 d1
  have d0 := X5.out.cell 0
  have d1 := X5.out.cell 1
  clear hkeep hk5 hs5 hb5 hl5 BX BR L2 hbox hbl1 hszr hra'
  generalize w2.heap.size = GS at *
  go_wp2_with fail
  clear d0 d1 X5
  go_loopw [25] (fun i wr => ∃ (q : Nat), q ≤ k ∧ i = .int .i64 q ∧ Hid (Later w wr) ∧ Hid (Box wr (w.heap.size + 1) 27 (bv z64L)) ∧ Hid (Box wr GS 27 (bv (seg (app F (D.take q)) (z * 64) 64)))) (fun i _ => k - (intOf i).toNat)
  case atStart => exact ⟨0, Nat.zero_le _, rfl, L5, R5, S5⟩
  case round =>
    clear L5 R5 S5
    obtain ⟨q, hq, rfl, hl, hbr, hbs⟩ := hrel
    have hSl : Hid ((seg (app F (D.take q)) (z * 64) 64).length = 64) := by
      refine seg_length _ _ _ ?_
      rw [app_length n _ F HFl.out fun x hx => HFit.out x (List.mem_of_mem_take hx)]
      omega
    by_cases hlt : q < k
    · have hqD : q < D.length := by have := HK.out; omega
      have hdq := HFit.out D[q] (List.getElem_mem hqD)
      obtain ⟨bD, oD, e, hr⟩ := (HD.out.later hl.out).lies? (by omega)
      subst e
      have hra := range_part hr (q * 65) 65
      rw [dv_part D q hqD HO.out] at hra
      have hXl := hide hdq.1
      have hyb := hide hdq.2
      have hAl : Hid ((app F (D.take q)).length = n * 64) := app_length n _ F HFl.out fun x hx => HFit.out x (List.mem_of_mem_take hx)
      have happ : Hid (app F (D.take (q + 1)) = over (app F (D.take q)) (D[q].1.toNat * 64) D[q].2) := by
        unfold Hid
        rw [List.take_succ_eq_append_getElem hqD, app_snoc]
      have hra' := hide hra
      generalize D[q].2 = X at *
      generalize D[q].1 = y at *
      clear hra hr hdq
      have hcl : Hid ((Value.int .i64 y :: bv X).length = 65) := by simp [Hid, bv_length, hXl.out]
      have hbox := hide (Box.new' wr 53 (#[.int .i64 0] ++ Array.replicate 64 (.int .u8 0)) _ rfl wr.heap.size rfl)
      have hbl1 := hide (hl.out.alloc (.cells (#[.int .i64 0] ++ Array.replicate 64 (.int .u8 0)) 53))
      have hszr := hl.out.size
      go_wp2_with (first
        | refine wpList_load_mid rfl 53 (.tmp 27) rfl bD (oD + q * 65) rfl (Value.int .i64 y :: bv X) _ hra'.out Try.underlying53 rfl (by rw [Try.info_dirty, hcl.out]) ?_
        | refine wpList_store_new rfl 53 (.tmp 9) (.tmp 28) rfl wr.heap.size (Value.int .i64 y :: bv X) rfl rfl _ hbox.out (by rw [hcl.out]; rfl) (by rw [hcl.out, Try.info_dirty]) (fun u hu => by rcases List.mem_cons.1 hu with rfl | h; rfl; exact bv_one X u h) w hbl1.out hszr ?_)
      intro w5 hb5 hl5 hk5 hs5
      have hkeep : ∀ j, j < wr.heap.size → w5.heap[j]? = wr.heap[j]? := fun j hj => by rw [hk5 j (by omega)]; exact Below.heap_alloc wr _ j hj
      have R5 := hide (hbr.out.kept (hkeep _ hbr.out.lt))
      have S5 := hide (hbs.out.kept (hkeep _ hbs.out.lt))
      have E5 := hide hb5
      have L5 := hide hl5
      have e0 := hb5.cell 0
      clear hkeep hk5 hs5 hb5 hl5 hbr hbs hl hbox hbl1 hszr hra'
      generalize wr.heap.size = G at *
      by_cases hyz : y = z
      · have hbe : (y == (z : Int)) = true := by rw [beq_iff_eq]; exact hyz
        have hnew : Hid (seg (app F (D.take (q + 1))) (z * 64) 64 = X) := by
          unfold Hid
          rw [happ.out, hyz]
          have := seg_over (app F (D.take q)) ((z : Int).toNat * 64) X (by rw [hAl.out, hXl.out]; omega)
          rw [hXl.out] at this
          simpa using this
        have hrX := hide (range_tail E5.out.range)
        have hth : Hid (w5.there GS 0 (bv X).toArray.size) := S5.out.there 0 _ (by simp [bv_length, hXl.out, hSl.out])
        have S6 : Hid (Box (w5.setCells GS 0 (bv X)) GS 27 (bv (seg (app F (D.take (q + 1))) (z * 64) 64))) := by
          unfold Hid
          rw [hnew.out]
          exact S5.out.all (bv X) (by simp [bv_length, hXl.out, hSl.out])
        have R6 : Hid (Box (w5.setCells GS 0 (bv X)) (w.heap.size + 1) 27 (bv z64L)) := R5.out.kept (heap_setCells_other w5 GS (w.heap.size + 1) (by omega) _ _)
        have L6 := hide (L5.out.setCells (g := GS) (by omega) (bv X) 0)
        clear hyz happ hAl R5 S5 L5 hnew
        go_wp2_with (first
          | refine wpList_load_mid rfl 27 (.tmp 33) rfl G 1 rfl (bv X) _ hrX.out Try.underlying27 rfl (by rw [Try.info_block, bv_length, hXl.out]) ?_
          | refine wpList_store_mid rfl 27 (.tmp 7) (.tmp 34) rfl GS 0 (bv X).toArray rfl rfl hth.out (by rw [Try.info_block]; simp [bv_length, hXl.out]) (all_oneCell_toArray (bv_one _)) ?_)
        go_roundw
        case rel => exact ⟨q + 1, by omega, by go_num, L6, R6, S6⟩
        case measure => simp [intOf]; omega
      · have hbe : (y == (z : Int)) = false := by rw [beq_eq_false_iff_ne]; exact hyz
        have S6 : Hid (Box w5 GS 27 (bv (seg (app F (D.take (q + 1))) (z * 64) 64))) := by
          unfold Hid
          have hy1 := hyb.out
          rw [happ.out, seg_over_else _ _ _ (by rw [hAl.out, hXl.out]; omega) _ _ (by rw [hXl.out]; omega)]
          exact S5.out
        clear hyz happ hAl S5
        go_wp2
        go_roundw
        case rel => exact ⟨q + 1, by omega, by go_num, L5, R5, S6⟩
        case measure => simp [intOf]; omega
    · have hkq : q = k := by omega
      have hsq : Hid (seg (app F (D.take q)) (z * 64) 64 = showL n F D (z : Int)) := by
        unfold Hid
        rw [HSL.out, hkq, HK.out, List.take_length]
        simp
      rw [hsq.out] at hbs hSl
      have hE0 : Hid (showE n D (z : Int) = 0) := by unfold Hid showE; rw [if_pos HR.out, if_pos (by omega)]
      generalize hX : showL n F D (z : Int) = X at *
      have HX := hide hX
      clear hX hsq
      have hrX := hide hbs.out.range
      have ht : Hid (wr.there (w.heap.size + 1) 0 (bv X).toArray.size) := hbr.out.there 0 _ (by simp [bv_length, hSl.out, z64L])
      have BZ := hide (hbr.out.all (bv X) (by simp [bv_length, hSl.out, z64L]))
      have LZ := hide (hl.out.setCells (g := w.heap.size + 1) (by omega) (bv X) 0)
      go_wp2_with (first
        | refine wpList_load_mid rfl 27 (.tmp 7) rfl GS 0 rfl (bv X) _ hrX.out Try.underlying27 rfl (by rw [Try.info_block, bv_length, hSl.out]) ?_
        | refine wpList_store_mid rfl 27 (.tmp 4) (.tmp 36) rfl (w.heap.size + 1) 0 (bv X).toArray rfl rfl ht.out (by rw [Try.info_block]; simp [bv_length, hSl.out]) (all_oneCell_toArray (bv_one _)) ?_)
      exact bodyPost_ret (results_cell_tmp rfl _ _ _ (w.heap.size + 1) 0 rfl (.agg (bv X).toArray) (.int .i64 0) (run_loadVar_mid _ _ _ _ (bv X) _ BZ.out.range Try.underlying27 rfl (by rw [Try.info_block, bv_length, hSl.out])) rfl) rfl ⟨by rw [HX.out, hE0.out], LZ.out⟩
end Go.Proofs.Ytphgjofiploahaa
