import Derived.Test.YtphgjofiploahaaP3b
import Derived.Test.YtphgjofiploahaaL3F
import Derived.Laws.BitsAllLaws
namespace Go.Proofs.Ytphgjofiploahaa
open Go.ChangeShapes Go.WideShapes Go.ChangeAt Go.RowKit
set_option linter.unusedVariables false
set_option linter.unusedSimpArgs false

/-! The landed cache: All and Lose. -/
theorem bit_of (m q : Nat) (hm : m ≤ 18446744073709551615) : bits .and .u64 ((m : Int) / 2 ^ q) 1 = ((m / 2 ^ q % 2 : Nat) : Int) := by
  have h1 : ((m : Int) / 2 ^ q) = ((m / 2 ^ q : Nat) : Int) := by simp
  have h2 : m / 2 ^ q ≤ m := Nat.div_le_self _ _
  have h3 := u64_and_nat (m / 2 ^ q) 1 (by omega) (by omega)
  rw [Nat.and_one_is_mod] at h3
  rw [h1]
  exact h3
theorem field_blocks (w : World) (a3 a6 : Option Addr) (n c3 m c6 : Nat) : Sem.run Try.prog (Instr.field 25 (.agg #[.slice a3 n c3, .slice a6 m c6]) 0) w = .ok (.slice a3 n c3) w := by
  simp [Instr.field, part, asAgg]
theorem right_parts {n : Nat} {D : List Drt} (h : rightB n D = true) : n ≤ 64 ∧ D.length ≤ 64 := by
  simp only [rightB, decide_eq_true_eq] at h
  exact ⟨h.1, h.2.1⟩

set_option maxHeartbeats 1000000 in
theorem call3_c : IAll := by
  intro v n F D w h
  have HM := hide h
  obtain ⟨vb, vd, rfl, hb, hd, hok⟩ := h
  obtain ⟨ab, cb, rfl⟩ := hb.shape
  obtain ⟨k, hk⟩ : ∃ k, k = D.length := ⟨_, rfl⟩
  rw [← hk] at hd
  obtain ⟨aD, cD, rfl⟩ := hd.shape
  have HO := hide hok
  clear hb hd hk hok
  go_enter Try.func19, Try.ntmps19
  go_wp2_with fail
  refine (cright_c _ (HM.out.later ((Later.refl w).alloc _))).mono ?_
  rintro e w2 ⟨rfl, hl2⟩
  have L2 : Hid (Later w w2) := Later.trans ((Later.refl w).alloc _) hl2
  have BX : Hid (Box w2 w.heap.size 25 [.slice ab n cb, .slice aD k cD]) := Box.later (Box.new w 25 #[.slice ab n cb, .slice aD k cD]) hl2
  clear hl2
  have d0 := BX.out.cell 0
  have d1 := BX.out.cell 1
  by_cases hR : rightB n D = true
  case neg =>
    have hR' : rightB n D = false := by simpa using hR
    rw [hR']
    go_wp2
    go_ret
    refine ⟨_, rfl, L2.out, ?_⟩
    simp only [allN, allF, hR']
    exact Rw.nil _ _
  rw [hR]
  have HR := hide hR
  have hp := right_parts hR
  have HFit := hide (fit_of_right hR HO.out)
  clear hR
  go_wp2_with fail
  refine (cflush_i 0 (n : Int) w2 (HM.out.later L2.out) hp.1 hp.2 HFit.out).mono ?_
  rintro e w3 ⟨vb, vd, rfl, hl3, h1, h2⟩
  have L3 := hide (L2.out.trans hl3)
  rw [(inR_all HFit.out).1] at h1
  rw [(inR_all HFit.out).2] at h2
  obtain ⟨a3, c3, rfl⟩ := (Rw.of_owns h1).shape
  obtain ⟨a6, c6, rfl⟩ := (Rw.of_owns h2).shape
  have O1 := hide h1
  clear h1 h2 hl3 d0 d1
  have hfd := field_blocks w3 a3 a6 n c3 0 c6
  go_wp2
  go_ret
  refine ⟨_, rfl, L3.out, ?_⟩
  simp only [allN, allF, HR.out, if_true]
  exact Rw.of_owns O1.out

set_option maxRecDepth 20000 in
set_option maxHeartbeats 1000000 in
theorem close3_c : ILose := by
  intro v n F D mask w h hmk
  have HM := hide h
  obtain ⟨vb, vd, rfl, hb, hd, hok⟩ := h
  obtain ⟨ab, cb, rfl⟩ := hb.shape
  obtain ⟨k, hk⟩ : ∃ k, k = D.length := ⟨_, rfl⟩
  rw [← hk] at hd
  obtain ⟨aD, cD, rfl⟩ := hd.shape
  have hnm := hb.2.1
  have hkm := hd.2.1
  unfold maxLen at hnm hkm
  have HB := hide hb
  have HD := hide hd
  have HO := hide hok
  have HK := hide hk
  clear hb hd hk hok
  go_enter Try.func23, Try.ntmps23
  go_wp2_with fail
  refine (cright_c _ (HM.out.later (((Later.refl w).alloc _).alloc _))).mono ?_
  rintro e w2 ⟨rfl, hl2⟩
  have L2 : Hid (Later w w2) := Later.trans (((Later.refl w).alloc _).alloc _) hl2
  have BX : Hid (Box w2 w.heap.size 25 [.slice ab n cb, .slice aD k cD]) := Box.later ((Box.new w 25 #[.slice ab n cb, .slice aD k cD]).alloc _) hl2
  have BR : Hid (Box w2 (w.heap.size + 1) 25 [.slice none 0 0, .slice none 0 0]) := Box.later (Box.new' _ _ _ _ rfl _ (by simp)) hl2
  clear hl2
  have d0 := BX.out.cell 0
  have d1 := BX.out.cell 1
  have r0 := BR.out.cell 0
  have r1 := BR.out.cell 1
  have f0 := BR.out.frozen 0
  have f1 := BR.out.frozen 1
  by_cases hR : rightB n D = true
  case neg =>
    have hR' : rightB n D = false := by simpa using hR
    have BZ : Hid (Box ((w2.setCell ⟨w.heap.size + 1, 0, none⟩ (.slice none 0 0)).setCell ⟨w.heap.size + 1, 1, none⟩ (.slice none 0 0)) (w.heap.size + 1) 25 [.slice none 0 0, .slice none 0 0]) := (BR.out.set 0 _).set 1 _
    have LZ : Hid (Later w ((w2.setCell ⟨w.heap.size + 1, 0, none⟩ (.slice none 0 0)).setCell ⟨w.heap.size + 1, 1, none⟩ (.slice none 0 0))) := (L2.out.setCell (by simp) _).setCell (by simp) _
    rw [hR']
    go_wp2
    refine bodyPost_ret (results_cell_tmp rfl _ _ _ (w.heap.size + 1) 0 rfl (.agg #[.slice none 0 0, .slice none 0 0]) (.int .i64 1) (run_loadVar_mid _ _ _ _ [.slice none 0 0, .slice none 0 0] _ BZ.out.range Try.underlying25 rfl (by kernel_rfl)) rfl) rfl ⟨.agg #[.slice none 0 0, .slice none 0 0], ?_, LZ.out, ?_⟩
    · simp [loseE, hR']
    · simpa [loseN, loseF, hR'] using Med.nil _
  rw [hR]
  have hn64 : n ≤ 64 := (right_parts hR).1
  have hk64 : k ≤ 64 := by have := (right_parts hR).2; have := HK.out; omega
  have HFit := hide (fit_of_right hR HO.out)
  have HR := hide hR
  clear hR
  go_wp2_with fail
  refine (clasting_c _ (HM.out.later L2.out) hn64).mono ?_
  rintro e w3 ⟨v3, rfl, hl3, ho3⟩
  have L3 := hide (L2.out.trans hl3)
  have BX3 := hide (Box.later BX.out hl3)
  have BR3 := hide (Box.later BR.out hl3)
  have O3 : Hid (w3.ownsRow w.heap.size 27 64 v3 n (bv F)) := ho3.mono L2.out.size
  clear hl3 ho3 d0 d1 r0 r1 f0 f1 BX BR L2
  obtain ⟨a3, c3, rfl⟩ := (Rw.of_owns O3.out).shape
  have e1 := (BX3.out.alloc (.cells #[.slice a3 n c3, .slice none 0 0] 25)).cell 1
  go_wp2_with fail
  clear e1
  have BX1 := hide (BX3.out.alloc (.cells #[.slice a3 n c3, .slice none 0 0] 25))
  have BR1 := hide (BR3.out.alloc (.cells #[.slice a3 n c3, .slice none 0 0] 25))
  have BO1 := hide (Box.new w3 25 #[.slice a3 n c3, .slice none 0 0])
  have O1 := hide (O3.out.alloc (.cells #[.slice a3 n c3, .slice none 0 0] 25))
  have L1 := hide (L3.out.alloc (.cells #[.slice a3 n c3, .slice none 0 0] 25))
  have hG2 : w.heap.size + 1 < w3.heap.size := BR3.out.lt
  clear BX3 BR3 O3 L3
  generalize (w3.alloc (.cells #[.slice a3 n c3, .slice none 0 0] 25)) = w4 at *
  generalize w3.heap.size = G2 at *
  go_loopw [18] (fun i wr => ∃ (q : Nat), q ≤ k ∧ i = .int .i64 q ∧ Hid (Later w wr) ∧ Hid (Box wr w.heap.size 25 [.slice ab n cb, .slice aD k cD]) ∧ Hid (Box wr (w.heap.size + 1) 25 [.slice none 0 0, .slice none 0 0]) ∧ Hid (Box wr G2 25 [.slice a3 n c3, .slice none 0 0]) ∧
      Hid (wr.ownsRow w.heap.size 27 64 (.slice a3 n c3) n (bv (app F (pickM (D.take q) mask))))) (fun i _ => k - (intOf i).toNat)
  case atStart => exact ⟨0, Nat.zero_le _, rfl, L1, BX1, BR1, BO1, by simpa [app, pickM] using O1⟩
  case round =>
    clear BX1 BR1 BO1 O1 L1
    obtain ⟨q, hq, rfl, hl, hbx, hbr, hbo, hob⟩ := hrel
    by_cases hlt : q < k
    · have hqD : q < D.length := by have := HK.out; omega
      have hdq := HFit.out D[q] (List.getElem_mem hqD)
      obtain ⟨z, hz⟩ := Int.eq_ofNat_of_zero_le hdq.2.1
      have hzn : z < n := by have := hdq.2.2; omega
      obtain ⟨bD, oD, e, hr⟩ := (HD.out.later hl.out).lies? (by omega)
      subst e
      have hra := range_part hr (q * 65) 65
      rw [dv_part D q hqD HO.out] at hra
      have hXl := hide hdq.1
      have hstep : Hid (pickM (D.take (q + 1)) mask = pickM (D.take q) mask ++ (if mask / 2 ^ q % 2 = 1 then [((z : Int), D[q].2)] else [])) := by
        unfold Hid
        rw [List.take_succ_eq_append_getElem hqD, pickM_snoc, List.length_take, Nat.min_eq_left (by omega), ← hz]
      rw [hz] at hra
      have hra' := hide hra
      generalize D[q].2 = X at *
      clear hra hr hdq hz
      have hcl : Hid ((Value.int .i64 (z : Int) :: bv X).length = 65) := by simp [Hid, bv_length, hXl.out]
      have hbox := hide (Box.new' wr 53 (#[.int .i64 0] ++ Array.replicate 64 (.int .u8 0)) _ rfl wr.heap.size rfl)
      have hbl1 := hide (hl.out.alloc (.cells (#[.int .i64 0] ++ Array.replicate 64 (.int .u8 0)) 53))
      have hszr := hl.out.size
      go_wp2_with (first
        | refine wpList_load_mid rfl 53 (.tmp 21) rfl bD (oD + q * 65) rfl (Value.int .i64 (z : Int) :: bv X) _ hra'.out Try.underlying53 rfl (by rw [Try.info_dirty, hcl.out]) ?_
        | refine wpList_store_new rfl 53 (.tmp 8) (.tmp 22) rfl wr.heap.size (Value.int .i64 (z : Int) :: bv X) rfl rfl _ hbox.out (by rw [hcl.out]; rfl) (by rw [hcl.out, Try.info_dirty]) (fun u hu => by rcases List.mem_cons.1 hu with rfl | h; rfl; exact bv_one X u h) w hbl1.out hszr ?_)
      intro w5 hb5 hl5 hk5 hs5
      have hkeep : ∀ j, j < wr.heap.size → w5.heap[j]? = wr.heap[j]? := fun j hj => by rw [hk5 j (by omega)]; exact Below.heap_alloc wr _ j hj
      have X5 : Hid (Box w5 w.heap.size 25 [.slice ab n cb, .slice (some ⟨bD, oD, none⟩) k cD]) := hbx.out.kept (hkeep _ hbx.out.lt)
      have R5 : Hid (Box w5 (w.heap.size + 1) 25 [.slice none 0 0, .slice none 0 0]) := hbr.out.kept (hkeep _ hbr.out.lt)
      have U5 : Hid (Box w5 G2 25 [.slice a3 n c3, .slice none 0 0]) := hbo.out.kept (hkeep _ hbo.out.lt)
      have B5 := hide (owns_kept hob.out fun g hg => hkeep g (hob.out.lt g hg).2)
      have E5 := hide hb5
      have L5 := hide hl5
      have e0 := hb5.cell 0
      have u0 := U5.out.cell 0
      clear hkeep hk5 hs5 hb5 hl5 hbx hbr hbo hob hl hbox hbl1 hszr hra'
      generalize wr.heap.size = G at *
      have hbit := bit_of mask q hmk
      by_cases hodd : mask / 2 ^ q % 2 = 1
      · have hb1 : (bits BinOp.and IntKind.u64 ((mask : Int) / 2 ^ q) 1 == 1) = true := by rw [hbit, hodd]; rfl
        clear hbit
        obtain ⟨g, cg, e, hg⟩ := owns_head B5.out (by omega)
        simp only [Value.slice.injEq, true_and] at e
        obtain ⟨rfl, rfl⟩ := e
        have hrX := hide (range_tail E5.out.range)
        have hth : Hid (w5.there g (z * 64) (bv X).toArray.size) := by
          have := owns_there B5.out (z * 64) 64 (by omega)
          unfold Hid
          simpa [bv_length, hXl.out] using this
        have hnew := (owns_setCells B5.out (bv X) (z * 64) (by rw [bv_length, hXl.out]; omega)).1
        rw [← bv_over] at hnew
        have ho1 : ∀ b t xs, t ≠ 27 → Box w5 b t xs → Box (w5.setCells g (z * 64) (bv X)) b t xs := fun b t xs hne hB => by
          unfold Box
          rw [heap_setCells_other w5 g b (box_ne_own hB B5.out hne g rfl)]
          exact hB
        have N1 : Hid ((w5.setCells g (z * 64) (bv X)).ownsRow w.heap.size 27 64 (.slice (some ⟨g, 0, none⟩) n c3) n (bv (app F (pickM (D.take (q + 1)) mask)))) := by
          unfold Hid
          rw [hstep.out, if_pos hodd, app_snoc]
          exact hnew
        have N3 := hide (ho1 _ _ _ (by decide) X5.out)
        have N4 := hide (ho1 _ _ _ (by decide) R5.out)
        have N5 := hide (ho1 _ _ _ (by decide) U5.out)
        have N6 := hide (L5.out.setCells hg (bv X) (z * 64))
        clear ho1 hnew X5 R5 U5 L5 hstep hodd
        go_wp2_with (first
          | refine wpList_load_mid rfl 27 (.tmp 32) rfl G 1 rfl (bv X) _ hrX.out Try.underlying27 rfl (by rw [Try.info_block, bv_length, hXl.out]) ?_
          | refine wpList_store_mid rfl 27 (.tmp 34) (.tmp 33) rfl g (z * 64) (bv X).toArray rfl rfl hth.out (by rw [Try.info_block]; simp [bv_length, hXl.out]) (all_oneCell_toArray (bv_one _)) ?_)
        go_roundw
        case rel => exact ⟨q + 1, by omega, by go_num, N6, N3, N4, N5, N1⟩
        case measure => simp [intOf]; omega
      · have hb1 : (bits BinOp.and IntKind.u64 ((mask : Int) / 2 ^ q) 1 == 1) = false := by rw [hbit, beq_eq_false_iff_ne]; omega
        have N1 : Hid (w5.ownsRow w.heap.size 27 64 (.slice a3 n c3) n (bv (app F (pickM (D.take (q + 1)) mask)))) := by
          unfold Hid
          rw [hstep.out, if_neg hodd, List.append_nil]
          exact B5.out
        clear hbit hstep hodd B5
        go_wp2
        go_roundw
        case rel => exact ⟨q + 1, by omega, by go_num, L5, X5, R5, U5, N1⟩
        case measure => simp [intOf]; omega
    · have hkq : q = k := by omega
      have B1 : Hid (wr.ownsRow w.heap.size 27 64 (.slice a3 n c3) n (bv (app F (pickM D mask)))) := by have := hob.out; rw [hkq, HK.out, List.take_length] at this; exact this
      have o0 := hbo.out.cell 0
      have o1 := hbo.out.cell 1
      have r0 := hbr.out.cell 0
      have r1 := hbr.out.cell 1
      have f0 := hbr.out.frozen 0
      have f1 := hbr.out.frozen 1
      have hw1 : Hid (Box ((wr.setCell ⟨w.heap.size + 1, 0, none⟩ (.slice a3 n c3)).setCell ⟨w.heap.size + 1, 1, none⟩ (.slice none 0 0)) (w.heap.size + 1) 25 [.slice a3 n c3, .slice none 0 0]) := (hbr.out.set 0 _).set 1 _
      have hne : ∀ g, g ≠ w.heap.size + 1 → ((wr.setCell ⟨w.heap.size + 1, 0, none⟩ (.slice a3 n c3)).setCell ⟨w.heap.size + 1, 1, none⟩ (.slice none 0 0)).heap[g]? = wr.heap[g]? := fun g hg => by
        rw [heap_setCell_other _ _ _ _ (by simpa using hg), heap_setCell_other _ _ _ _ (by simpa using hg)]
      have N1 := hide (owns_kept B1.out fun g hg => hne g (fun e => box_ne_own hbr.out B1.out (by decide) g hg e.symm))
      have N6 : Hid (Later w ((wr.setCell ⟨w.heap.size + 1, 0, none⟩ (.slice a3 n c3)).setCell ⟨w.heap.size + 1, 1, none⟩ (.slice none 0 0))) := (hl.out.setCell (by simp) _).setCell (by simp) _
      clear hne hob hbx hbr hl B1
      go_wp2
      refine bodyPost_ret (results_cell_tmp rfl _ _ _ (w.heap.size + 1) 0 rfl (.agg #[.slice a3 n c3, .slice none 0 0]) (.int .i64 0) (run_loadVar_mid _ _ _ _ [.slice a3 n c3, .slice none 0 0] _ hw1.out.range Try.underlying25 rfl (by kernel_rfl)) rfl) rfl ⟨.agg #[.slice a3 n c3, .slice none 0 0], by simp [loseE, HR.out], N6.out, _, _, rfl, ?_, Rw.nil 65 _, fun d hd => by cases hd⟩
      simp only [loseN, loseF, HR.out, if_true]
      exact Rw.of_owns N1.out
end Go.Proofs.Ytphgjofiploahaa
