import Derived.Laws.BitsAllLaws
import Derived.Test.YtfakboehmcimpaaGreatMAU
import Derived.Test.YtfakboehmcimpaaGreatMAB
import Derived.Test.YtfakboehmcimpaaGreatMAH
import Derived.Test.YtfakboehmcimpaaGreatMAM
import Derived.Test.YtfakboehmcimpaaGreatMAG
import Derived.Test.YtfakboehmcimpaaGreatMAE
namespace Go.Proofs.YtfakboehmcimpaaGreat
open Go.ChangeShapes Go.WideShapes Go.ChangeAt Go.RowKit
set_option linter.unusedVariables false
set_option maxRecDepth 4000
set_option linter.unusedSimpArgs false
/-! The landed cache: its inner function flush. -/
set_option maxRecDepth 20000 in
set_option maxHeartbeats 2000000 in
theorem cflush_i {v : Value} {n : Nat} {F : List UInt8} {D : List Drt} (f t : Int) (w : World) (h : Med w v n F D) (hn : n ≤ 64) (hk64 : D.length ≤ 64) (hfit : Fit n D) :
    Calls Tryz.prog 113 #[v, .int .i64 f, .int .i64 t] w fun e w' => ∃ vb vd, e = .returned (.agg #[vb, vd]) ∧ Later w w' ∧
      w'.ownsRow w.heap.size 80 64 vb n (bv (app F (D.filter (inR f t)))) ∧ w'.ownsRow w.heap.size 83 65 vd (D.filter fun d => !inR f t d).length (dv (D.filter fun d => !inR f t d)) := by
  have HM := hide h
  obtain ⟨vb, vd, rfl, hb, hd, hok⟩ := h
  obtain ⟨ab, cb, rfl⟩ := hb.shape
  obtain ⟨k, hk⟩ : ∃ k, k = D.length := ⟨_, rfl⟩
  rw [← hk] at hd hk64
  obtain ⟨aD, cD, rfl⟩ := hd.shape
  have HB := hide hb
  have HD := hide hd
  have HK := hide hk
  have HO := hide hok
  have HF := hide hfit
  clear hb hd hk hok hfit
  go_enter Tryz.func113, Tryz.ntmps113
  go_wp2_with fail
  refine (clasting_c _ (HM.out.later (((Later.refl w).alloc _).alloc _)) hn).mono ?_
  rintro e w2 ⟨v2, rfl, hl2, ho2⟩
  have L2 : Hid (Later w w2) := Later.trans (((Later.refl w).alloc _).alloc _) hl2
  have BX : Hid (Box w2 w.heap.size 25 [.slice ab n cb, .slice aD k cD]) := Box.later ((Box.new w 25 #[.slice ab n cb, .slice aD k cD]).alloc _) hl2
  have BR : Hid (Box w2 (w.heap.size + 1) 25 [.slice none 0 0, .slice none 0 0]) := Box.later (Box.new' _ _ _ _ rfl _ (by simp)) hl2
  have O2 : Hid (w2.ownsRow w.heap.size 80 64 v2 n (bv F)) := ho2.mono (by simp; omega)
  have d0 := BX.out.cell 0
  have d1 := BX.out.cell 1
  clear hl2 ho2
  obtain ⟨a2, c2, rfl⟩ := (Rw.of_owns O2.out).shape
  have e1 := (BX.out.alloc (.cells #[.slice a2 n c2, .slice none 0 0] 25)).cell 1
  go_wp2_with fail
  clear d0 d1 e1
  have BX1 := hide (BX.out.alloc (.cells #[.slice a2 n c2, .slice none 0 0] 25))
  have BR1 := hide (BR.out.alloc (.cells #[.slice a2 n c2, .slice none 0 0] 25))
  have BO1 := hide (Box.new w2 25 #[.slice a2 n c2, .slice none 0 0])
  have O1 := hide (O2.out.alloc (.cells #[.slice a2 n c2, .slice none 0 0] 25))
  have L1 := hide (L2.out.alloc (.cells #[.slice a2 n c2, .slice none 0 0] 25))
  have hG2 : w.heap.size + 1 < w2.heap.size := BR.out.lt
  clear BX BR O2 L2
  generalize (w2.alloc (.cells #[.slice a2 n c2, .slice none 0 0] 25)) = w3 at *
  generalize w2.heap.size = G2 at *
  go_loopw [15] (fun i wr => ∃ (q : Nat) (vd : Value), q ≤ k ∧ i = .int .i64 q ∧ Hid (Later w wr) ∧ Hid (Box wr w.heap.size 25 [.slice ab n cb, .slice aD k cD]) ∧ Hid (Box wr (w.heap.size + 1) 25 [.slice none 0 0, .slice none 0 0]) ∧ Hid (Box wr G2 25 [.slice a2 n c2, vd]) ∧
      Hid (wr.ownsRow w.heap.size 80 64 (.slice a2 n c2) n (bv (app F ((D.take q).filter (inR f t))))) ∧ Hid (wr.ownsRow w.heap.size 83 65 vd ((D.take q).filter fun d => !inR f t d).length (dv ((D.take q).filter fun d => !inR f t d)))) (fun i _ => k - (intOf i).toNat)
  case atStart => exact ⟨0, _, Nat.zero_le _, rfl, L1, BX1, BR1, BO1, by simpa [app] using O1, by simpa [dv, Hid] using World.ownsRow_nil _ _ _ _⟩
  case round =>
    clear BX1 BR1 BO1 O1 L1
    obtain ⟨q, vd, hq, rfl, hl, hbx, hbr, hbo, hob, hod⟩ := hrel
    have d0 := hbx.out.cell 0
    have d1 := hbx.out.cell 1
    by_cases hlt : q < k
    · have hqD : q < D.length := by have := HK.out; omega
      have hdq := HF.out D[q] (List.getElem_mem hqD)
      obtain ⟨z, hz⟩ := Int.eq_ofNat_of_zero_le hdq.2.1
      have hzn : z < n := by have := hdq.2.2; omega
      obtain ⟨bD, oD, e, hr⟩ := (HD.out.later hl.out).lies? (by omega)
      subst e
      have hra := range_part hr (q * 65) 65
      rw [dv_part D q hqD HO.out] at hra
      have hin : Hid (inR f t D[q] = decide (f ≤ z ∧ (z : Int) < t)) := by unfold inR Hid; rw [hz]
      have hyes : Hid (inR f t D[q] = true → (D.take (q + 1)).filter (inR f t) = (D.take q).filter (inR f t) ++ [((z : Int), D[q].2)] ∧ ((D.take (q + 1)).filter fun d => !inR f t d) = (D.take q).filter fun d => !inR f t d) := by
        intro h
        rw [List.take_succ_eq_append_getElem hqD, List.filter_append, List.filter_append, ← hz]
        simp [List.filter_cons, h]
      have hno : Hid (inR f t D[q] = false → (D.take (q + 1)).filter (inR f t) = (D.take q).filter (inR f t) ∧ ((D.take (q + 1)).filter fun d => !inR f t d) = ((D.take q).filter fun d => !inR f t d) ++ [((z : Int), D[q].2)]) := by
        intro h
        rw [List.take_succ_eq_append_getElem hqD, List.filter_append, List.filter_append, ← hz]
        simp [List.filter_cons, h]
      have hXl := hide hdq.1
      rw [hz] at hra
      have hra' := hide hra
      generalize inR f t D[q] = bb at *
      generalize D[q].2 = X at *
      clear hra hr hdq hz
      have hcl : Hid ((Value.int .i64 (z : Int) :: bv X).length = 65) := by simp [Hid, bv_length, hXl.out]
      have hbox := hide (Box.new' wr 83 (#[.int .i64 0] ++ Array.replicate 64 (.int .u8 0)) _ rfl wr.heap.size rfl)
      have hbl1 := hide (hl.out.alloc (.cells (#[.int .i64 0] ++ Array.replicate 64 (.int .u8 0)) 83))
      have hszr := hl.out.size
      go_wp2_with (first
        | refine wpList_load_mid rfl 83 (.tmp 17) rfl bD (oD + q * 65) rfl (Value.int .i64 (z : Int) :: bv X) _ hra'.out Tryz.underlying83 rfl (by rw [Tryz.info_dirty, hcl.out]) ?_
        | refine wpList_store_new rfl 83 (.tmp 9) (.tmp 18) rfl wr.heap.size (Value.int .i64 (z : Int) :: bv X) rfl rfl _ hbox.out (by rw [hcl.out]; rfl) (by rw [hcl.out, Tryz.info_dirty]) (fun u hu => by rcases List.mem_cons.1 hu with rfl | h; rfl; exact bv_one X u h) w hbl1.out hszr ?_)
      intro w5 hb5 hl5 hk5 hs5
      have hkeep : ∀ j, j < wr.heap.size → w5.heap[j]? = wr.heap[j]? := fun j hj => by rw [hk5 j (by omega)]; exact Below.heap_alloc wr _ j hj
      have X5 : Hid (Box w5 w.heap.size 25 [.slice ab n cb, .slice (some ⟨bD, oD, none⟩) k cD]) := hbx.out.kept (hkeep _ hbx.out.lt)
      have R5 : Hid (Box w5 (w.heap.size + 1) 25 [.slice none 0 0, .slice none 0 0]) := hbr.out.kept (hkeep _ hbr.out.lt)
      have U5 : Hid (Box w5 G2 25 [.slice a2 n c2, vd]) := hbo.out.kept (hkeep _ hbo.out.lt)
      have B5 := hide (owns_kept hob.out fun g hg => hkeep g (hob.out.lt g hg).2)
      have D5 := hide (owns_kept hod.out fun g hg => hkeep g (hod.out.lt g hg).2)
      have E5 := hide hb5
      have L5 := hide hl5
      have hXf : Hid ((app F ((D.take q).filter (inR f t))).length = n * 64) := by
        refine app_length n _ F ?_ fun x hx => HF.out x (List.mem_of_mem_take (List.mem_filter.1 hx).1)
        have := HB.out.1
        rwa [bv_length] at this
      have e0 := hb5.cell 0
      have u0 := U5.out.cell 0
      have u1 := U5.out.cell 1
      clear hkeep hk5 hs5 hb5 hl5 hbx hbr hbo hob hod hl hbox hbl1 hszr d0 d1 hra'
      generalize wr.heap.size = G at *
      cases bb with
      | true =>
        have hc := hin.out
        rw [eq_comm, decide_eq_true_eq] at hc
        have cc1 := hc.1
        have cc2 := hc.2
        obtain ⟨g, cg, e, hg⟩ := owns_head B5.out (by omega)
        simp only [Value.slice.injEq, true_and] at e
        obtain ⟨rfl, rfl⟩ := e
        have hrX := hide (range_tail E5.out.range)
        have hth : Hid (w5.there g (z * 64) (bv X).toArray.size) := by
          have := owns_there B5.out (z * 64) 64 (by omega)
          unfold Hid
          simpa [bv_length, hXl.out] using this
        have hnew := (owns_setCells B5.out (bv X) (z * 64) (by rw [bv_length, hXl.out]; omega)).1
        rw [← bv_over] at hnew
        have ho1 : ∀ b t xs, t ≠ 80 → Box w5 b t xs → Box (w5.setCells g (z * 64) (bv X)) b t xs := fun b t xs hne hB => by
          unfold Box
          rw [heap_setCells_other w5 g b (box_ne_own hB B5.out hne g rfl)]
          exact hB
        have N1 : Hid ((w5.setCells g (z * 64) (bv X)).ownsRow w.heap.size 80 64 (.slice (some ⟨g, 0, none⟩) n c2) n (bv (app F ((D.take (q + 1)).filter (inR f t))))) := by
          have h := (hyes.out (by simp)).1
          unfold Hid
          rw [h, app_snoc]
          exact hnew
        have N2 : Hid ((w5.setCells g (z * 64) (bv X)).ownsRow w.heap.size 83 65 vd ((D.take (q + 1)).filter fun d => !inR f t d).length (dv ((D.take (q + 1)).filter fun d => !inR f t d))) := by
          have h := (hyes.out (by simp)).2
          unfold Hid
          rw [h]
          exact owns_kept D5.out fun j hj => heap_setCells_other w5 g j (fun e => own_ne_own B5.out D5.out (by decide) g rfl (by rw [← e]; exact hj)) _ _
        have N3 := hide (ho1 _ _ _ (by decide) X5.out)
        have N4 := hide (ho1 _ _ _ (by decide) R5.out)
        have N5 := hide (ho1 _ _ _ (by decide) U5.out)
        have N6 := hide (L5.out.setCells hg (bv X) (z * 64))
        clear ho1 hnew X5 R5 U5 D5 L5 hyes hno hXf
        go_wp2_with (first
          | refine wpList_load_mid rfl 80 (.tmp 33) rfl G 1 rfl (bv X) _ hrX.out Tryz.underlying80 rfl (by rw [Tryz.info_block, bv_length, hXl.out]) ?_
          | refine wpList_store_mid rfl 80 (.tmp 35) (.tmp 34) rfl g (z * 64) (bv X).toArray rfl rfl hth.out (by rw [Tryz.info_block]; simp [bv_length, hXl.out]) (all_oneCell_toArray (bv_one _)) ?_)
        go_roundw
        case rel => exact ⟨q + 1, vd, by omega, by go_num, N6, N3, N4, N5, N1, N2⟩
        case measure => simp [intOf]; omega
      | false =>
        have hc := hin.out
        rw [eq_comm, decide_eq_false_iff_not] at hc
        have hone : Hid (∀ u ∈ (Value.int .i64 (z : Int) :: bv X), u.oneCell' = true) := fun u hu => by rcases List.mem_cons.1 hu with rfl | h; rfl; exact bv_one X u h
        have hlenD : Hid (((D.take q).filter fun d => !inR f t d).length ≤ 64) := Nat.le_trans (List.length_filter_le _ _) (by simp; omega)
        by_cases cc1 : f ≤ (z : Int)
        · have cc2 : t ≤ (z : Int) := by omega
          go_wp2_with (first
            | refine wpList_load_mid rfl 83 (.tmp 9) rfl G 0 rfl (Value.int .i64 (z : Int) :: bv X) _ E5.out.range Tryz.underlying83 rfl (by rw [Tryz.info_dirty, hcl.out]) ?_
            | refine wpList_buildOne Tryz.elem_dirty Tryz.underlying23 z65_size (by decide) (by decide) rfl (.tmp 38) rfl (Value.int .i64 (z : Int) :: bv X) rfl hcl.out ?_)
          intro w6 hr6 hl6 hs6
          have X6 := hide (X5.out.later hl6)
          have R6 := hide (R5.out.later hl6)
          have U6 := hide (U5.out.later hl6)
          have B6 := hide (owns_later B5.out hl6)
          have D6 := hide (owns_later D5.out hl6)
          have L6 := hide (L5.out.trans hl6)
          have S6 := hide hr6
          have hz6 := L6.out.size
          clear hr6 hl6 hs6 X5 R5 U5 B5 D5 L5 e0 u0 u1
          go_wp2_with (at_builtin; refine wpList_append_rw Tryz.elem_dirty Tryz.underlying23 z65_size (by decide) rfl (.tmp 37) (.tmp 39) rfl w.heap.size _ _ _ rfl D6.out _ 1 (Value.int .i64 (z : Int) :: bv X) rfl S6.out hone.out ?m1 ?m2 hz6 w L6.out ?_)
          case m1 => have := hlenD.out; omega
          case m2 => have := hlenD.out; unfold maxLen; omega
          intro v7 w7 ho7 hb7 hg7
          have X7 := hide (box_grown X6.out D6.out (by decide) hg7)
          have R7 := hide (box_grown R6.out D6.out (by decide) hg7)
          have U7 := hide (box_grown U6.out D6.out (by decide) hg7)
          have B7 : Hid (w7.ownsRow w.heap.size 80 64 (.slice a2 n c2) n (bv (app F ((D.take q).filter (inR f t))))) := owns_kept B6.out fun g hg => hg7.block g (B6.out.lt g hg).2 (fun e => own_ne_own B6.out D6.out (by decide) g hg e.symm)
          have D7 : Hid (w7.ownsRow w.heap.size 83 65 v7 ((D.take (q + 1)).filter fun d => !inR f t d).length (dv ((D.take (q + 1)).filter fun d => !inR f t d))) := by
            have h := (hno.out (by simp)).2
            unfold Hid
            rw [h, dv_append, List.length_append]
            simpa [dv] using ho7
          have L7 : Hid (Later w w7) := hb7
          clear ho7 hb7 hg7 X6 R6 U6 B6 D6 L6 S6 hz6
          obtain ⟨m7, hm7⟩ : ∃ m, m = ((D.take (q + 1)).filter fun d => !inR f t d).length := ⟨_, rfl⟩
          rw [← hm7] at D7
          obtain ⟨a7, c7, rfl⟩ := (Rw.of_owns D7.out).shape
          have HM7 := hide hm7
          clear hm7
          have u1 := U7.out.cell 1
          have uf := U7.out.frozen 1
          have N1 : Hid ((w7.setCell ⟨G2, 1, none⟩ (.slice a7 m7 c7)).ownsRow w.heap.size 80 64 (.slice a2 n c2) n (bv (app F ((D.take (q + 1)).filter (inR f t))))) := by
            have h := (hno.out (by simp)).1
            unfold Hid
            rw [h]
            exact owns_kept B7.out fun g hg => heap_setCell_other _ _ _ _ (fun e => box_ne_own U7.out B7.out (by decide) g hg e.symm)
          have N2 : Hid ((w7.setCell ⟨G2, 1, none⟩ (.slice a7 m7 c7)).ownsRow w.heap.size 83 65 (.slice a7 m7 c7) m7 (dv ((D.take (q + 1)).filter fun d => !inR f t d))) :=
            owns_kept D7.out fun g hg => heap_setCell_other _ _ _ _ (fun e => box_ne_own U7.out D7.out (by decide) g hg e.symm)
          have N3 := hide (X7.out.other ⟨G2, 1, none⟩ (.slice a7 m7 c7) (by simp; omega))
          have N4 := hide (R7.out.other ⟨G2, 1, none⟩ (.slice a7 m7 c7) (by simp; omega))
          have N5 := hide (U7.out.set 1 (.slice a7 m7 c7))
          have N6 := hide (L7.out.setCell (a := ⟨G2, 1, none⟩) (by simp; omega) (.slice a7 m7 c7))
          clear X7 R7 U7 B7 D7 L7
          go_wp2
          go_roundw
          case rel => exact ⟨q + 1, .slice a7 m7 c7, by omega, by go_num, N6, N3, N4, N5, N1, by rw [← HM7.out]; exact N2⟩
          case measure => simp [intOf]; omega
        · have cc2 : (z : Int) < f := by omega
          go_wp2_with (first
            | refine wpList_load_mid rfl 83 (.tmp 9) rfl G 0 rfl (Value.int .i64 (z : Int) :: bv X) _ E5.out.range Tryz.underlying83 rfl (by rw [Tryz.info_dirty, hcl.out]) ?_
            | refine wpList_buildOne Tryz.elem_dirty Tryz.underlying23 z65_size (by decide) (by decide) rfl (.tmp 38) rfl (Value.int .i64 (z : Int) :: bv X) rfl hcl.out ?_)
          intro w6 hr6 hl6 hs6
          have X6 := hide (X5.out.later hl6)
          have R6 := hide (R5.out.later hl6)
          have U6 := hide (U5.out.later hl6)
          have B6 := hide (owns_later B5.out hl6)
          have D6 := hide (owns_later D5.out hl6)
          have L6 := hide (L5.out.trans hl6)
          have S6 := hide hr6
          have hz6 := L6.out.size
          clear hr6 hl6 hs6 X5 R5 U5 B5 D5 L5 e0 u0 u1
          go_wp2_with (at_builtin; refine wpList_append_rw Tryz.elem_dirty Tryz.underlying23 z65_size (by decide) rfl (.tmp 37) (.tmp 39) rfl w.heap.size _ _ _ rfl D6.out _ 1 (Value.int .i64 (z : Int) :: bv X) rfl S6.out hone.out ?m1 ?m2 hz6 w L6.out ?_)
          case m1 => have := hlenD.out; omega
          case m2 => have := hlenD.out; unfold maxLen; omega
          intro v7 w7 ho7 hb7 hg7
          have X7 := hide (box_grown X6.out D6.out (by decide) hg7)
          have R7 := hide (box_grown R6.out D6.out (by decide) hg7)
          have U7 := hide (box_grown U6.out D6.out (by decide) hg7)
          have B7 : Hid (w7.ownsRow w.heap.size 80 64 (.slice a2 n c2) n (bv (app F ((D.take q).filter (inR f t))))) := owns_kept B6.out fun g hg => hg7.block g (B6.out.lt g hg).2 (fun e => own_ne_own B6.out D6.out (by decide) g hg e.symm)
          have D7 : Hid (w7.ownsRow w.heap.size 83 65 v7 ((D.take (q + 1)).filter fun d => !inR f t d).length (dv ((D.take (q + 1)).filter fun d => !inR f t d))) := by
            have h := (hno.out (by simp)).2
            unfold Hid
            rw [h, dv_append, List.length_append]
            simpa [dv] using ho7
          have L7 : Hid (Later w w7) := hb7
          clear ho7 hb7 hg7 X6 R6 U6 B6 D6 L6 S6 hz6
          obtain ⟨m7, hm7⟩ : ∃ m, m = ((D.take (q + 1)).filter fun d => !inR f t d).length := ⟨_, rfl⟩
          rw [← hm7] at D7
          obtain ⟨a7, c7, rfl⟩ := (Rw.of_owns D7.out).shape
          have HM7 := hide hm7
          clear hm7
          have u1 := U7.out.cell 1
          have uf := U7.out.frozen 1
          have N1 : Hid ((w7.setCell ⟨G2, 1, none⟩ (.slice a7 m7 c7)).ownsRow w.heap.size 80 64 (.slice a2 n c2) n (bv (app F ((D.take (q + 1)).filter (inR f t))))) := by
            have h := (hno.out (by simp)).1
            unfold Hid
            rw [h]
            exact owns_kept B7.out fun g hg => heap_setCell_other _ _ _ _ (fun e => box_ne_own U7.out B7.out (by decide) g hg e.symm)
          have N2 : Hid ((w7.setCell ⟨G2, 1, none⟩ (.slice a7 m7 c7)).ownsRow w.heap.size 83 65 (.slice a7 m7 c7) m7 (dv ((D.take (q + 1)).filter fun d => !inR f t d))) :=
            owns_kept D7.out fun g hg => heap_setCell_other _ _ _ _ (fun e => box_ne_own U7.out D7.out (by decide) g hg e.symm)
          have N3 := hide (X7.out.other ⟨G2, 1, none⟩ (.slice a7 m7 c7) (by simp; omega))
          have N4 := hide (R7.out.other ⟨G2, 1, none⟩ (.slice a7 m7 c7) (by simp; omega))
          have N5 := hide (U7.out.set 1 (.slice a7 m7 c7))
          have N6 := hide (L7.out.setCell (a := ⟨G2, 1, none⟩) (by simp; omega) (.slice a7 m7 c7))
          clear X7 R7 U7 B7 D7 L7
          go_wp2
          go_roundw
          case rel => exact ⟨q + 1, .slice a7 m7 c7, by omega, by go_num, N6, N3, N4, N5, N1, by rw [← HM7.out]; exact N2⟩
          case measure => simp [intOf]; omega
    · have hkq : q = k := by omega
      have B1 : Hid (wr.ownsRow w.heap.size 80 64 (.slice a2 n c2) n (bv (app F (D.filter (inR f t))))) := by have := hob.out; rw [hkq, HK.out, List.take_length] at this; exact this
      have D1 : Hid (wr.ownsRow w.heap.size 83 65 vd (D.filter fun d => !inR f t d).length (dv (D.filter fun d => !inR f t d))) := by have := hod.out; rw [hkq, HK.out, List.take_length] at this; exact this
      obtain ⟨m7, hm7⟩ : ∃ m, m = (D.filter fun d => !inR f t d).length := ⟨_, rfl⟩
      rw [← hm7] at D1
      have HM7 := hide hm7
      clear hm7
      obtain ⟨a7, c7, rfl⟩ := (Rw.of_owns D1.out).shape
      have u0 := hbo.out.cell 0
      have u1 := hbo.out.cell 1
      have r0 := hbr.out.cell 0
      have r1 := hbr.out.cell 1
      have f0 := hbr.out.frozen 0
      have f1 := hbr.out.frozen 1
      have hw1 : Hid (Box ((wr.setCell ⟨w.heap.size + 1, 0, none⟩ (.slice a2 n c2)).setCell ⟨w.heap.size + 1, 1, none⟩ (.slice a7 m7 c7)) (w.heap.size + 1) 25 [.slice a2 n c2, .slice a7 m7 c7]) := (hbr.out.set 0 _).set 1 _
      have hne : ∀ g, g ≠ w.heap.size + 1 → ((wr.setCell ⟨w.heap.size + 1, 0, none⟩ (.slice a2 n c2)).setCell ⟨w.heap.size + 1, 1, none⟩ (.slice a7 m7 c7)).heap[g]? = wr.heap[g]? := fun g hg => by
        rw [heap_setCell_other _ _ _ _ (by simpa using hg), heap_setCell_other _ _ _ _ (by simpa using hg)]
      have N1 := hide (owns_kept B1.out fun g hg => hne g (fun e => box_ne_own hbr.out B1.out (by decide) g hg e.symm))
      have N2 := hide (owns_kept D1.out fun g hg => hne g (fun e => box_ne_own hbr.out D1.out (by decide) g hg e.symm))
      have N6 : Hid (Later w ((wr.setCell ⟨w.heap.size + 1, 0, none⟩ (.slice a2 n c2)).setCell ⟨w.heap.size + 1, 1, none⟩ (.slice a7 m7 c7))) := (hl.out.setCell (by simp) _).setCell (by simp) _
      clear hne hob hod hbx hbr hl B1 D1
      go_wp2
      refine bodyPost_ret (results_cell1 rfl _ _ _ (w.heap.size + 1) 0 rfl (.agg #[.slice a2 n c2, .slice a7 m7 c7]) (run_loadVar_mid _ _ _ _ [.slice a2 n c2, .slice a7 m7 c7] _ hw1.out.range Tryz.underlying25 rfl (by kernel_rfl))) rfl ⟨_, _, rfl, N6.out, N1.out, ?_⟩
      rw [← HM7.out]
      exact N2.out
end Go.Proofs.YtfakboehmcimpaaGreat

namespace Go.Proofs.YtfakboehmcimpaaGreat
set_option linter.unusedVariables false
set_option maxRecDepth 4000
set_option linter.unusedSimpArgs false
/-! Bytes laid over others. -/
end Go.Proofs.YtfakboehmcimpaaGreat

namespace Go.Proofs.YtfakboehmcimpaaGreat
set_option linter.unusedVariables false
set_option maxRecDepth 20000
set_option linter.unusedSimpArgs false
/-! What media are, without memory. -/
theorem inR_all {n : Nat} {D : List Drt} (h : Fit n D) : D.filter (inR 0 (n : Int)) = D ∧ D.filter (fun d => !inR 0 (n : Int) d) = [] := by
  constructor
  · rw [List.filter_eq_self]
    intro d hd
    have := h d hd
    simp [inR]; omega
  · rw [List.filter_eq_nil_iff]
    intro d hd
    have := h d hd
    simp [inR]; omega
theorem flush0 {n : Nat} {F : List UInt8} {D : List Drt} (h : rightB n D = true) (ho : Ok D) : flushE n D 0 0 = 0 ∧ flushN n D 0 0 = n ∧ flushF n F D 0 0 = app F D ∧ flushD n D 0 0 = [] := by
  have hf := fit_of_right h ho
  have e : flushE n D 0 0 = 0 := by simp [flushE, h, flushOk]
  have ht : flushTo n 0 0 = n := by simp [flushTo]
  refine ⟨e, by simp [flushN, e], ?_, ?_⟩
  · rw [flushF, if_pos e, ht, (inR_all hf).1]
  · rw [flushD, if_pos e, ht, (inR_all hf).2]
end Go.Proofs.YtfakboehmcimpaaGreat

namespace Go.Proofs.YtfakboehmcimpaaGreat
open Go.ChangeShapes Go.WideShapes Go.ChangeAt Go.RowKit
set_option linter.unusedVariables false
set_option maxRecDepth 4000
set_option linter.unusedSimpArgs false
end Go.Proofs.YtfakboehmcimpaaGreat

namespace Go.Proofs.YtfakboehmcimpaaGreat
open Go.ChangeShapes Go.WideShapes Go.ChangeAt Go.RowKit
set_option linter.unusedVariables false
set_option maxRecDepth 4000
set_option linter.unusedSimpArgs false
end Go.Proofs.YtfakboehmcimpaaGreat

namespace Go.Proofs.YtfakboehmcimpaaGreat
open Go.ChangeShapes Go.WideShapes Go.ChangeAt Go.RowKit
set_option linter.unusedVariables false
set_option maxRecDepth 4000
set_option linter.unusedSimpArgs false
end Go.Proofs.YtfakboehmcimpaaGreat

namespace Go.Proofs.YtfakboehmcimpaaGreat
open Go.ChangeShapes Go.WideShapes Go.ChangeAt Go.RowKit
set_option linter.unusedVariables false
set_option maxRecDepth 4000
set_option linter.unusedSimpArgs false
/-! What may be there when the power goes. -/
abbrev ActT := Int × UInt8 × Bool × Bool
def av (L : List ActT) : List Value := L.flatMap fun x => [.int .i64 x.1, .int .u8 (x.2.1.toNat : Int), .bool x.2.2.1, .bool x.2.2.2]
section
variable {H : Type} {enc : TypeId × Value → H} {w : World} {r : Reach} {base : Nat} {v : Value} {d : DataW H} {p : List MemPlace}
end
end Go.Proofs.YtfakboehmcimpaaGreat

namespace Go.Proofs.YtfakboehmcimpaaGreat
open Go.ChangeShapes Go.WideShapes Go.ChangeAt Go.RowKit
set_option linter.unusedVariables false
set_option maxRecDepth 4000
set_option linter.unusedSimpArgs false
end Go.Proofs.YtfakboehmcimpaaGreat

namespace Go.Proofs.YtfakboehmcimpaaGreat
open Go.ChangeShapes Go.WideShapes Go.ChangeAt Go.RowKit
set_option linter.unusedVariables false
set_option maxRecDepth 4000
set_option linter.unusedSimpArgs false
/-! The landed cache: All and Lose. -/
theorem field_blocks (w : World) (a3 a6 : Option Addr) (n c3 m c6 : Nat) : Sem.run Tryz.prog (Instr.field 25 (.agg #[.slice a3 n c3, .slice a6 m c6]) 0) w = .ok (.slice a3 n c3) w := by
  simp [Instr.field, part, asAgg]
theorem right_parts {n : Nat} {D : List Drt} (h : rightB n D = true) : n ≤ 64 ∧ D.length ≤ 64 := by
  simp only [rightB, decide_eq_true_eq] at h
  exact ⟨h.1, h.2.1⟩
set_option maxHeartbeats 1000000 in
theorem call3_c : IAll := by
  intro v n F D w h
  have HM := hide h
  obtain ⟨vb, vd, rfl, hb, hd, hok⟩ := h
  obtain ⟨ab, cb, rfl⟩ := hb.shape
  obtain ⟨k, hk⟩ : ∃ k, k = D.length := ⟨_, rfl⟩
  rw [← hk] at hd
  obtain ⟨aD, cD, rfl⟩ := hd.shape
  have HO := hide hok
  clear hb hd hk hok
  go_enter Tryz.func74, Tryz.ntmps74
  go_wp2_with fail
  refine (cright_c _ (HM.out.later ((Later.refl w).alloc _))).mono ?_
  rintro e w2 ⟨rfl, hl2⟩
  have L2 : Hid (Later w w2) := Later.trans ((Later.refl w).alloc _) hl2
  have BX : Hid (Box w2 w.heap.size 25 [.slice ab n cb, .slice aD k cD]) := Box.later (Box.new w 25 #[.slice ab n cb, .slice aD k cD]) hl2
  clear hl2
  have d0 := BX.out.cell 0
  have d1 := BX.out.cell 1
  by_cases hR : rightB n D = true
  case neg =>
    have hR' : rightB n D = false := by simpa using hR
    rw [hR']
    go_wp2
    go_ret
    refine ⟨_, rfl, L2.out, ?_⟩
    simp only [allN, allF, hR']
    exact Rw.nil _ _
  rw [hR]
  have HR := hide hR
  have hp := right_parts hR
  have HFit := hide (fit_of_right hR HO.out)
  clear hR
  go_wp2_with fail
  refine (cflush_i 0 (n : Int) w2 (HM.out.later L2.out) hp.1 hp.2 HFit.out).mono ?_
  rintro e w3 ⟨vb, vd, rfl, hl3, h1, h2⟩
  have L3 := hide (L2.out.trans hl3)
  rw [(inR_all HFit.out).1] at h1
  rw [(inR_all HFit.out).2] at h2
  obtain ⟨a3, c3, rfl⟩ := (Rw.of_owns h1).shape
  obtain ⟨a6, c6, rfl⟩ := (Rw.of_owns h2).shape
  have O1 := hide h1
  clear h1 h2 hl3 d0 d1
  have hfd := field_blocks w3 a3 a6 n c3 0 c6
  go_wp2
  go_ret
  refine ⟨_, rfl, L3.out, ?_⟩
  simp only [allN, allF, HR.out, if_true]
  exact Rw.of_owns O1.out
end Go.Proofs.YtfakboehmcimpaaGreat

namespace Go.Proofs.YtfakboehmcimpaaGreat
open Go.ChangeShapes Go.WideShapes Go.ChangeAt Go.RowKit
set_option linter.unusedVariables false
set_option maxRecDepth 4000
set_option linter.unusedSimpArgs false
/-! The landed cache: Show. -/
end Go.Proofs.YtfakboehmcimpaaGreat

namespace Go.Proofs.YtfakboehmcimpaaGreat
open Go.ChangeShapes Go.WideShapes Go.ChangeAt Go.RowKit
set_option linter.unusedVariables false
set_option maxRecDepth 4000
set_option linter.unusedSimpArgs false
/-! The landed cache: writeThrough, writeCached, Write. -/
/-- a medium in new memory is laid into the variable of the result -/
theorem med_ret {w w8 : World} {R n c3 m6 c6 : Nat} {a3 a6 : Option Addr} {xs ys : List Value} (hR : w.heap.size ≤ R) (hB : Box w8 R 25 [.slice none 0 0, .slice none 0 0]) (hl : Later w w8)
    (h1 : w8.ownsRow w.heap.size 80 64 (.slice a3 n c3) n xs) (h2 : w8.ownsRow w.heap.size 83 65 (.slice a6 m6 c6) m6 ys) :
    Box ((w8.setCell ⟨R, 0, none⟩ (.slice a3 n c3)).setCell ⟨R, 1, none⟩ (.slice a6 m6 c6)) R 25 [.slice a3 n c3, .slice a6 m6 c6] ∧ Later w ((w8.setCell ⟨R, 0, none⟩ (.slice a3 n c3)).setCell ⟨R, 1, none⟩ (.slice a6 m6 c6)) ∧
    ((w8.setCell ⟨R, 0, none⟩ (.slice a3 n c3)).setCell ⟨R, 1, none⟩ (.slice a6 m6 c6)).ownsRow w.heap.size 80 64 (.slice a3 n c3) n xs ∧ ((w8.setCell ⟨R, 0, none⟩ (.slice a3 n c3)).setCell ⟨R, 1, none⟩ (.slice a6 m6 c6)).ownsRow w.heap.size 83 65 (.slice a6 m6 c6) m6 ys := by
  have hne : ∀ g, g ≠ R → ((w8.setCell ⟨R, 0, none⟩ (.slice a3 n c3)).setCell ⟨R, 1, none⟩ (.slice a6 m6 c6)).heap[g]? = w8.heap[g]? := fun g hg => by
    rw [heap_setCell_other _ _ _ _ (by simpa using hg), heap_setCell_other _ _ _ _ (by simpa using hg)]
  exact ⟨(hB.set 0 _).set 1 _, (hl.setCell (by simpa using hR) _).setCell (by simpa using hR) _, owns_kept h1 fun g hg => hne g (fun e => box_ne_own hB h1 (by decide) g hg e.symm), owns_kept h2 fun g hg => hne g (fun e => box_ne_own hB h2 (by decide) g hg e.symm)⟩
end Go.Proofs.YtfakboehmcimpaaGreat

namespace Go.Proofs.YtfakboehmcimpaaGreat
open Go.ChangeShapes Go.WideShapes Go.ChangeAt Go.RowKit
set_option linter.unusedVariables false
set_option maxRecDepth 4000
set_option linter.unusedSimpArgs false
/-! The landed cache: Write and Flush. -/
/-- what is returned: a medium in new memory, and how it went -/
theorem med_of_owns {w w' : World} {vb vd : Value} {n : Nat} {F : List UInt8} {D : List Drt} (ho : Ok D) (h1 : w'.ownsRow w.heap.size 80 64 vb n (bv F)) (h2 : w'.ownsRow w.heap.size 83 65 vd D.length (dv D)) :
    Med w' (.agg #[vb, vd]) n F D ∧ ∀ g, g < w.heap.size → OffM g (.agg #[vb, vd]) :=
  ⟨⟨vb, vd, rfl, Rw.of_owns h1, Rw.of_owns h2, ho⟩, fun g hg => ⟨vb, vd, rfl, owns_off h1 hg, owns_off h2 hg⟩⟩
end Go.Proofs.YtfakboehmcimpaaGreat

namespace Go.Proofs.YtfakboehmcimpaaGreat
open Go.ChangeShapes Go.WideShapes Go.ChangeAt Go.RowKit
set_option linter.unusedVariables false
set_option maxRecDepth 4000
set_option linter.unusedSimpArgs false
/-! The landed cache: Flush. -/
def IFlushX : Prop := ∀ (v : Value) (n : Nat) (F : List UInt8) (D : List Drt) (at_ m : Int) (w : World), Med w v n F D → -9223372036854775808 ≤ at_ → at_ ≤ 9223372036854775807 → -9223372036854775808 ≤ m → m ≤ 9223372036854775807 →
  Calls Tryz.prog 97 #[v, .int .i64 at_, .int .i64 m] w fun e w' => ∃ v', e = .returned (.tuple #[v', .int .i64 (flushE n D at_ m)]) ∧ Later w w' ∧ Med w' v' (flushN n D at_ m) (flushF n F D at_ m) (flushD n D at_ m) ∧ ∀ g, g < w.heap.size → OffM g v'
set_option maxRecDepth 20000 in
set_option maxHeartbeats 1000000 in
theorem cflush3_x : IFlushX := by
  intro v n F D at_ m w h ha ha' hm hm'
  have HM := hide h
  obtain ⟨vb, vd, rfl, hb, hd, hok⟩ := h
  obtain ⟨ab, cb, rfl⟩ := hb.shape
  obtain ⟨k, hk⟩ : ∃ k, k = D.length := ⟨_, rfl⟩
  rw [← hk] at hd
  obtain ⟨aD, cD, rfl⟩ := hd.shape
  have hnm := hb.2.1
  unfold maxLen at hnm
  have HO := hide hok
  have HK := hide hk
  clear hb hd hk hok
  go_enter Tryz.func97, Tryz.ntmps97
  go_wp2_with fail
  refine (cright_c _ (HM.out.later (((Later.refl w).alloc _).alloc _))).mono ?_
  rintro e w2 ⟨rfl, hl2⟩
  have L2 : Hid (Later w w2) := Later.trans (((Later.refl w).alloc _).alloc _) hl2
  have BX : Hid (Box w2 w.heap.size 25 [.slice ab n cb, .slice aD k cD]) := Box.later ((Box.new w 25 #[.slice ab n cb, .slice aD k cD]).alloc _) hl2
  have BR : Hid (Box w2 (w.heap.size + 1) 25 [.slice none 0 0, .slice none 0 0]) := Box.later (Box.new' _ _ _ _ rfl _ (by simp)) hl2
  clear hl2
  have d0 := BX.out.cell 0
  have d1 := BX.out.cell 1
  have r0 := BR.out.cell 0
  have r1 := BR.out.cell 1
  have f0 := BR.out.frozen 0
  have f1 := BR.out.frozen 1
  have BZ : Hid (Box ((w2.setCell ⟨w.heap.size + 1, 0, none⟩ (.slice none 0 0)).setCell ⟨w.heap.size + 1, 1, none⟩ (.slice none 0 0)) (w.heap.size + 1) 25 [.slice none 0 0, .slice none 0 0]) := (BR.out.set 0 _).set 1 _
  have LZ : Hid (Later w ((w2.setCell ⟨w.heap.size + 1, 0, none⟩ (.slice none 0 0)).setCell ⟨w.heap.size + 1, 1, none⟩ (.slice none 0 0))) := (L2.out.setCell (by simp) _).setCell (by simp) _
  by_cases hR : rightB n D = true
  case neg =>
    have hR' : rightB n D = false := by simpa using hR
    rw [hR']
    go_wp2
    refine bodyPost_ret (results_cell_tmp rfl _ _ _ (w.heap.size + 1) 0 rfl (.agg #[.slice none 0 0, .slice none 0 0]) (.int .i64 1) (run_loadVar_mid _ _ _ _ [.slice none 0 0, .slice none 0 0] _ BZ.out.range Tryz.underlying25 rfl (by kernel_rfl)) rfl) rfl ⟨.agg #[.slice none 0 0, .slice none 0 0], ?_, LZ.out, ?_⟩
    · simp [flushE, hR']
    · exact ⟨by simpa [flushE, flushN, flushF, flushD, hR'] using Med.nil _, fun g hg => ⟨_, _, rfl, trivial, trivial⟩⟩
  rw [hR]
  by_cases hin : flushOk n at_ m = true
  case neg =>
    have hE : Hid (flushE n D at_ m = 5) := by simp [Hid, flushE, hR, hin]
    have hin' : ¬ (0 ≤ at_ ∧ 0 ≤ m ∧ at_ ≤ n) := by simpa [flushOk] using hin
    clear hin
    by_cases c1 : at_ < 0
    · go_wp2
      refine bodyPost_ret (results_cell_tmp rfl _ _ _ (w.heap.size + 1) 0 rfl (.agg #[.slice none 0 0, .slice none 0 0]) (.int .i64 5) (run_loadVar_mid _ _ _ _ [.slice none 0 0, .slice none 0 0] _ BZ.out.range Tryz.underlying25 rfl (by kernel_rfl)) rfl) rfl ⟨.agg #[.slice none 0 0, .slice none 0 0], by rw [hE.out], LZ.out, ?_⟩
      exact ⟨by simpa [flushN, flushF, flushD, hE.out] using Med.nil _, fun g hg => ⟨_, _, rfl, trivial, trivial⟩⟩
    · by_cases c2 : m < 0
      · go_wp2
        refine bodyPost_ret (results_cell_tmp rfl _ _ _ (w.heap.size + 1) 0 rfl (.agg #[.slice none 0 0, .slice none 0 0]) (.int .i64 5) (run_loadVar_mid _ _ _ _ [.slice none 0 0, .slice none 0 0] _ BZ.out.range Tryz.underlying25 rfl (by kernel_rfl)) rfl) rfl ⟨.agg #[.slice none 0 0, .slice none 0 0], by rw [hE.out], LZ.out, ?_⟩
        exact ⟨by simpa [flushN, flushF, flushD, hE.out] using Med.nil _, fun g hg => ⟨_, _, rfl, trivial, trivial⟩⟩
      · have c3 : (n : Int) < at_ := by omega
        go_wp2
        refine bodyPost_ret (results_cell_tmp rfl _ _ _ (w.heap.size + 1) 0 rfl (.agg #[.slice none 0 0, .slice none 0 0]) (.int .i64 5) (run_loadVar_mid _ _ _ _ [.slice none 0 0, .slice none 0 0] _ BZ.out.range Tryz.underlying25 rfl (by kernel_rfl)) rfl) rfl ⟨.agg #[.slice none 0 0, .slice none 0 0], by rw [hE.out], LZ.out, ?_⟩
        exact ⟨by simpa [flushN, flushF, flushD, hE.out] using Med.nil _, fun g hg => ⟨_, _, rfl, trivial, trivial⟩⟩
  have hin' : 0 ≤ at_ ∧ 0 ≤ m ∧ at_ ≤ n := by simpa [flushOk] using hin
  have hE : Hid (flushE n D at_ m = 0) := by simp [Hid, flushE, hR, hin]
  have hR2 := hR
  simp only [rightB, decide_eq_true_eq] at hR2
  have hn64 := hR2.1
  have HL := hide hR2.2.1
  have HFit := hide (fit_of_right hR HO.out)
  have c1 : ¬ at_ < 0 := by omega
  have c2 : ¬ m < 0 := by omega
  have c3 : ¬ (n : Int) < at_ := by omega
  clear hin hR2 hR
  have hF : Hid (flushF n F D at_ m = app F (D.filter (inR at_ (flushTo n at_ m)))) := by simp [Hid, flushF, hE.out]
  have hD : Hid (flushD n D at_ m = D.filter (fun d => !inR at_ (flushTo n at_ m) d)) := by simp [Hid, flushD, hE.out]
  have hN : Hid (flushN n D at_ m = n) := by simp [Hid, flushN, hE.out]
  have hend := hide fun (w' : World) => cend_c n at_ m w' hn64 hin'.1 hin'.2.2 hin'.2.1 hm'
  generalize hT : flushTo n at_ m = T at *
  clear hT r0 r1 f0 f1 BZ LZ
  go_wp2_with fail
  have hc0 := fun r => (Box.later BX.out ((Later.refl w2).drew.trans (later_rg w2.drew r))).cell 0
  have hc1 := fun r => (Box.later BX.out ((Later.refl w2).drew.trans (later_rg w2.drew r))).cell 1
  refine wp_region_tree [0, 1, 2, 3, 4, 5, 6, 7] [8] [9, 10] (by kernel_rfl) (by kernel_rfl) (by kernel_rfl) (by kernel_rfl) ?_
  iterate 7 (refine wpT_mild rfl (fun K hK => ?_); go_simp; refine hK _ ?_; clear hK K)
  clear hc0 hc1 d0 d1
  refine wpT_call rfl (by kernel_rfl) 123 (Plain.of (by kernel_rfl)) [.tmp 30, .tmp 31, .tmp 32] _ rfl [.int .i64 n, .int .i64 at_, .int .i64 m] rfl (.int .i64 T) (fun wx hx => hend.out wx) ?_
  refine wpT_one (fun v W => ∃ vb vd, v = .agg #[vb, vd] ∧ W.ownsRow w.heap.size 80 64 vb n (bv (app F (D.filter (inR at_ T)))) ∧ W.ownsRow w.heap.size 83 65 vd (D.filter fun d => !inR at_ T d).length (dv (D.filter fun d => !inR at_ T d))) (by kernel_rfl)
    (fun v W W' hl ⟨vb, vd, h1, h2, h3⟩ => ⟨vb, vd, h1, owns_later h2 hl, owns_later h3 hl⟩) (fun W hl => ?_) ?_
  · have LW := hide (L2.out.trans ((Later.refl w2).drew.trans hl))
    refine lVal_step rfl (fun K hK => ?_)
    go_simp
    refine (cflush_i at_ T W (HM.out.later LW.out) hn64 HL.out HFit.out).mono ?_
    rintro e w3 ⟨vb, vd, rfl, hl3, h1, h2⟩
    exact ⟨_, rfl, hl3, hK _ _ ⟨vb, vd, rfl, owns_rebase h1 LW.out.size, owns_rebase h2 LW.out.size⟩⟩
  · intro v W hl ⟨vb, vd, hv, h1, h2⟩
    subst hv
    have LW := hide (L2.out.trans ((Later.refl w2).drew.trans hl))
    have BR3 := hide (BR.out.later ((Later.refl w2).drew.trans hl))
    have O1 := hide h1
    have O2 := hide h2
    clear h1 h2 hl
    obtain ⟨a3, c3, rfl⟩ := (Rw.of_owns O1.out).shape
    generalize hm6 : (D.filter fun d => !inR at_ T d).length = m6 at *
    have HM6 := hide hm6
    clear hm6
    obtain ⟨a6, c6, rfl⟩ := (Rw.of_owns O2.out).shape
    have HE := hide (med_ret (by omega) BR3.out LW.out O1.out O2.out)
    have r0 := BR3.out.cell 0
    have r1 := BR3.out.cell 1
    have f0 := BR3.out.frozen 0
    have f1 := BR3.out.frozen 1
    clear O1 O2 LW
    refine wpL_cons rfl (fun K hK => ?_)
    simp only [dstOf]
    go_simp
    refine hK _ _ ?_
    clear hK K
    refine wpL_cons rfl (fun K hK => ?_)
    go_simp
    refine hK _ _ (wpL_nil ?_)
    clear hK K
    go_wp2
    have HEE := med_of_owns (F := app F (D.filter (inR at_ T))) (D := D.filter fun d => !inR at_ T d) (HO.out.filter _) HE.out.2.2.1 (by rw [HM6.out]; exact HE.out.2.2.2)
    exact bodyPost_ret (results_cell_tmp rfl _ _ _ (w.heap.size + 1) 0 rfl (.agg #[.slice a3 n c3, .slice a6 m6 c6]) (.int .i64 0) (run_loadVar_mid _ _ _ _ [.slice a3 n c3, .slice a6 m6 c6] _ HE.out.1.range Tryz.underlying25 rfl (by kernel_rfl)) rfl) rfl ⟨.agg #[.slice a3 n c3, .slice a6 m6 c6], by rw [hE.out], HE.out.2.1, by rw [hN.out, hF.out, hD.out]; exact HEE⟩
end Go.Proofs.YtfakboehmcimpaaGreat

namespace Go.Proofs.YtfakboehmcimpaaGreat
open Go.ChangeShapes Go.WideShapes Go.ChangeAt Go.RowKit
set_option linter.unusedVariables false
set_option maxRecDepth 4000
set_option linter.unusedSimpArgs false
/-! The landed slot: slices.Clone. -/
theorem slice_nil_at (d : Nat) {T e : TypeId} (h : Tryz.prog.underlying T = some (.slice e)) (a : Option Addr) (n c : Nat) (w : World) : (Op.equalIn (d + 1) T (.slice a n c) (.slice none 0 0)).run Tryz.prog w = .ok a.isNone w := by
  cases a <;> simp [Op.equalIn, run_underlying h]
theorem slice_is_nil {T e : TypeId} (h : Tryz.prog.underlying T = some (.slice e)) (a : Option Addr) (n c : Nat) (w : World) : (binOp .eql T (.slice a n c) (.slice none 0 0)).run Tryz.prog w = .ok (.bool a.isNone) w := by
  have h2 : (Op.equal T (.slice a n c) (.slice none 0 0)).run Tryz.prog w = .ok a.isNone w := slice_nil_at 9999 h a n c w
  simp [binOp, h2]
set_option maxHeartbeats 1000000 in
theorem clone64_c {v : Value} {n : Nat} {F : List UInt8} (w : World) (h : Rw 64 w v n (bv F)) (hn : n ≤ 1000) :
    Calls Tryz.prog 50 #[v] w fun e w' => ∃ v', e = .returned v' ∧ Later w w' ∧ w'.ownsRow w.heap.size 80 64 v' n (bv F) := by
  have hown : Hid ((w.alloc (.cells #[] 80)).ownsRow w.heap.size 80 64 (.slice (some ⟨w.heap.size, 0, none⟩) 0 0) 0 []) := World.ownsRow_lit w #[] 0 (Nat.le_refl _) (by simp [maxLen]) rfl
  have hb : Hid (Below w.heap.size w (w.alloc (.cells #[] 80))) := (Below.refl _ _).alloc (Nat.le_refl _) _
  have hr := hide (h.later ((Later.refl w).alloc (.cells #[] 80)))
  obtain ⟨hl0, _, a, cap, rfl, _, h0⟩ := h
  cases a with
  | none =>
    obtain rfl : n = 0 := by
      rcases h0 with h0 | ⟨b, off, e, _⟩
      · exact h0
      · cases e
    have hx : bv F = [] := List.eq_nil_of_length_eq_zero (by rw [hl0])
    rw [hx]
    clear hown hb hr h0 hx hl0
    have hq := slice_is_nil Tryz.underlying22 none 0 cap w
    go_enter Tryz.func50, Tryz.ntmps50
    go_wp2
    go_ret
    exact ⟨_, rfl, Later.refl w, World.ownsRow_nil w _ _ _⟩
  | some ad =>
    clear h0 hl0
    have hq := slice_is_nil Tryz.underlying22 (some ad) n cap w
    go_enter Tryz.func50, Tryz.ntmps50
    go_wp2_with (at_builtin; refine wpList_append_rw Tryz.elem_block Tryz.underlying22 rfl (by decide) rfl (.tmp 5) (.tmp 6) rfl w.heap.size _ 0 [] rfl hown.out _ n (bv F) rfl hr.out (bv_one F) ?c1 ?c2 ?c3 w hb.out ?_)
    case c1 => omega
    case c2 => unfold maxLen; omega
    case c3 => simp
    intro v' w' ho hbl _
    go_wp2
    go_ret
    exact ⟨_, rfl, hbl, by simpa using ho⟩
set_option maxHeartbeats 1000000 in
theorem clone65_c {v : Value} {n : Nat} {D : List Drt} (w : World) (h : Rw 65 w v n (dv D)) (hn : n ≤ 1000) :
    Calls Tryz.prog 51 #[v] w fun e w' => ∃ v', e = .returned v' ∧ Later w w' ∧ w'.ownsRow w.heap.size 83 65 v' n (dv D) := by
  have hown : Hid ((w.alloc (.cells #[] 83)).ownsRow w.heap.size 83 65 (.slice (some ⟨w.heap.size, 0, none⟩) 0 0) 0 []) := World.ownsRow_lit w #[] 0 (Nat.le_refl _) (by simp [maxLen]) rfl
  have hb : Hid (Below w.heap.size w (w.alloc (.cells #[] 83))) := (Below.refl _ _).alloc (Nat.le_refl _) _
  have hr := hide (h.later ((Later.refl w).alloc (.cells #[] 83)))
  obtain ⟨hl0, _, a, cap, rfl, _, h0⟩ := h
  cases a with
  | none =>
    obtain rfl : n = 0 := by
      rcases h0 with h0 | ⟨b, off, e, _⟩
      · exact h0
      · cases e
    have hx : dv D = [] := List.eq_nil_of_length_eq_zero (by rw [hl0])
    rw [hx]
    clear hown hb hr h0 hx hl0
    have hq := slice_is_nil Tryz.underlying23 none 0 cap w
    go_enter Tryz.func51, Tryz.ntmps51
    go_wp2
    go_ret
    exact ⟨_, rfl, Later.refl w, World.ownsRow_nil w _ _ _⟩
  | some ad =>
    clear h0 hl0
    have hq := slice_is_nil Tryz.underlying23 (some ad) n cap w
    go_enter Tryz.func51, Tryz.ntmps51
    go_wp2_with (at_builtin; refine wpList_append_rw Tryz.elem_dirty Tryz.underlying23 z65_size (by decide) rfl (.tmp 5) (.tmp 6) rfl w.heap.size _ 0 [] rfl hown.out _ n (dv D) rfl hr.out (dv_one D) ?c1 ?c2 ?c3 w hb.out ?_)
    case c1 => omega
    case c2 => unfold maxLen; omega
    case c3 => simp
    intro v' w' ho hbl _
    go_wp2
    go_ret
    exact ⟨_, rfl, hbl, by simpa using ho⟩
end Go.Proofs.YtfakboehmcimpaaGreat

namespace Go.Proofs.YtfakboehmcimpaaGreat
open Go.ChangeShapes Go.WideShapes Go.ChangeAt Go.RowKit
set_option linter.unusedVariables false
set_option maxRecDepth 4000
set_option linter.unusedSimpArgs false
/-! More than is looked at? -/
end Go.Proofs.YtfakboehmcimpaaGreat

namespace Go.Proofs.YtfakboehmcimpaaGreat
open Go.ChangeShapes Go.WideShapes Go.ChangeAt Go.RowKit
set_option linter.unusedVariables false
set_option maxRecDepth 4000
set_option linter.unusedSimpArgs false
/-! Pure facts of a job: what Take leaves is as right as what came; how long it is. -/
end Go.Proofs.YtfakboehmcimpaaGreat

namespace Go.Proofs.YtfakboehmcimpaaGreat
open Go.ChangeShapes Go.WideShapes Go.ChangeAt Go.RowKit
set_option linter.unusedVariables false
set_option maxRecDepth 4000
set_option linter.unusedSimpArgs false
/-! Take of two parts, one behind the other, is Take of both at once. -/
end Go.Proofs.YtfakboehmcimpaaGreat

namespace Go.Proofs.YtfakboehmcimpaaGreat
open Go.ChangeShapes Go.WideShapes Go.ChangeAt Go.RowKit
set_option linter.unusedVariables false
set_option maxRecDepth 4000
set_option linter.unusedSimpArgs false
/-! How much stands dirty behind Take; its sense is a sense. -/
end Go.Proofs.YtfakboehmcimpaaGreat

namespace Go.Proofs.YtfakboehmcimpaaGreat
open Go.ChangeShapes Go.WideShapes Go.ChangeAt Go.RowKit
set_option linter.unusedVariables false
set_option maxRecDepth 4000
set_option linter.unusedSimpArgs false
/-! Variables of two results of a job; how much is looked at. -/
end Go.Proofs.YtfakboehmcimpaaGreat
