import Derived.Test.YtbcikndebaeahaaMAH
namespace Go.Proofs.Ytbcikndebaeahaa
open Go.ChangeShapes Go.WideShapes Go.ChangeAt Go.RowKit
set_option linter.unusedVariables false
set_option maxRecDepth 4000
set_option linter.unusedSimpArgs false
def inR (f t : Int) (d : Drt) : Bool := decide (f ≤ d.1 ∧ d.1 < t)
set_option maxRecDepth 20000 in
set_option maxHeartbeats 2000000 in
theorem rflushed_c {v : Value} {n : Nat} {F : List UInt8} {D : List Drt} (f t : Int) (w : World) (h : Med w v n F D) (hn : n ≤ 64) (hk64 : D.length ≤ 64) (hfit : Fit n D) :
    Calls Try.prog 70 #[v, .int .i64 f, .int .i64 t] w fun e w' => ∃ vb vd, e = .returned (.agg #[vb, vd]) ∧ Later w w' ∧
      w'.ownsRow w.heap.size 58 64 vb n (bv (app F (D.filter (inR f t)))) ∧ w'.ownsRow w.heap.size 79 65 vd (D.filter fun d => !inR f t d).length (dv (D.filter fun d => !inR f t d)) := by
  obtain ⟨vb, vd, rfl, hb, hd, hok⟩ := h
  obtain ⟨ab, cb, rfl⟩ := hb.shape
  obtain ⟨k, hk⟩ : ∃ k, k = D.length := ⟨_, rfl⟩
  rw [← hk] at hd hk64
  obtain ⟨aD, cD, rfl⟩ := hd.shape
  have HB := hide hb
  have HD := hide hd
  have HK := hide hk
  have HO := hide hok
  have HF := hide hfit
  clear hb hd hk hok hfit
  go_enter Try.func70, Try.ntmps70
  go_wp2_with fail
  refine (rcopy_c _ _ (Nat.le_refl _) (HB.out.later (((Later.refl w).alloc _).alloc _)) (by omega)).mono ?_
  rintro e w2 ⟨v2, rfl, hl2, ho2⟩
  have L2 : Hid (Later w w2) := Later.trans (((Later.refl w).alloc _).alloc _) hl2
  have BX : Hid (Box w2 w.heap.size 25 [.slice ab n cb, .slice aD k cD]) := Box.later ((Box.new w 25 #[.slice ab n cb, .slice aD k cD]).alloc _) hl2
  have BR : Hid (Box w2 (w.heap.size + 1) 25 [.slice none 0 0, .slice none 0 0]) := Box.later (Box.new' _ _ _ _ rfl _ (by simp)) hl2
  have O2 : Hid (w2.ownsRow w.heap.size 58 64 v2 n (bv F)) := ho2.mono (by simp; omega)
  clear hl2 ho2
  obtain ⟨a2, c2, rfl⟩ := (Rw.of_owns O2.out).shape
  go_wp2_with fail
  have BX1 := hide (BX.out.alloc (.cells #[.slice a2 n c2, .slice none 0 0] 25))
  have BR1 := hide (BR.out.alloc (.cells #[.slice a2 n c2, .slice none 0 0] 25))
  have BO1 := hide (Box.new w2 25 #[.slice a2 n c2, .slice none 0 0])
  have O1 := hide (O2.out.alloc (.cells #[.slice a2 n c2, .slice none 0 0] 25))
  have L1 := hide (L2.out.alloc (.cells #[.slice a2 n c2, .slice none 0 0] 25))
  have hG2 : w.heap.size + 1 < w2.heap.size := BR.out.lt
  clear BX BR O2 L2
  generalize (w2.alloc (.cells #[.slice a2 n c2, .slice none 0 0] 25)) = w3 at *
  generalize w2.heap.size = G2 at *
  go_loopw [8] (fun i wr => ∃ (q : Nat) (vd : Value), q ≤ k ∧ i = .int .i64 q ∧ Hid (Later w wr) ∧ Hid (Box wr w.heap.size 25 [.slice ab n cb, .slice aD k cD]) ∧ Hid (Box wr (w.heap.size + 1) 25 [.slice none 0 0, .slice none 0 0]) ∧ Hid (Box wr G2 25 [.slice a2 n c2, vd]) ∧
      Hid (wr.ownsRow w.heap.size 58 64 (.slice a2 n c2) n (bv (app F ((D.take q).filter (inR f t))))) ∧ Hid (wr.ownsRow w.heap.size 79 65 vd ((D.take q).filter fun d => !inR f t d).length (dv ((D.take q).filter fun d => !inR f t d)))) (fun i _ => k - (intOf i).toNat)
  case atStart => exact ⟨0, _, Nat.zero_le _, rfl, L1, BX1, BR1, BO1, by simpa [app] using O1, by simpa [dv, Hid] using World.ownsRow_nil _ _ _ _⟩
  case round =>
    clear BX1 BR1 BO1 O1 L1
    obtain ⟨q, vd, hq, rfl, hl, hbx, hbr, hbo, hob, hod⟩ := hrel
    have d0 := hbx.out.cell 0
    have d1 := hbx.out.cell 1
    by_cases hlt : q < k
    · have hqD : q < D.length := by have := HK.out; omega
      have hdq := HF.out D[q] (List.getElem_mem hqD)
      obtain ⟨z, hz⟩ := Int.eq_ofNat_of_zero_le hdq.2.1
      have hzn : z < n := by have := hdq.2.2; omega
      obtain ⟨bD, oD, e, hr⟩ := (HD.out.later hl.out).lies? (by omega)
      subst e
      have hra := range_part hr (q * 65) 65
      rw [dv_part D q hqD HO.out] at hra
      have hin : Hid (inR f t D[q] = decide (f ≤ z ∧ (z : Int) < t)) := by unfold inR Hid; rw [hz]
      have hyes : Hid (inR f t D[q] = true → (D.take (q + 1)).filter (inR f t) = (D.take q).filter (inR f t) ++ [((z : Int), D[q].2)] ∧ ((D.take (q + 1)).filter fun d => !inR f t d) = (D.take q).filter fun d => !inR f t d) := by
        intro h
        rw [List.take_succ_eq_append_getElem hqD, List.filter_append, List.filter_append, ← hz]
        simp [List.filter_cons, h]
      have hno : Hid (inR f t D[q] = false → (D.take (q + 1)).filter (inR f t) = (D.take q).filter (inR f t) ∧ ((D.take (q + 1)).filter fun d => !inR f t d) = ((D.take q).filter fun d => !inR f t d) ++ [((z : Int), D[q].2)]) := by
        intro h
        rw [List.take_succ_eq_append_getElem hqD, List.filter_append, List.filter_append, ← hz]
        simp [List.filter_cons, h]
      have hXl := hide hdq.1
      rw [hz] at hra
      have hra' := hide hra
      generalize inR f t D[q] = bb at *
      generalize D[q].2 = X at *
      clear hra hr hdq hz
      have hcl : Hid ((Value.int .i64 (z : Int) :: bv X).length = 65) := by simp [Hid, bv_length, hXl.out]
      have hbox := hide (Box.new' wr 79 (#[.int .i64 0] ++ Array.replicate 64 (.int .u8 0)) _ rfl wr.heap.size rfl)
      have hbl1 := hide (hl.out.alloc (.cells (#[.int .i64 0] ++ Array.replicate 64 (.int .u8 0)) 79))
      have hszr := hl.out.size
      go_wp2_with (first
        | refine wpList_load_mid rfl 79 (.tmp 24) rfl bD (oD + q * 65) rfl (Value.int .i64 (z : Int) :: bv X) _ hra'.out Try.underlying79 rfl (by rw [Try.info_dirty, hcl.out]) ?_
        | refine wpList_store_new rfl 79 (.tmp 9) (.tmp 25) rfl wr.heap.size (Value.int .i64 (z : Int) :: bv X) rfl rfl _ hbox.out (by rw [hcl.out]; rfl) (by rw [hcl.out, Try.info_dirty]) (fun u hu => by rcases List.mem_cons.1 hu with rfl | h; rfl; exact bv_one X u h) w hbl1.out hszr ?_)
      intro w5 hb5 hl5 hk5 hs5
      have hkeep : ∀ j, j < wr.heap.size → w5.heap[j]? = wr.heap[j]? := fun j hj => by rw [hk5 j (by omega)]; exact Below.heap_alloc wr _ j hj
      have X5 : Hid (Box w5 w.heap.size 25 [.slice ab n cb, .slice (some ⟨bD, oD, none⟩) k cD]) := hbx.out.kept (hkeep _ hbx.out.lt)
      have R5 : Hid (Box w5 (w.heap.size + 1) 25 [.slice none 0 0, .slice none 0 0]) := hbr.out.kept (hkeep _ hbr.out.lt)
      have U5 : Hid (Box w5 G2 25 [.slice a2 n c2, vd]) := hbo.out.kept (hkeep _ hbo.out.lt)
      have B5 := hide (owns_kept hob.out fun g hg => hkeep g (hob.out.lt g hg).2)
      have D5 := hide (owns_kept hod.out fun g hg => hkeep g (hod.out.lt g hg).2)
      have E5 := hide hb5
      have L5 := hide hl5
      have hXf : Hid ((app F ((D.take q).filter (inR f t))).length = n * 64) := by
        refine app_length n _ F ?_ fun x hx => HF.out x (List.mem_of_mem_take (List.mem_filter.1 hx).1)
        have := HB.out.1
        rwa [bv_length] at this
      have e0 := hb5.cell 0
      have u0 := U5.out.cell 0
      have u1 := U5.out.cell 1
      clear hkeep hk5 hs5 hb5 hl5 hbx hbr hbo hob hod hl hbox hbl1 hszr d0 d1 hra'
      generalize wr.heap.size = G at *
      cases bb with
      | true =>
        have hc := hin.out
        rw [eq_comm, decide_eq_true_eq] at hc
        have cc1 := hc.1
        have cc2 := hc.2
        obtain ⟨g, cg, e, hg⟩ := owns_head B5.out (by omega)
        simp only [Value.slice.injEq, true_and] at e
        obtain ⟨rfl, rfl⟩ := e
        have hrX := hide (range_tail E5.out.range)
        have hth : Hid (w5.there g (z * 64) (bv X).toArray.size) := by
          have := owns_there B5.out (z * 64) 64 (by omega)
          unfold Hid
          simpa [bv_length, hXl.out] using this
        have hnew := (owns_setCells B5.out (bv X) (z * 64) (by rw [bv_length, hXl.out]; omega)).1
        rw [← bv_over] at hnew
        have ho1 : ∀ b t xs, t ≠ 58 → Box w5 b t xs → Box (w5.setCells g (z * 64) (bv X)) b t xs := fun b t xs hne hB => by
          unfold Box
          rw [heap_setCells_other w5 g b (box_ne_own hB B5.out hne g rfl)]
          exact hB
        have N1 : Hid ((w5.setCells g (z * 64) (bv X)).ownsRow w.heap.size 58 64 (.slice (some ⟨g, 0, none⟩) n c2) n (bv (app F ((D.take (q + 1)).filter (inR f t))))) := by
          have h := (hyes.out (by simp)).1
          unfold Hid
          rw [h, app_snoc]
          exact hnew
        have N2 : Hid ((w5.setCells g (z * 64) (bv X)).ownsRow w.heap.size 79 65 vd ((D.take (q + 1)).filter fun d => !inR f t d).length (dv ((D.take (q + 1)).filter fun d => !inR f t d))) := by
          have h := (hyes.out (by simp)).2
          unfold Hid
          rw [h]
          exact owns_kept D5.out fun j hj => heap_setCells_other w5 g j (fun e => own_ne_own B5.out D5.out (by decide) g rfl (by rw [← e]; exact hj)) _ _
        have N3 := hide (ho1 _ _ _ (by decide) X5.out)
        have N4 := hide (ho1 _ _ _ (by decide) R5.out)
        have N5 := hide (ho1 _ _ _ (by decide) U5.out)
        have N6 := hide (L5.out.setCells hg (bv X) (z * 64))
        clear ho1 hnew X5 R5 U5 D5 L5 hyes hno hXf
        go_wp2_with (first
          | refine wpList_load_mid rfl 58 (.tmp 40) rfl G 1 rfl (bv X) _ hrX.out Try.underlying58 rfl (by rw [Try.info_block, bv_length, hXl.out]) ?_
          | refine wpList_store_mid rfl 58 (.tmp 42) (.tmp 41) rfl g (z * 64) (bv X).toArray rfl rfl hth.out (by rw [Try.info_block]; simp [bv_length, hXl.out]) (all_oneCell_toArray (bv_one _)) ?_)
        go_roundw
        case rel => exact ⟨q + 1, vd, by omega, by go_num, N6, N3, N4, N5, N1, N2⟩
        case measure => simp [intOf]; omega
      | false =>
        have hc := hin.out
        rw [eq_comm, decide_eq_false_iff_not] at hc
        have hone : Hid (∀ u ∈ (Value.int .i64 (z : Int) :: bv X), u.oneCell' = true) := fun u hu => by rcases List.mem_cons.1 hu with rfl | h; rfl; exact bv_one X u h
        have hlenD : Hid (((D.take q).filter fun d => !inR f t d).length ≤ 64) := Nat.le_trans (List.length_filter_le _ _) (by simp; omega)
        by_cases cc1 : f ≤ (z : Int)
        · have cc2 : t ≤ (z : Int) := by omega
          go_wp2_with (first
            | refine wpList_load_mid rfl 79 (.tmp 9) rfl G 0 rfl (Value.int .i64 (z : Int) :: bv X) _ E5.out.range Try.underlying79 rfl (by rw [Try.info_dirty, hcl.out]) ?_
            | refine wpList_buildOne Try.elem_dirty Try.underlying23 z65_size (by decide) (by decide) rfl (.tmp 45) rfl (Value.int .i64 (z : Int) :: bv X) rfl hcl.out ?_)
          intro w6 hr6 hl6 hs6
          have X6 := hide (X5.out.later hl6)
          have R6 := hide (R5.out.later hl6)
          have U6 := hide (U5.out.later hl6)
          have B6 := hide (owns_later B5.out hl6)
          have D6 := hide (owns_later D5.out hl6)
          have L6 := hide (L5.out.trans hl6)
          have S6 := hide hr6
          have hz6 := L6.out.size
          clear hr6 hl6 hs6 X5 R5 U5 B5 D5 L5 e0 u0 u1
          go_wp2_with (at_builtin; refine wpList_append_rw Try.elem_dirty Try.underlying23 z65_size (by decide) rfl (.tmp 44) (.tmp 46) rfl w.heap.size _ _ _ rfl D6.out _ 1 (Value.int .i64 (z : Int) :: bv X) rfl S6.out hone.out ?m1 ?m2 hz6 w L6.out ?_)
          case m1 => have := hlenD.out; omega
          case m2 => have := hlenD.out; unfold maxLen; omega
          intro v7 w7 ho7 hb7 hg7
          have X7 := hide (box_grown X6.out D6.out (by decide) hg7)
          have R7 := hide (box_grown R6.out D6.out (by decide) hg7)
          have U7 := hide (box_grown U6.out D6.out (by decide) hg7)
          have B7 : Hid (w7.ownsRow w.heap.size 58 64 (.slice a2 n c2) n (bv (app F ((D.take q).filter (inR f t))))) := owns_kept B6.out fun g hg => hg7.block g (B6.out.lt g hg).2 (fun e => own_ne_own B6.out D6.out (by decide) g hg e.symm)
          have D7 : Hid (w7.ownsRow w.heap.size 79 65 v7 ((D.take (q + 1)).filter fun d => !inR f t d).length (dv ((D.take (q + 1)).filter fun d => !inR f t d))) := by
            have h := (hno.out (by simp)).2
            unfold Hid
            rw [h, dv_append, List.length_append]
            simpa [dv] using ho7
          have L7 : Hid (Later w w7) := hb7
          clear ho7 hb7 hg7 X6 R6 U6 B6 D6 L6 S6 hz6
          obtain ⟨m7, hm7⟩ : ∃ m, m = ((D.take (q + 1)).filter fun d => !inR f t d).length := ⟨_, rfl⟩
          rw [← hm7] at D7
          obtain ⟨a7, c7, rfl⟩ := (Rw.of_owns D7.out).shape
          have HM7 := hide hm7
          clear hm7
          have u1 := U7.out.cell 1
          have uf := U7.out.frozen 1
          have N1 : Hid ((w7.setCell ⟨G2, 1, none⟩ (.slice a7 m7 c7)).ownsRow w.heap.size 58 64 (.slice a2 n c2) n (bv (app F ((D.take (q + 1)).filter (inR f t))))) := by
            have h := (hno.out (by simp)).1
            unfold Hid
            rw [h]
            exact owns_kept B7.out fun g hg => heap_setCell_other _ _ _ _ (fun e => box_ne_own U7.out B7.out (by decide) g hg e.symm)
          have N2 : Hid ((w7.setCell ⟨G2, 1, none⟩ (.slice a7 m7 c7)).ownsRow w.heap.size 79 65 (.slice a7 m7 c7) m7 (dv ((D.take (q + 1)).filter fun d => !inR f t d))) :=
            owns_kept D7.out fun g hg => heap_setCell_other _ _ _ _ (fun e => box_ne_own U7.out D7.out (by decide) g hg e.symm)
          have N3 := hide (X7.out.other ⟨G2, 1, none⟩ (.slice a7 m7 c7) (by simp; omega))
          have N4 := hide (R7.out.other ⟨G2, 1, none⟩ (.slice a7 m7 c7) (by simp; omega))
          have N5 := hide (U7.out.set 1 (.slice a7 m7 c7))
          have N6 := hide (L7.out.setCell (a := ⟨G2, 1, none⟩) (by simp; omega) (.slice a7 m7 c7))
          clear X7 R7 U7 B7 D7 L7
          go_wp2
          go_roundw
          case rel => exact ⟨q + 1, .slice a7 m7 c7, by omega, by go_num, N6, N3, N4, N5, N1, by rw [← HM7.out]; exact N2⟩
          case measure => simp [intOf]; omega
        · have cc2 : (z : Int) < f := by omega
          go_wp2_with (first
            | refine wpList_load_mid rfl 79 (.tmp 9) rfl G 0 rfl (Value.int .i64 (z : Int) :: bv X) _ E5.out.range Try.underlying79 rfl (by rw [Try.info_dirty, hcl.out]) ?_
            | refine wpList_buildOne Try.elem_dirty Try.underlying23 z65_size (by decide) (by decide) rfl (.tmp 45) rfl (Value.int .i64 (z : Int) :: bv X) rfl hcl.out ?_)
          intro w6 hr6 hl6 hs6
          have X6 := hide (X5.out.later hl6)
          have R6 := hide (R5.out.later hl6)
          have U6 := hide (U5.out.later hl6)
          have B6 := hide (owns_later B5.out hl6)
          have D6 := hide (owns_later D5.out hl6)
          have L6 := hide (L5.out.trans hl6)
          have S6 := hide hr6
          have hz6 := L6.out.size
          clear hr6 hl6 hs6 X5 R5 U5 B5 D5 L5 e0 u0 u1
          go_wp2_with (at_builtin; refine wpList_append_rw Try.elem_dirty Try.underlying23 z65_size (by decide) rfl (.tmp 44) (.tmp 46) rfl w.heap.size _ _ _ rfl D6.out _ 1 (Value.int .i64 (z : Int) :: bv X) rfl S6.out hone.out ?m1 ?m2 hz6 w L6.out ?_)
          case m1 => have := hlenD.out; omega
          case m2 => have := hlenD.out; unfold maxLen; omega
          intro v7 w7 ho7 hb7 hg7
          have X7 := hide (box_grown X6.out D6.out (by decide) hg7)
          have R7 := hide (box_grown R6.out D6.out (by decide) hg7)
          have U7 := hide (box_grown U6.out D6.out (by decide) hg7)
          have B7 : Hid (w7.ownsRow w.heap.size 58 64 (.slice a2 n c2) n (bv (app F ((D.take q).filter (inR f t))))) := owns_kept B6.out fun g hg => hg7.block g (B6.out.lt g hg).2 (fun e => own_ne_own B6.out D6.out (by decide) g hg e.symm)
          have D7 : Hid (w7.ownsRow w.heap.size 79 65 v7 ((D.take (q + 1)).filter fun d => !inR f t d).length (dv ((D.take (q + 1)).filter fun d => !inR f t d))) := by
            have h := (hno.out (by simp)).2
            unfold Hid
            rw [h, dv_append, List.length_append]
            simpa [dv] using ho7
          have L7 : Hid (Later w w7) := hb7
          clear ho7 hb7 hg7 X6 R6 U6 B6 D6 L6 S6 hz6
          obtain ⟨m7, hm7⟩ : ∃ m, m = ((D.take (q + 1)).filter fun d => !inR f t d).length := ⟨_, rfl⟩
          rw [← hm7] at D7
          obtain ⟨a7, c7, rfl⟩ := (Rw.of_owns D7.out).shape
          have HM7 := hide hm7
          clear hm7
          have u1 := U7.out.cell 1
          have uf := U7.out.frozen 1
          have N1 : Hid ((w7.setCell ⟨G2, 1, none⟩ (.slice a7 m7 c7)).ownsRow w.heap.size 58 64 (.slice a2 n c2) n (bv (app F ((D.take (q + 1)).filter (inR f t))))) := by
            have h := (hno.out (by simp)).1
            unfold Hid
            rw [h]
            exact owns_kept B7.out fun g hg => heap_setCell_other _ _ _ _ (fun e => box_ne_own U7.out B7.out (by decide) g hg e.symm)
          have N2 : Hid ((w7.setCell ⟨G2, 1, none⟩ (.slice a7 m7 c7)).ownsRow w.heap.size 79 65 (.slice a7 m7 c7) m7 (dv ((D.take (q + 1)).filter fun d => !inR f t d))) :=
            owns_kept D7.out fun g hg => heap_setCell_other _ _ _ _ (fun e => box_ne_own U7.out D7.out (by decide) g hg e.symm)
          have N3 := hide (X7.out.other ⟨G2, 1, none⟩ (.slice a7 m7 c7) (by simp; omega))
          have N4 := hide (R7.out.other ⟨G2, 1, none⟩ (.slice a7 m7 c7) (by simp; omega))
          have N5 := hide (U7.out.set 1 (.slice a7 m7 c7))
          have N6 := hide (L7.out.setCell (a := ⟨G2, 1, none⟩) (by simp; omega) (.slice a7 m7 c7))
          clear X7 R7 U7 B7 D7 L7
          go_wp2
          go_roundw
          case rel => exact ⟨q + 1, .slice a7 m7 c7, by omega, by go_num, N6, N3, N4, N5, N1, by rw [← HM7.out]; exact N2⟩
          case measure => simp [intOf]; omega
    · have hkq : q = k := by omega
      have B1 : Hid (wr.ownsRow w.heap.size 58 64 (.slice a2 n c2) n (bv (app F (D.filter (inR f t))))) := by have := hob.out; rw [hkq, HK.out, List.take_length] at this; exact this
      have D1 : Hid (wr.ownsRow w.heap.size 79 65 vd (D.filter fun d => !inR f t d).length (dv (D.filter fun d => !inR f t d))) := by have := hod.out; rw [hkq, HK.out, List.take_length] at this; exact this
      obtain ⟨m7, hm7⟩ : ∃ m, m = (D.filter fun d => !inR f t d).length := ⟨_, rfl⟩
      rw [← hm7] at D1
      have HM7 := hide hm7
      clear hm7
      obtain ⟨a7, c7, rfl⟩ := (Rw.of_owns D1.out).shape
      have u0 := hbo.out.cell 0
      have u1 := hbo.out.cell 1
      have r0 := hbr.out.cell 0
      have r1 := hbr.out.cell 1
      have f0 := hbr.out.frozen 0
      have f1 := hbr.out.frozen 1
      have hw1 : Hid (Box ((wr.setCell ⟨w.heap.size + 1, 0, none⟩ (.slice a2 n c2)).setCell ⟨w.heap.size + 1, 1, none⟩ (.slice a7 m7 c7)) (w.heap.size + 1) 25 [.slice a2 n c2, .slice a7 m7 c7]) := (hbr.out.set 0 _).set 1 _
      have hne : ∀ g, g ≠ w.heap.size + 1 → ((wr.setCell ⟨w.heap.size + 1, 0, none⟩ (.slice a2 n c2)).setCell ⟨w.heap.size + 1, 1, none⟩ (.slice a7 m7 c7)).heap[g]? = wr.heap[g]? := fun g hg => by
        rw [heap_setCell_other _ _ _ _ (by simpa using hg), heap_setCell_other _ _ _ _ (by simpa using hg)]
      have N1 := hide (owns_kept B1.out fun g hg => hne g (fun e => box_ne_own hbr.out B1.out (by decide) g hg e.symm))
      have N2 := hide (owns_kept D1.out fun g hg => hne g (fun e => box_ne_own hbr.out D1.out (by decide) g hg e.symm))
      have N6 : Hid (Later w ((wr.setCell ⟨w.heap.size + 1, 0, none⟩ (.slice a2 n c2)).setCell ⟨w.heap.size + 1, 1, none⟩ (.slice a7 m7 c7))) := (hl.out.setCell (by simp) _).setCell (by simp) _
      clear hne hob hod hbx hbr hl B1 D1
      go_wp2
      refine bodyPost_ret (results_cell1 rfl _ _ _ (w.heap.size + 1) 0 rfl (.agg #[.slice a2 n c2, .slice a7 m7 c7]) (run_loadVar_mid _ _ _ _ [.slice a2 n c2, .slice a7 m7 c7] _ hw1.out.range Try.underlying25 rfl (by kernel_rfl))) rfl ⟨_, _, rfl, N6.out, N1.out, ?_⟩
      rw [← HM7.out]
      exact N2.out
end Go.Proofs.Ytbcikndebaeahaa

namespace Go.Proofs.Ytbcikndebaeahaa
open Go.ChangeShapes Go.WideShapes Go.ChangeAt Go.RowKit
set_option linter.unusedVariables false
set_option maxRecDepth 4000
set_option linter.unusedSimpArgs false
theorem Med.nil (w : World) : Med w (.agg #[.slice none 0 0, .slice none 0 0]) 0 [] [] := ⟨_, _, rfl, Rw.nil 64 w, Rw.nil 65 w, fun d hd => by cases hd⟩
theorem Ok.filter {D : List Drt} (h : Ok D) (p : Drt → Bool) : Ok (D.filter p) := fun d hd => h d (List.mem_filter.1 hd).1
end Go.Proofs.Ytbcikndebaeahaa

namespace Go.Proofs.Ytbcikndebaeahaa
open Go.ChangeShapes Go.WideShapes Go.ChangeAt Go.RowKit
set_option linter.unusedVariables false
set_option maxRecDepth 4000
set_option linter.unusedSimpArgs false
end Go.Proofs.Ytbcikndebaeahaa

namespace Go.Proofs.Ytbcikndebaeahaa
open Go.ChangeShapes Go.WideShapes Go.ChangeAt Go.RowKit
set_option linter.unusedVariables false
set_option maxRecDepth 4000
set_option linter.unusedSimpArgs false
def wrE (n : Nat) (D : List Drt) (at_ : Int) : Int := if rightB n D then (if 0 ≤ at_ ∧ at_ < n then 0 else 5) else 1
def wrF (n : Nat) (F : List UInt8) (D : List Drt) (at_ : Int) (X : List UInt8) (th : Bool) : List UInt8 :=
  if wrE n D at_ = 0 then (if th then over (app F (D.filter (inR at_ (at_ + 1)))) (at_.toNat * 64) X else if D.length = 64 then app F (D.filter (inR 0 n)) else F) else []
def wrD (n : Nat) (D : List Drt) (at_ : Int) (X : List UInt8) (th : Bool) : List Drt :=
  if wrE n D at_ = 0 then (if th then D.filter (fun d => !inR at_ (at_ + 1) d) else (if D.length = 64 then D.filter (fun d => !inR 0 n d) else D) ++ [(at_, X)]) else []
def wrN (n : Nat) (D : List Drt) (at_ : Int) : Nat := if wrE n D at_ = 0 then n else 0
set_option maxRecDepth 20000 in
set_option maxHeartbeats 1000000 in
theorem rwrite3_tx {v : Value} {n : Nat} {F : List UInt8} {D : List Drt} (at_ : Int) (X : List UInt8) (w : World) (h : Med w v n F D) (hX : X.length = 64) (ha : -9223372036854775808 ≤ at_) (ha' : at_ ≤ 9223372036854775807) :
    Calls Try.prog 59 #[v, .int .i64 at_, .agg (bv X).toArray, .bool true] w fun e w' => ∃ v', e = .returned (.tuple #[v', .int .i64 (wrE n D at_)]) ∧ Later w w' ∧ Med w' v' (wrN n D at_) (wrF n F D at_ X true) (wrD n D at_ X true) ∧ ∀ g, g < w.heap.size → OffM g v' := by
  have HM := hide h
  obtain ⟨vb, vd, rfl, hb, hd, hok⟩ := h
  obtain ⟨ab, cb, rfl⟩ := hb.shape
  obtain ⟨k, hk⟩ : ∃ k, k = D.length := ⟨_, rfl⟩
  rw [← hk] at hd
  obtain ⟨aD, cD, rfl⟩ := hd.shape
  have hnm := hb.2.1
  have hkm := hd.2.1
  unfold maxLen at hnm hkm
  have HB := hide hb
  have HD := hide hd
  have HO := hide hok
  have HK := hide hk
  have HX := hide hX
  clear hb hd hk hok hX
  go_enter Try.func59, Try.ntmps59
  go_wp2_with fail
  refine (rright_c _ (HM.out.later ((((Later.refl w).alloc _).alloc _).alloc _))).mono ?_
  rintro e w2 ⟨rfl, hl2⟩
  have L2 : Hid (Later w w2) := Later.trans ((((Later.refl w).alloc _).alloc _).alloc _) hl2
  have BX : Hid (Box w2 w.heap.size 25 [.slice ab n cb, .slice aD k cD]) := Box.later ((Box.new w 25 #[.slice ab n cb, .slice aD k cD]).alloc _ |>.alloc _) hl2
  have BR : Hid (Box w2 (w.heap.size + 1 + 1) 25 [.slice none 0 0, .slice none 0 0]) := Box.later (Box.new' _ _ _ _ rfl _ (by simp)) hl2
  have BD : Hid (Box w2 (w.heap.size + 1) 58 (bv X)) := Box.later ((Box.new' _ _ _ _ (by simp) _ (by simp)).alloc _) hl2
  clear hl2
  have d0 := BX.out.cell 0
  have d1 := BX.out.cell 1
  have r0 := BR.out.cell 0
  have r1 := BR.out.cell 1
  have f0 := BR.out.frozen 0
  have f1 := BR.out.frozen 1
  have BZ : Hid (Box ((w2.setCell ⟨w.heap.size + 1 + 1, 0, none⟩ (.slice none 0 0)).setCell ⟨w.heap.size + 1 + 1, 1, none⟩ (.slice none 0 0)) (w.heap.size + 1 + 1) 25 [.slice none 0 0, .slice none 0 0]) := (BR.out.set 0 _).set 1 _
  have LZ : Hid (Later w ((w2.setCell ⟨w.heap.size + 1 + 1, 0, none⟩ (.slice none 0 0)).setCell ⟨w.heap.size + 1 + 1, 1, none⟩ (.slice none 0 0))) := (L2.out.setCell (by simp; omega) _).setCell (by simp; omega) _
  by_cases hR : rightB n D = true
  case neg =>
    have hR' : rightB n D = false := by simpa using hR
    rw [hR']
    go_wp2
    refine bodyPost_ret (results_cell_tmp rfl _ _ _ (w.heap.size + 1 + 1) 0 rfl (.agg #[.slice none 0 0, .slice none 0 0]) (.int .i64 1) (run_loadVar_mid _ _ _ _ [.slice none 0 0, .slice none 0 0] _ BZ.out.range Try.underlying25 rfl (by kernel_rfl)) rfl) rfl ⟨.agg #[.slice none 0 0, .slice none 0 0], ?_, LZ.out, ?_, fun g _ => ⟨_, _, rfl, trivial, trivial⟩⟩
    · simp [wrE, hR']
    · simpa [wrE, wrN, wrF, wrD, hR'] using Med.nil _
  rw [hR]
  by_cases hin : 0 ≤ at_ ∧ at_ < n
  case neg =>
    have hE : Hid (wrE n D at_ = 5) := by simp only [Hid, wrE, hR, if_true, if_neg hin]
    by_cases c1 : at_ < 0
    · go_wp2
      refine bodyPost_ret (results_cell_tmp rfl _ _ _ (w.heap.size + 1 + 1) 0 rfl (.agg #[.slice none 0 0, .slice none 0 0]) (.int .i64 5) (run_loadVar_mid _ _ _ _ [.slice none 0 0, .slice none 0 0] _ BZ.out.range Try.underlying25 rfl (by kernel_rfl)) rfl) rfl ⟨.agg #[.slice none 0 0, .slice none 0 0], by rw [hE.out], LZ.out, ?_, fun g _ => ⟨_, _, rfl, trivial, trivial⟩⟩
      simpa [wrN, wrF, wrD, hE.out] using Med.nil _
    · have c3 : (n : Int) ≤ at_ := by omega
      go_wp2
      refine bodyPost_ret (results_cell_tmp rfl _ _ _ (w.heap.size + 1 + 1) 0 rfl (.agg #[.slice none 0 0, .slice none 0 0]) (.int .i64 5) (run_loadVar_mid _ _ _ _ [.slice none 0 0, .slice none 0 0] _ BZ.out.range Try.underlying25 rfl (by kernel_rfl)) rfl) rfl ⟨.agg #[.slice none 0 0, .slice none 0 0], by rw [hE.out], LZ.out, ?_, fun g _ => ⟨_, _, rfl, trivial, trivial⟩⟩
      simpa [wrN, wrF, wrD, hE.out] using Med.nil _
  have hE : Hid (wrE n D at_ = 0) := by simp only [Hid, wrE, hR, if_true, if_pos hin]
  have hR2 := hR
  simp only [rightB, decide_eq_true_eq] at hR2
  have hn64 := hR2.1
  have hk64 : k ≤ 64 := by have := hR2.2.1; have := HK.out; omega
  have HFit := hide (fit_of_right hR HO.out)
  obtain ⟨z, rfl⟩ := Int.eq_ofNat_of_zero_le hin.1
  have hzn : z < n := by omega
  have c1 : ¬ (z : Int) < 0 := by omega
  have c3 : ¬ (n : Int) ≤ (z : Int) := by omega
  clear hin hR2 hR BZ LZ
  · skip
    go_wp2_with fail
    refine (rflushed_c (z : Int) ((z : Int) + 1) w2 (HM.out.later L2.out) hn64 (by have := HK.out; omega) HFit.out).mono ?_
    rintro e w3 ⟨vb, vd, rfl, hl3, h1, h2⟩
    have L3 := hide (L2.out.trans hl3)
    have BR3 := hide (Box.later BR.out hl3)
    have BD3 := hide (Box.later BD.out hl3)
    have hs2 : w.heap.size + 1 + 1 < w2.heap.size := BR.out.lt
    obtain ⟨g, c3, e, hg⟩ := owns_head h1 (by omega)
    subst e
    obtain ⟨m6, hm6⟩ : ∃ m6, m6 = (D.filter fun d => !inR (z : Int) ((z : Int) + 1) d).length := ⟨_, rfl⟩
    rw [← hm6] at h2
    have HM6 := hide hm6
    clear hm6
    obtain ⟨a6, c6, rfl⟩ := (Rw.of_owns h2).shape
    have B3 := hide h1
    have D3 := hide h2
    clear h1 h2 hl3 d0 d1 r0 r1 f0 f1 BX BR BD L2
    have hXl := HX.out
    have lA : (w3.alloc (.cells #[.slice (some ⟨g, 0, none⟩) n c3, .slice a6 m6 c6] 25)) = (w3.alloc (.cells #[.slice (some ⟨g, 0, none⟩) n c3, .slice a6 m6 c6] 25)) := rfl
    have L4 := hide (L3.out.alloc (.cells #[.slice (some ⟨g, 0, none⟩) n c3, .slice a6 m6 c6] 25))
    have BR4 := hide (BR3.out.alloc (.cells #[.slice (some ⟨g, 0, none⟩) n c3, .slice a6 m6 c6] 25))
    have BD4 := hide (BD3.out.alloc (.cells #[.slice (some ⟨g, 0, none⟩) n c3, .slice a6 m6 c6] 25))
    have BO4 := hide (Box.new w3 25 #[.slice (some ⟨g, 0, none⟩) n c3, .slice a6 m6 c6])
    have B4 := hide (B3.out.alloc (.cells #[.slice (some ⟨g, 0, none⟩) n c3, .slice a6 m6 c6] 25))
    have D4 := hide (D3.out.alloc (.cells #[.slice (some ⟨g, 0, none⟩) n c3, .slice a6 m6 c6] 25))
    have hG : w2.heap.size ≤ w3.heap.size := by have := (B3.out.lt g rfl); omega
    clear L3 BR3 BD3 B3 D3 lA
    obtain ⟨w4, hw4⟩ : ∃ w4, w4 = (w3.alloc (.cells #[.slice (some ⟨g, 0, none⟩) n c3, .slice a6 m6 c6] 25)) := ⟨_, rfl⟩
    rw [← hw4] at L4 BR4 BD4 BO4 B4 D4
    have o0 := BO4.out.cell 0
    have o1 := BO4.out.cell 1
    have hth : Hid (w4.there g (z * 64) (bv X).toArray.size) := by
      have := owns_there B4.out (z * 64) 64 (by omega)
      unfold Hid
      simpa [bv_length, hXl] using this
    have hnew := (owns_setCells B4.out (bv X) (z * 64) (by rw [bv_length, hXl]; omega)).1
    rw [← bv_over] at hnew
    have ho1 : ∀ b xs, Box w4 b 25 xs → Box (w4.setCells g (z * 64) (bv X)) b 25 xs := fun b xs hB => by
      unfold Box
      rw [heap_setCells_other w4 g b (box_ne_own hB B4.out (by decide) g rfl)]
      exact hB
    have N1 := hide hnew
    have N2 := hide (owns_kept (w' := w4.setCells g (z * 64) (bv X)) D4.out fun j hj => heap_setCells_other w4 g j (fun e => own_ne_own B4.out D4.out (by decide) g rfl (by rw [← e]; exact hj)) _ _)
    have N4 := hide (ho1 _ _ BR4.out)
    have N5 := hide (ho1 _ _ BO4.out)
    have N6 : Hid (Later w (w4.setCells g (z * 64) (bv X))) := L4.out.setCells (by have := hg; omega) (bv X) (z * 64)
    have p0 := N5.out.cell 0
    have p1 := N5.out.cell 1
    have r0 := N4.out.cell 0
    have r1 := N4.out.cell 1
    have f0 := N4.out.frozen 0
    have f1 := N4.out.frozen 1
    have HE : Hid (Box (((w4.setCells g (z * 64) (bv X)).setCell ⟨w.heap.size + 1 + 1, 0, none⟩ (.slice (some ⟨g, 0, none⟩) n c3)).setCell ⟨w.heap.size + 1 + 1, 1, none⟩ (.slice a6 m6 c6)) (w.heap.size + 1 + 1) 25 [.slice (some ⟨g, 0, none⟩) n c3, .slice a6 m6 c6] ∧
        Later w (((w4.setCells g (z * 64) (bv X)).setCell ⟨w.heap.size + 1 + 1, 0, none⟩ (.slice (some ⟨g, 0, none⟩) n c3)).setCell ⟨w.heap.size + 1 + 1, 1, none⟩ (.slice a6 m6 c6)) ∧
        Med (((w4.setCells g (z * 64) (bv X)).setCell ⟨w.heap.size + 1 + 1, 0, none⟩ (.slice (some ⟨g, 0, none⟩) n c3)).setCell ⟨w.heap.size + 1 + 1, 1, none⟩ (.slice a6 m6 c6)) (.agg #[.slice (some ⟨g, 0, none⟩) n c3, .slice a6 m6 c6]) (wrN n D z) (wrF n F D z X true) (wrD n D z X true) ∧ ∀ g', g' < w.heap.size → OffM g' (.agg #[.slice (some ⟨g, 0, none⟩) n c3, .slice a6 m6 c6])) := by
      have hne : ∀ j, j ≠ w.heap.size + 1 + 1 → (((w4.setCells g (z * 64) (bv X)).setCell ⟨w.heap.size + 1 + 1, 0, none⟩ (.slice (some ⟨g, 0, none⟩) n c3)).setCell ⟨w.heap.size + 1 + 1, 1, none⟩ (.slice a6 m6 c6)).heap[j]? = (w4.setCells g (z * 64) (bv X)).heap[j]? := fun j hj => by
        rw [heap_setCell_other _ _ _ _ (by simpa using hj), heap_setCell_other _ _ _ _ (by simpa using hj)]
      have e1 := owns_kept N1.out fun j hj => hne j (fun e => box_ne_own N4.out N1.out (by decide) j hj e.symm)
      have e2 := owns_kept N2.out fun j hj => hne j (fun e => box_ne_own N4.out N2.out (by decide) j hj e.symm)
      refine ⟨(N4.out.set 0 _).set 1 _, (N6.out.setCell (by simp; omega) _).setCell (by simp; omega) _, ⟨_, _, rfl, ?_, ?_, ?_⟩, fun g' hg' => ⟨_, _, rfl, owns_off N1.out (by omega), owns_off N2.out (by omega)⟩⟩
      · rw [show wrN n D z = n from by simp [wrN, hE.out], show wrF n F D z X true = over (app F (D.filter (inR (z : Int) ((z : Int) + 1)))) (z * 64) X from by simp [wrF, hE.out]]
        exact Rw.of_owns e1
      · rw [show wrD n D z X true = D.filter (fun d => !inR (z : Int) ((z : Int) + 1) d) from by simp [wrD, hE.out], ← HM6.out]
        exact Rw.of_owns e2
      · rw [show wrD n D z X true = D.filter (fun d => !inR (z : Int) ((z : Int) + 1) d) from by simp [wrD, hE.out]]
        exact HO.out.filter _
    clear N1 N2 N4 N5 N6 hnew ho1 B4 D4 BR4 BO4 L4 hXl
    subst hw4
    go_wp2_with (first
      | refine wpList_load_mid rfl 58 (.tmp 6) rfl (w.heap.size + 1) 0 rfl (bv X) _ BD4.out.range Try.underlying58 rfl (by rw [Try.info_block, bv_length, HX.out]) ?_
      | refine wpList_store_mid rfl 58 (.tmp 35) (.tmp 34) rfl g (z * 64) (bv X).toArray rfl rfl hth.out (by rw [Try.info_block]; simp [bv_length, HX.out]) (all_oneCell_toArray (bv_one _)) ?_)
    exact bodyPost_ret (results_cell_tmp rfl _ _ _ (w.heap.size + 1 + 1) 0 rfl (.agg #[.slice (some ⟨g, 0, none⟩) n c3, .slice a6 m6 c6]) (.int .i64 0) (run_loadVar_mid _ _ _ _ [.slice (some ⟨g, 0, none⟩) n c3, .slice a6 m6 c6] _ HE.out.1.range Try.underlying25 rfl (by kernel_rfl)) rfl) rfl ⟨.agg #[.slice (some ⟨g, 0, none⟩) n c3, .slice a6 m6 c6], by rw [hE.out], HE.out.2.1, HE.out.2.2.1, HE.out.2.2.2⟩
end Go.Proofs.Ytbcikndebaeahaa
