import Derived.Test.YtphgjofiploahaaR3j
import Derived.Test.YtphgjofiploahaaB2
namespace Go.Proofs.Ytphgjofiploahaa
open Go.ChangeShapes Go.WideShapes Go.ChangeAt Go.RowKit
set_option linter.unusedVariables false
set_option linter.unusedSimpArgs false

/-! The landed cache: its inner functions has, check, end and lasting, and Right. -/
theorem chas_c {v : Value} {n : Nat} {F : List UInt8} {D : List Drt} (at_ : Int) (w : World) (h : Med w v n F D) :
    Calls Try.prog 31 #[v, .int .i64 at_] w fun e w' => e = .returned (.bool (decide (0 ≤ at_ ∧ at_ < n))) ∧ Later w w' := by
  obtain ⟨vb, vd, rfl, hb, hd, hok⟩ := h
  obtain ⟨ab, cb, rfl⟩ := hb.shape
  obtain ⟨k, hk⟩ : ∃ k, k = D.length := ⟨_, rfl⟩
  rw [← hk] at hd
  obtain ⟨aD, cD, rfl⟩ := hd.shape
  have L0 := hide ((Later.refl w).alloc (.cells #[.slice ab n cb, .slice aD k cD] 25))
  clear hb hd hk hok
  by_cases h1 : 0 ≤ at_
  · by_cases h2 : at_ < n
    · go_enter Try.func31, Try.ntmps31
      go_wp2
      go_ret
      exact ⟨ret_bool (by first | (simp; done) | (simp; omega) | (rw [Bool.eq_iff_iff]; simp; omega)), L0.out⟩
    · go_enter Try.func31, Try.ntmps31
      go_wp2
      go_ret
      exact ⟨ret_bool (by first | (simp; done) | (simp; omega) | (rw [Bool.eq_iff_iff]; simp; omega)), L0.out⟩
  · go_enter Try.func31, Try.ntmps31
    go_wp2
    go_ret
    exact ⟨ret_bool (by first | (simp; done) | (simp; omega) | (rw [Bool.eq_iff_iff]; simp; omega)), L0.out⟩

set_option maxRecDepth 20000 in
set_option maxHeartbeats 1000000 in
theorem cright_c {v : Value} {n : Nat} {F : List UInt8} {D : List Drt} (w : World) (h : Med w v n F D) :
    Calls Try.prog 16 #[v] w fun e w' => e = .returned (.bool (rightB n D)) ∧ Later w w' := by
  have HM := hide h
  obtain ⟨vb, vd, rfl, hb, hd, hok⟩ := h
  obtain ⟨ab, cb, rfl⟩ := hb.shape
  obtain ⟨k, hk⟩ : ∃ k, k = D.length := ⟨_, rfl⟩
  rw [← hk] at hd
  obtain ⟨aD, cD, rfl⟩ := hd.shape
  have hn := hb.2.1
  have hkm := hd.2.1
  unfold maxLen at hn hkm
  have HD := hide hd
  have HK := hide hk
  have HO := hide hok
  clear hb hd hk hok
  have BX0 := hide (Box.new w 25 #[.slice ab n cb, .slice aD k cD])
  have L0 := hide ((Later.refl w).alloc (.cells #[.slice ab n cb, .slice aD k cD] 25))
  by_cases h1 : 64 < n
  · go_enter Try.func16, Try.ntmps16
    go_wp2
    go_ret
    exact ⟨ret_bool (by simp [rightB]; omega), L0.out⟩
  by_cases h2 : 64 < k
  · go_enter Try.func16, Try.ntmps16
    go_wp2
    go_ret
    exact ⟨ret_bool (by have := HK.out; simp [rightB]; omega), L0.out⟩
  go_enter Try.func16, Try.ntmps16
  go_wp2_with fail
  go_loopw [18] (fun i wr => ∃ q : Nat, q ≤ k ∧ i = .int .i64 q ∧ Hid (∀ j (hj : j < D.length), j < q → 0 ≤ D[j].1 ∧ D[j].1 < n) ∧ Hid (Box wr w.heap.size 25 [.slice ab n cb, .slice aD k cD]) ∧ Hid (Later w wr)) (fun i _ => k - (intOf i).toNat)
  case atStart => exact ⟨0, Nat.zero_le _, rfl, fun _ _ h => by omega, BX0, L0⟩
  case round =>
    clear BX0 L0
    obtain ⟨q, hq, rfl, hall, hbx, hl⟩ := hrel
    by_cases hlt : q < k
    · obtain ⟨bD, oD, e, hr⟩ := (HD.out.later hl.out).lies? (by omega)
      subst e
      have hqD : q < D.length := by have := HK.out; omega
      have hz := HO.out D[q] (List.getElem_mem hqD)
      have hra := range_part hr (q * 65) 65
      rw [dv_part D q hqD HO.out] at hra
      have hin : Hid (∀ z, z = D[q].1 → (0 ≤ z ∧ z < n) → ∀ j (hj : j < D.length), j < q + 1 → 0 ≤ D[j].1 ∧ D[j].1 < n) := by
        intro z hz1 hz2 j hj hjq
        by_cases hjq' : j = q
        · subst hjq'; rw [← hz1]; exact hz2
        · exact hall.out j hj (by omega)
      have hno : Hid (∀ z, z = D[q].1 → ¬ (0 ≤ z ∧ z < n) → rightB n D = false) := by
        intro z hz1 hz2
        simp only [rightB, decide_eq_false_iff_not]
        intro ⟨_, _, h⟩
        exact hz2 (by rw [hz1]; exact h _ (List.getElem_mem hqD))
      have hra' := hide hra
      have hXl := hide hz.1
      generalize hzz : D[q].1 = z at *
      have HZ := hide hzz.symm
      have hzb := hz.2
      generalize D[q].2 = X at *
      clear hzz hz hall hr hra
      have hcl : Hid ((Value.int .i64 z :: bv X).length = 65) := by simp [Hid, bv_length, hXl.out]
      have hbox := hide (Box.new' wr 53 (#[.int .i64 0] ++ Array.replicate 64 (.int .u8 0)) _ rfl wr.heap.size rfl)
      have hbl1 := hide (hl.out.alloc (.cells (#[.int .i64 0] ++ Array.replicate 64 (.int .u8 0)) 53))
      have hszr := hl.out.size
      go_wp2_with (first
        | refine wpList_load_mid rfl 53 (.tmp 20) rfl bD (oD + q * 65) rfl (Value.int .i64 z :: bv X) _ hra'.out Try.underlying53 rfl (by rw [Try.info_dirty, hcl.out]) ?_
        | refine wpList_store_new rfl 53 (.tmp 4) (.tmp 21) rfl wr.heap.size (Value.int .i64 z :: bv X) rfl rfl _ hbox.out (by rw [hcl.out]; rfl) (by rw [hcl.out, Try.info_dirty]) (fun u hu => by rcases List.mem_cons.1 hu with rfl | h; rfl; exact bv_one X u h) w hbl1.out hszr ?_)
      intro w5 hb5 hl5 hk5 hs5
      have hkeep : ∀ j, j < wr.heap.size → w5.heap[j]? = wr.heap[j]? := fun j hj => by rw [hk5 j (by omega)]; exact Below.heap_alloc wr _ j hj
      have X5 : Hid (Box w5 w.heap.size 25 [.slice ab n cb, .slice (some ⟨bD, oD, none⟩) k cD]) := hbx.out.kept (hkeep _ hbx.out.lt)
      have L5 := hide hl5
      have e0 := hb5.cell 0
      have d0 := X5.out.cell 0
      have d1 := X5.out.cell 1
      clear hkeep hk5 hs5 hb5 hl5 hbx hl hbox hbl1 hszr hra'
      generalize wr.heap.size = G at *
      go_wp2_with fail
      refine (chas_c z w5 (HM.out.later L5.out)).mono ?_
      rintro e w6 ⟨rfl, hl6⟩
      have X6 := hide (X5.out.later hl6)
      have L6 := hide (L5.out.trans hl6)
      clear hl6 X5 L5 e0 d0 d1
      by_cases c : 0 ≤ z ∧ z < n
      · have hbc : decide (0 ≤ z ∧ z < (n : Int)) = true := by simpa using c
        rw [hbc]
        go_wp2
        go_roundw
        case rel => exact ⟨q + 1, by omega, by go_num, hin.out z rfl c, X6, L6⟩
        case measure => simp [intOf]; omega
      · have hbc : decide (0 ≤ z ∧ z < (n : Int)) = false := by simpa using c
        rw [hbc]
        go_wp2
        go_ret
        exact ⟨ret_bool (hno.out z rfl c).symm, L6.out⟩
    · have hd1 := hbx.out.cell 1
      go_wp2
      go_ret
      refine ⟨ret_bool ?_, hl.out⟩
      have hk := HK.out
      symm
      simp only [rightB, decide_eq_true_eq]
      refine ⟨by omega, by omega, fun d hd => ?_⟩
      obtain ⟨j, hj, rfl⟩ := List.mem_iff_getElem.1 hd
      exact hall.out j hj (by omega)

theorem ccheck_c {v : Value} {n : Nat} {F : List UInt8} {D : List Drt} (at_ : Int) (w : World) (h : Med w v n F D) :
    Calls Try.prog 27 #[v, .int .i64 at_] w fun e w' => e = .returned (.int .i64 (showE n D at_)) ∧ Later w w' := by
  have HM := hide h
  obtain ⟨vb, vd, rfl, hb, hd, hok⟩ := h
  obtain ⟨ab, cb, rfl⟩ := hb.shape
  obtain ⟨k, hk⟩ : ∃ k, k = D.length := ⟨_, rfl⟩
  rw [← hk] at hd
  obtain ⟨aD, cD, rfl⟩ := hd.shape
  clear hb hd hk hok
  go_enter Try.func27, Try.ntmps27
  go_wp2_with fail
  refine (cright_c _ (HM.out.later ((Later.refl w).alloc _))).mono ?_
  rintro e w2 ⟨rfl, hl2⟩
  have L2 : Hid (Later w w2) := Later.trans ((Later.refl w).alloc _) hl2
  have BX : Hid (Box w2 w.heap.size 25 [.slice ab n cb, .slice aD k cD]) := Box.later (Box.new w 25 #[.slice ab n cb, .slice aD k cD]) hl2
  clear hl2
  have d0 := BX.out.cell 0
  have d1 := BX.out.cell 1
  by_cases hR : rightB n D = true
  case neg =>
    have hR' : rightB n D = false := by simpa using hR
    rw [hR']
    go_wp2
    go_ret
    exact ⟨by simp [showE, hR'], L2.out⟩
  rw [hR]
  have HR := hide hR
  clear hR
  go_wp2_with fail
  refine (chas_c at_ w2 (HM.out.later L2.out)).mono ?_
  rintro e w3 ⟨rfl, hl3⟩
  have L3 := hide (L2.out.trans hl3)
  clear hl3 d0 d1
  by_cases c : 0 ≤ at_ ∧ at_ < n
  · have hbc : decide (0 ≤ at_ ∧ at_ < (n : Int)) = true := by simpa using c
    rw [hbc]
    have HC := hide c
    clear c
    go_wp2
    go_ret
    exact ⟨by simp only [showE, HR.out, if_true, if_pos HC.out]; rfl, L3.out⟩
  · have hbc : decide (0 ≤ at_ ∧ at_ < (n : Int)) = false := by simpa using c
    rw [hbc]
    have HC := hide c
    clear c
    go_wp2
    go_ret
    exact ⟨by simp only [showE, HR.out, if_true, if_neg HC.out]; rfl, L3.out⟩

theorem cend_c (n : Nat) (at_ m : Int) (w : World) (hn : n ≤ 64) (ha : 0 ≤ at_) (ha' : at_ ≤ n) (hm : 0 ≤ m) (hm' : m ≤ 9223372036854775807) :
    Calls Try.prog 33 #[.int .i64 n, .int .i64 at_, .int .i64 m] w fun e w' => e = .returned (.int .i64 (flushTo n at_ m)) ∧ Later w w' := by
  have hw1 : IntKind.i64.wrap ((n : Int) - at_) = (n : Int) - at_ := by rw [IntKind.wrap_i64]; omega
  by_cases hm0 : m = 0
  · have hmb : (m == 0) = true := by simpa using hm0
    have hT : flushTo n at_ m = n := by unfold flushTo; rw [if_pos (.inl hm0)]
    rw [hT]
    clear hT hm0
    go_enter Try.func33, Try.ntmps33
    go_wp2
    go_ret
    exact ⟨rfl, Later.refl w⟩
  · have hmb : (m == 0) = false := by rw [beq_eq_false_iff_ne]; exact hm0
    by_cases hmn : (n : Int) - at_ < m
    · have hT : flushTo n at_ m = n := by unfold flushTo; rw [if_pos (.inr hmn)]
      rw [hT]
      clear hT hm0
      go_enter Try.func33, Try.ntmps33
      go_wp2
      go_ret
      exact ⟨rfl, Later.refl w⟩
    · have hT : flushTo n at_ m = at_ + m := by unfold flushTo; rw [if_neg (by omega)]
      have hw3 : IntKind.i64.wrap (at_ + m) = at_ + m := by rw [IntKind.wrap_i64]; omega
      rw [hT]
      clear hT hm0
      go_enter Try.func33, Try.ntmps33
      go_wp2
      go_ret
      exact ⟨rfl, Later.refl w⟩

set_option maxHeartbeats 1000000 in
theorem clasting_c {v : Value} {n : Nat} {F : List UInt8} {D : List Drt} (w : World) (h : Med w v n F D) (hn : n ≤ 64) :
    Calls Try.prog 34 #[v] w fun e w' => ∃ vb, e = .returned (.agg #[vb, .slice none 0 0]) ∧ Later w w' ∧ w'.ownsRow w.heap.size 27 64 vb n (bv F) := by
  obtain ⟨vb, vd, rfl, hb, hd, hok⟩ := h
  obtain ⟨ab, cb, rfl⟩ := hb.shape
  obtain ⟨k, hk⟩ : ∃ k, k = D.length := ⟨_, rfl⟩
  rw [← hk] at hd
  obtain ⟨aD, cD, rfl⟩ := hd.shape
  have HB := hide hb
  have HF : Hid (F.length = n * 64) := by have := hb.1; rwa [bv_length] at this
  clear hb hd hk hok
  have L0 : Hid (Later w ((w.alloc (.cells #[.slice ab n cb, .slice aD k cD] 25)).alloc (.cells #[.slice none 0 0, .slice none 0 0] 25))) := ((Later.refl w).alloc _).alloc _
  have X0 : Hid (Box ((w.alloc (.cells #[.slice ab n cb, .slice aD k cD] 25)).alloc (.cells #[.slice none 0 0, .slice none 0 0] 25)) w.heap.size 25 [.slice ab n cb, .slice aD k cD]) := (Box.new w 25 #[.slice ab n cb, .slice aD k cD]).alloc _
  have R0 : Hid (Box ((w.alloc (.cells #[.slice ab n cb, .slice aD k cD] 25)).alloc (.cells #[.slice none 0 0, .slice none 0 0] 25)) (w.heap.size + 1) 25 [.slice none 0 0, .slice none 0 0]) := Box.new' _ _ _ _ rfl _ (by simp)
  have hG0 : ((w.alloc (.cells #[.slice ab n cb, .slice aD k cD] 25)).alloc (.cells #[.slice none 0 0, .slice none 0 0] 25)).heap.size = w.heap.size + 2 := by simp
  go_enter Try.func34, Try.ntmps34
  go_wp2_with (at_make; refine wpList_make_of Try.elem_z64 rfl _ _ 22 rfl Try.underlying22 _ _ n rfl rfl rfl rfl ?c1 ?c2 _ (made64 n) ?_)
  case c1 => omega
  case c2 => unfold maxLen; omega
  generalize ((w.alloc (.cells #[.slice ab n cb, .slice aD k cD] 25)).alloc (.cells #[.slice none 0 0, .slice none 0 0] 25)) = w1 at *
  rintro w2 ho2 hl2
  have L2 : Hid (Later w w2) := L0.out.trans hl2
  have X2 := hide (X0.out.later hl2)
  have R2 := hide (R0.out.later hl2)
  have H2 := hide (HB.out.later L2.out)
  have O2 := hide ho2
  have hbel : Hid (Below (w.heap.size + 2) w1 w2) := by unfold Hid; rw [← hG0]; exact hl2
  have d0 := X2.out.cell 0
  have d1 := X2.out.cell 1
  clear ho2 hl2 X0 R0
  go_wp2_with (refine wpList_copy_rw Try.underlying22 Try.info_block rfl (.tmp 8) (.tmp 10) rfl _ n n rfl _ n (bv F) rfl H2.out (bv_one _) (Nat.le_refl _) (w.heap.size + 2) (w.heap.size + 2) n n 0 _ O2.out ?g1 (.inr rfl) w1 hbel.out (Nat.le_refl _) ?_)
  case g1 => omega
  intro w3 ho3 hb3 hk3 hs3
  rw [laid_bv, over_full _ _ (by simp; have := HF.out; omega)] at ho3
  have O3 : Hid (w3.ownsRow w.heap.size 27 64 (.slice (some ⟨w.heap.size + 2, 0, none⟩) n n) n (bv F)) := owns_rebase ho3 (by omega)
  have L3 : Hid (Later w w3) := L0.out.trans (show Later w1 w3 by unfold Later; rw [hG0]; exact hb3)
  have R3 := hide (R2.out.kept (hk3 (w.heap.size + 1) (by omega)))
  clear ho3 hb3 hk3 hs3 d0 d1 X2 R2 H2 O2 L2 hbel
  have r0 := R3.out.cell 0
  have r1 := R3.out.cell 1
  have f0 := R3.out.frozen 0
  have f1 := R3.out.frozen 1
  have hw1 : Hid (Box ((w3.setCell ⟨w.heap.size + 1, 0, none⟩ (.slice (some ⟨w.heap.size + 2, 0, none⟩) n n)).setCell ⟨w.heap.size + 1, 1, none⟩ (.slice none 0 0)) (w.heap.size + 1) 25 [.slice (some ⟨w.heap.size + 2, 0, none⟩) n n, .slice none 0 0]) := (R3.out.set 0 _).set 1 _
  have hne : ∀ g, g ≠ w.heap.size + 1 → ((w3.setCell ⟨w.heap.size + 1, 0, none⟩ (.slice (some ⟨w.heap.size + 2, 0, none⟩) n n)).setCell ⟨w.heap.size + 1, 1, none⟩ (.slice none 0 0)).heap[g]? = w3.heap[g]? := fun g hg => by
    rw [heap_setCell_other _ _ _ _ (by simpa using hg), heap_setCell_other _ _ _ _ (by simpa using hg)]
  have N1 := hide (owns_kept O3.out fun g hg => hne g (fun e => box_ne_own R3.out O3.out (by decide) g hg e.symm))
  have N6 : Hid (Later w ((w3.setCell ⟨w.heap.size + 1, 0, none⟩ (.slice (some ⟨w.heap.size + 2, 0, none⟩) n n)).setCell ⟨w.heap.size + 1, 1, none⟩ (.slice none 0 0))) := (L3.out.setCell (by simp) _).setCell (by simp) _
  clear hne R3 O3 L3
  go_wp2
  exact bodyPost_ret (results_cell1 rfl _ _ _ (w.heap.size + 1) 0 rfl (.agg #[.slice (some ⟨w.heap.size + 2, 0, none⟩) n n, .slice none 0 0]) (run_loadVar_mid _ _ _ _ [.slice (some ⟨w.heap.size + 2, 0, none⟩) n n, .slice none 0 0] _ hw1.out.range Try.underlying25 rfl (by kernel_rfl))) rfl ⟨_, rfl, N6.out, N1.out⟩
end Go.Proofs.Ytphgjofiploahaa
