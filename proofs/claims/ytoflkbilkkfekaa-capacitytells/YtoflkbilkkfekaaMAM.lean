import Derived.Test.YtoflkbilkkfekaaMAL
import Derived.Test.YtoflkbilkkfekaaMAH
namespace Go.Proofs.Ytoflkbilkkfekaa
open Go.ChangeShapes Go.WideShapes Go.ChangeAt Go.RowKit
set_option linter.unusedVariables false
set_option linter.unusedSimpArgs false

/-! The landed capacity. -/
set_option maxHeartbeats 1000000 in
theorem told9_c (b : Int) (m : Nat) (hm : 1 ≤ m ∧ m ≤ 8) (w : World) : Calls Try.prog 14 #[.int .i64 b, .int .i64 m] w fun e w' => ∃ v, e = .returned v ∧ Later w w' ∧ w'.ownsRow w.heap.size 5 1 v (m + 4) (bv (putBeI (lastN b) m ++ sz64)) := by
  have hx := lastN_eq b
  have hx2 := lastN_le b
  generalize lastN b = x at *
  have HX2 := hide hx2
  have HM := hide hm
  have HLn : Hid ((putBeI x (m : Int)).length = m) := by
    rw [Hid, putBeI, if_pos (by simp [isW]; omega), putBe_length]; rfl
  clear hx2 hm
  go_enter Try.func14, Try.ntmps14
  go_wp2_with fail
  refine (putBig_c x m _ _ (Nat.le_refl _) HX2.out).mono ?_
  rintro e w2 ⟨v2, rfl, hl, ho⟩
  have L2 : Hid (Later w w2) := hl
  rw [HLn.out] at ho
  have O2 := hide ho
  clear ho hl
  go_wp2_with fail
  refine (putBig_c 64 4 _ _ (Nat.le_refl _) (by decide)).mono ?_
  rintro e w3 ⟨v3, rfl, hl, ho⟩
  replace O2 := hide (owns_later O2.out hl)
  have L3 := hide (L2.out.trans hl)
  rw [show putBeI 64 4 = sz64 by decide] at ho
  have V3 := hide (Bs.of_owns ho).1
  clear ho hl L2
  go_wp2_with (at_builtin; refine wpList_append_bs rfl (.tmp 11) (.tmp 12) rfl w.heap.size v2 m _ rfl O2.out v3 sz64 rfl V3.out (by have := HM.out; simp [sz64]; omega) L3.out.size w L3.out ?_)
  intro v4 w4 ho hb hg
  have O4 := hide ho
  have L4 : Hid (Later w w4) := hb
  clear ho hb hg
  go_wp2
  go_ret
  exact ⟨_, rfl, L4.out, O4.out⟩
theorem ten9_c (b : Int) (w : World) : Calls Try.prog 7 #[.int .i64 b] w fun e w' => ∃ v, e = .returned v ∧ Later w w' ∧ Bs w' v (tenL b) := by
  go_enter Try.func7, Try.ntmps7
  go_wp2_with fail
  refine (told9_c b 4 (by decide) _).mono ?_
  rintro e w2 ⟨v2, rfl, hl, ho⟩
  have V2 : Hid (Bs w2 v2 (tenL b)) := (Bs.of_owns ho).1
  have L2 := hide hl
  clear hl ho
  go_wp2
  go_ret
  exact ⟨_, rfl, L2.out, V2.out⟩
set_option maxHeartbeats 1000000 in
theorem six9_c (b n : Int) (hn : In64 n) (w : World) : Calls Try.prog 9 #[.int .i64 b, .int .i64 n] w fun e w' => ∃ v, e = .returned v ∧ Later w w' ∧ Bs w' v (cutL (sixL b) n) := by
  have HN := hide hn
  clear hn
  go_enter Try.func9, Try.ntmps9
  go_wp2_with fail
  refine (told9_c b 8 (by decide) _).mono ?_
  rintro e w2 ⟨v2, rfl, hl, ho⟩
  obtain ⟨g2, c2, rfl⟩ := owns_slice ho (by decide)
  have O2 := hide ho
  have L2 := hide hl
  clear hl ho
  go_wp2_with (at_builtin; refine wpList_append_zk 20 (by decide) (by decide) rfl (.tmp 6) rfl w.heap.size g2 12 c2 _ rfl O2.out (by decide) L2.out.size w L2.out ?_)
  intro v3 w3 ho hb
  have V3 : Hid (Bs w3 v3 (sixL b)) := by have h := (Bs.of_owns ho).1; first | exact h | (rw [List.append_assoc] at h; exact h)
  have L3 : Hid (Later w w3) := hb
  clear ho hb
  go_wp2_with fail
  refine (cut7_c _ _ n _ V3.out (by rw [sixL_len]; decide) HN.out).mono ?_
  rintro e w6 ⟨v6, rfl, hl, hv⟩
  have V6 := hide hv
  have L6 := hide (L3.out.trans hl)
  clear hl hv
  go_wp2
  go_ret
  exact ⟨_, rfl, L6.out, V6.out⟩
theorem run_make8 (w : World) : (Instr.makeSlice 23 (.int .i64 8) (.int .i64 8)).run Try.prog w = .ok (.slice (some ⟨w.heap.size, 0, none⟩) 8 8) (w.alloc (.cells #[.int .u8 0, .int .u8 0, .int .u8 0, .int .u8 0, .int .u8 0, .int .u8 0, .int .u8 0, .int .u8 0] 5)) := by
  have := run_make_row' (P := Try.prog) 23 5 (.int .u8 0) 1 Try.underlying23 Try.info_u8 rfl .i64 .i64 8 (by decide) (by decide) w
  rw [show madeCells #[Value.int .u8 0] 8 = #[.int .u8 0, .int .u8 0, .int .u8 0, .int .u8 0, .int .u8 0, .int .u8 0, .int .u8 0, .int .u8 0] from by apply Array.toList_inj.1; rw [show (#[Value.int .u8 0] : Array Value) = Array.replicate 1 (.int .u8 0) from rfl, madeCells_rep _ 1 8 (by decide)]; rfl] at this
  exact this
set_option maxHeartbeats 1000000 in
theorem entry9_c (i : Nat) (w : World) : Calls Try.prog 19 #[.int .i64 i] w fun e w' => ∃ v, e = .returned v ∧ Later w w' ∧ Bs w' v (entL i) := by
  have hmk := run_make8
  go_enter Try.func19, Try.ntmps19
  go_wp2
  go_ret
  refine ⟨_, rfl, (Later.refl w).alloc _, ?_⟩
  refine bs_of_box (Box.new' _ _ _ _ rfl _ (by simp)) ?_ rfl (by decide)
  simp [bv, entL]
set_option maxHeartbeats 2000000 in
theorem luns9_c (k n : Int) (hn : In64 n) (w : World) : Calls Try.prog 11 #[.int .i64 k, .int .i64 n] w fun e w' => ∃ v, e = .returned v ∧ Later w w' ∧ Bs w' v (cutL (lunsL (cntN k)) n) := by
  have HN := hide hn
  clear hn
  by_cases h4 : 4 < k
  · have hb0 : (if k < 0 then 0 else k) = k := by rw [if_neg (by omega)]
    have hb4 : (if k < 4 then k else 4) = 4 := by rw [if_neg (by omega)]
    rw [show cntN k = 4 by unfold cntN; rw [if_pos h4]]
    have h4' : ¬ k ≤ 4 := by omega
    go_enter Try.func11, Try.ntmps11
    go_wp2_with fail
    refine (putBig_c 32 4 _ _ (Nat.le_refl _) (by decide)).mono ?_
    rintro e w2 ⟨v2, rfl, hl, ho⟩
    rw [show putBeI 32 4 = [0, 0, 0, 32] by decide] at ho
    obtain ⟨g2, c2, rfl⟩ := owns_slice ho (by decide)
    have O2 := hide ho
    have L2 : Hid (Later w w2) := hl
    clear hl ho
    go_wp2_with (at_builtin; refine wpList_append_zk 4 (by decide) (by decide) rfl (.tmp 15) rfl w.heap.size g2 4 c2 _ rfl O2.out (by decide) L2.out.size w L2.out ?_)
    intro v3 w3 ho hb
    have HO : Hid (w3.ownsRow w.heap.size 5 1 v3 (8 + 8 * 0) (bv (headL 4 ++ entsL 0))) := ho
    have HL : Hid (Later w w3) := hb
    clear ho hb O2 L2
    go_wp2_with fail
    go_loopw [6, 18] (fun v i wr => ∃ q : Nat, q ≤ 4 ∧ i = .int .i64 q ∧ Hid (wr.ownsRow w.heap.size 5 1 v (8 + 8 * q) (bv (headL 4 ++ entsL q))) ∧ Hid (Later w wr)) (fun _ i _ => 4 - (intOf i).toNat)
    case atStart => exact ⟨0, by omega, rfl, HO, HL⟩
    case round =>
      clear HO HL
      obtain ⟨q, hq, rfl, HO, HL⟩ := hrel
      by_cases hlt : q < 4
      · go_wp2_with fail
        refine (entry9_c q _).mono ?_
        rintro e w4 ⟨v4, rfl, hl, hv⟩
        replace HO := hide (owns_later HO.out hl)
        replace HL := hide (HL.out.trans hl)
        have V4 := hide hv
        clear hl hv
        go_wp2_with (at_builtin; refine wpList_append_bs rfl (.tmp 21) (.tmp 23) rfl w.heap.size _ (8 + 8 * q) _ rfl HO.out _ (entL q) rfl V4.out (by simp [entL]; omega) HL.out.size w HL.out ?_)
        intro v' w' ho' hb' hg'
        have R : Hid (w'.ownsRow w.heap.size 5 1 v' (8 + 8 * (q + 1)) (bv (headL 4 ++ entsL (q + 1)))) := by rw [entsL]; first | exact ho' | (rw [← List.append_assoc]; exact ho')
        have RL : Hid (Later w w') := hb'
        clear ho' hb' hg' HO HL V4
        go_wp2
        go_roundw
        case rel => exact ⟨q + 1, by omega, by go_num, R, RL⟩
        case measure => simp [intOf]; omega
      · have hqn : Hid (q = 4) := by unfold Hid; omega
        have VB : Hid (Bs wr u6 (lunsL 4)) := by
          have := (Bs.of_owns HO.out).1
          rw [hqn.out] at this
          exact this
        clear HO
        go_wp2_with fail
        refine (cut7_c _ _ n _ VB.out (by rw [lunsL_len]; omega) HN.out).mono ?_
        rintro e w6 ⟨v6, rfl, hl, hv⟩
        have V6 := hide hv
        have L6 := hide (HL.out.trans hl)
        clear hl hv
        go_wp2
        go_ret
        exact ⟨_, rfl, L6.out, V6.out⟩
  by_cases h0 : k < 0
  · have hb0 : (if k < 0 then 0 else k) = 0 := by rw [if_pos h0]
    rw [show cntN k = 0 by unfold cntN; rw [if_neg h4, if_pos h0]]
    have h0' : k ≤ 4 := by omega
    go_enter Try.func11, Try.ntmps11
    go_wp2_with fail
    refine (putBig_c 0 4 _ _ (Nat.le_refl _) (by decide)).mono ?_
    rintro e w2 ⟨v2, rfl, hl, ho⟩
    rw [show putBeI 0 4 = [0, 0, 0, 0] by decide] at ho
    obtain ⟨g2, c2, rfl⟩ := owns_slice ho (by decide)
    have O2 := hide ho
    have L2 : Hid (Later w w2) := hl
    clear hl ho
    go_wp2_with (at_builtin; refine wpList_append_zk 4 (by decide) (by decide) rfl (.tmp 15) rfl w.heap.size g2 4 c2 _ rfl O2.out (by decide) L2.out.size w L2.out ?_)
    intro v3 w3 ho hb
    have HO : Hid (w3.ownsRow w.heap.size 5 1 v3 (8 + 8 * 0) (bv (headL 0 ++ entsL 0))) := ho
    have HL : Hid (Later w w3) := hb
    clear ho hb O2 L2
    go_wp2_with fail
    go_loopw [6, 18] (fun v i wr => ∃ q : Nat, q ≤ 0 ∧ i = .int .i64 q ∧ Hid (wr.ownsRow w.heap.size 5 1 v (8 + 8 * q) (bv (headL 0 ++ entsL q))) ∧ Hid (Later w wr)) (fun _ i _ => 0 - (intOf i).toNat)
    case atStart => exact ⟨0, by omega, rfl, HO, HL⟩
    case round =>
      clear HO HL
      obtain ⟨q, hq, rfl, HO, HL⟩ := hrel
      by_cases hlt : q < 0
      · omega
      · have hqn : Hid (q = 0) := by unfold Hid; omega
        have VB : Hid (Bs wr u6 (lunsL 0)) := by
          have := (Bs.of_owns HO.out).1
          rw [hqn.out] at this
          exact this
        clear HO
        go_wp2_with fail
        refine (cut7_c _ _ n _ VB.out (by rw [lunsL_len]; omega) HN.out).mono ?_
        rintro e w6 ⟨v6, rfl, hl, hv⟩
        have V6 := hide hv
        have L6 := hide (HL.out.trans hl)
        clear hl hv
        go_wp2
        go_ret
        exact ⟨_, rfl, L6.out, V6.out⟩
  obtain ⟨c, rfl⟩ : ∃ c : Nat, k = c := ⟨k.toNat, by omega⟩
  rw [show cntN (c : Int) = c by unfold cntN; rw [if_neg h4, if_neg h0]; omega]
  rcases (show c = 0 ∨ c = 1 ∨ c = 2 ∨ c = 3 ∨ c = 4 by omega) with rfl | rfl | rfl | rfl | rfl
  · go_enter Try.func11, Try.ntmps11
    go_wp2_with fail
    refine (putBig_c 0 4 _ _ (Nat.le_refl _) (by decide)).mono ?_
    rintro e w2 ⟨v2, rfl, hl, ho⟩
    rw [show putBeI 0 4 = [0, 0, 0, 0] by decide] at ho
    obtain ⟨g2, c2, rfl⟩ := owns_slice ho (by decide)
    have O2 := hide ho
    have L2 : Hid (Later w w2) := hl
    clear hl ho
    go_wp2_with (at_builtin; refine wpList_append_zk 4 (by decide) (by decide) rfl (.tmp 15) rfl w.heap.size g2 4 c2 _ rfl O2.out (by decide) L2.out.size w L2.out ?_)
    intro v3 w3 ho hb
    have HO : Hid (w3.ownsRow w.heap.size 5 1 v3 (8 + 8 * 0) (bv (headL 0 ++ entsL 0))) := ho
    have HL : Hid (Later w w3) := hb
    clear ho hb O2 L2
    go_wp2_with fail
    go_loopw [6, 18] (fun v i wr => ∃ q : Nat, q ≤ 0 ∧ i = .int .i64 q ∧ Hid (wr.ownsRow w.heap.size 5 1 v (8 + 8 * q) (bv (headL 0 ++ entsL q))) ∧ Hid (Later w wr)) (fun _ i _ => 0 - (intOf i).toNat)
    case atStart => exact ⟨0, by omega, rfl, HO, HL⟩
    case round =>
      clear HO HL
      obtain ⟨q, hq, rfl, HO, HL⟩ := hrel
      by_cases hlt : q < 0
      · omega
      · have hqn : Hid (q = 0) := by unfold Hid; omega
        have VB : Hid (Bs wr u6 (lunsL 0)) := by
          have := (Bs.of_owns HO.out).1
          rw [hqn.out] at this
          exact this
        clear HO
        go_wp2_with fail
        refine (cut7_c _ _ n _ VB.out (by rw [lunsL_len]; omega) HN.out).mono ?_
        rintro e w6 ⟨v6, rfl, hl, hv⟩
        have V6 := hide hv
        have L6 := hide (HL.out.trans hl)
        clear hl hv
        go_wp2
        go_ret
        exact ⟨_, rfl, L6.out, V6.out⟩
  · go_enter Try.func11, Try.ntmps11
    go_wp2_with fail
    refine (putBig_c 8 4 _ _ (Nat.le_refl _) (by decide)).mono ?_
    rintro e w2 ⟨v2, rfl, hl, ho⟩
    rw [show putBeI 8 4 = [0, 0, 0, 8] by decide] at ho
    obtain ⟨g2, c2, rfl⟩ := owns_slice ho (by decide)
    have O2 := hide ho
    have L2 : Hid (Later w w2) := hl
    clear hl ho
    go_wp2_with (at_builtin; refine wpList_append_zk 4 (by decide) (by decide) rfl (.tmp 15) rfl w.heap.size g2 4 c2 _ rfl O2.out (by decide) L2.out.size w L2.out ?_)
    intro v3 w3 ho hb
    have HO : Hid (w3.ownsRow w.heap.size 5 1 v3 (8 + 8 * 0) (bv (headL 1 ++ entsL 0))) := ho
    have HL : Hid (Later w w3) := hb
    clear ho hb O2 L2
    go_wp2_with fail
    go_loopw [6, 18] (fun v i wr => ∃ q : Nat, q ≤ 1 ∧ i = .int .i64 q ∧ Hid (wr.ownsRow w.heap.size 5 1 v (8 + 8 * q) (bv (headL 1 ++ entsL q))) ∧ Hid (Later w wr)) (fun _ i _ => 1 - (intOf i).toNat)
    case atStart => exact ⟨0, by omega, rfl, HO, HL⟩
    case round =>
      clear HO HL
      obtain ⟨q, hq, rfl, HO, HL⟩ := hrel
      by_cases hlt : q < 1
      · go_wp2_with fail
        refine (entry9_c q _).mono ?_
        rintro e w4 ⟨v4, rfl, hl, hv⟩
        replace HO := hide (owns_later HO.out hl)
        replace HL := hide (HL.out.trans hl)
        have V4 := hide hv
        clear hl hv
        go_wp2_with (at_builtin; refine wpList_append_bs rfl (.tmp 21) (.tmp 23) rfl w.heap.size _ (8 + 8 * q) _ rfl HO.out _ (entL q) rfl V4.out (by simp [entL]; omega) HL.out.size w HL.out ?_)
        intro v' w' ho' hb' hg'
        have R : Hid (w'.ownsRow w.heap.size 5 1 v' (8 + 8 * (q + 1)) (bv (headL 1 ++ entsL (q + 1)))) := by rw [entsL]; first | exact ho' | (rw [← List.append_assoc]; exact ho')
        have RL : Hid (Later w w') := hb'
        clear ho' hb' hg' HO HL V4
        go_wp2
        go_roundw
        case rel => exact ⟨q + 1, by omega, by go_num, R, RL⟩
        case measure => simp [intOf]; omega
      · have hqn : Hid (q = 1) := by unfold Hid; omega
        have VB : Hid (Bs wr u6 (lunsL 1)) := by
          have := (Bs.of_owns HO.out).1
          rw [hqn.out] at this
          exact this
        clear HO
        go_wp2_with fail
        refine (cut7_c _ _ n _ VB.out (by rw [lunsL_len]; omega) HN.out).mono ?_
        rintro e w6 ⟨v6, rfl, hl, hv⟩
        have V6 := hide hv
        have L6 := hide (HL.out.trans hl)
        clear hl hv
        go_wp2
        go_ret
        exact ⟨_, rfl, L6.out, V6.out⟩
  · go_enter Try.func11, Try.ntmps11
    go_wp2_with fail
    refine (putBig_c 16 4 _ _ (Nat.le_refl _) (by decide)).mono ?_
    rintro e w2 ⟨v2, rfl, hl, ho⟩
    rw [show putBeI 16 4 = [0, 0, 0, 16] by decide] at ho
    obtain ⟨g2, c2, rfl⟩ := owns_slice ho (by decide)
    have O2 := hide ho
    have L2 : Hid (Later w w2) := hl
    clear hl ho
    go_wp2_with (at_builtin; refine wpList_append_zk 4 (by decide) (by decide) rfl (.tmp 15) rfl w.heap.size g2 4 c2 _ rfl O2.out (by decide) L2.out.size w L2.out ?_)
    intro v3 w3 ho hb
    have HO : Hid (w3.ownsRow w.heap.size 5 1 v3 (8 + 8 * 0) (bv (headL 2 ++ entsL 0))) := ho
    have HL : Hid (Later w w3) := hb
    clear ho hb O2 L2
    go_wp2_with fail
    go_loopw [6, 18] (fun v i wr => ∃ q : Nat, q ≤ 2 ∧ i = .int .i64 q ∧ Hid (wr.ownsRow w.heap.size 5 1 v (8 + 8 * q) (bv (headL 2 ++ entsL q))) ∧ Hid (Later w wr)) (fun _ i _ => 2 - (intOf i).toNat)
    case atStart => exact ⟨0, by omega, rfl, HO, HL⟩
    case round =>
      clear HO HL
      obtain ⟨q, hq, rfl, HO, HL⟩ := hrel
      by_cases hlt : q < 2
      · go_wp2_with fail
        refine (entry9_c q _).mono ?_
        rintro e w4 ⟨v4, rfl, hl, hv⟩
        replace HO := hide (owns_later HO.out hl)
        replace HL := hide (HL.out.trans hl)
        have V4 := hide hv
        clear hl hv
        go_wp2_with (at_builtin; refine wpList_append_bs rfl (.tmp 21) (.tmp 23) rfl w.heap.size _ (8 + 8 * q) _ rfl HO.out _ (entL q) rfl V4.out (by simp [entL]; omega) HL.out.size w HL.out ?_)
        intro v' w' ho' hb' hg'
        have R : Hid (w'.ownsRow w.heap.size 5 1 v' (8 + 8 * (q + 1)) (bv (headL 2 ++ entsL (q + 1)))) := by rw [entsL]; first | exact ho' | (rw [← List.append_assoc]; exact ho')
        have RL : Hid (Later w w') := hb'
        clear ho' hb' hg' HO HL V4
        go_wp2
        go_roundw
        case rel => exact ⟨q + 1, by omega, by go_num, R, RL⟩
        case measure => simp [intOf]; omega
      · have hqn : Hid (q = 2) := by unfold Hid; omega
        have VB : Hid (Bs wr u6 (lunsL 2)) := by
          have := (Bs.of_owns HO.out).1
          rw [hqn.out] at this
          exact this
        clear HO
        go_wp2_with fail
        refine (cut7_c _ _ n _ VB.out (by rw [lunsL_len]; omega) HN.out).mono ?_
        rintro e w6 ⟨v6, rfl, hl, hv⟩
        have V6 := hide hv
        have L6 := hide (HL.out.trans hl)
        clear hl hv
        go_wp2
        go_ret
        exact ⟨_, rfl, L6.out, V6.out⟩
  · go_enter Try.func11, Try.ntmps11
    go_wp2_with fail
    refine (putBig_c 24 4 _ _ (Nat.le_refl _) (by decide)).mono ?_
    rintro e w2 ⟨v2, rfl, hl, ho⟩
    rw [show putBeI 24 4 = [0, 0, 0, 24] by decide] at ho
    obtain ⟨g2, c2, rfl⟩ := owns_slice ho (by decide)
    have O2 := hide ho
    have L2 : Hid (Later w w2) := hl
    clear hl ho
    go_wp2_with (at_builtin; refine wpList_append_zk 4 (by decide) (by decide) rfl (.tmp 15) rfl w.heap.size g2 4 c2 _ rfl O2.out (by decide) L2.out.size w L2.out ?_)
    intro v3 w3 ho hb
    have HO : Hid (w3.ownsRow w.heap.size 5 1 v3 (8 + 8 * 0) (bv (headL 3 ++ entsL 0))) := ho
    have HL : Hid (Later w w3) := hb
    clear ho hb O2 L2
    go_wp2_with fail
    go_loopw [6, 18] (fun v i wr => ∃ q : Nat, q ≤ 3 ∧ i = .int .i64 q ∧ Hid (wr.ownsRow w.heap.size 5 1 v (8 + 8 * q) (bv (headL 3 ++ entsL q))) ∧ Hid (Later w wr)) (fun _ i _ => 3 - (intOf i).toNat)
    case atStart => exact ⟨0, by omega, rfl, HO, HL⟩
    case round =>
      clear HO HL
      obtain ⟨q, hq, rfl, HO, HL⟩ := hrel
      by_cases hlt : q < 3
      · go_wp2_with fail
        refine (entry9_c q _).mono ?_
        rintro e w4 ⟨v4, rfl, hl, hv⟩
        replace HO := hide (owns_later HO.out hl)
        replace HL := hide (HL.out.trans hl)
        have V4 := hide hv
        clear hl hv
        go_wp2_with (at_builtin; refine wpList_append_bs rfl (.tmp 21) (.tmp 23) rfl w.heap.size _ (8 + 8 * q) _ rfl HO.out _ (entL q) rfl V4.out (by simp [entL]; omega) HL.out.size w HL.out ?_)
        intro v' w' ho' hb' hg'
        have R : Hid (w'.ownsRow w.heap.size 5 1 v' (8 + 8 * (q + 1)) (bv (headL 3 ++ entsL (q + 1)))) := by rw [entsL]; first | exact ho' | (rw [← List.append_assoc]; exact ho')
        have RL : Hid (Later w w') := hb'
        clear ho' hb' hg' HO HL V4
        go_wp2
        go_roundw
        case rel => exact ⟨q + 1, by omega, by go_num, R, RL⟩
        case measure => simp [intOf]; omega
      · have hqn : Hid (q = 3) := by unfold Hid; omega
        have VB : Hid (Bs wr u6 (lunsL 3)) := by
          have := (Bs.of_owns HO.out).1
          rw [hqn.out] at this
          exact this
        clear HO
        go_wp2_with fail
        refine (cut7_c _ _ n _ VB.out (by rw [lunsL_len]; omega) HN.out).mono ?_
        rintro e w6 ⟨v6, rfl, hl, hv⟩
        have V6 := hide hv
        have L6 := hide (HL.out.trans hl)
        clear hl hv
        go_wp2
        go_ret
        exact ⟨_, rfl, L6.out, V6.out⟩
  · go_enter Try.func11, Try.ntmps11
    go_wp2_with fail
    refine (putBig_c 32 4 _ _ (Nat.le_refl _) (by decide)).mono ?_
    rintro e w2 ⟨v2, rfl, hl, ho⟩
    rw [show putBeI 32 4 = [0, 0, 0, 32] by decide] at ho
    obtain ⟨g2, c2, rfl⟩ := owns_slice ho (by decide)
    have O2 := hide ho
    have L2 : Hid (Later w w2) := hl
    clear hl ho
    go_wp2_with (at_builtin; refine wpList_append_zk 4 (by decide) (by decide) rfl (.tmp 15) rfl w.heap.size g2 4 c2 _ rfl O2.out (by decide) L2.out.size w L2.out ?_)
    intro v3 w3 ho hb
    have HO : Hid (w3.ownsRow w.heap.size 5 1 v3 (8 + 8 * 0) (bv (headL 4 ++ entsL 0))) := ho
    have HL : Hid (Later w w3) := hb
    clear ho hb O2 L2
    go_wp2_with fail
    go_loopw [6, 18] (fun v i wr => ∃ q : Nat, q ≤ 4 ∧ i = .int .i64 q ∧ Hid (wr.ownsRow w.heap.size 5 1 v (8 + 8 * q) (bv (headL 4 ++ entsL q))) ∧ Hid (Later w wr)) (fun _ i _ => 4 - (intOf i).toNat)
    case atStart => exact ⟨0, by omega, rfl, HO, HL⟩
    case round =>
      clear HO HL
      obtain ⟨q, hq, rfl, HO, HL⟩ := hrel
      by_cases hlt : q < 4
      · go_wp2_with fail
        refine (entry9_c q _).mono ?_
        rintro e w4 ⟨v4, rfl, hl, hv⟩
        replace HO := hide (owns_later HO.out hl)
        replace HL := hide (HL.out.trans hl)
        have V4 := hide hv
        clear hl hv
        go_wp2_with (at_builtin; refine wpList_append_bs rfl (.tmp 21) (.tmp 23) rfl w.heap.size _ (8 + 8 * q) _ rfl HO.out _ (entL q) rfl V4.out (by simp [entL]; omega) HL.out.size w HL.out ?_)
        intro v' w' ho' hb' hg'
        have R : Hid (w'.ownsRow w.heap.size 5 1 v' (8 + 8 * (q + 1)) (bv (headL 4 ++ entsL (q + 1)))) := by rw [entsL]; first | exact ho' | (rw [← List.append_assoc]; exact ho')
        have RL : Hid (Later w w') := hb'
        clear ho' hb' hg' HO HL V4
        go_wp2
        go_roundw
        case rel => exact ⟨q + 1, by omega, by go_num, R, RL⟩
        case measure => simp [intOf]; omega
      · have hqn : Hid (q = 4) := by unfold Hid; omega
        have VB : Hid (Bs wr u6 (lunsL 4)) := by
          have := (Bs.of_owns HO.out).1
          rw [hqn.out] at this
          exact this
        clear HO
        go_wp2_with fail
        refine (cut7_c _ _ n _ VB.out (by rw [lunsL_len]; omega) HN.out).mono ?_
        rintro e w6 ⟨v6, rfl, hl, hv⟩
        have V6 := hide hv
        have L6 := hide (HL.out.trans hl)
        clear hl hv
        go_wp2
        go_ret
        exact ⟨_, rfl, L6.out, V6.out⟩
end Go.Proofs.Ytoflkbilkkfekaa
