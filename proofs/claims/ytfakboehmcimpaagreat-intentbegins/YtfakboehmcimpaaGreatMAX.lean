import Derived.Test.YtfakboehmcimpaaGreatMAS
import Derived.Test.YtfakboehmcimpaaGreatMAL
import Derived.Test.YtfakboehmcimpaaGreatMAQ
import Derived.Test.YtfakboehmcimpaaGreatMAM
import Derived.Test.YtfakboehmcimpaaGreatMAW
import Derived.Test.YtfakboehmcimpaaGreatMAV
namespace Go.Proofs.YtfakboehmcimpaaGreat
open Go.ChangeShapes Go.WideShapes Go.ChangeAt Go.RowKit
set_option linter.unusedVariables false
set_option maxRecDepth 4000
set_option linter.unusedSimpArgs false
/-! The landed capacity. -/
set_option maxHeartbeats 1000000 in
theorem told9_c (b : Int) (m : Nat) (hm : 1 ≤ m ∧ m ≤ 8) (w : World) : Calls Tryz.prog 114 #[.int .i64 b, .int .i64 m] w fun e w' => ∃ v, e = .returned v ∧ Later w w' ∧ w'.ownsRow w.heap.size 5 1 v (m + 4) (bv (putBeI (lastN b) m ++ sz64)) := by
  have hx := lastN_eq b
  have hx2 := lastN_le b
  generalize lastN b = x at *
  have HX2 := hide hx2
  have HM := hide hm
  have HLn : Hid ((putBeI x (m : Int)).length = m) := by
    rw [Hid, putBeI, if_pos (by simp [isW]; omega), putBe_length]; rfl
  clear hx2 hm
  go_enter Tryz.func114, Tryz.ntmps114
  go_wp2_with fail
  refine (putBig_c x m _ _ (Nat.le_refl _) HX2.out).mono ?_
  rintro e w2 ⟨v2, rfl, hl, ho⟩
  have L2 : Hid (Later w w2) := hl
  rw [HLn.out] at ho
  have O2 := hide ho
  clear ho hl
  go_wp2_with fail
  refine (putBig_c 64 4 _ _ (Nat.le_refl _) (by decide)).mono ?_
  rintro e w3 ⟨v3, rfl, hl, ho⟩
  replace O2 := hide (owns_later O2.out hl)
  have L3 := hide (L2.out.trans hl)
  rw [show putBeI 64 4 = sz64 by decide] at ho
  have V3 := hide (Bs.of_owns ho).1
  clear ho hl L2
  go_wp2_with (at_builtin; refine wpList_append_bs rfl (.tmp 11) (.tmp 12) rfl w.heap.size v2 m _ rfl O2.out v3 sz64 rfl V3.out (by have := HM.out; simp [sz64]; omega) L3.out.size w L3.out ?_)
  intro v4 w4 ho hb hg
  have O4 := hide ho
  have L4 : Hid (Later w w4) := hb
  clear ho hb hg
  go_wp2
  go_ret
  exact ⟨_, rfl, L4.out, O4.out⟩
theorem ten9_c (b : Int) (w : World) : Calls Tryz.prog 75 #[.int .i64 b] w fun e w' => ∃ v, e = .returned v ∧ Later w w' ∧ Bs w' v (tenL b) := by
  go_enter Tryz.func75, Tryz.ntmps75
  go_wp2_with fail
  refine (told9_c b 4 (by decide) _).mono ?_
  rintro e w2 ⟨v2, rfl, hl, ho⟩
  have V2 : Hid (Bs w2 v2 (tenL b)) := (Bs.of_owns ho).1
  have L2 := hide hl
  clear hl ho
  go_wp2
  go_ret
  exact ⟨_, rfl, L2.out, V2.out⟩
set_option maxHeartbeats 1000000 in
theorem six9_c (b n : Int) (hn : In64 n) (w : World) : Calls Tryz.prog 76 #[.int .i64 b, .int .i64 n] w fun e w' => ∃ v, e = .returned v ∧ Later w w' ∧ Bs w' v (cutL (sixL b) n) := by
  have HN := hide hn
  clear hn
  go_enter Tryz.func76, Tryz.ntmps76
  go_wp2_with fail
  refine (told9_c b 8 (by decide) _).mono ?_
  rintro e w2 ⟨v2, rfl, hl, ho⟩
  obtain ⟨g2, c2, rfl⟩ := owns_slice ho (by decide)
  have O2 := hide ho
  have L2 := hide hl
  clear hl ho
  go_wp2_with (at_builtin; refine wpList_append_zk 20 (by decide) (by decide) rfl (.tmp 6) rfl w.heap.size g2 12 c2 _ rfl O2.out (by decide) L2.out.size w L2.out ?_)
  intro v3 w3 ho hb
  have V3 : Hid (Bs w3 v3 (sixL b)) := by have h := (Bs.of_owns ho).1; first | exact h | (rw [List.append_assoc] at h; exact h)
  have L3 : Hid (Later w w3) := hb
  clear ho hb
  go_wp2_with fail
  refine (cut7_c _ _ n _ V3.out (by rw [sixL_len]; decide) HN.out).mono ?_
  rintro e w6 ⟨v6, rfl, hl, hv⟩
  have V6 := hide hv
  have L6 := hide (L3.out.trans hl)
  clear hl hv
  go_wp2
  go_ret
  exact ⟨_, rfl, L6.out, V6.out⟩
theorem run_make8 (w : World) : (Instr.makeSlice 40 (.int .i64 8) (.int .i64 8)).run Tryz.prog w = .ok (.slice (some ⟨w.heap.size, 0, none⟩) 8 8) (w.alloc (.cells #[.int .u8 0, .int .u8 0, .int .u8 0, .int .u8 0, .int .u8 0, .int .u8 0, .int .u8 0, .int .u8 0] 5)) := by
  have := run_make_row' (P := Tryz.prog) 40 5 (.int .u8 0) 1 Tryz.underlying40 Tryz.info_u8 rfl .i64 .i64 8 (by decide) (by decide) w
  rw [show madeCells #[Value.int .u8 0] 8 = #[.int .u8 0, .int .u8 0, .int .u8 0, .int .u8 0, .int .u8 0, .int .u8 0, .int .u8 0, .int .u8 0] from by apply Array.toList_inj.1; rw [show (#[Value.int .u8 0] : Array Value) = Array.replicate 1 (.int .u8 0) from rfl, madeCells_rep _ 1 8 (by decide)]; rfl] at this
  exact this
set_option maxHeartbeats 1000000 in
theorem entry9_c (i : Nat) (w : World) : Calls Tryz.prog 68 #[.int .i64 i] w fun e w' => ∃ v, e = .returned v ∧ Later w w' ∧ Bs w' v (entL i) := by
  have hmk := run_make8
  go_enter Tryz.func68, Tryz.ntmps68
  go_wp2
  go_ret
  refine ⟨_, rfl, (Later.refl w).alloc _, ?_⟩
  refine bs_of_box (Box.new' _ _ _ _ rfl _ (by simp)) ?_ rfl (by decide)
  simp [bv, entL]
set_option maxHeartbeats 2000000 in
theorem luns9_c (k n : Int) (hn : In64 n) (w : World) : Calls Tryz.prog 24 #[.int .i64 k, .int .i64 n] w fun e w' => ∃ v, e = .returned v ∧ Later w w' ∧ Bs w' v (cutL (lunsL (cntN k)) n) := by
  have HN := hide hn
  clear hn
  by_cases h4 : 4 < k
  · have hb0 : (if k < 0 then 0 else k) = k := by rw [if_neg (by omega)]
    have hb4 : (if k < 4 then k else 4) = 4 := by rw [if_neg (by omega)]
    rw [show cntN k = 4 by unfold cntN; rw [if_pos h4]]
    have h4' : ¬ k ≤ 4 := by omega
    go_enter Tryz.func24, Tryz.ntmps24
    go_wp2_with fail
    refine (putBig_c 32 4 _ _ (Nat.le_refl _) (by decide)).mono ?_
    rintro e w2 ⟨v2, rfl, hl, ho⟩
    rw [show putBeI 32 4 = [0, 0, 0, 32] by decide] at ho
    obtain ⟨g2, c2, rfl⟩ := owns_slice ho (by decide)
    have O2 := hide ho
    have L2 : Hid (Later w w2) := hl
    clear hl ho
    go_wp2_with (at_builtin; refine wpList_append_zk 4 (by decide) (by decide) rfl (.tmp 15) rfl w.heap.size g2 4 c2 _ rfl O2.out (by decide) L2.out.size w L2.out ?_)
    intro v3 w3 ho hb
    have HO : Hid (w3.ownsRow w.heap.size 5 1 v3 (8 + 8 * 0) (bv (headL 4 ++ entsL 0))) := ho
    have HL : Hid (Later w w3) := hb
    clear ho hb O2 L2
    go_wp2_with fail
    go_loopw [6, 18] (fun v i wr => ∃ q : Nat, q ≤ 4 ∧ i = .int .i64 q ∧ Hid (wr.ownsRow w.heap.size 5 1 v (8 + 8 * q) (bv (headL 4 ++ entsL q))) ∧ Hid (Later w wr)) (fun _ i _ => 4 - (intOf i).toNat)
    case atStart => exact ⟨0, by omega, rfl, HO, HL⟩
    case round =>
      clear HO HL
      obtain ⟨q, hq, rfl, HO, HL⟩ := hrel
      by_cases hlt : q < 4
      · go_wp2_with fail
        refine (entry9_c q _).mono ?_
        rintro e w4 ⟨v4, rfl, hl, hv⟩
        replace HO := hide (owns_later HO.out hl)
        replace HL := hide (HL.out.trans hl)
        have V4 := hide hv
        clear hl hv
        go_wp2_with (at_builtin; refine wpList_append_bs rfl (.tmp 21) (.tmp 23) rfl w.heap.size _ (8 + 8 * q) _ rfl HO.out _ (entL q) rfl V4.out (by simp [entL]; omega) HL.out.size w HL.out ?_)
        intro v' w' ho' hb' hg'
        have R : Hid (w'.ownsRow w.heap.size 5 1 v' (8 + 8 * (q + 1)) (bv (headL 4 ++ entsL (q + 1)))) := by rw [entsL]; first | exact ho' | (rw [← List.append_assoc]; exact ho')
        have RL : Hid (Later w w') := hb'
        clear ho' hb' hg' HO HL V4
        go_wp2
        go_roundw
        case rel => exact ⟨q + 1, by omega, by go_num, R, RL⟩
        case measure => simp [intOf]; omega
      · have hqn : Hid (q = 4) := by unfold Hid; omega
        have VB : Hid (Bs wr u6 (lunsL 4)) := by
          have := (Bs.of_owns HO.out).1
          rw [hqn.out] at this
          exact this
        clear HO
        go_wp2_with fail
        refine (cut7_c _ _ n _ VB.out (by rw [lunsL_len]; omega) HN.out).mono ?_
        rintro e w6 ⟨v6, rfl, hl, hv⟩
        have V6 := hide hv
        have L6 := hide (HL.out.trans hl)
        clear hl hv
        go_wp2
        go_ret
        exact ⟨_, rfl, L6.out, V6.out⟩
  by_cases h0 : k < 0
  · have hb0 : (if k < 0 then 0 else k) = 0 := by rw [if_pos h0]
    rw [show cntN k = 0 by unfold cntN; rw [if_neg h4, if_pos h0]]
    have h0' : k ≤ 4 := by omega
    go_enter Tryz.func24, Tryz.ntmps24
    go_wp2_with fail
    refine (putBig_c 0 4 _ _ (Nat.le_refl _) (by decide)).mono ?_
    rintro e w2 ⟨v2, rfl, hl, ho⟩
    rw [show putBeI 0 4 = [0, 0, 0, 0] by decide] at ho
    obtain ⟨g2, c2, rfl⟩ := owns_slice ho (by decide)
    have O2 := hide ho
    have L2 : Hid (Later w w2) := hl
    clear hl ho
    go_wp2_with (at_builtin; refine wpList_append_zk 4 (by decide) (by decide) rfl (.tmp 15) rfl w.heap.size g2 4 c2 _ rfl O2.out (by decide) L2.out.size w L2.out ?_)
    intro v3 w3 ho hb
    have HO : Hid (w3.ownsRow w.heap.size 5 1 v3 (8 + 8 * 0) (bv (headL 0 ++ entsL 0))) := ho
    have HL : Hid (Later w w3) := hb
    clear ho hb O2 L2
    go_wp2_with fail
    go_loopw [6, 18] (fun v i wr => ∃ q : Nat, q ≤ 0 ∧ i = .int .i64 q ∧ Hid (wr.ownsRow w.heap.size 5 1 v (8 + 8 * q) (bv (headL 0 ++ entsL q))) ∧ Hid (Later w wr)) (fun _ i _ => 0 - (intOf i).toNat)
    case atStart => exact ⟨0, by omega, rfl, HO, HL⟩
    case round =>
      clear HO HL
      obtain ⟨q, hq, rfl, HO, HL⟩ := hrel
      by_cases hlt : q < 0
      · omega
      · have hqn : Hid (q = 0) := by unfold Hid; omega
        have VB : Hid (Bs wr u6 (lunsL 0)) := by
          have := (Bs.of_owns HO.out).1
          rw [hqn.out] at this
          exact this
        clear HO
        go_wp2_with fail
        refine (cut7_c _ _ n _ VB.out (by rw [lunsL_len]; omega) HN.out).mono ?_
        rintro e w6 ⟨v6, rfl, hl, hv⟩
        have V6 := hide hv
        have L6 := hide (HL.out.trans hl)
        clear hl hv
        go_wp2
        go_ret
        exact ⟨_, rfl, L6.out, V6.out⟩
  obtain ⟨c, rfl⟩ : ∃ c : Nat, k = c := ⟨k.toNat, by omega⟩
  rw [show cntN (c : Int) = c by unfold cntN; rw [if_neg h4, if_neg h0]; omega]
  rcases (show c = 0 ∨ c = 1 ∨ c = 2 ∨ c = 3 ∨ c = 4 by omega) with rfl | rfl | rfl | rfl | rfl
  · go_enter Tryz.func24, Tryz.ntmps24
    go_wp2_with fail
    refine (putBig_c 0 4 _ _ (Nat.le_refl _) (by decide)).mono ?_
    rintro e w2 ⟨v2, rfl, hl, ho⟩
    rw [show putBeI 0 4 = [0, 0, 0, 0] by decide] at ho
    obtain ⟨g2, c2, rfl⟩ := owns_slice ho (by decide)
    have O2 := hide ho
    have L2 : Hid (Later w w2) := hl
    clear hl ho
    go_wp2_with (at_builtin; refine wpList_append_zk 4 (by decide) (by decide) rfl (.tmp 15) rfl w.heap.size g2 4 c2 _ rfl O2.out (by decide) L2.out.size w L2.out ?_)
    intro v3 w3 ho hb
    have HO : Hid (w3.ownsRow w.heap.size 5 1 v3 (8 + 8 * 0) (bv (headL 0 ++ entsL 0))) := ho
    have HL : Hid (Later w w3) := hb
    clear ho hb O2 L2
    go_wp2_with fail
    go_loopw [6, 18] (fun v i wr => ∃ q : Nat, q ≤ 0 ∧ i = .int .i64 q ∧ Hid (wr.ownsRow w.heap.size 5 1 v (8 + 8 * q) (bv (headL 0 ++ entsL q))) ∧ Hid (Later w wr)) (fun _ i _ => 0 - (intOf i).toNat)
    case atStart => exact ⟨0, by omega, rfl, HO, HL⟩
    case round =>
      clear HO HL
      obtain ⟨q, hq, rfl, HO, HL⟩ := hrel
      by_cases hlt : q < 0
      · omega
      · have hqn : Hid (q = 0) := by unfold Hid; omega
        have VB : Hid (Bs wr u6 (lunsL 0)) := by
          have := (Bs.of_owns HO.out).1
          rw [hqn.out] at this
          exact this
        clear HO
        go_wp2_with fail
        refine (cut7_c _ _ n _ VB.out (by rw [lunsL_len]; omega) HN.out).mono ?_
        rintro e w6 ⟨v6, rfl, hl, hv⟩
        have V6 := hide hv
        have L6 := hide (HL.out.trans hl)
        clear hl hv
        go_wp2
        go_ret
        exact ⟨_, rfl, L6.out, V6.out⟩
  · go_enter Tryz.func24, Tryz.ntmps24
    go_wp2_with fail
    refine (putBig_c 8 4 _ _ (Nat.le_refl _) (by decide)).mono ?_
    rintro e w2 ⟨v2, rfl, hl, ho⟩
    rw [show putBeI 8 4 = [0, 0, 0, 8] by decide] at ho
    obtain ⟨g2, c2, rfl⟩ := owns_slice ho (by decide)
    have O2 := hide ho
    have L2 : Hid (Later w w2) := hl
    clear hl ho
    go_wp2_with (at_builtin; refine wpList_append_zk 4 (by decide) (by decide) rfl (.tmp 15) rfl w.heap.size g2 4 c2 _ rfl O2.out (by decide) L2.out.size w L2.out ?_)
    intro v3 w3 ho hb
    have HO : Hid (w3.ownsRow w.heap.size 5 1 v3 (8 + 8 * 0) (bv (headL 1 ++ entsL 0))) := ho
    have HL : Hid (Later w w3) := hb
    clear ho hb O2 L2
    go_wp2_with fail
    go_loopw [6, 18] (fun v i wr => ∃ q : Nat, q ≤ 1 ∧ i = .int .i64 q ∧ Hid (wr.ownsRow w.heap.size 5 1 v (8 + 8 * q) (bv (headL 1 ++ entsL q))) ∧ Hid (Later w wr)) (fun _ i _ => 1 - (intOf i).toNat)
    case atStart => exact ⟨0, by omega, rfl, HO, HL⟩
    case round =>
      clear HO HL
      obtain ⟨q, hq, rfl, HO, HL⟩ := hrel
      by_cases hlt : q < 1
      · go_wp2_with fail
        refine (entry9_c q _).mono ?_
        rintro e w4 ⟨v4, rfl, hl, hv⟩
        replace HO := hide (owns_later HO.out hl)
        replace HL := hide (HL.out.trans hl)
        have V4 := hide hv
        clear hl hv
        go_wp2_with (at_builtin; refine wpList_append_bs rfl (.tmp 21) (.tmp 23) rfl w.heap.size _ (8 + 8 * q) _ rfl HO.out _ (entL q) rfl V4.out (by simp [entL]; omega) HL.out.size w HL.out ?_)
        intro v' w' ho' hb' hg'
        have R : Hid (w'.ownsRow w.heap.size 5 1 v' (8 + 8 * (q + 1)) (bv (headL 1 ++ entsL (q + 1)))) := by rw [entsL]; first | exact ho' | (rw [← List.append_assoc]; exact ho')
        have RL : Hid (Later w w') := hb'
        clear ho' hb' hg' HO HL V4
        go_wp2
        go_roundw
        case rel => exact ⟨q + 1, by omega, by go_num, R, RL⟩
        case measure => simp [intOf]; omega
      · have hqn : Hid (q = 1) := by unfold Hid; omega
        have VB : Hid (Bs wr u6 (lunsL 1)) := by
          have := (Bs.of_owns HO.out).1
          rw [hqn.out] at this
          exact this
        clear HO
        go_wp2_with fail
        refine (cut7_c _ _ n _ VB.out (by rw [lunsL_len]; omega) HN.out).mono ?_
        rintro e w6 ⟨v6, rfl, hl, hv⟩
        have V6 := hide hv
        have L6 := hide (HL.out.trans hl)
        clear hl hv
        go_wp2
        go_ret
        exact ⟨_, rfl, L6.out, V6.out⟩
  · go_enter Tryz.func24, Tryz.ntmps24
    go_wp2_with fail
    refine (putBig_c 16 4 _ _ (Nat.le_refl _) (by decide)).mono ?_
    rintro e w2 ⟨v2, rfl, hl, ho⟩
    rw [show putBeI 16 4 = [0, 0, 0, 16] by decide] at ho
    obtain ⟨g2, c2, rfl⟩ := owns_slice ho (by decide)
    have O2 := hide ho
    have L2 : Hid (Later w w2) := hl
    clear hl ho
    go_wp2_with (at_builtin; refine wpList_append_zk 4 (by decide) (by decide) rfl (.tmp 15) rfl w.heap.size g2 4 c2 _ rfl O2.out (by decide) L2.out.size w L2.out ?_)
    intro v3 w3 ho hb
    have HO : Hid (w3.ownsRow w.heap.size 5 1 v3 (8 + 8 * 0) (bv (headL 2 ++ entsL 0))) := ho
    have HL : Hid (Later w w3) := hb
    clear ho hb O2 L2
    go_wp2_with fail
    go_loopw [6, 18] (fun v i wr => ∃ q : Nat, q ≤ 2 ∧ i = .int .i64 q ∧ Hid (wr.ownsRow w.heap.size 5 1 v (8 + 8 * q) (bv (headL 2 ++ entsL q))) ∧ Hid (Later w wr)) (fun _ i _ => 2 - (intOf i).toNat)
    case atStart => exact ⟨0, by omega, rfl, HO, HL⟩
    case round =>
      clear HO HL
      obtain ⟨q, hq, rfl, HO, HL⟩ := hrel
      by_cases hlt : q < 2
      · go_wp2_with fail
        refine (entry9_c q _).mono ?_
        rintro e w4 ⟨v4, rfl, hl, hv⟩
        replace HO := hide (owns_later HO.out hl)
        replace HL := hide (HL.out.trans hl)
        have V4 := hide hv
        clear hl hv
        go_wp2_with (at_builtin; refine wpList_append_bs rfl (.tmp 21) (.tmp 23) rfl w.heap.size _ (8 + 8 * q) _ rfl HO.out _ (entL q) rfl V4.out (by simp [entL]; omega) HL.out.size w HL.out ?_)
        intro v' w' ho' hb' hg'
        have R : Hid (w'.ownsRow w.heap.size 5 1 v' (8 + 8 * (q + 1)) (bv (headL 2 ++ entsL (q + 1)))) := by rw [entsL]; first | exact ho' | (rw [← List.append_assoc]; exact ho')
        have RL : Hid (Later w w') := hb'
        clear ho' hb' hg' HO HL V4
        go_wp2
        go_roundw
        case rel => exact ⟨q + 1, by omega, by go_num, R, RL⟩
        case measure => simp [intOf]; omega
      · have hqn : Hid (q = 2) := by unfold Hid; omega
        have VB : Hid (Bs wr u6 (lunsL 2)) := by
          have := (Bs.of_owns HO.out).1
          rw [hqn.out] at this
          exact this
        clear HO
        go_wp2_with fail
        refine (cut7_c _ _ n _ VB.out (by rw [lunsL_len]; omega) HN.out).mono ?_
        rintro e w6 ⟨v6, rfl, hl, hv⟩
        have V6 := hide hv
        have L6 := hide (HL.out.trans hl)
        clear hl hv
        go_wp2
        go_ret
        exact ⟨_, rfl, L6.out, V6.out⟩
  · go_enter Tryz.func24, Tryz.ntmps24
    go_wp2_with fail
    refine (putBig_c 24 4 _ _ (Nat.le_refl _) (by decide)).mono ?_
    rintro e w2 ⟨v2, rfl, hl, ho⟩
    rw [show putBeI 24 4 = [0, 0, 0, 24] by decide] at ho
    obtain ⟨g2, c2, rfl⟩ := owns_slice ho (by decide)
    have O2 := hide ho
    have L2 : Hid (Later w w2) := hl
    clear hl ho
    go_wp2_with (at_builtin; refine wpList_append_zk 4 (by decide) (by decide) rfl (.tmp 15) rfl w.heap.size g2 4 c2 _ rfl O2.out (by decide) L2.out.size w L2.out ?_)
    intro v3 w3 ho hb
    have HO : Hid (w3.ownsRow w.heap.size 5 1 v3 (8 + 8 * 0) (bv (headL 3 ++ entsL 0))) := ho
    have HL : Hid (Later w w3) := hb
    clear ho hb O2 L2
    go_wp2_with fail
    go_loopw [6, 18] (fun v i wr => ∃ q : Nat, q ≤ 3 ∧ i = .int .i64 q ∧ Hid (wr.ownsRow w.heap.size 5 1 v (8 + 8 * q) (bv (headL 3 ++ entsL q))) ∧ Hid (Later w wr)) (fun _ i _ => 3 - (intOf i).toNat)
    case atStart => exact ⟨0, by omega, rfl, HO, HL⟩
    case round =>
      clear HO HL
      obtain ⟨q, hq, rfl, HO, HL⟩ := hrel
      by_cases hlt : q < 3
      · go_wp2_with fail
        refine (entry9_c q _).mono ?_
        rintro e w4 ⟨v4, rfl, hl, hv⟩
        replace HO := hide (owns_later HO.out hl)
        replace HL := hide (HL.out.trans hl)
        have V4 := hide hv
        clear hl hv
        go_wp2_with (at_builtin; refine wpList_append_bs rfl (.tmp 21) (.tmp 23) rfl w.heap.size _ (8 + 8 * q) _ rfl HO.out _ (entL q) rfl V4.out (by simp [entL]; omega) HL.out.size w HL.out ?_)
        intro v' w' ho' hb' hg'
        have R : Hid (w'.ownsRow w.heap.size 5 1 v' (8 + 8 * (q + 1)) (bv (headL 3 ++ entsL (q + 1)))) := by rw [entsL]; first | exact ho' | (rw [← List.append_assoc]; exact ho')
        have RL : Hid (Later w w') := hb'
        clear ho' hb' hg' HO HL V4
        go_wp2
        go_roundw
        case rel => exact ⟨q + 1, by omega, by go_num, R, RL⟩
        case measure => simp [intOf]; omega
      · have hqn : Hid (q = 3) := by unfold Hid; omega
        have VB : Hid (Bs wr u6 (lunsL 3)) := by
          have := (Bs.of_owns HO.out).1
          rw [hqn.out] at this
          exact this
        clear HO
        go_wp2_with fail
        refine (cut7_c _ _ n _ VB.out (by rw [lunsL_len]; omega) HN.out).mono ?_
        rintro e w6 ⟨v6, rfl, hl, hv⟩
        have V6 := hide hv
        have L6 := hide (HL.out.trans hl)
        clear hl hv
        go_wp2
        go_ret
        exact ⟨_, rfl, L6.out, V6.out⟩
  · go_enter Tryz.func24, Tryz.ntmps24
    go_wp2_with fail
    refine (putBig_c 32 4 _ _ (Nat.le_refl _) (by decide)).mono ?_
    rintro e w2 ⟨v2, rfl, hl, ho⟩
    rw [show putBeI 32 4 = [0, 0, 0, 32] by decide] at ho
    obtain ⟨g2, c2, rfl⟩ := owns_slice ho (by decide)
    have O2 := hide ho
    have L2 : Hid (Later w w2) := hl
    clear hl ho
    go_wp2_with (at_builtin; refine wpList_append_zk 4 (by decide) (by decide) rfl (.tmp 15) rfl w.heap.size g2 4 c2 _ rfl O2.out (by decide) L2.out.size w L2.out ?_)
    intro v3 w3 ho hb
    have HO : Hid (w3.ownsRow w.heap.size 5 1 v3 (8 + 8 * 0) (bv (headL 4 ++ entsL 0))) := ho
    have HL : Hid (Later w w3) := hb
    clear ho hb O2 L2
    go_wp2_with fail
    go_loopw [6, 18] (fun v i wr => ∃ q : Nat, q ≤ 4 ∧ i = .int .i64 q ∧ Hid (wr.ownsRow w.heap.size 5 1 v (8 + 8 * q) (bv (headL 4 ++ entsL q))) ∧ Hid (Later w wr)) (fun _ i _ => 4 - (intOf i).toNat)
    case atStart => exact ⟨0, by omega, rfl, HO, HL⟩
    case round =>
      clear HO HL
      obtain ⟨q, hq, rfl, HO, HL⟩ := hrel
      by_cases hlt : q < 4
      · go_wp2_with fail
        refine (entry9_c q _).mono ?_
        rintro e w4 ⟨v4, rfl, hl, hv⟩
        replace HO := hide (owns_later HO.out hl)
        replace HL := hide (HL.out.trans hl)
        have V4 := hide hv
        clear hl hv
        go_wp2_with (at_builtin; refine wpList_append_bs rfl (.tmp 21) (.tmp 23) rfl w.heap.size _ (8 + 8 * q) _ rfl HO.out _ (entL q) rfl V4.out (by simp [entL]; omega) HL.out.size w HL.out ?_)
        intro v' w' ho' hb' hg'
        have R : Hid (w'.ownsRow w.heap.size 5 1 v' (8 + 8 * (q + 1)) (bv (headL 4 ++ entsL (q + 1)))) := by rw [entsL]; first | exact ho' | (rw [← List.append_assoc]; exact ho')
        have RL : Hid (Later w w') := hb'
        clear ho' hb' hg' HO HL V4
        go_wp2
        go_roundw
        case rel => exact ⟨q + 1, by omega, by go_num, R, RL⟩
        case measure => simp [intOf]; omega
      · have hqn : Hid (q = 4) := by unfold Hid; omega
        have VB : Hid (Bs wr u6 (lunsL 4)) := by
          have := (Bs.of_owns HO.out).1
          rw [hqn.out] at this
          exact this
        clear HO
        go_wp2_with fail
        refine (cut7_c _ _ n _ VB.out (by rw [lunsL_len]; omega) HN.out).mono ?_
        rintro e w6 ⟨v6, rfl, hl, hv⟩
        have V6 := hide hv
        have L6 := hide (HL.out.trans hl)
        clear hl hv
        go_wp2
        go_ret
        exact ⟨_, rfl, L6.out, V6.out⟩
end Go.Proofs.YtfakboehmcimpaaGreat

namespace Go.Proofs.YtfakboehmcimpaaGreat
open Go.ChangeShapes Go.WideShapes Go.ChangeAt Go.RowKit
set_option linter.unusedVariables false
set_option maxRecDepth 4000
set_option linter.unusedSimpArgs false
/-! What is asked of the landed mode. -/
def IPage8 : Prop := ∀ (page which : Int) (caching : Bool), In64 page → In64 which → MPag 65 page which caching
def IAns8 : Prop := ∀ (c : Cmd) (caching protect : Bool) (w : World), OkC7 c → Calls Tryz.prog 23 #[cval c, .bool caching, .bool protect] w fun e w' => ∃ v, e = .returned (.tuple #[v, sval (mansR c caching protect).2]) ∧ Later w w' ∧ Bs w' v (mansR c caching protect).1
end Go.Proofs.YtfakboehmcimpaaGreat

namespace Go.Proofs.YtfakboehmcimpaaGreat
open Go.ChangeShapes Go.WideShapes Go.ChangeAt Go.RowKit
set_option linter.unusedVariables false
set_option maxRecDepth 4000
set_option linter.unusedSimpArgs false
theorem cutL_all (l : List UInt8) (n : Int) (h0 : 0 ≤ n) (h : (l.length : Int) ≤ n) : cutL l n = l := by
  unfold cutL
  rw [if_neg (by omega), List.take_of_length_le (by omega)]
theorem cutL_len8 (l : List UInt8) (n : Int) : (cutL l n).length ≤ l.length ∧ l.take (cutL l n).length = cutL l n ∧ ((cutL l n).length = l.length ∨ ((cutL l n).length : Int) = if n < 0 then 0 else n) := by
  unfold cutL
  by_cases h : n < 0
  · rw [if_pos h, if_pos h]; simp
  · rw [if_neg h, if_neg h]
    refine ⟨by rw [List.length_take]; omega, ?_, ?_⟩
    · rw [List.length_take]
      by_cases h2 : n.toNat ≤ l.length
      · rw [Nat.min_eq_left h2]
      · rw [Nat.min_eq_right (by omega), List.take_of_length_le (Nat.le_refl _), List.take_of_length_le (by omega)]
    · rw [List.length_take]; omega
theorem mans_cut (op : Int) (at_ : Nat) (n pg bt : Int) (caching protect : Bool) : ∃ B s, B.length ≤ 1000 ∧ mansR (op, at_, n, pg, bt) caching protect = (cutL B n, s) ∧ mansR (op, at_, 1000, pg, bt) caching protect = (B, s) := by
  have h0 : cutL [] n = [] := by unfold cutL; split <;> simp
  unfold mansR
  simp only
  by_cases h1 : op ≠ 26 ∧ op ≠ 90
  · exact ⟨[], (5, 36, 0), by simp, by rw [if_pos h1, h0], by rw [if_pos h1]⟩
  by_cases h2 : bt = 3
  · exact ⟨[], (5, 57, 0), by simp, by rw [if_neg h1, if_pos h2, h0], by rw [if_neg h1, if_pos h2]⟩
  by_cases h3 : mpB pg = false
  · exact ⟨[], (5, 36, 0), by simp, by rw [if_neg h1, if_neg h2, if_pos h3, h0], by rw [if_neg h1, if_neg h2, if_pos h3]⟩
  have hl := mpL_len pg bt caching
  generalize mpL pg bt caching = L at *
  have hL : (mhead op L.length protect ++ L).length ≤ 40 := by
    rw [List.length_append]
    have : (mhead op L.length protect).length ≤ 8 := by unfold mhead; split <;> simp
    omega
  refine ⟨mhead op L.length protect ++ L, (0, 0, 0), by omega, by rw [if_neg h1, if_neg h2, if_neg h3], ?_⟩
  rw [if_neg h1, if_neg h2, if_neg h3, cutL_all _ 1000 (by omega) (by omega)]
end Go.Proofs.YtfakboehmcimpaaGreat

namespace Go.Proofs.YtfakboehmcimpaaGreat
open Go.ChangeShapes Go.WideShapes Go.ChangeAt Go.RowKit
set_option linter.unusedVariables false
set_option maxRecDepth 4000
set_option linter.unusedSimpArgs false
/-! The landed intent: out, howMany. -/
set_option maxRecDepth 20000 in
set_option maxHeartbeats 2000000 in
theorem iout11 (c : Cmd) (s : Sns) (w : World) (hc : OkC7 c) (hs : OkS s) : Calls Tryz.prog 25 #[cval c, sval s] w fun e w' => ∃ i', e = .returned i' ∧ Later w w' ∧ IV w' i' (outI c s) := by
  have HC := hide hc
  have HS := hide hs
  clear hc hs
  have BC := hide (((Box.new w 36 #[.int .i64 c.1, .int .u64 (c.2.1 : Int), .int .i64 c.2.2.1, .int .i64 c.2.2.2.1, .int .i64 c.2.2.2.2]).alloc (.cells #[.int .i64 s.1, .int .i64 s.2.1, .int .i64 s.2.2] 30)).alloc (.cells zI.toArray 44))
  have BX : Hid (Box _ (w.heap.size + 1) 30 (sc s)) := (Box.new' (w.alloc (.cells #[.int .i64 c.1, .int .u64 (c.2.1 : Int), .int .i64 c.2.2.1, .int .i64 c.2.2.2.1, .int .i64 c.2.2.2.2] 36)) 30 #[.int .i64 s.1, .int .i64 s.2.1, .int .i64 s.2.2] _ rfl _ (by simp)).alloc (.cells zI.toArray 44)
  have BI : Hid (Box _ (w.heap.size + 1 + 1) 44 zI) := Box.new' ((w.alloc (.cells #[.int .i64 c.1, .int .u64 (c.2.1 : Int), .int .i64 c.2.2.1, .int .i64 c.2.2.2.1, .int .i64 c.2.2.2.2] 36)).alloc (.cells #[.int .i64 s.1, .int .i64 s.2.1, .int .i64 s.2.2] 30)) 44 zI.toArray _ rfl _ (by simp)
  have LL := hide ((((Later.refl w).alloc (.cells #[.int .i64 c.1, .int .u64 (c.2.1 : Int), .int .i64 c.2.2.1, .int .i64 c.2.2.2.1, .int .i64 c.2.2.2.2] 36)).alloc (.cells #[.int .i64 s.1, .int .i64 s.2.1, .int .i64 s.2.2] 30)).alloc (.cells zI.toArray 44))
  have y0 := BC.out.cell 0
  have y1 := BC.out.cell 1
  have y2 := BC.out.cell 2
  have y3 := BC.out.cell 3
  have y4 := BC.out.cell 4
  go_enter Tryz.func25, Tryz.ntmps25
  go_wp2_with fail
  generalize ((w.alloc (.cells #[.int .i64 c.1, .int .u64 (c.2.1 : Int), .int .i64 c.2.2.1, .int .i64 c.2.2.2.1, .int .i64 c.2.2.2.2] 36)).alloc (.cells #[.int .i64 s.1, .int .i64 s.2.1, .int .i64 s.2.2] 30)).alloc (.cells zI.toArray 44) = w1 at *
  obtain ⟨gx, hgx⟩ : ∃ gx, gx = w.heap.size + 1 := ⟨_, rfl⟩
  obtain ⟨gr, hgr⟩ : ∃ gr, gr = w.heap.size + 1 + 1 := ⟨_, rfl⟩
  rw [← hgr] at BI ⊢
  rw [← hgx] at BX ⊢
  have HG : Hid (w.heap.size ≤ gr) := by rw [Hid]; omega
  clear hgr hgx y0 y1 y2 y3 y4 BC
  refine (jstart_c c w1 HC.out).mono ?_
  rintro e w2 ⟨rfl, hl⟩
  replace BX := hide (BX.out.later hl)
  replace BI := hide (BI.out.later hl)
  replace LL := hide (LL.out.trans hl)
  clear hl HC
  cases hst : startL c with
  | none =>
    have HJ : startJ c = (jval (0, 0, 0, 0, 0) 0 0 none 0 0 (0, 0, 0), false) := by rw [startJ, hst]
    have HR : Hid (outI c s = noneI s) := by rw [Hid, outI, hst]
    rw [HJ]
    clear HJ hst
    go_wp2_with (refine wpList_newJ rfl rfl rfl 5 rfl (by simp) (.tmp 10) (by simp) rfl (0, 0, 0, 0, 0) 0 0 none 0 0 (0, 0, 0) rfl ?_)
    intro g5 w3 hB hl hg
    replace BX := hide (BX.out.later hl)
    replace BI := hide (BI.out.later hl)
    replace LL := hide (LL.out.trans hl)
    clear hl hB hg
    have x0 := BX.out.cell 0
    have x1 := BX.out.cell 1
    have x2 := BX.out.cell 2
    go_wp2_with fail
    refine (inone11_c s _).mono ?_
    rintro e w5 ⟨rfl, hl⟩
    replace BI := hide (BI.out.later hl)
    replace LL := hide (LL.out.trans hl)
    clear hl x0 x1 x2
    go_wp2_with (refine wpList_storeU rfl 44 (.tmp 4) (.tmp 20) rfl gr 0 rfl (ic 0 0 none 0 0 (0, 0, 0, 0, 0) 0 0 none 0 0 (0, 0, 0) s) rfl Tryz.info_intent (ic_one _ _ _ _ _ _ _ _ _ _ _ _ _) _ _ BI.out (by simp) ?_)
    intro wz hz
    have BZ : Hid (Box wz gr 44 (ic 0 0 none 0 0 (0, 0, 0, 0, 0) 0 0 none 0 0 (0, 0, 0) s)) := by rw [hz.out]; exact BI.out.all _ rfl
    have LZ : Hid (Later w wz) := by rw [hz.out]; exact LL.out.setCells HG.out _ _
    clear hz
    go_wp2
    refine bodyPost_ret (results_cell1 rfl _ _ _ gr 0 rfl (.agg (ic 0 0 none 0 0 (0, 0, 0, 0, 0) 0 0 none 0 0 (0, 0, 0) s).toArray) (load_intent BZ.out rfl)) rfl ⟨_, rfl, LZ.out, ?_⟩
    rw [HR.out]
    exact IV.nil11 _ s
  | some z =>
    have HJ : startJ c = (jval c z 0 none 0 0 (0, 0, 0), true) := by rw [startJ, hst]
    have HR0 : Hid (outI c s = if s = (0, 0, 0) then (2, z, [], c, z, (0, 0, 0)) else noneI s) := by rw [Hid, outI, hst]
    rw [HJ]
    clear HJ hst
    go_wp2_with (refine wpList_newJ rfl rfl rfl 5 rfl (by simp) (.tmp 10) (by simp) rfl c z 0 none 0 0 (0, 0, 0) rfl ?_)
    intro g5 w3 hB hl hg
    have B5 := hide hB
    replace BX := hide (BX.out.later hl)
    replace BI := hide (BI.out.later hl)
    replace LL := hide (LL.out.trans hl)
    clear hl hB hg
    have x0 := BX.out.cell 0
    have x1 := BX.out.cell 1
    have x2 := BX.out.cell 2
    go_wp2_with fail
    refine (sgood_c s _ HS.out).mono ?_
    rintro e w4 ⟨rfl, hl⟩
    replace BX := hide (BX.out.later hl)
    replace BI := hide (BI.out.later hl)
    replace LL := hide (LL.out.trans hl)
    replace B5 := hide (B5.out.later hl)
    clear hl x0 x1 x2
    by_cases hz : s = (0, 0, 0)
    · have HR : Hid (outI c s = (2, z, [], c, z, (0, 0, 0))) := by rw [Hid, HR0.out, if_pos hz]
      have es : (s == (0, 0, 0)) = true := by simp [hz]
      rw [es]
      clear hz es HR0
      have y_0 := B5.out.cell 0
      have y_1 := B5.out.cell 1
      have y_2 := B5.out.cell 2
      have y_3 := B5.out.cell 3
      have y_4 := B5.out.cell 4
      have y_5 := B5.out.cell 5
      have y_6 := B5.out.cell 6
      have y_7 := B5.out.cell 7
      have y_8 := B5.out.cell 8
      have y_9 := B5.out.cell 9
      have y_10 := B5.out.cell 10
      go_wp2_with (refine wpList_storeU rfl 44 (.tmp 4) (.tmp 24) rfl gr 0 rfl (ic 2 z none 0 0 c z 0 none 0 0 (0, 0, 0) (0, 0, 0)) rfl Tryz.info_intent (ic_one _ _ _ _ _ _ _ _ _ _ _ _ _) _ _ BI.out (by simp) ?_)
      intro wz hz
      have BZ : Hid (Box wz gr 44 (ic 2 z none 0 0 c z 0 none 0 0 (0, 0, 0) (0, 0, 0))) := by rw [hz.out]; exact BI.out.all _ rfl
      have LZ : Hid (Later w wz) := by rw [hz.out]; exact LL.out.setCells HG.out _ _
      clear hz
      go_wp2
      refine bodyPost_ret (results_cell1 rfl _ _ _ gr 0 rfl (.agg (ic 2 z none 0 0 c z 0 none 0 0 (0, 0, 0) (0, 0, 0)).toArray) (load_intent BZ.out rfl)) rfl ⟨_, rfl, LZ.out, ?_⟩
      rw [HR.out]
      exact ⟨none, 0, none, 0, rfl, Bs.nil wz⟩
    · have HR : Hid (outI c s = noneI s) := by rw [Hid, HR0.out, if_neg hz]
      have es : (s == (0, 0, 0)) = false := by simpa using hz
      rw [es]
      clear hz es HR0
      have x0 := BX.out.cell 0
      have x1 := BX.out.cell 1
      have x2 := BX.out.cell 2
      go_wp2_with fail
      refine (inone11_c s _).mono ?_
      rintro e w5 ⟨rfl, hl⟩
      replace BI := hide (BI.out.later hl)
      replace LL := hide (LL.out.trans hl)
      clear hl x0 x1 x2
      go_wp2_with (refine wpList_storeU rfl 44 (.tmp 4) (.tmp 20) rfl gr 0 rfl (ic 0 0 none 0 0 (0, 0, 0, 0, 0) 0 0 none 0 0 (0, 0, 0) s) rfl Tryz.info_intent (ic_one _ _ _ _ _ _ _ _ _ _ _ _ _) _ _ BI.out (by simp) ?_)
      intro wz hz
      have BZ : Hid (Box wz gr 44 (ic 0 0 none 0 0 (0, 0, 0, 0, 0) 0 0 none 0 0 (0, 0, 0) s)) := by rw [hz.out]; exact BI.out.all _ rfl
      have LZ : Hid (Later w wz) := by rw [hz.out]; exact LL.out.setCells HG.out _ _
      clear hz
      go_wp2
      refine bodyPost_ret (results_cell1 rfl _ _ _ gr 0 rfl (.agg (ic 0 0 none 0 0 (0, 0, 0, 0, 0) 0 0 none 0 0 (0, 0, 0) s).toArray) (load_intent BZ.out rfl)) rfl ⟨_, rfl, LZ.out, ?_⟩
      rw [HR.out]
      exact IV.nil11 _ s
/-! howMany. -/
def manyI (n : Nat) (D : List Drt) (c : Cmd) : List UInt8 := if c.1 = 37 then tenL (allN n D : Int) else cutL (sixL (allN n D : Int)) c.2.2.1
set_option maxHeartbeats 2000000 in
theorem howmany11_c {v : Value} {n : Nat} {F : List UInt8} {D : List Drt} {p r l : Bool} (c : Cmd) (w : World) (h : Slt w v n F D p r l) (hc : OkC7 c) : Calls Tryz.prog 28 #[v, cval c] w fun e w' => ∃ v', e = .returned v' ∧ Later w w' ∧ Bs w' v' (manyI n D c) := by
  obtain ⟨ab, cb, aD, k, cD, rfl, hm⟩ := h
  have HR : Hid (manyI n D c = if c.1 = 37 then tenL (allN n D : Int) else cutL (sixL (allN n D : Int)) c.2.2.1) := rfl
  generalize manyI n D c = R at *
  have HN := hide (allN_small n D)
  obtain ⟨op, at_, nn, pg, bt⟩ := c
  have hnn : In64 nn := hc.2.2.1
  have HI := hide hnn
  clear hc hnn
  have HM := hide hm
  clear hm
  have BX := hide ((Box.new w 27 #[.slice ab n cb, .slice aD k cD, .bool p, .bool r, .bool l]).alloc (.cells #[.int .i64 op, .int .u64 (at_ : Int), .int .i64 nn, .int .i64 pg, .int .i64 bt] 36))
  have BC : Hid (Box _ (w.heap.size + 1) 36 (cc (op, at_, nn, pg, bt))) := Box.new' (w.alloc (.cells #[.slice ab n cb, .slice aD k cD, .bool p, .bool r, .bool l] 27)) 36 #[.int .i64 op, .int .u64 (at_ : Int), .int .i64 nn, .int .i64 pg, .int .i64 bt] _ rfl _ (by simp)
  have LL := hide (((Later.refl w).alloc (.cells #[.slice ab n cb, .slice aD k cD, .bool p, .bool r, .bool l] 27)).alloc (.cells #[.int .i64 op, .int .u64 (at_ : Int), .int .i64 nn, .int .i64 pg, .int .i64 bt] 36))
  have x0 := BX.out.cell 0
  have x1 := BX.out.cell 1
  go_enter Tryz.func28, Tryz.ntmps28
  go_wp2_with fail
  refine (call3_c _ n F D _ (HM.out.later LL.out)).mono ?_
  rintro e w2 ⟨v2, rfl, hl, hr⟩
  obtain ⟨a2, c2, rfl⟩ := hr.shape
  replace BC := hide (BC.out.later hl)
  replace LL := hide (LL.out.trans hl)
  clear hl hr x0 x1 BX HM
  generalize allN n D = N at *
  have hN : (N : Int) ≤ 9223372036854775807 := by have := HN.out; omega
  have y0 := BC.out.cell 0
  have y2 := BC.out.cell 2
  by_cases h : op = 37
  · have e37 : (op == 37) = true := by simp [h]
    replace HR : Hid (R = tenL (N : Int)) := by rw [Hid, HR.out, if_pos h]
    clear h
    go_wp2_with fail
    refine (ten9_c (N : Int) _).mono ?_
    rintro e w3 ⟨v3, rfl, hl, hb⟩
    replace LL := hide (LL.out.trans hl)
    have HB := hide hb
    clear hl hb
    go_wp2
    go_ret
    exact ⟨_, rfl, LL.out, by rw [HR.out]; exact HB.out⟩
  · have e37 : (op == 37) = false := by simp [h]
    replace HR : Hid (R = cutL (sixL (N : Int)) nn) := by rw [Hid, HR.out, if_neg h]
    clear h
    go_wp2_with fail
    refine (six9_c (N : Int) nn HI.out _).mono ?_
    rintro e w3 ⟨v3, rfl, hl, hb⟩
    replace LL := hide (LL.out.trans hl)
    have HB := hide hb
    clear hl hb
    go_wp2
    go_ret
    exact ⟨_, rfl, LL.out, by rw [HR.out]; exact HB.out⟩
/-! How long. -/
theorem len_ans (c : Cmd) (lun luns : Int) : (ansR c lun luns).1.length ≤ 1000000 := by
  unfold ansR
  split
  · simp
  · split
    · exact Nat.le_trans (cutL_len8 _ _).1 (by rw [stdL_len]; omega)
    · exact Nat.le_trans (cutL_len8 _ _).1 (Nat.le_trans (pageL_len _ _ _) (by omega))
theorem len_mans (c : Cmd) (a b : Bool) : (mansR c a b).1.length ≤ 1000000 := by
  obtain ⟨op, at_, n, pg, bt⟩ := c
  obtain ⟨B, s, h1, h2, _⟩ := mans_cut op at_ n pg bt a b
  rw [h2]
  have := (cutL_len8 B n).1
  simp only
  omega
theorem len_many (n : Nat) (D : List Drt) (c : Cmd) : (manyI n D c).length ≤ 1000000 := by
  have h8 : ∀ z : Int, (tenL z).length ≤ 100 := fun z => by simp [tenL, putBeI4_len, sz64]
  have h9 : ∀ z : Int, (sixL z).length ≤ 100 := fun z => by simp [sixL, putBeI8_len, sz64, zs]
  unfold manyI
  split
  · exact Nat.le_trans (h8 _) (by omega)
  · exact Nat.le_trans (cutL_len8 _ _).1 (Nat.le_trans (h9 _) (by omega))
theorem len_luns (k n : Int) : (cutL (lunsL (cntN k)) n).length ≤ 1000000 := by
  have h : cntN k ≤ 4 := by unfold cntN; split <;> (try split) <;> omega
  have := (cutL_len8 (lunsL (cntN k)) n).1
  rw [lunsL_len] at this
  omega
theorem len_rd (n : Nat) (F : List UInt8) (D : List Drt) (p r : Bool) (at_ : Nat) (m : Int) : (rdL n F D (checkS n D p r at_ m false) at_ m).length ≤ 1000000 := by
  unfold rdL
  by_cases h : checkS n D p r at_ m false = (0, 0, 0)
  · have h1 := (checkS_zero h).2.2
    simp only [withinB, decide_eq_true_eq] at h1
    have h2 := allN_small n D
    rw [if_pos (by simp [h])]
    unfold seg
    rw [List.length_take]
    omega
  · rw [if_neg (by simpa using h)]
    simp
end Go.Proofs.YtfakboehmcimpaaGreat

namespace Go.Proofs.YtfakboehmcimpaaGreat
open Go.ChangeShapes Go.WideShapes Go.ChangeAt Go.RowKit
set_option linter.unusedVariables false
set_option maxRecDepth 4000
set_option linter.unusedSimpArgs false
/-! The landed slot: own. -/
/-- all that it holds lies in new memory -/
def Fresh (B : Nat) (v : Value) : Prop := ∀ g, g < B → OffT g v
theorem Fresh.mono {B B' : Nat} {v : Value} (h : Fresh B v) (hb : B' ≤ B) : Fresh B' v := fun g hg => h g (by omega)
set_option maxRecDepth 20000 in
set_option maxHeartbeats 1000000 in
theorem sown_c {v : Value} {n : Nat} {F : List UInt8} {D : List Drt} {p r l : Bool} (w : World) (h : Slt w v n F D p r l) (hn : n ≤ 100) (hD : D.length ≤ 100) :
    Calls Tryz.prog 109 #[v] w fun e w' => ∃ v', e = .returned v' ∧ Later w w' ∧ Slt w' v' n F D p r l ∧ Fresh w.heap.size v' := by
  obtain ⟨ab, cb, aD, k, cD, rfl, hm⟩ := h
  obtain ⟨vb, vd, e, hb, hd, hok⟩ := hm
  simp at e
  obtain ⟨rfl, rfl⟩ := e
  obtain rfl : k = D.length := by
    obtain ⟨a', c', e'⟩ := hd.shape
    simp at e'
    exact e'.2.1
  have HB := hide hb
  obtain ⟨k, hk⟩ : ∃ k, k = D.length := ⟨_, rfl⟩
  rw [← hk] at hd hD ⊢
  have HD := hide hd
  have HK := hide hk
  have HO := hide hok
  clear hb hd hok hk
  have BX : Hid (Box ((w.alloc (.cells #[.slice ab n cb, .slice aD k cD, .bool p, .bool r, .bool l] 27)).alloc (.cells #[.slice none 0 0, .slice none 0 0, .bool false, .bool false, .bool false] 27)) w.heap.size 27 (tc (.slice ab n cb) (.slice aD k cD) p r l)) := (Box.new w 27 #[.slice ab n cb, .slice aD k cD, .bool p, .bool r, .bool l]).alloc _
  have BR : Hid (Box ((w.alloc (.cells #[.slice ab n cb, .slice aD k cD, .bool p, .bool r, .bool l] 27)).alloc (.cells #[.slice none 0 0, .slice none 0 0, .bool false, .bool false, .bool false] 27)) (w.heap.size + 1) 27 (tc (.slice none 0 0) (.slice none 0 0) false false false)) := Box.new' _ _ _ _ rfl _ (by simp)
  have L := hide (((Later.refl w).alloc (.cells #[.slice ab n cb, .slice aD k cD, .bool p, .bool r, .bool l] 27)).alloc (.cells #[.slice none 0 0, .slice none 0 0, .bool false, .bool false, .bool false] 27))
  go_enter Tryz.func109, Tryz.ntmps109
  go_wp2_with fail
  generalize ((w.alloc (.cells #[.slice ab n cb, .slice aD k cD, .bool p, .bool r, .bool l] 27)).alloc (.cells #[.slice none 0 0, .slice none 0 0, .bool false, .bool false, .bool false] 27)) = w1 at *
  have hc := fun r => ((Later.refl w1).drew.trans (later_rg w1.drew r))
  have hc0 := fun r => (BX.out.later (hc r)).cell 0
  have hc1 := fun r => (BX.out.later (hc r)).cell 1
  refine wp_region_tree [0, 1, 2, 4, 5, 6] [3, 7] [8, 9, 10] (by kernel_rfl) (by kernel_rfl) (by kernel_rfl) (by kernel_rfl) ?_
  iterate 6 (refine wpT_mild rfl (fun K hK => ?_); go_simp; refine hK _ ?_; clear hK K)
  clear hc0 hc1 hc
  refine wpT_bag (fun i => match i with | 7 => [3] | _ => []) (fun i vals W => match i with
    | 3 => W.ownsRow w.heap.size 80 64 (vals 3) n (bv F)
    | 7 => W.ownsRow w.heap.size 83 65 (vals 7) k (dv D)
    | _ => True) (by kernel_rfl) ?b1 ?b2 ?b3 ?b4
  case b1 =>
    intro i hi vals W W' hl h
    simp only [List.mem_cons, List.not_mem_nil, or_false] at hi
    rcases hi with rfl | rfl
    · exact owns_later h hl
    · exact owns_later h hl
  case b2 =>
    intro i hi k hk hne hds vals v W h
    simp only [List.mem_cons, List.not_mem_nil, or_false] at hi hk
    rcases hi with rfl | rfl <;> rcases hk with rfl | rfl <;> first | (exact absurd rfl hne) | (simpa [upd] using h) | (simp at hds)
  case b3 =>
    intro i hi vals W hl hdep
    have L1W := (Later.refl w1).drew.trans hl
    have LW := hide (L.out.trans L1W)
    simp only [List.mem_cons, List.not_mem_nil, or_false] at hi
    rcases hi with rfl | rfl
    · refine lVal_step rfl (fun K hK => ?_)
      simp only [putAll, List.foldl]
      go_simp
      refine (clone64_c W (HB.out.later LW.out) (by omega)).mono ?_
      rintro e w3 ⟨v3, rfl, hl3, ho3⟩
      exact ⟨v3, rfl, hl3, hK _ _ (by simpa [upd] using owns_rebase ho3 LW.out.size)⟩
    · refine lVal_step rfl (fun K hK => ?_)
      simp only [putAll, List.foldl]
      go_simp
      refine (clone65_c W (HD.out.later LW.out) (by omega)).mono ?_
      rintro e w3 ⟨v3, rfl, hl3, ho3⟩
      exact ⟨v3, rfl, hl3, hK _ _ (by simpa [upd] using owns_rebase ho3 LW.out.size)⟩
  case b4 =>
    intro vals w7 hl hall
    have hw7 := (Later.refl w1).drew.trans hl
    have h3 : w7.ownsRow w.heap.size 80 64 (vals 3) n (bv F) := hall 3 (by simp)
    have h7 : w7.ownsRow w.heap.size 83 65 (vals 7) k (dv D) := hall 7 (by simp)
    generalize hv3 : vals 3 = v3 at *
    generalize hv7 : vals 7 = v7 at *
    have FR : Hid (Fresh w.heap.size (.agg #[v3, v7, .bool p, .bool r, .bool l])) := fun g hg => ⟨_, _, _, _, _, rfl, owns_off h3 hg, owns_off h7 hg⟩
    have M : Hid (Med w7 (.agg #[v3, v7]) n F D) := ⟨_, _, rfl, Rw.of_owns h3, by rw [← HK.out]; exact Rw.of_owns h7, HO.out⟩
    obtain ⟨a3, c3, rfl⟩ := (Rw.of_owns h3).shape
    obtain ⟨a6, c6, rfl⟩ := (Rw.of_owns h7).shape
    replace BX := hide (BX.out.later hw7)
    replace BR := hide (BR.out.later hw7)
    replace L := hide (L.out.later hw7)
    clear h3 h7 hall hl hw7
    refine wpL_cons rfl (fun K hK => ?_)
    simp only [putAll, List.foldl, dstOf, hv3, hv7]
    go_simp
    refine hK _ _ ?_
    clear hK K
    refine wpL_cons rfl (fun K hK => ?_)
    go_simp
    refine hK _ _ ?_
    clear hK K
    refine wpL_store rfl (by kernel_rfl) 25 (.tmp 12) (.tmp 11) rfl w.heap.size 0 [.slice a3 n c3, .slice a6 k c6] rfl rfl (BX.out.there 0 2 (by simp)) (zero_of_info Tryz.zero_medium).2 (by simp [Value.oneCell']) (wpL_nil ?_)
    obtain ⟨w8, hw8⟩ : ∃ w8, Hid (w8 = w7.setCells w.heap.size 0 [.slice a3 n c3, .slice a6 k c6]) := ⟨_, rfl⟩
    rw [← hw8.out]
    have T := hide (tri_set (Nat.le_refl _) (by omega) BX.out (tc_noints _ _ _ _ _ _ _ _ _) BR.out L.out M.out [.slice a3 n c3, .slice a6 k c6] 0 (by simp))
    rw [← hw8.out] at T
    clear BX BR L M hw8
    have BX : Hid (Box w8 w.heap.size 27 (tc (.slice a3 n c3) (.slice a6 k c6) p r l)) := T.out.1
    have BR := hide T.out.2.1
    have L := hide T.out.2.2.1
    have M := hide T.out.2.2.2
    clear T
    have HE := hide (slot_set (p := p) (r := r) (l := l) (by omega) BR.out (tc_noints _ _ _ _ _ _ _ _ _) rfl L.out M.out)
    have d0 := BX.out.cell 0
    have d1 := BX.out.cell 1
    have d2 := BX.out.cell 2
    have d3 := BX.out.cell 3
    have d4 := BX.out.cell 4
    go_wp2_with (refine wpList_storeT rfl 27 (.tmp 2) (.tmp 13) rfl (w.heap.size + 1) 0 rfl (tc (.slice a3 n c3) (.slice a6 k c6) p r l) rfl Tryz.info_slot (tc_one _ _ _ _ _ _ _ _ _) _ _ BR.out (by simp) ?_)
    intro wz hwz
    rw [← hwz.out] at HE
    clear BX BR L M d0 d1 d2 d3 d4 hwz
    go_wp2
    refine bodyPost_ret (results_cell1 rfl _ _ _ (w.heap.size + 1) 0 rfl (.agg #[.slice a3 n c3, .slice a6 k c6, .bool p, .bool r, .bool l]) (shut5 HE.out.1 rfl)) rfl ⟨_, rfl, HE.out.2.1, ?_, FR.out⟩
    exact Slt.mk' _ _ _ HE.out.2.2
end Go.Proofs.YtfakboehmcimpaaGreat
