import Derived.Test.YtfakboehmcimpaaGreatMAR
import Derived.Test.YtfakboehmcimpaaGreatMAN
import Derived.Test.YtfakboehmcimpaaGreatMAP
import Derived.Test.YtfakboehmcimpaaGreatMAH
namespace Go.Proofs.YtfakboehmcimpaaGreat
open Go.ChangeShapes Go.WideShapes Go.ChangeAt Go.RowKit
set_option linter.unusedVariables false
set_option maxRecDepth 4000
set_option linter.unusedSimpArgs false
/-! The document's capacity: Luns. -/
def cntN (k : Int) : Nat := if k > 4 then 4 else if k < 0 then 0 else k.toNat
theorem cntN_le (k : Int) : cntN k ≤ 4 := by unfold cntN; (repeat' split) <;> omega
def entL (i : Nat) : List UInt8 := [0, UInt8.ofNat i, 0, 0, 0, 0, 0, 0]
def entsL : Nat → List UInt8
  | 0 => []
  | k + 1 => entsL k ++ entL k
theorem entsL_len (k : Nat) : (entsL k).length = 8 * k := by
  induction k with
  | zero => rfl
  | succ k ih => rw [entsL, List.length_append, ih]; simp [entL]; omega
def headL (c : Nat) : List UInt8 := [0, 0, 0, UInt8.ofNat (c * 8), 0, 0, 0, 0]
def lunsL (c : Nat) : List UInt8 := headL c ++ entsL c
theorem lunsL_len (c : Nat) : (lunsL c).length = 8 + 8 * c := by rw [lunsL, List.length_append, entsL_len]; rfl
theorem bs_ent (w : World) (x : UInt8) : Bs (w.alloc (.cells #[.int .u8 0, .int .u8 (x.toNat : Int), .int .u8 0, .int .u8 0, .int .u8 0, .int .u8 0, .int .u8 0, .int .u8 0] 5)) (.slice (some ⟨w.heap.size, 0, none⟩) 8 8) [0, x, 0, 0, 0, 0, 0, 0] :=
  (Bs.of_owns (owns_box (n := 8) (Box.new w 5 #[.int .u8 0, .int .u8 (x.toNat : Int), .int .u8 0, .int .u8 0, .int .u8 0, .int .u8 0, .int .u8 0, .int .u8 0]) (l := [0, x, 0, 0, 0, 0, 0, 0]) rfl (by decide) (Nat.le_refl _))).1
theorem owns_head9 (w : World) (x : UInt8) : (w.alloc (.cells #[.int .u8 0, .int .u8 0, .int .u8 0, .int .u8 (x.toNat : Int), .int .u8 0, .int .u8 0, .int .u8 0, .int .u8 0] 5)).ownsRow w.heap.size 5 1 (.slice (some ⟨w.heap.size, 0, none⟩) 8 8) 8 (bv [0, 0, 0, x, 0, 0, 0, 0]) :=
  owns_box (Box.new w 5 #[.int .u8 0, .int .u8 0, .int .u8 0, .int .u8 (x.toNat : Int), .int .u8 0, .int .u8 0, .int .u8 0, .int .u8 0]) (l := [0, 0, 0, x, 0, 0, 0, 0]) rfl (by decide) (Nat.le_refl _)
set_option maxHeartbeats 2000000 in
theorem rluns9_c (k n : Int) (w : World) : Calls Tryz.prog 43 #[.int .i64 k, .int .i64 n] w fun e w' => ∃ v, e = .returned v ∧ Later w w' ∧ Bs w' v (cutL (lunsL (cntN k)) n) := by
  by_cases h4 : k > 4
  · have hb : decide (4 < k) = true := by simp; omega
    rw [show cntN k = 4 by unfold cntN; rw [if_pos h4]]
    have HO : Hid ((w.alloc (.cells #[.int .u8 0, .int .u8 0, .int .u8 0, .int .u8 ((32 : UInt8).toNat : Int), .int .u8 0, .int .u8 0, .int .u8 0, .int .u8 0] 5)).ownsRow w.heap.size 5 1 (.slice (some ⟨w.heap.size, 0, none⟩) 8 8) (8 + 8 * 0) (bv (headL 4 ++ entsL 0))) := owns_head9 w 32
    have HL := hide ((Later.refl w).alloc (.cells #[.int .u8 0, .int .u8 0, .int .u8 0, .int .u8 ((32 : UInt8).toNat : Int), .int .u8 0, .int .u8 0, .int .u8 0, .int .u8 0] 5))
    go_enter Tryz.func43, Tryz.ntmps43
    go_wp2_with fail
    go_loopw [5, 6] (fun v i wr => ∃ q : Nat, q ≤ 4 ∧ i = .int .i64 q ∧ Hid (wr.ownsRow w.heap.size 5 1 v (8 + 8 * q) (bv (headL 4 ++ entsL q))) ∧ Hid (Later w wr)) (fun _ i _ => 4 - (intOf i).toNat)
    case atStart => exact ⟨0, by omega, rfl, HO, HL⟩
    case round =>
      clear HO HL
      obtain ⟨q, hq, rfl, HO, HL⟩ := hrel
      by_cases hlt : q < 4
      · obtain ⟨x, hx⟩ : ∃ x : UInt8, x = UInt8.ofNat q := ⟨_, rfl⟩
        have hxn : (x.toNat : Int) = (q : Int) := by rw [hx]; simp; omega
        have HE : Hid (headL 4 ++ entsL (q + 1) = (headL 4 ++ entsL q) ++ [0, x, 0, 0, 0, 0, 0, 0]) := by rw [Hid, entsL, hx, ← List.append_assoc]; rfl
        clear hx
        have hsz := HL.out.size
        have hone := hide (bs_ent wr x)
        rw [hxn] at hone
        have hor := hide (owns_later HO.out ((Later.refl wr).alloc (.cells #[.int .u8 0, .int .u8 (q : Int), .int .u8 0, .int .u8 0, .int .u8 0, .int .u8 0, .int .u8 0, .int .u8 0] 5)))
        have hbr := hide (HL.out.alloc (.cells #[.int .u8 0, .int .u8 (q : Int), .int .u8 0, .int .u8 0, .int .u8 0, .int .u8 0, .int .u8 0, .int .u8 0] 5))
        clear HO HL
        go_wp2_with (at_builtin; refine wpList_append_bs rfl (.tmp 20) (.tmp 23) rfl w.heap.size _ (8 + 8 * q) _ rfl hor.out _ [0, x, 0, 0, 0, 0, 0, 0] rfl hone.out ?c1 ?c2 w hbr.out ?_)
        case c1 => simp; omega
        case c2 => simp; omega
        intro v' w' ho' hb' hg'
        have R : Hid (w'.ownsRow w.heap.size 5 1 v' (8 + 8 * (q + 1)) (bv (headL 4 ++ entsL (q + 1)))) := by rw [HE.out]; first | exact ho' | (rw [List.append_assoc]; exact ho')
        have RL : Hid (Later w w') := hb'
        clear ho' hb' hg' hor hone hbr HE
        go_wp2
        go_roundw
        case rel => exact ⟨q + 1, by omega, by go_num, R, RL⟩
        case measure => simp [intOf]; omega
      · have hqn : Hid (q = 4) := by unfold Hid; omega
        have VB : Hid (Bs wr u5 (lunsL 4)) := by
          have := (Bs.of_owns HO.out).1
          rw [hqn.out] at this
          exact this
        clear HO
        go_wp2_with fail
        refine (rcut_c n _ VB.out (by rw [lunsL_len]; omega)).mono ?_
        rintro e w6 ⟨v6, rfl, hl, hv⟩
        have V6 := hide hv
        have L6 := hide (HL.out.trans hl)
        clear hl hv
        go_wp2
        go_ret
        exact ⟨_, rfl, L6.out, V6.out⟩
  have hb : decide (4 < k) = false := by simp; omega
  by_cases h0 : k < 0
  · have hb0 : decide (k < 0) = true := by simp; omega
    rw [show cntN k = 0 by unfold cntN; rw [if_neg h4, if_pos h0]]
    have HO : Hid ((w.alloc (.cells #[.int .u8 0, .int .u8 0, .int .u8 0, .int .u8 ((0 : UInt8).toNat : Int), .int .u8 0, .int .u8 0, .int .u8 0, .int .u8 0] 5)).ownsRow w.heap.size 5 1 (.slice (some ⟨w.heap.size, 0, none⟩) 8 8) (8 + 8 * 0) (bv (headL 0 ++ entsL 0))) := owns_head9 w 0
    have HL := hide ((Later.refl w).alloc (.cells #[.int .u8 0, .int .u8 0, .int .u8 0, .int .u8 ((0 : UInt8).toNat : Int), .int .u8 0, .int .u8 0, .int .u8 0, .int .u8 0] 5))
    go_enter Tryz.func43, Tryz.ntmps43
    go_wp2_with fail
    go_loopw [5, 6] (fun v i wr => ∃ q : Nat, q ≤ 0 ∧ i = .int .i64 q ∧ Hid (wr.ownsRow w.heap.size 5 1 v (8 + 8 * q) (bv (headL 0 ++ entsL q))) ∧ Hid (Later w wr)) (fun _ i _ => 0 - (intOf i).toNat)
    case atStart => exact ⟨0, by omega, rfl, HO, HL⟩
    case round =>
      clear HO HL
      obtain ⟨q, hq, rfl, HO, HL⟩ := hrel
      by_cases hlt : q < 0
      · omega
      · have hqn : Hid (q = 0) := by unfold Hid; omega
        have VB : Hid (Bs wr u5 (lunsL 0)) := by
          have := (Bs.of_owns HO.out).1
          rw [hqn.out] at this
          exact this
        clear HO
        go_wp2_with fail
        refine (rcut_c n _ VB.out (by rw [lunsL_len]; omega)).mono ?_
        rintro e w6 ⟨v6, rfl, hl, hv⟩
        have V6 := hide hv
        have L6 := hide (HL.out.trans hl)
        clear hl hv
        go_wp2
        go_ret
        exact ⟨_, rfl, L6.out, V6.out⟩
  have hb0 : decide (k < 0) = false := by simp; omega
  obtain ⟨c, rfl⟩ : ∃ c : Nat, k = c := ⟨k.toNat, by omega⟩
  rw [show cntN (c : Int) = c by unfold cntN; rw [if_neg h4, if_neg h0]; omega]
  rcases (show c = 0 ∨ c = 1 ∨ c = 2 ∨ c = 3 ∨ c = 4 by omega) with rfl | rfl | rfl | rfl | rfl
  · have HO : Hid ((w.alloc (.cells #[.int .u8 0, .int .u8 0, .int .u8 0, .int .u8 ((0 : UInt8).toNat : Int), .int .u8 0, .int .u8 0, .int .u8 0, .int .u8 0] 5)).ownsRow w.heap.size 5 1 (.slice (some ⟨w.heap.size, 0, none⟩) 8 8) (8 + 8 * 0) (bv (headL 0 ++ entsL 0))) := owns_head9 w 0
    have HL := hide ((Later.refl w).alloc (.cells #[.int .u8 0, .int .u8 0, .int .u8 0, .int .u8 ((0 : UInt8).toNat : Int), .int .u8 0, .int .u8 0, .int .u8 0, .int .u8 0] 5))
    go_enter Tryz.func43, Tryz.ntmps43
    go_wp2_with fail
    go_loopw [5, 6] (fun v i wr => ∃ q : Nat, q ≤ 0 ∧ i = .int .i64 q ∧ Hid (wr.ownsRow w.heap.size 5 1 v (8 + 8 * q) (bv (headL 0 ++ entsL q))) ∧ Hid (Later w wr)) (fun _ i _ => 0 - (intOf i).toNat)
    case atStart => exact ⟨0, by omega, rfl, HO, HL⟩
    case round =>
      clear HO HL
      obtain ⟨q, hq, rfl, HO, HL⟩ := hrel
      by_cases hlt : q < 0
      · omega
      · have hqn : Hid (q = 0) := by unfold Hid; omega
        have VB : Hid (Bs wr u5 (lunsL 0)) := by
          have := (Bs.of_owns HO.out).1
          rw [hqn.out] at this
          exact this
        clear HO
        go_wp2_with fail
        refine (rcut_c n _ VB.out (by rw [lunsL_len]; omega)).mono ?_
        rintro e w6 ⟨v6, rfl, hl, hv⟩
        have V6 := hide hv
        have L6 := hide (HL.out.trans hl)
        clear hl hv
        go_wp2
        go_ret
        exact ⟨_, rfl, L6.out, V6.out⟩
  · have HO : Hid ((w.alloc (.cells #[.int .u8 0, .int .u8 0, .int .u8 0, .int .u8 ((8 : UInt8).toNat : Int), .int .u8 0, .int .u8 0, .int .u8 0, .int .u8 0] 5)).ownsRow w.heap.size 5 1 (.slice (some ⟨w.heap.size, 0, none⟩) 8 8) (8 + 8 * 0) (bv (headL 1 ++ entsL 0))) := owns_head9 w 8
    have HL := hide ((Later.refl w).alloc (.cells #[.int .u8 0, .int .u8 0, .int .u8 0, .int .u8 ((8 : UInt8).toNat : Int), .int .u8 0, .int .u8 0, .int .u8 0, .int .u8 0] 5))
    go_enter Tryz.func43, Tryz.ntmps43
    go_wp2_with fail
    go_loopw [5, 6] (fun v i wr => ∃ q : Nat, q ≤ 1 ∧ i = .int .i64 q ∧ Hid (wr.ownsRow w.heap.size 5 1 v (8 + 8 * q) (bv (headL 1 ++ entsL q))) ∧ Hid (Later w wr)) (fun _ i _ => 1 - (intOf i).toNat)
    case atStart => exact ⟨0, by omega, rfl, HO, HL⟩
    case round =>
      clear HO HL
      obtain ⟨q, hq, rfl, HO, HL⟩ := hrel
      by_cases hlt : q < 1
      · obtain ⟨x, hx⟩ : ∃ x : UInt8, x = UInt8.ofNat q := ⟨_, rfl⟩
        have hxn : (x.toNat : Int) = (q : Int) := by rw [hx]; simp; omega
        have HE : Hid (headL 1 ++ entsL (q + 1) = (headL 1 ++ entsL q) ++ [0, x, 0, 0, 0, 0, 0, 0]) := by rw [Hid, entsL, hx, ← List.append_assoc]; rfl
        clear hx
        have hsz := HL.out.size
        have hone := hide (bs_ent wr x)
        rw [hxn] at hone
        have hor := hide (owns_later HO.out ((Later.refl wr).alloc (.cells #[.int .u8 0, .int .u8 (q : Int), .int .u8 0, .int .u8 0, .int .u8 0, .int .u8 0, .int .u8 0, .int .u8 0] 5)))
        have hbr := hide (HL.out.alloc (.cells #[.int .u8 0, .int .u8 (q : Int), .int .u8 0, .int .u8 0, .int .u8 0, .int .u8 0, .int .u8 0, .int .u8 0] 5))
        clear HO HL
        go_wp2_with (at_builtin; refine wpList_append_bs rfl (.tmp 20) (.tmp 23) rfl w.heap.size _ (8 + 8 * q) _ rfl hor.out _ [0, x, 0, 0, 0, 0, 0, 0] rfl hone.out ?c1 ?c2 w hbr.out ?_)
        case c1 => simp; omega
        case c2 => simp; omega
        intro v' w' ho' hb' hg'
        have R : Hid (w'.ownsRow w.heap.size 5 1 v' (8 + 8 * (q + 1)) (bv (headL 1 ++ entsL (q + 1)))) := by rw [HE.out]; first | exact ho' | (rw [List.append_assoc]; exact ho')
        have RL : Hid (Later w w') := hb'
        clear ho' hb' hg' hor hone hbr HE
        go_wp2
        go_roundw
        case rel => exact ⟨q + 1, by omega, by go_num, R, RL⟩
        case measure => simp [intOf]; omega
      · have hqn : Hid (q = 1) := by unfold Hid; omega
        have VB : Hid (Bs wr u5 (lunsL 1)) := by
          have := (Bs.of_owns HO.out).1
          rw [hqn.out] at this
          exact this
        clear HO
        go_wp2_with fail
        refine (rcut_c n _ VB.out (by rw [lunsL_len]; omega)).mono ?_
        rintro e w6 ⟨v6, rfl, hl, hv⟩
        have V6 := hide hv
        have L6 := hide (HL.out.trans hl)
        clear hl hv
        go_wp2
        go_ret
        exact ⟨_, rfl, L6.out, V6.out⟩
  · have HO : Hid ((w.alloc (.cells #[.int .u8 0, .int .u8 0, .int .u8 0, .int .u8 ((16 : UInt8).toNat : Int), .int .u8 0, .int .u8 0, .int .u8 0, .int .u8 0] 5)).ownsRow w.heap.size 5 1 (.slice (some ⟨w.heap.size, 0, none⟩) 8 8) (8 + 8 * 0) (bv (headL 2 ++ entsL 0))) := owns_head9 w 16
    have HL := hide ((Later.refl w).alloc (.cells #[.int .u8 0, .int .u8 0, .int .u8 0, .int .u8 ((16 : UInt8).toNat : Int), .int .u8 0, .int .u8 0, .int .u8 0, .int .u8 0] 5))
    go_enter Tryz.func43, Tryz.ntmps43
    go_wp2_with fail
    go_loopw [5, 6] (fun v i wr => ∃ q : Nat, q ≤ 2 ∧ i = .int .i64 q ∧ Hid (wr.ownsRow w.heap.size 5 1 v (8 + 8 * q) (bv (headL 2 ++ entsL q))) ∧ Hid (Later w wr)) (fun _ i _ => 2 - (intOf i).toNat)
    case atStart => exact ⟨0, by omega, rfl, HO, HL⟩
    case round =>
      clear HO HL
      obtain ⟨q, hq, rfl, HO, HL⟩ := hrel
      by_cases hlt : q < 2
      · obtain ⟨x, hx⟩ : ∃ x : UInt8, x = UInt8.ofNat q := ⟨_, rfl⟩
        have hxn : (x.toNat : Int) = (q : Int) := by rw [hx]; simp; omega
        have HE : Hid (headL 2 ++ entsL (q + 1) = (headL 2 ++ entsL q) ++ [0, x, 0, 0, 0, 0, 0, 0]) := by rw [Hid, entsL, hx, ← List.append_assoc]; rfl
        clear hx
        have hsz := HL.out.size
        have hone := hide (bs_ent wr x)
        rw [hxn] at hone
        have hor := hide (owns_later HO.out ((Later.refl wr).alloc (.cells #[.int .u8 0, .int .u8 (q : Int), .int .u8 0, .int .u8 0, .int .u8 0, .int .u8 0, .int .u8 0, .int .u8 0] 5)))
        have hbr := hide (HL.out.alloc (.cells #[.int .u8 0, .int .u8 (q : Int), .int .u8 0, .int .u8 0, .int .u8 0, .int .u8 0, .int .u8 0, .int .u8 0] 5))
        clear HO HL
        go_wp2_with (at_builtin; refine wpList_append_bs rfl (.tmp 20) (.tmp 23) rfl w.heap.size _ (8 + 8 * q) _ rfl hor.out _ [0, x, 0, 0, 0, 0, 0, 0] rfl hone.out ?c1 ?c2 w hbr.out ?_)
        case c1 => simp; omega
        case c2 => simp; omega
        intro v' w' ho' hb' hg'
        have R : Hid (w'.ownsRow w.heap.size 5 1 v' (8 + 8 * (q + 1)) (bv (headL 2 ++ entsL (q + 1)))) := by rw [HE.out]; first | exact ho' | (rw [List.append_assoc]; exact ho')
        have RL : Hid (Later w w') := hb'
        clear ho' hb' hg' hor hone hbr HE
        go_wp2
        go_roundw
        case rel => exact ⟨q + 1, by omega, by go_num, R, RL⟩
        case measure => simp [intOf]; omega
      · have hqn : Hid (q = 2) := by unfold Hid; omega
        have VB : Hid (Bs wr u5 (lunsL 2)) := by
          have := (Bs.of_owns HO.out).1
          rw [hqn.out] at this
          exact this
        clear HO
        go_wp2_with fail
        refine (rcut_c n _ VB.out (by rw [lunsL_len]; omega)).mono ?_
        rintro e w6 ⟨v6, rfl, hl, hv⟩
        have V6 := hide hv
        have L6 := hide (HL.out.trans hl)
        clear hl hv
        go_wp2
        go_ret
        exact ⟨_, rfl, L6.out, V6.out⟩
  · have HO : Hid ((w.alloc (.cells #[.int .u8 0, .int .u8 0, .int .u8 0, .int .u8 ((24 : UInt8).toNat : Int), .int .u8 0, .int .u8 0, .int .u8 0, .int .u8 0] 5)).ownsRow w.heap.size 5 1 (.slice (some ⟨w.heap.size, 0, none⟩) 8 8) (8 + 8 * 0) (bv (headL 3 ++ entsL 0))) := owns_head9 w 24
    have HL := hide ((Later.refl w).alloc (.cells #[.int .u8 0, .int .u8 0, .int .u8 0, .int .u8 ((24 : UInt8).toNat : Int), .int .u8 0, .int .u8 0, .int .u8 0, .int .u8 0] 5))
    go_enter Tryz.func43, Tryz.ntmps43
    go_wp2_with fail
    go_loopw [5, 6] (fun v i wr => ∃ q : Nat, q ≤ 3 ∧ i = .int .i64 q ∧ Hid (wr.ownsRow w.heap.size 5 1 v (8 + 8 * q) (bv (headL 3 ++ entsL q))) ∧ Hid (Later w wr)) (fun _ i _ => 3 - (intOf i).toNat)
    case atStart => exact ⟨0, by omega, rfl, HO, HL⟩
    case round =>
      clear HO HL
      obtain ⟨q, hq, rfl, HO, HL⟩ := hrel
      by_cases hlt : q < 3
      · obtain ⟨x, hx⟩ : ∃ x : UInt8, x = UInt8.ofNat q := ⟨_, rfl⟩
        have hxn : (x.toNat : Int) = (q : Int) := by rw [hx]; simp; omega
        have HE : Hid (headL 3 ++ entsL (q + 1) = (headL 3 ++ entsL q) ++ [0, x, 0, 0, 0, 0, 0, 0]) := by rw [Hid, entsL, hx, ← List.append_assoc]; rfl
        clear hx
        have hsz := HL.out.size
        have hone := hide (bs_ent wr x)
        rw [hxn] at hone
        have hor := hide (owns_later HO.out ((Later.refl wr).alloc (.cells #[.int .u8 0, .int .u8 (q : Int), .int .u8 0, .int .u8 0, .int .u8 0, .int .u8 0, .int .u8 0, .int .u8 0] 5)))
        have hbr := hide (HL.out.alloc (.cells #[.int .u8 0, .int .u8 (q : Int), .int .u8 0, .int .u8 0, .int .u8 0, .int .u8 0, .int .u8 0, .int .u8 0] 5))
        clear HO HL
        go_wp2_with (at_builtin; refine wpList_append_bs rfl (.tmp 20) (.tmp 23) rfl w.heap.size _ (8 + 8 * q) _ rfl hor.out _ [0, x, 0, 0, 0, 0, 0, 0] rfl hone.out ?c1 ?c2 w hbr.out ?_)
        case c1 => simp; omega
        case c2 => simp; omega
        intro v' w' ho' hb' hg'
        have R : Hid (w'.ownsRow w.heap.size 5 1 v' (8 + 8 * (q + 1)) (bv (headL 3 ++ entsL (q + 1)))) := by rw [HE.out]; first | exact ho' | (rw [List.append_assoc]; exact ho')
        have RL : Hid (Later w w') := hb'
        clear ho' hb' hg' hor hone hbr HE
        go_wp2
        go_roundw
        case rel => exact ⟨q + 1, by omega, by go_num, R, RL⟩
        case measure => simp [intOf]; omega
      · have hqn : Hid (q = 3) := by unfold Hid; omega
        have VB : Hid (Bs wr u5 (lunsL 3)) := by
          have := (Bs.of_owns HO.out).1
          rw [hqn.out] at this
          exact this
        clear HO
        go_wp2_with fail
        refine (rcut_c n _ VB.out (by rw [lunsL_len]; omega)).mono ?_
        rintro e w6 ⟨v6, rfl, hl, hv⟩
        have V6 := hide hv
        have L6 := hide (HL.out.trans hl)
        clear hl hv
        go_wp2
        go_ret
        exact ⟨_, rfl, L6.out, V6.out⟩
  · have HO : Hid ((w.alloc (.cells #[.int .u8 0, .int .u8 0, .int .u8 0, .int .u8 ((32 : UInt8).toNat : Int), .int .u8 0, .int .u8 0, .int .u8 0, .int .u8 0] 5)).ownsRow w.heap.size 5 1 (.slice (some ⟨w.heap.size, 0, none⟩) 8 8) (8 + 8 * 0) (bv (headL 4 ++ entsL 0))) := owns_head9 w 32
    have HL := hide ((Later.refl w).alloc (.cells #[.int .u8 0, .int .u8 0, .int .u8 0, .int .u8 ((32 : UInt8).toNat : Int), .int .u8 0, .int .u8 0, .int .u8 0, .int .u8 0] 5))
    go_enter Tryz.func43, Tryz.ntmps43
    go_wp2_with fail
    go_loopw [5, 6] (fun v i wr => ∃ q : Nat, q ≤ 4 ∧ i = .int .i64 q ∧ Hid (wr.ownsRow w.heap.size 5 1 v (8 + 8 * q) (bv (headL 4 ++ entsL q))) ∧ Hid (Later w wr)) (fun _ i _ => 4 - (intOf i).toNat)
    case atStart => exact ⟨0, by omega, rfl, HO, HL⟩
    case round =>
      clear HO HL
      obtain ⟨q, hq, rfl, HO, HL⟩ := hrel
      by_cases hlt : q < 4
      · obtain ⟨x, hx⟩ : ∃ x : UInt8, x = UInt8.ofNat q := ⟨_, rfl⟩
        have hxn : (x.toNat : Int) = (q : Int) := by rw [hx]; simp; omega
        have HE : Hid (headL 4 ++ entsL (q + 1) = (headL 4 ++ entsL q) ++ [0, x, 0, 0, 0, 0, 0, 0]) := by rw [Hid, entsL, hx, ← List.append_assoc]; rfl
        clear hx
        have hsz := HL.out.size
        have hone := hide (bs_ent wr x)
        rw [hxn] at hone
        have hor := hide (owns_later HO.out ((Later.refl wr).alloc (.cells #[.int .u8 0, .int .u8 (q : Int), .int .u8 0, .int .u8 0, .int .u8 0, .int .u8 0, .int .u8 0, .int .u8 0] 5)))
        have hbr := hide (HL.out.alloc (.cells #[.int .u8 0, .int .u8 (q : Int), .int .u8 0, .int .u8 0, .int .u8 0, .int .u8 0, .int .u8 0, .int .u8 0] 5))
        clear HO HL
        go_wp2_with (at_builtin; refine wpList_append_bs rfl (.tmp 20) (.tmp 23) rfl w.heap.size _ (8 + 8 * q) _ rfl hor.out _ [0, x, 0, 0, 0, 0, 0, 0] rfl hone.out ?c1 ?c2 w hbr.out ?_)
        case c1 => simp; omega
        case c2 => simp; omega
        intro v' w' ho' hb' hg'
        have R : Hid (w'.ownsRow w.heap.size 5 1 v' (8 + 8 * (q + 1)) (bv (headL 4 ++ entsL (q + 1)))) := by rw [HE.out]; first | exact ho' | (rw [List.append_assoc]; exact ho')
        have RL : Hid (Later w w') := hb'
        clear ho' hb' hg' hor hone hbr HE
        go_wp2
        go_roundw
        case rel => exact ⟨q + 1, by omega, by go_num, R, RL⟩
        case measure => simp [intOf]; omega
      · have hqn : Hid (q = 4) := by unfold Hid; omega
        have VB : Hid (Bs wr u5 (lunsL 4)) := by
          have := (Bs.of_owns HO.out).1
          rw [hqn.out] at this
          exact this
        clear HO
        go_wp2_with fail
        refine (rcut_c n _ VB.out (by rw [lunsL_len]; omega)).mono ?_
        rintro e w6 ⟨v6, rfl, hl, hv⟩
        have V6 := hide hv
        have L6 := hide (HL.out.trans hl)
        clear hl hv
        go_wp2
        go_ret
        exact ⟨_, rfl, L6.out, V6.out⟩
end Go.Proofs.YtfakboehmcimpaaGreat

namespace Go.Proofs.YtfakboehmcimpaaGreat
open Go.ChangeShapes Go.WideShapes Go.ChangeAt Go.RowKit
set_option linter.unusedVariables false
set_option maxRecDepth 4000
set_option linter.unusedSimpArgs false
/-! Intents in memory, and what the document's Begin comes to. -/
/-- an intent's cells -/
abbrev ic (dir len : Int) (ax : Option Addr) (kx cx : Nat) (c : Cmd) (jl jt : Int) (ar : Option Addr) (kr cr : Nat) (S s : Sns) : List Value :=
  [.int .i64 dir, .int .i64 len, .slice ax kx cx, .int .i64 c.1, .int .u64 (c.2.1 : Int), .int .i64 c.2.2.1, .int .i64 c.2.2.2.1, .int .i64 c.2.2.2.2, .int .i64 jl, .int .i64 jt, .slice ar kr cr, .int .i64 S.1, .int .i64 S.2.1, .int .i64 S.2.2, .int .i64 s.1, .int .i64 s.2.1, .int .i64 s.2.2]
theorem ic_one (dir len : Int) (ax : Option Addr) (kx cx : Nat) (c : Cmd) (jl jt : Int) (ar : Option Addr) (kr cr : Nat) (S s : Sns) : ∀ u ∈ ic dir len ax kx cx c jl jt ar kr cr S s, u.oneCell' = true := by
  intro x hx
  simp only [List.mem_cons, List.not_mem_nil, or_false] at hx
  rcases hx with rfl | rfl | rfl | rfl | rfl | rfl | rfl | rfl | rfl | rfl | rfl | rfl | rfl | rfl | rfl | rfl | rfl <;> rfl
theorem ic_nob (dir len : Int) (ax : Option Addr) (kx cx : Nat) (c : Cmd) (jl jt : Int) (ar : Option Addr) (kr cr : Nat) (S s : Sns) : NoB (ic dir len ax kx cx c jl jt ar kr cr S s) := by intro z h; simp at h
abbrev ival (dir len : Int) (ax : Option Addr) (kx cx : Nat) (c : Cmd) (jl jt : Int) (ar : Option Addr) (kr cr : Nat) (S s : Sns) : Value := .agg (ic dir len ax kx cx c jl jt ar kr cr S s).toArray
theorem Tryz.info_intent : (Tryz.prog.info? 44).map (·.size) = some 17 := by kernel_rfl
theorem Tryz.zero_intent : (Tryz.prog.info? 44).map (fun i => (i.zero, i.size)) = some (some (.agg #[.int .i64 0, .int .i64 0, .slice none 0 0, .int .i64 0, .int .u64 0, .int .i64 0, .int .i64 0, .int .i64 0, .int .i64 0, .int .i64 0, .slice none 0 0, .int .i64 0, .int .i64 0, .int .i64 0, .int .i64 0, .int .i64 0, .int .i64 0]), 17) := by kernel_rfl
theorem load_intent {w : World} {R : Nat} {cs : List Value} (h : Box w R 44 cs) (hl : cs.length = 17) : (loadVar 44 ⟨R, 0, none⟩).run Tryz.prog w = .ok (.agg cs.toArray) w :=
  run_loadVar_mid _ _ _ _ cs _ h.range Tryz.underlying44 rfl (by rw [Tryz.info_intent, hl])
/-- an intent, told: the direction, how many, the bytes, the job's command and length, the sense -/
abbrev Itt := Int × Int × List UInt8 × Cmd × Int × Sns
def IV (w : World) (v : Value) (T : Itt) : Prop :=
  ∃ ax cx ar cr, v = ival T.1 T.2.1 ax T.2.2.1.length cx T.2.2.2.1 T.2.2.2.2.1 0 ar 0 cr (0, 0, 0) T.2.2.2.2.2 ∧ Bs w (.slice ax T.2.2.1.length cx) T.2.2.1
abbrev c00 : Cmd := (0, 0, 0, 0, 0)
def noneI (s : Sns) : Itt := (0, 0, [], c00, 0, s)
def inI (L : List UInt8) (s : Sns) : Itt := if s = (0, 0, 0) ∧ L.length ≠ 0 then (1, (L.length : Int), L, c00, 0, (0, 0, 0)) else noneI s
def outI (c : Cmd) (s : Sns) : Itt := match startL c with
  | some z => if s = (0, 0, 0) then (2, z, [], c, z, (0, 0, 0)) else noneI s
  | none => noneI s
/-- a unit, told: the medium's blocks and writes that are cached, whether it is there, its latch, its attentions, the last sense -/
abbrev Utt := List UInt8 × List Drt × Bool × Bool × List Sns × Sns
/-- StartStop -/
def stI (n : Nat) (F : List UInt8) (D : List Drt) (p l : Bool) (M : List Sns) (s : Sns) (bits : Int) : Utt × Itt :=
  if bits = 3 then ((F, D, true, l, if p then M else addL M (6, 40, 0), s), noneI (0, 0, 0))
  else if bits = 2 then ((btF p l n F D, btD p l n D, p && l, l, M, s), noneI (ulS p l))
  else if readyS p = (0, 0, 0) ∧ bits = 0 then ((syncF n F D, syncD n D, p, l, M, s), noneI (readyS p))
  else ((F, D, p, l, M, s), noneI (readyS p))
/-- the commands with blocks -/
def blI (n : Nat) (F : List UInt8) (D : List Drt) (p r l : Bool) (M : List Sns) (s : Sns) (c : Cmd) : Utt × Itt :=
  if classI c.1 = 1 then ((F, D, p, l, M, s), inI (rdL n F D (checkS n D p r c.2.1 c.2.2.1 false) c.2.1 c.2.2.1) (checkS n D p r c.2.1 c.2.2.1 false))
  else if classI c.1 = 2 then ((F, D, p, l, M, s), outI c (checkS n D p r c.2.1 c.2.2.1 true))
  else if classI c.1 = 3 then ((F, D, p, l, M, s), outI c (checkS n D p r c.2.1 c.2.2.1 false))
  else if checkS n D p r c.2.1 c.2.2.1 false = (0, 0, 0) ∧ rightB n D = true then ((flushF n F D c.2.1 c.2.2.1, flushD n D c.2.1 c.2.2.1, p, l, M, s), noneI (0, 0, 0))
  else ((F, D, p, l, M, s), noneI (checkS n D p r c.2.1 c.2.2.1 false))
def begI (n : Nat) (F : List UInt8) (D : List Drt) (p r l cc : Bool) (M : List Sns) (s : Sns) (lun luns : Int) (c : Cmd) : Utt × Itt :=
  if c.1 = 0 then ((F, D, p, l, M, s), noneI (readyS p))
  else if c.1 = 3 then ((F, D, p, l, M, (0, 0, 0)), inI (cutL (bytesL s) c.2.2.1) (0, 0, 0))
  else if c.1 = 18 then ((F, D, p, l, M, s), inI (ansR c lun luns).1 (ansR c lun luns).2)
  else if c.1 = 26 ∨ c.1 = 90 then ((F, D, p, l, M, s), inI (mansR c cc r).1 (mansR c cc r).2)
  else if c.1 = 21 ∨ c.1 = 85 then ((F, D, p, l, M, s), outI c (0, 0, 0))
  else if c.1 = 27 then stI n F D p l M s c.2.2.2.2
  else if c.1 = 30 then ((F, D, p, if p then c.2.2.2.2 == 1 else l, M, s), noneI (readyS p))
  else if c.1 = 37 then ((F, D, p, l, M, s), inI (tenL (allN n D : Int)) (readyS p))
  else if c.1 = 158 then ((F, D, p, l, M, s), inI (cutL (sixL (allN n D : Int)) c.2.2.1) (readyS p))
  else if c.1 = 160 then ((F, D, p, l, M, s), inI (cutL (lunsL (cntN luns)) c.2.2.1) (0, 0, 0))
  else if classI c.1 = 0 then ((F, D, p, l, M, s), noneI (5, 32, 0))
  else blI n F D p r l M s c
end Go.Proofs.YtfakboehmcimpaaGreat

namespace Go.Proofs.YtfakboehmcimpaaGreat
open Go.ChangeShapes Go.WideShapes Go.ChangeAt Go.RowKit
set_option linter.unusedVariables false
set_option maxRecDepth 4000
set_option linter.unusedSimpArgs false
/-! The document's intents: None, In, Same. -/
abbrev zI : List Value := ic 0 0 none 0 0 (0, 0, 0, 0, 0) 0 0 none 0 0 (0, 0, 0) (0, 0, 0)
set_option maxHeartbeats 1000000 in
theorem rnone11_c (s : Sns) (w : World) : Calls Tryz.prog 32 #[sval s] w fun e w' => e = .returned (ival 0 0 none 0 0 (0, 0, 0, 0, 0) 0 0 none 0 0 (0, 0, 0) s) ∧ Later w w' := by
  have BX := hide ((Box.new w 30 #[.int .i64 s.1, .int .i64 s.2.1, .int .i64 s.2.2]).alloc (.cells zI.toArray 44))
  have BI : Hid (Box _ (w.heap.size + 1) 44 zI) := Box.new' (w.alloc (.cells #[.int .i64 s.1, .int .i64 s.2.1, .int .i64 s.2.2] 30)) 44 zI.toArray _ rfl _ (by simp)
  have LL := hide (((Later.refl w).alloc (.cells #[.int .i64 s.1, .int .i64 s.2.1, .int .i64 s.2.2] 30)).alloc (.cells zI.toArray 44))
  have x0 := BX.out.cell 0
  have x1 := BX.out.cell 1
  have x2 := BX.out.cell 2
  go_enter Tryz.func32, Tryz.ntmps32
  go_wp2_with (refine wpList_storeU rfl 44 (.tmp 2) (.tmp 4) rfl (w.heap.size + 1) 0 rfl (ic 0 0 none 0 0 (0, 0, 0, 0, 0) 0 0 none 0 0 (0, 0, 0) s) rfl Tryz.info_intent (ic_one _ _ _ _ _ _ _ _ _ _ _ _ _) _ _ BI.out (by simp) ?_)
  intro wz hz
  have BZ : Hid (Box wz (w.heap.size + 1) 44 (ic 0 0 none 0 0 (0, 0, 0, 0, 0) 0 0 none 0 0 (0, 0, 0) s)) := by rw [hz.out]; exact BI.out.all _ rfl
  have LZ : Hid (Later w wz) := by rw [hz.out]; exact LL.out.setCells (by omega) _ _
  clear hz
  go_wp2
  exact bodyPost_ret (results_cell1 rfl _ _ _ (w.heap.size + 1) 0 rfl (ival 0 0 none 0 0 (0, 0, 0, 0, 0) 0 0 none 0 0 (0, 0, 0) s) (load_intent BZ.out rfl)) rfl ⟨rfl, LZ.out⟩
theorem IV.nil11 (w : World) (s : Sns) : IV w (ival 0 0 none 0 0 (0, 0, 0, 0, 0) 0 0 none 0 0 (0, 0, 0) s) (noneI s) := ⟨none, 0, none, 0, rfl, Bs.nil w⟩
set_option maxRecDepth 20000 in
set_option maxHeartbeats 2000000 in
theorem rin11_c {v : Value} {L : List UInt8} (s : Sns) (w : World) (h : Bs w v L) : Calls Tryz.prog 35 #[v, sval s] w fun e w' => ∃ i', e = .returned i' ∧ Later w w' ∧ IV w' i' (inI L s) := by
  have h2 := h
  obtain ⟨hm, ax, cx, rfl, hc, -⟩ := h2
  have HB := hide h
  have HI : Hid (inI L s = if s = (0, 0, 0) ∧ L.length ≠ 0 then (1, (L.length : Int), L, (0, 0, 0, 0, 0), 0, (0, 0, 0)) else noneI s) := rfl
  obtain ⟨k, hk⟩ : ∃ k, k = L.length := ⟨_, rfl⟩
  have HK := hide hk
  rw [← hk] at HB HI hm ⊢
  have hk2 : k ≤ 9223372036854775807 := by unfold maxLen at hm; omega
  clear h hm hc hk
  have BX := hide ((Box.new w 30 #[.int .i64 s.1, .int .i64 s.2.1, .int .i64 s.2.2]).alloc (.cells zI.toArray 44))
  have BI : Hid (Box _ (w.heap.size + 1) 44 zI) := Box.new' (w.alloc (.cells #[.int .i64 s.1, .int .i64 s.2.1, .int .i64 s.2.2] 30)) 44 zI.toArray _ rfl _ (by simp)
  have LL := hide (((Later.refl w).alloc (.cells #[.int .i64 s.1, .int .i64 s.2.1, .int .i64 s.2.2] 30)).alloc (.cells zI.toArray 44))
  have x0 := BX.out.cell 0
  have x1 := BX.out.cell 1
  have x2 := BX.out.cell 2
  go_enter Tryz.func35, Tryz.ntmps35
  by_cases hs : s = (0, 0, 0)
  · have es : (s == (0, 0, 0)) = true := by simp [hs]
    by_cases h0 : k = 0
    · have e0 : decide ((0 : Int) < (k : Int)) = false := by simp; omega
      replace HI : Hid (inI L s = noneI s) := by rw [Hid, HI.out, if_neg (fun h => h.2 h0)]
      clear hs
      go_wp2_with (refine wpList_eqS9 (by kernel_rfl) (.tmp 5) (.tmp 6) rfl s (0, 0, 0) rfl rfl true es ?_)
      refine (rnone11_c s _).mono ?_
      rintro e w2 ⟨rfl, hl⟩
      replace BI := hide (BI.out.later hl)
      replace LL := hide (LL.out.trans hl)
      clear hl x0 x1 x2
      go_wp2_with (refine wpList_storeU rfl 44 (.tmp 4) (.tmp 18) rfl (w.heap.size + 1) 0 rfl (ic 0 0 none 0 0 (0, 0, 0, 0, 0) 0 0 none 0 0 (0, 0, 0) s) rfl Tryz.info_intent (ic_one _ _ _ _ _ _ _ _ _ _ _ _ _) _ _ BI.out (by simp) ?_)
      intro wz hz
      have BZ : Hid (Box wz (w.heap.size + 1) 44 (ic 0 0 none 0 0 (0, 0, 0, 0, 0) 0 0 none 0 0 (0, 0, 0) s)) := by rw [hz.out]; exact BI.out.all _ rfl
      have LZ : Hid (Later w wz) := by rw [hz.out]; exact LL.out.setCells (by omega) _ _
      clear hz
      go_wp2
      refine bodyPost_ret (results_cell1 rfl _ _ _ (w.heap.size + 1) 0 rfl (ival 0 0 none 0 0 (0, 0, 0, 0, 0) 0 0 none 0 0 (0, 0, 0) s) (load_intent BZ.out rfl)) rfl ⟨_, rfl, LZ.out, ?_⟩
      rw [HI.out]
      exact IV.nil11 _ s
    · have e0 : decide ((0 : Int) < (k : Int)) = true := by simp; omega
      replace HI : Hid (inI L s = (1, (k : Int), L, (0, 0, 0, 0, 0), 0, (0, 0, 0))) := by rw [Hid, HI.out, if_pos ⟨hs, h0⟩]
      clear hs
      go_wp2_with (first | refine wpList_eqS9 (by kernel_rfl) (.tmp 5) (.tmp 6) rfl s (0, 0, 0) rfl rfl true es ?_ | refine wpList_storeU rfl 44 (.tmp 4) (.tmp 16) rfl (w.heap.size + 1) 0 rfl (ic 1 (k : Int) ax k cx (0, 0, 0, 0, 0) 0 0 none 0 0 (0, 0, 0) (0, 0, 0)) rfl Tryz.info_intent (ic_one _ _ _ _ _ _ _ _ _ _ _ _ _) _ _ BI.out (by simp) ?_)
      intro wz hz
      have BZ : Hid (Box wz (w.heap.size + 1) 44 (ic 1 (k : Int) ax k cx (0, 0, 0, 0, 0) 0 0 none 0 0 (0, 0, 0) (0, 0, 0))) := by rw [hz.out]; exact BI.out.all _ rfl
      have LZ : Hid (Later w wz) := by rw [hz.out]; exact LL.out.setCells (by omega) _ _
      clear hz
      go_wp2
      refine bodyPost_ret (results_cell1 rfl _ _ _ (w.heap.size + 1) 0 rfl (ival 1 (k : Int) ax k cx (0, 0, 0, 0, 0) 0 0 none 0 0 (0, 0, 0) (0, 0, 0)) (load_intent BZ.out rfl)) rfl ⟨_, rfl, LZ.out, ?_⟩
      rw [HI.out]
      refine ⟨ax, cx, none, 0, by rw [HK.out], ?_⟩
      have := HB.out.later LZ.out
      rwa [HK.out] at this
  · have es : (s == (0, 0, 0)) = false := by simpa using hs
    replace HI : Hid (inI L s = noneI s) := by rw [Hid, HI.out, if_neg (fun h => hs h.1)]
    clear hs
    go_wp2_with (refine wpList_eqS9 (by kernel_rfl) (.tmp 5) (.tmp 6) rfl s (0, 0, 0) rfl rfl false es ?_)
    refine (rnone11_c s _).mono ?_
    rintro e w2 ⟨rfl, hl⟩
    replace BI := hide (BI.out.later hl)
    replace LL := hide (LL.out.trans hl)
    clear hl x0 x1 x2
    go_wp2_with (refine wpList_storeU rfl 44 (.tmp 4) (.tmp 18) rfl (w.heap.size + 1) 0 rfl (ic 0 0 none 0 0 (0, 0, 0, 0, 0) 0 0 none 0 0 (0, 0, 0) s) rfl Tryz.info_intent (ic_one _ _ _ _ _ _ _ _ _ _ _ _ _) _ _ BI.out (by simp) ?_)
    intro wz hz
    have BZ : Hid (Box wz (w.heap.size + 1) 44 (ic 0 0 none 0 0 (0, 0, 0, 0, 0) 0 0 none 0 0 (0, 0, 0) s)) := by rw [hz.out]; exact BI.out.all _ rfl
    have LZ : Hid (Later w wz) := by rw [hz.out]; exact LL.out.setCells (by omega) _ _
    clear hz
    go_wp2
    refine bodyPost_ret (results_cell1 rfl _ _ _ (w.heap.size + 1) 0 rfl (ival 0 0 none 0 0 (0, 0, 0, 0, 0) 0 0 none 0 0 (0, 0, 0) s) (load_intent BZ.out rfl)) rfl ⟨_, rfl, LZ.out, ?_⟩
    rw [HI.out]
    exact IV.nil11 _ s
theorem Jb.nil11 (w : World) (c : Cmd) (len : Int) (ar : Option Addr) (cr : Nat) : Jb w (jval c len 0 ar 0 cr (0, 0, 0)) c len 0 [] (0, 0, 0) := ⟨ar, cr, rfl, by simp, ar, cr, rfl, by simp, .inl rfl⟩
set_option maxRecDepth 20000 in
set_option maxHeartbeats 4000000 in
/-- alike are alike -/
theorem rsame11_c {u v : Value} {T : Itt} (w : World) (hU : IV w u T) (hV : IV w v T) : Calls Tryz.prog 10 #[u, v] w fun e w' => e = .returned (.bool true) ∧ Later w w' := by
  obtain ⟨dir, len, L, c, jl, s⟩ := T
  obtain ⟨ax, cx, ar, cr, rfl, hb⟩ := hU
  obtain ⟨ax', cx', ar', cr', rfl, hb'⟩ := hV
  simp only at hb hb' ⊢
  have HB := hide hb
  have HB' := hide hb'
  clear hb hb'
  obtain ⟨k, hk⟩ : ∃ k, k = L.length := ⟨_, rfl⟩
  rw [← hk] at HB HB' ⊢
  clear hk
  have BX := hide ((Box.new w 44 (ic dir len ax k cx c jl 0 ar 0 cr (0, 0, 0) s).toArray).alloc (.cells (ic dir len ax' k cx' c jl 0 ar' 0 cr' (0, 0, 0) s).toArray 44))
  have BY : Hid (Box _ (w.heap.size + 1) 44 (ic dir len ax' k cx' c jl 0 ar' 0 cr' (0, 0, 0) s)) := Box.new' (w.alloc (.cells (ic dir len ax k cx c jl 0 ar 0 cr (0, 0, 0) s).toArray 44)) 44 (ic dir len ax' k cx' c jl 0 ar' 0 cr' (0, 0, 0) s).toArray _ rfl _ (by simp)
  have LL := hide (((Later.refl w).alloc (.cells (ic dir len ax k cx c jl 0 ar 0 cr (0, 0, 0) s).toArray 44)).alloc (.cells (ic dir len ax' k cx' c jl 0 ar' 0 cr' (0, 0, 0) s).toArray 44))
  have g1 := (HB.out.later LL.out).strOf
  have g2 := (HB'.out.later LL.out).strOf
  have x_0 := BX.out.cell 0
  have x_1 := BX.out.cell 1
  have x_2 := BX.out.cell 2
  have x_3 := BX.out.cell 3
  have x_4 := BX.out.cell 4
  have x_5 := BX.out.cell 5
  have x_6 := BX.out.cell 6
  have x_7 := BX.out.cell 7
  have x_8 := BX.out.cell 8
  have x_9 := BX.out.cell 9
  have x_10 := BX.out.cell 10
  have x_11 := BX.out.cell 11
  have x_12 := BX.out.cell 12
  have x_13 := BX.out.cell 13
  have x_14 := BX.out.cell 14
  have x_15 := BX.out.cell 15
  have x_16 := BX.out.cell 16
  have y_0 := BY.out.cell 0
  have y_1 := BY.out.cell 1
  have y_2 := BY.out.cell 2
  have y_3 := BY.out.cell 3
  have y_4 := BY.out.cell 4
  have y_5 := BY.out.cell 5
  have y_6 := BY.out.cell 6
  have y_7 := BY.out.cell 7
  have y_8 := BY.out.cell 8
  have y_9 := BY.out.cell 9
  have y_10 := BY.out.cell 10
  have y_11 := BY.out.cell 11
  have y_12 := BY.out.cell 12
  have y_13 := BY.out.cell 13
  have y_14 := BY.out.cell 14
  have y_15 := BY.out.cell 15
  have y_16 := BY.out.cell 16
  go_enter Tryz.func10, Tryz.ntmps10
  go_wp2_with fail
  refine (rsame10_c _ (Jb.nil11 _ c jl ar cr) (Jb.nil11 _ c jl ar' cr')).mono ?_
  rintro e w2 ⟨rfl, hl⟩
  rw [show (c == c && (jl == jl && ((0 : Int) == 0 && (([] : List UInt8) == [] && ((0, 0, 0) : Sns) == (0, 0, 0))))) = true by simp]
  replace LL := hide (LL.out.trans hl)
  replace BX := hide (BX.out.later hl)
  replace BY := hide (BY.out.later hl)
  clear hl x_0 x_1 x_2 x_3 x_4 x_5 x_6 x_7 x_8 x_9 x_10 x_11 x_12 x_13 x_14 x_15 x_16 y_0 y_1 y_2 y_3 y_4 y_5 y_6 y_7 y_8 y_9 y_10 y_11 y_12 y_13 y_14 y_15 y_16 g1 g2
  have x14 := BX.out.cell 14
  have x15 := BX.out.cell 15
  have x16 := BX.out.cell 16
  have y14 := BY.out.cell 14
  have y15 := BY.out.cell 15
  have y16 := BY.out.cell 16
  go_wp2_with (refine wpList_eqS9 (by kernel_rfl) (.tmp 35) (.tmp 37) rfl s s rfl rfl true (by simp) ?_)
  go_ret
  exact ⟨rfl, LL.out⟩
end Go.Proofs.YtfakboehmcimpaaGreat
