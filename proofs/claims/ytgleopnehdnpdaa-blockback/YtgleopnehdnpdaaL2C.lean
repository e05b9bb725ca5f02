import Derived.Test.YtgleopnehdnpdaaL2B
namespace Go.Proofs.Ytgleopnehdnpdaa
open Go.ChangeShapes Go.WideShapes Go.ChangeAt Go.RowKit
set_option linter.unusedVariables false
set_option linter.unusedSimpArgs false


theorem seg_over (F : List UInt8) (o : Nat) (l : List UInt8) (h : o + l.length ≤ F.length) : seg (over F o l) o l.length = l := by
  unfold seg over
  have h1 : (F.take o).length = o := by simp; omega
  rw [List.append_assoc, List.drop_append_of_le_length (by omega), List.drop_of_length_le (by omega), List.nil_append, List.take_left]
theorem seg_over_else (F : List UInt8) (o : Nat) (l : List UInt8) (h : o + l.length ≤ F.length) (i n : Nat) (hi : i + n ≤ o ∨ o + l.length ≤ i) : seg (over F o l) i n = seg F i n := by
  apply List.ext_getElem?
  intro j
  unfold seg
  by_cases hj : j < n
  · rw [List.getElem?_take_of_lt hj, List.getElem?_take_of_lt hj, List.getElem?_drop, List.getElem?_drop, over_get F o l h, if_neg (by omega)]
  · rw [List.getElem?_take_eq_none (by omega), List.getElem?_take_eq_none (by omega)]

set_option maxHeartbeats 2000000 in
theorem blockBack_walk (halive : ∀ w : World, Calls Try.prog 8 #[] w fun e w' => e = .returned (.bool true) ∧ Later w w') (v0 v1 v2 : Value) (w : World) (h0 : RBlocks w v0) (h1 : RInt .u64 v1) (h2 : RBlocks w v2) :
    Calls Try.prog 6 #[v0, v1, v2] w fun e w' => e = .returned (.bool true) ∧ Below w.heap.size w w' := by
  obtain ⟨len, F, hr⟩ := h0
  have Hr := hide hr
  have hsm := hr.small
  obtain ⟨ad, cap, rfl⟩ := hr.shape
  obtain ⟨a, ha, rfl⟩ : ∃ a : Nat, a ≤ 18446744073709551615 ∧ v1 = .int .u64 (a : Int) := by
    obtain ⟨x, rfl, wx⟩ := h1
    have hx := bounds_u64 wx
    obtain ⟨y, rfl⟩ := Int.eq_ofNat_of_zero_le hx.1
    exact ⟨y, by omega, rfl⟩
  obtain ⟨lo, G, hg⟩ := h2
  have Hg := hide hg
  have hsg := hg.small
  obtain ⟨ag, capg, rfl⟩ := hg.shape
  have HGl : Hid (G.length = lo * 64) := by have := hg.1; rwa [bv_length] at this
  have HFl : Hid (F.length = len * 64) := by have := hr.1; rwa [bv_length] at this
  have Halive := hide halive
  clear hr h1 hg halive
  go_enter Try.func6, Try.ntmps6
  go_wp2_with fail
  refine (Halive.out w).mono ?_
  rintro e w1 ⟨rfl, hl1⟩
  have L1 := hide hl1
  clear hl1
  by_cases h64 : 64 < len
  · go_wp2
    go_ret
    exact ⟨rfl, L1.out⟩
  by_cases h65 : 64 < lo
  · go_wp2
    go_ret
    exact ⟨rfl, L1.out⟩
  go_wp2_with fail
  go_loopw [7, 8] (fun v i wr => ∃ k : Nat, k ≤ lo ∧ i = .int .i64 k ∧ Hid (wr.ownsRow w1.heap.size 5 1 v (k * 64) (bv (G.take (k * 64)))) ∧ Hid (Later w1 wr)) (fun _ i _ => lo - (intOf i).toNat)
  case atStart => exact ⟨0, Nat.zero_le _, rfl, by simpa [Hid, bv] using World.ownsRow_nil _ _ _ _, Later.refl w1⟩
  case round =>
    obtain ⟨k, hk, rfl, hown, hbl⟩ := hrel
    by_cases hlt : k < lo
    · go_wp2_with fail
      go_loopw [7, 9] (fun v i wq => ∃ j : Nat, j ≤ 64 ∧ i = .int .i64 j ∧ Hid (wq.ownsRow w1.heap.size 5 1 v (k * 64 + j) (bv (G.take (k * 64 + j)))) ∧ Hid (Later w1 wq)) (fun _ i _ => 64 - (intOf i).toNat)
      case atStart => exact ⟨0, Nat.zero_le _, rfl, hown, hbl⟩
      case round =>
        clear hown hbl
        obtain ⟨j, hj, rfl, hownj, hlj⟩ := hrel
        by_cases hltj : j < 64
        · have hGl := HGl.out
          obtain ⟨bg, og, hag, hrg⟩ := (Hg.out.later (L1.out.trans hlj.out)).lies? (by omega)
          subst hag
          have hbyte : wr.cell? ⟨bg, og + k * 64 + j, none⟩ = some (.int .u8 (G[k * 64 + j].toNat : Int)) := by rw [Nat.add_assoc]; exact hrg _ _ (bv_get_lt G _ (by omega))
          have hsn : Hid (G.take (k * 64 + (j + 1)) = G.take (k * 64 + j) ++ [G[k * 64 + j]]) := by
            unfold Hid
            rw [← Nat.add_assoc, List.take_succ_eq_append_getElem (by omega)]
          have hsz := hlj.out.size
          have hBr := hide (hlj.out.alloc (.cells #[.int .u8 (G[k * 64 + j].toNat : Int)] 5))
          have hor := hide (hownj.out.alloc (.cells #[.int .u8 (G[k * 64 + j].toNat : Int)] 5))
          have hone := hide (Bs.one wr G[k * 64 + j] 5)
          generalize G[k * 64 + j] = c at *
          clear hownj hlj hrg hGl
          go_wp2_with (at_builtin; refine wpList_append_bs rfl (.tmp 35) (.tmp 42) rfl w1.heap.size _ (k * 64 + j) _ rfl hor.out _ [c] rfl hone.out ?c1 ?c2 w1 hBr.out ?_)
          case c1 => simp; omega
          case c2 => simp; omega
          intro v' w' ho' hb' hg'
          have R : Hid (w'.ownsRow w1.heap.size 5 1 v' (k * 64 + (j + 1)) (bv (G.take (k * 64 + (j + 1)))) ∧ Later w1 w') := by
            refine ⟨?_, hb'⟩
            rw [hsn.out]
            exact ho'
          clear ho' hb' hg' hbyte hor hone hBr
          go_wp2
          go_roundw
          case rel => exact ⟨j + 1, by omega, by go_num, R.out.1, R.out.2⟩
          case measure => simp [intOf]; omega
        · have hj64 : Hid (j = 64) := by unfold Hid; omega
          go_wp2
          go_roundw
          case rel =>
            refine ⟨k + 1, by omega, by go_num, ?_, hlj⟩
            have := hownj.out
            rw [hj64.out] at this
            unfold Hid
            rw [show (k + 1) * 64 = k * 64 + 64 from by omega]
            exact this
          case measure => simp [intOf]; omega
    · have B3 : Hid (Bs wr u7 G) := by
        have hkn : k = lo := by omega
        have := hown.out
        rw [hkn, ← HGl.out, List.take_length] at this
        exact (Bs.of_owns this).1
      have L3 := hide (L1.out.trans hbl.out)
      clear hown hbl L1
      have hGl := HGl.out
      have hwE : writeE len a G.length = if withinB len a lo then 0 else 5 := by
        unfold writeE
        rw [if_neg (by omega), if_neg (by omega), show ((G.length : Int) / 64) = lo from by omega]
      clear hGl
      have HWE := hide hwE
      clear hwE
      by_cases hw : withinB len a lo = true
      · have hT := (bwrite_c a wr (Hr.out.later L3.out) B3.out ha (by have := HGl.out; omega))
        unfold writeL writeN at hT
        rw [HWE.out, if_pos hw, if_pos rfl, if_pos rfl] at hT
        have HT := hide hT
        clear hT HWE
        go_wp2_with fail
        refine HT.out.mono ?_
        rintro e w4 ⟨v4, rfl, hl4, hb4⟩
        have L4 := hide (L3.out.trans hl4)
        have B4 := hide (B3.out.below hl4 (Nat.le_refl _))
        have M4 := hide hb4
        clear hl4 hb4 L3 B3 HT
        obtain ⟨ad4, cap4, rfl⟩ := M4.out.shape
        go_wp2_with fail
        refine (rwithin_b _ _ _ _ (by omega) ha).mono ?_
        rintro e w5 ⟨rfl, hl5⟩
        have L5 := hide (L4.out.trans hl5)
        have B5 := hide (B4.out.below hl5 (Nat.le_refl _))
        have M5 := hide (M4.out.later hl5)
        clear hl5 L4 B4 M4
        rw [hw]
        have hwi : a + lo ≤ len := by simp [withinB] at hw; omega
        have hRL : readL len (over F (a * 64) G) a lo = G := by
          have h1 := HGl.out
          have h2 := HFl.out
          unfold readL
          rw [if_neg (by omega), if_pos hw, show (lo : Int).toNat * 64 = G.length from by omega]
          exact seg_over F (a * 64) G (by omega)
        have hRE : readE len a lo = 0 := by
          unfold readE
          rw [if_neg (by omega), if_pos hw]
        have hT := bread_c a lo w5 M5.out ha (by omega) (by omega)
        rw [hRL, hRE] at hT
        have HT := hide hT
        clear hT hRL hRE
        go_wp2_with fail
        refine HT.out.mono ?_
        rintro e w6 ⟨v6, rfl, hl6, hb6⟩
        have L6 := hide (L5.out.trans hl6)
        have M6 := hide (M5.out.later hl6)
        obtain ⟨s, hs⟩ : ∃ s : ByteArray, s = ⟨G.toArray⟩ := ⟨_, rfl⟩
        have hc1 := Bs.toStr hs (B5.out.below hl6 (Nat.le_refl _))
        have hc2 := Bs.toStr hs hb6
        clear hl6 hb6 L5 B5 M5 HT hs
        have hcv : IntKind.i64.wrap (a : Int) = a := by rw [IntKind.wrap_i64]; omega
        have hcw : IntKind.i64.wrap ((a : Int) + (lo : Int)) = (a : Int) + (lo : Int) := by rw [IntKind.wrap_i64]; omega
        go_wp2_with fail
        go_loopw [14] (fun i wr => ∃ q : Nat, q ≤ len ∧ i = .int .i64 q ∧ Hid (Later w6 wr)) (fun i _ => len - (intOf i).toNat)
        case atStart => exact ⟨0, Nat.zero_le _, rfl, Later.refl w6⟩
        case round =>
          obtain ⟨q, hq, rfl, hl⟩ := hrel
          by_cases hltq : q < len
          · by_cases c1 : q < a
            · have hd1 : ¬ ((a : Int) ≤ (q : Int)) := by omega
              obtain ⟨b4, o4, hb4, r4⟩ := (M6.out.later hl.out).lies? (by omega)
              subst hb4
              obtain ⟨b0, o0, hb0, r0⟩ := (Hr.out.later (L6.out.trans hl.out)).lies? (by omega)
              subst hb0
              have hlM := hide (seg_length (over F (a * 64) G) (q * 64) 64 (by rw [over_length _ _ _ (by have := HGl.out; have := HFl.out; omega)]; have := HFl.out; omega))
              have hlF := hide (seg_length F (q * 64) 64 (by have := HFl.out; omega))
              have rM := hide (by have := range_part r4 (q * 64) 64; rwa [bv_part] at this)
              have rF := hide (by have := range_part r0 (q * 64) 64; rwa [bv_part] at this)
              have heq := hide (fun w => bytes_eq (P := Try.prog) 41 5 64 Try.underlying41 Try.underlying5 (by kernel_rfl) (seg (over F (a * 64) G) (q * 64) 64) (seg F (q * 64) 64) hlM.out hlF.out w)
              have hsame : Hid ((seg (over F (a * 64) G) (q * 64) 64 == seg F (q * 64) 64) = true) := by
                unfold Hid
                rw [seg_over_else F (a * 64) G (by have := HGl.out; have := HFl.out; omega) (q * 64) 64 (by have := HGl.out; omega)]
                simp
              clear r4 r0
              go_wp2_with fail
              refine wp_region_sched ((List.range 24).map fun i => (i, false)) (by kernel_rfl) (by kernel_rfl) (by kernel_rfl) (by kernel_rfl) ?_
              simp only [List.range, List.range.loop, List.map]
              iterate 17 (refine wpS_mild rfl (fun K hK => ?_); go_simp; refine hK _ ?_; clear hK K)
              refine wpS_loadG rfl (by kernel_rfl) 41 (.tmp 115) rfl b4 (o4 + q * 64) rfl (bv (seg (over F (a * 64) G) (q * 64) 64)) _ ((World.rangeAt_drew _ _ _ _).2 rM.out) Try.underlying41 rfl (by rw [Try.info_block, bv_length, hlM.out]) ?_
              iterate 3 (refine wpS_mild rfl (fun K hK => ?_); go_simp; refine hK _ ?_; clear hK K)
              refine wpS_loadG rfl (by kernel_rfl) 41 (.tmp 119) rfl b0 (o0 + q * 64) rfl (bv (seg F (q * 64) 64)) _ ((World.rangeAt_drew _ _ _ _).2 rF.out) Try.underlying41 rfl (by rw [Try.info_block, bv_length, hlF.out]) ?_
              have heq' := fun p => heq.out (rg wr.drew p)
              iterate 1 (refine wpS_mild rfl (fun K hK => ?_); go_simp; refine hK _ ?_; clear hK K)
              rw [hsame.out]
              clear heq' heq rM rF hlM hlF hsame
              iterate 1 (refine wpS_mild rfl (fun K hK => ?_); go_simp; refine hK _ ?_; clear hK K)
              refine wpS_nil (fun wx hwx => ?_)
              have Lx : Hid (Later w6 wx) := hl.out.drew.trans hwx
              go_wp2
              go_roundw
              case rel => exact ⟨q + 1, by omega, by go_num, Lx⟩
              case measure => simp [intOf]; omega
            · by_cases c2 : a + lo ≤ q
              · have hd1 : ¬ ((q : Int) < (a : Int)) := by omega
                have hd2 : (a : Int) + (lo : Int) ≤ (q : Int) := by omega
                obtain ⟨b4, o4, hb4, r4⟩ := (M6.out.later hl.out).lies? (by omega)
                subst hb4
                obtain ⟨b0, o0, hb0, r0⟩ := (Hr.out.later (L6.out.trans hl.out)).lies? (by omega)
                subst hb0
                have hlM := hide (seg_length (over F (a * 64) G) (q * 64) 64 (by rw [over_length _ _ _ (by have := HGl.out; have := HFl.out; omega)]; have := HFl.out; omega))
                have hlF := hide (seg_length F (q * 64) 64 (by have := HFl.out; omega))
                have rM := hide (by have := range_part r4 (q * 64) 64; rwa [bv_part] at this)
                have rF := hide (by have := range_part r0 (q * 64) 64; rwa [bv_part] at this)
                have heq := hide (fun w => bytes_eq (P := Try.prog) 41 5 64 Try.underlying41 Try.underlying5 (by kernel_rfl) (seg (over F (a * 64) G) (q * 64) 64) (seg F (q * 64) 64) hlM.out hlF.out w)
                have hsame : Hid ((seg (over F (a * 64) G) (q * 64) 64 == seg F (q * 64) 64) = true) := by
                  unfold Hid
                  rw [seg_over_else F (a * 64) G (by have := HGl.out; have := HFl.out; omega) (q * 64) 64 (by have := HGl.out; omega)]
                  simp
                clear r4 r0
                go_wp2_with fail
                refine wp_region_sched ((List.range 24).map fun i => (i, false)) (by kernel_rfl) (by kernel_rfl) (by kernel_rfl) (by kernel_rfl) ?_
                simp only [List.range, List.range.loop, List.map]
                iterate 17 (refine wpS_mild rfl (fun K hK => ?_); go_simp; refine hK _ ?_; clear hK K)
                refine wpS_loadG rfl (by kernel_rfl) 41 (.tmp 115) rfl b4 (o4 + q * 64) rfl (bv (seg (over F (a * 64) G) (q * 64) 64)) _ ((World.rangeAt_drew _ _ _ _).2 rM.out) Try.underlying41 rfl (by rw [Try.info_block, bv_length, hlM.out]) ?_
                iterate 3 (refine wpS_mild rfl (fun K hK => ?_); go_simp; refine hK _ ?_; clear hK K)
                refine wpS_loadG rfl (by kernel_rfl) 41 (.tmp 119) rfl b0 (o0 + q * 64) rfl (bv (seg F (q * 64) 64)) _ ((World.rangeAt_drew _ _ _ _).2 rF.out) Try.underlying41 rfl (by rw [Try.info_block, bv_length, hlF.out]) ?_
                have heq' := fun p => heq.out (rg wr.drew p)
                iterate 1 (refine wpS_mild rfl (fun K hK => ?_); go_simp; refine hK _ ?_; clear hK K)
                rw [hsame.out]
                clear heq' heq rM rF hlM hlF hsame
                iterate 1 (refine wpS_mild rfl (fun K hK => ?_); go_simp; refine hK _ ?_; clear hK K)
                refine wpS_nil (fun wx hwx => ?_)
                have Lx : Hid (Later w6 wx) := hl.out.drew.trans hwx
                go_wp2
                go_roundw
                case rel => exact ⟨q + 1, by omega, by go_num, Lx⟩
                case measure => simp [intOf]; omega
              · have hd1 : ¬ ((q : Int) < (a : Int)) := by omega
                go_wp2_with fail
                refine wp_region_sched ((List.range 24).map fun i => (i, false)) (by kernel_rfl) (by kernel_rfl) (by kernel_rfl) (by kernel_rfl) ?_
                simp only [List.range, List.range.loop, List.map]
                have hd2 : ((a : Int) + (lo : Int) ≤ (q : Int)) = False := eq_false (by omega)
                iterate 24 (refine wpS_mild rfl (fun K hK => ?_); go_simp; refine hK _ ?_; clear hK K)
                refine wpS_nil (fun wx hwx => ?_)
                have Lx : Hid (Later w6 wx) := hl.out.drew.trans hwx
                go_wp2
                go_roundw
                case rel => exact ⟨q + 1, by omega, by go_num, Lx⟩
                case measure => simp [intOf]; omega
          · go_wp2
            go_ret
            exact ⟨rfl, L6.out.trans hl.out⟩
      · have hT := (bwrite_c a wr (Hr.out.later L3.out) B3.out ha (by have := HGl.out; omega))
        unfold writeL writeN at hT
        rw [HWE.out, if_neg hw] at hT
        rw [show (if (5 : Int) = 0 then len else 0) = 0 from if_neg (by decide)] at hT
        have HT := hide hT
        clear hT HWE
        go_wp2_with fail
        refine HT.out.mono ?_
        rintro e w4 ⟨v4, rfl, hl4, hb4⟩
        have L4 := hide (L3.out.trans hl4)
        obtain ⟨ad4, cap4, rfl⟩ := hb4.shape
        clear hl4 hb4 L3 B3 HT
        go_wp2_with fail
        refine (rwithin_b _ _ _ _ (by omega) ha).mono ?_
        rintro e w5 ⟨rfl, hl5⟩
        have L5 := hide (L4.out.trans hl5)
        clear hl5 L4
        rw [show withinB len a lo = false from by simpa using hw]
        go_wp2_with fail
        go_ret
        exact ⟨rfl, L5.out⟩
end Go.Proofs.Ytgleopnehdnpdaa
