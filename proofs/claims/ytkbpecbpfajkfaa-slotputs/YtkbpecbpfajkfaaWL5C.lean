import Derived.Test.YtkbpecbpfajkfaaMAT
import Derived.Test.YtkbpecbpfajkfaaMAU
import Derived.Test.YtkbpecbpfajkfaaMAW
import Derived.Test.YtkbpecbpfajkfaaMAM
namespace Go.Proofs.Ytkbpecbpfajkfaa
open Go.ChangeShapes Go.WideShapes Go.ChangeAt Go.RowKit
set_option linter.unusedVariables false
set_option linter.unusedSimpArgs false

theorem putS_ok (n : Nat) (D : List Drt) (p r : Bool) (at_ : Int) : OkS (putS n D p r at_) := by
  unfold putS
  split
  · exact checkS_ok _ _ _ _ _ _ _
  · exact checkS_ok _ _ _ _ _ _ _
set_option maxRecDepth 20000 in
set_option maxHeartbeats 4000000 in
theorem slotPuts_walk (hal : Alive5) (v0 v1 v2 : Value) (w : World) (h0 : RSlot w v0) (h1 : RInt .i64 v1) (h2 : RWrite3 v2) :
    Calls Try.prog 5 #[v0, v1, v2] w fun e w' => e = .returned (.bool true) ∧ Below w.heap.size w w' := by
  obtain ⟨n, F, D, p, r, l, hs⟩ := h0
  have S := hide hs
  obtain ⟨ab, cb, aD, k, cD, rfl, HK, hn, hk⟩ := hs.shape
  have HM := hide hs.med
  clear hs
  obtain ⟨at_, rfl, wa⟩ := h1
  have ha := bounds_i64 wa
  obtain ⟨X, th, hX, rfl⟩ := h2
  have HX := hide hX
  have HF := hide HM.out.flat
  clear wa hX
  have BX := hide ((Box.new w 27 #[.slice ab n cb, .slice aD k cD, .bool p, .bool r, .bool l]).alloc (.cells (bv X ++ [Value.bool th]).toArray 52))
  have BH := hide (Box.new' (w.alloc (.cells #[.slice ab n cb, .slice aD k cD, .bool p, .bool r, .bool l] 27)) 52 (bv X ++ [Value.bool th]).toArray (bv X ++ [Value.bool th]) (by simp) (w.heap.size + 1) (by simp))
  have L := hide (((Later.refl w).alloc (.cells #[.slice ab n cb, .slice aD k cD, .bool p, .bool r, .bool l] 27)).alloc (.cells (bv X ++ [Value.bool th]).toArray 52))
  go_enter Try.func5, Try.ntmps5
  go_wp2_with fail
  refine (hal _).mono ?_
  rintro e w1 ⟨rfl, hl⟩
  replace BX := hide (BX.out.later hl)
  replace BH := hide (BH.out.later hl)
  replace L := hide (L.out.later hl)
  clear hl
  have d0 := BX.out.cell 0
  have d1 := BX.out.cell 1
  go_wp2_with fail
  refine (rgreat_c _ (HM.out.later L.out)).mono ?_
  clear d0 d1
  rintro e w2 ⟨rfl, hl⟩
  replace BX := hide (BX.out.later hl)
  replace BH := hide (BH.out.later hl)
  replace L := hide (L.out.later hl)
  clear hl
  cases hg : greatB n D with
  | true =>
    go_wp2
    go_ret
    exact ⟨rfl, L.out⟩
  | false =>
    have hnk : n ≤ 70 ∧ k ≤ 70 := by have := HK.out; simp [greatB] at hg; omega
    have HD : Hid (D.length ≤ 70) := by have := HK.out; unfold Hid; omega
    clear hg
    have d0 := BX.out.cell 0
    have d1 := BX.out.cell 1
    have d2 := BX.out.cell 2
    have d3 := BX.out.cell 3
    have d4 := BX.out.cell 4
    go_wp2_with fail
    refine (rcopy5_c w2 (S.out.later L.out) (by omega) (by have := HD.out; omega)).mono ?_
    clear d0 d1 d2 d3 d4
    rintro e w3 ⟨vO, rfl, hl, hO⟩
    replace BX := hide (BX.out.later hl)
    replace BH := hide (BH.out.later hl)
    replace L := hide (L.out.later hl)
    have SO := hide hO
    obtain ⟨pO, cO, qO, kO, dO, rfl, _, _, _⟩ := hO.shape
    clear hl hO
    go_wp2_with (refine wpList_newT rfl rfl rfl 7 rfl (by simp) (.tmp 20) (by simp) rfl pO qO _ cO kO dO _ _ _ rfl ?_)
    intro gO w4 hB hl hg
    replace BX := hide (BX.out.later hl)
    replace BH := hide (BH.out.later hl)
    replace L := hide (L.out.later hl)
    replace SO := hide (SO.out.later hl)
    have BO := hide hB
    clear hl hB hg
    have ox0 := BO.out.cell 0
    have ox1 := BO.out.cell 1
    have ox2 := BO.out.cell 2
    have ox3 := BO.out.cell 3
    have ox4 := BO.out.cell 4
    have hth : w4.cell? ⟨w.heap.size + 1, 64, none⟩ = some (.bool th) := by
      rw [BH.out.cell 64, List.getElem?_append_right (by rw [bv_length, HX.out]; omega), bv_length, HX.out]
      rfl
    have hrx : Hid (w4.rangeAt (w.heap.size + 1) 0 (bv X)) := by
      have := range_part BH.out.range 0 64
      rw [List.drop_zero, List.take_left' (by rw [bv_length, HX.out])] at this
      exact this
    go_wp2_with (refine wpList_load_mid rfl 50 (.tmp 24) rfl (w.heap.size + 1) 0 rfl (bv X) _ hrx.out Try.underlying50 rfl (by rw [Try.info_block, bv_length, HX.out]) ?_)
    refine (sput_c _ n F D p r l at_ X th w4 SO.out HX.out ha.1 ha.2 (by omega) (by have := HD.out; omega)).mono ?_
    clear ox0 ox1 ox2 ox3 ox4 hth hrx
    rintro e w5 ⟨vA, rfl, hl, hA⟩
    replace BX := hide (BX.out.later hl)
    replace BH := hide (BH.out.later hl)
    replace L := hide (L.out.later hl)
    replace SO := hide (SO.out.later hl)
    replace BO := hide (BO.out.later hl)
    have SA := hide hA
    obtain ⟨pA, cA, qA, kA, dA, rfl, _, _, _⟩ := hA.shape
    clear hl hA
    have HP := hide (fun h => put_facts (n := n) (F := F) (D := D) (p := p) (r := r) (at_ := at_) (X := X) (th := th) HF.out.2 HF.out.1 HX.out h)
    have HL := hide (put_small (n := n) (F := F) (D := D) (p := p) (r := r) (at_ := at_) (X := X) (th := th) (putS n D p r at_) HD.out)
    have HB5 := hide (fun w' hl => rput5_c (n := n) (F := F) (D := D) (p := p) (r := r) (l := l) at_ X th w' (S.out.later hl) HX.out ha.1 ha.2)
    generalize hU : putS n D p r at_ = U at *
    have HU := hide hU
    clear hU
    generalize hF' : ptF n F D U at_ X th = F' at *
    have HF' := hide hF'
    clear hF'
    generalize hD' : ptD n D U at_ X th = D' at *
    have HD' := hide hD'
    clear hD'
    go_wp2_with (refine wpList_newTS rfl rfl rfl rfl rfl rfl 8 9 rfl rfl (by simp) (by simp) (by decide) (.tmp 29) (.tmp 30) (by simp) (by simp) (by simp) (by simp) rfl rfl rfl rfl pA qA _ cA kA dA _ _ _ U rfl rfl ?_)
    intro gA fA w6 hB hB2 hl hg
    replace BX := hide (BX.out.later hl)
    replace BH := hide (BH.out.later hl)
    replace L := hide (L.out.later hl)
    replace SO := hide (SO.out.later hl)
    replace BO := hide (BO.out.later hl)
    replace SA := hide (SA.out.later hl)
    have BA := hide hB
    have EA := hide hB2
    clear hl hB hB2 hg
    have d0 := BX.out.cell 0
    have d1 := BX.out.cell 1
    have d2 := BX.out.cell 2
    have d3 := BX.out.cell 3
    have d4 := BX.out.cell 4
    have hth : w6.cell? ⟨w.heap.size + 1, 64, none⟩ = some (.bool th) := by
      rw [BH.out.cell 64, List.getElem?_append_right (by rw [bv_length, HX.out]; omega), bv_length, HX.out]
      rfl
    have hrx : Hid (w6.rangeAt (w.heap.size + 1) 0 (bv X)) := by
      have := range_part BH.out.range 0 64
      rw [List.drop_zero, List.take_left' (by rw [bv_length, HX.out])] at this
      exact this
    go_wp2_with (refine wpList_load_mid rfl 50 (.tmp 34) rfl (w.heap.size + 1) 0 rfl (bv X) _ hrx.out Try.underlying50 rfl (by rw [Try.info_block, bv_length, HX.out]) ?_)
    refine (HB5.out w6 L.out).mono ?_
    clear d0 d1 d2 d3 d4 hth hrx HB5
    rintro e w7 ⟨vB, rfl, hl, hB⟩
    replace BX := hide (BX.out.later hl)
    replace BH := hide (BH.out.later hl)
    replace L := hide (L.out.later hl)
    replace SO := hide (SO.out.later hl)
    replace BO := hide (BO.out.later hl)
    replace SA := hide (SA.out.later hl)
    replace BA := hide (BA.out.later hl)
    replace EA := hide (EA.out.later hl)
    have SB := hide hB
    obtain ⟨pB, cB, qB, kB, dB, rfl, _, _, _⟩ := hB.shape
    clear hl hB
    go_wp2_with (refine wpList_newTS rfl rfl rfl rfl rfl rfl 10 11 rfl rfl (by simp) (by simp) (by decide) (.tmp 39) (.tmp 40) (by simp) (by simp) (by simp) (by simp) rfl rfl rfl rfl pB qB _ cB kB dB _ _ _ U rfl rfl ?_)
    intro gB fB w8 hB hB2 hl hg
    replace BX := hide (BX.out.later hl)
    replace BH := hide (BH.out.later hl)
    replace L := hide (L.out.later hl)
    replace SO := hide (SO.out.later hl)
    replace BO := hide (BO.out.later hl)
    replace SA := hide (SA.out.later hl)
    replace BA := hide (BA.out.later hl)
    replace EA := hide (EA.out.later hl)
    replace SB := hide (SB.out.later hl)
    have BB := hide hB
    have EB := hide hB2
    clear hl hB hB2 hg
    have ax0 := BA.out.cell 0
    have ax1 := BA.out.cell 1
    have ax2 := BA.out.cell 2
    have ax3 := BA.out.cell 3
    have ax4 := BA.out.cell 4
    have bx0 := BB.out.cell 0
    have bx1 := BB.out.cell 1
    have bx2 := BB.out.cell 2
    have bx3 := BB.out.cell 3
    have bx4 := BB.out.cell 4
    go_wp2_with fail
    refine (rsame5_c w8 SA.out SB.out).mono ?_
    rw [show (p == p && (r == r && (l == l && (F' == F' && D' == D')))) = true from by simp]
    clear ax0 ax1 ax2 ax3 ax4 bx0 bx1 bx2 bx3 bx4
    rintro e w9 ⟨rfl, hl⟩
    replace BX := hide (BX.out.later hl)
    replace BH := hide (BH.out.later hl)
    replace L := hide (L.out.later hl)
    replace SO := hide (SO.out.later hl)
    replace BO := hide (BO.out.later hl)
    replace SA := hide (SA.out.later hl)
    replace BA := hide (BA.out.later hl)
    replace EA := hide (EA.out.later hl)
    replace EB := hide (EB.out.later hl)
    clear hl
    clear SB BB
    have d0 := BX.out.cell 0
    have d1 := BX.out.cell 1
    have d2 := BX.out.cell 2
    have d3 := BX.out.cell 3
    have d4 := BX.out.cell 4
    have ox0 := BO.out.cell 0
    have ox1 := BO.out.cell 1
    have ox2 := BO.out.cell 2
    have ox3 := BO.out.cell 3
    have ox4 := BO.out.cell 4
    have ex0 := EA.out.cell 0
    have ex1 := EA.out.cell 1
    have ex2 := EA.out.cell 2
    have fx0 := EB.out.cell 0
    have fx1 := EB.out.cell 1
    have fx2 := EB.out.cell 2
    have hUU : (U == U) = true := by simp
    go_wp2_with (refine wpList_neqS (by kernel_rfl) (.tmp 46) (.tmp 47) rfl U U rfl rfl ?_; rw [hUU])
    refine (rsame5_c w9 SO.out (S.out.later L.out)).mono ?_
    rw [show (p == p && (r == r && (l == l && (F == F && D == D)))) = true from by simp]
    clear d0 d1 d2 d3 d4 ox0 ox1 ox2 ox3 ox4 ex0 ex1 ex2 fx0 fx1 fx2 hUU
    rintro e wa ⟨rfl, hl⟩
    replace BX := hide (BX.out.later hl)
    replace BH := hide (BH.out.later hl)
    replace L := hide (L.out.later hl)
    replace SA := hide (SA.out.later hl)
    replace BA := hide (BA.out.later hl)
    replace EA := hide (EA.out.later hl)
    clear hl
    clear SO BO EB
    have d0 := BX.out.cell 0
    have d1 := BX.out.cell 1
    have d2 := BX.out.cell 2
    have d3 := BX.out.cell 3
    have d4 := BX.out.cell 4
    have ax0 := BA.out.cell 0
    have ax1 := BA.out.cell 1
    have ax2 := BA.out.cell 2
    have ax3 := BA.out.cell 3
    have ax4 := BA.out.cell 4
    have ex0 := EA.out.cell 0
    have ex1 := EA.out.cell 1
    have ex2 := EA.out.cell 2
    cases hz : (U == ((0, 0, 0) : Sns)) with
    | false =>
      obtain ⟨eF, eD⟩ : F' = F ∧ D' = D := by
        constructor
        · rw [← HF'.out]; unfold ptF; rw [hz]; rfl
        · rw [← HD'.out]; unfold ptD; rw [hz]; rfl
      have hSA : Hid (Slt wa (.agg #[.slice pA n cA, .slice qA kA dA, .bool p, .bool r, .bool l]) n F D p r l) := by
        have := SA.out
        rw [eF, eD] at this
        exact this
      clear HF' HD' HP HL HU SA eF eD
      go_wp2_with (refine wpList_neqS (by kernel_rfl) (.tmp 56) (.tmp 57) rfl U (0, 0, 0) rfl rfl ?_; rw [hz])
      refine (rsame5_c wa hSA.out (S.out.later L.out)).mono ?_
      rw [show (p == p && (r == r && (l == l && (F == F && D == D)))) = true from by simp]
      clear d0 d1 d2 d3 d4 ax0 ax1 ax2 ax3 ax4 ex0 ex1 ex2
      rintro e wb ⟨rfl, hl⟩
      replace L := hide (L.out.later hl)
      clear hl
      go_wp2
      go_ret
      exact ⟨rfl, L.out⟩
    | true =>
      obtain rfl : U = (0, 0, 0) := eq_of_beq hz
      obtain ⟨z, hzz, hzn, hck, hrd⟩ := HP.out rfl
      rw [HD'.out] at hck hrd
      rw [HF'.out] at hrd
      have HCK := hide hck
      have HRD := hide hrd
      have hzw : IntKind.u64.wrap at_ = (z : Int) := by rw [IntKind.wrap_u64, hzz]; omega
      clear HF' HD' HP HU hck hrd hzz
      go_wp2_with (refine wpList_neqS (by kernel_rfl) (.tmp 56) (.tmp 57) rfl (0, 0, 0) (0, 0, 0) rfl rfl ?_; rw [hz])
      try simp only [hzw]
      refine (sread_c _ n F' D' p r l z 1 wa SA.out (by omega) (by omega) (by omega) (by omega) HL.out).mono ?_
      rw [HCK.out, HRD.out]
      rintro e wb ⟨vC, rfl, hl, hC⟩
      clear d0 d1 d2 d3 d4 ax0 ax1 ax2 ax3 ax4 ex0 ex1 ex2
      replace BX := hide (BX.out.later hl)
      replace BH := hide (BH.out.later hl)
      replace L := hide (L.out.later hl)
      have C := hide hC
      clear hl hC SA BA EA hzw hz
      obtain ⟨aC, cC, rfl⟩ := C.out.rw.shape
      rw [HX.out] at C ⊢
      go_wp2_with (refine wpList_newAS rfl rfl rfl rfl 13 12 rfl rfl (by simp) (by decide) (.tmp 67) (.tmp 68) (by simp) (by simp) (by simp) rfl rfl rfl _ (0, 0, 0) rfl rfl ?_)
      intro gC wc hB hl hg
      replace BX := hide (BX.out.later hl)
      replace BH := hide (BH.out.later hl)
      replace L := hide (L.out.later hl)
      replace C := hide (C.out.later hl)
      have BC := hide hB
      clear hl hB hg
      go_wp2_with fail
      have hwc := (Later.refl wc).drew
      have hc := fun r => (hwc.trans (later_rg wc.drew r))
      have y0 := fun r => (BC.out.later (hc r)).cell 0
      have y1 := fun r => (BC.out.later (hc r)).cell 1
      have y2 := fun r => (BC.out.later (hc r)).cell 2
      have hrx : Hid (wc.rangeAt (w.heap.size + 1) 0 (bv X)) := by
        have := range_part BH.out.range 0 64
        rw [List.drop_zero, List.take_left' (by rw [bv_length, HX.out])] at this
        exact this
      refine wp_region_sched ((List.range 16).map fun i => (i, false)) (by kernel_rfl) (by kernel_rfl) (by kernel_rfl) (by kernel_rfl) ?_
      simp only [List.range, List.range.loop, List.map]
      iterate 2 (refine wpS_mild rfl (fun K hK => ?_); go_simp; refine hK _ ?_; clear hK K)
      refine wpS_eqG rfl (by kernel_rfl) 35 _ (.tmp 69) (.tmp 70) rfl _ _ rfl rfl Try.guard_sense true (fun w => sense_eq (0, 0, 0) (0, 0, 0) w) ?_
      iterate 7 (refine wpS_mild rfl (fun K hK => ?_); go_simp; refine hK _ ?_; clear hK K)
      refine wpS_call rfl (by kernel_rfl) 34 (Plain.of (by kernel_rfl)) [.tmp 78, .const (.int .i64 0)] _ rfl [.slice aC 64 cC, .int .i64 0] rfl (.agg (bv X).toArray) (fun wx hx => ?c1) ?_
      case c1 =>
        have h1 : Bs wx (.slice aC 64 cC) X := C.out.later (hwc.trans hx)
        have := of_c 0 wx h1 (by rw [HX.out]; omega)
        rw [show seg X 0 64 = X from by simp only [seg, List.drop_zero]; exact List.take_of_length_le (by rw [HX.out]; omega)] at this
        exact this
      refine wpS_mild rfl (fun K hK => ?_); go_simp; refine hK _ ?_; clear hK K
      refine wpS_loadG rfl (by kernel_rfl) 50 (.tmp 80) rfl (w.heap.size + 1) 0 rfl (bv X) _ ((World.rangeAt_drew _ _ _ _).2 hrx.out) Try.underlying50 rfl (by rw [Try.info_block, bv_length, HX.out]) ?_
      refine wpS_eqG rfl (by kernel_rfl) 50 50 (.tmp 79) (.tmp 81) rfl _ _ rfl rfl Try.guard_block true (fun w => by rw [block_eq X X HX.out HX.out]; simp) ?_
      clear y0 y1 y2
      iterate 2 (refine wpS_mild rfl (fun K hK => ?_); go_simp; refine hK _ ?_; clear hK K)
      refine wpS_nil (fun wx hx => ?_)
      have LX := hide (L.out.trans (hwc.trans hx))
      clear hc hx
      go_wp2
      go_ret
      exact ⟨rfl, LX.out⟩
end Go.Proofs.Ytkbpecbpfajkfaa
