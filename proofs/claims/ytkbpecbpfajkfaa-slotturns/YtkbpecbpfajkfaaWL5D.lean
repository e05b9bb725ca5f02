import Derived.Test.YtkbpecbpfajkfaaMAT
import Derived.Test.YtkbpecbpfajkfaaMAU
import Derived.Test.YtkbpecbpfajkfaaMAM
namespace Go.Proofs.Ytkbpecbpfajkfaa
open Go.ChangeShapes Go.WideShapes Go.ChangeAt Go.RowKit
set_option linter.unusedVariables false
set_option linter.unusedSimpArgs false

theorem same_yes (p r l : Bool) (F : List UInt8) (D : List Drt) : (p == p && (r == r && (l == l && (F == F && D == D)))) = true := by simp
set_option maxRecDepth 20000 in
set_option maxHeartbeats 8000000 in
theorem slotTurns_walk (hal : Alive5) (v0 v1 v2 : Value) (w : World) (h0 : RSlot w v0) (h1 : RBool v1) (h2 : RInt .u64 v2) :
    Calls Try.prog 3 #[v0, v1, v2] w fun e w' => e = .returned (.bool true) ∧ Below w.heap.size w w' := by
  obtain ⟨n, F, D, p, r, l, hs⟩ := h0
  have S := hide hs
  obtain ⟨ab, cb, aD, k, cD, rfl, HK, hn, hk⟩ := hs.shape
  have HM := hide hs.med
  clear hs
  obtain ⟨on, rfl⟩ := h1
  obtain ⟨mask, hmk, rfl⟩ : ∃ a : Nat, a ≤ 18446744073709551615 ∧ v2 = .int .u64 (a : Int) := by
    obtain ⟨x, rfl, wx⟩ := h2
    have hb := bounds_u64 wx
    obtain ⟨y, rfl⟩ := Int.eq_ofNat_of_zero_le hb.1
    exact ⟨y, by omega, rfl⟩
  clear h2
  obtain ⟨np, HNP⟩ : ∃ b : Bool, Hid ((!p) = b) := ⟨_, rfl⟩
  obtain ⟨pl, HPL⟩ : ∃ b : Bool, Hid ((p && l) = b) := ⟨_, rfl⟩
  obtain ⟨pn, HPN⟩ : ∃ b : Bool, Hid ((p && !l) = b) := ⟨_, rfl⟩
  obtain ⟨ll, HLL⟩ : ∃ b : Bool, Hid ((if p = true then on else l) = b) := ⟨_, rfl⟩
  obtain ⟨U, HU⟩ : ∃ s : Sns, Hid (ulS p l = s) := ⟨_, rfl⟩
  obtain ⟨V, HV⟩ : ∃ s : Sns, Hid (readyS p = s) := ⟨_, rfl⟩
  have BX : Hid (Box (w.alloc (.cells #[.slice ab n cb, .slice aD k cD, .bool p, .bool r, .bool l] 27)) w.heap.size 27 (tc (.slice ab n cb) (.slice aD k cD) p r l)) := Box.new w 27 #[.slice ab n cb, .slice aD k cD, .bool p, .bool r, .bool l]
  have L := hide ((Later.refl w).alloc (.cells #[.slice ab n cb, .slice aD k cD, .bool p, .bool r, .bool l] 27))
  go_enter Try.func3, Try.ntmps3
  go_wp2_with fail
  refine (hal _).mono ?_
  rintro e w1 ⟨rfl, hl⟩
  replace BX := hide (BX.out.later hl)
  replace L := hide (L.out.later hl)
  clear hl
  have d0 := BX.out.cell 0
  have d1 := BX.out.cell 1
  go_wp2_with fail
  refine (rgreat_c _ (HM.out.later L.out)).mono ?_
  clear d0 d1
  rintro e w2 ⟨rfl, hl⟩
  replace BX := hide (BX.out.later hl)
  replace L := hide (L.out.later hl)
  clear hl
  cases hg : greatB n D with
  | true =>
    go_wp2
    go_ret
    exact ⟨rfl, L.out⟩
  | false =>
    have hnk : n ≤ 70 ∧ k ≤ 70 := by have := HK.out; simp [greatB] at hg; omega
    have HD : Hid (D.length ≤ 100) := by have := HK.out; unfold Hid; omega
    clear hg
    have d0 := BX.out.cell 0
    have d1 := BX.out.cell 1
    have d2 := BX.out.cell 2
    have d3 := BX.out.cell 3
    have d4 := BX.out.cell 4
    go_wp2_with fail
    refine (rcopy5_c w2 (S.out.later L.out) (by omega) (by have := HD.out; omega)).mono ?_
    clear d0 d1 d2 d3 d4
    rintro e w3 ⟨vO, rfl, hl, hO⟩
    replace BX := hide (BX.out.later hl)
    replace L := hide (L.out.later hl)
    have SO := hide hO
    obtain ⟨pO, cO, qO, kO, dO, rfl, _, _, _⟩ := hO.shape
    clear hl hO
    go_wp2_with (refine wpList_newT rfl rfl rfl 7 rfl (by simp) (.tmp 30) (by simp) rfl pO qO _ cO kO dO _ _ _ rfl ?_)
    intro gO w4 hB hl hg
    replace BX := hide (BX.out.later hl)
    replace L := hide (L.out.later hl)
    replace SO := hide (SO.out.later hl)
    have BO := hide hB
    clear hl hB hg
    have d0 := BO.out.cell 0
    have d1 := BO.out.cell 1
    have d2 := BO.out.cell 2
    have d3 := BO.out.cell 3
    have d4 := BO.out.cell 4
    go_wp2_with fail
    have hq := sinsert_c _ n F D p r l w4 SO.out (by omega) HD.out
    rw [HNP.out] at hq
    refine hq.mono ?_
    clear hq d0 d1 d2 d3 d4
    rintro e w5 ⟨vA, rfl, hl, hA⟩
    replace BX := hide (BX.out.later hl)
    replace L := hide (L.out.later hl)
    replace BO := hide (BO.out.later hl)
    replace SO := hide (SO.out.later hl)
    have SA := hide hA
    obtain ⟨pA, cA, qA, kA, dA, rfl, _, _, _⟩ := hA.shape
    clear hl hA
    go_wp2_with (refine wpList_newT rfl rfl rfl 8 rfl (by simp) (.tmp 34) (by simp) rfl pA qA _ cA kA dA _ _ _ rfl ?_)
    intro gA w6 hB hl hg
    replace BX := hide (BX.out.later hl)
    replace L := hide (L.out.later hl)
    replace BO := hide (BO.out.later hl)
    replace SO := hide (SO.out.later hl)
    replace SA := hide (SA.out.later hl)
    have BA := hide hB
    clear hl hB hg
    have d0 := BX.out.cell 0
    have d1 := BX.out.cell 1
    have d2 := BX.out.cell 2
    have d3 := BX.out.cell 3
    have d4 := BX.out.cell 4
    go_wp2_with fail
    have hq := rinsert_c w6 (S.out.later L.out)
    rw [HNP.out] at hq
    refine hq.mono ?_
    clear hq d0 d1 d2 d3 d4
    rintro e w7 ⟨vB, rfl, hl, hB, _⟩
    replace BX := hide (BX.out.later hl)
    replace L := hide (L.out.later hl)
    replace BO := hide (BO.out.later hl)
    replace SO := hide (SO.out.later hl)
    replace SA := hide (SA.out.later hl)
    replace BA := hide (BA.out.later hl)
    have SB := hide hB
    obtain ⟨pB, cB, qB, kB, dB, rfl, _, _, _⟩ := hB.shape
    clear hl hB
    go_wp2_with (refine wpList_newT rfl rfl rfl 10 rfl (by simp) (.tmp 39) (by simp) rfl pB qB _ cB kB dB _ _ _ rfl ?_)
    intro gB w8 hB hl hg
    replace BX := hide (BX.out.later hl)
    replace L := hide (L.out.later hl)
    replace BO := hide (BO.out.later hl)
    replace SO := hide (SO.out.later hl)
    replace SA := hide (SA.out.later hl)
    replace BA := hide (BA.out.later hl)
    replace SB := hide (SB.out.later hl)
    have BB := hide hB
    clear hl hB hg
    have d0 := BO.out.cell 0
    have d1 := BO.out.cell 1
    have d2 := BO.out.cell 2
    have d3 := BO.out.cell 3
    have d4 := BO.out.cell 4
    go_wp2_with fail
    have hq := sbutton_c _ n F D p r l w8 SO.out (by omega) HD.out
    rw [HPN.out, HPL.out] at hq
    refine hq.mono ?_
    clear hq d0 d1 d2 d3 d4
    rintro e w9 ⟨vC, rfl, hl, hC⟩
    replace BX := hide (BX.out.later hl)
    replace L := hide (L.out.later hl)
    replace BO := hide (BO.out.later hl)
    replace SO := hide (SO.out.later hl)
    replace SA := hide (SA.out.later hl)
    replace BA := hide (BA.out.later hl)
    replace SB := hide (SB.out.later hl)
    replace BB := hide (BB.out.later hl)
    have SC := hide hC
    obtain ⟨pC, cC, qC, kC, dC, rfl, _, _, _⟩ := hC.shape
    clear hl hC
    go_wp2_with (refine wpList_newT rfl rfl rfl 12 rfl (by simp) (.tmp 44) (by simp) rfl pC qC _ cC kC dC _ _ _ rfl ?_)
    intro gC w10 hB hl hg
    replace BX := hide (BX.out.later hl)
    replace L := hide (L.out.later hl)
    replace BO := hide (BO.out.later hl)
    replace SO := hide (SO.out.later hl)
    replace SA := hide (SA.out.later hl)
    replace BA := hide (BA.out.later hl)
    replace SB := hide (SB.out.later hl)
    replace BB := hide (BB.out.later hl)
    replace SC := hide (SC.out.later hl)
    have BC := hide hB
    clear hl hB hg
    have d0 := BX.out.cell 0
    have d1 := BX.out.cell 1
    have d2 := BX.out.cell 2
    have d3 := BX.out.cell 3
    have d4 := BX.out.cell 4
    go_wp2_with fail
    have hq := rbutton_c w10 (S.out.later L.out)
    rw [HPN.out, HPL.out] at hq
    refine hq.mono ?_
    clear hq d0 d1 d2 d3 d4
    rintro e w11 ⟨vE, rfl, hl, hE, _⟩
    replace BX := hide (BX.out.later hl)
    replace L := hide (L.out.later hl)
    replace BO := hide (BO.out.later hl)
    replace SO := hide (SO.out.later hl)
    replace SA := hide (SA.out.later hl)
    replace BA := hide (BA.out.later hl)
    replace SB := hide (SB.out.later hl)
    replace BB := hide (BB.out.later hl)
    replace SC := hide (SC.out.later hl)
    replace BC := hide (BC.out.later hl)
    have SE := hide hE
    obtain ⟨pE, cE, qE, kE, dE, rfl, _, _, _⟩ := hE.shape
    clear hl hE
    go_wp2_with (refine wpList_newT rfl rfl rfl 14 rfl (by simp) (.tmp 49) (by simp) rfl pE qE _ cE kE dE _ _ _ rfl ?_)
    intro gE w12 hB hl hg
    replace BX := hide (BX.out.later hl)
    replace L := hide (L.out.later hl)
    replace BO := hide (BO.out.later hl)
    replace SO := hide (SO.out.later hl)
    replace SA := hide (SA.out.later hl)
    replace BA := hide (BA.out.later hl)
    replace SB := hide (SB.out.later hl)
    replace BB := hide (BB.out.later hl)
    replace SC := hide (SC.out.later hl)
    replace BC := hide (BC.out.later hl)
    replace SE := hide (SE.out.later hl)
    have BE := hide hB
    clear hl hB hg
    have d0 := BO.out.cell 0
    have d1 := BO.out.cell 1
    have d2 := BO.out.cell 2
    have d3 := BO.out.cell 3
    have d4 := BO.out.cell 4
    go_wp2_with fail
    have hq := sunload_c _ n F D p r l w12 SO.out (by omega) HD.out
    rw [HU.out, HPL.out] at hq
    refine hq.mono ?_
    clear hq d0 d1 d2 d3 d4
    rintro e w13 ⟨vG, rfl, hl, hG⟩
    replace BX := hide (BX.out.later hl)
    replace L := hide (L.out.later hl)
    replace BO := hide (BO.out.later hl)
    replace SO := hide (SO.out.later hl)
    replace SA := hide (SA.out.later hl)
    replace BA := hide (BA.out.later hl)
    replace SB := hide (SB.out.later hl)
    replace BB := hide (BB.out.later hl)
    replace SC := hide (SC.out.later hl)
    replace BC := hide (BC.out.later hl)
    replace SE := hide (SE.out.later hl)
    replace BE := hide (BE.out.later hl)
    have SG := hide hG
    obtain ⟨pG, cG, qG, kG, dG, rfl, _, _, _⟩ := hG.shape
    clear hl hG
    go_wp2_with (refine wpList_newTS rfl rfl rfl rfl rfl rfl 16 17 rfl rfl (by simp) (by simp) (by decide) (.tmp 54) (.tmp 55) (by simp) (by simp) (by simp) (by simp) rfl rfl rfl rfl pG qG _ cG kG dG _ _ _ U rfl rfl ?_)
    intro gG fG w14 hB hB2 hl hg
    replace BX := hide (BX.out.later hl)
    replace L := hide (L.out.later hl)
    replace BO := hide (BO.out.later hl)
    replace SO := hide (SO.out.later hl)
    replace SA := hide (SA.out.later hl)
    replace BA := hide (BA.out.later hl)
    replace SB := hide (SB.out.later hl)
    replace BB := hide (BB.out.later hl)
    replace SC := hide (SC.out.later hl)
    replace BC := hide (BC.out.later hl)
    replace SE := hide (SE.out.later hl)
    replace BE := hide (BE.out.later hl)
    replace SG := hide (SG.out.later hl)
    have BG := hide hB
    have EG := hide hB2
    clear hl hB hB2 hg
    have d0 := BX.out.cell 0
    have d1 := BX.out.cell 1
    have d2 := BX.out.cell 2
    have d3 := BX.out.cell 3
    have d4 := BX.out.cell 4
    go_wp2_with fail
    have hq := runload_c w14 (S.out.later L.out)
    rw [HU.out, HPL.out] at hq
    refine hq.mono ?_
    clear hq d0 d1 d2 d3 d4
    rintro e w15 ⟨vH, rfl, hl, hH⟩
    replace BX := hide (BX.out.later hl)
    replace L := hide (L.out.later hl)
    replace BO := hide (BO.out.later hl)
    replace SO := hide (SO.out.later hl)
    replace SA := hide (SA.out.later hl)
    replace BA := hide (BA.out.later hl)
    replace SB := hide (SB.out.later hl)
    replace BB := hide (BB.out.later hl)
    replace SC := hide (SC.out.later hl)
    replace BC := hide (BC.out.later hl)
    replace SE := hide (SE.out.later hl)
    replace BE := hide (BE.out.later hl)
    replace SG := hide (SG.out.later hl)
    replace BG := hide (BG.out.later hl)
    replace EG := hide (EG.out.later hl)
    have SH := hide hH
    obtain ⟨pH, cH, qH, kH, dH, rfl, _, _, _⟩ := hH.shape
    clear hl hH
    go_wp2_with (refine wpList_newTS rfl rfl rfl rfl rfl rfl 18 19 rfl rfl (by simp) (by simp) (by decide) (.tmp 59) (.tmp 60) (by simp) (by simp) (by simp) (by simp) rfl rfl rfl rfl pH qH _ cH kH dH _ _ _ U rfl rfl ?_)
    intro gH fH w16 hB hB2 hl hg
    replace BX := hide (BX.out.later hl)
    replace L := hide (L.out.later hl)
    replace BO := hide (BO.out.later hl)
    replace SO := hide (SO.out.later hl)
    replace SA := hide (SA.out.later hl)
    replace BA := hide (BA.out.later hl)
    replace SB := hide (SB.out.later hl)
    replace BB := hide (BB.out.later hl)
    replace SC := hide (SC.out.later hl)
    replace BC := hide (BC.out.later hl)
    replace SE := hide (SE.out.later hl)
    replace BE := hide (BE.out.later hl)
    replace SG := hide (SG.out.later hl)
    replace BG := hide (BG.out.later hl)
    replace EG := hide (EG.out.later hl)
    replace SH := hide (SH.out.later hl)
    have BH := hide hB
    have EH := hide hB2
    clear hl hB hB2 hg
    have d0 := BO.out.cell 0
    have d1 := BO.out.cell 1
    have d2 := BO.out.cell 2
    have d3 := BO.out.cell 3
    have d4 := BO.out.cell 4
    go_wp2_with fail
    have hq := skeep_c _ n F D p r l on w16 SO.out (by omega) HD.out
    rw [HV.out, HLL.out] at hq
    refine hq.mono ?_
    clear hq d0 d1 d2 d3 d4
    rintro e w17 ⟨vI, rfl, hl, hI⟩
    replace BX := hide (BX.out.later hl)
    replace L := hide (L.out.later hl)
    replace BO := hide (BO.out.later hl)
    replace SO := hide (SO.out.later hl)
    replace SA := hide (SA.out.later hl)
    replace BA := hide (BA.out.later hl)
    replace SB := hide (SB.out.later hl)
    replace BB := hide (BB.out.later hl)
    replace SC := hide (SC.out.later hl)
    replace BC := hide (BC.out.later hl)
    replace SE := hide (SE.out.later hl)
    replace BE := hide (BE.out.later hl)
    replace SG := hide (SG.out.later hl)
    replace BG := hide (BG.out.later hl)
    replace EG := hide (EG.out.later hl)
    replace SH := hide (SH.out.later hl)
    replace BH := hide (BH.out.later hl)
    replace EH := hide (EH.out.later hl)
    have SI := hide hI
    obtain ⟨pI, cI, qI, kI, dI, rfl, _, _, _⟩ := hI.shape
    clear hl hI
    go_wp2_with (refine wpList_newTS rfl rfl rfl rfl rfl rfl 20 21 rfl rfl (by simp) (by simp) (by decide) (.tmp 65) (.tmp 66) (by simp) (by simp) (by simp) (by simp) rfl rfl rfl rfl pI qI _ cI kI dI _ _ _ V rfl rfl ?_)
    intro gI fI w18 hB hB2 hl hg
    replace BX := hide (BX.out.later hl)
    replace L := hide (L.out.later hl)
    replace BO := hide (BO.out.later hl)
    replace SO := hide (SO.out.later hl)
    replace SA := hide (SA.out.later hl)
    replace BA := hide (BA.out.later hl)
    replace SB := hide (SB.out.later hl)
    replace BB := hide (BB.out.later hl)
    replace SC := hide (SC.out.later hl)
    replace BC := hide (BC.out.later hl)
    replace SE := hide (SE.out.later hl)
    replace BE := hide (BE.out.later hl)
    replace SG := hide (SG.out.later hl)
    replace BG := hide (BG.out.later hl)
    replace EG := hide (EG.out.later hl)
    replace SH := hide (SH.out.later hl)
    replace BH := hide (BH.out.later hl)
    replace EH := hide (EH.out.later hl)
    replace SI := hide (SI.out.later hl)
    have BI := hide hB
    have EI := hide hB2
    clear hl hB hB2 hg
    have d0 := BX.out.cell 0
    have d1 := BX.out.cell 1
    have d2 := BX.out.cell 2
    have d3 := BX.out.cell 3
    have d4 := BX.out.cell 4
    go_wp2_with fail
    have hq := rkeep_c on w18 (S.out.later L.out)
    rw [HV.out, HLL.out] at hq
    refine hq.mono ?_
    clear hq d0 d1 d2 d3 d4
    rintro e w19 ⟨vJ, rfl, hl, hJ⟩
    replace BX := hide (BX.out.later hl)
    replace L := hide (L.out.later hl)
    replace BO := hide (BO.out.later hl)
    replace SO := hide (SO.out.later hl)
    replace SA := hide (SA.out.later hl)
    replace BA := hide (BA.out.later hl)
    replace SB := hide (SB.out.later hl)
    replace BB := hide (BB.out.later hl)
    replace SC := hide (SC.out.later hl)
    replace BC := hide (BC.out.later hl)
    replace SE := hide (SE.out.later hl)
    replace BE := hide (BE.out.later hl)
    replace SG := hide (SG.out.later hl)
    replace BG := hide (BG.out.later hl)
    replace EG := hide (EG.out.later hl)
    replace SH := hide (SH.out.later hl)
    replace BH := hide (BH.out.later hl)
    replace EH := hide (EH.out.later hl)
    replace SI := hide (SI.out.later hl)
    replace BI := hide (BI.out.later hl)
    replace EI := hide (EI.out.later hl)
    have SJ := hide hJ
    obtain ⟨pJ, cJ, qJ, kJ, dJ, rfl, _, _, _⟩ := hJ.shape
    clear hl hJ
    go_wp2_with (refine wpList_newTS rfl rfl rfl rfl rfl rfl 22 23 rfl rfl (by simp) (by simp) (by decide) (.tmp 71) (.tmp 72) (by simp) (by simp) (by simp) (by simp) rfl rfl rfl rfl pJ qJ _ cJ kJ dJ _ _ _ V rfl rfl ?_)
    intro gJ fJ w20 hB hB2 hl hg
    replace BX := hide (BX.out.later hl)
    replace L := hide (L.out.later hl)
    replace BO := hide (BO.out.later hl)
    replace SO := hide (SO.out.later hl)
    replace SA := hide (SA.out.later hl)
    replace BA := hide (BA.out.later hl)
    replace SB := hide (SB.out.later hl)
    replace BB := hide (BB.out.later hl)
    replace SC := hide (SC.out.later hl)
    replace BC := hide (BC.out.later hl)
    replace SE := hide (SE.out.later hl)
    replace BE := hide (BE.out.later hl)
    replace SG := hide (SG.out.later hl)
    replace BG := hide (BG.out.later hl)
    replace EG := hide (EG.out.later hl)
    replace SH := hide (SH.out.later hl)
    replace BH := hide (BH.out.later hl)
    replace EH := hide (EH.out.later hl)
    replace SI := hide (SI.out.later hl)
    replace BI := hide (BI.out.later hl)
    replace EI := hide (EI.out.later hl)
    replace SJ := hide (SJ.out.later hl)
    have BJ := hide hB
    have EJ := hide hB2
    clear hl hB hB2 hg
    have hUU : (U == U) = true := by simp
    have hVV : (V == V) = true := by simp
    have hnn : (np != np) = false := by simp
    have hpp : (pn != pn) = false := by simp
    have ax0 := BA.out.cell 0
    have ax1 := BA.out.cell 1
    have ax2 := BA.out.cell 2
    have ax3 := BA.out.cell 3
    have ax4 := BA.out.cell 4
    have bx0 := BB.out.cell 0
    have bx1 := BB.out.cell 1
    have bx2 := BB.out.cell 2
    have bx3 := BB.out.cell 3
    have bx4 := BB.out.cell 4
    go_wp2_with fail
    refine (rsame5_c w20 SA.out SB.out).mono ?_
    rw [same_yes]
    rintro e w21 ⟨rfl, hl⟩
    clear ax0 ax1 ax2 ax3 ax4 bx0 bx1 bx2 bx3 bx4
    replace BX := hide (BX.out.later hl)
    replace L := hide (L.out.later hl)
    replace BO := hide (BO.out.later hl)
    replace SO := hide (SO.out.later hl)
    replace SC := hide (SC.out.later hl)
    replace BC := hide (BC.out.later hl)
    replace SE := hide (SE.out.later hl)
    replace BE := hide (BE.out.later hl)
    replace SG := hide (SG.out.later hl)
    replace BG := hide (BG.out.later hl)
    replace EG := hide (EG.out.later hl)
    replace SH := hide (SH.out.later hl)
    replace BH := hide (BH.out.later hl)
    replace EH := hide (EH.out.later hl)
    replace SI := hide (SI.out.later hl)
    replace BI := hide (BI.out.later hl)
    replace EI := hide (EI.out.later hl)
    replace SJ := hide (SJ.out.later hl)
    replace BJ := hide (BJ.out.later hl)
    replace EJ := hide (EJ.out.later hl)
    clear hl SA SB BA BB
    have ax0 := BC.out.cell 0
    have ax1 := BC.out.cell 1
    have ax2 := BC.out.cell 2
    have ax3 := BC.out.cell 3
    have ax4 := BC.out.cell 4
    have bx0 := BE.out.cell 0
    have bx1 := BE.out.cell 1
    have bx2 := BE.out.cell 2
    have bx3 := BE.out.cell 3
    have bx4 := BE.out.cell 4
    go_wp2_with fail
    refine (rsame5_c w21 SC.out SE.out).mono ?_
    rw [same_yes]
    rintro e w22 ⟨rfl, hl⟩
    clear ax0 ax1 ax2 ax3 ax4 bx0 bx1 bx2 bx3 bx4
    replace BX := hide (BX.out.later hl)
    replace L := hide (L.out.later hl)
    replace BO := hide (BO.out.later hl)
    replace SO := hide (SO.out.later hl)
    replace SG := hide (SG.out.later hl)
    replace BG := hide (BG.out.later hl)
    replace EG := hide (EG.out.later hl)
    replace SH := hide (SH.out.later hl)
    replace BH := hide (BH.out.later hl)
    replace EH := hide (EH.out.later hl)
    replace SI := hide (SI.out.later hl)
    replace BI := hide (BI.out.later hl)
    replace EI := hide (EI.out.later hl)
    replace SJ := hide (SJ.out.later hl)
    replace BJ := hide (BJ.out.later hl)
    replace EJ := hide (EJ.out.later hl)
    clear hl SC SE BC BE
    have ax0 := BG.out.cell 0
    have ax1 := BG.out.cell 1
    have ax2 := BG.out.cell 2
    have ax3 := BG.out.cell 3
    have ax4 := BG.out.cell 4
    have bx0 := BH.out.cell 0
    have bx1 := BH.out.cell 1
    have bx2 := BH.out.cell 2
    have bx3 := BH.out.cell 3
    have bx4 := BH.out.cell 4
    go_wp2_with fail
    refine (rsame5_c w22 SG.out SH.out).mono ?_
    rw [same_yes]
    rintro e w23 ⟨rfl, hl⟩
    clear ax0 ax1 ax2 ax3 ax4 bx0 bx1 bx2 bx3 bx4
    replace BX := hide (BX.out.later hl)
    replace L := hide (L.out.later hl)
    replace BO := hide (BO.out.later hl)
    replace SO := hide (SO.out.later hl)
    replace EG := hide (EG.out.later hl)
    replace EH := hide (EH.out.later hl)
    replace SI := hide (SI.out.later hl)
    replace BI := hide (BI.out.later hl)
    replace EI := hide (EI.out.later hl)
    replace SJ := hide (SJ.out.later hl)
    replace BJ := hide (BJ.out.later hl)
    replace EJ := hide (EJ.out.later hl)
    clear hl SG SH BG BH
    have ex0 := EG.out.cell 0
    have ex1 := EG.out.cell 1
    have ex2 := EG.out.cell 2
    have fx0 := EH.out.cell 0
    have fx1 := EH.out.cell 1
    have fx2 := EH.out.cell 2
    have ax0 := BI.out.cell 0
    have ax1 := BI.out.cell 1
    have ax2 := BI.out.cell 2
    have ax3 := BI.out.cell 3
    have ax4 := BI.out.cell 4
    have bx0 := BJ.out.cell 0
    have bx1 := BJ.out.cell 1
    have bx2 := BJ.out.cell 2
    have bx3 := BJ.out.cell 3
    have bx4 := BJ.out.cell 4
    go_wp2_with (refine wpList_neqS (by kernel_rfl) (.tmp 100) (.tmp 101) rfl U U rfl rfl ?_; rw [hUU])
    refine (rsame5_c w23 SI.out SJ.out).mono ?_
    rw [same_yes]
    rintro e w24 ⟨rfl, hl⟩
    clear ax0 ax1 ax2 ax3 ax4 bx0 bx1 bx2 bx3 bx4
    replace BX := hide (BX.out.later hl)
    replace L := hide (L.out.later hl)
    replace BO := hide (BO.out.later hl)
    replace SO := hide (SO.out.later hl)
    replace EG := hide (EG.out.later hl)
    replace EH := hide (EH.out.later hl)
    replace EI := hide (EI.out.later hl)
    replace EJ := hide (EJ.out.later hl)
    clear hl SI SJ BI BJ
    clear ex0 ex1 ex2 fx0 fx1 fx2 EG EH
    have ex0 := EI.out.cell 0
    have ex1 := EI.out.cell 1
    have ex2 := EI.out.cell 2
    have fx0 := EJ.out.cell 0
    have fx1 := EJ.out.cell 1
    have fx2 := EJ.out.cell 2
    go_wp2_with (refine wpList_neqS (by kernel_rfl) (.tmp 111) (.tmp 112) rfl V V rfl rfl ?_; rw [hVV])
    clear ex0 ex1 ex2 fx0 fx1 fx2 EI EJ
    have hwc := (Later.refl w24).drew
    clear hUU hVV hnn hpp
    refine wp_region_sched ([0, 1, 3, 4].map (fun i => (i, false)) ++ [(2, true), (5, true)] ++ [6, 7, 8, 10].map (fun i => (i, false)) ++ [(9, true), (11, true)] ++ [12, 13, 14, 15, 16, 18, 19].map (fun i => (i, false)) ++ [(17, true), (20, true)] ++ [21, 22, 23, 24, 26, 25, 27, 28, 29, 30, 31, 32, 33, 34, 35].map (fun i => (i, false))) (by kernel_rfl) (by kernel_rfl) (by kernel_rfl) (by kernel_rfl) ?_
    simp only [List.map, List.append_assoc, List.cons_append, List.nil_append]
    refine wpS_loadG rfl (by kernel_rfl) 27 (.tmp 7) rfl gO 0 rfl (tc (.slice pO n cO) (.slice qO kO dO) p r l) _ (BO.out.later (hwc)).range Try.underlying27 rfl Try.info_slot ?_
    iterate 1 (refine wpS_mild rfl (fun K hK => ?_); go_simp; refine hK _ ?_; clear hK K)
    refine wpS_loadG rfl (by kernel_rfl) 27 (.tmp 3) rfl w.heap.size 0 rfl (tc (.slice ab n cb) (.slice aD k cD) p r l) _ (BX.out.later (hwc)).range Try.underlying27 rfl Try.info_slot ?_
    iterate 1 (refine wpS_mild rfl (fun K hK => ?_); go_simp; refine hK _ ?_; clear hK K)
    refine wpS_callL rfl (by kernel_rfl) 20 (Plain.of (by kernel_rfl)) [.tmp 115, .tmp 116] _ rfl [.agg #[.slice pO n cO, .slice qO kO dO, .bool p, .bool r, .bool l], .bool on] rfl (fun v w' => Slt w' v n (swF on r n F D) (swD on r n D) p on l) (fun wx hx => sswitch_c _ n F D p r l on wx (SO.out.later (hwc.trans hx)) (by omega) HD.out) ?_
    intro u1 e1 h1 R1
    refine wpS_callL rfl (by kernel_rfl) 21 (Plain.of (by kernel_rfl)) [.tmp 118, .tmp 119] _ rfl [.agg #[.slice ab n cb, .slice aD k cD, .bool p, .bool r, .bool l], .bool on] rfl (fun v w' => Slt w' v n (swF on r n F D) (swD on r n D) p on l) (fun wx hx => (rswitch_c on wx (S.out.later (L.out.trans ((hwc.trans h1).trans hx)))).mono fun e w' ⟨v, h1, h2, h3, _⟩ => ⟨v, h1, h2, h3⟩) ?_
    intro u2 e2 h2 R2
    refine wpS_call rfl (by kernel_rfl) 19 (Plain.of (by kernel_rfl)) [.tmp 117, .tmp 120] _ rfl [u1, u2] rfl (.bool true) (fun wx hx => ?c2) ?_
    case c2 =>
      refine (rsame5_c wx (R1.later (h2.trans hx)) (R2.later hx)).mono fun e w' ⟨he, hl⟩ => ⟨?_, hl⟩
      rw [he, same_yes]
    iterate 1 (refine wpS_mild rfl (fun K hK => ?_); go_simp; refine hK _ ?_; clear hK K)
    refine wpS_loadG rfl (by kernel_rfl) 27 (.tmp 7) rfl gO 0 rfl (tc (.slice pO n cO) (.slice qO kO dO) p r l) _ (BO.out.later ((hwc.trans h1).trans h2)).range Try.underlying27 rfl Try.info_slot ?_
    refine wpS_loadG rfl (by kernel_rfl) 27 (.tmp 3) rfl w.heap.size 0 rfl (tc (.slice ab n cb) (.slice aD k cD) p r l) _ (BX.out.later ((hwc.trans h1).trans h2)).range Try.underlying27 rfl Try.info_slot ?_
    refine wpS_callL rfl (by kernel_rfl) 22 (Plain.of (by kernel_rfl)) [.tmp 123] _ rfl [.agg #[.slice pO n cO, .slice qO kO dO, .bool p, .bool r, .bool l]] rfl (fun v w' => Slt w' v n (syncF n F D) (syncD n D) p r l) (fun wx hx => ssync_c _ n F D p r l wx (SO.out.later (((hwc.trans h1).trans h2).trans hx)) (by omega) HD.out) ?_
    intro u3 e3 h3 R3
    refine wpS_callL rfl (by kernel_rfl) 23 (Plain.of (by kernel_rfl)) [.tmp 125] _ rfl [.agg #[.slice ab n cb, .slice aD k cD, .bool p, .bool r, .bool l]] rfl (fun v w' => Slt w' v n (syncF n F D) (syncD n D) p r l) (fun wx hx => (rsync_c wx (S.out.later (L.out.trans ((((hwc.trans h1).trans h2).trans h3).trans hx)))).mono fun e w' ⟨v, h1, h2, h3, _⟩ => ⟨v, h1, h2, h3⟩) ?_
    intro u4 e4 h4 R4
    refine wpS_call rfl (by kernel_rfl) 19 (Plain.of (by kernel_rfl)) [.tmp 124, .tmp 126] _ rfl [u3, u4] rfl (.bool true) (fun wx hx => ?c2) ?_
    case c2 =>
      refine (rsame5_c wx (R3.later (h4.trans hx)) (R4.later hx)).mono fun e w' ⟨he, hl⟩ => ⟨?_, hl⟩
      rw [he, same_yes]
    iterate 2 (refine wpS_mild rfl (fun K hK => ?_); go_simp; refine hK _ ?_; clear hK K)
    refine wpS_loadG rfl (by kernel_rfl) 27 (.tmp 7) rfl gO 0 rfl (tc (.slice pO n cO) (.slice qO kO dO) p r l) _ (BO.out.later ((((hwc.trans h1).trans h2).trans h3).trans h4)).range Try.underlying27 rfl Try.info_slot ?_
    iterate 1 (refine wpS_mild rfl (fun K hK => ?_); go_simp; refine hK _ ?_; clear hK K)
    refine wpS_loadG rfl (by kernel_rfl) 27 (.tmp 3) rfl w.heap.size 0 rfl (tc (.slice ab n cb) (.slice aD k cD) p r l) _ (BX.out.later ((((hwc.trans h1).trans h2).trans h3).trans h4)).range Try.underlying27 rfl Try.info_slot ?_
    iterate 1 (refine wpS_mild rfl (fun K hK => ?_); go_simp; refine hK _ ?_; clear hK K)
    refine wpS_callL rfl (by kernel_rfl) 24 (Plain.of (by kernel_rfl)) [.tmp 130, .tmp 131] _ rfl [.agg #[.slice pO n cO, .slice qO kO dO, .bool p, .bool r, .bool l], .int .u64 mask] rfl (fun v w' => Slt w' v n (pwF n F D mask) (pwD n D) p r false) (fun wx hx => spower_c _ n F D p r l mask wx (SO.out.later (((((hwc.trans h1).trans h2).trans h3).trans h4).trans hx)) hmk (by omega) HD.out) ?_
    intro u5 e5 h5 R5
    refine wpS_callL rfl (by kernel_rfl) 25 (Plain.of (by kernel_rfl)) [.tmp 133, .tmp 134] _ rfl [.agg #[.slice ab n cb, .slice aD k cD, .bool p, .bool r, .bool l], .int .u64 mask] rfl (fun v w' => Slt w' v n (pwF n F D mask) (pwD n D) p r false) (fun wx hx => rpower_c mask wx (S.out.later (L.out.trans ((((((hwc.trans h1).trans h2).trans h3).trans h4).trans h5).trans hx))) hmk) ?_
    intro u6 e6 h6 R6
    refine wpS_call rfl (by kernel_rfl) 19 (Plain.of (by kernel_rfl)) [.tmp 132, .tmp 135] _ rfl [u5, u6] rfl (.bool true) (fun wx hx => ?c2) ?_
    case c2 =>
      refine (rsame5_c wx (R5.later (h6.trans hx)) (R6.later hx)).mono fun e w' ⟨he, hl⟩ => ⟨?_, hl⟩
      rw [he, same_yes]
    have hlast := (((((hwc.trans h1).trans h2).trans h3).trans h4).trans h5).trans h6
    iterate 2 (refine wpS_mild rfl (fun K hK => ?_); go_simp; refine hK _ ?_; clear hK K)
    refine wpS_loadG rfl (by kernel_rfl) 27 (.tmp 7) rfl gO 0 rfl (tc (.slice pO n cO) (.slice qO kO dO) p r l) _ (BO.out.later (hlast)).range Try.underlying27 rfl Try.info_slot ?_
    refine wpS_loadG rfl (by kernel_rfl) 27 (.tmp 3) rfl w.heap.size 0 rfl (tc (.slice ab n cb) (.slice aD k cD) p r l) _ (BX.out.later (hlast)).range Try.underlying27 rfl Try.info_slot ?_
    refine wpS_call rfl (by kernel_rfl) 26 (Plain.of (by kernel_rfl)) [.tmp 139] _ rfl [.agg #[.slice pO n cO, .slice qO kO dO, .bool p, .bool r, .bool l]] rfl (sval V) (fun wx hx => by have hq := sready_c _ n F D p r l wx (SO.out.later (hlast.trans hx)); rw [HV.out] at hq; exact hq) ?_
    refine wpS_call rfl (by kernel_rfl) 27 (Plain.of (by kernel_rfl)) [.tmp 141] _ rfl [.agg #[.slice ab n cb, .slice aD k cD, .bool p, .bool r, .bool l]] rfl (sval V) (fun wx hx => by have hq := rready_c wx (S.out.later (L.out.trans (hlast.trans hx))); rw [HV.out] at hq; exact hq) ?_
    refine wpS_eqG rfl (by kernel_rfl) 35 _ (.tmp 140) (.tmp 142) rfl _ _ rfl rfl Try.guard_sense true (fun w => by rw [sense_eq V V w]; simp) ?_
    iterate 2 (refine wpS_mild rfl (fun K hK => ?_); go_simp; refine hK _ ?_; clear hK K)
    refine wpS_loadG rfl (by kernel_rfl) 27 (.tmp 7) rfl gO 0 rfl (tc (.slice pO n cO) (.slice qO kO dO) p r l) _ (BO.out.later (hlast)).range Try.underlying27 rfl Try.info_slot ?_
    refine wpS_loadG rfl (by kernel_rfl) 27 (.tmp 3) rfl w.heap.size 0 rfl (tc (.slice ab n cb) (.slice aD k cD) p r l) _ (BX.out.later (hlast)).range Try.underlying27 rfl Try.info_slot ?_
    refine wpS_call rfl (by kernel_rfl) 19 (Plain.of (by kernel_rfl)) [.tmp 146, .tmp 147] _ rfl [.agg #[.slice pO n cO, .slice qO kO dO, .bool p, .bool r, .bool l], .agg #[.slice ab n cb, .slice aD k cD, .bool p, .bool r, .bool l]] rfl (.bool true) (fun wx hx => ?c2) ?_
    case c2 =>
      refine (rsame5_c wx (SO.out.later (hlast.trans hx)) (S.out.later (L.out.trans (hlast.trans hx)))).mono fun e w' ⟨he, hl⟩ => ⟨?_, hl⟩
      rw [he, same_yes]
    iterate 2 (refine wpS_mild rfl (fun K hK => ?_); go_simp; refine hK _ ?_; clear hK K)
    refine wpS_nil (fun wx hx => ?_)
    have LX := hide (L.out.trans (hlast.trans hx))
    clear hx
    go_wp2
    go_ret
    exact ⟨by first | rfl | simp, LX.out⟩
end Go.Proofs.Ytkbpecbpfajkfaa
