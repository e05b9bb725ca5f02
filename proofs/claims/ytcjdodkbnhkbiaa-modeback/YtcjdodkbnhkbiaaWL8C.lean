import Derived.Test.YtcjdodkbnhkbiaaMAP
import Derived.Test.YtcjdodkbnhkbiaaMAL
namespace Go.Proofs.Ytcjdodkbnhkbiaa
open Go.ChangeShapes Go.WideShapes Go.ChangeAt Go.RowKit
set_option linter.unusedVariables false
set_option linter.unusedSimpArgs false

/-! The fixed fact of layer 8. -/
theorem al8_1 : mpL 8 0 true = pg8 true := by decide
theorem al8_2 : mansR (26, 0, 192, 63, 0) true true = ([35, 0, 128, 0] ++ (pg8 true ++ pg28), (0, 0, 0)) := by decide
theorem al8_3 : mansR (90, 0, 9, 8, 1) false false = ([0, 26, 0, 0, 0, 0, 0, 0, 8], (0, 0, 0)) := by decide
theorem al8_4 : mansR (26, 0, 192, 63, 3) true true = ([], (5, 57, 0)) := by decide
theorem al8_5 : mansR (26, 0, 192, 9, 0) true true = ([], (5, 36, 0)) := by decide
theorem al8_6 : selR (0 :: 0 :: 0 :: 0 :: pg8 true) false false = (true, (0, 0, 0)) := by decide
theorem al8_7 : selR ((pg8 true).take 3) false false = (false, (5, 26, 0)) := by decide
set_option maxRecDepth 20000 in
set_option maxHeartbeats 8000000 in
theorem alive8_c (iP : IPage8) (iA : IAns8) (iS : ISel8) : Alive8 := by
  intro w
  have LL := hide (Later.refl w)
  go_enter Try.func8, Try.ntmps8
  go_wp2_with fail
  refine (iP 8 0 true (by decide) (by decide) _).mono ?_
  rintro e wp ⟨vA, rfl, hl, hv⟩
  rw [al8_1] at hv
  rw [show mpB 8 = true from rfl]
  replace LL := hide (LL.out.trans hl)
  have VA := hide hv
  clear hl hv
  go_wp2_with fail
  refine (iA (26, 0, 192, 63, 0) true true _ (by unfold OkC7; decide)).mono ?_
  rintro e w1 ⟨vB, rfl, hl, hv⟩
  rw [al8_2] at hv ⊢
  simp only at hv ⊢
  replace LL := hide (LL.out.trans hl)
  replace VA := hide (VA.out.later hl)
  have VB := hide hv
  clear hl hv
  go_wp2_with (refine wpList_newAS rfl rfl rfl rfl 4 3 rfl rfl (by simp) (by decide) (.tmp 22) (.tmp 23) (by simp) (by simp) (by simp) rfl rfl rfl _ (0, 0, 0) rfl rfl ?_)
  intro gB w2 hB hl hg
  replace LL := hide (LL.out.trans hl)
  replace VA := hide (VA.out.later hl)
  replace VB := hide (VB.out.later hl)
  have SB := hide hB
  clear hl hg hB
  go_wp2_with fail
  refine (iA (90, 0, 9, 8, 1) false false _ (by unfold OkC7; decide)).mono ?_
  rintro e w1 ⟨vC, rfl, hl, hv⟩
  rw [al8_3] at hv ⊢
  simp only at hv ⊢
  replace LL := hide (LL.out.trans hl)
  replace VA := hide (VA.out.later hl)
  replace VB := hide (VB.out.later hl)
  replace SB := hide (SB.out.later hl)
  have VC := hide hv
  clear hl hv
  go_wp2_with (refine wpList_newAS rfl rfl rfl rfl 6 5 rfl rfl (by simp) (by decide) (.tmp 27) (.tmp 28) (by simp) (by simp) (by simp) rfl rfl rfl _ (0, 0, 0) rfl rfl ?_)
  intro gC w2 hB hl hg
  replace LL := hide (LL.out.trans hl)
  replace VA := hide (VA.out.later hl)
  replace VB := hide (VB.out.later hl)
  replace SB := hide (SB.out.later hl)
  replace VC := hide (VC.out.later hl)
  have SC := hide hB
  clear hl hg hB
  go_wp2_with fail
  refine (iA (26, 0, 192, 63, 3) true true _ (by unfold OkC7; decide)).mono ?_
  rintro e w1 ⟨vD, rfl, hl, hv⟩
  rw [al8_4] at hv ⊢
  simp only at hv ⊢
  replace LL := hide (LL.out.trans hl)
  replace VA := hide (VA.out.later hl)
  replace VB := hide (VB.out.later hl)
  replace SB := hide (SB.out.later hl)
  replace VC := hide (VC.out.later hl)
  replace SC := hide (SC.out.later hl)
  have VD := hide hv
  clear hl hv
  go_wp2_with (refine wpList_newAS rfl rfl rfl rfl 8 7 rfl rfl (by simp) (by decide) (.tmp 32) (.tmp 33) (by simp) (by simp) (by simp) rfl rfl rfl _ (5, 57, 0) rfl rfl ?_)
  intro gD w2 hB hl hg
  replace LL := hide (LL.out.trans hl)
  replace VA := hide (VA.out.later hl)
  replace VB := hide (VB.out.later hl)
  replace SB := hide (SB.out.later hl)
  replace VC := hide (VC.out.later hl)
  replace SC := hide (SC.out.later hl)
  replace VD := hide (VD.out.later hl)
  have SD := hide hB
  clear hl hg hB
  clear VD
  go_wp2_with fail
  refine (iA (26, 0, 192, 9, 0) true true _ (by unfold OkC7; decide)).mono ?_
  rintro e w1 ⟨vE, rfl, hl, hv⟩
  rw [al8_5] at hv ⊢
  simp only at hv ⊢
  replace LL := hide (LL.out.trans hl)
  replace VA := hide (VA.out.later hl)
  replace VB := hide (VB.out.later hl)
  replace SB := hide (SB.out.later hl)
  replace VC := hide (VC.out.later hl)
  replace SC := hide (SC.out.later hl)
  replace SD := hide (SD.out.later hl)
  have VE := hide hv
  clear hl hv
  go_wp2_with (refine wpList_newAS rfl rfl rfl rfl 10 9 rfl rfl (by simp) (by decide) (.tmp 37) (.tmp 38) (by simp) (by simp) (by simp) rfl rfl rfl _ (5, 36, 0) rfl rfl ?_)
  intro gE w2 hB hl hg
  replace LL := hide (LL.out.trans hl)
  replace VA := hide (VA.out.later hl)
  replace VB := hide (VB.out.later hl)
  replace SB := hide (SB.out.later hl)
  replace VC := hide (VC.out.later hl)
  replace SC := hide (SC.out.later hl)
  replace SD := hide (SD.out.later hl)
  replace VE := hide (VE.out.later hl)
  have SE := hide hB
  clear hl hg hB
  clear VE
  obtain ⟨ba, oa, ca, rfl, hca⟩ := VA.out.cells6 (n := 20) rfl (by decide)
  obtain ⟨bb, ob, cb, rfl, hcb⟩ := VB.out.cells6 (n := 36) rfl (by decide)
  have HCA := hide hca
  have HCB := hide hcb
  clear hca hcb
  have hcap : 20 ≤ ca := by
    obtain ⟨_, a', c', e, h, _⟩ := VA.out
    simp at e
    obtain ⟨_, _, rfl⟩ := e
    simpa [pg8] using h
  go_wp2_with (at_builtin; refine wpList_append_bs rfl (.tmp 52) (.tmp 53) rfl w2.heap.size _ 4 [0, 0, 0, 0] rfl (owns_box (Box.new w2 5 #[.int .u8 0, .int .u8 0, .int .u8 0, .int .u8 0]) rfl (by decide) (Nat.le_refl _)) _ (pg8 true) rfl (VA.out.later ((Later.refl w2).alloc _)) (by decide) (by simp) w2 ((Later.refl w2).alloc _) ?_)
  intro v5 w5 ho hb hg
  have hl : Later w2 w5 := hb
  have VX := hide (Bs.of_owns ho).1
  replace LL := hide (LL.out.trans hl)
  have L5 := hide hl
  replace VA := hide (VA.out.later hl)
  replace SB := hide (SB.out.later hl)
  replace VC := hide (VC.out.later hl)
  replace SC := hide (SC.out.later hl)
  replace SD := hide (SD.out.later hl)
  replace SE := hide (SE.out.later hl)
  clear ho hb hg hl
  go_wp2_with fail
  refine (iS _ (0 :: 0 :: 0 :: 0 :: pg8 true) false false _ VX.out (by decide)).mono ?_
  rintro e w6 ⟨rfl, hl⟩
  rw [al8_6]
  simp only
  replace LL := hide (LL.out.trans hl)
  replace L5 := hide (L5.out.trans hl)
  replace VA := hide (VA.out.later hl)
  replace SB := hide (SB.out.later hl)
  replace VC := hide (VC.out.later hl)
  replace SC := hide (SC.out.later hl)
  replace SD := hide (SD.out.later hl)
  replace SE := hide (SE.out.later hl)
  clear hl VX
  go_wp2_with (refine wpList_newAS rfl rfl rfl rfl 12 11 rfl rfl (by simp) (by decide) (.tmp 56) (.tmp 57) (by simp) (by simp) (by simp) rfl rfl rfl _ (0, 0, 0) rfl rfl ?_)
  intro gX w7 hB hl hg
  replace LL := hide (LL.out.trans hl)
  replace L5 := hide (L5.out.trans hl)
  replace VA := hide (VA.out.later hl)
  replace SB := hide (SB.out.later hl)
  replace VC := hide (VC.out.later hl)
  replace SC := hide (SC.out.later hl)
  replace SD := hide (SD.out.later hl)
  replace SE := hide (SE.out.later hl)
  have SX := hide hB
  clear hl hg hB
  go_wp2_with fail
  refine (iS _ ((pg8 true).take 3) false false _ (VA.out.cut7 3 (by omega)) (by decide)).mono ?_
  rintro e w8 ⟨rfl, hl⟩
  rw [al8_7]
  simp only
  replace LL := hide (LL.out.trans hl)
  replace L5 := hide (L5.out.trans hl)
  replace VA := hide (VA.out.later hl)
  replace SB := hide (SB.out.later hl)
  replace VC := hide (VC.out.later hl)
  replace SC := hide (SC.out.later hl)
  replace SD := hide (SD.out.later hl)
  replace SE := hide (SE.out.later hl)
  replace SX := hide (SX.out.later hl)
  clear hl
  go_wp2_with (refine wpList_newAS rfl rfl rfl rfl 14 13 rfl rfl (by simp) (by decide) (.tmp 62) (.tmp 63) (by simp) (by simp) (by simp) rfl rfl rfl _ (5, 26, 0) rfl rfl ?_)
  intro gY w9 hB hl hg
  replace LL := hide (LL.out.trans hl)
  replace L5 := hide (L5.out.trans hl)
  replace SB := hide (SB.out.later hl)
  replace VC := hide (VC.out.later hl)
  replace SC := hide (SC.out.later hl)
  replace SD := hide (SD.out.later hl)
  replace SE := hide (SE.out.later hl)
  replace SX := hide (SX.out.later hl)
  have SY := hide hB
  clear hl hg hB VA
  go_wp2_with fail
  have hc := fun r => ((Later.refl w9).drew.trans (later_rg w9.drew r))
  have x0a := fun r => (SB.out.later (hc r)).cell 0
  have x1a := fun r => (SB.out.later (hc r)).cell 1
  have x2a := fun r => (SB.out.later (hc r)).cell 2
  have x0b := fun r => (SC.out.later (hc r)).cell 0
  have x1b := fun r => (SC.out.later (hc r)).cell 1
  have x2b := fun r => (SC.out.later (hc r)).cell 2
  have x0c := fun r => (SD.out.later (hc r)).cell 0
  have x1c := fun r => (SD.out.later (hc r)).cell 1
  have x2c := fun r => (SD.out.later (hc r)).cell 2
  have x0d := fun r => (SE.out.later (hc r)).cell 0
  have x1d := fun r => (SE.out.later (hc r)).cell 1
  have x2d := fun r => (SE.out.later (hc r)).cell 2
  have x0e := fun r => (SX.out.later (hc r)).cell 0
  have x1e := fun r => (SX.out.later (hc r)).cell 1
  have x2e := fun r => (SX.out.later (hc r)).cell 2
  have x0f := fun r => (SY.out.later (hc r)).cell 0
  have x1f := fun r => (SY.out.later (hc r)).cell 1
  have x2f := fun r => (SY.out.later (hc r)).cell 2
  have p2 := fun r => show _ = some (Value.int .u8 4) from HCA.out 2 (by omega) _ (L5.out.trans (hc r))
  have q0 := fun r => show _ = some (Value.int .u8 35) from HCB.out 0 (by omega) _ (L5.out.trans (hc r))
  have q2 := fun r => show _ = some (Value.int .u8 128) from HCB.out 2 (by omega) _ (L5.out.trans (hc r))
  have q24 := fun r => show _ = some (Value.int .u8 28) from HCB.out 24 (by omega) _ (L5.out.trans (hc r))
  simp only [Nat.add_zero] at q0
  have gc := fun r => (VC.out.later (hc r)).str
  refine wp_region_sched ((List.range 61).map fun i => (i, false)) (by kernel_rfl) (by kernel_rfl) (by kernel_rfl) (by kernel_rfl) ?_
  simp only [List.range, List.range.loop, List.map, List.cons_append, List.nil_append]
  iterate 2 (refine wpS_mild rfl (fun K hK => ?_); go_simp; refine hK _ ?_; clear hK K)
  refine wpS_eqG rfl (by kernel_rfl) 28 _ (.tmp 64) (.tmp 65) rfl _ _ rfl rfl Try.guard_sense true (fun w => sense_eq (0, 0, 0) (0, 0, 0) w) ?_
  iterate 3 (refine wpS_mild rfl (fun K hK => ?_); go_simp; refine hK _ ?_; clear hK K)
  refine wpS_eqG rfl (by kernel_rfl) 28 _ (.tmp 68) (.tmp 69) rfl _ _ rfl rfl Try.guard_sense true (fun w => sense_eq (0, 0, 0) (0, 0, 0) w) ?_
  iterate 3 (refine wpS_mild rfl (fun K hK => ?_); go_simp; refine hK _ ?_; clear hK K)
  refine wpS_call rfl (by kernel_rfl) 15 (Plain.of (by kernel_rfl)) [.const (.int .i64 5), .const (.int .i64 57), .const (.int .i64 0)] _ rfl [.int .i64 5, .int .i64 57, .int .i64 0] rfl (sval (5, 57, 0)) (fun wx hx => rof_c 5 57 0 wx) ?_
  refine wpS_eqG rfl (by kernel_rfl) 28 _ (.tmp 73) (.tmp 74) rfl _ _ rfl rfl Try.guard_sense true (fun w => sense_eq (5, 57, 0) (5, 57, 0) w) ?_
  iterate 3 (refine wpS_mild rfl (fun K hK => ?_); go_simp; refine hK _ ?_; clear hK K)
  refine wpS_call rfl (by kernel_rfl) 15 (Plain.of (by kernel_rfl)) [.const (.int .i64 5), .const (.int .i64 36), .const (.int .i64 0)] _ rfl [.int .i64 5, .int .i64 36, .int .i64 0] rfl (sval (5, 36, 0)) (fun wx hx => rof_c 5 36 0 wx) ?_
  refine wpS_eqG rfl (by kernel_rfl) 28 _ (.tmp 78) (.tmp 79) rfl _ _ rfl rfl Try.guard_sense true (fun w => sense_eq (5, 36, 0) (5, 36, 0) w) ?_
  iterate 36 (refine wpS_mild rfl (fun K hK => ?_); go_simp; refine hK _ ?_; clear hK K)
  refine wpS_eqG rfl (by kernel_rfl) 28 _ (.tmp 115) (.tmp 116) rfl _ _ rfl rfl Try.guard_sense true (fun w => sense_eq (0, 0, 0) (0, 0, 0) w) ?_
  iterate 3 (refine wpS_mild rfl (fun K hK => ?_); go_simp; refine hK _ ?_; clear hK K)
  refine wpS_call rfl (by kernel_rfl) 15 (Plain.of (by kernel_rfl)) [.const (.int .i64 5), .const (.int .i64 26), .const (.int .i64 0)] _ rfl [.int .i64 5, .int .i64 26, .int .i64 0] rfl (sval (5, 26, 0)) (fun wx hx => rof_c 5 26 0 wx) ?_
  refine wpS_eqG rfl (by kernel_rfl) 28 _ (.tmp 120) (.tmp 121) rfl _ _ rfl rfl Try.guard_sense true (fun w => sense_eq (5, 26, 0) (5, 26, 0) w) ?_
  iterate 2 (refine wpS_mild rfl (fun K hK => ?_); go_simp; refine hK _ ?_; clear hK K)
  refine wpS_nil (fun wx hwx => ?_)
  have F := hide (LL.out.trans ((Later.refl w9).drew.trans hwx))
  clear hwx
  go_wp2
  go_ret
  exact ⟨rfl, F.out⟩
end Go.Proofs.Ytcjdodkbnhkbiaa
