import Derived.Test.YtdhagfklcfajgaaMAM
namespace Go.Proofs.Ytdhagfklcfajgaa
open Go.ChangeShapes Go.WideShapes Go.ChangeAt Go.RowKit
set_option linter.unusedVariables false
set_option linter.unusedSimpArgs false

/-! The fixed fact of layer 7. -/
theorem al7_1 : pageL 128 2 true = [0, 128, 0, 8, 82, 84, 48, 48, 48, 48, 48, 50] := by decide
theorem al7_2 : ansR (18, 0, 36, 0, 0) 1 2 = ([0, 128, 6, 2, 31, 0, 0, 2, 82, 69, 84, 73, 67, 85, 76, 69, 71, 65, 68, 71, 69, 84, 32, 68, 73, 83, 75, 32, 32, 32, 32, 32, 48, 48, 48, 49], (0, 0, 0)) := by decide
theorem al7_3 : ansR (18, 0, 5, 0, 0) 2 2 = ([127, 128, 6, 2, 31], (0, 0, 0)) := by decide
theorem al7_4 : pageL 129 0 true = [] := by decide
theorem al7_5 : serL 9 = [82, 84, 48, 48, 48, 48, 48, 49] := by decide
theorem al7_6 : stdL true = [0, 128, 6, 2, 31, 0, 0, 2, 82, 69, 84, 73, 67, 85, 76, 69, 71, 65, 68, 71, 69, 84, 32, 68, 73, 83, 75, 32, 32, 32, 32, 32, 48, 48, 48, 49] := by decide
theorem al7_7 : cutL [0, 128, 0, 8, 82, 84, 48, 48, 48, 48, 48, 50] 2 = [0, 128] := by decide
theorem al7_s1 : pageS 128 = (0, 0, 0) := by decide
theorem al7_s4 : pageS 129 = (5, 36, 0) := by decide
set_option maxRecDepth 20000 in
set_option maxHeartbeats 4000000 in
theorem alive7_c (iP : IPage7) (iA : IAns7) (iS : ISerial7) (iT : IStd7) (iC : ICut7) : Alive7 := by
  intro w
  have LL := hide (Later.refl w)
  go_enter Try.func7, Try.ntmps7
  go_wp2_with fail
  refine (iP 128 2 true _ (by decide) (by decide)).mono ?_
  rintro e wp ⟨vA, rfl, hl, hv⟩
  rw [al7_1] at hv
  rw [al7_s1]
  replace LL := hide (LL.out.trans hl)
  have VA := hide hv
  clear hl hv
  go_wp2_with (refine wpList_newAS rfl rfl rfl rfl 2 1 rfl rfl (by simp) (by decide) (.tmp 11) (.tmp 12) (by simp) (by simp) (by simp) rfl rfl rfl _ (0, 0, 0) rfl rfl ?_)
  intro gA wA hB hl hg
  replace LL := hide (LL.out.trans hl)
  replace VA := hide (VA.out.later hl)
  have SA := hide hB
  clear hl hg hB
  go_wp2_with fail
  refine (iA (18, 0, 36, 0, 0) 1 2 _ (by unfold OkC7; decide) (by decide) (by decide)).mono ?_
  rintro e wp ⟨vB, rfl, hl, hv⟩
  rw [al7_2] at hv ⊢
  simp only at hv ⊢
  replace LL := hide (LL.out.trans hl)
  replace VA := hide (VA.out.later hl)
  replace SA := hide (SA.out.later hl)
  have VB := hide hv
  clear hl hv
  go_wp2_with (refine wpList_newAS rfl rfl rfl rfl 4 3 rfl rfl (by simp) (by decide) (.tmp 16) (.tmp 17) (by simp) (by simp) (by simp) rfl rfl rfl _ (0, 0, 0) rfl rfl ?_)
  intro gB wB hB hl hg
  replace LL := hide (LL.out.trans hl)
  replace VA := hide (VA.out.later hl)
  replace SA := hide (SA.out.later hl)
  replace VB := hide (VB.out.later hl)
  have SB := hide hB
  clear hl hg hB
  go_wp2_with fail
  refine (iA (18, 0, 5, 0, 0) 2 2 _ (by unfold OkC7; decide) (by decide) (by decide)).mono ?_
  rintro e wp ⟨vC, rfl, hl, hv⟩
  rw [al7_3] at hv ⊢
  simp only at hv ⊢
  replace LL := hide (LL.out.trans hl)
  replace VA := hide (VA.out.later hl)
  replace SA := hide (SA.out.later hl)
  replace VB := hide (VB.out.later hl)
  replace SB := hide (SB.out.later hl)
  have VC := hide hv
  clear hl hv
  go_wp2_with (refine wpList_newAS rfl rfl rfl rfl 6 5 rfl rfl (by simp) (by decide) (.tmp 21) (.tmp 22) (by simp) (by simp) (by simp) rfl rfl rfl _ (0, 0, 0) rfl rfl ?_)
  intro gC wC hB hl hg
  replace LL := hide (LL.out.trans hl)
  replace VA := hide (VA.out.later hl)
  replace SA := hide (SA.out.later hl)
  replace VB := hide (VB.out.later hl)
  replace SB := hide (SB.out.later hl)
  replace VC := hide (VC.out.later hl)
  have SC := hide hB
  clear hl hg hB
  go_wp2_with fail
  refine (iP 129 0 true _ (by decide) (by decide)).mono ?_
  rintro e wp ⟨vD, rfl, hl, hv⟩
  rw [al7_4] at hv
  rw [al7_s4]
  replace LL := hide (LL.out.trans hl)
  replace VA := hide (VA.out.later hl)
  replace SA := hide (SA.out.later hl)
  replace VB := hide (VB.out.later hl)
  replace SB := hide (SB.out.later hl)
  replace VC := hide (VC.out.later hl)
  replace SC := hide (SC.out.later hl)
  have VD := hide hv
  clear hl hv
  go_wp2_with (refine wpList_newAS rfl rfl rfl rfl 8 7 rfl rfl (by simp) (by decide) (.tmp 25) (.tmp 26) (by simp) (by simp) (by simp) rfl rfl rfl _ (5, 36, 0) rfl rfl ?_)
  intro gD wD hB hl hg
  replace LL := hide (LL.out.trans hl)
  replace VA := hide (VA.out.later hl)
  replace SA := hide (SA.out.later hl)
  replace VB := hide (VB.out.later hl)
  replace SB := hide (SB.out.later hl)
  replace VC := hide (VC.out.later hl)
  replace SC := hide (SC.out.later hl)
  replace VD := hide (VD.out.later hl)
  have SD := hide hB
  clear hl hg hB
  go_wp2_with fail
  clear VD
  have hc := fun r => ((Later.refl wD).drew.trans (later_rg wD.drew r))
  have a0 := fun r => (SA.out.later (hc r)).cell 0
  have a1 := fun r => (SA.out.later (hc r)).cell 1
  have a2 := fun r => (SA.out.later (hc r)).cell 2
  have b0 := fun r => (SB.out.later (hc r)).cell 0
  have b1 := fun r => (SB.out.later (hc r)).cell 1
  have b2 := fun r => (SB.out.later (hc r)).cell 2
  have c0 := fun r => (SC.out.later (hc r)).cell 0
  have c1 := fun r => (SC.out.later (hc r)).cell 1
  have c2 := fun r => (SC.out.later (hc r)).cell 2
  have d0 := fun r => (SD.out.later (hc r)).cell 0
  have d1 := fun r => (SD.out.later (hc r)).cell 1
  have d2 := fun r => (SD.out.later (hc r)).cell 2
  have ga := fun r => (VA.out.later (hc r)).str
  have gb := fun r => (VB.out.later (hc r)).str
  have gc := fun r => (VC.out.later (hc r)).str
  refine wp_region_sched (((List.range 38).map fun i => (i, false)) ++ [(40, false), (41, false), (38, true), (39, false), (42, false), (43, false), (44, false), (45, false), (46, true), (47, false), (48, false), (49, false), (50, false)]) (by kernel_rfl) (by kernel_rfl) (by kernel_rfl) (by kernel_rfl) ?_
  simp only [List.range, List.range.loop, List.map, List.cons_append, List.nil_append]
  iterate 2 (refine wpS_mild rfl (fun K hK => ?_); go_simp; refine hK _ ?_; clear hK K)
  refine wpS_eqG rfl (by kernel_rfl) 28 _ (.tmp 27) (.tmp 28) rfl _ _ rfl rfl Try.guard_sense true (fun w => sense_eq (0, 0, 0) (0, 0, 0) w) ?_
  iterate 3 (refine wpS_mild rfl (fun K hK => ?_); go_simp; refine hK _ ?_; clear hK K)
  refine wpS_eqG rfl (by kernel_rfl) 28 _ (.tmp 31) (.tmp 32) rfl _ _ rfl rfl Try.guard_sense true (fun w => sense_eq (0, 0, 0) (0, 0, 0) w) ?_
  iterate 4 (refine wpS_mild rfl (fun K hK => ?_); go_simp; refine hK _ ?_; clear hK K)
  refine wpS_eqG rfl (by kernel_rfl) 28 _ (.tmp 36) (.tmp 37) rfl _ _ rfl rfl Try.guard_sense true (fun w => sense_eq (0, 0, 0) (0, 0, 0) w) ?_
  iterate 3 (refine wpS_mild rfl (fun K hK => ?_); go_simp; refine hK _ ?_; clear hK K)
  refine wpS_call rfl (by kernel_rfl) 19 (Plain.of (by kernel_rfl)) [.const (.int .i64 5), .const (.int .i64 36), .const (.int .i64 0)] _ rfl [.int .i64 5, .int .i64 36, .int .i64 0] rfl (sval (5, 36, 0)) (fun wx hx => rof_c 5 36 0 wx) ?_
  refine wpS_eqG rfl (by kernel_rfl) 28 _ (.tmp 41) (.tmp 42) rfl _ _ rfl rfl Try.guard_sense true (fun w => sense_eq (5, 36, 0) (5, 36, 0) w) ?_
  iterate 17 (refine wpS_mild rfl (fun K hK => ?_); go_simp; refine hK _ ?_; clear hK K)
  refine wpS_call rfl (by kernel_rfl) 10 (Plain.of (by kernel_rfl)) [.const (.int .i64 9)] _ rfl [.int .i64 9] rfl (.string ⟨#[82, 84, 48, 48, 48, 48, 48, 49]⟩) (fun wx hx => (iS 9 wx (by decide)).mono fun e w' ⟨h1, h2⟩ => ⟨by rw [h1, al7_5]; rfl, h2⟩) ?_
  iterate 3 (refine wpS_mild rfl (fun K hK => ?_); go_simp; refine hK _ ?_; clear hK K)
  iterate 2 (refine wpS_mild rfl (fun K hK => ?_); go_simp; refine hK _ ?_; clear hK K)
  refine wpS_callL rfl (by kernel_rfl) 14 (Plain.of (by kernel_rfl)) [.const (.bool true)] _ rfl [.bool true] rfl (fun v W => Bs W v (stdL true)) (fun wx hx => iT true wx) ?_
  intro v1 q1 hl1 hb1
  have hlq := (Later.refl wD).drew.trans hl1
  replace LL := hide (LL.out.trans hlq)
  replace VA := hide (VA.out.later hlq)
  rw [al7_6] at hb1
  have gs := fun r => (hb1.later (later_rg q1 r)).str
  clear hlq hl1 hb1 a0 a1 a2 b0 b1 b2 c0 c1 c2 d0 d1 d2 ga gb gc hc
  iterate 5 (refine wpS_mild rfl (fun K hK => ?_); go_simp; refine hK _ ?_; clear hK K)
  clear gs
  refine wpS_callL rfl (by kernel_rfl) 17 (Plain.of (by kernel_rfl)) [.tmp 72, .const (.int .i64 2)] _ rfl [vA, .int .i64 2] rfl (fun v W => Bs W v [0, 128]) (fun wx hx => by have := iC vA _ 2 wx (VA.out.later hx) (by decide) (by decide); rw [al7_7] at this; exact this) ?_
  intro v2 q2 hl2 hb2
  replace LL := hide (LL.out.trans hl2)
  have gs := fun r => (hb2.later (later_rg q2 r)).str
  clear hl2 hb2
  iterate 4 (refine wpS_mild rfl (fun K hK => ?_); go_simp; refine hK _ ?_; clear hK K)
  refine wpS_nil (fun wx hwx => ?_)
  have F := hide (LL.out.trans hwx)
  clear gs hwx
  go_wp2
  go_ret
  exact ⟨rfl, F.out⟩
end Go.Proofs.Ytdhagfklcfajgaa
