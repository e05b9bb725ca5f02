import Derived.Test.YtccdgpadjfjoeaaMAN
namespace Go.Proofs.Ytccdgpadjfjoeaa
open Go.ChangeShapes Go.WideShapes Go.ChangeAt Go.RowKit
set_option linter.unusedVariables false
set_option linter.unusedSimpArgs false

/-! The fixed fact of layer 6. -/
theorem al6_1 : parseI [40, 0, 0, 0, 0, 5, 0, 0, 3, 0] = ((40, 5, 3, 0, 0), (0, 0, 0)) := by decide
theorem al6_2 : parseI [40, 0, 0, 0, 0, 5, 0, 0, 3, 1] = (czero, (5, 36, 0)) := by decide
theorem al6_3 : parseI [255, 0, 0, 0, 0, 0] = (czero, (5, 32, 0)) := by decide
theorem al6_4 : parseI [8, 255, 1, 2, 0, 0, 9] = ((8, 2031874, 256, 0, 0), (0, 0, 0)) := by decide
theorem al6_5 : bytesB (40, 5, 3, 0, 0) = true ∧ bytesI (40, 5, 3, 0, 0) = [40, 0, 0, 0, 0, 5, 0, 0, 3, 0] := by decide
theorem al6_6 : bytesB (40, 0, 65536, 0, 0) = false := by decide
set_option maxRecDepth 20000 in
set_option maxHeartbeats 4000000 in
theorem alive6_c (w : World) : Calls Try.prog 7 #[] w fun e w' => e = .returned (.bool true) ∧ Later w w' := by
  have LL := hide (Later.refl w)
  go_enter Try.func7, Try.ntmps7
  go_wp2_with fail
  refine (parse_c (l := [40, 0, 0, 0, 0, 5, 0, 0, 3, 0]) _ (bs_of_box (Box.new _ _ _) rfl rfl (by decide))).mono ?_
  rintro e wp ⟨rfl, hl⟩
  rw [al6_1]
  replace LL := hide ((LL.out.alloc (.cells #[.int .u8 40, .int .u8 0, .int .u8 0, .int .u8 0, .int .u8 0, .int .u8 5, .int .u8 0, .int .u8 0, .int .u8 3, .int .u8 0] 5)).trans hl)
  clear hl
  go_wp2_with (refine wpList_newCS rfl rfl rfl rfl rfl rfl 1 2 rfl rfl (by simp) (by simp) (by decide) (.tmp 16) (.tmp 17) (by simp) (by simp) (by simp) (by simp) rfl rfl rfl rfl (40, 5, 3, 0, 0) (0, 0, 0) rfl rfl ?_)
  intro gA hA wA hB1 hB2 hl hg
  replace LL := hide (LL.out.trans hl)
  have CA := hide hB1
  have SA := hide hB2
  clear hl hg hB1 hB2
  have ax0 := CA.out.cell 0
  have ax1 := CA.out.cell 1
  have ax2 := CA.out.cell 2
  have ax3 := CA.out.cell 3
  have ax4 := CA.out.cell 4
  go_wp2_with fail
  refine (bytes_c (40, 5, 3, 0, 0) _ (by unfold OkC; decide)).mono ?_
  rintro e wb ⟨vb, rfl, hl, hb⟩
  rw [al6_5.1]
  rw [al6_5.2] at hb
  have VB := hide hb
  replace LL := hide (LL.out.trans hl)
  replace CA := hide (CA.out.later hl)
  replace SA := hide (SA.out.later hl)
  clear hl hb ax0 ax1 ax2 ax3 ax4
  go_wp2_with fail
  refine (parse_c (l := [40, 0, 0, 0, 0, 5, 0, 0, 3, 1]) _ (bs_of_box (Box.new _ _ _) rfl rfl (by decide))).mono ?_
  rintro e wp ⟨rfl, hl⟩
  rw [al6_2]
  replace LL := hide ((LL.out.alloc (.cells #[.int .u8 40, .int .u8 0, .int .u8 0, .int .u8 0, .int .u8 0, .int .u8 5, .int .u8 0, .int .u8 0, .int .u8 3, .int .u8 1] 5)).trans hl)
  replace CA := hide (CA.out.later (((Later.refl _).alloc (.cells #[.int .u8 40, .int .u8 0, .int .u8 0, .int .u8 0, .int .u8 0, .int .u8 5, .int .u8 0, .int .u8 0, .int .u8 3, .int .u8 1] 5)).trans hl))
  replace SA := hide (SA.out.later (((Later.refl _).alloc (.cells #[.int .u8 40, .int .u8 0, .int .u8 0, .int .u8 0, .int .u8 0, .int .u8 5, .int .u8 0, .int .u8 0, .int .u8 3, .int .u8 1] 5)).trans hl))
  replace VB := hide (VB.out.later (((Later.refl _).alloc (.cells #[.int .u8 40, .int .u8 0, .int .u8 0, .int .u8 0, .int .u8 0, .int .u8 5, .int .u8 0, .int .u8 0, .int .u8 3, .int .u8 1] 5)).trans hl))
  clear hl
  go_wp2_with (refine wpList_newCS rfl rfl rfl rfl rfl rfl 5 6 rfl rfl (by simp) (by simp) (by decide) (.tmp 26) (.tmp 27) (by simp) (by simp) (by simp) (by simp) rfl rfl rfl rfl czero (5, 36, 0) rfl rfl ?_)
  intro gB hB wB hB1 hB2 hl hg
  replace LL := hide (LL.out.trans hl)
  replace CA := hide (CA.out.later hl)
  replace SA := hide (SA.out.later hl)
  replace VB := hide (VB.out.later hl)
  have CB := hide hB1
  have SB := hide hB2
  clear hl hg hB1 hB2
  go_wp2_with fail
  refine (parse_c (l := [255, 0, 0, 0, 0, 0]) _ (bs_of_box (Box.new _ _ _) rfl rfl (by decide))).mono ?_
  rintro e wp ⟨rfl, hl⟩
  rw [al6_3]
  replace LL := hide ((LL.out.alloc (.cells #[.int .u8 255, .int .u8 0, .int .u8 0, .int .u8 0, .int .u8 0, .int .u8 0] 5)).trans hl)
  replace CA := hide (CA.out.later (((Later.refl _).alloc (.cells #[.int .u8 255, .int .u8 0, .int .u8 0, .int .u8 0, .int .u8 0, .int .u8 0] 5)).trans hl))
  replace SA := hide (SA.out.later (((Later.refl _).alloc (.cells #[.int .u8 255, .int .u8 0, .int .u8 0, .int .u8 0, .int .u8 0, .int .u8 0] 5)).trans hl))
  replace VB := hide (VB.out.later (((Later.refl _).alloc (.cells #[.int .u8 255, .int .u8 0, .int .u8 0, .int .u8 0, .int .u8 0, .int .u8 0] 5)).trans hl))
  replace SB := hide (SB.out.later (((Later.refl _).alloc (.cells #[.int .u8 255, .int .u8 0, .int .u8 0, .int .u8 0, .int .u8 0, .int .u8 0] 5)).trans hl))
  clear hl
  go_wp2_with (refine wpList_newCS rfl rfl rfl rfl rfl rfl 7 8 rfl rfl (by simp) (by simp) (by decide) (.tmp 31) (.tmp 32) (by simp) (by simp) (by simp) (by simp) rfl rfl rfl rfl czero (5, 32, 0) rfl rfl ?_)
  intro gC hC wC hB1 hB2 hl hg
  replace LL := hide (LL.out.trans hl)
  replace CA := hide (CA.out.later hl)
  replace SA := hide (SA.out.later hl)
  replace VB := hide (VB.out.later hl)
  replace SB := hide (SB.out.later hl)
  have CC := hide hB1
  have SC := hide hB2
  clear hl hg hB1 hB2
  go_wp2_with fail
  refine (parse_c (l := [8, 255, 1, 2, 0, 0, 9]) _ (bs_of_box (Box.new _ _ _) rfl rfl (by decide))).mono ?_
  rintro e wp ⟨rfl, hl⟩
  rw [al6_4]
  replace LL := hide ((LL.out.alloc (.cells #[.int .u8 8, .int .u8 255, .int .u8 1, .int .u8 2, .int .u8 0, .int .u8 0, .int .u8 9] 5)).trans hl)
  replace CA := hide (CA.out.later (((Later.refl _).alloc (.cells #[.int .u8 8, .int .u8 255, .int .u8 1, .int .u8 2, .int .u8 0, .int .u8 0, .int .u8 9] 5)).trans hl))
  replace SA := hide (SA.out.later (((Later.refl _).alloc (.cells #[.int .u8 8, .int .u8 255, .int .u8 1, .int .u8 2, .int .u8 0, .int .u8 0, .int .u8 9] 5)).trans hl))
  replace VB := hide (VB.out.later (((Later.refl _).alloc (.cells #[.int .u8 8, .int .u8 255, .int .u8 1, .int .u8 2, .int .u8 0, .int .u8 0, .int .u8 9] 5)).trans hl))
  replace SB := hide (SB.out.later (((Later.refl _).alloc (.cells #[.int .u8 8, .int .u8 255, .int .u8 1, .int .u8 2, .int .u8 0, .int .u8 0, .int .u8 9] 5)).trans hl))
  replace SC := hide (SC.out.later (((Later.refl _).alloc (.cells #[.int .u8 8, .int .u8 255, .int .u8 1, .int .u8 2, .int .u8 0, .int .u8 0, .int .u8 9] 5)).trans hl))
  clear hl
  go_wp2_with (refine wpList_newCS rfl rfl rfl rfl rfl rfl 9 10 rfl rfl (by simp) (by simp) (by decide) (.tmp 36) (.tmp 37) (by simp) (by simp) (by simp) (by simp) rfl rfl rfl rfl (8, 2031874, 256, 0, 0) (0, 0, 0) rfl rfl ?_)
  intro gD hD wD hB1 hB2 hl hg
  replace LL := hide (LL.out.trans hl)
  replace CA := hide (CA.out.later hl)
  replace SA := hide (SA.out.later hl)
  replace VB := hide (VB.out.later hl)
  replace SB := hide (SB.out.later hl)
  replace SC := hide (SC.out.later hl)
  have CD := hide hB1
  have SD := hide hB2
  clear hl hg hB1 hB2
  go_wp2_with fail
  refine (bytes_c (40, 0, 65536, 0, 0) _ (by unfold OkC; decide)).mono ?_
  rintro e we ⟨ve, rfl, hl, hb⟩
  rw [al6_6]
  clear hb
  replace LL := hide (LL.out.trans hl)
  replace CA := hide (CA.out.later hl)
  replace SA := hide (SA.out.later hl)
  replace VB := hide (VB.out.later hl)
  replace SB := hide (SB.out.later hl)
  replace SC := hide (SC.out.later hl)
  replace CD := hide (CD.out.later hl)
  replace SD := hide (SD.out.later hl)
  clear hl
  go_wp2_with fail
  have hc := fun r => ((Later.refl we).drew.trans (later_rg we.drew r))
  have a0 := fun r => (CA.out.later (hc r)).cell 0
  have a1 := fun r => (CA.out.later (hc r)).cell 1
  have a2 := fun r => (CA.out.later (hc r)).cell 2
  have a3 := fun r => (CA.out.later (hc r)).cell 3
  have a4 := fun r => (CA.out.later (hc r)).cell 4
  have b0 := fun r => (SA.out.later (hc r)).cell 0
  have b1 := fun r => (SA.out.later (hc r)).cell 1
  have b2 := fun r => (SA.out.later (hc r)).cell 2
  have c0 := fun r => (SB.out.later (hc r)).cell 0
  have c1 := fun r => (SB.out.later (hc r)).cell 1
  have c2 := fun r => (SB.out.later (hc r)).cell 2
  have d0 := fun r => (SC.out.later (hc r)).cell 0
  have d1 := fun r => (SC.out.later (hc r)).cell 1
  have d2 := fun r => (SC.out.later (hc r)).cell 2
  have e0 := fun r => (CD.out.later (hc r)).cell 0
  have e1 := fun r => (CD.out.later (hc r)).cell 1
  have e2 := fun r => (CD.out.later (hc r)).cell 2
  have e3 := fun r => (CD.out.later (hc r)).cell 3
  have e4 := fun r => (CD.out.later (hc r)).cell 4
  have f0 := fun r => (SD.out.later (hc r)).cell 0
  have f1 := fun r => (SD.out.later (hc r)).cell 1
  have f2 := fun r => (SD.out.later (hc r)).cell 2
  have gs := fun r => (VB.out.later (hc r)).str
  refine wp_region_sched ((List.range 56).map fun i => (i, false)) (by kernel_rfl) (by kernel_rfl) (by kernel_rfl) (by kernel_rfl) ?_
  simp only [List.range, List.range.loop, List.map]
  iterate 2 (refine wpS_mild rfl (fun K hK => ?_); go_simp; refine hK _ ?_; clear hK K)
  refine wpS_eqG rfl (by kernel_rfl) 26 _ (.tmp 43) (.tmp 44) rfl _ _ rfl rfl Try.guard_cmd true (fun w => cmd_eq (40, 5, 3, 0, 0) (40, 5, 3, 0, 0) w) ?_
  iterate 3 (refine wpS_mild rfl (fun K hK => ?_); go_simp; refine hK _ ?_; clear hK K)
  refine wpS_eqG rfl (by kernel_rfl) 28 _ (.tmp 47) (.tmp 48) rfl _ _ rfl rfl Try.guard_sense true (fun w => sense_eq (0, 0, 0) (0, 0, 0) w) ?_
  iterate 11 (refine wpS_mild rfl (fun K hK => ?_); go_simp; refine hK _ ?_; clear hK K)
  refine wpS_call rfl (by kernel_rfl) 18 (Plain.of (by kernel_rfl)) [.const (.int .i64 5), .const (.int .i64 36), .const (.int .i64 0)] _ rfl [.int .i64 5, .int .i64 36, .int .i64 0] rfl (sval (5, 36, 0)) (fun wx hx => rof_c 5 36 0 wx) ?_
  refine wpS_eqG rfl (by kernel_rfl) 28 _ (.tmp 60) (.tmp 61) rfl _ _ rfl rfl Try.guard_sense true (fun w => sense_eq (5, 36, 0) (5, 36, 0) w) ?_
  iterate 3 (refine wpS_mild rfl (fun K hK => ?_); go_simp; refine hK _ ?_; clear hK K)
  refine wpS_call rfl (by kernel_rfl) 18 (Plain.of (by kernel_rfl)) [.const (.int .i64 5), .const (.int .i64 32), .const (.int .i64 0)] _ rfl [.int .i64 5, .int .i64 32, .int .i64 0] rfl (sval (5, 32, 0)) (fun wx hx => rof_c 5 32 0 wx) ?_
  refine wpS_eqG rfl (by kernel_rfl) 28 _ (.tmp 65) (.tmp 66) rfl _ _ rfl rfl Try.guard_sense true (fun w => sense_eq (5, 32, 0) (5, 32, 0) w) ?_
  iterate 4 (refine wpS_mild rfl (fun K hK => ?_); go_simp; refine hK _ ?_; clear hK K)
  refine wpS_eqG rfl (by kernel_rfl) 26 _ (.tmp 70) (.tmp 71) rfl _ _ rfl rfl Try.guard_cmd true (fun w => cmd_eq (8, 2031874, 256, 0, 0) (8, 2031874, 256, 0, 0) w) ?_
  iterate 4 (refine wpS_mild rfl (fun K hK => ?_); go_simp; refine hK _ ?_; clear hK K)
  refine wpS_eqG rfl (by kernel_rfl) 28 _ (.tmp 75) (.tmp 76) rfl _ _ rfl rfl Try.guard_sense true (fun w => sense_eq (0, 0, 0) (0, 0, 0) w) ?_
  iterate 6 (refine wpS_mild rfl (fun K hK => ?_); go_simp; refine hK _ ?_; clear hK K)
  refine wpS_call rfl (by kernel_rfl) 10 (Plain.of (by kernel_rfl)) [.const (.int .i64 158)] _ rfl [.int .i64 158] rfl (.int .i64 16) (fun wx hx => size_c 158 wx) ?_
  iterate 3 (refine wpS_mild rfl (fun K hK => ?_); go_simp; refine hK _ ?_; clear hK K)
  refine wpS_call rfl (by kernel_rfl) 10 (Plain.of (by kernel_rfl)) [.const (.int .i64 96)] _ rfl [.int .i64 96] rfl (.int .i64 0) (fun wx hx => size_c 96 wx) ?_
  iterate 3 (refine wpS_mild rfl (fun K hK => ?_); go_simp; refine hK _ ?_; clear hK K)
  refine wpS_call rfl (by kernel_rfl) 12 (Plain.of (by kernel_rfl)) [.const (.int .i64 160)] _ rfl [.int .i64 160] rfl (.bool true) (fun wx hx => known_c 160 wx) ?_
  iterate 2 (refine wpS_mild rfl (fun K hK => ?_); go_simp; refine hK _ ?_; clear hK K)
  refine wpS_call rfl (by kernel_rfl) 14 (Plain.of (by kernel_rfl)) [.const (.int .i64 145)] _ rfl [.int .i64 145] rfl (.int .i64 4) (fun wx hx => (class_c 145 wx).mono fun e w' ⟨h1, h2⟩ => ⟨h1, by rw [h2]; exact Later.refl _⟩) ?_
  iterate 3 (refine wpS_mild rfl (fun K hK => ?_); go_simp; refine hK _ ?_; clear hK K)
  refine wpS_nil (fun wx hwx => ?_)
  have F := hide (LL.out.trans ((Later.refl we).drew.trans hwx))
  clear hc gs hwx a0 a1 a2 a3 a4 b0 b1 b2 c0 c1 c2 d0 d1 d2 e0 e1 e2 e3 e4 f0 f1 f2
  go_wp2
  go_ret
  exact ⟨rfl, F.out⟩
end Go.Proofs.Ytccdgpadjfjoeaa
