import Derived.Test.YtkbpecbpfajkfaaMAM
namespace Go.Proofs.Ytkbpecbpfajkfaa
open Go.ChangeShapes Go.WideShapes Go.ChangeAt Go.RowKit
set_option linter.unusedVariables false
set_option linter.unusedSimpArgs false

set_option maxRecDepth 20000 in
set_option maxHeartbeats 4000000 in
theorem slotReads_walk (hal : Alive5) (iC : ICheckT) (iR : IReadT) (v0 v1 v2 : Value) (w : World) (h0 : RSlot w v0) (h1 : RInt .u64 v1) (h2 : RInt .i64 v2) :
    Calls Try.prog 4 #[v0, v1, v2] w fun e w' => e = .returned (.bool true) ∧ Below w.heap.size w w' := by
  obtain ⟨n, F, D, p, r, l, hs⟩ := h0
  obtain ⟨at_, hat, rfl⟩ : ∃ a : Nat, a ≤ 18446744073709551615 ∧ v1 = .int .u64 (a : Int) := by
    obtain ⟨x, rfl, wx⟩ := h1
    have hb := bounds_u64 wx
    obtain ⟨y, rfl⟩ := Int.eq_ofNat_of_zero_le hb.1
    exact ⟨y, by omega, rfl⟩
  obtain ⟨m, rfl, wm⟩ := h2
  have hm := bounds_i64 wm
  clear wm
  have S := hide hs
  obtain ⟨ab, cb, aD, k, cD, rfl, HK, hn, hk⟩ := hs.shape
  have HM : Hid (Med w (.agg #[.slice ab n cb, .slice aD k cD]) n F D) := by
    obtain ⟨_, _, _, _, _, e, h⟩ := hs
    simp at e
    obtain ⟨⟨rfl, rfl⟩, rfl, rfl, rfl⟩ := e
    exact h
  clear hs
  have BX : Hid (Box (w.alloc (.cells #[.slice ab n cb, .slice aD k cD, .bool p, .bool r, .bool l] 27)) w.heap.size 27 (tc (.slice ab n cb) (.slice aD k cD) p r l)) := Box.new w 27 #[.slice ab n cb, .slice aD k cD, .bool p, .bool r, .bool l]
  have L := hide ((Later.refl w).alloc (.cells #[.slice ab n cb, .slice aD k cD, .bool p, .bool r, .bool l] 27))
  go_enter Try.func4, Try.ntmps4
  go_wp2_with fail
  refine (hal _).mono ?_
  rintro e w1 ⟨rfl, hl⟩
  replace BX := hide (BX.out.later hl)
  replace L := hide (L.out.later hl)
  clear hl
  have d0 := BX.out.cell 0
  have d1 := BX.out.cell 1
  go_wp2_with fail
  refine (rgreat_c _ (HM.out.later L.out)).mono ?_
  rintro e w2 ⟨rfl, hl⟩
  replace BX := hide (BX.out.later hl)
  replace L := hide (L.out.later hl)
  clear hl d0 d1
  cases hg : greatB n D with
  | true =>
    go_wp2
    go_ret
    exact ⟨rfl, L.out⟩
  | false =>
    have hnk : n ≤ 70 ∧ k ≤ 70 := by have := HK.out; simp [greatB] at hg; omega
    have HD : Hid (D.length ≤ 100) := by have := HK.out; unfold Hid; omega
    have d0 := BX.out.cell 0
    have d1 := BX.out.cell 1
    have d2 := BX.out.cell 2
    have d3 := BX.out.cell 3
    have d4 := BX.out.cell 4
    go_wp2_with fail
    refine (iR _ n F D p r l at_ m _ (S.out.later L.out) hat hm.1 hm.2 (by omega) HD.out).mono ?_
    rintro e w3 ⟨vb, rfl, hl, hb⟩
    replace BX := hide (BX.out.later hl)
    replace L := hide (L.out.later hl)
    have B := hide hb
    clear hl hb d0 d1 d2 d3 d4
    generalize hC : checkS n D p r at_ m false = C at *
    have HC := hide hC
    clear hC
    have hl := (Later.refl w3).alloc (.cells #[.int .i64 C.1, .int .i64 C.2.1, .int .i64 C.2.2] 35)
    have BA : Hid (Box (w3.alloc (.cells #[.int .i64 C.1, .int .i64 C.2.1, .int .i64 C.2.2] 35)) w3.heap.size 35 (sc C)) := Box.new w3 35 #[.int .i64 C.1, .int .i64 C.2.1, .int .i64 C.2.2]
    replace BX := hide (BX.out.later hl)
    replace L := hide (L.out.later hl)
    replace B := hide (B.out.later hl)
    clear hl
    have d0 := BX.out.cell 0
    have d1 := BX.out.cell 1
    have d2 := BX.out.cell 2
    have d3 := BX.out.cell 3
    have d4 := BX.out.cell 4
    go_wp2_with fail
    clear d0 d1 d2 d3 d4
    generalize (w3.alloc (.cells #[.int .i64 C.1, .int .i64 C.2.1, .int .i64 C.2.2] 35)) = w4 at *
    generalize w3.heap.size = gA at *
    refine (rread5_c at_ m _ (S.out.later L.out) hat).mono ?_
    rintro e w5 ⟨vc, rfl, hl, hb⟩
    rw [HC.out] at hb ⊢
    replace BX := hide (BX.out.later hl)
    replace L := hide (L.out.later hl)
    replace B := hide (B.out.later hl)
    replace BA := hide (BA.out.later hl)
    have B2 := hide hb
    clear hl hb
    have hl := (Later.refl w5).alloc (.cells #[.int .i64 C.1, .int .i64 C.2.1, .int .i64 C.2.2] 35)
    have BC : Hid (Box (w5.alloc (.cells #[.int .i64 C.1, .int .i64 C.2.1, .int .i64 C.2.2] 35)) w5.heap.size 35 (sc C)) := Box.new w5 35 #[.int .i64 C.1, .int .i64 C.2.1, .int .i64 C.2.2]
    replace BX := hide (BX.out.later hl)
    replace L := hide (L.out.later hl)
    replace B := hide (B.out.later hl)
    replace BA := hide (BA.out.later hl)
    replace B2 := hide (B2.out.later hl)
    clear hl
    go_wp2_with fail
    generalize (w5.alloc (.cells #[.int .i64 C.1, .int .i64 C.2.1, .int .i64 C.2.2] 35)) = w6 at *
    generalize w5.heap.size = gC at *
    have hc := fun r => ((Later.refl w6).drew.trans (later_rg w6.drew r))
    have x0 := fun r => (BX.out.later (hc r)).cell 0
    have x1 := fun r => (BX.out.later (hc r)).cell 1
    have x2 := fun r => (BX.out.later (hc r)).cell 2
    have x3 := fun r => (BX.out.later (hc r)).cell 3
    have x4 := fun r => (BX.out.later (hc r)).cell 4
    have y0 := fun r => (BA.out.later (hc r)).cell 0
    have y1 := fun r => (BA.out.later (hc r)).cell 1
    have y2 := fun r => (BA.out.later (hc r)).cell 2
    have z0 := fun r => (BC.out.later (hc r)).cell 0
    have z1 := fun r => (BC.out.later (hc r)).cell 1
    have z2 := fun r => (BC.out.later (hc r)).cell 2
    have g1 := fun r => (B.out.later (hc r)).strOf
    have g2 := fun r => (B2.out.later (hc r)).strOf
    refine wp_region_sched ((List.range 30).map fun i => (i, false)) (by kernel_rfl) (by kernel_rfl) (by kernel_rfl) (by kernel_rfl) ?_
    simp only [List.range, List.range.loop, List.map]
    iterate 8 (refine wpS_mild rfl (fun K hK => ?_); go_simp; refine hK _ ?_; clear hK K)
    refine wpS_eqG rfl (by kernel_rfl) 35 _ (.tmp 36) (.tmp 37) rfl _ _ rfl rfl Try.guard_sense (C == C) (fun w => sense_eq C C w) ?_
    rw [show (C == C) = true from by simp]
    iterate 5 (refine wpS_mild rfl (fun K hK => ?_); go_simp; refine hK _ ?_; clear hK K)
    refine wpS_call rfl (by kernel_rfl) 30 (Plain.of (by kernel_rfl)) [.tmp 41, .tmp 42, .tmp 43, .const (.bool true)] _ rfl [.agg #[.slice ab n cb, .slice aD k cD, .bool p, .bool r, .bool l], .int .u64 at_, .int .i64 m, .bool true] rfl (sval (checkS n D p r at_ m true)) (fun wx hx => iC _ n F D p r l at_ m true wx (S.out.later (L.out.trans ((Later.refl w6).drew.trans hx))) hat hm.1 hm.2 (by omega) HD.out) ?_
    iterate 3 (refine wpS_mild rfl (fun K hK => ?_); go_simp; refine hK _ ?_; clear hK K)
    refine wpS_call rfl (by kernel_rfl) 31 (Plain.of (by kernel_rfl)) [.tmp 45, .tmp 46, .tmp 47, .const (.bool true)] _ rfl [.agg #[.slice ab n cb, .slice aD k cD, .bool p, .bool r, .bool l], .int .u64 at_, .int .i64 m, .bool true] rfl (sval (checkS n D p r at_ m true)) (fun wx hx => rcheck_c at_ m true wx (S.out.later (L.out.trans ((Later.refl w6).drew.trans hx))) hat) ?_
    generalize checkS n D p r at_ m true = E at *
    refine wpS_eqG rfl (by kernel_rfl) 35 _ (.tmp 44) (.tmp 48) rfl _ _ rfl rfl Try.guard_sense (E == E) (fun w => sense_eq E E w) ?_
    rw [show (E == E) = true from by simp]
    iterate 5 (refine wpS_mild rfl (fun K hK => ?_); go_simp; refine hK _ ?_; clear hK K)
    refine wpS_call rfl (by kernel_rfl) 30 (Plain.of (by kernel_rfl)) [.tmp 52, .tmp 53, .tmp 54, .const (.bool false)] _ rfl [.agg #[.slice ab n cb, .slice aD k cD, .bool p, .bool r, .bool l], .int .u64 at_, .int .i64 m, .bool false] rfl (sval C) (fun wx hx => by have := iC _ n F D p r l at_ m false wx (S.out.later (L.out.trans ((Later.refl w6).drew.trans hx))) hat hm.1 hm.2 (by omega) HD.out; rw [HC.out] at this; exact this) ?_
    iterate 1 (refine wpS_mild rfl (fun K hK => ?_); go_simp; refine hK _ ?_; clear hK K)
    refine wpS_eqG rfl (by kernel_rfl) 35 _ (.tmp 55) (.tmp 56) rfl _ _ rfl rfl Try.guard_sense (C == C) (fun w => sense_eq C C w) ?_
    rw [show (C == C) = true from by simp]
    iterate 2 (refine wpS_mild rfl (fun K hK => ?_); go_simp; refine hK _ ?_; clear hK K)
    refine wpS_nil (fun wx hwx => ?_)
    have FL := hide (L.out.trans ((Later.refl w6).drew.trans hwx))
    clear x0 x1 x2 x3 x4 y0 y1 y2 z0 z1 z2 g1 g2 hc hwx
    go_wp2
    go_ret
    refine ⟨?_, FL.out⟩
    first | rfl | simp
end Go.Proofs.Ytkbpecbpfajkfaa
