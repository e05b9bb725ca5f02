import Derived.Test.YtmelkgmbiiobgaaMAM
namespace Go.Proofs.Ytmelkgmbiiobgaa
open Go.ChangeShapes Go.WideShapes Go.ChangeAt Go.RowKit
set_option linter.unusedVariables false
set_option maxRecDepth 4000
set_option linter.unusedSimpArgs false
/-! Any bytes to the host, and none. -/
set_option maxRecDepth 20000 in
set_option maxHeartbeats 4000000 in
theorem intentKinds_walk (hal : Alive11) (iI : IIn11) (iN : INone11) {ax : Option Addr} {kx cx : Nat} {B : List UInt8} {s : Sns} (w : World) (hB : Bs w (.slice ax kx cx) B) (hs : OkS s) (hm : kx ≤ maxLen) :
    Calls Try.prog 6 #[.slice ax kx cx, sval s] w fun e w' => e = .returned (.bool true) ∧ Below w.heap.size w w' := by
  have HB := hide hB
  have HS := hide hs
  unfold maxLen at hm
  clear hB hs
  have BX := hide (Box.new w 30 #[.int .i64 s.1, .int .i64 s.2.1, .int .i64 s.2.2])
  have LL := hide ((Later.refl w).alloc (.cells #[.int .i64 s.1, .int .i64 s.2.1, .int .i64 s.2.2] 30))
  go_enter Try.func6, Try.ntmps6
  go_wp2_with fail
  generalize w.alloc (.cells #[.int .i64 s.1, .int .i64 s.2.1, .int .i64 s.2.2] 30) = w1 at *
  obtain ⟨gx, hgx⟩ : ∃ gx, gx = w.heap.size := ⟨_, rfl⟩
  rw [← hgx] at BX ⊢
  clear hgx
  refine (hal _).mono ?_
  rintro e w2 ⟨rfl, hl⟩
  replace LL := hide (LL.out.trans hl)
  replace BX := hide (BX.out.later hl)
  clear hl
  by_cases h5 : 500 < kx
  · go_wp2
    go_ret
    exact ⟨rfl, LL.out⟩
  go_wp2_with fail
  have hc := fun q => ((Later.refl w2).drew.trans (later_rg w2.drew q))
  have x_0 := fun q => (BX.out.later (hc q)).cell 0
  have x_1 := fun q => (BX.out.later (hc q)).cell 1
  have x_2 := fun q => (BX.out.later (hc q)).cell 2
  have hwd := (Later.refl w2).drew
  refine wp_region_sched [(0, false), (1, false), (3, false), (4, false), (2, true), (5, true), (6, false), (7, false), (8, false), (10, false), (9, true), (11, true), (12, false), (13, false), (14, false)] (by kernel_rfl) (by kernel_rfl) (by kernel_rfl) (by kernel_rfl) ?_
  iterate 4 (refine wpS_mild rfl (fun K hK => ?_); go_simp; refine hK _ ?_; clear hK K)
  clear x_0 x_1 x_2 hc
  refine wpS_callL rfl (by kernel_rfl) 16 (Plain.of (by kernel_rfl)) [.tmp 10, .tmp 11] _ rfl [.slice ax kx cx, sval s] rfl (fun v W => IV W v (inI B s)) (fun wx hx => iI _ B s wx (HB.out.later (LL.out.trans (hwd.trans hx))) HS.out (by obtain ⟨_, a', c', e', _⟩ := HB.out; simp at e'; omega)) ?_
  intro v1 w3 hl3 hv1
  refine wpS_callL rfl (by kernel_rfl) 17 (Plain.of (by kernel_rfl)) [.tmp 13, .tmp 14] _ rfl [.slice ax kx cx, sval s] rfl (fun v W => IV W v (inI B s)) (fun wx hx => rin11_c s wx (HB.out.later (LL.out.trans ((hwd.trans hl3).trans hx)))) ?_
  intro v2 w4 hl4 hv2
  refine wpS_call rfl (by kernel_rfl) 15 (Plain.of (by kernel_rfl)) [.tmp 12, .tmp 15] _ rfl [v1, v2] rfl (.bool true) (fun wx hx => rsame11_c wx (hv1.later (hl4.trans hx)) (hv2.later hx)) ?_
  have hc := fun q => (((hwd.trans hl3).trans hl4).trans (later_rg w4 q))
  have x_0 := fun q => (BX.out.later (hc q)).cell 0
  have x_1 := fun q => (BX.out.later (hc q)).cell 1
  have x_2 := fun q => (BX.out.later (hc q)).cell 2
  iterate 3 (refine wpS_mild rfl (fun K hK => ?_); go_simp; refine hK _ ?_; clear hK K)
  clear x_0 x_1 x_2 hc
  refine wpS_callL rfl (by kernel_rfl) 18 (Plain.of (by kernel_rfl)) [.tmp 18] _ rfl [sval s] rfl (fun v W => IV W v (noneI s)) (fun wx hx => iN s wx HS.out) ?_
  intro v3 w5 hl5 hv3
  refine wpS_callL rfl (by kernel_rfl) 19 (Plain.of (by kernel_rfl)) [.tmp 20] _ rfl [sval s] rfl (fun v W => IV W v (noneI s)) (fun wx hx => (rnone11_c s wx).mono fun e w' h => ⟨_, h.1, h.2, IV.nil11 w' s⟩) ?_
  intro v4 w6 hl6 hv4
  refine wpS_call rfl (by kernel_rfl) 15 (Plain.of (by kernel_rfl)) [.tmp 19, .tmp 21] _ rfl [v3, v4] rfl (.bool true) (fun wx hx => rsame11_c wx (hv3.later (hl6.trans hx)) (hv4.later hx)) ?_
  iterate 2 (refine wpS_mild rfl (fun K hK => ?_); go_simp; refine hK _ ?_; clear hK K)
  refine wpS_nil (fun wx hwx => ?_)
  have LZ := hide (LL.out.trans ((((hwd.trans hl3).trans hl4).trans hl5).trans (hl6.trans hwx)))
  clear hwx hl3 hl4 hl5 hl6 hv1 hv2 hv3 hv4
  go_wp2
  go_ret
  exact ⟨rfl, LZ.out⟩
end Go.Proofs.Ytmelkgmbiiobgaa
