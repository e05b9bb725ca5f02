import Derived.Test.YtfefnkeognccpaaL4I
namespace Go.Proofs.Ytfefnkeognccpaa
open Go.ChangeShapes Go.WideShapes Go.ChangeAt Go.RowKit
set_option linter.unusedVariables false
set_option linter.unusedSimpArgs false

set_option maxRecDepth 20000 in
set_option maxHeartbeats 2000000 in
theorem senseBytes_walk (hal : Alive4) (iB : IBytesS) (iP : IParseS) (iG : IGoodS) (v0 v1 : Value) (w : World) (h0 : RSense v0) (h1 : RBytes w v1) :
    Calls Try.prog 3 #[v0, v1] w fun e w' => e = .returned (.bool true) ∧ Below w.heap.size w w' := by
  obtain ⟨s, hs, rfl⟩ := h0
  obtain ⟨l, hb⟩ := h1
  have HB := hide hb
  obtain ⟨hlm, al, cl, rfl, _, _⟩ := hb
  unfold maxLen at hlm
  obtain ⟨n, hn⟩ : ∃ n, n = l.length := ⟨_, rfl⟩
  rw [← hn] at HB hlm ⊢
  have HN := hide hn
  have HS := hide hs
  clear hs hn
  have BX := hide (Box.new w 23 #[.int .i64 s.1, .int .i64 s.2.1, .int .i64 s.2.2])
  have L := hide ((Later.refl w).alloc (.cells #[.int .i64 s.1, .int .i64 s.2.1, .int .i64 s.2.2] 23))
  go_enter Try.func3, Try.ntmps3
  go_wp2_with fail
  refine (hal _).mono ?_
  rintro e w1 ⟨rfl, hl⟩
  replace BX := hide (BX.out.later hl)
  replace L := hide (L.out.later hl)
  clear hl
  by_cases h100 : 100 < n
  · go_wp2
    go_ret
    exact ⟨rfl, L.out⟩
  have hn100 : n ≤ 100 := by omega
  go_wp2_with fail
  refine (iP _ l _ (HB.out.later L.out) (by have := HN.out; omega)).mono ?_
  rintro e w2 ⟨rfl, hl⟩
  replace BX := hide (BX.out.later hl)
  replace L := hide (L.out.later hl)
  clear hl
  go_wp2_with (refine wpList_newS rfl rfl rfl 5 rfl (by simp) (.tmp 17) (by simp) rfl (parseS l) rfl ?_)
  intro ga w3 hB hl hg
  replace BX := hide (BX.out.later hl)
  replace L := hide (L.out.later hl)
  have BA := hide hB
  clear hB hl hg
  go_wp2_with fail
  refine (rparse_c _ (HB.out.later L.out)).mono ?_
  rintro e w4 ⟨rfl, hl⟩
  replace BX := hide (BX.out.later hl)
  replace L := hide (L.out.later hl)
  replace BA := hide (BA.out.later hl)
  clear hl
  go_wp2_with (refine wpList_newS rfl rfl rfl 7 rfl (by simp) (.tmp 22) (by simp) rfl (parseS l) rfl ?_)
  intro gc w5 hB hl hg
  replace BX := hide (BX.out.later hl)
  replace L := hide (L.out.later hl)
  replace BA := hide (BA.out.later hl)
  have BC := hide hB
  clear hB hl hg
  generalize parseS l = S at *
  generalize parseB l = pb at *
  go_wp2_with fail
  have hc := fun r => ((Later.refl w5).drew.trans (later_rg w5.drew r))
  have x0 := fun r => (BX.out.later (hc r)).cell 0
  have x1 := fun r => (BX.out.later (hc r)).cell 1
  have x2 := fun r => (BX.out.later (hc r)).cell 2
  refine wp_region_sched ([(0, false), (3, false), (1, true), (2, false), (4, true)] ++ (List.range 21).map fun i => (i + 5, false)) (by kernel_rfl) (by kernel_rfl) (by kernel_rfl) (by kernel_rfl) ?_
  simp only [List.range, List.range.loop, List.map, List.cons_append, List.nil_append, Nat.zero_add, Nat.reduceAdd]
  iterate 2 (refine wpS_mild rfl (fun K hK => ?_); go_simp; refine hK _ ?_; clear hK K)
  clear x0 x1 x2 hc
  refine wpS_callL rfl (by kernel_rfl) 10 (Plain.of (by kernel_rfl)) [.tmp 24] _ rfl [sval s] rfl (fun v W => Bs W v (bytesL s)) (fun wx hx => iB s wx HS.out) ?_
  intro v1 b1 hl1 hb1
  have hl := (Later.refl w5).drew.trans hl1
  replace BX := hide (BX.out.later hl)
  replace L := hide (L.out.later hl)
  replace BA := hide (BA.out.later hl)
  replace BC := hide (BC.out.later hl)
  have gs := fun r => (hb1.later (later_rg b1 r)).strOf
  clear hl hl1 hb1
  iterate 1 (refine wpS_mild rfl (fun K hK => ?_); go_simp; refine hK _ ?_; clear hK K)
  clear gs
  refine wpS_callL rfl (by kernel_rfl) 11 (Plain.of (by kernel_rfl)) [.tmp 27] _ rfl [sval s] rfl (fun v W => Bs W v (bytesL s)) (fun wx hx => rbytes_c s wx) ?_
  intro v2 b2 hl hb2
  replace BX := hide (BX.out.later hl)
  replace L := hide (L.out.later hl)
  replace BA := hide (BA.out.later hl)
  replace BC := hide (BC.out.later hl)
  have gs := fun r => (hb2.later (later_rg b2 r)).strOf
  clear hl hb2
  have hc := fun r => (later_rg b2 r)
  have x0 := fun r => (BX.out.later (hc r)).cell 0
  have x1 := fun r => (BX.out.later (hc r)).cell 1
  have x2 := fun r => (BX.out.later (hc r)).cell 2
  have a0 := fun r => (BA.out.later (hc r)).cell 0
  have a1 := fun r => (BA.out.later (hc r)).cell 1
  have a2 := fun r => (BA.out.later (hc r)).cell 2
  have c0 := fun r => (BC.out.later (hc r)).cell 0
  have c1 := fun r => (BC.out.later (hc r)).cell 1
  have c2 := fun r => (BC.out.later (hc r)).cell 2
  iterate 5 (refine wpS_mild rfl (fun K hK => ?_); go_simp; refine hK _ ?_; clear hK K)
  refine wpS_eqG rfl (by kernel_rfl) 23 _ (.tmp 32) (.tmp 33) rfl _ _ rfl rfl Try.guard_sense (S == S) (fun w => sense_eq S S w) ?_
  rw [show (S == S) = true from by simp]
  iterate 8 (refine wpS_mild rfl (fun K hK => ?_); go_simp; refine hK _ ?_; clear hK K)
  refine wpS_call rfl (by kernel_rfl) 12 (Plain.of (by kernel_rfl)) [.tmp 42] _ rfl [sval s] rfl (.bool (s == (0, 0, 0))) (fun wx hx => iG s wx HS.out) ?_
  iterate 2 (refine wpS_mild rfl (fun K hK => ?_); go_simp; refine hK _ ?_; clear hK K)
  refine wpS_eqG rfl (by kernel_rfl) 23 _ (.tmp 44) (.tmp 45) rfl _ _ rfl rfl Try.guard_sense (s == (0, 0, 0)) (fun w => sense_eq s (0, 0, 0) w) ?_
  generalize (s == ((0, 0, 0) : Sns)) = z at *
  iterate 3 (refine wpS_mild rfl (fun K hK => ?_); go_simp; refine hK _ ?_; clear hK K)
  refine wpS_nil (fun wx hwx => ?_)
  have F := hide (L.out.trans hwx)
  clear x0 x1 x2 a0 a1 a2 c0 c1 c2 hc gs hwx
  go_wp2
  go_ret
  refine ⟨?_, F.out⟩
  first | rfl | simp
end Go.Proofs.Ytfefnkeognccpaa
