import Derived.Test.YtdhagfklcfajgaaMAM
namespace Go.Proofs.Ytdhagfklcfajgaa
open Go.ChangeShapes Go.WideShapes Go.ChangeAt Go.RowKit
set_option linter.unusedVariables false
set_option linter.unusedSimpArgs false

theorem cut_cut (l : List UInt8) (n k : Int) : cutL (cutL l n) k = cutL l (if n ≤ k then n else k) := by
  unfold cutL
  by_cases hn : n < 0
  · rw [if_pos hn]
    by_cases hk : k < 0
    · rw [if_pos hk, if_pos (by split <;> omega)]
    · rw [if_neg hk, if_pos (by rw [if_pos (by omega)]; exact hn)]; simp
  · rw [if_neg hn]
    by_cases hk : k < 0
    · rw [if_pos hk, if_pos (by rw [if_neg (by omega)]; exact hk)]
    · rw [if_neg hk, List.take_take]
      by_cases h : n ≤ k
      · rw [if_pos h, if_neg hn, Nat.min_eq_right (by omega)]
      · rw [if_neg h, if_neg hk, Nat.min_eq_left (by omega)]
theorem cutL_len (l : List UInt8) (n : Int) : (cutL l n).length ≤ l.length := by
  unfold cutL
  split
  · simp
  · rw [List.length_take]; omega
set_option maxRecDepth 20000 in
set_option maxHeartbeats 4000000 in
theorem inquiryCuts_walk (hal : Alive7) (iC : ICut7) (v0 : Value) (n k : Int) (w : World) (h0 : RBytes w v0) (h1 : In64 n) (h2 : In64 k) :
    Calls Try.prog 5 #[v0, .int .i64 n, .int .i64 k] w fun e w' => e = .returned (.bool true) ∧ Below w.heap.size w w' := by
  obtain ⟨l, hb⟩ := h0
  have HB := hide hb
  obtain ⟨hlm, al, cl, rfl, _, _⟩ := hb
  unfold maxLen at hlm
  obtain ⟨z, hz⟩ : ∃ z, z = l.length := ⟨_, rfl⟩
  rw [← hz] at HB hlm ⊢
  have HZ := hide hz
  have H1 := hide h1
  have H2 := hide h2
  clear hz h1 h2
  go_enter Try.func5, Try.ntmps5
  go_wp2_with fail
  refine (hal _).mono ?_
  rintro e w1 ⟨rfl, hl⟩
  have LL := hide hl
  clear hl
  by_cases hA : 500 < z
  · have hAb : decide (500 < (z : Int)) = true := by simp; omega
    go_wp2
    go_ret
    exact ⟨rfl, LL.out⟩
  have hAb : decide (500 < (z : Int)) = false := by simp; omega
  have HS : Hid (l.length ≤ 1000000) := by have := HZ.out; rw [Hid]; omega
  go_wp2_with fail
  refine (iC _ l n _ (HB.out.later LL.out) HS.out H1.out).mono ?_
  rintro e w2 ⟨vc, rfl, hl, hv⟩
  replace LL := hide (LL.out.trans hl)
  have VC := hide hv
  clear hl hv
  have HM := hide (cut_cut l n k)
  have HCl := hide (cutL_len l n)
  go_wp2_with fail
  have hc := fun r => ((Later.refl w2).drew.trans (later_rg w2.drew r))
  have gc := fun r => (VC.out.later (hc r)).str
  obtain ⟨m, hm⟩ : ∃ m, m = if n ≤ k then n else k := ⟨_, rfl⟩
  have HMm : Hid (In64 m) := by
    rw [Hid, hm]
    split
    · exact H1.out
    · exact H2.out
  rw [← hm] at HM
  have hmin : (if k < n then k else n) = m := by rw [hm]; split <;> split <;> omega
  have HE := hide hm
  clear hm
  refine wp_region_sched [(0, false), (1, false), (2, false), (3, false), (4, true), (5, false), (6, false), (7, false), (8, false), (9, false), (12, false), (13, false), (14, false), (15, false), (10, true), (11, false), (16, true), (17, false), (18, false), (19, false), (20, false)] (by kernel_rfl) (by kernel_rfl) (by kernel_rfl) (by kernel_rfl) ?_
  iterate 4 (refine wpS_mild rfl (fun K hK => ?_); go_simp; refine hK _ ?_; clear hK K)
  refine wpS_callL rfl (by kernel_rfl) 18 (Plain.of (by kernel_rfl)) [.tmp 18, .tmp 19] _ rfl [.slice al z cl, .int .i64 n] rfl (fun v W => Bs W v (cutL l n)) (fun wx hx => rcut_c n wx (HB.out.later (LL.out.trans ((Later.refl w2).drew.trans hx))) HS.out) ?_
  intro v1 q1 hl1 hb1
  have hlq := (Later.refl w2).drew.trans hl1
  replace LL := hide (LL.out.trans hlq)
  replace VC := hide (VC.out.later hlq)
  have gs := fun r => (hb1.later (later_rg q1 r)).str
  clear hlq hl1 hb1 gc hc
  iterate 9 (refine wpS_mild rfl (fun K hK => ?_); go_simp; refine hK _ ?_; clear hK K)
  clear gs
  refine wpS_callL rfl (by kernel_rfl) 17 (Plain.of (by kernel_rfl)) [.tmp 24, .tmp 25] _ rfl [vc, .int .i64 k] rfl (fun v W => Bs W v (cutL l m)) (fun wx hx => by have h7 := iC vc _ k wx (VC.out.later hx) (by have := HCl.out; have := HS.out; omega) H2.out; rw [HM.out] at h7; exact h7) ?_
  intro v2 q2 hl2 hb2
  replace LL := hide (LL.out.trans hl2)
  have V2 := hide hb2
  have gs := fun r => (hb2.later (later_rg q2 r)).str
  clear hl2 hb2
  iterate 1 (refine wpS_mild rfl (fun K hK => ?_); go_simp; refine hK _ ?_; clear hK K)
  clear gs
  refine wpS_callL rfl (by kernel_rfl) 17 (Plain.of (by kernel_rfl)) [.tmp 28, .tmp 31] _ rfl [.slice al z cl, .int .i64 m] rfl (fun v W => Bs W v (cutL l m)) (fun wx hx => iC _ l m wx (HB.out.later (LL.out.trans hx)) HS.out HMm.out) ?_
  intro v3 q3 hl3 hb3
  replace LL := hide (LL.out.trans hl3)
  have gs := fun r => (hb3.later (later_rg q3 r)).str
  clear hl3 hb3
  iterate 4 (refine wpS_mild rfl (fun K hK => ?_); go_simp; refine hK _ ?_; clear hK K)
  refine wpS_nil (fun wx hwx => ?_)
  have F := hide (LL.out.trans hwx)
  clear gs hwx
  go_wp2
  go_ret
  refine ⟨?_, F.out⟩
  first | rfl | simp
end Go.Proofs.Ytdhagfklcfajgaa
