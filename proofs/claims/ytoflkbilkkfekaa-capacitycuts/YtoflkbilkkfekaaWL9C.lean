import Derived.Test.YtoflkbilkkfekaaWL9A
namespace Go.Proofs.Ytoflkbilkkfekaa
open Go.ChangeShapes Go.WideShapes Go.ChangeAt Go.RowKit
set_option linter.unusedVariables false
set_option linter.unusedSimpArgs false

theorem cutL_all9 (l : List UInt8) (n : Int) (h0 : 0 ≤ n) (h : (l.length : Int) ≤ n) : cutL l n = l := by
  unfold cutL
  rw [if_neg (by omega), List.take_of_length_le (by omega)]
theorem cutL_take9 (l : List UInt8) (m : Nat) (h : m ≤ l.length) : cutL l (m : Int) = l.take m := by
  unfold cutL
  rw [if_neg (by omega), Int.toNat_natCast]
theorem cutL_neg9 (l : List UInt8) (n : Int) (h : n < 0) : cutL l n = l.take 0 := by
  unfold cutL
  rw [if_pos h]; simp
set_option maxRecDepth 20000 in
set_option maxHeartbeats 4000000 in
theorem capacityCuts_walk (b k n : Int) (w : World) (hn : In64 n) :
    Calls Try.prog 5 #[.int .i64 b, .int .i64 k, .int .i64 n] w fun e w' => e = .returned (.bool true) ∧ Below w.heap.size w w' := by
  have HN := hide hn
  clear hn
  obtain ⟨S, hS⟩ : ∃ S, S = sixL b := ⟨_, rfl⟩
  obtain ⟨M, hM⟩ : ∃ M, M = lunsL (cntN k) := ⟨_, rfl⟩
  obtain ⟨ld, hld⟩ : ∃ ld, ld = 8 + 8 * cntN k := ⟨_, rfl⟩
  have hl40 : ld ≤ 40 := by have := cntN_le k; omega
  have hSl : S.length = 32 := by rw [hS, sixL_len]
  have hMl : M.length = ld := by rw [hM, lunsL_len, hld]
  have HS := hide hS
  have HM := hide hM
  have HSl := hide hSl
  have HMl := hide hMl
  have HS1 : Hid (cutL S 1000 = S) := cutL_all9 S 1000 (by decide) (by omega)
  have HM1 : Hid (cutL M 1000 = M) := cutL_all9 M 1000 (by decide) (by omega)
  clear hS hM hld
  by_cases h0 : n < 0
  · have EA := cutL_neg9 S n h0
    have EC := cutL_neg9 M n h0
    clear hSl hMl
    have LA : Hid ((cutL S n).length = 0) := by have z1 := HSl.out; have z2 := HMl.out; rw [Hid, EA, List.length_take] <;> omega
    have LC : Hid ((cutL M n).length = 0) := by have z1 := HSl.out; have z2 := HMl.out; rw [Hid, EC, List.length_take] <;> omega
    replace EA := hide EA
    replace EC := hide EC
    go_enter Try.func5, Try.ntmps5
    go_wp2_with fail
    refine (alive9_c _).mono ?_
    rintro e w1 ⟨rfl, hl⟩
    have LL := hide hl
    clear hl
    go_wp2_with fail
    refine (six9_c b n HN.out _).mono ?_
    rintro e w2 ⟨va, rfl, hl, hv⟩
    replace LL := hide (LL.out.trans hl)
    rw [← HS.out] at hv
    have VA := hide hv
    clear hl hv
    go_wp2_with fail
    refine (six9_c b 1000 (by decide) _).mono ?_
    rintro e w3 ⟨vb, rfl, hl, hv⟩
    replace LL := hide (LL.out.trans hl)
    rw [← HS.out, HS1.out] at hv
    replace VA := hide (VA.out.later hl)
    have VB := hide hv
    clear hl hv
    go_wp2_with fail
    refine (luns9_c k n HN.out _).mono ?_
    rintro e w4 ⟨vc, rfl, hl, hv⟩
    replace LL := hide (LL.out.trans hl)
    rw [← HM.out] at hv
    replace VA := hide (VA.out.later hl)
    replace VB := hide (VB.out.later hl)
    have VC := hide hv
    clear hl hv
    go_wp2_with fail
    refine (luns9_c k 1000 (by decide) _).mono ?_
    rintro e w5 ⟨vd, rfl, hl, hv⟩
    replace LL := hide (LL.out.trans hl)
    rw [← HM.out, HM1.out] at hv
    replace VA := hide (VA.out.later hl)
    replace VB := hide (VB.out.later hl)
    replace VC := hide (VC.out.later hl)
    have VD := hide hv
    clear hl hv
    have q1 := VA.out
    have q2 := VB.out
    have q3 := VC.out
    have q4 := VD.out
    obtain ⟨-, aa, ca, rfl, hca, -⟩ := q1
    obtain ⟨-, ab, cb, rfl, hcb, -⟩ := q2
    obtain ⟨-, ac, cc, rfl, hcc, -⟩ := q3
    obtain ⟨-, ad, cd, rfl, hcd, -⟩ := q4
    rw [LA.out] at VA hca ⊢
    rw [HSl.out] at VB hcb ⊢
    rw [LC.out] at VC hcc ⊢
    rw [HMl.out] at VD hcd ⊢
    have s1 : (0 : Nat) ≤ cb := by omega
    have s2 : (0 : Nat) ≤ cd := by omega
    have s3 : (0 : Int) ≤ (cb : Int) := by omega
    have s4 : (0 : Int) ≤ (cd : Int) := by omega
    have VX : Hid (Bs w5 (.slice ab 0 cb) (cutL S n)) := by rw [EA.out]; exact VB.out.cut7 0 (by omega)
    have VY : Hid (Bs w5 (.slice ad 0 cd) (cutL M n)) := by rw [EC.out]; exact VD.out.cut7 0 (by omega)
    have d1 : decide ((32 : Int) < ((0 : Nat) : Int)) = false := by simp <;> omega
    have d2 : decide ((ld : Int) < ((0 : Nat) : Int)) = false := by simp <;> omega
    go_wp2_with fail
    clear hca hcb hcc hcd VB VD HS HM HS1 HM1 HSl HMl EA EC LA LC
    have hc := fun r => ((Later.refl w5).drew.trans (later_rg w5.drew r))
    have ga := fun r => (VA.out.later (hc r)).str
    have gb := fun r => (VX.out.later (hc r)).str
    have gc := fun r => (VC.out.later (hc r)).str
    have gd := fun r => (VY.out.later (hc r)).str
    refine wp_region_sched ((List.range 37).map fun i => (i, false)) (by kernel_rfl) (by kernel_rfl) (by kernel_rfl) (by kernel_rfl) ?_
    simp only [List.range, List.range.loop, List.map, List.cons_append, List.nil_append]
    iterate 37 (refine wpS_mild rfl (fun K hK => ?_); go_simp; refine hK _ ?_; clear hK K)
    refine wpS_nil (fun wx hwx => ?_)
    have F := hide (LL.out.trans ((Later.refl w5).drew.trans hwx))
    clear hwx ga gb gc gd hc
    go_wp2
    go_ret
    refine ⟨?_, F.out⟩
    first | rfl | simp
  obtain ⟨m, rfl⟩ : ∃ m : Nat, n = m := ⟨n.toNat, by omega⟩
  have hm0 : (if (m : Int) < 0 then 0 else (m : Int)) = (m : Int) := if_neg (by omega)
  clear h0
  by_cases h1 : m ≤ 32
  · have EA := cutL_take9 S m (by omega)
    have c2 : (if (32 : Int) < (m : Int) then 32 else (m : Int)) = m := if_neg (by omega)
    by_cases h2 : m ≤ ld
    · have EC := cutL_take9 M m (by omega)
      have c4 : (if (ld : Int) < (m : Int) then (ld : Int) else (m : Int)) = m := if_neg (by omega)
      clear hSl hMl
      have LA : Hid ((cutL S (m : Int)).length = m) := by have z1 := HSl.out; have z2 := HMl.out; rw [Hid, EA, List.length_take] <;> omega
      have LC : Hid ((cutL M (m : Int)).length = m) := by have z1 := HSl.out; have z2 := HMl.out; rw [Hid, EC, List.length_take] <;> omega
      replace EA := hide EA
      replace EC := hide EC
      go_enter Try.func5, Try.ntmps5
      go_wp2_with fail
      refine (alive9_c _).mono ?_
      rintro e w1 ⟨rfl, hl⟩
      have LL := hide hl
      clear hl
      go_wp2_with fail
      refine (six9_c b (m : Int) HN.out _).mono ?_
      rintro e w2 ⟨va, rfl, hl, hv⟩
      replace LL := hide (LL.out.trans hl)
      rw [← HS.out] at hv
      have VA := hide hv
      clear hl hv
      go_wp2_with fail
      refine (six9_c b 1000 (by decide) _).mono ?_
      rintro e w3 ⟨vb, rfl, hl, hv⟩
      replace LL := hide (LL.out.trans hl)
      rw [← HS.out, HS1.out] at hv
      replace VA := hide (VA.out.later hl)
      have VB := hide hv
      clear hl hv
      go_wp2_with fail
      refine (luns9_c k (m : Int) HN.out _).mono ?_
      rintro e w4 ⟨vc, rfl, hl, hv⟩
      replace LL := hide (LL.out.trans hl)
      rw [← HM.out] at hv
      replace VA := hide (VA.out.later hl)
      replace VB := hide (VB.out.later hl)
      have VC := hide hv
      clear hl hv
      go_wp2_with fail
      refine (luns9_c k 1000 (by decide) _).mono ?_
      rintro e w5 ⟨vd, rfl, hl, hv⟩
      replace LL := hide (LL.out.trans hl)
      rw [← HM.out, HM1.out] at hv
      replace VA := hide (VA.out.later hl)
      replace VB := hide (VB.out.later hl)
      replace VC := hide (VC.out.later hl)
      have VD := hide hv
      clear hl hv
      have q1 := VA.out
      have q2 := VB.out
      have q3 := VC.out
      have q4 := VD.out
      obtain ⟨-, aa, ca, rfl, hca, -⟩ := q1
      obtain ⟨-, ab, cb, rfl, hcb, -⟩ := q2
      obtain ⟨-, ac, cc, rfl, hcc, -⟩ := q3
      obtain ⟨-, ad, cd, rfl, hcd, -⟩ := q4
      rw [LA.out] at VA hca ⊢
      rw [HSl.out] at VB hcb ⊢
      rw [LC.out] at VC hcc ⊢
      rw [HMl.out] at VD hcd ⊢
      have s1 : (m : Nat) ≤ cb := by omega
      have s2 : (m : Nat) ≤ cd := by omega
      have s3 : (m : Int) ≤ (cb : Int) := by omega
      have s4 : (m : Int) ≤ (cd : Int) := by omega
      have VX : Hid (Bs w5 (.slice ab m cb) (cutL S (m : Int))) := by rw [EA.out]; exact VB.out.cut7 m (by omega)
      have VY : Hid (Bs w5 (.slice ad m cd) (cutL M (m : Int))) := by rw [EC.out]; exact VD.out.cut7 m (by omega)
      have d1 : decide ((32 : Int) < ((m : Nat) : Int)) = false := by simp <;> omega
      have d2 : decide ((ld : Int) < ((m : Nat) : Int)) = false := by simp <;> omega
      go_wp2_with fail
      clear hca hcb hcc hcd VB VD HS HM HS1 HM1 HSl HMl EA EC LA LC
      have hc := fun r => ((Later.refl w5).drew.trans (later_rg w5.drew r))
      have ga := fun r => (VA.out.later (hc r)).str
      have gb := fun r => (VX.out.later (hc r)).str
      have gc := fun r => (VC.out.later (hc r)).str
      have gd := fun r => (VY.out.later (hc r)).str
      refine wp_region_sched ((List.range 37).map fun i => (i, false)) (by kernel_rfl) (by kernel_rfl) (by kernel_rfl) (by kernel_rfl) ?_
      simp only [List.range, List.range.loop, List.map, List.cons_append, List.nil_append]
      iterate 37 (refine wpS_mild rfl (fun K hK => ?_); go_simp; refine hK _ ?_; clear hK K)
      refine wpS_nil (fun wx hwx => ?_)
      have F := hide (LL.out.trans ((Later.refl w5).drew.trans hwx))
      clear hwx ga gb gc gd hc
      go_wp2
      go_ret
      refine ⟨?_, F.out⟩
      first | rfl | simp
    · have EC : cutL M (m : Int) = M.take ld := by rw [cutL_all9 M m (by omega) (by omega), List.take_of_length_le (by omega)]
      have c4 : (if (ld : Int) < (m : Int) then (ld : Int) else (m : Int)) = ld := if_pos (by omega)
      clear hSl hMl
      have LA : Hid ((cutL S (m : Int)).length = m) := by have z1 := HSl.out; have z2 := HMl.out; rw [Hid, EA, List.length_take] <;> omega
      have LC : Hid ((cutL M (m : Int)).length = ld) := by have z1 := HSl.out; have z2 := HMl.out; rw [Hid, EC, List.length_take] <;> omega
      replace EA := hide EA
      replace EC := hide EC
      go_enter Try.func5, Try.ntmps5
      go_wp2_with fail
      refine (alive9_c _).mono ?_
      rintro e w1 ⟨rfl, hl⟩
      have LL := hide hl
      clear hl
      go_wp2_with fail
      refine (six9_c b (m : Int) HN.out _).mono ?_
      rintro e w2 ⟨va, rfl, hl, hv⟩
      replace LL := hide (LL.out.trans hl)
      rw [← HS.out] at hv
      have VA := hide hv
      clear hl hv
      go_wp2_with fail
      refine (six9_c b 1000 (by decide) _).mono ?_
      rintro e w3 ⟨vb, rfl, hl, hv⟩
      replace LL := hide (LL.out.trans hl)
      rw [← HS.out, HS1.out] at hv
      replace VA := hide (VA.out.later hl)
      have VB := hide hv
      clear hl hv
      go_wp2_with fail
      refine (luns9_c k (m : Int) HN.out _).mono ?_
      rintro e w4 ⟨vc, rfl, hl, hv⟩
      replace LL := hide (LL.out.trans hl)
      rw [← HM.out] at hv
      replace VA := hide (VA.out.later hl)
      replace VB := hide (VB.out.later hl)
      have VC := hide hv
      clear hl hv
      go_wp2_with fail
      refine (luns9_c k 1000 (by decide) _).mono ?_
      rintro e w5 ⟨vd, rfl, hl, hv⟩
      replace LL := hide (LL.out.trans hl)
      rw [← HM.out, HM1.out] at hv
      replace VA := hide (VA.out.later hl)
      replace VB := hide (VB.out.later hl)
      replace VC := hide (VC.out.later hl)
      have VD := hide hv
      clear hl hv
      have q1 := VA.out
      have q2 := VB.out
      have q3 := VC.out
      have q4 := VD.out
      obtain ⟨-, aa, ca, rfl, hca, -⟩ := q1
      obtain ⟨-, ab, cb, rfl, hcb, -⟩ := q2
      obtain ⟨-, ac, cc, rfl, hcc, -⟩ := q3
      obtain ⟨-, ad, cd, rfl, hcd, -⟩ := q4
      rw [LA.out] at VA hca ⊢
      rw [HSl.out] at VB hcb ⊢
      rw [LC.out] at VC hcc ⊢
      rw [HMl.out] at VD hcd ⊢
      have s1 : (m : Nat) ≤ cb := by omega
      have s2 : (ld : Nat) ≤ cd := by omega
      have s3 : (m : Int) ≤ (cb : Int) := by omega
      have s4 : (ld : Int) ≤ (cd : Int) := by omega
      have VX : Hid (Bs w5 (.slice ab m cb) (cutL S (m : Int))) := by rw [EA.out]; exact VB.out.cut7 m (by omega)
      have VY : Hid (Bs w5 (.slice ad ld cd) (cutL M (m : Int))) := by rw [EC.out]; exact VD.out.cut7 ld (by omega)
      have d1 : decide ((32 : Int) < ((m : Nat) : Int)) = false := by simp <;> omega
      have d2 : decide ((ld : Int) < ((ld : Nat) : Int)) = false := by simp <;> omega
      go_wp2_with fail
      clear hca hcb hcc hcd VB VD HS HM HS1 HM1 HSl HMl EA EC LA LC
      have hc := fun r => ((Later.refl w5).drew.trans (later_rg w5.drew r))
      have ga := fun r => (VA.out.later (hc r)).str
      have gb := fun r => (VX.out.later (hc r)).str
      have gc := fun r => (VC.out.later (hc r)).str
      have gd := fun r => (VY.out.later (hc r)).str
      refine wp_region_sched ((List.range 37).map fun i => (i, false)) (by kernel_rfl) (by kernel_rfl) (by kernel_rfl) (by kernel_rfl) ?_
      simp only [List.range, List.range.loop, List.map, List.cons_append, List.nil_append]
      iterate 37 (refine wpS_mild rfl (fun K hK => ?_); go_simp; refine hK _ ?_; clear hK K)
      refine wpS_nil (fun wx hwx => ?_)
      have F := hide (LL.out.trans ((Later.refl w5).drew.trans hwx))
      clear hwx ga gb gc gd hc
      go_wp2
      go_ret
      refine ⟨?_, F.out⟩
      first | rfl | simp
  · have EA : cutL S (m : Int) = S.take 32 := by rw [cutL_all9 S m (by omega) (by omega), List.take_of_length_le (by omega)]
    have c2 : (if (32 : Int) < (m : Int) then 32 else (m : Int)) = 32 := if_pos (by omega)
    by_cases h2 : m ≤ ld
    · have EC := cutL_take9 M m (by omega)
      have c4 : (if (ld : Int) < (m : Int) then (ld : Int) else (m : Int)) = m := if_neg (by omega)
      clear hSl hMl
      have LA : Hid ((cutL S (m : Int)).length = 32) := by have z1 := HSl.out; have z2 := HMl.out; rw [Hid, EA, List.length_take] <;> omega
      have LC : Hid ((cutL M (m : Int)).length = m) := by have z1 := HSl.out; have z2 := HMl.out; rw [Hid, EC, List.length_take] <;> omega
      replace EA := hide EA
      replace EC := hide EC
      go_enter Try.func5, Try.ntmps5
      go_wp2_with fail
      refine (alive9_c _).mono ?_
      rintro e w1 ⟨rfl, hl⟩
      have LL := hide hl
      clear hl
      go_wp2_with fail
      refine (six9_c b (m : Int) HN.out _).mono ?_
      rintro e w2 ⟨va, rfl, hl, hv⟩
      replace LL := hide (LL.out.trans hl)
      rw [← HS.out] at hv
      have VA := hide hv
      clear hl hv
      go_wp2_with fail
      refine (six9_c b 1000 (by decide) _).mono ?_
      rintro e w3 ⟨vb, rfl, hl, hv⟩
      replace LL := hide (LL.out.trans hl)
      rw [← HS.out, HS1.out] at hv
      replace VA := hide (VA.out.later hl)
      have VB := hide hv
      clear hl hv
      go_wp2_with fail
      refine (luns9_c k (m : Int) HN.out _).mono ?_
      rintro e w4 ⟨vc, rfl, hl, hv⟩
      replace LL := hide (LL.out.trans hl)
      rw [← HM.out] at hv
      replace VA := hide (VA.out.later hl)
      replace VB := hide (VB.out.later hl)
      have VC := hide hv
      clear hl hv
      go_wp2_with fail
      refine (luns9_c k 1000 (by decide) _).mono ?_
      rintro e w5 ⟨vd, rfl, hl, hv⟩
      replace LL := hide (LL.out.trans hl)
      rw [← HM.out, HM1.out] at hv
      replace VA := hide (VA.out.later hl)
      replace VB := hide (VB.out.later hl)
      replace VC := hide (VC.out.later hl)
      have VD := hide hv
      clear hl hv
      have q1 := VA.out
      have q2 := VB.out
      have q3 := VC.out
      have q4 := VD.out
      obtain ⟨-, aa, ca, rfl, hca, -⟩ := q1
      obtain ⟨-, ab, cb, rfl, hcb, -⟩ := q2
      obtain ⟨-, ac, cc, rfl, hcc, -⟩ := q3
      obtain ⟨-, ad, cd, rfl, hcd, -⟩ := q4
      rw [LA.out] at VA hca ⊢
      rw [HSl.out] at VB hcb ⊢
      rw [LC.out] at VC hcc ⊢
      rw [HMl.out] at VD hcd ⊢
      have s1 : (32 : Nat) ≤ cb := by omega
      have s2 : (m : Nat) ≤ cd := by omega
      have s3 : (32 : Int) ≤ (cb : Int) := by omega
      have s4 : (m : Int) ≤ (cd : Int) := by omega
      have VX : Hid (Bs w5 (.slice ab 32 cb) (cutL S (m : Int))) := by rw [EA.out]; exact VB.out.cut7 32 (by omega)
      have VY : Hid (Bs w5 (.slice ad m cd) (cutL M (m : Int))) := by rw [EC.out]; exact VD.out.cut7 m (by omega)
      have d1 : decide ((32 : Int) < ((32 : Nat) : Int)) = false := by simp <;> omega
      have d2 : decide ((ld : Int) < ((m : Nat) : Int)) = false := by simp <;> omega
      go_wp2_with fail
      clear hca hcb hcc hcd VB VD HS HM HS1 HM1 HSl HMl EA EC LA LC
      have hc := fun r => ((Later.refl w5).drew.trans (later_rg w5.drew r))
      have ga := fun r => (VA.out.later (hc r)).str
      have gb := fun r => (VX.out.later (hc r)).str
      have gc := fun r => (VC.out.later (hc r)).str
      have gd := fun r => (VY.out.later (hc r)).str
      refine wp_region_sched ((List.range 37).map fun i => (i, false)) (by kernel_rfl) (by kernel_rfl) (by kernel_rfl) (by kernel_rfl) ?_
      simp only [List.range, List.range.loop, List.map, List.cons_append, List.nil_append]
      iterate 37 (refine wpS_mild rfl (fun K hK => ?_); go_simp; refine hK _ ?_; clear hK K)
      refine wpS_nil (fun wx hwx => ?_)
      have F := hide (LL.out.trans ((Later.refl w5).drew.trans hwx))
      clear hwx ga gb gc gd hc
      go_wp2
      go_ret
      refine ⟨?_, F.out⟩
      first | rfl | simp
    · have EC : cutL M (m : Int) = M.take ld := by rw [cutL_all9 M m (by omega) (by omega), List.take_of_length_le (by omega)]
      have c4 : (if (ld : Int) < (m : Int) then (ld : Int) else (m : Int)) = ld := if_pos (by omega)
      clear hSl hMl
      have LA : Hid ((cutL S (m : Int)).length = 32) := by have z1 := HSl.out; have z2 := HMl.out; rw [Hid, EA, List.length_take] <;> omega
      have LC : Hid ((cutL M (m : Int)).length = ld) := by have z1 := HSl.out; have z2 := HMl.out; rw [Hid, EC, List.length_take] <;> omega
      replace EA := hide EA
      replace EC := hide EC
      go_enter Try.func5, Try.ntmps5
      go_wp2_with fail
      refine (alive9_c _).mono ?_
      rintro e w1 ⟨rfl, hl⟩
      have LL := hide hl
      clear hl
      go_wp2_with fail
      refine (six9_c b (m : Int) HN.out _).mono ?_
      rintro e w2 ⟨va, rfl, hl, hv⟩
      replace LL := hide (LL.out.trans hl)
      rw [← HS.out] at hv
      have VA := hide hv
      clear hl hv
      go_wp2_with fail
      refine (six9_c b 1000 (by decide) _).mono ?_
      rintro e w3 ⟨vb, rfl, hl, hv⟩
      replace LL := hide (LL.out.trans hl)
      rw [← HS.out, HS1.out] at hv
      replace VA := hide (VA.out.later hl)
      have VB := hide hv
      clear hl hv
      go_wp2_with fail
      refine (luns9_c k (m : Int) HN.out _).mono ?_
      rintro e w4 ⟨vc, rfl, hl, hv⟩
      replace LL := hide (LL.out.trans hl)
      rw [← HM.out] at hv
      replace VA := hide (VA.out.later hl)
      replace VB := hide (VB.out.later hl)
      have VC := hide hv
      clear hl hv
      go_wp2_with fail
      refine (luns9_c k 1000 (by decide) _).mono ?_
      rintro e w5 ⟨vd, rfl, hl, hv⟩
      replace LL := hide (LL.out.trans hl)
      rw [← HM.out, HM1.out] at hv
      replace VA := hide (VA.out.later hl)
      replace VB := hide (VB.out.later hl)
      replace VC := hide (VC.out.later hl)
      have VD := hide hv
      clear hl hv
      have q1 := VA.out
      have q2 := VB.out
      have q3 := VC.out
      have q4 := VD.out
      obtain ⟨-, aa, ca, rfl, hca, -⟩ := q1
      obtain ⟨-, ab, cb, rfl, hcb, -⟩ := q2
      obtain ⟨-, ac, cc, rfl, hcc, -⟩ := q3
      obtain ⟨-, ad, cd, rfl, hcd, -⟩ := q4
      rw [LA.out] at VA hca ⊢
      rw [HSl.out] at VB hcb ⊢
      rw [LC.out] at VC hcc ⊢
      rw [HMl.out] at VD hcd ⊢
      have s1 : (32 : Nat) ≤ cb := by omega
      have s2 : (ld : Nat) ≤ cd := by omega
      have s3 : (32 : Int) ≤ (cb : Int) := by omega
      have s4 : (ld : Int) ≤ (cd : Int) := by omega
      have VX : Hid (Bs w5 (.slice ab 32 cb) (cutL S (m : Int))) := by rw [EA.out]; exact VB.out.cut7 32 (by omega)
      have VY : Hid (Bs w5 (.slice ad ld cd) (cutL M (m : Int))) := by rw [EC.out]; exact VD.out.cut7 ld (by omega)
      have d1 : decide ((32 : Int) < ((32 : Nat) : Int)) = false := by simp <;> omega
      have d2 : decide ((ld : Int) < ((ld : Nat) : Int)) = false := by simp <;> omega
      go_wp2_with fail
      clear hca hcb hcc hcd VB VD HS HM HS1 HM1 HSl HMl EA EC LA LC
      have hc := fun r => ((Later.refl w5).drew.trans (later_rg w5.drew r))
      have ga := fun r => (VA.out.later (hc r)).str
      have gb := fun r => (VX.out.later (hc r)).str
      have gc := fun r => (VC.out.later (hc r)).str
      have gd := fun r => (VY.out.later (hc r)).str
      refine wp_region_sched ((List.range 37).map fun i => (i, false)) (by kernel_rfl) (by kernel_rfl) (by kernel_rfl) (by kernel_rfl) ?_
      simp only [List.range, List.range.loop, List.map, List.cons_append, List.nil_append]
      iterate 37 (refine wpS_mild rfl (fun K hK => ?_); go_simp; refine hK _ ?_; clear hK K)
      refine wpS_nil (fun wx hwx => ?_)
      have F := hide (LL.out.trans ((Later.refl w5).drew.trans hwx))
      clear hwx ga gb gc gd hc
      go_wp2
      go_ret
      refine ⟨?_, F.out⟩
      first | rfl | simp
end Go.Proofs.Ytoflkbilkkfekaa
