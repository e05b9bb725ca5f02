import Derived.Test.YtfefnkeognccpaaR4
namespace Go.Proofs.Ytfefnkeognccpaa
open Go.ChangeShapes Go.WideShapes Go.ChangeAt Go.RowKit
set_option linter.unusedVariables false
set_option linter.unusedSimpArgs false

/-! The document's answers for lists of senses. -/
def hasB (L : List Sns) (s : Sns) : Bool := L.any (· == s)
set_option maxHeartbeats 1000000 in
theorem rhas_c {v : Value} {L : List Sns} (s : Sns) (w : World) (h : Sl w v L) :
    Calls Try.prog 24 #[v, sval s] w fun e w' => e = .returned (.bool (hasB L s)) ∧ Later w w' := by
  obtain ⟨h, hok⟩ := h
  obtain ⟨k, hk⟩ : ∃ k, k = L.length := ⟨_, rfl⟩
  rw [← hk] at h
  obtain ⟨ad, cap, rfl⟩ := h.shape
  have hkm := h.2.1
  unfold maxLen at hkm
  have HL := hide h
  have HK := hide hk
  clear h hk hok
  have BX0 := hide (Box.new w 23 #[.int .i64 s.1, .int .i64 s.2.1, .int .i64 s.2.2])
  have L0 := hide ((Later.refl w).alloc (.cells #[.int .i64 s.1, .int .i64 s.2.1, .int .i64 s.2.2] 23))
  go_enter Try.func24, Try.ntmps24
  go_wp2_with fail
  go_loopw [5] (fun i wr => ∃ q : Nat, q ≤ k ∧ i = .int .i64 q ∧ Hid (∀ j (hj : j < L.length), j < q → (L[j] == s) = false) ∧ Hid (Box wr w.heap.size 23 [.int .i64 s.1, .int .i64 s.2.1, .int .i64 s.2.2]) ∧ Hid (Later w wr)) (fun i _ => k - (intOf i).toNat)
  case atStart => exact ⟨0, Nat.zero_le _, rfl, fun _ _ h => by omega, BX0, L0⟩
  case round =>
    clear BX0 L0
    obtain ⟨q, hq, rfl, hall, hbx, hl⟩ := hrel
    by_cases hlt : q < k
    · obtain ⟨b, off, e, hr⟩ := (HL.out.later hl.out).lies? (by omega)
      subst e
      have hqL : q < L.length := by have := HK.out; omega
      have hat := sv_at L q hqL
      have c0 := hr _ _ hat.1
      have c1 := hr _ _ hat.2.1
      have c2 := hr _ _ hat.2.2
      have hyes : Hid ((L[q] == s) = true → hasB L s = true) := fun h => by
        rw [hasB, List.any_eq_true]; exact ⟨_, List.getElem_mem hqL, h⟩
      have hno : Hid ((L[q] == s) = false → ∀ j (hj : j < L.length), j < q + 1 → (L[j] == s) = false) := by
        intro h j hj hjq
        by_cases hjq' : j = q
        · subst hjq'; exact h
        · exact hall.out j hj (by omega)
      generalize L[q] = t at *
      clear hat hr hall
      rw [← Nat.add_assoc] at c1 c2
      have hc := fun r => ((Later.refl wr).drew.trans (later_rg wr.drew r))
      have a0 := fun r => (hc r).cellOf c0
      have a1 := fun r => (hc r).cellOf c1
      have a2 := fun r => (hc r).cellOf c2
      have x0 := fun r => (hbx.out.later (hc r)).cell 0
      have x1 := fun r => (hbx.out.later (hc r)).cell 1
      have x2 := fun r => (hbx.out.later (hc r)).cell 2
      go_wp2_with fail
      refine wp_region_sched ((List.range 6).map fun i => (i, false)) (by kernel_rfl) (by kernel_rfl) (by kernel_rfl) (by kernel_rfl) ?_
      simp only [List.range, List.range.loop, List.map]
      iterate 5 (refine wpS_mild rfl (fun K hK => ?_); go_simp; refine hK _ ?_; clear hK K)
      refine wpS_eqG rfl (by kernel_rfl) 23 _ (.tmp 15) (.tmp 16) rfl _ _ rfl rfl Try.guard_sense (t == s) (fun w => sense_eq t s w) ?_
      refine wpS_nil (fun wx hwx => ?_)
      have Lx := hide (hl.out.drew.trans hwx)
      have Bx := hide (Box.later hbx.out ((Later.refl wr).drew.trans hwx))
      clear a0 a1 a2 x0 x1 x2 c0 c1 c2 hc hwx hl hbx
      cases hts : (t == s) with
      | true =>
        rw [hts] at hyes
        go_wp2
        go_ret
        exact ⟨ret_bool (hyes.out (by simp)).symm, Lx.out⟩
      | false =>
        rw [hts] at hno
        go_wp2
        go_roundw
        case rel => exact ⟨q + 1, by omega, by go_num, hno.out (by simp), Bx, Lx⟩
        case measure => simp [intOf]; omega
    · go_wp2
      go_ret
      refine ⟨ret_bool ?_, hl.out⟩
      have hk := HK.out
      symm
      rw [hasB, List.any_eq_false]
      intro x hx
      obtain ⟨j, hj, rfl⟩ := List.mem_iff_getElem.1 hx
      simp [hall.out j hj (by omega)]
set_option maxHeartbeats 1000000 in
theorem rsame4_c {u v : Value} {L M : List Sns} (w : World) (hu : Sl w u L) (hv : Sl w v M) :
    Calls Try.prog 18 #[u, v] w fun e w' => e = .returned (.bool (L == M)) ∧ Later w w' := by
  obtain ⟨hu, hou⟩ := hu
  obtain ⟨hv, hov⟩ := hv
  obtain ⟨k, hk⟩ : ∃ k, k = L.length := ⟨_, rfl⟩
  obtain ⟨m, hm⟩ : ∃ m, m = M.length := ⟨_, rfl⟩
  rw [← hk] at hu
  rw [← hm] at hv
  obtain ⟨au, cu, rfl⟩ := hu.shape
  obtain ⟨av, cv, rfl⟩ := hv.shape
  have hkm := hu.2.1
  have hmm := hv.2.1
  unfold maxLen at hkm hmm
  have HU := hide hu
  have HV := hide hv
  have HK := hide hk
  have HMm := hide hm
  clear hu hv hk hm hou hov
  generalize hR : (L == M) = r
  have HR := hide hR
  clear hR
  by_cases hkne : k = m
  case neg =>
    have hb : ((k : Int) != (m : Int)) = true := by rw [bne_iff_ne]; omega
    have hrf : Hid (r = false) := by
      unfold Hid
      rw [← HR.out, beq_eq_false_iff_ne]
      intro h
      have h1 := HK.out
      have h2 := HMm.out
      rw [h] at h1
      omega
    clear HR
    go_enter Try.func18, Try.ntmps18
    go_wp2
    go_ret
    exact ⟨ret_bool hrf.out.symm, Later.refl w⟩
  subst hkne
  have hb : ((k : Int) != (k : Int)) = false := by simp
  go_enter Try.func18, Try.ntmps18
  go_wp2_with fail
  go_loopw [5] (fun i wr => ∃ q : Nat, q ≤ k ∧ i = .int .i64 q ∧ Hid (L.take q = M.take q) ∧ Hid (Later w wr)) (fun i _ => k - (intOf i).toNat)
  case atStart => exact ⟨0, Nat.zero_le _, rfl, by simp [Hid], Later.refl w⟩
  case round =>
    obtain ⟨q, hq, rfl, hall, hl⟩ := hrel
    by_cases hlt : q < k
    · obtain ⟨b, off, e, hr⟩ := (HU.out.later hl.out).lies? (by omega)
      subst e
      obtain ⟨b2, off2, e, hr2⟩ := (HV.out.later hl.out).lies? (by omega)
      subst e
      have hqL : q < L.length := by have := HK.out; omega
      have hqM : q < M.length := by have := HMm.out; omega
      have hat := sv_at L q hqL
      have c0 := hr _ _ hat.1
      have c1 := hr _ _ hat.2.1
      have c2 := hr _ _ hat.2.2
      have hat2 := sv_at M q hqM
      have e0 := hr2 _ _ hat2.1
      have e1 := hr2 _ _ hat2.2.1
      have e2 := hr2 _ _ hat2.2.2
      have hyes : Hid ((L[q] == M[q]) = true → L.take (q + 1) = M.take (q + 1)) := fun h => by
        rw [List.take_succ_eq_append_getElem hqL, List.take_succ_eq_append_getElem hqM, hall.out, eq_of_beq h]
      have hno : Hid ((L[q] == M[q]) = false → r = false) := fun h => by
        rw [← HR.out, beq_eq_false_iff_ne]
        intro h2
        subst h2
        simp at h
      generalize L[q] = t at *
      generalize M[q] = t2 at *
      clear hat hat2 hr hr2 hall
      rw [← Nat.add_assoc] at c1 c2 e1 e2
      have hc := fun r => ((Later.refl wr).drew.trans (later_rg wr.drew r))
      have a0 := fun r => (hc r).cellOf c0
      have a1 := fun r => (hc r).cellOf c1
      have a2 := fun r => (hc r).cellOf c2
      have x0 := fun r => (hc r).cellOf e0
      have x1 := fun r => (hc r).cellOf e1
      have x2 := fun r => (hc r).cellOf e2
      go_wp2_with fail
      refine wp_region_sched ((List.range 9).map fun i => (i, false)) (by kernel_rfl) (by kernel_rfl) (by kernel_rfl) (by kernel_rfl) ?_
      simp only [List.range, List.range.loop, List.map]
      iterate 8 (refine wpS_mild rfl (fun K hK => ?_); go_simp; refine hK _ ?_; clear hK K)
      refine wpS_neqG rfl (by kernel_rfl) 23 _ (.tmp 20) (.tmp 24) rfl _ _ rfl rfl Try.guard_sense (t == t2) (fun w => sense_eq t t2 w) ?_
      refine wpS_nil (fun wx hwx => ?_)
      have Lx := hide (hl.out.drew.trans hwx)
      clear a0 a1 a2 x0 x1 x2 c0 c1 c2 e0 e1 e2 hc hwx hl
      cases hts : (t == t2) with
      | true =>
        rw [hts] at hyes
        go_wp2
        go_roundw
        case rel => exact ⟨q + 1, by omega, by go_num, hyes.out (by simp), Lx⟩
        case measure => simp [intOf]; omega
      | false =>
        rw [hts] at hno
        go_wp2
        go_ret
        exact ⟨ret_bool (hno.out (by simp)).symm, Lx.out⟩
    · go_wp2
      go_ret
      refine ⟨ret_bool ?_, hl.out⟩
      have hk := HK.out
      have hm := HMm.out
      have := hall.out
      rw [List.take_of_length_le (by omega), List.take_of_length_le (by omega)] at this
      rw [← HR.out, this]
      simp
end Go.Proofs.Ytfefnkeognccpaa
