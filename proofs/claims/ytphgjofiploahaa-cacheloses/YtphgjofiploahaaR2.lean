import Derived.Test.YtphgjofiploahaaRow
namespace Go.Proofs.Ytphgjofiploahaa
open Go.ChangeShapes Go.WideShapes Go.ChangeAt Go.RowKit
set_option linter.unusedVariables false
set_option linter.unusedSimpArgs false

def withinB (c : Int) (at_ : Nat) (n : Int) : Bool := decide (0 ≤ n ∧ n ≤ c ∧ (at_ : Int) ≤ c - n)
def partB (l : List UInt8) (a k : Nat) : List UInt8 := seg l a k ++ List.replicate (64 - k) 0
theorem partB_length (l : List UInt8) (a k : Nat) (h : k ≤ 64) (ha : a + 64 ≤ l.length) : (partB l a k).length = 64 := by simp [partB, seg_length l a k (by omega)]; omega
theorem partB_set (l : List UInt8) (a k : Nat) (h : k < 64) (ha : a + 64 ≤ l.length) : partB l a (k + 1) = (partB l a k).set k (l[a + k]'(by omega)) := by
  unfold partB
  have hs := seg_length l a k (by omega)
  rw [List.set_append_right _ _ (by omega), hs, Nat.sub_self, seg_snoc l a k (by omega)]
  obtain ⟨m, hm⟩ : ∃ m, 64 - k = m + 1 := ⟨63 - k, by omega⟩
  rw [hm, show 64 - (k + 1) = m from by omega, List.replicate_succ, List.set_cons_zero]
  simp
theorem partB_all (l : List UInt8) (a : Nat) : partB l a 64 = seg l a 64 := by simp [partB]
theorem partB_zero (l : List UInt8) (a : Nat) : partB l a 0 = List.replicate 64 0 := by simp [partB, seg_zero]

theorem Try.info_block : (Try.prog.info? 27).map (·.size) = some 64 := by kernel_rfl
theorem zeros64 : (bv (List.replicate 64 0)) = List.replicate 64 (Value.int .u8 0) := bv_replicate 64

theorem rsame_len (aa ab : Option Addr) (n m ca cb : Nat) (w : World) (hn : n ≤ maxLen) (hm : m ≤ maxLen) (hne : n ≠ m) :
    Calls Try.prog 18 #[.slice aa n ca, .slice ab m cb] w fun e w' => e = .returned (.bool false) ∧ w' = w := by
  unfold maxLen at hn hm
  have hb : ((n : Int) != (m : Int)) = true := by rw [bne_iff_ne]; omega
  go_enter Try.func18, Try.ntmps18
  go_wp2
  go_ret
  exact ⟨rfl, rfl⟩
theorem rsame_nil (aa ab : Option Addr) (ca cb : Nat) (w : World) :
    Calls Try.prog 18 #[.slice aa 0 ca, .slice ab 0 cb] w fun e w' => e = .returned (.bool true) ∧ w' = w := by
  go_enter Try.func18, Try.ntmps18
  go_wp2
  refine wp_loop_rounds 1 ?_
  rw [rounds_succ]
  go_wp2
  go_ret
  exact ⟨rfl, rfl⟩

set_option maxHeartbeats 1000000 in
theorem rsame_yes (ba oa bb ob n ca cb : Nat) (F G : List UInt8) (w : World) (hn : n ≤ maxLen) (hF : F.length = n * 64) (hG : G.length = n * 64) (ha : w.rangeAt ba oa (bv F)) (hb : w.rangeAt bb ob (bv G)) :
    Calls Try.prog 18 #[.slice (some ⟨ba, oa, none⟩) n ca, .slice (some ⟨bb, ob, none⟩) n cb] w fun e w' => e = .returned (.bool (F == G)) ∧ Later w w' := by
  unfold maxLen at hn
  have hne : ((n : Int) != (n : Int)) = false := by simp
  have Ha := hide ha
  have Hb := hide hb
  clear ha hb
  go_enter Try.func18, Try.ntmps18
  go_wp2
  go_loopw [5] (fun i wr => ∃ k : Nat, k ≤ n ∧ i = .int .i64 k ∧ Hid (F.take (k * 64) = G.take (k * 64)) ∧ Hid (Later w wr)) (fun i _ => n - (intOf i).toNat)
  case atStart => exact ⟨0, Nat.zero_le _, rfl, by simp [Hid], Later.refl w⟩
  case round =>
    obtain ⟨k, hk, rfl, he, hl⟩ := hrel
    by_cases hlt : k < n
    · have hFk := hide (seg_length F (k * 64) 64 (by omega))
      have hGk := hide (seg_length G (k * 64) 64 (by omega))
      have ra := hide (by have := range_part (hl.out.range Ha.out) (k * 64) 64; rwa [bv_part] at this)
      have rb := hide (by have := range_part (hl.out.range Hb.out) (k * 64) 64; rwa [bv_part] at this)
      have heq := hide (fun w => bytes_eq (P := Try.prog) 27 5 64 Try.underlying27 Try.underlying5 (by kernel_rfl) (seg F (k * 64) 64) (seg G (k * 64) 64) hFk.out hGk.out w)
      go_wp2_with fail
      refine wp_region_sched ((List.range 9).map fun i => (i, false)) (by kernel_rfl) (by kernel_rfl) (by kernel_rfl) (by kernel_rfl) ?_
      simp only [List.range, List.range.loop, List.map]
      iterate 3 (refine wpS_mild rfl (fun K hK => ?_); go_simp; refine hK _ ?_; clear hK K)
      refine wpS_load rfl rfl 27 (.tmp 19) rfl ba (oa + k * 64) rfl (bv (seg F (k * 64) 64)) _ ((World.rangeAt_drew _ _ _ _).2 ra.out) Try.underlying27 rfl (by rw [Try.info_block, bv_length, hFk.out]) ?_
      iterate 3 (refine wpS_mild rfl (fun K hK => ?_); go_simp; refine hK _ ?_; clear hK K)
      refine wpS_load rfl rfl 27 (.tmp 23) rfl bb (ob + k * 64) rfl (bv (seg G (k * 64) 64)) _ ((World.rangeAt_drew _ _ _ _).2 rb.out) Try.underlying27 rfl (by rw [Try.info_block, bv_length, hGk.out]) ?_
      have heq' := fun p => heq.out (rg wr.drew p)
      iterate 1 (refine wpS_mild rfl (fun K hK => ?_); go_simp; refine hK _ ?_; clear hK K)
      clear heq' ra rb
      refine wpS_nil (fun wx hwx => ?_)
      have hlx := hide (hl.out.drew.trans hwx)
      have hstep := hide (And.intro (take_snoc_seg F (k * 64) 64) (take_snoc_seg G (k * 64) 64))
      clear hwx hl heq hFk hGk
      generalize hX : seg F (k * 64) 64 = X at *
      generalize hY : seg G (k * 64) 64 = Y at *
      have HX := hide hX
      have HY := hide hY
      clear hX hY
      by_cases hxy : X = Y
      · have hbq : (!(X == Y)) = false := by simpa using hxy
        have Hxy := hide hxy
        rw [hbq]
        clear hxy hbq
        go_wp2
        go_roundw
        case rel =>
          refine ⟨k + 1, by omega, by go_num, ?_, hlx⟩
          unfold Hid
          rw [show (k + 1) * 64 = k * 64 + 64 from by omega, hstep.out.1, hstep.out.2, he.out, Hxy.out]
        case measure => simp [intOf]; omega
      · have hbq : (!(X == Y)) = true := by simpa using hxy
        have Hxy := hide hxy
        rw [hbq]
        clear hxy hbq
        go_wp2
        go_ret
        refine ⟨ret_bool ?_, hlx.out⟩
        symm
        rw [beq_eq_false_iff_ne]
        intro e
        exact Hxy.out (by rw [← HX.out, ← HY.out, e])
    · have hkn : Hid (k = n) := by unfold Hid; omega
      go_wp2
      go_ret
      refine ⟨ret_bool ?_, hl.out⟩
      symm
      rw [beq_iff_eq]
      have := he.out
      rwa [hkn.out, List.take_of_length_le (by omega), List.take_of_length_le (by omega)] at this
theorem rsame_c {va vb : Value} {n m : Nat} {F G : List UInt8} (w : World) (ha : Rw 64 w va n (bv F)) (hb : Rw 64 w vb m (bv G)) :
    Calls Try.prog 18 #[va, vb] w fun e w' => e = .returned (.bool (F == G)) ∧ Later w w' := by
  obtain ⟨l1, m1, aa, ca, rfl, _, h1⟩ := ha
  obtain ⟨l2, m2, ab, cb, rfl, _, h2⟩ := hb
  rw [bv_length] at l1 l2
  by_cases hnm : n = m
  · subst hnm
    rcases h1 with rfl | ⟨b1, o1, rfl, r1⟩
    · have e1 : F = [] := List.eq_nil_of_length_eq_zero (by omega)
      have e2 : G = [] := List.eq_nil_of_length_eq_zero (by omega)
      subst e1 e2
      exact (rsame_nil aa ab ca cb w).mono fun e w' ⟨he, hw⟩ => ⟨he, by rw [hw]; exact Later.refl w⟩
    · rcases h2 with rfl | ⟨b2, o2, rfl, r2⟩
      · have e1 : F = [] := List.eq_nil_of_length_eq_zero (by omega)
        have e2 : G = [] := List.eq_nil_of_length_eq_zero (by omega)
        subst e1 e2
        exact (rsame_nil _ ab ca cb w).mono fun e w' ⟨he, hw⟩ => ⟨he, by rw [hw]; exact Later.refl w⟩
      · exact rsame_yes b1 o1 b2 o2 n ca cb F G w m1 l1 l2 r1 r2
  · refine (rsame_len aa ab n m ca cb w m1 m2 hnm).mono fun e w' ⟨he, hw⟩ => ⟨?_, by rw [hw]; exact Later.refl w⟩
    rw [he]
    refine ret_bool ?_
    symm
    rw [beq_eq_false_iff_ne]
    intro e
    rw [e] at l1
    omega
end Go.Proofs.Ytphgjofiploahaa
