import Derived.Test.YtfkojecipbjdpaaL1Bits
namespace Go.Proofs.Ytfkojecipbjdpaa
open Go.ChangeShapes Go.WideShapes Go.ChangeAt Go.RowKit
set_option linter.unusedVariables false
set_option linter.unusedSimpArgs false

theorem ext64 {a b : Nat} (h : ∀ i, a.testBit i = b.testBit i) : a = b := Nat.eq_of_testBit_eq h
theorem bits_set (x y f n : Nat) : bitsN (setN x f n y) f n = bitsN y 0 n := by
  apply Nat.eq_of_testBit_eq
  intro i
  rw [bitsN_bit, bitsN_bit, setN_bit]
  by_cases h : i < n
  · simp [h]
  · simp [h]
theorem low_set (x y f n : Nat) : bitsN (setN x f n y) 0 f = bitsN x 0 f := by
  apply Nat.eq_of_testBit_eq
  intro i
  rw [bitsN_bit, bitsN_bit, setN_bit]
  by_cases h : i < f
  · simp [h, show ¬ f ≤ i from by omega]
  · simp [h]
theorem high_set (x y f n m : Nat) : bitsN (setN x f n y) (f + n) m = bitsN x (f + n) m := by
  apply Nat.eq_of_testBit_eq
  intro i
  rw [bitsN_bit, bitsN_bit, setN_bit, if_neg (by omega)]
theorem set_back (x y f n : Nat) : setN (setN x f n y) f n (bitsN x f n) = x := by
  apply Nat.eq_of_testBit_eq
  intro i
  rw [setN_bit, setN_bit, bitsN_bit]
  by_cases h : f ≤ i ∧ i < f + n
  · rw [if_pos h]; simp [show i - f < n from by omega, show f + (i - f) = i from by omega]
  · rw [if_neg h, if_neg h]
theorem areB_mk {f n : Nat} (h1 : 1 ≤ n) (h2 : f + n ≤ 64) : areB (f : Int) (n : Int) = true := by simp [areB]; omega
theorem sets_facts (x y f n : Nat) (h1 : 1 ≤ n) (h2 : f + n ≤ 64) (hx : x ≤ 18446744073709551615) : ∃ z : Nat, setI x f n y = z ∧ z ≤ 18446744073709551615 ∧ bitsI z f n = bitsI y 0 n ∧
    (f ≠ 0 → bitsI z 0 f = bitsI x 0 f) ∧ (f + n < 64 → bitsI z ((f : Int) + (n : Int)) (64 - (f : Int) - (n : Int)) = bitsI x ((f : Int) + (n : Int)) (64 - (f : Int) - (n : Int))) ∧ setI z f n (bitsI x f n) = x := by
  refine ⟨setN x f n y, ?_, setN_le64 x f n y h2 hx, ?_, fun hf => ?_, fun hfn => ?_, ?_⟩
  · simp [setI, areB_mk h1 h2]
  · have e := areB_mk (f := 0) h1 (by omega)
    simp only [Int.natCast_zero] at e
    simp [bitsI, areB_mk h1 h2, e, bits_set]
  · have e := areB_mk (f := 0) (n := f) (by omega) (by omega)
    simp only [Int.natCast_zero] at e
    simp [bitsI, e, low_set]
  · have e := areB_mk (f := f + n) (n := 64 - f - n) (by omega) (by omega)
    rw [show (((f + n : Nat)) : Int) = (f : Int) + (n : Int) from by omega, show ((64 - f - n : Nat) : Int) = 64 - (f : Int) - (n : Int) from by omega] at e
    simp only [bitsI, e, if_true]
    rw [show ((f : Int) + (n : Int)).toNat = f + n from by omega]
    exact high_set _ _ _ _ _
  · simp [setI, bitsI, areB_mk h1 h2, set_back]

set_option maxHeartbeats 1000000 in
theorem numberSets_walk (v0 v1 v2 : Value) (w : World) (h0 : RInt .u64 v0) (h1 : RInt .u64 v1) (h2 : RArr .u8 2 v2) :
    Calls Try.prog 7 #[v0, v1, v2] w fun e w' => e = .returned (.bool true) ∧ Below w.heap.size w w' := by
  obtain ⟨x, rfl, hx⟩ := h0.u64
  obtain ⟨y, rfl, hy⟩ := h1.u64
  obtain ⟨f', n', rfl, wf, wn⟩ := h2.two
  have hf := bounds_u8 wf
  have hn := bounds_u8 wn
  clear h0 h1 h2 wf wn
  have hc0 : (w.alloc (.cells #[.int .u8 f', .int .u8 n'] 35)).cell? ⟨w.heap.size, 0, none⟩ = some (.int .u8 f') := cell_of_row _ w.heap.size 0 _ _ (0, 0) (heap_alloc_new w _)
  have hc1 : (w.alloc (.cells #[.int .u8 f', .int .u8 n'] 35)).cell? ⟨w.heap.size, 1, none⟩ = some (.int .u8 n') := cell_of_row _ w.heap.size 1 _ _ (0, 0) (heap_alloc_new w _)
  have hl0 : Later w (w.alloc (.cells #[.int .u8 f', .int .u8 n'] 35)) := (Below.refl _ _).alloc (Nat.le_refl _) _
  have HL0 := hide hl0
  have Hc0 := hide hc0
  have Hc1 := hide hc1
  clear hl0 hc0 hc1
  obtain ⟨f, rfl⟩ := Int.eq_ofNat_of_zero_le hf.1
  obtain ⟨n, rfl⟩ := Int.eq_ofNat_of_zero_le hn.1
  go_enter Try.func7, Try.ntmps7
  go_wp2_with fail
  refine (alive_c _ _ (Nat.le_refl _)).mono ?_
  rintro e w1 ⟨rfl, hb1⟩
  have hr0 := cell_later Hc0.out hb1
  have hr1 := cell_later Hc1.out hb1
  have Hb1 := hide (HL0.out.trans hb1)
  clear hb1 Hc0 Hc1 HL0
  go_wp2_with fail
  go_quiet (fail)
  obtain ⟨F, hF, hF64⟩ : ∃ F : Nat, (f : Int) % 64 = F ∧ F < 64 := ⟨f % 64, by omega, by omega⟩
  obtain ⟨M, hM, hM1, hM64⟩ : ∃ M : Nat, 1 + (n : Int) % 64 = M ∧ 1 ≤ M ∧ M ≤ 64 := ⟨1 + n % 64, by omega, by omega, by omega⟩
  simp only [hF, hM]
  clear hF hM hf hn hr0 hr1
  by_cases hfm : 64 < F + M
  · go_wp2
    go_ret
    exact ⟨rfl, Hb1.out.drewN _⟩
  · obtain ⟨z, ez, hz, eA, eL, eH, eB⟩ := sets_facts x y F M hM1 (by omega) hx
    have hbx := bitsI_le x F M
    by_cases hF0 : F = 0
    · have hb0 : ((F : Int) == 0) = true := by simpa using hF0
      have H0 := hide hF0
      clear eL hF0
      by_cases h64 : F + M = 64
      · have hb64 : ((F : Int) + (M : Int) == 64) = true := by simp; omega
        clear eH h64
        go_wp2_with (first
          | (go_at_call 20; refine (set_c _ _ _ _ _ ?_ ?_).mono ?_; assumption; assumption; rintro e w2 ⟨rfl, m2, rfl⟩)
          | (go_at_call 18; refine (bits_c _ _ _ _ ?_).mono ?_; assumption; rintro e w3 ⟨rfl, m3, rfl⟩))
        go_ret
        exact ⟨rfl, Hb1.out.drewN _⟩
      · have hb64 : ((F : Int) + (M : Int) == 64) = false := by simp; omega
        have eH' := eH (by omega)
        clear eH h64
        go_wp2_with (first
          | (go_at_call 20; refine (set_c _ _ _ _ _ ?_ ?_).mono ?_; assumption; assumption; rintro e w2 ⟨rfl, m2, rfl⟩)
          | (go_at_call 18; refine (bits_c _ _ _ _ ?_).mono ?_; assumption; rintro e w3 ⟨rfl, m3, rfl⟩))
        go_ret
        exact ⟨rfl, Hb1.out.drewN _⟩
    · have hb0 : ((F : Int) == 0) = false := by simpa using hF0
      have eL' := eL hF0
      clear eL hF0
      by_cases h64 : F + M = 64
      · have hb64 : ((F : Int) + (M : Int) == 64) = true := by simp; omega
        clear eH h64
        go_wp2_with (first
          | (go_at_call 20; refine (set_c _ _ _ _ _ ?_ ?_).mono ?_; assumption; assumption; rintro e w2 ⟨rfl, m2, rfl⟩)
          | (go_at_call 18; refine (bits_c _ _ _ _ ?_).mono ?_; assumption; rintro e w3 ⟨rfl, m3, rfl⟩))
        go_ret
        exact ⟨rfl, Hb1.out.drewN _⟩
      · have hb64 : ((F : Int) + (M : Int) == 64) = false := by simp; omega
        have eH' := eH (by omega)
        clear eH h64
        go_wp2_with (first
          | (go_at_call 20; refine (set_c _ _ _ _ _ ?_ ?_).mono ?_; assumption; assumption; rintro e w2 ⟨rfl, m2, rfl⟩)
          | (go_at_call 18; refine (bits_c _ _ _ _ ?_).mono ?_; assumption; rintro e w3 ⟨rfl, m3, rfl⟩))
        go_ret
        exact ⟨rfl, Hb1.out.drewN _⟩
end Go.Proofs.Ytfkojecipbjdpaa
