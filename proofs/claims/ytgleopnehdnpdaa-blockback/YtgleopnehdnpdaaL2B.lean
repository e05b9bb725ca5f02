import Derived.Test.YtgleopnehdnpdaaL2A
namespace Go.Proofs.Ytgleopnehdnpdaa
open Go.ChangeShapes Go.WideShapes Go.ChangeAt Go.RowKit
set_option linter.unusedVariables false
set_option linter.unusedSimpArgs false

theorem Bs.small {v : Value} {l : List UInt8} {w : World} (h : Bs w v l) : l.length ≤ 9223372036854775807 := by have := h.1; unfold maxLen at this; omega
theorem beq_self_bytes (l : List UInt8) : (l == l) = true := by simp

set_option maxHeartbeats 1000000 in
theorem blockWrites_walk (halive : ∀ w : World, Calls Try.prog 8 #[] w fun e w' => e = .returned (.bool true) ∧ Later w w') (v0 v1 v2 : Value) (w : World) (h0 : RBlocks w v0) (h1 : RInt .u64 v1) (h2 : RBytes w v2) :
    Calls Try.prog 4 #[v0, v1, v2] w fun e w' => e = .returned (.bool true) ∧ Below w.heap.size w w' := by
  obtain ⟨len, F, hr⟩ := h0
  have Hr := hide hr
  have hsm := hr.small
  obtain ⟨ad, cap, rfl⟩ := hr.shape
  obtain ⟨a, ha, rfl⟩ : ∃ a : Nat, a ≤ 18446744073709551615 ∧ v1 = .int .u64 (a : Int) := by
    obtain ⟨x, rfl, wx⟩ := h1
    have hx := bounds_u64 wx
    obtain ⟨y, rfl⟩ := Int.eq_ofNat_of_zero_le hx.1
    exact ⟨y, by omega, rfl⟩
  obtain ⟨l, hb⟩ := h2
  have Hb := hide hb
  have hsb := hb.small
  obtain ⟨lb, hlb⟩ : ∃ n : Nat, n = l.length := ⟨_, rfl⟩
  obtain ⟨adb, capb, rfl⟩ : ∃ a c, v2 = .slice a lb c := by obtain ⟨_, a', c', e, _⟩ := hb; exact ⟨a', c', by rw [e, hlb]⟩
  have Halive := hide halive
  have HLB := hide hlb
  rw [← hlb] at hsb
  clear hr h1 hb halive hlb
  obtain ⟨s, hs⟩ : ∃ s : ByteArray, s = ⟨(l.drop (l.length / 64 * 64)).toArray⟩ := ⟨_, rfl⟩
  have HS := hide hs
  clear hs
  go_enter Try.func4, Try.ntmps4
  go_wp2_with fail
  refine (Halive.out w).mono ?_
  rintro e w1 ⟨rfl, hl1⟩
  have L1 := hide hl1
  clear hl1
  by_cases h70 : 70 < len
  · go_wp2
    go_ret
    exact ⟨rfl, L1.out⟩
  by_cases h5 : 5000 < lb
  · go_wp2
    go_ret
    exact ⟨rfl, L1.out⟩
  go_wp2_with fail
  refine (rcopy_b _ (Hr.out.later L1.out) (by omega)).mono ?_
  rintro e w2 ⟨v2, rfl, hl2, hb2⟩
  have L2 := hide (L1.out.trans hl2)
  have B2 := hide hb2
  clear hl2 hb2 L1
  go_wp2_with fail
  refine (bwrite_c a _ B2.out (Hb.out.below L2.out (Nat.le_refl _)) ha (by have := HLB.out; omega)).mono ?_
  rintro e w3 ⟨v3, rfl, hl3, hb3⟩
  have L3 := hide (L2.out.trans hl3)
  have K3 := hide (B2.out.later hl3)
  have B3 := hide hb3
  clear hl3 hb3 L2 B2
  go_wp2_with fail
  refine (rwrite_b a _ (Hr.out.later L3.out) (Hb.out.below L3.out (Nat.le_refl _)) ha).mono ?_
  rintro e w4 ⟨v4, rfl, hl4, hb4⟩
  have L4 := hide (L3.out.trans hl4)
  have K4 := hide (K3.out.later hl4)
  have M4 := hide (B3.out.later hl4)
  have N4 := hide hb4
  clear hl4 hb4 L3 K3 B3
  go_wp2_with fail
  refine (bsplit_c _ (Hb.out.below L4.out (Nat.le_refl _)) (by have := HLB.out; omega)).mono ?_
  rintro e w5 ⟨v5, r5, rfl, hl5, hb5, hr5⟩
  have L5 := hide (L4.out.trans hl5)
  have K5 := hide (K4.out.later hl5)
  have M5 := hide (M4.out.later hl5)
  have N5 := hide (N4.out.later hl5)
  have X5 := hide hb5
  have Y5 := hide hr5
  clear hl5 hb5 hr5 L4 K4 M4 N4
  go_wp2_with fail
  refine (rsplit_b _ (Hb.out.below L5.out (Nat.le_refl _)) (by have := HLB.out; omega)).mono ?_
  rintro e w6 ⟨v6, r6, rfl, hl6, hb6, hr6⟩
  have L6 := hide (L5.out.trans hl6)
  have K6 := hide (K5.out.later hl6)
  have M6 := hide (M5.out.later hl6)
  have N6 := hide (N5.out.later hl6)
  have X6 := hide (X5.out.later hl6)
  have Y6 := hide (Y5.out.below hl6 (Nat.le_refl _))
  have U6 := hide hb6
  have V6 := hide hr6
  clear hl6 hb6 hr6 L5 K5 M5 N5 X5 Y5
  go_wp2_with fail
  refine (bsame_c _ M6.out N6.out).mono ?_
  rintro e w7 ⟨rfl, hl7⟩
  have L7 := hide (L6.out.trans hl7)
  have K7 := hide (K6.out.later hl7)
  have M7 := hide (M6.out.later hl7)
  have N7 := hide (N6.out.later hl7)
  have X7 := hide (X6.out.later hl7)
  have Y7 := hide (Y6.out.below hl7 (Nat.le_refl _))
  have U7 := hide (U6.out.later hl7)
  have V7 := hide (V6.out.below hl7 (Nat.le_refl _))
  clear hl7 L6 K6 M6 N6 X6 Y6 U6 V6
  rw [beq_self_bytes]
  go_wp2_with fail
  refine (rsame_c _ M7.out N7.out).mono ?_
  rintro e w8 ⟨rfl, hl8⟩
  have L8 := hide (L7.out.trans hl8)
  have K8 := hide (K7.out.later hl8)
  have M8 := hide (M7.out.later hl8)
  have N8 := hide (N7.out.later hl8)
  have X8 := hide (X7.out.later hl8)
  have Y8 := hide (Y7.out.below hl8 (Nat.le_refl _))
  have U8 := hide (U7.out.later hl8)
  have V8 := hide (V7.out.below hl8 (Nat.le_refl _))
  clear hl8 L7 K7 M7 N7 X7 Y7 U7 V7
  rw [beq_self_bytes]
  go_wp2_with fail
  refine (rsame_c _ M8.out N8.out).mono ?_
  rintro e w9 ⟨rfl, hl9⟩
  have L9 := hide (L8.out.trans hl9)
  have K9 := hide (K8.out.later hl9)
  have X9 := hide (X8.out.later hl9)
  have Y9 := hide (Y8.out.below hl9 (Nat.le_refl _))
  have U9 := hide (U8.out.later hl9)
  have V9 := hide (V8.out.below hl9 (Nat.le_refl _))
  clear hl9 L8 K8 M8 N8 X8 Y8 U8 V8
  rw [beq_self_bytes]
  go_wp2_with fail
  refine (rsame_c _ K9.out (Hr.out.later L9.out)).mono ?_
  rintro e wa ⟨rfl, hla⟩
  have La := hide (L9.out.trans hla)
  have Xa := hide (X9.out.later hla)
  have Ya := hide (Y9.out.below hla (Nat.le_refl _))
  have Ua := hide (U9.out.later hla)
  have Va := hide (V9.out.below hla (Nat.le_refl _))
  clear hla L9 K9 X9 Y9 U9 V9
  rw [beq_self_bytes]
  go_wp2_with fail
  refine (rsame_c _ Xa.out Ua.out).mono ?_
  rintro e wb ⟨rfl, hlb⟩
  have Lb := hide (La.out.trans hlb)
  have hc1 := Bs.toStr HS.out (Ya.out.below hlb (Nat.le_refl _))
  have hc2 := Bs.toStr HS.out (Va.out.below hlb (Nat.le_refl _))
  clear hlb La Xa Ya Ua Va
  rw [beq_self_bytes]
  go_wp2_with fail
  go_ret
  exact ⟨rfl, Lb.out⟩
end Go.Proofs.Ytgleopnehdnpdaa
