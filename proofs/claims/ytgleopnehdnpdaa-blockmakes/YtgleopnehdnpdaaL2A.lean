import Derived.Test.YtgleopnehdnpdaaP2
import Derived.Test.YtgleopnehdnpdaaOpn2
namespace Go.Proofs.Ytgleopnehdnpdaa
open Go.ChangeShapes Go.WideShapes Go.ChangeAt Go.RowKit
set_option linter.unusedVariables false
set_option linter.unusedSimpArgs false




theorem rread_b {v : Value} {len : Nat} {F : List UInt8} (a : Nat) (n : Int) (w : World) (h : Rw 64 w v len (bv F)) (ha : a ≤ 18446744073709551615) :
    Calls Try.prog 10 #[v, .int .u64 a, .int .i64 n] w fun e w' => ∃ v', e = .returned (.tuple #[v', .int .i64 (readE len a n)]) ∧ Later w w' ∧ Bs w' v' (readL len F a n) :=
  (rread_c a n w h ha).mono fun e w' ⟨v', he, hl, ho⟩ => ⟨v', he, hl, (Bs.of_owns ho).1⟩
theorem rwrite_b {v vb : Value} {len : Nat} {F l : List UInt8} (a : Nat) (w : World) (h : Rw 64 w v len (bv F)) (hb : Bs w vb l) (ha : a ≤ 18446744073709551615) :
    Calls Try.prog 15 #[v, .int .u64 a, vb] w fun e w' => ∃ v', e = .returned (.tuple #[v', .int .i64 (writeE len a l.length)]) ∧ Later w w' ∧ Rw 64 w' v' (writeN len a l.length) (bv (writeL len F a l)) :=
  (rwrite_c a w h hb ha).mono fun e w' ⟨v', he, hl, ho⟩ => ⟨v', he, hl, Rw.of_owns ho⟩
theorem rsplit_b {v : Value} {l : List UInt8} (w : World) (h : Bs w v l) (hl : l.length ≤ 100000) :
    Calls Try.prog 17 #[v] w fun e w' => ∃ v1 v2, e = .returned (.tuple #[v1, v2]) ∧ Later w w' ∧ Rw 64 w' v1 (l.length / 64) (bv (l.take (l.length / 64 * 64))) ∧ Bs w' v2 (l.drop (l.length / 64 * 64)) :=
  (rsplit_c w h (by omega)).mono fun e w' ⟨v1, v2, he, hl, h1, h2⟩ => ⟨v1, v2, he, hl, Rw.of_owns h1, (Bs.of_owns h2).1⟩
theorem rmake_b (n : Int) (c : UInt8) (w : World) :
    Calls Try.prog 21 #[.int .i64 n, .int .u8 (c.toNat : Int)] w fun e w' => ∃ v, e = .returned (.tuple #[v, .int .i64 (makeE n)]) ∧ Later w w' ∧ Rw 64 w' v (makeN n) (bv (List.replicate (makeN n * 64) c)) :=
  (rmake_c n c w).mono fun e w' ⟨v', he, hl, ho⟩ => ⟨v', he, hl, Rw.of_owns ho⟩
theorem rcopy_b {v : Value} {n : Nat} {F : List UInt8} (w : World) (h : Rw 64 w v n (bv F)) (hn : n ≤ 1000) :
    Calls Try.prog 13 #[v] w fun e w' => ∃ v', e = .returned v' ∧ Later w w' ∧ Rw 64 w' v' n (bv F) :=
  (rcopy_c w w.heap.size (Nat.le_refl _) h (by omega)).mono fun e w' ⟨v', he, hl, ho⟩ => ⟨v', he, hl, Rw.of_owns ho⟩
theorem rwithin_b (c : Int) (at_ : Nat) (n : Int) (w : World) (hc' : c ≤ 9223372036854775807) (ha : at_ ≤ 18446744073709551615) :
    Calls Try.prog 12 #[.int .i64 c, .int .u64 at_, .int .i64 n] w fun e w' => e = .returned (.bool (withinB c at_ n)) ∧ Later w w' :=
  (rwithin_c c at_ n w hc' ha).mono fun e w' ⟨he, hw⟩ => ⟨he, by rw [hw]; exact Later.refl w⟩

theorem Bs.toStr {w : World} {v : Value} {l : List UInt8} {s : ByteArray} (hs : s = ⟨l.toArray⟩) (h : Bs w v l) : (convert 25 9 v).run Try.prog w = .ok (.string s) w := by rw [hs]; exact h.str

theorem Rw.small {v : Value} {n : Nat} {xs : List Value} {w : World} {sz : Nat} (h : Rw sz w v n xs) : n ≤ 9223372036854775807 := by have := h.2.1; unfold maxLen at this; omega

set_option maxHeartbeats 1000000 in
theorem blockReads_walk (halive : ∀ w : World, Calls Try.prog 8 #[] w fun e w' => e = .returned (.bool true) ∧ Later w w') (v0 v1 v2 : Value) (w : World) (h0 : RBlocks w v0) (h1 : RInt .u64 v1) (h2 : RInt .i64 v2) :
    Calls Try.prog 3 #[v0, v1, v2] w fun e w' => e = .returned (.bool true) ∧ Below w.heap.size w w' := by
  obtain ⟨len, F, hr⟩ := h0
  have Hr := hide hr
  have hsm := hr.small
  obtain ⟨ad, cap, rfl⟩ := hr.shape
  obtain ⟨a, ha, rfl⟩ : ∃ a : Nat, a ≤ 18446744073709551615 ∧ v1 = .int .u64 (a : Int) := by
    obtain ⟨x, rfl, wx⟩ := h1
    have hx := bounds_u64 wx
    obtain ⟨y, rfl⟩ := Int.eq_ofNat_of_zero_le hx.1
    exact ⟨y, by omega, rfl⟩
  obtain ⟨n, rfl, wn⟩ := h2
  have hn := bounds_i64 wn
  have Halive := hide halive
  clear hr h1 wn halive
  obtain ⟨s, hs⟩ : ∃ s : ByteArray, s = ⟨(readL len F a n).toArray⟩ := ⟨_, rfl⟩
  have HS := hide hs
  clear hs
  go_enter Try.func3, Try.ntmps3
  go_wp2_with fail
  refine (Halive.out w).mono ?_
  rintro e w1 ⟨rfl, hl1⟩
  have L1 := hide hl1
  clear hl1
  by_cases h70 : 70 < len
  · go_wp2
    go_ret
    exact ⟨rfl, L1.out⟩
  · go_wp2_with fail
    refine (bread_c a n _ (Hr.out.later L1.out) ha hn.1 hn.2).mono ?_
    rintro e w2 ⟨v2, rfl, hl2, hb2⟩
    have L2 := hide (L1.out.trans hl2)
    have B2 := hide hb2
    clear hl2 hb2 L1
    go_wp2_with fail
    refine (rread_b a n _ (Hr.out.later L2.out) ha).mono ?_
    rintro e w3 ⟨v3, rfl, hl3, hb3⟩
    have L3 := hide (L2.out.trans hl3)
    have hc2 := Bs.toStr HS.out (B2.out.below hl3 (Nat.le_refl _))
    have hc3 := Bs.toStr HS.out hb3
    clear hl3 hb3 L2 B2
    go_wp2_with fail
    refine (bwithin_c _ _ _ _ (by omega) (by omega) ha hn.1 hn.2).mono ?_
    rintro e w4 ⟨rfl, hl4⟩
    have L4 := hide (L3.out.trans hl4)
    clear hl4 L3 hc2 hc3
    go_wp2_with fail
    refine (rwithin_b _ _ _ _ (by omega) ha).mono ?_
    rintro e w5 ⟨rfl, hl5⟩
    have L5 := hide (L4.out.trans hl5)
    clear hl5 L4
    go_wp2_with fail
    refine (bwithin_c _ _ _ _ hn.1 hn.2 ha (by omega) (by omega)).mono ?_
    rintro e w6 ⟨rfl, hl6⟩
    have L6 := hide (L5.out.trans hl6)
    clear hl6 L5
    go_wp2_with fail
    refine (rwithin_b _ _ _ _ hn.2 ha).mono ?_
    rintro e w7 ⟨rfl, hl7⟩
    have L7 := hide (L6.out.trans hl7)
    clear hl7 L6
    go_wp2_with fail
    go_ret
    exact ⟨rfl, L7.out⟩

set_option maxHeartbeats 1000000 in
theorem blockMakes_walk (halive : ∀ w : World, Calls Try.prog 8 #[] w fun e w' => e = .returned (.bool true) ∧ Later w w') (v0 v1 : Value) (w : World) (h0 : RInt .i64 v0) (h1 : RInt .u8 v1) :
    Calls Try.prog 5 #[v0, v1] w fun e w' => e = .returned (.bool true) ∧ Below w.heap.size w w' := by
  obtain ⟨n, rfl, wn⟩ := h0
  have hn := bounds_i64 wn
  obtain ⟨c, rfl⟩ : ∃ c : UInt8, v1 = .int .u8 (c.toNat : Int) := by
    obtain ⟨x, rfl, wx⟩ := h1
    have hx := bounds_u8 wx
    obtain ⟨y, rfl⟩ := Int.eq_ofNat_of_zero_le hx.1
    exact ⟨UInt8.ofNat y, by rw [UInt8.toNat_ofNat']; congr 1; omega⟩
  have Halive := hide halive
  clear h1 wn halive
  go_enter Try.func5, Try.ntmps5
  go_wp2_with fail
  refine (Halive.out w).mono ?_
  rintro e w1 ⟨rfl, hl1⟩
  have L1 := hide hl1
  clear hl1
  go_wp2_with fail
  refine (bmake_c n c _ hn.1 hn.2).mono ?_
  rintro e w2 ⟨v2, rfl, hl2, hb2⟩
  have L2 := hide (L1.out.trans hl2)
  have B2 := hide hb2
  clear hl2 hb2 L1
  go_wp2_with fail
  refine (rmake_b n c _).mono ?_
  rintro e w3 ⟨v3, rfl, hl3, hb3⟩
  have L3 := hide (L2.out.trans hl3)
  have R2 := hide (B2.out.later hl3)
  have R3 := hide hb3
  clear hl3 hb3 L2 B2
  go_wp2_with fail
  refine (rsame_c _ R2.out R3.out).mono ?_
  rintro e w4 ⟨rfl, hl4⟩
  have L4 := hide (L3.out.trans hl4)
  clear hl4 L3 R2 R3
  rw [show (List.replicate (makeN n * 64) c == List.replicate (makeN n * 64) c) = true from by simp]
  go_wp2_with fail
  go_ret
  exact ⟨rfl, L4.out⟩
end Go.Proofs.Ytgleopnehdnpdaa
