import Derived.Test.YtfkojecipbjdpaaNumA
namespace Go.Proofs.Ytfkojecipbjdpaa
open Go.ChangeShapes Go.WideShapes Go.ChangeAt Go.RowKit
set_option linter.unusedVariables false
set_option linter.unusedSimpArgs false

theorem ret_pair {a b : Int} {c d : Bool} (h : a = b) (k : c = d) : Ending.returned (.tuple #[.int .u64 a, .bool c]) = .returned (.tuple #[.int .u64 b, .bool d]) := by rw [h, k]

theorem big_no (ad : Option Addr) (len cap : Nat) (a n : Int) (w : World) (hm : len ≤ maxLen) (hh : ¬ (1 ≤ n ∧ n ≤ 8 ∧ 0 ≤ a ∧ a ≤ len - n)) :
    Calls Try.prog 10 #[.slice ad len cap, .int .i64 a, .int .i64 n] w fun e w' => e = .returned (.tuple #[.int .u64 0, .bool false]) ∧ w' = w := by
  unfold maxLen at hm
  go_enter Try.func10, Try.ntmps10
  go_wp2_with (go_at_call 24; refine (holds_no _ _ _ _ (by omega) (by omega) hh).mono ?_; rintro e w' ⟨rfl, rfl⟩)
  go_ret2
  exact ⟨rfl, rfl⟩
theorem little_no (ad : Option Addr) (len cap : Nat) (a n : Int) (w : World) (hm : len ≤ maxLen) (hh : ¬ (1 ≤ n ∧ n ≤ 8 ∧ 0 ≤ a ∧ a ≤ len - n)) :
    Calls Try.prog 12 #[.slice ad len cap, .int .i64 a, .int .i64 n] w fun e w' => e = .returned (.tuple #[.int .u64 0, .bool false]) ∧ w' = w := by
  unfold maxLen at hm
  go_enter Try.func12, Try.ntmps12
  go_wp2_with (go_at_call 24; refine (holds_no _ _ _ _ (by omega) (by omega) hh).mono ?_; rintro e w' ⟨rfl, rfl⟩)
  go_ret2
  exact ⟨rfl, rfl⟩
theorem seg_big_step (l : List UInt8) (a k : Nat) (h : a + k < l.length) (hk : k < 8) : bigOf (seg l a (k + 1)) = bigOf (seg l a k) * 256 + l[a + k].toNat ∧ bigOf (seg l a k) * 256 + 255 < 18446744073709551616 := by
  refine ⟨by rw [seg_snoc l a k h, bigOf_snoc], ?_⟩
  have h1 := bigOf_lt (seg l a k)
  rw [seg_length l a k (by omega)] at h1
  have h2 := pow256 (k := k + 1) (by omega)
  rw [Nat.pow_succ] at h2
  omega
theorem big_yes (bk off len cap : Nat) (l : List UInt8) (a n : Nat) (w : World) (hn : 1 ≤ n) (hn8 : n ≤ 8) (hl : l.length = len) (hm : len ≤ maxLen) (ha : a + n ≤ len)
   (hc : ∀ i (h : i < l.length), w.cell? ⟨bk, off + i, none⟩ = some (.int .u8 (l[i].toNat : Int))) :
    Calls Try.prog 10 #[.slice (some ⟨bk, off, none⟩) len cap, .int .i64 a, .int .i64 n] w fun e w' => e = .returned (.tuple #[.int .u64 (bigOf (seg l a n)), .bool true]) ∧ w' = w := by
  unfold maxLen at hm
  go_enter Try.func10, Try.ntmps10
  go_wp2_with (go_at_call 24; refine (holds_yes _ _ _ _ (by omega) (by omega) (by omega) (by omega) (by omega)).mono ?_; rintro e w' ⟨rfl, rfl⟩)
  go_loop [8, 17] (fun x i => ∃ k : Nat, k ≤ n ∧ i = .int .i64 k ∧ ∃ z : Nat, Hid (z = bigOf (seg l a k)) ∧ z ≤ 18446744073709551615 ∧ x = .int .u64 z) (fun _ i => n - (intOf i).toNat)
  case atStart => exact ⟨0, Nat.zero_le _, rfl, 0, by simp [Hid, seg_zero, bigOf], by omega, rfl⟩
  case round =>
    obtain ⟨k, hk, rfl, z, hz, hz64, rfl⟩ := hrel
    by_cases hlt : k < n
    · have hcx := hc (a + k) (by omega)
      have hs := hide (seg_big_step l a k (by omega) (by omega))
      have hbb := l[a + k].toNat_lt
      generalize l[a + k].toNat = b at hcx hbb hs
      clear hc
      go_wp2
      go_round
      case rel =>
        obtain ⟨s1, s2⟩ := hs.out
        rw [← hz.out] at s1 s2
        refine ⟨k + 1, by omega, by go_num, z * 256 + b, s1.symm, by omega, ?_⟩
        rw [← or_low z b s2 (by omega)]
      case measure => simp [intOf]; omega
    · have hkn : Hid (k = n) := by unfold Hid; omega
      go_wp2
      go_ret2
      exact ⟨ret_pair (by rw [hz.out, hkn.out]) rfl, rfl⟩

theorem rbig_no (ad : Option Addr) (len cap : Nat) (a n : Int) (w : World) (hm : len ≤ maxLen) (hh : ¬ (1 ≤ n ∧ n ≤ 8 ∧ 0 ≤ a ∧ a ≤ len - n)) :
    Calls Try.prog 11 #[.slice ad len cap, .int .i64 a, .int .i64 n] w fun e w' => e = .returned (.tuple #[.int .u64 0, .bool false]) ∧ w' = w := by
  unfold maxLen at hm
  by_cases h1 : n < 1
  · clear hh; go_enter Try.func11, Try.ntmps11
    go_wp2
    go_ret2
    exact ⟨rfl, rfl⟩
  · by_cases h2 : 8 < n
    · clear hh; go_enter Try.func11, Try.ntmps11
      go_wp2
      go_ret2
      exact ⟨rfl, rfl⟩
    · by_cases h3 : a < 0
      · clear hh; go_enter Try.func11, Try.ntmps11
        go_wp2
        go_ret2
        exact ⟨rfl, rfl⟩
      · by_cases h4 : (len : Int) < n
        · clear hh; go_enter Try.func11, Try.ntmps11
          go_wp2
          go_ret2
          exact ⟨rfl, rfl⟩
        · have h5 : (len : Int) - n < a := by omega
          clear hh; go_enter Try.func11, Try.ntmps11
          go_wp2
          go_ret2
          exact ⟨rfl, rfl⟩
theorem rlittle_no (ad : Option Addr) (len cap : Nat) (a n : Int) (w : World) (hm : len ≤ maxLen) (hh : ¬ (1 ≤ n ∧ n ≤ 8 ∧ 0 ≤ a ∧ a ≤ len - n)) :
    Calls Try.prog 13 #[.slice ad len cap, .int .i64 a, .int .i64 n] w fun e w' => e = .returned (.tuple #[.int .u64 0, .bool false]) ∧ w' = w := by
  unfold maxLen at hm
  by_cases h1 : n < 1
  · clear hh; go_enter Try.func13, Try.ntmps13
    go_wp2
    go_ret2
    exact ⟨rfl, rfl⟩
  · by_cases h2 : 8 < n
    · clear hh; go_enter Try.func13, Try.ntmps13
      go_wp2
      go_ret2
      exact ⟨rfl, rfl⟩
    · by_cases h3 : a < 0
      · clear hh; go_enter Try.func13, Try.ntmps13
        go_wp2
        go_ret2
        exact ⟨rfl, rfl⟩
      · by_cases h4 : (len : Int) < n
        · clear hh; go_enter Try.func13, Try.ntmps13
          go_wp2
          go_ret2
          exact ⟨rfl, rfl⟩
        · have h5 : (len : Int) - n < a := by omega
          clear hh; go_enter Try.func13, Try.ntmps13
          go_wp2
          go_ret2
          exact ⟨rfl, rfl⟩

theorem rbig_yes (bk off len cap : Nat) (l : List UInt8) (a n : Nat) (w : World) (hn : 1 ≤ n) (hn8 : n ≤ 8) (hl : l.length = len) (hm : len ≤ maxLen) (ha : a + n ≤ len)
   (hc : ∀ i (h : i < l.length), w.cell? ⟨bk, off + i, none⟩ = some (.int .u8 (l[i].toNat : Int))) :
    Calls Try.prog 11 #[.slice (some ⟨bk, off, none⟩) len cap, .int .i64 a, .int .i64 n] w fun e w' => e = .returned (.tuple #[.int .u64 (bigOf (seg l a n)), .bool true]) ∧ w' = w := by
  unfold maxLen at hm
  have h5 : (a : Int) ≤ (len : Int) - n := by omega
  go_enter Try.func11, Try.ntmps11
  go_wp2
  go_loop [8, 9] (fun x i => ∃ k : Nat, k ≤ n ∧ i = .int .i64 k ∧ ∃ z : Nat, Hid (z = bigOf (seg l a k)) ∧ z ≤ 18446744073709551615 ∧ x = .int .u64 z) (fun _ i => n - (intOf i).toNat)
  case atStart => exact ⟨0, Nat.zero_le _, rfl, 0, by simp [Hid, seg_zero, bigOf], by omega, rfl⟩
  case round =>
    obtain ⟨k, hk, rfl, z, hz, hz64, rfl⟩ := hrel
    by_cases hlt : k < n
    · have hcx := hc (a + k) (by omega)
      have hs := seg_big_step l a k (by omega) (by omega)
      have hbb := l[a + k].toNat_lt
      rw [← hz.out] at hs
      generalize l[a + k].toNat = b at hcx hbb hs
      obtain ⟨s1, s2⟩ := hs
      have S1 := hide s1
      clear hc s1
      go_wp2
      go_round
      case rel => exact ⟨k + 1, by omega, by go_num, z * 256 + b, S1.out.symm, by omega, by go_num⟩
      case measure => simp [intOf]; omega
    · have hkn : Hid (k = n) := by unfold Hid; omega
      go_wp2
      go_ret2
      exact ⟨ret_pair (by rw [hz.out, hkn.out]) rfl, rfl⟩

theorem seg_little_up (l : List UInt8) (a k : Nat) (h : a + k < l.length) (hk : k < 8) : littleOf (seg l a (k + 1)) = littleOf (seg l a k) + l[a + k].toNat * 256 ^ k ∧ littleOf (seg l a k) < 256 ^ k := by
  have h1 := littleOf_lt (seg l a k)
  rw [seg_length l a k (by omega)] at h1
  exact ⟨by rw [seg_snoc l a k h, littleOf_snoc, seg_length l a k (by omega)], h1⟩
theorem little_yes (bk off len cap : Nat) (l : List UInt8) (a n : Nat) (w : World) (hn : 1 ≤ n) (hn8 : n ≤ 8) (hl : l.length = len) (hm : len ≤ maxLen) (ha : a + n ≤ len)
   (hc : ∀ i (h : i < l.length), w.cell? ⟨bk, off + i, none⟩ = some (.int .u8 (l[i].toNat : Int))) :
    Calls Try.prog 12 #[.slice (some ⟨bk, off, none⟩) len cap, .int .i64 a, .int .i64 n] w fun e w' => e = .returned (.tuple #[.int .u64 (littleOf (seg l a n)), .bool true]) ∧ w' = w := by
  unfold maxLen at hm
  go_enter Try.func12, Try.ntmps12
  go_wp2_with (go_at_call 24; refine (holds_yes _ _ _ _ (by omega) (by omega) (by omega) (by omega) (by omega)).mono ?_; rintro e w' ⟨rfl, rfl⟩)
  go_loop [8, 17] (fun x i => ∃ k : Nat, k ≤ n ∧ i = .int .i64 k ∧ ∃ z : Nat, Hid (z = littleOf (seg l a k)) ∧ z ≤ 18446744073709551615 ∧ x = .int .u64 z) (fun _ i => n - (intOf i).toNat)
  case atStart => exact ⟨0, Nat.zero_le _, rfl, 0, by simp [Hid, seg_zero, littleOf], by omega, rfl⟩
  case round =>
    obtain ⟨k, hk, rfl, z, hz, hz64, rfl⟩ := hrel
    by_cases hlt : k < n
    · have hcx := hc (a + k) (by omega)
      have hs := seg_little_up l a k (by omega) (by omega)
      have hbb := l[a + k].toNat_lt
      rw [← hz.out] at hs
      have hnx := seg_little_lt l a (k + 1) (by omega)
      rw [hs.1] at hnx
      generalize l[a + k].toNat = b at hcx hbb hs hnx
      have Hs := hide hs
      have Hn := hide hnx
      clear hc hs hnx
      go_wp2
      go_round
      case rel =>
        refine ⟨k + 1, by omega, by go_num, z + b * 256 ^ k, Hs.out.1.symm, by have := Hn.out; omega, ?_⟩
        rw [← or_high z b k Hs.out.2 (by omega) (by omega)]
      case measure => simp [intOf]; omega
    · have hkn : Hid (k = n) := by unfold Hid; omega
      go_wp2
      go_ret2
      exact ⟨ret_pair (by rw [hz.out, hkn.out]) rfl, rfl⟩

theorem seg_little_down (l : List UInt8) (a n j : Nat) (h : a + n ≤ l.length) (hn : n ≤ 8) (hj : j < n) : littleOf (seg l (a + j) (n - j)) = littleOf (seg l (a + (j + 1)) (n - (j + 1))) * 256 + (l[a + j]'(by omega)).toNat ∧ littleOf (seg l (a + j) (n - j)) < 18446744073709551616 := by
  refine ⟨?_, seg_little_lt _ _ _ (by omega)⟩
  obtain ⟨m, hm⟩ : ∃ m, n - j = m + 1 := ⟨n - j - 1, by omega⟩
  rw [hm, seg_cons l (a + j) m (by omega), littleOf_cons, show n - (j + 1) = m from by omega]
  rfl
theorem rlittle_yes (bk off len cap : Nat) (l : List UInt8) (a n : Nat) (w : World) (hn : 1 ≤ n) (hn8 : n ≤ 8) (hl : l.length = len) (hm : len ≤ maxLen) (ha : a + n ≤ len)
   (hc : ∀ i (h : i < l.length), w.cell? ⟨bk, off + i, none⟩ = some (.int .u8 (l[i].toNat : Int))) :
    Calls Try.prog 13 #[.slice (some ⟨bk, off, none⟩) len cap, .int .i64 a, .int .i64 n] w fun e w' => e = .returned (.tuple #[.int .u64 (littleOf (seg l a n)), .bool true]) ∧ w' = w := by
  unfold maxLen at hm
  have h5 : (a : Int) ≤ (len : Int) - n := by omega
  go_enter Try.func13, Try.ntmps13
  go_wp2
  go_loop [8, 9] (fun x i => ∃ k : Nat, k ≤ n ∧ i = .int .i64 ((k : Int) - 1) ∧ ∃ z : Nat, Hid (z = littleOf (seg l (a + k) (n - k))) ∧ z ≤ 18446744073709551615 ∧ x = .int .u64 z) (fun _ i => (intOf i + 1).toNat)
  case atStart => exact ⟨n, Nat.le_refl _, rfl, 0, by simp [Hid, seg_zero, littleOf], by omega, rfl⟩
  case round =>
    obtain ⟨k, hk, rfl, z, hz, hz64, rfl⟩ := hrel
    by_cases hlt : 0 < k
    · obtain ⟨j, rfl⟩ : ∃ j, k = j + 1 := ⟨k - 1, by omega⟩
      have hcx := hc (a + j) (by omega)
      have hs := seg_little_down l a n j (by omega) hn8 (by omega)
      have hbb := l[a + j].toNat_lt
      rw [← hz.out] at hs
      generalize l[a + j].toNat = b at hcx hbb hs
      obtain ⟨s1, s2⟩ := hs
      rw [s1] at s2
      have S1 := hide s1
      clear hc s1
      go_wp2
      go_round
      case rel => exact ⟨j, by omega, by go_num, z * 256 + b, S1.out.symm, by omega, by go_num⟩
      case measure => simp [intOf]
    · have hkn : Hid (k = 0) := by unfold Hid; omega
      go_wp2
      go_ret2
      exact ⟨ret_pair (by rw [hz.out, hkn.out]; simp) rfl, rfl⟩
end Go.Proofs.Ytfkojecipbjdpaa
