import Derived.Test.YtoflkbilkkfekaaWL9A
namespace Go.Proofs.Ytoflkbilkkfekaa
open Go.ChangeShapes Go.WideShapes Go.ChangeAt Go.RowKit
set_option linter.unusedVariables false
set_option linter.unusedSimpArgs false

theorem Bs.addr9 {w : World} {v : Value} {l : List UInt8} (h : Bs w v l) (hp : 0 < l.length) : ∃ b off cap, v = .slice (some ⟨b, off, none⟩) l.length cap ∧ l.length ≤ cap := by
  obtain ⟨h1, ad, cap, e, h2, h3⟩ := h
  rcases h3 with h3 | ⟨b, off, e2, h3⟩
  · rw [h3] at hp; simp at hp
  · subst e2; exact ⟨b, off, cap, e, h2⟩
theorem Bs.cell9 {w : World} {b off n cap : Nat} {l : List UInt8} (h : Bs w (.slice (some ⟨b, off, none⟩) n cap) l) (j : Nat) (hj : j < l.length) : w.cell? ⟨b, off + j, none⟩ = some (.int .u8 (l[j].toNat : Int)) := by
  obtain ⟨h1, ad, cap', e, h2, h3⟩ := h
  simp at e
  obtain ⟨rfl, rfl, rfl⟩ := e
  rcases h3 with h3 | ⟨b', off', e, h3⟩
  · subst h3; simp at hj
  · simp at e
    obtain ⟨rfl, rfl⟩ := e
    exact h3 j hj
theorem put9_snoc (x k : Nat) : putLe x (k + 1) = putLe x k ++ [UInt8.ofNat (x / 256 ^ k)] := by simp [putLe, List.range_succ]
theorem little_put9 (x k : Nat) : littleOf (putLe x k) = x % 256 ^ k := by
  induction k with
  | zero => simp [putLe, littleOf, Nat.mod_one]
  | succ k ih =>
    rw [put9_snoc, littleOf_snoc, ih, putLe_length, UInt8.toNat_ofNat', show (256 : Nat) ^ (k + 1) = 256 ^ k * 256 from Nat.pow_succ _ _, Nat.mod_mul, Nat.mul_comm (256 ^ k)]
theorem bigOf_put9 (x w : Nat) : bigOf (putBe x w) = x % 256 ^ w := by
  unfold putBe
  rw [bigOf_rev, little_put9]
theorem cutL_all8 (l : List UInt8) (n : Int) (h0 : 0 ≤ n) (h : (l.length : Int) ≤ n) : cutL l n = l := by
  unfold cutL
  rw [if_neg (by omega), List.take_of_length_le (by omega)]
theorem lastN_of (x : Nat) (hx : x ≤ 65535) : lastN (1 + (x : Int)) = x := by unfold lastN; omega
theorem seg_app (a b : List UInt8) (n : Nat) (h : a.length = n) : seg (a ++ b) 0 n = a := by
  unfold seg; rw [List.drop_zero, ← h, List.take_left]
theorem big_ten (x : Nat) (hx : x ≤ 65535) : bigAt (tenL (1 + (x : Int))) 0 4 = x := by
  unfold bigAt
  rw [if_pos (by rw [tenL_len]; decide), tenL, lastN_of x hx]
  show bigOf (seg (putBeI x 4 ++ sz64) 0 4) = x
  rw [seg_app _ _ 4 (putBeI4_len x), putBeI, if_pos (by decide)]
  show bigOf (putBe x 4) = x
  rw [bigOf_put9]; omega
theorem big_six (x : Nat) (hx : x ≤ 65535) : bigAt (sixL (1 + (x : Int))) 0 8 = x := by
  unfold bigAt
  rw [if_pos (by rw [sixL_len]; decide), sixL, lastN_of x hx]
  show bigOf (seg (putBeI x 8 ++ (sz64 ++ zs 20)) 0 8) = x
  rw [seg_app _ _ 8 (putBeI8_len x), putBeI, if_pos (by decide)]
  show bigOf (putBe x 8) = x
  rw [bigOf_put9]; omega
theorem big_luns : ∀ k : Fin 5, bigAt (lunsL k.val) 0 4 = 8 * k.val := by decide +kernel
theorem get_luns : ∀ k : Fin 5, ∀ i : Fin 5, i.val < k.val → (lunsL k.val)[8 + 8 * i.val + 1]? = some (UInt8.ofNat i.val) := by decide +kernel
theorem cntN_of (k : Nat) (h : k ≤ 4) : cntN (k : Int) = k := by unfold cntN; rw [if_neg (by omega), if_neg (by omega)]; omega
set_option maxRecDepth 20000 in
set_option maxHeartbeats 4000000 in
theorem capacityBack_walk (x y : Nat) (w : World) (hx : x ≤ 65535) (hy : y ≤ 255) :
    Calls Try.prog 4 #[.int .u16 x, .int .u8 y] w fun e w' => e = .returned (.bool true) ∧ Below w.heap.size w w' := by
  obtain ⟨k, hk⟩ : ∃ k : Nat, k = y % 5 := ⟨_, rfl⟩
  have hk4 : k ≤ 4 := by omega
  have hkt : Int.tmod (y : Int) 5 = (k : Int) := by rw [Int.tmod_eq_emod_of_nonneg (by omega)]; omega
  have hke : (y : Int) % 5 = (k : Int) := by omega
  have HB1 := hide (big_ten x hx)
  have HB2 := hide (big_six x hx)
  have HB3 : Hid (bigAt (lunsL k) 0 4 = 8 * k) := big_luns ⟨k, by omega⟩
  have HG : Hid (∀ i, i < k → (lunsL k)[8 + 8 * i + 1]? = some (UInt8.ofNat i)) := fun i hi => get_luns ⟨k, by omega⟩ ⟨i, by omega⟩ hi
  have HC := hide (cntN_of k hk4)
  have HS6 : Hid (cutL (sixL (1 + (x : Int))) 32 = sixL (1 + (x : Int))) := cutL_all8 _ _ (by decide) (by rw [sixL_len]; decide)
  have HSL : Hid (cutL (lunsL k) 100 = lunsL k) := cutL_all8 _ _ (by decide) (by rw [lunsL_len]; omega)
  clear hk hy
  go_enter Try.func4, Try.ntmps4
  go_wp2_with fail
  refine (alive9_c _).mono ?_
  rintro e w1 ⟨rfl, hl⟩
  have LL := hide hl
  clear hl
  go_wp2_with fail
  refine (ten9_c (1 + (x : Int)) _).mono ?_
  rintro e w2 ⟨v2, rfl, hl, hv⟩
  replace LL := hide (LL.out.trans hl)
  have V2 := hide hv
  clear hl hv
  go_wp2_with fail
  refine (rbig_c 0 4 _ V2.out).mono ?_
  rintro e w3 ⟨rfl, hw1⟩
  have hw2 := hw1.symm
  subst hw2
  clear hw1
  rw [HB1.out, show holdsB ((tenL (1 + (x : Int))).length : Int) 0 4 = true by rw [tenL_len]; decide]
  go_wp2_with fail
  refine (six9_c (1 + (x : Int)) 32 (by decide) _).mono ?_
  rintro e w4 ⟨v4, rfl, hl, hv⟩
  replace LL := hide (LL.out.trans hl)
  rw [HS6.out] at hv
  have V4 := hide hv
  clear hl hv V2
  go_wp2_with fail
  refine (rbig_c 0 8 _ V4.out).mono ?_
  rintro e w5 ⟨rfl, hw1⟩
  have hw2 := hw1.symm
  subst hw2
  clear hw1
  rw [HB2.out, show holdsB ((sixL (1 + (x : Int))).length : Int) 0 8 = true by rw [sixL_len]; decide]
  go_wp2_with fail
  refine (luns9_c (k : Int) 100 (by decide) _).mono ?_
  rintro e w6 ⟨v6, rfl, hl, hv⟩
  replace LL := hide (LL.out.trans hl)
  rw [HC.out, HSL.out] at hv
  have V6 := hide hv
  clear hl hv V4
  go_wp2_with fail
  refine (rbig_c 0 4 _ V6.out).mono ?_
  rintro e w7 ⟨rfl, hw1⟩
  have hw2 := hw1.symm
  subst hw2
  clear hw1
  rw [HB3.out, show holdsB ((lunsL k).length : Int) 0 4 = true by rw [lunsL_len]; unfold holdsB; simp; omega]
  have V62 := V6.out
  obtain ⟨b6, o6, c6, rfl, hc⟩ := V62.addr9 (by rw [lunsL_len]; omega)
  rw [lunsL_len] at V6 hc ⊢
  clear V62 hc
  clear hkt hke HB1 HB2 HB3 HC HS6 HSL
  obtain ⟨N, hN⟩ : ∃ N : Int, N = 1 + (x : Int) := ⟨_, rfl⟩
  rw [← hN]
  have hN1 : N - 1 = (x : Int) := by omega
  have hN2 : 1 ≤ N ∧ N ≤ 65536 := by omega
  clear hN
  rcases (show k = 0 ∨ k = 1 ∨ k = 2 ∨ k = 3 ∨ k = 4 by omega) with rfl | rfl | rfl | rfl | rfl
  · go_wp2_with fail
    go_loopw [14] (fun i wr => ∃ q : Nat, q ≤ 0 ∧ i = .int .i64 q ∧ Hid (Later w wr) ∧ Hid (Bs wr (.slice (some ⟨b6, o6, none⟩) 8 c6) (lunsL 0))) (fun i _ => 0 - (intOf i).toNat)
    case atStart => exact ⟨0, by omega, rfl, LL, V6⟩
    case round =>
      clear LL V6
      obtain ⟨q, hq, rfl, LL, V6⟩ := hrel
      by_cases hlt : q < 0
      · omega
      · clear HG
        go_wp2
        go_ret
        exact ⟨rfl, LL.out⟩
  · go_wp2_with fail
    go_loopw [14] (fun i wr => ∃ q : Nat, q ≤ 1 ∧ i = .int .i64 q ∧ Hid (Later w wr) ∧ Hid (Bs wr (.slice (some ⟨b6, o6, none⟩) 16 c6) (lunsL 1))) (fun i _ => 1 - (intOf i).toNat)
    case atStart => exact ⟨0, by omega, rfl, LL, V6⟩
    case round =>
      clear LL V6
      obtain ⟨q, hq, rfl, LL, V6⟩ := hrel
      by_cases hlt : q < 1
      · have hcell : wr.cell? ⟨b6, o6 + (8 + 8 * q + 1), none⟩ = some (.int .u8 (q : Int)) := by
          have h := V6.out.cell9 (8 + 8 * q + 1) (by rw [lunsL_len]; omega)
          have hg := HG.out q hlt
          rw [List.getElem?_eq_getElem (by rw [lunsL_len]; omega)] at hg
          simp only [Option.some.injEq] at hg
          rw [hg] at h
          rw [h]
          simp <;> omega
        go_wp2
        go_roundw
        case rel => exact ⟨q + 1, by omega, by go_num, LL, V6⟩
        case measure => simp [intOf]; omega
      · clear HG
        go_wp2
        go_ret
        exact ⟨rfl, LL.out⟩
  · go_wp2_with fail
    go_loopw [14] (fun i wr => ∃ q : Nat, q ≤ 2 ∧ i = .int .i64 q ∧ Hid (Later w wr) ∧ Hid (Bs wr (.slice (some ⟨b6, o6, none⟩) 24 c6) (lunsL 2))) (fun i _ => 2 - (intOf i).toNat)
    case atStart => exact ⟨0, by omega, rfl, LL, V6⟩
    case round =>
      clear LL V6
      obtain ⟨q, hq, rfl, LL, V6⟩ := hrel
      by_cases hlt : q < 2
      · have hcell : wr.cell? ⟨b6, o6 + (8 + 8 * q + 1), none⟩ = some (.int .u8 (q : Int)) := by
          have h := V6.out.cell9 (8 + 8 * q + 1) (by rw [lunsL_len]; omega)
          have hg := HG.out q hlt
          rw [List.getElem?_eq_getElem (by rw [lunsL_len]; omega)] at hg
          simp only [Option.some.injEq] at hg
          rw [hg] at h
          rw [h]
          simp <;> omega
        go_wp2
        go_roundw
        case rel => exact ⟨q + 1, by omega, by go_num, LL, V6⟩
        case measure => simp [intOf]; omega
      · clear HG
        go_wp2
        go_ret
        exact ⟨rfl, LL.out⟩
  · go_wp2_with fail
    go_loopw [14] (fun i wr => ∃ q : Nat, q ≤ 3 ∧ i = .int .i64 q ∧ Hid (Later w wr) ∧ Hid (Bs wr (.slice (some ⟨b6, o6, none⟩) 32 c6) (lunsL 3))) (fun i _ => 3 - (intOf i).toNat)
    case atStart => exact ⟨0, by omega, rfl, LL, V6⟩
    case round =>
      clear LL V6
      obtain ⟨q, hq, rfl, LL, V6⟩ := hrel
      by_cases hlt : q < 3
      · have hcell : wr.cell? ⟨b6, o6 + (8 + 8 * q + 1), none⟩ = some (.int .u8 (q : Int)) := by
          have h := V6.out.cell9 (8 + 8 * q + 1) (by rw [lunsL_len]; omega)
          have hg := HG.out q hlt
          rw [List.getElem?_eq_getElem (by rw [lunsL_len]; omega)] at hg
          simp only [Option.some.injEq] at hg
          rw [hg] at h
          rw [h]
          simp <;> omega
        go_wp2
        go_roundw
        case rel => exact ⟨q + 1, by omega, by go_num, LL, V6⟩
        case measure => simp [intOf]; omega
      · clear HG
        go_wp2
        go_ret
        exact ⟨rfl, LL.out⟩
  · go_wp2_with fail
    go_loopw [14] (fun i wr => ∃ q : Nat, q ≤ 4 ∧ i = .int .i64 q ∧ Hid (Later w wr) ∧ Hid (Bs wr (.slice (some ⟨b6, o6, none⟩) 40 c6) (lunsL 4))) (fun i _ => 4 - (intOf i).toNat)
    case atStart => exact ⟨0, by omega, rfl, LL, V6⟩
    case round =>
      clear LL V6
      obtain ⟨q, hq, rfl, LL, V6⟩ := hrel
      by_cases hlt : q < 4
      · have hcell : wr.cell? ⟨b6, o6 + (8 + 8 * q + 1), none⟩ = some (.int .u8 (q : Int)) := by
          have h := V6.out.cell9 (8 + 8 * q + 1) (by rw [lunsL_len]; omega)
          have hg := HG.out q hlt
          rw [List.getElem?_eq_getElem (by rw [lunsL_len]; omega)] at hg
          simp only [Option.some.injEq] at hg
          rw [hg] at h
          rw [h]
          simp <;> omega
        go_wp2
        go_roundw
        case rel => exact ⟨q + 1, by omega, by go_num, LL, V6⟩
        case measure => simp [intOf]; omega
      · clear HG
        go_wp2
        go_ret
        exact ⟨rfl, LL.out⟩
end Go.Proofs.Ytoflkbilkkfekaa
