import Derived.Test.YtgleopnehdnpdaaB2w
namespace Go.Proofs.Ytgleopnehdnpdaa
open Go.ChangeShapes Go.WideShapes Go.ChangeAt Go.RowKit
set_option linter.unusedVariables false
set_option linter.unusedSimpArgs false

theorem bread_long (ad : Option Addr) (len ca : Nat) (a : Nat) (n : Int) (w : World) (hlen : 64 < len) (hm : len ≤ maxLen) :
    Calls Try.prog 9 #[.slice ad len ca, .int .u64 a, .int .i64 n] w fun e w' => e = .returned (.tuple #[.slice none 0 0, .int .i64 4]) ∧ w' = w := by
  unfold maxLen at hm
  go_enter Try.func9, Try.ntmps9
  go_wp2
  go_ret2
  exact ⟨rfl, rfl⟩
theorem bread_range (ad : Option Addr) (len ca : Nat) (a : Nat) (n : Int) (w : World) (hlen : len ≤ 64) (ha : a ≤ 18446744073709551615) (hn1 : -9223372036854775808 ≤ n) (hn2 : n ≤ 9223372036854775807) (hw : withinB len a n = false) :
    Calls Try.prog 9 #[.slice ad len ca, .int .u64 a, .int .i64 n] w fun e w' => e = .returned (.tuple #[.slice none 0 0, .int .i64 5]) ∧ w' = w := by
  go_enter Try.func9, Try.ntmps9
  go_wp2_with (go_at_call 11; refine (bwithin_w _ _ _ _ (by omega) (by omega) (by omega) (by omega) (by omega)).mono ?_; rintro e w1 ⟨rfl, hw1⟩; have hw2 := hw1.symm; subst hw2; clear hw1)
  go_ret2
  exact ⟨rfl, rfl⟩

theorem bv_arr_get (X : List UInt8) (j : Nat) (h : j < X.length) : (bv X).toArray[j]? = some (.int .u8 (X[j].toNat : Int)) := by simp [bv, h]

set_option maxHeartbeats 2000000 in
theorem bread_yes (ad : Option Addr) (len ca : Nat) (F : List UInt8) (a n : Nat) (w : World) (hlen : len ≤ 64) (hF : F.length = len * 64) (ha : a + n ≤ len) (hr : n = 0 ∨ ∃ ba oa, ad = some ⟨ba, oa, none⟩ ∧ w.rangeAt ba oa (bv F)) :
    Calls Try.prog 9 #[.slice ad len ca, .int .u64 a, .int .i64 n] w fun e w' => ∃ v, e = .returned (.tuple #[v, .int .i64 0]) ∧ Later w w' ∧ w'.ownsRow w.heap.size 5 1 v (n * 64) (bv (seg F (a * 64) (n * 64))) := by
  have hw : withinB len a n = true := by simp [withinB]; omega
  have Hr := hide hr
  clear hr
  go_enter Try.func9, Try.ntmps9
  go_wp2_with (first
    | (go_at_call 11; refine (bwithin_w _ _ _ _ (by omega) (by omega) (by omega) (by omega) (by omega)).mono ?_; rintro e w1 ⟨rfl, hw1⟩; have hw2 := hw1.symm; subst hw2; clear hw1)
    | (at_make; refine wpList_make_room Try.elem_u8 rfl _ _ 25 rfl Try.underlying25 _ (n * 64) rfl rfl ?c0 ?c1 ?c2 ?_))
  case c0 => omega
  case c1 => omega
  case c2 => unfold maxLen; omega
  rintro w1 ho1 hl1
  have Ho1 := hide ho1
  have L1 := hide hl1
  clear ho1 hl1
  go_wp2_with fail
  go_loopw [8, 25] (fun v i wr => ∃ k : Nat, k ≤ n ∧ i = .int .i64 k ∧ Hid (wr.ownsRow w.heap.size 5 1 v (k * 64) (bv (seg F (a * 64) (k * 64)))) ∧ Hid (Later w wr)) (fun _ i _ => n - (intOf i).toNat)
  case atStart => exact ⟨0, Nat.zero_le _, rfl, by simpa [Hid, seg_zero, bv] using Ho1.out, L1⟩
  case round =>
    clear Ho1 L1
    obtain ⟨k, hk, rfl, hown, hbl⟩ := hrel
    by_cases hlt : k < n
    · obtain ⟨ba, oa, rfl, hr0⟩ := Hr.out.resolve_left (by omega)
      have hrg := hide (hbl.out.range hr0)
      have hx := hide (by have := range_part hrg.out ((a + k) * 64) 64; rwa [bv_part] at this)
      have hxl := hide (seg_length F ((a + k) * 64) 64 (by omega))
      clear hr0 hrg
      go_wp2_with (refine wpList_load_mid rfl 41 (.tmp 33) rfl ba (oa + (a + k) * 64) rfl (bv (seg F ((a + k) * 64) 64)) _ hx.out Try.underlying41 rfl (by rw [Try.info_block, bv_length, hxl.out]) ?_)
      have hown2 := hown
      have hbl2 := hbl
      clear hx
      go_loopw [8, 35] (fun v i wq => ∃ j : Nat, j ≤ 64 ∧ i = .int .i64 j ∧ Hid (wq.ownsRow w.heap.size 5 1 v (k * 64 + j) (bv (seg F (a * 64) (k * 64 + j)))) ∧ Hid (Later w wq)) (fun _ i _ => 64 - (intOf i).toNat)
      case atStart => exact ⟨0, Nat.zero_le _, rfl, hown2, hbl2⟩
      case round =>
        obtain ⟨j, hj, rfl, hownj, hlj⟩ := hrel
        clear hown2 hbl2 hown hbl
        by_cases hltj : j < 64
        · have hXl := hxl.out
          have hsn : Hid (seg F (a * 64) (k * 64 + (j + 1)) = seg F (a * 64) (k * 64 + j) ++ [(seg F ((a + k) * 64) 64)[j]]) := by
            unfold Hid
            rw [← Nat.add_assoc, seg_snoc F (a * 64) (k * 64 + j) (by omega)]
            congr 2
            simp [seg]
            congr 1
            omega
          have hsz := hlj.out.size
          have hbyte := run_index_arr (P := Try.prog) wr 41 5 64 Try.underlying41 Try.underlying5 (by kernel_rfl) (bv (seg F ((a + k) * 64) 64)).toArray .i64 j hltj _ (bv_arr_get (seg F ((a + k) * 64) 64) j (by omega))
          generalize (seg F ((a + k) * 64) 64)[j] = c at *
          have hor := hide (hownj.out.alloc (.cells #[.int .u8 (c.toNat : Int)] 5))
          have hBr := hide (hlj.out.alloc (.cells #[.int .u8 (c.toNat : Int)] 5))
          have hone := hide (Bs.one wr c 5)
          clear hownj hlj
          go_wp2_with (at_builtin; refine wpList_append_bs rfl (.tmp 38) (.tmp 40) rfl w.heap.size _ (k * 64 + j) _ rfl hor.out _ [c] rfl hone.out ?c1 ?c2 w hBr.out ?_)
          case c1 => simp; omega
          case c2 => simp; omega
          intro v' w' ho' hb' hg'
          have R : Hid (w'.ownsRow w.heap.size 5 1 v' (k * 64 + (j + 1)) (bv (seg F (a * 64) (k * 64 + (j + 1)))) ∧ Later w w') := by
            refine ⟨?_, hb'⟩
            rw [hsn.out]
            exact ho'
          clear ho' hb' hg' hbyte hor hone hBr
          go_wp2
          go_roundw
          case rel => exact ⟨j + 1, by omega, by go_num, R.out.1, R.out.2⟩
          case measure => simp [intOf]; omega
        · have hj64 : Hid (j = 64) := by unfold Hid; omega
          go_wp2
          go_roundw
          case rel =>
            refine ⟨k + 1, by omega, by go_num, ?_, hlj⟩
            have := hownj.out
            rw [hj64.out] at this
            unfold Hid
            rw [show (k + 1) * 64 = k * 64 + 64 from by omega]
            exact this
          case measure => simp [intOf]; omega
    · have hkn : Hid (k = n) := by unfold Hid; omega
      go_wp2
      go_ret2
      refine ⟨_, rfl, hbl.out, ?_⟩
      have := hown.out
      rwa [hkn.out] at this
theorem bread_o {v : Value} {len : Nat} {F : List UInt8} (a : Nat) (n : Int) (w : World) (h : Rw 64 w v len (bv F)) (ha : a ≤ 18446744073709551615) (hn1 : -9223372036854775808 ≤ n) (hn2 : n ≤ 9223372036854775807) :
    Calls Try.prog 9 #[v, .int .u64 a, .int .i64 n] w fun e w' => ∃ v', e = .returned (.tuple #[v', .int .i64 (readE len a n)]) ∧ Later w w' ∧ w'.ownsRow w.heap.size 5 1 v' (readL len F a n).length (bv (readL len F a n)) := by
  obtain ⟨hl, hm, ad, ca, rfl, _, hr⟩ := h
  rw [bv_length] at hl
  unfold readE readL
  by_cases h1 : 64 < len
  · simp only [if_pos h1]
    exact (bread_long ad len ca a n w h1 hm).mono fun e w' ⟨he, hw⟩ => ⟨_, he, by rw [hw]; exact Later.refl w, World.ownsRow_nil _ _ _ _⟩
  · simp only [if_neg h1]
    by_cases h2 : withinB len a n = true
    · simp only [h2, if_true]
      have h2' := h2
      simp [withinB] at h2'
      obtain ⟨k, rfl⟩ := Int.eq_ofNat_of_zero_le h2'.1
      rw [Int.toNat_natCast]
      refine (bread_yes ad len ca F a k w (by omega) hl (by omega) ?_).mono fun e w' he => ?_
      · rcases hr with rfl | hr
        · left; omega
        · exact .inr hr
      · rwa [seg_length F (a * 64) (k * 64) (by omega)]
    · have h2' : withinB len a n = false := by simpa using h2
      simp only [h2', Bool.false_eq_true, if_false]
      exact (bread_range ad len ca a n w (by omega) ha hn1 hn2 h2').mono fun e w' ⟨he, hw⟩ => ⟨_, he, by rw [hw]; exact Later.refl w, World.ownsRow_nil _ _ _ _⟩
theorem bread_c {v : Value} {len : Nat} {F : List UInt8} (a : Nat) (n : Int) (w : World) (h : Rw 64 w v len (bv F)) (ha : a ≤ 18446744073709551615) (hn1 : -9223372036854775808 ≤ n) (hn2 : n ≤ 9223372036854775807) :
    Calls Try.prog 9 #[v, .int .u64 a, .int .i64 n] w fun e w' => ∃ v', e = .returned (.tuple #[v', .int .i64 (readE len a n)]) ∧ Later w w' ∧ Bs w' v' (readL len F a n) :=
  (bread_o a n w h ha hn1 hn2).mono fun e w' ⟨v', he, hl, ho⟩ => ⟨v', he, hl, (Bs.of_owns ho).1⟩
end Go.Proofs.Ytgleopnehdnpdaa
