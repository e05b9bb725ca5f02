import Derived.Test.YtgleopnehdnpdaaB2r
import Derived.Test.YtgleopnehdnpdaaB2p
import Derived.Test.YtgleopnehdnpdaaB2m
import Derived.Test.YtgleopnehdnpdaaB2s
namespace Go.Proofs.Ytgleopnehdnpdaa
open Go.ChangeShapes Go.WideShapes Go.ChangeAt Go.RowKit
set_option linter.unusedVariables false
set_option linter.unusedSimpArgs false

theorem bwrite_long (ad : Option Addr) (len ca : Nat) (vb : Value) (a : Nat) (w : World) (hlen : 64 < len) (hm : len ≤ maxLen) :
    Calls Try.prog 14 #[.slice ad len ca, .int .u64 a, vb] w fun e w' => e = .returned (.tuple #[.slice none 0 0, .int .i64 4]) ∧ w' = w := by
  unfold maxLen at hm
  go_enter Try.func14, Try.ntmps14
  go_wp2
  go_ret2
  exact ⟨rfl, rfl⟩
theorem bwrite_form {vb : Value} {l : List UInt8} (ad : Option Addr) (len ca : Nat) (a : Nat) (w : World) (hlen : len ≤ 64) (hb : Bs w vb l) (hl : l.length ≤ 100000) (hf : l.length % 64 ≠ 0) :
    Calls Try.prog 14 #[.slice ad len ca, .int .u64 a, vb] w fun e w' => e = .returned (.tuple #[.slice none 0 0, .int .i64 3]) ∧ Later w w' := by
  have HB := hide hb
  obtain ⟨_, ab, cb, rfl, _, _⟩ := hb
  obtain ⟨r, hr⟩ : ∃ r : Nat, r = l.length % 64 := ⟨_, rfl⟩
  have Hr := hide hr
  have hrne : r ≠ 0 := by omega
  have hr1 : r < 64 := by omega
  have hb' : ((r : Int) != 0) = true := by rw [bne_iff_ne]; omega
  clear hr hf
  go_enter Try.func14, Try.ntmps14
  go_wp2_with fail
  refine (bsplit_o w HB.out hl).mono ?_
  rintro e w1 ⟨v1, v2, rfl, hl1, ho1, ho2⟩
  have L1 := hide hl1
  obtain ⟨a2, c2, rfl⟩ := (Rw.of_owns ho2).shape
  rw [← Hr.out]
  clear ho1 ho2 hl1
  go_wp2_with fail
  go_ret2
  exact ⟨rfl, L1.out⟩
theorem bwrite_range {vb : Value} {l : List UInt8} (ad : Option Addr) (len ca : Nat) (a : Nat) (w : World) (hlen : len ≤ 64) (hb : Bs w vb l) (hl : l.length ≤ 100000) (hf : l.length % 64 = 0) (ha : a ≤ 18446744073709551615) (hw : withinB len a ((l.length : Int) / 64) = false) :
    Calls Try.prog 14 #[.slice ad len ca, .int .u64 a, vb] w fun e w' => e = .returned (.tuple #[.slice none 0 0, .int .i64 5]) ∧ Later w w' := by
  have HB := hide hb
  obtain ⟨_, ab, cb, rfl, _, _⟩ := hb
  obtain ⟨n, hn⟩ : ∃ n : Nat, n = l.length / 64 := ⟨_, rfl⟩
  have Hn := hide hn
  have hq : ((l.length : Int) / 64) = (n : Int) := by omega
  rw [hq] at hw
  have Hf := hide hf
  have hn1 : n ≤ 2000 := by omega
  clear hn hf hq
  go_enter Try.func14, Try.ntmps14
  go_wp2_with fail
  refine (bsplit_o w HB.out hl).mono ?_
  rintro e w1 ⟨v1, v2, rfl, hl1, ho1, ho2⟩
  have L1 := hide hl1
  rw [← Hn.out] at ho1
  rw [Hf.out] at ho2
  obtain ⟨a1, c1, rfl⟩ := (Rw.of_owns ho1).shape
  obtain ⟨a2, c2, rfl⟩ := (Rw.of_owns ho2).shape
  clear ho1 ho2 hl1
  go_wp2_with (go_at_call 11; refine (bwithin_w _ _ _ _ (by omega) (by omega) (by omega) (by omega) (by omega)).mono ?_; rintro e w2 ⟨rfl, hw1⟩; have hw2 := hw1.symm; subst hw2; clear hw1)
  go_ret2
  exact ⟨rfl, L1.out⟩

set_option maxHeartbeats 2000000 in
theorem bwrite_yes {v vb : Value} {len : Nat} {F l : List UInt8} (n a : Nat) (w : World) (h : Rw 64 w v len (bv F)) (hb : Bs w vb l) (hlen : len ≤ 64) (hl : l.length = n * 64) (ha : a + n ≤ len) :
    Calls Try.prog 14 #[v, .int .u64 a, vb] w fun e w' => ∃ v', e = .returned (.tuple #[v', .int .i64 0]) ∧ Later w w' ∧ w'.ownsRow w.heap.size 41 64 v' len (bv (over F (a * 64) l)) := by
  have hw : withinB len a n = true := by simp [withinB]; omega
  have hFl := h.1
  rw [bv_length] at hFl
  have HF := hide hFl
  have H := hide h
  have HB := hide hb
  obtain ⟨hx1, hm, ad, ca, rfl, hx2, hx3⟩ := h
  obtain ⟨hmb, ab, cb, rfl, hx4, hd⟩ := hb
  clear hx1 hx2 hx3 hx4
  have Hq : Hid (l.length / 64 = n) := by unfold Hid; omega
  have Hm : Hid (l.length % 64 = 0) := by unfold Hid; omega
  have Hl := hide hl
  clear hd hFl hl hmb
  go_enter Try.func14, Try.ntmps14
  go_wp2_with fail
  refine (bsplit_o w HB.out (by rw [Hl.out]; omega)).mono ?_
  rintro e w1 ⟨v1, v2, rfl, hl1, ho1, ho2⟩
  rw [Hq.out, List.take_of_length_le (by rw [Hl.out]; exact Nat.le_refl _)] at ho1
  rw [Hm.out] at ho2
  have R1 := hide (Rw.of_owns ho1)
  obtain ⟨a1, c1, rfl⟩ := R1.out.shape
  obtain ⟨a2, c2, rfl⟩ := (Rw.of_owns ho2).shape
  have H1 := hide (H.out.later hl1)
  have L1 := hide hl1
  clear ho1 ho2 hl1 H HB
  go_wp2_with (first
    | (go_at_call 11; refine (bwithin_w _ _ _ _ (by omega) (by omega) (by omega) (by omega) (by omega)).mono ?_; rintro e w2 ⟨rfl, hw1⟩; have hw2 := hw1.symm; subst hw2; clear hw1)
    | (at_make; refine wpList_make_of Try.elem_z64 rfl _ _ 22 rfl Try.underlying22 _ _ len rfl rfl rfl rfl ?c1 ?c2 _ (made64 len) ?_))
  case c1 => omega
  case c2 => unfold maxLen; omega
  rintro w2 ho2 hl2
  have hG := L1.out.size
  have L2 := hide hl2
  have O2 := hide ho2
  have H2 := hide (H1.out.later hl2)
  clear ho2 hl2 H1
  obtain ⟨G, hGe⟩ : ∃ G, G = w1.heap.size := ⟨_, rfl⟩
  have HG := hide hGe
  have L2' : Hid (Below G w1 w2) := by unfold Hid; rw [hGe]; exact L2.out
  have O2' : Hid (w2.ownsRow G 41 64 (.slice (some ⟨G, 0, none⟩) len len) len (bv (List.replicate (len * 64) 0))) := by unfold Hid; rw [hGe]; exact O2.out
  rw [← hGe]
  rw [← hGe] at hG
  clear L2 O2 hGe
  go_wp2_with (refine wpList_copy_rw Try.underlying22 Try.info_block rfl (.tmp 32) (.tmp 33) rfl _ len len rfl _ len (bv F) rfl H2.out (bv_one _) (Nat.le_refl _) G G len len 0 _ O2'.out ?g1 (.inr rfl) w1 L2'.out (Nat.le_refl _) ?_)
  case g1 => omega
  intro w3 ho3 hb3 hk3 hs3
  have O3 : Hid (w3.ownsRow G 41 64 (.slice (some ⟨G, 0, none⟩) len len) len (bv F)) := by
    rw [laid_bv, over_full _ _ (by simp; have := HF.out; omega)] at ho3
    exact ho3
  have L3 := hide hb3
  have R3 := hide (R1.out.later (by unfold Later; rw [← HG.out]; exact hb3))
  clear ho3 hb3 hs3 hk3 O2' L2' H2 R1
  go_wp2_with (refine wpList_slice_lo' Try.underlying22 Try.info_block rfl (.tmp 35) (.tmp 36) rfl _ len len rfl .u64 _ a rfl rfl ?h1 ?_)
  case h1 => omega
  intro dp hdp
  have Hdp : Hid (n = 0 ∨ dp = some ⟨G, a * 64, none⟩) := by
    rcases hdp with h | h
    · left; omega
    · right; first | (rw [h]; done) | (rw [h]; simp [Addr.add_mid])
  clear hdp
  go_wp2_with (refine wpList_copy_rw Try.underlying22 Try.info_block rfl (.tmp 37) (.tmp 38) rfl dp (len - a) (len - a) rfl _ n (bv l) rfl R3.out (bv_one _) ?k1 G G len len (a * 64) _ O3.out ?k2 Hdp.out w1 L3.out (Nat.le_refl _) ?_)
  case k1 => omega
  case k2 => omega
  intro w4 ho4 hb4 hk4 hs4
  have O4 := hide (owns_rebase ho4 hG)
  have L4 := hide (L1.out.trans (show Later w1 w4 by unfold Later; rw [← HG.out]; exact hb4))
  clear ho4 hb4 hk4 hs4 O3 L3 R3
  go_wp2_with fail
  go_ret2
  refine ⟨_, rfl, L4.out, ?_⟩
  rw [← laid_bv]
  exact O4.out

theorem bwrite_o {v vb : Value} {len : Nat} {F l : List UInt8} (a : Nat) (w : World) (h : Rw 64 w v len (bv F)) (hb : Bs w vb l) (ha : a ≤ 18446744073709551615) (hl : l.length ≤ 100000) :
    Calls Try.prog 14 #[v, .int .u64 a, vb] w fun e w' => ∃ v', e = .returned (.tuple #[v', .int .i64 (writeE len a l.length)]) ∧ Later w w' ∧ w'.ownsRow w.heap.size 41 64 v' (writeN len a l.length) (bv (writeL len F a l)) := by
  have hh := h
  have hbb := hb
  obtain ⟨_, hm, ad, ca, rfl, _, _⟩ := h
  obtain ⟨hmb, ab, cb, rfl, _, _⟩ := hb
  unfold writeL writeN
  by_cases h1 : 64 < len
  · have e : writeE len a l.length = 4 := by simp [writeE, h1]
    rw [e]
    exact (bwrite_long ad len ca _ a w h1 hm).mono fun e w' ⟨he, hw⟩ => ⟨_, he, by rw [hw]; exact Later.refl w, World.ownsRow_nil _ _ _ _⟩
  · by_cases h2 : l.length % 64 ≠ 0
    · have e : writeE len a l.length = 3 := by simp [writeE, h1, h2]
      rw [e]
      exact (bwrite_form ad len ca a w (by omega) hbb hl h2).mono fun e w' ⟨he, hw⟩ => ⟨_, he, hw, World.ownsRow_nil _ _ _ _⟩
    · by_cases h3 : withinB len a ((l.length : Int) / 64) = true
      · have e : writeE len a l.length = 0 := by simp [writeE, h1, h2, h3]
        rw [e, if_pos rfl, if_pos rfl]
        have h3' := h3
        simp [withinB] at h3'
        exact bwrite_yes (l.length / 64) a w hh hbb (by omega) (by omega) (by omega)
      · have h3' : withinB len a ((l.length : Int) / 64) = false := by simpa using h3
        have e : writeE len a l.length = 5 := by simp [writeE, h1, h2, h3']
        rw [e]
        exact (bwrite_range ad len ca a w (by omega) hbb hl (by omega) ha h3').mono fun e w' ⟨he, hw⟩ => ⟨_, he, hw, World.ownsRow_nil _ _ _ _⟩
theorem bwrite_c {v vb : Value} {len : Nat} {F l : List UInt8} (a : Nat) (w : World) (h : Rw 64 w v len (bv F)) (hb : Bs w vb l) (ha : a ≤ 18446744073709551615) (hl : l.length ≤ 100000) :
    Calls Try.prog 14 #[v, .int .u64 a, vb] w fun e w' => ∃ v', e = .returned (.tuple #[v', .int .i64 (writeE len a l.length)]) ∧ Later w w' ∧ Rw 64 w' v' (writeN len a l.length) (bv (writeL len F a l)) :=
  (bwrite_o a w h hb ha hl).mono fun e w' ⟨v', he, hl, ho⟩ => ⟨v', he, hl, Rw.of_owns ho⟩
end Go.Proofs.Ytgleopnehdnpdaa
