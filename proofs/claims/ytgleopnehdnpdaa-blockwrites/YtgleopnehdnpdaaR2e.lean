import Derived.Test.YtgleopnehdnpdaaR2d
namespace Go.Proofs.Ytgleopnehdnpdaa
open Go.ChangeShapes Go.WideShapes Go.ChangeAt Go.RowKit
set_option linter.unusedVariables false
set_option linter.unusedSimpArgs false

/-- bytes laid over others from a place on -/
def over (F : List UInt8) (o : Nat) (l : List UInt8) : List UInt8 := F.take o ++ l ++ F.drop (o + l.length)
theorem over_get (F : List UInt8) (o : Nat) (l : List UInt8) (h : o + l.length ≤ F.length) (i : Nat) : (over F o l)[i]? = if o ≤ i ∧ i < o + l.length then l[i - o]? else F[i]? := by
  unfold over
  have h1 : (F.take o).length = o := by simp; omega
  by_cases c1 : i < o
  · rw [if_neg (by omega), List.append_assoc, List.getElem?_append_left (by omega), List.getElem?_take_of_lt c1]
  · by_cases c2 : i < o + l.length
    · rw [if_pos (by omega), List.getElem?_append_left (by simp; omega), List.getElem?_append_right (by omega), h1]
    · rw [if_neg (by omega), List.getElem?_append_right (by simp; omega), List.getElem?_drop]
      congr 1
      simp
      omega
theorem over_length (F : List UInt8) (o : Nat) (l : List UInt8) (h : o + l.length ≤ F.length) : (over F o l).length = F.length := by simp [over]; omega
theorem over_nil (F : List UInt8) (o : Nat) : over F o [] = F := by simp [over]
theorem over_over (F : List UInt8) (o : Nat) (l m : List UInt8) (h : o + l.length + m.length ≤ F.length) : over (over F o l) (o + l.length) m = over F o (l ++ m) := by
  apply List.ext_getElem?
  intro i
  rw [over_get (over F o l) (o + l.length) m (by rw [over_length _ _ _ (by omega)]; omega), over_get F o l (by omega), over_get F o (l ++ m) (by simp; omega)]
  simp only [List.length_append]
  by_cases c1 : o + l.length ≤ i ∧ i < o + l.length + m.length
  · rw [if_pos c1, if_pos (by omega), List.getElem?_append_right (by omega)]
    congr 1; omega
  · rw [if_neg c1]
    by_cases c2 : o ≤ i ∧ i < o + l.length
    · rw [if_pos c2, if_pos (by omega), List.getElem?_append_left (by omega)]
    · rw [if_neg c2, if_neg (by omega)]
theorem bv_over (F : List UInt8) (o : Nat) (l : List UInt8) : bv (over F o l) = (bv F).take o ++ bv l ++ (bv F).drop (o + (bv l).length) := by simp [over, bv, List.map_take, List.map_drop]

theorem rwrite_long (ad : Option Addr) (len ca : Nat) (vb : Value) (a : Nat) (w : World) (hlen : 64 < len) (hm : len ≤ maxLen) :
    Calls Try.prog 15 #[.slice ad len ca, .int .u64 a, vb] w fun e w' => e = .returned (.tuple #[.slice none 0 0, .int .i64 4]) ∧ w' = w := by
  unfold maxLen at hm
  go_enter Try.func15, Try.ntmps15
  go_wp2
  go_ret2
  exact ⟨rfl, rfl⟩
theorem rwrite_form (ad ab : Option Addr) (len ca lb cb : Nat) (a : Nat) (w : World) (hlen : len ≤ 64) (hm : lb ≤ maxLen) (hf : lb % 64 ≠ 0) :
    Calls Try.prog 15 #[.slice ad len ca, .int .u64 a, .slice ab lb cb] w fun e w' => e = .returned (.tuple #[.slice none 0 0, .int .i64 3]) ∧ w' = w := by
  unfold maxLen at hm
  have hb : ((lb : Int) % 64 != 0) = true := by rw [bne_iff_ne]; omega
  go_enter Try.func15, Try.ntmps15
  go_wp2
  go_ret2
  exact ⟨rfl, rfl⟩
theorem rwrite_range (ad ab : Option Addr) (len ca lb cb : Nat) (a : Nat) (w : World) (hlen : len ≤ 64) (hm : lb ≤ maxLen) (hf : lb % 64 = 0) (ha : a ≤ 18446744073709551615) (hw : withinB len a ((lb : Int) / 64) = false) :
    Calls Try.prog 15 #[.slice ad len ca, .int .u64 a, .slice ab lb cb] w fun e w' => e = .returned (.tuple #[.slice none 0 0, .int .i64 5]) ∧ w' = w := by
  unfold maxLen at hm
  have hb : ((lb : Int) % 64 != 0) = false := by simp; omega
  go_enter Try.func15, Try.ntmps15
  go_wp2_with (go_at_call 12; refine (rwithin_c _ _ _ _ (by omega) (by omega)).mono ?_; rintro e w1 ⟨rfl, hw1⟩; have hw2 := hw1.symm; subst hw2; clear hw1)
  go_ret2
  exact ⟨rfl, rfl⟩

set_option maxHeartbeats 2000000 in
theorem rwrite_yes {v vb : Value} {len : Nat} {F l : List UInt8} (n a : Nat) (w : World) (h : Rw 64 w v len (bv F)) (hb : Bs w vb l) (hlen : len ≤ 64) (hl : l.length = n * 64) (ha : a + n ≤ len) :
    Calls Try.prog 15 #[v, .int .u64 a, vb] w fun e w' => ∃ v', e = .returned (.tuple #[v', .int .i64 0]) ∧ Later w w' ∧ w'.ownsRow w.heap.size 41 64 v' len (bv (over F (a * 64) l)) := by
  have hw : withinB len a n = true := by simp [withinB]; omega
  have hFl := h.1
  rw [bv_length] at hFl
  have HF := hide hFl
  have Hl := hide hl
  have H := hide h
  have HB := hide hb
  obtain ⟨_, hm, ad, ca, rfl, _, _⟩ := h
  obtain ⟨hmb, ab, cb, rfl, _, hd⟩ := hb
  clear hd
  have hlb : l.length = n * 64 := hl
  generalize l.length = lb at hlb HB
  subst hlb
  clear hFl hl
  have hbn : ((n : Int) * 64 % 64 != 0) = false := by simp
  have hq : ((n : Int) * 64 / 64) = (n : Int) := by omega
  go_enter Try.func15, Try.ntmps15
  go_wp2_with (go_at_call 12; refine (rwithin_c _ _ _ _ (by omega) (by omega)).mono ?_; rintro e w1 ⟨rfl, hw1⟩; have hw2 := hw1.symm; subst hw2; clear hw1)
  refine (rcopy_c w w.heap.size (Nat.le_refl _) H.out (by omega)).mono ?_
  rintro e w1 ⟨v1, rfl, hb1, ho1⟩
  have hvv := ho1.2
  have Hl1 : Hid (Later w w1) := hb1
  have Ho1 := hide ho1
  have HB1 := hide (HB.out.below hb1 (Nat.le_refl _))
  clear hb1 ho1 H hbn hq
  by_cases hn0 : n = 0
  · subst hn0
    have hl0 : l = [] := List.eq_nil_of_length_eq_zero (by have := Hl.out; omega)
    go_wp2
    refine wp_loop_rounds 1 ?_
    rw [rounds_succ]
    go_wp2
    go_ret2
    refine ⟨_, rfl, Hl1.out, ?_⟩
    rw [hl0, over_nil]
    exact Ho1.out
  · obtain ⟨g, cap, rfl, hgw⟩ : ∃ g cap, v1 = .slice (some ⟨g, 0, none⟩) len cap ∧ w.heap.size ≤ g := by
      rcases hvv with ⟨_, h0⟩ | ⟨g, cap, cur, h1, h2, _⟩
      · omega
      · exact ⟨g, cap, h1, h2⟩
    clear hvv
    go_wp2
    go_loopw [10] (fun i wr => ∃ k : Nat, k ≤ n ∧ i = .int .i64 k ∧ Hid (wr.ownsRow w.heap.size 41 64 (.slice (some ⟨g, 0, none⟩) len cap) len (bv (over F (a * 64) (l.take (k * 64))))) ∧ Hid (Later w wr)) (fun i _ => n - (intOf i).toNat)
    case atStart => exact ⟨0, Nat.zero_le _, rfl, by rw [Nat.zero_mul, List.take_zero, over_nil]; exact Ho1, Hl1⟩
    case round =>
      obtain ⟨k, hk, rfl, hown, hlat⟩ := hrel
      by_cases hlt : k < n
      · have hbs := hide (HB.out.below hlat.out (Nat.le_refl _))
        go_wp2_with fail
        rw [show (64 * (k : Int)) = ((k * 64 : Nat) : Int) from by omega]
        refine (of_c (k * 64) _ hbs.out (by rw [Hl.out]; omega)).mono ?_
        rintro e w2 ⟨rfl, hl2⟩
        have hown2 := owns_kept hown.out (w' := w2) (fun g' hg => hl2.block g' (hown.out.lt g' hg).2)
        have hlat2 := hide (hlat.out.trans hl2)
        have hxl := hide (seg_length l (k * 64) 64 (by rw [Hl.out]; omega))
        have hbxl : Hid ((bv (seg l (k * 64) 64)).toArray.size = 64) := by unfold Hid; simp [bv_length, hxl.out]
        have hth := hide (owns_there hown2 ((a + k) * 64) 64 (by omega))
        have hst := hide (owns_setCells hown2 (bv (seg l (k * 64) 64)) ((a + k) * 64) (by rw [bv_length, hxl.out]; omega)).1
        have hlat3 := hide (hlat2.out.setCells hgw (bv (seg l (k * 64) 64)) ((a + k) * 64))
        clear hown2 hl2 hown hlat hbs
        go_wp2_with (refine wpList_store_mid rfl 41 (.tmp 43) (.tmp 42) rfl g ((a + k) * 64) (bv (seg l (k * 64) 64)).toArray rfl rfl (by rw [hbxl.out]; exact hth.out) (by rw [hbxl.out]; exact Try.info_block) (all_oneCell_toArray (bv_one _)) ?_)
        go_roundw
        case rel =>
          refine ⟨k + 1, by omega, by go_num, ?_, hlat3⟩
          have e : over F (a * 64) (l.take ((k + 1) * 64)) = over (over F (a * 64) (l.take (k * 64))) ((a + k) * 64) (seg l (k * 64) 64) := by
            have h1 := Hl.out
            have h2 := HF.out
            have h3 : (l.take (k * 64)).length = k * 64 := by simp; omega
            have := over_over F (a * 64) (l.take (k * 64)) (seg l (k * 64) 64) (by rw [h3, hxl.out]; omega)
            rw [h3, ← take_snoc_seg] at this
            rw [show (a + k) * 64 = a * 64 + k * 64 from by omega, this, show (k + 1) * 64 = k * 64 + 64 from by omega]
          unfold Hid
          rw [e, bv_over]
          exact hst.out
        case measure => simp [intOf]; omega
      · have hkn : Hid (k = n) := by unfold Hid; omega
        go_wp2
        go_ret2
        refine ⟨_, rfl, hlat.out, ?_⟩
        have := hown.out
        rwa [hkn.out, List.take_of_length_le (by rw [Hl.out]; exact Nat.le_refl _)] at this

def writeE (len a lb : Nat) : Int := if 64 < len then 4 else if lb % 64 ≠ 0 then 3 else if withinB len a ((lb : Int) / 64) then 0 else 5
def writeL (len : Nat) (F : List UInt8) (a : Nat) (l : List UInt8) : List UInt8 := if writeE len a l.length = 0 then over F (a * 64) l else []
def writeN (len a lb : Nat) : Nat := if writeE len a lb = 0 then len else 0
theorem rwrite_c {v vb : Value} {len : Nat} {F l : List UInt8} (a : Nat) (w : World) (h : Rw 64 w v len (bv F)) (hb : Bs w vb l) (ha : a ≤ 18446744073709551615) :
    Calls Try.prog 15 #[v, .int .u64 a, vb] w fun e w' => ∃ v', e = .returned (.tuple #[v', .int .i64 (writeE len a l.length)]) ∧ Later w w' ∧ w'.ownsRow w.heap.size 41 64 v' (writeN len a l.length) (bv (writeL len F a l)) := by
  have hh := h
  have hbb := hb
  obtain ⟨_, hm, ad, ca, rfl, _, _⟩ := h
  obtain ⟨hmb, ab, cb, rfl, _, _⟩ := hb
  unfold writeL writeN
  by_cases h1 : 64 < len
  · have e : writeE len a l.length = 4 := by simp [writeE, h1]
    rw [e]
    exact (rwrite_long ad len ca _ a w h1 hm).mono fun e w' ⟨he, hw⟩ => ⟨_, he, by rw [hw]; exact Later.refl w, World.ownsRow_nil _ _ _ _⟩
  · by_cases h2 : l.length % 64 ≠ 0
    · have e : writeE len a l.length = 3 := by simp [writeE, h1, h2]
      rw [e]
      exact (rwrite_form ad ab len ca l.length cb a w (by omega) hmb h2).mono fun e w' ⟨he, hw⟩ => ⟨_, he, by rw [hw]; exact Later.refl w, World.ownsRow_nil _ _ _ _⟩
    · by_cases h3 : withinB len a ((l.length : Int) / 64) = true
      · have e : writeE len a l.length = 0 := by simp [writeE, h1, h2, h3]
        rw [e, if_pos rfl, if_pos rfl]
        have h3' := h3
        simp [withinB] at h3'
        exact rwrite_yes (l.length / 64) a w hh hbb (by omega) (by omega) (by omega)
      · have h3' : withinB len a ((l.length : Int) / 64) = false := by simpa using h3
        have e : writeE len a l.length = 5 := by simp [writeE, h1, h2, h3']
        rw [e]
        exact (rwrite_range ad ab len ca l.length cb a w (by omega) hmb (by omega) ha h3').mono fun e w' ⟨he, hw⟩ => ⟨_, he, by rw [hw]; exact Later.refl w, World.ownsRow_nil _ _ _ _⟩
def makeE (n : Int) : Int := if 0 ≤ n ∧ n ≤ 64 then 0 else 1
def makeN (n : Int) : Nat := if 0 ≤ n ∧ n ≤ 64 then n.toNat else 0
theorem rmake_c (n : Int) (c : UInt8) (w : World) :
    Calls Try.prog 21 #[.int .i64 n, .int .u8 (c.toNat : Int)] w fun e w' => ∃ v, e = .returned (.tuple #[v, .int .i64 (makeE n)]) ∧ Later w w' ∧ w'.ownsRow w.heap.size 41 64 v (makeN n) (bv (List.replicate (makeN n * 64) c)) := by
  unfold makeE makeN
  by_cases h : 0 ≤ n ∧ n ≤ 64
  · rw [if_pos h, if_pos h]
    obtain ⟨k, rfl⟩ := Int.eq_ofNat_of_zero_le h.1
    exact rmake_yes k c w (by omega)
  · rw [if_neg h, if_neg h]
    exact (rmake_no n _ w (by omega)).mono fun e w' ⟨he, hw⟩ => ⟨_, he, by rw [hw]; exact Later.refl w, World.ownsRow_nil _ _ _ _⟩
end Go.Proofs.Ytgleopnehdnpdaa
