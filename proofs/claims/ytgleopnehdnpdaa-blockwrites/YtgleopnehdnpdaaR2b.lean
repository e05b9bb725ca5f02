import Derived.Test.YtgleopnehdnpdaaR2
namespace Go.Proofs.Ytgleopnehdnpdaa
open Go.ChangeShapes Go.WideShapes Go.ChangeAt Go.RowKit
set_option linter.unusedVariables false
set_option linter.unusedSimpArgs false

theorem Try.elem_block : Elem Try.prog 41 64 64 (.agg (Array.replicate 64 (.int .u8 0))) := by
  have h : (Try.prog.info? 41).map (fun i => (i.zero, i.size, i.bytes)) = some (some (.agg (Array.replicate 64 (.int .u8 0))), 64, 64) := by kernel_rfl
  obtain ⟨i, hi, h1, h2, h3⟩ := info_parts h
  exact ⟨i, hi, h1, h2, h3⟩
theorem Try.elem_u8 : Elem Try.prog 5 1 1 (.int .u8 0) := by
  obtain ⟨i, hi, h1, h2, h3⟩ := info_parts Try.info_u8
  exact ⟨i, hi, h1, h2, h3⟩

theorem rcopy_c {v : Value} {n : Nat} {F : List UInt8} (w : World) (B : Nat) (hB : B ≤ w.heap.size) (h : Rw 64 w v n (bv F)) (hn : n * 64 ≤ 140737488355328) :
    Calls Try.prog 13 #[v] w fun e w' => ∃ v', e = .returned v' ∧ Below B w w' ∧ w'.ownsRow B 41 64 v' n (bv F) := by
  have hown : Hid ((w.alloc (.cells #[] 41)).ownsRow B 41 64 (.slice (some ⟨w.heap.size, 0, none⟩) 0 0) 0 []) := World.ownsRow_lit w #[] 0 hB (by simp [maxLen]) rfl
  have hb : Hid (Below B w (w.alloc (.cells #[] 41))) := (Below.refl _ _).alloc hB _
  have hr := hide (h.later ((Later.refl w).alloc (.cells #[] 41)))
  have hlen := h.2.1
  unfold maxLen at hlen
  obtain ⟨_, _, a, cap, rfl, _, _⟩ := h
  go_enter Try.func13, Try.ntmps13
  go_wp2_with (at_builtin; refine wpList_append_rw Try.elem_block Try.underlying22 rfl (by decide) rfl (.tmp 3) (.tmp 4) rfl B _ 0 [] rfl hown.out _ n (bv F) rfl hr.out (bv_one F) ?c1 ?c2 ?c3 w hb.out ?_)
  case c1 => omega
  case c2 => unfold maxLen; omega
  case c3 => simp; omega
  intro v' w' ho hbl _
  go_wp2
  go_ret
  exact ⟨_, rfl, hbl, by simpa using ho⟩

theorem seg_add (l : List UInt8) (a i k : Nat) : seg l a (i + k) = seg l a i ++ seg l (a + i) k := by
  simp [seg, List.take_add, List.drop_drop]
theorem seg_seg (l : List UInt8) (a b k n : Nat) (h : b + k ≤ n) : seg (seg l a n) b k = seg l (a + b) k := by
  unfold seg
  rw [List.drop_take, List.take_take, List.drop_drop, Nat.min_eq_left (by omega)]

theorem owns_kept {w w' : World} {B : Nat} {e : TypeId} {sz : Nat} {v : Value} {n : Nat} {xs : List Value} (h : w.ownsRow B e sz v n xs) (hk : ∀ g, v.ownBlock = some g → w'.heap[g]? = w.heap[g]?) : w'.ownsRow B e sz v n xs := by
  refine ⟨h.1, ?_⟩
  rcases h.2 with hn | ⟨g, cap, cur, rfl, hb, hg, rest⟩
  · exact .inl hn
  · exact .inr ⟨g, cap, cur, rfl, hb, by rw [hk g rfl]; exact hg, rest⟩

theorem box_grown {w w' : World} {g : Nat} {t : TypeId} {xs : List Value} {B : Nat} {e : TypeId} {sz : Nat} {v : Value} {n : Nat} {ys : List Value} (hB : Box w g t xs) (ho : w.ownsRow B e sz v n ys) (hne : t ≠ e) (hg : w.grownBy w' v.ownBlock) : Box w' g t xs := by
  unfold Box
  rw [hg.block g hB.lt ?_]
  · exact hB
  · intro he
    rcases ho.2 with ⟨rfl, _⟩ | ⟨g', cap, cur, rfl, _, hg', _⟩
    · simp [Value.ownBlock] at he
    · simp [Value.ownBlock] at he
      subst he
      unfold Box at hB
      rw [hg'] at hB
      simp at hB
      exact hne hB.2.symm

set_option maxHeartbeats 2000000 in
theorem rread_yes (ba oa len ca : Nat) (F : List UInt8) (a n : Nat) (w : World) (hlen : len ≤ 64) (hF : F.length = len * 64) (ha : a + n ≤ len) (hr : n = 0 ∨ w.rangeAt ba oa (bv F)) :
    Calls Try.prog 10 #[.slice (some ⟨ba, oa, none⟩) len ca, .int .u64 a, .int .i64 n] w fun e w' => ∃ v, e = .returned (.tuple #[v, .int .i64 0]) ∧ Later w w' ∧ w'.ownsRow w.heap.size 5 1 v (n * 64) (bv (seg F (a * 64) (n * 64))) := by
  have hw : withinB len a n = true := by simp [withinB]; omega
  have Hr := hide hr
  clear hr
  go_enter Try.func10, Try.ntmps10
  go_wp2_with (go_at_call 12; refine (rwithin_c _ _ _ _ (by omega) (by omega)).mono ?_; rintro e w1 ⟨rfl, hw1⟩; have hw2 := hw1.symm; subst hw2; clear hw1)
  go_loopw [8, 9] (fun v i wr => ∃ k : Nat, k ≤ n ∧ i = .int .i64 k ∧ Hid (wr.ownsRow w.heap.size 5 1 v (k * 64) (bv (seg F (a * 64) (k * 64)))) ∧ Hid (Later w wr)) (fun _ i _ => n - (intOf i).toNat)
  case atStart => exact ⟨0, Nat.zero_le _, rfl, by simpa [Hid, seg_zero, bv] using World.ownsRow_nil _ _ _ _, Later.refl w⟩
  case round =>
    obtain ⟨k, hk, rfl, hown, hbl⟩ := hrel
    by_cases hlt : k < n
    · have hrg := hide (hbl.out.range (Hr.out.resolve_left (by omega)))
      have hx := hide (by have := range_part hrg.out ((a + k) * 64) 64; rwa [bv_part] at this)
      have hxl := hide (seg_length F ((a + k) * 64) 64 (by omega))
      have hown1 := hide (hown.out.alloc (.cells (Array.replicate 64 (.int .u8 0)) 41))
      have hbl1 := hide (hbl.out.alloc (.cells (Array.replicate 64 (.int .u8 0)) 41))
      have hbox := hide (Box.new wr 41 (Array.replicate 64 (.int .u8 0)))
      have hszr := hbl.out.size
      have hHB := hide hown.out.lt
      go_wp2_with (first
        | refine wpList_load_mid rfl 41 (.tmp 31) rfl ba (oa + (a + k) * 64) rfl (bv (seg F ((a + k) * 64) 64)) _ hx.out Try.underlying41 rfl (by rw [Try.info_block, bv_length, hxl.out]) ?_
        | refine wpList_store_new rfl 41 (.tmp 10) (.tmp 32) rfl wr.heap.size (bv (seg F ((a + k) * 64) 64)) rfl rfl _ hbox.out (by rw [bv_length, hxl.out]; simp) (by rw [bv_length, hxl.out, Try.info_block]) (bv_one _) w hbl1.out hszr ?_)
      intro w2 hbox2 hl2 hk2 hs2
      have hown2 : Hid (w2.ownsRow w.heap.size 5 1 u8 (k * 64) (bv (seg F (a * 64) (k * 64)))) := owns_kept hown1.out (fun g hg => hk2 g (by have := hHB.out g hg; omega))
      have Hbox2 := hide hbox2
      have Hl2 := hide hl2
      clear hk2 hs2 hbox2 hl2 hown1 hbl1 hbox hHB hx hrg hown hbl hszr
      generalize wr.heap.size = G at *
      go_wp2_with fail
      go_loopw [8, 11] (fun v i wq => ∃ j : Nat, j ≤ 64 ∧ i = .int .i64 j ∧ Hid (wq.ownsRow w.heap.size 5 1 v (k * 64 + j) (bv (seg F (a * 64) (k * 64 + j)))) ∧ Hid (Later w wq) ∧ Hid (Box wq G 41 (bv (seg F ((a + k) * 64) 64)))) (fun _ i _ => 64 - (intOf i).toNat)
      case atStart => exact ⟨0, Nat.zero_le _, rfl, hown2, Hl2, Hbox2⟩
      case round =>
        obtain ⟨j, hj, rfl, hownj, hlj, hboxj⟩ := hrel
        by_cases hltj : j < 64
        · have hXl := hxl.out
          have hbyte : wr.cell? ⟨G, j, none⟩ = some (.int .u8 ((seg F ((a + k) * 64) 64)[j].toNat : Int)) := by
            rw [hboxj.out.cell j, bv_get_lt _ j (by omega)]
          have hsn : Hid (seg F (a * 64) (k * 64 + (j + 1)) = seg F (a * 64) (k * 64 + j) ++ [(seg F ((a + k) * 64) 64)[j]]) := by
            unfold Hid
            rw [← Nat.add_assoc, seg_snoc F (a * 64) (k * 64 + j) (by omega)]
            congr 2
            simp [seg]
            congr 1
            omega
          have hsz := hlj.out.size
          have hBr := hide (hlj.out.alloc (.cells #[.int .u8 ((seg F ((a + k) * 64) 64)[j].toNat : Int)] 5))
          have hbxr := hide (hboxj.out.alloc (.cells #[.int .u8 ((seg F ((a + k) * 64) 64)[j].toNat : Int)] 5))
          have hor := hide (hownj.out.alloc (.cells #[.int .u8 ((seg F ((a + k) * 64) 64)[j].toNat : Int)] 5))
          have hone := hide (Bs.one wr (seg F ((a + k) * 64) 64)[j] 5)
          generalize (seg F ((a + k) * 64) 64)[j] = c at *
          clear hownj hboxj hlj
          go_wp2_with (at_builtin; refine wpList_append_bs rfl (.tmp 37) (.tmp 41) rfl w.heap.size _ (k * 64 + j) _ rfl hor.out _ [c] rfl hone.out ?c1 ?c2 w hBr.out ?_)
          case c1 => simp; omega
          case c2 => simp; omega
          intro v' w' ho' hb' hg'
          have R : Hid (w'.ownsRow w.heap.size 5 1 v' (k * 64 + (j + 1)) (bv (seg F (a * 64) (k * 64 + (j + 1)))) ∧ Later w w' ∧ Box w' G 41 (bv (seg F ((a + k) * 64) 64))) := by
            refine ⟨?_, hb', box_grown hbxr.out hor.out (by decide) hg'⟩
            rw [hsn.out]
            exact ho'
          clear ho' hb' hg' hbyte hor hone hbxr hBr
          go_wp2
          go_roundw
          case rel => exact ⟨j + 1, by omega, by go_num, R.out.1, R.out.2.1, R.out.2.2⟩
          case measure => simp [intOf]; omega
        · have hj64 : Hid (j = 64) := by unfold Hid; omega
          go_wp2
          go_roundw
          case rel =>
            refine ⟨k + 1, by omega, by go_num, ?_, hlj⟩
            have := hownj.out
            rw [hj64.out] at this
            unfold Hid
            rw [show (k + 1) * 64 = k * 64 + 64 from by omega]
            exact this
          case measure => simp [intOf]; omega
    · have hkn : Hid (k = n) := by unfold Hid; omega
      go_wp2
      go_ret2
      refine ⟨_, rfl, hbl.out, ?_⟩
      have := hown.out
      rwa [hkn.out] at this

theorem rread_zero (ad : Option Addr) (len ca : Nat) (a : Nat) (w : World) (hlen : len ≤ 64) (ha : a ≤ len) :
    Calls Try.prog 10 #[.slice ad len ca, .int .u64 a, .int .i64 0] w fun e w' => e = .returned (.tuple #[.slice none 0 0, .int .i64 0]) ∧ w' = w := by
  have hw : withinB len a 0 = true := by simp [withinB]; omega
  go_enter Try.func10, Try.ntmps10
  go_wp2_with (go_at_call 12; refine (rwithin_c _ _ _ _ (by omega) (by omega)).mono ?_; rintro e w1 ⟨rfl, hw1⟩; have hw2 := hw1.symm; subst hw2; clear hw1)
  refine wp_loop_rounds 1 ?_
  rw [rounds_succ]
  go_wp2
  go_ret2
  exact ⟨rfl, rfl⟩
theorem rread_long (ad : Option Addr) (len ca : Nat) (a : Nat) (n : Int) (w : World) (hlen : 64 < len) (hm : len ≤ maxLen) :
    Calls Try.prog 10 #[.slice ad len ca, .int .u64 a, .int .i64 n] w fun e w' => e = .returned (.tuple #[.slice none 0 0, .int .i64 4]) ∧ w' = w := by
  unfold maxLen at hm
  go_enter Try.func10, Try.ntmps10
  go_wp2
  go_ret2
  exact ⟨rfl, rfl⟩
theorem rread_range (ad : Option Addr) (len ca : Nat) (a : Nat) (n : Int) (w : World) (hlen : len ≤ 64) (ha : a ≤ 18446744073709551615) (hw : withinB len a n = false) :
    Calls Try.prog 10 #[.slice ad len ca, .int .u64 a, .int .i64 n] w fun e w' => e = .returned (.tuple #[.slice none 0 0, .int .i64 5]) ∧ w' = w := by
  go_enter Try.func10, Try.ntmps10
  go_wp2_with (go_at_call 12; refine (rwithin_c _ _ _ _ (by omega) (by omega)).mono ?_; rintro e w1 ⟨rfl, hw1⟩; have hw2 := hw1.symm; subst hw2; clear hw1)
  go_ret2
  exact ⟨rfl, rfl⟩

/-- what is read of a store of len blocks, the bytes F -/
def readE (len : Nat) (a : Nat) (n : Int) : Int := if 64 < len then 4 else if withinB len a n then 0 else 5
def readL (len : Nat) (F : List UInt8) (a : Nat) (n : Int) : List UInt8 := if 64 < len then [] else if withinB len a n then seg F (a * 64) (n.toNat * 64) else []
theorem rread_c {v : Value} {len : Nat} {F : List UInt8} (a : Nat) (n : Int) (w : World) (h : Rw 64 w v len (bv F)) (ha : a ≤ 18446744073709551615) :
    Calls Try.prog 10 #[v, .int .u64 a, .int .i64 n] w fun e w' => ∃ v', e = .returned (.tuple #[v', .int .i64 (readE len a n)]) ∧ Later w w' ∧ w'.ownsRow w.heap.size 5 1 v' (readL len F a n).length (bv (readL len F a n)) := by
  obtain ⟨hl, hm, ad, ca, rfl, _, hr⟩ := h
  rw [bv_length] at hl
  unfold readE readL
  by_cases h1 : 64 < len
  · simp only [if_pos h1]
    exact (rread_long ad len ca a n w h1 hm).mono fun e w' ⟨he, hw⟩ => ⟨_, he, by rw [hw]; exact Later.refl w, World.ownsRow_nil _ _ _ _⟩
  · simp only [if_neg h1]
    by_cases h2 : withinB len a n = true
    · simp only [h2, if_true]
      have h2' := h2
      simp [withinB] at h2'
      obtain ⟨k, rfl⟩ := Int.eq_ofNat_of_zero_le h2'.1
      rw [Int.toNat_natCast]
      by_cases h0 : k = 0
      · subst h0
        refine (rread_zero ad len ca a w (by omega) (by omega)).mono fun e w' ⟨he, hw⟩ => ⟨_, he, by rw [hw]; exact Later.refl w, ?_⟩
        simpa [seg_zero, bv] using World.ownsRow_nil w' _ _ _
      · rcases hr with rfl | ⟨ba, oa, rfl, hr⟩
        · omega
        · refine (rread_yes ba oa len ca F a k w (by omega) hl (by omega) (.inr hr)).mono fun e w' he => ?_
          rwa [seg_length F (a * 64) (k * 64) (by omega)]
    · have h2' : withinB len a n = false := by simpa using h2
      simp only [h2', Bool.false_eq_true, if_false]
      exact (rread_range ad len ca a n w (by omega) ha h2').mono fun e w' ⟨he, hw⟩ => ⟨_, he, by rw [hw]; exact Later.refl w, World.ownsRow_nil _ _ _ _⟩
end Go.Proofs.Ytgleopnehdnpdaa
