import Derived.Deep.Cut
import Derived.Test.YtbcikndebaeahaaMAM
namespace Go.Proofs.Ytbcikndebaeahaa
open Go.ChangeShapes Go.WideShapes Go.ChangeAt Go.RowKit
set_option linter.unusedVariables false
set_option maxRecDepth 4000
set_option linter.unusedSimpArgs false
/-! The document's mode: Select. -/
def SelI (w : World) (g : Nat) (s : Sns) (W : World) : Prop := Later w W ∧ Box W g 30 (sc s)
theorem SelI.ne (w : World) (g : Nat) (s : Sns) {W : World} (h : SelI w g s W) : Nonempty (Held (SelI w g s)) := ⟨⟨W, h⟩⟩
def SelW (w : World) (g : Nat) (W : World) : Prop := Later w W ∧ Box W w.heap.size 30 (sc (0, 0, 0)) ∧ Box W g 30 (sc (5, 26, 0)) ∧ Box W (g + 1) 30 (sc (5, 38, 0)) ∧ w.heap.size < g
theorem SelW.later {w : World} {g : Nat} {W W' : World} (h : SelW w g W) (hl : Later W W') : SelW w g W' := ⟨h.1.trans hl, h.2.1.later hl, h.2.2.1.later hl, h.2.2.2.1.later hl, h.2.2.2.2⟩
theorem eqz8 (x : Nat) : (((x : Nat) : Int) == 0) = decide (x = 0) := by
  by_cases h : x = 0
  · subst h; rfl
  · have e : (((x : Nat) : Int) == 0) = false := by simp; omega
    rw [e]; simp [h]
theorem nez8 (M : Nat) (h : ¬ M = 0) : (((M : Nat) : Int) != 8) = decide (M ≠ 0 ∧ M ≠ 8) := by
  by_cases h8 : M = 8
  · subst h8; rfl
  · have e : (((M : Nat) : Int) != 8) = true := by simp; omega
    rw [e]; simp [h, h8]
set_option maxRecDepth 20000 in
set_option maxHeartbeats 8000000 in
theorem rselect_c {v : Value} {l : List UInt8} (ten caching : Bool) (w : World) (h : Bs w v l) (hl : l.length ≤ 1000000) : Calls Try.prog 33 #[v, .bool ten, .bool caching] w fun e w' => e = .returned (.tuple #[.bool (selR l ten caching).1, sval (selR l ten caching).2]) ∧ Later w w' := by
  have HB := hide h
  obtain ⟨n, hn⟩ : ∃ n, l.length = n := ⟨_, rfl⟩
  obtain ⟨_, ad, cap, rfl, hcap, hd⟩ := h
  clear hd
  rw [hn] at HB hl hcap ⊢
  have HN := hide hn
  clear hn
  have BR : Hid (Box _ w.heap.size 30 (sc (0, 0, 0))) := Box.new w 30 #[.int .i64 0, .int .i64 0, .int .i64 0]
  have LL := hide ((Later.refl w).alloc (.cells #[.int .i64 0, .int .i64 0, .int .i64 0] 30))
  go_enter Try.func33, Try.ntmps33
  go_wp2_with fail
  generalize w.alloc (.cells #[.int .i64 0, .int .i64 0, .int .i64 0] 30) = w1 at *
  refine (rof_c 5 26 0 _).mono ?_
  rintro e w2 ⟨rfl, hl2⟩
  replace LL := hide (LL.out.trans hl2)
  replace BR := hide (BR.out.later hl2)
  clear hl2
  go_wp2_with fail
  refine (rof_c 5 38 0 _).mono ?_
  rintro e w3 ⟨rfl, hl3⟩
  replace LL := hide (LL.out.trans hl3)
  replace BR := hide (BR.out.later hl3)
  clear hl3
  have hsz : Hid (w.heap.size < w3.heap.size) := BR.out.lt
  have B8 := hide ((Box.new w3 30 #[.int .i64 0, .int .i64 0, .int .i64 0]).alloc (.cells #[.int .i64 0, .int .i64 0, .int .i64 0] 30))
  have B9 : Hid (Box _ (w3.heap.size + 1) 30 (sc (0, 0, 0))) := Box.new' (w3.alloc (.cells #[.int .i64 0, .int .i64 0, .int .i64 0] 30)) 30 #[.int .i64 0, .int .i64 0, .int .i64 0] _ rfl _ (by simp)
  replace LL := hide ((LL.out.alloc (.cells #[.int .i64 0, .int .i64 0, .int .i64 0] 30)).alloc (.cells #[.int .i64 0, .int .i64 0, .int .i64 0] 30))
  replace BR := hide ((BR.out.alloc (.cells #[.int .i64 0, .int .i64 0, .int .i64 0] 30)).alloc (.cells #[.int .i64 0, .int .i64 0, .int .i64 0] 30))
  go_wp2_with (refine wpList_storeU rfl 30 (.tmp 8) (.tmp 15) rfl w3.heap.size 0 rfl (sc (5, 26, 0)) rfl Try.info_sense (sc_one _) _ _ B8.out (by simp) ?_)
  generalize w3.heap.size = g at *
  intro w4 h4
  replace B8 : Hid (Box w4 g 30 (sc (5, 26, 0))) := by rw [h4.out]; exact B8.out.all _ rfl
  replace B9 : Hid (Box w4 (g + 1) 30 (sc (0, 0, 0))) := by rw [h4.out]; exact B9.out.apart _ (by omega) _ _
  replace BR : Hid (Box w4 w.heap.size 30 (sc (0, 0, 0))) := by rw [h4.out]; exact BR.out.apart _ (by have := hsz.out; omega) _ _
  replace LL : Hid (Later w w4) := by rw [h4.out]; exact LL.out.setCells (by have := hsz.out; omega) _ _
  clear h4
  go_wp2_with (refine wpList_storeU rfl 30 (.tmp 9) (.tmp 16) rfl (g + 1) 0 rfl (sc (5, 38, 0)) rfl Try.info_sense (sc_one _) _ _ B9.out (by simp) ?_)
  intro w5 h5
  have HW : Hid (SelW w g w5) := by
    rw [h5.out]
    exact ⟨LL.out.setCells (by have := hsz.out; omega) _ _, BR.out.apart _ (by have := hsz.out; omega) _ _, B8.out.apart _ (by omega) _ _, B9.out.all _ rfl, hsz.out⟩
  clear h5 B8 B9 BR LL hsz
  by_cases h0 : n = 0
  · subst h0
    have HR : Hid (selR l ten caching = (caching, (0, 0, 0))) := by rw [Hid, selR, if_pos HN.out]
    go_wp2_with (refine wpList_storeU rfl 30 (.tmp 7) (.tmp 21) rfl w.heap.size 0 rfl (sc (0, 0, 0)) rfl Try.info_sense (sc_one _) _ _ HW.out.2.1 (by simp) ?_)
    intro wz hz
    have BZ : Hid (Box wz w.heap.size 30 (sc (0, 0, 0))) := by rw [hz.out]; exact HW.out.2.1.all _ rfl
    have LZ : Hid (Later w wz) := by rw [hz.out]; exact HW.out.1.setCells (Nat.le_refl _) _ _
    clear hz
    go_wp2
    refine bodyPost_ret (results_tmp_cell' rfl _ _ _ w.heap.size 0 rfl _ _ (run_loadVar_mid _ _ _ _ (sc (0, 0, 0)) _ BZ.out.range Try.underlying30 rfl Try.info_sense) rfl) rfl ⟨by rw [HR.out]; rfl, LZ.out⟩
  obtain ⟨A, hA⟩ : ∃ A, A = hdN ten := ⟨_, rfl⟩
  have hA8 : A = 8 ∨ A = 4 := by rw [hA]; cases ten <;> simp [hdN]
  have HA := hide hA
  clear hA
  go_upto_if 22 with fail
  go_cut [10] from 17 (fun x W => x = .int .i64 (A : Int) ∧ Hid (SelW w g W))
  case first =>
    cases ten with
    | true =>
      go_wp2
      go_meet
      exact ⟨by rw [HA.out]; rfl, HW⟩
    | false =>
      go_wp2
      go_meet
      exact ⟨by rw [HA.out]; rfl, HW⟩
  case rest =>
    clear HW
    obtain ⟨rfl, HW⟩ := hcut
    by_cases h1 : n < A
    · have HR : Hid (selR l ten caching = (false, (5, 26, 0))) := by rw [Hid, selR, if_neg (by rw [HN.out]; exact h0), if_pos (by rw [HN.out, ← HA.out]; exact h1)]
      go_wp2_with fail
      have BQ := hide HW.out.2.2.1
      refine wp_region_held (SelI w g (5, 26, 0)) (fun a b hl h => ⟨h.1.trans hl, h.2.later hl⟩) ⟨HW.out.1, BQ.out⟩ [(0, false), (1, false), (2, true)] (by kernel_rfl) (by kernel_rfl) (by kernel_rfl) (by kernel_rfl) ?_
      haveI := SelI.ne w g (5, 26, 0) ⟨HW.out.1, BQ.out⟩
      have s0 := fun p : Held (SelI w g (5, 26, 0)) => p.h.2.cell 0
      have s1 := fun p : Held (SelI w g (5, 26, 0)) => p.h.2.cell 1
      have s2 := fun p : Held (SelI w g (5, 26, 0)) => p.h.2.cell 2
      replace HW := hide (HW.out.later (Later.refl _).drew)
      replace BQ := hide (BQ.out.later (Later.refl _).drew)
      iterate 2 (refine wpJ_mild rfl (fun K hK => ?_); go_simp; refine hK _ ?_; clear hK K)
      refine wpJ_store rfl rfl 30 (.tmp 7) (.tmp 27) rfl w.heap.size (sc (5, 26, 0)) rfl rfl Try.info_sense (sc_one _) _ _ HW.out.2.1 (by simp) (fun W hW => ⟨(HW.out.1.trans hW).setCells (Nat.le_refl _) _ _, (BQ.out.later hW).apart _ (by have := HW.out.2.2.2.2; omega) _ _⟩) ?_
      intro wl hl wz hz
      have BZ : Hid (Box wz w.heap.size 30 (sc (5, 26, 0))) := by rw [hz.out]; exact (HW.out.2.1.later hl).all _ rfl
      have LZ : Hid (Later w wz) := by rw [hz.out]; exact (HW.out.1.trans hl).setCells (Nat.le_refl _) _ _
      clear hz hl
      refine wpJ_nil (fun wn hn => ?_)
      replace BZ := hide (BZ.out.later hn)
      replace LZ := hide (LZ.out.trans hn)
      clear hn s0 s1 s2
      go_wp2
      refine bodyPost_ret (results_tmp_cell' rfl _ _ _ w.heap.size 0 rfl _ _ (run_loadVar_mid _ _ _ _ (sc (5, 26, 0)) _ BZ.out.range Try.underlying30 rfl Try.info_sense) rfl) rfl ⟨by rw [HR.out]; rfl, LZ.out⟩
    obtain ⟨b, off, cap', e, hc⟩ := HB.out.cells6 HN.out (by omega)
    simp at e
    obtain ⟨rfl, rfl⟩ := e
    have HC := hide hc
    clear hc
    go_upto_region 9 with fail
    go_cut [10, 11] from 17 (fun y x W => y = .int .i64 (A : Int) ∧ x = .int .i64 (Bn l (A - 1) : Int) ∧ Hid (SelW w g W))
    case first =>
      cases ten with
      | true =>
        obtain rfl : A = 8 := by rw [HA.out]; rfl
        have c7 := HC.out 7 (by omega) _ HW.out.1
        have b7 := Bn_lt l 7
        go_wp2
        go_meet
        exact ⟨rfl, rfl, HW⟩
      | false =>
        obtain rfl : A = 4 := by rw [HA.out]; rfl
        have c3 := HC.out 3 (by omega) _ HW.out.1
        have b3 := Bn_lt l 3
        go_wp2
        go_meet
        exact ⟨rfl, rfl, HW⟩
    case rest =>
    clear HW
    obtain ⟨rfl, rfl, HW⟩ := hcut
    obtain ⟨M, hM⟩ : ∃ M, M = hdM l ten := ⟨_, rfl⟩
    have HM := hide hM
    clear hM
    have hMb : M < 65536 := by
      have := Bn_lt l 7; have := Bn_lt l 6; have := Bn_lt l 3
      rw [HM.out]; unfold hdM; split <;> omega
    have hAb := Bn_lt l (A - 1)
    go_upto_if 34 with fail
    go_cut [10, 11] from 17 (fun y x W => y = .int .i64 (A : Int) ∧ x = .int .i64 (M : Int) ∧ Hid (SelW w g W))
    case first =>
      cases ten with
      | true =>
        obtain rfl : A = 8 := by rw [HA.out]; rfl
        have c6 := HC.out 6 (by omega) _ HW.out.1
        have b6 := Bn_lt l 6
        have b7 := Bn_lt l 7
        go_wp2
        go_meet
        exact ⟨rfl, by rw [HM.out]; unfold hdM; simp, HW⟩
      | false =>
        obtain rfl : A = 4 := by rw [HA.out]; rfl
        go_wp2
        go_meet
        exact ⟨rfl, by rw [HM.out]; rfl, HW⟩
    case rest =>
    clear HW hAb
    obtain ⟨rfl, rfl, HW⟩ := hcut
    go_upto_region 12 with fail
    go_cut [11, 49] from 17 (fun y x W => y = .int .i64 (M : Int) ∧ x = .bool (decide (M ≠ 0 ∧ M ≠ 8)) ∧ Hid (SelW w g W))
    case first =>
      by_cases hm0 : M = 0
      · subst hm0
        go_wp2
        go_meet
        exact ⟨rfl, by simp, HW⟩
      · have e0 : ((M : Int) != 0) = true := by simp; omega
        go_wp2
        go_meet
        exact ⟨rfl, congrArg _ (nez8 M hm0), HW⟩
    case rest =>
    clear HW
    obtain ⟨rfl, hx49, HW⟩ := hcut
    by_cases hm : M ≠ 0 ∧ M ≠ 8
    · have HR : Hid (selR l ten caching = (false, (5, 38, 0))) := by rw [Hid, selR, if_neg (by rw [HN.out]; exact h0), if_neg (by rw [HN.out, ← HA.out]; exact h1), if_pos (by rw [← HM.out]; exact hm)]
      rw [decide_eq_true hm] at hx49
      subst hx49
      clear hm
      go_wp2_with fail
      have BQ := hide HW.out.2.2.2.1
      refine wp_region_held (SelI w (g + 1) (5, 38, 0)) (fun a b hl h => ⟨h.1.trans hl, h.2.later hl⟩) ⟨HW.out.1, BQ.out⟩ [(0, false), (1, false), (2, true)] (by kernel_rfl) (by kernel_rfl) (by kernel_rfl) (by kernel_rfl) ?_
      haveI := SelI.ne w (g + 1) (5, 38, 0) ⟨HW.out.1, BQ.out⟩
      have s0 := fun p : Held (SelI w (g + 1) (5, 38, 0)) => p.h.2.cell 0
      have s1 := fun p : Held (SelI w (g + 1) (5, 38, 0)) => p.h.2.cell 1
      have s2 := fun p : Held (SelI w (g + 1) (5, 38, 0)) => p.h.2.cell 2
      replace HW := hide (HW.out.later (Later.refl _).drew)
      replace BQ := hide (BQ.out.later (Later.refl _).drew)
      iterate 2 (refine wpJ_mild rfl (fun K hK => ?_); go_simp; refine hK _ ?_; clear hK K)
      refine wpJ_store rfl rfl 30 (.tmp 7) (.tmp 50) rfl w.heap.size (sc (5, 38, 0)) rfl rfl Try.info_sense (sc_one _) _ _ HW.out.2.1 (by simp) (fun W hW => ⟨(HW.out.1.trans hW).setCells (Nat.le_refl _) _ _, (BQ.out.later hW).apart _ (by have := HW.out.2.2.2.2; omega) _ _⟩) ?_
      intro wl hl wz hz
      have BZ : Hid (Box wz w.heap.size 30 (sc (5, 38, 0))) := by rw [hz.out]; exact (HW.out.2.1.later hl).all _ rfl
      have LZ : Hid (Later w wz) := by rw [hz.out]; exact (HW.out.1.trans hl).setCells (Nat.le_refl _) _ _
      clear hz hl
      refine wpJ_nil (fun wn hn => ?_)
      replace BZ := hide (BZ.out.later hn)
      replace LZ := hide (LZ.out.trans hn)
      clear hn s0 s1 s2
      go_wp2
      refine bodyPost_ret (results_tmp_cell' rfl _ _ _ w.heap.size 0 rfl _ _ (run_loadVar_mid _ _ _ _ (sc (5, 38, 0)) _ BZ.out.range Try.underlying30 rfl Try.info_sense) rfl) rfl ⟨by rw [HR.out]; rfl, LZ.out⟩
    rw [decide_eq_false hm] at hx49
    subst hx49
    by_cases h2 : n < A + M
    · have HR : Hid (selR l ten caching = (false, (5, 26, 0))) := by rw [Hid, selR, if_neg (by rw [HN.out]; exact h0), if_neg (by rw [HN.out, ← HA.out]; exact h1), if_neg (by rw [← HM.out]; exact hm), if_pos (by rw [HN.out, ← HA.out, ← HM.out]; exact h2)]
      clear hm
      go_wp2_with fail
      have BQ := hide HW.out.2.2.1
      refine wp_region_held (SelI w g (5, 26, 0)) (fun a b hl h => ⟨h.1.trans hl, h.2.later hl⟩) ⟨HW.out.1, BQ.out⟩ [(0, false), (1, false), (2, true)] (by kernel_rfl) (by kernel_rfl) (by kernel_rfl) (by kernel_rfl) ?_
      haveI := SelI.ne w g (5, 26, 0) ⟨HW.out.1, BQ.out⟩
      have s0 := fun p : Held (SelI w g (5, 26, 0)) => p.h.2.cell 0
      have s1 := fun p : Held (SelI w g (5, 26, 0)) => p.h.2.cell 1
      have s2 := fun p : Held (SelI w g (5, 26, 0)) => p.h.2.cell 2
      replace HW := hide (HW.out.later (Later.refl _).drew)
      replace BQ := hide (BQ.out.later (Later.refl _).drew)
      iterate 2 (refine wpJ_mild rfl (fun K hK => ?_); go_simp; refine hK _ ?_; clear hK K)
      refine wpJ_store rfl rfl 30 (.tmp 7) (.tmp 58) rfl w.heap.size (sc (5, 26, 0)) rfl rfl Try.info_sense (sc_one _) _ _ HW.out.2.1 (by simp) (fun W hW => ⟨(HW.out.1.trans hW).setCells (Nat.le_refl _) _ _, (BQ.out.later hW).apart _ (by have := HW.out.2.2.2.2; omega) _ _⟩) ?_
      intro wl hl wz hz
      have BZ : Hid (Box wz w.heap.size 30 (sc (5, 26, 0))) := by rw [hz.out]; exact (HW.out.2.1.later hl).all _ rfl
      have LZ : Hid (Later w wz) := by rw [hz.out]; exact (HW.out.1.trans hl).setCells (Nat.le_refl _) _ _
      clear hz hl
      refine wpJ_nil (fun wn hn => ?_)
      replace BZ := hide (BZ.out.later hn)
      replace LZ := hide (LZ.out.trans hn)
      clear hn s0 s1 s2
      go_wp2
      refine bodyPost_ret (results_tmp_cell' rfl _ _ _ w.heap.size 0 rfl _ _ (run_loadVar_mid _ _ _ _ (sc (5, 26, 0)) _ BZ.out.range Try.underlying30 rfl Try.info_sense) rfl) rfl ⟨by rw [HR.out]; rfl, LZ.out⟩
    have HZ : Hid (selR l ten caching = selA l (A + M) caching) := by rw [Hid, selR, if_neg (by rw [HN.out]; exact h0), if_neg (by rw [HN.out, ← HA.out]; exact h1), if_neg (by rw [← HM.out]; exact hm), if_neg (by rw [HN.out, ← HA.out, ← HM.out]; exact h2), ← HA.out, ← HM.out]; rfl
    clear hm h1
    go_wp2_with fail
    go_loopw [2, 10] (fun c a W => ∃ (k : Nat) (cb : Bool), k ≤ n ∧ a = .int .i64 k ∧ c = .bool cb ∧ Hid (selR l ten caching = selA l k cb) ∧ Hid (SelW w g W)) (fun _ a _ => n - (intOf a).toNat)
    case atStart => exact ⟨A + M, caching, by omega, by first | rfl | simp, rfl, HZ, HW⟩
    case round =>
    clear HZ HW h2 hA8 HA HM hMb
    obtain ⟨k, cb, hk, rfl, rfl, HA, HW⟩ := hrel
    by_cases hlt : k < n
    case neg =>
      have HR : Hid (selR l ten caching = (cb, (0, 0, 0))) := by rw [Hid, HA.out, selA_nil l k cb (by rw [HN.out]; omega)]
      go_wp2_with (refine wpList_storeU rfl 30 (.tmp 7) (.tmp 167) rfl w.heap.size 0 rfl (sc (0, 0, 0)) rfl Try.info_sense (sc_one _) _ _ HW.out.2.1 (by simp) ?_)
      intro wz hz
      have BZ : Hid (Box wz w.heap.size 30 (sc (0, 0, 0))) := by rw [hz.out]; exact HW.out.2.1.all _ rfl
      have LZ : Hid (Later w wz) := by rw [hz.out]; exact HW.out.1.setCells (Nat.le_refl _) _ _
      clear hz
      go_wp2
      refine bodyPost_ret (results_tmp_cell' rfl _ _ _ w.heap.size 0 rfl _ _ (run_loadVar_mid _ _ _ _ (sc (0, 0, 0)) _ BZ.out.range Try.underlying30 rfl Try.info_sense) rfl) rfl ⟨by rw [HR.out]; rfl, LZ.out⟩
    by_cases hlt1 : n ≤ k + 1
    · have HR : Hid (selR l ten caching = (false, (5, 26, 0))) := by rw [Hid, HA.out, selA_short l k cb (by rw [HN.out]; omega) (.inl (by rw [HN.out]; omega))]
      go_wp2_with fail
      have BQ := hide HW.out.2.2.1
      refine wp_region_held (SelI w g (5, 26, 0)) (fun a b hl h => ⟨h.1.trans hl, h.2.later hl⟩) ⟨HW.out.1, BQ.out⟩ [(0, false), (1, false), (2, true)] (by kernel_rfl) (by kernel_rfl) (by kernel_rfl) (by kernel_rfl) ?_
      haveI := SelI.ne w g (5, 26, 0) ⟨HW.out.1, BQ.out⟩
      have s0 := fun p : Held (SelI w g (5, 26, 0)) => p.h.2.cell 0
      have s1 := fun p : Held (SelI w g (5, 26, 0)) => p.h.2.cell 1
      have s2 := fun p : Held (SelI w g (5, 26, 0)) => p.h.2.cell 2
      replace HW := hide (HW.out.later (Later.refl _).drew)
      replace BQ := hide (BQ.out.later (Later.refl _).drew)
      iterate 2 (refine wpJ_mild rfl (fun K hK => ?_); go_simp; refine hK _ ?_; clear hK K)
      refine wpJ_store rfl rfl 30 (.tmp 7) (.tmp 82) rfl w.heap.size (sc (5, 26, 0)) rfl rfl Try.info_sense (sc_one _) _ _ HW.out.2.1 (by simp) (fun W hW => ⟨(HW.out.1.trans hW).setCells (Nat.le_refl _) _ _, (BQ.out.later hW).apart _ (by have := HW.out.2.2.2.2; omega) _ _⟩) ?_
      intro wl hl wz hz
      have BZ : Hid (Box wz w.heap.size 30 (sc (5, 26, 0))) := by rw [hz.out]; exact (HW.out.2.1.later hl).all _ rfl
      have LZ : Hid (Later w wz) := by rw [hz.out]; exact (HW.out.1.trans hl).setCells (Nat.le_refl _) _ _
      clear hz hl
      refine wpJ_nil (fun wn hn => ?_)
      replace BZ := hide (BZ.out.later hn)
      replace LZ := hide (LZ.out.trans hn)
      clear hn s0 s1 s2
      go_wp2
      refine bodyPost_ret (results_tmp_cell' rfl _ _ _ w.heap.size 0 rfl _ _ (run_loadVar_mid _ _ _ _ (sc (5, 26, 0)) _ BZ.out.range Try.underlying30 rfl Try.info_sense) rfl) rfl ⟨by rw [HR.out]; rfl, LZ.out⟩
    have c1 := HC.out (k + 1) (by omega) _ HW.out.1
    have b1 := Bn_lt l (k + 1)
    obtain ⟨m, hm⟩ : ∃ m, Bn l (k + 1) = m := ⟨_, rfl⟩
    rw [hm] at c1 b1
    have HM := hide hm
    clear hm
    by_cases hlt2 : n < k + 2 + m
    · have HR : Hid (selR l ten caching = (false, (5, 26, 0))) := by rw [Hid, HA.out, selA_short l k cb (by rw [HN.out]; omega) (.inr (by rw [HN.out, HM.out]; exact hlt2))]
      go_wp2_with fail
      have BQ := hide HW.out.2.2.1
      refine wp_region_held (SelI w g (5, 26, 0)) (fun a b hl h => ⟨h.1.trans hl, h.2.later hl⟩) ⟨HW.out.1, BQ.out⟩ [(0, false), (1, false), (2, true)] (by kernel_rfl) (by kernel_rfl) (by kernel_rfl) (by kernel_rfl) ?_
      haveI := SelI.ne w g (5, 26, 0) ⟨HW.out.1, BQ.out⟩
      have s0 := fun p : Held (SelI w g (5, 26, 0)) => p.h.2.cell 0
      have s1 := fun p : Held (SelI w g (5, 26, 0)) => p.h.2.cell 1
      have s2 := fun p : Held (SelI w g (5, 26, 0)) => p.h.2.cell 2
      replace HW := hide (HW.out.later (Later.refl _).drew)
      replace BQ := hide (BQ.out.later (Later.refl _).drew)
      iterate 2 (refine wpJ_mild rfl (fun K hK => ?_); go_simp; refine hK _ ?_; clear hK K)
      refine wpJ_store rfl rfl 30 (.tmp 7) (.tmp 82) rfl w.heap.size (sc (5, 26, 0)) rfl rfl Try.info_sense (sc_one _) _ _ HW.out.2.1 (by simp) (fun W hW => ⟨(HW.out.1.trans hW).setCells (Nat.le_refl _) _ _, (BQ.out.later hW).apart _ (by have := HW.out.2.2.2.2; omega) _ _⟩) ?_
      intro wl hl wz hz
      have BZ : Hid (Box wz w.heap.size 30 (sc (5, 26, 0))) := by rw [hz.out]; exact (HW.out.2.1.later hl).all _ rfl
      have LZ : Hid (Later w wz) := by rw [hz.out]; exact (HW.out.1.trans hl).setCells (Nat.le_refl _) _ _
      clear hz hl
      refine wpJ_nil (fun wn hn => ?_)
      replace BZ := hide (BZ.out.later hn)
      replace LZ := hide (LZ.out.trans hn)
      clear hn s0 s1 s2
      go_wp2
      refine bodyPost_ret (results_tmp_cell' rfl _ _ _ w.heap.size 0 rfl _ _ (run_loadVar_mid _ _ _ _ (sc (5, 26, 0)) _ BZ.out.range Try.underlying30 rfl Try.info_sense) rfl) rfl ⟨by rw [HR.out]; rfl, LZ.out⟩
    go_wp2_with fail
    obtain ⟨wo, rfl⟩ : ∃ wo : World, wo = wr := ⟨_, rfl⟩
    go_loop [13, 14] (fun z i => ∃ (j : Nat) (zb : Bool), 3 ≤ j ∧ j ≤ 3 + (m - 1) ∧ i = .int .i64 j ∧ z = .bool zb ∧ Hid (zb = zrB l (k + 3) (j - 3))) (fun _ i => 300 - (intOf i).toNat)
    case atStart => exact ⟨3, true, by omega, by omega, rfl, rfl, (zrB_zero l _).symm⟩
    case round =>
    obtain ⟨j, zb, hj3, hjm, rfl, rfl, HZ⟩ := hrel
    by_cases hj : j < 2 + m
    · have cj := HC.out (k + j) (by omega) _ HW.out.1
      have bj := Bn_lt l (k + j)
      have HS := hide (zrB_step l (k + 3) (j - 3) (by rw [HN.out]; omega))
      rw [show j - 3 + 1 = j + 1 - 3 by omega, show k + 3 + (j - 3) = k + j by omega] at HS
      generalize Bn l (k + j) = x at *
      cases zb with
      | true =>
        go_wp2
        go_round
        case rel => exact ⟨j + 1, decide (x = 0), by omega, by omega, by go_num, congrArg _ (eqz8 x), by rw [Hid, HS.out, ← HZ.out, Bool.true_and]⟩
        case measure => simp [intOf]; omega
      | false =>
        go_wp2
        go_round
        case rel => exact ⟨j + 1, false, by omega, by omega, by go_num, rfl, by rw [Hid, HS.out, ← HZ.out, Bool.false_and]⟩
        case measure => simp [intOf]; omega
    have HZ2 : Hid (zb = zrB l (k + 3) (m - 1)) := by rw [Hid, HZ.out]; congr 1; omega
    have c0 := HC.out k (by omega) _ HW.out.1
    have b0 := Bn_lt l k
    obtain ⟨x, hx⟩ : ∃ x, Bn l k = x := ⟨_, rfl⟩
    rw [hx] at c0 b0
    have HX := hide hx
    clear hx hjm hj3 HZ hlt hlt1
    have HS : Hid (k + 2 + Bn l (k + 1) ≤ l.length) := by rw [Hid, HM.out, HN.out]; omega
    by_cases h8 : x = 8
    · subst h8
      by_cases h18 : m = 18
      · subst h18
        have c2 := HC.out (k + 2) (by omega) _ HW.out.1
        have b2 := Bn_lt l (k + 2)
        obtain ⟨y, hy⟩ : ∃ y, Bn l (k + 2) = y := ⟨_, rfl⟩
        rw [hy] at c2 b2
        have HY := hide hy
        clear hy
        cases zb with
        | false =>
          have HR : Hid (selR l ten caching = (false, (5, 38, 0))) := by rw [Hid, HA.out, selA_bad l k cb HS.out (fun h => by have := h.2.2.1; rw [HM.out, ← HZ2.out] at this; cases this) (fun h => by have := h.1; rw [HX.out] at this; omega)]
          go_wp2_with fail
          have BQ := hide HW.out.2.2.2.1
          refine wp_region_held (SelI w (g + 1) (5, 38, 0)) (fun a b hl h => ⟨h.1.trans hl, h.2.later hl⟩) ⟨HW.out.1, BQ.out⟩ [(0, false), (1, false), (2, true)] (by kernel_rfl) (by kernel_rfl) (by kernel_rfl) (by kernel_rfl) ?_
          haveI := SelI.ne w (g + 1) (5, 38, 0) ⟨HW.out.1, BQ.out⟩
          have s0 := fun p : Held (SelI w (g + 1) (5, 38, 0)) => p.h.2.cell 0
          have s1 := fun p : Held (SelI w (g + 1) (5, 38, 0)) => p.h.2.cell 1
          have s2 := fun p : Held (SelI w (g + 1) (5, 38, 0)) => p.h.2.cell 2
          replace HW := hide (HW.out.later (Later.refl _).drew)
          replace BQ := hide (BQ.out.later (Later.refl _).drew)
          iterate 2 (refine wpJ_mild rfl (fun K hK => ?_); go_simp; refine hK _ ?_; clear hK K)
          refine wpJ_store rfl rfl 30 (.tmp 7) (.tmp 105) rfl w.heap.size (sc (5, 38, 0)) rfl rfl Try.info_sense (sc_one _) _ _ HW.out.2.1 (by simp) (fun W hW => ⟨(HW.out.1.trans hW).setCells (Nat.le_refl _) _ _, (BQ.out.later hW).apart _ (by have := HW.out.2.2.2.2; omega) _ _⟩) ?_
          intro wl hl wz hz
          have BZ : Hid (Box wz w.heap.size 30 (sc (5, 38, 0))) := by rw [hz.out]; exact (HW.out.2.1.later hl).all _ rfl
          have LZ : Hid (Later w wz) := by rw [hz.out]; exact (HW.out.1.trans hl).setCells (Nat.le_refl _) _ _
          clear hz hl
          refine wpJ_nil (fun wn hn => ?_)
          replace BZ := hide (BZ.out.later hn)
          replace LZ := hide (LZ.out.trans hn)
          clear hn s0 s1 s2
          go_wp2
          refine bodyPost_ret (results_tmp_cell' rfl _ _ _ w.heap.size 0 rfl _ _ (run_loadVar_mid _ _ _ _ (sc (5, 38, 0)) _ BZ.out.range Try.underlying30 rfl Try.info_sense) rfl) rfl ⟨by rw [HR.out]; rfl, LZ.out⟩
        | true =>
          by_cases hy0 : y = 0
          · subst hy0
            have HR : Hid (selR l ten caching = selA l (k + 20) false) := by rw [Hid, HA.out, selA_8 l k cb false HS.out HX.out HM.out HY.out HZ2.out.symm]
            go_wp2
            go_roundw
            case rel => exact ⟨k + 20, false, by omega, by go_num, rfl, HR, HW⟩
            case measure => simp [intOf]; omega
          by_cases hy4 : y = 4
          · subst hy4
            have HR : Hid (selR l ten caching = selA l (k + 20) true) := by rw [Hid, HA.out, selA_8 l k cb true HS.out HX.out HM.out HY.out HZ2.out.symm]
            go_wp2
            go_roundw
            case rel => exact ⟨k + 20, true, by omega, by go_num, rfl, HR, HW⟩
            case measure => simp [intOf]; omega
          have HR : Hid (selR l ten caching = (false, (5, 38, 0))) := by rw [Hid, HA.out, selA_bad l k cb HS.out (fun h => by have := h.2.2.2; rw [HY.out] at this; omega) (fun h => by have := h.1; rw [HX.out] at this; omega)]
          have e0 : ((y : Int) == 0) = false := by simp; omega
          have e4 : ((y : Int) == 4) = false := by simp; omega
          go_wp2_with fail
          have BQ := hide HW.out.2.2.2.1
          refine wp_region_held (SelI w (g + 1) (5, 38, 0)) (fun a b hl h => ⟨h.1.trans hl, h.2.later hl⟩) ⟨HW.out.1, BQ.out⟩ [(0, false), (1, false), (2, true)] (by kernel_rfl) (by kernel_rfl) (by kernel_rfl) (by kernel_rfl) ?_
          haveI := SelI.ne w (g + 1) (5, 38, 0) ⟨HW.out.1, BQ.out⟩
          have s0 := fun p : Held (SelI w (g + 1) (5, 38, 0)) => p.h.2.cell 0
          have s1 := fun p : Held (SelI w (g + 1) (5, 38, 0)) => p.h.2.cell 1
          have s2 := fun p : Held (SelI w (g + 1) (5, 38, 0)) => p.h.2.cell 2
          replace HW := hide (HW.out.later (Later.refl _).drew)
          replace BQ := hide (BQ.out.later (Later.refl _).drew)
          iterate 2 (refine wpJ_mild rfl (fun K hK => ?_); go_simp; refine hK _ ?_; clear hK K)
          refine wpJ_store rfl rfl 30 (.tmp 7) (.tmp 105) rfl w.heap.size (sc (5, 38, 0)) rfl rfl Try.info_sense (sc_one _) _ _ HW.out.2.1 (by simp) (fun W hW => ⟨(HW.out.1.trans hW).setCells (Nat.le_refl _) _ _, (BQ.out.later hW).apart _ (by have := HW.out.2.2.2.2; omega) _ _⟩) ?_
          intro wl hl wz hz
          have BZ : Hid (Box wz w.heap.size 30 (sc (5, 38, 0))) := by rw [hz.out]; exact (HW.out.2.1.later hl).all _ rfl
          have LZ : Hid (Later w wz) := by rw [hz.out]; exact (HW.out.1.trans hl).setCells (Nat.le_refl _) _ _
          clear hz hl
          refine wpJ_nil (fun wn hn => ?_)
          replace BZ := hide (BZ.out.later hn)
          replace LZ := hide (LZ.out.trans hn)
          clear hn s0 s1 s2
          go_wp2
          refine bodyPost_ret (results_tmp_cell' rfl _ _ _ w.heap.size 0 rfl _ _ (run_loadVar_mid _ _ _ _ (sc (5, 38, 0)) _ BZ.out.range Try.underlying30 rfl Try.info_sense) rfl) rfl ⟨by rw [HR.out]; rfl, LZ.out⟩
      have HR : Hid (selR l ten caching = (false, (5, 38, 0))) := by rw [Hid, HA.out, selA_bad l k cb HS.out (fun h => by have := h.2.1; rw [HM.out] at this; omega) (fun h => by have := h.1; rw [HX.out] at this; omega)]
      have e18 : ((m : Int) == 18) = false := by simp; omega
      go_wp2_with fail
      have BQ := hide HW.out.2.2.2.1
      refine wp_region_held (SelI w (g + 1) (5, 38, 0)) (fun a b hl h => ⟨h.1.trans hl, h.2.later hl⟩) ⟨HW.out.1, BQ.out⟩ [(0, false), (1, false), (2, true)] (by kernel_rfl) (by kernel_rfl) (by kernel_rfl) (by kernel_rfl) ?_
      haveI := SelI.ne w (g + 1) (5, 38, 0) ⟨HW.out.1, BQ.out⟩
      have s0 := fun p : Held (SelI w (g + 1) (5, 38, 0)) => p.h.2.cell 0
      have s1 := fun p : Held (SelI w (g + 1) (5, 38, 0)) => p.h.2.cell 1
      have s2 := fun p : Held (SelI w (g + 1) (5, 38, 0)) => p.h.2.cell 2
      replace HW := hide (HW.out.later (Later.refl _).drew)
      replace BQ := hide (BQ.out.later (Later.refl _).drew)
      iterate 2 (refine wpJ_mild rfl (fun K hK => ?_); go_simp; refine hK _ ?_; clear hK K)
      refine wpJ_store rfl rfl 30 (.tmp 7) (.tmp 105) rfl w.heap.size (sc (5, 38, 0)) rfl rfl Try.info_sense (sc_one _) _ _ HW.out.2.1 (by simp) (fun W hW => ⟨(HW.out.1.trans hW).setCells (Nat.le_refl _) _ _, (BQ.out.later hW).apart _ (by have := HW.out.2.2.2.2; omega) _ _⟩) ?_
      intro wl hl wz hz
      have BZ : Hid (Box wz w.heap.size 30 (sc (5, 38, 0))) := by rw [hz.out]; exact (HW.out.2.1.later hl).all _ rfl
      have LZ : Hid (Later w wz) := by rw [hz.out]; exact (HW.out.1.trans hl).setCells (Nat.le_refl _) _ _
      clear hz hl
      refine wpJ_nil (fun wn hn => ?_)
      replace BZ := hide (BZ.out.later hn)
      replace LZ := hide (LZ.out.trans hn)
      clear hn s0 s1 s2
      go_wp2
      refine bodyPost_ret (results_tmp_cell' rfl _ _ _ w.heap.size 0 rfl _ _ (run_loadVar_mid _ _ _ _ (sc (5, 38, 0)) _ BZ.out.range Try.underlying30 rfl Try.info_sense) rfl) rfl ⟨by rw [HR.out]; rfl, LZ.out⟩
    have e8 : ((x : Int) == 8) = false := by simp; omega
    by_cases h28 : x = 28
    · subst h28
      by_cases h10 : m = 10
      · subst h10
        have c2 := HC.out (k + 2) (by omega) _ HW.out.1
        have b2 := Bn_lt l (k + 2)
        obtain ⟨y, hy⟩ : ∃ y, Bn l (k + 2) = y := ⟨_, rfl⟩
        rw [hy] at c2 b2
        have HY := hide hy
        clear hy
        cases zb with
        | false =>
          have HR : Hid (selR l ten caching = (false, (5, 38, 0))) := by rw [Hid, HA.out, selA_bad l k cb HS.out (fun h => by have := h.1; rw [HX.out] at this; omega) (fun h => by have := h.2.2.1; rw [HM.out, ← HZ2.out] at this; cases this)]
          go_wp2_with fail
          have BQ := hide HW.out.2.2.2.1
          refine wp_region_held (SelI w (g + 1) (5, 38, 0)) (fun a b hl h => ⟨h.1.trans hl, h.2.later hl⟩) ⟨HW.out.1, BQ.out⟩ [(0, false), (1, false), (2, true)] (by kernel_rfl) (by kernel_rfl) (by kernel_rfl) (by kernel_rfl) ?_
          haveI := SelI.ne w (g + 1) (5, 38, 0) ⟨HW.out.1, BQ.out⟩
          have s0 := fun p : Held (SelI w (g + 1) (5, 38, 0)) => p.h.2.cell 0
          have s1 := fun p : Held (SelI w (g + 1) (5, 38, 0)) => p.h.2.cell 1
          have s2 := fun p : Held (SelI w (g + 1) (5, 38, 0)) => p.h.2.cell 2
          replace HW := hide (HW.out.later (Later.refl _).drew)
          replace BQ := hide (BQ.out.later (Later.refl _).drew)
          iterate 2 (refine wpJ_mild rfl (fun K hK => ?_); go_simp; refine hK _ ?_; clear hK K)
          refine wpJ_store rfl rfl 30 (.tmp 7) (.tmp 105) rfl w.heap.size (sc (5, 38, 0)) rfl rfl Try.info_sense (sc_one _) _ _ HW.out.2.1 (by simp) (fun W hW => ⟨(HW.out.1.trans hW).setCells (Nat.le_refl _) _ _, (BQ.out.later hW).apart _ (by have := HW.out.2.2.2.2; omega) _ _⟩) ?_
          intro wl hl wz hz
          have BZ : Hid (Box wz w.heap.size 30 (sc (5, 38, 0))) := by rw [hz.out]; exact (HW.out.2.1.later hl).all _ rfl
          have LZ : Hid (Later w wz) := by rw [hz.out]; exact (HW.out.1.trans hl).setCells (Nat.le_refl _) _ _
          clear hz hl
          refine wpJ_nil (fun wn hn => ?_)
          replace BZ := hide (BZ.out.later hn)
          replace LZ := hide (LZ.out.trans hn)
          clear hn s0 s1 s2
          go_wp2
          refine bodyPost_ret (results_tmp_cell' rfl _ _ _ w.heap.size 0 rfl _ _ (run_loadVar_mid _ _ _ _ (sc (5, 38, 0)) _ BZ.out.range Try.underlying30 rfl Try.info_sense) rfl) rfl ⟨by rw [HR.out]; rfl, LZ.out⟩
        | true =>
          by_cases hy0 : y = 0
          · subst hy0
            have HR : Hid (selR l ten caching = selA l (k + 12) cb) := by rw [Hid, HA.out, selA_28 l k cb HS.out HX.out HM.out HY.out HZ2.out.symm]
            go_wp2
            go_roundw
            case rel => exact ⟨k + 12, cb, by omega, by go_num, rfl, HR, HW⟩
            case measure => simp [intOf]; omega
          have HR : Hid (selR l ten caching = (false, (5, 38, 0))) := by rw [Hid, HA.out, selA_bad l k cb HS.out (fun h => by have := h.1; rw [HX.out] at this; omega) (fun h => by have := h.2.2.2; rw [HY.out] at this; omega)]
          have e0 : ((y : Int) == 0) = false := by simp; omega
          go_wp2_with fail
          have BQ := hide HW.out.2.2.2.1
          refine wp_region_held (SelI w (g + 1) (5, 38, 0)) (fun a b hl h => ⟨h.1.trans hl, h.2.later hl⟩) ⟨HW.out.1, BQ.out⟩ [(0, false), (1, false), (2, true)] (by kernel_rfl) (by kernel_rfl) (by kernel_rfl) (by kernel_rfl) ?_
          haveI := SelI.ne w (g + 1) (5, 38, 0) ⟨HW.out.1, BQ.out⟩
          have s0 := fun p : Held (SelI w (g + 1) (5, 38, 0)) => p.h.2.cell 0
          have s1 := fun p : Held (SelI w (g + 1) (5, 38, 0)) => p.h.2.cell 1
          have s2 := fun p : Held (SelI w (g + 1) (5, 38, 0)) => p.h.2.cell 2
          replace HW := hide (HW.out.later (Later.refl _).drew)
          replace BQ := hide (BQ.out.later (Later.refl _).drew)
          iterate 2 (refine wpJ_mild rfl (fun K hK => ?_); go_simp; refine hK _ ?_; clear hK K)
          refine wpJ_store rfl rfl 30 (.tmp 7) (.tmp 105) rfl w.heap.size (sc (5, 38, 0)) rfl rfl Try.info_sense (sc_one _) _ _ HW.out.2.1 (by simp) (fun W hW => ⟨(HW.out.1.trans hW).setCells (Nat.le_refl _) _ _, (BQ.out.later hW).apart _ (by have := HW.out.2.2.2.2; omega) _ _⟩) ?_
          intro wl hl wz hz
          have BZ : Hid (Box wz w.heap.size 30 (sc (5, 38, 0))) := by rw [hz.out]; exact (HW.out.2.1.later hl).all _ rfl
          have LZ : Hid (Later w wz) := by rw [hz.out]; exact (HW.out.1.trans hl).setCells (Nat.le_refl _) _ _
          clear hz hl
          refine wpJ_nil (fun wn hn => ?_)
          replace BZ := hide (BZ.out.later hn)
          replace LZ := hide (LZ.out.trans hn)
          clear hn s0 s1 s2
          go_wp2
          refine bodyPost_ret (results_tmp_cell' rfl _ _ _ w.heap.size 0 rfl _ _ (run_loadVar_mid _ _ _ _ (sc (5, 38, 0)) _ BZ.out.range Try.underlying30 rfl Try.info_sense) rfl) rfl ⟨by rw [HR.out]; rfl, LZ.out⟩
      have HR : Hid (selR l ten caching = (false, (5, 38, 0))) := by rw [Hid, HA.out, selA_bad l k cb HS.out (fun h => by have := h.1; rw [HX.out] at this; omega) (fun h => by have := h.2.1; rw [HM.out] at this; omega)]
      have e10 : ((m : Int) == 10) = false := by simp; omega
      go_wp2_with fail
      have BQ := hide HW.out.2.2.2.1
      refine wp_region_held (SelI w (g + 1) (5, 38, 0)) (fun a b hl h => ⟨h.1.trans hl, h.2.later hl⟩) ⟨HW.out.1, BQ.out⟩ [(0, false), (1, false), (2, true)] (by kernel_rfl) (by kernel_rfl) (by kernel_rfl) (by kernel_rfl) ?_
      haveI := SelI.ne w (g + 1) (5, 38, 0) ⟨HW.out.1, BQ.out⟩
      have s0 := fun p : Held (SelI w (g + 1) (5, 38, 0)) => p.h.2.cell 0
      have s1 := fun p : Held (SelI w (g + 1) (5, 38, 0)) => p.h.2.cell 1
      have s2 := fun p : Held (SelI w (g + 1) (5, 38, 0)) => p.h.2.cell 2
      replace HW := hide (HW.out.later (Later.refl _).drew)
      replace BQ := hide (BQ.out.later (Later.refl _).drew)
      iterate 2 (refine wpJ_mild rfl (fun K hK => ?_); go_simp; refine hK _ ?_; clear hK K)
      refine wpJ_store rfl rfl 30 (.tmp 7) (.tmp 105) rfl w.heap.size (sc (5, 38, 0)) rfl rfl Try.info_sense (sc_one _) _ _ HW.out.2.1 (by simp) (fun W hW => ⟨(HW.out.1.trans hW).setCells (Nat.le_refl _) _ _, (BQ.out.later hW).apart _ (by have := HW.out.2.2.2.2; omega) _ _⟩) ?_
      intro wl hl wz hz
      have BZ : Hid (Box wz w.heap.size 30 (sc (5, 38, 0))) := by rw [hz.out]; exact (HW.out.2.1.later hl).all _ rfl
      have LZ : Hid (Later w wz) := by rw [hz.out]; exact (HW.out.1.trans hl).setCells (Nat.le_refl _) _ _
      clear hz hl
      refine wpJ_nil (fun wn hn => ?_)
      replace BZ := hide (BZ.out.later hn)
      replace LZ := hide (LZ.out.trans hn)
      clear hn s0 s1 s2
      go_wp2
      refine bodyPost_ret (results_tmp_cell' rfl _ _ _ w.heap.size 0 rfl _ _ (run_loadVar_mid _ _ _ _ (sc (5, 38, 0)) _ BZ.out.range Try.underlying30 rfl Try.info_sense) rfl) rfl ⟨by rw [HR.out]; rfl, LZ.out⟩
    have HR : Hid (selR l ten caching = (false, (5, 38, 0))) := by rw [Hid, HA.out, selA_bad l k cb HS.out (fun h => by have := h.1; rw [HX.out] at this; omega) (fun h => by have := h.1; rw [HX.out] at this; omega)]
    have e28 : ((x : Int) == 28) = false := by simp; omega
    go_wp2_with fail
    have BQ := hide HW.out.2.2.2.1
    refine wp_region_held (SelI w (g + 1) (5, 38, 0)) (fun a b hl h => ⟨h.1.trans hl, h.2.later hl⟩) ⟨HW.out.1, BQ.out⟩ [(0, false), (1, false), (2, true)] (by kernel_rfl) (by kernel_rfl) (by kernel_rfl) (by kernel_rfl) ?_
    haveI := SelI.ne w (g + 1) (5, 38, 0) ⟨HW.out.1, BQ.out⟩
    have s0 := fun p : Held (SelI w (g + 1) (5, 38, 0)) => p.h.2.cell 0
    have s1 := fun p : Held (SelI w (g + 1) (5, 38, 0)) => p.h.2.cell 1
    have s2 := fun p : Held (SelI w (g + 1) (5, 38, 0)) => p.h.2.cell 2
    replace HW := hide (HW.out.later (Later.refl _).drew)
    replace BQ := hide (BQ.out.later (Later.refl _).drew)
    iterate 2 (refine wpJ_mild rfl (fun K hK => ?_); go_simp; refine hK _ ?_; clear hK K)
    refine wpJ_store rfl rfl 30 (.tmp 7) (.tmp 105) rfl w.heap.size (sc (5, 38, 0)) rfl rfl Try.info_sense (sc_one _) _ _ HW.out.2.1 (by simp) (fun W hW => ⟨(HW.out.1.trans hW).setCells (Nat.le_refl _) _ _, (BQ.out.later hW).apart _ (by have := HW.out.2.2.2.2; omega) _ _⟩) ?_
    intro wl hl wz hz
    have BZ : Hid (Box wz w.heap.size 30 (sc (5, 38, 0))) := by rw [hz.out]; exact (HW.out.2.1.later hl).all _ rfl
    have LZ : Hid (Later w wz) := by rw [hz.out]; exact (HW.out.1.trans hl).setCells (Nat.le_refl _) _ _
    clear hz hl
    refine wpJ_nil (fun wn hn => ?_)
    replace BZ := hide (BZ.out.later hn)
    replace LZ := hide (LZ.out.trans hn)
    clear hn s0 s1 s2
    go_wp2
    refine bodyPost_ret (results_tmp_cell' rfl _ _ _ w.heap.size 0 rfl _ _ (run_loadVar_mid _ _ _ _ (sc (5, 38, 0)) _ BZ.out.range Try.underlying30 rfl Try.info_sense) rfl) rfl ⟨by rw [HR.out]; rfl, LZ.out⟩
end Go.Proofs.Ytbcikndebaeahaa
