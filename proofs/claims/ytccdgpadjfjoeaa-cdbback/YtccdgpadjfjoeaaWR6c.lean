import Derived.Test.YtccdgpadjfjoeaaMAO
namespace Go.Proofs.Ytccdgpadjfjoeaa
open Go.ChangeShapes Go.WideShapes Go.ChangeAt Go.RowKit
set_option linter.unusedVariables false
set_option linter.unusedSimpArgs false

set_option maxRecDepth 20000 in
set_option maxHeartbeats 1000000 in
theorem rrest_18 {v : Value} {l : List UInt8} (w : World) (h : Bs w v l) (hl : l.length = 6) : Calls Try.prog 24 #[.int .i64 18, v] w fun e w' => e = .returned (.tuple #[cval (restS 18 l).1, .bool (restS 18 l).2]) ∧ Later w w' := by
  have HR : Hid (restS 18 l = lb (((Bn l 2 : Int) == 0) || ((Bn l 1 : Int) % 2 == 1)) (18, 0, (bigAt l 3 2 : Int), (Bn l 2 : Int), (Bn l 1 : Int) % 2)) := rfl
  obtain ⟨b, off, cap, rfl, hc⟩ := h.cells6 hl (by omega)
  have HB := hide h
  have b1 := Bn_lt l 1
  have b2 := Bn_lt l 2
  have b3 := Bn_lt l 3
  have b4 := Bn_lt l 4
  have b8 := Bn_lt l 8
  have HC := hide hc
  clear hc h hl
  have z1 := wr_of (x := (Bn l 1 : Int)) (by omega)
  have z2 := wr_of (x := (Bn l 2 : Int)) (by omega)
  have z3 := wr_of (x := (Bn l 3 : Int)) (by omega)
  have z4 := wr_of (x := (Bn l 4 : Int)) (by omega)
  have z5 := wr_of (x := (Bn l 1 : Int) % 2) (by omega)
  have z6 := wr_of (x := (Bn l 2 : Int) % 64) (by omega)
  have z7 := wr_of (x := (Bn l 2 : Int) / 64) (by omega)
  have z8 := wr_of (x := (Bn l 4 : Int) % 4) (by omega)
  have v1 := wr8_of (x := (Bn l 1 : Int) / 16) (by omega)
  have v2 := wr8_of (x := (Bn l 2 : Int) / 64) (by omega)
  have v3 := wr8_of (x := (Bn l 1 : Int) / 8) (by omega)
  have v4 := wr8_of (x := (Bn l 1 : Int) / 4) (by omega)
  have v5 := wr8_of (x := (Bn l 1 : Int) / 2) (by omega)
  have m1 := tm2
  have m2 := tm4
  have m3 := tm32
  have m4 := tm64
  have m5 := td16
  have m6 := td64
  have m7 := tdm16
  have B4 := hide (((Box.new w 26 #[.int .i64 0, .int .u64 0, .int .i64 0, .int .i64 0, .int .i64 0])).alloc (.cells #[.int .i64 18, .int .u64 0, .int .i64 0, .int .i64 0, .int .i64 0] 26))
  have B6 := hide (Box.new' (w.alloc (.cells #[.int .i64 0, .int .u64 0, .int .i64 0, .int .i64 0, .int .i64 0] 26)) 26 #[.int .i64 18, .int .u64 0, .int .i64 0, .int .i64 0, .int .i64 0] _ rfl (w.heap.size + 1) (by simp))
  have LL := hide (((Later.refl w).alloc (.cells #[.int .i64 0, .int .u64 0, .int .i64 0, .int .i64 0, .int .i64 0] 26)).alloc (.cells #[.int .i64 18, .int .u64 0, .int .i64 0, .int .i64 0, .int .i64 0] 26))
  go_enter Try.func24, Try.ntmps24
  have zb := wr_of (x := (bigAt l 3 2 : Int)) (by have := bigAt_lt (l := l) (a := 3) (n := 2) 0 (by decide); omega)
  go_wp2_with fail
  generalize ((w.alloc (.cells #[.int .i64 0, .int .u64 0, .int .i64 0, .int .i64 0, .int .i64 0] 26)).alloc (.cells #[.int .i64 18, .int .u64 0, .int .i64 0, .int .i64 0, .int .i64 0] 26)) = w1 at *
  refine wp_region_old w LL.out [(0, false), (1, false), (2, false), (3, false), (4, false), (5, false), (6, false), (7, false), (8, false), (9, false), (10, false), (11, false), (12, false), (13, true), (14, false), (15, true), (16, false), (17, true)] (by kernel_rfl) (by kernel_rfl) (by kernel_rfl) (by kernel_rfl) ?_
  have k1 := fun r => HC.out 1 (by omega) _ (later_rg w r)
  have k2 := fun r => HC.out 2 (by omega) _ (later_rg w r)
  have k3 := fun r => HC.out 3 (by omega) _ (later_rg w r)
  have k4 := fun r => HC.out 4 (by omega) _ (later_rg w r)
  replace B4 := hide (B4.out.later (Later.refl _).drew)
  replace B6 := hide (B6.out.later (Later.refl _).drew)
  replace LL := hide (LL.out.trans (Later.refl _).drew)
  iterate 1 (refine wpK_mild rfl (fun K hK => ?_); go_simp; refine hK _ ?_; clear hK K)
  refine wpK_call rfl (by kernel_rfl) 36 (Plain.of (by kernel_rfl)) [.tmp 25, .const (.int .i64 3), .const (.int .i64 2)] _ rfl [.slice (some ⟨b, off, none⟩) 6 cap, .int .i64 3, .int .i64 2] rfl (.int .u64 (bigAt l 3 2 : Nat)) (fun wx hx => rbig6_c 3 2 wx (HB.out.later hx)) ?_
  iterate 11 (refine wpK_mild rfl (fun K hK => ?_); go_simp; refine hK _ ?_; clear hK K)
  refine wpK_store rfl rfl 3 (.tmp 37) (.tmp 27) rfl (w.heap.size + 1) 2 rfl .i64 (bigAt l 3 2 : Int) rfl Try.info1_int _ _ B6.out (by simp) LL.out (Nat.le_succ _) ?_
  intro wl hl w2 hB hL hw
  replace B4 := hide ((B4.out.later hl).apart (w.heap.size + 1) (by omega) [.int .i64 (bigAt l 3 2 : Int)] 2)
  rw [← hw.out] at B4
  replace B6 : Hid (Box w2 (w.heap.size + 1) 26 (cc (18, 0, (bigAt l 3 2 : Int), 0, 0))) := hB
  replace LL := hide hL
  clear hl hB hL hw
  clear wl
  iterate 1 (refine wpK_mild rfl (fun K hK => ?_); go_simp; refine hK _ ?_; clear hK K)
  refine wpK_store rfl rfl 3 (.tmp 38) (.tmp 31) rfl (w.heap.size + 1) 3 rfl .i64 (Bn l 2 : Int) rfl Try.info1_int _ _ B6.out (by simp) LL.out (Nat.le_succ _) ?_
  intro wl hl w2 hB hL hw
  replace B4 := hide ((B4.out.later hl).apart (w.heap.size + 1) (by omega) [.int .i64 (Bn l 2 : Int)] 3)
  rw [← hw.out] at B4
  replace B6 : Hid (Box w2 (w.heap.size + 1) 26 (cc (18, 0, (bigAt l 3 2 : Int), (Bn l 2 : Int), 0))) := hB
  replace LL := hide hL
  clear hl hB hL hw
  clear wl
  iterate 1 (refine wpK_mild rfl (fun K hK => ?_); go_simp; refine hK _ ?_; clear hK K)
  refine wpK_store rfl rfl 3 (.tmp 39) (.tmp 36) rfl (w.heap.size + 1) 4 rfl .i64 ((Bn l 1 : Int) % 2) rfl Try.info1_int _ _ B6.out (by simp) LL.out (Nat.le_succ _) ?_
  intro wl hl w2 hB hL hw
  replace B4 := hide ((B4.out.later hl).apart (w.heap.size + 1) (by omega) [.int .i64 ((Bn l 1 : Int) % 2)] 4)
  rw [← hw.out] at B4
  replace B6 : Hid (Box w2 (w.heap.size + 1) 26 (cc (18, 0, (bigAt l 3 2 : Int), (Bn l 2 : Int), (Bn l 1 : Int) % 2))) := hB
  replace LL := hide hL
  clear hl hB hL hw
  clear wl
  refine wpK_nil (fun wn hn => ?_)
  replace B4 := hide (B4.out.later hn)
  replace B6 := hide (B6.out.later hn)
  replace LL := hide (LL.out.trans hn)
  clear hn k1 k2 k3 k4
  cases hb : ((Bn l 2 : Int) == 0) with
  | true =>
    replace HR : Hid (restS 18 l = lb true (18, 0, (bigAt l 3 2 : Int), (Bn l 2 : Int), (Bn l 1 : Int) % 2)) := by rw [Hid, HR.out, hb, Bool.true_or]
    have e0 := B6.out.cell 0
    have e1 := B6.out.cell 1
    have e2 := B6.out.cell 2
    have e3 := B6.out.cell 3
    have e4 := B6.out.cell 4
    go_wp2_with (refine wpList_storeU rfl 26 (.tmp 4) (.tmp 195) rfl w.heap.size 0 rfl (cc (18, 0, (bigAt l 3 2 : Int), (Bn l 2 : Int), (Bn l 1 : Int) % 2)) rfl Try.info_cmd (cc_one _) _ _ B4.out (by simp) ?_)
    intro wz hz
    have BZ : Hid (Box wz w.heap.size 26 (cc (18, 0, (bigAt l 3 2 : Int), (Bn l 2 : Int), (Bn l 1 : Int) % 2))) := by rw [hz.out]; exact B4.out.all _ rfl
    have LZ : Hid (Later w wz) := by rw [hz.out]; exact LL.out.setCells (Nat.le_refl _) _ _
    clear hz e0 e1 e2 e3 e4
    go_wp2
    refine bodyPost_ret (results_cell_tmp rfl _ _ _ w.heap.size 0 rfl _ (.bool true) (load_cmd (c := (18, 0, (bigAt l 3 2 : Int), (Bn l 2 : Int), (Bn l 1 : Int) % 2)) BZ.out rfl) (by rfl)) rfl ⟨by rw [HR.out], LZ.out⟩
  | false =>
    replace HR : Hid (restS 18 l = lb ((Bn l 1 : Int) % 2 == 1) (18, 0, (bigAt l 3 2 : Int), (Bn l 2 : Int), (Bn l 1 : Int) % 2)) := by rw [Hid, HR.out, hb, Bool.false_or]
    have e0 := B6.out.cell 0
    have e1 := B6.out.cell 1
    have e2 := B6.out.cell 2
    have e3 := B6.out.cell 3
    have e4 := B6.out.cell 4
    go_wp2_with (refine wpList_storeU rfl 26 (.tmp 4) (.tmp 195) rfl w.heap.size 0 rfl (cc (18, 0, (bigAt l 3 2 : Int), (Bn l 2 : Int), (Bn l 1 : Int) % 2)) rfl Try.info_cmd (cc_one _) _ _ B4.out (by simp) ?_)
    intro wz hz
    have BZ : Hid (Box wz w.heap.size 26 (cc (18, 0, (bigAt l 3 2 : Int), (Bn l 2 : Int), (Bn l 1 : Int) % 2))) := by rw [hz.out]; exact B4.out.all _ rfl
    have LZ : Hid (Later w wz) := by rw [hz.out]; exact LL.out.setCells (Nat.le_refl _) _ _
    clear hz e0 e1 e2 e3 e4
    go_wp2
    refine bodyPost_ret (results_cell_tmp rfl _ _ _ w.heap.size 0 rfl _ (.bool ((Bn l 1 : Int) % 2 == 1)) (load_cmd (c := (18, 0, (bigAt l 3 2 : Int), (Bn l 2 : Int), (Bn l 1 : Int) % 2)) BZ.out rfl) (by rfl)) rfl ⟨by rw [HR.out], LZ.out⟩
set_option maxRecDepth 20000 in
set_option maxHeartbeats 1000000 in
theorem rrest_21 {v : Value} {l : List UInt8} (w : World) (h : Bs w v l) (hl : l.length = 6) : Calls Try.prog 24 #[.int .i64 21, v] w fun e w' => e = .returned (.tuple #[cval (restS 21 l).1, .bool (restS 21 l).2]) ∧ Later w w' := by
  have HR : Hid (restS 21 l = lb (((Bn l 1 : Int) / 16 % 2 == 1) && ((Bn l 1 : Int) % 2 == 0)) (21, 0, (Bn l 4 : Int), 0, 0)) := rfl
  obtain ⟨b, off, cap, rfl, hc⟩ := h.cells6 hl (by omega)
  have HB := hide h
  have b1 := Bn_lt l 1
  have b2 := Bn_lt l 2
  have b3 := Bn_lt l 3
  have b4 := Bn_lt l 4
  have b8 := Bn_lt l 8
  have HC := hide hc
  clear hc h hl
  have z1 := wr_of (x := (Bn l 1 : Int)) (by omega)
  have z2 := wr_of (x := (Bn l 2 : Int)) (by omega)
  have z3 := wr_of (x := (Bn l 3 : Int)) (by omega)
  have z4 := wr_of (x := (Bn l 4 : Int)) (by omega)
  have z5 := wr_of (x := (Bn l 1 : Int) % 2) (by omega)
  have z6 := wr_of (x := (Bn l 2 : Int) % 64) (by omega)
  have z7 := wr_of (x := (Bn l 2 : Int) / 64) (by omega)
  have z8 := wr_of (x := (Bn l 4 : Int) % 4) (by omega)
  have v1 := wr8_of (x := (Bn l 1 : Int) / 16) (by omega)
  have v2 := wr8_of (x := (Bn l 2 : Int) / 64) (by omega)
  have v3 := wr8_of (x := (Bn l 1 : Int) / 8) (by omega)
  have v4 := wr8_of (x := (Bn l 1 : Int) / 4) (by omega)
  have v5 := wr8_of (x := (Bn l 1 : Int) / 2) (by omega)
  have m1 := tm2
  have m2 := tm4
  have m3 := tm32
  have m4 := tm64
  have m5 := td16
  have m6 := td64
  have m7 := tdm16
  have B4 := hide (((Box.new w 26 #[.int .i64 0, .int .u64 0, .int .i64 0, .int .i64 0, .int .i64 0])).alloc (.cells #[.int .i64 21, .int .u64 0, .int .i64 0, .int .i64 0, .int .i64 0] 26))
  have B6 := hide (Box.new' (w.alloc (.cells #[.int .i64 0, .int .u64 0, .int .i64 0, .int .i64 0, .int .i64 0] 26)) 26 #[.int .i64 21, .int .u64 0, .int .i64 0, .int .i64 0, .int .i64 0] _ rfl (w.heap.size + 1) (by simp))
  have LL := hide (((Later.refl w).alloc (.cells #[.int .i64 0, .int .u64 0, .int .i64 0, .int .i64 0, .int .i64 0] 26)).alloc (.cells #[.int .i64 21, .int .u64 0, .int .i64 0, .int .i64 0, .int .i64 0] 26))
  go_enter Try.func24, Try.ntmps24
  go_wp2_with fail
  generalize ((w.alloc (.cells #[.int .i64 0, .int .u64 0, .int .i64 0, .int .i64 0, .int .i64 0] 26)).alloc (.cells #[.int .i64 21, .int .u64 0, .int .i64 0, .int .i64 0, .int .i64 0] 26)) = w1 at *
  cases hb : ((Bn l 1 : Int) / 16 % 2 == 1) with
  | true =>
    replace HR : Hid (restS 21 l = lb ((Bn l 1 : Int) % 2 == 0) (21, 0, (Bn l 4 : Int), 0, 0)) := by rw [Hid, HR.out, hb, Bool.true_and]
    refine wp_region_old w LL.out [(0, false), (1, false), (2, false), (3, false), (4, false), (5, false), (6, false), (7, false), (8, false), (9, false), (10, false), (11, false), (12, false), (13, false), (14, false), (15, false), (16, false), (17, false), (18, true), (19, false)] (by kernel_rfl) (by kernel_rfl) (by kernel_rfl) (by kernel_rfl) ?_
    have k1 := fun r => HC.out 1 (by omega) _ (later_rg w r)
    have k2 := fun r => HC.out 2 (by omega) _ (later_rg w r)
    have k3 := fun r => HC.out 3 (by omega) _ (later_rg w r)
    have k4 := fun r => HC.out 4 (by omega) _ (later_rg w r)
    replace B4 := hide (B4.out.later (Later.refl _).drew)
    replace B6 := hide (B6.out.later (Later.refl _).drew)
    replace LL := hide (LL.out.trans (Later.refl _).drew)
    iterate 18 (refine wpK_mild rfl (fun K hK => ?_); go_simp; refine hK _ ?_; clear hK K)
    refine wpK_store rfl rfl 3 (.tmp 67) (.tmp 53) rfl (w.heap.size + 1) 2 rfl .i64 (Bn l 4 : Int) rfl Try.info1_int _ _ B6.out (by simp) LL.out (Nat.le_succ _) ?_
    intro wl hl w2 hB hL hw
    replace B4 := hide ((B4.out.later hl).apart (w.heap.size + 1) (by omega) [.int .i64 (Bn l 4 : Int)] 2)
    rw [← hw.out] at B4
    replace B6 : Hid (Box w2 (w.heap.size + 1) 26 (cc (21, 0, (Bn l 4 : Int), 0, 0))) := hB
    replace LL := hide hL
    clear hl hB hL hw
    clear wl
    iterate 1 (refine wpK_mild rfl (fun K hK => ?_); go_simp; refine hK _ ?_; clear hK K)
    refine wpK_nil (fun wn hn => ?_)
    replace B4 := hide (B4.out.later hn)
    replace B6 := hide (B6.out.later hn)
    replace LL := hide (LL.out.trans hn)
    clear hn k1 k2 k3 k4
    have e0 := B6.out.cell 0
    have e1 := B6.out.cell 1
    have e2 := B6.out.cell 2
    have e3 := B6.out.cell 3
    have e4 := B6.out.cell 4
    go_wp2_with (refine wpList_storeU rfl 26 (.tmp 4) (.tmp 195) rfl w.heap.size 0 rfl (cc (21, 0, (Bn l 4 : Int), 0, 0)) rfl Try.info_cmd (cc_one _) _ _ B4.out (by simp) ?_)
    intro wz hz
    have BZ : Hid (Box wz w.heap.size 26 (cc (21, 0, (Bn l 4 : Int), 0, 0))) := by rw [hz.out]; exact B4.out.all _ rfl
    have LZ : Hid (Later w wz) := by rw [hz.out]; exact LL.out.setCells (Nat.le_refl _) _ _
    clear hz e0 e1 e2 e3 e4
    go_wp2
    refine bodyPost_ret (results_cell_tmp rfl _ _ _ w.heap.size 0 rfl _ (.bool ((Bn l 1 : Int) % 2 == 0)) (load_cmd (c := (21, 0, (Bn l 4 : Int), 0, 0)) BZ.out rfl) (by rfl)) rfl ⟨by rw [HR.out], LZ.out⟩
  | false =>
    replace HR : Hid (restS 21 l = lb false (21, 0, (Bn l 4 : Int), 0, 0)) := by rw [Hid, HR.out, hb, Bool.false_and]
    refine wp_region_old w LL.out [(0, false), (1, false), (2, false), (3, false), (4, false), (5, false), (6, false), (7, false), (8, false), (9, false), (10, false), (11, false), (12, false), (13, false), (14, false), (15, false), (16, false), (17, false), (18, true), (19, false)] (by kernel_rfl) (by kernel_rfl) (by kernel_rfl) (by kernel_rfl) ?_
    have k1 := fun r => HC.out 1 (by omega) _ (later_rg w r)
    have k2 := fun r => HC.out 2 (by omega) _ (later_rg w r)
    have k3 := fun r => HC.out 3 (by omega) _ (later_rg w r)
    have k4 := fun r => HC.out 4 (by omega) _ (later_rg w r)
    replace B4 := hide (B4.out.later (Later.refl _).drew)
    replace B6 := hide (B6.out.later (Later.refl _).drew)
    replace LL := hide (LL.out.trans (Later.refl _).drew)
    iterate 18 (refine wpK_mild rfl (fun K hK => ?_); go_simp; refine hK _ ?_; clear hK K)
    refine wpK_store rfl rfl 3 (.tmp 67) (.tmp 53) rfl (w.heap.size + 1) 2 rfl .i64 (Bn l 4 : Int) rfl Try.info1_int _ _ B6.out (by simp) LL.out (Nat.le_succ _) ?_
    intro wl hl w2 hB hL hw
    replace B4 := hide ((B4.out.later hl).apart (w.heap.size + 1) (by omega) [.int .i64 (Bn l 4 : Int)] 2)
    rw [← hw.out] at B4
    replace B6 : Hid (Box w2 (w.heap.size + 1) 26 (cc (21, 0, (Bn l 4 : Int), 0, 0))) := hB
    replace LL := hide hL
    clear hl hB hL hw
    clear wl
    iterate 1 (refine wpK_mild rfl (fun K hK => ?_); go_simp; refine hK _ ?_; clear hK K)
    refine wpK_nil (fun wn hn => ?_)
    replace B4 := hide (B4.out.later hn)
    replace B6 := hide (B6.out.later hn)
    replace LL := hide (LL.out.trans hn)
    clear hn k1 k2 k3 k4
    have e0 := B6.out.cell 0
    have e1 := B6.out.cell 1
    have e2 := B6.out.cell 2
    have e3 := B6.out.cell 3
    have e4 := B6.out.cell 4
    go_wp2_with (refine wpList_storeU rfl 26 (.tmp 4) (.tmp 195) rfl w.heap.size 0 rfl (cc (21, 0, (Bn l 4 : Int), 0, 0)) rfl Try.info_cmd (cc_one _) _ _ B4.out (by simp) ?_)
    intro wz hz
    have BZ : Hid (Box wz w.heap.size 26 (cc (21, 0, (Bn l 4 : Int), 0, 0))) := by rw [hz.out]; exact B4.out.all _ rfl
    have LZ : Hid (Later w wz) := by rw [hz.out]; exact LL.out.setCells (Nat.le_refl _) _ _
    clear hz e0 e1 e2 e3 e4
    go_wp2
    refine bodyPost_ret (results_cell_tmp rfl _ _ _ w.heap.size 0 rfl _ (.bool false) (load_cmd (c := (21, 0, (Bn l 4 : Int), 0, 0)) BZ.out rfl) (by rfl)) rfl ⟨by rw [HR.out], LZ.out⟩
set_option maxRecDepth 20000 in
set_option maxHeartbeats 1000000 in
theorem rrest_85 {v : Value} {l : List UInt8} (w : World) (h : Bs w v l) (hl : l.length = 10) : Calls Try.prog 24 #[.int .i64 85, v] w fun e w' => e = .returned (.tuple #[cval (restS 85 l).1, .bool (restS 85 l).2]) ∧ Later w w' := by
  have HR : Hid (restS 85 l = lb (((Bn l 1 : Int) / 16 % 2 == 1) && ((Bn l 1 : Int) % 2 == 0)) (85, 0, (bigAt l 7 2 : Int), 0, 0)) := rfl
  obtain ⟨b, off, cap, rfl, hc⟩ := h.cells6 hl (by omega)
  have HB := hide h
  have b1 := Bn_lt l 1
  have b2 := Bn_lt l 2
  have b3 := Bn_lt l 3
  have b4 := Bn_lt l 4
  have b8 := Bn_lt l 8
  have HC := hide hc
  clear hc h hl
  have z1 := wr_of (x := (Bn l 1 : Int)) (by omega)
  have z2 := wr_of (x := (Bn l 2 : Int)) (by omega)
  have z3 := wr_of (x := (Bn l 3 : Int)) (by omega)
  have z4 := wr_of (x := (Bn l 4 : Int)) (by omega)
  have z5 := wr_of (x := (Bn l 1 : Int) % 2) (by omega)
  have z6 := wr_of (x := (Bn l 2 : Int) % 64) (by omega)
  have z7 := wr_of (x := (Bn l 2 : Int) / 64) (by omega)
  have z8 := wr_of (x := (Bn l 4 : Int) % 4) (by omega)
  have v1 := wr8_of (x := (Bn l 1 : Int) / 16) (by omega)
  have v2 := wr8_of (x := (Bn l 2 : Int) / 64) (by omega)
  have v3 := wr8_of (x := (Bn l 1 : Int) / 8) (by omega)
  have v4 := wr8_of (x := (Bn l 1 : Int) / 4) (by omega)
  have v5 := wr8_of (x := (Bn l 1 : Int) / 2) (by omega)
  have m1 := tm2
  have m2 := tm4
  have m3 := tm32
  have m4 := tm64
  have m5 := td16
  have m6 := td64
  have m7 := tdm16
  have B4 := hide (((Box.new w 26 #[.int .i64 0, .int .u64 0, .int .i64 0, .int .i64 0, .int .i64 0])).alloc (.cells #[.int .i64 85, .int .u64 0, .int .i64 0, .int .i64 0, .int .i64 0] 26))
  have B6 := hide (Box.new' (w.alloc (.cells #[.int .i64 0, .int .u64 0, .int .i64 0, .int .i64 0, .int .i64 0] 26)) 26 #[.int .i64 85, .int .u64 0, .int .i64 0, .int .i64 0, .int .i64 0] _ rfl (w.heap.size + 1) (by simp))
  have LL := hide (((Later.refl w).alloc (.cells #[.int .i64 0, .int .u64 0, .int .i64 0, .int .i64 0, .int .i64 0] 26)).alloc (.cells #[.int .i64 85, .int .u64 0, .int .i64 0, .int .i64 0, .int .i64 0] 26))
  go_enter Try.func24, Try.ntmps24
  have zb := wr_of (x := (bigAt l 7 2 : Int)) (by have := bigAt_lt (l := l) (a := 7) (n := 2) 0 (by decide); omega)
  go_wp2_with fail
  generalize ((w.alloc (.cells #[.int .i64 0, .int .u64 0, .int .i64 0, .int .i64 0, .int .i64 0] 26)).alloc (.cells #[.int .i64 85, .int .u64 0, .int .i64 0, .int .i64 0, .int .i64 0] 26)) = w1 at *
  cases hb : ((Bn l 1 : Int) / 16 % 2 == 1) with
  | true =>
    replace HR : Hid (restS 85 l = lb ((Bn l 1 : Int) % 2 == 0) (85, 0, (bigAt l 7 2 : Int), 0, 0)) := by rw [Hid, HR.out, hb, Bool.true_and]
    refine wp_region_old w LL.out [(0, false), (1, false), (2, false), (3, false), (4, false), (5, false), (6, false), (7, false), (8, false), (9, false), (10, false), (11, false), (12, false), (13, false), (14, false), (15, false), (16, false), (17, true), (18, false)] (by kernel_rfl) (by kernel_rfl) (by kernel_rfl) (by kernel_rfl) ?_
    have k1 := fun r => HC.out 1 (by omega) _ (later_rg w r)
    have k2 := fun r => HC.out 2 (by omega) _ (later_rg w r)
    have k3 := fun r => HC.out 3 (by omega) _ (later_rg w r)
    have k4 := fun r => HC.out 4 (by omega) _ (later_rg w r)
    replace B4 := hide (B4.out.later (Later.refl _).drew)
    replace B6 := hide (B6.out.later (Later.refl _).drew)
    replace LL := hide (LL.out.trans (Later.refl _).drew)
    iterate 1 (refine wpK_mild rfl (fun K hK => ?_); go_simp; refine hK _ ?_; clear hK K)
    refine wpK_call rfl (by kernel_rfl) 36 (Plain.of (by kernel_rfl)) [.tmp 70, .const (.int .i64 7), .const (.int .i64 2)] _ rfl [.slice (some ⟨b, off, none⟩) 10 cap, .int .i64 7, .int .i64 2] rfl (.int .u64 (bigAt l 7 2 : Nat)) (fun wx hx => rbig6_c 7 2 wx (HB.out.later hx)) ?_
    iterate 15 (refine wpK_mild rfl (fun K hK => ?_); go_simp; refine hK _ ?_; clear hK K)
    refine wpK_store rfl rfl 3 (.tmp 86) (.tmp 72) rfl (w.heap.size + 1) 2 rfl .i64 (bigAt l 7 2 : Int) rfl Try.info1_int _ _ B6.out (by simp) LL.out (Nat.le_succ _) ?_
    intro wl hl w2 hB hL hw
    replace B4 := hide ((B4.out.later hl).apart (w.heap.size + 1) (by omega) [.int .i64 (bigAt l 7 2 : Int)] 2)
    rw [← hw.out] at B4
    replace B6 : Hid (Box w2 (w.heap.size + 1) 26 (cc (85, 0, (bigAt l 7 2 : Int), 0, 0))) := hB
    replace LL := hide hL
    clear hl hB hL hw
    clear wl
    iterate 1 (refine wpK_mild rfl (fun K hK => ?_); go_simp; refine hK _ ?_; clear hK K)
    refine wpK_nil (fun wn hn => ?_)
    replace B4 := hide (B4.out.later hn)
    replace B6 := hide (B6.out.later hn)
    replace LL := hide (LL.out.trans hn)
    clear hn k1 k2 k3 k4
    have e0 := B6.out.cell 0
    have e1 := B6.out.cell 1
    have e2 := B6.out.cell 2
    have e3 := B6.out.cell 3
    have e4 := B6.out.cell 4
    go_wp2_with (refine wpList_storeU rfl 26 (.tmp 4) (.tmp 195) rfl w.heap.size 0 rfl (cc (85, 0, (bigAt l 7 2 : Int), 0, 0)) rfl Try.info_cmd (cc_one _) _ _ B4.out (by simp) ?_)
    intro wz hz
    have BZ : Hid (Box wz w.heap.size 26 (cc (85, 0, (bigAt l 7 2 : Int), 0, 0))) := by rw [hz.out]; exact B4.out.all _ rfl
    have LZ : Hid (Later w wz) := by rw [hz.out]; exact LL.out.setCells (Nat.le_refl _) _ _
    clear hz e0 e1 e2 e3 e4
    go_wp2
    refine bodyPost_ret (results_cell_tmp rfl _ _ _ w.heap.size 0 rfl _ (.bool ((Bn l 1 : Int) % 2 == 0)) (load_cmd (c := (85, 0, (bigAt l 7 2 : Int), 0, 0)) BZ.out rfl) (by rfl)) rfl ⟨by rw [HR.out], LZ.out⟩
  | false =>
    replace HR : Hid (restS 85 l = lb false (85, 0, (bigAt l 7 2 : Int), 0, 0)) := by rw [Hid, HR.out, hb, Bool.false_and]
    refine wp_region_old w LL.out [(0, false), (1, false), (2, false), (3, false), (4, false), (5, false), (6, false), (7, false), (8, false), (9, false), (10, false), (11, false), (12, false), (13, false), (14, false), (15, false), (16, false), (17, true), (18, false)] (by kernel_rfl) (by kernel_rfl) (by kernel_rfl) (by kernel_rfl) ?_
    have k1 := fun r => HC.out 1 (by omega) _ (later_rg w r)
    have k2 := fun r => HC.out 2 (by omega) _ (later_rg w r)
    have k3 := fun r => HC.out 3 (by omega) _ (later_rg w r)
    have k4 := fun r => HC.out 4 (by omega) _ (later_rg w r)
    replace B4 := hide (B4.out.later (Later.refl _).drew)
    replace B6 := hide (B6.out.later (Later.refl _).drew)
    replace LL := hide (LL.out.trans (Later.refl _).drew)
    iterate 1 (refine wpK_mild rfl (fun K hK => ?_); go_simp; refine hK _ ?_; clear hK K)
    refine wpK_call rfl (by kernel_rfl) 36 (Plain.of (by kernel_rfl)) [.tmp 70, .const (.int .i64 7), .const (.int .i64 2)] _ rfl [.slice (some ⟨b, off, none⟩) 10 cap, .int .i64 7, .int .i64 2] rfl (.int .u64 (bigAt l 7 2 : Nat)) (fun wx hx => rbig6_c 7 2 wx (HB.out.later hx)) ?_
    iterate 15 (refine wpK_mild rfl (fun K hK => ?_); go_simp; refine hK _ ?_; clear hK K)
    refine wpK_store rfl rfl 3 (.tmp 86) (.tmp 72) rfl (w.heap.size + 1) 2 rfl .i64 (bigAt l 7 2 : Int) rfl Try.info1_int _ _ B6.out (by simp) LL.out (Nat.le_succ _) ?_
    intro wl hl w2 hB hL hw
    replace B4 := hide ((B4.out.later hl).apart (w.heap.size + 1) (by omega) [.int .i64 (bigAt l 7 2 : Int)] 2)
    rw [← hw.out] at B4
    replace B6 : Hid (Box w2 (w.heap.size + 1) 26 (cc (85, 0, (bigAt l 7 2 : Int), 0, 0))) := hB
    replace LL := hide hL
    clear hl hB hL hw
    clear wl
    iterate 1 (refine wpK_mild rfl (fun K hK => ?_); go_simp; refine hK _ ?_; clear hK K)
    refine wpK_nil (fun wn hn => ?_)
    replace B4 := hide (B4.out.later hn)
    replace B6 := hide (B6.out.later hn)
    replace LL := hide (LL.out.trans hn)
    clear hn k1 k2 k3 k4
    have e0 := B6.out.cell 0
    have e1 := B6.out.cell 1
    have e2 := B6.out.cell 2
    have e3 := B6.out.cell 3
    have e4 := B6.out.cell 4
    go_wp2_with (refine wpList_storeU rfl 26 (.tmp 4) (.tmp 195) rfl w.heap.size 0 rfl (cc (85, 0, (bigAt l 7 2 : Int), 0, 0)) rfl Try.info_cmd (cc_one _) _ _ B4.out (by simp) ?_)
    intro wz hz
    have BZ : Hid (Box wz w.heap.size 26 (cc (85, 0, (bigAt l 7 2 : Int), 0, 0))) := by rw [hz.out]; exact B4.out.all _ rfl
    have LZ : Hid (Later w wz) := by rw [hz.out]; exact LL.out.setCells (Nat.le_refl _) _ _
    clear hz e0 e1 e2 e3 e4
    go_wp2
    refine bodyPost_ret (results_cell_tmp rfl _ _ _ w.heap.size 0 rfl _ (.bool false) (load_cmd (c := (85, 0, (bigAt l 7 2 : Int), 0, 0)) BZ.out rfl) (by rfl)) rfl ⟨by rw [HR.out], LZ.out⟩
set_option maxRecDepth 20000 in
set_option maxHeartbeats 1000000 in
theorem rrest_26 {v : Value} {l : List UInt8} (w : World) (h : Bs w v l) (hl : l.length = 6) : Calls Try.prog 24 #[.int .i64 26, v] w fun e w' => e = .returned (.tuple #[cval (restS 26 l).1, .bool (restS 26 l).2]) ∧ Later w w' := by
  have HR : Hid (restS 26 l = lb ((Bn l 3 : Int) == 0) (26, 0, (Bn l 4 : Int), (Bn l 2 : Int) % 64, (Bn l 2 : Int) / 64)) := rfl
  obtain ⟨b, off, cap, rfl, hc⟩ := h.cells6 hl (by omega)
  have HB := hide h
  have b1 := Bn_lt l 1
  have b2 := Bn_lt l 2
  have b3 := Bn_lt l 3
  have b4 := Bn_lt l 4
  have b8 := Bn_lt l 8
  have HC := hide hc
  clear hc h hl
  have z1 := wr_of (x := (Bn l 1 : Int)) (by omega)
  have z2 := wr_of (x := (Bn l 2 : Int)) (by omega)
  have z3 := wr_of (x := (Bn l 3 : Int)) (by omega)
  have z4 := wr_of (x := (Bn l 4 : Int)) (by omega)
  have z5 := wr_of (x := (Bn l 1 : Int) % 2) (by omega)
  have z6 := wr_of (x := (Bn l 2 : Int) % 64) (by omega)
  have z7 := wr_of (x := (Bn l 2 : Int) / 64) (by omega)
  have z8 := wr_of (x := (Bn l 4 : Int) % 4) (by omega)
  have v1 := wr8_of (x := (Bn l 1 : Int) / 16) (by omega)
  have v2 := wr8_of (x := (Bn l 2 : Int) / 64) (by omega)
  have v3 := wr8_of (x := (Bn l 1 : Int) / 8) (by omega)
  have v4 := wr8_of (x := (Bn l 1 : Int) / 4) (by omega)
  have v5 := wr8_of (x := (Bn l 1 : Int) / 2) (by omega)
  have m1 := tm2
  have m2 := tm4
  have m3 := tm32
  have m4 := tm64
  have m5 := td16
  have m6 := td64
  have m7 := tdm16
  have B4 := hide (((Box.new w 26 #[.int .i64 0, .int .u64 0, .int .i64 0, .int .i64 0, .int .i64 0])).alloc (.cells #[.int .i64 26, .int .u64 0, .int .i64 0, .int .i64 0, .int .i64 0] 26))
  have B6 := hide (Box.new' (w.alloc (.cells #[.int .i64 0, .int .u64 0, .int .i64 0, .int .i64 0, .int .i64 0] 26)) 26 #[.int .i64 26, .int .u64 0, .int .i64 0, .int .i64 0, .int .i64 0] _ rfl (w.heap.size + 1) (by simp))
  have LL := hide (((Later.refl w).alloc (.cells #[.int .i64 0, .int .u64 0, .int .i64 0, .int .i64 0, .int .i64 0] 26)).alloc (.cells #[.int .i64 26, .int .u64 0, .int .i64 0, .int .i64 0, .int .i64 0] 26))
  go_enter Try.func24, Try.ntmps24
  go_wp2_with fail
  generalize ((w.alloc (.cells #[.int .i64 0, .int .u64 0, .int .i64 0, .int .i64 0, .int .i64 0] 26)).alloc (.cells #[.int .i64 26, .int .u64 0, .int .i64 0, .int .i64 0, .int .i64 0] 26)) = w1 at *
  refine wp_region_old w LL.out [(0, false), (1, false), (2, false), (3, false), (4, false), (5, false), (6, false), (7, false), (8, false), (9, false), (10, false), (11, false), (12, false), (13, false), (14, false), (15, false), (16, false), (17, false), (18, false), (19, true), (20, false), (21, true), (22, false), (23, true), (24, false)] (by kernel_rfl) (by kernel_rfl) (by kernel_rfl) (by kernel_rfl) ?_
  have k1 := fun r => HC.out 1 (by omega) _ (later_rg w r)
  have k2 := fun r => HC.out 2 (by omega) _ (later_rg w r)
  have k3 := fun r => HC.out 3 (by omega) _ (later_rg w r)
  have k4 := fun r => HC.out 4 (by omega) _ (later_rg w r)
  replace B4 := hide (B4.out.later (Later.refl _).drew)
  replace B6 := hide (B6.out.later (Later.refl _).drew)
  replace LL := hide (LL.out.trans (Later.refl _).drew)
  iterate 19 (refine wpK_mild rfl (fun K hK => ?_); go_simp; refine hK _ ?_; clear hK K)
  refine wpK_store rfl rfl 3 (.tmp 107) (.tmp 92) rfl (w.heap.size + 1) 2 rfl .i64 (Bn l 4 : Int) rfl Try.info1_int _ _ B6.out (by simp) LL.out (Nat.le_succ _) ?_
  intro wl hl w2 hB hL hw
  replace B4 := hide ((B4.out.later hl).apart (w.heap.size + 1) (by omega) [.int .i64 (Bn l 4 : Int)] 2)
  rw [← hw.out] at B4
  replace B6 : Hid (Box w2 (w.heap.size + 1) 26 (cc (26, 0, (Bn l 4 : Int), 0, 0))) := hB
  replace LL := hide hL
  clear hl hB hL hw
  clear wl
  iterate 1 (refine wpK_mild rfl (fun K hK => ?_); go_simp; refine hK _ ?_; clear hK K)
  refine wpK_store rfl rfl 3 (.tmp 108) (.tmp 97) rfl (w.heap.size + 1) 3 rfl .i64 ((Bn l 2 : Int) % 64) rfl Try.info1_int _ _ B6.out (by simp) LL.out (Nat.le_succ _) ?_
  intro wl hl w2 hB hL hw
  replace B4 := hide ((B4.out.later hl).apart (w.heap.size + 1) (by omega) [.int .i64 ((Bn l 2 : Int) % 64)] 3)
  rw [← hw.out] at B4
  replace B6 : Hid (Box w2 (w.heap.size + 1) 26 (cc (26, 0, (Bn l 4 : Int), (Bn l 2 : Int) % 64, 0))) := hB
  replace LL := hide hL
  clear hl hB hL hw
  clear wl
  iterate 1 (refine wpK_mild rfl (fun K hK => ?_); go_simp; refine hK _ ?_; clear hK K)
  refine wpK_store rfl rfl 3 (.tmp 109) (.tmp 102) rfl (w.heap.size + 1) 4 rfl .i64 ((Bn l 2 : Int) / 64) rfl Try.info1_int _ _ B6.out (by simp) LL.out (Nat.le_succ _) ?_
  intro wl hl w2 hB hL hw
  replace B4 := hide ((B4.out.later hl).apart (w.heap.size + 1) (by omega) [.int .i64 ((Bn l 2 : Int) / 64)] 4)
  rw [← hw.out] at B4
  replace B6 : Hid (Box w2 (w.heap.size + 1) 26 (cc (26, 0, (Bn l 4 : Int), (Bn l 2 : Int) % 64, (Bn l 2 : Int) / 64))) := hB
  replace LL := hide hL
  clear hl hB hL hw
  clear wl
  iterate 1 (refine wpK_mild rfl (fun K hK => ?_); go_simp; refine hK _ ?_; clear hK K)
  refine wpK_nil (fun wn hn => ?_)
  replace B4 := hide (B4.out.later hn)
  replace B6 := hide (B6.out.later hn)
  replace LL := hide (LL.out.trans hn)
  clear hn k1 k2 k3 k4
  have e0 := B6.out.cell 0
  have e1 := B6.out.cell 1
  have e2 := B6.out.cell 2
  have e3 := B6.out.cell 3
  have e4 := B6.out.cell 4
  go_wp2_with (refine wpList_storeU rfl 26 (.tmp 4) (.tmp 195) rfl w.heap.size 0 rfl (cc (26, 0, (Bn l 4 : Int), (Bn l 2 : Int) % 64, (Bn l 2 : Int) / 64)) rfl Try.info_cmd (cc_one _) _ _ B4.out (by simp) ?_)
  intro wz hz
  have BZ : Hid (Box wz w.heap.size 26 (cc (26, 0, (Bn l 4 : Int), (Bn l 2 : Int) % 64, (Bn l 2 : Int) / 64))) := by rw [hz.out]; exact B4.out.all _ rfl
  have LZ : Hid (Later w wz) := by rw [hz.out]; exact LL.out.setCells (Nat.le_refl _) _ _
  clear hz e0 e1 e2 e3 e4
  go_wp2
  refine bodyPost_ret (results_cell_tmp rfl _ _ _ w.heap.size 0 rfl _ (.bool ((Bn l 3 : Int) == 0)) (load_cmd (c := (26, 0, (Bn l 4 : Int), (Bn l 2 : Int) % 64, (Bn l 2 : Int) / 64)) BZ.out rfl) (by rfl)) rfl ⟨by rw [HR.out], LZ.out⟩
set_option maxRecDepth 20000 in
set_option maxHeartbeats 1000000 in
theorem rrest_90 {v : Value} {l : List UInt8} (w : World) (h : Bs w v l) (hl : l.length = 10) : Calls Try.prog 24 #[.int .i64 90, v] w fun e w' => e = .returned (.tuple #[cval (restS 90 l).1, .bool (restS 90 l).2]) ∧ Later w w' := by
  have HR : Hid (restS 90 l = lb ((Bn l 3 : Int) == 0) (90, 0, (bigAt l 7 2 : Int), (Bn l 2 : Int) % 64, (Bn l 2 : Int) / 64)) := rfl
  obtain ⟨b, off, cap, rfl, hc⟩ := h.cells6 hl (by omega)
  have HB := hide h
  have b1 := Bn_lt l 1
  have b2 := Bn_lt l 2
  have b3 := Bn_lt l 3
  have b4 := Bn_lt l 4
  have b8 := Bn_lt l 8
  have HC := hide hc
  clear hc h hl
  have z1 := wr_of (x := (Bn l 1 : Int)) (by omega)
  have z2 := wr_of (x := (Bn l 2 : Int)) (by omega)
  have z3 := wr_of (x := (Bn l 3 : Int)) (by omega)
  have z4 := wr_of (x := (Bn l 4 : Int)) (by omega)
  have z5 := wr_of (x := (Bn l 1 : Int) % 2) (by omega)
  have z6 := wr_of (x := (Bn l 2 : Int) % 64) (by omega)
  have z7 := wr_of (x := (Bn l 2 : Int) / 64) (by omega)
  have z8 := wr_of (x := (Bn l 4 : Int) % 4) (by omega)
  have v1 := wr8_of (x := (Bn l 1 : Int) / 16) (by omega)
  have v2 := wr8_of (x := (Bn l 2 : Int) / 64) (by omega)
  have v3 := wr8_of (x := (Bn l 1 : Int) / 8) (by omega)
  have v4 := wr8_of (x := (Bn l 1 : Int) / 4) (by omega)
  have v5 := wr8_of (x := (Bn l 1 : Int) / 2) (by omega)
  have m1 := tm2
  have m2 := tm4
  have m3 := tm32
  have m4 := tm64
  have m5 := td16
  have m6 := td64
  have m7 := tdm16
  have B4 := hide (((Box.new w 26 #[.int .i64 0, .int .u64 0, .int .i64 0, .int .i64 0, .int .i64 0])).alloc (.cells #[.int .i64 90, .int .u64 0, .int .i64 0, .int .i64 0, .int .i64 0] 26))
  have B6 := hide (Box.new' (w.alloc (.cells #[.int .i64 0, .int .u64 0, .int .i64 0, .int .i64 0, .int .i64 0] 26)) 26 #[.int .i64 90, .int .u64 0, .int .i64 0, .int .i64 0, .int .i64 0] _ rfl (w.heap.size + 1) (by simp))
  have LL := hide (((Later.refl w).alloc (.cells #[.int .i64 0, .int .u64 0, .int .i64 0, .int .i64 0, .int .i64 0] 26)).alloc (.cells #[.int .i64 90, .int .u64 0, .int .i64 0, .int .i64 0, .int .i64 0] 26))
  go_enter Try.func24, Try.ntmps24
  have zb := wr_of (x := (bigAt l 7 2 : Int)) (by have := bigAt_lt (l := l) (a := 7) (n := 2) 0 (by decide); omega)
  go_wp2_with fail
  generalize ((w.alloc (.cells #[.int .i64 0, .int .u64 0, .int .i64 0, .int .i64 0, .int .i64 0] 26)).alloc (.cells #[.int .i64 90, .int .u64 0, .int .i64 0, .int .i64 0, .int .i64 0] 26)) = w1 at *
  refine wp_region_old w LL.out [(0, false), (1, false), (2, false), (3, false), (4, false), (5, false), (6, false), (7, false), (8, false), (9, false), (10, false), (11, false), (12, false), (13, false), (14, false), (15, false), (16, false), (17, false), (18, true), (19, false), (20, true), (21, false), (22, true), (23, false)] (by kernel_rfl) (by kernel_rfl) (by kernel_rfl) (by kernel_rfl) ?_
  have k1 := fun r => HC.out 1 (by omega) _ (later_rg w r)
  have k2 := fun r => HC.out 2 (by omega) _ (later_rg w r)
  have k3 := fun r => HC.out 3 (by omega) _ (later_rg w r)
  have k4 := fun r => HC.out 4 (by omega) _ (later_rg w r)
  replace B4 := hide (B4.out.later (Later.refl _).drew)
  replace B6 := hide (B6.out.later (Later.refl _).drew)
  replace LL := hide (LL.out.trans (Later.refl _).drew)
  iterate 1 (refine wpK_mild rfl (fun K hK => ?_); go_simp; refine hK _ ?_; clear hK K)
  refine wpK_call rfl (by kernel_rfl) 36 (Plain.of (by kernel_rfl)) [.tmp 112, .const (.int .i64 7), .const (.int .i64 2)] _ rfl [.slice (some ⟨b, off, none⟩) 10 cap, .int .i64 7, .int .i64 2] rfl (.int .u64 (bigAt l 7 2 : Nat)) (fun wx hx => rbig6_c 7 2 wx (HB.out.later hx)) ?_
  iterate 16 (refine wpK_mild rfl (fun K hK => ?_); go_simp; refine hK _ ?_; clear hK K)
  refine wpK_store rfl rfl 3 (.tmp 129) (.tmp 114) rfl (w.heap.size + 1) 2 rfl .i64 (bigAt l 7 2 : Int) rfl Try.info1_int _ _ B6.out (by simp) LL.out (Nat.le_succ _) ?_
  intro wl hl w2 hB hL hw
  replace B4 := hide ((B4.out.later hl).apart (w.heap.size + 1) (by omega) [.int .i64 (bigAt l 7 2 : Int)] 2)
  rw [← hw.out] at B4
  replace B6 : Hid (Box w2 (w.heap.size + 1) 26 (cc (90, 0, (bigAt l 7 2 : Int), 0, 0))) := hB
  replace LL := hide hL
  clear hl hB hL hw
  clear wl
  iterate 1 (refine wpK_mild rfl (fun K hK => ?_); go_simp; refine hK _ ?_; clear hK K)
  refine wpK_store rfl rfl 3 (.tmp 130) (.tmp 119) rfl (w.heap.size + 1) 3 rfl .i64 ((Bn l 2 : Int) % 64) rfl Try.info1_int _ _ B6.out (by simp) LL.out (Nat.le_succ _) ?_
  intro wl hl w2 hB hL hw
  replace B4 := hide ((B4.out.later hl).apart (w.heap.size + 1) (by omega) [.int .i64 ((Bn l 2 : Int) % 64)] 3)
  rw [← hw.out] at B4
  replace B6 : Hid (Box w2 (w.heap.size + 1) 26 (cc (90, 0, (bigAt l 7 2 : Int), (Bn l 2 : Int) % 64, 0))) := hB
  replace LL := hide hL
  clear hl hB hL hw
  clear wl
  iterate 1 (refine wpK_mild rfl (fun K hK => ?_); go_simp; refine hK _ ?_; clear hK K)
  refine wpK_store rfl rfl 3 (.tmp 131) (.tmp 124) rfl (w.heap.size + 1) 4 rfl .i64 ((Bn l 2 : Int) / 64) rfl Try.info1_int _ _ B6.out (by simp) LL.out (Nat.le_succ _) ?_
  intro wl hl w2 hB hL hw
  replace B4 := hide ((B4.out.later hl).apart (w.heap.size + 1) (by omega) [.int .i64 ((Bn l 2 : Int) / 64)] 4)
  rw [← hw.out] at B4
  replace B6 : Hid (Box w2 (w.heap.size + 1) 26 (cc (90, 0, (bigAt l 7 2 : Int), (Bn l 2 : Int) % 64, (Bn l 2 : Int) / 64))) := hB
  replace LL := hide hL
  clear hl hB hL hw
  clear wl
  iterate 1 (refine wpK_mild rfl (fun K hK => ?_); go_simp; refine hK _ ?_; clear hK K)
  refine wpK_nil (fun wn hn => ?_)
  replace B4 := hide (B4.out.later hn)
  replace B6 := hide (B6.out.later hn)
  replace LL := hide (LL.out.trans hn)
  clear hn k1 k2 k3 k4
  have e0 := B6.out.cell 0
  have e1 := B6.out.cell 1
  have e2 := B6.out.cell 2
  have e3 := B6.out.cell 3
  have e4 := B6.out.cell 4
  go_wp2_with (refine wpList_storeU rfl 26 (.tmp 4) (.tmp 195) rfl w.heap.size 0 rfl (cc (90, 0, (bigAt l 7 2 : Int), (Bn l 2 : Int) % 64, (Bn l 2 : Int) / 64)) rfl Try.info_cmd (cc_one _) _ _ B4.out (by simp) ?_)
  intro wz hz
  have BZ : Hid (Box wz w.heap.size 26 (cc (90, 0, (bigAt l 7 2 : Int), (Bn l 2 : Int) % 64, (Bn l 2 : Int) / 64))) := by rw [hz.out]; exact B4.out.all _ rfl
  have LZ : Hid (Later w wz) := by rw [hz.out]; exact LL.out.setCells (Nat.le_refl _) _ _
  clear hz e0 e1 e2 e3 e4
  go_wp2
  refine bodyPost_ret (results_cell_tmp rfl _ _ _ w.heap.size 0 rfl _ (.bool ((Bn l 3 : Int) == 0)) (load_cmd (c := (90, 0, (bigAt l 7 2 : Int), (Bn l 2 : Int) % 64, (Bn l 2 : Int) / 64)) BZ.out rfl) (by rfl)) rfl ⟨by rw [HR.out], LZ.out⟩
set_option maxRecDepth 20000 in
set_option maxHeartbeats 1000000 in
theorem rrest_27 {v : Value} {l : List UInt8} (w : World) (h : Bs w v l) (hl : l.length = 6) : Calls Try.prog 24 #[.int .i64 27, v] w fun e w' => e = .returned (.tuple #[cval (restS 27 l).1, .bool (restS 27 l).2]) ∧ Later w w' := by
  have HR : Hid (restS 27 l = lb (decide ((Bn l 4 : Int) < 16)) (27, 0, 0, 0, (Bn l 4 : Int) % 4)) := rfl
  obtain ⟨b, off, cap, rfl, hc⟩ := h.cells6 hl (by omega)
  have HB := hide h
  have b1 := Bn_lt l 1
  have b2 := Bn_lt l 2
  have b3 := Bn_lt l 3
  have b4 := Bn_lt l 4
  have b8 := Bn_lt l 8
  have HC := hide hc
  clear hc h hl
  have z1 := wr_of (x := (Bn l 1 : Int)) (by omega)
  have z2 := wr_of (x := (Bn l 2 : Int)) (by omega)
  have z3 := wr_of (x := (Bn l 3 : Int)) (by omega)
  have z4 := wr_of (x := (Bn l 4 : Int)) (by omega)
  have z5 := wr_of (x := (Bn l 1 : Int) % 2) (by omega)
  have z6 := wr_of (x := (Bn l 2 : Int) % 64) (by omega)
  have z7 := wr_of (x := (Bn l 2 : Int) / 64) (by omega)
  have z8 := wr_of (x := (Bn l 4 : Int) % 4) (by omega)
  have v1 := wr8_of (x := (Bn l 1 : Int) / 16) (by omega)
  have v2 := wr8_of (x := (Bn l 2 : Int) / 64) (by omega)
  have v3 := wr8_of (x := (Bn l 1 : Int) / 8) (by omega)
  have v4 := wr8_of (x := (Bn l 1 : Int) / 4) (by omega)
  have v5 := wr8_of (x := (Bn l 1 : Int) / 2) (by omega)
  have m1 := tm2
  have m2 := tm4
  have m3 := tm32
  have m4 := tm64
  have m5 := td16
  have m6 := td64
  have m7 := tdm16
  have B4 := hide (((Box.new w 26 #[.int .i64 0, .int .u64 0, .int .i64 0, .int .i64 0, .int .i64 0])).alloc (.cells #[.int .i64 27, .int .u64 0, .int .i64 0, .int .i64 0, .int .i64 0] 26))
  have B6 := hide (Box.new' (w.alloc (.cells #[.int .i64 0, .int .u64 0, .int .i64 0, .int .i64 0, .int .i64 0] 26)) 26 #[.int .i64 27, .int .u64 0, .int .i64 0, .int .i64 0, .int .i64 0] _ rfl (w.heap.size + 1) (by simp))
  have LL := hide (((Later.refl w).alloc (.cells #[.int .i64 0, .int .u64 0, .int .i64 0, .int .i64 0, .int .i64 0] 26)).alloc (.cells #[.int .i64 27, .int .u64 0, .int .i64 0, .int .i64 0, .int .i64 0] 26))
  go_enter Try.func24, Try.ntmps24
  go_wp2_with fail
  generalize ((w.alloc (.cells #[.int .i64 0, .int .u64 0, .int .i64 0, .int .i64 0, .int .i64 0] 26)).alloc (.cells #[.int .i64 27, .int .u64 0, .int .i64 0, .int .i64 0, .int .i64 0] 26)) = w1 at *
  refine wp_region_old w LL.out [(0, false), (1, false), (2, false), (3, false), (4, false), (5, false), (6, false), (7, false), (8, false), (9, false), (10, true), (11, false)] (by kernel_rfl) (by kernel_rfl) (by kernel_rfl) (by kernel_rfl) ?_
  have k1 := fun r => HC.out 1 (by omega) _ (later_rg w r)
  have k2 := fun r => HC.out 2 (by omega) _ (later_rg w r)
  have k3 := fun r => HC.out 3 (by omega) _ (later_rg w r)
  have k4 := fun r => HC.out 4 (by omega) _ (later_rg w r)
  replace B4 := hide (B4.out.later (Later.refl _).drew)
  replace B6 := hide (B6.out.later (Later.refl _).drew)
  replace LL := hide (LL.out.trans (Later.refl _).drew)
  iterate 10 (refine wpK_mild rfl (fun K hK => ?_); go_simp; refine hK _ ?_; clear hK K)
  refine wpK_store rfl rfl 3 (.tmp 143) (.tmp 138) rfl (w.heap.size + 1) 4 rfl .i64 ((Bn l 4 : Int) % 4) rfl Try.info1_int _ _ B6.out (by simp) LL.out (Nat.le_succ _) ?_
  intro wl hl w2 hB hL hw
  replace B4 := hide ((B4.out.later hl).apart (w.heap.size + 1) (by omega) [.int .i64 ((Bn l 4 : Int) % 4)] 4)
  rw [← hw.out] at B4
  replace B6 : Hid (Box w2 (w.heap.size + 1) 26 (cc (27, 0, 0, 0, (Bn l 4 : Int) % 4))) := hB
  replace LL := hide hL
  clear hl hB hL hw
  clear wl
  iterate 1 (refine wpK_mild rfl (fun K hK => ?_); go_simp; refine hK _ ?_; clear hK K)
  refine wpK_nil (fun wn hn => ?_)
  replace B4 := hide (B4.out.later hn)
  replace B6 := hide (B6.out.later hn)
  replace LL := hide (LL.out.trans hn)
  clear hn k1 k2 k3 k4
  have e0 := B6.out.cell 0
  have e1 := B6.out.cell 1
  have e2 := B6.out.cell 2
  have e3 := B6.out.cell 3
  have e4 := B6.out.cell 4
  go_wp2_with (refine wpList_storeU rfl 26 (.tmp 4) (.tmp 195) rfl w.heap.size 0 rfl (cc (27, 0, 0, 0, (Bn l 4 : Int) % 4)) rfl Try.info_cmd (cc_one _) _ _ B4.out (by simp) ?_)
  intro wz hz
  have BZ : Hid (Box wz w.heap.size 26 (cc (27, 0, 0, 0, (Bn l 4 : Int) % 4))) := by rw [hz.out]; exact B4.out.all _ rfl
  have LZ : Hid (Later w wz) := by rw [hz.out]; exact LL.out.setCells (Nat.le_refl _) _ _
  clear hz e0 e1 e2 e3 e4
  go_wp2
  refine bodyPost_ret (results_cell_tmp rfl _ _ _ w.heap.size 0 rfl _ (.bool (decide ((Bn l 4 : Int) < 16))) (load_cmd (c := (27, 0, 0, 0, (Bn l 4 : Int) % 4)) BZ.out rfl) (by rfl)) rfl ⟨by rw [HR.out], LZ.out⟩
set_option maxRecDepth 20000 in
set_option maxHeartbeats 1000000 in
theorem rrest_30 {v : Value} {l : List UInt8} (w : World) (h : Bs w v l) (hl : l.length = 6) : Calls Try.prog 24 #[.int .i64 30, v] w fun e w' => e = .returned (.tuple #[cval (restS 30 l).1, .bool (restS 30 l).2]) ∧ Later w w' := by
  have HR : Hid (restS 30 l = lb (decide ((Bn l 4 : Int) % 4 < 2)) (30, 0, 0, 0, (Bn l 4 : Int) % 4)) := rfl
  obtain ⟨b, off, cap, rfl, hc⟩ := h.cells6 hl (by omega)
  have HB := hide h
  have b1 := Bn_lt l 1
  have b2 := Bn_lt l 2
  have b3 := Bn_lt l 3
  have b4 := Bn_lt l 4
  have b8 := Bn_lt l 8
  have HC := hide hc
  clear hc h hl
  have z1 := wr_of (x := (Bn l 1 : Int)) (by omega)
  have z2 := wr_of (x := (Bn l 2 : Int)) (by omega)
  have z3 := wr_of (x := (Bn l 3 : Int)) (by omega)
  have z4 := wr_of (x := (Bn l 4 : Int)) (by omega)
  have z5 := wr_of (x := (Bn l 1 : Int) % 2) (by omega)
  have z6 := wr_of (x := (Bn l 2 : Int) % 64) (by omega)
  have z7 := wr_of (x := (Bn l 2 : Int) / 64) (by omega)
  have z8 := wr_of (x := (Bn l 4 : Int) % 4) (by omega)
  have v1 := wr8_of (x := (Bn l 1 : Int) / 16) (by omega)
  have v2 := wr8_of (x := (Bn l 2 : Int) / 64) (by omega)
  have v3 := wr8_of (x := (Bn l 1 : Int) / 8) (by omega)
  have v4 := wr8_of (x := (Bn l 1 : Int) / 4) (by omega)
  have v5 := wr8_of (x := (Bn l 1 : Int) / 2) (by omega)
  have m1 := tm2
  have m2 := tm4
  have m3 := tm32
  have m4 := tm64
  have m5 := td16
  have m6 := td64
  have m7 := tdm16
  have B4 := hide (((Box.new w 26 #[.int .i64 0, .int .u64 0, .int .i64 0, .int .i64 0, .int .i64 0])).alloc (.cells #[.int .i64 30, .int .u64 0, .int .i64 0, .int .i64 0, .int .i64 0] 26))
  have B6 := hide (Box.new' (w.alloc (.cells #[.int .i64 0, .int .u64 0, .int .i64 0, .int .i64 0, .int .i64 0] 26)) 26 #[.int .i64 30, .int .u64 0, .int .i64 0, .int .i64 0, .int .i64 0] _ rfl (w.heap.size + 1) (by simp))
  have LL := hide (((Later.refl w).alloc (.cells #[.int .i64 0, .int .u64 0, .int .i64 0, .int .i64 0, .int .i64 0] 26)).alloc (.cells #[.int .i64 30, .int .u64 0, .int .i64 0, .int .i64 0, .int .i64 0] 26))
  go_enter Try.func24, Try.ntmps24
  go_wp2_with fail
  generalize ((w.alloc (.cells #[.int .i64 0, .int .u64 0, .int .i64 0, .int .i64 0, .int .i64 0] 26)).alloc (.cells #[.int .i64 30, .int .u64 0, .int .i64 0, .int .i64 0, .int .i64 0] 26)) = w1 at *
  refine wp_region_old w LL.out [(0, false), (1, false), (2, false), (3, false), (4, false), (5, false), (6, false), (7, false), (8, false), (9, false), (10, false), (11, true), (12, false)] (by kernel_rfl) (by kernel_rfl) (by kernel_rfl) (by kernel_rfl) ?_
  have k1 := fun r => HC.out 1 (by omega) _ (later_rg w r)
  have k2 := fun r => HC.out 2 (by omega) _ (later_rg w r)
  have k3 := fun r => HC.out 3 (by omega) _ (later_rg w r)
  have k4 := fun r => HC.out 4 (by omega) _ (later_rg w r)
  replace B4 := hide (B4.out.later (Later.refl _).drew)
  replace B6 := hide (B6.out.later (Later.refl _).drew)
  replace LL := hide (LL.out.trans (Later.refl _).drew)
  iterate 11 (refine wpK_mild rfl (fun K hK => ?_); go_simp; refine hK _ ?_; clear hK K)
  refine wpK_store rfl rfl 3 (.tmp 156) (.tmp 150) rfl (w.heap.size + 1) 4 rfl .i64 ((Bn l 4 : Int) % 4) rfl Try.info1_int _ _ B6.out (by simp) LL.out (Nat.le_succ _) ?_
  intro wl hl w2 hB hL hw
  replace B4 := hide ((B4.out.later hl).apart (w.heap.size + 1) (by omega) [.int .i64 ((Bn l 4 : Int) % 4)] 4)
  rw [← hw.out] at B4
  replace B6 : Hid (Box w2 (w.heap.size + 1) 26 (cc (30, 0, 0, 0, (Bn l 4 : Int) % 4))) := hB
  replace LL := hide hL
  clear hl hB hL hw
  clear wl
  iterate 1 (refine wpK_mild rfl (fun K hK => ?_); go_simp; refine hK _ ?_; clear hK K)
  refine wpK_nil (fun wn hn => ?_)
  replace B4 := hide (B4.out.later hn)
  replace B6 := hide (B6.out.later hn)
  replace LL := hide (LL.out.trans hn)
  clear hn k1 k2 k3 k4
  have e0 := B6.out.cell 0
  have e1 := B6.out.cell 1
  have e2 := B6.out.cell 2
  have e3 := B6.out.cell 3
  have e4 := B6.out.cell 4
  go_wp2_with (refine wpList_storeU rfl 26 (.tmp 4) (.tmp 195) rfl w.heap.size 0 rfl (cc (30, 0, 0, 0, (Bn l 4 : Int) % 4)) rfl Try.info_cmd (cc_one _) _ _ B4.out (by simp) ?_)
  intro wz hz
  have BZ : Hid (Box wz w.heap.size 26 (cc (30, 0, 0, 0, (Bn l 4 : Int) % 4))) := by rw [hz.out]; exact B4.out.all _ rfl
  have LZ : Hid (Later w wz) := by rw [hz.out]; exact LL.out.setCells (Nat.le_refl _) _ _
  clear hz e0 e1 e2 e3 e4
  go_wp2
  refine bodyPost_ret (results_cell_tmp rfl _ _ _ w.heap.size 0 rfl _ (.bool (decide ((Bn l 4 : Int) % 4 < 2))) (load_cmd (c := (30, 0, 0, 0, (Bn l 4 : Int) % 4)) BZ.out rfl) (by rfl)) rfl ⟨by rw [HR.out], LZ.out⟩
set_option maxRecDepth 20000 in
set_option maxHeartbeats 1000000 in
theorem rrest_158 {v : Value} {l : List UInt8} (w : World) (h : Bs w v l) (hl : l.length = 16) : Calls Try.prog 24 #[.int .i64 158, v] w fun e w' => e = .returned (.tuple #[cval (restS 158 l).1, .bool (restS 158 l).2]) ∧ Later w w' := by
  have HR : Hid (restS 158 l = lb ((Bn l 1 : Int) % 32 == 16) (158, 0, (bigAt l 10 4 : Int), 0, 0)) := rfl
  obtain ⟨b, off, cap, rfl, hc⟩ := h.cells6 hl (by omega)
  have HB := hide h
  have b1 := Bn_lt l 1
  have b2 := Bn_lt l 2
  have b3 := Bn_lt l 3
  have b4 := Bn_lt l 4
  have b8 := Bn_lt l 8
  have HC := hide hc
  clear hc h hl
  have z1 := wr_of (x := (Bn l 1 : Int)) (by omega)
  have z2 := wr_of (x := (Bn l 2 : Int)) (by omega)
  have z3 := wr_of (x := (Bn l 3 : Int)) (by omega)
  have z4 := wr_of (x := (Bn l 4 : Int)) (by omega)
  have z5 := wr_of (x := (Bn l 1 : Int) % 2) (by omega)
  have z6 := wr_of (x := (Bn l 2 : Int) % 64) (by omega)
  have z7 := wr_of (x := (Bn l 2 : Int) / 64) (by omega)
  have z8 := wr_of (x := (Bn l 4 : Int) % 4) (by omega)
  have v1 := wr8_of (x := (Bn l 1 : Int) / 16) (by omega)
  have v2 := wr8_of (x := (Bn l 2 : Int) / 64) (by omega)
  have v3 := wr8_of (x := (Bn l 1 : Int) / 8) (by omega)
  have v4 := wr8_of (x := (Bn l 1 : Int) / 4) (by omega)
  have v5 := wr8_of (x := (Bn l 1 : Int) / 2) (by omega)
  have m1 := tm2
  have m2 := tm4
  have m3 := tm32
  have m4 := tm64
  have m5 := td16
  have m6 := td64
  have m7 := tdm16
  have B4 := hide (((Box.new w 26 #[.int .i64 0, .int .u64 0, .int .i64 0, .int .i64 0, .int .i64 0])).alloc (.cells #[.int .i64 158, .int .u64 0, .int .i64 0, .int .i64 0, .int .i64 0] 26))
  have B6 := hide (Box.new' (w.alloc (.cells #[.int .i64 0, .int .u64 0, .int .i64 0, .int .i64 0, .int .i64 0] 26)) 26 #[.int .i64 158, .int .u64 0, .int .i64 0, .int .i64 0, .int .i64 0] _ rfl (w.heap.size + 1) (by simp))
  have LL := hide (((Later.refl w).alloc (.cells #[.int .i64 0, .int .u64 0, .int .i64 0, .int .i64 0, .int .i64 0] 26)).alloc (.cells #[.int .i64 158, .int .u64 0, .int .i64 0, .int .i64 0, .int .i64 0] 26))
  go_enter Try.func24, Try.ntmps24
  have zb := wr_of (x := (bigAt l 10 4 : Int)) (by have := bigAt_lt (l := l) (a := 10) (n := 4) 0 (by decide); omega)
  go_wp2_with fail
  generalize ((w.alloc (.cells #[.int .i64 0, .int .u64 0, .int .i64 0, .int .i64 0, .int .i64 0] 26)).alloc (.cells #[.int .i64 158, .int .u64 0, .int .i64 0, .int .i64 0, .int .i64 0] 26)) = w1 at *
  refine wp_region_old w LL.out [(0, false), (1, false), (2, false), (3, false), (4, false), (5, false), (6, false), (7, false), (8, false), (9, true), (10, false)] (by kernel_rfl) (by kernel_rfl) (by kernel_rfl) (by kernel_rfl) ?_
  have k1 := fun r => HC.out 1 (by omega) _ (later_rg w r)
  have k2 := fun r => HC.out 2 (by omega) _ (later_rg w r)
  have k3 := fun r => HC.out 3 (by omega) _ (later_rg w r)
  have k4 := fun r => HC.out 4 (by omega) _ (later_rg w r)
  replace B4 := hide (B4.out.later (Later.refl _).drew)
  replace B6 := hide (B6.out.later (Later.refl _).drew)
  replace LL := hide (LL.out.trans (Later.refl _).drew)
  iterate 1 (refine wpK_mild rfl (fun K hK => ?_); go_simp; refine hK _ ?_; clear hK K)
  refine wpK_call rfl (by kernel_rfl) 36 (Plain.of (by kernel_rfl)) [.tmp 171, .const (.int .i64 10), .const (.int .i64 4)] _ rfl [.slice (some ⟨b, off, none⟩) 16 cap, .int .i64 10, .int .i64 4] rfl (.int .u64 (bigAt l 10 4 : Nat)) (fun wx hx => rbig6_c 10 4 wx (HB.out.later hx)) ?_
  iterate 7 (refine wpK_mild rfl (fun K hK => ?_); go_simp; refine hK _ ?_; clear hK K)
  refine wpK_store rfl rfl 3 (.tmp 179) (.tmp 173) rfl (w.heap.size + 1) 2 rfl .i64 (bigAt l 10 4 : Int) rfl Try.info1_int _ _ B6.out (by simp) LL.out (Nat.le_succ _) ?_
  intro wl hl w2 hB hL hw
  replace B4 := hide ((B4.out.later hl).apart (w.heap.size + 1) (by omega) [.int .i64 (bigAt l 10 4 : Int)] 2)
  rw [← hw.out] at B4
  replace B6 : Hid (Box w2 (w.heap.size + 1) 26 (cc (158, 0, (bigAt l 10 4 : Int), 0, 0))) := hB
  replace LL := hide hL
  clear hl hB hL hw
  clear wl
  iterate 1 (refine wpK_mild rfl (fun K hK => ?_); go_simp; refine hK _ ?_; clear hK K)
  refine wpK_nil (fun wn hn => ?_)
  replace B4 := hide (B4.out.later hn)
  replace B6 := hide (B6.out.later hn)
  replace LL := hide (LL.out.trans hn)
  clear hn k1 k2 k3 k4
  have e0 := B6.out.cell 0
  have e1 := B6.out.cell 1
  have e2 := B6.out.cell 2
  have e3 := B6.out.cell 3
  have e4 := B6.out.cell 4
  go_wp2_with (refine wpList_storeU rfl 26 (.tmp 4) (.tmp 195) rfl w.heap.size 0 rfl (cc (158, 0, (bigAt l 10 4 : Int), 0, 0)) rfl Try.info_cmd (cc_one _) _ _ B4.out (by simp) ?_)
  intro wz hz
  have BZ : Hid (Box wz w.heap.size 26 (cc (158, 0, (bigAt l 10 4 : Int), 0, 0))) := by rw [hz.out]; exact B4.out.all _ rfl
  have LZ : Hid (Later w wz) := by rw [hz.out]; exact LL.out.setCells (Nat.le_refl _) _ _
  clear hz e0 e1 e2 e3 e4
  go_wp2
  refine bodyPost_ret (results_cell_tmp rfl _ _ _ w.heap.size 0 rfl _ (.bool ((Bn l 1 : Int) % 32 == 16)) (load_cmd (c := (158, 0, (bigAt l 10 4 : Int), 0, 0)) BZ.out rfl) (by rfl)) rfl ⟨by rw [HR.out], LZ.out⟩
end Go.Proofs.Ytccdgpadjfjoeaa
