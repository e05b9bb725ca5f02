import Derived.Test.YtccdgpadjfjoeaaMAP
namespace Go.Proofs.Ytccdgpadjfjoeaa
open Go.ChangeShapes Go.WideShapes Go.ChangeAt Go.RowKit
set_option linter.unusedVariables false
set_option linter.unusedSimpArgs false

/-! blocks: of ten, twelve and sixteen bytes. -/
set_option maxRecDepth 20000 in
set_option maxHeartbeats 1000000 in
theorem rblocks_10_1 (op : Int) (hk : classI op = 1) : IBlocks op 10 := by
  intro v l w h hl
  have HR : Hid (blocksS op l = lb true (op, bigAt l 2 4, (bigAt l 7 2 : Int), 0, ((Bn l 1 : Int) / 8 % 2))) := by
    rw [Hid, blocksS, hl, hk]; simp [okS6, bitsS]
  have HK := hide hk
  clear hk
  obtain ⟨b, off, cap, rfl, hc⟩ := h.cells6 hl (by omega)
  have HB := hide h
  have b1 := Bn_lt l 1
  have b2 := Bn_lt l 2
  have b3 := Bn_lt l 3
  have b4 := Bn_lt l 4
  have b8 := Bn_lt l 8
  have HC := hide hc
  clear hc h hl
  have z1 := wr_of (x := (Bn l 1 : Int)) (by omega)
  have z2 := wr_of (x := (Bn l 2 : Int)) (by omega)
  have z3 := wr_of (x := (Bn l 3 : Int)) (by omega)
  have z4 := wr_of (x := (Bn l 4 : Int)) (by omega)
  have z5 := wr_of (x := (Bn l 1 : Int) % 2) (by omega)
  have z6 := wr_of (x := (Bn l 2 : Int) % 64) (by omega)
  have z7 := wr_of (x := (Bn l 2 : Int) / 64) (by omega)
  have z8 := wr_of (x := (Bn l 4 : Int) % 4) (by omega)
  have v1 := wr8_of (x := (Bn l 1 : Int) / 16) (by omega)
  have v2 := wr8_of (x := (Bn l 2 : Int) / 64) (by omega)
  have v3 := wr8_of (x := (Bn l 1 : Int) / 8) (by omega)
  have v4 := wr8_of (x := (Bn l 1 : Int) / 4) (by omega)
  have v5 := wr8_of (x := (Bn l 1 : Int) / 2) (by omega)
  have m1 := tm2
  have m2 := tm4
  have m3 := tm32
  have m4 := tm64
  have m5 := td16
  have m6 := td64
  have m7 := tdm16
  have B4 := hide (((Box.new w 26 #[.int .i64 0, .int .u64 0, .int .i64 0, .int .i64 0, .int .i64 0])).alloc (.cells #[.int .i64 op, .int .u64 0, .int .i64 0, .int .i64 0, .int .i64 0] 26))
  have B6 := hide (Box.new' (w.alloc (.cells #[.int .i64 0, .int .u64 0, .int .i64 0, .int .i64 0, .int .i64 0] 26)) 26 #[.int .i64 op, .int .u64 0, .int .i64 0, .int .i64 0, .int .i64 0] _ rfl (w.heap.size + 1) (by simp))
  have LL := hide (((Later.refl w).alloc (.cells #[.int .i64 0, .int .u64 0, .int .i64 0, .int .i64 0, .int .i64 0] 26)).alloc (.cells #[.int .i64 op, .int .u64 0, .int .i64 0, .int .i64 0, .int .i64 0] 26))
  go_enter Try.func25, Try.ntmps25
  have m8 := td2
  have m9 := td4
  have m10 := td8
  have m11 := tdm2
  have m12 := tdm4
  have m13 := tdm8
  have y1 := wr_of (x := (Bn l 1 : Int) / 8 % 2) (by omega)
  have y2 := wr_of (x := (Bn l 1 : Int) / 2 % 2) (by omega)
  have zb := wr_of (x := (bigAt l 7 2 : Int)) (by have := bigAt_lt (l := l) (a := 7) (n := 2) 0 (by decide); omega)
  go_wp2_with fail
  generalize ((w.alloc (.cells #[.int .i64 0, .int .u64 0, .int .i64 0, .int .i64 0, .int .i64 0] 26)).alloc (.cells #[.int .i64 op, .int .u64 0, .int .i64 0, .int .i64 0, .int .i64 0] 26)) = w1 at *
  refine (rclass_c op _).mono ?_
  rintro e w2 ⟨rfl, hw⟩
  have hw2 := hw.symm
  subst hw2
  clear hw
  rw [HK.out]
  go_wp2_with fail
  refine (rbig6_c 2 4 _ (HB.out.later LL.out)).mono ?_
  rintro e w2 ⟨rfl, hl⟩
  replace B4 := hide (B4.out.later hl)
  replace B6 := hide (B6.out.later hl)
  replace LL := hide (LL.out.trans hl)
  clear hl
  go_wp2_with fail
  refine (rbig6_c 7 2 _ (HB.out.later LL.out)).mono ?_
  rintro e w2 ⟨rfl, hl⟩
  replace B4 := hide (B4.out.later hl)
  replace B6 := hide (B6.out.later hl)
  replace LL := hide (LL.out.trans hl)
  clear hl
  generalize bigAt l 2 4 = A at *
  generalize bigAt l 7 2 = C at *
  go_wp2_with (refine wpList_storeI rfl 24 (.tmp 59) (.tmp 55) rfl (w.heap.size + 1) 1 rfl .u64 (A : Int) rfl Try.info1_u64 _ _ B6.out (by simp) ?_)
  intro w2 hB hw
  replace B4 := hide (B4.out.apart (w.heap.size + 1) (by omega) [.int .u64 (A : Int)] 1)
  replace LL := hide (LL.out.setCells (g := w.heap.size + 1) (Nat.le_succ _) [.int .u64 (A : Int)] 1)
  rw [← hw.out] at B4 LL
  replace B6 : Hid (Box w2 (w.heap.size + 1) 26 (cc (op, A, 0, 0, 0))) := hB
  clear hB hw
  go_wp2_with (refine wpList_storeI rfl 3 (.tmp 60) (.tmp 58) rfl (w.heap.size + 1) 2 rfl .i64 (C : Int) rfl Try.info1_int _ _ B6.out (by simp) ?_)
  intro w2 hB hw
  replace B4 := hide (B4.out.apart (w.heap.size + 1) (by omega) [.int .i64 (C : Int)] 2)
  replace LL := hide (LL.out.setCells (g := w.heap.size + 1) (Nat.le_succ _) [.int .i64 (C : Int)] 2)
  rw [← hw.out] at B4 LL
  replace B6 : Hid (Box w2 (w.heap.size + 1) 26 (cc (op, A, (C : Int), 0, 0))) := hB
  clear hB hw
  have kk := HC.out 1 (by omega) _ LL.out
  go_wp2_with (refine wpList_storeI rfl 3 (.tmp 82) (.tmp 81) rfl (w.heap.size + 1) 4 rfl .i64 ((Bn l 1 : Int) / 8 % 2) rfl Try.info1_int _ _ B6.out (by simp) ?_)
  intro w2 hB hw
  replace B4 := hide (B4.out.apart (w.heap.size + 1) (by omega) [.int .i64 ((Bn l 1 : Int) / 8 % 2)] 4)
  replace LL := hide (LL.out.setCells (g := w.heap.size + 1) (Nat.le_succ _) [.int .i64 ((Bn l 1 : Int) / 8 % 2)] 4)
  rw [← hw.out] at B4 LL
  replace B6 : Hid (Box w2 (w.heap.size + 1) 26 (cc (op, A, (C : Int), 0, ((Bn l 1 : Int) / 8 % 2)))) := hB
  clear hB hw
  clear kk
  go_wp2_with fail
  refine wp_region_held (fun W => Later w W ∧ Box W (w.heap.size + 1) 26 (cc (op, A, (C : Int), 0, ((Bn l 1 : Int) / 8 % 2)))) (fun a b hl h => ⟨h.1.trans hl, h.2.later hl⟩) ⟨LL.out, B6.out⟩ [(0, false), (1, false), (2, false), (3, false), (4, false), (5, false), (6, false), (7, false), (8, false), (9, false), (10, false), (11, true), (12, false)] (by kernel_rfl) (by kernel_rfl) (by kernel_rfl) (by kernel_rfl) ?_
  haveI : Nonempty (Held (fun W => Later w W ∧ Box W (w.heap.size + 1) 26 (cc (op, A, (C : Int), 0, ((Bn l 1 : Int) / 8 % 2))))) := ⟨⟨_, LL.out, B6.out⟩⟩
  have k1 := fun p : Held (fun W => Later w W ∧ Box W (w.heap.size + 1) 26 (cc (op, A, (C : Int), 0, ((Bn l 1 : Int) / 8 % 2)))) => HC.out 1 (by omega) _ p.h.1
  have e0 := fun p : Held (fun W => Later w W ∧ Box W (w.heap.size + 1) 26 (cc (op, A, (C : Int), 0, ((Bn l 1 : Int) / 8 % 2)))) => p.h.2.cell 0
  have e1 := fun p : Held (fun W => Later w W ∧ Box W (w.heap.size + 1) 26 (cc (op, A, (C : Int), 0, ((Bn l 1 : Int) / 8 % 2)))) => p.h.2.cell 1
  have e2 := fun p : Held (fun W => Later w W ∧ Box W (w.heap.size + 1) 26 (cc (op, A, (C : Int), 0, ((Bn l 1 : Int) / 8 % 2)))) => p.h.2.cell 2
  have e3 := fun p : Held (fun W => Later w W ∧ Box W (w.heap.size + 1) 26 (cc (op, A, (C : Int), 0, ((Bn l 1 : Int) / 8 % 2)))) => p.h.2.cell 3
  have e4 := fun p : Held (fun W => Later w W ∧ Box W (w.heap.size + 1) 26 (cc (op, A, (C : Int), 0, ((Bn l 1 : Int) / 8 % 2)))) => p.h.2.cell 4
  replace B4 := hide (B4.out.later (Later.refl _).drew)
  replace B6 := hide (B6.out.later (Later.refl _).drew)
  replace LL := hide (LL.out.trans (Later.refl _).drew)
  iterate 11 (refine wpJ_mild rfl (fun K hK => ?_); go_simp; refine hK _ ?_; clear hK K)
  refine wpJ_store rfl rfl 26 (.tmp 4) (.tmp 92) rfl w.heap.size (cc (op, A, (C : Int), 0, ((Bn l 1 : Int) / 8 % 2))) rfl rfl Try.info_cmd (cc_one _) _ _ B4.out (by simp) (fun W hW => ⟨(LL.out.trans hW).setCells (Nat.le_refl _) _ _, (B6.out.later hW).apart _ (by omega) _ _⟩) ?_
  intro wl hl wz hz
  have BZ : Hid (Box wz w.heap.size 26 (cc (op, A, (C : Int), 0, ((Bn l 1 : Int) / 8 % 2)))) := by rw [hz.out]; exact (B4.out.later hl).all _ rfl
  have LZ : Hid (Later w wz) := by rw [hz.out]; exact (LL.out.trans hl).setCells (Nat.le_refl _) _ _
  clear hz hl e0 e1 e2 e3 e4
  iterate 1 (refine wpJ_mild rfl (fun K hK => ?_); go_simp; refine hK _ ?_; clear hK K)
  clear k1
  refine wpJ_nil (fun wn hn => ?_)
  replace BZ := hide (BZ.out.later hn)
  replace LZ := hide (LZ.out.trans hn)
  clear hn
  go_wp2
  refine bodyPost_ret (results_cell_tmp rfl _ _ _ w.heap.size 0 rfl _ (.bool true) (load_cmd (c := (op, A, (C : Int), 0, ((Bn l 1 : Int) / 8 % 2))) BZ.out rfl) (by rfl)) rfl ⟨by rw [HR.out], LZ.out⟩
set_option maxRecDepth 20000 in
set_option maxHeartbeats 1000000 in
theorem rblocks_10_2 (op : Int) (hk : classI op = 2) : IBlocks op 10 := by
  intro v l w h hl
  have HR : Hid (blocksS op l = lb true (op, bigAt l 2 4, (bigAt l 7 2 : Int), 0, ((Bn l 1 : Int) / 8 % 2))) := by
    rw [Hid, blocksS, hl, hk]; simp [okS6, bitsS]
  have HK := hide hk
  clear hk
  obtain ⟨b, off, cap, rfl, hc⟩ := h.cells6 hl (by omega)
  have HB := hide h
  have b1 := Bn_lt l 1
  have b2 := Bn_lt l 2
  have b3 := Bn_lt l 3
  have b4 := Bn_lt l 4
  have b8 := Bn_lt l 8
  have HC := hide hc
  clear hc h hl
  have z1 := wr_of (x := (Bn l 1 : Int)) (by omega)
  have z2 := wr_of (x := (Bn l 2 : Int)) (by omega)
  have z3 := wr_of (x := (Bn l 3 : Int)) (by omega)
  have z4 := wr_of (x := (Bn l 4 : Int)) (by omega)
  have z5 := wr_of (x := (Bn l 1 : Int) % 2) (by omega)
  have z6 := wr_of (x := (Bn l 2 : Int) % 64) (by omega)
  have z7 := wr_of (x := (Bn l 2 : Int) / 64) (by omega)
  have z8 := wr_of (x := (Bn l 4 : Int) % 4) (by omega)
  have v1 := wr8_of (x := (Bn l 1 : Int) / 16) (by omega)
  have v2 := wr8_of (x := (Bn l 2 : Int) / 64) (by omega)
  have v3 := wr8_of (x := (Bn l 1 : Int) / 8) (by omega)
  have v4 := wr8_of (x := (Bn l 1 : Int) / 4) (by omega)
  have v5 := wr8_of (x := (Bn l 1 : Int) / 2) (by omega)
  have m1 := tm2
  have m2 := tm4
  have m3 := tm32
  have m4 := tm64
  have m5 := td16
  have m6 := td64
  have m7 := tdm16
  have B4 := hide (((Box.new w 26 #[.int .i64 0, .int .u64 0, .int .i64 0, .int .i64 0, .int .i64 0])).alloc (.cells #[.int .i64 op, .int .u64 0, .int .i64 0, .int .i64 0, .int .i64 0] 26))
  have B6 := hide (Box.new' (w.alloc (.cells #[.int .i64 0, .int .u64 0, .int .i64 0, .int .i64 0, .int .i64 0] 26)) 26 #[.int .i64 op, .int .u64 0, .int .i64 0, .int .i64 0, .int .i64 0] _ rfl (w.heap.size + 1) (by simp))
  have LL := hide (((Later.refl w).alloc (.cells #[.int .i64 0, .int .u64 0, .int .i64 0, .int .i64 0, .int .i64 0] 26)).alloc (.cells #[.int .i64 op, .int .u64 0, .int .i64 0, .int .i64 0, .int .i64 0] 26))
  go_enter Try.func25, Try.ntmps25
  have m8 := td2
  have m9 := td4
  have m10 := td8
  have m11 := tdm2
  have m12 := tdm4
  have m13 := tdm8
  have y1 := wr_of (x := (Bn l 1 : Int) / 8 % 2) (by omega)
  have y2 := wr_of (x := (Bn l 1 : Int) / 2 % 2) (by omega)
  have zb := wr_of (x := (bigAt l 7 2 : Int)) (by have := bigAt_lt (l := l) (a := 7) (n := 2) 0 (by decide); omega)
  go_wp2_with fail
  generalize ((w.alloc (.cells #[.int .i64 0, .int .u64 0, .int .i64 0, .int .i64 0, .int .i64 0] 26)).alloc (.cells #[.int .i64 op, .int .u64 0, .int .i64 0, .int .i64 0, .int .i64 0] 26)) = w1 at *
  refine (rclass_c op _).mono ?_
  rintro e w2 ⟨rfl, hw⟩
  have hw2 := hw.symm
  subst hw2
  clear hw
  rw [HK.out]
  go_wp2_with fail
  refine (rbig6_c 2 4 _ (HB.out.later LL.out)).mono ?_
  rintro e w2 ⟨rfl, hl⟩
  replace B4 := hide (B4.out.later hl)
  replace B6 := hide (B6.out.later hl)
  replace LL := hide (LL.out.trans hl)
  clear hl
  go_wp2_with fail
  refine (rbig6_c 7 2 _ (HB.out.later LL.out)).mono ?_
  rintro e w2 ⟨rfl, hl⟩
  replace B4 := hide (B4.out.later hl)
  replace B6 := hide (B6.out.later hl)
  replace LL := hide (LL.out.trans hl)
  clear hl
  generalize bigAt l 2 4 = A at *
  generalize bigAt l 7 2 = C at *
  go_wp2_with (refine wpList_storeI rfl 24 (.tmp 59) (.tmp 55) rfl (w.heap.size + 1) 1 rfl .u64 (A : Int) rfl Try.info1_u64 _ _ B6.out (by simp) ?_)
  intro w2 hB hw
  replace B4 := hide (B4.out.apart (w.heap.size + 1) (by omega) [.int .u64 (A : Int)] 1)
  replace LL := hide (LL.out.setCells (g := w.heap.size + 1) (Nat.le_succ _) [.int .u64 (A : Int)] 1)
  rw [← hw.out] at B4 LL
  replace B6 : Hid (Box w2 (w.heap.size + 1) 26 (cc (op, A, 0, 0, 0))) := hB
  clear hB hw
  go_wp2_with (refine wpList_storeI rfl 3 (.tmp 60) (.tmp 58) rfl (w.heap.size + 1) 2 rfl .i64 (C : Int) rfl Try.info1_int _ _ B6.out (by simp) ?_)
  intro w2 hB hw
  replace B4 := hide (B4.out.apart (w.heap.size + 1) (by omega) [.int .i64 (C : Int)] 2)
  replace LL := hide (LL.out.setCells (g := w.heap.size + 1) (Nat.le_succ _) [.int .i64 (C : Int)] 2)
  rw [← hw.out] at B4 LL
  replace B6 : Hid (Box w2 (w.heap.size + 1) 26 (cc (op, A, (C : Int), 0, 0))) := hB
  clear hB hw
  have kk := HC.out 1 (by omega) _ LL.out
  go_wp2_with (refine wpList_storeI rfl 3 (.tmp 82) (.tmp 81) rfl (w.heap.size + 1) 4 rfl .i64 ((Bn l 1 : Int) / 8 % 2) rfl Try.info1_int _ _ B6.out (by simp) ?_)
  intro w2 hB hw
  replace B4 := hide (B4.out.apart (w.heap.size + 1) (by omega) [.int .i64 ((Bn l 1 : Int) / 8 % 2)] 4)
  replace LL := hide (LL.out.setCells (g := w.heap.size + 1) (Nat.le_succ _) [.int .i64 ((Bn l 1 : Int) / 8 % 2)] 4)
  rw [← hw.out] at B4 LL
  replace B6 : Hid (Box w2 (w.heap.size + 1) 26 (cc (op, A, (C : Int), 0, ((Bn l 1 : Int) / 8 % 2)))) := hB
  clear hB hw
  clear kk
  go_wp2_with fail
  refine wp_region_held (fun W => Later w W ∧ Box W (w.heap.size + 1) 26 (cc (op, A, (C : Int), 0, ((Bn l 1 : Int) / 8 % 2)))) (fun a b hl h => ⟨h.1.trans hl, h.2.later hl⟩) ⟨LL.out, B6.out⟩ [(0, false), (1, false), (2, false), (3, false), (4, false), (5, false), (6, false), (7, false), (8, false), (9, false), (10, false), (11, true), (12, false)] (by kernel_rfl) (by kernel_rfl) (by kernel_rfl) (by kernel_rfl) ?_
  haveI : Nonempty (Held (fun W => Later w W ∧ Box W (w.heap.size + 1) 26 (cc (op, A, (C : Int), 0, ((Bn l 1 : Int) / 8 % 2))))) := ⟨⟨_, LL.out, B6.out⟩⟩
  have k1 := fun p : Held (fun W => Later w W ∧ Box W (w.heap.size + 1) 26 (cc (op, A, (C : Int), 0, ((Bn l 1 : Int) / 8 % 2)))) => HC.out 1 (by omega) _ p.h.1
  have e0 := fun p : Held (fun W => Later w W ∧ Box W (w.heap.size + 1) 26 (cc (op, A, (C : Int), 0, ((Bn l 1 : Int) / 8 % 2)))) => p.h.2.cell 0
  have e1 := fun p : Held (fun W => Later w W ∧ Box W (w.heap.size + 1) 26 (cc (op, A, (C : Int), 0, ((Bn l 1 : Int) / 8 % 2)))) => p.h.2.cell 1
  have e2 := fun p : Held (fun W => Later w W ∧ Box W (w.heap.size + 1) 26 (cc (op, A, (C : Int), 0, ((Bn l 1 : Int) / 8 % 2)))) => p.h.2.cell 2
  have e3 := fun p : Held (fun W => Later w W ∧ Box W (w.heap.size + 1) 26 (cc (op, A, (C : Int), 0, ((Bn l 1 : Int) / 8 % 2)))) => p.h.2.cell 3
  have e4 := fun p : Held (fun W => Later w W ∧ Box W (w.heap.size + 1) 26 (cc (op, A, (C : Int), 0, ((Bn l 1 : Int) / 8 % 2)))) => p.h.2.cell 4
  replace B4 := hide (B4.out.later (Later.refl _).drew)
  replace B6 := hide (B6.out.later (Later.refl _).drew)
  replace LL := hide (LL.out.trans (Later.refl _).drew)
  iterate 11 (refine wpJ_mild rfl (fun K hK => ?_); go_simp; refine hK _ ?_; clear hK K)
  refine wpJ_store rfl rfl 26 (.tmp 4) (.tmp 92) rfl w.heap.size (cc (op, A, (C : Int), 0, ((Bn l 1 : Int) / 8 % 2))) rfl rfl Try.info_cmd (cc_one _) _ _ B4.out (by simp) (fun W hW => ⟨(LL.out.trans hW).setCells (Nat.le_refl _) _ _, (B6.out.later hW).apart _ (by omega) _ _⟩) ?_
  intro wl hl wz hz
  have BZ : Hid (Box wz w.heap.size 26 (cc (op, A, (C : Int), 0, ((Bn l 1 : Int) / 8 % 2)))) := by rw [hz.out]; exact (B4.out.later hl).all _ rfl
  have LZ : Hid (Later w wz) := by rw [hz.out]; exact (LL.out.trans hl).setCells (Nat.le_refl _) _ _
  clear hz hl e0 e1 e2 e3 e4
  iterate 1 (refine wpJ_mild rfl (fun K hK => ?_); go_simp; refine hK _ ?_; clear hK K)
  clear k1
  refine wpJ_nil (fun wn hn => ?_)
  replace BZ := hide (BZ.out.later hn)
  replace LZ := hide (LZ.out.trans hn)
  clear hn
  go_wp2
  refine bodyPost_ret (results_cell_tmp rfl _ _ _ w.heap.size 0 rfl _ (.bool true) (load_cmd (c := (op, A, (C : Int), 0, ((Bn l 1 : Int) / 8 % 2))) BZ.out rfl) (by rfl)) rfl ⟨by rw [HR.out], LZ.out⟩
set_option maxRecDepth 20000 in
set_option maxHeartbeats 1000000 in
theorem rblocks_10_3 (op : Int) (hk : classI op = 3) : IBlocks op 10 := by
  intro v l w h hl
  have HR : Hid (blocksS op l = lb ((Bn l 1 : Int) / 4 % 2 == 0) (op, bigAt l 2 4, (bigAt l 7 2 : Int), 0, ((Bn l 1 : Int) / 2 % 2))) := by
    rw [Hid, blocksS, hl, hk]; simp [okS6, bitsS]
  have HK := hide hk
  clear hk
  obtain ⟨b, off, cap, rfl, hc⟩ := h.cells6 hl (by omega)
  have HB := hide h
  have b1 := Bn_lt l 1
  have b2 := Bn_lt l 2
  have b3 := Bn_lt l 3
  have b4 := Bn_lt l 4
  have b8 := Bn_lt l 8
  have HC := hide hc
  clear hc h hl
  have z1 := wr_of (x := (Bn l 1 : Int)) (by omega)
  have z2 := wr_of (x := (Bn l 2 : Int)) (by omega)
  have z3 := wr_of (x := (Bn l 3 : Int)) (by omega)
  have z4 := wr_of (x := (Bn l 4 : Int)) (by omega)
  have z5 := wr_of (x := (Bn l 1 : Int) % 2) (by omega)
  have z6 := wr_of (x := (Bn l 2 : Int) % 64) (by omega)
  have z7 := wr_of (x := (Bn l 2 : Int) / 64) (by omega)
  have z8 := wr_of (x := (Bn l 4 : Int) % 4) (by omega)
  have v1 := wr8_of (x := (Bn l 1 : Int) / 16) (by omega)
  have v2 := wr8_of (x := (Bn l 2 : Int) / 64) (by omega)
  have v3 := wr8_of (x := (Bn l 1 : Int) / 8) (by omega)
  have v4 := wr8_of (x := (Bn l 1 : Int) / 4) (by omega)
  have v5 := wr8_of (x := (Bn l 1 : Int) / 2) (by omega)
  have m1 := tm2
  have m2 := tm4
  have m3 := tm32
  have m4 := tm64
  have m5 := td16
  have m6 := td64
  have m7 := tdm16
  have B4 := hide (((Box.new w 26 #[.int .i64 0, .int .u64 0, .int .i64 0, .int .i64 0, .int .i64 0])).alloc (.cells #[.int .i64 op, .int .u64 0, .int .i64 0, .int .i64 0, .int .i64 0] 26))
  have B6 := hide (Box.new' (w.alloc (.cells #[.int .i64 0, .int .u64 0, .int .i64 0, .int .i64 0, .int .i64 0] 26)) 26 #[.int .i64 op, .int .u64 0, .int .i64 0, .int .i64 0, .int .i64 0] _ rfl (w.heap.size + 1) (by simp))
  have LL := hide (((Later.refl w).alloc (.cells #[.int .i64 0, .int .u64 0, .int .i64 0, .int .i64 0, .int .i64 0] 26)).alloc (.cells #[.int .i64 op, .int .u64 0, .int .i64 0, .int .i64 0, .int .i64 0] 26))
  go_enter Try.func25, Try.ntmps25
  have m8 := td2
  have m9 := td4
  have m10 := td8
  have m11 := tdm2
  have m12 := tdm4
  have m13 := tdm8
  have y1 := wr_of (x := (Bn l 1 : Int) / 8 % 2) (by omega)
  have y2 := wr_of (x := (Bn l 1 : Int) / 2 % 2) (by omega)
  have zb := wr_of (x := (bigAt l 7 2 : Int)) (by have := bigAt_lt (l := l) (a := 7) (n := 2) 0 (by decide); omega)
  go_wp2_with fail
  generalize ((w.alloc (.cells #[.int .i64 0, .int .u64 0, .int .i64 0, .int .i64 0, .int .i64 0] 26)).alloc (.cells #[.int .i64 op, .int .u64 0, .int .i64 0, .int .i64 0, .int .i64 0] 26)) = w1 at *
  refine (rclass_c op _).mono ?_
  rintro e w2 ⟨rfl, hw⟩
  have hw2 := hw.symm
  subst hw2
  clear hw
  rw [HK.out]
  go_wp2_with fail
  refine (rbig6_c 2 4 _ (HB.out.later LL.out)).mono ?_
  rintro e w2 ⟨rfl, hl⟩
  replace B4 := hide (B4.out.later hl)
  replace B6 := hide (B6.out.later hl)
  replace LL := hide (LL.out.trans hl)
  clear hl
  go_wp2_with fail
  refine (rbig6_c 7 2 _ (HB.out.later LL.out)).mono ?_
  rintro e w2 ⟨rfl, hl⟩
  replace B4 := hide (B4.out.later hl)
  replace B6 := hide (B6.out.later hl)
  replace LL := hide (LL.out.trans hl)
  clear hl
  generalize bigAt l 2 4 = A at *
  generalize bigAt l 7 2 = C at *
  go_wp2_with (refine wpList_storeI rfl 24 (.tmp 59) (.tmp 55) rfl (w.heap.size + 1) 1 rfl .u64 (A : Int) rfl Try.info1_u64 _ _ B6.out (by simp) ?_)
  intro w2 hB hw
  replace B4 := hide (B4.out.apart (w.heap.size + 1) (by omega) [.int .u64 (A : Int)] 1)
  replace LL := hide (LL.out.setCells (g := w.heap.size + 1) (Nat.le_succ _) [.int .u64 (A : Int)] 1)
  rw [← hw.out] at B4 LL
  replace B6 : Hid (Box w2 (w.heap.size + 1) 26 (cc (op, A, 0, 0, 0))) := hB
  clear hB hw
  go_wp2_with (refine wpList_storeI rfl 3 (.tmp 60) (.tmp 58) rfl (w.heap.size + 1) 2 rfl .i64 (C : Int) rfl Try.info1_int _ _ B6.out (by simp) ?_)
  intro w2 hB hw
  replace B4 := hide (B4.out.apart (w.heap.size + 1) (by omega) [.int .i64 (C : Int)] 2)
  replace LL := hide (LL.out.setCells (g := w.heap.size + 1) (Nat.le_succ _) [.int .i64 (C : Int)] 2)
  rw [← hw.out] at B4 LL
  replace B6 : Hid (Box w2 (w.heap.size + 1) 26 (cc (op, A, (C : Int), 0, 0))) := hB
  clear hB hw
  have kk := HC.out 1 (by omega) _ LL.out
  go_wp2_with (refine wpList_storeI rfl 3 (.tmp 91) (.tmp 90) rfl (w.heap.size + 1) 4 rfl .i64 ((Bn l 1 : Int) / 2 % 2) rfl Try.info1_int _ _ B6.out (by simp) ?_)
  intro w2 hB hw
  replace B4 := hide (B4.out.apart (w.heap.size + 1) (by omega) [.int .i64 ((Bn l 1 : Int) / 2 % 2)] 4)
  replace LL := hide (LL.out.setCells (g := w.heap.size + 1) (Nat.le_succ _) [.int .i64 ((Bn l 1 : Int) / 2 % 2)] 4)
  rw [← hw.out] at B4 LL
  replace B6 : Hid (Box w2 (w.heap.size + 1) 26 (cc (op, A, (C : Int), 0, ((Bn l 1 : Int) / 2 % 2)))) := hB
  clear hB hw
  clear kk
  go_wp2_with fail
  refine wp_region_held (fun W => Later w W ∧ Box W (w.heap.size + 1) 26 (cc (op, A, (C : Int), 0, ((Bn l 1 : Int) / 2 % 2)))) (fun a b hl h => ⟨h.1.trans hl, h.2.later hl⟩) ⟨LL.out, B6.out⟩ [(0, false), (1, false), (2, false), (3, false), (4, false), (5, false), (6, false), (7, false), (8, false), (9, false), (10, false), (11, true), (12, false)] (by kernel_rfl) (by kernel_rfl) (by kernel_rfl) (by kernel_rfl) ?_
  haveI : Nonempty (Held (fun W => Later w W ∧ Box W (w.heap.size + 1) 26 (cc (op, A, (C : Int), 0, ((Bn l 1 : Int) / 2 % 2))))) := ⟨⟨_, LL.out, B6.out⟩⟩
  have k1 := fun p : Held (fun W => Later w W ∧ Box W (w.heap.size + 1) 26 (cc (op, A, (C : Int), 0, ((Bn l 1 : Int) / 2 % 2)))) => HC.out 1 (by omega) _ p.h.1
  have e0 := fun p : Held (fun W => Later w W ∧ Box W (w.heap.size + 1) 26 (cc (op, A, (C : Int), 0, ((Bn l 1 : Int) / 2 % 2)))) => p.h.2.cell 0
  have e1 := fun p : Held (fun W => Later w W ∧ Box W (w.heap.size + 1) 26 (cc (op, A, (C : Int), 0, ((Bn l 1 : Int) / 2 % 2)))) => p.h.2.cell 1
  have e2 := fun p : Held (fun W => Later w W ∧ Box W (w.heap.size + 1) 26 (cc (op, A, (C : Int), 0, ((Bn l 1 : Int) / 2 % 2)))) => p.h.2.cell 2
  have e3 := fun p : Held (fun W => Later w W ∧ Box W (w.heap.size + 1) 26 (cc (op, A, (C : Int), 0, ((Bn l 1 : Int) / 2 % 2)))) => p.h.2.cell 3
  have e4 := fun p : Held (fun W => Later w W ∧ Box W (w.heap.size + 1) 26 (cc (op, A, (C : Int), 0, ((Bn l 1 : Int) / 2 % 2)))) => p.h.2.cell 4
  replace B4 := hide (B4.out.later (Later.refl _).drew)
  replace B6 := hide (B6.out.later (Later.refl _).drew)
  replace LL := hide (LL.out.trans (Later.refl _).drew)
  iterate 11 (refine wpJ_mild rfl (fun K hK => ?_); go_simp; refine hK _ ?_; clear hK K)
  refine wpJ_store rfl rfl 26 (.tmp 4) (.tmp 92) rfl w.heap.size (cc (op, A, (C : Int), 0, ((Bn l 1 : Int) / 2 % 2))) rfl rfl Try.info_cmd (cc_one _) _ _ B4.out (by simp) (fun W hW => ⟨(LL.out.trans hW).setCells (Nat.le_refl _) _ _, (B6.out.later hW).apart _ (by omega) _ _⟩) ?_
  intro wl hl wz hz
  have BZ : Hid (Box wz w.heap.size 26 (cc (op, A, (C : Int), 0, ((Bn l 1 : Int) / 2 % 2)))) := by rw [hz.out]; exact (B4.out.later hl).all _ rfl
  have LZ : Hid (Later w wz) := by rw [hz.out]; exact (LL.out.trans hl).setCells (Nat.le_refl _) _ _
  clear hz hl e0 e1 e2 e3 e4
  iterate 1 (refine wpJ_mild rfl (fun K hK => ?_); go_simp; refine hK _ ?_; clear hK K)
  clear k1
  refine wpJ_nil (fun wn hn => ?_)
  replace BZ := hide (BZ.out.later hn)
  replace LZ := hide (LZ.out.trans hn)
  clear hn
  go_wp2
  refine bodyPost_ret (results_cell_tmp rfl _ _ _ w.heap.size 0 rfl _ (.bool ((Bn l 1 : Int) / 4 % 2 == 0)) (load_cmd (c := (op, A, (C : Int), 0, ((Bn l 1 : Int) / 2 % 2))) BZ.out rfl) (by rfl)) rfl ⟨by rw [HR.out], LZ.out⟩
set_option maxRecDepth 20000 in
set_option maxHeartbeats 1000000 in
theorem rblocks_10_4 (op : Int) (hk : classI op = 4) : IBlocks op 10 := by
  intro v l w h hl
  have HR : Hid (blocksS op l = lb true (op, bigAt l 2 4, (bigAt l 7 2 : Int), 0, 0)) := by
    rw [Hid, blocksS, hl, hk]; simp [okS6, bitsS]
  have HK := hide hk
  clear hk
  obtain ⟨b, off, cap, rfl, hc⟩ := h.cells6 hl (by omega)
  have HB := hide h
  have b1 := Bn_lt l 1
  have b2 := Bn_lt l 2
  have b3 := Bn_lt l 3
  have b4 := Bn_lt l 4
  have b8 := Bn_lt l 8
  have HC := hide hc
  clear hc h hl
  have z1 := wr_of (x := (Bn l 1 : Int)) (by omega)
  have z2 := wr_of (x := (Bn l 2 : Int)) (by omega)
  have z3 := wr_of (x := (Bn l 3 : Int)) (by omega)
  have z4 := wr_of (x := (Bn l 4 : Int)) (by omega)
  have z5 := wr_of (x := (Bn l 1 : Int) % 2) (by omega)
  have z6 := wr_of (x := (Bn l 2 : Int) % 64) (by omega)
  have z7 := wr_of (x := (Bn l 2 : Int) / 64) (by omega)
  have z8 := wr_of (x := (Bn l 4 : Int) % 4) (by omega)
  have v1 := wr8_of (x := (Bn l 1 : Int) / 16) (by omega)
  have v2 := wr8_of (x := (Bn l 2 : Int) / 64) (by omega)
  have v3 := wr8_of (x := (Bn l 1 : Int) / 8) (by omega)
  have v4 := wr8_of (x := (Bn l 1 : Int) / 4) (by omega)
  have v5 := wr8_of (x := (Bn l 1 : Int) / 2) (by omega)
  have m1 := tm2
  have m2 := tm4
  have m3 := tm32
  have m4 := tm64
  have m5 := td16
  have m6 := td64
  have m7 := tdm16
  have B4 := hide (((Box.new w 26 #[.int .i64 0, .int .u64 0, .int .i64 0, .int .i64 0, .int .i64 0])).alloc (.cells #[.int .i64 op, .int .u64 0, .int .i64 0, .int .i64 0, .int .i64 0] 26))
  have B6 := hide (Box.new' (w.alloc (.cells #[.int .i64 0, .int .u64 0, .int .i64 0, .int .i64 0, .int .i64 0] 26)) 26 #[.int .i64 op, .int .u64 0, .int .i64 0, .int .i64 0, .int .i64 0] _ rfl (w.heap.size + 1) (by simp))
  have LL := hide (((Later.refl w).alloc (.cells #[.int .i64 0, .int .u64 0, .int .i64 0, .int .i64 0, .int .i64 0] 26)).alloc (.cells #[.int .i64 op, .int .u64 0, .int .i64 0, .int .i64 0, .int .i64 0] 26))
  go_enter Try.func25, Try.ntmps25
  have m8 := td2
  have m9 := td4
  have m10 := td8
  have m11 := tdm2
  have m12 := tdm4
  have m13 := tdm8
  have y1 := wr_of (x := (Bn l 1 : Int) / 8 % 2) (by omega)
  have y2 := wr_of (x := (Bn l 1 : Int) / 2 % 2) (by omega)
  have zb := wr_of (x := (bigAt l 7 2 : Int)) (by have := bigAt_lt (l := l) (a := 7) (n := 2) 0 (by decide); omega)
  go_wp2_with fail
  generalize ((w.alloc (.cells #[.int .i64 0, .int .u64 0, .int .i64 0, .int .i64 0, .int .i64 0] 26)).alloc (.cells #[.int .i64 op, .int .u64 0, .int .i64 0, .int .i64 0, .int .i64 0] 26)) = w1 at *
  refine (rclass_c op _).mono ?_
  rintro e w2 ⟨rfl, hw⟩
  have hw2 := hw.symm
  subst hw2
  clear hw
  rw [HK.out]
  go_wp2_with fail
  refine (rbig6_c 2 4 _ (HB.out.later LL.out)).mono ?_
  rintro e w2 ⟨rfl, hl⟩
  replace B4 := hide (B4.out.later hl)
  replace B6 := hide (B6.out.later hl)
  replace LL := hide (LL.out.trans hl)
  clear hl
  go_wp2_with fail
  refine (rbig6_c 7 2 _ (HB.out.later LL.out)).mono ?_
  rintro e w2 ⟨rfl, hl⟩
  replace B4 := hide (B4.out.later hl)
  replace B6 := hide (B6.out.later hl)
  replace LL := hide (LL.out.trans hl)
  clear hl
  generalize bigAt l 2 4 = A at *
  generalize bigAt l 7 2 = C at *
  go_wp2_with (refine wpList_storeI rfl 24 (.tmp 59) (.tmp 55) rfl (w.heap.size + 1) 1 rfl .u64 (A : Int) rfl Try.info1_u64 _ _ B6.out (by simp) ?_)
  intro w2 hB hw
  replace B4 := hide (B4.out.apart (w.heap.size + 1) (by omega) [.int .u64 (A : Int)] 1)
  replace LL := hide (LL.out.setCells (g := w.heap.size + 1) (Nat.le_succ _) [.int .u64 (A : Int)] 1)
  rw [← hw.out] at B4 LL
  replace B6 : Hid (Box w2 (w.heap.size + 1) 26 (cc (op, A, 0, 0, 0))) := hB
  clear hB hw
  go_wp2_with (refine wpList_storeI rfl 3 (.tmp 60) (.tmp 58) rfl (w.heap.size + 1) 2 rfl .i64 (C : Int) rfl Try.info1_int _ _ B6.out (by simp) ?_)
  intro w2 hB hw
  replace B4 := hide (B4.out.apart (w.heap.size + 1) (by omega) [.int .i64 (C : Int)] 2)
  replace LL := hide (LL.out.setCells (g := w.heap.size + 1) (Nat.le_succ _) [.int .i64 (C : Int)] 2)
  rw [← hw.out] at B4 LL
  replace B6 : Hid (Box w2 (w.heap.size + 1) 26 (cc (op, A, (C : Int), 0, 0))) := hB
  clear hB hw
  have kk := HC.out 1 (by omega) _ LL.out
  clear kk
  go_wp2_with fail
  refine wp_region_held (fun W => Later w W ∧ Box W (w.heap.size + 1) 26 (cc (op, A, (C : Int), 0, 0))) (fun a b hl h => ⟨h.1.trans hl, h.2.later hl⟩) ⟨LL.out, B6.out⟩ [(0, false), (1, false), (2, false), (3, false), (4, false), (5, false), (6, false), (7, false), (8, false), (9, false), (10, false), (11, true), (12, false)] (by kernel_rfl) (by kernel_rfl) (by kernel_rfl) (by kernel_rfl) ?_
  haveI : Nonempty (Held (fun W => Later w W ∧ Box W (w.heap.size + 1) 26 (cc (op, A, (C : Int), 0, 0)))) := ⟨⟨_, LL.out, B6.out⟩⟩
  have k1 := fun p : Held (fun W => Later w W ∧ Box W (w.heap.size + 1) 26 (cc (op, A, (C : Int), 0, 0))) => HC.out 1 (by omega) _ p.h.1
  have e0 := fun p : Held (fun W => Later w W ∧ Box W (w.heap.size + 1) 26 (cc (op, A, (C : Int), 0, 0))) => p.h.2.cell 0
  have e1 := fun p : Held (fun W => Later w W ∧ Box W (w.heap.size + 1) 26 (cc (op, A, (C : Int), 0, 0))) => p.h.2.cell 1
  have e2 := fun p : Held (fun W => Later w W ∧ Box W (w.heap.size + 1) 26 (cc (op, A, (C : Int), 0, 0))) => p.h.2.cell 2
  have e3 := fun p : Held (fun W => Later w W ∧ Box W (w.heap.size + 1) 26 (cc (op, A, (C : Int), 0, 0))) => p.h.2.cell 3
  have e4 := fun p : Held (fun W => Later w W ∧ Box W (w.heap.size + 1) 26 (cc (op, A, (C : Int), 0, 0))) => p.h.2.cell 4
  replace B4 := hide (B4.out.later (Later.refl _).drew)
  replace B6 := hide (B6.out.later (Later.refl _).drew)
  replace LL := hide (LL.out.trans (Later.refl _).drew)
  iterate 11 (refine wpJ_mild rfl (fun K hK => ?_); go_simp; refine hK _ ?_; clear hK K)
  refine wpJ_store rfl rfl 26 (.tmp 4) (.tmp 92) rfl w.heap.size (cc (op, A, (C : Int), 0, 0)) rfl rfl Try.info_cmd (cc_one _) _ _ B4.out (by simp) (fun W hW => ⟨(LL.out.trans hW).setCells (Nat.le_refl _) _ _, (B6.out.later hW).apart _ (by omega) _ _⟩) ?_
  intro wl hl wz hz
  have BZ : Hid (Box wz w.heap.size 26 (cc (op, A, (C : Int), 0, 0))) := by rw [hz.out]; exact (B4.out.later hl).all _ rfl
  have LZ : Hid (Later w wz) := by rw [hz.out]; exact (LL.out.trans hl).setCells (Nat.le_refl _) _ _
  clear hz hl e0 e1 e2 e3 e4
  iterate 1 (refine wpJ_mild rfl (fun K hK => ?_); go_simp; refine hK _ ?_; clear hK K)
  clear k1
  refine wpJ_nil (fun wn hn => ?_)
  replace BZ := hide (BZ.out.later hn)
  replace LZ := hide (LZ.out.trans hn)
  clear hn
  go_wp2
  refine bodyPost_ret (results_cell_tmp rfl _ _ _ w.heap.size 0 rfl _ (.bool true) (load_cmd (c := (op, A, (C : Int), 0, 0)) BZ.out rfl) (by rfl)) rfl ⟨by rw [HR.out], LZ.out⟩
set_option maxRecDepth 20000 in
set_option maxHeartbeats 1000000 in
theorem rblocks_12_1 (op : Int) (hk : classI op = 1) : IBlocks op 12 := by
  intro v l w h hl
  have HR : Hid (blocksS op l = lb true (op, bigAt l 2 4, (bigAt l 6 4 : Int), 0, ((Bn l 1 : Int) / 8 % 2))) := by
    rw [Hid, blocksS, hl, hk]; simp [okS6, bitsS]
  have HK := hide hk
  clear hk
  obtain ⟨b, off, cap, rfl, hc⟩ := h.cells6 hl (by omega)
  have HB := hide h
  have b1 := Bn_lt l 1
  have b2 := Bn_lt l 2
  have b3 := Bn_lt l 3
  have b4 := Bn_lt l 4
  have b8 := Bn_lt l 8
  have HC := hide hc
  clear hc h hl
  have z1 := wr_of (x := (Bn l 1 : Int)) (by omega)
  have z2 := wr_of (x := (Bn l 2 : Int)) (by omega)
  have z3 := wr_of (x := (Bn l 3 : Int)) (by omega)
  have z4 := wr_of (x := (Bn l 4 : Int)) (by omega)
  have z5 := wr_of (x := (Bn l 1 : Int) % 2) (by omega)
  have z6 := wr_of (x := (Bn l 2 : Int) % 64) (by omega)
  have z7 := wr_of (x := (Bn l 2 : Int) / 64) (by omega)
  have z8 := wr_of (x := (Bn l 4 : Int) % 4) (by omega)
  have v1 := wr8_of (x := (Bn l 1 : Int) / 16) (by omega)
  have v2 := wr8_of (x := (Bn l 2 : Int) / 64) (by omega)
  have v3 := wr8_of (x := (Bn l 1 : Int) / 8) (by omega)
  have v4 := wr8_of (x := (Bn l 1 : Int) / 4) (by omega)
  have v5 := wr8_of (x := (Bn l 1 : Int) / 2) (by omega)
  have m1 := tm2
  have m2 := tm4
  have m3 := tm32
  have m4 := tm64
  have m5 := td16
  have m6 := td64
  have m7 := tdm16
  have B4 := hide (((Box.new w 26 #[.int .i64 0, .int .u64 0, .int .i64 0, .int .i64 0, .int .i64 0])).alloc (.cells #[.int .i64 op, .int .u64 0, .int .i64 0, .int .i64 0, .int .i64 0] 26))
  have B6 := hide (Box.new' (w.alloc (.cells #[.int .i64 0, .int .u64 0, .int .i64 0, .int .i64 0, .int .i64 0] 26)) 26 #[.int .i64 op, .int .u64 0, .int .i64 0, .int .i64 0, .int .i64 0] _ rfl (w.heap.size + 1) (by simp))
  have LL := hide (((Later.refl w).alloc (.cells #[.int .i64 0, .int .u64 0, .int .i64 0, .int .i64 0, .int .i64 0] 26)).alloc (.cells #[.int .i64 op, .int .u64 0, .int .i64 0, .int .i64 0, .int .i64 0] 26))
  go_enter Try.func25, Try.ntmps25
  have m8 := td2
  have m9 := td4
  have m10 := td8
  have m11 := tdm2
  have m12 := tdm4
  have m13 := tdm8
  have y1 := wr_of (x := (Bn l 1 : Int) / 8 % 2) (by omega)
  have y2 := wr_of (x := (Bn l 1 : Int) / 2 % 2) (by omega)
  have zb := wr_of (x := (bigAt l 6 4 : Int)) (by have := bigAt_lt (l := l) (a := 6) (n := 4) 0 (by decide); omega)
  go_wp2_with fail
  generalize ((w.alloc (.cells #[.int .i64 0, .int .u64 0, .int .i64 0, .int .i64 0, .int .i64 0] 26)).alloc (.cells #[.int .i64 op, .int .u64 0, .int .i64 0, .int .i64 0, .int .i64 0] 26)) = w1 at *
  refine (rclass_c op _).mono ?_
  rintro e w2 ⟨rfl, hw⟩
  have hw2 := hw.symm
  subst hw2
  clear hw
  rw [HK.out]
  go_wp2_with fail
  refine (rbig6_c 2 4 _ (HB.out.later LL.out)).mono ?_
  rintro e w2 ⟨rfl, hl⟩
  replace B4 := hide (B4.out.later hl)
  replace B6 := hide (B6.out.later hl)
  replace LL := hide (LL.out.trans hl)
  clear hl
  go_wp2_with fail
  refine (rbig6_c 6 4 _ (HB.out.later LL.out)).mono ?_
  rintro e w2 ⟨rfl, hl⟩
  replace B4 := hide (B4.out.later hl)
  replace B6 := hide (B6.out.later hl)
  replace LL := hide (LL.out.trans hl)
  clear hl
  generalize bigAt l 2 4 = A at *
  generalize bigAt l 6 4 = C at *
  go_wp2_with (refine wpList_storeI rfl 24 (.tmp 68) (.tmp 64) rfl (w.heap.size + 1) 1 rfl .u64 (A : Int) rfl Try.info1_u64 _ _ B6.out (by simp) ?_)
  intro w2 hB hw
  replace B4 := hide (B4.out.apart (w.heap.size + 1) (by omega) [.int .u64 (A : Int)] 1)
  replace LL := hide (LL.out.setCells (g := w.heap.size + 1) (Nat.le_succ _) [.int .u64 (A : Int)] 1)
  rw [← hw.out] at B4 LL
  replace B6 : Hid (Box w2 (w.heap.size + 1) 26 (cc (op, A, 0, 0, 0))) := hB
  clear hB hw
  go_wp2_with (refine wpList_storeI rfl 3 (.tmp 69) (.tmp 67) rfl (w.heap.size + 1) 2 rfl .i64 (C : Int) rfl Try.info1_int _ _ B6.out (by simp) ?_)
  intro w2 hB hw
  replace B4 := hide (B4.out.apart (w.heap.size + 1) (by omega) [.int .i64 (C : Int)] 2)
  replace LL := hide (LL.out.setCells (g := w.heap.size + 1) (Nat.le_succ _) [.int .i64 (C : Int)] 2)
  rw [← hw.out] at B4 LL
  replace B6 : Hid (Box w2 (w.heap.size + 1) 26 (cc (op, A, (C : Int), 0, 0))) := hB
  clear hB hw
  have kk := HC.out 1 (by omega) _ LL.out
  go_wp2_with (refine wpList_storeI rfl 3 (.tmp 82) (.tmp 81) rfl (w.heap.size + 1) 4 rfl .i64 ((Bn l 1 : Int) / 8 % 2) rfl Try.info1_int _ _ B6.out (by simp) ?_)
  intro w2 hB hw
  replace B4 := hide (B4.out.apart (w.heap.size + 1) (by omega) [.int .i64 ((Bn l 1 : Int) / 8 % 2)] 4)
  replace LL := hide (LL.out.setCells (g := w.heap.size + 1) (Nat.le_succ _) [.int .i64 ((Bn l 1 : Int) / 8 % 2)] 4)
  rw [← hw.out] at B4 LL
  replace B6 : Hid (Box w2 (w.heap.size + 1) 26 (cc (op, A, (C : Int), 0, ((Bn l 1 : Int) / 8 % 2)))) := hB
  clear hB hw
  clear kk
  go_wp2_with fail
  refine wp_region_held (fun W => Later w W ∧ Box W (w.heap.size + 1) 26 (cc (op, A, (C : Int), 0, ((Bn l 1 : Int) / 8 % 2)))) (fun a b hl h => ⟨h.1.trans hl, h.2.later hl⟩) ⟨LL.out, B6.out⟩ [(0, false), (1, false), (2, false), (3, false), (4, false), (5, false), (6, false), (7, false), (8, false), (9, false), (10, false), (11, true), (12, false)] (by kernel_rfl) (by kernel_rfl) (by kernel_rfl) (by kernel_rfl) ?_
  haveI : Nonempty (Held (fun W => Later w W ∧ Box W (w.heap.size + 1) 26 (cc (op, A, (C : Int), 0, ((Bn l 1 : Int) / 8 % 2))))) := ⟨⟨_, LL.out, B6.out⟩⟩
  have k1 := fun p : Held (fun W => Later w W ∧ Box W (w.heap.size + 1) 26 (cc (op, A, (C : Int), 0, ((Bn l 1 : Int) / 8 % 2)))) => HC.out 1 (by omega) _ p.h.1
  have e0 := fun p : Held (fun W => Later w W ∧ Box W (w.heap.size + 1) 26 (cc (op, A, (C : Int), 0, ((Bn l 1 : Int) / 8 % 2)))) => p.h.2.cell 0
  have e1 := fun p : Held (fun W => Later w W ∧ Box W (w.heap.size + 1) 26 (cc (op, A, (C : Int), 0, ((Bn l 1 : Int) / 8 % 2)))) => p.h.2.cell 1
  have e2 := fun p : Held (fun W => Later w W ∧ Box W (w.heap.size + 1) 26 (cc (op, A, (C : Int), 0, ((Bn l 1 : Int) / 8 % 2)))) => p.h.2.cell 2
  have e3 := fun p : Held (fun W => Later w W ∧ Box W (w.heap.size + 1) 26 (cc (op, A, (C : Int), 0, ((Bn l 1 : Int) / 8 % 2)))) => p.h.2.cell 3
  have e4 := fun p : Held (fun W => Later w W ∧ Box W (w.heap.size + 1) 26 (cc (op, A, (C : Int), 0, ((Bn l 1 : Int) / 8 % 2)))) => p.h.2.cell 4
  replace B4 := hide (B4.out.later (Later.refl _).drew)
  replace B6 := hide (B6.out.later (Later.refl _).drew)
  replace LL := hide (LL.out.trans (Later.refl _).drew)
  iterate 11 (refine wpJ_mild rfl (fun K hK => ?_); go_simp; refine hK _ ?_; clear hK K)
  refine wpJ_store rfl rfl 26 (.tmp 4) (.tmp 92) rfl w.heap.size (cc (op, A, (C : Int), 0, ((Bn l 1 : Int) / 8 % 2))) rfl rfl Try.info_cmd (cc_one _) _ _ B4.out (by simp) (fun W hW => ⟨(LL.out.trans hW).setCells (Nat.le_refl _) _ _, (B6.out.later hW).apart _ (by omega) _ _⟩) ?_
  intro wl hl wz hz
  have BZ : Hid (Box wz w.heap.size 26 (cc (op, A, (C : Int), 0, ((Bn l 1 : Int) / 8 % 2)))) := by rw [hz.out]; exact (B4.out.later hl).all _ rfl
  have LZ : Hid (Later w wz) := by rw [hz.out]; exact (LL.out.trans hl).setCells (Nat.le_refl _) _ _
  clear hz hl e0 e1 e2 e3 e4
  iterate 1 (refine wpJ_mild rfl (fun K hK => ?_); go_simp; refine hK _ ?_; clear hK K)
  clear k1
  refine wpJ_nil (fun wn hn => ?_)
  replace BZ := hide (BZ.out.later hn)
  replace LZ := hide (LZ.out.trans hn)
  clear hn
  go_wp2
  refine bodyPost_ret (results_cell_tmp rfl _ _ _ w.heap.size 0 rfl _ (.bool true) (load_cmd (c := (op, A, (C : Int), 0, ((Bn l 1 : Int) / 8 % 2))) BZ.out rfl) (by rfl)) rfl ⟨by rw [HR.out], LZ.out⟩
set_option maxRecDepth 20000 in
set_option maxHeartbeats 1000000 in
theorem rblocks_12_2 (op : Int) (hk : classI op = 2) : IBlocks op 12 := by
  intro v l w h hl
  have HR : Hid (blocksS op l = lb true (op, bigAt l 2 4, (bigAt l 6 4 : Int), 0, ((Bn l 1 : Int) / 8 % 2))) := by
    rw [Hid, blocksS, hl, hk]; simp [okS6, bitsS]
  have HK := hide hk
  clear hk
  obtain ⟨b, off, cap, rfl, hc⟩ := h.cells6 hl (by omega)
  have HB := hide h
  have b1 := Bn_lt l 1
  have b2 := Bn_lt l 2
  have b3 := Bn_lt l 3
  have b4 := Bn_lt l 4
  have b8 := Bn_lt l 8
  have HC := hide hc
  clear hc h hl
  have z1 := wr_of (x := (Bn l 1 : Int)) (by omega)
  have z2 := wr_of (x := (Bn l 2 : Int)) (by omega)
  have z3 := wr_of (x := (Bn l 3 : Int)) (by omega)
  have z4 := wr_of (x := (Bn l 4 : Int)) (by omega)
  have z5 := wr_of (x := (Bn l 1 : Int) % 2) (by omega)
  have z6 := wr_of (x := (Bn l 2 : Int) % 64) (by omega)
  have z7 := wr_of (x := (Bn l 2 : Int) / 64) (by omega)
  have z8 := wr_of (x := (Bn l 4 : Int) % 4) (by omega)
  have v1 := wr8_of (x := (Bn l 1 : Int) / 16) (by omega)
  have v2 := wr8_of (x := (Bn l 2 : Int) / 64) (by omega)
  have v3 := wr8_of (x := (Bn l 1 : Int) / 8) (by omega)
  have v4 := wr8_of (x := (Bn l 1 : Int) / 4) (by omega)
  have v5 := wr8_of (x := (Bn l 1 : Int) / 2) (by omega)
  have m1 := tm2
  have m2 := tm4
  have m3 := tm32
  have m4 := tm64
  have m5 := td16
  have m6 := td64
  have m7 := tdm16
  have B4 := hide (((Box.new w 26 #[.int .i64 0, .int .u64 0, .int .i64 0, .int .i64 0, .int .i64 0])).alloc (.cells #[.int .i64 op, .int .u64 0, .int .i64 0, .int .i64 0, .int .i64 0] 26))
  have B6 := hide (Box.new' (w.alloc (.cells #[.int .i64 0, .int .u64 0, .int .i64 0, .int .i64 0, .int .i64 0] 26)) 26 #[.int .i64 op, .int .u64 0, .int .i64 0, .int .i64 0, .int .i64 0] _ rfl (w.heap.size + 1) (by simp))
  have LL := hide (((Later.refl w).alloc (.cells #[.int .i64 0, .int .u64 0, .int .i64 0, .int .i64 0, .int .i64 0] 26)).alloc (.cells #[.int .i64 op, .int .u64 0, .int .i64 0, .int .i64 0, .int .i64 0] 26))
  go_enter Try.func25, Try.ntmps25
  have m8 := td2
  have m9 := td4
  have m10 := td8
  have m11 := tdm2
  have m12 := tdm4
  have m13 := tdm8
  have y1 := wr_of (x := (Bn l 1 : Int) / 8 % 2) (by omega)
  have y2 := wr_of (x := (Bn l 1 : Int) / 2 % 2) (by omega)
  have zb := wr_of (x := (bigAt l 6 4 : Int)) (by have := bigAt_lt (l := l) (a := 6) (n := 4) 0 (by decide); omega)
  go_wp2_with fail
  generalize ((w.alloc (.cells #[.int .i64 0, .int .u64 0, .int .i64 0, .int .i64 0, .int .i64 0] 26)).alloc (.cells #[.int .i64 op, .int .u64 0, .int .i64 0, .int .i64 0, .int .i64 0] 26)) = w1 at *
  refine (rclass_c op _).mono ?_
  rintro e w2 ⟨rfl, hw⟩
  have hw2 := hw.symm
  subst hw2
  clear hw
  rw [HK.out]
  go_wp2_with fail
  refine (rbig6_c 2 4 _ (HB.out.later LL.out)).mono ?_
  rintro e w2 ⟨rfl, hl⟩
  replace B4 := hide (B4.out.later hl)
  replace B6 := hide (B6.out.later hl)
  replace LL := hide (LL.out.trans hl)
  clear hl
  go_wp2_with fail
  refine (rbig6_c 6 4 _ (HB.out.later LL.out)).mono ?_
  rintro e w2 ⟨rfl, hl⟩
  replace B4 := hide (B4.out.later hl)
  replace B6 := hide (B6.out.later hl)
  replace LL := hide (LL.out.trans hl)
  clear hl
  generalize bigAt l 2 4 = A at *
  generalize bigAt l 6 4 = C at *
  go_wp2_with (refine wpList_storeI rfl 24 (.tmp 68) (.tmp 64) rfl (w.heap.size + 1) 1 rfl .u64 (A : Int) rfl Try.info1_u64 _ _ B6.out (by simp) ?_)
  intro w2 hB hw
  replace B4 := hide (B4.out.apart (w.heap.size + 1) (by omega) [.int .u64 (A : Int)] 1)
  replace LL := hide (LL.out.setCells (g := w.heap.size + 1) (Nat.le_succ _) [.int .u64 (A : Int)] 1)
  rw [← hw.out] at B4 LL
  replace B6 : Hid (Box w2 (w.heap.size + 1) 26 (cc (op, A, 0, 0, 0))) := hB
  clear hB hw
  go_wp2_with (refine wpList_storeI rfl 3 (.tmp 69) (.tmp 67) rfl (w.heap.size + 1) 2 rfl .i64 (C : Int) rfl Try.info1_int _ _ B6.out (by simp) ?_)
  intro w2 hB hw
  replace B4 := hide (B4.out.apart (w.heap.size + 1) (by omega) [.int .i64 (C : Int)] 2)
  replace LL := hide (LL.out.setCells (g := w.heap.size + 1) (Nat.le_succ _) [.int .i64 (C : Int)] 2)
  rw [← hw.out] at B4 LL
  replace B6 : Hid (Box w2 (w.heap.size + 1) 26 (cc (op, A, (C : Int), 0, 0))) := hB
  clear hB hw
  have kk := HC.out 1 (by omega) _ LL.out
  go_wp2_with (refine wpList_storeI rfl 3 (.tmp 82) (.tmp 81) rfl (w.heap.size + 1) 4 rfl .i64 ((Bn l 1 : Int) / 8 % 2) rfl Try.info1_int _ _ B6.out (by simp) ?_)
  intro w2 hB hw
  replace B4 := hide (B4.out.apart (w.heap.size + 1) (by omega) [.int .i64 ((Bn l 1 : Int) / 8 % 2)] 4)
  replace LL := hide (LL.out.setCells (g := w.heap.size + 1) (Nat.le_succ _) [.int .i64 ((Bn l 1 : Int) / 8 % 2)] 4)
  rw [← hw.out] at B4 LL
  replace B6 : Hid (Box w2 (w.heap.size + 1) 26 (cc (op, A, (C : Int), 0, ((Bn l 1 : Int) / 8 % 2)))) := hB
  clear hB hw
  clear kk
  go_wp2_with fail
  refine wp_region_held (fun W => Later w W ∧ Box W (w.heap.size + 1) 26 (cc (op, A, (C : Int), 0, ((Bn l 1 : Int) / 8 % 2)))) (fun a b hl h => ⟨h.1.trans hl, h.2.later hl⟩) ⟨LL.out, B6.out⟩ [(0, false), (1, false), (2, false), (3, false), (4, false), (5, false), (6, false), (7, false), (8, false), (9, false), (10, false), (11, true), (12, false)] (by kernel_rfl) (by kernel_rfl) (by kernel_rfl) (by kernel_rfl) ?_
  haveI : Nonempty (Held (fun W => Later w W ∧ Box W (w.heap.size + 1) 26 (cc (op, A, (C : Int), 0, ((Bn l 1 : Int) / 8 % 2))))) := ⟨⟨_, LL.out, B6.out⟩⟩
  have k1 := fun p : Held (fun W => Later w W ∧ Box W (w.heap.size + 1) 26 (cc (op, A, (C : Int), 0, ((Bn l 1 : Int) / 8 % 2)))) => HC.out 1 (by omega) _ p.h.1
  have e0 := fun p : Held (fun W => Later w W ∧ Box W (w.heap.size + 1) 26 (cc (op, A, (C : Int), 0, ((Bn l 1 : Int) / 8 % 2)))) => p.h.2.cell 0
  have e1 := fun p : Held (fun W => Later w W ∧ Box W (w.heap.size + 1) 26 (cc (op, A, (C : Int), 0, ((Bn l 1 : Int) / 8 % 2)))) => p.h.2.cell 1
  have e2 := fun p : Held (fun W => Later w W ∧ Box W (w.heap.size + 1) 26 (cc (op, A, (C : Int), 0, ((Bn l 1 : Int) / 8 % 2)))) => p.h.2.cell 2
  have e3 := fun p : Held (fun W => Later w W ∧ Box W (w.heap.size + 1) 26 (cc (op, A, (C : Int), 0, ((Bn l 1 : Int) / 8 % 2)))) => p.h.2.cell 3
  have e4 := fun p : Held (fun W => Later w W ∧ Box W (w.heap.size + 1) 26 (cc (op, A, (C : Int), 0, ((Bn l 1 : Int) / 8 % 2)))) => p.h.2.cell 4
  replace B4 := hide (B4.out.later (Later.refl _).drew)
  replace B6 := hide (B6.out.later (Later.refl _).drew)
  replace LL := hide (LL.out.trans (Later.refl _).drew)
  iterate 11 (refine wpJ_mild rfl (fun K hK => ?_); go_simp; refine hK _ ?_; clear hK K)
  refine wpJ_store rfl rfl 26 (.tmp 4) (.tmp 92) rfl w.heap.size (cc (op, A, (C : Int), 0, ((Bn l 1 : Int) / 8 % 2))) rfl rfl Try.info_cmd (cc_one _) _ _ B4.out (by simp) (fun W hW => ⟨(LL.out.trans hW).setCells (Nat.le_refl _) _ _, (B6.out.later hW).apart _ (by omega) _ _⟩) ?_
  intro wl hl wz hz
  have BZ : Hid (Box wz w.heap.size 26 (cc (op, A, (C : Int), 0, ((Bn l 1 : Int) / 8 % 2)))) := by rw [hz.out]; exact (B4.out.later hl).all _ rfl
  have LZ : Hid (Later w wz) := by rw [hz.out]; exact (LL.out.trans hl).setCells (Nat.le_refl _) _ _
  clear hz hl e0 e1 e2 e3 e4
  iterate 1 (refine wpJ_mild rfl (fun K hK => ?_); go_simp; refine hK _ ?_; clear hK K)
  clear k1
  refine wpJ_nil (fun wn hn => ?_)
  replace BZ := hide (BZ.out.later hn)
  replace LZ := hide (LZ.out.trans hn)
  clear hn
  go_wp2
  refine bodyPost_ret (results_cell_tmp rfl _ _ _ w.heap.size 0 rfl _ (.bool true) (load_cmd (c := (op, A, (C : Int), 0, ((Bn l 1 : Int) / 8 % 2))) BZ.out rfl) (by rfl)) rfl ⟨by rw [HR.out], LZ.out⟩
set_option maxRecDepth 20000 in
set_option maxHeartbeats 1000000 in
theorem rblocks_12_3 (op : Int) (hk : classI op = 3) : IBlocks op 12 := by
  intro v l w h hl
  have HR : Hid (blocksS op l = lb ((Bn l 1 : Int) / 4 % 2 == 0) (op, bigAt l 2 4, (bigAt l 6 4 : Int), 0, ((Bn l 1 : Int) / 2 % 2))) := by
    rw [Hid, blocksS, hl, hk]; simp [okS6, bitsS]
  have HK := hide hk
  clear hk
  obtain ⟨b, off, cap, rfl, hc⟩ := h.cells6 hl (by omega)
  have HB := hide h
  have b1 := Bn_lt l 1
  have b2 := Bn_lt l 2
  have b3 := Bn_lt l 3
  have b4 := Bn_lt l 4
  have b8 := Bn_lt l 8
  have HC := hide hc
  clear hc h hl
  have z1 := wr_of (x := (Bn l 1 : Int)) (by omega)
  have z2 := wr_of (x := (Bn l 2 : Int)) (by omega)
  have z3 := wr_of (x := (Bn l 3 : Int)) (by omega)
  have z4 := wr_of (x := (Bn l 4 : Int)) (by omega)
  have z5 := wr_of (x := (Bn l 1 : Int) % 2) (by omega)
  have z6 := wr_of (x := (Bn l 2 : Int) % 64) (by omega)
  have z7 := wr_of (x := (Bn l 2 : Int) / 64) (by omega)
  have z8 := wr_of (x := (Bn l 4 : Int) % 4) (by omega)
  have v1 := wr8_of (x := (Bn l 1 : Int) / 16) (by omega)
  have v2 := wr8_of (x := (Bn l 2 : Int) / 64) (by omega)
  have v3 := wr8_of (x := (Bn l 1 : Int) / 8) (by omega)
  have v4 := wr8_of (x := (Bn l 1 : Int) / 4) (by omega)
  have v5 := wr8_of (x := (Bn l 1 : Int) / 2) (by omega)
  have m1 := tm2
  have m2 := tm4
  have m3 := tm32
  have m4 := tm64
  have m5 := td16
  have m6 := td64
  have m7 := tdm16
  have B4 := hide (((Box.new w 26 #[.int .i64 0, .int .u64 0, .int .i64 0, .int .i64 0, .int .i64 0])).alloc (.cells #[.int .i64 op, .int .u64 0, .int .i64 0, .int .i64 0, .int .i64 0] 26))
  have B6 := hide (Box.new' (w.alloc (.cells #[.int .i64 0, .int .u64 0, .int .i64 0, .int .i64 0, .int .i64 0] 26)) 26 #[.int .i64 op, .int .u64 0, .int .i64 0, .int .i64 0, .int .i64 0] _ rfl (w.heap.size + 1) (by simp))
  have LL := hide (((Later.refl w).alloc (.cells #[.int .i64 0, .int .u64 0, .int .i64 0, .int .i64 0, .int .i64 0] 26)).alloc (.cells #[.int .i64 op, .int .u64 0, .int .i64 0, .int .i64 0, .int .i64 0] 26))
  go_enter Try.func25, Try.ntmps25
  have m8 := td2
  have m9 := td4
  have m10 := td8
  have m11 := tdm2
  have m12 := tdm4
  have m13 := tdm8
  have y1 := wr_of (x := (Bn l 1 : Int) / 8 % 2) (by omega)
  have y2 := wr_of (x := (Bn l 1 : Int) / 2 % 2) (by omega)
  have zb := wr_of (x := (bigAt l 6 4 : Int)) (by have := bigAt_lt (l := l) (a := 6) (n := 4) 0 (by decide); omega)
  go_wp2_with fail
  generalize ((w.alloc (.cells #[.int .i64 0, .int .u64 0, .int .i64 0, .int .i64 0, .int .i64 0] 26)).alloc (.cells #[.int .i64 op, .int .u64 0, .int .i64 0, .int .i64 0, .int .i64 0] 26)) = w1 at *
  refine (rclass_c op _).mono ?_
  rintro e w2 ⟨rfl, hw⟩
  have hw2 := hw.symm
  subst hw2
  clear hw
  rw [HK.out]
  go_wp2_with fail
  refine (rbig6_c 2 4 _ (HB.out.later LL.out)).mono ?_
  rintro e w2 ⟨rfl, hl⟩
  replace B4 := hide (B4.out.later hl)
  replace B6 := hide (B6.out.later hl)
  replace LL := hide (LL.out.trans hl)
  clear hl
  go_wp2_with fail
  refine (rbig6_c 6 4 _ (HB.out.later LL.out)).mono ?_
  rintro e w2 ⟨rfl, hl⟩
  replace B4 := hide (B4.out.later hl)
  replace B6 := hide (B6.out.later hl)
  replace LL := hide (LL.out.trans hl)
  clear hl
  generalize bigAt l 2 4 = A at *
  generalize bigAt l 6 4 = C at *
  go_wp2_with (refine wpList_storeI rfl 24 (.tmp 68) (.tmp 64) rfl (w.heap.size + 1) 1 rfl .u64 (A : Int) rfl Try.info1_u64 _ _ B6.out (by simp) ?_)
  intro w2 hB hw
  replace B4 := hide (B4.out.apart (w.heap.size + 1) (by omega) [.int .u64 (A : Int)] 1)
  replace LL := hide (LL.out.setCells (g := w.heap.size + 1) (Nat.le_succ _) [.int .u64 (A : Int)] 1)
  rw [← hw.out] at B4 LL
  replace B6 : Hid (Box w2 (w.heap.size + 1) 26 (cc (op, A, 0, 0, 0))) := hB
  clear hB hw
  go_wp2_with (refine wpList_storeI rfl 3 (.tmp 69) (.tmp 67) rfl (w.heap.size + 1) 2 rfl .i64 (C : Int) rfl Try.info1_int _ _ B6.out (by simp) ?_)
  intro w2 hB hw
  replace B4 := hide (B4.out.apart (w.heap.size + 1) (by omega) [.int .i64 (C : Int)] 2)
  replace LL := hide (LL.out.setCells (g := w.heap.size + 1) (Nat.le_succ _) [.int .i64 (C : Int)] 2)
  rw [← hw.out] at B4 LL
  replace B6 : Hid (Box w2 (w.heap.size + 1) 26 (cc (op, A, (C : Int), 0, 0))) := hB
  clear hB hw
  have kk := HC.out 1 (by omega) _ LL.out
  go_wp2_with (refine wpList_storeI rfl 3 (.tmp 91) (.tmp 90) rfl (w.heap.size + 1) 4 rfl .i64 ((Bn l 1 : Int) / 2 % 2) rfl Try.info1_int _ _ B6.out (by simp) ?_)
  intro w2 hB hw
  replace B4 := hide (B4.out.apart (w.heap.size + 1) (by omega) [.int .i64 ((Bn l 1 : Int) / 2 % 2)] 4)
  replace LL := hide (LL.out.setCells (g := w.heap.size + 1) (Nat.le_succ _) [.int .i64 ((Bn l 1 : Int) / 2 % 2)] 4)
  rw [← hw.out] at B4 LL
  replace B6 : Hid (Box w2 (w.heap.size + 1) 26 (cc (op, A, (C : Int), 0, ((Bn l 1 : Int) / 2 % 2)))) := hB
  clear hB hw
  clear kk
  go_wp2_with fail
  refine wp_region_held (fun W => Later w W ∧ Box W (w.heap.size + 1) 26 (cc (op, A, (C : Int), 0, ((Bn l 1 : Int) / 2 % 2)))) (fun a b hl h => ⟨h.1.trans hl, h.2.later hl⟩) ⟨LL.out, B6.out⟩ [(0, false), (1, false), (2, false), (3, false), (4, false), (5, false), (6, false), (7, false), (8, false), (9, false), (10, false), (11, true), (12, false)] (by kernel_rfl) (by kernel_rfl) (by kernel_rfl) (by kernel_rfl) ?_
  haveI : Nonempty (Held (fun W => Later w W ∧ Box W (w.heap.size + 1) 26 (cc (op, A, (C : Int), 0, ((Bn l 1 : Int) / 2 % 2))))) := ⟨⟨_, LL.out, B6.out⟩⟩
  have k1 := fun p : Held (fun W => Later w W ∧ Box W (w.heap.size + 1) 26 (cc (op, A, (C : Int), 0, ((Bn l 1 : Int) / 2 % 2)))) => HC.out 1 (by omega) _ p.h.1
  have e0 := fun p : Held (fun W => Later w W ∧ Box W (w.heap.size + 1) 26 (cc (op, A, (C : Int), 0, ((Bn l 1 : Int) / 2 % 2)))) => p.h.2.cell 0
  have e1 := fun p : Held (fun W => Later w W ∧ Box W (w.heap.size + 1) 26 (cc (op, A, (C : Int), 0, ((Bn l 1 : Int) / 2 % 2)))) => p.h.2.cell 1
  have e2 := fun p : Held (fun W => Later w W ∧ Box W (w.heap.size + 1) 26 (cc (op, A, (C : Int), 0, ((Bn l 1 : Int) / 2 % 2)))) => p.h.2.cell 2
  have e3 := fun p : Held (fun W => Later w W ∧ Box W (w.heap.size + 1) 26 (cc (op, A, (C : Int), 0, ((Bn l 1 : Int) / 2 % 2)))) => p.h.2.cell 3
  have e4 := fun p : Held (fun W => Later w W ∧ Box W (w.heap.size + 1) 26 (cc (op, A, (C : Int), 0, ((Bn l 1 : Int) / 2 % 2)))) => p.h.2.cell 4
  replace B4 := hide (B4.out.later (Later.refl _).drew)
  replace B6 := hide (B6.out.later (Later.refl _).drew)
  replace LL := hide (LL.out.trans (Later.refl _).drew)
  iterate 11 (refine wpJ_mild rfl (fun K hK => ?_); go_simp; refine hK _ ?_; clear hK K)
  refine wpJ_store rfl rfl 26 (.tmp 4) (.tmp 92) rfl w.heap.size (cc (op, A, (C : Int), 0, ((Bn l 1 : Int) / 2 % 2))) rfl rfl Try.info_cmd (cc_one _) _ _ B4.out (by simp) (fun W hW => ⟨(LL.out.trans hW).setCells (Nat.le_refl _) _ _, (B6.out.later hW).apart _ (by omega) _ _⟩) ?_
  intro wl hl wz hz
  have BZ : Hid (Box wz w.heap.size 26 (cc (op, A, (C : Int), 0, ((Bn l 1 : Int) / 2 % 2)))) := by rw [hz.out]; exact (B4.out.later hl).all _ rfl
  have LZ : Hid (Later w wz) := by rw [hz.out]; exact (LL.out.trans hl).setCells (Nat.le_refl _) _ _
  clear hz hl e0 e1 e2 e3 e4
  iterate 1 (refine wpJ_mild rfl (fun K hK => ?_); go_simp; refine hK _ ?_; clear hK K)
  clear k1
  refine wpJ_nil (fun wn hn => ?_)
  replace BZ := hide (BZ.out.later hn)
  replace LZ := hide (LZ.out.trans hn)
  clear hn
  go_wp2
  refine bodyPost_ret (results_cell_tmp rfl _ _ _ w.heap.size 0 rfl _ (.bool ((Bn l 1 : Int) / 4 % 2 == 0)) (load_cmd (c := (op, A, (C : Int), 0, ((Bn l 1 : Int) / 2 % 2))) BZ.out rfl) (by rfl)) rfl ⟨by rw [HR.out], LZ.out⟩
set_option maxRecDepth 20000 in
set_option maxHeartbeats 1000000 in
theorem rblocks_16_1 (op : Int) (hk : classI op = 1) : IBlocks op 16 := by
  intro v l w h hl
  have HR : Hid (blocksS op l = lb true (op, bigAt l 2 8, (bigAt l 10 4 : Int), 0, ((Bn l 1 : Int) / 8 % 2))) := by
    rw [Hid, blocksS, hl, hk]; simp [okS6, bitsS]
  have HK := hide hk
  clear hk
  obtain ⟨b, off, cap, rfl, hc⟩ := h.cells6 hl (by omega)
  have HB := hide h
  have b1 := Bn_lt l 1
  have b2 := Bn_lt l 2
  have b3 := Bn_lt l 3
  have b4 := Bn_lt l 4
  have b8 := Bn_lt l 8
  have HC := hide hc
  clear hc h hl
  have z1 := wr_of (x := (Bn l 1 : Int)) (by omega)
  have z2 := wr_of (x := (Bn l 2 : Int)) (by omega)
  have z3 := wr_of (x := (Bn l 3 : Int)) (by omega)
  have z4 := wr_of (x := (Bn l 4 : Int)) (by omega)
  have z5 := wr_of (x := (Bn l 1 : Int) % 2) (by omega)
  have z6 := wr_of (x := (Bn l 2 : Int) % 64) (by omega)
  have z7 := wr_of (x := (Bn l 2 : Int) / 64) (by omega)
  have z8 := wr_of (x := (Bn l 4 : Int) % 4) (by omega)
  have v1 := wr8_of (x := (Bn l 1 : Int) / 16) (by omega)
  have v2 := wr8_of (x := (Bn l 2 : Int) / 64) (by omega)
  have v3 := wr8_of (x := (Bn l 1 : Int) / 8) (by omega)
  have v4 := wr8_of (x := (Bn l 1 : Int) / 4) (by omega)
  have v5 := wr8_of (x := (Bn l 1 : Int) / 2) (by omega)
  have m1 := tm2
  have m2 := tm4
  have m3 := tm32
  have m4 := tm64
  have m5 := td16
  have m6 := td64
  have m7 := tdm16
  have B4 := hide (((Box.new w 26 #[.int .i64 0, .int .u64 0, .int .i64 0, .int .i64 0, .int .i64 0])).alloc (.cells #[.int .i64 op, .int .u64 0, .int .i64 0, .int .i64 0, .int .i64 0] 26))
  have B6 := hide (Box.new' (w.alloc (.cells #[.int .i64 0, .int .u64 0, .int .i64 0, .int .i64 0, .int .i64 0] 26)) 26 #[.int .i64 op, .int .u64 0, .int .i64 0, .int .i64 0, .int .i64 0] _ rfl (w.heap.size + 1) (by simp))
  have LL := hide (((Later.refl w).alloc (.cells #[.int .i64 0, .int .u64 0, .int .i64 0, .int .i64 0, .int .i64 0] 26)).alloc (.cells #[.int .i64 op, .int .u64 0, .int .i64 0, .int .i64 0, .int .i64 0] 26))
  go_enter Try.func25, Try.ntmps25
  have m8 := td2
  have m9 := td4
  have m10 := td8
  have m11 := tdm2
  have m12 := tdm4
  have m13 := tdm8
  have y1 := wr_of (x := (Bn l 1 : Int) / 8 % 2) (by omega)
  have y2 := wr_of (x := (Bn l 1 : Int) / 2 % 2) (by omega)
  have zb := wr_of (x := (bigAt l 10 4 : Int)) (by have := bigAt_lt (l := l) (a := 10) (n := 4) 0 (by decide); omega)
  go_wp2_with fail
  generalize ((w.alloc (.cells #[.int .i64 0, .int .u64 0, .int .i64 0, .int .i64 0, .int .i64 0] 26)).alloc (.cells #[.int .i64 op, .int .u64 0, .int .i64 0, .int .i64 0, .int .i64 0] 26)) = w1 at *
  refine (rclass_c op _).mono ?_
  rintro e w2 ⟨rfl, hw⟩
  have hw2 := hw.symm
  subst hw2
  clear hw
  rw [HK.out]
  go_wp2_with fail
  refine (rbig6_c 2 8 _ (HB.out.later LL.out)).mono ?_
  rintro e w2 ⟨rfl, hl⟩
  replace B4 := hide (B4.out.later hl)
  replace B6 := hide (B6.out.later hl)
  replace LL := hide (LL.out.trans hl)
  clear hl
  go_wp2_with fail
  refine (rbig6_c 10 4 _ (HB.out.later LL.out)).mono ?_
  rintro e w2 ⟨rfl, hl⟩
  replace B4 := hide (B4.out.later hl)
  replace B6 := hide (B6.out.later hl)
  replace LL := hide (LL.out.trans hl)
  clear hl
  generalize bigAt l 2 8 = A at *
  generalize bigAt l 10 4 = C at *
  go_wp2_with (refine wpList_storeI rfl 24 (.tmp 50) (.tmp 46) rfl (w.heap.size + 1) 1 rfl .u64 (A : Int) rfl Try.info1_u64 _ _ B6.out (by simp) ?_)
  intro w2 hB hw
  replace B4 := hide (B4.out.apart (w.heap.size + 1) (by omega) [.int .u64 (A : Int)] 1)
  replace LL := hide (LL.out.setCells (g := w.heap.size + 1) (Nat.le_succ _) [.int .u64 (A : Int)] 1)
  rw [← hw.out] at B4 LL
  replace B6 : Hid (Box w2 (w.heap.size + 1) 26 (cc (op, A, 0, 0, 0))) := hB
  clear hB hw
  go_wp2_with (refine wpList_storeI rfl 3 (.tmp 51) (.tmp 49) rfl (w.heap.size + 1) 2 rfl .i64 (C : Int) rfl Try.info1_int _ _ B6.out (by simp) ?_)
  intro w2 hB hw
  replace B4 := hide (B4.out.apart (w.heap.size + 1) (by omega) [.int .i64 (C : Int)] 2)
  replace LL := hide (LL.out.setCells (g := w.heap.size + 1) (Nat.le_succ _) [.int .i64 (C : Int)] 2)
  rw [← hw.out] at B4 LL
  replace B6 : Hid (Box w2 (w.heap.size + 1) 26 (cc (op, A, (C : Int), 0, 0))) := hB
  clear hB hw
  have kk := HC.out 1 (by omega) _ LL.out
  go_wp2_with (refine wpList_storeI rfl 3 (.tmp 82) (.tmp 81) rfl (w.heap.size + 1) 4 rfl .i64 ((Bn l 1 : Int) / 8 % 2) rfl Try.info1_int _ _ B6.out (by simp) ?_)
  intro w2 hB hw
  replace B4 := hide (B4.out.apart (w.heap.size + 1) (by omega) [.int .i64 ((Bn l 1 : Int) / 8 % 2)] 4)
  replace LL := hide (LL.out.setCells (g := w.heap.size + 1) (Nat.le_succ _) [.int .i64 ((Bn l 1 : Int) / 8 % 2)] 4)
  rw [← hw.out] at B4 LL
  replace B6 : Hid (Box w2 (w.heap.size + 1) 26 (cc (op, A, (C : Int), 0, ((Bn l 1 : Int) / 8 % 2)))) := hB
  clear hB hw
  clear kk
  go_wp2_with fail
  refine wp_region_held (fun W => Later w W ∧ Box W (w.heap.size + 1) 26 (cc (op, A, (C : Int), 0, ((Bn l 1 : Int) / 8 % 2)))) (fun a b hl h => ⟨h.1.trans hl, h.2.later hl⟩) ⟨LL.out, B6.out⟩ [(0, false), (1, false), (2, false), (3, false), (4, false), (5, false), (6, false), (7, false), (8, false), (9, false), (10, false), (11, true), (12, false)] (by kernel_rfl) (by kernel_rfl) (by kernel_rfl) (by kernel_rfl) ?_
  haveI : Nonempty (Held (fun W => Later w W ∧ Box W (w.heap.size + 1) 26 (cc (op, A, (C : Int), 0, ((Bn l 1 : Int) / 8 % 2))))) := ⟨⟨_, LL.out, B6.out⟩⟩
  have k1 := fun p : Held (fun W => Later w W ∧ Box W (w.heap.size + 1) 26 (cc (op, A, (C : Int), 0, ((Bn l 1 : Int) / 8 % 2)))) => HC.out 1 (by omega) _ p.h.1
  have e0 := fun p : Held (fun W => Later w W ∧ Box W (w.heap.size + 1) 26 (cc (op, A, (C : Int), 0, ((Bn l 1 : Int) / 8 % 2)))) => p.h.2.cell 0
  have e1 := fun p : Held (fun W => Later w W ∧ Box W (w.heap.size + 1) 26 (cc (op, A, (C : Int), 0, ((Bn l 1 : Int) / 8 % 2)))) => p.h.2.cell 1
  have e2 := fun p : Held (fun W => Later w W ∧ Box W (w.heap.size + 1) 26 (cc (op, A, (C : Int), 0, ((Bn l 1 : Int) / 8 % 2)))) => p.h.2.cell 2
  have e3 := fun p : Held (fun W => Later w W ∧ Box W (w.heap.size + 1) 26 (cc (op, A, (C : Int), 0, ((Bn l 1 : Int) / 8 % 2)))) => p.h.2.cell 3
  have e4 := fun p : Held (fun W => Later w W ∧ Box W (w.heap.size + 1) 26 (cc (op, A, (C : Int), 0, ((Bn l 1 : Int) / 8 % 2)))) => p.h.2.cell 4
  replace B4 := hide (B4.out.later (Later.refl _).drew)
  replace B6 := hide (B6.out.later (Later.refl _).drew)
  replace LL := hide (LL.out.trans (Later.refl _).drew)
  iterate 11 (refine wpJ_mild rfl (fun K hK => ?_); go_simp; refine hK _ ?_; clear hK K)
  refine wpJ_store rfl rfl 26 (.tmp 4) (.tmp 92) rfl w.heap.size (cc (op, A, (C : Int), 0, ((Bn l 1 : Int) / 8 % 2))) rfl rfl Try.info_cmd (cc_one _) _ _ B4.out (by simp) (fun W hW => ⟨(LL.out.trans hW).setCells (Nat.le_refl _) _ _, (B6.out.later hW).apart _ (by omega) _ _⟩) ?_
  intro wl hl wz hz
  have BZ : Hid (Box wz w.heap.size 26 (cc (op, A, (C : Int), 0, ((Bn l 1 : Int) / 8 % 2)))) := by rw [hz.out]; exact (B4.out.later hl).all _ rfl
  have LZ : Hid (Later w wz) := by rw [hz.out]; exact (LL.out.trans hl).setCells (Nat.le_refl _) _ _
  clear hz hl e0 e1 e2 e3 e4
  iterate 1 (refine wpJ_mild rfl (fun K hK => ?_); go_simp; refine hK _ ?_; clear hK K)
  clear k1
  refine wpJ_nil (fun wn hn => ?_)
  replace BZ := hide (BZ.out.later hn)
  replace LZ := hide (LZ.out.trans hn)
  clear hn
  go_wp2
  refine bodyPost_ret (results_cell_tmp rfl _ _ _ w.heap.size 0 rfl _ (.bool true) (load_cmd (c := (op, A, (C : Int), 0, ((Bn l 1 : Int) / 8 % 2))) BZ.out rfl) (by rfl)) rfl ⟨by rw [HR.out], LZ.out⟩
set_option maxRecDepth 20000 in
set_option maxHeartbeats 1000000 in
theorem rblocks_16_2 (op : Int) (hk : classI op = 2) : IBlocks op 16 := by
  intro v l w h hl
  have HR : Hid (blocksS op l = lb true (op, bigAt l 2 8, (bigAt l 10 4 : Int), 0, ((Bn l 1 : Int) / 8 % 2))) := by
    rw [Hid, blocksS, hl, hk]; simp [okS6, bitsS]
  have HK := hide hk
  clear hk
  obtain ⟨b, off, cap, rfl, hc⟩ := h.cells6 hl (by omega)
  have HB := hide h
  have b1 := Bn_lt l 1
  have b2 := Bn_lt l 2
  have b3 := Bn_lt l 3
  have b4 := Bn_lt l 4
  have b8 := Bn_lt l 8
  have HC := hide hc
  clear hc h hl
  have z1 := wr_of (x := (Bn l 1 : Int)) (by omega)
  have z2 := wr_of (x := (Bn l 2 : Int)) (by omega)
  have z3 := wr_of (x := (Bn l 3 : Int)) (by omega)
  have z4 := wr_of (x := (Bn l 4 : Int)) (by omega)
  have z5 := wr_of (x := (Bn l 1 : Int) % 2) (by omega)
  have z6 := wr_of (x := (Bn l 2 : Int) % 64) (by omega)
  have z7 := wr_of (x := (Bn l 2 : Int) / 64) (by omega)
  have z8 := wr_of (x := (Bn l 4 : Int) % 4) (by omega)
  have v1 := wr8_of (x := (Bn l 1 : Int) / 16) (by omega)
  have v2 := wr8_of (x := (Bn l 2 : Int) / 64) (by omega)
  have v3 := wr8_of (x := (Bn l 1 : Int) / 8) (by omega)
  have v4 := wr8_of (x := (Bn l 1 : Int) / 4) (by omega)
  have v5 := wr8_of (x := (Bn l 1 : Int) / 2) (by omega)
  have m1 := tm2
  have m2 := tm4
  have m3 := tm32
  have m4 := tm64
  have m5 := td16
  have m6 := td64
  have m7 := tdm16
  have B4 := hide (((Box.new w 26 #[.int .i64 0, .int .u64 0, .int .i64 0, .int .i64 0, .int .i64 0])).alloc (.cells #[.int .i64 op, .int .u64 0, .int .i64 0, .int .i64 0, .int .i64 0] 26))
  have B6 := hide (Box.new' (w.alloc (.cells #[.int .i64 0, .int .u64 0, .int .i64 0, .int .i64 0, .int .i64 0] 26)) 26 #[.int .i64 op, .int .u64 0, .int .i64 0, .int .i64 0, .int .i64 0] _ rfl (w.heap.size + 1) (by simp))
  have LL := hide (((Later.refl w).alloc (.cells #[.int .i64 0, .int .u64 0, .int .i64 0, .int .i64 0, .int .i64 0] 26)).alloc (.cells #[.int .i64 op, .int .u64 0, .int .i64 0, .int .i64 0, .int .i64 0] 26))
  go_enter Try.func25, Try.ntmps25
  have m8 := td2
  have m9 := td4
  have m10 := td8
  have m11 := tdm2
  have m12 := tdm4
  have m13 := tdm8
  have y1 := wr_of (x := (Bn l 1 : Int) / 8 % 2) (by omega)
  have y2 := wr_of (x := (Bn l 1 : Int) / 2 % 2) (by omega)
  have zb := wr_of (x := (bigAt l 10 4 : Int)) (by have := bigAt_lt (l := l) (a := 10) (n := 4) 0 (by decide); omega)
  go_wp2_with fail
  generalize ((w.alloc (.cells #[.int .i64 0, .int .u64 0, .int .i64 0, .int .i64 0, .int .i64 0] 26)).alloc (.cells #[.int .i64 op, .int .u64 0, .int .i64 0, .int .i64 0, .int .i64 0] 26)) = w1 at *
  refine (rclass_c op _).mono ?_
  rintro e w2 ⟨rfl, hw⟩
  have hw2 := hw.symm
  subst hw2
  clear hw
  rw [HK.out]
  go_wp2_with fail
  refine (rbig6_c 2 8 _ (HB.out.later LL.out)).mono ?_
  rintro e w2 ⟨rfl, hl⟩
  replace B4 := hide (B4.out.later hl)
  replace B6 := hide (B6.out.later hl)
  replace LL := hide (LL.out.trans hl)
  clear hl
  go_wp2_with fail
  refine (rbig6_c 10 4 _ (HB.out.later LL.out)).mono ?_
  rintro e w2 ⟨rfl, hl⟩
  replace B4 := hide (B4.out.later hl)
  replace B6 := hide (B6.out.later hl)
  replace LL := hide (LL.out.trans hl)
  clear hl
  generalize bigAt l 2 8 = A at *
  generalize bigAt l 10 4 = C at *
  go_wp2_with (refine wpList_storeI rfl 24 (.tmp 50) (.tmp 46) rfl (w.heap.size + 1) 1 rfl .u64 (A : Int) rfl Try.info1_u64 _ _ B6.out (by simp) ?_)
  intro w2 hB hw
  replace B4 := hide (B4.out.apart (w.heap.size + 1) (by omega) [.int .u64 (A : Int)] 1)
  replace LL := hide (LL.out.setCells (g := w.heap.size + 1) (Nat.le_succ _) [.int .u64 (A : Int)] 1)
  rw [← hw.out] at B4 LL
  replace B6 : Hid (Box w2 (w.heap.size + 1) 26 (cc (op, A, 0, 0, 0))) := hB
  clear hB hw
  go_wp2_with (refine wpList_storeI rfl 3 (.tmp 51) (.tmp 49) rfl (w.heap.size + 1) 2 rfl .i64 (C : Int) rfl Try.info1_int _ _ B6.out (by simp) ?_)
  intro w2 hB hw
  replace B4 := hide (B4.out.apart (w.heap.size + 1) (by omega) [.int .i64 (C : Int)] 2)
  replace LL := hide (LL.out.setCells (g := w.heap.size + 1) (Nat.le_succ _) [.int .i64 (C : Int)] 2)
  rw [← hw.out] at B4 LL
  replace B6 : Hid (Box w2 (w.heap.size + 1) 26 (cc (op, A, (C : Int), 0, 0))) := hB
  clear hB hw
  have kk := HC.out 1 (by omega) _ LL.out
  go_wp2_with (refine wpList_storeI rfl 3 (.tmp 82) (.tmp 81) rfl (w.heap.size + 1) 4 rfl .i64 ((Bn l 1 : Int) / 8 % 2) rfl Try.info1_int _ _ B6.out (by simp) ?_)
  intro w2 hB hw
  replace B4 := hide (B4.out.apart (w.heap.size + 1) (by omega) [.int .i64 ((Bn l 1 : Int) / 8 % 2)] 4)
  replace LL := hide (LL.out.setCells (g := w.heap.size + 1) (Nat.le_succ _) [.int .i64 ((Bn l 1 : Int) / 8 % 2)] 4)
  rw [← hw.out] at B4 LL
  replace B6 : Hid (Box w2 (w.heap.size + 1) 26 (cc (op, A, (C : Int), 0, ((Bn l 1 : Int) / 8 % 2)))) := hB
  clear hB hw
  clear kk
  go_wp2_with fail
  refine wp_region_held (fun W => Later w W ∧ Box W (w.heap.size + 1) 26 (cc (op, A, (C : Int), 0, ((Bn l 1 : Int) / 8 % 2)))) (fun a b hl h => ⟨h.1.trans hl, h.2.later hl⟩) ⟨LL.out, B6.out⟩ [(0, false), (1, false), (2, false), (3, false), (4, false), (5, false), (6, false), (7, false), (8, false), (9, false), (10, false), (11, true), (12, false)] (by kernel_rfl) (by kernel_rfl) (by kernel_rfl) (by kernel_rfl) ?_
  haveI : Nonempty (Held (fun W => Later w W ∧ Box W (w.heap.size + 1) 26 (cc (op, A, (C : Int), 0, ((Bn l 1 : Int) / 8 % 2))))) := ⟨⟨_, LL.out, B6.out⟩⟩
  have k1 := fun p : Held (fun W => Later w W ∧ Box W (w.heap.size + 1) 26 (cc (op, A, (C : Int), 0, ((Bn l 1 : Int) / 8 % 2)))) => HC.out 1 (by omega) _ p.h.1
  have e0 := fun p : Held (fun W => Later w W ∧ Box W (w.heap.size + 1) 26 (cc (op, A, (C : Int), 0, ((Bn l 1 : Int) / 8 % 2)))) => p.h.2.cell 0
  have e1 := fun p : Held (fun W => Later w W ∧ Box W (w.heap.size + 1) 26 (cc (op, A, (C : Int), 0, ((Bn l 1 : Int) / 8 % 2)))) => p.h.2.cell 1
  have e2 := fun p : Held (fun W => Later w W ∧ Box W (w.heap.size + 1) 26 (cc (op, A, (C : Int), 0, ((Bn l 1 : Int) / 8 % 2)))) => p.h.2.cell 2
  have e3 := fun p : Held (fun W => Later w W ∧ Box W (w.heap.size + 1) 26 (cc (op, A, (C : Int), 0, ((Bn l 1 : Int) / 8 % 2)))) => p.h.2.cell 3
  have e4 := fun p : Held (fun W => Later w W ∧ Box W (w.heap.size + 1) 26 (cc (op, A, (C : Int), 0, ((Bn l 1 : Int) / 8 % 2)))) => p.h.2.cell 4
  replace B4 := hide (B4.out.later (Later.refl _).drew)
  replace B6 := hide (B6.out.later (Later.refl _).drew)
  replace LL := hide (LL.out.trans (Later.refl _).drew)
  iterate 11 (refine wpJ_mild rfl (fun K hK => ?_); go_simp; refine hK _ ?_; clear hK K)
  refine wpJ_store rfl rfl 26 (.tmp 4) (.tmp 92) rfl w.heap.size (cc (op, A, (C : Int), 0, ((Bn l 1 : Int) / 8 % 2))) rfl rfl Try.info_cmd (cc_one _) _ _ B4.out (by simp) (fun W hW => ⟨(LL.out.trans hW).setCells (Nat.le_refl _) _ _, (B6.out.later hW).apart _ (by omega) _ _⟩) ?_
  intro wl hl wz hz
  have BZ : Hid (Box wz w.heap.size 26 (cc (op, A, (C : Int), 0, ((Bn l 1 : Int) / 8 % 2)))) := by rw [hz.out]; exact (B4.out.later hl).all _ rfl
  have LZ : Hid (Later w wz) := by rw [hz.out]; exact (LL.out.trans hl).setCells (Nat.le_refl _) _ _
  clear hz hl e0 e1 e2 e3 e4
  iterate 1 (refine wpJ_mild rfl (fun K hK => ?_); go_simp; refine hK _ ?_; clear hK K)
  clear k1
  refine wpJ_nil (fun wn hn => ?_)
  replace BZ := hide (BZ.out.later hn)
  replace LZ := hide (LZ.out.trans hn)
  clear hn
  go_wp2
  refine bodyPost_ret (results_cell_tmp rfl _ _ _ w.heap.size 0 rfl _ (.bool true) (load_cmd (c := (op, A, (C : Int), 0, ((Bn l 1 : Int) / 8 % 2))) BZ.out rfl) (by rfl)) rfl ⟨by rw [HR.out], LZ.out⟩
set_option maxRecDepth 20000 in
set_option maxHeartbeats 1000000 in
theorem rblocks_16_3 (op : Int) (hk : classI op = 3) : IBlocks op 16 := by
  intro v l w h hl
  have HR : Hid (blocksS op l = lb ((Bn l 1 : Int) / 4 % 2 == 0) (op, bigAt l 2 8, (bigAt l 10 4 : Int), 0, ((Bn l 1 : Int) / 2 % 2))) := by
    rw [Hid, blocksS, hl, hk]; simp [okS6, bitsS]
  have HK := hide hk
  clear hk
  obtain ⟨b, off, cap, rfl, hc⟩ := h.cells6 hl (by omega)
  have HB := hide h
  have b1 := Bn_lt l 1
  have b2 := Bn_lt l 2
  have b3 := Bn_lt l 3
  have b4 := Bn_lt l 4
  have b8 := Bn_lt l 8
  have HC := hide hc
  clear hc h hl
  have z1 := wr_of (x := (Bn l 1 : Int)) (by omega)
  have z2 := wr_of (x := (Bn l 2 : Int)) (by omega)
  have z3 := wr_of (x := (Bn l 3 : Int)) (by omega)
  have z4 := wr_of (x := (Bn l 4 : Int)) (by omega)
  have z5 := wr_of (x := (Bn l 1 : Int) % 2) (by omega)
  have z6 := wr_of (x := (Bn l 2 : Int) % 64) (by omega)
  have z7 := wr_of (x := (Bn l 2 : Int) / 64) (by omega)
  have z8 := wr_of (x := (Bn l 4 : Int) % 4) (by omega)
  have v1 := wr8_of (x := (Bn l 1 : Int) / 16) (by omega)
  have v2 := wr8_of (x := (Bn l 2 : Int) / 64) (by omega)
  have v3 := wr8_of (x := (Bn l 1 : Int) / 8) (by omega)
  have v4 := wr8_of (x := (Bn l 1 : Int) / 4) (by omega)
  have v5 := wr8_of (x := (Bn l 1 : Int) / 2) (by omega)
  have m1 := tm2
  have m2 := tm4
  have m3 := tm32
  have m4 := tm64
  have m5 := td16
  have m6 := td64
  have m7 := tdm16
  have B4 := hide (((Box.new w 26 #[.int .i64 0, .int .u64 0, .int .i64 0, .int .i64 0, .int .i64 0])).alloc (.cells #[.int .i64 op, .int .u64 0, .int .i64 0, .int .i64 0, .int .i64 0] 26))
  have B6 := hide (Box.new' (w.alloc (.cells #[.int .i64 0, .int .u64 0, .int .i64 0, .int .i64 0, .int .i64 0] 26)) 26 #[.int .i64 op, .int .u64 0, .int .i64 0, .int .i64 0, .int .i64 0] _ rfl (w.heap.size + 1) (by simp))
  have LL := hide (((Later.refl w).alloc (.cells #[.int .i64 0, .int .u64 0, .int .i64 0, .int .i64 0, .int .i64 0] 26)).alloc (.cells #[.int .i64 op, .int .u64 0, .int .i64 0, .int .i64 0, .int .i64 0] 26))
  go_enter Try.func25, Try.ntmps25
  have m8 := td2
  have m9 := td4
  have m10 := td8
  have m11 := tdm2
  have m12 := tdm4
  have m13 := tdm8
  have y1 := wr_of (x := (Bn l 1 : Int) / 8 % 2) (by omega)
  have y2 := wr_of (x := (Bn l 1 : Int) / 2 % 2) (by omega)
  have zb := wr_of (x := (bigAt l 10 4 : Int)) (by have := bigAt_lt (l := l) (a := 10) (n := 4) 0 (by decide); omega)
  go_wp2_with fail
  generalize ((w.alloc (.cells #[.int .i64 0, .int .u64 0, .int .i64 0, .int .i64 0, .int .i64 0] 26)).alloc (.cells #[.int .i64 op, .int .u64 0, .int .i64 0, .int .i64 0, .int .i64 0] 26)) = w1 at *
  refine (rclass_c op _).mono ?_
  rintro e w2 ⟨rfl, hw⟩
  have hw2 := hw.symm
  subst hw2
  clear hw
  rw [HK.out]
  go_wp2_with fail
  refine (rbig6_c 2 8 _ (HB.out.later LL.out)).mono ?_
  rintro e w2 ⟨rfl, hl⟩
  replace B4 := hide (B4.out.later hl)
  replace B6 := hide (B6.out.later hl)
  replace LL := hide (LL.out.trans hl)
  clear hl
  go_wp2_with fail
  refine (rbig6_c 10 4 _ (HB.out.later LL.out)).mono ?_
  rintro e w2 ⟨rfl, hl⟩
  replace B4 := hide (B4.out.later hl)
  replace B6 := hide (B6.out.later hl)
  replace LL := hide (LL.out.trans hl)
  clear hl
  generalize bigAt l 2 8 = A at *
  generalize bigAt l 10 4 = C at *
  go_wp2_with (refine wpList_storeI rfl 24 (.tmp 50) (.tmp 46) rfl (w.heap.size + 1) 1 rfl .u64 (A : Int) rfl Try.info1_u64 _ _ B6.out (by simp) ?_)
  intro w2 hB hw
  replace B4 := hide (B4.out.apart (w.heap.size + 1) (by omega) [.int .u64 (A : Int)] 1)
  replace LL := hide (LL.out.setCells (g := w.heap.size + 1) (Nat.le_succ _) [.int .u64 (A : Int)] 1)
  rw [← hw.out] at B4 LL
  replace B6 : Hid (Box w2 (w.heap.size + 1) 26 (cc (op, A, 0, 0, 0))) := hB
  clear hB hw
  go_wp2_with (refine wpList_storeI rfl 3 (.tmp 51) (.tmp 49) rfl (w.heap.size + 1) 2 rfl .i64 (C : Int) rfl Try.info1_int _ _ B6.out (by simp) ?_)
  intro w2 hB hw
  replace B4 := hide (B4.out.apart (w.heap.size + 1) (by omega) [.int .i64 (C : Int)] 2)
  replace LL := hide (LL.out.setCells (g := w.heap.size + 1) (Nat.le_succ _) [.int .i64 (C : Int)] 2)
  rw [← hw.out] at B4 LL
  replace B6 : Hid (Box w2 (w.heap.size + 1) 26 (cc (op, A, (C : Int), 0, 0))) := hB
  clear hB hw
  have kk := HC.out 1 (by omega) _ LL.out
  go_wp2_with (refine wpList_storeI rfl 3 (.tmp 91) (.tmp 90) rfl (w.heap.size + 1) 4 rfl .i64 ((Bn l 1 : Int) / 2 % 2) rfl Try.info1_int _ _ B6.out (by simp) ?_)
  intro w2 hB hw
  replace B4 := hide (B4.out.apart (w.heap.size + 1) (by omega) [.int .i64 ((Bn l 1 : Int) / 2 % 2)] 4)
  replace LL := hide (LL.out.setCells (g := w.heap.size + 1) (Nat.le_succ _) [.int .i64 ((Bn l 1 : Int) / 2 % 2)] 4)
  rw [← hw.out] at B4 LL
  replace B6 : Hid (Box w2 (w.heap.size + 1) 26 (cc (op, A, (C : Int), 0, ((Bn l 1 : Int) / 2 % 2)))) := hB
  clear hB hw
  clear kk
  go_wp2_with fail
  refine wp_region_held (fun W => Later w W ∧ Box W (w.heap.size + 1) 26 (cc (op, A, (C : Int), 0, ((Bn l 1 : Int) / 2 % 2)))) (fun a b hl h => ⟨h.1.trans hl, h.2.later hl⟩) ⟨LL.out, B6.out⟩ [(0, false), (1, false), (2, false), (3, false), (4, false), (5, false), (6, false), (7, false), (8, false), (9, false), (10, false), (11, true), (12, false)] (by kernel_rfl) (by kernel_rfl) (by kernel_rfl) (by kernel_rfl) ?_
  haveI : Nonempty (Held (fun W => Later w W ∧ Box W (w.heap.size + 1) 26 (cc (op, A, (C : Int), 0, ((Bn l 1 : Int) / 2 % 2))))) := ⟨⟨_, LL.out, B6.out⟩⟩
  have k1 := fun p : Held (fun W => Later w W ∧ Box W (w.heap.size + 1) 26 (cc (op, A, (C : Int), 0, ((Bn l 1 : Int) / 2 % 2)))) => HC.out 1 (by omega) _ p.h.1
  have e0 := fun p : Held (fun W => Later w W ∧ Box W (w.heap.size + 1) 26 (cc (op, A, (C : Int), 0, ((Bn l 1 : Int) / 2 % 2)))) => p.h.2.cell 0
  have e1 := fun p : Held (fun W => Later w W ∧ Box W (w.heap.size + 1) 26 (cc (op, A, (C : Int), 0, ((Bn l 1 : Int) / 2 % 2)))) => p.h.2.cell 1
  have e2 := fun p : Held (fun W => Later w W ∧ Box W (w.heap.size + 1) 26 (cc (op, A, (C : Int), 0, ((Bn l 1 : Int) / 2 % 2)))) => p.h.2.cell 2
  have e3 := fun p : Held (fun W => Later w W ∧ Box W (w.heap.size + 1) 26 (cc (op, A, (C : Int), 0, ((Bn l 1 : Int) / 2 % 2)))) => p.h.2.cell 3
  have e4 := fun p : Held (fun W => Later w W ∧ Box W (w.heap.size + 1) 26 (cc (op, A, (C : Int), 0, ((Bn l 1 : Int) / 2 % 2)))) => p.h.2.cell 4
  replace B4 := hide (B4.out.later (Later.refl _).drew)
  replace B6 := hide (B6.out.later (Later.refl _).drew)
  replace LL := hide (LL.out.trans (Later.refl _).drew)
  iterate 11 (refine wpJ_mild rfl (fun K hK => ?_); go_simp; refine hK _ ?_; clear hK K)
  refine wpJ_store rfl rfl 26 (.tmp 4) (.tmp 92) rfl w.heap.size (cc (op, A, (C : Int), 0, ((Bn l 1 : Int) / 2 % 2))) rfl rfl Try.info_cmd (cc_one _) _ _ B4.out (by simp) (fun W hW => ⟨(LL.out.trans hW).setCells (Nat.le_refl _) _ _, (B6.out.later hW).apart _ (by omega) _ _⟩) ?_
  intro wl hl wz hz
  have BZ : Hid (Box wz w.heap.size 26 (cc (op, A, (C : Int), 0, ((Bn l 1 : Int) / 2 % 2)))) := by rw [hz.out]; exact (B4.out.later hl).all _ rfl
  have LZ : Hid (Later w wz) := by rw [hz.out]; exact (LL.out.trans hl).setCells (Nat.le_refl _) _ _
  clear hz hl e0 e1 e2 e3 e4
  iterate 1 (refine wpJ_mild rfl (fun K hK => ?_); go_simp; refine hK _ ?_; clear hK K)
  clear k1
  refine wpJ_nil (fun wn hn => ?_)
  replace BZ := hide (BZ.out.later hn)
  replace LZ := hide (LZ.out.trans hn)
  clear hn
  go_wp2
  refine bodyPost_ret (results_cell_tmp rfl _ _ _ w.heap.size 0 rfl _ (.bool ((Bn l 1 : Int) / 4 % 2 == 0)) (load_cmd (c := (op, A, (C : Int), 0, ((Bn l 1 : Int) / 2 % 2))) BZ.out rfl) (by rfl)) rfl ⟨by rw [HR.out], LZ.out⟩
set_option maxRecDepth 20000 in
set_option maxHeartbeats 1000000 in
theorem rblocks_16_4 (op : Int) (hk : classI op = 4) : IBlocks op 16 := by
  intro v l w h hl
  have HR : Hid (blocksS op l = lb true (op, bigAt l 2 8, (bigAt l 10 4 : Int), 0, 0)) := by
    rw [Hid, blocksS, hl, hk]; simp [okS6, bitsS]
  have HK := hide hk
  clear hk
  obtain ⟨b, off, cap, rfl, hc⟩ := h.cells6 hl (by omega)
  have HB := hide h
  have b1 := Bn_lt l 1
  have b2 := Bn_lt l 2
  have b3 := Bn_lt l 3
  have b4 := Bn_lt l 4
  have b8 := Bn_lt l 8
  have HC := hide hc
  clear hc h hl
  have z1 := wr_of (x := (Bn l 1 : Int)) (by omega)
  have z2 := wr_of (x := (Bn l 2 : Int)) (by omega)
  have z3 := wr_of (x := (Bn l 3 : Int)) (by omega)
  have z4 := wr_of (x := (Bn l 4 : Int)) (by omega)
  have z5 := wr_of (x := (Bn l 1 : Int) % 2) (by omega)
  have z6 := wr_of (x := (Bn l 2 : Int) % 64) (by omega)
  have z7 := wr_of (x := (Bn l 2 : Int) / 64) (by omega)
  have z8 := wr_of (x := (Bn l 4 : Int) % 4) (by omega)
  have v1 := wr8_of (x := (Bn l 1 : Int) / 16) (by omega)
  have v2 := wr8_of (x := (Bn l 2 : Int) / 64) (by omega)
  have v3 := wr8_of (x := (Bn l 1 : Int) / 8) (by omega)
  have v4 := wr8_of (x := (Bn l 1 : Int) / 4) (by omega)
  have v5 := wr8_of (x := (Bn l 1 : Int) / 2) (by omega)
  have m1 := tm2
  have m2 := tm4
  have m3 := tm32
  have m4 := tm64
  have m5 := td16
  have m6 := td64
  have m7 := tdm16
  have B4 := hide (((Box.new w 26 #[.int .i64 0, .int .u64 0, .int .i64 0, .int .i64 0, .int .i64 0])).alloc (.cells #[.int .i64 op, .int .u64 0, .int .i64 0, .int .i64 0, .int .i64 0] 26))
  have B6 := hide (Box.new' (w.alloc (.cells #[.int .i64 0, .int .u64 0, .int .i64 0, .int .i64 0, .int .i64 0] 26)) 26 #[.int .i64 op, .int .u64 0, .int .i64 0, .int .i64 0, .int .i64 0] _ rfl (w.heap.size + 1) (by simp))
  have LL := hide (((Later.refl w).alloc (.cells #[.int .i64 0, .int .u64 0, .int .i64 0, .int .i64 0, .int .i64 0] 26)).alloc (.cells #[.int .i64 op, .int .u64 0, .int .i64 0, .int .i64 0, .int .i64 0] 26))
  go_enter Try.func25, Try.ntmps25
  have m8 := td2
  have m9 := td4
  have m10 := td8
  have m11 := tdm2
  have m12 := tdm4
  have m13 := tdm8
  have y1 := wr_of (x := (Bn l 1 : Int) / 8 % 2) (by omega)
  have y2 := wr_of (x := (Bn l 1 : Int) / 2 % 2) (by omega)
  have zb := wr_of (x := (bigAt l 10 4 : Int)) (by have := bigAt_lt (l := l) (a := 10) (n := 4) 0 (by decide); omega)
  go_wp2_with fail
  generalize ((w.alloc (.cells #[.int .i64 0, .int .u64 0, .int .i64 0, .int .i64 0, .int .i64 0] 26)).alloc (.cells #[.int .i64 op, .int .u64 0, .int .i64 0, .int .i64 0, .int .i64 0] 26)) = w1 at *
  refine (rclass_c op _).mono ?_
  rintro e w2 ⟨rfl, hw⟩
  have hw2 := hw.symm
  subst hw2
  clear hw
  rw [HK.out]
  go_wp2_with fail
  refine (rbig6_c 2 8 _ (HB.out.later LL.out)).mono ?_
  rintro e w2 ⟨rfl, hl⟩
  replace B4 := hide (B4.out.later hl)
  replace B6 := hide (B6.out.later hl)
  replace LL := hide (LL.out.trans hl)
  clear hl
  go_wp2_with fail
  refine (rbig6_c 10 4 _ (HB.out.later LL.out)).mono ?_
  rintro e w2 ⟨rfl, hl⟩
  replace B4 := hide (B4.out.later hl)
  replace B6 := hide (B6.out.later hl)
  replace LL := hide (LL.out.trans hl)
  clear hl
  generalize bigAt l 2 8 = A at *
  generalize bigAt l 10 4 = C at *
  go_wp2_with (refine wpList_storeI rfl 24 (.tmp 50) (.tmp 46) rfl (w.heap.size + 1) 1 rfl .u64 (A : Int) rfl Try.info1_u64 _ _ B6.out (by simp) ?_)
  intro w2 hB hw
  replace B4 := hide (B4.out.apart (w.heap.size + 1) (by omega) [.int .u64 (A : Int)] 1)
  replace LL := hide (LL.out.setCells (g := w.heap.size + 1) (Nat.le_succ _) [.int .u64 (A : Int)] 1)
  rw [← hw.out] at B4 LL
  replace B6 : Hid (Box w2 (w.heap.size + 1) 26 (cc (op, A, 0, 0, 0))) := hB
  clear hB hw
  go_wp2_with (refine wpList_storeI rfl 3 (.tmp 51) (.tmp 49) rfl (w.heap.size + 1) 2 rfl .i64 (C : Int) rfl Try.info1_int _ _ B6.out (by simp) ?_)
  intro w2 hB hw
  replace B4 := hide (B4.out.apart (w.heap.size + 1) (by omega) [.int .i64 (C : Int)] 2)
  replace LL := hide (LL.out.setCells (g := w.heap.size + 1) (Nat.le_succ _) [.int .i64 (C : Int)] 2)
  rw [← hw.out] at B4 LL
  replace B6 : Hid (Box w2 (w.heap.size + 1) 26 (cc (op, A, (C : Int), 0, 0))) := hB
  clear hB hw
  have kk := HC.out 1 (by omega) _ LL.out
  clear kk
  go_wp2_with fail
  refine wp_region_held (fun W => Later w W ∧ Box W (w.heap.size + 1) 26 (cc (op, A, (C : Int), 0, 0))) (fun a b hl h => ⟨h.1.trans hl, h.2.later hl⟩) ⟨LL.out, B6.out⟩ [(0, false), (1, false), (2, false), (3, false), (4, false), (5, false), (6, false), (7, false), (8, false), (9, false), (10, false), (11, true), (12, false)] (by kernel_rfl) (by kernel_rfl) (by kernel_rfl) (by kernel_rfl) ?_
  haveI : Nonempty (Held (fun W => Later w W ∧ Box W (w.heap.size + 1) 26 (cc (op, A, (C : Int), 0, 0)))) := ⟨⟨_, LL.out, B6.out⟩⟩
  have k1 := fun p : Held (fun W => Later w W ∧ Box W (w.heap.size + 1) 26 (cc (op, A, (C : Int), 0, 0))) => HC.out 1 (by omega) _ p.h.1
  have e0 := fun p : Held (fun W => Later w W ∧ Box W (w.heap.size + 1) 26 (cc (op, A, (C : Int), 0, 0))) => p.h.2.cell 0
  have e1 := fun p : Held (fun W => Later w W ∧ Box W (w.heap.size + 1) 26 (cc (op, A, (C : Int), 0, 0))) => p.h.2.cell 1
  have e2 := fun p : Held (fun W => Later w W ∧ Box W (w.heap.size + 1) 26 (cc (op, A, (C : Int), 0, 0))) => p.h.2.cell 2
  have e3 := fun p : Held (fun W => Later w W ∧ Box W (w.heap.size + 1) 26 (cc (op, A, (C : Int), 0, 0))) => p.h.2.cell 3
  have e4 := fun p : Held (fun W => Later w W ∧ Box W (w.heap.size + 1) 26 (cc (op, A, (C : Int), 0, 0))) => p.h.2.cell 4
  replace B4 := hide (B4.out.later (Later.refl _).drew)
  replace B6 := hide (B6.out.later (Later.refl _).drew)
  replace LL := hide (LL.out.trans (Later.refl _).drew)
  iterate 11 (refine wpJ_mild rfl (fun K hK => ?_); go_simp; refine hK _ ?_; clear hK K)
  refine wpJ_store rfl rfl 26 (.tmp 4) (.tmp 92) rfl w.heap.size (cc (op, A, (C : Int), 0, 0)) rfl rfl Try.info_cmd (cc_one _) _ _ B4.out (by simp) (fun W hW => ⟨(LL.out.trans hW).setCells (Nat.le_refl _) _ _, (B6.out.later hW).apart _ (by omega) _ _⟩) ?_
  intro wl hl wz hz
  have BZ : Hid (Box wz w.heap.size 26 (cc (op, A, (C : Int), 0, 0))) := by rw [hz.out]; exact (B4.out.later hl).all _ rfl
  have LZ : Hid (Later w wz) := by rw [hz.out]; exact (LL.out.trans hl).setCells (Nat.le_refl _) _ _
  clear hz hl e0 e1 e2 e3 e4
  iterate 1 (refine wpJ_mild rfl (fun K hK => ?_); go_simp; refine hK _ ?_; clear hK K)
  clear k1
  refine wpJ_nil (fun wn hn => ?_)
  replace BZ := hide (BZ.out.later hn)
  replace LZ := hide (LZ.out.trans hn)
  clear hn
  go_wp2
  refine bodyPost_ret (results_cell_tmp rfl _ _ _ w.heap.size 0 rfl _ (.bool true) (load_cmd (c := (op, A, (C : Int), 0, 0)) BZ.out rfl) (by rfl)) rfl ⟨by rw [HR.out], LZ.out⟩
end Go.Proofs.Ytccdgpadjfjoeaa
