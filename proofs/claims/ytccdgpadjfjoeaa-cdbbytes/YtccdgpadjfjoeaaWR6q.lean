import Derived.Test.YtccdgpadjfjoeaaMAS
namespace Go.Proofs.Ytccdgpadjfjoeaa
open Go.ChangeShapes Go.WideShapes Go.ChangeAt Go.RowKit
set_option linter.unusedVariables false
set_option linter.unusedSimpArgs false

set_option maxRecDepth 20000 in
set_option maxHeartbeats 2000000 in
theorem rbytes_26x (a n2 n3 n4 : Nat) (ha : a ≤ 18446744073709551615) (h2 : n2 ≤ 9223372036854775807) (h3 : n3 ≤ 255) (h4 : n4 ≤ 3) (hx : True) (D : List UInt8) (hD : D = ((initB 26).set 2 (bof (n3 % 64 + n4 * 64))).set 4 (bof n2)) : IRB (26, a, (n2 : Int), (n3 : Int), (n4 : Int)) D := by
  intro w
  have HD := hide hD
  clear hD
  have hc := show classI 26 = 0 from rfl
  have q2 : decide ((n2 : Int) < 0) = false := by simp
  have q3 : decide ((n3 : Int) < 0) = false := by simp
  have q4 : decide ((n4 : Int) < 0) = false := by simp
  have q5 : decide (3 < (n4 : Int)) = false := by simp; omega
  have q6 : decide (255 < (n3 : Int)) = false := by simp; omega
  have z2 := wru_of (x := (n2 : Int)) (by omega)
  have m1 := tm2
  have m4 := tm64
  have v1 := wr8_of (x := (n4 : Int) % 2) (by omega)
  have v2 := wr8_of (x := (n3 : Int)) (by omega)
  have v3 := wr8_of (x := (n4 : Int)) (by omega)
  have v4 := wr_of (x := (n4 : Int) * 64) (by omega)
  have v5 := wr_of (x := (n3 : Int) % 64 + (n4 : Int) * 64) (by omega)
  have v6 := wr8_of (x := (n3 : Int) % 64 + (n4 : Int) * 64) (by omega)
  have BX := hide (Box.new w 26 #[.int .i64 26, .int .u64 (a : Int), .int .i64 (n2 : Int), .int .i64 (n3 : Int), .int .i64 (n4 : Int)])
  have LL := hide ((Later.refl w).alloc (.cells #[.int .i64 26, .int .u64 (a : Int), .int .i64 (n2 : Int), .int .i64 (n3 : Int), .int .i64 (n4 : Int)] 26))
  go_enter Try.func17, Try.ntmps17
  go_wp2_with fail
  generalize (w.alloc (.cells #[.int .i64 26, .int .u64 (a : Int), .int .i64 (n2 : Int), .int .i64 (n3 : Int), .int .i64 (n4 : Int)] 26)) = w1 at *
  refine (rknown_c 26 _).mono ?_
  rintro e w2 ⟨rfl, hl⟩
  rw [show knownB 26 = true from rfl]
  replace BX := hide (BX.out.later hl)
  replace LL := hide (LL.out.trans hl)
  clear hl
  have xx0 := BX.out.cell 0
  have xx1 := BX.out.cell 1
  have xx2 := BX.out.cell 2
  have xx3 := BX.out.cell 3
  have xx4 := BX.out.cell 4
  go_wp2_with fail
  clear xx0 xx1 xx2 xx3 xx4 q2 q3 q4 q5 q6
  refine (rsize_c 26 _).mono ?_
  rintro e w4 ⟨rfl, hl⟩
  rw [show sizeN 26 = 6 from rfl]
  replace BX := hide (BX.out.later hl)
  replace LL := hide (LL.out.trans hl)
  clear hl
  go_wp2_with (refine wpList_makeB rfl (.tmp 38) (.tmp 38) rfl 6 rfl rfl (by omega) ?_)
  intro g w5 hB hl hg
  have hgF : Hid (w.heap.size < g) := by rw [Hid, hg.out]; exact BX.out.lt
  replace BX := hide (BX.out.later hl)
  replace LL := hide (LL.out.trans hl)
  have BB := hide hB
  clear hl hg hB
  have xx0 := BX.out.cell 0
  go_wp2_with (refine wpList_storeB rfl 5 (.tmp 44) (.tmp 43) rfl g 0 rfl _ rfl Try.info1_u8 _ _ BB.out (by simp) (b8 26) (by rfl) ?_)
  intro w6 hB hw
  clear xx0
  replace BX := hide (BX.out.apart g (by have := hgF.out; omega) [.int .u8 26] 0)
  replace LL := hide (LL.out.setCells (g := g) (by have := hgF.out; omega) [.int .u8 26] 0)
  rw [← hw.out] at BX LL
  have HN : Hid ((initB 26).length = 6) := initB_length 26
  replace BB : Hid (Box w6 g 5 (bv (initB 26))) := hB
  clear hB hw
  have xx0 := BX.out.cell 0
  have xx1 := BX.out.cell 1
  have xx2 := BX.out.cell 2
  have xx3 := BX.out.cell 3
  have xx4 := BX.out.cell 4
  go_wp2_with
    (go_at_call 15; refine (rclass_c _ _).mono ?_; rintro e w' ⟨rfl, hw⟩; have hw2 := hw.symm; subst hw2)
  refine wp_region_held (fun W => Later w W ∧ Box W w.heap.size 26 [.int .i64 26, .int .u64 (a : Int), .int .i64 (n2 : Int), .int .i64 (n3 : Int), .int .i64 (n4 : Int)]) (fun a b hl h => ⟨h.1.trans hl, h.2.later hl⟩) ⟨LL.out, BX.out⟩ [(0, false), (1, false), (2, false), (3, false), (4, false), (5, false), (6, false), (7, false), (8, false), (9, false), (10, false), (11, false), (12, false), (13, false), (14, true), (15, false), (16, true)] (by kernel_rfl) (by kernel_rfl) (by kernel_rfl) (by kernel_rfl) ?_
  haveI : Nonempty (Held (fun W => Later w W ∧ Box W w.heap.size 26 [.int .i64 26, .int .u64 (a : Int), .int .i64 (n2 : Int), .int .i64 (n3 : Int), .int .i64 (n4 : Int)])) := ⟨⟨_, LL.out, BX.out⟩⟩
  have e2 := fun p : Held (fun W => Later w W ∧ Box W w.heap.size 26 [.int .i64 26, .int .u64 (a : Int), .int .i64 (n2 : Int), .int .i64 (n3 : Int), .int .i64 (n4 : Int)]) => p.h.2.cell 2
  have e3 := fun p : Held (fun W => Later w W ∧ Box W w.heap.size 26 [.int .i64 26, .int .u64 (a : Int), .int .i64 (n2 : Int), .int .i64 (n3 : Int), .int .i64 (n4 : Int)]) => p.h.2.cell 3
  have e4 := fun p : Held (fun W => Later w W ∧ Box W w.heap.size 26 [.int .i64 26, .int .u64 (a : Int), .int .i64 (n2 : Int), .int .i64 (n3 : Int), .int .i64 (n4 : Int)]) => p.h.2.cell 4
  clear xx0 xx1 xx2 xx3 xx4
  replace BX := hide (BX.out.later (Later.refl _).drew)
  replace BB := hide (BB.out.later (Later.refl _).drew)
  replace LL := hide (LL.out.trans (Later.refl _).drew)
  iterate 14 (refine wpJ_mild rfl (fun K hK => ?_); go_simp; refine hK _ ?_; clear hK K)
  refine wpJ_storeB rfl rfl 5 (.tmp 198) (.tmp 194) rfl g 2 rfl ((n3 : Int) % 64 + (n4 : Int) * 64) rfl Try.info1_u8 _ _ BB.out (by rw [HN.out]; omega) (bof (n3 % 64 + n4 * 64)) (by rw [← bof_of (by omega)]; omega) (fun W hW => ⟨(LL.out.trans hW).setCells (by have := hgF.out; omega) _ _, (BX.out.later hW).apart _ (by have := hgF.out; omega) _ _⟩) ?_
  intro wl hl w6 hB hw
  replace BX := hide ((BX.out.later hl).apart g (by have := hgF.out; omega) [.int .u8 ((n3 : Int) % 64 + (n4 : Int) * 64)] 2)
  replace LL := hide ((LL.out.trans hl).setCells (g := g) (by have := hgF.out; omega) [.int .u8 ((n3 : Int) % 64 + (n4 : Int) * 64)] 2)
  rw [← hw.out] at BX LL
  replace HN := hide (len_set 2 (bof (n3 % 64 + n4 * 64)) HN.out)
  replace BB := hide hB
  clear hB hw hl
  clear wl
  iterate 1 (refine wpJ_mild rfl (fun K hK => ?_); go_simp; refine hK _ ?_; clear hK K)
  refine wpJ_storeB rfl rfl 5 (.tmp 199) (.tmp 197) rfl g 4 rfl ((n2 : Int) % 256) rfl Try.info1_u8 _ _ BB.out (by rw [HN.out]; omega) (bof n2) (bof_mod n2) (fun W hW => ⟨(LL.out.trans hW).setCells (by have := hgF.out; omega) _ _, (BX.out.later hW).apart _ (by have := hgF.out; omega) _ _⟩) ?_
  intro wl hl w6 hB hw
  replace BX := hide ((BX.out.later hl).apart g (by have := hgF.out; omega) [.int .u8 ((n2 : Int) % 256)] 4)
  replace LL := hide ((LL.out.trans hl).setCells (g := g) (by have := hgF.out; omega) [.int .u8 ((n2 : Int) % 256)] 4)
  rw [← hw.out] at BX LL
  replace HN := hide (len_set 4 (bof n2) HN.out)
  replace BB := hide hB
  clear hB hw hl
  clear wl
  refine wpJ_nil (fun wn hn => ?_)
  replace BX := hide (BX.out.later hn)
  replace BB := hide (BB.out.later hn)
  replace LL := hide (LL.out.trans hn)
  clear hn e2 e3 e4
  have xx0 := BX.out.cell 0
  have xx1 := BX.out.cell 1
  have xx2 := BX.out.cell 2
  have xx3 := BX.out.cell 3
  have xx4 := BX.out.cell 4
  go_wp2_with
    (go_at_call 15; refine (rclass_c _ _).mono ?_; rintro e w' ⟨rfl, hw⟩; have hw2 := hw.symm; subst hw2)
  rw [← HD.out] at BB HN
  have HS := hide (bs_of_box BB.out rfl HN.out (by omega))
  clear HD BB HN
  refine (rparse6_c _ HS.out).mono ?_
  rintro e w8 ⟨rfl, hl⟩
  clear xx0 xx1 xx2 xx3 xx4
  replace BX := hide (BX.out.later hl)
  replace LL := hide (LL.out.trans hl)
  replace HS := hide (HS.out.later hl)
  clear hl hgF
  have HR : Hid (rtB (26, a, (n2 : Int), (n3 : Int), (n4 : Int)) D = ((parseR D).2 == ((0, 0, 0) : Sns) && (parseR D).1 == ((26, a, (n2 : Int), (n3 : Int), (n4 : Int)) : Cmd))) := rfl
  generalize hpd : parseR D = pd at *
  clear hpd
  obtain ⟨b, s⟩ := pd
  simp only at HR ⊢
  go_wp2_with (refine wpList_newCS rfl rfl rfl rfl rfl rfl 5 6 rfl rfl (by simp) (by simp) (by decide) (.tmp 256) (.tmp 257) (by simp) (by simp) (by simp) (by simp) rfl rfl rfl rfl b s rfl rfl ?_)
  intro gC gS w9 hB1 hB2 hl hg
  replace BX := hide (BX.out.later hl)
  replace LL := hide (LL.out.trans hl)
  replace HS := hide (HS.out.later hl)
  have BC := hide hB1
  have BS := hide hB2
  clear hl hg hB1 hB2
  have xx0 := BX.out.cell 0
  have xx1 := BX.out.cell 1
  have xx2 := BX.out.cell 2
  have xx3 := BX.out.cell 3
  have xx4 := BX.out.cell 4
  have cx0 := BC.out.cell 0
  have cx1 := BC.out.cell 1
  have cx2 := BC.out.cell 2
  have cx3 := BC.out.cell 3
  have cx4 := BC.out.cell 4
  have sx0 := BS.out.cell 0
  have sx1 := BS.out.cell 1
  have sx2 := BS.out.cell 2
  cases hq : (s == ((0, 0, 0) : Sns)) with
  | false =>
    have HP : Hid (rtB (26, a, (n2 : Int), (n3 : Int), (n4 : Int)) D = false) := by rw [Hid, HR.out, hq]; rfl
    have HQ := hide hq
    clear HR hq
    iterate 12 (first | go_values | go_skip | go_guarded | go_step)
    refine wpList_neqS' (by kernel_rfl) (.tmp 258) (.tmp 259) rfl s (0, 0, 0) rfl rfl true (by rw [HQ.out]; rfl) ?_
    go_wp2
    go_ret2
    exact ⟨_, by rw [HP.out]; rfl, LL.out, by rw [rtL, HP.out]; exact Bs.nil _⟩
  | true =>
  have HQ := hide hq
  cases hr : (b == ((26, a, (n2 : Int), (n3 : Int), (n4 : Int)) : Cmd)) with
  | false =>
    have HP : Hid (rtB (26, a, (n2 : Int), (n3 : Int), (n4 : Int)) D = false) := by rw [Hid, HR.out, hq, hr]; rfl
    have HT := hide hr
    clear HR hq hr
    iterate 12 (first | go_values | go_skip | go_guarded | go_step)
    refine wpList_neqS' (by kernel_rfl) (.tmp 258) (.tmp 259) rfl s (0, 0, 0) rfl rfl false (by rw [HQ.out]; rfl) ?_
    go_wp2_with (refine wpList_neqC (by kernel_rfl) (.tmp 262) (.tmp 263) rfl b (26, a, (n2 : Int), (n3 : Int), (n4 : Int)) rfl rfl true (by rw [HT.out]; rfl) ?_)
    go_ret2
    exact ⟨_, by rw [HP.out]; rfl, LL.out, by rw [rtL, HP.out]; exact Bs.nil _⟩
  | true =>
    have HP : Hid (rtB (26, a, (n2 : Int), (n3 : Int), (n4 : Int)) D = true) := by rw [Hid, HR.out, hq, hr]; rfl
    have HT := hide hr
    clear HR hq hr
    iterate 12 (first | go_values | go_skip | go_guarded | go_step)
    refine wpList_neqS' (by kernel_rfl) (.tmp 258) (.tmp 259) rfl s (0, 0, 0) rfl rfl false (by rw [HQ.out]; rfl) ?_
    go_wp2_with (refine wpList_neqC (by kernel_rfl) (.tmp 262) (.tmp 263) rfl b (26, a, (n2 : Int), (n3 : Int), (n4 : Int)) rfl rfl false (by rw [HT.out]; rfl) ?_)
    go_ret2
    exact ⟨_, by rw [HP.out]; rfl, LL.out, by rw [rtL, HP.out]; exact HS.out⟩
set_option maxRecDepth 20000 in
set_option maxHeartbeats 2000000 in
theorem rbytes_18x (a n2 n3 n4 : Nat) (ha : a ≤ 18446744073709551615) (h2 : n2 ≤ 9223372036854775807) (h3 : n3 ≤ 255) (h4 : n4 ≤ 3) (hx : True) (D : List UInt8) (hD : D = over (((initB 18).set 1 (bof (n4 % 2))).set 2 (bof n3)) 3 (putBe n2 2)) : IRB (18, a, (n2 : Int), (n3 : Int), (n4 : Int)) D := by
  intro w
  have HD := hide hD
  clear hD
  have hc := show classI 18 = 0 from rfl
  have q2 : decide ((n2 : Int) < 0) = false := by simp
  have q3 : decide ((n3 : Int) < 0) = false := by simp
  have q4 : decide ((n4 : Int) < 0) = false := by simp
  have q5 : decide (3 < (n4 : Int)) = false := by simp; omega
  have q6 : decide (255 < (n3 : Int)) = false := by simp; omega
  have z2 := wru_of (x := (n2 : Int)) (by omega)
  have m1 := tm2
  have m4 := tm64
  have v1 := wr8_of (x := (n4 : Int) % 2) (by omega)
  have v2 := wr8_of (x := (n3 : Int)) (by omega)
  have v3 := wr8_of (x := (n4 : Int)) (by omega)
  have v4 := wr_of (x := (n4 : Int) * 64) (by omega)
  have v5 := wr_of (x := (n3 : Int) % 64 + (n4 : Int) * 64) (by omega)
  have v6 := wr8_of (x := (n3 : Int) % 64 + (n4 : Int) * 64) (by omega)
  have BX := hide (Box.new w 26 #[.int .i64 18, .int .u64 (a : Int), .int .i64 (n2 : Int), .int .i64 (n3 : Int), .int .i64 (n4 : Int)])
  have LL := hide ((Later.refl w).alloc (.cells #[.int .i64 18, .int .u64 (a : Int), .int .i64 (n2 : Int), .int .i64 (n3 : Int), .int .i64 (n4 : Int)] 26))
  go_enter Try.func17, Try.ntmps17
  go_wp2_with fail
  generalize (w.alloc (.cells #[.int .i64 18, .int .u64 (a : Int), .int .i64 (n2 : Int), .int .i64 (n3 : Int), .int .i64 (n4 : Int)] 26)) = w1 at *
  refine (rknown_c 18 _).mono ?_
  rintro e w2 ⟨rfl, hl⟩
  rw [show knownB 18 = true from rfl]
  replace BX := hide (BX.out.later hl)
  replace LL := hide (LL.out.trans hl)
  clear hl
  have xx0 := BX.out.cell 0
  have xx1 := BX.out.cell 1
  have xx2 := BX.out.cell 2
  have xx3 := BX.out.cell 3
  have xx4 := BX.out.cell 4
  go_wp2_with fail
  clear xx0 xx1 xx2 xx3 xx4 q2 q3 q4 q5 q6
  refine (rsize_c 18 _).mono ?_
  rintro e w4 ⟨rfl, hl⟩
  rw [show sizeN 18 = 6 from rfl]
  replace BX := hide (BX.out.later hl)
  replace LL := hide (LL.out.trans hl)
  clear hl
  go_wp2_with (refine wpList_makeB rfl (.tmp 38) (.tmp 38) rfl 6 rfl rfl (by omega) ?_)
  intro g w5 hB hl hg
  have hgF : Hid (w.heap.size < g) := by rw [Hid, hg.out]; exact BX.out.lt
  replace BX := hide (BX.out.later hl)
  replace LL := hide (LL.out.trans hl)
  have BB := hide hB
  clear hl hg hB
  have xx0 := BX.out.cell 0
  go_wp2_with (refine wpList_storeB rfl 5 (.tmp 44) (.tmp 43) rfl g 0 rfl _ rfl Try.info1_u8 _ _ BB.out (by simp) (b8 18) (by rfl) ?_)
  intro w6 hB hw
  clear xx0
  replace BX := hide (BX.out.apart g (by have := hgF.out; omega) [.int .u8 18] 0)
  replace LL := hide (LL.out.setCells (g := g) (by have := hgF.out; omega) [.int .u8 18] 0)
  rw [← hw.out] at BX LL
  have HN : Hid ((initB 18).length = 6) := initB_length 18
  replace BB : Hid (Box w6 g 5 (bv (initB 18))) := hB
  clear hB hw
  have xx0 := BX.out.cell 0
  have xx1 := BX.out.cell 1
  have xx2 := BX.out.cell 2
  have xx3 := BX.out.cell 3
  have xx4 := BX.out.cell 4
  go_wp2_with
    (go_at_call 15; refine (rclass_c _ _).mono ?_; rintro e w' ⟨rfl, hw⟩; have hw2 := hw.symm; subst hw2)
  refine wp_region_held (fun W => Later w W ∧ Box W w.heap.size 26 [.int .i64 18, .int .u64 (a : Int), .int .i64 (n2 : Int), .int .i64 (n3 : Int), .int .i64 (n4 : Int)]) (fun a b hl h => ⟨h.1.trans hl, h.2.later hl⟩) ⟨LL.out, BX.out⟩ [(0, false), (1, false), (2, false), (3, false), (4, false), (5, false), (6, false), (7, false), (8, false), (9, false), (10, true), (11, false), (12, true)] (by kernel_rfl) (by kernel_rfl) (by kernel_rfl) (by kernel_rfl) ?_
  haveI : Nonempty (Held (fun W => Later w W ∧ Box W w.heap.size 26 [.int .i64 18, .int .u64 (a : Int), .int .i64 (n2 : Int), .int .i64 (n3 : Int), .int .i64 (n4 : Int)])) := ⟨⟨_, LL.out, BX.out⟩⟩
  have e2 := fun p : Held (fun W => Later w W ∧ Box W w.heap.size 26 [.int .i64 18, .int .u64 (a : Int), .int .i64 (n2 : Int), .int .i64 (n3 : Int), .int .i64 (n4 : Int)]) => p.h.2.cell 2
  have e3 := fun p : Held (fun W => Later w W ∧ Box W w.heap.size 26 [.int .i64 18, .int .u64 (a : Int), .int .i64 (n2 : Int), .int .i64 (n3 : Int), .int .i64 (n4 : Int)]) => p.h.2.cell 3
  have e4 := fun p : Held (fun W => Later w W ∧ Box W w.heap.size 26 [.int .i64 18, .int .u64 (a : Int), .int .i64 (n2 : Int), .int .i64 (n3 : Int), .int .i64 (n4 : Int)]) => p.h.2.cell 4
  clear xx0 xx1 xx2 xx3 xx4
  replace BX := hide (BX.out.later (Later.refl _).drew)
  replace BB := hide (BB.out.later (Later.refl _).drew)
  replace LL := hide (LL.out.trans (Later.refl _).drew)
  iterate 10 (refine wpJ_mild rfl (fun K hK => ?_); go_simp; refine hK _ ?_; clear hK K)
  refine wpJ_storeB rfl rfl 5 (.tmp 152) (.tmp 148) rfl g 1 rfl ((n4 : Int) % 2) rfl Try.info1_u8 _ _ BB.out (by rw [HN.out]; omega) (bof (n4 % 2)) (by rw [← bof_of (by omega)]; omega) (fun W hW => ⟨(LL.out.trans hW).setCells (by have := hgF.out; omega) _ _, (BX.out.later hW).apart _ (by have := hgF.out; omega) _ _⟩) ?_
  intro wl hl w6 hB hw
  replace BX := hide ((BX.out.later hl).apart g (by have := hgF.out; omega) [.int .u8 ((n4 : Int) % 2)] 1)
  replace LL := hide ((LL.out.trans hl).setCells (g := g) (by have := hgF.out; omega) [.int .u8 ((n4 : Int) % 2)] 1)
  rw [← hw.out] at BX LL
  replace HN := hide (len_set 1 (bof (n4 % 2)) HN.out)
  replace BB := hide hB
  clear hB hw hl
  clear wl
  iterate 1 (refine wpJ_mild rfl (fun K hK => ?_); go_simp; refine hK _ ?_; clear hK K)
  refine wpJ_storeB rfl rfl 5 (.tmp 153) (.tmp 151) rfl g 2 rfl (n3 : Int) rfl Try.info1_u8 _ _ BB.out (by rw [HN.out]; omega) (bof n3) (by rw [← bof_of (by omega)]) (fun W hW => ⟨(LL.out.trans hW).setCells (by have := hgF.out; omega) _ _, (BX.out.later hW).apart _ (by have := hgF.out; omega) _ _⟩) ?_
  intro wl hl w6 hB hw
  replace BX := hide ((BX.out.later hl).apart g (by have := hgF.out; omega) [.int .u8 (n3 : Int)] 2)
  replace LL := hide ((LL.out.trans hl).setCells (g := g) (by have := hgF.out; omega) [.int .u8 (n3 : Int)] 2)
  rw [← hw.out] at BX LL
  replace HN := hide (len_set 2 (bof n3) HN.out)
  replace BB := hide hB
  clear hB hw hl
  clear wl
  refine wpJ_nil (fun wn hn => ?_)
  replace BX := hide (BX.out.later hn)
  replace BB := hide (BB.out.later hn)
  replace LL := hide (LL.out.trans hn)
  clear hn e2 e3 e4
  have xx0 := BX.out.cell 0
  have xx1 := BX.out.cell 1
  have xx2 := BX.out.cell 2
  have xx3 := BX.out.cell 3
  have xx4 := BX.out.cell 4
  go_wp2_with
    (go_at_call 15; refine (rclass_c _ _).mono ?_; rintro e w' ⟨rfl, hw⟩; have hw2 := hw.symm; subst hw2)
  refine (rlay_c g 6 3 2 n2 _ _ BB.out HN.out (by omega) (by omega) (by omega)).mono ?_
  rintro e w7 ⟨rfl, hbl, hB⟩
  clear xx0 xx1 xx2 xx3 xx4
  replace BX := hide (BX.out.below hbl (by have := hgF.out; omega))
  replace LL : Hid (Later w w7) := Below.trans LL.out (Below.mono hbl (by have := hgF.out; omega))
  replace HN := hide ((over_length _ 3 (putBe n2 2) (by rw [putBe_length, HN.out]; omega)).trans HN.out)
  replace BB := hide hB
  clear hbl hB
  have xx0 := BX.out.cell 0
  have xx1 := BX.out.cell 1
  have xx2 := BX.out.cell 2
  have xx3 := BX.out.cell 3
  have xx4 := BX.out.cell 4
  go_wp2_with
    (go_at_call 15; refine (rclass_c _ _).mono ?_; rintro e w' ⟨rfl, hw⟩; have hw2 := hw.symm; subst hw2)
  rw [← HD.out] at BB HN
  have HS := hide (bs_of_box BB.out rfl HN.out (by omega))
  clear HD BB HN
  refine (rparse6_c _ HS.out).mono ?_
  rintro e w8 ⟨rfl, hl⟩
  clear xx0 xx1 xx2 xx3 xx4
  replace BX := hide (BX.out.later hl)
  replace LL := hide (LL.out.trans hl)
  replace HS := hide (HS.out.later hl)
  clear hl hgF
  have HR : Hid (rtB (18, a, (n2 : Int), (n3 : Int), (n4 : Int)) D = ((parseR D).2 == ((0, 0, 0) : Sns) && (parseR D).1 == ((18, a, (n2 : Int), (n3 : Int), (n4 : Int)) : Cmd))) := rfl
  generalize hpd : parseR D = pd at *
  clear hpd
  obtain ⟨b, s⟩ := pd
  simp only at HR ⊢
  go_wp2_with (refine wpList_newCS rfl rfl rfl rfl rfl rfl 5 6 rfl rfl (by simp) (by simp) (by decide) (.tmp 256) (.tmp 257) (by simp) (by simp) (by simp) (by simp) rfl rfl rfl rfl b s rfl rfl ?_)
  intro gC gS w9 hB1 hB2 hl hg
  replace BX := hide (BX.out.later hl)
  replace LL := hide (LL.out.trans hl)
  replace HS := hide (HS.out.later hl)
  have BC := hide hB1
  have BS := hide hB2
  clear hl hg hB1 hB2
  have xx0 := BX.out.cell 0
  have xx1 := BX.out.cell 1
  have xx2 := BX.out.cell 2
  have xx3 := BX.out.cell 3
  have xx4 := BX.out.cell 4
  have cx0 := BC.out.cell 0
  have cx1 := BC.out.cell 1
  have cx2 := BC.out.cell 2
  have cx3 := BC.out.cell 3
  have cx4 := BC.out.cell 4
  have sx0 := BS.out.cell 0
  have sx1 := BS.out.cell 1
  have sx2 := BS.out.cell 2
  cases hq : (s == ((0, 0, 0) : Sns)) with
  | false =>
    have HP : Hid (rtB (18, a, (n2 : Int), (n3 : Int), (n4 : Int)) D = false) := by rw [Hid, HR.out, hq]; rfl
    have HQ := hide hq
    clear HR hq
    iterate 12 (first | go_values | go_skip | go_guarded | go_step)
    refine wpList_neqS' (by kernel_rfl) (.tmp 258) (.tmp 259) rfl s (0, 0, 0) rfl rfl true (by rw [HQ.out]; rfl) ?_
    go_wp2
    go_ret2
    exact ⟨_, by rw [HP.out]; rfl, LL.out, by rw [rtL, HP.out]; exact Bs.nil _⟩
  | true =>
  have HQ := hide hq
  cases hr : (b == ((18, a, (n2 : Int), (n3 : Int), (n4 : Int)) : Cmd)) with
  | false =>
    have HP : Hid (rtB (18, a, (n2 : Int), (n3 : Int), (n4 : Int)) D = false) := by rw [Hid, HR.out, hq, hr]; rfl
    have HT := hide hr
    clear HR hq hr
    iterate 12 (first | go_values | go_skip | go_guarded | go_step)
    refine wpList_neqS' (by kernel_rfl) (.tmp 258) (.tmp 259) rfl s (0, 0, 0) rfl rfl false (by rw [HQ.out]; rfl) ?_
    go_wp2_with (refine wpList_neqC (by kernel_rfl) (.tmp 262) (.tmp 263) rfl b (18, a, (n2 : Int), (n3 : Int), (n4 : Int)) rfl rfl true (by rw [HT.out]; rfl) ?_)
    go_ret2
    exact ⟨_, by rw [HP.out]; rfl, LL.out, by rw [rtL, HP.out]; exact Bs.nil _⟩
  | true =>
    have HP : Hid (rtB (18, a, (n2 : Int), (n3 : Int), (n4 : Int)) D = true) := by rw [Hid, HR.out, hq, hr]; rfl
    have HT := hide hr
    clear HR hq hr
    iterate 12 (first | go_values | go_skip | go_guarded | go_step)
    refine wpList_neqS' (by kernel_rfl) (.tmp 258) (.tmp 259) rfl s (0, 0, 0) rfl rfl false (by rw [HQ.out]; rfl) ?_
    go_wp2_with (refine wpList_neqC (by kernel_rfl) (.tmp 262) (.tmp 263) rfl b (18, a, (n2 : Int), (n3 : Int), (n4 : Int)) rfl rfl false (by rw [HT.out]; rfl) ?_)
    go_ret2
    exact ⟨_, by rw [HP.out]; rfl, LL.out, by rw [rtL, HP.out]; exact HS.out⟩
set_option maxRecDepth 20000 in
set_option maxHeartbeats 2000000 in
theorem rbytes_0x (a n2 n3 n4 : Nat) (ha : a ≤ 18446744073709551615) (h2 : n2 ≤ 9223372036854775807) (h3 : n3 ≤ 255) (h4 : n4 ≤ 3) (hx : True) (D : List UInt8) (hD : D = initB 0) : IRB (0, a, (n2 : Int), (n3 : Int), (n4 : Int)) D := by
  intro w
  have HD := hide hD
  clear hD
  have hc := show classI 0 = 0 from rfl
  have q2 : decide ((n2 : Int) < 0) = false := by simp
  have q3 : decide ((n3 : Int) < 0) = false := by simp
  have q4 : decide ((n4 : Int) < 0) = false := by simp
  have q5 : decide (3 < (n4 : Int)) = false := by simp; omega
  have q6 : decide (255 < (n3 : Int)) = false := by simp; omega
  have z2 := wru_of (x := (n2 : Int)) (by omega)
  have m1 := tm2
  have m4 := tm64
  have v1 := wr8_of (x := (n4 : Int) % 2) (by omega)
  have v2 := wr8_of (x := (n3 : Int)) (by omega)
  have v3 := wr8_of (x := (n4 : Int)) (by omega)
  have v4 := wr_of (x := (n4 : Int) * 64) (by omega)
  have v5 := wr_of (x := (n3 : Int) % 64 + (n4 : Int) * 64) (by omega)
  have v6 := wr8_of (x := (n3 : Int) % 64 + (n4 : Int) * 64) (by omega)
  have BX := hide (Box.new w 26 #[.int .i64 0, .int .u64 (a : Int), .int .i64 (n2 : Int), .int .i64 (n3 : Int), .int .i64 (n4 : Int)])
  have LL := hide ((Later.refl w).alloc (.cells #[.int .i64 0, .int .u64 (a : Int), .int .i64 (n2 : Int), .int .i64 (n3 : Int), .int .i64 (n4 : Int)] 26))
  go_enter Try.func17, Try.ntmps17
  go_wp2_with fail
  generalize (w.alloc (.cells #[.int .i64 0, .int .u64 (a : Int), .int .i64 (n2 : Int), .int .i64 (n3 : Int), .int .i64 (n4 : Int)] 26)) = w1 at *
  refine (rknown_c 0 _).mono ?_
  rintro e w2 ⟨rfl, hl⟩
  rw [show knownB 0 = true from rfl]
  replace BX := hide (BX.out.later hl)
  replace LL := hide (LL.out.trans hl)
  clear hl
  have xx0 := BX.out.cell 0
  have xx1 := BX.out.cell 1
  have xx2 := BX.out.cell 2
  have xx3 := BX.out.cell 3
  have xx4 := BX.out.cell 4
  go_wp2_with fail
  clear xx0 xx1 xx2 xx3 xx4 q2 q3 q4 q5 q6
  refine (rsize_c 0 _).mono ?_
  rintro e w4 ⟨rfl, hl⟩
  rw [show sizeN 0 = 6 from rfl]
  replace BX := hide (BX.out.later hl)
  replace LL := hide (LL.out.trans hl)
  clear hl
  go_wp2_with (refine wpList_makeB rfl (.tmp 38) (.tmp 38) rfl 6 rfl rfl (by omega) ?_)
  intro g w5 hB hl hg
  have hgF : Hid (w.heap.size < g) := by rw [Hid, hg.out]; exact BX.out.lt
  replace BX := hide (BX.out.later hl)
  replace LL := hide (LL.out.trans hl)
  have BB := hide hB
  clear hl hg hB
  have xx0 := BX.out.cell 0
  go_wp2_with (refine wpList_storeB rfl 5 (.tmp 44) (.tmp 43) rfl g 0 rfl _ rfl Try.info1_u8 _ _ BB.out (by simp) (b8 0) (by rfl) ?_)
  intro w6 hB hw
  clear xx0
  replace BX := hide (BX.out.apart g (by have := hgF.out; omega) [.int .u8 0] 0)
  replace LL := hide (LL.out.setCells (g := g) (by have := hgF.out; omega) [.int .u8 0] 0)
  rw [← hw.out] at BX LL
  have HN : Hid ((initB 0).length = 6) := initB_length 0
  replace BB : Hid (Box w6 g 5 (bv (initB 0))) := hB
  clear hB hw
  have xx0 := BX.out.cell 0
  have xx1 := BX.out.cell 1
  have xx2 := BX.out.cell 2
  have xx3 := BX.out.cell 3
  have xx4 := BX.out.cell 4
  go_wp2_with
    (go_at_call 15; refine (rclass_c _ _).mono ?_; rintro e w' ⟨rfl, hw⟩; have hw2 := hw.symm; subst hw2)
  rw [← HD.out] at BB HN
  have HS := hide (bs_of_box BB.out rfl HN.out (by omega))
  clear HD BB HN
  refine (rparse6_c _ HS.out).mono ?_
  rintro e w8 ⟨rfl, hl⟩
  clear xx0 xx1 xx2 xx3 xx4
  replace BX := hide (BX.out.later hl)
  replace LL := hide (LL.out.trans hl)
  replace HS := hide (HS.out.later hl)
  clear hl hgF
  have HR : Hid (rtB (0, a, (n2 : Int), (n3 : Int), (n4 : Int)) D = ((parseR D).2 == ((0, 0, 0) : Sns) && (parseR D).1 == ((0, a, (n2 : Int), (n3 : Int), (n4 : Int)) : Cmd))) := rfl
  generalize hpd : parseR D = pd at *
  clear hpd
  obtain ⟨b, s⟩ := pd
  simp only at HR ⊢
  go_wp2_with (refine wpList_newCS rfl rfl rfl rfl rfl rfl 5 6 rfl rfl (by simp) (by simp) (by decide) (.tmp 256) (.tmp 257) (by simp) (by simp) (by simp) (by simp) rfl rfl rfl rfl b s rfl rfl ?_)
  intro gC gS w9 hB1 hB2 hl hg
  replace BX := hide (BX.out.later hl)
  replace LL := hide (LL.out.trans hl)
  replace HS := hide (HS.out.later hl)
  have BC := hide hB1
  have BS := hide hB2
  clear hl hg hB1 hB2
  have xx0 := BX.out.cell 0
  have xx1 := BX.out.cell 1
  have xx2 := BX.out.cell 2
  have xx3 := BX.out.cell 3
  have xx4 := BX.out.cell 4
  have cx0 := BC.out.cell 0
  have cx1 := BC.out.cell 1
  have cx2 := BC.out.cell 2
  have cx3 := BC.out.cell 3
  have cx4 := BC.out.cell 4
  have sx0 := BS.out.cell 0
  have sx1 := BS.out.cell 1
  have sx2 := BS.out.cell 2
  cases hq : (s == ((0, 0, 0) : Sns)) with
  | false =>
    have HP : Hid (rtB (0, a, (n2 : Int), (n3 : Int), (n4 : Int)) D = false) := by rw [Hid, HR.out, hq]; rfl
    have HQ := hide hq
    clear HR hq
    iterate 12 (first | go_values | go_skip | go_guarded | go_step)
    refine wpList_neqS' (by kernel_rfl) (.tmp 258) (.tmp 259) rfl s (0, 0, 0) rfl rfl true (by rw [HQ.out]; rfl) ?_
    go_wp2
    go_ret2
    exact ⟨_, by rw [HP.out]; rfl, LL.out, by rw [rtL, HP.out]; exact Bs.nil _⟩
  | true =>
  have HQ := hide hq
  cases hr : (b == ((0, a, (n2 : Int), (n3 : Int), (n4 : Int)) : Cmd)) with
  | false =>
    have HP : Hid (rtB (0, a, (n2 : Int), (n3 : Int), (n4 : Int)) D = false) := by rw [Hid, HR.out, hq, hr]; rfl
    have HT := hide hr
    clear HR hq hr
    iterate 12 (first | go_values | go_skip | go_guarded | go_step)
    refine wpList_neqS' (by kernel_rfl) (.tmp 258) (.tmp 259) rfl s (0, 0, 0) rfl rfl false (by rw [HQ.out]; rfl) ?_
    go_wp2_with (refine wpList_neqC (by kernel_rfl) (.tmp 262) (.tmp 263) rfl b (0, a, (n2 : Int), (n3 : Int), (n4 : Int)) rfl rfl true (by rw [HT.out]; rfl) ?_)
    go_ret2
    exact ⟨_, by rw [HP.out]; rfl, LL.out, by rw [rtL, HP.out]; exact Bs.nil _⟩
  | true =>
    have HP : Hid (rtB (0, a, (n2 : Int), (n3 : Int), (n4 : Int)) D = true) := by rw [Hid, HR.out, hq, hr]; rfl
    have HT := hide hr
    clear HR hq hr
    iterate 12 (first | go_values | go_skip | go_guarded | go_step)
    refine wpList_neqS' (by kernel_rfl) (.tmp 258) (.tmp 259) rfl s (0, 0, 0) rfl rfl false (by rw [HQ.out]; rfl) ?_
    go_wp2_with (refine wpList_neqC (by kernel_rfl) (.tmp 262) (.tmp 263) rfl b (0, a, (n2 : Int), (n3 : Int), (n4 : Int)) rfl rfl false (by rw [HT.out]; rfl) ?_)
    go_ret2
    exact ⟨_, by rw [HP.out]; rfl, LL.out, by rw [rtL, HP.out]; exact HS.out⟩
set_option maxRecDepth 20000 in
set_option maxHeartbeats 2000000 in
theorem rbytes_37x (a n2 n3 n4 : Nat) (ha : a ≤ 18446744073709551615) (h2 : n2 ≤ 9223372036854775807) (h3 : n3 ≤ 255) (h4 : n4 ≤ 3) (hx : True) (D : List UInt8) (hD : D = initB 37) : IRB (37, a, (n2 : Int), (n3 : Int), (n4 : Int)) D := by
  intro w
  have HD := hide hD
  clear hD
  have hc := show classI 37 = 0 from rfl
  have q2 : decide ((n2 : Int) < 0) = false := by simp
  have q3 : decide ((n3 : Int) < 0) = false := by simp
  have q4 : decide ((n4 : Int) < 0) = false := by simp
  have q5 : decide (3 < (n4 : Int)) = false := by simp; omega
  have q6 : decide (255 < (n3 : Int)) = false := by simp; omega
  have z2 := wru_of (x := (n2 : Int)) (by omega)
  have m1 := tm2
  have m4 := tm64
  have v1 := wr8_of (x := (n4 : Int) % 2) (by omega)
  have v2 := wr8_of (x := (n3 : Int)) (by omega)
  have v3 := wr8_of (x := (n4 : Int)) (by omega)
  have v4 := wr_of (x := (n4 : Int) * 64) (by omega)
  have v5 := wr_of (x := (n3 : Int) % 64 + (n4 : Int) * 64) (by omega)
  have v6 := wr8_of (x := (n3 : Int) % 64 + (n4 : Int) * 64) (by omega)
  have BX := hide (Box.new w 26 #[.int .i64 37, .int .u64 (a : Int), .int .i64 (n2 : Int), .int .i64 (n3 : Int), .int .i64 (n4 : Int)])
  have LL := hide ((Later.refl w).alloc (.cells #[.int .i64 37, .int .u64 (a : Int), .int .i64 (n2 : Int), .int .i64 (n3 : Int), .int .i64 (n4 : Int)] 26))
  go_enter Try.func17, Try.ntmps17
  go_wp2_with fail
  generalize (w.alloc (.cells #[.int .i64 37, .int .u64 (a : Int), .int .i64 (n2 : Int), .int .i64 (n3 : Int), .int .i64 (n4 : Int)] 26)) = w1 at *
  refine (rknown_c 37 _).mono ?_
  rintro e w2 ⟨rfl, hl⟩
  rw [show knownB 37 = true from rfl]
  replace BX := hide (BX.out.later hl)
  replace LL := hide (LL.out.trans hl)
  clear hl
  have xx0 := BX.out.cell 0
  have xx1 := BX.out.cell 1
  have xx2 := BX.out.cell 2
  have xx3 := BX.out.cell 3
  have xx4 := BX.out.cell 4
  go_wp2_with fail
  clear xx0 xx1 xx2 xx3 xx4 q2 q3 q4 q5 q6
  refine (rsize_c 37 _).mono ?_
  rintro e w4 ⟨rfl, hl⟩
  rw [show sizeN 37 = 10 from rfl]
  replace BX := hide (BX.out.later hl)
  replace LL := hide (LL.out.trans hl)
  clear hl
  go_wp2_with (refine wpList_makeB rfl (.tmp 38) (.tmp 38) rfl 10 rfl rfl (by omega) ?_)
  intro g w5 hB hl hg
  have hgF : Hid (w.heap.size < g) := by rw [Hid, hg.out]; exact BX.out.lt
  replace BX := hide (BX.out.later hl)
  replace LL := hide (LL.out.trans hl)
  have BB := hide hB
  clear hl hg hB
  have xx0 := BX.out.cell 0
  go_wp2_with (refine wpList_storeB rfl 5 (.tmp 44) (.tmp 43) rfl g 0 rfl _ rfl Try.info1_u8 _ _ BB.out (by simp) (b8 37) (by rfl) ?_)
  intro w6 hB hw
  clear xx0
  replace BX := hide (BX.out.apart g (by have := hgF.out; omega) [.int .u8 37] 0)
  replace LL := hide (LL.out.setCells (g := g) (by have := hgF.out; omega) [.int .u8 37] 0)
  rw [← hw.out] at BX LL
  have HN : Hid ((initB 37).length = 10) := initB_length 37
  replace BB : Hid (Box w6 g 5 (bv (initB 37))) := hB
  clear hB hw
  have xx0 := BX.out.cell 0
  have xx1 := BX.out.cell 1
  have xx2 := BX.out.cell 2
  have xx3 := BX.out.cell 3
  have xx4 := BX.out.cell 4
  go_wp2_with
    (go_at_call 15; refine (rclass_c _ _).mono ?_; rintro e w' ⟨rfl, hw⟩; have hw2 := hw.symm; subst hw2)
  rw [← HD.out] at BB HN
  have HS := hide (bs_of_box BB.out rfl HN.out (by omega))
  clear HD BB HN
  refine (rparse6_c _ HS.out).mono ?_
  rintro e w8 ⟨rfl, hl⟩
  clear xx0 xx1 xx2 xx3 xx4
  replace BX := hide (BX.out.later hl)
  replace LL := hide (LL.out.trans hl)
  replace HS := hide (HS.out.later hl)
  clear hl hgF
  have HR : Hid (rtB (37, a, (n2 : Int), (n3 : Int), (n4 : Int)) D = ((parseR D).2 == ((0, 0, 0) : Sns) && (parseR D).1 == ((37, a, (n2 : Int), (n3 : Int), (n4 : Int)) : Cmd))) := rfl
  generalize hpd : parseR D = pd at *
  clear hpd
  obtain ⟨b, s⟩ := pd
  simp only at HR ⊢
  go_wp2_with (refine wpList_newCS rfl rfl rfl rfl rfl rfl 5 6 rfl rfl (by simp) (by simp) (by decide) (.tmp 256) (.tmp 257) (by simp) (by simp) (by simp) (by simp) rfl rfl rfl rfl b s rfl rfl ?_)
  intro gC gS w9 hB1 hB2 hl hg
  replace BX := hide (BX.out.later hl)
  replace LL := hide (LL.out.trans hl)
  replace HS := hide (HS.out.later hl)
  have BC := hide hB1
  have BS := hide hB2
  clear hl hg hB1 hB2
  have xx0 := BX.out.cell 0
  have xx1 := BX.out.cell 1
  have xx2 := BX.out.cell 2
  have xx3 := BX.out.cell 3
  have xx4 := BX.out.cell 4
  have cx0 := BC.out.cell 0
  have cx1 := BC.out.cell 1
  have cx2 := BC.out.cell 2
  have cx3 := BC.out.cell 3
  have cx4 := BC.out.cell 4
  have sx0 := BS.out.cell 0
  have sx1 := BS.out.cell 1
  have sx2 := BS.out.cell 2
  cases hq : (s == ((0, 0, 0) : Sns)) with
  | false =>
    have HP : Hid (rtB (37, a, (n2 : Int), (n3 : Int), (n4 : Int)) D = false) := by rw [Hid, HR.out, hq]; rfl
    have HQ := hide hq
    clear HR hq
    iterate 12 (first | go_values | go_skip | go_guarded | go_step)
    refine wpList_neqS' (by kernel_rfl) (.tmp 258) (.tmp 259) rfl s (0, 0, 0) rfl rfl true (by rw [HQ.out]; rfl) ?_
    go_wp2
    go_ret2
    exact ⟨_, by rw [HP.out]; rfl, LL.out, by rw [rtL, HP.out]; exact Bs.nil _⟩
  | true =>
  have HQ := hide hq
  cases hr : (b == ((37, a, (n2 : Int), (n3 : Int), (n4 : Int)) : Cmd)) with
  | false =>
    have HP : Hid (rtB (37, a, (n2 : Int), (n3 : Int), (n4 : Int)) D = false) := by rw [Hid, HR.out, hq, hr]; rfl
    have HT := hide hr
    clear HR hq hr
    iterate 12 (first | go_values | go_skip | go_guarded | go_step)
    refine wpList_neqS' (by kernel_rfl) (.tmp 258) (.tmp 259) rfl s (0, 0, 0) rfl rfl false (by rw [HQ.out]; rfl) ?_
    go_wp2_with (refine wpList_neqC (by kernel_rfl) (.tmp 262) (.tmp 263) rfl b (37, a, (n2 : Int), (n3 : Int), (n4 : Int)) rfl rfl true (by rw [HT.out]; rfl) ?_)
    go_ret2
    exact ⟨_, by rw [HP.out]; rfl, LL.out, by rw [rtL, HP.out]; exact Bs.nil _⟩
  | true =>
    have HP : Hid (rtB (37, a, (n2 : Int), (n3 : Int), (n4 : Int)) D = true) := by rw [Hid, HR.out, hq, hr]; rfl
    have HT := hide hr
    clear HR hq hr
    iterate 12 (first | go_values | go_skip | go_guarded | go_step)
    refine wpList_neqS' (by kernel_rfl) (.tmp 258) (.tmp 259) rfl s (0, 0, 0) rfl rfl false (by rw [HQ.out]; rfl) ?_
    go_wp2_with (refine wpList_neqC (by kernel_rfl) (.tmp 262) (.tmp 263) rfl b (37, a, (n2 : Int), (n3 : Int), (n4 : Int)) rfl rfl false (by rw [HT.out]; rfl) ?_)
    go_ret2
    exact ⟨_, by rw [HP.out]; rfl, LL.out, by rw [rtL, HP.out]; exact HS.out⟩
end Go.Proofs.Ytccdgpadjfjoeaa
