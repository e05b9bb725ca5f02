import Derived.Test.YtccdgpadjfjoeaaMAS
namespace Go.Proofs.Ytccdgpadjfjoeaa
open Go.ChangeShapes Go.WideShapes Go.ChangeAt Go.RowKit
set_option linter.unusedVariables false
set_option linter.unusedSimpArgs false

set_option maxRecDepth 20000 in
set_option maxHeartbeats 2000000 in
theorem rbytes_136y (a n2 n3 n4 : Nat) (ha : a ≤ 18446744073709551615) (h2 : n2 ≤ 9223372036854775807) (h3 : n3 ≤ 255) (h4 : n4 ≤ 3) (hb : ((n4 : Int) == 1) = true) (D : List UInt8) (hD : D = (over (over (initB 136) 2 (putBe a 8)) 10 (putBe n2 4)).set 1 8) : IRB (136, a, (n2 : Int), (n3 : Int), (n4 : Int)) D := by
  intro w
  have HD := hide hD
  clear hD
  have hc := show classI 136 = 1 from rfl
  have q2 : decide ((n2 : Int) < 0) = false := by simp
  have q3 : decide ((n3 : Int) < 0) = false := by simp
  have q4 : decide ((n4 : Int) < 0) = false := by simp
  have q5 : decide (3 < (n4 : Int)) = false := by simp; omega
  have q6 : decide (255 < (n3 : Int)) = false := by simp; omega
  have z2 := wru_of (x := (n2 : Int)) (by omega)
  have m1 := tm2
  have m4 := tm64
  have v1 := wr8_of (x := (n4 : Int) % 2) (by omega)
  have v2 := wr8_of (x := (n3 : Int)) (by omega)
  have v3 := wr8_of (x := (n4 : Int)) (by omega)
  have v4 := wr_of (x := (n4 : Int) * 64) (by omega)
  have v5 := wr_of (x := (n3 : Int) % 64 + (n4 : Int) * 64) (by omega)
  have v6 := wr8_of (x := (n3 : Int) % 64 + (n4 : Int) * 64) (by omega)
  have BX := hide (Box.new w 26 #[.int .i64 136, .int .u64 (a : Int), .int .i64 (n2 : Int), .int .i64 (n3 : Int), .int .i64 (n4 : Int)])
  have LL := hide ((Later.refl w).alloc (.cells #[.int .i64 136, .int .u64 (a : Int), .int .i64 (n2 : Int), .int .i64 (n3 : Int), .int .i64 (n4 : Int)] 26))
  go_enter Try.func17, Try.ntmps17
  go_wp2_with fail
  generalize (w.alloc (.cells #[.int .i64 136, .int .u64 (a : Int), .int .i64 (n2 : Int), .int .i64 (n3 : Int), .int .i64 (n4 : Int)] 26)) = w1 at *
  refine (rknown_c 136 _).mono ?_
  rintro e w2 ⟨rfl, hl⟩
  rw [show knownB 136 = true from rfl]
  replace BX := hide (BX.out.later hl)
  replace LL := hide (LL.out.trans hl)
  clear hl
  have xx0 := BX.out.cell 0
  have xx1 := BX.out.cell 1
  have xx2 := BX.out.cell 2
  have xx3 := BX.out.cell 3
  have xx4 := BX.out.cell 4
  go_wp2_with fail
  clear xx0 xx1 xx2 xx3 xx4 q2 q3 q4 q5 q6
  refine (rsize_c 136 _).mono ?_
  rintro e w4 ⟨rfl, hl⟩
  rw [show sizeN 136 = 16 from rfl]
  replace BX := hide (BX.out.later hl)
  replace LL := hide (LL.out.trans hl)
  clear hl
  go_wp2_with (refine wpList_makeB rfl (.tmp 38) (.tmp 38) rfl 16 rfl rfl (by omega) ?_)
  intro g w5 hB hl hg
  have hgF : Hid (w.heap.size < g) := by rw [Hid, hg.out]; exact BX.out.lt
  replace BX := hide (BX.out.later hl)
  replace LL := hide (LL.out.trans hl)
  have BB := hide hB
  clear hl hg hB
  have xx0 := BX.out.cell 0
  go_wp2_with (refine wpList_storeB rfl 5 (.tmp 44) (.tmp 43) rfl g 0 rfl _ rfl Try.info1_u8 _ _ BB.out (by simp) (b8 136) (by rfl) ?_)
  intro w6 hB hw
  clear xx0
  replace BX := hide (BX.out.apart g (by have := hgF.out; omega) [.int .u8 136] 0)
  replace LL := hide (LL.out.setCells (g := g) (by have := hgF.out; omega) [.int .u8 136] 0)
  rw [← hw.out] at BX LL
  have HN : Hid ((initB 136).length = 16) := initB_length 136
  replace BB : Hid (Box w6 g 5 (bv (initB 136))) := hB
  clear hB hw
  have xx0 := BX.out.cell 0
  have xx1 := BX.out.cell 1
  have xx2 := BX.out.cell 2
  have xx3 := BX.out.cell 3
  have xx4 := BX.out.cell 4
  go_wp2_with
    (go_at_call 15; refine (rclass_c _ _).mono ?_; rintro e w' ⟨rfl, hw⟩; have hw2 := hw.symm; subst hw2)
  refine (rlay_c g 16 2 8 a _ _ BB.out HN.out (by omega) (by omega) ha).mono ?_
  rintro e w7 ⟨rfl, hbl, hB⟩
  clear xx0 xx1 xx2 xx3 xx4
  replace BX := hide (BX.out.below hbl (by have := hgF.out; omega))
  replace LL : Hid (Later w w7) := Below.trans LL.out (Below.mono hbl (by have := hgF.out; omega))
  replace HN := hide ((over_length _ 2 (putBe a 8) (by rw [putBe_length, HN.out]; omega)).trans HN.out)
  replace BB := hide hB
  clear hbl hB
  have xx0 := BX.out.cell 0
  have xx1 := BX.out.cell 1
  have xx2 := BX.out.cell 2
  have xx3 := BX.out.cell 3
  have xx4 := BX.out.cell 4
  go_wp2_with
    (go_at_call 15; refine (rclass_c _ _).mono ?_; rintro e w' ⟨rfl, hw⟩; have hw2 := hw.symm; subst hw2)
  refine (rlay_c g 16 10 4 n2 _ _ BB.out HN.out (by omega) (by omega) (by omega)).mono ?_
  rintro e w7 ⟨rfl, hbl, hB⟩
  clear xx0 xx1 xx2 xx3 xx4
  replace BX := hide (BX.out.below hbl (by have := hgF.out; omega))
  replace LL : Hid (Later w w7) := Below.trans LL.out (Below.mono hbl (by have := hgF.out; omega))
  replace HN := hide ((over_length _ 10 (putBe n2 4) (by rw [putBe_length, HN.out]; omega)).trans HN.out)
  replace BB := hide hB
  clear hbl hB
  have xx0 := BX.out.cell 0
  have xx1 := BX.out.cell 1
  have xx2 := BX.out.cell 2
  have xx3 := BX.out.cell 3
  have xx4 := BX.out.cell 4
  go_wp2_with (first | (go_at_call 15; refine (rclass_c _ _).mono ?_; rintro e w' ⟨rfl, hw⟩; have hw2 := hw.symm; subst hw2) | (refine wpList_storeB rfl 5 (.tmp 118) (.const (.int .u8 8)) rfl g 1 rfl 8 rfl Try.info1_u8 _ _ BB.out (by rw [HN.out]; omega) 8 rfl ?_))
  intro w6 hB hw
  clear xx0 xx1 xx2 xx3 xx4
  replace BX := hide (BX.out.apart g (by have := hgF.out; omega) [.int .u8 8] 1)
  replace LL := hide (LL.out.setCells (g := g) (by have := hgF.out; omega) [.int .u8 8] 1)
  rw [← hw.out] at BX LL
  replace HN := hide (len_set 1 8 HN.out)
  replace BB := hide hB
  clear hB hw
  have xx0 := BX.out.cell 0
  have xx1 := BX.out.cell 1
  have xx2 := BX.out.cell 2
  have xx3 := BX.out.cell 3
  have xx4 := BX.out.cell 4
  go_wp2_with
    (go_at_call 15; refine (rclass_c _ _).mono ?_; rintro e w' ⟨rfl, hw⟩; have hw2 := hw.symm; subst hw2)
  rw [← HD.out] at BB HN
  have HS := hide (bs_of_box BB.out rfl HN.out (by omega))
  clear HD BB HN
  refine (rparse6_c _ HS.out).mono ?_
  rintro e w8 ⟨rfl, hl⟩
  clear xx0 xx1 xx2 xx3 xx4
  replace BX := hide (BX.out.later hl)
  replace LL := hide (LL.out.trans hl)
  replace HS := hide (HS.out.later hl)
  clear hl hgF
  have HR : Hid (rtB (136, a, (n2 : Int), (n3 : Int), (n4 : Int)) D = ((parseR D).2 == ((0, 0, 0) : Sns) && (parseR D).1 == ((136, a, (n2 : Int), (n3 : Int), (n4 : Int)) : Cmd))) := rfl
  generalize hpd : parseR D = pd at *
  clear hpd
  obtain ⟨b, s⟩ := pd
  simp only at HR ⊢
  go_wp2_with (refine wpList_newCS rfl rfl rfl rfl rfl rfl 5 6 rfl rfl (by simp) (by simp) (by decide) (.tmp 256) (.tmp 257) (by simp) (by simp) (by simp) (by simp) rfl rfl rfl rfl b s rfl rfl ?_)
  intro gC gS w9 hB1 hB2 hl hg
  replace BX := hide (BX.out.later hl)
  replace LL := hide (LL.out.trans hl)
  replace HS := hide (HS.out.later hl)
  have BC := hide hB1
  have BS := hide hB2
  clear hl hg hB1 hB2
  have xx0 := BX.out.cell 0
  have xx1 := BX.out.cell 1
  have xx2 := BX.out.cell 2
  have xx3 := BX.out.cell 3
  have xx4 := BX.out.cell 4
  have cx0 := BC.out.cell 0
  have cx1 := BC.out.cell 1
  have cx2 := BC.out.cell 2
  have cx3 := BC.out.cell 3
  have cx4 := BC.out.cell 4
  have sx0 := BS.out.cell 0
  have sx1 := BS.out.cell 1
  have sx2 := BS.out.cell 2
  cases hq : (s == ((0, 0, 0) : Sns)) with
  | false =>
    have HP : Hid (rtB (136, a, (n2 : Int), (n3 : Int), (n4 : Int)) D = false) := by rw [Hid, HR.out, hq]; rfl
    have HQ := hide hq
    clear HR hq
    iterate 12 (first | go_values | go_skip | go_guarded | go_step)
    refine wpList_neqS' (by kernel_rfl) (.tmp 258) (.tmp 259) rfl s (0, 0, 0) rfl rfl true (by rw [HQ.out]; rfl) ?_
    go_wp2
    go_ret2
    exact ⟨_, by rw [HP.out]; rfl, LL.out, by rw [rtL, HP.out]; exact Bs.nil _⟩
  | true =>
  have HQ := hide hq
  cases hr : (b == ((136, a, (n2 : Int), (n3 : Int), (n4 : Int)) : Cmd)) with
  | false =>
    have HP : Hid (rtB (136, a, (n2 : Int), (n3 : Int), (n4 : Int)) D = false) := by rw [Hid, HR.out, hq, hr]; rfl
    have HT := hide hr
    clear HR hq hr
    iterate 12 (first | go_values | go_skip | go_guarded | go_step)
    refine wpList_neqS' (by kernel_rfl) (.tmp 258) (.tmp 259) rfl s (0, 0, 0) rfl rfl false (by rw [HQ.out]; rfl) ?_
    go_wp2_with (refine wpList_neqC (by kernel_rfl) (.tmp 262) (.tmp 263) rfl b (136, a, (n2 : Int), (n3 : Int), (n4 : Int)) rfl rfl true (by rw [HT.out]; rfl) ?_)
    go_ret2
    exact ⟨_, by rw [HP.out]; rfl, LL.out, by rw [rtL, HP.out]; exact Bs.nil _⟩
  | true =>
    have HP : Hid (rtB (136, a, (n2 : Int), (n3 : Int), (n4 : Int)) D = true) := by rw [Hid, HR.out, hq, hr]; rfl
    have HT := hide hr
    clear HR hq hr
    iterate 12 (first | go_values | go_skip | go_guarded | go_step)
    refine wpList_neqS' (by kernel_rfl) (.tmp 258) (.tmp 259) rfl s (0, 0, 0) rfl rfl false (by rw [HQ.out]; rfl) ?_
    go_wp2_with (refine wpList_neqC (by kernel_rfl) (.tmp 262) (.tmp 263) rfl b (136, a, (n2 : Int), (n3 : Int), (n4 : Int)) rfl rfl false (by rw [HT.out]; rfl) ?_)
    go_ret2
    exact ⟨_, by rw [HP.out]; rfl, LL.out, by rw [rtL, HP.out]; exact HS.out⟩
set_option maxRecDepth 20000 in
set_option maxHeartbeats 2000000 in
theorem rbytes_175x (a n2 n3 n4 : Nat) (ha : a ≤ 18446744073709551615) (h2 : n2 ≤ 9223372036854775807) (h3 : n3 ≤ 255) (h4 : n4 ≤ 3) (hb : ((n4 : Int) == 1) = false) (D : List UInt8) (hD : D = over (over (initB 175) 2 (putBe a 4)) 6 (putBe n2 4)) : IRB (175, a, (n2 : Int), (n3 : Int), (n4 : Int)) D := by
  intro w
  have HD := hide hD
  clear hD
  have hc := show classI 175 = 3 from rfl
  have q2 : decide ((n2 : Int) < 0) = false := by simp
  have q3 : decide ((n3 : Int) < 0) = false := by simp
  have q4 : decide ((n4 : Int) < 0) = false := by simp
  have q5 : decide (3 < (n4 : Int)) = false := by simp; omega
  have q6 : decide (255 < (n3 : Int)) = false := by simp; omega
  have z2 := wru_of (x := (n2 : Int)) (by omega)
  have m1 := tm2
  have m4 := tm64
  have v1 := wr8_of (x := (n4 : Int) % 2) (by omega)
  have v2 := wr8_of (x := (n3 : Int)) (by omega)
  have v3 := wr8_of (x := (n4 : Int)) (by omega)
  have v4 := wr_of (x := (n4 : Int) * 64) (by omega)
  have v5 := wr_of (x := (n3 : Int) % 64 + (n4 : Int) * 64) (by omega)
  have v6 := wr8_of (x := (n3 : Int) % 64 + (n4 : Int) * 64) (by omega)
  have BX := hide (Box.new w 26 #[.int .i64 175, .int .u64 (a : Int), .int .i64 (n2 : Int), .int .i64 (n3 : Int), .int .i64 (n4 : Int)])
  have LL := hide ((Later.refl w).alloc (.cells #[.int .i64 175, .int .u64 (a : Int), .int .i64 (n2 : Int), .int .i64 (n3 : Int), .int .i64 (n4 : Int)] 26))
  go_enter Try.func17, Try.ntmps17
  go_wp2_with fail
  generalize (w.alloc (.cells #[.int .i64 175, .int .u64 (a : Int), .int .i64 (n2 : Int), .int .i64 (n3 : Int), .int .i64 (n4 : Int)] 26)) = w1 at *
  refine (rknown_c 175 _).mono ?_
  rintro e w2 ⟨rfl, hl⟩
  rw [show knownB 175 = true from rfl]
  replace BX := hide (BX.out.later hl)
  replace LL := hide (LL.out.trans hl)
  clear hl
  have xx0 := BX.out.cell 0
  have xx1 := BX.out.cell 1
  have xx2 := BX.out.cell 2
  have xx3 := BX.out.cell 3
  have xx4 := BX.out.cell 4
  go_wp2_with fail
  clear xx0 xx1 xx2 xx3 xx4 q2 q3 q4 q5 q6
  refine (rsize_c 175 _).mono ?_
  rintro e w4 ⟨rfl, hl⟩
  rw [show sizeN 175 = 12 from rfl]
  replace BX := hide (BX.out.later hl)
  replace LL := hide (LL.out.trans hl)
  clear hl
  go_wp2_with (refine wpList_makeB rfl (.tmp 38) (.tmp 38) rfl 12 rfl rfl (by omega) ?_)
  intro g w5 hB hl hg
  have hgF : Hid (w.heap.size < g) := by rw [Hid, hg.out]; exact BX.out.lt
  replace BX := hide (BX.out.later hl)
  replace LL := hide (LL.out.trans hl)
  have BB := hide hB
  clear hl hg hB
  have xx0 := BX.out.cell 0
  go_wp2_with (refine wpList_storeB rfl 5 (.tmp 44) (.tmp 43) rfl g 0 rfl _ rfl Try.info1_u8 _ _ BB.out (by simp) (b8 175) (by rfl) ?_)
  intro w6 hB hw
  clear xx0
  replace BX := hide (BX.out.apart g (by have := hgF.out; omega) [.int .u8 175] 0)
  replace LL := hide (LL.out.setCells (g := g) (by have := hgF.out; omega) [.int .u8 175] 0)
  rw [← hw.out] at BX LL
  have HN : Hid ((initB 175).length = 12) := initB_length 175
  replace BB : Hid (Box w6 g 5 (bv (initB 175))) := hB
  clear hB hw
  have xx0 := BX.out.cell 0
  have xx1 := BX.out.cell 1
  have xx2 := BX.out.cell 2
  have xx3 := BX.out.cell 3
  have xx4 := BX.out.cell 4
  go_wp2_with
    (go_at_call 15; refine (rclass_c _ _).mono ?_; rintro e w' ⟨rfl, hw⟩; have hw2 := hw.symm; subst hw2)
  refine (rlay_c g 12 2 4 a _ _ BB.out HN.out (by omega) (by omega) ha).mono ?_
  rintro e w7 ⟨rfl, hbl, hB⟩
  clear xx0 xx1 xx2 xx3 xx4
  replace BX := hide (BX.out.below hbl (by have := hgF.out; omega))
  replace LL : Hid (Later w w7) := Below.trans LL.out (Below.mono hbl (by have := hgF.out; omega))
  replace HN := hide ((over_length _ 2 (putBe a 4) (by rw [putBe_length, HN.out]; omega)).trans HN.out)
  replace BB := hide hB
  clear hbl hB
  have xx0 := BX.out.cell 0
  have xx1 := BX.out.cell 1
  have xx2 := BX.out.cell 2
  have xx3 := BX.out.cell 3
  have xx4 := BX.out.cell 4
  go_wp2_with
    (go_at_call 15; refine (rclass_c _ _).mono ?_; rintro e w' ⟨rfl, hw⟩; have hw2 := hw.symm; subst hw2)
  refine (rlay_c g 12 6 4 n2 _ _ BB.out HN.out (by omega) (by omega) (by omega)).mono ?_
  rintro e w7 ⟨rfl, hbl, hB⟩
  clear xx0 xx1 xx2 xx3 xx4
  replace BX := hide (BX.out.below hbl (by have := hgF.out; omega))
  replace LL : Hid (Later w w7) := Below.trans LL.out (Below.mono hbl (by have := hgF.out; omega))
  replace HN := hide ((over_length _ 6 (putBe n2 4) (by rw [putBe_length, HN.out]; omega)).trans HN.out)
  replace BB := hide hB
  clear hbl hB
  have xx0 := BX.out.cell 0
  have xx1 := BX.out.cell 1
  have xx2 := BX.out.cell 2
  have xx3 := BX.out.cell 3
  have xx4 := BX.out.cell 4
  go_wp2_with
    (go_at_call 15; refine (rclass_c _ _).mono ?_; rintro e w' ⟨rfl, hw⟩; have hw2 := hw.symm; subst hw2)
  rw [← HD.out] at BB HN
  have HS := hide (bs_of_box BB.out rfl HN.out (by omega))
  clear HD BB HN
  refine (rparse6_c _ HS.out).mono ?_
  rintro e w8 ⟨rfl, hl⟩
  clear xx0 xx1 xx2 xx3 xx4
  replace BX := hide (BX.out.later hl)
  replace LL := hide (LL.out.trans hl)
  replace HS := hide (HS.out.later hl)
  clear hl hgF
  have HR : Hid (rtB (175, a, (n2 : Int), (n3 : Int), (n4 : Int)) D = ((parseR D).2 == ((0, 0, 0) : Sns) && (parseR D).1 == ((175, a, (n2 : Int), (n3 : Int), (n4 : Int)) : Cmd))) := rfl
  generalize hpd : parseR D = pd at *
  clear hpd
  obtain ⟨b, s⟩ := pd
  simp only at HR ⊢
  go_wp2_with (refine wpList_newCS rfl rfl rfl rfl rfl rfl 5 6 rfl rfl (by simp) (by simp) (by decide) (.tmp 256) (.tmp 257) (by simp) (by simp) (by simp) (by simp) rfl rfl rfl rfl b s rfl rfl ?_)
  intro gC gS w9 hB1 hB2 hl hg
  replace BX := hide (BX.out.later hl)
  replace LL := hide (LL.out.trans hl)
  replace HS := hide (HS.out.later hl)
  have BC := hide hB1
  have BS := hide hB2
  clear hl hg hB1 hB2
  have xx0 := BX.out.cell 0
  have xx1 := BX.out.cell 1
  have xx2 := BX.out.cell 2
  have xx3 := BX.out.cell 3
  have xx4 := BX.out.cell 4
  have cx0 := BC.out.cell 0
  have cx1 := BC.out.cell 1
  have cx2 := BC.out.cell 2
  have cx3 := BC.out.cell 3
  have cx4 := BC.out.cell 4
  have sx0 := BS.out.cell 0
  have sx1 := BS.out.cell 1
  have sx2 := BS.out.cell 2
  cases hq : (s == ((0, 0, 0) : Sns)) with
  | false =>
    have HP : Hid (rtB (175, a, (n2 : Int), (n3 : Int), (n4 : Int)) D = false) := by rw [Hid, HR.out, hq]; rfl
    have HQ := hide hq
    clear HR hq
    iterate 12 (first | go_values | go_skip | go_guarded | go_step)
    refine wpList_neqS' (by kernel_rfl) (.tmp 258) (.tmp 259) rfl s (0, 0, 0) rfl rfl true (by rw [HQ.out]; rfl) ?_
    go_wp2
    go_ret2
    exact ⟨_, by rw [HP.out]; rfl, LL.out, by rw [rtL, HP.out]; exact Bs.nil _⟩
  | true =>
  have HQ := hide hq
  cases hr : (b == ((175, a, (n2 : Int), (n3 : Int), (n4 : Int)) : Cmd)) with
  | false =>
    have HP : Hid (rtB (175, a, (n2 : Int), (n3 : Int), (n4 : Int)) D = false) := by rw [Hid, HR.out, hq, hr]; rfl
    have HT := hide hr
    clear HR hq hr
    iterate 12 (first | go_values | go_skip | go_guarded | go_step)
    refine wpList_neqS' (by kernel_rfl) (.tmp 258) (.tmp 259) rfl s (0, 0, 0) rfl rfl false (by rw [HQ.out]; rfl) ?_
    go_wp2_with (refine wpList_neqC (by kernel_rfl) (.tmp 262) (.tmp 263) rfl b (175, a, (n2 : Int), (n3 : Int), (n4 : Int)) rfl rfl true (by rw [HT.out]; rfl) ?_)
    go_ret2
    exact ⟨_, by rw [HP.out]; rfl, LL.out, by rw [rtL, HP.out]; exact Bs.nil _⟩
  | true =>
    have HP : Hid (rtB (175, a, (n2 : Int), (n3 : Int), (n4 : Int)) D = true) := by rw [Hid, HR.out, hq, hr]; rfl
    have HT := hide hr
    clear HR hq hr
    iterate 12 (first | go_values | go_skip | go_guarded | go_step)
    refine wpList_neqS' (by kernel_rfl) (.tmp 258) (.tmp 259) rfl s (0, 0, 0) rfl rfl false (by rw [HQ.out]; rfl) ?_
    go_wp2_with (refine wpList_neqC (by kernel_rfl) (.tmp 262) (.tmp 263) rfl b (175, a, (n2 : Int), (n3 : Int), (n4 : Int)) rfl rfl false (by rw [HT.out]; rfl) ?_)
    go_ret2
    exact ⟨_, by rw [HP.out]; rfl, LL.out, by rw [rtL, HP.out]; exact HS.out⟩
set_option maxRecDepth 20000 in
set_option maxHeartbeats 2000000 in
theorem rbytes_168y (a n2 n3 n4 : Nat) (ha : a ≤ 18446744073709551615) (h2 : n2 ≤ 9223372036854775807) (h3 : n3 ≤ 255) (h4 : n4 ≤ 3) (hb : ((n4 : Int) == 1) = true) (D : List UInt8) (hD : D = (over (over (initB 168) 2 (putBe a 4)) 6 (putBe n2 4)).set 1 8) : IRB (168, a, (n2 : Int), (n3 : Int), (n4 : Int)) D := by
  intro w
  have HD := hide hD
  clear hD
  have hc := show classI 168 = 1 from rfl
  have q2 : decide ((n2 : Int) < 0) = false := by simp
  have q3 : decide ((n3 : Int) < 0) = false := by simp
  have q4 : decide ((n4 : Int) < 0) = false := by simp
  have q5 : decide (3 < (n4 : Int)) = false := by simp; omega
  have q6 : decide (255 < (n3 : Int)) = false := by simp; omega
  have z2 := wru_of (x := (n2 : Int)) (by omega)
  have m1 := tm2
  have m4 := tm64
  have v1 := wr8_of (x := (n4 : Int) % 2) (by omega)
  have v2 := wr8_of (x := (n3 : Int)) (by omega)
  have v3 := wr8_of (x := (n4 : Int)) (by omega)
  have v4 := wr_of (x := (n4 : Int) * 64) (by omega)
  have v5 := wr_of (x := (n3 : Int) % 64 + (n4 : Int) * 64) (by omega)
  have v6 := wr8_of (x := (n3 : Int) % 64 + (n4 : Int) * 64) (by omega)
  have BX := hide (Box.new w 26 #[.int .i64 168, .int .u64 (a : Int), .int .i64 (n2 : Int), .int .i64 (n3 : Int), .int .i64 (n4 : Int)])
  have LL := hide ((Later.refl w).alloc (.cells #[.int .i64 168, .int .u64 (a : Int), .int .i64 (n2 : Int), .int .i64 (n3 : Int), .int .i64 (n4 : Int)] 26))
  go_enter Try.func17, Try.ntmps17
  go_wp2_with fail
  generalize (w.alloc (.cells #[.int .i64 168, .int .u64 (a : Int), .int .i64 (n2 : Int), .int .i64 (n3 : Int), .int .i64 (n4 : Int)] 26)) = w1 at *
  refine (rknown_c 168 _).mono ?_
  rintro e w2 ⟨rfl, hl⟩
  rw [show knownB 168 = true from rfl]
  replace BX := hide (BX.out.later hl)
  replace LL := hide (LL.out.trans hl)
  clear hl
  have xx0 := BX.out.cell 0
  have xx1 := BX.out.cell 1
  have xx2 := BX.out.cell 2
  have xx3 := BX.out.cell 3
  have xx4 := BX.out.cell 4
  go_wp2_with fail
  clear xx0 xx1 xx2 xx3 xx4 q2 q3 q4 q5 q6
  refine (rsize_c 168 _).mono ?_
  rintro e w4 ⟨rfl, hl⟩
  rw [show sizeN 168 = 12 from rfl]
  replace BX := hide (BX.out.later hl)
  replace LL := hide (LL.out.trans hl)
  clear hl
  go_wp2_with (refine wpList_makeB rfl (.tmp 38) (.tmp 38) rfl 12 rfl rfl (by omega) ?_)
  intro g w5 hB hl hg
  have hgF : Hid (w.heap.size < g) := by rw [Hid, hg.out]; exact BX.out.lt
  replace BX := hide (BX.out.later hl)
  replace LL := hide (LL.out.trans hl)
  have BB := hide hB
  clear hl hg hB
  have xx0 := BX.out.cell 0
  go_wp2_with (refine wpList_storeB rfl 5 (.tmp 44) (.tmp 43) rfl g 0 rfl _ rfl Try.info1_u8 _ _ BB.out (by simp) (b8 168) (by rfl) ?_)
  intro w6 hB hw
  clear xx0
  replace BX := hide (BX.out.apart g (by have := hgF.out; omega) [.int .u8 168] 0)
  replace LL := hide (LL.out.setCells (g := g) (by have := hgF.out; omega) [.int .u8 168] 0)
  rw [← hw.out] at BX LL
  have HN : Hid ((initB 168).length = 12) := initB_length 168
  replace BB : Hid (Box w6 g 5 (bv (initB 168))) := hB
  clear hB hw
  have xx0 := BX.out.cell 0
  have xx1 := BX.out.cell 1
  have xx2 := BX.out.cell 2
  have xx3 := BX.out.cell 3
  have xx4 := BX.out.cell 4
  go_wp2_with
    (go_at_call 15; refine (rclass_c _ _).mono ?_; rintro e w' ⟨rfl, hw⟩; have hw2 := hw.symm; subst hw2)
  refine (rlay_c g 12 2 4 a _ _ BB.out HN.out (by omega) (by omega) ha).mono ?_
  rintro e w7 ⟨rfl, hbl, hB⟩
  clear xx0 xx1 xx2 xx3 xx4
  replace BX := hide (BX.out.below hbl (by have := hgF.out; omega))
  replace LL : Hid (Later w w7) := Below.trans LL.out (Below.mono hbl (by have := hgF.out; omega))
  replace HN := hide ((over_length _ 2 (putBe a 4) (by rw [putBe_length, HN.out]; omega)).trans HN.out)
  replace BB := hide hB
  clear hbl hB
  have xx0 := BX.out.cell 0
  have xx1 := BX.out.cell 1
  have xx2 := BX.out.cell 2
  have xx3 := BX.out.cell 3
  have xx4 := BX.out.cell 4
  go_wp2_with
    (go_at_call 15; refine (rclass_c _ _).mono ?_; rintro e w' ⟨rfl, hw⟩; have hw2 := hw.symm; subst hw2)
  refine (rlay_c g 12 6 4 n2 _ _ BB.out HN.out (by omega) (by omega) (by omega)).mono ?_
  rintro e w7 ⟨rfl, hbl, hB⟩
  clear xx0 xx1 xx2 xx3 xx4
  replace BX := hide (BX.out.below hbl (by have := hgF.out; omega))
  replace LL : Hid (Later w w7) := Below.trans LL.out (Below.mono hbl (by have := hgF.out; omega))
  replace HN := hide ((over_length _ 6 (putBe n2 4) (by rw [putBe_length, HN.out]; omega)).trans HN.out)
  replace BB := hide hB
  clear hbl hB
  have xx0 := BX.out.cell 0
  have xx1 := BX.out.cell 1
  have xx2 := BX.out.cell 2
  have xx3 := BX.out.cell 3
  have xx4 := BX.out.cell 4
  go_wp2_with (first | (go_at_call 15; refine (rclass_c _ _).mono ?_; rintro e w' ⟨rfl, hw⟩; have hw2 := hw.symm; subst hw2) | (refine wpList_storeB rfl 5 (.tmp 118) (.const (.int .u8 8)) rfl g 1 rfl 8 rfl Try.info1_u8 _ _ BB.out (by rw [HN.out]; omega) 8 rfl ?_))
  intro w6 hB hw
  clear xx0 xx1 xx2 xx3 xx4
  replace BX := hide (BX.out.apart g (by have := hgF.out; omega) [.int .u8 8] 1)
  replace LL := hide (LL.out.setCells (g := g) (by have := hgF.out; omega) [.int .u8 8] 1)
  rw [← hw.out] at BX LL
  replace HN := hide (len_set 1 8 HN.out)
  replace BB := hide hB
  clear hB hw
  have xx0 := BX.out.cell 0
  have xx1 := BX.out.cell 1
  have xx2 := BX.out.cell 2
  have xx3 := BX.out.cell 3
  have xx4 := BX.out.cell 4
  go_wp2_with
    (go_at_call 15; refine (rclass_c _ _).mono ?_; rintro e w' ⟨rfl, hw⟩; have hw2 := hw.symm; subst hw2)
  rw [← HD.out] at BB HN
  have HS := hide (bs_of_box BB.out rfl HN.out (by omega))
  clear HD BB HN
  refine (rparse6_c _ HS.out).mono ?_
  rintro e w8 ⟨rfl, hl⟩
  clear xx0 xx1 xx2 xx3 xx4
  replace BX := hide (BX.out.later hl)
  replace LL := hide (LL.out.trans hl)
  replace HS := hide (HS.out.later hl)
  clear hl hgF
  have HR : Hid (rtB (168, a, (n2 : Int), (n3 : Int), (n4 : Int)) D = ((parseR D).2 == ((0, 0, 0) : Sns) && (parseR D).1 == ((168, a, (n2 : Int), (n3 : Int), (n4 : Int)) : Cmd))) := rfl
  generalize hpd : parseR D = pd at *
  clear hpd
  obtain ⟨b, s⟩ := pd
  simp only at HR ⊢
  go_wp2_with (refine wpList_newCS rfl rfl rfl rfl rfl rfl 5 6 rfl rfl (by simp) (by simp) (by decide) (.tmp 256) (.tmp 257) (by simp) (by simp) (by simp) (by simp) rfl rfl rfl rfl b s rfl rfl ?_)
  intro gC gS w9 hB1 hB2 hl hg
  replace BX := hide (BX.out.later hl)
  replace LL := hide (LL.out.trans hl)
  replace HS := hide (HS.out.later hl)
  have BC := hide hB1
  have BS := hide hB2
  clear hl hg hB1 hB2
  have xx0 := BX.out.cell 0
  have xx1 := BX.out.cell 1
  have xx2 := BX.out.cell 2
  have xx3 := BX.out.cell 3
  have xx4 := BX.out.cell 4
  have cx0 := BC.out.cell 0
  have cx1 := BC.out.cell 1
  have cx2 := BC.out.cell 2
  have cx3 := BC.out.cell 3
  have cx4 := BC.out.cell 4
  have sx0 := BS.out.cell 0
  have sx1 := BS.out.cell 1
  have sx2 := BS.out.cell 2
  cases hq : (s == ((0, 0, 0) : Sns)) with
  | false =>
    have HP : Hid (rtB (168, a, (n2 : Int), (n3 : Int), (n4 : Int)) D = false) := by rw [Hid, HR.out, hq]; rfl
    have HQ := hide hq
    clear HR hq
    iterate 12 (first | go_values | go_skip | go_guarded | go_step)
    refine wpList_neqS' (by kernel_rfl) (.tmp 258) (.tmp 259) rfl s (0, 0, 0) rfl rfl true (by rw [HQ.out]; rfl) ?_
    go_wp2
    go_ret2
    exact ⟨_, by rw [HP.out]; rfl, LL.out, by rw [rtL, HP.out]; exact Bs.nil _⟩
  | true =>
  have HQ := hide hq
  cases hr : (b == ((168, a, (n2 : Int), (n3 : Int), (n4 : Int)) : Cmd)) with
  | false =>
    have HP : Hid (rtB (168, a, (n2 : Int), (n3 : Int), (n4 : Int)) D = false) := by rw [Hid, HR.out, hq, hr]; rfl
    have HT := hide hr
    clear HR hq hr
    iterate 12 (first | go_values | go_skip | go_guarded | go_step)
    refine wpList_neqS' (by kernel_rfl) (.tmp 258) (.tmp 259) rfl s (0, 0, 0) rfl rfl false (by rw [HQ.out]; rfl) ?_
    go_wp2_with (refine wpList_neqC (by kernel_rfl) (.tmp 262) (.tmp 263) rfl b (168, a, (n2 : Int), (n3 : Int), (n4 : Int)) rfl rfl true (by rw [HT.out]; rfl) ?_)
    go_ret2
    exact ⟨_, by rw [HP.out]; rfl, LL.out, by rw [rtL, HP.out]; exact Bs.nil _⟩
  | true =>
    have HP : Hid (rtB (168, a, (n2 : Int), (n3 : Int), (n4 : Int)) D = true) := by rw [Hid, HR.out, hq, hr]; rfl
    have HT := hide hr
    clear HR hq hr
    iterate 12 (first | go_values | go_skip | go_guarded | go_step)
    refine wpList_neqS' (by kernel_rfl) (.tmp 258) (.tmp 259) rfl s (0, 0, 0) rfl rfl false (by rw [HQ.out]; rfl) ?_
    go_wp2_with (refine wpList_neqC (by kernel_rfl) (.tmp 262) (.tmp 263) rfl b (168, a, (n2 : Int), (n3 : Int), (n4 : Int)) rfl rfl false (by rw [HT.out]; rfl) ?_)
    go_ret2
    exact ⟨_, by rw [HP.out]; rfl, LL.out, by rw [rtL, HP.out]; exact HS.out⟩
set_option maxRecDepth 20000 in
set_option maxHeartbeats 2000000 in
theorem rbytes_170x (a n2 n3 n4 : Nat) (ha : a ≤ 18446744073709551615) (h2 : n2 ≤ 9223372036854775807) (h3 : n3 ≤ 255) (h4 : n4 ≤ 3) (hb : ((n4 : Int) == 1) = false) (D : List UInt8) (hD : D = over (over (initB 170) 2 (putBe a 4)) 6 (putBe n2 4)) : IRB (170, a, (n2 : Int), (n3 : Int), (n4 : Int)) D := by
  intro w
  have HD := hide hD
  clear hD
  have hc := show classI 170 = 2 from rfl
  have q2 : decide ((n2 : Int) < 0) = false := by simp
  have q3 : decide ((n3 : Int) < 0) = false := by simp
  have q4 : decide ((n4 : Int) < 0) = false := by simp
  have q5 : decide (3 < (n4 : Int)) = false := by simp; omega
  have q6 : decide (255 < (n3 : Int)) = false := by simp; omega
  have z2 := wru_of (x := (n2 : Int)) (by omega)
  have m1 := tm2
  have m4 := tm64
  have v1 := wr8_of (x := (n4 : Int) % 2) (by omega)
  have v2 := wr8_of (x := (n3 : Int)) (by omega)
  have v3 := wr8_of (x := (n4 : Int)) (by omega)
  have v4 := wr_of (x := (n4 : Int) * 64) (by omega)
  have v5 := wr_of (x := (n3 : Int) % 64 + (n4 : Int) * 64) (by omega)
  have v6 := wr8_of (x := (n3 : Int) % 64 + (n4 : Int) * 64) (by omega)
  have BX := hide (Box.new w 26 #[.int .i64 170, .int .u64 (a : Int), .int .i64 (n2 : Int), .int .i64 (n3 : Int), .int .i64 (n4 : Int)])
  have LL := hide ((Later.refl w).alloc (.cells #[.int .i64 170, .int .u64 (a : Int), .int .i64 (n2 : Int), .int .i64 (n3 : Int), .int .i64 (n4 : Int)] 26))
  go_enter Try.func17, Try.ntmps17
  go_wp2_with fail
  generalize (w.alloc (.cells #[.int .i64 170, .int .u64 (a : Int), .int .i64 (n2 : Int), .int .i64 (n3 : Int), .int .i64 (n4 : Int)] 26)) = w1 at *
  refine (rknown_c 170 _).mono ?_
  rintro e w2 ⟨rfl, hl⟩
  rw [show knownB 170 = true from rfl]
  replace BX := hide (BX.out.later hl)
  replace LL := hide (LL.out.trans hl)
  clear hl
  have xx0 := BX.out.cell 0
  have xx1 := BX.out.cell 1
  have xx2 := BX.out.cell 2
  have xx3 := BX.out.cell 3
  have xx4 := BX.out.cell 4
  go_wp2_with fail
  clear xx0 xx1 xx2 xx3 xx4 q2 q3 q4 q5 q6
  refine (rsize_c 170 _).mono ?_
  rintro e w4 ⟨rfl, hl⟩
  rw [show sizeN 170 = 12 from rfl]
  replace BX := hide (BX.out.later hl)
  replace LL := hide (LL.out.trans hl)
  clear hl
  go_wp2_with (refine wpList_makeB rfl (.tmp 38) (.tmp 38) rfl 12 rfl rfl (by omega) ?_)
  intro g w5 hB hl hg
  have hgF : Hid (w.heap.size < g) := by rw [Hid, hg.out]; exact BX.out.lt
  replace BX := hide (BX.out.later hl)
  replace LL := hide (LL.out.trans hl)
  have BB := hide hB
  clear hl hg hB
  have xx0 := BX.out.cell 0
  go_wp2_with (refine wpList_storeB rfl 5 (.tmp 44) (.tmp 43) rfl g 0 rfl _ rfl Try.info1_u8 _ _ BB.out (by simp) (b8 170) (by rfl) ?_)
  intro w6 hB hw
  clear xx0
  replace BX := hide (BX.out.apart g (by have := hgF.out; omega) [.int .u8 170] 0)
  replace LL := hide (LL.out.setCells (g := g) (by have := hgF.out; omega) [.int .u8 170] 0)
  rw [← hw.out] at BX LL
  have HN : Hid ((initB 170).length = 12) := initB_length 170
  replace BB : Hid (Box w6 g 5 (bv (initB 170))) := hB
  clear hB hw
  have xx0 := BX.out.cell 0
  have xx1 := BX.out.cell 1
  have xx2 := BX.out.cell 2
  have xx3 := BX.out.cell 3
  have xx4 := BX.out.cell 4
  go_wp2_with
    (go_at_call 15; refine (rclass_c _ _).mono ?_; rintro e w' ⟨rfl, hw⟩; have hw2 := hw.symm; subst hw2)
  refine (rlay_c g 12 2 4 a _ _ BB.out HN.out (by omega) (by omega) ha).mono ?_
  rintro e w7 ⟨rfl, hbl, hB⟩
  clear xx0 xx1 xx2 xx3 xx4
  replace BX := hide (BX.out.below hbl (by have := hgF.out; omega))
  replace LL : Hid (Later w w7) := Below.trans LL.out (Below.mono hbl (by have := hgF.out; omega))
  replace HN := hide ((over_length _ 2 (putBe a 4) (by rw [putBe_length, HN.out]; omega)).trans HN.out)
  replace BB := hide hB
  clear hbl hB
  have xx0 := BX.out.cell 0
  have xx1 := BX.out.cell 1
  have xx2 := BX.out.cell 2
  have xx3 := BX.out.cell 3
  have xx4 := BX.out.cell 4
  go_wp2_with
    (go_at_call 15; refine (rclass_c _ _).mono ?_; rintro e w' ⟨rfl, hw⟩; have hw2 := hw.symm; subst hw2)
  refine (rlay_c g 12 6 4 n2 _ _ BB.out HN.out (by omega) (by omega) (by omega)).mono ?_
  rintro e w7 ⟨rfl, hbl, hB⟩
  clear xx0 xx1 xx2 xx3 xx4
  replace BX := hide (BX.out.below hbl (by have := hgF.out; omega))
  replace LL : Hid (Later w w7) := Below.trans LL.out (Below.mono hbl (by have := hgF.out; omega))
  replace HN := hide ((over_length _ 6 (putBe n2 4) (by rw [putBe_length, HN.out]; omega)).trans HN.out)
  replace BB := hide hB
  clear hbl hB
  have xx0 := BX.out.cell 0
  have xx1 := BX.out.cell 1
  have xx2 := BX.out.cell 2
  have xx3 := BX.out.cell 3
  have xx4 := BX.out.cell 4
  go_wp2_with
    (go_at_call 15; refine (rclass_c _ _).mono ?_; rintro e w' ⟨rfl, hw⟩; have hw2 := hw.symm; subst hw2)
  rw [← HD.out] at BB HN
  have HS := hide (bs_of_box BB.out rfl HN.out (by omega))
  clear HD BB HN
  refine (rparse6_c _ HS.out).mono ?_
  rintro e w8 ⟨rfl, hl⟩
  clear xx0 xx1 xx2 xx3 xx4
  replace BX := hide (BX.out.later hl)
  replace LL := hide (LL.out.trans hl)
  replace HS := hide (HS.out.later hl)
  clear hl hgF
  have HR : Hid (rtB (170, a, (n2 : Int), (n3 : Int), (n4 : Int)) D = ((parseR D).2 == ((0, 0, 0) : Sns) && (parseR D).1 == ((170, a, (n2 : Int), (n3 : Int), (n4 : Int)) : Cmd))) := rfl
  generalize hpd : parseR D = pd at *
  clear hpd
  obtain ⟨b, s⟩ := pd
  simp only at HR ⊢
  go_wp2_with (refine wpList_newCS rfl rfl rfl rfl rfl rfl 5 6 rfl rfl (by simp) (by simp) (by decide) (.tmp 256) (.tmp 257) (by simp) (by simp) (by simp) (by simp) rfl rfl rfl rfl b s rfl rfl ?_)
  intro gC gS w9 hB1 hB2 hl hg
  replace BX := hide (BX.out.later hl)
  replace LL := hide (LL.out.trans hl)
  replace HS := hide (HS.out.later hl)
  have BC := hide hB1
  have BS := hide hB2
  clear hl hg hB1 hB2
  have xx0 := BX.out.cell 0
  have xx1 := BX.out.cell 1
  have xx2 := BX.out.cell 2
  have xx3 := BX.out.cell 3
  have xx4 := BX.out.cell 4
  have cx0 := BC.out.cell 0
  have cx1 := BC.out.cell 1
  have cx2 := BC.out.cell 2
  have cx3 := BC.out.cell 3
  have cx4 := BC.out.cell 4
  have sx0 := BS.out.cell 0
  have sx1 := BS.out.cell 1
  have sx2 := BS.out.cell 2
  cases hq : (s == ((0, 0, 0) : Sns)) with
  | false =>
    have HP : Hid (rtB (170, a, (n2 : Int), (n3 : Int), (n4 : Int)) D = false) := by rw [Hid, HR.out, hq]; rfl
    have HQ := hide hq
    clear HR hq
    iterate 12 (first | go_values | go_skip | go_guarded | go_step)
    refine wpList_neqS' (by kernel_rfl) (.tmp 258) (.tmp 259) rfl s (0, 0, 0) rfl rfl true (by rw [HQ.out]; rfl) ?_
    go_wp2
    go_ret2
    exact ⟨_, by rw [HP.out]; rfl, LL.out, by rw [rtL, HP.out]; exact Bs.nil _⟩
  | true =>
  have HQ := hide hq
  cases hr : (b == ((170, a, (n2 : Int), (n3 : Int), (n4 : Int)) : Cmd)) with
  | false =>
    have HP : Hid (rtB (170, a, (n2 : Int), (n3 : Int), (n4 : Int)) D = false) := by rw [Hid, HR.out, hq, hr]; rfl
    have HT := hide hr
    clear HR hq hr
    iterate 12 (first | go_values | go_skip | go_guarded | go_step)
    refine wpList_neqS' (by kernel_rfl) (.tmp 258) (.tmp 259) rfl s (0, 0, 0) rfl rfl false (by rw [HQ.out]; rfl) ?_
    go_wp2_with (refine wpList_neqC (by kernel_rfl) (.tmp 262) (.tmp 263) rfl b (170, a, (n2 : Int), (n3 : Int), (n4 : Int)) rfl rfl true (by rw [HT.out]; rfl) ?_)
    go_ret2
    exact ⟨_, by rw [HP.out]; rfl, LL.out, by rw [rtL, HP.out]; exact Bs.nil _⟩
  | true =>
    have HP : Hid (rtB (170, a, (n2 : Int), (n3 : Int), (n4 : Int)) D = true) := by rw [Hid, HR.out, hq, hr]; rfl
    have HT := hide hr
    clear HR hq hr
    iterate 12 (first | go_values | go_skip | go_guarded | go_step)
    refine wpList_neqS' (by kernel_rfl) (.tmp 258) (.tmp 259) rfl s (0, 0, 0) rfl rfl false (by rw [HQ.out]; rfl) ?_
    go_wp2_with (refine wpList_neqC (by kernel_rfl) (.tmp 262) (.tmp 263) rfl b (170, a, (n2 : Int), (n3 : Int), (n4 : Int)) rfl rfl false (by rw [HT.out]; rfl) ?_)
    go_ret2
    exact ⟨_, by rw [HP.out]; rfl, LL.out, by rw [rtL, HP.out]; exact HS.out⟩
end Go.Proofs.Ytccdgpadjfjoeaa
