import Derived.Test.YtccdgpadjfjoeaaWL6E
namespace Go.Proofs.Ytccdgpadjfjoeaa
open Go.ChangeShapes Go.WideShapes Go.ChangeAt Go.RowKit
set_option linter.unusedVariables false
set_option linter.unusedSimpArgs false

theorem bit1 {op : Int} (h : 6 < sizeN op ∧ classI op < 4) : (1 : Nat) = 0 ∨ ((1 : Nat) = 1 ∧ 6 < sizeN op ∧ classI op < 4) := .inr ⟨rfl, h⟩
set_option maxRecDepth 20000 in
set_option maxHeartbeats 16000000 in
theorem cdbBlocks_true (at_ n : Nat) (ha : at_ ≤ 18446744073709551615) (hn : n ≤ 4294967295) (w : World) :
    Calls Try.prog 6 #[.int .u64 (at_ : Int), .int .u32 (n : Int), .bool true] w fun e w' => e = .returned (.bool true) ∧ Below w.heap.size w w' := by
  have z1 := wr_of (x := (n : Int)) (by omega)
  have z2 := wru_of (x := (n : Int)) (by omega)
  go_enter Try.func6, Try.ntmps6
  go_wp2_with fail
  refine (alive6_c _).mono ?_
  rintro e w1 ⟨rfl, hl⟩
  have LL := hide hl
  clear hl
  go_wp2_with (refine wpList_new rfl rfl 39 rfl 7 rfl (by simp) (.tmp 18) (by simp) rfl #[.int .i64 0, .int .i64 0, .int .i64 0, .int .i64 0, .int .i64 0, .int .i64 0, .int .i64 0, .int .i64 0, .int .i64 0, .int .i64 0, .int .i64 0, .int .i64 0, .int .i64 0] (iv ops13) Try.zero_ops rfl rfl (iv_one _) ?_)
  intro g7 w2 hB hl hg
  replace LL := hide (LL.out.trans hl)
  have B7 := hide hB
  clear hl hg hB
  go_wp2_with fail
  go_loopw [8] (fun i wr => ∃ q : Nat, q ≤ 13 ∧ i = .int .i64 q ∧ Hid (Box wr g7 39 (iv ops13)) ∧ Hid (Later w wr)) (fun i _ => 13 - (intOf i).toNat)
  case atStart => exact ⟨0, by omega, rfl, B7, LL⟩
  case round =>
    clear B7 LL
    obtain ⟨q, hq, rfl, B7, LL⟩ := hrel
    by_cases hlt : q < 13
    case neg =>
      have hb : decide ((q : Int) < 13) = false := by simp; omega
      go_wp2
      go_ret
      exact ⟨rfl, LL.out⟩
    have hb : decide ((q : Int) < 13) = true := by simp; omega
    have hqL : q < ops13.length := hlt
    have k0 : wr.cell? ⟨g7, q, none⟩ = some (.int .i64 ops13[q]) := by rw [B7.out.cell q]; exact iv_get ops13 q hqL
    have HM : Hid (ops13[q] ∈ ops13) := List.getElem_mem hqL
    generalize ops13[q] = op at *
    go_wp2_with fail
    refine (size_c op _).mono ?_
    rintro e w3 ⟨rfl, hl⟩
    replace LL := hide (LL.out.trans hl)
    replace B7 := hide (B7.out.later hl)
    clear hl k0
    obtain ⟨sz, HS⟩ : ∃ s, Hid (sizeN op = s) := ⟨_, rfl⟩
    have HC : Hid (sz = 6 ∨ sz = 10 ∨ sz = 12 ∨ sz = 16) := by have := ops13_size HM.out; rw [HS.out] at this; exact this
    rw [HS.out]
    rcases HC.out with rfl | rfl | rfl | rfl
    · clear HC
      go_wp2_with (refine wpList_newC rfl rfl rfl 12 rfl (by simp) (.tmp 38) (by simp) rfl (op, at_, (n : Int), 0, 0) rfl ?_)
      intro gC w4 hB hl hg
      have hgC : Hid (w.heap.size ≤ gC ∧ g7 < gC) := by rw [Hid, hg.out.1]; exact ⟨LL.out.size, B7.out.lt⟩
      replace LL := hide (LL.out.trans hl)
      replace B7 := hide (B7.out.later hl)
      have BC := hide hB
      clear hl hg hB
      go_wp2_with fail
      refine (size_c op _).mono ?_
      rintro e w5 ⟨rfl, hl⟩
      rw [HS.out]
      replace LL := hide (LL.out.trans hl)
      replace B7 := hide (B7.out.later hl)
      replace BC := hide (BC.out.later hl)
      clear hl
      have x0 := BC.out.cell 0
      have x1 := BC.out.cell 1
      have x2 := BC.out.cell 2
      have x3 := BC.out.cell 3
      have x4 := BC.out.cell 4
      go_wp2_with fail
      refine (bytes_c (op, at_, (n : Int), 0, (0 : Nat)) _ (ops13_ok HM.out ha (by omega) (by decide))).mono ?_
      rintro e wd ⟨vd, rfl, hl, hd⟩
      replace LL := hide (LL.out.trans hl)
      replace B7 := hide (B7.out.later hl)
      have VD := hide hd
      obtain ⟨hh1, ad, cd, rfl, hh2, hh3⟩ := hd
      clear hh1 hh2 hh3
      clear hl x0 x1 x2 x3 x4
      by_cases hA : at_ ≤ 2097151
      case neg =>
        have hAb : decide ((at_ : Int) ≤ 2097151) = false := by simp; omega
        have e := ops13_no HM.out (a := at_) (n := n) (b := 0) (.inl rfl) (by rw [HS.out]; exact (fun h => hA h.1))
        have E := hide e
        clear e
        rw [E.out]
        clear VD
        generalize (bytesI (op, at_, (n : Int), 0, ((0 : Nat) : Int))).length = nd at *
        go_wp2
        exact ⟨⟨q + 1, by omega, by simp, B7, LL⟩, by simp only [intOf]; omega⟩
      have hAb : decide ((at_ : Int) ≤ 2097151) = true := by simp; omega
      by_cases hB : n ≤ 256
      case neg =>
        have hBb : decide ((n : Int) ≤ 256) = false := by simp; omega
        have e := ops13_no HM.out (a := at_) (n := n) (b := 0) (.inl rfl) (by rw [HS.out]; exact (fun h => hB h.2.1))
        have E := hide e
        clear e
        rw [E.out]
        clear VD
        generalize (bytesI (op, at_, (n : Int), 0, ((0 : Nat) : Int))).length = nd at *
        go_wp2
        exact ⟨⟨q + 1, by omega, by simp, B7, LL⟩, by simp only [intOf]; omega⟩
      have hBb : decide ((n : Int) ≤ 256) = true := by simp; omega
      by_cases hN : 0 < n
      case neg =>
        have hNb : decide ((0 : Int) < (n : Int)) = false := by simp; omega
        have e := ops13_no HM.out (a := at_) (n := n) (b := 0) (.inl rfl) (by rw [HS.out]; exact (fun h => by have := h.2.2; omega))
        have E := hide e
        clear e
        rw [E.out]
        clear VD
        generalize (bytesI (op, at_, (n : Int), 0, ((0 : Nat) : Int))).length = nd at *
        go_wp2_with fail
        refine (size_c op _).mono ?_
        rintro e wg ⟨rfl, hl⟩
        rw [HS.out]
        replace LL := hide (LL.out.trans hl)
        replace B7 := hide (B7.out.later hl)
        clear hl
        go_wp2
        exact ⟨⟨q + 1, by omega, by simp, B7, LL⟩, by simp only [intOf]; omega⟩
      have hNb : decide ((0 : Int) < (n : Int)) = true := by simp; omega
      have e := ops13_yes HM.out (a := at_) (n := n) (b := 0) (.inl rfl) (by rw [HS.out]; exact ⟨hA, hB, .inr hN⟩)
      have E := hide e.1
      have E2 := hide e.2
      clear e
      rw [E.out, E2.out, HS.out]
      clear VD E2
      go_wp2_with fail
      refine (size_c op _).mono ?_
      rintro e wg ⟨rfl, hl⟩
      rw [HS.out]
      replace LL := hide (LL.out.trans hl)
      replace B7 := hide (B7.out.later hl)
      clear hl
      go_wp2_with fail
      refine (size_c op _).mono ?_
      rintro e wf ⟨rfl, hl⟩
      rw [HS.out]
      replace LL := hide (LL.out.trans hl)
      replace B7 := hide (B7.out.later hl)
      clear hl
      go_wp2
      exact ⟨⟨q + 1, by omega, by simp, B7, LL⟩, by simp only [intOf]; omega⟩
    · clear HC
      go_wp2_with (refine wpList_newC rfl rfl rfl 12 rfl (by simp) (.tmp 38) (by simp) rfl (op, at_, (n : Int), 0, 0) rfl ?_)
      intro gC w4 hB hl hg
      have hgC : Hid (w.heap.size ≤ gC ∧ g7 < gC) := by rw [Hid, hg.out.1]; exact ⟨LL.out.size, B7.out.lt⟩
      replace LL := hide (LL.out.trans hl)
      replace B7 := hide (B7.out.later hl)
      have BC := hide hB
      clear hl hg hB
      go_wp2_with fail
      refine (size_c op _).mono ?_
      rintro e w5 ⟨rfl, hl⟩
      rw [HS.out]
      replace LL := hide (LL.out.trans hl)
      replace B7 := hide (B7.out.later hl)
      replace BC := hide (BC.out.later hl)
      clear hl
      go_wp2_with fail
      refine (class_c op _).mono ?_
      rintro e wq ⟨rfl, hw⟩
      have hw2 := hw.symm
      subst hw2
      clear hw
      obtain ⟨kk, HKK⟩ : ∃ s, Hid (classI op = s) := ⟨_, rfl⟩
      rw [HKK.out]
      by_cases hk : kk < 4
      case neg =>
        have hkb : decide (kk < 4) = false := by simp; omega
        have x0 := BC.out.cell 0
        have x1 := BC.out.cell 1
        have x2 := BC.out.cell 2
        have x3 := BC.out.cell 3
        have x4 := BC.out.cell 4
        go_wp2_with fail
        refine (bytes_c (op, at_, (n : Int), 0, (0 : Nat)) _ (ops13_ok HM.out ha (by omega) (by decide))).mono ?_
        rintro e wd ⟨vd, rfl, hl, hd⟩
        replace LL := hide (LL.out.trans hl)
        replace B7 := hide (B7.out.later hl)
        have VD := hide hd
        obtain ⟨hh1, ad, cd, rfl, hh2, hh3⟩ := hd
        clear hh1 hh2 hh3
        clear hl x0 x1 x2 x3 x4
        by_cases hA : at_ ≤ 4294967295
        case neg =>
          have hAb : decide ((at_ : Int) ≤ 4294967295) = false := by simp; omega
          have e := ops13_no HM.out (a := at_) (n := n) (b := 0) (.inl rfl) (by rw [HS.out]; exact (fun h => hA h.1))
          have E := hide e
          clear e
          rw [E.out]
          clear VD
          generalize (bytesI (op, at_, (n : Int), 0, ((0 : Nat) : Int))).length = nd at *
          go_wp2
          exact ⟨⟨q + 1, by omega, by simp, B7, LL⟩, by simp only [intOf]; omega⟩
        have hAb : decide ((at_ : Int) ≤ 4294967295) = true := by simp; omega
        by_cases hB : n ≤ 65535
        case neg =>
          have hBb : decide ((n : Int) ≤ 65535) = false := by simp; omega
          have e := ops13_no HM.out (a := at_) (n := n) (b := 0) (.inl rfl) (by rw [HS.out]; exact (fun h => hB h.2.1))
          have E := hide e
          clear e
          rw [E.out]
          clear VD
          generalize (bytesI (op, at_, (n : Int), 0, ((0 : Nat) : Int))).length = nd at *
          go_wp2
          exact ⟨⟨q + 1, by omega, by simp, B7, LL⟩, by simp only [intOf]; omega⟩
        have hBb : decide ((n : Int) ≤ 65535) = true := by simp; omega
        have e := ops13_yes HM.out (a := at_) (n := n) (b := 0) (.inl rfl) (by rw [HS.out]; exact ⟨hA, hB, .inl (by decide)⟩)
        have E := hide e.1
        have E2 := hide e.2
        clear e
        rw [E.out, E2.out, HS.out]
        clear VD E2
        go_wp2_with fail
        refine (size_c op _).mono ?_
        rintro e wg ⟨rfl, hl⟩
        rw [HS.out]
        replace LL := hide (LL.out.trans hl)
        replace B7 := hide (B7.out.later hl)
        clear hl
        go_wp2_with fail
        refine (size_c op _).mono ?_
        rintro e wf ⟨rfl, hl⟩
        rw [HS.out]
        replace LL := hide (LL.out.trans hl)
        replace B7 := hide (B7.out.later hl)
        clear hl
        go_wp2
        exact ⟨⟨q + 1, by omega, by simp, B7, LL⟩, by simp only [intOf]; omega⟩
      have hkb : decide (kk < 4) = true := by simp; omega
      have HB1 : Hid (6 < sizeN op ∧ classI op < 4) := ⟨by rw [HS.out]; decide, by rw [HKK.out]; exact hk⟩
      go_wp2_with (refine wpList_storeI rfl 3 (.tmp 50) (.const (.int .i64 1)) rfl gC 4 rfl .i64 1 rfl Try.info1_int _ _ BC.out (by simp) ?_)
      intro w6 hB hw
      replace B7 := hide (B7.out.apart gC (by have := hgC.out; omega) [.int .i64 1] 4)
      replace LL := hide (LL.out.setCells (g := gC) hgC.out.1 [.int .i64 1] 4)
      rw [← hw.out] at B7 LL
      replace BC : Hid (Box w6 gC 26 (cc (op, at_, (n : Int), 0, ((1 : Nat) : Int)))) := hB
      clear hB hw
      have x0 := BC.out.cell 0
      have x1 := BC.out.cell 1
      have x2 := BC.out.cell 2
      have x3 := BC.out.cell 3
      have x4 := BC.out.cell 4
      go_wp2_with fail
      refine (bytes_c (op, at_, (n : Int), 0, (1 : Nat)) _ (ops13_ok HM.out ha (by omega) (by decide))).mono ?_
      rintro e wd ⟨vd, rfl, hl, hd⟩
      replace LL := hide (LL.out.trans hl)
      replace B7 := hide (B7.out.later hl)
      have VD := hide hd
      obtain ⟨hh1, ad, cd, rfl, hh2, hh3⟩ := hd
      clear hh1 hh2 hh3
      clear hl x0 x1 x2 x3 x4
      by_cases hA : at_ ≤ 4294967295
      case neg =>
        have hAb : decide ((at_ : Int) ≤ 4294967295) = false := by simp; omega
        have e := ops13_no HM.out (a := at_) (n := n) (b := 1) (bit1 HB1.out) (by rw [HS.out]; exact (fun h => hA h.1))
        have E := hide e
        clear e
        rw [E.out]
        clear VD
        generalize (bytesI (op, at_, (n : Int), 0, ((1 : Nat) : Int))).length = nd at *
        go_wp2
        exact ⟨⟨q + 1, by omega, by simp, B7, LL⟩, by simp only [intOf]; omega⟩
      have hAb : decide ((at_ : Int) ≤ 4294967295) = true := by simp; omega
      by_cases hB : n ≤ 65535
      case neg =>
        have hBb : decide ((n : Int) ≤ 65535) = false := by simp; omega
        have e := ops13_no HM.out (a := at_) (n := n) (b := 1) (bit1 HB1.out) (by rw [HS.out]; exact (fun h => hB h.2.1))
        have E := hide e
        clear e
        rw [E.out]
        clear VD
        generalize (bytesI (op, at_, (n : Int), 0, ((1 : Nat) : Int))).length = nd at *
        go_wp2
        exact ⟨⟨q + 1, by omega, by simp, B7, LL⟩, by simp only [intOf]; omega⟩
      have hBb : decide ((n : Int) ≤ 65535) = true := by simp; omega
      have e := ops13_yes HM.out (a := at_) (n := n) (b := 1) (bit1 HB1.out) (by rw [HS.out]; exact ⟨hA, hB, .inl (by decide)⟩)
      have E := hide e.1
      have E2 := hide e.2
      clear e
      rw [E.out, E2.out, HS.out]
      clear VD E2
      go_wp2_with fail
      refine (size_c op _).mono ?_
      rintro e wg ⟨rfl, hl⟩
      rw [HS.out]
      replace LL := hide (LL.out.trans hl)
      replace B7 := hide (B7.out.later hl)
      clear hl
      go_wp2_with fail
      refine (size_c op _).mono ?_
      rintro e wf ⟨rfl, hl⟩
      rw [HS.out]
      replace LL := hide (LL.out.trans hl)
      replace B7 := hide (B7.out.later hl)
      clear hl
      go_wp2
      exact ⟨⟨q + 1, by omega, by simp, B7, LL⟩, by simp only [intOf]; omega⟩
    · clear HC
      go_wp2_with (refine wpList_newC rfl rfl rfl 12 rfl (by simp) (.tmp 38) (by simp) rfl (op, at_, (n : Int), 0, 0) rfl ?_)
      intro gC w4 hB hl hg
      have hgC : Hid (w.heap.size ≤ gC ∧ g7 < gC) := by rw [Hid, hg.out.1]; exact ⟨LL.out.size, B7.out.lt⟩
      replace LL := hide (LL.out.trans hl)
      replace B7 := hide (B7.out.later hl)
      have BC := hide hB
      clear hl hg hB
      go_wp2_with fail
      refine (size_c op _).mono ?_
      rintro e w5 ⟨rfl, hl⟩
      rw [HS.out]
      replace LL := hide (LL.out.trans hl)
      replace B7 := hide (B7.out.later hl)
      replace BC := hide (BC.out.later hl)
      clear hl
      go_wp2_with fail
      refine (class_c op _).mono ?_
      rintro e wq ⟨rfl, hw⟩
      have hw2 := hw.symm
      subst hw2
      clear hw
      obtain ⟨kk, HKK⟩ : ∃ s, Hid (classI op = s) := ⟨_, rfl⟩
      rw [HKK.out]
      by_cases hk : kk < 4
      case neg =>
        have hkb : decide (kk < 4) = false := by simp; omega
        have x0 := BC.out.cell 0
        have x1 := BC.out.cell 1
        have x2 := BC.out.cell 2
        have x3 := BC.out.cell 3
        have x4 := BC.out.cell 4
        go_wp2_with fail
        refine (bytes_c (op, at_, (n : Int), 0, (0 : Nat)) _ (ops13_ok HM.out ha (by omega) (by decide))).mono ?_
        rintro e wd ⟨vd, rfl, hl, hd⟩
        replace LL := hide (LL.out.trans hl)
        replace B7 := hide (B7.out.later hl)
        have VD := hide hd
        obtain ⟨hh1, ad, cd, rfl, hh2, hh3⟩ := hd
        clear hh1 hh2 hh3
        clear hl x0 x1 x2 x3 x4
        by_cases hA : at_ ≤ 4294967295
        case neg =>
          have hAb : decide ((at_ : Int) ≤ 4294967295) = false := by simp; omega
          have e := ops13_no HM.out (a := at_) (n := n) (b := 0) (.inl rfl) (by rw [HS.out]; exact (fun h => hA h.1))
          have E := hide e
          clear e
          rw [E.out]
          clear VD
          generalize (bytesI (op, at_, (n : Int), 0, ((0 : Nat) : Int))).length = nd at *
          go_wp2
          exact ⟨⟨q + 1, by omega, by simp, B7, LL⟩, by simp only [intOf]; omega⟩
        have hAb : decide ((at_ : Int) ≤ 4294967295) = true := by simp; omega
        have hBb : decide ((n : Int) ≤ 4294967295) = true := by simp; omega
        have e := ops13_yes HM.out (a := at_) (n := n) (b := 0) (.inl rfl) (by rw [HS.out]; exact ⟨hA, (by show n ≤ 4294967295; omega), .inl (by decide)⟩)
        have E := hide e.1
        have E2 := hide e.2
        clear e
        rw [E.out, E2.out, HS.out]
        clear VD E2
        go_wp2_with fail
        refine (size_c op _).mono ?_
        rintro e wg ⟨rfl, hl⟩
        rw [HS.out]
        replace LL := hide (LL.out.trans hl)
        replace B7 := hide (B7.out.later hl)
        clear hl
        go_wp2_with fail
        refine (size_c op _).mono ?_
        rintro e wf ⟨rfl, hl⟩
        rw [HS.out]
        replace LL := hide (LL.out.trans hl)
        replace B7 := hide (B7.out.later hl)
        clear hl
        go_wp2
        exact ⟨⟨q + 1, by omega, by simp, B7, LL⟩, by simp only [intOf]; omega⟩
      have hkb : decide (kk < 4) = true := by simp; omega
      have HB1 : Hid (6 < sizeN op ∧ classI op < 4) := ⟨by rw [HS.out]; decide, by rw [HKK.out]; exact hk⟩
      go_wp2_with (refine wpList_storeI rfl 3 (.tmp 50) (.const (.int .i64 1)) rfl gC 4 rfl .i64 1 rfl Try.info1_int _ _ BC.out (by simp) ?_)
      intro w6 hB hw
      replace B7 := hide (B7.out.apart gC (by have := hgC.out; omega) [.int .i64 1] 4)
      replace LL := hide (LL.out.setCells (g := gC) hgC.out.1 [.int .i64 1] 4)
      rw [← hw.out] at B7 LL
      replace BC : Hid (Box w6 gC 26 (cc (op, at_, (n : Int), 0, ((1 : Nat) : Int)))) := hB
      clear hB hw
      have x0 := BC.out.cell 0
      have x1 := BC.out.cell 1
      have x2 := BC.out.cell 2
      have x3 := BC.out.cell 3
      have x4 := BC.out.cell 4
      go_wp2_with fail
      refine (bytes_c (op, at_, (n : Int), 0, (1 : Nat)) _ (ops13_ok HM.out ha (by omega) (by decide))).mono ?_
      rintro e wd ⟨vd, rfl, hl, hd⟩
      replace LL := hide (LL.out.trans hl)
      replace B7 := hide (B7.out.later hl)
      have VD := hide hd
      obtain ⟨hh1, ad, cd, rfl, hh2, hh3⟩ := hd
      clear hh1 hh2 hh3
      clear hl x0 x1 x2 x3 x4
      by_cases hA : at_ ≤ 4294967295
      case neg =>
        have hAb : decide ((at_ : Int) ≤ 4294967295) = false := by simp; omega
        have e := ops13_no HM.out (a := at_) (n := n) (b := 1) (bit1 HB1.out) (by rw [HS.out]; exact (fun h => hA h.1))
        have E := hide e
        clear e
        rw [E.out]
        clear VD
        generalize (bytesI (op, at_, (n : Int), 0, ((1 : Nat) : Int))).length = nd at *
        go_wp2
        exact ⟨⟨q + 1, by omega, by simp, B7, LL⟩, by simp only [intOf]; omega⟩
      have hAb : decide ((at_ : Int) ≤ 4294967295) = true := by simp; omega
      have hBb : decide ((n : Int) ≤ 4294967295) = true := by simp; omega
      have e := ops13_yes HM.out (a := at_) (n := n) (b := 1) (bit1 HB1.out) (by rw [HS.out]; exact ⟨hA, (by show n ≤ 4294967295; omega), .inl (by decide)⟩)
      have E := hide e.1
      have E2 := hide e.2
      clear e
      rw [E.out, E2.out, HS.out]
      clear VD E2
      go_wp2_with fail
      refine (size_c op _).mono ?_
      rintro e wg ⟨rfl, hl⟩
      rw [HS.out]
      replace LL := hide (LL.out.trans hl)
      replace B7 := hide (B7.out.later hl)
      clear hl
      go_wp2_with fail
      refine (size_c op _).mono ?_
      rintro e wf ⟨rfl, hl⟩
      rw [HS.out]
      replace LL := hide (LL.out.trans hl)
      replace B7 := hide (B7.out.later hl)
      clear hl
      go_wp2
      exact ⟨⟨q + 1, by omega, by simp, B7, LL⟩, by simp only [intOf]; omega⟩
    · clear HC
      go_wp2_with (refine wpList_newC rfl rfl rfl 12 rfl (by simp) (.tmp 38) (by simp) rfl (op, at_, (n : Int), 0, 0) rfl ?_)
      intro gC w4 hB hl hg
      have hgC : Hid (w.heap.size ≤ gC ∧ g7 < gC) := by rw [Hid, hg.out.1]; exact ⟨LL.out.size, B7.out.lt⟩
      replace LL := hide (LL.out.trans hl)
      replace B7 := hide (B7.out.later hl)
      have BC := hide hB
      clear hl hg hB
      go_wp2_with fail
      refine (size_c op _).mono ?_
      rintro e w5 ⟨rfl, hl⟩
      rw [HS.out]
      replace LL := hide (LL.out.trans hl)
      replace B7 := hide (B7.out.later hl)
      replace BC := hide (BC.out.later hl)
      clear hl
      go_wp2_with fail
      refine (class_c op _).mono ?_
      rintro e wq ⟨rfl, hw⟩
      have hw2 := hw.symm
      subst hw2
      clear hw
      obtain ⟨kk, HKK⟩ : ∃ s, Hid (classI op = s) := ⟨_, rfl⟩
      rw [HKK.out]
      by_cases hk : kk < 4
      case neg =>
        have hkb : decide (kk < 4) = false := by simp; omega
        have x0 := BC.out.cell 0
        have x1 := BC.out.cell 1
        have x2 := BC.out.cell 2
        have x3 := BC.out.cell 3
        have x4 := BC.out.cell 4
        go_wp2_with fail
        refine (bytes_c (op, at_, (n : Int), 0, (0 : Nat)) _ (ops13_ok HM.out ha (by omega) (by decide))).mono ?_
        rintro e wd ⟨vd, rfl, hl, hd⟩
        replace LL := hide (LL.out.trans hl)
        replace B7 := hide (B7.out.later hl)
        have VD := hide hd
        obtain ⟨hh1, ad, cd, rfl, hh2, hh3⟩ := hd
        clear hh1 hh2 hh3
        clear hl x0 x1 x2 x3 x4
        have hAb : decide ((at_ : Int) ≤ 18446744073709551615) = true := by simp; omega
        have hBb : decide ((n : Int) ≤ 4294967295) = true := by simp; omega
        have e := ops13_yes HM.out (a := at_) (n := n) (b := 0) (.inl rfl) (by rw [HS.out]; exact ⟨(by show at_ ≤ 18446744073709551615; omega), (by show n ≤ 4294967295; omega), .inl (by decide)⟩)
        have E := hide e.1
        have E2 := hide e.2
        clear e
        rw [E.out, E2.out, HS.out]
        clear VD E2
        go_wp2_with fail
        refine (size_c op _).mono ?_
        rintro e wg ⟨rfl, hl⟩
        rw [HS.out]
        replace LL := hide (LL.out.trans hl)
        replace B7 := hide (B7.out.later hl)
        clear hl
        go_wp2_with fail
        refine (size_c op _).mono ?_
        rintro e wf ⟨rfl, hl⟩
        rw [HS.out]
        replace LL := hide (LL.out.trans hl)
        replace B7 := hide (B7.out.later hl)
        clear hl
        go_wp2
        exact ⟨⟨q + 1, by omega, by simp, B7, LL⟩, by simp only [intOf]; omega⟩
      have hkb : decide (kk < 4) = true := by simp; omega
      have HB1 : Hid (6 < sizeN op ∧ classI op < 4) := ⟨by rw [HS.out]; decide, by rw [HKK.out]; exact hk⟩
      go_wp2_with (refine wpList_storeI rfl 3 (.tmp 50) (.const (.int .i64 1)) rfl gC 4 rfl .i64 1 rfl Try.info1_int _ _ BC.out (by simp) ?_)
      intro w6 hB hw
      replace B7 := hide (B7.out.apart gC (by have := hgC.out; omega) [.int .i64 1] 4)
      replace LL := hide (LL.out.setCells (g := gC) hgC.out.1 [.int .i64 1] 4)
      rw [← hw.out] at B7 LL
      replace BC : Hid (Box w6 gC 26 (cc (op, at_, (n : Int), 0, ((1 : Nat) : Int)))) := hB
      clear hB hw
      have x0 := BC.out.cell 0
      have x1 := BC.out.cell 1
      have x2 := BC.out.cell 2
      have x3 := BC.out.cell 3
      have x4 := BC.out.cell 4
      go_wp2_with fail
      refine (bytes_c (op, at_, (n : Int), 0, (1 : Nat)) _ (ops13_ok HM.out ha (by omega) (by decide))).mono ?_
      rintro e wd ⟨vd, rfl, hl, hd⟩
      replace LL := hide (LL.out.trans hl)
      replace B7 := hide (B7.out.later hl)
      have VD := hide hd
      obtain ⟨hh1, ad, cd, rfl, hh2, hh3⟩ := hd
      clear hh1 hh2 hh3
      clear hl x0 x1 x2 x3 x4
      have hAb : decide ((at_ : Int) ≤ 18446744073709551615) = true := by simp; omega
      have hBb : decide ((n : Int) ≤ 4294967295) = true := by simp; omega
      have e := ops13_yes HM.out (a := at_) (n := n) (b := 1) (bit1 HB1.out) (by rw [HS.out]; exact ⟨(by show at_ ≤ 18446744073709551615; omega), (by show n ≤ 4294967295; omega), .inl (by decide)⟩)
      have E := hide e.1
      have E2 := hide e.2
      clear e
      rw [E.out, E2.out, HS.out]
      clear VD E2
      go_wp2_with fail
      refine (size_c op _).mono ?_
      rintro e wg ⟨rfl, hl⟩
      rw [HS.out]
      replace LL := hide (LL.out.trans hl)
      replace B7 := hide (B7.out.later hl)
      clear hl
      go_wp2_with fail
      refine (size_c op _).mono ?_
      rintro e wf ⟨rfl, hl⟩
      rw [HS.out]
      replace LL := hide (LL.out.trans hl)
      replace B7 := hide (B7.out.later hl)
      clear hl
      go_wp2
      exact ⟨⟨q + 1, by omega, by simp, B7, LL⟩, by simp only [intOf]; omega⟩
end Go.Proofs.Ytccdgpadjfjoeaa
