import Derived.Test.YtdhagfklcfajgaaWL7D
namespace Go.Proofs.Ytdhagfklcfajgaa
open Go.ChangeShapes Go.WideShapes Go.ChangeAt Go.RowKit
set_option linter.unusedVariables false
set_option linter.unusedSimpArgs false

theorem Bs.cell7 {w : World} {b off n cap : Nat} {l : List UInt8} (h : Bs w (.slice (some ⟨b, off, none⟩) n cap) l) (j : Nat) (hj : j < l.length) : w.cell? ⟨b, off + j, none⟩ = some (.int .u8 (l[j].toNat : Int)) := by
  obtain ⟨h1, ad, cap', e, h2, h3⟩ := h
  simp at e
  obtain ⟨rfl, rfl, rfl⟩ := e
  rcases h3 with h3 | ⟨b', off', e, h3⟩
  · subst h3; simp at hj
  · simp at e
    obtain ⟨rfl, rfl⟩ := e
    exact h3 j hj
theorem page_facts (page lun : Int) (there : Bool) : (pageS page = (5, 36, 0) ∧ pageL page lun there = []) ∨ (pageS page = (0, 0, 0) ∧ ∃ n : Nat, 4 ≤ n ∧ n ≤ 64 ∧ (pageL page lun there).length = n ∧ holdsB (n : Int) 2 2 = true ∧ bigAt (pageL page lun there) 2 2 = n - 4) := by
  by_cases h0 : page = 0
  · subst h0
    exact .inr ⟨rfl, 8, by decide, by decide, rfl, by decide, rfl⟩
  by_cases h1 : page = 128
  · subst h1
    exact .inr ⟨rfl, 12, by decide, by decide, rfl, by decide, rfl⟩
  by_cases h2 : page = 131
  · subst h2
    exact .inr ⟨rfl, 24, by decide, by decide, rfl, by decide, rfl⟩
  by_cases h3 : page = 176
  · subst h3
    exact .inr ⟨rfl, 64, by decide, by decide, rfl, by decide, rfl⟩
  exact .inl (by simp [pageS, pageL, h0, h1, h2, h3])
set_option maxHeartbeats 4000000 in
theorem inquiryPages_no (hal : Alive7) (iP : IPage7) (iT : IStd7) (page lun : Int) (there : Bool) (w : World) (h1 : In64 page) (h2 : In64 lun) (hS : pageS page = (5, 36, 0)) (hL : pageL page lun there = []) :
    Calls Try.prog 4 #[.int .i64 page, .int .i64 lun, .bool there] w fun e w' => e = .returned (.bool true) ∧ Below w.heap.size w w' := by
  have H1 := hide h1
  have H2 := hide h2
  have HS := hide hS
  have HL := hide hL
  clear h1 h2 hS hL
  go_enter Try.func4, Try.ntmps4
  go_wp2_with fail
  refine (hal _).mono ?_
  rintro e w1 ⟨rfl, hl⟩
  have LL := hide hl
  clear hl
  go_wp2_with fail
  refine (iP page lun there _ H1.out H2.out).mono ?_
  rintro e w2 ⟨va, rfl, hl, ha⟩
  replace LL := hide (LL.out.trans hl)
  have VA := hide ha
  clear hl ha
  rw [HS.out]
  go_wp2_with (refine wpList_newAS rfl rfl rfl rfl 8 7 rfl rfl (by simp) (by decide) (.tmp 26) (.tmp 27) (by simp) (by simp) (by simp) rfl rfl rfl _ (5, 36, 0) rfl rfl ?_)
  intro g8 w3 hB hl hg
  replace VA := hide (VA.out.later hl)
  replace LL := hide (LL.out.trans hl)
  have B8 := hide hB
  clear hl hg hB
  go_wp2_with fail
  refine (rpage_c page lun there _ H2.out).mono ?_
  rintro e w4 ⟨vb, rfl, hl, hb⟩
  replace VA := hide (VA.out.later hl)
  replace B8 := hide (B8.out.later hl)
  replace LL := hide (LL.out.trans hl)
  have VB := hide hb
  clear hl hb
  rw [HS.out]
  go_wp2_with (refine wpList_newAS rfl rfl rfl rfl 10 9 rfl rfl (by simp) (by decide) (.tmp 33) (.tmp 34) (by simp) (by simp) (by simp) rfl rfl rfl _ (5, 36, 0) rfl rfl ?_)
  intro g10 w5 hB hl hg
  replace VA := hide (VA.out.later hl)
  replace VB := hide (VB.out.later hl)
  replace B8 := hide (B8.out.later hl)
  replace LL := hide (LL.out.trans hl)
  have B10 := hide hB
  clear hl hg hB
  have SA := hide VA.out.strOf
  have VB2 := VB
  clear VB
  obtain ⟨sl, hsl⟩ : ∃ s, strOf (pageL page lun there) = s := ⟨_, rfl⟩
  go_wp2_with fail
  have hc := fun r => ((Later.refl w5).drew.trans (later_rg w5.drew r))
  have a0 := fun r => (B8.out.later (hc r)).cell 0
  have a1 := fun r => (B8.out.later (hc r)).cell 1
  have a2 := fun r => (B8.out.later (hc r)).cell 2
  have b0 := fun r => (B10.out.later (hc r)).cell 0
  have b1 := fun r => (B10.out.later (hc r)).cell 1
  have b2 := fun r => (B10.out.later (hc r)).cell 2
  have ga := fun r => (VA.out.later (hc r)).strOf
  have gb := fun r => (VB2.out.later (hc r)).strOf
  rw [hsl] at ga gb
  have HSl := hide hsl
  clear hsl SA
  refine wp_region_sched [(0, false), (1, false), (2, false), (3, false), (4, false), (5, false), (6, false), (7, false), (8, false), (9, false), (10, false), (11, false), (14, false), (12, true), (13, false), (15, true), (16, false), (17, false), (18, false)] (by kernel_rfl) (by kernel_rfl) (by kernel_rfl) (by kernel_rfl) ?_
  iterate 8 (refine wpS_mild rfl (fun K hK => ?_); go_simp; refine hK _ ?_; clear hK K)
  refine wpS_neqG rfl (by kernel_rfl) 28 _ (.tmp 41) (.tmp 42) rfl _ _ rfl rfl Try.guard_sense true (fun w => sense_eq (5, 36, 0) (5, 36, 0) w) ?_
  iterate 4 (refine wpS_mild rfl (fun K hK => ?_); go_simp; refine hK _ ?_; clear hK K)
  refine wpS_callL rfl (by kernel_rfl) 14 (Plain.of (by kernel_rfl)) [.tmp 46] _ rfl [.bool there] rfl (fun v W => Bs W v (stdL there)) (fun wx hx => iT there wx) ?_
  intro v1 q1 hl1 hb1
  have hlq := (Later.refl w5).drew.trans hl1
  clear ga gb a0 a1 a2 b0 b1 b2 hc
  replace VA := hide (VA.out.later hlq)
  replace B8 := hide (B8.out.later hlq)
  replace B10 := hide (B10.out.later hlq)
  replace LL := hide (LL.out.trans hlq)
  have gs := fun r => (hb1.later (later_rg q1 r)).strOf
  clear hlq hl1 hb1
  obtain ⟨st, hst⟩ : ∃ s, strOf (stdL there) = s := ⟨_, rfl⟩
  rw [hst] at gs
  have HSt := hide hst
  clear hst
  iterate 1 (refine wpS_mild rfl (fun K hK => ?_); go_simp; refine hK _ ?_; clear hK K)
  clear gs
  refine wpS_callL rfl (by kernel_rfl) 15 (Plain.of (by kernel_rfl)) [.tmp 49] _ rfl [.bool there] rfl (fun v W => Bs W v (stdL there)) (fun wx hx => rstandard_c there wx) ?_
  intro v2 q2 hl2 hb2
  replace VA := hide (VA.out.later hl2)
  replace B8 := hide (B8.out.later hl2)
  replace B10 := hide (B10.out.later hl2)
  replace LL := hide (LL.out.trans hl2)
  have gs := fun r => (hb2.later (later_rg q2 r)).strOf
  rw [HSt.out] at gs
  clear hl2 hb2
  iterate 3 (refine wpS_mild rfl (fun K hK => ?_); go_simp; refine hK _ ?_; clear hK K)
  refine wpS_nil (fun wx hwx => ?_)
  replace VA := hide (VA.out.later hwx)
  replace B8 := hide (B8.out.later hwx)
  replace B10 := hide (B10.out.later hwx)
  replace LL := hide (LL.out.trans hwx)
  clear gs hwx HSt HSl VB2 B10
  obtain ⟨_, ad, cap, e, _, _⟩ := VA.out
  rw [HL.out] at e
  subst e
  have s0 := B8.out.cell 0
  have s1 := B8.out.cell 1
  have s2 := B8.out.cell 2
  go_wp2_with (refine wpList_neqS (by kernel_rfl) (.tmp 54) (.tmp 55) rfl (5, 36, 0) (0, 0, 0) rfl rfl ?_)
  go_wp2
  go_ret
  exact ⟨rfl, LL.out⟩
set_option maxHeartbeats 4000000 in
theorem inquiryPages_yes (hal : Alive7) (iP : IPage7) (iT : IStd7) (page lun : Int) (there : Bool) (w : World) (n : Nat) (h1 : In64 page) (h2 : In64 lun) (hS : pageS page = (0, 0, 0)) (hn4 : 4 ≤ n) (hn64 : n ≤ 64) (hL : (pageL page lun there).length = n) (hH : holdsB (n : Int) 2 2 = true) (hB : bigAt (pageL page lun there) 2 2 = n - 4) :
    Calls Try.prog 4 #[.int .i64 page, .int .i64 lun, .bool there] w fun e w' => e = .returned (.bool true) ∧ Below w.heap.size w w' := by
  have H1 := hide h1
  have H2 := hide h2
  have HS := hide hS
  have HL := hide hL
  have HH := hide hH
  have HB := hide hB
  clear h1 h2 hS hL hH hB
  go_enter Try.func4, Try.ntmps4
  go_wp2_with fail
  refine (hal _).mono ?_
  rintro e w1 ⟨rfl, hl⟩
  have LL := hide hl
  clear hl
  go_wp2_with fail
  refine (iP page lun there _ H1.out H2.out).mono ?_
  rintro e w2 ⟨va, rfl, hl, ha⟩
  replace LL := hide (LL.out.trans hl)
  have VA := hide ha
  clear hl ha
  rw [HS.out]
  go_wp2_with (refine wpList_newAS rfl rfl rfl rfl 8 7 rfl rfl (by simp) (by decide) (.tmp 26) (.tmp 27) (by simp) (by simp) (by simp) rfl rfl rfl _ (0, 0, 0) rfl rfl ?_)
  intro g8 w3 hB hl hg
  replace VA := hide (VA.out.later hl)
  replace LL := hide (LL.out.trans hl)
  have B8 := hide hB
  clear hl hg hB
  go_wp2_with fail
  refine (rpage_c page lun there _ H2.out).mono ?_
  rintro e w4 ⟨vb, rfl, hl, hb⟩
  replace VA := hide (VA.out.later hl)
  replace B8 := hide (B8.out.later hl)
  replace LL := hide (LL.out.trans hl)
  have VB := hide hb
  clear hl hb
  rw [HS.out]
  go_wp2_with (refine wpList_newAS rfl rfl rfl rfl 10 9 rfl rfl (by simp) (by decide) (.tmp 33) (.tmp 34) (by simp) (by simp) (by simp) rfl rfl rfl _ (0, 0, 0) rfl rfl ?_)
  intro g10 w5 hB hl hg
  replace VA := hide (VA.out.later hl)
  replace VB := hide (VB.out.later hl)
  replace B8 := hide (B8.out.later hl)
  replace LL := hide (LL.out.trans hl)
  have B10 := hide hB
  clear hl hg hB
  have SA := hide VA.out.strOf
  have VB2 := VB
  clear VB
  obtain ⟨sl, hsl⟩ : ∃ s, strOf (pageL page lun there) = s := ⟨_, rfl⟩
  go_wp2_with fail
  have hc := fun r => ((Later.refl w5).drew.trans (later_rg w5.drew r))
  have a0 := fun r => (B8.out.later (hc r)).cell 0
  have a1 := fun r => (B8.out.later (hc r)).cell 1
  have a2 := fun r => (B8.out.later (hc r)).cell 2
  have b0 := fun r => (B10.out.later (hc r)).cell 0
  have b1 := fun r => (B10.out.later (hc r)).cell 1
  have b2 := fun r => (B10.out.later (hc r)).cell 2
  have ga := fun r => (VA.out.later (hc r)).strOf
  have gb := fun r => (VB2.out.later (hc r)).strOf
  rw [hsl] at ga gb
  have HSl := hide hsl
  clear hsl SA
  refine wp_region_sched [(0, false), (1, false), (2, false), (3, false), (4, false), (5, false), (6, false), (7, false), (8, false), (9, false), (10, false), (11, false), (14, false), (12, true), (13, false), (15, true), (16, false), (17, false), (18, false)] (by kernel_rfl) (by kernel_rfl) (by kernel_rfl) (by kernel_rfl) ?_
  iterate 8 (refine wpS_mild rfl (fun K hK => ?_); go_simp; refine hK _ ?_; clear hK K)
  refine wpS_neqG rfl (by kernel_rfl) 28 _ (.tmp 41) (.tmp 42) rfl _ _ rfl rfl Try.guard_sense true (fun w => sense_eq (0, 0, 0) (0, 0, 0) w) ?_
  iterate 4 (refine wpS_mild rfl (fun K hK => ?_); go_simp; refine hK _ ?_; clear hK K)
  refine wpS_callL rfl (by kernel_rfl) 14 (Plain.of (by kernel_rfl)) [.tmp 46] _ rfl [.bool there] rfl (fun v W => Bs W v (stdL there)) (fun wx hx => iT there wx) ?_
  intro v1 q1 hl1 hb1
  have hlq := (Later.refl w5).drew.trans hl1
  clear ga gb a0 a1 a2 b0 b1 b2 hc
  replace VA := hide (VA.out.later hlq)
  replace B8 := hide (B8.out.later hlq)
  replace B10 := hide (B10.out.later hlq)
  replace LL := hide (LL.out.trans hlq)
  have gs := fun r => (hb1.later (later_rg q1 r)).strOf
  clear hlq hl1 hb1
  obtain ⟨st, hst⟩ : ∃ s, strOf (stdL there) = s := ⟨_, rfl⟩
  rw [hst] at gs
  have HSt := hide hst
  clear hst
  iterate 1 (refine wpS_mild rfl (fun K hK => ?_); go_simp; refine hK _ ?_; clear hK K)
  clear gs
  refine wpS_callL rfl (by kernel_rfl) 15 (Plain.of (by kernel_rfl)) [.tmp 49] _ rfl [.bool there] rfl (fun v W => Bs W v (stdL there)) (fun wx hx => rstandard_c there wx) ?_
  intro v2 q2 hl2 hb2
  replace VA := hide (VA.out.later hl2)
  replace B8 := hide (B8.out.later hl2)
  replace B10 := hide (B10.out.later hl2)
  replace LL := hide (LL.out.trans hl2)
  have gs := fun r => (hb2.later (later_rg q2 r)).strOf
  rw [HSt.out] at gs
  clear hl2 hb2
  iterate 3 (refine wpS_mild rfl (fun K hK => ?_); go_simp; refine hK _ ?_; clear hK K)
  refine wpS_nil (fun wx hwx => ?_)
  replace VA := hide (VA.out.later hwx)
  replace B8 := hide (B8.out.later hwx)
  replace B10 := hide (B10.out.later hwx)
  replace LL := hide (LL.out.trans hwx)
  clear gs hwx HSt HSl VB2 B10
  have VA2 := VA.out
  obtain ⟨b1, o1, c1, rfl, hc⟩ := VA2.addr7 (by rw [HL.out]; omega)
  rw [HL.out] at VA hc ⊢
  clear VA2
  have s0 := B8.out.cell 0
  have s1 := B8.out.cell 1
  have s2 := B8.out.cell 2
  go_wp2_with (refine wpList_neqS (by kernel_rfl) (.tmp 54) (.tmp 55) rfl (0, 0, 0) (0, 0, 0) rfl rfl ?_)
  go_wp2_with fail
  refine (rbig_c 2 2 _ VA.out).mono ?_
  rintro e w6 ⟨rfl, hw1⟩
  have hw2 := hw1.symm
  subst hw2
  clear hw1 s0 s1 s2
  rw [HL.out, HH.out, HB.out]
  go_wp2_with fail
  refine (iT there _).mono ?_
  rintro e w7 ⟨vs, rfl, hl, hs⟩
  replace LL := hide (LL.out.trans hl)
  obtain ⟨b2, o2, c2, rfl, hc2⟩ := hs.addr7 (by rw [stdL_len]; decide)
  rw [stdL_len] at hs ⊢
  have VS := hide hs
  clear hl hs VA B8 hc2
  go_wp2_with fail
  refine (iP 0 lun there _ (by decide) H2.out).mono ?_
  rintro e w8 ⟨vl, rfl, hl, hs⟩
  replace LL := hide (LL.out.trans hl)
  replace VS := hide (VS.out.later hl)
  have hl8 : (pageL 0 lun there).length = 8 := rfl
  obtain ⟨b3, o3, c3, rfl, hc3⟩ := hs.addr7 (by rw [hl8]; decide)
  rw [hl8] at hs ⊢
  have VL := hide hs
  clear hl hs hl8 hc3
  rw [show pageS 0 = (0, 0, 0) from rfl]
  go_wp2_with (refine wpList_newAS rfl rfl rfl rfl 15 14 rfl rfl (by simp) (by decide) (.tmp 71) (.tmp 72) (by simp) (by simp) (by simp) rfl rfl rfl _ (0, 0, 0) rfl rfl ?_)
  intro g15 w9 hB hl hg
  replace VS := hide (VS.out.later hl)
  replace VL := hide (VL.out.later hl)
  replace LL := hide (LL.out.trans hl)
  clear hl hg hB
  have e4 : w9.cell? ⟨b2, o2 + 4, none⟩ = some (.int .u8 31) := VS.out.cell7 4 (by rw [stdL_len]; decide)
  go_wp2_with fail
  clear e4 VS
  go_loopw [16] (fun i wr => ∃ q : Nat, 4 ≤ q ∧ q ≤ 8 ∧ i = .int .i64 q ∧ Hid (Later w wr) ∧ Hid (Bs wr (.slice (some ⟨b3, o3, none⟩) 8 c3) (pageL 0 lun there))) (fun i _ => 8 - (intOf i).toNat)
  case atStart => exact ⟨4, by omega, by omega, rfl, LL, VL⟩
  case round =>
    clear LL VL
    obtain ⟨q, hq4, hq, rfl, LL, VL⟩ := hrel
    by_cases hlt : q < 8
    · obtain ⟨x, hx, hp⟩ : ∃ x : UInt8, wr.cell? ⟨b3, o3 + q, none⟩ = some (.int .u8 (x.toNat : Int)) ∧ Hid (pageS (x.toNat : Int) = (0, 0, 0)) := by
        have h := VL.out.cell7 q (by show q < 8; exact hlt)
        rcases (show q = 4 ∨ q = 5 ∨ q = 6 ∨ q = 7 by omega) with rfl | rfl | rfl | rfl
        · exact ⟨0, h, rfl⟩
        · exact ⟨128, h, rfl⟩
        · exact ⟨131, h, rfl⟩
        · exact ⟨176, h, rfl⟩
      have hx256 : Hid (In64 (x.toNat : Int)) := by have := x.toNat_lt; exact ⟨by omega, by omega⟩
      have hw : wrap64 (x.toNat : Int) = (x.toNat : Int) := by have := x.toNat_lt; unfold wrap64; omega
      go_wp2_with fail
      refine (iP (x.toNat : Int) lun there _ hx256.out H2.out).mono ?_
      rintro e wc ⟨vc, rfl, hl, hs⟩
      replace VL := hide (VL.out.later hl)
      replace LL := hide (LL.out.trans hl)
      clear hl hs
      rw [hp.out]
      go_wp2_with (refine wpList_newAS rfl rfl rfl rfl 18 17 rfl rfl (by simp) (by decide) (.tmp 106) (.tmp 107) (by simp) (by simp) (by simp) rfl rfl rfl _ (0, 0, 0) rfl rfl ?_)
      intro g18 wd hB hl hg
      replace VL := hide (VL.out.later hl)
      replace LL := hide (LL.out.trans hl)
      have s0 := hB.cell 0
      have s1 := hB.cell 1
      have s2 := hB.cell 2
      clear hl hg hB hx
      go_wp2_with (refine wpList_neqS (by kernel_rfl) (.tmp 108) (.tmp 109) rfl (0, 0, 0) (0, 0, 0) rfl rfl ?_)
      go_wp2
      go_roundw
      case rel => exact ⟨q + 1, by omega, by omega, by go_num, LL, VL⟩
      case measure => simp [intOf]; omega
    · have hnb : wrap64 ((n - 4 : Nat) : Int) = (n : Int) - 4 := by unfold wrap64; omega
      go_wp2
      go_ret
      refine ⟨?_, LL.out⟩
      first | rfl | (simp; omega)
theorem inquiryPages_walk (hal : Alive7) (iP : IPage7) (iT : IStd7) (page lun : Int) (there : Bool) (w : World) (h1 : In64 page) (h2 : In64 lun) :
    Calls Try.prog 4 #[.int .i64 page, .int .i64 lun, .bool there] w fun e w' => e = .returned (.bool true) ∧ Below w.heap.size w w' := by
  rcases page_facts page lun there with ⟨hS, hL⟩ | ⟨hS, n, h4, h64, hL, hH, hB⟩
  · exact inquiryPages_no hal iP iT page lun there w h1 h2 hS hL
  · exact inquiryPages_yes hal iP iT page lun there w n h1 h2 hS h4 h64 hL hH hB
end Go.Proofs.Ytdhagfklcfajgaa
