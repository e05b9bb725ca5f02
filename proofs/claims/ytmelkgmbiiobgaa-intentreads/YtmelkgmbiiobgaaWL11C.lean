import Derived.Test.YtmelkgmbiiobgaaMAN
import Derived.Test.YtmelkgmbiiobgaaMAJ
namespace Go.Proofs.Ytmelkgmbiiobgaa
open Go.ChangeShapes Go.WideShapes Go.ChangeAt Go.RowKit
set_option linter.unusedVariables false
set_option maxRecDepth 4000
set_option linter.unusedSimpArgs false
/-! Any blocks are read alike by each of the commands that read. -/
set_option maxRecDepth 20000 in
set_option maxHeartbeats 8000000 in
theorem intentReads_walk (hal : Alive11) (iB : IBegin11) {ab : Option Addr} {n cb : Nat} {aD : Option Addr} {k cD : Nat} {F : List UInt8} {D : List Drt} {p r l cc : Bool} {am : Option Addr} {m cm : Nat} {s : Sns} {M : List Sns} {at_ mm : Nat} (w : World)
    (hm : Med w (.agg #[.slice ab n cb, .slice aD k cD]) n F D) (hA : Sl w (.slice am m cm) M) (hs : OkS s) (hat : at_ ≤ 18446744073709551615) (hmm : mm ≤ 255) (hm1 : m ≤ maxLen) :
    Calls Try.prog 5 #[uval ab n cb aD k cD p r l cc am m cm s, .int .u64 (at_ : Int), .int .u8 (mm : Int)] w fun e w' => e = .returned (.bool true) ∧ Below w.heap.size w w' := by
  have HM := hide hm
  have HA := hide hA
  have HS := hide hs
  have HAt := hide hat
  have N1 := hide hm1
  have hwm : IntKind.i64.wrap (mm : Int) = (mm : Int) := by rw [IntKind.wrap_i64]; omega
  clear hm hA hs hat hm1
  have BX := hide (Box.new w 32 (uc ab n cb aD k cD p r l cc am m cm s).toArray)
  have LL := hide ((Later.refl w).alloc (.cells (uc ab n cb aD k cD p r l cc am m cm s).toArray 32))
  go_enter Try.func5, Try.ntmps5
  go_wp2_with fail
  generalize w.alloc (.cells (uc ab n cb aD k cD p r l cc am m cm s).toArray 32) = w1 at *
  replace HM := hide (HM.out.later LL.out)
  replace HA := hide (HA.out.later LL.out)
  obtain ⟨gx, hgx⟩ : ∃ gx, gx = w.heap.size := ⟨_, rfl⟩
  rw [← hgx] at BX ⊢
  clear hgx
  refine (hal _).mono ?_
  rintro e w2 ⟨rfl, hl⟩
  replace LL := hide (LL.out.trans hl)
  replace HM := hide (HM.out.later hl)
  replace HA := hide (HA.out.later hl)
  replace BX := hide (BX.out.later hl)
  clear hl
  have x_0 := BX.out.cell 0
  have x_1 := BX.out.cell 1
  have x_2 := BX.out.cell 2
  have x_3 := BX.out.cell 3
  have x_4 := BX.out.cell 4
  have x_5 := BX.out.cell 5
  have x_6 := BX.out.cell 6
  have x_7 := BX.out.cell 7
  have x_8 := BX.out.cell 8
  have x_9 := BX.out.cell 9
  go_wp2_with fail
  refine (great11_c (l := l) (r := r) (p := p) (cc := cc) (am := am) (m := m) (cm := cm) (s := s) (c := (0, 0, 0, 0, 0)) _ HM.out N1.out).mono ?_
  rintro e w3 ⟨rfl, hl⟩
  replace LL := hide (LL.out.trans hl)
  replace HM := hide (HM.out.later hl)
  replace HA := hide (HA.out.later hl)
  replace BX := hide (BX.out.later hl)
  clear hl
  clear x_0 x_1 x_2 x_3 x_4 x_5 x_6 x_7 x_8 x_9
  cases hG : great11 n D m with
  | true =>
    go_wp2
    go_ret
    exact ⟨rfl, LL.out⟩
  | false =>
  have HN := hide (great11_no hG)
  clear hG N1
  have x_0 := BX.out.cell 0
  have x_1 := BX.out.cell 1
  have x_2 := BX.out.cell 2
  have x_3 := BX.out.cell 3
  have x_4 := BX.out.cell 4
  go_wp2_with fail
  refine (rread5_c at_ (mm : Int) _ (show Slt w3 (.agg #[.slice ab n cb, .slice aD k cD, .bool p, .bool r, .bool l]) n F D p r l from ⟨ab, cb, aD, k, cD, rfl, HM.out⟩) HAt.out).mono ?_
  rintro e w4 ⟨v, rfl, hl, hv⟩
  replace LL := hide (LL.out.trans hl)
  replace HM := hide (HM.out.later hl)
  replace HA := hide (HA.out.later hl)
  replace BX := hide (BX.out.later hl)
  have HV := hide hv
  clear hl hv x_0 x_1 x_2 x_3 x_4
  obtain ⟨S1, hS1⟩ : ∃ S1, S1 = checkS n D p r at_ (mm : Int) false := ⟨_, rfl⟩
  have HSL := hide hS1.symm
  rw [← hS1] at HV ⊢
  clear hS1
  obtain ⟨L, hL⟩ : ∃ L, L = rdL n F D S1 at_ (mm : Int) := ⟨_, rfl⟩
  have HRL : Hid (rdL n F D (checkS n D p r at_ (mm : Int) false) at_ (mm : Int) = L) := by rw [Hid, HSL.out, hL]
  rw [← hL] at HV
  clear hL
  have hv2 := HV.out
  obtain ⟨-, av, cv, rfl, -, -⟩ := hv2
  obtain ⟨kv, hkv⟩ : ∃ kv, kv = L.length := ⟨_, rfl⟩
  rw [← hkv] at HV ⊢
  have HKv := hide hkv
  clear hkv
  go_wp2_with (refine wpList_newAS rfl rfl rfl rfl 8 7 rfl rfl (by simp) (by decide) (.tmp 25) (.tmp 26) (by simp) (by simp) (by simp) rfl rfl rfl _ S1 rfl rfl ?_)
  intro g8 w5 hB8 hl hg
  replace LL := hide (LL.out.trans hl)
  replace HM := hide (HM.out.later hl)
  replace HA := hide (HA.out.later hl)
  replace BX := hide (BX.out.later hl)
  replace HV := hide (HV.out.later hl)
  have B8 := hide hB8
  clear hl hB8 hg
  go_wp2_with (refine wpList_new rfl rfl 56 rfl 9 rfl (by simp) (.tmp 27) (by simp) rfl #[.int .i64 0, .int .i64 0, .int .i64 0] [.int .i64 40, .int .i64 168, .int .i64 136] (by kernel_rfl) rfl rfl (by simp [Value.oneCell']) ?_)
  intro g9 w6 hB9 hl hg
  replace LL := hide (LL.out.trans hl)
  replace HM := hide (HM.out.later hl)
  replace HA := hide (HA.out.later hl)
  replace BX := hide (BX.out.later hl)
  replace HV := hide (HV.out.later hl)
  replace B8 := hide (B8.out.later hl)
  have B9 := hide hB9
  clear hl hB9 hg
  have HCm : Hid (∀ op bt : Int, In64 op → In64 bt → OkC7 (op, at_, (mm : Int), 0, bt)) := fun op bt h1 h2 => ⟨h1, HAt.out, by unfold In64; simp only; omega, (by decide : In64 0), h2⟩
  go_wp2_with fail
  go_loopw [10] (fun i W => ∃ q : Nat, q ≤ 3 ∧ i = .int .i64 q ∧ Hid (Later w6 W)) (fun i _ => 3 - (intOf i).toNat)
  case atStart => exact ⟨0, by omega, rfl, Later.refl _⟩
  case round =>
  obtain ⟨q, hq, rfl, LW⟩ := hrel
  by_cases hlt : q < 3
  case neg =>
    have LZ := hide (LL.out.trans LW.out)
    go_wp2
    go_ret
    exact ⟨rfl, LZ.out⟩
  rcases (show q = 0 ∨ q = 1 ∨ q = 2 by omega) with rfl | rfl | rfl
  · replace HCm := hide (HCm.out 40 0 (by decide) (by decide))
    have hc := fun q' => (LW.out.trans ((Later.refl wr).drew.trans (later_rg wr.drew q')))
    have x_0 := fun q' => (BX.out.later (hc q')).cell 0
    have x_1 := fun q' => (BX.out.later (hc q')).cell 1
    have x_2 := fun q' => (BX.out.later (hc q')).cell 2
    have x_3 := fun q' => (BX.out.later (hc q')).cell 3
    have x_4 := fun q' => (BX.out.later (hc q')).cell 4
    have x_5 := fun q' => (BX.out.later (hc q')).cell 5
    have x_6 := fun q' => (BX.out.later (hc q')).cell 6
    have x_7 := fun q' => (BX.out.later (hc q')).cell 7
    have x_8 := fun q' => (BX.out.later (hc q')).cell 8
    have x_9 := fun q' => (BX.out.later (hc q')).cell 9
    have b9 := fun q' => (B9.out.later (hc q')).cell 0
    go_wp2_with fail
    refine wp_region_bag [0, 1, 2, 3, 4, 5, 6, 7, 8, 9] [10, 11, 12, 13, 14, 15, 16, 17] [16, 17] (by kernel_rfl) (by kernel_rfl) (by kernel_rfl) (by kernel_rfl) ?_
    iterate 10 (refine wpM_mild rfl (fun K hK => ?_); go_simp; refine hK _ ?_; clear hK K)
    clear x_0 x_1 x_2 x_3 x_4 x_5 x_6 x_7 x_8 x_9
    clear b9 hc
    have hwd := (Later.refl wr).drew
    have HTb := hide (beg_read (n := n) (F := F) (D := D) (p := p) (r := r) (l := l) (cc := cc) (M := M) (s := s) (lun := 0) (luns := 1) (op := 40) (A := at_) (k := (mm : Int)) (pg := 0) (bt := 0) (by decide))
    have HZ := hide (inI_read (L := rdL n F D (checkS n D p r at_ (mm : Int) false) at_ (mm : Int)) (S := checkS n D p r at_ (mm : Int) false) rdL_bad)
    rw [HRL.out, HSL.out] at HTb HZ
    generalize inI L S1 = Z at *
    refine wpM_nil (two_reads 9 (Plain.of (by kernel_rfl)) 32 43 (by decide) (uc none 0 0 none 0 0 false false false false none 0 0 (0, 0, 0)) zI Try.zero_unit Try.zero_intent Try.info_unit Try.info_intent (uc_nob _ _ _ _ _ _ _ _ _ _ _ _ _ _) (ic_nob _ _ _ _ _ _ _ _ _ _ _ _ _)
      (PdI wr n r cc am cm M ((F, D, p, l, M, s), Z)) (fun x y W h => h.one) (fun x y W W' hl h => h.later hl) (fun x y W g t cs vs ht hB hn _ h => h.set ht hB hn vs)
      [.tmp 33, .const (.int .i64 0), .const (.int .i64 1), .tmp 42] _ [uval ab n cb aD k cD p r l cc am m cm s, .int .i64 0, .int .i64 1, cval (40, at_, (mm : Int), 0, 0)] rfl
      ⟨_, rfl, rfl, rfl, rfl⟩ ⟨_, rfl, rfl, rfl, rfl⟩ ⟨_, rfl, rfl, rfl, rfl⟩ ⟨_, rfl, rfl, rfl, rfl⟩ ⟨_, rfl, rfl, rfl, rfl⟩ ⟨_, rfl, rfl, rfl, rfl⟩ ⟨_, rfl, rfl, rfl, rfl⟩ ⟨_, rfl, rfl, rfl, rfl⟩ (of_decide_eq_true (by kernel_rfl)) (by kernel_rfl) ?kA0 ?kB0)
    case kA0 =>
      intro W h
      have hlw := LW.out.trans (hwd.trans h)
      refine (iB (uval ab n cb aD k cD p r l cc am m cm s) n F D p r l cc am m cm s M 0 1 (40, at_, (mm : Int), 0, 0) W ⟨_, _, _, _, _, rfl, HM.out.later hlw⟩ (HA.out.later hlw) HCm.out HS.out (by decide) (by decide) HN.out.1 HN.out.2.1 HN.out.2.2).mono ?_
      rintro e w' ⟨x, y, rfl, hl, hp⟩
      rw [HTb.out] at hp
      exact ⟨x, y, rfl, hl, hp.base (hwd.trans h).size⟩
    intro x y e1 e2 W hL hb1 hb2 hPd he1 he2
    obtain ⟨⟨ab', cb', aD', k', cD', am', cm', rfl, hm', ha'⟩, ax, cx, ar, cr, rfl, hbs⟩ := hPd
    obtain ⟨dir, len, L2, cj, jl, s2⟩ := Z
    simp only at HZ hm' ha' hbs hb1 hb2 ⊢
    obtain ⟨hz1, hz2⟩ := HZ.out
    clear HZ
    subst hz1 hz2
    rw [← HKv.out] at hb2 hbs ⊢
    have hl := LW.out.trans (hwd.trans hL)
    have LZ := hide hl
    have E1 := hide hb1
    have E2 := hide hb2
    have EM := hide hm'
    have EA := hide ha'
    have EB := hide hbs
    clear hl hwd hL hb1 hb2 hm' ha' hbs he1 he2 HTb
    generalize hml : M.length = ml at *
    simp only [Act.put, List.setIfInBounds_toArray, List.set_cons_succ, List.set_cons_zero]
    have s14 := E2.out.cell 14
    have s15 := E2.out.cell 15
    have s16 := E2.out.cell 16
    have s2x := E2.out.cell 2
    have r0 := (B8.out.later LZ.out).cell 0
    have r1 := (B8.out.later LZ.out).cell 1
    have r2 := (B8.out.later LZ.out).cell 2
    have g1 := EB.out.strOf
    have g2 := (HV.out.later LZ.out).strOf
    have x_0 := E1.out.cell 0
    have x_1 := E1.out.cell 1
    have x_2 := E1.out.cell 2
    have x_3 := E1.out.cell 3
    have x_4 := E1.out.cell 4
    have x_5 := E1.out.cell 5
    have x_6 := E1.out.cell 6
    have x_7 := E1.out.cell 7
    have x_8 := E1.out.cell 8
    have x_9 := E1.out.cell 9
    have z_0 := (BX.out.later LZ.out).cell 0
    have z_1 := (BX.out.later LZ.out).cell 1
    have z_2 := (BX.out.later LZ.out).cell 2
    have z_3 := (BX.out.later LZ.out).cell 3
    have z_4 := (BX.out.later LZ.out).cell 4
    have z_5 := (BX.out.later LZ.out).cell 5
    have z_6 := (BX.out.later LZ.out).cell 6
    have z_7 := (BX.out.later LZ.out).cell 7
    have z_8 := (BX.out.later LZ.out).cell 8
    have z_9 := (BX.out.later LZ.out).cell 9
    go_wp2_with (refine wpList_neqS9 (by kernel_rfl) (.tmp 47) (.tmp 48) rfl _ _ rfl rfl false (by simp) ?_)
    refine (runit_c W ⟨_, _, _, _, _, rfl, EM.out⟩ ⟨_, _, _, _, _, rfl, HM.out.later LZ.out⟩ (by have h := EA.out.sl (HA.out.later LZ.out); rw [hml] at h; exact h) (HA.out.later LZ.out)).mono ?_
    rintro e wu ⟨rfl, hl⟩
    rw [show ((p == p && (r == r && (l == l && (F == F && D == D)))) && (cc == cc && (s == s && M == M))) = true by simp]
    replace LZ := hide (LZ.out.trans hl)
    clear hl
    clear x_0 x_1 x_2 x_3 x_4 x_5 x_6 x_7 x_8 x_9
    clear z_0 z_1 z_2 z_3 z_4 z_5 z_6 z_7 z_8 z_9
    clear s14 s15 s16 s2x r0 r1 r2 g1 g2
    go_wp2
    go_roundw
    case rel => exact ⟨0 + 1, by omega, by go_num, LZ⟩
    case measure => first | (simp [intOf]; done) | (simp [intOf]; omega)
  · replace HCm := hide (HCm.out 168 1 (by decide) (by decide))
    have hc := fun q' => (LW.out.trans ((Later.refl wr).drew.trans (later_rg wr.drew q')))
    have x_0 := fun q' => (BX.out.later (hc q')).cell 0
    have x_1 := fun q' => (BX.out.later (hc q')).cell 1
    have x_2 := fun q' => (BX.out.later (hc q')).cell 2
    have x_3 := fun q' => (BX.out.later (hc q')).cell 3
    have x_4 := fun q' => (BX.out.later (hc q')).cell 4
    have x_5 := fun q' => (BX.out.later (hc q')).cell 5
    have x_6 := fun q' => (BX.out.later (hc q')).cell 6
    have x_7 := fun q' => (BX.out.later (hc q')).cell 7
    have x_8 := fun q' => (BX.out.later (hc q')).cell 8
    have x_9 := fun q' => (BX.out.later (hc q')).cell 9
    have b9 := fun q' => (B9.out.later (hc q')).cell 1
    go_wp2_with fail
    refine wp_region_bag [0, 1, 2, 3, 4, 5, 6, 7, 8, 9] [10, 11, 12, 13, 14, 15, 16, 17] [16, 17] (by kernel_rfl) (by kernel_rfl) (by kernel_rfl) (by kernel_rfl) ?_
    iterate 10 (refine wpM_mild rfl (fun K hK => ?_); go_simp; refine hK _ ?_; clear hK K)
    clear x_0 x_1 x_2 x_3 x_4 x_5 x_6 x_7 x_8 x_9
    clear b9 hc
    have hwd := (Later.refl wr).drew
    have HTb := hide (beg_read (n := n) (F := F) (D := D) (p := p) (r := r) (l := l) (cc := cc) (M := M) (s := s) (lun := 0) (luns := 1) (op := 168) (A := at_) (k := (mm : Int)) (pg := 0) (bt := 1) (by decide))
    have HZ := hide (inI_read (L := rdL n F D (checkS n D p r at_ (mm : Int) false) at_ (mm : Int)) (S := checkS n D p r at_ (mm : Int) false) rdL_bad)
    rw [HRL.out, HSL.out] at HTb HZ
    generalize inI L S1 = Z at *
    refine wpM_nil (two_reads 9 (Plain.of (by kernel_rfl)) 32 43 (by decide) (uc none 0 0 none 0 0 false false false false none 0 0 (0, 0, 0)) zI Try.zero_unit Try.zero_intent Try.info_unit Try.info_intent (uc_nob _ _ _ _ _ _ _ _ _ _ _ _ _ _) (ic_nob _ _ _ _ _ _ _ _ _ _ _ _ _)
      (PdI wr n r cc am cm M ((F, D, p, l, M, s), Z)) (fun x y W h => h.one) (fun x y W W' hl h => h.later hl) (fun x y W g t cs vs ht hB hn _ h => h.set ht hB hn vs)
      [.tmp 33, .const (.int .i64 0), .const (.int .i64 1), .tmp 42] _ [uval ab n cb aD k cD p r l cc am m cm s, .int .i64 0, .int .i64 1, cval (168, at_, (mm : Int), 0, 1)] rfl
      ⟨_, rfl, rfl, rfl, rfl⟩ ⟨_, rfl, rfl, rfl, rfl⟩ ⟨_, rfl, rfl, rfl, rfl⟩ ⟨_, rfl, rfl, rfl, rfl⟩ ⟨_, rfl, rfl, rfl, rfl⟩ ⟨_, rfl, rfl, rfl, rfl⟩ ⟨_, rfl, rfl, rfl, rfl⟩ ⟨_, rfl, rfl, rfl, rfl⟩ (of_decide_eq_true (by kernel_rfl)) (by kernel_rfl) ?kA1 ?kB1)
    case kA1 =>
      intro W h
      have hlw := LW.out.trans (hwd.trans h)
      refine (iB (uval ab n cb aD k cD p r l cc am m cm s) n F D p r l cc am m cm s M 0 1 (168, at_, (mm : Int), 0, 1) W ⟨_, _, _, _, _, rfl, HM.out.later hlw⟩ (HA.out.later hlw) HCm.out HS.out (by decide) (by decide) HN.out.1 HN.out.2.1 HN.out.2.2).mono ?_
      rintro e w' ⟨x, y, rfl, hl, hp⟩
      rw [HTb.out] at hp
      exact ⟨x, y, rfl, hl, hp.base (hwd.trans h).size⟩
    intro x y e1 e2 W hL hb1 hb2 hPd he1 he2
    obtain ⟨⟨ab', cb', aD', k', cD', am', cm', rfl, hm', ha'⟩, ax, cx, ar, cr, rfl, hbs⟩ := hPd
    obtain ⟨dir, len, L2, cj, jl, s2⟩ := Z
    simp only at HZ hm' ha' hbs hb1 hb2 ⊢
    obtain ⟨hz1, hz2⟩ := HZ.out
    clear HZ
    subst hz1 hz2
    rw [← HKv.out] at hb2 hbs ⊢
    have hl := LW.out.trans (hwd.trans hL)
    have LZ := hide hl
    have E1 := hide hb1
    have E2 := hide hb2
    have EM := hide hm'
    have EA := hide ha'
    have EB := hide hbs
    clear hl hwd hL hb1 hb2 hm' ha' hbs he1 he2 HTb
    generalize hml : M.length = ml at *
    simp only [Act.put, List.setIfInBounds_toArray, List.set_cons_succ, List.set_cons_zero]
    have s14 := E2.out.cell 14
    have s15 := E2.out.cell 15
    have s16 := E2.out.cell 16
    have s2x := E2.out.cell 2
    have r0 := (B8.out.later LZ.out).cell 0
    have r1 := (B8.out.later LZ.out).cell 1
    have r2 := (B8.out.later LZ.out).cell 2
    have g1 := EB.out.strOf
    have g2 := (HV.out.later LZ.out).strOf
    have x_0 := E1.out.cell 0
    have x_1 := E1.out.cell 1
    have x_2 := E1.out.cell 2
    have x_3 := E1.out.cell 3
    have x_4 := E1.out.cell 4
    have x_5 := E1.out.cell 5
    have x_6 := E1.out.cell 6
    have x_7 := E1.out.cell 7
    have x_8 := E1.out.cell 8
    have x_9 := E1.out.cell 9
    have z_0 := (BX.out.later LZ.out).cell 0
    have z_1 := (BX.out.later LZ.out).cell 1
    have z_2 := (BX.out.later LZ.out).cell 2
    have z_3 := (BX.out.later LZ.out).cell 3
    have z_4 := (BX.out.later LZ.out).cell 4
    have z_5 := (BX.out.later LZ.out).cell 5
    have z_6 := (BX.out.later LZ.out).cell 6
    have z_7 := (BX.out.later LZ.out).cell 7
    have z_8 := (BX.out.later LZ.out).cell 8
    have z_9 := (BX.out.later LZ.out).cell 9
    go_wp2_with (refine wpList_neqS9 (by kernel_rfl) (.tmp 47) (.tmp 48) rfl _ _ rfl rfl false (by simp) ?_)
    refine (runit_c W ⟨_, _, _, _, _, rfl, EM.out⟩ ⟨_, _, _, _, _, rfl, HM.out.later LZ.out⟩ (by have h := EA.out.sl (HA.out.later LZ.out); rw [hml] at h; exact h) (HA.out.later LZ.out)).mono ?_
    rintro e wu ⟨rfl, hl⟩
    rw [show ((p == p && (r == r && (l == l && (F == F && D == D)))) && (cc == cc && (s == s && M == M))) = true by simp]
    replace LZ := hide (LZ.out.trans hl)
    clear hl
    clear x_0 x_1 x_2 x_3 x_4 x_5 x_6 x_7 x_8 x_9
    clear z_0 z_1 z_2 z_3 z_4 z_5 z_6 z_7 z_8 z_9
    clear s14 s15 s16 s2x r0 r1 r2 g1 g2
    go_wp2
    go_roundw
    case rel => exact ⟨1 + 1, by omega, by go_num, LZ⟩
    case measure => first | (simp [intOf]; done) | (simp [intOf]; omega)
  · replace HCm := hide (HCm.out 136 0 (by decide) (by decide))
    have hc := fun q' => (LW.out.trans ((Later.refl wr).drew.trans (later_rg wr.drew q')))
    have x_0 := fun q' => (BX.out.later (hc q')).cell 0
    have x_1 := fun q' => (BX.out.later (hc q')).cell 1
    have x_2 := fun q' => (BX.out.later (hc q')).cell 2
    have x_3 := fun q' => (BX.out.later (hc q')).cell 3
    have x_4 := fun q' => (BX.out.later (hc q')).cell 4
    have x_5 := fun q' => (BX.out.later (hc q')).cell 5
    have x_6 := fun q' => (BX.out.later (hc q')).cell 6
    have x_7 := fun q' => (BX.out.later (hc q')).cell 7
    have x_8 := fun q' => (BX.out.later (hc q')).cell 8
    have x_9 := fun q' => (BX.out.later (hc q')).cell 9
    have b9 := fun q' => (B9.out.later (hc q')).cell 2
    go_wp2_with fail
    refine wp_region_bag [0, 1, 2, 3, 4, 5, 6, 7, 8, 9] [10, 11, 12, 13, 14, 15, 16, 17] [16, 17] (by kernel_rfl) (by kernel_rfl) (by kernel_rfl) (by kernel_rfl) ?_
    iterate 10 (refine wpM_mild rfl (fun K hK => ?_); go_simp; refine hK _ ?_; clear hK K)
    clear x_0 x_1 x_2 x_3 x_4 x_5 x_6 x_7 x_8 x_9
    clear b9 hc
    have hwd := (Later.refl wr).drew
    have HTb := hide (beg_read (n := n) (F := F) (D := D) (p := p) (r := r) (l := l) (cc := cc) (M := M) (s := s) (lun := 0) (luns := 1) (op := 136) (A := at_) (k := (mm : Int)) (pg := 0) (bt := 0) (by decide))
    have HZ := hide (inI_read (L := rdL n F D (checkS n D p r at_ (mm : Int) false) at_ (mm : Int)) (S := checkS n D p r at_ (mm : Int) false) rdL_bad)
    rw [HRL.out, HSL.out] at HTb HZ
    generalize inI L S1 = Z at *
    refine wpM_nil (two_reads 9 (Plain.of (by kernel_rfl)) 32 43 (by decide) (uc none 0 0 none 0 0 false false false false none 0 0 (0, 0, 0)) zI Try.zero_unit Try.zero_intent Try.info_unit Try.info_intent (uc_nob _ _ _ _ _ _ _ _ _ _ _ _ _ _) (ic_nob _ _ _ _ _ _ _ _ _ _ _ _ _)
      (PdI wr n r cc am cm M ((F, D, p, l, M, s), Z)) (fun x y W h => h.one) (fun x y W W' hl h => h.later hl) (fun x y W g t cs vs ht hB hn _ h => h.set ht hB hn vs)
      [.tmp 33, .const (.int .i64 0), .const (.int .i64 1), .tmp 42] _ [uval ab n cb aD k cD p r l cc am m cm s, .int .i64 0, .int .i64 1, cval (136, at_, (mm : Int), 0, 0)] rfl
      ⟨_, rfl, rfl, rfl, rfl⟩ ⟨_, rfl, rfl, rfl, rfl⟩ ⟨_, rfl, rfl, rfl, rfl⟩ ⟨_, rfl, rfl, rfl, rfl⟩ ⟨_, rfl, rfl, rfl, rfl⟩ ⟨_, rfl, rfl, rfl, rfl⟩ ⟨_, rfl, rfl, rfl, rfl⟩ ⟨_, rfl, rfl, rfl, rfl⟩ (of_decide_eq_true (by kernel_rfl)) (by kernel_rfl) ?kA2 ?kB2)
    case kA2 =>
      intro W h
      have hlw := LW.out.trans (hwd.trans h)
      refine (iB (uval ab n cb aD k cD p r l cc am m cm s) n F D p r l cc am m cm s M 0 1 (136, at_, (mm : Int), 0, 0) W ⟨_, _, _, _, _, rfl, HM.out.later hlw⟩ (HA.out.later hlw) HCm.out HS.out (by decide) (by decide) HN.out.1 HN.out.2.1 HN.out.2.2).mono ?_
      rintro e w' ⟨x, y, rfl, hl, hp⟩
      rw [HTb.out] at hp
      exact ⟨x, y, rfl, hl, hp.base (hwd.trans h).size⟩
    intro x y e1 e2 W hL hb1 hb2 hPd he1 he2
    obtain ⟨⟨ab', cb', aD', k', cD', am', cm', rfl, hm', ha'⟩, ax, cx, ar, cr, rfl, hbs⟩ := hPd
    obtain ⟨dir, len, L2, cj, jl, s2⟩ := Z
    simp only at HZ hm' ha' hbs hb1 hb2 ⊢
    obtain ⟨hz1, hz2⟩ := HZ.out
    clear HZ
    subst hz1 hz2
    rw [← HKv.out] at hb2 hbs ⊢
    have hl := LW.out.trans (hwd.trans hL)
    have LZ := hide hl
    have E1 := hide hb1
    have E2 := hide hb2
    have EM := hide hm'
    have EA := hide ha'
    have EB := hide hbs
    clear hl hwd hL hb1 hb2 hm' ha' hbs he1 he2 HTb
    generalize hml : M.length = ml at *
    simp only [Act.put, List.setIfInBounds_toArray, List.set_cons_succ, List.set_cons_zero]
    have s14 := E2.out.cell 14
    have s15 := E2.out.cell 15
    have s16 := E2.out.cell 16
    have s2x := E2.out.cell 2
    have r0 := (B8.out.later LZ.out).cell 0
    have r1 := (B8.out.later LZ.out).cell 1
    have r2 := (B8.out.later LZ.out).cell 2
    have g1 := EB.out.strOf
    have g2 := (HV.out.later LZ.out).strOf
    have x_0 := E1.out.cell 0
    have x_1 := E1.out.cell 1
    have x_2 := E1.out.cell 2
    have x_3 := E1.out.cell 3
    have x_4 := E1.out.cell 4
    have x_5 := E1.out.cell 5
    have x_6 := E1.out.cell 6
    have x_7 := E1.out.cell 7
    have x_8 := E1.out.cell 8
    have x_9 := E1.out.cell 9
    have z_0 := (BX.out.later LZ.out).cell 0
    have z_1 := (BX.out.later LZ.out).cell 1
    have z_2 := (BX.out.later LZ.out).cell 2
    have z_3 := (BX.out.later LZ.out).cell 3
    have z_4 := (BX.out.later LZ.out).cell 4
    have z_5 := (BX.out.later LZ.out).cell 5
    have z_6 := (BX.out.later LZ.out).cell 6
    have z_7 := (BX.out.later LZ.out).cell 7
    have z_8 := (BX.out.later LZ.out).cell 8
    have z_9 := (BX.out.later LZ.out).cell 9
    go_wp2_with (refine wpList_neqS9 (by kernel_rfl) (.tmp 47) (.tmp 48) rfl _ _ rfl rfl false (by simp) ?_)
    refine (runit_c W ⟨_, _, _, _, _, rfl, EM.out⟩ ⟨_, _, _, _, _, rfl, HM.out.later LZ.out⟩ (by have h := EA.out.sl (HA.out.later LZ.out); rw [hml] at h; exact h) (HA.out.later LZ.out)).mono ?_
    rintro e wu ⟨rfl, hl⟩
    rw [show ((p == p && (r == r && (l == l && (F == F && D == D)))) && (cc == cc && (s == s && M == M))) = true by simp]
    replace LZ := hide (LZ.out.trans hl)
    clear hl
    clear x_0 x_1 x_2 x_3 x_4 x_5 x_6 x_7 x_8 x_9
    clear z_0 z_1 z_2 z_3 z_4 z_5 z_6 z_7 z_8 z_9
    clear s14 s15 s16 s2x r0 r1 r2 g1 g2
    go_wp2
    go_roundw
    case rel => exact ⟨2 + 1, by omega, by go_num, LZ⟩
    case measure => first | (simp [intOf]; done) | (simp [intOf]; omega)
end Go.Proofs.Ytmelkgmbiiobgaa
