import Derived.Test.YtmelkgmbiiobgaaMAO
import Derived.Test.YtmelkgmbiiobgaaMAG
namespace Go.Proofs.Ytmelkgmbiiobgaa
open Go.ChangeShapes Go.WideShapes Go.ChangeAt Go.RowKit
set_option linter.unusedVariables false
set_option maxRecDepth 4000
set_option linter.unusedSimpArgs false
/-! To begin a command changes nothing of what is shown. -/
theorem Rw.block11 {w : World} {a : Option Addr} {n cap : Nat} {G : List UInt8} (h : Rw 64 w (.slice a n cap) n (bv G)) (hn : 0 < n) : ∃ b o, a = some ⟨b, o, none⟩ ∧ w.rangeAt b o (bv G) ∧ G.length = n * 64 ∧ n ≤ cap := by
  obtain ⟨hl, _, a', cap', e, hc, h⟩ := h
  simp only [Value.slice.injEq] at e
  obtain ⟨rfl, -, rfl⟩ := e
  rw [bv_length] at hl
  rcases h with h | ⟨b, off, rfl, h⟩
  · omega
  · exact ⟨b, off, rfl, h, hl, hc⟩
theorem Med.dirty11 {w : World} {vb vd : Value} {n : Nat} {F : List UInt8} {D : List Drt} (h : Med w (.agg #[vb, vd]) n F D) : Rw 65 w vd D.length (dv D) := by
  obtain ⟨vb', vd', e, _, hd, _⟩ := h
  simp at e
  obtain ⟨rfl, rfl⟩ := e
  exact hd
set_option maxRecDepth 20000 in
set_option maxHeartbeats 8000000 in
theorem intentShows_walk (hal : Alive11) (iB : IBegin11) {ab : Option Addr} {n cb : Nat} {aD : Option Addr} {k cD : Nat} {F : List UInt8} {D : List Drt} {p r l cc : Bool} {am : Option Addr} {m cm : Nat} {s : Sns} {M : List Sns} {a b : Int} {c : Cmd} (w : World)
    (hm : Med w (.agg #[.slice ab n cb, .slice aD k cD]) n F D) (hA : Sl w (.slice am m cm) M) (hs : OkS s) (hc : OkC7 c) (ha : In64 a) (hb : In64 b) (hm1 : m ≤ maxLen) :
    Calls Try.prog 4 #[uval ab n cb aD k cD p r l cc am m cm s, .agg #[.int .i64 a, .int .i64 b], cval c] w fun e w' => e = .returned (.bool true) ∧ Below w.heap.size w w' := by
  have HM := hide hm
  have HA := hide hA
  have HS := hide hs
  have HC := hide hc
  have HI := hide (And.intro ha hb)
  have N1 := hide hm1
  have HFo : Hid (Ok D ∧ F.length = n * 64) := by
    obtain ⟨vb, vd, e, hb, hd, ho⟩ := hm
    have := hb.1
    rw [bv_length] at this
    exact ⟨ho, this⟩
  clear hm hA hs hc ha hb hm1
  have BX := hide (((Box.new w 32 (uc ab n cb aD k cD p r l cc am m cm s).toArray).alloc (.cells #[.int .i64 a, .int .i64 b] 33)).alloc (.cells #[.int .i64 c.1, .int .u64 (c.2.1 : Int), .int .i64 c.2.2.1, .int .i64 c.2.2.2.1, .int .i64 c.2.2.2.2] 36))
  have BT : Hid (Box _ (w.heap.size + 1) 33 [.int .i64 a, .int .i64 b]) := (Box.new' (w.alloc (.cells (uc ab n cb aD k cD p r l cc am m cm s).toArray 32)) 33 #[.int .i64 a, .int .i64 b] _ rfl _ (by simp)).alloc (.cells #[.int .i64 c.1, .int .u64 (c.2.1 : Int), .int .i64 c.2.2.1, .int .i64 c.2.2.2.1, .int .i64 c.2.2.2.2] 36)
  have BC : Hid (Box _ (w.heap.size + 1 + 1) 36 [.int .i64 c.1, .int .u64 (c.2.1 : Int), .int .i64 c.2.2.1, .int .i64 c.2.2.2.1, .int .i64 c.2.2.2.2]) := Box.new' ((w.alloc (.cells (uc ab n cb aD k cD p r l cc am m cm s).toArray 32)).alloc (.cells #[.int .i64 a, .int .i64 b] 33)) 36 #[.int .i64 c.1, .int .u64 (c.2.1 : Int), .int .i64 c.2.2.1, .int .i64 c.2.2.2.1, .int .i64 c.2.2.2.2] _ rfl _ (by simp)
  have LL := hide ((((Later.refl w).alloc (.cells (uc ab n cb aD k cD p r l cc am m cm s).toArray 32)).alloc (.cells #[.int .i64 a, .int .i64 b] 33)).alloc (.cells #[.int .i64 c.1, .int .u64 (c.2.1 : Int), .int .i64 c.2.2.1, .int .i64 c.2.2.2.1, .int .i64 c.2.2.2.2] 36))
  go_enter Try.func4, Try.ntmps4
  go_wp2_with fail
  generalize ((w.alloc (.cells (uc ab n cb aD k cD p r l cc am m cm s).toArray 32)).alloc (.cells #[.int .i64 a, .int .i64 b] 33)).alloc (.cells #[.int .i64 c.1, .int .u64 (c.2.1 : Int), .int .i64 c.2.2.1, .int .i64 c.2.2.2.1, .int .i64 c.2.2.2.2] 36) = w1 at *
  replace HM := hide (HM.out.later LL.out)
  replace HA := hide (HA.out.later LL.out)
  obtain ⟨gc, hgc⟩ : ∃ gc, gc = w.heap.size + 1 + 1 := ⟨_, rfl⟩
  obtain ⟨gt, hgt⟩ : ∃ gt, gt = w.heap.size + 1 := ⟨_, rfl⟩
  obtain ⟨gx, hgx⟩ : ∃ gx, gx = w.heap.size := ⟨_, rfl⟩
  rw [← hgc] at BC ⊢
  rw [← hgt] at BT ⊢
  rw [← hgx] at BX ⊢
  clear hgc hgt hgx
  refine (hal _).mono ?_
  rintro e w2 ⟨rfl, hl⟩
  replace LL := hide (LL.out.trans hl)
  replace HM := hide (HM.out.later hl)
  replace HA := hide (HA.out.later hl)
  replace BX := hide (BX.out.later hl)
  replace BT := hide (BT.out.later hl)
  replace BC := hide (BC.out.later hl)
  clear hl
  have x_0 := BX.out.cell 0
  have x_1 := BX.out.cell 1
  have x_2 := BX.out.cell 2
  have x_3 := BX.out.cell 3
  have x_4 := BX.out.cell 4
  have x_5 := BX.out.cell 5
  have x_6 := BX.out.cell 6
  have x_7 := BX.out.cell 7
  have x_8 := BX.out.cell 8
  have x_9 := BX.out.cell 9
  have c0 := BC.out.cell 0
  have c1 := BC.out.cell 1
  have c2 := BC.out.cell 2
  have c3 := BC.out.cell 3
  have c4 := BC.out.cell 4
  go_wp2_with fail
  refine (great11_c (l := l) (r := r) (p := p) (cc := cc) (am := am) (m := m) (cm := cm) (s := s) (c := c) _ HM.out N1.out).mono ?_
  rintro e w3 ⟨rfl, hl⟩
  replace LL := hide (LL.out.trans hl)
  replace HM := hide (HM.out.later hl)
  replace HA := hide (HA.out.later hl)
  replace BX := hide (BX.out.later hl)
  replace BT := hide (BT.out.later hl)
  replace BC := hide (BC.out.later hl)
  clear hl c0 c1 c2 c3 c4
  clear x_0 x_1 x_2 x_3 x_4 x_5 x_6 x_7 x_8 x_9
  cases hG : great11 n D m with
  | true =>
    go_wp2
    go_ret
    exact ⟨rfl, LL.out⟩
  | false =>
  have HN := hide (great11_no hG)
  clear hG N1
  have x0 := BX.out.cell 0
  have x1 := BX.out.cell 1
  go_wp2_with fail
  refine (rright_c _ HM.out).mono ?_
  rintro e w3 ⟨rfl, hl⟩
  replace LL := hide (LL.out.trans hl)
  replace HM := hide (HM.out.later hl)
  replace HA := hide (HA.out.later hl)
  replace BX := hide (BX.out.later hl)
  replace BT := hide (BT.out.later hl)
  replace BC := hide (BC.out.later hl)
  clear hl x0 x1
  cases hR : rightB n D with
  | false =>
    go_wp2
    go_ret
    exact ⟨rfl, LL.out⟩
  | true =>
  have HR := hide hR
  clear hR
  have x_0 := BX.out.cell 0
  have x_1 := BX.out.cell 1
  have x_2 := BX.out.cell 2
  have x_3 := BX.out.cell 3
  have x_4 := BX.out.cell 4
  have x_5 := BX.out.cell 5
  have x_6 := BX.out.cell 6
  have x_7 := BX.out.cell 7
  have x_8 := BX.out.cell 8
  have x_9 := BX.out.cell 9
  have t0 := BT.out.cell 0
  have t1 := BT.out.cell 1
  have c0 := BC.out.cell 0
  have c1 := BC.out.cell 1
  have c2 := BC.out.cell 2
  have c3 := BC.out.cell 3
  have c4 := BC.out.cell 4
  go_wp2_with fail
  refine (iB (uval ab n cb aD k cD p r l cc am m cm s) n F D p r l cc am m cm s M a b c _ ⟨_, _, _, _, _, rfl, HM.out⟩ HA.out HC.out HS.out HI.out.1 HI.out.2 HN.out.1 HN.out.2.1 HN.out.2.2).mono ?_
  rintro e w4 ⟨u', i', rfl, hl, ⟨ab', cb', aD', k', cD', am', cm', rfl, hm', hA'⟩, ax, cx, ar, cr, rfl, hbs⟩
  have HSh := hide (shows_beg (r := r) (cc := cc) (M := M) (s := s) (lun := a) (luns := b) (c := c) (p := p) (l := l) HR.out HFo.out.1 HFo.out.2)
  have HSy := hide (fun h1 => synced_beg (F := F) (r := r) (p := p) (l := l) (cc := cc) (M := M) (s := s) (lun := a) (luns := b) (c := c) HR.out h1)
  clear hA' hbs
  generalize begI n F D p r l cc M s a b c = Z at *
  obtain ⟨⟨F', D', p', l', M', s'⟩, dir, len, L, cj, jl, sx⟩ := Z
  simp only [Shows] at HSh HSy hm' ⊢
  generalize L.length = kx at *
  generalize M'.length = m' at *
  replace LL := hide (LL.out.trans hl)
  replace HM := hide (HM.out.later hl)
  replace BX := hide (BX.out.later hl)
  replace BC := hide (BC.out.later hl)
  have HM2 := hide hm'
  clear hl hm' c0 c1 c2 c3 c4 t0 t1 BT HA
  clear x_0 x_1 x_2 x_3 x_4 x_5 x_6 x_7 x_8 x_9
  go_wp2_with (refine wpList_newUI rfl rfl rfl rfl rfl rfl 7 8 rfl rfl (by simp) (by simp) (by decide) (.tmp 34) (.tmp 35) (by simp) (by simp) (by simp) (by simp) rfl rfl rfl rfl ab' n cb' aD' k' cD' p' r l' cc am' m' cm' s' rfl dir len ax kx cx cj jl 0 ar 0 cr (0, 0, 0) sx rfl ?_)
  intro g7 g8 w5 hB7 hB8 hl hg
  replace LL := hide (LL.out.trans hl)
  replace HM := hide (HM.out.later hl)
  replace HM2 := hide (HM2.out.later hl)
  replace BX := hide (BX.out.later hl)
  replace BC := hide (BC.out.later hl)
  have B7 := hide hB7
  have B8 := hide hB8
  clear hl hB7 hB8 hg
  have x0 := BX.out.cell 0
  have x1 := BX.out.cell 1
  go_wp2_with fail
  refine (rall_b _ HM.out).mono ?_
  rintro e w6 ⟨v9, rfl, hl, hv9⟩
  rw [show allN n D = n by unfold allN; rw [HR.out]; rfl, show allF n F D = app F D by unfold allF; rw [HR.out]; rfl] at hv9
  replace LL := hide (LL.out.trans hl)
  replace HM2 := hide (HM2.out.later hl)
  replace BX := hide (BX.out.later hl)
  replace BC := hide (BC.out.later hl)
  replace B7 := hide (B7.out.later hl)
  replace B8 := hide (B8.out.later hl)
  have V9 := hide hv9
  clear hl hv9 x0 x1 HM
  have x0 := B7.out.cell 0
  have x1 := B7.out.cell 1
  go_wp2_with fail
  refine (rall_b _ HM2.out).mono ?_
  rintro e w8 ⟨v10, rfl, hl, hv10⟩
  rw [HSh.out.1, HSh.out.2.1] at hv10
  replace LL := hide (LL.out.trans hl)
  replace HM2 := hide (HM2.out.later hl)
  replace BX := hide (BX.out.later hl)
  replace BC := hide (BC.out.later hl)
  replace B7 := hide (B7.out.later hl)
  replace B8 := hide (B8.out.later hl)
  replace V9 := hide (V9.out.later hl)
  have V10 := hide hv10
  clear hl hv10 x0 x1
  have q9 := V9.out
  have q10 := V10.out
  have HGl : Hid ((app F D).length = n * 64) := by have := q9.1; rwa [bv_length] at this
  obtain ⟨-, -, a9, c9, rfl, hc9, -⟩ := q9
  obtain ⟨-, -, a10, c10, rfl, hc10, -⟩ := q10
  have hn70 := HN.out.1
  have x3 := BX.out.cell 3
  have x4 := BX.out.cell 4
  have x2 := BX.out.cell 2
  have z3 := B7.out.cell 3
  have z2 := B7.out.cell 2
  have HP := hide HSh.out.2.2
  clear HSh
  by_cases hlp : l = true ∧ p = true
  · obtain ⟨rfl, rfl⟩ := hlp
    have hp' := HP.out rfl rfl
    subst hp'
    go_wp2_with fail
    have hG := HGl.out
    go_loopw [11] (fun i W => ∃ j : Nat, j ≤ n ∧ i = .int .i64 j ∧ Hid (Later w8 W)) (fun i _ => n - (intOf i).toNat)
    case atStart => exact ⟨0, by omega, rfl, Later.refl _⟩
    case round =>
    obtain ⟨j, hj, rfl, LW⟩ := hrel
    by_cases hlt : j < n
    · obtain ⟨b9, o9, rfl, hr9, -, hcap9⟩ := V9.out.block11 (by omega)
      obtain ⟨b12, o12, rfl, hr12, -, hcap12⟩ := V10.out.block11 (by omega)
      have hXl := hide (seg_length (app F D) (j * 64) 64 (by rw [hG]; omega))
      have r9 := hide (show wr.rangeAt b9 (o9 + j * 64) (bv (seg (app F D) (j * 64) 64)) by have := range_part (LW.out.range hr9) (j * 64) 64; rwa [bv_part] at this)
      have r12 := hide (show wr.rangeAt b12 (o12 + j * 64) (bv (seg (app F D) (j * 64) 64)) by have := range_part (LW.out.range hr12) (j * 64) 64; rwa [bv_part] at this)
      clear hr9 hr12
      generalize seg (app F D) (j * 64) 64 = X at *
      go_wp2_with fail
      refine wp_region_sched ((List.range 9).map fun i => (i, false)) (by kernel_rfl) (by kernel_rfl) (by kernel_rfl) (by kernel_rfl) ?_
      simp only [List.range, List.range.loop, List.map, List.cons_append, List.nil_append]
      iterate 3 (refine wpS_mild rfl (fun K hK => ?_); go_simp; refine hK _ ?_; clear hK K)
      refine wpS_loadG rfl (by kernel_rfl) 50 (.tmp 82) rfl b12 (o12 + j * 64) rfl (bv X) _ ((World.rangeAt_drew _ _ _ _).2 r12.out) Try.underlying50 rfl (by rw [Try.info_block, bv_length, hXl.out]) ?_
      iterate 3 (refine wpS_mild rfl (fun K hK => ?_); go_simp; refine hK _ ?_; clear hK K)
      refine wpS_loadG rfl (by kernel_rfl) 50 (.tmp 86) rfl b9 (o9 + j * 64) rfl (bv X) _ ((World.rangeAt_drew _ _ _ _).2 r9.out) Try.underlying50 rfl (by rw [Try.info_block, bv_length, hXl.out]) ?_
      refine wpS_neqG rfl (by kernel_rfl) 50 50 (.tmp 83) (.tmp 87) rfl _ _ rfl rfl Try.guard_block true (fun w => by rw [block_eq X X hXl.out hXl.out]; simp) ?_
      refine wpS_nil (fun wx hwx => ?_)
      have LZ := hide (LW.out.trans ((Later.refl wr).drew.trans hwx))
      clear hwx r9 r12
      go_wp2
      go_roundw
      case rel => exact ⟨j + 1, by omega, by go_num, LZ⟩
      case measure => simp [intOf]; omega
    replace LL := hide (LL.out.trans LW.out)
    replace BC := hide (BC.out.later LW.out)
    replace B7 := hide (B7.out.later LW.out)
    replace B8 := hide (B8.out.later LW.out)
    replace HM2 := hide (HM2.out.later LW.out)
    clear LW V9 V10 hG
    have c0 := BC.out.cell 0
    go_wp2_with fail
    refine (rclass_c _ _).mono ?_
    rintro e wk ⟨rfl, hw⟩
    have hw2 := hw.symm
    subst hw2
    clear hw c0
    by_cases hk : classI c.1 = 4
    case neg =>
      have ek : (classI c.1 == 4) = false := by simp [hk]
      go_wp2
      go_ret
      exact ⟨rfl, LL.out⟩
    have ek : (classI c.1 == 4) = true := by simp [hk]
    replace HSy := hide (HSy.out hk)
    rw [hk]
    clear hk ek
    have s14 := B8.out.cell 14
    have s15 := B8.out.cell 15
    have s16 := B8.out.cell 16
    by_cases hsx : sx = (0, 0, 0)
    case neg =>
      go_wp2_with (refine wpList_eqS9 (by kernel_rfl) (.tmp 95) (.tmp 96) rfl sx (0, 0, 0) rfl rfl false (by simp [hsx]) ?_)
      go_ret
      exact ⟨rfl, LL.out⟩
    replace HSy := hide (HSy.out hsx)
    go_wp2_with (refine wpList_eqS9 (by kernel_rfl) (.tmp 95) (.tmp 96) rfl sx (0, 0, 0) rfl rfl true (by simp [hsx]) ?_)
    clear s14 s15 s16
    have HKd : Hid (k' = D'.length) := by
      obtain ⟨vb, vd, e, _, hd, _⟩ := HM2.out
      simp at e
      obtain ⟨rfl, rfl⟩ := e
      obtain ⟨_, _, a', c', e', _⟩ := hd
      simp at e'
      exact e'.2.1
    have HDr := hide HM2.out.dirty11
    have HOd : Hid (Ok D') := by obtain ⟨_, _, _, _, _, ho⟩ := HM2.out; exact ho
    have hkm : k' ≤ 9223372036854775807 := by have := HDr.out.2.1; have := HKd.out; unfold maxLen at *; omega
    have HAll := hide (And.intro LL.out (And.intro B7.out BC.out))
    clear LL B7 B8 HM2
    go_loopw [12] (fun i W => ∃ q : Nat, q ≤ k' ∧ i = .int .i64 q ∧ Hid (Later wr W)) (fun i _ => k' - (intOf i).toNat)
    case atStart => exact ⟨0, by omega, rfl, Later.refl _⟩
    case round =>
    obtain ⟨q, hq, rfl, LW⟩ := hrel
    have d1 := (HAll.out.2.1.later LW.out).cell 1
    by_cases hlt : q < k'
    case neg =>
      have LZ := hide (HAll.out.1.trans LW.out)
      go_wp2
      go_ret
      exact ⟨rfl, LZ.out⟩
    have hqD : q < D'.length := by have := HKd.out; omega
    have hsy := HSy.out D'[q] (List.getElem_mem hqD)
    have hdr := HDr.out.later LW.out
    rw [← HKd.out] at hdr
    obtain ⟨bD, oD, e, hrD⟩ := hdr.lies? (by omega)
    subst e
    have hcell := hrD _ _ (dv_at D' q hqD HOd.out)
    generalize D'[q].1 = z at *
    clear hrD hdr hqD
    obtain ⟨y1, y2, y3, y4, y5, y6⟩ := hsy
    have c1 := (HAll.out.2.2.later LW.out).cell 1
    have c2 := (HAll.out.2.2.later LW.out).cell 2
    have hwz : IntKind.u64.wrap z = z := by rw [IntKind.wrap_u64]; omega
    have hwA : IntKind.i64.wrap (c.2.1 : Int) = (c.2.1 : Int) := by rw [IntKind.wrap_i64]; omega
    have hwd : IntKind.i64.wrap (z - (c.2.1 : Int)) = z - (c.2.1 : Int) := by rw [IntKind.wrap_i64]; omega
    have LZ := hide (LW.out)
    rcases y6 with y6 | ⟨y6, y7⟩
    · have e1 : decide ((c.2.1 : Int) ≤ z) = false := by simp; omega
      go_wp2
      go_roundw
      case rel => exact ⟨q + 1, by omega, by go_num, LZ⟩
      case measure => simp [intOf]; omega
    · have e1 : decide ((c.2.1 : Int) ≤ z) = true := by simp; omega
      have e2 : (c.2.2.1 == 0) = false := by simp [y6]
      have e3 : decide (z - (c.2.1 : Int) < c.2.2.1) = false := by simp; omega
      go_wp2
      go_roundw
      case rel => exact ⟨q + 1, by omega, by go_num, LZ⟩
      case measure => simp [intOf]; omega
  · have hlp2 : (l && p) = false := by cases l <;> cases p <;> simp at hlp ⊢
    cases l with
    | false =>
      go_wp2_with fail
      have hG := HGl.out
      go_loopw [11] (fun i W => ∃ j : Nat, j ≤ n ∧ i = .int .i64 j ∧ Hid (Later w8 W)) (fun i _ => n - (intOf i).toNat)
      case atStart => exact ⟨0, by omega, rfl, Later.refl _⟩
      case round =>
      obtain ⟨j, hj, rfl, LW⟩ := hrel
      by_cases hlt : j < n
      · obtain ⟨b9, o9, rfl, hr9, -, hcap9⟩ := V9.out.block11 (by omega)
        obtain ⟨b12, o12, rfl, hr12, -, hcap12⟩ := V10.out.block11 (by omega)
        have hXl := hide (seg_length (app F D) (j * 64) 64 (by rw [hG]; omega))
        have r9 := hide (show wr.rangeAt b9 (o9 + j * 64) (bv (seg (app F D) (j * 64) 64)) by have := range_part (LW.out.range hr9) (j * 64) 64; rwa [bv_part] at this)
        have r12 := hide (show wr.rangeAt b12 (o12 + j * 64) (bv (seg (app F D) (j * 64) 64)) by have := range_part (LW.out.range hr12) (j * 64) 64; rwa [bv_part] at this)
        clear hr9 hr12
        generalize seg (app F D) (j * 64) 64 = X at *
        go_wp2_with fail
        refine wp_region_sched ((List.range 9).map fun i => (i, false)) (by kernel_rfl) (by kernel_rfl) (by kernel_rfl) (by kernel_rfl) ?_
        simp only [List.range, List.range.loop, List.map, List.cons_append, List.nil_append]
        iterate 3 (refine wpS_mild rfl (fun K hK => ?_); go_simp; refine hK _ ?_; clear hK K)
        refine wpS_loadG rfl (by kernel_rfl) 50 (.tmp 82) rfl b12 (o12 + j * 64) rfl (bv X) _ ((World.rangeAt_drew _ _ _ _).2 r12.out) Try.underlying50 rfl (by rw [Try.info_block, bv_length, hXl.out]) ?_
        iterate 3 (refine wpS_mild rfl (fun K hK => ?_); go_simp; refine hK _ ?_; clear hK K)
        refine wpS_loadG rfl (by kernel_rfl) 50 (.tmp 86) rfl b9 (o9 + j * 64) rfl (bv X) _ ((World.rangeAt_drew _ _ _ _).2 r9.out) Try.underlying50 rfl (by rw [Try.info_block, bv_length, hXl.out]) ?_
        refine wpS_neqG rfl (by kernel_rfl) 50 50 (.tmp 83) (.tmp 87) rfl _ _ rfl rfl Try.guard_block true (fun w => by rw [block_eq X X hXl.out hXl.out]; simp) ?_
        refine wpS_nil (fun wx hwx => ?_)
        have LZ := hide (LW.out.trans ((Later.refl wr).drew.trans hwx))
        clear hwx r9 r12
        go_wp2
        go_roundw
        case rel => exact ⟨j + 1, by omega, by go_num, LZ⟩
        case measure => simp [intOf]; omega
      replace LL := hide (LL.out.trans LW.out)
      replace BC := hide (BC.out.later LW.out)
      replace B7 := hide (B7.out.later LW.out)
      replace B8 := hide (B8.out.later LW.out)
      replace HM2 := hide (HM2.out.later LW.out)
      clear LW V9 V10 hG
      have c0 := BC.out.cell 0
      go_wp2_with fail
      refine (rclass_c _ _).mono ?_
      rintro e wk ⟨rfl, hw⟩
      have hw2 := hw.symm
      subst hw2
      clear hw c0
      by_cases hk : classI c.1 = 4
      case neg =>
        have ek : (classI c.1 == 4) = false := by simp [hk]
        go_wp2
        go_ret
        exact ⟨rfl, LL.out⟩
      have ek : (classI c.1 == 4) = true := by simp [hk]
      replace HSy := hide (HSy.out hk)
      rw [hk]
      clear hk ek
      have s14 := B8.out.cell 14
      have s15 := B8.out.cell 15
      have s16 := B8.out.cell 16
      by_cases hsx : sx = (0, 0, 0)
      case neg =>
        go_wp2_with (refine wpList_eqS9 (by kernel_rfl) (.tmp 95) (.tmp 96) rfl sx (0, 0, 0) rfl rfl false (by simp [hsx]) ?_)
        go_ret
        exact ⟨rfl, LL.out⟩
      replace HSy := hide (HSy.out hsx)
      go_wp2_with (refine wpList_eqS9 (by kernel_rfl) (.tmp 95) (.tmp 96) rfl sx (0, 0, 0) rfl rfl true (by simp [hsx]) ?_)
      clear s14 s15 s16
      have HKd : Hid (k' = D'.length) := by
        obtain ⟨vb, vd, e, _, hd, _⟩ := HM2.out
        simp at e
        obtain ⟨rfl, rfl⟩ := e
        obtain ⟨_, _, a', c', e', _⟩ := hd
        simp at e'
        exact e'.2.1
      have HDr := hide HM2.out.dirty11
      have HOd : Hid (Ok D') := by obtain ⟨_, _, _, _, _, ho⟩ := HM2.out; exact ho
      have hkm : k' ≤ 9223372036854775807 := by have := HDr.out.2.1; have := HKd.out; unfold maxLen at *; omega
      have HAll := hide (And.intro LL.out (And.intro B7.out BC.out))
      clear LL B7 B8 HM2
      go_loopw [12] (fun i W => ∃ q : Nat, q ≤ k' ∧ i = .int .i64 q ∧ Hid (Later wr W)) (fun i _ => k' - (intOf i).toNat)
      case atStart => exact ⟨0, by omega, rfl, Later.refl _⟩
      case round =>
      obtain ⟨q, hq, rfl, LW⟩ := hrel
      have d1 := (HAll.out.2.1.later LW.out).cell 1
      by_cases hlt : q < k'
      case neg =>
        have LZ := hide (HAll.out.1.trans LW.out)
        go_wp2
        go_ret
        exact ⟨rfl, LZ.out⟩
      have hqD : q < D'.length := by have := HKd.out; omega
      have hsy := HSy.out D'[q] (List.getElem_mem hqD)
      have hdr := HDr.out.later LW.out
      rw [← HKd.out] at hdr
      obtain ⟨bD, oD, e, hrD⟩ := hdr.lies? (by omega)
      subst e
      have hcell := hrD _ _ (dv_at D' q hqD HOd.out)
      generalize D'[q].1 = z at *
      clear hrD hdr hqD
      obtain ⟨y1, y2, y3, y4, y5, y6⟩ := hsy
      have c1 := (HAll.out.2.2.later LW.out).cell 1
      have c2 := (HAll.out.2.2.later LW.out).cell 2
      have hwz : IntKind.u64.wrap z = z := by rw [IntKind.wrap_u64]; omega
      have hwA : IntKind.i64.wrap (c.2.1 : Int) = (c.2.1 : Int) := by rw [IntKind.wrap_i64]; omega
      have hwd : IntKind.i64.wrap (z - (c.2.1 : Int)) = z - (c.2.1 : Int) := by rw [IntKind.wrap_i64]; omega
      have LZ := hide (LW.out)
      rcases y6 with y6 | ⟨y6, y7⟩
      · have e1 : decide ((c.2.1 : Int) ≤ z) = false := by simp; omega
        go_wp2
        go_roundw
        case rel => exact ⟨q + 1, by omega, by go_num, LZ⟩
        case measure => simp [intOf]; omega
      · have e1 : decide ((c.2.1 : Int) ≤ z) = true := by simp; omega
        have e2 : (c.2.2.1 == 0) = false := by simp [y6]
        have e3 : decide (z - (c.2.1 : Int) < c.2.2.1) = false := by simp; omega
        go_wp2
        go_roundw
        case rel => exact ⟨q + 1, by omega, by go_num, LZ⟩
        case measure => simp [intOf]; omega
    | true =>
      have : p = false := by simpa using hlp2
      subst this
      go_wp2_with fail
      have hG := HGl.out
      go_loopw [11] (fun i W => ∃ j : Nat, j ≤ n ∧ i = .int .i64 j ∧ Hid (Later w8 W)) (fun i _ => n - (intOf i).toNat)
      case atStart => exact ⟨0, by omega, rfl, Later.refl _⟩
      case round =>
      obtain ⟨j, hj, rfl, LW⟩ := hrel
      by_cases hlt : j < n
      · obtain ⟨b9, o9, rfl, hr9, -, hcap9⟩ := V9.out.block11 (by omega)
        obtain ⟨b12, o12, rfl, hr12, -, hcap12⟩ := V10.out.block11 (by omega)
        have hXl := hide (seg_length (app F D) (j * 64) 64 (by rw [hG]; omega))
        have r9 := hide (show wr.rangeAt b9 (o9 + j * 64) (bv (seg (app F D) (j * 64) 64)) by have := range_part (LW.out.range hr9) (j * 64) 64; rwa [bv_part] at this)
        have r12 := hide (show wr.rangeAt b12 (o12 + j * 64) (bv (seg (app F D) (j * 64) 64)) by have := range_part (LW.out.range hr12) (j * 64) 64; rwa [bv_part] at this)
        clear hr9 hr12
        generalize seg (app F D) (j * 64) 64 = X at *
        go_wp2_with fail
        refine wp_region_sched ((List.range 9).map fun i => (i, false)) (by kernel_rfl) (by kernel_rfl) (by kernel_rfl) (by kernel_rfl) ?_
        simp only [List.range, List.range.loop, List.map, List.cons_append, List.nil_append]
        iterate 3 (refine wpS_mild rfl (fun K hK => ?_); go_simp; refine hK _ ?_; clear hK K)
        refine wpS_loadG rfl (by kernel_rfl) 50 (.tmp 82) rfl b12 (o12 + j * 64) rfl (bv X) _ ((World.rangeAt_drew _ _ _ _).2 r12.out) Try.underlying50 rfl (by rw [Try.info_block, bv_length, hXl.out]) ?_
        iterate 3 (refine wpS_mild rfl (fun K hK => ?_); go_simp; refine hK _ ?_; clear hK K)
        refine wpS_loadG rfl (by kernel_rfl) 50 (.tmp 86) rfl b9 (o9 + j * 64) rfl (bv X) _ ((World.rangeAt_drew _ _ _ _).2 r9.out) Try.underlying50 rfl (by rw [Try.info_block, bv_length, hXl.out]) ?_
        refine wpS_neqG rfl (by kernel_rfl) 50 50 (.tmp 83) (.tmp 87) rfl _ _ rfl rfl Try.guard_block true (fun w => by rw [block_eq X X hXl.out hXl.out]; simp) ?_
        refine wpS_nil (fun wx hwx => ?_)
        have LZ := hide (LW.out.trans ((Later.refl wr).drew.trans hwx))
        clear hwx r9 r12
        go_wp2
        go_roundw
        case rel => exact ⟨j + 1, by omega, by go_num, LZ⟩
        case measure => simp [intOf]; omega
      replace LL := hide (LL.out.trans LW.out)
      replace BC := hide (BC.out.later LW.out)
      replace B7 := hide (B7.out.later LW.out)
      replace B8 := hide (B8.out.later LW.out)
      replace HM2 := hide (HM2.out.later LW.out)
      clear LW V9 V10 hG
      have c0 := BC.out.cell 0
      go_wp2_with fail
      refine (rclass_c _ _).mono ?_
      rintro e wk ⟨rfl, hw⟩
      have hw2 := hw.symm
      subst hw2
      clear hw c0
      by_cases hk : classI c.1 = 4
      case neg =>
        have ek : (classI c.1 == 4) = false := by simp [hk]
        go_wp2
        go_ret
        exact ⟨rfl, LL.out⟩
      have ek : (classI c.1 == 4) = true := by simp [hk]
      replace HSy := hide (HSy.out hk)
      rw [hk]
      clear hk ek
      have s14 := B8.out.cell 14
      have s15 := B8.out.cell 15
      have s16 := B8.out.cell 16
      by_cases hsx : sx = (0, 0, 0)
      case neg =>
        go_wp2_with (refine wpList_eqS9 (by kernel_rfl) (.tmp 95) (.tmp 96) rfl sx (0, 0, 0) rfl rfl false (by simp [hsx]) ?_)
        go_ret
        exact ⟨rfl, LL.out⟩
      replace HSy := hide (HSy.out hsx)
      go_wp2_with (refine wpList_eqS9 (by kernel_rfl) (.tmp 95) (.tmp 96) rfl sx (0, 0, 0) rfl rfl true (by simp [hsx]) ?_)
      clear s14 s15 s16
      have HKd : Hid (k' = D'.length) := by
        obtain ⟨vb, vd, e, _, hd, _⟩ := HM2.out
        simp at e
        obtain ⟨rfl, rfl⟩ := e
        obtain ⟨_, _, a', c', e', _⟩ := hd
        simp at e'
        exact e'.2.1
      have HDr := hide HM2.out.dirty11
      have HOd : Hid (Ok D') := by obtain ⟨_, _, _, _, _, ho⟩ := HM2.out; exact ho
      have hkm : k' ≤ 9223372036854775807 := by have := HDr.out.2.1; have := HKd.out; unfold maxLen at *; omega
      have HAll := hide (And.intro LL.out (And.intro B7.out BC.out))
      clear LL B7 B8 HM2
      go_loopw [12] (fun i W => ∃ q : Nat, q ≤ k' ∧ i = .int .i64 q ∧ Hid (Later wr W)) (fun i _ => k' - (intOf i).toNat)
      case atStart => exact ⟨0, by omega, rfl, Later.refl _⟩
      case round =>
      obtain ⟨q, hq, rfl, LW⟩ := hrel
      have d1 := (HAll.out.2.1.later LW.out).cell 1
      by_cases hlt : q < k'
      case neg =>
        have LZ := hide (HAll.out.1.trans LW.out)
        go_wp2
        go_ret
        exact ⟨rfl, LZ.out⟩
      have hqD : q < D'.length := by have := HKd.out; omega
      have hsy := HSy.out D'[q] (List.getElem_mem hqD)
      have hdr := HDr.out.later LW.out
      rw [← HKd.out] at hdr
      obtain ⟨bD, oD, e, hrD⟩ := hdr.lies? (by omega)
      subst e
      have hcell := hrD _ _ (dv_at D' q hqD HOd.out)
      generalize D'[q].1 = z at *
      clear hrD hdr hqD
      obtain ⟨y1, y2, y3, y4, y5, y6⟩ := hsy
      have c1 := (HAll.out.2.2.later LW.out).cell 1
      have c2 := (HAll.out.2.2.later LW.out).cell 2
      have hwz : IntKind.u64.wrap z = z := by rw [IntKind.wrap_u64]; omega
      have hwA : IntKind.i64.wrap (c.2.1 : Int) = (c.2.1 : Int) := by rw [IntKind.wrap_i64]; omega
      have hwd : IntKind.i64.wrap (z - (c.2.1 : Int)) = z - (c.2.1 : Int) := by rw [IntKind.wrap_i64]; omega
      have LZ := hide (LW.out)
      rcases y6 with y6 | ⟨y6, y7⟩
      · have e1 : decide ((c.2.1 : Int) ≤ z) = false := by simp; omega
        go_wp2
        go_roundw
        case rel => exact ⟨q + 1, by omega, by go_num, LZ⟩
        case measure => simp [intOf]; omega
      · have e1 : decide ((c.2.1 : Int) ≤ z) = true := by simp; omega
        have e2 : (c.2.2.1 == 0) = false := by simp [y6]
        have e3 : decide (z - (c.2.1 : Int) < c.2.2.1) = false := by simp; omega
        go_wp2
        go_roundw
        case rel => exact ⟨q + 1, by omega, by go_num, LZ⟩
        case measure => simp [intOf]; omega
end Go.Proofs.Ytmelkgmbiiobgaa
