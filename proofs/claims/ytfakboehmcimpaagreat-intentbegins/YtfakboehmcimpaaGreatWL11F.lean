import Derived.Test.YtfakboehmcimpaaGreatMAT
import Derived.Test.YtfakboehmcimpaaGreatWR11g
import Derived.Test.YtfakboehmcimpaaGreatMAR
import Derived.Test.YtfakboehmcimpaaGreatWR10g
namespace Go.Proofs.YtfakboehmcimpaaGreat
open Go.ChangeShapes Go.WideShapes Go.ChangeAt Go.RowKit
set_option linter.unusedVariables false
set_option maxRecDepth 4000
set_option linter.unusedSimpArgs false
/-! IntentBegins: the walk. -/
set_option maxRecDepth 20000 in
set_option maxHeartbeats 8000000 in
theorem intentBegins_walk (hal : Alive11) (iB : IBegin11) {ab : Option Addr} {n cb : Nat} {aD : Option Addr} {k cD : Nat} {F : List UInt8} {D : List Drt} {p r l cc : Bool} {am : Option Addr} {m cm : Nat} {s : Sns} {M : List Sns} {a b : Int} {c : Cmd} (w : World)
    (hm : Med w (.agg #[.slice ab n cb, .slice aD k cD]) n F D) (hA : Sl w (.slice am m cm) M) (hs : OkS s) (hc : OkC7 c) (ha : In64 a) (hb : In64 b) (hm1 : m ≤ maxLen) :
    Calls Tryz.prog 3 #[uval ab n cb aD k cD p r l cc am m cm s, .agg #[.int .i64 a, .int .i64 b], cval c] w fun e w' => e = .returned (.bool true) ∧ Below w.heap.size w w' := by
  have HM := hide hm
  have HA := hide hA
  have HS := hide hs
  have HC := hide hc
  have HI := hide (And.intro ha hb)
  have N1 := hide hm1
  clear hm hA hs hc ha hb hm1
  have BX := hide (((Box.new w 32 (uc ab n cb aD k cD p r l cc am m cm s).toArray).alloc (.cells #[.int .i64 a, .int .i64 b] 33)).alloc (.cells #[.int .i64 c.1, .int .u64 (c.2.1 : Int), .int .i64 c.2.2.1, .int .i64 c.2.2.2.1, .int .i64 c.2.2.2.2] 36))
  have BT : Hid (Box _ (w.heap.size + 1) 33 [.int .i64 a, .int .i64 b]) := (Box.new' (w.alloc (.cells (uc ab n cb aD k cD p r l cc am m cm s).toArray 32)) 33 #[.int .i64 a, .int .i64 b] _ rfl _ (by simp)).alloc (.cells #[.int .i64 c.1, .int .u64 (c.2.1 : Int), .int .i64 c.2.2.1, .int .i64 c.2.2.2.1, .int .i64 c.2.2.2.2] 36)
  have BC : Hid (Box _ (w.heap.size + 1 + 1) 36 [.int .i64 c.1, .int .u64 (c.2.1 : Int), .int .i64 c.2.2.1, .int .i64 c.2.2.2.1, .int .i64 c.2.2.2.2]) := Box.new' ((w.alloc (.cells (uc ab n cb aD k cD p r l cc am m cm s).toArray 32)).alloc (.cells #[.int .i64 a, .int .i64 b] 33)) 36 #[.int .i64 c.1, .int .u64 (c.2.1 : Int), .int .i64 c.2.2.1, .int .i64 c.2.2.2.1, .int .i64 c.2.2.2.2] _ rfl _ (by simp)
  have LL := hide ((((Later.refl w).alloc (.cells (uc ab n cb aD k cD p r l cc am m cm s).toArray 32)).alloc (.cells #[.int .i64 a, .int .i64 b] 33)).alloc (.cells #[.int .i64 c.1, .int .u64 (c.2.1 : Int), .int .i64 c.2.2.1, .int .i64 c.2.2.2.1, .int .i64 c.2.2.2.2] 36))
  go_enter Tryz.func3, Tryz.ntmps3
  go_wp2_with fail
  generalize ((w.alloc (.cells (uc ab n cb aD k cD p r l cc am m cm s).toArray 32)).alloc (.cells #[.int .i64 a, .int .i64 b] 33)).alloc (.cells #[.int .i64 c.1, .int .u64 (c.2.1 : Int), .int .i64 c.2.2.1, .int .i64 c.2.2.2.1, .int .i64 c.2.2.2.2] 36) = w1 at *
  replace HM := hide (HM.out.later LL.out)
  replace HA := hide (HA.out.later LL.out)
  obtain ⟨gc, hgc⟩ : ∃ gc, gc = w.heap.size + 1 + 1 := ⟨_, rfl⟩
  obtain ⟨gt, hgt⟩ : ∃ gt, gt = w.heap.size + 1 := ⟨_, rfl⟩
  obtain ⟨gx, hgx⟩ : ∃ gx, gx = w.heap.size := ⟨_, rfl⟩
  rw [← hgc] at BC ⊢
  rw [← hgt] at BT ⊢
  rw [← hgx] at BX ⊢
  clear hgc hgt hgx
  refine (hal _).mono ?_
  rintro e w2 ⟨rfl, hl⟩
  replace LL := hide (LL.out.trans hl)
  replace HM := hide (HM.out.later hl)
  replace HA := hide (HA.out.later hl)
  replace BX := hide (BX.out.later hl)
  replace BT := hide (BT.out.later hl)
  replace BC := hide (BC.out.later hl)
  clear hl
  have x_0 := BX.out.cell 0
  have x_1 := BX.out.cell 1
  have x_2 := BX.out.cell 2
  have x_3 := BX.out.cell 3
  have x_4 := BX.out.cell 4
  have x_5 := BX.out.cell 5
  have x_6 := BX.out.cell 6
  have x_7 := BX.out.cell 7
  have x_8 := BX.out.cell 8
  have x_9 := BX.out.cell 9
  have c0 := BC.out.cell 0
  have c1 := BC.out.cell 1
  have c2 := BC.out.cell 2
  have c3 := BC.out.cell 3
  have c4 := BC.out.cell 4
  go_wp2_with fail
  refine (great11_c (l := l) (r := r) (p := p) (cc := cc) (am := am) (m := m) (cm := cm) (s := s) (c := c) _ HM.out N1.out).mono ?_
  rintro e w3 ⟨rfl, hl⟩
  replace LL := hide (LL.out.trans hl)
  replace HM := hide (HM.out.later hl)
  replace HA := hide (HA.out.later hl)
  replace BX := hide (BX.out.later hl)
  replace BT := hide (BT.out.later hl)
  replace BC := hide (BC.out.later hl)
  clear hl c0 c1 c2 c3 c4
  clear x_0 x_1 x_2 x_3 x_4 x_5 x_6 x_7 x_8 x_9
  cases hG : great11 n D m with
  | true =>
    go_wp2
    go_ret
    exact ⟨rfl, LL.out⟩
  | false =>
  have HN := hide (great11_no hG)
  clear hG N1
  have x_0 := BX.out.cell 0
  have x_1 := BX.out.cell 1
  have x_2 := BX.out.cell 2
  have x_3 := BX.out.cell 3
  have x_4 := BX.out.cell 4
  have x_5 := BX.out.cell 5
  have x_6 := BX.out.cell 6
  have x_7 := BX.out.cell 7
  have x_8 := BX.out.cell 8
  have x_9 := BX.out.cell 9
  go_wp2_with fail
  clear x_0 x_1 x_2 x_3 x_4 x_5 x_6 x_7 x_8 x_9
  refine (rcopy10_c (n := n) (F := F) (D := D) (M := M) _ ⟨_, _, _, _, _, rfl, HM.out⟩ HA.out (by have := HN.out; omega) (by have := HN.out; omega) (by have := HN.out; omega)).mono ?_
  rintro e w4 ⟨u0, am0, cm0, rfl, hl, ⟨ab0, cb0, aD0, k0, cD0, rfl, hm0⟩, hA0⟩
  replace LL := hide (LL.out.trans hl)
  replace HM := hide (HM.out.later hl)
  replace HA := hide (HA.out.later hl)
  replace BX := hide (BX.out.later hl)
  replace BT := hide (BT.out.later hl)
  replace BC := hide (BC.out.later hl)
  have HM0 := hide hm0
  have HA0 := hide hA0
  clear hl hm0 hA0
  go_wp2_with (refine wpList_newN rfl rfl rfl 7 rfl (by simp) (.tmp 18) (by simp) rfl ab0 n cb0 aD0 k0 cD0 p r l cc am0 m cm0 s rfl ?_)
  intro g7 w5 hB7 hl hg
  replace LL := hide (LL.out.trans hl)
  replace HM := hide (HM.out.later hl)
  replace HA := hide (HA.out.later hl)
  replace BX := hide (BX.out.later hl)
  replace BT := hide (BT.out.later hl)
  replace BC := hide (BC.out.later hl)
  replace HM0 := hide (HM0.out.later hl)
  replace HA0 := hide (HA0.out.later hl)
  have B7 := hide hB7
  clear hl hB7 hg
  have x_0 := B7.out.cell 0
  have x_1 := B7.out.cell 1
  have x_2 := B7.out.cell 2
  have x_3 := B7.out.cell 3
  have x_4 := B7.out.cell 4
  have x_5 := B7.out.cell 5
  have x_6 := B7.out.cell 6
  have x_7 := B7.out.cell 7
  have x_8 := B7.out.cell 8
  have x_9 := B7.out.cell 9
  have t0 := BT.out.cell 0
  have t1 := BT.out.cell 1
  have c0 := BC.out.cell 0
  have c1 := BC.out.cell 1
  have c2 := BC.out.cell 2
  have c3 := BC.out.cell 3
  have c4 := BC.out.cell 4
  go_wp2_with fail
  clear t0 t1 c0 c1 c2 c3 c4
  clear x_0 x_1 x_2 x_3 x_4 x_5 x_6 x_7 x_8 x_9
  refine (iB (uval ab0 n cb0 aD0 k0 cD0 p r l cc am0 m cm0 s) n F D p r l cc am0 m cm0 s M a b c _ ⟨_, _, _, _, _, rfl, HM0.out⟩ HA0.out HC.out HS.out HI.out.1 HI.out.2 HN.out.1 HN.out.2.1 HN.out.2.2).mono ?_
  generalize hZ : begI n F D p r l cc M s a b c = Z
  have HZ := hide hZ
  clear hZ
  obtain ⟨⟨F', D', p', l', M', s'⟩, dir, len, L, cj, jl, sx⟩ := Z
  rintro e w6 ⟨u', i', rfl, hl, ⟨ab1, cb1, aD1, k1, cD1, am1, cm1, rfl, hm1, hA1⟩, ax1, cx1, ar1, cr1, rfl, hb1⟩
  simp only at hm1 hA1 hb1 ⊢
  have HA1 : Hid (Sl w6 (.slice am1 M'.length cm1) M') := hA1.sl (HA0.out.later hl)
  replace LL := hide (LL.out.trans hl)
  replace HM := hide (HM.out.later hl)
  replace HA := hide (HA.out.later hl)
  replace BX := hide (BX.out.later hl)
  replace BT := hide (BT.out.later hl)
  replace BC := hide (BC.out.later hl)
  replace HM0 := hide (HM0.out.later hl)
  replace HA0 := hide (HA0.out.later hl)
  replace B7 := hide (B7.out.later hl)
  have HM1 := hide hm1
  have HB1 := hide hb1
  clear hl hm1 hA1 hb1
  generalize hm' : M'.length = m' at *
  generalize hk' : L.length = kx at *
  have HMm := hide hm'
  have HKk := hide hk'
  clear hm' hk'
  go_wp2_with (refine wpList_newUI rfl rfl rfl rfl rfl rfl 8 9 rfl rfl (by simp) (by simp) (by decide) (.tmp 27) (.tmp 28) (by simp) (by simp) (by simp) (by simp) rfl rfl rfl rfl ab1 n cb1 aD1 k1 cD1 p' r l' cc am1 m' cm1 s' rfl dir len ax1 kx cx1 cj jl 0 ar1 0 cr1 (0, 0, 0) sx rfl ?_)
  intro g8 g9 w7 hB8 hB9 hl hg
  replace LL := hide (LL.out.trans hl)
  replace HM := hide (HM.out.later hl)
  replace HA := hide (HA.out.later hl)
  replace BX := hide (BX.out.later hl)
  replace BT := hide (BT.out.later hl)
  replace BC := hide (BC.out.later hl)
  replace HM0 := hide (HM0.out.later hl)
  replace HA0 := hide (HA0.out.later hl)
  replace B7 := hide (B7.out.later hl)
  replace HM1 := hide (HM1.out.later hl)
  replace HA1 := hide (HA1.out.later hl)
  replace HB1 := hide (HB1.out.later hl)
  have B8 := hide hB8
  have B9 := hide hB9
  clear hl hB8 hB9 hg
  have x_0 := BX.out.cell 0
  have x_1 := BX.out.cell 1
  have x_2 := BX.out.cell 2
  have x_3 := BX.out.cell 3
  have x_4 := BX.out.cell 4
  have x_5 := BX.out.cell 5
  have x_6 := BX.out.cell 6
  have x_7 := BX.out.cell 7
  have x_8 := BX.out.cell 8
  have x_9 := BX.out.cell 9
  have t0 := BT.out.cell 0
  have t1 := BT.out.cell 1
  have c0 := BC.out.cell 0
  have c1 := BC.out.cell 1
  have c2 := BC.out.cell 2
  have c3 := BC.out.cell 3
  have c4 := BC.out.cell 4
  go_wp2_with fail
  clear t0 t1 c0 c1 c2 c3 c4
  clear x_0 x_1 x_2 x_3 x_4 x_5 x_6 x_7 x_8 x_9
  refine (rbegin11 (uval ab n cb aD k cD p r l cc am m cm s) n F D p r l cc am m cm s M a b c _ ⟨_, _, _, _, _, rfl, HM.out⟩ HA.out HC.out HS.out HI.out.1 HI.out.2 HN.out.2.2).mono ?_
  rw [HZ.out]
  rintro e w8 ⟨u', i', rfl, hl, ⟨ab2, cb2, aD2, k2, cD2, am2, cm2, rfl, hm2, hA2⟩, ax2, cx2, ar2, cr2, rfl, hb2⟩
  simp only at hm2 hA2 hb2 ⊢
  have HA2 : Hid (Sl w8 (.slice am2 M'.length cm2) M') := hA2.sl (HA.out.later hl)
  replace LL := hide (LL.out.trans hl)
  replace HM := hide (HM.out.later hl)
  replace HA := hide (HA.out.later hl)
  replace BX := hide (BX.out.later hl)
  replace BT := hide (BT.out.later hl)
  replace BC := hide (BC.out.later hl)
  replace HM0 := hide (HM0.out.later hl)
  replace HA0 := hide (HA0.out.later hl)
  replace B7 := hide (B7.out.later hl)
  replace HM1 := hide (HM1.out.later hl)
  replace HA1 := hide (HA1.out.later hl)
  replace HB1 := hide (HB1.out.later hl)
  replace B8 := hide (B8.out.later hl)
  replace B9 := hide (B9.out.later hl)
  have HM2 := hide hm2
  have HB2 := hide hb2
  clear hl hm2 hA2 hb2 HZ
  rw [HMm.out] at HA2 ⊢
  rw [HKk.out] at HB2 ⊢
  go_wp2_with (refine wpList_newUI rfl rfl rfl rfl rfl rfl 10 11 rfl rfl (by simp) (by simp) (by decide) (.tmp 37) (.tmp 38) (by simp) (by simp) (by simp) (by simp) rfl rfl rfl rfl ab2 n cb2 aD2 k2 cD2 p' r l' cc am2 m' cm2 s' rfl dir len ax2 kx cx2 cj jl 0 ar2 0 cr2 (0, 0, 0) sx rfl ?_)
  intro g10 g11 w9 hB10 hB11 hl hg
  replace LL := hide (LL.out.trans hl)
  replace HM := hide (HM.out.later hl)
  replace HA := hide (HA.out.later hl)
  replace BX := hide (BX.out.later hl)
  replace BT := hide (BT.out.later hl)
  replace BC := hide (BC.out.later hl)
  replace HM0 := hide (HM0.out.later hl)
  replace HA0 := hide (HA0.out.later hl)
  replace B7 := hide (B7.out.later hl)
  replace HM1 := hide (HM1.out.later hl)
  replace HA1 := hide (HA1.out.later hl)
  replace HB1 := hide (HB1.out.later hl)
  replace B8 := hide (B8.out.later hl)
  replace B9 := hide (B9.out.later hl)
  replace HM2 := hide (HM2.out.later hl)
  replace HA2 := hide (HA2.out.later hl)
  replace HB2 := hide (HB2.out.later hl)
  have B10 := hide hB10
  have B11 := hide hB11
  clear hl hB10 hB11 hg
  have x_0 := B8.out.cell 0
  have x_1 := B8.out.cell 1
  have x_2 := B8.out.cell 2
  have x_3 := B8.out.cell 3
  have x_4 := B8.out.cell 4
  have x_5 := B8.out.cell 5
  have x_6 := B8.out.cell 6
  have x_7 := B8.out.cell 7
  have x_8 := B8.out.cell 8
  have x_9 := B8.out.cell 9
  have y_0 := B10.out.cell 0
  have y_1 := B10.out.cell 1
  have y_2 := B10.out.cell 2
  have y_3 := B10.out.cell 3
  have y_4 := B10.out.cell 4
  have y_5 := B10.out.cell 5
  have y_6 := B10.out.cell 6
  have y_7 := B10.out.cell 7
  have y_8 := B10.out.cell 8
  have y_9 := B10.out.cell 9
  go_wp2_with fail
  clear x_0 x_1 x_2 x_3 x_4 x_5 x_6 x_7 x_8 x_9
  clear y_0 y_1 y_2 y_3 y_4 y_5 y_6 y_7 y_8 y_9
  refine (runit_c (F := F') (D := D') (F' := F') (D' := D') (M := M') (M' := M') _ ⟨_, _, _, _, _, rfl, HM1.out⟩ ⟨_, _, _, _, _, rfl, HM2.out⟩ HA1.out HA2.out).mono ?_
  rintro e w10 ⟨rfl, hl⟩
  rw [show ((p' == p' && (r == r && (l' == l' && (F' == F' && D' == D')))) && (cc == cc && (s' == s' && M' == M'))) = true by simp]
  replace LL := hide (LL.out.trans hl)
  replace HM := hide (HM.out.later hl)
  replace HA := hide (HA.out.later hl)
  replace BX := hide (BX.out.later hl)
  replace HM0 := hide (HM0.out.later hl)
  replace HA0 := hide (HA0.out.later hl)
  replace B7 := hide (B7.out.later hl)
  replace HB1 := hide (HB1.out.later hl)
  replace HB2 := hide (HB2.out.later hl)
  replace B9 := hide (B9.out.later hl)
  replace B11 := hide (B11.out.later hl)
  clear hl
  have x_0 := B9.out.cell 0
  have x_1 := B9.out.cell 1
  have x_2 := B9.out.cell 2
  have x_3 := B9.out.cell 3
  have x_4 := B9.out.cell 4
  have x_5 := B9.out.cell 5
  have x_6 := B9.out.cell 6
  have x_7 := B9.out.cell 7
  have x_8 := B9.out.cell 8
  have x_9 := B9.out.cell 9
  have x_10 := B9.out.cell 10
  have x_11 := B9.out.cell 11
  have x_12 := B9.out.cell 12
  have x_13 := B9.out.cell 13
  have x_14 := B9.out.cell 14
  have x_15 := B9.out.cell 15
  have x_16 := B9.out.cell 16
  have y_0 := B11.out.cell 0
  have y_1 := B11.out.cell 1
  have y_2 := B11.out.cell 2
  have y_3 := B11.out.cell 3
  have y_4 := B11.out.cell 4
  have y_5 := B11.out.cell 5
  have y_6 := B11.out.cell 6
  have y_7 := B11.out.cell 7
  have y_8 := B11.out.cell 8
  have y_9 := B11.out.cell 9
  have y_10 := B11.out.cell 10
  have y_11 := B11.out.cell 11
  have y_12 := B11.out.cell 12
  have y_13 := B11.out.cell 13
  have y_14 := B11.out.cell 14
  have y_15 := B11.out.cell 15
  have y_16 := B11.out.cell 16
  go_wp2_with fail
  clear x_0 x_1 x_2 x_3 x_4 x_5 x_6 x_7 x_8 x_9 x_10 x_11 x_12 x_13 x_14 x_15 x_16
  clear y_0 y_1 y_2 y_3 y_4 y_5 y_6 y_7 y_8 y_9 y_10 y_11 y_12 y_13 y_14 y_15 y_16
  refine (rsame11_c (T := (dir, len, L, cj, jl, sx)) _ ⟨ax1, cx1, ar1, cr1, by rw [HKk.out], by have h := HB1.out; rw [← HKk.out] at h; exact h⟩ ⟨ax2, cx2, ar2, cr2, by rw [HKk.out], by have h := HB2.out; rw [← HKk.out] at h; exact h⟩).mono ?_
  rintro e w11 ⟨rfl, hl⟩
  replace LL := hide (LL.out.trans hl)
  replace HM := hide (HM.out.later hl)
  replace HA := hide (HA.out.later hl)
  replace BX := hide (BX.out.later hl)
  replace HM0 := hide (HM0.out.later hl)
  replace HA0 := hide (HA0.out.later hl)
  replace B7 := hide (B7.out.later hl)
  clear hl
  have x_0 := B7.out.cell 0
  have x_1 := B7.out.cell 1
  have x_2 := B7.out.cell 2
  have x_3 := B7.out.cell 3
  have x_4 := B7.out.cell 4
  have x_5 := B7.out.cell 5
  have x_6 := B7.out.cell 6
  have x_7 := B7.out.cell 7
  have x_8 := B7.out.cell 8
  have x_9 := B7.out.cell 9
  have y_0 := BX.out.cell 0
  have y_1 := BX.out.cell 1
  have y_2 := BX.out.cell 2
  have y_3 := BX.out.cell 3
  have y_4 := BX.out.cell 4
  have y_5 := BX.out.cell 5
  have y_6 := BX.out.cell 6
  have y_7 := BX.out.cell 7
  have y_8 := BX.out.cell 8
  have y_9 := BX.out.cell 9
  go_wp2_with fail
  clear x_0 x_1 x_2 x_3 x_4 x_5 x_6 x_7 x_8 x_9
  clear y_0 y_1 y_2 y_3 y_4 y_5 y_6 y_7 y_8 y_9
  refine (runit_c (F := F) (D := D) (F' := F) (D' := D) (M := M) (M' := M) _ ⟨_, _, _, _, _, rfl, HM0.out⟩ ⟨_, _, _, _, _, rfl, HM.out⟩ HA0.out HA.out).mono ?_
  rintro e w12 ⟨rfl, hl⟩
  rw [show ((p == p && (r == r && (l == l && (F == F && D == D)))) && (cc == cc && (s == s && M == M))) = true by simp]
  replace LL := hide (LL.out.trans hl)
  clear hl
  go_wp2
  go_ret
  exact ⟨rfl, LL.out⟩
end Go.Proofs.YtfakboehmcimpaaGreat
