import Derived.Test.YtbcikndebaeahaaMAP
namespace Go.Proofs.Ytbcikndebaeahaa
open Go.ChangeShapes Go.WideShapes Go.ChangeAt Go.RowKit
set_option linter.unusedVariables false
set_option maxRecDepth 4000
set_option linter.unusedSimpArgs false
set_option maxRecDepth 20000 in
set_option maxHeartbeats 8000000 in
theorem jobTakes_walk (hal : Alive10) (iR : IRight10) (iT : ITake10) (iF : IFin10) {ab : Option Addr} {n cb : Nat} {aD : Option Addr} {k cD : Nat} {F : List UInt8} {D : List Drt} {p r l cc : Bool} {am : Option Addr} {m cm : Nat} {s : Sns} {M : List Sns} {c : Cmd} {len took : Int} {ar : Option Addr} {kr cr : Nat} {S : Sns} {R : List UInt8} {ax : Option Addr} {kx cx : Nat} {B : List UInt8} (w : World)
    (hm : Med w (.agg #[.slice ab n cb, .slice aD k cD]) n F D) (hA : Sl w (.slice am m cm) M) (hR : Bs w (.slice ar kr cr) R) (hB : Bs w (.slice ax kx cx) B) (hc : OkC7 c) (hS : OkS S) (h1 : In64 len) (h2 : In64 took) (hm1 : m ≤ maxLen) (hm2 : kr ≤ maxLen) (hm3 : kx ≤ maxLen) :
    Calls Try.prog 3 #[uval ab n cb aD k cD p r l cc am m cm s, jval c len took ar kr cr S, .slice ax kx cx] w fun e w' => e = .returned (.bool true) ∧ Below w.heap.size w w' := by
  have HM := hide hm
  have HA := hide hA
  have HR := hide hR
  have HB := hide hB
  have HC := hide hc
  have HS := hide hS
  have H1 := hide h1
  have H2 := hide h2
  have N1 := hide hm1
  have N2 := hide hm2
  have N3 := hide hm3
  clear hm hA hR hB hc hS h1 h2 hm1 hm2 hm3
  have BX := hide ((Box.new w 32 (uc ab n cb aD k cD p r l cc am m cm s).toArray).alloc (.cells (jc c len took ar kr cr S).toArray 38))
  have BY : Hid (Box _ (w.heap.size + 1) 38 (jc c len took ar kr cr S)) := Box.new' (w.alloc (.cells (uc ab n cb aD k cD p r l cc am m cm s).toArray 32)) 38 (jc c len took ar kr cr S).toArray _ rfl _ (by simp)
  have LL := hide (((Later.refl w).alloc (.cells (uc ab n cb aD k cD p r l cc am m cm s).toArray 32)).alloc (.cells (jc c len took ar kr cr S).toArray 38))
  replace HM := hide (HM.out.later LL.out)
  replace HA := hide (HA.out.later LL.out)
  replace HR := hide (HR.out.later LL.out)
  replace HB := hide (HB.out.later LL.out)
  go_enter Try.func3, Try.ntmps3
  go_wp2_with fail
  generalize (w.alloc (.cells (uc ab n cb aD k cD p r l cc am m cm s).toArray 32)).alloc (.cells (jc c len took ar kr cr S).toArray 38) = w1 at *
  obtain ⟨gx, hgx⟩ : ∃ gx, gx = w.heap.size := ⟨_, rfl⟩
  obtain ⟨gy, hgy⟩ : ∃ gy, gy = w.heap.size + 1 := ⟨_, rfl⟩
  rw [← hgy] at BY ⊢
  rw [← hgx] at BX ⊢
  clear hgx hgy
  refine (hal _).mono ?_
  rintro e w2 ⟨rfl, hl⟩
  replace LL := hide (LL.out.trans hl)
  replace HM := hide (HM.out.later hl)
  replace HA := hide (HA.out.later hl)
  replace HR := hide (HR.out.later hl)
  replace HB := hide (HB.out.later hl)
  replace BX := hide (BX.out.later hl)
  replace BY := hide (BY.out.later hl)
  clear hl
  have x_0 := BX.out.cell 0
  have x_1 := BX.out.cell 1
  have x_2 := BX.out.cell 2
  have x_3 := BX.out.cell 3
  have x_4 := BX.out.cell 4
  have x_5 := BX.out.cell 5
  have x_6 := BX.out.cell 6
  have x_7 := BX.out.cell 7
  have x_8 := BX.out.cell 8
  have x_9 := BX.out.cell 9
  have y_0 := BY.out.cell 0
  have y_1 := BY.out.cell 1
  have y_2 := BY.out.cell 2
  have y_3 := BY.out.cell 3
  have y_4 := BY.out.cell 4
  have y_5 := BY.out.cell 5
  have y_6 := BY.out.cell 6
  have y_7 := BY.out.cell 7
  have y_8 := BY.out.cell 8
  have y_9 := BY.out.cell 9
  have y_10 := BY.out.cell 10
  go_wp2_with fail
  refine (great10_c _ HM.out N1.out N2.out N3.out).mono ?_
  rintro e w3 ⟨rfl, hl⟩
  replace LL := hide (LL.out.trans hl)
  replace HM := hide (HM.out.later hl)
  replace HA := hide (HA.out.later hl)
  replace HR := hide (HR.out.later hl)
  replace HB := hide (HB.out.later hl)
  replace BX := hide (BX.out.later hl)
  replace BY := hide (BY.out.later hl)
  clear hl
  clear x_0 x_1 x_2 x_3 x_4 x_5 x_6 x_7 x_8 x_9
  clear y_0 y_1 y_2 y_3 y_4 y_5 y_6 y_7 y_8 y_9 y_10
  cases hG : great10 n D m kr kx with
  | true =>
    go_wp2
    go_ret
    exact ⟨rfl, LL.out⟩
  | false =>
  obtain ⟨hn, hD, hm20, hk3, hx3⟩ := great10_no hG
  have Hn := hide hn
  have HD := hide hD
  have Hm := hide hm20
  have HK : Hid (R.length ≤ 100000) := by have := HR.out.len'; rw [Hid]; omega
  have HX : Hid (B.length ≤ 100000) := by have := HB.out.len'; rw [Hid]; omega
  clear hG hn hD hm20 hk3 hx3 N1 N2 N3
  have x_0 := BX.out.cell 0
  have x_1 := BX.out.cell 1
  have x_2 := BX.out.cell 2
  have x_3 := BX.out.cell 3
  have x_4 := BX.out.cell 4
  have x_5 := BX.out.cell 5
  have x_6 := BX.out.cell 6
  have x_7 := BX.out.cell 7
  have x_8 := BX.out.cell 8
  have x_9 := BX.out.cell 9
  go_wp2_with fail
  refine (rcopy10_c _ (show Un w3 (uval ab n cb aD k cD p r l cc am m cm s) n F D p r l cc am m cm s from ⟨_, _, _, _, _, rfl, HM.out⟩) HA.out (by have := Hn.out; omega) (by have := HD.out; omega) (by have := Hm.out; omega)).mono ?_
  rintro e w4 ⟨u4, a4, c4, rfl, hl, ⟨b4, cb4, d4, k4, cD4, rfl, hm4⟩, hA4⟩
  replace LL := hide (LL.out.trans hl)
  replace HM := hide (HM.out.later hl)
  replace HA := hide (HA.out.later hl)
  replace HR := hide (HR.out.later hl)
  replace HB := hide (HB.out.later hl)
  replace BX := hide (BX.out.later hl)
  replace BY := hide (BY.out.later hl)
  have M4 := hide hm4
  have A4 := hide hA4
  clear hl hm4 hA4
  clear x_0 x_1 x_2 x_3 x_4 x_5 x_6 x_7 x_8 x_9
  go_wp2_with (refine wpList_newN rfl rfl rfl 7 rfl (by simp) (.tmp 23) (by simp) rfl b4 n cb4 d4 k4 cD4 p r l cc a4 m c4 s rfl ?_)
  intro g7 w5 hB5 hl hg
  replace LL := hide (LL.out.trans hl)
  replace HM := hide (HM.out.later hl)
  replace HA := hide (HA.out.later hl)
  replace HR := hide (HR.out.later hl)
  replace HB := hide (HB.out.later hl)
  replace BX := hide (BX.out.later hl)
  replace BY := hide (BY.out.later hl)
  replace M4 := hide (M4.out.later hl)
  replace A4 := hide (A4.out.later hl)
  have B7 := hide hB5
  clear hl hB5 hg
  have x_0 := B7.out.cell 0
  have x_1 := B7.out.cell 1
  have x_2 := B7.out.cell 2
  have x_3 := B7.out.cell 3
  have x_4 := B7.out.cell 4
  have x_5 := B7.out.cell 5
  have x_6 := B7.out.cell 6
  have x_7 := B7.out.cell 7
  have x_8 := B7.out.cell 8
  have x_9 := B7.out.cell 9
  have y_0 := BY.out.cell 0
  have y_1 := BY.out.cell 1
  have y_2 := BY.out.cell 2
  have y_3 := BY.out.cell 3
  have y_4 := BY.out.cell 4
  have y_5 := BY.out.cell 5
  have y_6 := BY.out.cell 6
  have y_7 := BY.out.cell 7
  have y_8 := BY.out.cell 8
  have y_9 := BY.out.cell 9
  have y_10 := BY.out.cell 10
  go_wp2_with fail
  refine (iT _ _ _ n F D p r l cc a4 m c4 s M c len took R S B w5 ⟨_, _, _, _, _, rfl, M4.out⟩ A4.out (Jb.mk' HR.out) HB.out HC.out HS.out H1.out H2.out Hn.out HD.out Hm.out HK.out HX.out).mono ?_
  rintro e w6 ⟨u6, v6, rfl, hl, ⟨a6, c6, ⟨b6, cb6, d6, k6, cD6, rfl, hm6⟩, hA6, -⟩, ⟨ar6, cr6, rfl, hr6⟩⟩
  have HT1 := hide (right_take n F D p r cc c len took R S B)
  have HT3 := hide (took_take n F D p r cc c len took R S B H1.out H2.out)
  have HTR := hide (rtake_c (u := uval ab n cb aD k cD p r l cc am m cm s) (v := jval c len took ar kr cr S) (bv' := .slice ax kx cx) (n := n) (F := F) (D := D) (p := p) (r := r) (l := l) (cc := cc) (am := am) (m := m) (cm := cm) (s := s) (c := c) (len := len) (took := took) (R := R) (S := S) (B := B))
  generalize tkR n F D p r cc c len took R S B = T at *
  obtain ⟨⟨F6, D6, S6⟩, took6, R6⟩ := T
  simp only at hm6 hr6 HT1 HT3 HTR ⊢
  obtain ⟨kr6, hkr6⟩ : ∃ kr6, kr6 = R6.length := ⟨_, rfl⟩
  rw [← hkr6] at hr6 HT1 ⊢
  clear hkr6
  replace LL := hide (LL.out.trans hl)
  replace HM := hide (HM.out.later hl)
  replace HA := hide (HA.out.later hl)
  replace HR := hide (HR.out.later hl)
  replace HB := hide (HB.out.later hl)
  replace BX := hide (BX.out.later hl)
  replace BY := hide (BY.out.later hl)
  replace M4 := hide (M4.out.later hl)
  replace A4 := hide (A4.out.later hl)
  replace B7 := hide (B7.out.later hl)
  have M6 := hide hm6
  have R6h := hide hr6
  have A6 := hide (Sl.of_owns10 hA6 HA.out.2)
  clear hl hm6 hr6 hA6
  clear x_0 x_1 x_2 x_3 x_4 x_5 x_6 x_7 x_8 x_9
  clear y_0 y_1 y_2 y_3 y_4 y_5 y_6 y_7 y_8 y_9 y_10
  go_wp2_with (refine wpList_newUJ rfl rfl rfl rfl rfl rfl 8 9 rfl rfl (by simp) (by simp) (by decide) (.tmp 29) (.tmp 30) (by simp) (by simp) (by simp) (by simp) rfl rfl rfl rfl b6 n cb6 d6 k6 cD6 p r l cc a6 m c6 s rfl c len took6 ar6 kr6 cr6 S6 rfl ?_)
  intro g8 g9 w7 hB8 hB9 hl hg
  replace LL := hide (LL.out.trans hl)
  replace HM := hide (HM.out.later hl)
  replace HA := hide (HA.out.later hl)
  replace HR := hide (HR.out.later hl)
  replace HB := hide (HB.out.later hl)
  replace BX := hide (BX.out.later hl)
  replace BY := hide (BY.out.later hl)
  replace M4 := hide (M4.out.later hl)
  replace A4 := hide (A4.out.later hl)
  replace B7 := hide (B7.out.later hl)
  replace M6 := hide (M6.out.later hl)
  replace R6h := hide (R6h.out.later hl)
  replace A6 := hide (A6.out.later hl)
  have B8 := hide hB8
  have B9 := hide hB9
  clear hl hB8 hB9 hg
  have x_0 := BX.out.cell 0
  have x_1 := BX.out.cell 1
  have x_2 := BX.out.cell 2
  have x_3 := BX.out.cell 3
  have x_4 := BX.out.cell 4
  have x_5 := BX.out.cell 5
  have x_6 := BX.out.cell 6
  have x_7 := BX.out.cell 7
  have x_8 := BX.out.cell 8
  have x_9 := BX.out.cell 9
  have y_0 := BY.out.cell 0
  have y_1 := BY.out.cell 1
  have y_2 := BY.out.cell 2
  have y_3 := BY.out.cell 3
  have y_4 := BY.out.cell 4
  have y_5 := BY.out.cell 5
  have y_6 := BY.out.cell 6
  have y_7 := BY.out.cell 7
  have y_8 := BY.out.cell 8
  have y_9 := BY.out.cell 9
  have y_10 := BY.out.cell 10
  go_wp2_with fail
  refine (HTR.out w7 ⟨_, _, _, _, _, rfl, HM.out⟩ (Jb.mk' HR.out) HB.out HC.out H1.out H2.out (by have := HK.out; omega) (by have := HX.out; omega)).mono ?_
  rintro e w8 ⟨u8, v8, rfl, hl, ⟨b8', cb8, d8, k8, cD8, rfl, hm8⟩, ⟨ar8, cr8, rfl, hr8⟩⟩
  rw [R6h.out.len'] at hr8 ⊢
  replace LL := hide (LL.out.trans hl)
  replace HM := hide (HM.out.later hl)
  replace HA := hide (HA.out.later hl)
  replace HR := hide (HR.out.later hl)
  replace HB := hide (HB.out.later hl)
  replace BX := hide (BX.out.later hl)
  replace BY := hide (BY.out.later hl)
  replace M4 := hide (M4.out.later hl)
  replace A4 := hide (A4.out.later hl)
  replace B7 := hide (B7.out.later hl)
  replace M6 := hide (M6.out.later hl)
  replace R6h := hide (R6h.out.later hl)
  replace A6 := hide (A6.out.later hl)
  replace B8 := hide (B8.out.later hl)
  replace B9 := hide (B9.out.later hl)
  have M8 := hide hm8
  have R8h := hide hr8
  clear hl hm8 hr8 HTR
  clear x_0 x_1 x_2 x_3 x_4 x_5 x_6 x_7 x_8 x_9
  clear y_0 y_1 y_2 y_3 y_4 y_5 y_6 y_7 y_8 y_9 y_10
  go_wp2_with (refine wpList_newUJ rfl rfl rfl rfl rfl rfl 10 11 rfl rfl (by simp) (by simp) (by decide) (.tmp 36) (.tmp 37) (by simp) (by simp) (by simp) (by simp) rfl rfl rfl rfl b8' n cb8 d8 k8 cD8 p r l cc am m cm s rfl c len took6 ar8 kr6 cr8 S6 rfl ?_)
  intro g10 g11 w9 hB8 hB9 hl hg
  replace LL := hide (LL.out.trans hl)
  replace HM := hide (HM.out.later hl)
  replace HA := hide (HA.out.later hl)
  replace HR := hide (HR.out.later hl)
  replace HB := hide (HB.out.later hl)
  replace BX := hide (BX.out.later hl)
  replace BY := hide (BY.out.later hl)
  replace M4 := hide (M4.out.later hl)
  replace A4 := hide (A4.out.later hl)
  replace B7 := hide (B7.out.later hl)
  replace M6 := hide (M6.out.later hl)
  replace R6h := hide (R6h.out.later hl)
  replace A6 := hide (A6.out.later hl)
  replace B8 := hide (B8.out.later hl)
  replace B9 := hide (B9.out.later hl)
  replace M8 := hide (M8.out.later hl)
  replace R8h := hide (R8h.out.later hl)
  have B10 := hide hB8
  have B11 := hide hB9
  clear hl hB8 hB9 hg
  have x_0 := B7.out.cell 0
  have x_1 := B7.out.cell 1
  have x_2 := B7.out.cell 2
  have x_3 := B7.out.cell 3
  have x_4 := B7.out.cell 4
  have x_5 := B7.out.cell 5
  have x_6 := B7.out.cell 6
  have x_7 := B7.out.cell 7
  have x_8 := B7.out.cell 8
  have x_9 := B7.out.cell 9
  have y_0 := BY.out.cell 0
  have y_1 := BY.out.cell 1
  have y_2 := BY.out.cell 2
  have y_3 := BY.out.cell 3
  have y_4 := BY.out.cell 4
  have y_5 := BY.out.cell 5
  have y_6 := BY.out.cell 6
  have y_7 := BY.out.cell 7
  have y_8 := BY.out.cell 8
  have y_9 := BY.out.cell 9
  have y_10 := BY.out.cell 10
  go_wp2_with fail
  refine (iF _ _ n F D p r l cc a4 m c4 s M c len took R S w9 ⟨_, _, _, _, _, rfl, M4.out⟩ A4.out (Jb.mk' HR.out) HC.out HS.out H1.out H2.out Hn.out HD.out Hm.out HK.out).mono ?_
  rintro e w10 ⟨u10, rfl, hl, ⟨a10, c10, ⟨b10, cb10, d10, k10, cD10, rfl, hm10⟩, hA10, -⟩⟩
  have HFR := hide (rfinish_c (u := uval ab n cb aD k cD p r l cc am m cm s) (v := jval c len took ar kr cr S) (n := n) (F := F) (D := D) (p := p) (r := r) (l := l) (cc := cc) (am := am) (m := m) (cm := cm) (s := s) (c := c) (len := len) (took := took) (R := R) (S := S))
  generalize finR cc c len took R S = T at *
  obtain ⟨cc10, S10⟩ := T
  simp only at hm10 HFR ⊢
  replace LL := hide (LL.out.trans hl)
  replace HM := hide (HM.out.later hl)
  replace HA := hide (HA.out.later hl)
  replace HR := hide (HR.out.later hl)
  replace HB := hide (HB.out.later hl)
  replace BX := hide (BX.out.later hl)
  replace BY := hide (BY.out.later hl)
  replace M4 := hide (M4.out.later hl)
  replace A4 := hide (A4.out.later hl)
  replace B7 := hide (B7.out.later hl)
  replace M6 := hide (M6.out.later hl)
  replace R6h := hide (R6h.out.later hl)
  replace A6 := hide (A6.out.later hl)
  replace B8 := hide (B8.out.later hl)
  replace B9 := hide (B9.out.later hl)
  replace M8 := hide (M8.out.later hl)
  replace R8h := hide (R8h.out.later hl)
  replace B10 := hide (B10.out.later hl)
  replace B11 := hide (B11.out.later hl)
  have M10 := hide hm10
  have A10 := hide (Sl.of_owns10 hA10 HA.out.2)
  clear hl hm10 hA10
  clear x_0 x_1 x_2 x_3 x_4 x_5 x_6 x_7 x_8 x_9
  clear y_0 y_1 y_2 y_3 y_4 y_5 y_6 y_7 y_8 y_9 y_10
  go_wp2_with (refine wpList_newUS rfl rfl rfl rfl rfl rfl 12 13 rfl rfl (by simp) (by simp) (by decide) (.tmp 42) (.tmp 43) (by simp) (by simp) (by simp) (by simp) rfl rfl rfl rfl b10 n cb10 d10 k10 cD10 p r l cc10 a10 m c10 s rfl S10 rfl ?_)
  intro g12 g13 w11 hB8 hB9 hl hg
  replace LL := hide (LL.out.trans hl)
  replace HM := hide (HM.out.later hl)
  replace HA := hide (HA.out.later hl)
  replace HR := hide (HR.out.later hl)
  replace HB := hide (HB.out.later hl)
  replace BX := hide (BX.out.later hl)
  replace BY := hide (BY.out.later hl)
  replace M4 := hide (M4.out.later hl)
  replace A4 := hide (A4.out.later hl)
  replace B7 := hide (B7.out.later hl)
  replace M6 := hide (M6.out.later hl)
  replace R6h := hide (R6h.out.later hl)
  replace A6 := hide (A6.out.later hl)
  replace B8 := hide (B8.out.later hl)
  replace B9 := hide (B9.out.later hl)
  replace M8 := hide (M8.out.later hl)
  replace R8h := hide (R8h.out.later hl)
  replace B10 := hide (B10.out.later hl)
  replace B11 := hide (B11.out.later hl)
  replace M10 := hide (M10.out.later hl)
  replace A10 := hide (A10.out.later hl)
  have B12 := hide hB8
  have B13 := hide hB9
  clear hl hB8 hB9 hg
  have x_0 := BX.out.cell 0
  have x_1 := BX.out.cell 1
  have x_2 := BX.out.cell 2
  have x_3 := BX.out.cell 3
  have x_4 := BX.out.cell 4
  have x_5 := BX.out.cell 5
  have x_6 := BX.out.cell 6
  have x_7 := BX.out.cell 7
  have x_8 := BX.out.cell 8
  have x_9 := BX.out.cell 9
  have y_0 := BY.out.cell 0
  have y_1 := BY.out.cell 1
  have y_2 := BY.out.cell 2
  have y_3 := BY.out.cell 3
  have y_4 := BY.out.cell 4
  have y_5 := BY.out.cell 5
  have y_6 := BY.out.cell 6
  have y_7 := BY.out.cell 7
  have y_8 := BY.out.cell 8
  have y_9 := BY.out.cell 9
  have y_10 := BY.out.cell 10
  go_wp2_with fail
  refine (HFR.out w11 ⟨_, _, _, _, _, rfl, HM.out⟩ (Jb.mk' HR.out) HC.out H1.out H2.out (by have := HK.out; omega)).mono ?_
  rintro e w12 ⟨u12, rfl, hl, ⟨b12, cb12, d12, k12, cD12, rfl, hm12⟩⟩
  replace LL := hide (LL.out.trans hl)
  replace HM := hide (HM.out.later hl)
  replace HA := hide (HA.out.later hl)
  replace HR := hide (HR.out.later hl)
  replace HB := hide (HB.out.later hl)
  replace BX := hide (BX.out.later hl)
  replace BY := hide (BY.out.later hl)
  replace M4 := hide (M4.out.later hl)
  replace A4 := hide (A4.out.later hl)
  replace B7 := hide (B7.out.later hl)
  replace M6 := hide (M6.out.later hl)
  replace R6h := hide (R6h.out.later hl)
  replace A6 := hide (A6.out.later hl)
  replace B8 := hide (B8.out.later hl)
  replace B9 := hide (B9.out.later hl)
  replace M8 := hide (M8.out.later hl)
  replace R8h := hide (R8h.out.later hl)
  replace B10 := hide (B10.out.later hl)
  replace B11 := hide (B11.out.later hl)
  replace M10 := hide (M10.out.later hl)
  replace A10 := hide (A10.out.later hl)
  replace B12 := hide (B12.out.later hl)
  replace B13 := hide (B13.out.later hl)
  have M12 := hide hm12
  clear hl hm12 HFR
  clear x_0 x_1 x_2 x_3 x_4 x_5 x_6 x_7 x_8 x_9
  clear y_0 y_1 y_2 y_3 y_4 y_5 y_6 y_7 y_8 y_9 y_10
  go_wp2_with (refine wpList_newUS rfl rfl rfl rfl rfl rfl 14 15 rfl rfl (by simp) (by simp) (by decide) (.tmp 48) (.tmp 49) (by simp) (by simp) (by simp) (by simp) rfl rfl rfl rfl b12 n cb12 d12 k12 cD12 p r l cc10 am m cm s rfl S10 rfl ?_)
  intro g14 g15 w13 hB8 hB9 hl hg
  replace LL := hide (LL.out.trans hl)
  replace HM := hide (HM.out.later hl)
  replace HA := hide (HA.out.later hl)
  replace HR := hide (HR.out.later hl)
  replace HB := hide (HB.out.later hl)
  replace BX := hide (BX.out.later hl)
  replace BY := hide (BY.out.later hl)
  replace M4 := hide (M4.out.later hl)
  replace A4 := hide (A4.out.later hl)
  replace B7 := hide (B7.out.later hl)
  replace M6 := hide (M6.out.later hl)
  replace R6h := hide (R6h.out.later hl)
  replace A6 := hide (A6.out.later hl)
  replace B8 := hide (B8.out.later hl)
  replace B9 := hide (B9.out.later hl)
  replace M8 := hide (M8.out.later hl)
  replace R8h := hide (R8h.out.later hl)
  replace B10 := hide (B10.out.later hl)
  replace B11 := hide (B11.out.later hl)
  replace M10 := hide (M10.out.later hl)
  replace A10 := hide (A10.out.later hl)
  replace B12 := hide (B12.out.later hl)
  replace B13 := hide (B13.out.later hl)
  replace M12 := hide (M12.out.later hl)
  have B14 := hide hB8
  have B15 := hide hB9
  clear hl hB8 hB9 hg
  go_wp2_with fail
  have hwd := (Later.refl w13).drew
  obtain ⟨rj, hrj⟩ : ∃ rj, rj = rightJ c len took R.length := ⟨_, rfl⟩
  have HRJ := hide hrj
  clear hrj
  refine wp_region_sched [(0, false), (2, false), (1, false), (3, false), (4, false), (5, false), (6, false), (8, false), (7, false), (9, false), (10, false), (11, false)] (by kernel_rfl) (by kernel_rfl) (by kernel_rfl) (by kernel_rfl) ?_
  refine wpS_loadG rfl (by kernel_rfl) 38 (.tmp 4) rfl gy 0 rfl (jc c len took ar kr cr S) _ ((World.rangeAt_drew _ _ _ _).2 BY.out.range) Try.underlying38 rfl (by rw [Try.info_job]; rfl) ?_
  refine wpS_loadG rfl (by kernel_rfl) 38 (.tmp 4) rfl gy 0 rfl (jc c len took ar kr cr S) _ ((World.rangeAt_drew _ _ _ _).2 BY.out.range) Try.underlying38 rfl (by rw [Try.info_job]; rfl) ?_
  refine wpS_call rfl (by kernel_rfl) 14 (Plain.of (by kernel_rfl)) [.tmp 50] _ rfl [jval c len took ar kr cr S] rfl (.bool rj) (fun wx hx => by rw [HRJ.out]; exact iR _ c len took R S wx (Jb.mk' (HR.out.later (hwd.trans hx))) HC.out H1.out H2.out) ?_
  refine wpS_call rfl (by kernel_rfl) 15 (Plain.of (by kernel_rfl)) [.tmp 52] _ rfl [jval c len took ar kr cr S] rfl (.bool rj) (fun wx hx => by rw [HRJ.out]; exact rright10_c wx (Jb.mk' (HR.out.later (hwd.trans hx))) HC.out H1.out H2.out) ?_
  iterate 2 (refine wpS_mild rfl (fun K hK => ?_); go_simp; refine hK _ ?_; clear hK K)
  refine wpS_loadG rfl (by kernel_rfl) 38 (.tmp 9) rfl g9 0 rfl (jc c len took6 ar6 kr6 cr6 S6) _ ((World.rangeAt_drew _ _ _ _).2 B9.out.range) Try.underlying38 rfl (by rw [Try.info_job]; rfl) ?_
  refine wpS_loadG rfl (by kernel_rfl) 38 (.tmp 4) rfl gy 0 rfl (jc c len took ar kr cr S) _ ((World.rangeAt_drew _ _ _ _).2 BY.out.range) Try.underlying38 rfl (by rw [Try.info_job]; rfl) ?_
  refine wpS_call rfl (by kernel_rfl) 14 (Plain.of (by kernel_rfl)) [.tmp 56] _ rfl [jval c len took6 ar6 kr6 cr6 S6] rfl (.bool rj) (fun wx hx => by
    have h := iR _ c len took6 R6 S6 wx (Jb.mk' (R6h.out.later (hwd.trans hx))) HC.out H1.out HT3.out
    rw [R6h.out.len', HT1.out, ← HRJ.out] at h
    exact h) ?_
  refine wpS_call rfl (by kernel_rfl) 14 (Plain.of (by kernel_rfl)) [.tmp 58] _ rfl [jval c len took ar kr cr S] rfl (.bool rj) (fun wx hx => by rw [HRJ.out]; exact iR _ c len took R S wx (Jb.mk' (HR.out.later (hwd.trans hx))) HC.out H1.out H2.out) ?_
  iterate 2 (refine wpS_mild rfl (fun K hK => ?_); go_simp; refine hK _ ?_; clear hK K)
  refine wpS_nil (fun wx hwx => ?_)
  have hl := (Later.refl w13).drew.trans hwx
  replace LL := hide (LL.out.trans hl)
  replace HM := hide (HM.out.later hl)
  replace HA := hide (HA.out.later hl)
  replace HR := hide (HR.out.later hl)
  replace HB := hide (HB.out.later hl)
  replace BX := hide (BX.out.later hl)
  replace BY := hide (BY.out.later hl)
  replace M4 := hide (M4.out.later hl)
  replace A4 := hide (A4.out.later hl)
  replace B7 := hide (B7.out.later hl)
  replace M6 := hide (M6.out.later hl)
  replace R6h := hide (R6h.out.later hl)
  replace A6 := hide (A6.out.later hl)
  replace B8 := hide (B8.out.later hl)
  replace B9 := hide (B9.out.later hl)
  replace M8 := hide (M8.out.later hl)
  replace R8h := hide (R8h.out.later hl)
  replace B10 := hide (B10.out.later hl)
  replace B11 := hide (B11.out.later hl)
  replace M10 := hide (M10.out.later hl)
  replace A10 := hide (A10.out.later hl)
  replace B12 := hide (B12.out.later hl)
  replace B13 := hide (B13.out.later hl)
  replace M12 := hide (M12.out.later hl)
  replace B14 := hide (B14.out.later hl)
  replace B15 := hide (B15.out.later hl)
  clear hl hwx hwd HRJ HT1
  have x_0 := B8.out.cell 0
  have x_1 := B8.out.cell 1
  have x_2 := B8.out.cell 2
  have x_3 := B8.out.cell 3
  have x_4 := B8.out.cell 4
  have x_5 := B8.out.cell 5
  have x_6 := B8.out.cell 6
  have x_7 := B8.out.cell 7
  have x_8 := B8.out.cell 8
  have x_9 := B8.out.cell 9
  have z_0 := B10.out.cell 0
  have z_1 := B10.out.cell 1
  have z_2 := B10.out.cell 2
  have z_3 := B10.out.cell 3
  have z_4 := B10.out.cell 4
  have z_5 := B10.out.cell 5
  have z_6 := B10.out.cell 6
  have z_7 := B10.out.cell 7
  have z_8 := B10.out.cell 8
  have z_9 := B10.out.cell 9
  go_wp2_with fail
  refine (runit_c wx ⟨_, _, _, _, _, rfl, M6.out⟩ ⟨_, _, _, _, _, rfl, M8.out⟩ A6.out HA.out).mono ?_
  rintro e wa ⟨rfl, hl⟩
  rw [show ((p == p && (r == r && (l == l && (F6 == F6 && D6 == D6)))) && (cc == cc && (s == s && M == M))) = true by simp]
  replace LL := hide (LL.out.trans hl)
  replace HM := hide (HM.out.later hl)
  replace HA := hide (HA.out.later hl)
  replace BX := hide (BX.out.later hl)
  replace B7 := hide (B7.out.later hl)
  replace M4 := hide (M4.out.later hl)
  replace A4 := hide (A4.out.later hl)
  replace R6h := hide (R6h.out.later hl)
  replace B9 := hide (B9.out.later hl)
  replace R8h := hide (R8h.out.later hl)
  replace B11 := hide (B11.out.later hl)
  replace M10 := hide (M10.out.later hl)
  replace A10 := hide (A10.out.later hl)
  replace B12 := hide (B12.out.later hl)
  replace B13 := hide (B13.out.later hl)
  replace M12 := hide (M12.out.later hl)
  replace B14 := hide (B14.out.later hl)
  replace B15 := hide (B15.out.later hl)
  clear hl M6 M8 B8 B10
  clear x_0 x_1 x_2 x_3 x_4 x_5 x_6 x_7 x_8 x_9
  clear z_0 z_1 z_2 z_3 z_4 z_5 z_6 z_7 z_8 z_9
  have y_0 := B9.out.cell 0
  have y_1 := B9.out.cell 1
  have y_2 := B9.out.cell 2
  have y_3 := B9.out.cell 3
  have y_4 := B9.out.cell 4
  have y_5 := B9.out.cell 5
  have y_6 := B9.out.cell 6
  have y_7 := B9.out.cell 7
  have y_8 := B9.out.cell 8
  have y_9 := B9.out.cell 9
  have y_10 := B9.out.cell 10
  have z_0 := B11.out.cell 0
  have z_1 := B11.out.cell 1
  have z_2 := B11.out.cell 2
  have z_3 := B11.out.cell 3
  have z_4 := B11.out.cell 4
  have z_5 := B11.out.cell 5
  have z_6 := B11.out.cell 6
  have z_7 := B11.out.cell 7
  have z_8 := B11.out.cell 8
  have z_9 := B11.out.cell 9
  have z_10 := B11.out.cell 10
  go_wp2_with fail
  refine (rsame10_c wa (Jb.mk' R6h.out) (Jb.mk' R8h.out)).mono ?_
  rintro e wb ⟨rfl, hl⟩
  rw [show (c == c && (len == len && (took6 == took6 && (R6 == R6 && S6 == S6)))) = true by simp]
  replace LL := hide (LL.out.trans hl)
  replace HM := hide (HM.out.later hl)
  replace HA := hide (HA.out.later hl)
  replace BX := hide (BX.out.later hl)
  replace B7 := hide (B7.out.later hl)
  replace M4 := hide (M4.out.later hl)
  replace A4 := hide (A4.out.later hl)
  replace M10 := hide (M10.out.later hl)
  replace A10 := hide (A10.out.later hl)
  replace B12 := hide (B12.out.later hl)
  replace B13 := hide (B13.out.later hl)
  replace M12 := hide (M12.out.later hl)
  replace B14 := hide (B14.out.later hl)
  replace B15 := hide (B15.out.later hl)
  clear hl R6h R8h B9 B11
  clear y_0 y_1 y_2 y_3 y_4 y_5 y_6 y_7 y_8 y_9 y_10
  clear z_0 z_1 z_2 z_3 z_4 z_5 z_6 z_7 z_8 z_9 z_10
  have x_0 := B12.out.cell 0
  have x_1 := B12.out.cell 1
  have x_2 := B12.out.cell 2
  have x_3 := B12.out.cell 3
  have x_4 := B12.out.cell 4
  have x_5 := B12.out.cell 5
  have x_6 := B12.out.cell 6
  have x_7 := B12.out.cell 7
  have x_8 := B12.out.cell 8
  have x_9 := B12.out.cell 9
  have z_0 := B14.out.cell 0
  have z_1 := B14.out.cell 1
  have z_2 := B14.out.cell 2
  have z_3 := B14.out.cell 3
  have z_4 := B14.out.cell 4
  have z_5 := B14.out.cell 5
  have z_6 := B14.out.cell 6
  have z_7 := B14.out.cell 7
  have z_8 := B14.out.cell 8
  have z_9 := B14.out.cell 9
  go_wp2_with fail
  refine (runit_c wb ⟨_, _, _, _, _, rfl, M10.out⟩ ⟨_, _, _, _, _, rfl, M12.out⟩ A10.out HA.out).mono ?_
  rintro e wc ⟨rfl, hl⟩
  rw [show ((p == p && (r == r && (l == l && (F == F && D == D)))) && (cc10 == cc10 && (s == s && M == M))) = true by simp]
  replace LL := hide (LL.out.trans hl)
  replace HM := hide (HM.out.later hl)
  replace HA := hide (HA.out.later hl)
  replace BX := hide (BX.out.later hl)
  replace B7 := hide (B7.out.later hl)
  replace M4 := hide (M4.out.later hl)
  replace A4 := hide (A4.out.later hl)
  replace B13 := hide (B13.out.later hl)
  replace B15 := hide (B15.out.later hl)
  clear hl M10 M12 B12 B14
  clear x_0 x_1 x_2 x_3 x_4 x_5 x_6 x_7 x_8 x_9
  clear z_0 z_1 z_2 z_3 z_4 z_5 z_6 z_7 z_8 z_9
  have s0 := B13.out.cell 0
  have s1 := B13.out.cell 1
  have s2 := B13.out.cell 2
  have t0 := B15.out.cell 0
  have t1 := B15.out.cell 1
  have t2 := B15.out.cell 2
  have x_0 := B7.out.cell 0
  have x_1 := B7.out.cell 1
  have x_2 := B7.out.cell 2
  have x_3 := B7.out.cell 3
  have x_4 := B7.out.cell 4
  have x_5 := B7.out.cell 5
  have x_6 := B7.out.cell 6
  have x_7 := B7.out.cell 7
  have x_8 := B7.out.cell 8
  have x_9 := B7.out.cell 9
  have z_0 := BX.out.cell 0
  have z_1 := BX.out.cell 1
  have z_2 := BX.out.cell 2
  have z_3 := BX.out.cell 3
  have z_4 := BX.out.cell 4
  have z_5 := BX.out.cell 5
  have z_6 := BX.out.cell 6
  have z_7 := BX.out.cell 7
  have z_8 := BX.out.cell 8
  have z_9 := BX.out.cell 9
  go_wp2_with (refine wpList_eqS9 (by kernel_rfl) (.tmp 76) (.tmp 77) rfl S10 S10 rfl rfl true (by simp) ?_)
  refine (runit_c wc ⟨_, _, _, _, _, rfl, M4.out⟩ ⟨_, _, _, _, _, rfl, HM.out⟩ A4.out HA.out).mono ?_
  rintro e wd ⟨rfl, hl⟩
  rw [show ((p == p && (r == r && (l == l && (F == F && D == D)))) && (cc == cc && (s == s && M == M))) = true by simp]
  replace LL := hide (LL.out.trans hl)
  clear hl
  go_wp2
  go_ret
  exact ⟨by first | rfl | simp, LL.out⟩
end Go.Proofs.Ytbcikndebaeahaa
