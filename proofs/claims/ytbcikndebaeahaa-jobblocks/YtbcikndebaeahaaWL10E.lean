import Derived.Test.YtbcikndebaeahaaMAR
import Derived.Test.YtbcikndebaeahaaMAQ
import Derived.Test.YtbcikndebaeahaaMAJ
namespace Go.Proofs.Ytbcikndebaeahaa
open Go.ChangeShapes Go.WideShapes Go.ChangeAt Go.RowKit
set_option linter.unusedVariables false
set_option maxRecDepth 4000
set_option linter.unusedSimpArgs false
/-! Each whole block that came is written, if it may be; all others stay. -/
theorem Rw.block {w : World} {a : Option Addr} {n cap : Nat} {G : List UInt8} (h : Rw 64 w (.slice a n cap) n (bv G)) (hn : 0 < n) : ∃ b o, a = some ⟨b, o, none⟩ ∧ w.rangeAt b o (bv G) ∧ G.length = n * 64 ∧ n ≤ cap := by
  obtain ⟨hl, _, a', cap', e, hc, h⟩ := h
  simp only [Value.slice.injEq] at e
  obtain ⟨rfl, -, rfl⟩ := e
  rw [bv_length] at hl
  rcases h with h | ⟨b, off, rfl, h⟩
  · omega
  · exact ⟨b, off, rfl, h, hl, hc⟩
theorem seg_eq {H G : List UInt8} {o k : Nat} (h : ∀ y, o ≤ y → y < o + k → H[y]? = G[y]?) : seg H o k = seg G o k := by
  unfold seg
  refine List.ext_getElem? fun i => ?_
  by_cases hi : i < k
  · rw [List.getElem?_take_of_lt hi, List.getElem?_take_of_lt hi, List.getElem?_drop, List.getElem?_drop]
    exact h (o + i) (by omega) (by omega)
  · rw [List.getElem?_eq_none (by rw [List.length_take]; omega), List.getElem?_eq_none (by rw [List.length_take]; omega)]
set_option maxRecDepth 20000 in
set_option maxHeartbeats 8000000 in
theorem jobBlocks_walk (hal : Alive10) (iS : IStart10) (iT : ITake10) (iF : IFin10) {ab : Option Addr} {n cb : Nat} {aD : Option Addr} {k cD : Nat} {F : List UInt8} {D : List Drt} {p r l cc : Bool} {am : Option Addr} {m cm : Nat} {s : Sns} {M : List Sns} {c0 : Cmd} {ax : Option Addr} {kx cx : Nat} {B : List UInt8} (w : World)
    (hm : Med w (.agg #[.slice ab n cb, .slice aD k cD]) n F D) (hA : Sl w (.slice am m cm) M) (hB : Bs w (.slice ax kx cx) B) (hc : OkC7 c0) (hm1 : m ≤ maxLen) (hm3 : kx ≤ maxLen) :
    Calls Try.prog 6 #[uval ab n cb aD k cD p r l cc am m cm s, cval c0, .slice ax kx cx] w fun e w' => e = .returned (.bool true) ∧ Below w.heap.size w w' := by
  obtain ⟨op0, at0, N0, pg0, bt0⟩ := c0
  have HM0 := hide hm
  have HA0 := hide hA
  have HB0 := hide hB
  have hC : OkC7 (42, at0, N0, pg0, bt0) := ⟨(by decide : In64 42), hc.2⟩
  have HC := hide hC
  have N1 := hide hm1
  have N3 := hide hm3
  clear hm hA hB hc hm1 hm3 hC
  have BX := hide ((Box.new w 32 (uc ab n cb aD k cD p r l cc am m cm s).toArray).alloc (.cells #[.int .i64 op0, .int .u64 (at0 : Int), .int .i64 N0, .int .i64 pg0, .int .i64 bt0] 35))
  have BC : Hid (Box _ (w.heap.size + 1) 35 [.int .i64 op0, .int .u64 (at0 : Int), .int .i64 N0, .int .i64 pg0, .int .i64 bt0]) := Box.new' (w.alloc (.cells (uc ab n cb aD k cD p r l cc am m cm s).toArray 32)) 35 #[.int .i64 op0, .int .u64 (at0 : Int), .int .i64 N0, .int .i64 pg0, .int .i64 bt0] _ rfl _ (by simp)
  have LL := hide (((Later.refl w).alloc (.cells (uc ab n cb aD k cD p r l cc am m cm s).toArray 32)).alloc (.cells #[.int .i64 op0, .int .u64 (at0 : Int), .int .i64 N0, .int .i64 pg0, .int .i64 bt0] 35))
  go_enter Try.func6, Try.ntmps6
  go_wp2_with fail
  generalize (w.alloc (.cells (uc ab n cb aD k cD p r l cc am m cm s).toArray 32)).alloc (.cells #[.int .i64 op0, .int .u64 (at0 : Int), .int .i64 N0, .int .i64 pg0, .int .i64 bt0] 35) = w1 at *
  obtain ⟨gx, hgx⟩ : ∃ gx, gx = w.heap.size := ⟨_, rfl⟩
  obtain ⟨gy, hgy⟩ : ∃ gy, gy = w.heap.size + 1 := ⟨_, rfl⟩
  rw [← hgy] at BC ⊢
  rw [← hgx] at BX ⊢
  have HGY : Hid (w.heap.size ≤ gy ∧ gx ≠ gy) := by rw [Hid]; omega
  clear hgx hgy
  refine (hal _).mono ?_
  rintro e w2 ⟨rfl, hl⟩
  replace LL := hide (LL.out.trans hl)
  replace BX := hide (BX.out.later hl)
  replace BC := hide (BC.out.later hl)
  clear hl
  go_wp2_with (refine wpList_storeI rfl 3 (.tmp 20) (.const (.int .i64 42)) rfl gy 0 rfl .i64 42 rfl Try.info1_int _ _ BC.out (by simp) ?_)
  intro wz hbz hz
  have BX2 := BX.out.apart gy HGY.out.2 [.int .i64 42] 0
  have LL2 := LL.out.setCells HGY.out.1 [.int .i64 42] 0
  rw [← hz.out] at BX2 LL2
  replace BX := hide BX2
  replace LL := hide LL2
  replace BC : Hid (Box wz gy 35 [.int .i64 42, .int .u64 (at0 : Int), .int .i64 N0, .int .i64 pg0, .int .i64 bt0]) := hbz
  clear BX2 LL2 hbz hz
  have x0 := BC.out.cell 0
  have x1 := BC.out.cell 1
  have x2 := BC.out.cell 2
  have x3 := BC.out.cell 3
  have x4 := BC.out.cell 4
  go_wp2_with fail
  refine (iS (42, at0, N0, pg0, bt0) _ HC.out).mono ?_
  rintro e w3 ⟨va, rfl, hl, ar, cr, rfl, hb⟩
  replace LL := hide (LL.out.trans hl)
  replace BX := hide (BX.out.later hl)
  replace BC := hide (BC.out.later hl)
  have VA := hide hb
  clear hl hb x0 x1 x2 x3 x4
  have HSN := hide (startN_in _ HC.out)
  have HST := hide (fun h : startB (42, at0, N0, pg0, bt0) = true => And.intro (started h) (start_ge h))
  generalize startC (42, at0, N0, pg0, bt0) = C at *
  generalize startN (42, at0, N0, pg0, bt0) = len at *
  rw [show ([] : List UInt8).length = 0 from rfl] at VA ⊢
  go_wp2_with (refine wpList_newJ rfl rfl rfl 7 rfl (by simp) (.tmp 24) (by simp) rfl C len 0 ar 0 cr (0, 0, 0) rfl ?_)
  intro g7 w4 hB4 hl hg
  replace LL := hide (LL.out.trans hl)
  replace BX := hide (BX.out.later hl)
  replace BC := hide (BC.out.later hl)
  have BJ := hide hB4
  clear hl hB4 hg VA
  cases hsb : startB (42, at0, N0, pg0, bt0) with
  | false =>
    go_wp2
    go_ret
    exact ⟨rfl, LL.out⟩
  | true =>
  replace HST := hide (HST.out hsb)
  obtain ⟨⟨hsl, hsc⟩, hl0⟩ := HST.out
  subst hsc
  clear HST hsb
  have HSL := hide hsl
  have HL0 := hide hl0
  clear hsl hl0
  have x_0 := BX.out.cell 0
  have x_1 := BX.out.cell 1
  have x_2 := BX.out.cell 2
  have x_3 := BX.out.cell 3
  have x_4 := BX.out.cell 4
  have x_5 := BX.out.cell 5
  have x_6 := BX.out.cell 6
  have x_7 := BX.out.cell 7
  have x_8 := BX.out.cell 8
  have x_9 := BX.out.cell 9
  have y_0 := BJ.out.cell 0
  have y_1 := BJ.out.cell 1
  have y_2 := BJ.out.cell 2
  have y_3 := BJ.out.cell 3
  have y_4 := BJ.out.cell 4
  have y_5 := BJ.out.cell 5
  have y_6 := BJ.out.cell 6
  have y_7 := BJ.out.cell 7
  have y_8 := BJ.out.cell 8
  have y_9 := BJ.out.cell 9
  have y_10 := BJ.out.cell 10
  go_wp2_with fail
  refine (great10_c (l := l) (cc := cc) (am := am) (m := m) (cm := cm) (s := s) (c := (42, at0, N0, pg0, bt0)) (len := len) (took := 0) (ar := ar) (kr := 0) (cr := cr) (S := (0, 0, 0)) (ax := ax) (kx := kx) (cx := cx) _ (HM0.out.later LL.out) N1.out (by decide) N3.out).mono ?_
  rintro e w5 ⟨rfl, hl⟩
  replace LL := hide (LL.out.trans hl)
  replace BX := hide (BX.out.later hl)
  replace BC := hide (BC.out.later hl)
  replace BJ := hide (BJ.out.later hl)
  clear hl
  clear x_0 x_1 x_2 x_3 x_4 x_5 x_6 x_7 x_8 x_9
  clear y_0 y_1 y_2 y_3 y_4 y_5 y_6 y_7 y_8 y_9 y_10
  cases hG : great10 n D m 0 kx with
  | true =>
    go_wp2
    go_ret
    exact ⟨rfl, LL.out⟩
  | false =>
  obtain ⟨hn, hD, hm20, _, hx3⟩ := great10_no hG
  have Hn := hide hn
  have HD := hide hD
  have HX3 := hide hx3
  have Hm2 := hide hm20
  clear hG hn hD hm20 hx3 N1 N3
  have x0 := BX.out.cell 0
  have x1 := BX.out.cell 1
  go_wp2_with fail
  refine (rright_c _ (HM0.out.later LL.out)).mono ?_
  rintro e w6 ⟨rfl, hl⟩
  replace LL := hide (LL.out.trans hl)
  replace BX := hide (BX.out.later hl)
  replace BC := hide (BC.out.later hl)
  replace BJ := hide (BJ.out.later hl)
  clear hl x0 x1
  cases hR : rightB n D with
  | false =>
    go_wp2
    go_ret
    exact ⟨rfl, LL.out⟩
  | true =>
  have HR := hide hR
  clear hR
  have x0 := BX.out.cell 0
  have x1 := BX.out.cell 1
  go_wp2_with fail
  refine (rall_b _ (HM0.out.later LL.out)).mono ?_
  rintro e w7 ⟨v9, rfl, hl, hv9⟩
  rw [show allN n D = n by unfold allN; rw [HR.out]; rfl, show allF n F D = app F D by unfold allF; rw [HR.out]; rfl] at hv9
  replace LL := hide (LL.out.trans hl)
  replace BX := hide (BX.out.later hl)
  replace BC := hide (BC.out.later hl)
  replace BJ := hide (BJ.out.later hl)
  have V9 := hide hv9
  clear hl x0 x1 hv9
  have x_0 := BX.out.cell 0
  have x_1 := BX.out.cell 1
  have x_2 := BX.out.cell 2
  have x_3 := BX.out.cell 3
  have x_4 := BX.out.cell 4
  have x_5 := BX.out.cell 5
  have x_6 := BX.out.cell 6
  have x_7 := BX.out.cell 7
  have x_8 := BX.out.cell 8
  have x_9 := BX.out.cell 9
  have y_0 := BJ.out.cell 0
  have y_1 := BJ.out.cell 1
  have y_2 := BJ.out.cell 2
  have y_3 := BJ.out.cell 3
  have y_4 := BJ.out.cell 4
  have y_5 := BJ.out.cell 5
  have y_6 := BJ.out.cell 6
  have y_7 := BJ.out.cell 7
  have y_8 := BJ.out.cell 8
  have y_9 := BJ.out.cell 9
  have y_10 := BJ.out.cell 10
  go_wp2_with fail
  have HFo : Hid (Ok D ∧ F.length = n * 64) := by
    obtain ⟨vb, vd, e, hb, hd, ho⟩ := HM0.out
    have := hb.1
    rw [bv_length] at this
    exact ⟨ho, this⟩
  have HTS := hide (take_show p r cc (B := B) rfl HSL.out HL0.out HC.out.2.1 HR.out HFo.out.1 HFo.out.2 (by have := HB0.out.len'; have := HX3.out; omega))
  have HTk := iT (uval ab n cb aD k cD p r l cc am m cm s) (jval (42, at0, N0, pg0, bt0) len 0 ar 0 cr (0, 0, 0)) (.slice ax kx cx) n F D p r l cc am m cm s M (42, at0, N0, pg0, bt0) len 0 [] (0, 0, 0) B w7 ⟨_, _, _, _, _, rfl, HM0.out.later LL.out⟩ (HA0.out.later LL.out) ⟨ar, cr, rfl, by simp, ar, cr, rfl, by simp, .inl rfl⟩ (HB0.out.later LL.out) HC.out ⟨by simp, by simp, by simp⟩ HSN.out (by decide) Hn.out HD.out Hm2.out (by simp) (by have := HB0.out.len'; have := HX3.out; omega)
  have HRl : Hid ((tkR n F D p r cc (42, at0, N0, pg0, bt0) len 0 [] (0, 0, 0) B).2.2.length ≤ 20000 ∧ OkS (tkR n F D p r cc (42, at0, N0, pg0, bt0) len 0 [] (0, 0, 0) B).1.2.2 ∧ In64 (tkR n F D p r cc (42, at0, N0, pg0, bt0) len 0 [] (0, 0, 0) B).2.1 ∧ (tkR n F D p r cc (42, at0, N0, pg0, bt0) len 0 [] (0, 0, 0) B).1.2.1.length ≤ 70) := by
    have h1 := rest_take n F D p r cc (42, at0, N0, pg0, bt0) len 0 [] (0, 0, 0) B
    have h3 := tkR_ok n F D p r cc (42, at0, N0, pg0, bt0) len 0 [] (0, 0, 0) B ⟨by simp, by simp, by simp⟩
    have h4 := took_take n F D p r cc (42, at0, N0, pg0, bt0) len 0 [] (0, 0, 0) B HSN.out (by decide)
    have h5 := HB0.out.len'
    have h6 := HX3.out
    exact ⟨by simp at h1; omega, h3, h4, tkD_len n F D p r cc (42, at0, N0, pg0, bt0) len 0 [] (0, 0, 0) B HD.out⟩
  generalize tkR n F D p r cc (42, at0, N0, pg0, bt0) len 0 [] (0, 0, 0) B = T at *
  obtain ⟨⟨F2, D2, S2⟩, took2, R2⟩ := T
  simp only at HTS HTk HRl
  refine HTk.mono ?_
  clear HTk
  rintro e w8 ⟨u8, v8, rfl, hl, ⟨a8, c8, ⟨b8, cb8, d8, k8, cD8, rfl, hm8⟩, hA8, -⟩, ⟨ar8, cr8, rfl, hr8⟩⟩
  obtain ⟨kr2, hkr2⟩ : ∃ kr2, kr2 = R2.length := ⟨_, rfl⟩
  rw [← hkr2] at hr8 ⊢
  clear hkr2
  replace LL := hide (LL.out.trans hl)
  replace BX := hide (BX.out.later hl)
  replace BC := hide (BC.out.later hl)
  replace BJ := hide (BJ.out.later hl)
  replace V9 := hide (V9.out.later hl)
  have M8 := hide hm8
  have R8 := hide hr8
  have A8 := hide (Sl.of_owns10 hA8 HA0.out.2)
  clear hl hm8 hr8 hA8
  clear x_0 x_1 x_2 x_3 x_4 x_5 x_6 x_7 x_8 x_9
  clear y_0 y_1 y_2 y_3 y_4 y_5 y_6 y_7 y_8 y_9 y_10
  go_wp2_with (refine wpList_newUJ rfl rfl rfl rfl rfl rfl 10 11 rfl rfl (by simp) (by simp) (by decide) (.tmp 50) (.tmp 51) (by simp) (by simp) (by simp) (by simp) rfl rfl rfl rfl b8 n cb8 d8 k8 cD8 p r l cc a8 m c8 s rfl (42, at0, N0, pg0, bt0) len took2 ar8 kr2 cr8 S2 rfl ?_)
  intro g10 g11 w9 hB8 hB9 hl hg
  replace LL := hide (LL.out.trans hl)
  replace BX := hide (BX.out.later hl)
  replace BC := hide (BC.out.later hl)
  replace BJ := hide (BJ.out.later hl)
  replace V9 := hide (V9.out.later hl)
  replace M8 := hide (M8.out.later hl)
  replace R8 := hide (R8.out.later hl)
  replace A8 := hide (A8.out.later hl)
  have B10 := hide hB8
  have B11 := hide hB9
  clear hl hB8 hB9 hg
  have x0 := B10.out.cell 0
  have x1 := B10.out.cell 1
  go_wp2_with fail
  refine (rall_b _ M8.out).mono ?_
  rintro e w10 ⟨v12, rfl, hl, hv12⟩
  rw [show allN n D2 = n by unfold allN; rw [HTS.out.1]; rfl, show allF n F2 D2 = app F2 D2 by unfold allF; rw [HTS.out.1]; rfl] at hv12
  replace LL := hide (LL.out.trans hl)
  replace BX := hide (BX.out.later hl)
  replace BC := hide (BC.out.later hl)
  replace BJ := hide (BJ.out.later hl)
  replace V9 := hide (V9.out.later hl)
  replace M8 := hide (M8.out.later hl)
  replace R8 := hide (R8.out.later hl)
  replace A8 := hide (A8.out.later hl)
  replace B10 := hide (B10.out.later hl)
  replace B11 := hide (B11.out.later hl)
  have V12 := hide hv12
  clear hl x0 x1 hv12
  have q9 := V9.out
  have q12 := V12.out
  obtain ⟨-, -, a9, c9, rfl, hc9, -⟩ := q9
  obtain ⟨-, -, a12, c12, rfl, hc12, -⟩ := q12
  obtain ⟨N, hN⟩ : ∃ N, N = tkN len 0 B.length := ⟨_, rfl⟩
  rw [← hN] at HTS
  have hNx : N ≤ kx ∧ (if len < (kx : Int) then len else (kx : Int)) = (N : Int) := by
    have h1 := tkN_le len 0 B.length
    have h2 := HB0.out.len'
    have h3 := HL0.out
    rw [← hN, h2] at h1
    refine ⟨h1, ?_⟩
    rw [hN, h2]
    unfold tkN
    split <;> split <;> omega
  have hmin := hNx.2
  have hN3 : N ≤ 3000 := by have := hNx.1; have := HX3.out; omega
  have HNX := hide hNx.1
  have HTN := hide hN
  clear hNx hN
  obtain ⟨q, hq⟩ : ∃ q, q = N / 64 := ⟨_, rfl⟩
  have hq1 : Int.tdiv (N : Int) 64 = (q : Int) := by rw [Int.tdiv_eq_ediv_of_nonneg (by omega)]; omega
  have hq2 : (N : Int) / 64 = (q : Int) := by omega
  have HQ := hide hq
  have hn70 := Hn.out
  clear hq
  have y5 := BJ.out.cell 5
  go_wp2_with fail
  clear hq1 hq2 hmin y5
  have hq50 : q ≤ 50 := by have := HQ.out; omega
  go_loopw [14] (fun i W => ∃ j : Nat, j ≤ n ∧ i = .int .i64 j ∧ Hid (Later w10 W)) (fun i _ => n - (intOf i).toNat)
  case atStart => exact ⟨0, by omega, rfl, Later.refl _⟩
  case round =>
  obtain ⟨j, hj, rfl, LW⟩ := hrel
  by_cases hlt : j < n
  case neg =>
    have U10 := hide (B10.out.later LW.out)
    have J11 := hide (B11.out.later LW.out)
    have J7 := hide (BJ.out.later LW.out)
    replace M8 := hide (M8.out.later LW.out)
    replace R8 := hide (R8.out.later LW.out)
    replace A8 := hide (A8.out.later LW.out)
    replace LL := hide (LL.out.trans LW.out)
    have x_0 := U10.out.cell 0
    have x_1 := U10.out.cell 1
    have x_2 := U10.out.cell 2
    have x_3 := U10.out.cell 3
    have x_4 := U10.out.cell 4
    have x_5 := U10.out.cell 5
    have x_6 := U10.out.cell 6
    have x_7 := U10.out.cell 7
    have x_8 := U10.out.cell 8
    have x_9 := U10.out.cell 9
    have y_0 := J11.out.cell 0
    have y_1 := J11.out.cell 1
    have y_2 := J11.out.cell 2
    have y_3 := J11.out.cell 3
    have y_4 := J11.out.cell 4
    have y_5 := J11.out.cell 5
    have y_6 := J11.out.cell 6
    have y_7 := J11.out.cell 7
    have y_8 := J11.out.cell 8
    have y_9 := J11.out.cell 9
    have y_10 := J11.out.cell 10
    go_wp2_with fail
    have hfew := fun (h : took2 < len) => fin_few (cc := cc) (c := (42, at0, N0, pg0, bt0)) (len := len) (took := took2) (R := R2) (S := S2) h
    have hFk := iF (uval b8 n cb8 d8 k8 cD8 p r l cc a8 m c8 s) (jval (42, at0, N0, pg0, bt0) len took2 ar8 kr2 cr8 S2) n F2 D2 p r l cc a8 m c8 s M (42, at0, N0, pg0, bt0) len took2 R2 S2 wr ⟨_, _, _, _, _, rfl, M8.out⟩ A8.out (Jb.mk' R8.out) HC.out HRl.out.2.1 HSN.out HRl.out.2.2.1 Hn.out HRl.out.2.2.2 Hm2.out (by have := HRl.out.1; omega)
    generalize finR cc (42, at0, N0, pg0, bt0) len took2 R2 S2 = T at *
    obtain ⟨cc10, S10⟩ := T
    simp only at hFk hfew
    refine hFk.mono ?_
    clear hFk
    rintro e w12 ⟨u12, rfl, hl, ⟨a12', c12', ⟨b12, cb12, d12, k12, cD12, rfl, hm12⟩, -, -⟩⟩
    have HFW := hide hfew
    clear hfew
    replace LL := hide (LL.out.trans hl)
    replace J7 := hide (J7.out.later hl)
    clear hl hm12 M8 R8 U10 J11
    clear x_0 x_1 x_2 x_3 x_4 x_5 x_6 x_7 x_8 x_9
    clear y_0 y_1 y_2 y_3 y_4 y_5 y_6 y_7 y_8 y_9 y_10
    go_wp2_with (refine wpList_newUS rfl rfl rfl rfl rfl rfl 16 17 rfl rfl (by simp) (by simp) (by decide) (.tmp 134) (.tmp 135) (by simp) (by simp) (by simp) (by simp) rfl rfl rfl rfl b12 n cb12 d12 k12 cD12 p r l cc10 a12' m c12' s rfl S10 rfl ?_)
    intro g16 g17 w13 hB8 hB9 hl hg
    replace LL := hide (LL.out.trans hl)
    replace J7 := hide (J7.out.later hl)
    have B17 := hide hB9
    clear hl hB8 hB9 hg
    have y5 := J7.out.cell 5
    have s0 := B17.out.cell 0
    have s1 := B17.out.cell 1
    have s2 := B17.out.cell 2
    by_cases hfw : len ≤ (kx : Int)
    · go_wp2
      go_ret
      exact ⟨by first | rfl | simp, LL.out⟩
    · have hne : S10 ≠ (0, 0, 0) := HFW.out (by
        have h1 := HTS.out.2.2.2
        have h2 := HNX.out
        rw [h1]
        omega)
      go_wp2_with (refine wpList_neqS9 (by kernel_rfl) (.tmp 142) (.tmp 143) rfl S10 (0, 0, 0) rfl rfl true (by simp [hne]) ?_)
      go_ret
      exact ⟨by first | rfl | simp, LL.out⟩
  obtain ⟨b9, o9, rfl, hr9, hG, hcap9⟩ := V9.out.block (by omega)
  obtain ⟨b12, o12, rfl, hr12, hH, hcap12⟩ := V12.out.block (by omega)
  have z1 := (BC.out.later LW.out).cell 1
  have z2 := (BX.out.later LW.out).cell 2
  have z3 := (BX.out.later LW.out).cell 3
  by_cases h1 : j < at0
  · have e1 : decide ((j : Int) < (at0 : Int)) = true := by simp; omega
    have hE : seg (app F2 D2) (j * 64) 64 = seg (app F D) (j * 64) 64 := seg_eq fun y h1 h2 => by
      rw [HTS.out.2.2.1 y (by omega), if_neg (fun h => by have := h.2.2.1; omega)]
    have hXl := hide (seg_length (app F D) (j * 64) 64 (by rw [hG]; omega))
    have r9 := hide (show wr.rangeAt b9 (o9 + j * 64) (bv (seg (app F D) (j * 64) 64)) by have := range_part (LW.out.range hr9) (j * 64) 64; rwa [bv_part] at this)
    have r12 := hide (show wr.rangeAt b12 (o12 + j * 64) (bv (seg (app F D) (j * 64) 64)) by have := range_part (LW.out.range hr12) (j * 64) 64; rw [bv_part, hE] at this; exact this)
    clear hE hr9 hr12
    generalize seg (app F D) (j * 64) 64 = X at *
    go_wp2_with fail
    refine wp_region_sched ((List.range 9).map fun i => (i, false)) (by kernel_rfl) (by kernel_rfl) (by kernel_rfl) (by kernel_rfl) ?_
    simp only [List.range, List.range.loop, List.map, List.cons_append, List.nil_append]
    iterate 3 (refine wpS_mild rfl (fun K hK => ?_); go_simp; refine hK _ ?_; clear hK K)
    refine wpS_loadG rfl (by kernel_rfl) 58 (.tmp 101) rfl b12 (o12 + j * 64) rfl (bv X) _ ((World.rangeAt_drew _ _ _ _).2 r12.out) Try.underlying58 rfl (by rw [Try.info_block, bv_length, hXl.out]) ?_
    iterate 3 (refine wpS_mild rfl (fun K hK => ?_); go_simp; refine hK _ ?_; clear hK K)
    refine wpS_loadG rfl (by kernel_rfl) 58 (.tmp 105) rfl b9 (o9 + j * 64) rfl (bv X) _ ((World.rangeAt_drew _ _ _ _).2 r9.out) Try.underlying58 rfl (by rw [Try.info_block, bv_length, hXl.out]) ?_
    refine wpS_neqG rfl (by kernel_rfl) 58 58 (.tmp 102) (.tmp 106) rfl _ _ rfl rfl Try.guard_block true (fun w => by rw [block_eq X X hXl.out hXl.out]; simp) ?_
    refine wpS_nil (fun wx hwx => ?_)
    have LZ := hide (LW.out.trans ((Later.refl wr).drew.trans hwx))
    clear hwx r9 r12
    go_wp2
    go_roundw
    case rel => exact ⟨j + 1, by omega, by go_num, LZ⟩
    case measure => simp [intOf]; omega
  have e1 : decide ((j : Int) < (at0 : Int)) = false := by simp; omega
  obtain ⟨d, hd⟩ : ∃ d : Nat, j = at0 + d := ⟨j - at0, by omega⟩
  have hdi : (j : Int) - (at0 : Int) = (d : Int) := by omega
  have hd70 : d ≤ 70 := by omega
  have HDJ := hide hd
  clear hd
  by_cases h2 : q ≤ d
  · have e2 : decide ((q : Int) ≤ (d : Int)) = true := by simp; omega
    have hE : seg (app F2 D2) (j * 64) 64 = seg (app F D) (j * 64) 64 := seg_eq fun y h1 h2 => by
      rw [HTS.out.2.2.1 y (by omega), if_neg (fun h => by have h3 := h.2.2.2; have h4 := HQ.out; have h5 := HDJ.out; omega)]
    have hXl := hide (seg_length (app F D) (j * 64) 64 (by rw [hG]; omega))
    have r9 := hide (show wr.rangeAt b9 (o9 + j * 64) (bv (seg (app F D) (j * 64) 64)) by have := range_part (LW.out.range hr9) (j * 64) 64; rwa [bv_part] at this)
    have r12 := hide (show wr.rangeAt b12 (o12 + j * 64) (bv (seg (app F D) (j * 64) 64)) by have := range_part (LW.out.range hr12) (j * 64) 64; rw [bv_part, hE] at this; exact this)
    clear hE hr9 hr12
    generalize seg (app F D) (j * 64) 64 = X at *
    go_wp2_with fail
    refine wp_region_sched ((List.range 9).map fun i => (i, false)) (by kernel_rfl) (by kernel_rfl) (by kernel_rfl) (by kernel_rfl) ?_
    simp only [List.range, List.range.loop, List.map, List.cons_append, List.nil_append]
    iterate 3 (refine wpS_mild rfl (fun K hK => ?_); go_simp; refine hK _ ?_; clear hK K)
    refine wpS_loadG rfl (by kernel_rfl) 58 (.tmp 101) rfl b12 (o12 + j * 64) rfl (bv X) _ ((World.rangeAt_drew _ _ _ _).2 r12.out) Try.underlying58 rfl (by rw [Try.info_block, bv_length, hXl.out]) ?_
    iterate 3 (refine wpS_mild rfl (fun K hK => ?_); go_simp; refine hK _ ?_; clear hK K)
    refine wpS_loadG rfl (by kernel_rfl) 58 (.tmp 105) rfl b9 (o9 + j * 64) rfl (bv X) _ ((World.rangeAt_drew _ _ _ _).2 r9.out) Try.underlying58 rfl (by rw [Try.info_block, bv_length, hXl.out]) ?_
    refine wpS_neqG rfl (by kernel_rfl) 58 58 (.tmp 102) (.tmp 106) rfl _ _ rfl rfl Try.guard_block true (fun w => by rw [block_eq X X hXl.out hXl.out]; simp) ?_
    refine wpS_nil (fun wx hwx => ?_)
    have LZ := hide (LW.out.trans ((Later.refl wr).drew.trans hwx))
    clear hwx r9 r12
    go_wp2
    go_roundw
    case rel => exact ⟨j + 1, by omega, by go_num, LZ⟩
    case measure => simp [intOf]; omega
  have e2 : decide ((q : Int) ≤ (d : Int)) = false := by simp; omega
  cases p with
  | false =>
    have hE : seg (app F2 D2) (j * 64) 64 = seg (app F D) (j * 64) 64 := seg_eq fun y h1 h2 => by
      rw [HTS.out.2.2.1 y (by omega), if_neg (fun h => by cases h.1)]
    have hXl := hide (seg_length (app F D) (j * 64) 64 (by rw [hG]; omega))
    have r9 := hide (show wr.rangeAt b9 (o9 + j * 64) (bv (seg (app F D) (j * 64) 64)) by have := range_part (LW.out.range hr9) (j * 64) 64; rwa [bv_part] at this)
    have r12 := hide (show wr.rangeAt b12 (o12 + j * 64) (bv (seg (app F D) (j * 64) 64)) by have := range_part (LW.out.range hr12) (j * 64) 64; rw [bv_part, hE] at this; exact this)
    clear hE hr9 hr12
    generalize seg (app F D) (j * 64) 64 = X at *
    go_wp2_with fail
    refine wp_region_sched ((List.range 9).map fun i => (i, false)) (by kernel_rfl) (by kernel_rfl) (by kernel_rfl) (by kernel_rfl) ?_
    simp only [List.range, List.range.loop, List.map, List.cons_append, List.nil_append]
    iterate 3 (refine wpS_mild rfl (fun K hK => ?_); go_simp; refine hK _ ?_; clear hK K)
    refine wpS_loadG rfl (by kernel_rfl) 58 (.tmp 101) rfl b12 (o12 + j * 64) rfl (bv X) _ ((World.rangeAt_drew _ _ _ _).2 r12.out) Try.underlying58 rfl (by rw [Try.info_block, bv_length, hXl.out]) ?_
    iterate 3 (refine wpS_mild rfl (fun K hK => ?_); go_simp; refine hK _ ?_; clear hK K)
    refine wpS_loadG rfl (by kernel_rfl) 58 (.tmp 105) rfl b9 (o9 + j * 64) rfl (bv X) _ ((World.rangeAt_drew _ _ _ _).2 r9.out) Try.underlying58 rfl (by rw [Try.info_block, bv_length, hXl.out]) ?_
    refine wpS_neqG rfl (by kernel_rfl) 58 58 (.tmp 102) (.tmp 106) rfl _ _ rfl rfl Try.guard_block true (fun w => by rw [block_eq X X hXl.out hXl.out]; simp) ?_
    refine wpS_nil (fun wx hwx => ?_)
    have LZ := hide (LW.out.trans ((Later.refl wr).drew.trans hwx))
    clear hwx r9 r12
    go_wp2
    go_roundw
    case rel => exact ⟨j + 1, by omega, by go_num, LZ⟩
    case measure => simp [intOf]; omega
  | true =>
  cases r with
  | true =>
    have hE : seg (app F2 D2) (j * 64) 64 = seg (app F D) (j * 64) 64 := seg_eq fun y h1 h2 => by
      rw [HTS.out.2.2.1 y (by omega), if_neg (fun h => by cases h.2.1)]
    have hXl := hide (seg_length (app F D) (j * 64) 64 (by rw [hG]; omega))
    have r9 := hide (show wr.rangeAt b9 (o9 + j * 64) (bv (seg (app F D) (j * 64) 64)) by have := range_part (LW.out.range hr9) (j * 64) 64; rwa [bv_part] at this)
    have r12 := hide (show wr.rangeAt b12 (o12 + j * 64) (bv (seg (app F D) (j * 64) 64)) by have := range_part (LW.out.range hr12) (j * 64) 64; rw [bv_part, hE] at this; exact this)
    clear hE hr9 hr12
    generalize seg (app F D) (j * 64) 64 = X at *
    go_wp2_with fail
    refine wp_region_sched ((List.range 9).map fun i => (i, false)) (by kernel_rfl) (by kernel_rfl) (by kernel_rfl) (by kernel_rfl) ?_
    simp only [List.range, List.range.loop, List.map, List.cons_append, List.nil_append]
    iterate 3 (refine wpS_mild rfl (fun K hK => ?_); go_simp; refine hK _ ?_; clear hK K)
    refine wpS_loadG rfl (by kernel_rfl) 58 (.tmp 101) rfl b12 (o12 + j * 64) rfl (bv X) _ ((World.rangeAt_drew _ _ _ _).2 r12.out) Try.underlying58 rfl (by rw [Try.info_block, bv_length, hXl.out]) ?_
    iterate 3 (refine wpS_mild rfl (fun K hK => ?_); go_simp; refine hK _ ?_; clear hK K)
    refine wpS_loadG rfl (by kernel_rfl) 58 (.tmp 105) rfl b9 (o9 + j * 64) rfl (bv X) _ ((World.rangeAt_drew _ _ _ _).2 r9.out) Try.underlying58 rfl (by rw [Try.info_block, bv_length, hXl.out]) ?_
    refine wpS_neqG rfl (by kernel_rfl) 58 58 (.tmp 102) (.tmp 106) rfl _ _ rfl rfl Try.guard_block true (fun w => by rw [block_eq X X hXl.out hXl.out]; simp) ?_
    refine wpS_nil (fun wx hwx => ?_)
    have LZ := hide (LW.out.trans ((Later.refl wr).drew.trans hwx))
    clear hwx r9 r12
    go_wp2
    go_roundw
    case rel => exact ⟨j + 1, by omega, by go_num, LZ⟩
    case measure => simp [intOf]; omega
  | false =>
  go_wp2_with fail
  go_loopw [15] (fun i W => ∃ x : Nat, x ≤ 64 ∧ i = .int .i64 x ∧ Hid (Later w10 W)) (fun i _ => 64 - (intOf i).toNat)
  case atStart => exact ⟨0, by omega, rfl, LW⟩
  case round =>
  clear LW z1 z2 z3
  obtain ⟨x, hx, rfl, LW⟩ := hrel
  by_cases hx64 : x < 64
  case neg =>
    have hx6 : Hid (x = 64) := by unfold Hid; omega
    go_wp2
    go_roundw
    case rel => exact ⟨j + 1, by omega, by go_num, LW⟩
    case measure => simp [intOf]; omega
  have hdj := HDJ.out
  have hqn := HQ.out
  have hBl : 64 * d + x < B.length := by
    have h3 := HNX.out
    have h4 := HB0.out.len'
    omega
  have hy : (app F2 D2)[j * 64 + x]? = some B[64 * d + x] := by
    rw [HTS.out.2.2.1 (j * 64 + x) (by omega), if_pos (by refine ⟨?_, ?_, ?_, ?_⟩ <;> first | trivial | omega), show j * 64 + x - 64 * at0 = 64 * d + x by omega, List.getElem?_eq_getElem hBl]
  have h12 : wr.cell? ⟨b12, o12 + j * 64 + x, none⟩ = some (.int .u8 (B[64 * d + x].toNat : Int)) := by
    have := LW.out.range hr12 (j * 64 + x) (.int .u8 (B[64 * d + x].toNat : Int)) (by rw [bv_get, hy]; rfl)
    rw [← Nat.add_assoc] at this
    exact this
  obtain ⟨bx, ox, rfl, hbx⟩ : ∃ bx ox, ax = some ⟨bx, ox, none⟩ ∧ wr.cell? ⟨bx, ox + (64 * d + x), none⟩ = some (.int .u8 (B[64 * d + x].toNat : Int)) := by
    obtain ⟨g1, a, cap, e, g2, g3⟩ := HB0.out.later (LL.out.trans LW.out)
    simp at e
    obtain ⟨rfl, rfl, rfl⟩ := e
    rcases g3 with g3 | ⟨b, o, rfl, g3⟩
    · exfalso; rw [g3] at hBl; simp at hBl
    · exact ⟨b, o, rfl, g3 _ hBl⟩
  have hkx : 64 * d + x < kx := by have := HB0.out.len'; omega
  generalize B[64 * d + x] = v at *
  have hw1 : IntKind.i64.wrap (at0 : Int) = at0 := by rw [IntKind.wrap_i64]; omega
  have hw2 : IntKind.i64.wrap (d : Int) = d := by rw [IntKind.wrap_i64]; omega
  have hw3 : IntKind.i64.wrap (64 * (d : Int)) = 64 * (d : Int) := by rw [IntKind.wrap_i64]; omega
  obtain ⟨E, hE⟩ : ∃ E, E = 64 * d + x := ⟨_, rfl⟩
  have hw4 : IntKind.i64.wrap (64 * (d : Int) + (x : Int)) = (E : Int) := by rw [IntKind.wrap_i64]; omega
  rw [← hE] at hbx hkx
  have hkxi : (E : Int) < (kx : Int) := by omega
  clear hdj hqn hBl hy hE
  have hc := fun r => ((Later.refl wr).drew.trans (later_rg wr.drew r))
  have f12 := fun r => (hc r).cellOf h12
  have fbx := fun r => (hc r).cellOf hbx
  have z1 := fun r => (BC.out.later (LW.out.trans (hc r))).cell 1
  go_wp2_with fail
  refine wp_region_sched ((List.range 18).map fun i => (i, false)) (by kernel_rfl) (by kernel_rfl) (by kernel_rfl) (by kernel_rfl) ?_
  simp only [List.range, List.range.loop, List.map, List.cons_append, List.nil_append]
  iterate 18 (refine wpS_mild rfl (fun K hK => ?_); go_simp; refine hK _ ?_; clear hK K)
  refine wpS_nil (fun wx hwx => ?_)
  have LZ := hide (LW.out.trans ((Later.refl wr).drew.trans hwx))
  clear hwx f12 fbx z1 h12 hbx hc
  go_wp2
  go_roundw
  case rel => exact ⟨x + 1, by omega, by go_num, LZ⟩
  case measure => simp [intOf]; omega
end Go.Proofs.Ytbcikndebaeahaa
