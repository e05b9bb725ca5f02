import Derived.Test.YtbcikndebaeahaaMAQ
namespace Go.Proofs.Ytbcikndebaeahaa
open Go.ChangeShapes Go.WideShapes Go.ChangeAt Go.RowKit
set_option linter.unusedVariables false
set_option maxRecDepth 4000
set_option linter.unusedSimpArgs false
/-! However the bytes come. -/
set_option maxRecDepth 20000 in
set_option maxHeartbeats 8000000 in
theorem jobParts_walk (hal : Alive10) (iS : IStart10) (iT : ITake10) (iF : IFin10) {ab : Option Addr} {n cb : Nat} {aD : Option Addr} {k cD : Nat} {F : List UInt8} {D : List Drt} {p r l cc : Bool} {am : Option Addr} {m cm : Nat} {s : Sns} {M : List Sns} {c : Cmd} {aP : Option Addr} {kP cP : Nat} {P : List (List UInt8)} (w : World)
    (hm : Med w (.agg #[.slice ab n cb, .slice aD k cD]) n F D) (hA : Sl w (.slice am m cm) M) (hc : OkC7 c) (hP : Pts w (.slice aP kP cP) P) (hm1 : m ≤ maxLen) :
    Calls Try.prog 5 #[uval ab n cb aD k cD p r l cc am m cm s, cval c, .slice aP kP cP] w fun e w' => e = .returned (.bool true) ∧ Below w.heap.size w w' := by
  have HM0 := hide hm
  have HA0 := hide hA
  have HC := hide hc
  have HP := hide hP
  have N1 := hide hm1
  have hkP : kP ≤ 9223372036854775807 := by
    obtain ⟨a, c, e, h1, h2, h3⟩ := hP
    simp at e
    unfold maxLen at h1
    omega
  clear hm hA hc hP hm1
  have BX := hide ((Box.new w 32 (uc ab n cb aD k cD p r l cc am m cm s).toArray).alloc (.cells #[.int .i64 c.1, .int .u64 (c.2.1 : Int), .int .i64 c.2.2.1, .int .i64 c.2.2.2.1, .int .i64 c.2.2.2.2] 35))
  have BC : Hid (Box _ (w.heap.size + 1) 35 [.int .i64 c.1, .int .u64 (c.2.1 : Int), .int .i64 c.2.2.1, .int .i64 c.2.2.2.1, .int .i64 c.2.2.2.2]) := Box.new' (w.alloc (.cells (uc ab n cb aD k cD p r l cc am m cm s).toArray 32)) 35 #[.int .i64 c.1, .int .u64 (c.2.1 : Int), .int .i64 c.2.2.1, .int .i64 c.2.2.2.1, .int .i64 c.2.2.2.2] _ rfl _ (by simp)
  have LL := hide (((Later.refl w).alloc (.cells (uc ab n cb aD k cD p r l cc am m cm s).toArray 32)).alloc (.cells #[.int .i64 c.1, .int .u64 (c.2.1 : Int), .int .i64 c.2.2.1, .int .i64 c.2.2.2.1, .int .i64 c.2.2.2.2] 35))
  go_enter Try.func5, Try.ntmps5
  go_wp2_with fail
  generalize (w.alloc (.cells (uc ab n cb aD k cD p r l cc am m cm s).toArray 32)).alloc (.cells #[.int .i64 c.1, .int .u64 (c.2.1 : Int), .int .i64 c.2.2.1, .int .i64 c.2.2.2.1, .int .i64 c.2.2.2.2] 35) = w1 at *
  obtain ⟨gx, hgx⟩ : ∃ gx, gx = w.heap.size := ⟨_, rfl⟩
  obtain ⟨gy, hgy⟩ : ∃ gy, gy = w.heap.size + 1 := ⟨_, rfl⟩
  rw [← hgy] at BC ⊢
  rw [← hgx] at BX ⊢
  have HGX : Hid (w.heap.size ≤ gx) := by rw [Hid]; omega
  clear hgx hgy
  refine (hal _).mono ?_
  rintro e w2 ⟨rfl, hl⟩
  replace LL := hide (LL.out.trans hl)
  replace BX := hide (BX.out.later hl)
  replace BC := hide (BC.out.later hl)
  clear hl
  have x0 := BC.out.cell 0
  have x1 := BC.out.cell 1
  have x2 := BC.out.cell 2
  have x3 := BC.out.cell 3
  have x4 := BC.out.cell 4
  go_wp2_with fail
  refine (iS c _ HC.out).mono ?_
  rintro e w3 ⟨va, rfl, hl, ar, cr, rfl, hb⟩
  replace LL := hide (LL.out.trans hl)
  replace BX := hide (BX.out.later hl)
  replace BC := hide (BC.out.later hl)
  have VA := hide hb
  clear hl hb x0 x1 x2 x3 x4
  have HSC := hide (startC_ok c HC.out)
  have HSN := hide (startN_in c HC.out)
  have HST := hide (fun h : startB c = true => started h)
  have HTK := hide (fun (h : startB c = true) (F' : List UInt8) (D' : List Drt) (A : List UInt8) => started_took (n := n) (F := F') (D := D') (p := p) (r := r) (cc := cc) (A := A) h)
  generalize startC c = C at *
  generalize startN c = len at *
  rw [show ([] : List UInt8).length = 0 from rfl] at VA ⊢
  go_wp2_with (refine wpList_newJ rfl rfl rfl 7 rfl (by simp) (.tmp 26) (by simp) rfl C len 0 ar 0 cr (0, 0, 0) rfl ?_)
  intro g7 w4 hB4 hl hg
  replace LL := hide (LL.out.trans hl)
  replace BX := hide (BX.out.later hl)
  replace BC := hide (BC.out.later hl)
  replace VA := hide (VA.out.later hl)
  have BJ := hide hB4
  clear hl hB4 hg BC
  cases hsb : startB c with
  | false =>
    go_wp2
    go_ret
    exact ⟨rfl, LL.out⟩
  | true =>
  replace HST := hide (HST.out hsb)
  replace HTK := hide (HTK.out hsb)
  obtain ⟨hsl, hsc⟩ := HST.out
  subst hsc
  clear HST hsb hsl
  have x_0 := BX.out.cell 0
  have x_1 := BX.out.cell 1
  have x_2 := BX.out.cell 2
  have x_3 := BX.out.cell 3
  have x_4 := BX.out.cell 4
  have x_5 := BX.out.cell 5
  have x_6 := BX.out.cell 6
  have x_7 := BX.out.cell 7
  have x_8 := BX.out.cell 8
  have x_9 := BX.out.cell 9
  have y_0 := BJ.out.cell 0
  have y_1 := BJ.out.cell 1
  have y_2 := BJ.out.cell 2
  have y_3 := BJ.out.cell 3
  have y_4 := BJ.out.cell 4
  have y_5 := BJ.out.cell 5
  have y_6 := BJ.out.cell 6
  have y_7 := BJ.out.cell 7
  have y_8 := BJ.out.cell 8
  have y_9 := BJ.out.cell 9
  have y_10 := BJ.out.cell 10
  go_wp2_with fail
  refine (great10_c (l := l) (cc := cc) (am := am) (m := m) (cm := cm) (s := s) (c := C) (len := len) (took := 0) (ar := ar) (kr := 0) (cr := cr) (S := (0, 0, 0)) (ax := none) (kx := 0) (cx := 0) _ (HM0.out.later LL.out) N1.out (by decide) (by decide)).mono ?_
  rintro e w5 ⟨rfl, hl⟩
  replace LL := hide (LL.out.trans hl)
  replace BX := hide (BX.out.later hl)
  replace BJ := hide (BJ.out.later hl)
  replace VA := hide (VA.out.later hl)
  clear hl
  clear x_0 x_1 x_2 x_3 x_4 x_5 x_6 x_7 x_8 x_9
  clear y_0 y_1 y_2 y_3 y_4 y_5 y_6 y_7 y_8 y_9 y_10
  cases hG : great10 n D m 0 0 with
  | true =>
    go_wp2
    go_ret
    exact ⟨rfl, LL.out⟩
  | false =>
  obtain ⟨hn, hD, hm20, _, _⟩ := great10_no hG
  have Hn := hide hn
  have HD := hide hD
  have Hm2 := hide hm20
  clear hG hn hD hm20 N1
  by_cases h30 : 30 < kP
  · go_wp2
    go_ret
    exact ⟨rfl, LL.out⟩
  go_wp2_with fail
  have hc := fun q => ((Later.refl w5).drew.trans (later_rg w5.drew q))
  have x_0 := fun q' => (BX.out.later (hc q')).cell 0
  have x_1 := fun q' => (BX.out.later (hc q')).cell 1
  have x_2 := fun q' => (BX.out.later (hc q')).cell 2
  have x_3 := fun q' => (BX.out.later (hc q')).cell 3
  have x_4 := fun q' => (BX.out.later (hc q')).cell 4
  have x_5 := fun q' => (BX.out.later (hc q')).cell 5
  have x_6 := fun q' => (BX.out.later (hc q')).cell 6
  have x_7 := fun q' => (BX.out.later (hc q')).cell 7
  have x_8 := fun q' => (BX.out.later (hc q')).cell 8
  have x_9 := fun q' => (BX.out.later (hc q')).cell 9
  have y_0 := fun q' => (BJ.out.later (hc q')).cell 0
  have y_1 := fun q' => (BJ.out.later (hc q')).cell 1
  have y_2 := fun q' => (BJ.out.later (hc q')).cell 2
  have y_3 := fun q' => (BJ.out.later (hc q')).cell 3
  have y_4 := fun q' => (BJ.out.later (hc q')).cell 4
  have y_5 := fun q' => (BJ.out.later (hc q')).cell 5
  have y_6 := fun q' => (BJ.out.later (hc q')).cell 6
  have y_7 := fun q' => (BJ.out.later (hc q')).cell 7
  have y_8 := fun q' => (BJ.out.later (hc q')).cell 8
  have y_9 := fun q' => (BJ.out.later (hc q')).cell 9
  have y_10 := fun q' => (BJ.out.later (hc q')).cell 10
  refine wp_region_bag [0] [1, 2, 3, 4, 5] [4, 5] (by kernel_rfl) (by kernel_rfl) (by kernel_rfl) (by kernel_rfl) ?_
  iterate 1 (refine wpM_mild rfl (fun K hK => ?_); go_simp; refine hK _ ?_; clear hK K)
  clear x_0 x_1 x_2 x_3 x_4 x_5 x_6 x_7 x_8 x_9
  clear y_0 y_1 y_2 y_3 y_4 y_5 y_6 y_7 y_8 y_9 y_10
  clear hc
  refine wpM_nil (vars_parts 32 38 (by decide) (uc none 0 0 none 0 0 false false false false none 0 0 (0, 0, 0)) (jc (0, 0, 0, 0, 0) 0 0 none 0 0 (0, 0, 0)) Try.zero_unit Try.zero_job Try.info_unit Try.info_job (uc ab n cb aD k cD p r l cc am m cm s) (jc C len 0 ar 0 cr (0, 0, 0)) rfl (uc_one _ _ _ _ _ _ _ _ _ _ _ _ _ _) rfl (jc_one _ _ _ _ _ _ _) (.tmp 40) rfl (by simp) (by simp) (by simp) (.tmp 7) g7 rfl (BJ.out.later (Later.refl _).drew) (fun W h => load_job h rfl)
    ⟨_, rfl, rfl, rfl, rfl⟩ ⟨_, rfl, rfl, rfl, rfl⟩ ⟨_, rfl, rfl, rfl, rfl⟩ ⟨_, rfl, rfl, rfl, rfl⟩ ⟨_, rfl, rfl, rfl, rfl⟩ (of_decide_eq_true (by kernel_rfl)) (by kernel_rfl) ?_)
  intro g10 g11 w6 hL hb1 hb2 hg1 hg2
  have hl := (Later.refl w5).drew.trans hL
  have HW : Hid (PtW w gx g7 g10 g11 (uc ab n cb aD k cD p r l cc am m cm s) (jc C len 0 ar 0 cr (0, 0, 0)) (uc ab n cb aD k cD p r l cc am m cm s) (jc C len 0 ar 0 cr (0, 0, 0)) w6) := by
    have q1 := LL.out.size
    have q2 := BX.out.lt
    have q3 := BJ.out.lt
    have q4 : w5.heap.size ≤ w5.drew.heap.size := (Later.refl w5).drew.size
    exact ⟨LL.out.trans hl, BX.out.later hl, BJ.out.later hl, hb1, hb2, by omega, by omega, by omega, by omega, by omega, by omega, box_ne hb1 hb2 (by decide)⟩
  have VR : Hid (Bs w6 (.slice ar 0 cr) []) := VA.out.later hl
  clear hl hL hb1 hb2 hg1 hg2 LL BX BJ VA HGX
  go_wp2_with fail
  have HAll := hide (And.intro HW.out (And.intro (HM0.out.later HW.out.1) (And.intro VR.out (And.intro (Bs.nil w6) (show At10 w w6 (.slice am m cm) M from .inl HA0.out)))))
  clear HW VR
  go_loopw [9, 12] (fun va i W => ∃ (q : Nat) (b : Option Addr) (cb' : Nat) (d : Option Addr) (k' cD' : Nat) (F' : List UInt8) (D' : List Drt) (took' : Int) (ar' : Option Addr) (kr' cr' : Nat) (R' : List UInt8) (S' : Sns) (aA : Option Addr) (kA cA : Nat) (A : List UInt8) (am' : Option Addr) (cm' : Nat), q ≤ kP ∧ i = .int .i64 q ∧ va = .slice aA kA cA ∧ Hid (PtW w gx g7 g10 g11 (uc ab n cb aD k cD p r l cc am m cm s) (jc C len 0 ar 0 cr (0, 0, 0)) (uc b n cb' d k' cD' p r l cc am' m cm' s) (jc C len took' ar' kr' cr' S') W ∧ Med W (.agg #[.slice b n cb', .slice d k' cD']) n F' D' ∧ Bs W (.slice ar' kr' cr') R' ∧ Bs W (.slice aA kA cA) A ∧ At10 w W (.slice am' m cm') M) ∧ Hid (A.length ≤ 500 * q ∧ tkR n F D p r cc C len 0 [] (0, 0, 0) A = ((F', D', S'), took', R'))) (fun _ i _ => kP - (intOf i).toNat)
  case atStart => exact ⟨0, ab, cb, aD, k, cD, F, D, 0, ar, 0, cr, [], (0, 0, 0), none, 0, 0, [], am, cm, by omega, rfl, rfl, HAll, by simp, take_nil _ _ _ _ _ _ _ _ _ _ _⟩
  case round =>
  clear HAll
  obtain ⟨q, b, cb', d, k', cD', F', D', took', ar', kr', cr', R', S', aA, kA, cA, A, am', cm', hq, rfl, rfl, HAll, HQ⟩ := hrel
  have HW := hide HAll.out.1
  have HM := hide HAll.out.2.1
  have HR := hide HAll.out.2.2.1
  have HA := hide HAll.out.2.2.2.1
  have HT0 := hide HAll.out.2.2.2.2
  clear HAll
  have HRl : Hid (R'.length ≤ 20000 ∧ D'.length ≤ 70 ∧ OkS S' ∧ In64 took') := by
    have e := HQ.out.2
    have h1 := rest_take n F D p r cc C len 0 [] (0, 0, 0) A
    have h2 := tkD_len n F D p r cc C len 0 [] (0, 0, 0) A HD.out
    have h3 := tkR_ok n F D p r cc C len 0 [] (0, 0, 0) A ⟨by simp, by simp, by simp⟩
    have h4 := took_take n F D p r cc C len 0 [] (0, 0, 0) A HSN.out (by decide)
    rw [e] at h1 h2 h3 h4
    have h5 := HQ.out.1
    exact ⟨by simp at h1; omega, h2, h3, h4⟩
  by_cases hlt : q < kP
  case neg =>
    have hmin : (if len < (kA : Int) then len else (kA : Int)) = took' := by
      have h := HTK.out F D A
      rw [HQ.out.2, HA.out.len'] at h
      exact h.symm
    have HAl : Hid (A.length ≤ 100000) := by have := HQ.out.1; rw [Hid]; omega
    have BX := hide HW.out.2.1
    have BJ := hide HW.out.2.2.1
    have B10 := hide HW.out.2.2.2.1
    have B11 := hide HW.out.2.2.2.2.1
    have LL := hide HW.out.1
    have AS := hide (HT0.out.sl LL.out HA0.out.2)
    clear HW HT0
    have x_0 := BX.out.cell 0
    have x_1 := BX.out.cell 1
    have x_2 := BX.out.cell 2
    have x_3 := BX.out.cell 3
    have x_4 := BX.out.cell 4
    have x_5 := BX.out.cell 5
    have x_6 := BX.out.cell 6
    have x_7 := BX.out.cell 7
    have x_8 := BX.out.cell 8
    have x_9 := BX.out.cell 9
    have y_0 := BJ.out.cell 0
    have y_1 := BJ.out.cell 1
    have y_2 := BJ.out.cell 2
    have y_3 := BJ.out.cell 3
    have y_4 := BJ.out.cell 4
    have y_5 := BJ.out.cell 5
    have y_6 := BJ.out.cell 6
    have y_7 := BJ.out.cell 7
    have y_8 := BJ.out.cell 8
    have y_9 := BJ.out.cell 9
    have y_10 := BJ.out.cell 10
    go_wp2_with fail
    have HT7 := iT (uval ab n cb aD k cD p r l cc am m cm s) (jval C len 0 ar 0 cr (0, 0, 0)) (.slice aA kA cA) n F D p r l cc am m cm s M C len 0 [] (0, 0, 0) A wr ⟨_, _, _, _, _, rfl, HM0.out.later LL.out⟩ (HA0.out.later LL.out) ⟨ar, cr, rfl, by simp, ar, cr, rfl, by simp, .inl rfl⟩ HA.out HC.out ⟨by simp, by simp, by simp⟩ HSN.out (by decide) Hn.out HD.out Hm2.out (by simp) HAl.out
    rw [HQ.out.2] at HT7
    refine HT7.mono ?_
    clear HT7
    rintro e w8 ⟨u8, v8, rfl, hl, ⟨a8, c8, ⟨b8, cb8, d8, k8, cD8, rfl, hm8⟩, hA8, -⟩, ⟨ar8, cr8, rfl, hr8⟩⟩
    rw [HR.out.len'] at hr8 ⊢
    replace LL := hide (LL.out.trans hl)
    replace HM := hide (HM.out.later hl)
    replace HR := hide (HR.out.later hl)
    replace HA := hide (HA.out.later hl)
    replace B10 := hide (B10.out.later hl)
    replace B11 := hide (B11.out.later hl)
    replace AS := hide (AS.out.later hl)
    have M8 := hide hm8
    have R8 := hide hr8
    have A8 := hide (Sl.of_owns10 hA8 HA0.out.2)
    clear hl hm8 hr8 hA8 BX BJ
    clear x_0 x_1 x_2 x_3 x_4 x_5 x_6 x_7 x_8 x_9
    clear y_0 y_1 y_2 y_3 y_4 y_5 y_6 y_7 y_8 y_9 y_10
    go_wp2_with (refine wpList_newUJ rfl rfl rfl rfl rfl rfl 15 16 rfl rfl (by simp) (by simp) (by decide) (.tmp 77) (.tmp 78) (by simp) (by simp) (by simp) (by simp) rfl rfl rfl rfl b8 n cb8 d8 k8 cD8 p r l cc a8 m c8 s rfl C len took' ar8 kr' cr8 S' rfl ?_)
    intro g15 g16 w9 hB8 hB9 hl hg
    replace LL := hide (LL.out.trans hl)
    replace HM := hide (HM.out.later hl)
    replace HR := hide (HR.out.later hl)
    replace HA := hide (HA.out.later hl)
    replace B10 := hide (B10.out.later hl)
    replace B11 := hide (B11.out.later hl)
    replace AS := hide (AS.out.later hl)
    replace M8 := hide (M8.out.later hl)
    replace R8 := hide (R8.out.later hl)
    replace A8 := hide (A8.out.later hl)
    have B15 := hide hB8
    have B16 := hide hB9
    clear hl hB8 hB9 hg
    have x_0 := B10.out.cell 0
    have x_1 := B10.out.cell 1
    have x_2 := B10.out.cell 2
    have x_3 := B10.out.cell 3
    have x_4 := B10.out.cell 4
    have x_5 := B10.out.cell 5
    have x_6 := B10.out.cell 6
    have x_7 := B10.out.cell 7
    have x_8 := B10.out.cell 8
    have x_9 := B10.out.cell 9
    have y_0 := B11.out.cell 0
    have y_1 := B11.out.cell 1
    have y_2 := B11.out.cell 2
    have y_3 := B11.out.cell 3
    have y_4 := B11.out.cell 4
    have y_5 := B11.out.cell 5
    have y_6 := B11.out.cell 6
    have y_7 := B11.out.cell 7
    have y_8 := B11.out.cell 8
    have y_9 := B11.out.cell 9
    have y_10 := B11.out.cell 10
    go_wp2_with fail
    refine (iF (uval b n cb' d k' cD' p r l cc am' m cm' s) (jval C len took' ar' kr' cr' S') n F' D' p r l cc am' m cm' s M C len took' R' S' _ ⟨_, _, _, _, _, rfl, HM.out⟩ AS.out (Jb.mk' HR.out) HC.out HRl.out.2.2.1 HSN.out HRl.out.2.2.2 Hn.out HRl.out.2.1 Hm2.out (by have := HRl.out.1; omega)).mono ?_
    rintro e w10 ⟨u10, rfl, hl, ⟨a10, c10, ⟨b10, cb10, d10, k10, cD10, rfl, hm10⟩, hA10, -⟩⟩
    have HF2 := hide (iF (uval b8 n cb8 d8 k8 cD8 p r l cc a8 m c8 s) (jval C len took' ar8 kr' cr8 S') n F' D' p r l cc a8 m c8 s M C len took' R' S')
    generalize finR cc C len took' R' S' = T at *
    obtain ⟨cc10, S10⟩ := T
    simp only at hm10 HF2 ⊢
    replace LL := hide (LL.out.trans hl)
    replace HM := hide (HM.out.later hl)
    replace HR := hide (HR.out.later hl)
    replace HA := hide (HA.out.later hl)
    replace B10 := hide (B10.out.later hl)
    replace B11 := hide (B11.out.later hl)
    replace AS := hide (AS.out.later hl)
    replace M8 := hide (M8.out.later hl)
    replace R8 := hide (R8.out.later hl)
    replace A8 := hide (A8.out.later hl)
    replace B15 := hide (B15.out.later hl)
    replace B16 := hide (B16.out.later hl)
    have M10 := hide hm10
    have A10 := hide (Sl.of_owns10 hA10 HA0.out.2)
    clear hl hm10 hA10
    clear x_0 x_1 x_2 x_3 x_4 x_5 x_6 x_7 x_8 x_9
    clear y_0 y_1 y_2 y_3 y_4 y_5 y_6 y_7 y_8 y_9 y_10
    go_wp2_with (refine wpList_newUS rfl rfl rfl rfl rfl rfl 17 18 rfl rfl (by simp) (by simp) (by decide) (.tmp 83) (.tmp 84) (by simp) (by simp) (by simp) (by simp) rfl rfl rfl rfl b10 n cb10 d10 k10 cD10 p r l cc10 a10 m c10 s rfl S10 rfl ?_)
    intro g17 g18 w11 hB8 hB9 hl hg
    replace LL := hide (LL.out.trans hl)
    replace HM := hide (HM.out.later hl)
    replace HR := hide (HR.out.later hl)
    replace HA := hide (HA.out.later hl)
    replace B10 := hide (B10.out.later hl)
    replace B11 := hide (B11.out.later hl)
    replace AS := hide (AS.out.later hl)
    replace M8 := hide (M8.out.later hl)
    replace R8 := hide (R8.out.later hl)
    replace A8 := hide (A8.out.later hl)
    replace B15 := hide (B15.out.later hl)
    replace B16 := hide (B16.out.later hl)
    replace M10 := hide (M10.out.later hl)
    replace A10 := hide (A10.out.later hl)
    have B17 := hide hB8
    have B18 := hide hB9
    clear hl hB8 hB9 hg
    have x_0 := B15.out.cell 0
    have x_1 := B15.out.cell 1
    have x_2 := B15.out.cell 2
    have x_3 := B15.out.cell 3
    have x_4 := B15.out.cell 4
    have x_5 := B15.out.cell 5
    have x_6 := B15.out.cell 6
    have x_7 := B15.out.cell 7
    have x_8 := B15.out.cell 8
    have x_9 := B15.out.cell 9
    have y_0 := B16.out.cell 0
    have y_1 := B16.out.cell 1
    have y_2 := B16.out.cell 2
    have y_3 := B16.out.cell 3
    have y_4 := B16.out.cell 4
    have y_5 := B16.out.cell 5
    have y_6 := B16.out.cell 6
    have y_7 := B16.out.cell 7
    have y_8 := B16.out.cell 8
    have y_9 := B16.out.cell 9
    have y_10 := B16.out.cell 10
    go_wp2_with fail
    refine (HF2.out _ ⟨_, _, _, _, _, rfl, M8.out⟩ A8.out (Jb.mk' R8.out) HC.out HRl.out.2.2.1 HSN.out HRl.out.2.2.2 Hn.out HRl.out.2.1 Hm2.out (by have := HRl.out.1; omega)).mono ?_
    rintro e w12 ⟨u12, rfl, hl, ⟨a12, c12, ⟨b12, cb12, d12, k12, cD12, rfl, hm12⟩, hA12, -⟩⟩
    replace LL := hide (LL.out.trans hl)
    replace HM := hide (HM.out.later hl)
    replace HR := hide (HR.out.later hl)
    replace HA := hide (HA.out.later hl)
    replace B10 := hide (B10.out.later hl)
    replace B11 := hide (B11.out.later hl)
    replace AS := hide (AS.out.later hl)
    replace M8 := hide (M8.out.later hl)
    replace R8 := hide (R8.out.later hl)
    replace A8 := hide (A8.out.later hl)
    replace B15 := hide (B15.out.later hl)
    replace B16 := hide (B16.out.later hl)
    replace M10 := hide (M10.out.later hl)
    replace A10 := hide (A10.out.later hl)
    replace B17 := hide (B17.out.later hl)
    replace B18 := hide (B18.out.later hl)
    have M12 := hide hm12
    have A12 := hide (Sl.of_owns10 hA12 HA0.out.2)
    clear hl hm12 hA12 HF2
    clear x_0 x_1 x_2 x_3 x_4 x_5 x_6 x_7 x_8 x_9
    clear y_0 y_1 y_2 y_3 y_4 y_5 y_6 y_7 y_8 y_9 y_10
    go_wp2_with (refine wpList_newUS rfl rfl rfl rfl rfl rfl 19 20 rfl rfl (by simp) (by simp) (by decide) (.tmp 89) (.tmp 90) (by simp) (by simp) (by simp) (by simp) rfl rfl rfl rfl b12 n cb12 d12 k12 cD12 p r l cc10 a12 m c12 s rfl S10 rfl ?_)
    intro g19 g20 w13 hB8 hB9 hl hg
    replace LL := hide (LL.out.trans hl)
    replace HM := hide (HM.out.later hl)
    replace HR := hide (HR.out.later hl)
    replace HA := hide (HA.out.later hl)
    replace B10 := hide (B10.out.later hl)
    replace B11 := hide (B11.out.later hl)
    replace AS := hide (AS.out.later hl)
    replace M8 := hide (M8.out.later hl)
    replace R8 := hide (R8.out.later hl)
    replace A8 := hide (A8.out.later hl)
    replace B15 := hide (B15.out.later hl)
    replace B16 := hide (B16.out.later hl)
    replace M10 := hide (M10.out.later hl)
    replace A10 := hide (A10.out.later hl)
    replace B17 := hide (B17.out.later hl)
    replace B18 := hide (B18.out.later hl)
    replace M12 := hide (M12.out.later hl)
    replace A12 := hide (A12.out.later hl)
    have B19 := hide hB8
    have B20 := hide hB9
    clear hl hB8 hB9 hg
    have x_0 := B10.out.cell 0
    have x_1 := B10.out.cell 1
    have x_2 := B10.out.cell 2
    have x_3 := B10.out.cell 3
    have x_4 := B10.out.cell 4
    have x_5 := B10.out.cell 5
    have x_6 := B10.out.cell 6
    have x_7 := B10.out.cell 7
    have x_8 := B10.out.cell 8
    have x_9 := B10.out.cell 9
    have z_0 := B15.out.cell 0
    have z_1 := B15.out.cell 1
    have z_2 := B15.out.cell 2
    have z_3 := B15.out.cell 3
    have z_4 := B15.out.cell 4
    have z_5 := B15.out.cell 5
    have z_6 := B15.out.cell 6
    have z_7 := B15.out.cell 7
    have z_8 := B15.out.cell 8
    have z_9 := B15.out.cell 9
    go_wp2_with fail
    refine (runit_c _ ⟨_, _, _, _, _, rfl, HM.out⟩ ⟨_, _, _, _, _, rfl, M8.out⟩ AS.out A8.out).mono ?_
    rintro e wa ⟨rfl, hl⟩
    rw [show ((p == p && (r == r && (l == l && (F' == F' && D' == D')))) && (cc == cc && (s == s && M == M))) = true by simp]
    replace LL := hide (LL.out.trans hl)
    replace HR := hide (HR.out.later hl)
    replace HA := hide (HA.out.later hl)
    replace B11 := hide (B11.out.later hl)
    replace R8 := hide (R8.out.later hl)
    replace B16 := hide (B16.out.later hl)
    replace M10 := hide (M10.out.later hl)
    replace A10 := hide (A10.out.later hl)
    replace B17 := hide (B17.out.later hl)
    replace B18 := hide (B18.out.later hl)
    replace M12 := hide (M12.out.later hl)
    replace A12 := hide (A12.out.later hl)
    replace B19 := hide (B19.out.later hl)
    replace B20 := hide (B20.out.later hl)
    clear hl HM M8 B10 B15
    clear x_0 x_1 x_2 x_3 x_4 x_5 x_6 x_7 x_8 x_9
    clear z_0 z_1 z_2 z_3 z_4 z_5 z_6 z_7 z_8 z_9
    have y_0 := B11.out.cell 0
    have y_1 := B11.out.cell 1
    have y_2 := B11.out.cell 2
    have y_3 := B11.out.cell 3
    have y_4 := B11.out.cell 4
    have y_5 := B11.out.cell 5
    have y_6 := B11.out.cell 6
    have y_7 := B11.out.cell 7
    have y_8 := B11.out.cell 8
    have y_9 := B11.out.cell 9
    have y_10 := B11.out.cell 10
    have z_0 := B16.out.cell 0
    have z_1 := B16.out.cell 1
    have z_2 := B16.out.cell 2
    have z_3 := B16.out.cell 3
    have z_4 := B16.out.cell 4
    have z_5 := B16.out.cell 5
    have z_6 := B16.out.cell 6
    have z_7 := B16.out.cell 7
    have z_8 := B16.out.cell 8
    have z_9 := B16.out.cell 9
    have z_10 := B16.out.cell 10
    go_wp2_with fail
    refine (rsame10_c _ (Jb.mk' HR.out) (Jb.mk' R8.out)).mono ?_
    rintro e wb ⟨rfl, hl⟩
    rw [show (C == C && (len == len && (took' == took' && (R' == R' && S' == S')))) = true by simp]
    replace LL := hide (LL.out.trans hl)
    replace HA := hide (HA.out.later hl)
    replace B11 := hide (B11.out.later hl)
    replace M10 := hide (M10.out.later hl)
    replace A10 := hide (A10.out.later hl)
    replace B17 := hide (B17.out.later hl)
    replace B18 := hide (B18.out.later hl)
    replace M12 := hide (M12.out.later hl)
    replace A12 := hide (A12.out.later hl)
    replace B19 := hide (B19.out.later hl)
    replace B20 := hide (B20.out.later hl)
    clear hl HR R8 B16
    clear y_0 y_1 y_2 y_3 y_4 y_5 y_6 y_7 y_8 y_9 y_10
    clear z_0 z_1 z_2 z_3 z_4 z_5 z_6 z_7 z_8 z_9 z_10
    have x_0 := B17.out.cell 0
    have x_1 := B17.out.cell 1
    have x_2 := B17.out.cell 2
    have x_3 := B17.out.cell 3
    have x_4 := B17.out.cell 4
    have x_5 := B17.out.cell 5
    have x_6 := B17.out.cell 6
    have x_7 := B17.out.cell 7
    have x_8 := B17.out.cell 8
    have x_9 := B17.out.cell 9
    have z_0 := B19.out.cell 0
    have z_1 := B19.out.cell 1
    have z_2 := B19.out.cell 2
    have z_3 := B19.out.cell 3
    have z_4 := B19.out.cell 4
    have z_5 := B19.out.cell 5
    have z_6 := B19.out.cell 6
    have z_7 := B19.out.cell 7
    have z_8 := B19.out.cell 8
    have z_9 := B19.out.cell 9
    go_wp2_with fail
    refine (runit_c _ ⟨_, _, _, _, _, rfl, M10.out⟩ ⟨_, _, _, _, _, rfl, M12.out⟩ A10.out A12.out).mono ?_
    rintro e wc ⟨rfl, hl⟩
    rw [show ((p == p && (r == r && (l == l && (F' == F' && D' == D')))) && (cc10 == cc10 && (s == s && M == M))) = true by simp]
    replace LL := hide (LL.out.trans hl)
    replace HA := hide (HA.out.later hl)
    replace B11 := hide (B11.out.later hl)
    replace B18 := hide (B18.out.later hl)
    replace B20 := hide (B20.out.later hl)
    clear hl M10 M12 B17 B19
    clear x_0 x_1 x_2 x_3 x_4 x_5 x_6 x_7 x_8 x_9
    clear z_0 z_1 z_2 z_3 z_4 z_5 z_6 z_7 z_8 z_9
    have s0 := B18.out.cell 0
    have s1 := B18.out.cell 1
    have s2 := B18.out.cell 2
    have t0 := B20.out.cell 0
    have t1 := B20.out.cell 1
    have t2 := B20.out.cell 2
    have y_0 := B11.out.cell 0
    have y_1 := B11.out.cell 1
    have y_2 := B11.out.cell 2
    have y_3 := B11.out.cell 3
    have y_4 := B11.out.cell 4
    have y_5 := B11.out.cell 5
    have y_6 := B11.out.cell 6
    have y_7 := B11.out.cell 7
    have y_8 := B11.out.cell 8
    have y_9 := B11.out.cell 9
    have y_10 := B11.out.cell 10
    go_wp2_with (refine wpList_eqS9 (by kernel_rfl) (.tmp 105) (.tmp 106) rfl S10 S10 rfl rfl true (by simp) ?_)
    go_wp2
    go_ret
    exact ⟨by first | rfl | simp, LL.out⟩
  obtain ⟨B, ax, kx, cx, hcell, hB⟩ : ∃ (B : List UInt8) (ax : Option Addr) (kx cx : Nat), (∃ b o, aP = some ⟨b, o, none⟩ ∧ w.cell? ⟨b, o + q, none⟩ = some (.slice ax kx cx)) ∧ Bs w (.slice ax kx cx) B := by
    obtain ⟨a, c', e, h1, h2, h3⟩ := HP.out
    simp at e
    obtain ⟨rfl, rfl, rfl⟩ := e
    rcases h3 with h3 | ⟨b0, o0, rfl, h3⟩
    · subst h3; simp at hlt
    · obtain ⟨ax, cx, h4, h5⟩ := h3 q hlt
      exact ⟨P[q], ax, P[q].length, cx, ⟨b0, o0, rfl, h4⟩, h5⟩
  obtain ⟨bp, op, rfl, hcell0⟩ := hcell
  have HCL := hide hcell0
  have VB := hide hB
  clear hB hcell0
  have hcell := HW.out.1.cellOf HCL.out
  by_cases h500 : 500 < kx
  · go_wp2
    go_ret
    exact ⟨rfl, HW.out.1⟩
  go_wp2_with fail
  have hc := fun q' => ((Later.refl wr).drew.trans (later_rg wr.drew q'))
  have x_0 := fun q' => (HW.out.later (hc q')).2.2.2.1.cell 0
  have x_1 := fun q' => (HW.out.later (hc q')).2.2.2.1.cell 1
  have x_2 := fun q' => (HW.out.later (hc q')).2.2.2.1.cell 2
  have x_3 := fun q' => (HW.out.later (hc q')).2.2.2.1.cell 3
  have x_4 := fun q' => (HW.out.later (hc q')).2.2.2.1.cell 4
  have x_5 := fun q' => (HW.out.later (hc q')).2.2.2.1.cell 5
  have x_6 := fun q' => (HW.out.later (hc q')).2.2.2.1.cell 6
  have x_7 := fun q' => (HW.out.later (hc q')).2.2.2.1.cell 7
  have x_8 := fun q' => (HW.out.later (hc q')).2.2.2.1.cell 8
  have x_9 := fun q' => (HW.out.later (hc q')).2.2.2.1.cell 9
  have y_0 := fun q' => (HW.out.later (hc q')).2.2.2.2.1.cell 0
  have y_1 := fun q' => (HW.out.later (hc q')).2.2.2.2.1.cell 1
  have y_2 := fun q' => (HW.out.later (hc q')).2.2.2.2.1.cell 2
  have y_3 := fun q' => (HW.out.later (hc q')).2.2.2.2.1.cell 3
  have y_4 := fun q' => (HW.out.later (hc q')).2.2.2.2.1.cell 4
  have y_5 := fun q' => (HW.out.later (hc q')).2.2.2.2.1.cell 5
  have y_6 := fun q' => (HW.out.later (hc q')).2.2.2.2.1.cell 6
  have y_7 := fun q' => (HW.out.later (hc q')).2.2.2.2.1.cell 7
  have y_8 := fun q' => (HW.out.later (hc q')).2.2.2.2.1.cell 8
  have y_9 := fun q' => (HW.out.later (hc q')).2.2.2.2.1.cell 9
  have y_10 := fun q' => (HW.out.later (hc q')).2.2.2.2.1.cell 10
  have hcl := fun q' => (hc q').cellOf hcell
  refine wp_region_bag [0, 1, 2, 3, 4, 5] [6, 7, 8, 9, 10, 11, 12, 13] [12, 13] (by kernel_rfl) (by kernel_rfl) (by kernel_rfl) (by kernel_rfl) ?_
  iterate 6 (refine wpM_mild rfl (fun K hK => ?_); go_simp; refine hK _ ?_; clear hK K)
  clear x_0 x_1 x_2 x_3 x_4 x_5 x_6 x_7 x_8 x_9
  clear y_0 y_1 y_2 y_3 y_4 y_5 y_6 y_7 y_8 y_9 y_10
  clear hc hcl hcell
  have HT := hide (take_take n F D p r cc C len 0 [] (0, 0, 0) A B)
  rw [HQ.out.2] at HT
  simp only at HT
  have HB5 : Hid (B.length ≤ 500) := by have := VB.out.len'; rw [Hid]; omega
  have HTk := hide (iT (uval b n cb' d k' cD' p r l cc am' m cm' s) (jval C len took' ar' kr' cr' S') (.slice ax kx cx) n F' D' p r l cc am' m cm' s M C len took' R' S' B)
  obtain ⟨T, hT⟩ : ∃ T, T = tkR n F' D' p r cc C len took' R' S' B := ⟨_, rfl⟩
  rw [← hT] at HT HTk
  clear hT
  obtain ⟨⟨F2, D2, S2⟩, took2, R2⟩ := T
  simp only at HTk
  obtain ⟨kr2, hkr2⟩ : ∃ kr2, kr2 = R2.length := ⟨_, rfl⟩
  have HK2 := hide hkr2
  clear hkr2
  refine wpM_nil (two_part 10 (Plain.of (by kernel_rfl)) 32 38 (by decide) (uc none 0 0 none 0 0 false false false false none 0 0 (0, 0, 0)) (jc (0, 0, 0, 0, 0) 0 0 none 0 0 (0, 0, 0)) Try.zero_unit Try.zero_job Try.info_unit Try.info_job (uc_nob _ _ _ _ _ _ _ _ _ _ _ _ _ _) (jc_nob _ _ _ _ _ _ _)
    (PdA w n F2 D2 p r l cc m M s C len took2 kr2 R2 S2) (fun x y W h => h.one) (fun x y W W' hl h => h.later hl) (fun x y W g t cs vs ht hB hn _ h => h.set ht hB hn vs)
    [.tmp 55, .tmp 56, .tmp 60] _ [uval b n cb' d k' cD' p r l cc am' m cm' s, jval C len took' ar' kr' cr' S', .slice ax kx cx] rfl
    ⟨_, rfl, rfl, rfl, rfl⟩ ⟨_, rfl, rfl, rfl, rfl⟩ ⟨_, rfl, rfl, rfl, rfl⟩ ⟨_, rfl, rfl, rfl, rfl⟩ ⟨_, rfl, rfl, rfl, rfl⟩ ⟨_, rfl, rfl, rfl, rfl⟩ ⟨_, rfl, rfl, rfl, rfl⟩ ⟨_, rfl, rfl, rfl, rfl⟩ (of_decide_eq_true (by kernel_rfl)) (by kernel_rfl) ?k4 ?k5)
  case k4 =>
    intro W h
    have hlw := (Later.refl wr).drew.trans h
    refine (HTk.out W ⟨_, _, _, _, _, rfl, HM.out.later hlw⟩ ((HT0.out.later hlw).sl (HW.out.1.trans hlw) HA0.out.2) (Jb.mk' (HR.out.later hlw)) (VB.out.later (HW.out.1.trans hlw)) HC.out HRl.out.2.2.1 HSN.out HRl.out.2.2.2 Hn.out HRl.out.2.1 Hm2.out (by have := HRl.out.1; omega) (by have := HB5.out; omega)).mono ?_
    rintro e w' ⟨u', v', rfl, hl, ⟨a7, c7, ⟨a1, a2, a3, a4, a5, rfl, hm1⟩, hA7, -⟩, ⟨b1, b2, rfl, hb1⟩⟩
    exact ⟨_, _, rfl, hl, a7, c7, ⟨⟨a1, a2, a3, a4, a5, rfl, hm1⟩, b1, b2, by rw [HK2.out], by rw [HK2.out]; exact hb1⟩, owns_rebase hA7 (HW.out.1.trans hlw).size⟩
  intro x y e1 e2 W hL hb1 hb2 hPd he1 he2
  obtain ⟨a7, c7, ⟨⟨a1, a2, a3, a4, a5, rfl, hm1⟩, b1, b2, rfl, hr1⟩, hA7⟩ := hPd
  have hlw := (Later.refl wr).drew.trans hL
  have HI : Hid (PtI w e1 e2 g10 g11 (uc a1 n a2 a3 a4 a5 p r l cc a7 m c7 s) (jc C len took2 b1 kr2 b2 S2) W) := by
    have q1 := HW.out.2.2.2.1.lt
    have q2 := HW.out.2.2.2.2.1.lt
    have q3 : wr.heap.size ≤ wr.drew.heap.size := (Later.refl wr).drew.size
    have q4 := HW.out.2.2.2.2.2
    exact ⟨HW.out.1.trans hlw, hb1, hb2, q4.1, q4.2.1, by omega, by omega, by omega, by omega⟩
  replace HW := hide (HW.out.later hlw)
  replace HM := hide hm1
  replace HR := hide hr1
  replace HA := hide (HA.out.later hlw)
  replace HT0 : Hid (At10 w W (.slice a7 m c7) M) := .inr hA7
  clear hm1 hr1 hb1 hb2 hA7 hL hlw he1 he2 HTk HRl HK2
  go_wp2_with fail
  simp only [Act.put, List.setIfInBounds_toArray, List.set_cons_succ, List.set_cons_zero]
  refine wp_region_held (PtI w e1 e2 g10 g11 (uc a1 n a2 a3 a4 a5 p r l cc a7 m c7 s) (jc C len took2 b1 kr2 b2 S2)) (fun a b hl h => h.later hl) HI.out [(0, false), (1, false), (2, true), (3, true)] (by kernel_rfl) (by kernel_rfl) (by kernel_rfl) (by kernel_rfl) ?_
  haveI : Nonempty (Held (PtI w e1 e2 g10 g11 (uc a1 n a2 a3 a4 a5 p r l cc a7 m c7 s) (jc C len took2 b1 kr2 b2 S2))) := ⟨⟨_, HI.out⟩⟩
  have x_0 := fun q' : Held (PtI w e1 e2 g10 g11 (uc a1 n a2 a3 a4 a5 p r l cc a7 m c7 s) (jc C len took2 b1 kr2 b2 S2)) => q'.h.2.1.cell 0
  have x_1 := fun q' : Held (PtI w e1 e2 g10 g11 (uc a1 n a2 a3 a4 a5 p r l cc a7 m c7 s) (jc C len took2 b1 kr2 b2 S2)) => q'.h.2.1.cell 1
  have x_2 := fun q' : Held (PtI w e1 e2 g10 g11 (uc a1 n a2 a3 a4 a5 p r l cc a7 m c7 s) (jc C len took2 b1 kr2 b2 S2)) => q'.h.2.1.cell 2
  have x_3 := fun q' : Held (PtI w e1 e2 g10 g11 (uc a1 n a2 a3 a4 a5 p r l cc a7 m c7 s) (jc C len took2 b1 kr2 b2 S2)) => q'.h.2.1.cell 3
  have x_4 := fun q' : Held (PtI w e1 e2 g10 g11 (uc a1 n a2 a3 a4 a5 p r l cc a7 m c7 s) (jc C len took2 b1 kr2 b2 S2)) => q'.h.2.1.cell 4
  have x_5 := fun q' : Held (PtI w e1 e2 g10 g11 (uc a1 n a2 a3 a4 a5 p r l cc a7 m c7 s) (jc C len took2 b1 kr2 b2 S2)) => q'.h.2.1.cell 5
  have x_6 := fun q' : Held (PtI w e1 e2 g10 g11 (uc a1 n a2 a3 a4 a5 p r l cc a7 m c7 s) (jc C len took2 b1 kr2 b2 S2)) => q'.h.2.1.cell 6
  have x_7 := fun q' : Held (PtI w e1 e2 g10 g11 (uc a1 n a2 a3 a4 a5 p r l cc a7 m c7 s) (jc C len took2 b1 kr2 b2 S2)) => q'.h.2.1.cell 7
  have x_8 := fun q' : Held (PtI w e1 e2 g10 g11 (uc a1 n a2 a3 a4 a5 p r l cc a7 m c7 s) (jc C len took2 b1 kr2 b2 S2)) => q'.h.2.1.cell 8
  have x_9 := fun q' : Held (PtI w e1 e2 g10 g11 (uc a1 n a2 a3 a4 a5 p r l cc a7 m c7 s) (jc C len took2 b1 kr2 b2 S2)) => q'.h.2.1.cell 9
  have y_0 := fun q' : Held (PtI w e1 e2 g10 g11 (uc a1 n a2 a3 a4 a5 p r l cc a7 m c7 s) (jc C len took2 b1 kr2 b2 S2)) => q'.h.2.2.1.cell 0
  have y_1 := fun q' : Held (PtI w e1 e2 g10 g11 (uc a1 n a2 a3 a4 a5 p r l cc a7 m c7 s) (jc C len took2 b1 kr2 b2 S2)) => q'.h.2.2.1.cell 1
  have y_2 := fun q' : Held (PtI w e1 e2 g10 g11 (uc a1 n a2 a3 a4 a5 p r l cc a7 m c7 s) (jc C len took2 b1 kr2 b2 S2)) => q'.h.2.2.1.cell 2
  have y_3 := fun q' : Held (PtI w e1 e2 g10 g11 (uc a1 n a2 a3 a4 a5 p r l cc a7 m c7 s) (jc C len took2 b1 kr2 b2 S2)) => q'.h.2.2.1.cell 3
  have y_4 := fun q' : Held (PtI w e1 e2 g10 g11 (uc a1 n a2 a3 a4 a5 p r l cc a7 m c7 s) (jc C len took2 b1 kr2 b2 S2)) => q'.h.2.2.1.cell 4
  have y_5 := fun q' : Held (PtI w e1 e2 g10 g11 (uc a1 n a2 a3 a4 a5 p r l cc a7 m c7 s) (jc C len took2 b1 kr2 b2 S2)) => q'.h.2.2.1.cell 5
  have y_6 := fun q' : Held (PtI w e1 e2 g10 g11 (uc a1 n a2 a3 a4 a5 p r l cc a7 m c7 s) (jc C len took2 b1 kr2 b2 S2)) => q'.h.2.2.1.cell 6
  have y_7 := fun q' : Held (PtI w e1 e2 g10 g11 (uc a1 n a2 a3 a4 a5 p r l cc a7 m c7 s) (jc C len took2 b1 kr2 b2 S2)) => q'.h.2.2.1.cell 7
  have y_8 := fun q' : Held (PtI w e1 e2 g10 g11 (uc a1 n a2 a3 a4 a5 p r l cc a7 m c7 s) (jc C len took2 b1 kr2 b2 S2)) => q'.h.2.2.1.cell 8
  have y_9 := fun q' : Held (PtI w e1 e2 g10 g11 (uc a1 n a2 a3 a4 a5 p r l cc a7 m c7 s) (jc C len took2 b1 kr2 b2 S2)) => q'.h.2.2.1.cell 9
  have y_10 := fun q' : Held (PtI w e1 e2 g10 g11 (uc a1 n a2 a3 a4 a5 p r l cc a7 m c7 s) (jc C len took2 b1 kr2 b2 S2)) => q'.h.2.2.1.cell 10
  replace HI := hide (HI.out.later (Later.refl _).drew)
  replace HW := hide (HW.out.later (Later.refl _).drew)
  replace HM := hide (HM.out.later (Later.refl _).drew)
  replace HR := hide (HR.out.later (Later.refl _).drew)
  replace HA := hide (HA.out.later (Later.refl _).drew)
  replace HT0 := hide (HT0.out.later (Later.refl _).drew)
  iterate 2 (refine wpJ_mild rfl (fun K hK => ?_); go_simp; refine hK _ ?_; clear hK K)
  clear x_0 x_1 x_2 x_3 x_4 x_5 x_6 x_7 x_8 x_9
  clear y_0 y_1 y_2 y_3 y_4 y_5 y_6 y_7 y_8 y_9 y_10
  refine wpJ_store rfl rfl 32 (.tmp 10) (.tmp 64) rfl g10 (uc a1 n a2 a3 a4 a5 p r l cc a7 m c7 s) rfl rfl Try.info_unit (uc_one _ _ _ _ _ _ _ _ _ _ _ _ _ _) _ _ HW.out.2.2.2.1 (by simp) (fun W hW => (HI.out.later hW).setU _) ?_
  intro wl hl wz hz
  have HWn := (HW.out.later hl).stU (uc a1 n a2 a3 a4 a5 p r l cc a7 m c7 s) rfl
  have HI2 := (HI.out.later hl).setU (uc a1 n a2 a3 a4 a5 p r l cc a7 m c7 s)
  have HM2 := (HM.out.later hl).setNoB (HW.out.2.2.2.1.later hl) (uc_nob _ _ _ _ _ _ _ _ _ _ _ _ _ _) (uc a1 n a2 a3 a4 a5 p r l cc a7 m c7 s) 0
  have HR2 := (HR.out.later hl).setNoB (HW.out.2.2.2.1.later hl) (uc_nob _ _ _ _ _ _ _ _ _ _ _ _ _ _) (uc a1 n a2 a3 a4 a5 p r l cc a7 m c7 s) 0
  have HA2 := (HA.out.later hl).setNoB (HW.out.2.2.2.1.later hl) (uc_nob _ _ _ _ _ _ _ _ _ _ _ _ _ _) (uc a1 n a2 a3 a4 a5 p r l cc a7 m c7 s) 0
  have HT2 := (HT0.out.later hl).set (HW.out.2.2.2.1.later hl) (by decide) (uc a1 n a2 a3 a4 a5 p r l cc a7 m c7 s) 0
  rw [← hz.out] at HWn HI2 HM2 HR2 HA2 HT2
  replace HW := hide HWn
  replace HI := hide HI2
  replace HM := hide HM2
  replace HR := hide HR2
  replace HA := hide HA2
  replace HT0 := hide HT2
  clear HWn HI2 HM2 HR2 HA2 HT2 hz hl
  refine wpJ_store rfl rfl 38 (.tmp 11) (.tmp 65) rfl g11 (jc C len took2 b1 kr2 b2 S2) rfl rfl Try.info_job (jc_one _ _ _ _ _ _ _) _ _ HW.out.2.2.2.2.1 (by simp) (fun W hW => (HI.out.later hW).setJ _) ?_
  intro wl hl wy hy
  have HWn := (HW.out.later hl).stJ (jc C len took2 b1 kr2 b2 S2) rfl
  have HM2 := (HM.out.later hl).setNoB (HW.out.2.2.2.2.1.later hl) (jc_nob _ _ _ _ _ _ _) (jc C len took2 b1 kr2 b2 S2) 0
  have HR2 := (HR.out.later hl).setNoB (HW.out.2.2.2.2.1.later hl) (jc_nob _ _ _ _ _ _ _) (jc C len took2 b1 kr2 b2 S2) 0
  have HA2 := (HA.out.later hl).setNoB (HW.out.2.2.2.2.1.later hl) (jc_nob _ _ _ _ _ _ _) (jc C len took2 b1 kr2 b2 S2) 0
  have HT2 := (HT0.out.later hl).set (HW.out.2.2.2.2.1.later hl) (by decide) (jc C len took2 b1 kr2 b2 S2) 0
  rw [← hy.out] at HWn HM2 HR2 HA2 HT2
  replace HW := hide HWn
  replace HM := hide HM2
  replace HR := hide HR2
  replace HA := hide HA2
  replace HT0 := hide HT2
  clear HWn HM2 HR2 HA2 HT2 hy hl HI
  refine wpJ_nil (fun wn hn => ?_)
  replace HW := hide (HW.out.later hn)
  replace HM := hide (HM.out.later hn)
  replace HR := hide (HR.out.later hn)
  replace HA := hide (HA.out.later hn)
  replace HT0 := hide (HT0.out.later hn)
  clear hn
  have hcell := HW.out.1.cellOf HCL.out
  go_wp2_with fail
  refine (rjoin_c _ HA.out (VB.out.later HW.out.1) (by have := HQ.out.1; omega) (by have := HB5.out; omega)).mono ?_
  rintro e wj ⟨vj, rfl, hl, hj⟩
  replace HW := hide (HW.out.later hl)
  replace HM := hide (HM.out.later hl)
  replace HR := hide (HR.out.later hl)
  replace HT0 := hide (HT0.out.later hl)
  clear hl hcell HA
  have hj2 := hj
  obtain ⟨-, aj, cj, rfl, -, -⟩ := hj2
  obtain ⟨kj, hkj⟩ : ∃ kj, kj = (A ++ B).length := ⟨_, rfl⟩
  rw [← hkj] at hj ⊢
  have HJ := hide hj
  clear hj hkj
  have HQ2 : Hid ((A ++ B).length ≤ 500 * (q + 1) ∧ tkR n F D p r cc C len 0 [] (0, 0, 0) (A ++ B) = ((F2, D2, S2), took2, R2)) := by
    have h1 := HQ.out.1
    have h2 := HB5.out
    exact ⟨by rw [List.length_append]; omega, HT.out.symm⟩
  go_wp2
  go_roundw
  case rel => exact ⟨q + 1, a1, a2, a3, a4, a5, F2, D2, took2, b1, kr2, b2, R2, S2, aj, kj, cj, A ++ B, a7, c7, by omega, by go_num, rfl, ⟨HW.out, HM.out, HR.out, HJ.out, HT0.out⟩, HQ2⟩
  case measure => simp [intOf]; omega
end Go.Proofs.Ytbcikndebaeahaa
