import Derived.Test.YtkbpecbpfajkfaaMAW
import Derived.Test.YtkbpecbpfajkfaaMAV
namespace Go.Proofs.Ytkbpecbpfajkfaa
open Go.ChangeShapes Go.WideShapes Go.ChangeAt Go.RowKit
set_option linter.unusedVariables false
set_option linter.unusedSimpArgs false

/-! The fixed fact of layer 5. -/
theorem Slt.blocks {w : World} {a b : Option Addr} {n m c d e : Nat} {F : List UInt8} {D : List Drt} {p r l p' r' l' : Bool} (h : Slt w (.agg #[.slice a n c, .slice b m d, .bool p', .bool r', .bool l']) e F D p r l) : Rw 64 w (.slice a n c) n (bv F) := by
  obtain ⟨vb, vd, e, hb, _⟩ := h.med
  simp at e
  obtain ⟨rfl, rfl⟩ := e
  have hb' := hb
  obtain ⟨a', c', e'⟩ := hb.shape
  simp at e'
  obtain ⟨_, rfl, _⟩ := e'
  exact hb'
theorem Slt.count {w : World} {a b : Option Addr} {n m c d e : Nat} {F : List UInt8} {D : List Drt} {p r l p' r' l' : Bool} (h : Slt w (.agg #[.slice a n c, .slice b m d, .bool p', .bool r', .bool l']) e F D p r l) : m = D.length := by
  obtain ⟨vb, vd, e, _, hd, _⟩ := h.med
  simp at e
  obtain ⟨rfl, rfl⟩ := e
  obtain ⟨a', c', e'⟩ := hd.shape
  simp at e'
  exact e'.2.1
set_option maxRecDepth 20000 in
set_option maxHeartbeats 8000000 in
theorem alive5_c : Alive5 := by
  intro w
  obtain ⟨X, hX⟩ : ∃ X, X = List.replicate 64 (8 : UInt8) := ⟨_, rfl⟩
  obtain ⟨X9, hX9⟩ : ∃ X, X = List.replicate 64 (9 : UInt8) := ⟨_, rfl⟩
  obtain ⟨X0, hX0⟩ : ∃ X, X = List.replicate 64 (0 : UInt8) := ⟨_, rfl⟩
  obtain ⟨F, hF⟩ : ∃ F, F = List.replicate (3 * 64) (0 : UInt8) := ⟨_, rfl⟩
  have lX : Hid (X.length = 64) := by unfold Hid; rw [hX]; simp
  have l9 : Hid (X9.length = 64) := by unfold Hid; rw [hX9]; simp
  have l0 : Hid (X0.length = 64) := by unfold Hid; rw [hX0]; simp
  have lF : Hid (F.length = 3 * 64) := by unfold Hid; rw [hF]; simp
  have hF0 : Hid (seg F 64 64 = X0) := by unfold Hid; rw [hF, hX0]; simp [seg]
  have hX8 : Hid (∃ h : 0 < X.length, X[0].toNat = 8) := ⟨by rw [lX.out]; decide, by subst hX; simp⟩
  have FA := hide (al5_facts F X lF.out lX.out)
  have c8 : Hid (∀ w : World, Calls Try.prog 37 #[.int .u8 8] w fun e w' => e = .returned (.agg (bv X).toArray) ∧ Later w w') := fun w => by rw [hX]; exact lfilled5_c 8 w
  have c9 : Hid (∀ w : World, Calls Try.prog 37 #[.int .u8 9] w fun e w' => e = .returned (.agg (bv X9).toArray) ∧ Later w w') := fun w => by rw [hX9]; exact lfilled5_c 9 w
  have c0 : Hid (∀ w : World, Calls Try.prog 37 #[.int .u8 0] w fun e w' => e = .returned (.agg (bv X0).toArray) ∧ Later w w') := fun w => by rw [hX0]; exact lfilled5_c 0 w
  have HF := hide hF
  clear hX hX9 hX0 hF
  go_enter Try.func8, Try.ntmps8
  go_wp2_with (at_make; refine wpList_make_of Try.elem_z64 rfl _ _ 22 rfl Try.underlying22 _ _ 3 rfl rfl rfl rfl (by decide) (by decide) (bv F) (by rw [made64, HF.out]) ?_)
  rintro w1 ho hl
  have SS : Hid (Slt w1 (.agg #[.slice (some ⟨w.heap.size, 0, none⟩) 3 3, .slice none 0 0, .bool false, .bool false, .bool false]) 3 F [] false false false) := ⟨_, _, _, _, _, rfl, _, _, rfl, Rw.of_owns ho, Rw.nil 65 w1, fun d hd => by cases hd⟩
  have L := hide hl
  clear ho hl
  go_wp2_with (refine wpList_newT rfl rfl rfl 1 rfl (by simp) (.tmp 23) (by simp) rfl _ none _ _ _ _ false false false rfl ?_)
  intro g1 w2 hB hl hg
  have hg1 : w.heap.size ≤ g1 := by have := L.out.size; have := hg.out.1; omega
  replace L := hide (L.out.later hl)
  replace SS := hide (SS.out.later hl)
  have B1 := hide hB
  clear hl hB hg
  have d0 := B1.out.cell 0
  have d1 := B1.out.cell 1
  have d2 := B1.out.cell 2
  have d3 := B1.out.cell 3
  have d4 := B1.out.cell 4
  go_wp2_with fail
  refine (sready_c _ 3 F [] false false false w2 SS.out).mono ?_
  clear d0 d1 d2 d3 d4
  rintro e w3 ⟨rfl, hl⟩
  replace L := hide (L.out.later hl)
  replace SS := hide (SS.out.later hl)
  replace B1 := hide (B1.out.later hl)
  clear hl
  go_wp2_with (refine wpList_newS rfl rfl rfl 2 rfl (by simp) (.tmp 25) (by simp) rfl (2, 58, 0) rfl ?_)
  intro g2 w4 hB hl hg
  replace L := hide (L.out.later hl)
  replace SS := hide (SS.out.later hl)
  replace B1 := hide (B1.out.later hl)
  have B2 := hide hB
  clear hl hB hg
  have d0 := B1.out.cell 0
  have d1 := B1.out.cell 1
  have d2 := B1.out.cell 2
  have d3 := B1.out.cell 3
  have d4 := B1.out.cell 4
  go_wp2_with fail
  refine (sinsert_c _ 3 F [] false false false w4 SS.out (by omega) (by simp)).mono ?_
  rintro e w5 ⟨v5, rfl, hl, h5⟩
  clear d0 d1 d2 d3 d4 SS
  replace L := hide (L.out.later hl)
  replace B1 := hide (B1.out.later hl)
  replace B2 := hide (B2.out.later hl)
  have SS := hide h5
  obtain ⟨pS, cS, qS, kS, dS, rfl, _, _, _⟩ := h5.shape
  clear hl h5
  go_wp2_with (refine wpList_storeT rfl 27 (.tmp 1) (.tmp 29) rfl g1 0 rfl (tc (.slice pS 3 cS) (.slice qS kS dS) true false false) rfl Try.info_slot (tc_one _ _ _ _ _ _ _ _ _) _ _ B1.out (by simp) ?_)
  intro w6 hw6
  have B15 := hide (B1.out.all (tc (.slice pS 3 cS) (.slice qS kS dS) true false false) rfl)
  have B25 := hide (B2.out.kept (heap_setCells_other w5 g1 g2 (box_ne B2.out B1.out (by decide)) (tc (.slice pS 3 cS) (.slice qS kS dS) true false false) 0))
  have L5 := hide (L.out.setCells (g := g1) hg1 (tc (.slice pS 3 cS) (.slice qS kS dS) true false false) 0)
  have S5 := hide (SS.out.setBox B1.out (tc_noints _ _ _ _ _ _ _ _ _) (tc (.slice pS 3 cS) (.slice qS kS dS) true false false) 0)
  rw [← hw6.out] at B15 B25 L5 S5
  clear B1 B2 L SS hw6
  have B1 := B15
  have B2 := B25
  have L := L5
  have SS := S5
  clear B15 B25 L5 S5
  go_wp2_with fail
  have hwd := (Later.refl w6).drew
  refine wp_region_bag [0, 1] [2, 3, 4, 5, 6, 7, 8] [7, 8] (by kernel_rfl) (by kernel_rfl) (by kernel_rfl) (by kernel_rfl) ?_
  have hc := fun r => (hwd.trans (later_rg _ r))
  have q0 := fun r => (B1.out.later (hc r)).cell 0
  have q1 := fun r => (B1.out.later (hc r)).cell 1
  have q2 := fun r => (B1.out.later (hc r)).cell 2
  have q3 := fun r => (B1.out.later (hc r)).cell 3
  have q4 := fun r => (B1.out.later (hc r)).cell 4
  refine wpM_mild rfl (fun K hK => ?_)
  go_simp
  refine hK _ ?_
  clear hK K q0 q1 q2 q3 q4 hc
  refine wpM_call rfl (by kernel_rfl) 37 (Plain.of (by kernel_rfl)) [.const (.int .u8 8)] _ rfl [.int .u8 8] rfl (.agg (bv X).toArray) (fun wx hx => c8.out wx) ?_
  refine wpM_nil (putold (fun W => Box W g2 35 (sc (2, 58, 0)) ∧ Slt W (slv pS 3 cS qS kS dS true false false) 3 F [] true false false) w g1 3 F [((1 : Int), X)] true false false (0, 0, 0) [.tmp 32, .const (.int .i64 1), .tmp 33, .const (.bool false)] _ [slv pS 3 cS qS kS dS true false false, .int .i64 1, .agg (bv X).toArray, .bool false] rfl
    ⟨_, rfl, rfl, rfl, rfl⟩ ⟨_, rfl, rfl, rfl, rfl⟩ ⟨_, rfl, rfl, rfl, rfl⟩ ⟨_, rfl, rfl, rfl, rfl⟩ ⟨_, rfl, rfl, rfl, rfl⟩ ⟨_, rfl, rfl, rfl, rfl⟩ ⟨_, rfl, rfl, rfl, rfl⟩ (of_decide_eq_true (by kernel_rfl)) rfl (by kernel_rfl) ⟨B2.out.later hwd, SS.out.later hwd⟩ ?k1 ?k2 ?k3 _ (tc_noints _ _ _ _ _ _ _ _ _) rfl (B1.out.later hwd) (L.out.trans hwd) hg1 ?k4 ?k5)
  case k1 => exact fun W W' hl h => ⟨h.1.later hl, h.2.later hl⟩
  case k2 => exact fun W cr cs h hB hn => ⟨h.1.kept (heap_setCells_other W _ _ (box_ne h.1 hB (by decide)) _ _), h.2.setBox hB hn _ 0⟩
  case k3 =>
    intro W g s cs h hB hg
    have h2 := B2.out.lt
    have h3 : w6.heap.size ≤ g := hg
    exact ⟨h.1.kept (heap_setCells_other W _ _ (by omega) _ _), h.2.setSense hB _ 0⟩
  case k4 =>
    intro W h
    have hq := sput_c _ 3 F [] true false false 1 X false W h.2 lX.out (by omega) (by omega) (by omega) (by simp)
    rw [FA.out.1.1, FA.out.1.2.1, FA.out.1.2.2] at hq
    exact hq
  clear B1 B2 L SS hwd
  intro pT cT qT kT dT g4 w7 hL hK hb7 hb8 hm7
  have L := hide hL
  have B2 := hide hK.1
  have B1 := hide hb7
  have B4 := hide hb8
  have SS := hide hm7
  obtain rfl : kT = 1 := Slt.count hm7
  clear hL hK hb7 hb8 hm7
  have d0 := B1.out.cell 0
  have d1 := B1.out.cell 1
  have d2 := B1.out.cell 2
  have d3 := B1.out.cell 3
  have d4 := B1.out.cell 4
  go_wp2_with fail
  have hq := sswitch_c _ 3 F [((1 : Int), X)] true false false true w7 SS.out (by omega) (by simp)
  rw [FA.out.2.1.1, FA.out.2.1.2] at hq
  refine hq.mono ?_
  clear hq d0 d1 d2 d3 d4
  rintro e w8 ⟨vP, rfl, hl, hP⟩
  replace L := hide (L.out.later hl)
  replace B1 := hide (B1.out.later hl)
  replace B2 := hide (B2.out.later hl)
  replace B4 := hide (B4.out.later hl)
  replace SS := hide (SS.out.later hl)
  have SP := hide hP
  obtain ⟨pP, cP, qP, kP, dP, rfl, _, _, _⟩ := hP.shape
  clear hl hP
  go_wp2_with (refine wpList_newT rfl rfl rfl 5 rfl (by simp) (.tmp 38) (by simp) rfl pP qP _ cP kP dP _ _ _ rfl ?_)
  intro gP w9 hB hl hg
  replace L := hide (L.out.later hl)
  replace B1 := hide (B1.out.later hl)
  replace B2 := hide (B2.out.later hl)
  replace B4 := hide (B4.out.later hl)
  replace SS := hide (SS.out.later hl)
  replace SP := hide (SP.out.later hl)
  have BP := hide hB
  clear hl hB hg
  go_wp2_with fail
  have hwd := (Later.refl w9).drew
  refine wp_region_bag [0, 1] [2, 3, 4, 5, 6, 7, 8, 9] [8, 9] (by kernel_rfl) (by kernel_rfl) (by kernel_rfl) (by kernel_rfl) ?_
  have hc := fun r => (hwd.trans (later_rg _ r))
  have q0 := fun r => (BP.out.later (hc r)).cell 0
  have q1 := fun r => (BP.out.later (hc r)).cell 1
  have q2 := fun r => (BP.out.later (hc r)).cell 2
  have q3 := fun r => (BP.out.later (hc r)).cell 3
  have q4 := fun r => (BP.out.later (hc r)).cell 4
  refine wpM_mild rfl (fun K hK => ?_)
  go_simp
  refine hK _ ?_
  clear hK K q0 q1 q2 q3 q4 hc
  refine wpM_call rfl (by kernel_rfl) 37 (Plain.of (by kernel_rfl)) [.const (.int .u8 9)] _ rfl [.int .u8 9] rfl (.agg (bv X9).toArray) (fun wx hx => c9.out wx) ?_
  refine wpM_nil (putnew_two 3 (app F [((1 : Int), X)]) [] true true false (7, 39, 0) [.tmp 40, .const (.int .i64 1), .tmp 41, .const (.bool false)] _ [slv pP 3 cP qP kP dP true true false, .int .i64 1, .agg (bv X9).toArray, .bool false] rfl
    ⟨_, rfl, rfl, rfl, rfl⟩ ⟨_, rfl, rfl, rfl, rfl⟩ ⟨_, rfl, rfl, rfl, rfl⟩ ⟨_, rfl, rfl, rfl, rfl⟩ ⟨_, rfl, rfl, rfl, rfl⟩ ⟨_, rfl, rfl, rfl, rfl⟩ ⟨_, rfl, rfl, rfl, rfl⟩ ⟨_, rfl, rfl, rfl, rfl⟩ (of_decide_eq_true (by kernel_rfl)) (by kernel_rfl) ?j4 ?j5)
  case j4 =>
    intro W h
    have hq := sput_c _ 3 _ [] true true false 1 X9 false W (SP.out.later (hwd.trans h)) l9.out (by omega) (by omega) (by omega) (by simp)
    rw [FA.out.2.2.1] at hq
    exact hq
  intro u1 u2 u3 u4 u5 g6 g7 wa hL hb8 hb9 hm9 _
  have ii1 := hwd.trans hL
  replace L := hide (L.out.later ii1)
  replace B1 := hide (B1.out.later ii1)
  replace B2 := hide (B2.out.later ii1)
  replace B4 := hide (B4.out.later ii1)
  replace SS := hide (SS.out.later ii1)
  replace SP := hide (SP.out.later ii1)
  replace BP := hide (BP.out.later ii1)
  have B7 := hide hb9
  clear ii1 hL hb8 hb9 hm9 hwd
  have d0 := B1.out.cell 0
  have d1 := B1.out.cell 1
  have d2 := B1.out.cell 2
  have d3 := B1.out.cell 3
  have d4 := B1.out.cell 4
  go_wp2_with fail
  refine (skeep_c _ 3 F [((1 : Int), X)] true false false true wa SS.out (by omega) (by simp)).mono ?_
  clear d0 d1 d2 d3 d4
  rintro e wb ⟨vK, rfl, hl, hK⟩
  replace L := hide (L.out.later hl)
  replace B1 := hide (B1.out.later hl)
  replace B2 := hide (B2.out.later hl)
  replace B4 := hide (B4.out.later hl)
  replace SS := hide (SS.out.later hl)
  replace SP := hide (SP.out.later hl)
  replace BP := hide (BP.out.later hl)
  replace B7 := hide (B7.out.later hl)
  have SK := hide hK
  obtain ⟨pK, cK, qK, kK, dK, rfl, _, _, _⟩ := hK.shape
  clear hl hK
  go_wp2_with (refine wpList_newTS rfl rfl rfl rfl rfl rfl 8 9 rfl rfl (by simp) (by simp) (by decide) (.tmp 48) (.tmp 49) (by simp) (by simp) (by simp) (by simp) rfl rfl rfl rfl pK qK _ cK kK dK _ _ _ (0, 0, 0) rfl rfl ?_)
  intro gK fK wc hB hB2 hl hg
  replace L := hide (L.out.later hl)
  replace B1 := hide (B1.out.later hl)
  replace B2 := hide (B2.out.later hl)
  replace B4 := hide (B4.out.later hl)
  replace SS := hide (SS.out.later hl)
  replace SP := hide (SP.out.later hl)
  replace BP := hide (BP.out.later hl)
  replace B7 := hide (B7.out.later hl)
  replace SK := hide (SK.out.later hl)
  have BK := hide hB
  have EK := hide hB2
  clear hl hB hB2 hg
  have d0 := BK.out.cell 0
  have d1 := BK.out.cell 1
  have d2 := BK.out.cell 2
  have d3 := BK.out.cell 3
  have d4 := BK.out.cell 4
  go_wp2_with fail
  refine (sunload_c _ 3 F [((1 : Int), X)] true false true wc SK.out (by omega) (by simp)).mono ?_
  clear d0 d1 d2 d3 d4
  rintro e wd ⟨vV, rfl, hl, hV⟩
  replace L := hide (L.out.later hl)
  replace B1 := hide (B1.out.later hl)
  replace B2 := hide (B2.out.later hl)
  replace B4 := hide (B4.out.later hl)
  replace SS := hide (SS.out.later hl)
  replace SP := hide (SP.out.later hl)
  replace BP := hide (BP.out.later hl)
  replace B7 := hide (B7.out.later hl)
  replace SK := hide (SK.out.later hl)
  replace BK := hide (BK.out.later hl)
  replace EK := hide (EK.out.later hl)
  have SV := hide hV
  obtain ⟨pV, cV, qV, kV, dV, rfl, _, _, _⟩ := hV.shape
  clear hl hV
  go_wp2_with (refine wpList_newTS rfl rfl rfl rfl rfl rfl 10 11 rfl rfl (by simp) (by simp) (by decide) (.tmp 53) (.tmp 54) (by simp) (by simp) (by simp) (by simp) rfl rfl rfl rfl pV qV _ cV kV dV _ _ _ (5, 83, 2) rfl rfl ?_)
  intro gV fV we hB hB2 hl hg
  replace L := hide (L.out.later hl)
  replace B1 := hide (B1.out.later hl)
  replace B2 := hide (B2.out.later hl)
  replace B4 := hide (B4.out.later hl)
  replace SS := hide (SS.out.later hl)
  replace SP := hide (SP.out.later hl)
  replace BP := hide (BP.out.later hl)
  replace B7 := hide (B7.out.later hl)
  replace SK := hide (SK.out.later hl)
  replace BK := hide (BK.out.later hl)
  replace EK := hide (EK.out.later hl)
  replace SV := hide (SV.out.later hl)
  have BV := hide hB
  have EV := hide hB2
  clear hl hB hB2 hg
  clear SV BV
  have d0 := BK.out.cell 0
  have d1 := BK.out.cell 1
  have d2 := BK.out.cell 2
  have d3 := BK.out.cell 3
  have d4 := BK.out.cell 4
  go_wp2_with fail
  refine (sbutton_c _ 3 F [((1 : Int), X)] true false true we SK.out (by omega) (by simp)).mono ?_
  clear d0 d1 d2 d3 d4
  rintro e wf ⟨vY, rfl, hl, hY⟩
  replace L := hide (L.out.later hl)
  replace B1 := hide (B1.out.later hl)
  replace B2 := hide (B2.out.later hl)
  replace B4 := hide (B4.out.later hl)
  replace SS := hide (SS.out.later hl)
  replace SP := hide (SP.out.later hl)
  replace BP := hide (BP.out.later hl)
  replace B7 := hide (B7.out.later hl)
  replace SK := hide (SK.out.later hl)
  replace BK := hide (BK.out.later hl)
  replace EK := hide (EK.out.later hl)
  replace EV := hide (EV.out.later hl)
  have SY := hide hY
  obtain ⟨pY, cY, qY, kY, dY, rfl, _, _, _⟩ := hY.shape
  clear hl hY
  go_wp2_with (refine wpList_newT rfl rfl rfl 12 rfl (by simp) (.tmp 58) (by simp) rfl pY qY _ cY kY dY _ _ _ rfl ?_)
  intro gY wg hB hl hg
  replace L := hide (L.out.later hl)
  replace B1 := hide (B1.out.later hl)
  replace B2 := hide (B2.out.later hl)
  replace B4 := hide (B4.out.later hl)
  replace SS := hide (SS.out.later hl)
  replace SP := hide (SP.out.later hl)
  replace BP := hide (BP.out.later hl)
  replace B7 := hide (B7.out.later hl)
  replace SK := hide (SK.out.later hl)
  replace BK := hide (BK.out.later hl)
  replace EK := hide (EK.out.later hl)
  replace EV := hide (EV.out.later hl)
  replace SY := hide (SY.out.later hl)
  have BY := hide hB
  clear hl hB hg
  clear SY BY
  have d0 := B1.out.cell 0
  have d1 := B1.out.cell 1
  have d2 := B1.out.cell 2
  have d3 := B1.out.cell 3
  have d4 := B1.out.cell 4
  go_wp2_with fail
  refine (sunload_c _ 3 F [((1 : Int), X)] true false false wg SS.out (by omega) (by simp)).mono ?_
  clear d0 d1 d2 d3 d4
  rintro e wh ⟨vU, rfl, hl, hU⟩
  replace L := hide (L.out.later hl)
  replace B1 := hide (B1.out.later hl)
  replace B2 := hide (B2.out.later hl)
  replace B4 := hide (B4.out.later hl)
  replace SS := hide (SS.out.later hl)
  replace SP := hide (SP.out.later hl)
  replace BP := hide (BP.out.later hl)
  replace B7 := hide (B7.out.later hl)
  replace SK := hide (SK.out.later hl)
  replace BK := hide (BK.out.later hl)
  replace EK := hide (EK.out.later hl)
  replace EV := hide (EV.out.later hl)
  have SU := hide hU
  obtain ⟨pU, cU, qU, kU, dU, rfl, _, _, _⟩ := hU.shape
  clear hl hU
  go_wp2_with (refine wpList_newTS rfl rfl rfl rfl rfl rfl 14 15 rfl rfl (by simp) (by simp) (by decide) (.tmp 63) (.tmp 64) (by simp) (by simp) (by simp) (by simp) rfl rfl rfl rfl pU qU _ cU kU dU _ _ _ (0, 0, 0) rfl rfl ?_)
  intro gU fU wi hB hB2 hl hg
  replace L := hide (L.out.later hl)
  replace B1 := hide (B1.out.later hl)
  replace B2 := hide (B2.out.later hl)
  replace B4 := hide (B4.out.later hl)
  replace SS := hide (SS.out.later hl)
  replace SP := hide (SP.out.later hl)
  replace BP := hide (BP.out.later hl)
  replace B7 := hide (B7.out.later hl)
  replace SK := hide (SK.out.later hl)
  replace BK := hide (BK.out.later hl)
  replace EK := hide (EK.out.later hl)
  replace EV := hide (EV.out.later hl)
  replace SU := hide (SU.out.later hl)
  have BU := hide hB
  have EU := hide hB2
  clear hl hB hB2 hg
  clear SU
  have d0 := BP.out.cell 0
  have d1 := BP.out.cell 1
  have d2 := BP.out.cell 2
  have d3 := BP.out.cell 3
  have d4 := BP.out.cell 4
  go_wp2_with fail
  have hq := sread_c _ 3 _ [] true true false 1 1 wi SP.out (by omega) (by omega) (by omega) (by omega) (by simp)
  rw [FA.out.2.2.2.1.1, FA.out.2.2.2.1.2] at hq
  refine hq.mono ?_
  rintro e wj ⟨vC, rfl, hl, hC⟩
  clear hq d0 d1 d2 d3 d4
  replace L := hide (L.out.later hl)
  replace B1 := hide (B1.out.later hl)
  replace B2 := hide (B2.out.later hl)
  replace B4 := hide (B4.out.later hl)
  replace SS := hide (SS.out.later hl)
  replace SP := hide (SP.out.later hl)
  replace BP := hide (BP.out.later hl)
  replace B7 := hide (B7.out.later hl)
  replace SK := hide (SK.out.later hl)
  replace BK := hide (BK.out.later hl)
  replace EK := hide (EK.out.later hl)
  replace EV := hide (EV.out.later hl)
  replace BU := hide (BU.out.later hl)
  replace EU := hide (EU.out.later hl)
  have C := hide hC
  obtain ⟨aC, cC, rfl⟩ := hC.rw.shape
  clear hl hC
  rw [lX.out]
  go_wp2_with (refine wpList_newAS rfl rfl rfl rfl 17 16 rfl rfl (by simp) (by decide) (.tmp 68) (.tmp 69) (by simp) (by simp) (by simp) rfl rfl rfl _ (0, 0, 0) rfl rfl ?_)
  intro gC wk hB hl hg
  replace L := hide (L.out.later hl)
  replace B1 := hide (B1.out.later hl)
  replace B2 := hide (B2.out.later hl)
  replace B4 := hide (B4.out.later hl)
  replace SS := hide (SS.out.later hl)
  replace SP := hide (SP.out.later hl)
  replace BP := hide (BP.out.later hl)
  replace B7 := hide (B7.out.later hl)
  replace SK := hide (SK.out.later hl)
  replace BK := hide (BK.out.later hl)
  replace EK := hide (EK.out.later hl)
  replace EV := hide (EV.out.later hl)
  replace BU := hide (BU.out.later hl)
  replace EU := hide (EU.out.later hl)
  replace C := hide (C.out.later hl)
  have EC := hide hB
  clear hl hB hg
  have d0 := B1.out.cell 0
  have d1 := B1.out.cell 1
  have d2 := B1.out.cell 2
  have d3 := B1.out.cell 3
  have d4 := B1.out.cell 4
  go_wp2_with fail
  have hq := sread_c _ 3 F [((1 : Int), X)] true false false 3 1 wk SS.out (by omega) (by omega) (by omega) (by omega) (by simp)
  rw [FA.out.2.2.2.2.1] at hq
  refine hq.mono ?_
  rintro e wl ⟨vG, rfl, hl, _⟩
  clear hq d0 d1 d2 d3 d4
  replace L := hide (L.out.later hl)
  replace B1 := hide (B1.out.later hl)
  replace B2 := hide (B2.out.later hl)
  replace B4 := hide (B4.out.later hl)
  replace SS := hide (SS.out.later hl)
  replace SP := hide (SP.out.later hl)
  replace BP := hide (BP.out.later hl)
  replace B7 := hide (B7.out.later hl)
  replace SK := hide (SK.out.later hl)
  replace BK := hide (BK.out.later hl)
  replace EK := hide (EK.out.later hl)
  replace EV := hide (EV.out.later hl)
  replace BU := hide (BU.out.later hl)
  replace EU := hide (EU.out.later hl)
  replace C := hide (C.out.later hl)
  replace EC := hide (EC.out.later hl)
  clear hl
  go_wp2_with (refine wpList_newAS rfl rfl rfl rfl 19 18 rfl rfl (by simp) (by decide) (.tmp 73) (.tmp 74) (by simp) (by simp) (by simp) rfl rfl rfl _ (5, 33, 0) rfl rfl ?_)
  intro gG wm hB hl hg
  replace L := hide (L.out.later hl)
  replace B1 := hide (B1.out.later hl)
  replace B2 := hide (B2.out.later hl)
  replace B4 := hide (B4.out.later hl)
  replace SS := hide (SS.out.later hl)
  replace SP := hide (SP.out.later hl)
  replace BP := hide (BP.out.later hl)
  replace B7 := hide (B7.out.later hl)
  replace SK := hide (SK.out.later hl)
  replace BK := hide (BK.out.later hl)
  replace EK := hide (EK.out.later hl)
  replace EV := hide (EV.out.later hl)
  replace BU := hide (BU.out.later hl)
  replace EU := hide (EU.out.later hl)
  replace C := hide (C.out.later hl)
  replace EC := hide (EC.out.later hl)
  have EG := hide hB
  clear hl hB hg
  have d0 := BK.out.cell 0
  have d1 := BK.out.cell 1
  have d2 := BK.out.cell 2
  have d3 := BK.out.cell 3
  have d4 := BK.out.cell 4
  go_wp2_with fail
  have hq := spower_c _ 3 F [((1 : Int), X)] true false true 0 wm SK.out (by omega) (by omega) (by simp)
  rw [FA.out.2.2.2.2.2.1.1, FA.out.2.2.2.2.2.1.2] at hq
  refine hq.mono ?_
  clear hq d0 d1 d2 d3 d4
  rintro e wn ⟨vW, rfl, hl, hW⟩
  replace L := hide (L.out.later hl)
  replace B1 := hide (B1.out.later hl)
  replace B2 := hide (B2.out.later hl)
  replace B4 := hide (B4.out.later hl)
  replace SS := hide (SS.out.later hl)
  replace SP := hide (SP.out.later hl)
  replace BP := hide (BP.out.later hl)
  replace B7 := hide (B7.out.later hl)
  replace EK := hide (EK.out.later hl)
  replace EV := hide (EV.out.later hl)
  replace BU := hide (BU.out.later hl)
  replace EU := hide (EU.out.later hl)
  replace C := hide (C.out.later hl)
  replace EC := hide (EC.out.later hl)
  replace EG := hide (EG.out.later hl)
  have SW := hide hW
  obtain ⟨pW, cW, qW, kW, dW, rfl, _, _, _⟩ := hW.shape
  clear hl hW
  go_wp2_with (refine wpList_newT rfl rfl rfl 20 rfl (by simp) (.tmp 76) (by simp) rfl pW qW _ cW kW dW _ _ _ rfl ?_)
  intro gW wo hB hl hg
  replace L := hide (L.out.later hl)
  replace B1 := hide (B1.out.later hl)
  replace B2 := hide (B2.out.later hl)
  replace B4 := hide (B4.out.later hl)
  replace SS := hide (SS.out.later hl)
  replace SP := hide (SP.out.later hl)
  replace BP := hide (BP.out.later hl)
  replace B7 := hide (B7.out.later hl)
  replace EK := hide (EK.out.later hl)
  replace EV := hide (EV.out.later hl)
  replace BU := hide (BU.out.later hl)
  replace EU := hide (EU.out.later hl)
  replace C := hide (C.out.later hl)
  replace EC := hide (EC.out.later hl)
  replace EG := hide (EG.out.later hl)
  replace SW := hide (SW.out.later hl)
  have BW := hide hB
  clear hl hB hg
  have p0 := BP.out.cell 0
  have w0 := BW.out.cell 0
  go_wp2_with fail
  clear p0 w0 SK BK
  have hwd := (Later.refl wo).drew
  obtain ⟨bW, oW, rfl, rW⟩ := (Slt.blocks SW.out).lies? (by omega)
  have RW : Hid (wo.rangeAt bW (oW + 64) (bv X0)) := by
    have := range_part rW 64 64
    rw [bv_part, hF0.out] at this
    exact this
  clear rW
  obtain ⟨bC, oC, eC, rC⟩ := (show Rw 1 wo (.slice aC 64 cC) 64 (bv X) from by have := C.out.rw; rwa [lX.out] at this).lies? (by omega)
  subst eC
  have RC : Hid (wo.rangeAt bC oC (bv X)) := rC
  clear rC
  obtain rfl : kP = 0 := (Slt.count SP.out).symm ▸ rfl
  have hc := fun r => (hwd.trans (later_rg wo.drew r))
  have u2 := fun r => (BU.out.later (hc r)).cell 2
  have p1 := fun r => (BP.out.later (hc r)).cell 1
  have s1 := fun r => (B1.out.later (hc r)).cell 1
  have y0 := fun r => (BW.out.later (hc r)).cell 0
  have y4 := fun r => (BW.out.later (hc r)).cell 4
  have hcc : ∀ r, (rg wo.drew r).cell? ⟨bC, oC, none⟩ = some (.int .u8 8) := fun r => by
    obtain ⟨h, e⟩ := hX8.out
    have := ((hc r).range RC.out) 0 (.int .u8 (X[0].toNat : Int)) (by simp [bv, h])
    rw [e] at this
    simpa using this
  refine wp_region_text [false, false, false, false, false, false, false, false, false, false, false, false, false, false, false, false, false, false, false, false, false, false, false, false, false, false, false, false, false, false, false, false, false, false, false, false, false, false, false, false, false, false, false, false, false, false, false, false, false, false, false, false, false, false, false, false, false, false, false, false, false, false, false, false, false, false, false, false, false, false, false, false, false, false, false, false, false, false, false, false, false, false, false, false, false, false, true, false, false, false, false, false, false] (by kernel_rfl) (by kernel_rfl) (by kernel_rfl) (by kernel_rfl) ?_
  rw [show (List.range' 0 (List.length [false, false, false, false, false, false, false, false, false, false, false, false, false, false, false, false, false, false, false, false, false, false, false, false, false, false, false, false, false, false, false, false, false, false, false, false, false, false, false, false, false, false, false, false, false, false, false, false, false, false, false, false, false, false, false, false, false, false, false, false, false, false, false, false, false, false, false, false, false, false, false, false, false, false, false, false, false, false, false, false, false, false, false, false, false, false, true, false, false, false, false, false, false])).zip [false, false, false, false, false, false, false, false, false, false, false, false, false, false, false, false, false, false, false, false, false, false, false, false, false, false, false, false, false, false, false, false, false, false, false, false, false, false, false, false, false, false, false, false, false, false, false, false, false, false, false, false, false, false, false, false, false, false, false, false, false, false, false, false, false, false, false, false, false, false, false, false, false, false, false, false, false, false, false, false, false, false, false, false, false, false, true, false, false, false, false, false, false] = [(0, false), (1, false), (2, false), (3, false), (4, false), (5, false), (6, false), (7, false), (8, false), (9, false), (10, false), (11, false), (12, false), (13, false), (14, false), (15, false), (16, false), (17, false), (18, false), (19, false), (20, false), (21, false), (22, false), (23, false), (24, false), (25, false), (26, false), (27, false), (28, false), (29, false), (30, false), (31, false), (32, false), (33, false), (34, false), (35, false), (36, false), (37, false), (38, false), (39, false), (40, false), (41, false), (42, false), (43, false), (44, false), (45, false), (46, false), (47, false), (48, false), (49, false), (50, false), (51, false), (52, false), (53, false), (54, false), (55, false), (56, false), (57, false), (58, false), (59, false), (60, false), (61, false), (62, false), (63, false), (64, false), (65, false), (66, false), (67, false), (68, false), (69, false), (70, false), (71, false), (72, false), (73, false), (74, false), (75, false), (76, false), (77, false), (78, false), (79, false), (80, false), (81, false), (82, false), (83, false), (84, false), (85, false), (86, true), (87, false), (88, false), (89, false), (90, false), (91, false), (92, false)] from rfl]
  refine wpS_loadG rfl (by kernel_rfl) 35 (.tmp 2) rfl g2 0 rfl (sc (2, 58, 0)) _ ((World.rangeAt_drew _ _ _ _).2 B2.out.range) Try.underlying35 rfl Try.info_sense ?_
  refine wpS_call rfl (by kernel_rfl) 38 (Plain.of (by kernel_rfl)) [.const (.int .i64 2), .const (.int .i64 58), .const (.int .i64 0)] _ rfl [.int .i64 2, .int .i64 58, .int .i64 0] rfl (sval (2, 58, 0)) (fun wx hx => rof_c 2 58 0 wx) ?_
  refine wpS_eqG rfl (by kernel_rfl) 35 _ (.tmp 94) (.tmp 95) rfl _ _ rfl rfl Try.guard_sense true (fun w => sense_eq (2, 58, 0) (2, 58, 0) w) ?_
  iterate 4 (refine wpS_mild rfl (fun K hK => ?_); go_simp; refine hK _ ?_; clear hK K)
  refine wpS_loadG rfl (by kernel_rfl) 35 (.tmp 4) rfl g4 0 rfl (sc (0, 0, 0)) _ ((World.rangeAt_drew _ _ _ _).2 B4.out.range) Try.underlying35 rfl Try.info_sense ?_
  iterate 1 (refine wpS_mild rfl (fun K hK => ?_); go_simp; refine hK _ ?_; clear hK K)
  refine wpS_eqG rfl (by kernel_rfl) 35 _ (.tmp 101) (.tmp 102) rfl _ _ rfl rfl Try.guard_sense true (fun w => sense_eq (0, 0, 0) (0, 0, 0) w) ?_
  iterate 2 (refine wpS_mild rfl (fun K hK => ?_); go_simp; refine hK _ ?_; clear hK K)
  refine wpS_loadG rfl (by kernel_rfl) 35 (.tmp 7) rfl g7 0 rfl (sc (7, 39, 0)) _ ((World.rangeAt_drew _ _ _ _).2 B7.out.range) Try.underlying35 rfl Try.info_sense ?_
  refine wpS_call rfl (by kernel_rfl) 38 (Plain.of (by kernel_rfl)) [.const (.int .i64 7), .const (.int .i64 39), .const (.int .i64 0)] _ rfl [.int .i64 7, .int .i64 39, .int .i64 0] rfl (sval (7, 39, 0)) (fun wx hx => rof_c 7 39 0 wx) ?_
  refine wpS_eqG rfl (by kernel_rfl) 35 _ (.tmp 106) (.tmp 107) rfl _ _ rfl rfl Try.guard_sense true (fun w => sense_eq (7, 39, 0) (7, 39, 0) w) ?_
  iterate 2 (refine wpS_mild rfl (fun K hK => ?_); go_simp; refine hK _ ?_; clear hK K)
  refine wpS_loadG rfl (by kernel_rfl) 35 (.tmp 9) rfl fK 0 rfl (sc (0, 0, 0)) _ ((World.rangeAt_drew _ _ _ _).2 EK.out.range) Try.underlying35 rfl Try.info_sense ?_
  refine wpS_loadG rfl (by kernel_rfl) 35 (.tmp 4) rfl g4 0 rfl (sc (0, 0, 0)) _ ((World.rangeAt_drew _ _ _ _).2 B4.out.range) Try.underlying35 rfl Try.info_sense ?_
  refine wpS_eqG rfl (by kernel_rfl) 35 _ (.tmp 111) (.tmp 112) rfl _ _ rfl rfl Try.guard_sense true (fun w => sense_eq (0, 0, 0) (0, 0, 0) w) ?_
  iterate 2 (refine wpS_mild rfl (fun K hK => ?_); go_simp; refine hK _ ?_; clear hK K)
  refine wpS_loadG rfl (by kernel_rfl) 35 (.tmp 11) rfl fV 0 rfl (sc (5, 83, 2)) _ ((World.rangeAt_drew _ _ _ _).2 EV.out.range) Try.underlying35 rfl Try.info_sense ?_
  refine wpS_call rfl (by kernel_rfl) 38 (Plain.of (by kernel_rfl)) [.const (.int .i64 5), .const (.int .i64 83), .const (.int .i64 2)] _ rfl [.int .i64 5, .int .i64 83, .int .i64 2] rfl (sval (5, 83, 2)) (fun wx hx => rof_c 5 83 2 wx) ?_
  refine wpS_eqG rfl (by kernel_rfl) 35 _ (.tmp 116) (.tmp 117) rfl _ _ rfl rfl Try.guard_sense true (fun w => sense_eq (5, 83, 2) (5, 83, 2) w) ?_
  iterate 2 (refine wpS_mild rfl (fun K hK => ?_); go_simp; refine hK _ ?_; clear hK K)
  iterate 4 (refine wpS_mild rfl (fun K hK => ?_); go_simp; refine hK _ ?_; clear hK K)
  refine wpS_loadG rfl (by kernel_rfl) 35 (.tmp 15) rfl fU 0 rfl (sc (0, 0, 0)) _ ((World.rangeAt_drew _ _ _ _).2 EU.out.range) Try.underlying35 rfl Try.info_sense ?_
  refine wpS_loadG rfl (by kernel_rfl) 35 (.tmp 4) rfl g4 0 rfl (sc (0, 0, 0)) _ ((World.rangeAt_drew _ _ _ _).2 B4.out.range) Try.underlying35 rfl Try.info_sense ?_
  refine wpS_eqG rfl (by kernel_rfl) 35 _ (.tmp 125) (.tmp 126) rfl _ _ rfl rfl Try.guard_sense true (fun w => sense_eq (0, 0, 0) (0, 0, 0) w) ?_
  iterate 2 (refine wpS_mild rfl (fun K hK => ?_); go_simp; refine hK _ ?_; clear hK K)
  iterate 5 (refine wpS_mild rfl (fun K hK => ?_); go_simp; refine hK _ ?_; clear hK K)
  refine wpS_loadG rfl (by kernel_rfl) 35 (.tmp 17) rfl gC 0 rfl (sc (0, 0, 0)) _ ((World.rangeAt_drew _ _ _ _).2 EC.out.range) Try.underlying35 rfl Try.info_sense ?_
  refine wpS_loadG rfl (by kernel_rfl) 35 (.tmp 4) rfl g4 0 rfl (sc (0, 0, 0)) _ ((World.rangeAt_drew _ _ _ _).2 B4.out.range) Try.underlying35 rfl Try.info_sense ?_
  refine wpS_eqG rfl (by kernel_rfl) 35 _ (.tmp 135) (.tmp 136) rfl _ _ rfl rfl Try.guard_sense true (fun w => sense_eq (0, 0, 0) (0, 0, 0) w) ?_
  iterate 2 (refine wpS_mild rfl (fun K hK => ?_); go_simp; refine hK _ ?_; clear hK K)
  iterate 6 (refine wpS_mild rfl (fun K hK => ?_); go_simp; refine hK _ ?_; clear hK K)
  refine wpS_loadG rfl (by kernel_rfl) 35 (.tmp 19) rfl gG 0 rfl (sc (5, 33, 0)) _ ((World.rangeAt_drew _ _ _ _).2 EG.out.range) Try.underlying35 rfl Try.info_sense ?_
  refine wpS_call rfl (by kernel_rfl) 38 (Plain.of (by kernel_rfl)) [.const (.int .i64 5), .const (.int .i64 33), .const (.int .i64 0)] _ rfl [.int .i64 5, .int .i64 33, .int .i64 0] rfl (sval (5, 33, 0)) (fun wx hx => rof_c 5 33 0 wx) ?_
  refine wpS_eqG rfl (by kernel_rfl) 35 _ (.tmp 146) (.tmp 147) rfl _ _ rfl rfl Try.guard_sense true (fun w => sense_eq (5, 33, 0) (5, 33, 0) w) ?_
  iterate 2 (refine wpS_mild rfl (fun K hK => ?_); go_simp; refine hK _ ?_; clear hK K)
  iterate 7 (refine wpS_mild rfl (fun K hK => ?_); go_simp; refine hK _ ?_; clear hK K)
  iterate 7 (refine wpS_mild rfl (fun K hK => ?_); go_simp; refine hK _ ?_; clear hK K)
  iterate 5 (refine wpS_mild rfl (fun K hK => ?_); go_simp; refine hK _ ?_; clear hK K)
  iterate 4 (refine wpS_mild rfl (fun K hK => ?_); go_simp; refine hK _ ?_; clear hK K)
  refine wpS_loadG rfl (by kernel_rfl) 50 (.tmp 173) rfl bW (oW + 64) rfl (bv X0) _ ((World.rangeAt_drew _ _ _ _).2 RW.out) Try.underlying50 rfl (by rw [Try.info_block, bv_length, l0.out]) ?_
  refine wpS_call rfl (by kernel_rfl) 37 (Plain.of (by kernel_rfl)) [.const (.int .u8 0)] _ rfl [.int .u8 0] rfl (.agg (bv X0).toArray) (fun wx hx => c0.out wx) ?_
  refine wpS_eqG rfl (by kernel_rfl) 50 50 (.tmp 174) (.tmp 175) rfl _ _ rfl rfl Try.guard_block true (fun w => by rw [block_eq X0 X0 l0.out l0.out]; simp) ?_
  iterate 2 (refine wpS_mild rfl (fun K hK => ?_); go_simp; refine hK _ ?_; clear hK K)
  refine wpS_loadG rfl (by kernel_rfl) 27 (.tmp 1) rfl g1 0 rfl (tc (.slice pT 3 cT) (.slice qT 1 dT) true false false) _ ((World.rangeAt_drew _ _ _ _).2 B1.out.range) Try.underlying27 rfl Try.info_slot ?_
  refine wpS_callL rfl (by kernel_rfl) 22 (Plain.of (by kernel_rfl)) [.tmp 179] _ rfl [.agg #[.slice pT 3 cT, .slice qT 1 dT, .bool true, .bool false, .bool false]] rfl (fun v w' => ∃ a c b d, v = .agg #[.slice a 3 c, .slice b 0 d, .bool true, .bool false, .bool false]) (fun wx hx => (ssync_c _ 3 F [((1 : Int), X)] true false false wx (SS.out.later (hwd.trans hx)) (by omega) (by simp)).mono fun e w' ⟨v', he, hl, hr⟩ => ⟨v', he, hl, ?_⟩) ?_
  · rw [FA.out.2.2.2.2.2.2] at hr
    obtain ⟨a, c, b, kk, d, e, hm⟩ := hr
    have hr' : Slt w' (.agg #[.slice a 3 c, .slice b kk d, .bool true, .bool false, .bool false]) 3 _ [] true false false := ⟨a, c, b, kk, d, rfl, hm⟩
    have hk0 : kk = 0 := Slt.count hr'
    subst hk0
    exact ⟨a, c, b, d, e⟩
  rintro v e2 he2 ⟨aq, cq, bq, dq, rfl⟩
  clear u2 p1 s1 y0 y4 hcc hc
  have f0 := fun r => field_medium (rg e2 r) aq bq 3 cq 0 dq true false false
  have f1 := fun r => field_dirty (rg e2 r) aq bq 3 cq 0 dq
  iterate 6 (refine wpS_mild rfl (fun K hK => ?_); go_simp; refine hK _ ?_; clear hK K)
  refine wpS_nil (fun wx hx => ?_)
  have LX := hide (L.out.trans ((hwd.trans he2).trans hx))
  clear hx
  go_wp2
  go_ret
  exact ⟨rfl, LX.out⟩
end Go.Proofs.Ytkbpecbpfajkfaa
