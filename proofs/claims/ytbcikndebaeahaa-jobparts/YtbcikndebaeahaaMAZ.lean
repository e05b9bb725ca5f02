import Derived.Test.YtbcikndebaeahaaMAX
import Derived.Test.YtbcikndebaeahaaMAY
import Derived.Test.YtbcikndebaeahaaMAH
import Derived.Test.YtbcikndebaeahaaMAD
namespace Go.Proofs.Ytbcikndebaeahaa
open Go.ChangeShapes Go.WideShapes Go.ChangeAt Go.RowKit
set_option linter.unusedVariables false
set_option maxRecDepth 4000
set_option linter.unusedSimpArgs false
/-! The landed job: which block, and whether it is the same. -/
def placeN (a i : Nat) : Nat := if 18446744073709551615 - a < i then 18446744073709551615 else a + i
theorem place_at (a i : Nat) (ha : a ≤ 18446744073709551615) (hi : i ≤ 9223372036854775807) : (placeN a i ≤ 1000 ∧ atJ a i = placeN a i) ∨ (1000 < placeN a i ∧ atJ a i = 1000) := by
  have e : atJ a i = if 1000 < (a + i) % 18446744073709551616 ∨ (a + i) % 18446744073709551616 < i then 1000 else (a + i) % 18446744073709551616 := rfl
  rw [e]
  unfold placeN
  split <;> split <;> omega
theorem place_le (a i : Nat) (ha : a ≤ 18446744073709551615) (hi : i ≤ 9223372036854775807) : placeN a i ≤ 18446744073709551615 := by
  unfold placeN
  split <;> omega
theorem check_far {n : Nat} {D : List Drt} {p r wr : Bool} {A : Nat} (h : 1000 ≤ A) : checkS n D p r A 1 wr = checkS n D p r 1000 1 wr := by
  have h3 := allN_small n D
  have e1 : withinB (allN n D) A 1 = false := by simp only [withinB, decide_eq_false_iff_not]; omega
  have e2 : withinB (allN n D) 1000 1 = false := by simp only [withinB, decide_eq_false_iff_not]; omega
  simp only [checkS, e1, e2]
theorem check_far_ne {n : Nat} {D : List Drt} {p r wr : Bool} {A : Nat} (h : 1000 ≤ A) : (checkS n D p r A 1 wr == (0, 0, 0)) = false := by
  rw [beq_eq_false_iff_ne]
  intro e
  have h1 := (checkS_zero e).2.2
  have h3 := allN_small n D
  simp only [withinB, decide_eq_true_eq] at h1
  omega
theorem check_place {n : Nat} {D : List Drt} {p r wr : Bool} {a i : Nat} (ha : a ≤ 18446744073709551615) (hi : i ≤ 9223372036854775807) : checkS n D p r (placeN a i) 1 wr = checkS n D p r (atJ a i) 1 wr := by
  rcases place_at a i ha hi with ⟨h1, h2⟩ | ⟨h1, h2⟩
  · rw [h2]
  · rw [h2, check_far (by omega)]
theorem read_place {n : Nat} {F : List UInt8} {D : List Drt} {p r wr : Bool} {a i : Nat} (ha : a ≤ 18446744073709551615) (hi : i ≤ 9223372036854775807) : rdL n F D (checkS n D p r (placeN a i) 1 wr) (placeN a i) 1 = rdL n F D (checkS n D p r (atJ a i) 1 wr) (atJ a i) 1 := by
  rcases place_at a i ha hi with ⟨h1, h2⟩ | ⟨h1, h2⟩
  · rw [h2]
  · rw [h2]
    unfold rdL
    rw [check_far_ne (by omega), check_far_ne (by omega)]
    rfl
/-- the place as an int -/
def plI (a i : Nat) : Int := IntKind.i64.wrap (placeN a i : Int)
theorem plI_in (a i : Nat) : -9223372036854775808 ≤ plI a i ∧ plI a i ≤ 9223372036854775807 := by
  unfold plI
  rw [IntKind.wrap_i64]
  omega
theorem plI_mod (a i : Nat) (h : placeN a i ≤ 18446744073709551615) : (plI a i % 18446744073709551616).toNat = placeN a i := by
  unfold plI
  rw [IntKind.wrap_i64]
  omega
theorem plI_small (a i : Nat) (h : placeN a i ≤ 1000) : plI a i = (placeN a i : Int) := by
  unfold plI
  rw [IntKind.wrap_i64]
  omega
theorem put_place {n : Nat} {F : List UInt8} {D : List Drt} {p r th : Bool} {a i : Nat} {X : List UInt8} (ha : a ≤ 18446744073709551615) (hi : i ≤ 9223372036854775807) :
    putS n D p r (plI a i) = putS n D p r (atJ a i) ∧ ptF n F D (putS n D p r (plI a i)) (plI a i) X th = ptF n F D (putS n D p r (atJ a i)) (atJ a i) X th ∧ ptD n D (putS n D p r (plI a i)) (plI a i) X th = ptD n D (putS n D p r (atJ a i)) (atJ a i) X th := by
  rcases place_at a i ha hi with ⟨h1, h2⟩ | ⟨h1, h2⟩
  · rw [h2, plI_small a i h1]
    exact ⟨rfl, rfl, rfl⟩
  · have e1 : putS n D p r (plI a i) = checkS n D p r 1000 1 true := by
      rw [put_conv (plI_in a i).1 (plI_in a i).2, plI_mod a i (place_le a i ha hi), check_far (by omega)]
    have e2 : putS n D p r (atJ a i) = checkS n D p r 1000 1 true := by
      rw [h2]
      rfl
    have e3 := check_far_ne (n := n) (D := D) (p := p) (r := r) (wr := true) (A := 1000) (by omega)
    rw [e1, e2]
    unfold ptF ptD
    rw [e3]
    exact ⟨rfl, rfl, rfl⟩
def verS (n : Nat) (F : List UInt8) (D : List Drt) (p r : Bool) (A : Nat) (X : List UInt8) : Sns := if checkS n D p r A 1 false = (0, 0, 0) ∧ rdL n F D (checkS n D p r A 1 false) A 1 ≠ X then (14, 29, 0) else checkS n D p r A 1 false
theorem rdL_len {w : World} {v : Value} {n : Nat} {F : List UInt8} {D : List Drt} {p r : Bool} (h : Med w v n F D) (A : Nat) (h0 : checkS n D p r A 1 false = (0, 0, 0)) : (rdL n F D (checkS n D p r A 1 false) A 1).length = 64 := by
  have h1 := (checkS_zero h0).2.2
  obtain ⟨vb, vd, rfl, hb, hd, ho⟩ := h
  have hF := hb.1
  rw [bv_length] at hF
  simp only [withinB, decide_eq_true_eq] at h1
  have hA := allF_len hF ho
  rw [h0, rdL]
  simp only [beq_self_eq_true, if_true]
  show (seg (allF n F D) (A * 64) (1 * 64)).length = 64
  rw [seg_length _ _ _ (by omega)]
theorem ver_place {w : World} {v : Value} {n : Nat} {F : List UInt8} {D : List Drt} {p r cc : Bool} {c : Cmd} {i : Nat} {X : List UInt8} (h : Med w v n F D) (ha : c.2.1 ≤ 18446744073709551615) (hi : i ≤ 9223372036854775807) (hk : classI c.1 = 3) :
    verS n F D p r (placeN c.2.1 i) X = blkS n F D p r cc c (0, 0, 0) i X := by
  unfold verS blkS
  rw [if_neg (show ¬ ((0, 0, 0) : Sns) ≠ (0, 0, 0) by simp), if_pos hk, read_place ha hi, check_place ha hi]
  by_cases h0 : checkS n D p r (atJ c.2.1 i) 1 false = (0, 0, 0)
  · have hl := rdL_len h (atJ c.2.1 i) h0
    dsimp only
    rw [List.take_of_length_le (by rw [hl]; exact Nat.le_refl _)]
  · rw [if_neg (fun e => h0 e.1)]
    dsimp only
    rw [if_neg (fun e => h0 e.1)]
set_option maxHeartbeats 1000000 in
theorem place_c {g : Nat} {ab : Option Addr} {n cb : Nat} {aD : Option Addr} {k cD : Nat} {p r l cc : Bool} {am : Option Addr} {m cm : Nat} {s : Sns} {c : Cmd} {len took : Int} {ar : Option Addr} {kr cr : Nat} {S : Sns} (w : World) (hB : Box w g 65 (wc ab n cb aD k cD p r l cc am m cm s c len took ar kr cr S))
    (i : Nat) (hi : took / 64 = (i : Int) + 1) (h0 : 0 ≤ took) (h1 : In64 took) (ha : c.2.1 ≤ 18446744073709551615) :
    Calls Try.prog 55 #[.pointer (some ⟨g, 0, none⟩)] w fun e w' => e = .returned (.int .u64 (placeN c.2.1 i : Int)) ∧ w' = w := by
  have x16 : w.cell? ⟨g, 16, none⟩ = some (.int .i64 took) := hB.cell 16
  have x11 : w.cell? ⟨g, 11, none⟩ = some (.int .u64 (c.2.1 : Int)) := hB.cell 11
  have hq : Int.tdiv took 64 = (i : Int) + 1 := by rw [Int.tdiv_eq_ediv_of_nonneg h0]; exact hi
  have hib : i ≤ 144115188075855871 := by unfold In64 at h1; omega
  have hw1 : IntKind.i64.wrap ((i : Int) + 1) = (i : Int) + 1 := by rw [IntKind.wrap_i64]; omega
  have hw2 : IntKind.i64.wrap ((i : Int) + 1 - 1) = (i : Int) := by rw [IntKind.wrap_i64]; omega
  have hw3 : IntKind.u64.wrap (i : Int) = (i : Int) := by rw [IntKind.wrap_u64]; omega
  obtain ⟨A, hA⟩ : ∃ A, A = c.2.1 := ⟨_, rfl⟩
  rw [← hA] at x11 ha ⊢
  clear hA
  obtain ⟨B, hBB⟩ : ∃ B : Nat, B = 18446744073709551615 - A := ⟨_, rfl⟩
  have hw4 : IntKind.u64.wrap (18446744073709551615 - (A : Int)) = (B : Int) := by rw [IntKind.wrap_u64]; omega
  by_cases hlt : B < i
  · have HP : Hid (placeN A i = 18446744073709551615) := by rw [Hid, placeN, if_pos (by omega)]
    clear hBB hi
    go_enter Try.func55, Try.ntmps55
    go_wp2
    go_ret
    exact ⟨by rw [HP.out]; rfl, rfl⟩
  · have HP : Hid (placeN A i = A + i) := by rw [Hid, placeN, if_neg (by omega)]
    have hw5 : IntKind.u64.wrap ((A : Int) + (i : Int)) = (A : Int) + (i : Int) := by rw [IntKind.wrap_u64]; omega
    clear hBB hi
    go_enter Try.func55, Try.ntmps55
    go_wp2
    go_ret
    exact ⟨by rw [HP.out, Int.natCast_add]; rfl, rfl⟩
end Go.Proofs.Ytbcikndebaeahaa

namespace Go.Proofs.Ytbcikndebaeahaa
open Go.ChangeShapes Go.WideShapes Go.ChangeAt Go.RowKit
set_option linter.unusedVariables false
set_option maxRecDepth 4000
set_option linter.unusedSimpArgs false
/-! The landed job: verify. -/
set_option maxRecDepth 20000 in
set_option maxHeartbeats 2000000 in
theorem verify_c {g : Nat} {ab : Option Addr} {n cb : Nat} {aD : Option Addr} {k cD : Nat} {F : List UInt8} {D : List Drt} {p r l cc : Bool} {am : Option Addr} {m cm : Nat} {s : Sns} {c : Cmd} {len took : Int} {ar : Option Addr} {kr cr : Nat} {S : Sns} (w : World) (hB : Box w g 65 (wc ab n cb aD k cD p r l cc am m cm s c len took ar kr cr S))
    (hM : Med w (.agg #[.slice ab n cb, .slice aD k cD]) n F D) (X : List UInt8) (hX : X.length = 64) (i : Nat) (hi : took / 64 = (i : Int) + 1) (h0 : 0 ≤ took) (h1 : In64 took) (ha : c.2.1 ≤ 18446744073709551615) (hn : n ≤ 100) (hD : D.length ≤ 100) :
    Calls Try.prog 56 #[.pointer (some ⟨g, 0, none⟩), .agg (bv X).toArray] w fun e w' => e = .returned (sval (verS n F D p r (placeN c.2.1 i) X)) ∧ Later w w' := by
  have HX := hide hX
  have BW := hide hB
  have HSl := hide (show Slt w (.agg #[.slice ab n cb, .slice aD k cD, .bool p, .bool r, .bool l]) n F D p r l from ⟨ab, cb, aD, k, cD, rfl, hM⟩)
  have HPl := hide (fun (W : World) (h : Later w W) => place_c W (hB.later h) i hi h0 h1 ha)
  have HPle := hide (place_le c.2.1 i ha (by unfold In64 at h1; omega))
  clear hX hB hM hi h0 h1 ha
  generalize placeN c.2.1 i = P at *
  have BX := hide ((Box.new w 58 (bv X).toArray).alloc (.cells #[.int .i64 0, .int .i64 0, .int .i64 0] 30))
  have BS : Hid (Box _ (w.heap.size + 1) 30 (sc (0, 0, 0))) := Box.new' (w.alloc (.cells (bv X).toArray 58)) 30 #[.int .i64 0, .int .i64 0, .int .i64 0] _ rfl _ (by simp)
  have LL := hide (((Later.refl w).alloc (.cells (bv X).toArray 58)).alloc (.cells #[.int .i64 0, .int .i64 0, .int .i64 0] 30))
  go_enter Try.func56, Try.ntmps56
  go_wp2_with fail
  generalize (w.alloc (.cells (bv X).toArray 58)).alloc (.cells #[.int .i64 0, .int .i64 0, .int .i64 0] 30) = w1 at *
  obtain ⟨gs, hgs⟩ : ∃ gs, gs = w.heap.size + 1 := ⟨_, rfl⟩
  obtain ⟨gx, hgx⟩ : ∃ gx, gx = w.heap.size := ⟨_, rfl⟩
  rw [← hgs] at BS ⊢
  rw [← hgx] at BX ⊢
  have HG : Hid (w.heap.size ≤ gs) := by rw [Hid]; omega
  clear hgs hgx
  have hc := fun q => (LL.out.trans ((Later.refl w1).drew.trans (later_rg w1.drew q)))
  have x_0 := fun q => (BW.out.later (hc q)).cell 0
  have x_1 := fun q => (BW.out.later (hc q)).cell 1
  have x_2 := fun q => (BW.out.later (hc q)).cell 2
  have x_3 := fun q => (BW.out.later (hc q)).cell 3
  have x_4 := fun q => (BW.out.later (hc q)).cell 4
  refine wp_region_bag [0, 1, 2, 3, 4, 5, 6] [7, 8, 9, 10, 11, 12, 13] [13] (by kernel_rfl) (by kernel_rfl) (by kernel_rfl) (by kernel_rfl) ?_
  iterate 6 (refine wpM_mild rfl (fun K hK => ?_); go_simp; refine hK _ ?_; clear hK K)
  clear x_0 x_1 x_2 x_3 x_4 hc
  have hwd := (Later.refl w1).drew
  refine wpM_call rfl (by kernel_rfl) 55 (Plain.of (by kernel_rfl)) [.tmp 13] _ rfl [.pointer (some ⟨g, 0, none⟩)] rfl (.int .u64 (P : Int)) (fun wx hx => ?_) ?_
  · refine (HPl.out wx (LL.out.trans (hwd.trans hx))).mono ?_
    rintro e w' ⟨rfl, rfl⟩
    exact ⟨rfl, Later.refl _⟩
  have HS1 := hide (checkS_ok n D p r P 1 false)
  have HV : Hid (verS n F D p r P X = if checkS n D p r P 1 false = (0, 0, 0) ∧ rdL n F D (checkS n D p r P 1 false) P 1 ≠ X then (14, 29, 0) else checkS n D p r P 1 false) := rfl
  have HRd := hide (fun (W : World) (h : Later w W) => sread_c (.agg #[.slice ab n cb, .slice aD k cD, .bool p, .bool r, .bool l]) n F D p r l P 1 W (HSl.out.later h) HPle.out (by decide) (by decide) hn hD)
  generalize checkS n D p r P 1 false = S1 at *
  generalize rdL n F D S1 P 1 = O at *
  clear HSl HPl HPle
  refine wpM_nil (varsense_verify 66 (Plain.of (by kernel_rfl)) S1 (fun x W => Bs W x O) (fun x W W' hl h => h.later hl) (fun x W g s cs hB hg h => h.setNoB hB (sc_nob s) cs 0) [.tmp 12, .tmp 14, .const (.int .i64 1)] _ [.agg #[.slice ab n cb, .slice aD k cD, .bool p, .bool r, .bool l], .int .u64 (P : Int), .int .i64 1] rfl
    ⟨_, rfl, rfl, rfl, rfl⟩ ⟨_, rfl, rfl, rfl, rfl⟩ ⟨_, rfl, rfl, rfl, rfl⟩ ⟨_, rfl, rfl, rfl, rfl⟩ ⟨_, rfl, rfl, rfl, rfl⟩ ⟨_, rfl, rfl, rfl, rfl⟩ ⟨_, rfl, rfl, rfl, rfl⟩ (of_decide_eq_true (by kernel_rfl)) (by kernel_rfl) ?k4 ?k5)
  case k4 =>
    intro W hW
    refine (HRd.out W (LL.out.trans (hwd.trans hW))).mono ?_
    rintro e w' ⟨v', rfl, hl, hb⟩
    exact ⟨v', rfl, hl, hb⟩
  intro x g6 W hL hb hK hg
  have hl := hwd.trans hL
  replace BX := hide (BX.out.later hl)
  replace BS := hide (BS.out.later hl)
  replace LL := hide (LL.out.trans hl)
  have B6 := hide hb
  have HK := hide hK
  clear hl hwd hL hb hK hg HRd
  simp only [Act.put, List.setIfInBounds_toArray, List.set_cons_succ, List.set_cons_zero]
  have s0 := B6.out.cell 0
  have s1 := B6.out.cell 1
  have s2 := B6.out.cell 2
  go_wp2_with fail
  refine (sgood_c S1 _ HS1.out).mono ?_
  rintro e w2 ⟨rfl, hl⟩
  replace BX := hide (BX.out.later hl)
  replace BS := hide (BS.out.later hl)
  replace B6 := hide (B6.out.later hl)
  replace LL := hide (LL.out.trans hl)
  replace HK := hide (HK.out.later hl)
  clear hl s0 s1 s2
  cases hz : (S1 == (0, 0, 0)) with
  | false =>
    have h0 : ¬ S1 = (0, 0, 0) := by simpa using hz
    replace HV : Hid (verS n F D p r P X = S1) := by rw [Hid, HV.out, if_neg (fun h => h0 h.1)]
    clear hz h0
    have s0 := B6.out.cell 0
    have s1 := B6.out.cell 1
    have s2 := B6.out.cell 2
    go_wp2_with (refine wpList_storeU rfl 30 (.tmp 4) (.tmp 27) rfl gs 0 rfl (sc S1) rfl Try.info_sense (sc_one _) _ _ BS.out (by simp) ?_)
    intro wz hz
    have BZ : Hid (Box wz gs 30 (sc S1)) := by rw [hz.out]; exact BS.out.all _ rfl
    have LZ : Hid (Later w wz) := by rw [hz.out]; exact LL.out.setCells HG.out _ _
    clear hz
    go_wp2
    exact bodyPost_ret (results_cell1 rfl _ _ _ gs 0 rfl (sval S1) (shut3 BZ.out)) rfl ⟨by rw [HV.out], LZ.out⟩
  | true =>
    have h0 : S1 = (0, 0, 0) := by simpa using hz
    subst h0
    clear hz
    have hbx : Bs w2 (.slice (some ⟨gx, 0, none⟩) 64 64) X := bs_of_box BX.out rfl HX.out (by decide)
    go_wp2_with fail
    refine (beqb_c w2 HK.out hbx).mono ?_
    rintro e w3 ⟨rfl, hw⟩
    have hw2 := hw.symm
    subst hw2
    clear hw hbx
    cases hq : (O == X) with
    | true =>
      have h0 : O = X := by simpa using hq
      replace HV : Hid (verS n F D p r P X = (0, 0, 0)) := by rw [Hid, HV.out, if_neg (fun h => h.2 h0)]
      clear hq h0
      have s0 := B6.out.cell 0
      have s1 := B6.out.cell 1
      have s2 := B6.out.cell 2
      go_wp2_with (refine wpList_storeU rfl 30 (.tmp 4) (.tmp 27) rfl gs 0 rfl (sc (0, 0, 0)) rfl Try.info_sense (sc_one _) _ _ BS.out (by simp) ?_)
      intro wz hz
      have BZ : Hid (Box wz gs 30 (sc (0, 0, 0))) := by rw [hz.out]; exact BS.out.all _ rfl
      have LZ : Hid (Later w wz) := by rw [hz.out]; exact LL.out.setCells HG.out _ _
      clear hz
      go_wp2
      exact bodyPost_ret (results_cell1 rfl _ _ _ gs 0 rfl (sval (0, 0, 0)) (shut3 BZ.out)) rfl ⟨by rw [HV.out], LZ.out⟩
    | false =>
      have h0 : ¬ O = X := by simpa using hq
      replace HV : Hid (verS n F D p r P X = (14, 29, 0)) := by rw [Hid, HV.out, if_pos (by first | exact ⟨rfl, h0⟩ | exact ⟨trivial, h0⟩)]
      clear hq h0
      go_wp2_with fail
      refine (con_Differs _).mono ?_
      rintro e w4 ⟨rfl, hl⟩
      replace BS := hide (BS.out.later hl)
      replace LL := hide (LL.out.trans hl)
      clear hl
      go_wp2_with (refine wpList_storeU rfl 30 (.tmp 4) (.tmp 26) rfl gs 0 rfl (sc (14, 29, 0)) rfl Try.info_sense (sc_one _) _ _ BS.out (by simp) ?_)
      intro wz hz
      have BZ : Hid (Box wz gs 30 (sc (14, 29, 0))) := by rw [hz.out]; exact BS.out.all _ rfl
      have LZ : Hid (Later w wz) := by rw [hz.out]; exact LL.out.setCells HG.out _ _
      clear hz
      go_wp2
      exact bodyPost_ret (results_cell1 rfl _ _ _ gs 0 rfl (sval (14, 29, 0)) (shut3 BZ.out)) rfl ⟨by rw [HV.out], LZ.out⟩
end Go.Proofs.Ytbcikndebaeahaa

namespace Go.Proofs.Ytbcikndebaeahaa
open Go Go.RowKit
set_option linter.unusedVariables false
set_option maxRecDepth 4000
set_option linter.unusedSimpArgs false
/-! Regions that draw their order: operations that touch no memory first (α), then such as read what a last one changes (μ), all of which one (x) waits for; behind it whatever alone may come up. -/
section
variable {P : Program} {ops : Array Oper}
def topI : World → Prop := fun _ => True
theorem jOp_of_lOp {i : Nat} {K : Act → World → Prop} {a : Act} {w : World} (h : lOp P ops i K a w) : jOp P ops topI i K a w := by
  unfold lOp at h
  unfold jOp
  cases ho : ops[i]? with
  | none => simp [ho] at h
  | some o =>
    simp only [ho] at h ⊢
    split
    · rename_i hw
      simp only [hw, if_true] at h
      unfold Oper.loud at h
      generalize (execOp a.eval o).run P w = r at *
      cases r with
      | ok n w' =>
        cases n <;> simp only [Oper.loudUpon] at h <;> simp only [Oper.heldUpon]
        case value u => exact ⟨trivial, h.2⟩
        case skip => exact ⟨trivial, h.2⟩
        case enter f args => exact ⟨h.1, h.2.mono fun e w'' ⟨u, he, _, hk⟩ => ⟨u, he, trivial, hk⟩⟩
      | halt x w' => simp only [Oper.loudUpon] at h
    · rename_i hw
      simp only [hw] at h
      exact h
theorem wpH_of_wpX {tl : Nat → Bool} {Q : Act → World → Prop} {n : Nat} : ∀ (m : Nat) (listed : Array Bool) (a : Act) (b : World), wpX P .any ops tl (fun listed a w => wpH P .any ops topI Q n listed a w) m listed a b → wpH P .any ops topI Q (n + m) listed a b
  | 0, _, _, b, h => h.2 b (Later.refl b)
  | m + 1, _, _, _, h => fun w hw => ⟨fun h0 => absurd h0 (h w hw).1, fun i hi => jOp_of_lOp (lOp_mono (fun a' w' _ h' => wpH_of_wpX m _ a' w' h') ((h w hw).2 i hi).2)⟩
def wpA (P : Program) (ops : Array Oper) (G : Act → World → Prop) : List Nat → Act → World → Prop
  | [], a, b => G a b
  | i :: α, a, b => ∃ o, ops[i]? = some o ∧ if Region.wanted o (yielded ops a.tmps) then Oper.mildI P topI o a (fun a' => wpA P ops G α a' b) else wpA P ops G α (a.put o.dst undef) b
def wpB (P : Program) (ops : Array Oper) (G : Act → World → Prop) : List Nat → Act → World → Prop
  | [], a, b => ∀ w, Later b w → G a w
  | i :: μ, a, b => ∃ o, ops[i]? = some o ∧ if Region.wanted o (yielded ops a.tmps) then Oper.mild P o a b (fun a' => wpB P ops G μ a' b) else wpB P ops G μ (a.put o.dst undef) b
def freesB (ops : Array Oper) : List Nat → Array Bool → Bool
  | [], _ => true
  | i :: α, listed => (Region.ready .any ops listed).contains i && Region.free .any ops listed i && freesB ops α (listed.setIfInBounds i true)
def beforeB (ops : Array Oper) (x : Nat) : List Nat → Array Bool → Bool
  | [], listed => Region.ready .any ops listed == [x]
  | i :: μ, listed => (Region.ready .any ops listed).contains i && Region.free .any ops listed i && (i != x) && waitsB .any ops [x] i && beforeB ops x μ (listed.setIfInBounds i true)
theorem wpH_of_wpA {Q : Act → World → Prop} {G : Act → World → Prop} {n : Nat} (hs : Region.noSelect ops = true) : ∀ (α : List Nat) (listed : Array Bool) (a : Act) (b : World), freesB ops α listed = true → (∀ a b, G a b → wpH P .any ops topI Q n (setAll α listed) a b) → wpA P ops G α a b → wpH P .any ops topI Q (n + α.length) listed a b
  | [], listed, a, b, _, hG, h => hG a b h
  | i :: α, listed, a, b, hB, hG, h => by
    simp only [freesB, Bool.and_eq_true] at hB
    have hri : i ∈ Region.ready .any ops listed := by simpa using hB.1.1
    obtain ⟨o, ho, h⟩ := h
    have hG' : ∀ a b, G a b → wpH P .any ops topI Q n (setAll α (listed.setIfInBounds i true)) a b := hG
    by_cases hw : Region.wanted o (yielded ops a.tmps) = true
    · simp only [hw, if_true] at h
      obtain ⟨v, hv, hk⟩ := h
      exact wpH_first (fun _ _ _ _ => trivial) ho (Region.noSelect_spec hs) _ listed a b trivial (Region.free_spec ho hB.1.2) hri (.inl ⟨hw, hv⟩) (wpH_of_wpA hs α _ _ _ hB.2 hG' hk)
    · simp only [hw] at h
      exact wpH_first (fun _ _ _ _ => trivial) ho (Region.noSelect_spec hs) _ listed a b trivial (Region.free_spec ho hB.1.2) hri (.inr ⟨by simpa using hw, rfl⟩) (wpH_of_wpA hs α _ _ _ hB.2 hG' h)
theorem wpX_of_wpB {x : Nat} {T : Array Bool → Act → World → Prop} {G : Act → World → Prop} (hs : Region.noSelect ops = true) : ∀ (μ : List Nat) (listed : Array Bool) (a : Act) (b : World), Closed .any ops listed → beforeB ops x μ listed = true → (∀ a w, G a w → T (setAll μ listed) a w) → wpB P ops G μ a b → wpX P .any ops (fun i => [x].contains i) T μ.length listed a b
  | [], listed, a, b, _, hB, hG, h => by
    refine ⟨fun i hi => ?_, fun w hw => hG a w (h w hw)⟩
    have hB' : Region.ready .any ops listed = [x] := by simpa [beforeB] using hB
    rw [hB'] at hi
    simpa using hi
  | i :: μ, listed, a, b, hcl, hB, hG, h => by
    simp only [beforeB, Bool.and_eq_true] at hB
    have hri : i ∈ Region.ready .any ops listed := by simpa using hB.1.1.1.1
    have hix : ([x].contains i) = false := by have := hB.1.1.2; simpa using this
    have hG' : ∀ a w, G a w → T (setAll μ (listed.setIfInBounds i true)) a w := hG
    obtain ⟨o, ho, h⟩ := h
    by_cases hw : Region.wanted o (yielded ops a.tmps) = true
    · simp only [hw, if_true] at h
      obtain ⟨v, hv, hk⟩ := h
      exact wpX_first ho hix (Region.noSelect_spec hs) (waits_spec hB.1.2) _ listed a b hcl (Region.free_spec ho hB.1.1.1.2) hri (.inl ⟨hw, hv⟩) (wpX_of_wpB hs μ _ _ _ (hcl.add hri) hB.2 hG' hk)
    · simp only [hw] at h
      exact wpX_first ho hix (Region.noSelect_spec hs) (waits_spec hB.1.2) _ listed a b hcl (Region.free_spec ho hB.1.1.1.2) hri (.inr ⟨by simpa using hw, rfl⟩) (wpX_of_wpB hs μ _ _ _ (hcl.add hri) hB.2 hG' h)
theorem Closed.frees : ∀ (α : List Nat) (listed : Array Bool), Closed .any ops listed → freesB ops α listed = true → Closed .any ops (setAll α listed)
  | [], _, h, _ => h
  | i :: α, listed, h, hB => by
    simp only [freesB, Bool.and_eq_true] at hB
    exact Closed.frees α _ (h.add (by simpa using hB.1.1)) hB.2
/-- A REGION THAT DRAWS ITS ORDER: α, μ, then σ, whose first one all of μ comes ahead of. -/
theorem wp_region_mix {id : Nat} {Q : Exit → Act → World → Prop} {a : Act} {w : World} {l : List Oper} (α μ : List Nat) (x : Nat) (σ : List (Nat × Bool)) (hm : P.follows .mixedOrders = true) (hs : Region.noSelect l.toArray = true) (hn : (σ.length + μ.length + α.length == l.length) = true)
    (hA : freesB l.toArray α (Array.replicate l.length false) = true) (hB : beforeB l.toArray x μ (setAll α (Array.replicate l.length false)) = true) (hJ : schedB .any l.toArray σ (setAll μ (setAll α (Array.replicate l.length false))) = true)
    (h : wpA P l.toArray (wpB P l.toArray (wpJ P l.toArray topI (fun a' w' => Q .normal a' w') σ) μ) α a w.drew) : (Code.region id l.toArray true).wp P Q a w := by
  refine wp_region_any hm ?_
  have hcl : Closed .any l.toArray (setAll α (Array.replicate l.length false)) := Closed.frees α _ (Closed.start _) hA
  have h1 := wpH_of_wpA (P := P) (Q := fun a' w' => Q .normal a' w') (n := σ.length + μ.length) hs α (Array.replicate l.length false) a w.drew hA (fun a b hG => wpH_of_wpX _ _ _ _ (wpX_of_wpB (P := P) (x := x) (T := fun listed a w => wpH P .any l.toArray topI (fun a' w' => Q .normal a' w') σ.length listed a w) hs μ _ a b hcl hB (fun a w hG => wpH_of_wpJ (fun _ _ _ _ => trivial) hs σ _ a w trivial hJ hG) hG)) h
  have h2 := wpAny_of_wpH (Q' := Q) (fun _ _ h => h) _ _ _ _ h1
  have e2 : l.length = σ.length + μ.length + α.length := by simp at hn; exact hn.symm
  have e : l.toArray.size = σ.length + μ.length + α.length := by simp [e2]
  rw [e]
  rw [e2] at h2
  exact h2
theorem wpA_mild {G : Act → World → Prop} {i : Nat} {o : Oper} {α : List Nat} {a : Act} {b : World} (ho : ops[i]? = some o)
    (h : ∀ K : Act → Prop, (∀ a', wpA P ops G α a' b → K a') → if Region.wanted o (yielded ops a.tmps) then Oper.mildI P topI o a K else K (a.put o.dst undef)) : wpA P ops G (i :: α) a b := by
  refine ⟨o, ho, ?_⟩
  have := h _ (fun _ h => h)
  split
  · rename_i hw; rw [if_pos hw] at this; exact this
  · rename_i hw; rw [if_neg hw] at this; exact this
theorem wpA_nil {G : Act → World → Prop} {a : Act} {b : World} (h : G a b) : wpA P ops G [] a b := h
theorem wpB_mild {G : Act → World → Prop} {i : Nat} {o : Oper} {μ : List Nat} {a : Act} {b : World} (ho : ops[i]? = some o)
    (h : ∀ K : Act → Prop, (∀ a', wpB P ops G μ a' b → K a') → if Region.wanted o (yielded ops a.tmps) then Oper.mildG P o a b K else K (a.put o.dst undef)) : wpB P ops G (i :: μ) a b := by
  refine ⟨o, ho, ?_⟩
  have := h _ (fun _ h => h)
  split
  · rename_i hw; rw [if_pos hw] at this; exact Oper.mild_of_mildG this
  · rename_i hw; rw [if_neg hw] at this; exact this
theorem wpB_nil {G : Act → World → Prop} {a : Act} {b : World} (h : ∀ w, Later b w → G a w) : wpB P ops G [] a b := h
theorem wpB_call {G : Act → World → Prop} {i : Nat} {o : Oper} {μ : List Nat} {a : Act} {b : World} (ho : ops[i]? = some o) (hw : Region.wanted o (yielded ops a.tmps) = true) (f : FuncId) (hp : Plain P f) (xs : List Operand) (ts : Array TypeId) (hop : o.op = .call { callee := .value (.func f), args := xs.toArray, argTypes := ts }) (us : List Value) (hx : xs.map a.eval = us)
    (v : Value) (hc : ∀ w, Later b w → Calls P f us.toArray w fun e w' => e = .returned v ∧ Later w w')
    (h : wpB P ops G μ (a.put o.dst v) b) : wpB P ops G (i :: μ) a b := by
  refine ⟨o, ho, ?_⟩
  rw [if_pos hw]
  refine ⟨v, fun w hl => ?_, h⟩
  rw [run_call f hp xs ts hop us hx]
  exact ⟨rfl, hc w hl⟩
theorem wpB_loadG {G : Act → World → Prop} {i : Nat} {o : Oper} {μ : List Nat} {a : Act} {b : World} (ho : ops[i]? = some o) (hw : Region.wanted o (yielded ops a.tmps) = true) (ty : TypeId) (x : Operand) (hop : o.op = .load ty x)
    (k off : Nat) (hx : a.eval x = .pointer (some ⟨k, off, none⟩)) (cs : List Value) (d : TypeDesc) (hc : b.rangeAt k off cs) (hu : P.underlying ty = some d) (hd : d.isRow = true) (hi : (P.info? ty).map (·.size) = some cs.length)
    (h : wpB P ops G μ (a.put o.dst (.agg cs.toArray)) b) : wpB P ops G (i :: μ) a b := by
  refine ⟨o, ho, ?_⟩
  rw [if_pos hw]
  refine ⟨.agg cs.toArray, fun w hl => ?_, h⟩
  unfold execOp
  simp only [hop, hx, Instr.loadAt, Instr.sureAddr, Sem.run_bind, Sem.run_pure, Result.andThen_ok, run_loadVar_mid w k off ty cs d (hl.range hc) hu hd hi]
  simp [Oper.mildUpon]
/-- a call that makes memory, where it alone may come up -/
theorem wpJ_callQ {Q : Act → World → Prop} {i : Nat} {o : Oper} {σ : List (Nat × Bool)} {a : Act} {b : World} (ho : ops[i]? = some o) (hw : Region.wanted o (yielded ops a.tmps) = true) (f : FuncId) (hp : Plain P f) (xs : List Operand) (ts : Array TypeId) (hop : o.op = .call { callee := .value (.func f), args := xs.toArray, argTypes := ts }) (us : List Value) (hx : xs.map a.eval = us)
    (R : Value → World → Prop) (hc : ∀ w, Later b w → Calls P f us.toArray w fun e w' => ∃ v, e = .returned v ∧ Later w w' ∧ R v w')
    (h : ∀ v w', Later b w' → R v w' → wpJ P ops topI Q σ (a.put o.dst v) w') : wpJ P ops topI Q ((i, true) :: σ) a b := by
  intro w hl
  unfold jOp
  simp only [ho]
  rw [if_pos hw, run_call f hp xs ts hop us hx]
  refine ⟨rfl, (hc w hl).mono ?_⟩
  rintro e w'' ⟨v, he, hl2, hR⟩
  exact ⟨v, he, trivial, h v w'' (hl.trans hl2) hR⟩
end
end Go.Proofs.Ytbcikndebaeahaa
