import Derived.Deep.Cut
import Derived.Deep.CutRange
import Derived.Deep.CutBlock
import Derived.Test.YtkbpecbpfajkfaaMAW
import Derived.Test.YtkbpecbpfajkfaaMAV
import Derived.Test.YtkbpecbpfajkfaaMAM
namespace Go.Proofs.Ytkbpecbpfajkfaa
open Go.ChangeShapes Go.WideShapes Go.ChangeAt Go.RowKit
set_option linter.unusedVariables false
set_option linter.unusedSimpArgs false

/-! While it is protected, and nothing is cached, nothing changes. -/
theorem rest_nil {n : Nat} {G : List UInt8} (h : n ≤ 64) (p l : Bool) (mask : Nat) : rightB n [] = true ∧ syncF n G [] = G ∧ syncD n [] = [] ∧ btF p l n G [] = G ∧ btD p l n [] = [] ∧ pwF n G [] mask = G ∧ pwD n [] = [] ∧ allN n [] = n ∧ allF n G [] = G := by
  have hR : rightB n ([] : List Drt) = true := by simp [rightB, h]
  refine ⟨hR, by simp [syncF, hR, app], by simp [syncD, hR], ?_, ?_, by simp [pwF, hR, pickM, app], by simp [pwD, hR], by simp [allN, hR], by simp [allF, hR, app]⟩
  · unfold btF; split
    · simp [syncF, hR, app]
    · rfl
  · unfold btD; split
    · simp [syncD, hR]
    · rfl
def refS (p : Bool) : Sns := if p then (7, 39, 0) else (2, 58, 0)
theorem put_ref {n : Nat} {G : List UInt8} (p : Bool) (at_ : Int) (X : List UInt8) (th : Bool) : putS n [] p true at_ = refS p ∧ ptF n G [] (refS p) at_ X th = G ∧ ptD n [] (refS p) at_ X th = [] := by
  cases p
  · refine ⟨?_, rfl, rfl⟩
    unfold putS; split <;> rfl
  · refine ⟨?_, rfl, rfl⟩
    unfold putS; split <;> rfl
set_option maxRecDepth 20000 in
set_option maxHeartbeats 16000000 in
theorem slotProtects_walk (hal : Alive5) (v0 v1 : Value) (w : World) (h0 : RSlot w v0) (h1 : RActs5 w v1) :
    Calls Try.prog 6 #[v0, v1] w fun e w' => e = .returned (.bool true) ∧ Below w.heap.size w w' := by
  obtain ⟨n, F, D, p, r, l, hs⟩ := h0
  have S := hide hs
  obtain ⟨ab, cb, aD, k, cD, rfl, HK, hn, hk⟩ := hs.shape
  have HM := hide hs.med
  clear hs
  obtain ⟨acts, hoka, hacts⟩ := h1
  obtain ⟨ka, hka⟩ : ∃ ka, ka = acts.length := ⟨_, rfl⟩
  rw [← hka] at hacts
  obtain ⟨aL, cL, rfl⟩ := hacts.shape
  have hkm : ka ≤ 9223372036854775807 := by have := hacts.2.1; unfold maxLen at this; omega
  have ACT := hide hacts
  have HOK := hide hoka
  have HKA := hide hka
  clear hacts hoka hka
  have BX : Hid (Box (w.alloc (.cells #[.slice ab n cb, .slice aD k cD, .bool p, .bool r, .bool l] 27)) w.heap.size 27 (tc (.slice ab n cb) (.slice aD k cD) p r l)) := Box.new w 27 #[.slice ab n cb, .slice aD k cD, .bool p, .bool r, .bool l]
  have L := hide ((Later.refl w).alloc (.cells #[.slice ab n cb, .slice aD k cD, .bool p, .bool r, .bool l] 27))
  go_enter Try.func6, Try.ntmps6
  go_wp2_with fail
  refine (hal _).mono ?_
  rintro e w1 ⟨rfl, hl⟩
  replace BX := hide (BX.out.later hl)
  replace L := hide (L.out.later hl)
  clear hl
  have d0 := BX.out.cell 0
  have d1 := BX.out.cell 1
  go_wp2_with fail
  refine (rgreat_c _ (HM.out.later L.out)).mono ?_
  clear d0 d1
  rintro e w2 ⟨rfl, hl⟩
  replace BX := hide (BX.out.later hl)
  replace L := hide (L.out.later hl)
  clear hl
  cases hg : greatB n D with
  | true =>
    go_wp2
    go_ret
    exact ⟨rfl, L.out⟩
  | false =>
  have hnk : n ≤ 70 ∧ k ≤ 70 := by have := HK.out; simp [greatB] at hg; omega
  have HD : Hid (D.length ≤ 100) := by have := HK.out; unfold Hid; omega
  clear hg
  by_cases h60 : 60 < ka
  · have h60' : (60 : Int) < (ka : Int) := by omega
    go_wp2
    go_ret
    exact ⟨rfl, L.out⟩
  have h60' : ¬ (60 : Int) < (ka : Int) := by omega
  have d0 := BX.out.cell 0
  have d1 := BX.out.cell 1
  go_wp2_with fail
  refine (rright_c _ (HM.out.later L.out)).mono ?_
  clear d0 d1
  rintro e w3 ⟨rfl, hl⟩
  replace BX := hide (BX.out.later hl)
  replace L := hide (L.out.later hl)
  clear hl
  cases hR : rightB n D with
  | false =>
    go_wp2
    go_ret
    exact ⟨rfl, L.out⟩
  | true =>
  have HR := hide hR
  have hn64 : n ≤ 64 := ((right_iff n D).1 hR).1
  clear hR
  have d0 := BX.out.cell 0
  have d1 := BX.out.cell 1
  have d2 := BX.out.cell 2
  have d3 := BX.out.cell 3
  have d4 := BX.out.cell 4
  go_wp2_with fail
  have hq := sswitch_c _ n F D p r l false w3 (S.out.later L.out) (by omega) HD.out
  rw [show swF false r n F D = F from by simp [swF], show swD false r n D = D from by simp [swD]] at hq
  refine hq.mono ?_
  clear hq d0 d1 d2 d3 d4
  rintro e w4 ⟨v4, rfl, hl, h4⟩
  replace BX := hide (BX.out.later hl)
  replace L := hide (L.out.later hl)
  have S4 := hide h4
  obtain ⟨p4, c4, q4, k4, d4, rfl, _, _, _⟩ := h4.shape
  clear hl h4
  go_wp2_with fail
  have hq := sswitch_c _ n F D p false l true w4 S4.out (by omega) HD.out
  rw [show swF true false n F D = app F D from by simp [swF, syncF, HR.out], show swD true false n D = [] from by simp [swD, syncD, HR.out]] at hq
  refine hq.mono ?_
  clear hq
  rintro e w5 ⟨v5, rfl, hl, h5⟩
  replace BX := hide (BX.out.later hl)
  replace L := hide (L.out.later hl)
  have S5 := hide h5
  obtain ⟨p5, c5, q5, k5, d5, rfl, _, _, _⟩ := h5.shape
  clear hl h5 S4
  go_wp2_with (refine wpList_storeT rfl 27 (.tmp 2) (.tmp 28) rfl w.heap.size 0 rfl (tc (.slice p5 n c5) (.slice q5 k5 d5) p true l) rfl Try.info_slot (tc_one _ _ _ _ _ _ _ _ _) _ _ BX.out (by simp) ?_)
  intro w6 hw6
  have BX3 := hide (BX.out.all (tc (.slice p5 n c5) (.slice q5 k5 d5) p true l) rfl)
  have L3 := hide (L.out.setCells (g := w.heap.size) (Nat.le_refl _) (tc (.slice p5 n c5) (.slice q5 k5 d5) p true l) 0)
  have S3 := hide (S5.out.setBox BX.out (tc_noints _ _ _ _ _ _ _ _ _) (tc (.slice p5 n c5) (.slice q5 k5 d5) p true l) 0)
  rw [← hw6.out] at BX3 L3 S3
  clear BX L S5 hw6
  have BX := BX3
  have L := L3
  have S5 := S3
  clear BX3 L3 S3
  have hG : Hid (∃ G, app F D = G) := ⟨_, rfl⟩
  obtain ⟨G, hGe⟩ := hG.out
  rw [hGe] at S5
  clear hG hGe HR S HM HK
  have d0 := BX.out.cell 0
  have d1 := BX.out.cell 1
  go_wp2_with fail
  have hq := rall_b w6 (Slt.med S5.out)
  rw [(rest_nil (G := G) hn64 true true 0).2.2.2.2.2.2.2.1, (rest_nil (G := G) hn64 true true 0).2.2.2.2.2.2.2.2] at hq
  refine hq.mono ?_
  clear hq d0 d1
  rintro e w7 ⟨vs, rfl, hl, h7⟩
  replace BX := hide (BX.out.later hl)
  replace L := hide (L.out.later hl)
  replace S5 := hide (S5.out.later hl)
  have RS := hide h7
  obtain ⟨aS, cS, rfl⟩ := h7.shape
  clear hl h7
  go_wp2_with fail
  go_loopw [6] (fun i W => ∃ (q : Nat) (pp ll : Bool) (p1 : Option Addr) (p2 : Nat) (s1 : Option Addr) (k1 s2 : Nat), q ≤ ka ∧ i = .int .i64 q ∧ Hid (Box W w.heap.size 27 (tc (.slice p1 n p2) (.slice s1 k1 s2) pp true ll)) ∧ Hid (Slt W (slv p1 n p2 s1 k1 s2 pp true ll) n G [] pp true ll) ∧ Hid (Rw 64 W (.slice aS n cS) n (bv G)) ∧ Hid (Later w W)) (fun i _ => ka - (intOf i).toNat)
  case atStart => exact ⟨0, p, l, p5, c5, q5, k5, d5, Nat.zero_le _, rfl, BX, S5, RS, L⟩
  case round =>
    clear BX S5 RS L
    obtain ⟨q, pp, ll, p1, p2, s1, k1, s2, hq, rfl, BX, SO, RS, L⟩ := hrel
    by_cases hlt : q < ka
    · obtain ⟨bL, oL, rfl, hrL⟩ := ACT.out.lies? (by omega)
      have HRL := hide hrL
      have hqa : q < acts.length := by have := HKA.out; omega
      have hz := HOK.out acts[q] (List.getElem_mem hqa)
      have hat0 := av5_at acts q hqa
      rcases hact : acts[q] with ⟨dd, at_, fl, th⟩
      simp only [hact] at hat0 hz
      have hat := hide hat0
      clear hat0 hact hrL
      have hdd : dd.toNat < 256 := dd.toNat_lt
      have hfl : fl.toNat < 256 := fl.toNat_lt
      obtain ⟨mm, hmm, hme⟩ : ∃ mm : Nat, mm < 7 ∧ ((dd.toNat : Int) % 7) = (mm : Int) := ⟨dd.toNat % 7, by omega, by omega⟩
      have HRn := hide (rest_nil (G := G) hn64 pp ll fl.toNat)
      have d0 := BX.out.cell 0
      have d1 := BX.out.cell 1
      have d2 := BX.out.cell 2
      have d3 := BX.out.cell 3
      have d4 := BX.out.cell 4
      go_wp2_with (refine wpList_newT rfl rfl rfl 7 rfl (by simp) (.tmp 38) (by simp) rfl p1 s1 n p2 k1 s2 pp true ll rfl ?_)
      intro g7 ww1 hB hl hg
      have hg7 : g7 ≠ w.heap.size := by have h1 := BX.out.lt; have h2 := hg.out.1; omega
      clear d0 d1 d2 d3 d4
      replace BX := hide (BX.out.later hl)
      replace L := hide (L.out.later hl)
      replace SO := hide (SO.out.later hl)
      replace RS := hide (RS.out.later hl)
      have BW := hide hB
      clear hl hB hg
      have j0 := (L.out.range HRL.out) _ _ hat.out.1
      have d0 := BX.out.cell 0
      have d1 := BX.out.cell 1
      have d2 := BX.out.cell 2
      have d3 := BX.out.cell 3
      have d4 := BX.out.cell 4
      go_upto_block 2 with fail
      clear j0
      go_cut [8, 9] from 32 to 161 (fun xa xb wx => ∃ (pz lz : Bool) (pN : Option Addr) (cN : Nat) (qN : Option Addr) (kN dN : Nat), Hid (Box wx w.heap.size 27 (tc (.slice pN n cN) (.slice qN kN dN) pz true lz)) ∧ Hid (Slt wx (slv pN n cN qN kN dN pz true lz) n G [] pz true lz) ∧ Hid (Rw 64 wx (.slice aS n cS) n (bv G)) ∧ Hid (Later w wx) ∧ Hid (Box wx g7 27 (tc (.slice p1 n p2) (.slice s1 k1 s2) pp true ll)) ∧ (ll = true → pp = true → mm ≠ 5 → pz = true))
      case first =>
        rcases (show mm = 0 ∨ mm = 1 ∨ mm = 2 ∨ mm = 3 ∨ mm = 4 ∨ mm = 5 ∨ mm = 6 by omega) with rfl | rfl | rfl | rfl | rfl | rfl | rfl
        · have hmd : ((dd.toNat : Int) % 7) = 0 := by simpa using hme
          clear hme hmm
          go_wp2_with fail
          clear d0 d1 d2 d3 d4
          have hq := sinsert_c _ n G [] pp true ll ww1 SO.out (by omega) (by simp)
          refine hq.mono ?_
          clear hq SO
          rintro e ww2 ⟨vN, rfl, hl, hN⟩
          replace BX := hide (BX.out.later hl)
          replace L := hide (L.out.later hl)
          replace RS := hide (RS.out.later hl)
          replace BW := hide (BW.out.later hl)
          have SN := hide hN
          obtain ⟨pN, cN, qN, kN, dN, rfl, _, _, _⟩ := hN.shape
          clear hl hN
          go_wp2_with (refine wpList_storeT rfl 27 (.tmp 2) (.tmp 52) rfl w.heap.size 0 rfl (tc (.slice pN n cN) (.slice qN kN dN) true true ll) rfl Try.info_slot (tc_one _ _ _ _ _ _ _ _ _) _ _ BX.out (by simp) ?_)
          intro ww3 hu3
          have BX3 := hide (BX.out.all (tc (.slice pN n cN) (.slice qN kN dN) true true ll) rfl)
          have L3 := hide (L.out.setCells (g := w.heap.size) (Nat.le_refl _) (tc (.slice pN n cN) (.slice qN kN dN) true true ll) 0)
          have S3 := hide (SN.out.setBox BX.out (tc_noints _ _ _ _ _ _ _ _ _) (tc (.slice pN n cN) (.slice qN kN dN) true true ll) 0)
          have R3 := hide (RS.out.setBox (bv_ints G) BX.out (tc_noints _ _ _ _ _ _ _ _ _) (tc (.slice pN n cN) (.slice qN kN dN) true true ll) 0)
          have W3 := hide (BW.out.kept (heap_setCells_other ww2 w.heap.size g7 hg7 (tc (.slice pN n cN) (.slice qN kN dN) true true ll) 0))
          rw [← hu3.out] at BX3 L3 S3 R3 W3
          clear BX L SN RS BW hu3
          have BX := BX3
          have L := L3
          have SN := S3
          have RS := R3
          have BW := W3
          clear BX3 L3 S3 R3 W3
          go_wp2
          go_meet
          exact ⟨true, ll, pN, cN, qN, kN, dN, BX, SN, RS, L, BW, fun _ _ _ => rfl⟩
        · have hmd : ((dd.toNat : Int) % 7) = 1 := by simpa using hme
          clear hme hmm
          go_wp2_with fail
          clear d0 d1 d2 d3 d4
          have hq := sbutton_c _ n G [] pp true ll ww1 SO.out (by omega) (by simp)
          rw [HRn.out.2.2.2.1, HRn.out.2.2.2.2.1] at hq
          refine hq.mono ?_
          clear hq SO
          rintro e ww2 ⟨vN, rfl, hl, hN⟩
          replace BX := hide (BX.out.later hl)
          replace L := hide (L.out.later hl)
          replace RS := hide (RS.out.later hl)
          replace BW := hide (BW.out.later hl)
          have SN := hide hN
          obtain ⟨pN, cN, qN, kN, dN, rfl, _, _, _⟩ := hN.shape
          clear hl hN
          go_wp2_with (refine wpList_storeT rfl 27 (.tmp 2) (.tmp 59) rfl w.heap.size 0 rfl (tc (.slice pN n cN) (.slice qN kN dN) (pp && ll) true ll) rfl Try.info_slot (tc_one _ _ _ _ _ _ _ _ _) _ _ BX.out (by simp) ?_)
          intro ww3 hu3
          have BX3 := hide (BX.out.all (tc (.slice pN n cN) (.slice qN kN dN) (pp && ll) true ll) rfl)
          have L3 := hide (L.out.setCells (g := w.heap.size) (Nat.le_refl _) (tc (.slice pN n cN) (.slice qN kN dN) (pp && ll) true ll) 0)
          have S3 := hide (SN.out.setBox BX.out (tc_noints _ _ _ _ _ _ _ _ _) (tc (.slice pN n cN) (.slice qN kN dN) (pp && ll) true ll) 0)
          have R3 := hide (RS.out.setBox (bv_ints G) BX.out (tc_noints _ _ _ _ _ _ _ _ _) (tc (.slice pN n cN) (.slice qN kN dN) (pp && ll) true ll) 0)
          have W3 := hide (BW.out.kept (heap_setCells_other ww2 w.heap.size g7 hg7 (tc (.slice pN n cN) (.slice qN kN dN) (pp && ll) true ll) 0))
          rw [← hu3.out] at BX3 L3 S3 R3 W3
          clear BX L SN RS BW hu3
          have BX := BX3
          have L := L3
          have SN := S3
          have RS := R3
          have BW := W3
          clear BX3 L3 S3 R3 W3
          go_wp2
          go_meet
          exact ⟨(pp && ll), ll, pN, cN, qN, kN, dN, BX, SN, RS, L, BW, fun h1 h2 _ => by rw [h1, h2]; rfl⟩
        · have hmd : ((dd.toNat : Int) % 7) = 2 := by simpa using hme
          clear hme hmm
          go_wp2_with fail
          clear d0 d1 d2 d3 d4
          have hq := sunload_c _ n G [] pp true ll ww1 SO.out (by omega) (by simp)
          rw [HRn.out.2.2.2.1, HRn.out.2.2.2.2.1] at hq
          refine hq.mono ?_
          clear hq SO
          rintro e ww2 ⟨vN, rfl, hl, hN⟩
          replace BX := hide (BX.out.later hl)
          replace L := hide (L.out.later hl)
          replace RS := hide (RS.out.later hl)
          replace BW := hide (BW.out.later hl)
          have SN := hide hN
          obtain ⟨pN, cN, qN, kN, dN, rfl, _, _, _⟩ := hN.shape
          clear hl hN
          go_wp2_with (refine wpList_storeT rfl 27 (.tmp 2) (.tmp 66) rfl w.heap.size 0 rfl (tc (.slice pN n cN) (.slice qN kN dN) (pp && ll) true ll) rfl Try.info_slot (tc_one _ _ _ _ _ _ _ _ _) _ _ BX.out (by simp) ?_)
          intro ww3 hu3
          have BX3 := hide (BX.out.all (tc (.slice pN n cN) (.slice qN kN dN) (pp && ll) true ll) rfl)
          have L3 := hide (L.out.setCells (g := w.heap.size) (Nat.le_refl _) (tc (.slice pN n cN) (.slice qN kN dN) (pp && ll) true ll) 0)
          have S3 := hide (SN.out.setBox BX.out (tc_noints _ _ _ _ _ _ _ _ _) (tc (.slice pN n cN) (.slice qN kN dN) (pp && ll) true ll) 0)
          have R3 := hide (RS.out.setBox (bv_ints G) BX.out (tc_noints _ _ _ _ _ _ _ _ _) (tc (.slice pN n cN) (.slice qN kN dN) (pp && ll) true ll) 0)
          have W3 := hide (BW.out.kept (heap_setCells_other ww2 w.heap.size g7 hg7 (tc (.slice pN n cN) (.slice qN kN dN) (pp && ll) true ll) 0))
          rw [← hu3.out] at BX3 L3 S3 R3 W3
          clear BX L SN RS BW hu3
          have BX := BX3
          have L := L3
          have SN := S3
          have RS := R3
          have BW := W3
          clear BX3 L3 S3 R3 W3
          go_wp2
          go_meet
          exact ⟨(pp && ll), ll, pN, cN, qN, kN, dN, BX, SN, RS, L, BW, fun h1 h2 _ => by rw [h1, h2]; rfl⟩
        · have hmd : ((dd.toNat : Int) % 7) = 3 := by simpa using hme
          clear hme hmm
          obtain ⟨X, hX⟩ : ∃ X, X = List.replicate 64 fl := ⟨_, rfl⟩
          have HXl : Hid (X.length = 64) := by unfold Hid; rw [hX]; simp
          have cX : Hid (∀ w : World, Calls Try.prog 37 #[.int .u8 (fl.toNat : Int)] w fun e w' => e = .returned (.agg (bv X).toArray) ∧ Later w w') := fun w => by rw [hX]; exact lfilled5_c fl w
          clear hX
          go_wp2_with fail
          clear d0 d1 d2 d3 d4
          have hwd := (Later.refl ww1).drew
          have hc := fun r => (hwd.trans (later_rg ww1.drew r))
          have x0 := fun r => (BX.out.later (hc r)).cell 0
          have x1 := fun r => (BX.out.later (hc r)).cell 1
          have x2 := fun r => (BX.out.later (hc r)).cell 2
          have x3 := fun r => (BX.out.later (hc r)).cell 3
          have x4 := fun r => (BX.out.later (hc r)).cell 4
          have i1 := fun r => ((L.out.trans (hc r)).range HRL.out) _ _ hat.out.2.1
          have i2 := fun r => ((L.out.trans (hc r)).range HRL.out) _ _ hat.out.2.2.1
          have i3 := fun r => ((L.out.trans (hc r)).range HRL.out) _ _ hat.out.2.2.2
          simp only [← Nat.add_assoc] at i1 i2 i3
          refine wp_region_bag [0, 1, 2, 3, 4, 5, 6, 7, 8, 9, 10, 11, 12, 13, 14, 15, 16] [17, 18, 19, 20, 21, 22, 23, 24] [23, 24] (by kernel_rfl) (by kernel_rfl) (by kernel_rfl) (by kernel_rfl) ?_
          iterate 11 (refine wpM_mild rfl (fun K hK => ?_); go_simp; refine hK _ ?_; clear hK K)
          refine wpM_call rfl (by kernel_rfl) 37 (Plain.of (by kernel_rfl)) [.tmp 81] _ rfl [.int .u8 (fl.toNat : Int)] rfl (.agg (bv X).toArray) (fun wx hx => cX.out wx) ?_
          iterate 5 (refine wpM_mild rfl (fun K hK => ?_); go_simp; refine hK _ ?_; clear hK K)
          clear x0 x1 x2 x3 x4 i1 i2 i3 hc
          have HPR := hide (put_ref (n := n) (G := G) pp at_ X th)
          refine wpM_nil (putnew_acts n G [] pp true ll (refS pp) [.tmp 71, .tmp 76, .tmp 82, .tmp 87] _ [slv p1 n p2 s1 k1 s2 pp true ll, .int .i64 at_, .agg (bv X).toArray, .bool th] rfl
            ⟨_, rfl, rfl, rfl, rfl⟩ ⟨_, rfl, rfl, rfl, rfl⟩ ⟨_, rfl, rfl, rfl, rfl⟩ ⟨_, rfl, rfl, rfl, rfl⟩ ⟨_, rfl, rfl, rfl, rfl⟩ ⟨_, rfl, rfl, rfl, rfl⟩ ⟨_, rfl, rfl, rfl, rfl⟩ ⟨_, rfl, rfl, rfl, rfl⟩ (of_decide_eq_true (by kernel_rfl)) (by kernel_rfl) ?k4 ?k5)
          case k4 =>
            intro W h
            have hq := sput_c _ n G [] pp true ll at_ X th W (SO.out.later (hwd.trans h)) HXl.out hz.1 hz.2 (by omega) (by simp)
            rw [HPR.out.1, HPR.out.2.1, HPR.out.2.2] at hq
            exact hq
          intro pN cN qN kN dN g8 g9 ww2 hL hb8 hb9 hm9 _
          have ii1 := hwd.trans hL
          replace BX := hide (BX.out.later ii1)
          replace L := hide (L.out.later ii1)
          replace RS := hide (RS.out.later ii1)
          replace BW := hide (BW.out.later ii1)
          have B8 := hide hb8
          have B9 := hide hb9
          have SN := hide hm9
          clear ii1 hL hb8 hb9 hm9 hwd SO HPR
          have hwd := (Later.refl ww2).drew
          have hc := fun r => (hwd.trans (later_rg ww2.drew r))
          have x2 := fun r => (BX.out.later (hc r)).cell 2
          cases pp with
          | true =>
            go_wp2_with fail
            refine wp_region_sched ((List.range 17).map fun i => (i, false)) (by kernel_rfl) (by kernel_rfl) (by kernel_rfl) (by kernel_rfl) ?_
            simp only [List.range, List.range.loop, List.map]
            iterate 3 (refine wpS_mild rfl (fun K hK => ?_); go_simp; refine hK _ ?_; clear hK K)
            refine wpS_loadG rfl (by kernel_rfl) 35 (.tmp 9) rfl g9 0 rfl (sc (7, 39, 0)) _ ((World.rangeAt_drew _ _ _ _).2 B9.out.range) Try.underlying35 rfl Try.info_sense ?_
            refine wpS_call rfl (by kernel_rfl) 38 (Plain.of (by kernel_rfl)) [.const (.int .i64 7), .const (.int .i64 39), .const (.int .i64 0)] _ rfl [.int .i64 7, .int .i64 39, .int .i64 0] rfl (sval (7, 39, 0)) (fun wx hx => rof_c 7 39 0 wx) ?_
            refine wpS_neqG rfl (by kernel_rfl) 35 _ (.tmp 94) (.tmp 95) rfl _ _ rfl rfl Try.guard_sense true (fun w => sense_eq (7, 39, 0) (7, 39, 0) w) ?_
            iterate 11 (refine wpS_mild rfl (fun K hK => ?_); go_simp; refine hK _ ?_; clear hK K)
            refine wpS_nil (fun ww4 hx => ?_)
            have hlx := hwd.trans hx
            clear x2 hc hwd hx B9
            replace BX := hide (BX.out.later hlx)
            replace L := hide (L.out.later hlx)
            replace SN := hide (SN.out.later hlx)
            replace RS := hide (RS.out.later hlx)
            replace BW := hide (BW.out.later hlx)
            replace B8 := hide (B8.out.later hlx)
            clear hlx
            have d0 := B8.out.cell 0
            have d1 := B8.out.cell 1
            have d2 := B8.out.cell 2
            have d3 := B8.out.cell 3
            have d4 := B8.out.cell 4
            go_wp2_with (refine wpList_storeT rfl 27 (.tmp 2) (.tmp 108) rfl w.heap.size 0 rfl (tc (.slice pN n cN) (.slice qN kN dN) true true ll) rfl Try.info_slot (tc_one _ _ _ _ _ _ _ _ _) _ _ BX.out (by simp) ?_)
            intro ww3 hu3
            have BX3 := hide (BX.out.all (tc (.slice pN n cN) (.slice qN kN dN) true true ll) rfl)
            have L3 := hide (L.out.setCells (g := w.heap.size) (Nat.le_refl _) (tc (.slice pN n cN) (.slice qN kN dN) true true ll) 0)
            have S3 := hide (SN.out.setBox BX.out (tc_noints _ _ _ _ _ _ _ _ _) (tc (.slice pN n cN) (.slice qN kN dN) true true ll) 0)
            have R3 := hide (RS.out.setBox (bv_ints G) BX.out (tc_noints _ _ _ _ _ _ _ _ _) (tc (.slice pN n cN) (.slice qN kN dN) true true ll) 0)
            have W3 := hide (BW.out.kept (heap_setCells_other ww4 w.heap.size g7 hg7 (tc (.slice pN n cN) (.slice qN kN dN) true true ll) 0))
            rw [← hu3.out] at BX3 L3 S3 R3 W3
            clear BX L SN RS BW hu3
            have BX := BX3
            have L := L3
            have SN := S3
            have RS := R3
            have BW := W3
            clear BX3 L3 S3 R3 W3
            clear d0 d1 d2 d3 d4 B8
            go_wp2
            go_meet
            exact ⟨true, ll, pN, cN, qN, kN, dN, BX, SN, RS, L, BW, fun _ _ _ => rfl⟩
          | false =>
            go_wp2_with fail
            refine wp_region_sched ((List.range 17).map fun i => (i, false)) (by kernel_rfl) (by kernel_rfl) (by kernel_rfl) (by kernel_rfl) ?_
            simp only [List.range, List.range.loop, List.map]
            iterate 12 (refine wpS_mild rfl (fun K hK => ?_); go_simp; refine hK _ ?_; clear hK K)
            refine wpS_loadG rfl (by kernel_rfl) 35 (.tmp 9) rfl g9 0 rfl (sc (2, 58, 0)) _ ((World.rangeAt_drew _ _ _ _).2 B9.out.range) Try.underlying35 rfl Try.info_sense ?_
            refine wpS_call rfl (by kernel_rfl) 38 (Plain.of (by kernel_rfl)) [.const (.int .i64 2), .const (.int .i64 58), .const (.int .i64 0)] _ rfl [.int .i64 2, .int .i64 58, .int .i64 0] rfl (sval (2, 58, 0)) (fun wx hx => rof_c 2 58 0 wx) ?_
            refine wpS_neqG rfl (by kernel_rfl) 35 _ (.tmp 103) (.tmp 104) rfl _ _ rfl rfl Try.guard_sense true (fun w => sense_eq (2, 58, 0) (2, 58, 0) w) ?_
            iterate 2 (refine wpS_mild rfl (fun K hK => ?_); go_simp; refine hK _ ?_; clear hK K)
            refine wpS_nil (fun ww4 hx => ?_)
            have hlx := hwd.trans hx
            clear x2 hc hwd hx B9
            replace BX := hide (BX.out.later hlx)
            replace L := hide (L.out.later hlx)
            replace SN := hide (SN.out.later hlx)
            replace RS := hide (RS.out.later hlx)
            replace BW := hide (BW.out.later hlx)
            replace B8 := hide (B8.out.later hlx)
            clear hlx
            have d0 := B8.out.cell 0
            have d1 := B8.out.cell 1
            have d2 := B8.out.cell 2
            have d3 := B8.out.cell 3
            have d4 := B8.out.cell 4
            go_wp2_with (refine wpList_storeT rfl 27 (.tmp 2) (.tmp 108) rfl w.heap.size 0 rfl (tc (.slice pN n cN) (.slice qN kN dN) false true ll) rfl Try.info_slot (tc_one _ _ _ _ _ _ _ _ _) _ _ BX.out (by simp) ?_)
            intro ww3 hu3
            have BX3 := hide (BX.out.all (tc (.slice pN n cN) (.slice qN kN dN) false true ll) rfl)
            have L3 := hide (L.out.setCells (g := w.heap.size) (Nat.le_refl _) (tc (.slice pN n cN) (.slice qN kN dN) false true ll) 0)
            have S3 := hide (SN.out.setBox BX.out (tc_noints _ _ _ _ _ _ _ _ _) (tc (.slice pN n cN) (.slice qN kN dN) false true ll) 0)
            have R3 := hide (RS.out.setBox (bv_ints G) BX.out (tc_noints _ _ _ _ _ _ _ _ _) (tc (.slice pN n cN) (.slice qN kN dN) false true ll) 0)
            have W3 := hide (BW.out.kept (heap_setCells_other ww4 w.heap.size g7 hg7 (tc (.slice pN n cN) (.slice qN kN dN) false true ll) 0))
            rw [← hu3.out] at BX3 L3 S3 R3 W3
            clear BX L SN RS BW hu3
            have BX := BX3
            have L := L3
            have SN := S3
            have RS := R3
            have BW := W3
            clear BX3 L3 S3 R3 W3
            clear d0 d1 d2 d3 d4 B8
            go_wp2
            go_meet
            exact ⟨false, ll, pN, cN, qN, kN, dN, BX, SN, RS, L, BW, fun _ h _ => by cases h⟩
        · have hmd : ((dd.toNat : Int) % 7) = 4 := by simpa using hme
          clear hme hmm
          go_wp2_with fail
          clear d0 d1 d2 d3 d4
          have hwd := (Later.refl ww1).drew
          have hc := fun r => (hwd.trans (later_rg ww1.drew r))
          have x0 := fun r => (BX.out.later (hc r)).cell 0
          have x1 := fun r => (BX.out.later (hc r)).cell 1
          have x2 := fun r => (BX.out.later (hc r)).cell 2
          have x3 := fun r => (BX.out.later (hc r)).cell 3
          have x4 := fun r => (BX.out.later (hc r)).cell 4
          have i1 := fun r => ((L.out.trans (hc r)).range HRL.out) _ _ hat.out.2.1
          have i2 := fun r => ((L.out.trans (hc r)).range HRL.out) _ _ hat.out.2.2.1
          have i3 := fun r => ((L.out.trans (hc r)).range HRL.out) _ _ hat.out.2.2.2
          simp only [← Nat.add_assoc] at i1 i2 i3
          refine wp_region_bag [0, 1, 2, 3, 4, 5] [6, 7, 8, 9, 10] [10] (by kernel_rfl) (by kernel_rfl) (by kernel_rfl) (by kernel_rfl) ?_
          iterate 6 (refine wpM_mild rfl (fun K hK => ?_); go_simp; refine hK _ ?_; clear hK K)
          clear x0 x1 x2 x3 x4 i1 i2 i3 hc
          refine wpM_nil (keepold w w.heap.size n G [] pp true (if pp = true then th else ll) (readyS pp) [.tmp 112, .tmp 117] _ [slv p1 n p2 s1 k1 s2 pp true ll, .bool th] rfl
            (fun W => Slt W (slv p1 n p2 s1 k1 s2 pp true ll) n G [] pp true ll ∧ Rw 64 W (.slice aS n cS) n (bv G) ∧ Box W g7 27 (tc (.slice p1 n p2) (.slice s1 k1 s2) pp true ll))
            ⟨_, rfl, rfl, rfl, rfl⟩ ⟨_, rfl, rfl, rfl, rfl⟩ ⟨_, rfl, rfl, rfl, rfl⟩ ⟨_, rfl, rfl, rfl, rfl⟩ ⟨_, rfl, rfl, rfl, rfl⟩ (of_decide_eq_true (by kernel_rfl)) rfl (by kernel_rfl) ⟨SO.out.later hwd, RS.out.later hwd, BW.out.later hwd⟩ ?m1 ?m2 _ (tc_noints _ _ _ _ _ _ _ _ _) rfl (BX.out.later hwd) (L.out.trans hwd) (Nat.le_refl _) ?m4 ?m5)
          case m1 => exact fun W W' hl h => ⟨h.1.later hl, h.2.1.later hl, h.2.2.later hl⟩
          case m2 => exact fun W cr cs h hB hn => ⟨h.1.setBox hB hn _ 0, h.2.1.setBox (bv_ints G) hB hn _ 0, h.2.2.kept (heap_setCells_other W _ _ hg7 _ _)⟩
          case m4 => exact fun W h => skeep_c _ n G [] pp true ll th W h.1 (by omega) (by simp)
          clear BX SO RS BW L hwd
          intro pN cN qN kN dN ww3 hL hK hb hm
          have L := hide hL
          have BX := hide hb
          have SN := hide hm
          have RS := hide hK.2.1
          have BW := hide hK.2.2
          clear hL hK hb hm
          generalize hlk : (if pp = true then th else ll) = lk at *
          clear hlk
          go_wp2
          go_meet
          exact ⟨pp, lk, pN, cN, qN, kN, dN, BX, SN, RS, L, BW, fun _ h _ => h⟩
        · have hmd : ((dd.toNat : Int) % 7) = 5 := by simpa using hme
          clear hme hmm
          have hwf : IntKind.u64.wrap (fl.toNat : Int) = (fl.toNat : Int) := by rw [IntKind.wrap_u64]; omega
          go_wp2_with fail
          clear d0 d1 d2 d3 d4
          have hwd := (Later.refl ww1).drew
          have hc := fun r => (hwd.trans (later_rg ww1.drew r))
          have x0 := fun r => (BX.out.later (hc r)).cell 0
          have x1 := fun r => (BX.out.later (hc r)).cell 1
          have x2 := fun r => (BX.out.later (hc r)).cell 2
          have x3 := fun r => (BX.out.later (hc r)).cell 3
          have x4 := fun r => (BX.out.later (hc r)).cell 4
          have i1 := fun r => ((L.out.trans (hc r)).range HRL.out) _ _ hat.out.2.1
          have i2 := fun r => ((L.out.trans (hc r)).range HRL.out) _ _ hat.out.2.2.1
          have i3 := fun r => ((L.out.trans (hc r)).range HRL.out) _ _ hat.out.2.2.2
          simp only [← Nat.add_assoc] at i1 i2 i3
          refine wp_region_tree [0, 1, 2, 3, 4, 5, 6] [7] [8] (by kernel_rfl) (by kernel_rfl) (by kernel_rfl) (by kernel_rfl) ?_
          iterate 7 (refine wpT_mild rfl (fun K hK => ?_); go_simp; refine hK _ ?_; clear hK K)
          clear x0 x1 x2 x3 x4 i1 i2 i3 hc
          try simp only [hwf]
          refine wpT_one (fun v W => Slt W v n G [] pp true false) (by kernel_rfl) (fun v W W' hl h => h.later hl) (fun W hl => ?_) ?_
          · refine lVal_step rfl (fun K hK => ?_)
            go_simp
            have hq := spower_c _ n G [] pp true ll fl.toNat W (SO.out.later (hwd.trans hl)) (by omega) (by omega) (by simp)
            rw [HRn.out.2.2.2.2.2.1, HRn.out.2.2.2.2.2.2.1] at hq
            refine hq.mono ?_
            rintro e W' ⟨v', rfl, hl', hr⟩
            exact ⟨v', rfl, hl', hK _ _ hr⟩
          intro vN ww2 hl hN
          change wpL _ _ _ _ (Act.put _ (some 130) _) _
          have hl' := hwd.trans hl
          replace BX := hide (BX.out.later hl')
          replace L := hide (L.out.later hl')
          replace RS := hide (RS.out.later hl')
          replace BW := hide (BW.out.later hl')
          have SN := hide hN
          obtain ⟨pN, cN, qN, kN, dN, rfl, _, _, _⟩ := hN.shape
          clear hl hl' hN hwd SO
          refine wpL_store rfl (by kernel_rfl) 27 (.tmp 2) (.tmp 130) rfl w.heap.size 0 (tc (.slice pN n cN) (.slice qN kN dN) pp true false) rfl rfl (BX.out.there 0 5 (by simp)) Try.info_slot (tc_one _ _ _ _ _ _ _ _ _) (wpL_nil ?_)
          obtain ⟨ww3, hu3⟩ : ∃ ww3, Hid (ww3 = ww2.setCells w.heap.size 0 (tc (.slice pN n cN) (.slice qN kN dN) pp true false)) := ⟨_, rfl⟩
          rw [← hu3.out]
          have BX3 := hide (BX.out.all (tc (.slice pN n cN) (.slice qN kN dN) pp true false) rfl)
          have L3 := hide (L.out.setCells (g := w.heap.size) (Nat.le_refl _) (tc (.slice pN n cN) (.slice qN kN dN) pp true false) 0)
          have S3 := hide (SN.out.setBox BX.out (tc_noints _ _ _ _ _ _ _ _ _) (tc (.slice pN n cN) (.slice qN kN dN) pp true false) 0)
          have R3 := hide (RS.out.setBox (bv_ints G) BX.out (tc_noints _ _ _ _ _ _ _ _ _) (tc (.slice pN n cN) (.slice qN kN dN) pp true false) 0)
          have W3 := hide (BW.out.kept (heap_setCells_other ww2 w.heap.size g7 hg7 (tc (.slice pN n cN) (.slice qN kN dN) pp true false) 0))
          rw [← hu3.out] at BX3 L3 S3 R3 W3
          clear BX L SN RS BW hu3
          have BX := BX3
          have L := L3
          have SN := S3
          have RS := R3
          have BW := W3
          clear BX3 L3 S3 R3 W3
          go_wp2
          go_meet
          exact ⟨pp, false, pN, cN, qN, kN, dN, BX, SN, RS, L, BW, fun _ _ h => absurd rfl h⟩
        · have hmd : ((dd.toNat : Int) % 7) = 6 := by simpa using hme
          clear hme hmm
          go_wp2_with fail
          clear d0 d1 d2 d3 d4
          have hq := ssync_c _ n G [] pp true ll ww1 SO.out (by omega) (by simp)
          rw [HRn.out.2.1, HRn.out.2.2.1] at hq
          refine hq.mono ?_
          clear hq SO
          rintro e ww2 ⟨vN, rfl, hl, hN⟩
          replace BX := hide (BX.out.later hl)
          replace L := hide (L.out.later hl)
          replace RS := hide (RS.out.later hl)
          replace BW := hide (BW.out.later hl)
          have SN := hide hN
          obtain ⟨pN, cN, qN, kN, dN, rfl, _, _, _⟩ := hN.shape
          clear hl hN
          go_wp2_with (refine wpList_storeT rfl 27 (.tmp 2) (.tmp 46) rfl w.heap.size 0 rfl (tc (.slice pN n cN) (.slice qN kN dN) pp true ll) rfl Try.info_slot (tc_one _ _ _ _ _ _ _ _ _) _ _ BX.out (by simp) ?_)
          intro ww3 hu3
          have BX3 := hide (BX.out.all (tc (.slice pN n cN) (.slice qN kN dN) pp true ll) rfl)
          have L3 := hide (L.out.setCells (g := w.heap.size) (Nat.le_refl _) (tc (.slice pN n cN) (.slice qN kN dN) pp true ll) 0)
          have S3 := hide (SN.out.setBox BX.out (tc_noints _ _ _ _ _ _ _ _ _) (tc (.slice pN n cN) (.slice qN kN dN) pp true ll) 0)
          have R3 := hide (RS.out.setBox (bv_ints G) BX.out (tc_noints _ _ _ _ _ _ _ _ _) (tc (.slice pN n cN) (.slice qN kN dN) pp true ll) 0)
          have W3 := hide (BW.out.kept (heap_setCells_other ww2 w.heap.size g7 hg7 (tc (.slice pN n cN) (.slice qN kN dN) pp true ll) 0))
          rw [← hu3.out] at BX3 L3 S3 R3 W3
          clear BX L SN RS BW hu3
          have BX := BX3
          have L := L3
          have SN := S3
          have RS := R3
          have BW := W3
          clear BX3 L3 S3 R3 W3
          go_wp2
          go_meet
          exact ⟨pp, ll, pN, cN, qN, kN, dN, BX, SN, RS, L, BW, fun _ h _ => h⟩
      case rest =>
        clear BX SO RS L BW d0 d1 d2 d3 d4
        obtain ⟨pz, lz, pN, cN, qN, kN, dN, BX, SN, RS, L, BW, HPP⟩ := hcut
        have d0 := BX.out.cell 0
        have d1 := BX.out.cell 1
        have d2 := BX.out.cell 2
        have d3 := BX.out.cell 3
        have d4 := BX.out.cell 4
        go_wp2_with fail
        have hq := rall_b wc (Slt.med SN.out)
        rw [HRn.out.2.2.2.2.2.2.2.1, HRn.out.2.2.2.2.2.2.2.2] at hq
        refine hq.mono ?_
        rintro e t1 ⟨vA, rfl, hl, hA⟩
        clear hq d0 d1 d2 d3 d4
        replace BX := hide (BX.out.later hl)
        replace L := hide (L.out.later hl)
        replace SN := hide (SN.out.later hl)
        replace RS := hide (RS.out.later hl)
        replace BW := hide (BW.out.later hl)
        have RA := hide hA
        obtain ⟨aA, cA, rfl⟩ := hA.shape
        clear hl hA
        go_wp2_with fail
        refine (rsame_c t1 RA.out RS.out).mono ?_
        rw [show (G == G) = true from by simp]
        rintro e t2 ⟨rfl, hl⟩
        replace BX := hide (BX.out.later hl)
        replace L := hide (L.out.later hl)
        replace SN := hide (SN.out.later hl)
        replace RS := hide (RS.out.later hl)
        replace BW := hide (BW.out.later hl)
        clear hl RA
        have x3 := BX.out.cell 3
        have x2 := BX.out.cell 2
        have y2 := BW.out.cell 2
        have y4 := BW.out.cell 4
        have j0 := (L.out.range HRL.out) _ _ hat.out.1
        cases ll with
        | false =>
          go_wp2
          go_roundw
          case rel => exact ⟨q + 1, _, _, pN, cN, qN, kN, dN, by omega, by go_num, BX, SN, RS, L⟩
          case measure => simp [intOf]; omega
        | true =>
          cases pp with
          | false =>
            go_wp2
            go_roundw
            case rel => exact ⟨q + 1, _, _, pN, cN, qN, kN, dN, by omega, by go_num, BX, SN, RS, L⟩
            case measure => simp [intOf]; omega
          | true =>
            by_cases h5 : mm = 5
            · have hmd : ((dd.toNat : Int) % 7) = 5 := by rw [hme, h5]; rfl
              clear hme
              go_wp2
              go_roundw
              case rel => exact ⟨q + 1, _, _, pN, cN, qN, kN, dN, by omega, by go_num, BX, SN, RS, L⟩
              case measure => simp [intOf]; omega
            · have hpz := HPP rfl rfl h5
              subst hpz
              have hmb : ((mm : Int) != 5) = true := by rw [bne_iff_ne]; omega
              go_wp2
              go_roundw
              case rel => exact ⟨q + 1, _, _, pN, cN, qN, kN, dN, by omega, by go_num, BX, SN, RS, L⟩
              case measure => simp [intOf]; omega
    · have hqk : q = ka := by omega
      subst hqk
      go_wp2
      go_ret
      exact ⟨rfl, L.out⟩
end Go.Proofs.Ytkbpecbpfajkfaa
