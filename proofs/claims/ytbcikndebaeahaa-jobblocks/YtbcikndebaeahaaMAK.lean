import Derived.Test.YtbcikndebaeahaaMAJ
namespace Go.Proofs.Ytbcikndebaeahaa
open Go.ChangeShapes Go.WideShapes Go.ChangeAt Go.RowKit
set_option linter.unusedVariables false
set_option maxRecDepth 4000
set_option linter.unusedSimpArgs false
/-! The document's answers for slots: Ready, Switch, Power, Button. -/
def notReady : Sns := (2, 58, 0)
def readyS (p : Bool) : Sns := if p then (0, 0, 0) else notReady
def swF (on r : Bool) (n : Nat) (F : List UInt8) (D : List Drt) : List UInt8 := if on && !r then syncF n F D else F
def swD (on r : Bool) (n : Nat) (D : List Drt) : List Drt := if on && !r then syncD n D else D
set_option maxRecDepth 20000 in
set_option maxHeartbeats 2000000 in
theorem rswitch_c {v : Value} {n : Nat} {F : List UInt8} {D : List Drt} {p r l : Bool} (on : Bool) (w : World) (h : Slt w v n F D p r l) :
    Calls Try.prog 24 #[v, .bool on] w fun e w' => ∃ v', e = .returned v' ∧ Later w w' ∧ Slt w' v' n (swF on r n F D) (swD on r n D) p on l ∧ NewT w v v' := by
  have HS := hide h
  obtain ⟨ab, cb, aD, k, cD, rfl, hm⟩ := h
  have HM := hide hm
  clear hm
  by_cases ho : (on && !r) = true
  · have hF : Hid (swF on r n F D = syncF n F D ∧ swD on r n D = syncD n D) := by simp [Hid, swF, swD, ho]
    obtain ⟨rfl, rfl⟩ : on = true ∧ r = false := by simpa using ho
    clear ho
    have BX : Hid (Box ((w.alloc (.cells #[.slice ab n cb, .slice aD k cD, .bool p, .bool false, .bool l] 27)).alloc (.cells #[.slice none 0 0, .slice none 0 0, .bool false, .bool false, .bool false] 27)) w.heap.size 27 (tc (.slice ab n cb) (.slice aD k cD) p false l)) := (Box.new w 27 #[.slice ab n cb, .slice aD k cD, .bool p, .bool false, .bool l]).alloc _
    have BR : Hid (Box ((w.alloc (.cells #[.slice ab n cb, .slice aD k cD, .bool p, .bool false, .bool l] 27)).alloc (.cells #[.slice none 0 0, .slice none 0 0, .bool false, .bool false, .bool false] 27)) (w.heap.size + 1) 27 (tc (.slice none 0 0) (.slice none 0 0) false false false)) := Box.new' _ _ _ _ rfl _ (by simp)
    have L := hide (((Later.refl w).alloc (.cells #[.slice ab n cb, .slice aD k cD, .bool p, .bool false, .bool l] 27)).alloc (.cells #[.slice none 0 0, .slice none 0 0, .bool false, .bool false, .bool false] 27))
    go_enter Try.func24, Try.ntmps24
    go_wp2_with fail
    generalize ((w.alloc (.cells #[.slice ab n cb, .slice aD k cD, .bool p, .bool false, .bool l] 27)).alloc (.cells #[.slice none 0 0, .slice none 0 0, .bool false, .bool false, .bool false] 27)) = w1 at *
    refine (rsync_c w1 (HS.out.later L.out)).mono ?_
    rintro e w3 ⟨v3, rfl, hl, h3, hN⟩
    have HN : Hid (NewT w (.agg #[.slice ab n cb, .slice aD k cD, .bool p, .bool false, .bool l]) v3) := fun g hg h => hN g (Nat.lt_of_lt_of_le hg L.out.size) h
    replace BX := hide (BX.out.later hl)
    replace BR := hide (BR.out.later hl)
    replace L := hide (L.out.later hl)
    clear hl hN
    obtain ⟨a3, c3, a6, k6, c6, rfl, hm3⟩ := h3
    have M := hide hm3
    clear hm3
    go_wp2_with (refine wpList_storeT rfl 27 (.tmp 2) (.tmp 12) rfl w.heap.size 0 rfl (tc (.slice a3 n c3) (.slice a6 k6 c6) p false l) rfl Try.info_slot (tc_one _ _ _ _ _ _ _ _ _) _ _ BX.out (by simp) ?_)
    intro w4 hw4
    have T := hide (tri_set (Nat.le_refl _) (by omega) BX.out (tc_noints _ _ _ _ _ _ _ _ _) BR.out L.out M.out (tc (.slice a3 n c3) (.slice a6 k6 c6) p false l) 0 (by simp))
    rw [← hw4.out] at T
    clear BX BR L M hw4
    have BX : Hid (Box w4 w.heap.size 27 (tc (.slice a3 n c3) (.slice a6 k6 c6) p false l)) := T.out.1
    have BR := hide T.out.2.1
    have L := hide T.out.2.2.1
    have M := hide T.out.2.2.2
    clear T
    go_wp2_with (refine wpList_storeC rfl 4 (.tmp 14) (.tmp 13) rfl w.heap.size 3 rfl true rfl (by kernel_rfl) _ _ BX.out (by simp) ?_)
    intro w5 hw5
    have T := hide (tri_set (Nat.le_refl _) (by omega) BX.out (tc_noints _ _ _ _ _ _ _ _ _) BR.out L.out M.out [.bool true] 3 (by simp))
    rw [← hw5.out] at T
    clear BX BR L M hw5
    have BX : Hid (Box w5 w.heap.size 27 (tc (.slice a3 n c3) (.slice a6 k6 c6) p true l)) := T.out.1
    have BR := hide T.out.2.1
    have L := hide T.out.2.2.1
    have M := hide T.out.2.2.2
    clear T
    have HE := hide (slot_set (p := p) (r := true) (l := l) (by omega) BR.out (tc_noints _ _ _ _ _ _ _ _ _) rfl L.out M.out)
    have d0 := BX.out.cell 0
    have d1 := BX.out.cell 1
    have d2 := BX.out.cell 2
    have d3 := BX.out.cell 3
    have d4 := BX.out.cell 4
    go_wp2_with (refine wpList_storeT rfl 27 (.tmp 4) (.tmp 15) rfl (w.heap.size + 1) 0 rfl (tc (.slice a3 n c3) (.slice a6 k6 c6) p true l) rfl Try.info_slot (tc_one _ _ _ _ _ _ _ _ _) _ _ BR.out (by simp) ?_)
    intro wz hwz
    rw [← hwz.out] at HE
    clear BX BR L M d0 d1 d2 d3 d4 hwz
    go_wp2
    refine bodyPost_ret (results_cell1 rfl _ _ _ (w.heap.size + 1) 0 rfl (.agg #[.slice a3 n c3, .slice a6 k6 c6, .bool p, .bool true, .bool l]) (shut5 HE.out.1 rfl)) rfl ⟨_, rfl, HE.out.2.1, ?_, ?_⟩
    · rw [hF.out.1, hF.out.2]
      exact Slt.mk' _ _ _ HE.out.2.2
    · exact
        fun g hg h => by
          obtain ⟨a, b, p', r', l', e, h1, h2⟩ := HN.out g hg h
          simp at e
          obtain ⟨rfl, rfl, _⟩ := e
          exact ⟨_, _, _, _, _, rfl, h1, h2⟩
  · have hF : Hid (swF on r n F D = F ∧ swD on r n D = D) := by
      have ho' : (on && !r) = false := by simpa using ho
      simp [Hid, swF, swD, ho']
    cases on with
    | true =>
      obtain rfl : r = true := by simpa using ho
      clear ho
      go_enter Try.func24, Try.ntmps24
      go_wp2
      refine bodyPost_ret (results_cell1 rfl _ _ _ (w.heap.size + 1) 0 rfl (.agg #[.slice ab n cb, .slice aD k cD, .bool p, .bool true, .bool l]) (shut5 (cs := tc (.slice ab n cb) (.slice aD k cD) p true l) (Box.new' _ _ _ _ rfl _ (by simp)) rfl)) rfl ⟨_, rfl, ((Later.refl w).alloc _).alloc _, by rw [hF.out.1, hF.out.2]; exact Slt.mk' _ _ _ (HM.out.later (((Later.refl w).alloc _).alloc _)), fun g hg ⟨a, b, p, r, l, e, h1, h2⟩ => ?_⟩
      simp at e
      obtain ⟨rfl, rfl, _⟩ := e
      exact ⟨_, _, _, _, _, rfl, h1, h2⟩
    | false =>
      clear ho
      go_enter Try.func24, Try.ntmps24
      go_wp2
      refine bodyPost_ret (results_cell1 rfl _ _ _ (w.heap.size + 1) 0 rfl (.agg #[.slice ab n cb, .slice aD k cD, .bool p, .bool false, .bool l]) (shut5 (cs := tc (.slice ab n cb) (.slice aD k cD) p false l) (Box.new' _ _ _ _ rfl _ (by simp)) rfl)) rfl ⟨_, rfl, ((Later.refl w).alloc _).alloc _, by rw [hF.out.1, hF.out.2]; exact Slt.mk' _ _ _ (HM.out.later (((Later.refl w).alloc _).alloc _)), fun g hg ⟨a, b, p, r, l, e, h1, h2⟩ => ?_⟩
      simp at e
      obtain ⟨rfl, rfl, _⟩ := e
      exact ⟨_, _, _, _, _, rfl, h1, h2⟩
end Go.Proofs.Ytbcikndebaeahaa

namespace Go.Proofs.Ytbcikndebaeahaa
open Go.ChangeShapes Go.WideShapes Go.ChangeAt Go.RowKit
set_option linter.unusedVariables false
set_option maxRecDepth 4000
set_option linter.unusedSimpArgs false
/-! The document's answers for slots: Button, Power, Same, Copy. -/
set_option maxRecDepth 20000 in
set_option maxHeartbeats 2000000 in
theorem rcopy5_c {v : Value} {n : Nat} {F : List UInt8} {D : List Drt} {p r l : Bool} (w : World) (h : Slt w v n F D p r l) (hn : n ≤ 1000) (hD : D.length ≤ 1000) :
    Calls Try.prog 27 #[v] w fun e w' => ∃ v', e = .returned v' ∧ Later w w' ∧ Slt w' v' n F D p r l := by
  have HS := hide h
  obtain ⟨ab, cb, aD, k, cD, rfl, hm⟩ := h
  have HM := hide hm
  clear hm
  have BX : Hid (Box ((w.alloc (.cells #[.slice ab n cb, .slice aD k cD, .bool p, .bool r, .bool l] 27)).alloc (.cells #[.slice none 0 0, .slice none 0 0, .bool false, .bool false, .bool false] 27)) w.heap.size 27 (tc (.slice ab n cb) (.slice aD k cD) p r l)) := (Box.new w 27 #[.slice ab n cb, .slice aD k cD, .bool p, .bool r, .bool l]).alloc _
  have BR : Hid (Box ((w.alloc (.cells #[.slice ab n cb, .slice aD k cD, .bool p, .bool r, .bool l] 27)).alloc (.cells #[.slice none 0 0, .slice none 0 0, .bool false, .bool false, .bool false] 27)) (w.heap.size + 1) 27 (tc (.slice none 0 0) (.slice none 0 0) false false false)) := Box.new' _ _ _ _ rfl _ (by simp)
  have L := hide (((Later.refl w).alloc (.cells #[.slice ab n cb, .slice aD k cD, .bool p, .bool r, .bool l] 27)).alloc (.cells #[.slice none 0 0, .slice none 0 0, .bool false, .bool false, .bool false] 27))
  go_enter Try.func27, Try.ntmps27
  go_wp2_with fail
  generalize ((w.alloc (.cells #[.slice ab n cb, .slice aD k cD, .bool p, .bool r, .bool l] 27)).alloc (.cells #[.slice none 0 0, .slice none 0 0, .bool false, .bool false, .bool false] 27)) = w1 at *
  refine (rcopy3_c w1 (HM.out.later L.out) hn hD).mono ?_
  rintro e w3 ⟨v3, rfl, hl, h3⟩
  replace BX := hide (BX.out.later hl)
  replace BR := hide (BR.out.later hl)
  replace L := hide (L.out.later hl)
  clear hl
  have M := hide h3
  obtain ⟨a3, c3, a6, k6, c6, rfl, HK6, _, _⟩ := h3.shape
  clear h3
  go_wp2_with (refine wpList_storeT rfl 25 (.tmp 6) (.tmp 5) rfl w.heap.size 0 rfl [.slice a3 n c3, .slice a6 k6 c6] rfl (zero_of_info Try.zero_medium).2 (by simp [Value.oneCell']) _ _ BX.out (by simp) ?_)
  intro w4 hw4
  have T := hide (tri_set (Nat.le_refl _) (by omega) BX.out (tc_noints _ _ _ _ _ _ _ _ _) BR.out L.out M.out [.slice a3 n c3, .slice a6 k6 c6] 0 (by simp))
  rw [← hw4.out] at T
  clear BX BR L M hw4
  have BX : Hid (Box w4 w.heap.size 27 (tc (.slice a3 n c3) (.slice a6 k6 c6) p r l)) := T.out.1
  have BR := hide T.out.2.1
  have L := hide T.out.2.2.1
  have M := hide T.out.2.2.2
  clear T
  have HE := hide (slot_set (p := p) (r := r) (l := l) (by omega) BR.out (tc_noints _ _ _ _ _ _ _ _ _) rfl L.out M.out)
  have d0 := BX.out.cell 0
  have d1 := BX.out.cell 1
  have d2 := BX.out.cell 2
  have d3 := BX.out.cell 3
  have d4 := BX.out.cell 4
  go_wp2_with (refine wpList_storeT rfl 27 (.tmp 2) (.tmp 7) rfl (w.heap.size + 1) 0 rfl (tc (.slice a3 n c3) (.slice a6 k6 c6) p r l) rfl Try.info_slot (tc_one _ _ _ _ _ _ _ _ _) _ _ BR.out (by simp) ?_)
  intro wz hwz
  rw [← hwz.out] at HE
  clear BX BR L M d0 d1 d2 d3 d4 hwz
  go_wp2
  exact bodyPost_ret (results_cell1 rfl _ _ _ (w.heap.size + 1) 0 rfl (.agg #[.slice a3 n c3, .slice a6 k6 c6, .bool p, .bool r, .bool l]) (shut5 HE.out.1 rfl)) rfl ⟨_, rfl, HE.out.2.1, Slt.mk' _ _ _ HE.out.2.2⟩
end Go.Proofs.Ytbcikndebaeahaa

namespace Go.Proofs.Ytbcikndebaeahaa
open Go.ChangeShapes Go.WideShapes Go.ChangeAt Go.RowKit
set_option linter.unusedVariables false
set_option maxRecDepth 4000
set_option linter.unusedSimpArgs false
/-! The document's answers for slots: Check, Same. -/
def checkS (n : Nat) (D : List Drt) (p r : Bool) (at_ : Nat) (m : Int) (wr : Bool) : Sns :=
  if !p then (2, 58, 0) else if r && wr then (7, 39, 0) else if withinB (allN n D) at_ m then (0, 0, 0) else (5, 33, 0)
set_option maxRecDepth 20000 in
set_option maxHeartbeats 2000000 in
theorem rcheck_c {v : Value} {n : Nat} {F : List UInt8} {D : List Drt} {p r l : Bool} (at_ : Nat) (m : Int) (wr : Bool) (w : World) (h : Slt w v n F D p r l) (ha : at_ ≤ 18446744073709551615) :
    Calls Try.prog 57 #[v, .int .u64 at_, .int .i64 m, .bool wr] w fun e w' => e = .returned (sval (checkS n D p r at_ m wr)) ∧ Later w w' := by
  have HS := hide h
  obtain ⟨ab, cb, aD, k, cD, rfl, hm⟩ := h
  have HM := hide hm
  clear hm
  cases p with
  | false =>
    go_enter Try.func57, Try.ntmps57
    go_wp2_with fail
    refine (rof_c 2 58 0 _).mono ?_
    rintro e wq ⟨rfl, hl⟩
    have BQ : Hid (Box wq (w.heap.size + 1) 30 (sc (0, 0, 0))) := Box.later (Box.new' _ _ _ _ rfl _ (by simp)) hl
    have LQ : Hid (Later w wq) := Later.trans (((Later.refl w).alloc _).alloc _) hl
    clear hl
    go_wp2_with (refine wpList_storeT rfl 30 (.tmp 8) (.tmp 12) rfl (w.heap.size + 1) 0 rfl (sc (2, 58, 0)) rfl Try.info_sense (sc_one _) _ _ BQ.out (by simp) ?_)
    intro wz hwz
    have BZ := hide (BQ.out.all (sc (2, 58, 0)) rfl)
    have LZ := hide (LQ.out.setCells (g := w.heap.size + 1) (by omega) (sc (2, 58, 0)) 0)
    rw [← hwz.out] at BZ LZ
    clear hwz BQ LQ
    go_wp2
    refine bodyPost_ret (results_cell1 rfl _ _ _ (w.heap.size + 1) 0 rfl (sval (2, 58, 0)) (shut3 BZ.out)) rfl ⟨?_, LZ.out⟩
    simp [checkS]
  | true =>
    by_cases hrw : (r && wr) = true
    · obtain ⟨rfl, rfl⟩ : r = true ∧ wr = true := by simpa using hrw
      clear hrw
      go_enter Try.func57, Try.ntmps57
      go_wp2_with fail
      refine (rof_c 7 39 0 _).mono ?_
      rintro e wq ⟨rfl, hl⟩
      have BQ : Hid (Box wq (w.heap.size + 1) 30 (sc (0, 0, 0))) := Box.later (Box.new' _ _ _ _ rfl _ (by simp)) hl
      have LQ : Hid (Later w wq) := Later.trans (((Later.refl w).alloc _).alloc _) hl
      clear hl
      go_wp2_with (refine wpList_storeT rfl 30 (.tmp 8) (.tmp 18) rfl (w.heap.size + 1) 0 rfl (sc (7, 39, 0)) rfl Try.info_sense (sc_one _) _ _ BQ.out (by simp) ?_)
      intro wz hwz
      have BZ := hide (BQ.out.all (sc (7, 39, 0)) rfl)
      have LZ := hide (LQ.out.setCells (g := w.heap.size + 1) (by omega) (sc (7, 39, 0)) 0)
      rw [← hwz.out] at BZ LZ
      clear hwz BQ LQ
      go_wp2
      refine bodyPost_ret (results_cell1 rfl _ _ _ (w.heap.size + 1) 0 rfl (sval (7, 39, 0)) (shut3 BZ.out)) rfl ⟨?_, LZ.out⟩
      simp [checkS]
    · have hC : Hid (checkS n D true r at_ m wr = if withinB (allN n D) at_ m then (0, 0, 0) else (5, 33, 0)) := by
        have h' : (r && wr) = false := by simpa using hrw
        simp [Hid, checkS, h']
      have hNb : Hid (allN n D ≤ 9223372036854775807) := by
        obtain ⟨vb, vd, e, hb, _⟩ := HM.out
        have := hb.2.1
        unfold maxLen at this
        unfold Hid allN
        split <;> omega
      have step : ∀ (rr ww : Bool) (S : Sns), Hid (S = if withinB (allN n D) at_ m then (0, 0, 0) else (5, 33, 0)) → (rr && ww) = false → Calls Try.prog 57 #[.agg #[.slice ab n cb, .slice aD k cD, .bool true, .bool rr, .bool l], .int .u64 at_, .int .i64 m, .bool ww] w fun e w' => e = .returned (sval S) ∧ Later w w' := by
        intro rr ww S HSv hh
        cases rr with
        | true =>
          obtain rfl : ww = false := by simpa using hh
          clear hh hrw hC
          go_enter Try.func57, Try.ntmps57
          go_wp2_with fail
          refine (rall_c _ (HM.out.later (((Later.refl w).alloc _).alloc _))).mono ?_
          rintro e w3 ⟨v3, rfl, hl, h3⟩
          have BQ : Hid (Box w3 (w.heap.size + 1) 30 (sc (0, 0, 0))) := Box.later (Box.new' _ _ _ _ rfl _ (by simp)) hl
          have L3 : Hid (Later w w3) := Later.trans (((Later.refl w).alloc _).alloc _) hl
          obtain ⟨a3, c3, rfl⟩ := (Rw.of_owns h3).shape
          clear hl h3
          generalize allN n D = N at *
          have hNi : (N : Int) ≤ 9223372036854775807 := by have := hNb.out; omega
          go_wp2_with fail
          refine (rwithin_c (N : Int) at_ m _ hNi ha).mono ?_
          rintro e w4 ⟨rfl, hw1⟩
          have hw2 := hw1.symm
          subst hw2
          clear hw1
          cases hW : withinB (N : Int) at_ m with
          | true =>
            go_wp2_with (refine wpList_storeT rfl 30 (.tmp 8) (.tmp 28) rfl (w.heap.size + 1) 0 rfl (sc (0, 0, 0)) rfl Try.info_sense (sc_one _) _ _ BQ.out (by simp) ?_)
            intro wz hwz
            have BZ := hide (BQ.out.all (sc (0, 0, 0)) rfl)
            have LZ := hide (L3.out.setCells (g := w.heap.size + 1) (by omega) (sc (0, 0, 0)) 0)
            rw [← hwz.out] at BZ LZ
            clear hwz BQ L3
            go_wp2
            exact bodyPost_ret (results_cell1 rfl _ _ _ (w.heap.size + 1) 0 rfl (sval (0, 0, 0)) (shut3 BZ.out)) rfl ⟨by rw [HSv.out, hW]; rfl, LZ.out⟩
          | false =>
            go_wp2_with fail
            refine (rof_c 5 33 0 _).mono ?_
            rintro e w5 ⟨rfl, hl⟩
            replace BQ := hide (BQ.out.later hl)
            replace L3 := hide (L3.out.later hl)
            clear hl
            go_wp2_with (refine wpList_storeT rfl 30 (.tmp 8) (.tmp 27) rfl (w.heap.size + 1) 0 rfl (sc (5, 33, 0)) rfl Try.info_sense (sc_one _) _ _ BQ.out (by simp) ?_)
            intro wz hwz
            have BZ := hide (BQ.out.all (sc (5, 33, 0)) rfl)
            have LZ := hide (L3.out.setCells (g := w.heap.size + 1) (by omega) (sc (5, 33, 0)) 0)
            rw [← hwz.out] at BZ LZ
            clear hwz BQ L3
            go_wp2
            exact bodyPost_ret (results_cell1 rfl _ _ _ (w.heap.size + 1) 0 rfl (sval (5, 33, 0)) (shut3 BZ.out)) rfl ⟨by rw [HSv.out, hW]; rfl, LZ.out⟩
        | false =>
          clear hh hrw hC
          go_enter Try.func57, Try.ntmps57
          go_wp2_with fail
          refine (rall_c _ (HM.out.later (((Later.refl w).alloc _).alloc _))).mono ?_
          rintro e w3 ⟨v3, rfl, hl, h3⟩
          have BQ : Hid (Box w3 (w.heap.size + 1) 30 (sc (0, 0, 0))) := Box.later (Box.new' _ _ _ _ rfl _ (by simp)) hl
          have L3 : Hid (Later w w3) := Later.trans (((Later.refl w).alloc _).alloc _) hl
          obtain ⟨a3, c3, rfl⟩ := (Rw.of_owns h3).shape
          clear hl h3
          generalize allN n D = N at *
          have hNi : (N : Int) ≤ 9223372036854775807 := by have := hNb.out; omega
          go_wp2_with fail
          refine (rwithin_c (N : Int) at_ m _ hNi ha).mono ?_
          rintro e w4 ⟨rfl, hw1⟩
          have hw2 := hw1.symm
          subst hw2
          clear hw1
          cases hW : withinB (N : Int) at_ m with
          | true =>
            go_wp2_with (refine wpList_storeT rfl 30 (.tmp 8) (.tmp 28) rfl (w.heap.size + 1) 0 rfl (sc (0, 0, 0)) rfl Try.info_sense (sc_one _) _ _ BQ.out (by simp) ?_)
            intro wz hwz
            have BZ := hide (BQ.out.all (sc (0, 0, 0)) rfl)
            have LZ := hide (L3.out.setCells (g := w.heap.size + 1) (by omega) (sc (0, 0, 0)) 0)
            rw [← hwz.out] at BZ LZ
            clear hwz BQ L3
            go_wp2
            exact bodyPost_ret (results_cell1 rfl _ _ _ (w.heap.size + 1) 0 rfl (sval (0, 0, 0)) (shut3 BZ.out)) rfl ⟨by rw [HSv.out, hW]; rfl, LZ.out⟩
          | false =>
            go_wp2_with fail
            refine (rof_c 5 33 0 _).mono ?_
            rintro e w5 ⟨rfl, hl⟩
            replace BQ := hide (BQ.out.later hl)
            replace L3 := hide (L3.out.later hl)
            clear hl
            go_wp2_with (refine wpList_storeT rfl 30 (.tmp 8) (.tmp 27) rfl (w.heap.size + 1) 0 rfl (sc (5, 33, 0)) rfl Try.info_sense (sc_one _) _ _ BQ.out (by simp) ?_)
            intro wz hwz
            have BZ := hide (BQ.out.all (sc (5, 33, 0)) rfl)
            have LZ := hide (L3.out.setCells (g := w.heap.size + 1) (by omega) (sc (5, 33, 0)) 0)
            rw [← hwz.out] at BZ LZ
            clear hwz BQ L3
            go_wp2
            exact bodyPost_ret (results_cell1 rfl _ _ _ (w.heap.size + 1) 0 rfl (sval (5, 33, 0)) (shut3 BZ.out)) rfl ⟨by rw [HSv.out, hW]; rfl, LZ.out⟩
      exact step r wr _ hC (by simpa using hrw)
set_option maxRecDepth 20000 in
set_option maxHeartbeats 2000000 in
theorem rsame5_c {u v : Value} {n m : Nat} {F G : List UInt8} {D E : List Drt} {p r l p' r' l' : Bool} (w : World) (hu : Slt w u n F D p r l) (hv : Slt w v m G E p' r' l') :
    Calls Try.prog 35 #[u, v] w fun e w' => e = .returned (.bool (p == p' && (r == r' && (l == l' && (F == G && D == E))))) ∧ Later w w' := by
  obtain ⟨ab, cb, aD, k, cD, rfl, hm⟩ := hu
  obtain ⟨ab', cb', aD', k', cD', rfl, hm'⟩ := hv
  have HM := hide hm
  have HM' := hide hm'
  clear hm hm'
  cases hp : (p == p') with
  | false =>
    go_enter Try.func35, Try.ntmps35
    go_wp2
    go_ret
    exact ⟨rfl, ((Later.refl w).alloc _).alloc _⟩
  | true =>
    cases hr : (r == r') with
    | false =>
      go_enter Try.func35, Try.ntmps35
      go_wp2
      go_ret
      exact ⟨rfl, ((Later.refl w).alloc _).alloc _⟩
    | true =>
      cases hl : (l == l') with
      | false =>
        go_enter Try.func35, Try.ntmps35
        go_wp2
        go_ret
        exact ⟨rfl, ((Later.refl w).alloc _).alloc _⟩
      | true =>
        go_enter Try.func35, Try.ntmps35
        go_wp2_with fail
        refine (rsame3_c _ (HM.out.later (((Later.refl w).alloc _).alloc _)) (HM'.out.later (((Later.refl w).alloc _).alloc _))).mono ?_
        rintro e w2 ⟨rfl, hl2⟩
        have L2 : Hid (Later w w2) := Later.trans (((Later.refl w).alloc _).alloc _) hl2
        clear hl2
        go_wp2
        go_ret
        exact ⟨ret_bool (by simp), L2.out⟩
end Go.Proofs.Ytbcikndebaeahaa

namespace Go.Proofs.Ytbcikndebaeahaa
open Go.ChangeShapes Go.WideShapes Go.ChangeAt Go.RowKit
set_option linter.unusedVariables false
set_option maxRecDepth 4000
set_option linter.unusedSimpArgs false
/-! The document's answers for slots: Keep, Unload. -/
theorem two_set {w w8 : World} {gR gS : Nat} {a b : Option Addr} {n m c d n' : Nat} {F : List UInt8} {D : List Drt} {cr cz : List Value} (p r l : Bool) (s : Sns) (hR : w.heap.size ≤ gR) (hS : w.heap.size ≤ gS) (hne : gR ≠ gS) (BR : Box w8 gR 27 cr) (hn : NoInts cr) (hl5 : cr.length = 5) (BS : Box w8 gS 30 cz) (hl3 : cz.length = 3) (L : Later w w8) (M : Med w8 (.agg #[.slice a n c, .slice b m d]) n' F D)
    (hoff : OffS gS (.slice a n c) ∧ OffS gS (.slice b m d)) :
    Box ((w8.setCells gR 0 (tc (.slice a n c) (.slice b m d) p r l)).setCells gS 0 (sc s)) gR 27 (tc (.slice a n c) (.slice b m d) p r l) ∧ Box ((w8.setCells gR 0 (tc (.slice a n c) (.slice b m d) p r l)).setCells gS 0 (sc s)) gS 30 (sc s) ∧ Later w ((w8.setCells gR 0 (tc (.slice a n c) (.slice b m d) p r l)).setCells gS 0 (sc s)) ∧
    Slt ((w8.setCells gR 0 (tc (.slice a n c) (.slice b m d) p r l)).setCells gS 0 (sc s)) (.agg #[.slice a n c, .slice b m d, .bool p, .bool r, .bool l]) n' F D p r l := by
  have h := slot_set (p := p) (r := r) (l := l) hR BR hn hl5 L M
  have hBS : Box (w8.setCells gR 0 (tc (.slice a n c) (.slice b m d) p r l)) gS 30 cz := BS.kept (heap_setCells_other w8 gR gS (fun e => hne e.symm) _ _)
  exact ⟨h.1.kept (heap_setCells_other _ gS gR hne _ _), hBS.all _ (by simp [hl3]), h.2.1.setCells hS _ 0, (Slt.mk' p r l h.2.2).setOff ⟨_, _, _, _, _, rfl, hoff.1, hoff.2⟩ _ _⟩
end Go.Proofs.Ytbcikndebaeahaa

namespace Go.Proofs.Ytbcikndebaeahaa
open Go.ChangeShapes Go.WideShapes Go.ChangeAt Go.RowKit
set_option linter.unusedVariables false
set_option maxRecDepth 4000
set_option linter.unusedSimpArgs false
/-! The document's answers for slots: Read. -/
theorem checkS_zero {n : Nat} {D : List Drt} {p r : Bool} {at_ : Nat} {m : Int} {wr : Bool} (h : checkS n D p r at_ m wr = (0, 0, 0)) : p = true ∧ (r && wr) = false ∧ withinB (allN n D) at_ m = true := by
  unfold checkS at h
  cases p with
  | false => simp at h
  | true =>
    simp only [Bool.not_true, Bool.false_eq_true, if_false] at h
    split at h
    · simp at h
    · rename_i h1
      split at h
      · rename_i h2; exact ⟨rfl, by simpa using h1, h2⟩
      · simp at h
def rdL (n : Nat) (F : List UInt8) (D : List Drt) (S : Sns) (at_ : Nat) (m : Int) : List UInt8 := if S == (0, 0, 0) then seg (allF n F D) (at_ * 64) (m.toNat * 64) else []
theorem allN_small (n : Nat) (D : List Drt) : allN n D ≤ 64 := by
  unfold allN
  split
  · rename_i h; simp only [rightB, decide_eq_true_eq] at h; exact h.1
  · omega
set_option maxRecDepth 20000 in
set_option maxHeartbeats 2000000 in
theorem rread5_c {v : Value} {n : Nat} {F : List UInt8} {D : List Drt} {p r l : Bool} (at_ : Nat) (m : Int) (w : World) (h : Slt w v n F D p r l) (ha : at_ ≤ 18446744073709551615) :
    Calls Try.prog 47 #[v, .int .u64 at_, .int .i64 m] w fun e w' => ∃ v', e = .returned (.tuple #[v', sval (checkS n D p r at_ m false)]) ∧ Later w w' ∧ Bs w' v' (rdL n F D (checkS n D p r at_ m false) at_ m) := by
  have HS := hide h
  obtain ⟨ab, cb, aD, k, cD, rfl, hm⟩ := h
  have HM := hide hm
  clear hm
  have BX : Hid (Box ((w.alloc (.cells #[.slice ab n cb, .slice aD k cD, .bool p, .bool r, .bool l] 27)).alloc (.cells #[.int .i64 0, .int .i64 0, .int .i64 0] 30)) w.heap.size 27 (tc (.slice ab n cb) (.slice aD k cD) p r l)) := (Box.new w 27 #[.slice ab n cb, .slice aD k cD, .bool p, .bool r, .bool l]).alloc _
  have BS : Hid (Box ((w.alloc (.cells #[.slice ab n cb, .slice aD k cD, .bool p, .bool r, .bool l] 27)).alloc (.cells #[.int .i64 0, .int .i64 0, .int .i64 0] 30)) (w.heap.size + 1) 30 (sc (0, 0, 0))) := Box.new' _ _ _ _ rfl _ (by simp)
  have L := hide (((Later.refl w).alloc (.cells #[.slice ab n cb, .slice aD k cD, .bool p, .bool r, .bool l] 27)).alloc (.cells #[.int .i64 0, .int .i64 0, .int .i64 0] 30))
  go_enter Try.func47, Try.ntmps47
  go_wp2_with fail
  generalize ((w.alloc (.cells #[.slice ab n cb, .slice aD k cD, .bool p, .bool r, .bool l] 27)).alloc (.cells #[.int .i64 0, .int .i64 0, .int .i64 0] 30)) = w1 at *
  refine (rcheck_c at_ m false w1 (HS.out.later L.out) ha).mono ?_
  rintro e w2 ⟨rfl, hl⟩
  replace BX := hide (BX.out.later hl)
  replace BS := hide (BS.out.later hl)
  replace L := hide (L.out.later hl)
  clear hl
  have HZ := hide (fun h => checkS_zero (n := n) (D := D) (p := p) (r := r) (at_ := at_) (m := m) (wr := false) h)
  generalize hS : checkS n D p r at_ m false = S at *
  have HSv := hide hS
  clear hS
  go_wp2_with (refine wpList_newS rfl rfl rfl 8 rfl (by simp) (.tmp 14) (by simp) rfl S rfl ?_)
  intro g8 w3 hB hl hg
  replace BX := hide (BX.out.later hl)
  replace BS := hide (BS.out.later hl)
  replace L := hide (L.out.later hl)
  have B8 := hide hB
  clear hB hl hg
  have e0 := B8.out.cell 0
  have e1 := B8.out.cell 1
  have e2 := B8.out.cell 2
  cases hz : (S == ((0, 0, 0) : Sns)) with
  | false =>
    have hRd : Hid (rdL n F D S at_ m = []) := by simp only [Hid, rdL, hz]; rfl
    go_wp2_with (refine wpList_neqS (by kernel_rfl) (.tmp 15) (.tmp 16) rfl S (0, 0, 0) rfl rfl ?_; rw [hz])
    clear e0 e1 e2
    refine wp_region_tree [0, 1] [] [2] (by kernel_rfl) (by kernel_rfl) (by kernel_rfl) (by kernel_rfl) ?_
    refine wpT_loadG rfl (by kernel_rfl) 30 (.tmp 8) rfl g8 0 rfl (sc S) _ ((World.rangeAt_drew _ _ _ _).2 B8.out.range) Try.underlying30 rfl Try.info_sense ?_
    refine wpT_mild rfl (fun K hK => ?_)
    go_simp
    refine hK _ ?_
    clear hK K
    refine wpT_done (fun wx hwx => ?_)
    have hlx := (Later.refl w3).drew.trans hwx
    replace BS := hide (BS.out.later hlx)
    replace L := hide (L.out.later hlx)
    clear hwx hlx BX B8
    refine wpL_store rfl (by kernel_rfl) 30 (.tmp 7) (.tmp 18) rfl (w.heap.size + 1) 0 (sc S) rfl rfl (BS.out.there 0 3 (by simp)) Try.info_sense (sc_one _) (wpL_nil ?_)
    have BZ := hide (BS.out.all (sc S) rfl)
    have LZ := hide (L.out.setCells (g := w.heap.size + 1) (by omega) (sc S) 0)
    clear BS L
    generalize (wx.setCells (w.heap.size + 1) 0 (sc S)) = wz at *
    go_wp2
    refine bodyPost_ret (results_tmp_cell' rfl _ _ _ (w.heap.size + 1) 0 rfl (sval S) (.slice none 0 0) (shut3 BZ.out) rfl) rfl ⟨.slice none 0 0, ?_, LZ.out, ?_⟩
    · rw [HSv.out]
    · rw [HSv.out, hRd.out]; exact Bs.nil _
  | true =>
    obtain rfl : S = (0, 0, 0) := eq_of_beq hz
    have hq := HZ.out rfl
    have hRd : Hid (rdL n F D (0, 0, 0) at_ m = readL (allN n D) (allF n F D) at_ m) := by
      have h1 := allN_small n D
      simp only [Hid, rdL, readL, hz, if_true, if_neg (show ¬ 64 < allN n D by omega), hq.2.2]
    clear hq HZ hz
    have d0 := BX.out.cell 0
    have d1 := BX.out.cell 1
    go_wp2_with (refine wpList_neqS (by kernel_rfl) (.tmp 15) (.tmp 16) rfl (0, 0, 0) (0, 0, 0) rfl rfl ?_; rw [show (((0, 0, 0) : Sns) == (0, 0, 0)) = true from rfl])
    refine (rall_c w3 (HM.out.later L.out)).mono ?_
    rintro e w4 ⟨v4, rfl, hl, h4⟩
    replace BX := hide (BX.out.later hl)
    replace BS := hide (BS.out.later hl)
    replace L := hide (L.out.later hl)
    replace B8 := hide (B8.out.later hl)
    have R4 := hide (Rw.of_owns h4)
    clear hl h4 d0 d1 e0 e1 e2
    obtain ⟨a4, c4, rfl⟩ := R4.out.shape
    go_wp2_with fail
    refine (rread_c at_ m w4 R4.out ha).mono ?_
    rintro e w5 ⟨v5, rfl, hl, h5⟩
    rw [← hRd.out] at h5
    have O5 : Hid (w5.ownsRow w.heap.size 5 1 v5 (rdL n F D (0, 0, 0) at_ m).length (bv (rdL n F D (0, 0, 0) at_ m))) := owns_rebase h5 L.out.size
    replace BX := hide (BX.out.later hl)
    replace BS := hide (BS.out.later hl)
    replace L := hide (L.out.later hl)
    replace B8 := hide (B8.out.later hl)
    clear hl h5 R4
    go_wp2_with fail
    refine wp_region_tree [0, 1, 2] [] [3] (by kernel_rfl) (by kernel_rfl) (by kernel_rfl) (by kernel_rfl) ?_
    refine wpT_mild rfl (fun K hK => ?_)
    go_simp
    refine hK _ ?_
    clear hK K
    refine wpT_loadG rfl (by kernel_rfl) 30 (.tmp 8) rfl g8 0 rfl (sc (0, 0, 0)) _ ((World.rangeAt_drew _ _ _ _).2 B8.out.range) Try.underlying30 rfl Try.info_sense ?_
    refine wpT_mild rfl (fun K hK => ?_)
    go_simp
    refine hK _ ?_
    clear hK K
    refine wpT_done (fun wx hwx => ?_)
    have hlx := (Later.refl w5).drew.trans hwx
    replace BS := hide (BS.out.later hlx)
    replace L := hide (L.out.later hlx)
    have B5 := hide (owns_later O5.out hlx)
    clear hwx hlx BX B8 O5
    refine wpL_store rfl (by kernel_rfl) 30 (.tmp 7) (.tmp 29) rfl (w.heap.size + 1) 0 (sc (0, 0, 0)) rfl rfl (BS.out.there 0 3 (by simp)) Try.info_sense (sc_one _) (wpL_nil ?_)
    have BZ := hide (BS.out.all (sc (0, 0, 0)) rfl)
    have LZ := hide (L.out.setCells (g := w.heap.size + 1) (by omega) (sc (0, 0, 0)) 0)
    have OZ : Hid ((wx.setCells (w.heap.size + 1) 0 (sc (0, 0, 0))).ownsRow w.heap.size 5 1 v5 (rdL n F D (0, 0, 0) at_ m).length (bv (rdL n F D (0, 0, 0) at_ m))) := owns_kept B5.out fun g hg => heap_setCells_other wx (w.heap.size + 1) g (fun e => box_ne_own BS.out B5.out (by decide) g hg e.symm) _ _
    clear BS L B5
    generalize (wx.setCells (w.heap.size + 1) 0 (sc (0, 0, 0))) = wz at *
    go_wp2
    refine bodyPost_ret (results_tmp_cell' rfl _ _ _ (w.heap.size + 1) 0 rfl (sval (0, 0, 0)) v5 (shut3 BZ.out) rfl) rfl ⟨v5, ?_, LZ.out, ?_⟩
    · rw [HSv.out]
    · rw [HSv.out]; exact (Bs.of_owns OZ.out).1
end Go.Proofs.Ytbcikndebaeahaa
