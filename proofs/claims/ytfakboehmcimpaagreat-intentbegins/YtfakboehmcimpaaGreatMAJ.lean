import Derived.Test.YtfakboehmcimpaaGreatMAI
namespace Go.Proofs.YtfakboehmcimpaaGreat
open Go.ChangeShapes Go.WideShapes Go.ChangeAt Go.RowKit
set_option linter.unusedVariables false
set_option maxRecDepth 4000
set_option linter.unusedSimpArgs false
/-! The document's answers for slots: Button, Power, Same, Copy. -/
def btF (p l : Bool) (n : Nat) (F : List UInt8) (D : List Drt) : List UInt8 := if p && !l then syncF n F D else F
def btD (p l : Bool) (n : Nat) (D : List Drt) : List Drt := if p && !l then syncD n D else D
set_option maxRecDepth 20000 in
set_option maxHeartbeats 2000000 in
theorem rbutton_c {v : Value} {n : Nat} {F : List UInt8} {D : List Drt} {p r l : Bool} (w : World) (h : Slt w v n F D p r l) :
    Calls Tryz.prog 118 #[v] w fun e w' => ∃ v', e = .returned (.tuple #[v', .bool (p && !l)]) ∧ Later w w' ∧ Slt w' v' n (btF p l n F D) (btD p l n D) (p && l) r l ∧ NewT w v v' := by
  have HS := hide h
  obtain ⟨ab, cb, aD, k, cD, rfl, hm⟩ := h
  have HM := hide hm
  clear hm
  cases p with
  | false =>
    cases l with
    | true =>
      go_enter Tryz.func118, Tryz.ntmps118
      go_wp2
      refine bodyPost_ret (results_cell_tmp rfl _ _ _ (w.heap.size + 1) 0 rfl (.agg #[.slice ab n cb, .slice aD k cD, .bool false, .bool r, .bool true]) (.bool false) (shut5 (cs := tc (.slice ab n cb) (.slice aD k cD) false r true) (Box.new' _ _ _ _ rfl _ (by simp)) rfl) rfl) rfl ⟨_, rfl, ((Later.refl w).alloc _).alloc _, Slt.mk' _ _ _ (HM.out.later (((Later.refl w).alloc _).alloc _)), fun g hg ⟨a, b, p, r, l, e, h1, h2⟩ => ?_⟩
      simp at e
      obtain ⟨rfl, rfl, _⟩ := e
      exact ⟨_, _, _, _, _, rfl, h1, h2⟩
    | false =>
      go_enter Tryz.func118, Tryz.ntmps118
      go_wp2
      refine bodyPost_ret (results_cell_tmp rfl _ _ _ (w.heap.size + 1) 0 rfl (.agg #[.slice ab n cb, .slice aD k cD, .bool false, .bool r, .bool false]) (.bool false) (shut5 (cs := tc (.slice ab n cb) (.slice aD k cD) false r false) (Box.new' _ _ _ _ rfl _ (by simp)) rfl) rfl) rfl ⟨_, rfl, ((Later.refl w).alloc _).alloc _, Slt.mk' _ _ _ (HM.out.later (((Later.refl w).alloc _).alloc _)), fun g hg ⟨a, b, p, r, l, e, h1, h2⟩ => ?_⟩
      simp at e
      obtain ⟨rfl, rfl, _⟩ := e
      exact ⟨_, _, _, _, _, rfl, h1, h2⟩
  | true =>
    cases l with
    | true =>
      go_enter Tryz.func118, Tryz.ntmps118
      go_wp2
      refine bodyPost_ret (results_cell_tmp rfl _ _ _ (w.heap.size + 1) 0 rfl (.agg #[.slice ab n cb, .slice aD k cD, .bool true, .bool r, .bool true]) (.bool false) (shut5 (cs := tc (.slice ab n cb) (.slice aD k cD) true r true) (Box.new' _ _ _ _ rfl _ (by simp)) rfl) rfl) rfl ⟨_, rfl, ((Later.refl w).alloc _).alloc _, Slt.mk' _ _ _ (HM.out.later (((Later.refl w).alloc _).alloc _)), fun g hg ⟨a, b, p, r, l, e, h1, h2⟩ => ?_⟩
      simp at e
      obtain ⟨rfl, rfl, _⟩ := e
      exact ⟨_, _, _, _, _, rfl, h1, h2⟩
    | false =>
      have BX : Hid (Box ((w.alloc (.cells #[.slice ab n cb, .slice aD k cD, .bool true, .bool r, .bool false] 27)).alloc (.cells #[.slice none 0 0, .slice none 0 0, .bool false, .bool false, .bool false] 27)) w.heap.size 27 (tc (.slice ab n cb) (.slice aD k cD) true r false)) := (Box.new w 27 #[.slice ab n cb, .slice aD k cD, .bool true, .bool r, .bool false]).alloc _
      have BR : Hid (Box ((w.alloc (.cells #[.slice ab n cb, .slice aD k cD, .bool true, .bool r, .bool false] 27)).alloc (.cells #[.slice none 0 0, .slice none 0 0, .bool false, .bool false, .bool false] 27)) (w.heap.size + 1) 27 (tc (.slice none 0 0) (.slice none 0 0) false false false)) := Box.new' _ _ _ _ rfl _ (by simp)
      have L := hide (((Later.refl w).alloc (.cells #[.slice ab n cb, .slice aD k cD, .bool true, .bool r, .bool false] 27)).alloc (.cells #[.slice none 0 0, .slice none 0 0, .bool false, .bool false, .bool false] 27))
      go_enter Tryz.func118, Tryz.ntmps118
      go_wp2_with fail
      generalize ((w.alloc (.cells #[.slice ab n cb, .slice aD k cD, .bool true, .bool r, .bool false] 27)).alloc (.cells #[.slice none 0 0, .slice none 0 0, .bool false, .bool false, .bool false] 27)) = w1 at *
      refine (rsync_c w1 (HS.out.later L.out)).mono ?_
      rintro e w3 ⟨v3, rfl, hl, h3, hN⟩
      have HN : Hid (NewT w (.agg #[.slice ab n cb, .slice aD k cD, .bool true, .bool r, .bool false]) v3) := fun g hg h => hN g (Nat.lt_of_lt_of_le hg L.out.size) h
      replace BX := hide (BX.out.later hl)
      replace BR := hide (BR.out.later hl)
      replace L := hide (L.out.later hl)
      clear hl hN
      obtain ⟨a3, c3, a6, k6, c6, rfl, hm3⟩ := h3
      have M := hide hm3
      clear hm3
      go_wp2_with (refine wpList_storeT rfl 27 (.tmp 1) (.tmp 13) rfl w.heap.size 0 rfl (tc (.slice a3 n c3) (.slice a6 k6 c6) true r false) rfl Tryz.info_slot (tc_one _ _ _ _ _ _ _ _ _) _ _ BX.out (by simp) ?_)
      intro w4 hw4
      have T := hide (tri_set (Nat.le_refl _) (by omega) BX.out (tc_noints _ _ _ _ _ _ _ _ _) BR.out L.out M.out (tc (.slice a3 n c3) (.slice a6 k6 c6) true r false) 0 (by simp))
      rw [← hw4.out] at T
      clear BX BR L M hw4
      have BX : Hid (Box w4 w.heap.size 27 (tc (.slice a3 n c3) (.slice a6 k6 c6) true r false)) := T.out.1
      have BR := hide T.out.2.1
      have L := hide T.out.2.2.1
      have M := hide T.out.2.2.2
      clear T
      go_wp2_with (refine wpList_storeC rfl 4 (.tmp 14) (.const (.bool false)) rfl w.heap.size 2 rfl false rfl (by kernel_rfl) _ _ BX.out (by simp) ?_)
      intro w5 hw5
      have T := hide (tri_set (Nat.le_refl _) (by omega) BX.out (tc_noints _ _ _ _ _ _ _ _ _) BR.out L.out M.out [.bool false] 2 (by simp))
      rw [← hw5.out] at T
      clear BX BR L M hw5
      have BX : Hid (Box w5 w.heap.size 27 (tc (.slice a3 n c3) (.slice a6 k6 c6) false r false)) := T.out.1
      have BR := hide T.out.2.1
      have L := hide T.out.2.2.1
      have M := hide T.out.2.2.2
      clear T
      have HE := hide (slot_set (p := false) (r := r) (l := false) (by omega) BR.out (tc_noints _ _ _ _ _ _ _ _ _) rfl L.out M.out)
      have d0 := BX.out.cell 0
      have d1 := BX.out.cell 1
      have d2 := BX.out.cell 2
      have d3 := BX.out.cell 3
      have d4 := BX.out.cell 4
      go_wp2_with (refine wpList_storeT rfl 27 (.tmp 2) (.tmp 15) rfl (w.heap.size + 1) 0 rfl (tc (.slice a3 n c3) (.slice a6 k6 c6) false r false) rfl Tryz.info_slot (tc_one _ _ _ _ _ _ _ _ _) _ _ BR.out (by simp) ?_)
      intro wz hwz
      rw [← hwz.out] at HE
      clear BX BR L M d0 d1 d2 d3 d4 hwz
      go_wp2
      refine bodyPost_ret (results_cell_tmp rfl _ _ _ (w.heap.size + 1) 0 rfl (.agg #[.slice a3 n c3, .slice a6 k6 c6, .bool false, .bool r, .bool false]) (.bool true) (shut5 HE.out.1 rfl) rfl) rfl ⟨_, rfl, HE.out.2.1, Slt.mk' _ _ _ HE.out.2.2, ?_⟩
      exact
        fun g hg h => by
          obtain ⟨a, b, p', r', l', e, h1, h2⟩ := HN.out g hg h
          simp at e
          obtain ⟨rfl, rfl, _⟩ := e
          exact ⟨_, _, _, _, _, rfl, h1, h2⟩
set_option maxRecDepth 20000 in
set_option maxHeartbeats 2000000 in
theorem rcopy5_c {v : Value} {n : Nat} {F : List UInt8} {D : List Drt} {p r l : Bool} (w : World) (h : Slt w v n F D p r l) (hn : n ≤ 1000) (hD : D.length ≤ 1000) :
    Calls Tryz.prog 14 #[v] w fun e w' => ∃ v', e = .returned v' ∧ Later w w' ∧ Slt w' v' n F D p r l := by
  have HS := hide h
  obtain ⟨ab, cb, aD, k, cD, rfl, hm⟩ := h
  have HM := hide hm
  clear hm
  have BX : Hid (Box ((w.alloc (.cells #[.slice ab n cb, .slice aD k cD, .bool p, .bool r, .bool l] 27)).alloc (.cells #[.slice none 0 0, .slice none 0 0, .bool false, .bool false, .bool false] 27)) w.heap.size 27 (tc (.slice ab n cb) (.slice aD k cD) p r l)) := (Box.new w 27 #[.slice ab n cb, .slice aD k cD, .bool p, .bool r, .bool l]).alloc _
  have BR : Hid (Box ((w.alloc (.cells #[.slice ab n cb, .slice aD k cD, .bool p, .bool r, .bool l] 27)).alloc (.cells #[.slice none 0 0, .slice none 0 0, .bool false, .bool false, .bool false] 27)) (w.heap.size + 1) 27 (tc (.slice none 0 0) (.slice none 0 0) false false false)) := Box.new' _ _ _ _ rfl _ (by simp)
  have L := hide (((Later.refl w).alloc (.cells #[.slice ab n cb, .slice aD k cD, .bool p, .bool r, .bool l] 27)).alloc (.cells #[.slice none 0 0, .slice none 0 0, .bool false, .bool false, .bool false] 27))
  go_enter Tryz.func14, Tryz.ntmps14
  go_wp2_with fail
  generalize ((w.alloc (.cells #[.slice ab n cb, .slice aD k cD, .bool p, .bool r, .bool l] 27)).alloc (.cells #[.slice none 0 0, .slice none 0 0, .bool false, .bool false, .bool false] 27)) = w1 at *
  refine (rcopy3_c w1 (HM.out.later L.out) hn hD).mono ?_
  rintro e w3 ⟨v3, rfl, hl, h3⟩
  replace BX := hide (BX.out.later hl)
  replace BR := hide (BR.out.later hl)
  replace L := hide (L.out.later hl)
  clear hl
  have M := hide h3
  obtain ⟨a3, c3, a6, k6, c6, rfl, HK6, _, _⟩ := h3.shape
  clear h3
  go_wp2_with (refine wpList_storeT rfl 25 (.tmp 6) (.tmp 5) rfl w.heap.size 0 rfl [.slice a3 n c3, .slice a6 k6 c6] rfl (zero_of_info Tryz.zero_medium).2 (by simp [Value.oneCell']) _ _ BX.out (by simp) ?_)
  intro w4 hw4
  have T := hide (tri_set (Nat.le_refl _) (by omega) BX.out (tc_noints _ _ _ _ _ _ _ _ _) BR.out L.out M.out [.slice a3 n c3, .slice a6 k6 c6] 0 (by simp))
  rw [← hw4.out] at T
  clear BX BR L M hw4
  have BX : Hid (Box w4 w.heap.size 27 (tc (.slice a3 n c3) (.slice a6 k6 c6) p r l)) := T.out.1
  have BR := hide T.out.2.1
  have L := hide T.out.2.2.1
  have M := hide T.out.2.2.2
  clear T
  have HE := hide (slot_set (p := p) (r := r) (l := l) (by omega) BR.out (tc_noints _ _ _ _ _ _ _ _ _) rfl L.out M.out)
  have d0 := BX.out.cell 0
  have d1 := BX.out.cell 1
  have d2 := BX.out.cell 2
  have d3 := BX.out.cell 3
  have d4 := BX.out.cell 4
  go_wp2_with (refine wpList_storeT rfl 27 (.tmp 2) (.tmp 7) rfl (w.heap.size + 1) 0 rfl (tc (.slice a3 n c3) (.slice a6 k6 c6) p r l) rfl Tryz.info_slot (tc_one _ _ _ _ _ _ _ _ _) _ _ BR.out (by simp) ?_)
  intro wz hwz
  rw [← hwz.out] at HE
  clear BX BR L M d0 d1 d2 d3 d4 hwz
  go_wp2
  exact bodyPost_ret (results_cell1 rfl _ _ _ (w.heap.size + 1) 0 rfl (.agg #[.slice a3 n c3, .slice a6 k6 c6, .bool p, .bool r, .bool l]) (shut5 HE.out.1 rfl)) rfl ⟨_, rfl, HE.out.2.1, Slt.mk' _ _ _ HE.out.2.2⟩
end Go.Proofs.YtfakboehmcimpaaGreat

namespace Go.Proofs.YtfakboehmcimpaaGreat
open Go.ChangeShapes Go.WideShapes Go.ChangeAt Go.RowKit
set_option linter.unusedVariables false
set_option maxRecDepth 4000
set_option linter.unusedSimpArgs false
/-! The document's answers for slots: Check, Same. -/
def checkS (n : Nat) (D : List Drt) (p r : Bool) (at_ : Nat) (m : Int) (wr : Bool) : Sns :=
  if !p then (2, 58, 0) else if r && wr then (7, 39, 0) else if withinB (allN n D) at_ m then (0, 0, 0) else (5, 33, 0)
set_option maxRecDepth 20000 in
set_option maxHeartbeats 2000000 in
theorem rcheck_c {v : Value} {n : Nat} {F : List UInt8} {D : List Drt} {p r l : Bool} (at_ : Nat) (m : Int) (wr : Bool) (w : World) (h : Slt w v n F D p r l) (ha : at_ ≤ 18446744073709551615) :
    Calls Tryz.prog 89 #[v, .int .u64 at_, .int .i64 m, .bool wr] w fun e w' => e = .returned (sval (checkS n D p r at_ m wr)) ∧ Later w w' := by
  have HS := hide h
  obtain ⟨ab, cb, aD, k, cD, rfl, hm⟩ := h
  have HM := hide hm
  clear hm
  cases p with
  | false =>
    go_enter Tryz.func89, Tryz.ntmps89
    go_wp2_with fail
    refine (rof_c 2 58 0 _).mono ?_
    rintro e wq ⟨rfl, hl⟩
    have BQ : Hid (Box wq (w.heap.size + 1) 30 (sc (0, 0, 0))) := Box.later (Box.new' _ _ _ _ rfl _ (by simp)) hl
    have LQ : Hid (Later w wq) := Later.trans (((Later.refl w).alloc _).alloc _) hl
    clear hl
    go_wp2_with (refine wpList_storeT rfl 30 (.tmp 8) (.tmp 12) rfl (w.heap.size + 1) 0 rfl (sc (2, 58, 0)) rfl Tryz.info_sense (sc_one _) _ _ BQ.out (by simp) ?_)
    intro wz hwz
    have BZ := hide (BQ.out.all (sc (2, 58, 0)) rfl)
    have LZ := hide (LQ.out.setCells (g := w.heap.size + 1) (by omega) (sc (2, 58, 0)) 0)
    rw [← hwz.out] at BZ LZ
    clear hwz BQ LQ
    go_wp2
    refine bodyPost_ret (results_cell1 rfl _ _ _ (w.heap.size + 1) 0 rfl (sval (2, 58, 0)) (shut3 BZ.out)) rfl ⟨?_, LZ.out⟩
    simp [checkS]
  | true =>
    by_cases hrw : (r && wr) = true
    · obtain ⟨rfl, rfl⟩ : r = true ∧ wr = true := by simpa using hrw
      clear hrw
      go_enter Tryz.func89, Tryz.ntmps89
      go_wp2_with fail
      refine (rof_c 7 39 0 _).mono ?_
      rintro e wq ⟨rfl, hl⟩
      have BQ : Hid (Box wq (w.heap.size + 1) 30 (sc (0, 0, 0))) := Box.later (Box.new' _ _ _ _ rfl _ (by simp)) hl
      have LQ : Hid (Later w wq) := Later.trans (((Later.refl w).alloc _).alloc _) hl
      clear hl
      go_wp2_with (refine wpList_storeT rfl 30 (.tmp 8) (.tmp 18) rfl (w.heap.size + 1) 0 rfl (sc (7, 39, 0)) rfl Tryz.info_sense (sc_one _) _ _ BQ.out (by simp) ?_)
      intro wz hwz
      have BZ := hide (BQ.out.all (sc (7, 39, 0)) rfl)
      have LZ := hide (LQ.out.setCells (g := w.heap.size + 1) (by omega) (sc (7, 39, 0)) 0)
      rw [← hwz.out] at BZ LZ
      clear hwz BQ LQ
      go_wp2
      refine bodyPost_ret (results_cell1 rfl _ _ _ (w.heap.size + 1) 0 rfl (sval (7, 39, 0)) (shut3 BZ.out)) rfl ⟨?_, LZ.out⟩
      simp [checkS]
    · have hC : Hid (checkS n D true r at_ m wr = if withinB (allN n D) at_ m then (0, 0, 0) else (5, 33, 0)) := by
        have h' : (r && wr) = false := by simpa using hrw
        simp [Hid, checkS, h']
      have hNb : Hid (allN n D ≤ 9223372036854775807) := by
        obtain ⟨vb, vd, e, hb, _⟩ := HM.out
        have := hb.2.1
        unfold maxLen at this
        unfold Hid allN
        split <;> omega
      have step : ∀ (rr ww : Bool) (S : Sns), Hid (S = if withinB (allN n D) at_ m then (0, 0, 0) else (5, 33, 0)) → (rr && ww) = false → Calls Tryz.prog 89 #[.agg #[.slice ab n cb, .slice aD k cD, .bool true, .bool rr, .bool l], .int .u64 at_, .int .i64 m, .bool ww] w fun e w' => e = .returned (sval S) ∧ Later w w' := by
        intro rr ww S HSv hh
        cases rr with
        | true =>
          obtain rfl : ww = false := by simpa using hh
          clear hh hrw hC
          go_enter Tryz.func89, Tryz.ntmps89
          go_wp2_with fail
          refine (rall_c _ (HM.out.later (((Later.refl w).alloc _).alloc _))).mono ?_
          rintro e w3 ⟨v3, rfl, hl, h3⟩
          have BQ : Hid (Box w3 (w.heap.size + 1) 30 (sc (0, 0, 0))) := Box.later (Box.new' _ _ _ _ rfl _ (by simp)) hl
          have L3 : Hid (Later w w3) := Later.trans (((Later.refl w).alloc _).alloc _) hl
          obtain ⟨a3, c3, rfl⟩ := (Rw.of_owns h3).shape
          clear hl h3
          generalize allN n D = N at *
          have hNi : (N : Int) ≤ 9223372036854775807 := by have := hNb.out; omega
          go_wp2_with fail
          refine (rwithin_c (N : Int) at_ m _ hNi ha).mono ?_
          rintro e w4 ⟨rfl, hw1⟩
          have hw2 := hw1.symm
          subst hw2
          clear hw1
          cases hW : withinB (N : Int) at_ m with
          | true =>
            go_wp2_with (refine wpList_storeT rfl 30 (.tmp 8) (.tmp 28) rfl (w.heap.size + 1) 0 rfl (sc (0, 0, 0)) rfl Tryz.info_sense (sc_one _) _ _ BQ.out (by simp) ?_)
            intro wz hwz
            have BZ := hide (BQ.out.all (sc (0, 0, 0)) rfl)
            have LZ := hide (L3.out.setCells (g := w.heap.size + 1) (by omega) (sc (0, 0, 0)) 0)
            rw [← hwz.out] at BZ LZ
            clear hwz BQ L3
            go_wp2
            exact bodyPost_ret (results_cell1 rfl _ _ _ (w.heap.size + 1) 0 rfl (sval (0, 0, 0)) (shut3 BZ.out)) rfl ⟨by rw [HSv.out, hW]; rfl, LZ.out⟩
          | false =>
            go_wp2_with fail
            refine (rof_c 5 33 0 _).mono ?_
            rintro e w5 ⟨rfl, hl⟩
            replace BQ := hide (BQ.out.later hl)
            replace L3 := hide (L3.out.later hl)
            clear hl
            go_wp2_with (refine wpList_storeT rfl 30 (.tmp 8) (.tmp 27) rfl (w.heap.size + 1) 0 rfl (sc (5, 33, 0)) rfl Tryz.info_sense (sc_one _) _ _ BQ.out (by simp) ?_)
            intro wz hwz
            have BZ := hide (BQ.out.all (sc (5, 33, 0)) rfl)
            have LZ := hide (L3.out.setCells (g := w.heap.size + 1) (by omega) (sc (5, 33, 0)) 0)
            rw [← hwz.out] at BZ LZ
            clear hwz BQ L3
            go_wp2
            exact bodyPost_ret (results_cell1 rfl _ _ _ (w.heap.size + 1) 0 rfl (sval (5, 33, 0)) (shut3 BZ.out)) rfl ⟨by rw [HSv.out, hW]; rfl, LZ.out⟩
        | false =>
          clear hh hrw hC
          go_enter Tryz.func89, Tryz.ntmps89
          go_wp2_with fail
          refine (rall_c _ (HM.out.later (((Later.refl w).alloc _).alloc _))).mono ?_
          rintro e w3 ⟨v3, rfl, hl, h3⟩
          have BQ : Hid (Box w3 (w.heap.size + 1) 30 (sc (0, 0, 0))) := Box.later (Box.new' _ _ _ _ rfl _ (by simp)) hl
          have L3 : Hid (Later w w3) := Later.trans (((Later.refl w).alloc _).alloc _) hl
          obtain ⟨a3, c3, rfl⟩ := (Rw.of_owns h3).shape
          clear hl h3
          generalize allN n D = N at *
          have hNi : (N : Int) ≤ 9223372036854775807 := by have := hNb.out; omega
          go_wp2_with fail
          refine (rwithin_c (N : Int) at_ m _ hNi ha).mono ?_
          rintro e w4 ⟨rfl, hw1⟩
          have hw2 := hw1.symm
          subst hw2
          clear hw1
          cases hW : withinB (N : Int) at_ m with
          | true =>
            go_wp2_with (refine wpList_storeT rfl 30 (.tmp 8) (.tmp 28) rfl (w.heap.size + 1) 0 rfl (sc (0, 0, 0)) rfl Tryz.info_sense (sc_one _) _ _ BQ.out (by simp) ?_)
            intro wz hwz
            have BZ := hide (BQ.out.all (sc (0, 0, 0)) rfl)
            have LZ := hide (L3.out.setCells (g := w.heap.size + 1) (by omega) (sc (0, 0, 0)) 0)
            rw [← hwz.out] at BZ LZ
            clear hwz BQ L3
            go_wp2
            exact bodyPost_ret (results_cell1 rfl _ _ _ (w.heap.size + 1) 0 rfl (sval (0, 0, 0)) (shut3 BZ.out)) rfl ⟨by rw [HSv.out, hW]; rfl, LZ.out⟩
          | false =>
            go_wp2_with fail
            refine (rof_c 5 33 0 _).mono ?_
            rintro e w5 ⟨rfl, hl⟩
            replace BQ := hide (BQ.out.later hl)
            replace L3 := hide (L3.out.later hl)
            clear hl
            go_wp2_with (refine wpList_storeT rfl 30 (.tmp 8) (.tmp 27) rfl (w.heap.size + 1) 0 rfl (sc (5, 33, 0)) rfl Tryz.info_sense (sc_one _) _ _ BQ.out (by simp) ?_)
            intro wz hwz
            have BZ := hide (BQ.out.all (sc (5, 33, 0)) rfl)
            have LZ := hide (L3.out.setCells (g := w.heap.size + 1) (by omega) (sc (5, 33, 0)) 0)
            rw [← hwz.out] at BZ LZ
            clear hwz BQ L3
            go_wp2
            exact bodyPost_ret (results_cell1 rfl _ _ _ (w.heap.size + 1) 0 rfl (sval (5, 33, 0)) (shut3 BZ.out)) rfl ⟨by rw [HSv.out, hW]; rfl, LZ.out⟩
      exact step r wr _ hC (by simpa using hrw)
set_option maxRecDepth 20000 in
set_option maxHeartbeats 2000000 in
theorem rsame5_c {u v : Value} {n m : Nat} {F G : List UInt8} {D E : List Drt} {p r l p' r' l' : Bool} (w : World) (hu : Slt w u n F D p r l) (hv : Slt w v m G E p' r' l') :
    Calls Tryz.prog 46 #[u, v] w fun e w' => e = .returned (.bool (p == p' && (r == r' && (l == l' && (F == G && D == E))))) ∧ Later w w' := by
  obtain ⟨ab, cb, aD, k, cD, rfl, hm⟩ := hu
  obtain ⟨ab', cb', aD', k', cD', rfl, hm'⟩ := hv
  have HM := hide hm
  have HM' := hide hm'
  clear hm hm'
  cases hp : (p == p') with
  | false =>
    go_enter Tryz.func46, Tryz.ntmps46
    go_wp2
    go_ret
    exact ⟨rfl, ((Later.refl w).alloc _).alloc _⟩
  | true =>
    cases hr : (r == r') with
    | false =>
      go_enter Tryz.func46, Tryz.ntmps46
      go_wp2
      go_ret
      exact ⟨rfl, ((Later.refl w).alloc _).alloc _⟩
    | true =>
      cases hl : (l == l') with
      | false =>
        go_enter Tryz.func46, Tryz.ntmps46
        go_wp2
        go_ret
        exact ⟨rfl, ((Later.refl w).alloc _).alloc _⟩
      | true =>
        go_enter Tryz.func46, Tryz.ntmps46
        go_wp2_with fail
        refine (rsame3_c _ (HM.out.later (((Later.refl w).alloc _).alloc _)) (HM'.out.later (((Later.refl w).alloc _).alloc _))).mono ?_
        rintro e w2 ⟨rfl, hl2⟩
        have L2 : Hid (Later w w2) := Later.trans (((Later.refl w).alloc _).alloc _) hl2
        clear hl2
        go_wp2
        go_ret
        exact ⟨ret_bool (by simp), L2.out⟩
end Go.Proofs.YtfakboehmcimpaaGreat

namespace Go.Proofs.YtfakboehmcimpaaGreat
open Go.ChangeShapes Go.WideShapes Go.ChangeAt Go.RowKit
set_option linter.unusedVariables false
set_option maxRecDepth 4000
set_option linter.unusedSimpArgs false
/-! The document's answers for slots: Keep, Unload. -/
theorem two_set {w w8 : World} {gR gS : Nat} {a b : Option Addr} {n m c d n' : Nat} {F : List UInt8} {D : List Drt} {cr cz : List Value} (p r l : Bool) (s : Sns) (hR : w.heap.size ≤ gR) (hS : w.heap.size ≤ gS) (hne : gR ≠ gS) (BR : Box w8 gR 27 cr) (hn : NoInts cr) (hl5 : cr.length = 5) (BS : Box w8 gS 30 cz) (hl3 : cz.length = 3) (L : Later w w8) (M : Med w8 (.agg #[.slice a n c, .slice b m d]) n' F D)
    (hoff : OffS gS (.slice a n c) ∧ OffS gS (.slice b m d)) :
    Box ((w8.setCells gR 0 (tc (.slice a n c) (.slice b m d) p r l)).setCells gS 0 (sc s)) gR 27 (tc (.slice a n c) (.slice b m d) p r l) ∧ Box ((w8.setCells gR 0 (tc (.slice a n c) (.slice b m d) p r l)).setCells gS 0 (sc s)) gS 30 (sc s) ∧ Later w ((w8.setCells gR 0 (tc (.slice a n c) (.slice b m d) p r l)).setCells gS 0 (sc s)) ∧
    Slt ((w8.setCells gR 0 (tc (.slice a n c) (.slice b m d) p r l)).setCells gS 0 (sc s)) (.agg #[.slice a n c, .slice b m d, .bool p, .bool r, .bool l]) n' F D p r l := by
  have h := slot_set (p := p) (r := r) (l := l) hR BR hn hl5 L M
  have hBS : Box (w8.setCells gR 0 (tc (.slice a n c) (.slice b m d) p r l)) gS 30 cz := BS.kept (heap_setCells_other w8 gR gS (fun e => hne e.symm) _ _)
  exact ⟨h.1.kept (heap_setCells_other _ gS gR hne _ _), hBS.all _ (by simp [hl3]), h.2.1.setCells hS _ 0, (Slt.mk' p r l h.2.2).setOff ⟨_, _, _, _, _, rfl, hoff.1, hoff.2⟩ _ _⟩
def ulS (p l : Bool) : Sns := if !p then (2, 58, 0) else if l then (5, 83, 2) else (0, 0, 0)
set_option maxRecDepth 20000 in
set_option maxHeartbeats 2000000 in
theorem rkeep_c {v : Value} {n : Nat} {F : List UInt8} {D : List Drt} {p r l : Bool} (on : Bool) (w : World) (h : Slt w v n F D p r l) :
    Calls Tryz.prog 40 #[v, .bool on] w fun e w' => ∃ v', e = .returned (.tuple #[v', sval (readyS p)]) ∧ Later w w' ∧ Slt w' v' n F D p r (if p then on else l) := by
  have HS := hide h
  obtain ⟨ab, cb, aD, k, cD, rfl, hm⟩ := h
  have HM := hide hm
  clear hm
  cases p with
  | true =>
    have L3 : Hid (Later w (((w.alloc (.cells #[.slice ab n cb, .slice aD k cD, .bool true, .bool r, .bool on] 27)).alloc (.cells #[.slice ab n cb, .slice aD k cD, .bool true, .bool r, .bool on] 27)).alloc (.cells #[.int .i64 0, .int .i64 0, .int .i64 0] 30))) := (((Later.refl w).alloc _).alloc _).alloc _
    go_enter Tryz.func40, Tryz.ntmps40
    go_wp2
    exact bodyPost_ret (results_cell_cell' rfl _ _ _ (w.heap.size + 1) 0 (w.heap.size + 1 + 1) 0 rfl rfl (.agg #[.slice ab n cb, .slice aD k cD, .bool true, .bool r, .bool on]) (sval (0, 0, 0)) (shut5 (cs := tc (.slice ab n cb) (.slice aD k cD) true r on) ((Box.new' _ _ _ _ rfl _ (by simp)).alloc _) rfl) (shut3 (s := (0, 0, 0)) (Box.new' _ _ _ _ rfl _ (by simp)))) rfl ⟨_, rfl, L3.out, Slt.mk' _ _ _ (HM.out.later L3.out)⟩
  | false =>
    have BX : Hid (Box (((w.alloc (.cells #[.slice ab n cb, .slice aD k cD, .bool false, .bool r, .bool l] 27)).alloc (.cells #[.slice none 0 0, .slice none 0 0, .bool false, .bool false, .bool false] 27)).alloc (.cells #[.int .i64 0, .int .i64 0, .int .i64 0] 30)) w.heap.size 27 (tc (.slice ab n cb) (.slice aD k cD) false r l)) := ((Box.new w 27 #[.slice ab n cb, .slice aD k cD, .bool false, .bool r, .bool l]).alloc _).alloc _
    have BR : Hid (Box (((w.alloc (.cells #[.slice ab n cb, .slice aD k cD, .bool false, .bool r, .bool l] 27)).alloc (.cells #[.slice none 0 0, .slice none 0 0, .bool false, .bool false, .bool false] 27)).alloc (.cells #[.int .i64 0, .int .i64 0, .int .i64 0] 30)) (w.heap.size + 1) 27 (tc (.slice none 0 0) (.slice none 0 0) false false false)) := (Box.new' _ _ _ _ rfl _ (by simp)).alloc _
    have BS : Hid (Box (((w.alloc (.cells #[.slice ab n cb, .slice aD k cD, .bool false, .bool r, .bool l] 27)).alloc (.cells #[.slice none 0 0, .slice none 0 0, .bool false, .bool false, .bool false] 27)).alloc (.cells #[.int .i64 0, .int .i64 0, .int .i64 0] 30)) (w.heap.size + 1 + 1) 30 (sc (0, 0, 0))) := Box.new' _ _ _ _ rfl _ (by simp)
    have L := hide ((((Later.refl w).alloc (.cells #[.slice ab n cb, .slice aD k cD, .bool false, .bool r, .bool l] 27)).alloc (.cells #[.slice none 0 0, .slice none 0 0, .bool false, .bool false, .bool false] 27)).alloc (.cells #[.int .i64 0, .int .i64 0, .int .i64 0] 30))
    go_enter Tryz.func40, Tryz.ntmps40
    go_wp2_with fail
    generalize (((w.alloc (.cells #[.slice ab n cb, .slice aD k cD, .bool false, .bool r, .bool l] 27)).alloc (.cells #[.slice none 0 0, .slice none 0 0, .bool false, .bool false, .bool false] 27)).alloc (.cells #[.int .i64 0, .int .i64 0, .int .i64 0] 30)) = w1 at *
    refine wp_region_tree [0, 1] [] [2, 3] (by kernel_rfl) (by kernel_rfl) (by kernel_rfl) (by kernel_rfl) ?_
    refine wpT_loadG rfl (by kernel_rfl) 27 (.tmp 2) rfl w.heap.size 0 rfl (tc (.slice ab n cb) (.slice aD k cD) false r l) _ ((World.rangeAt_drew _ _ _ _).2 BX.out.range) Tryz.underlying27 rfl Tryz.info_slot ?_
    refine wpT_call rfl (by kernel_rfl) 12 (Plain.of (by kernel_rfl)) [.const (.int .i64 2), .const (.int .i64 58), .const (.int .i64 0)] _ rfl [.int .i64 2, .int .i64 58, .int .i64 0] rfl (sval (2, 58, 0)) (fun wx hx => rof_c _ _ _ wx) ?_
    refine wpT_done (fun wx hwx => ?_)
    have hlx := (Later.refl w1).drew.trans hwx
    replace BR := hide (BR.out.later hlx)
    replace BS := hide (BS.out.later hlx)
    replace L := hide (L.out.later hlx)
    clear hwx hlx BX
    have hOff : Hid (OffS (w.heap.size + 1 + 1) (.slice ab n cb) ∧ OffS (w.heap.size + 1 + 1) (.slice aD k cD)) := by
      obtain ⟨a, b, p', r', l', e, h1, h2⟩ := HS.out.old (g := w.heap.size + 1 + 1) (by omega)
      simp at e
      obtain ⟨rfl, rfl, _⟩ := e
      exact ⟨h1, h2⟩
    have TS := hide (two_set false r l (2, 58, 0) (by omega) (by omega) (by omega) BR.out (tc_noints _ _ _ _ _ _ _ _ _) rfl BS.out rfl L.out (HM.out.later L.out) hOff.out)
    have ht3 : Hid ((wx.setCells (w.heap.size + 1) 0 (tc (.slice ab n cb) (.slice aD k cD) false r l)).there (w.heap.size + 1 + 1) 0 3) := (BS.out.kept (heap_setCells_other wx (w.heap.size + 1) (w.heap.size + 1 + 1) (by omega) _ _)).there 0 3 (by simp)
    refine wpL_store rfl (by kernel_rfl) 27 (.tmp 4) (.tmp 9) rfl (w.heap.size + 1) 0 (tc (.slice ab n cb) (.slice aD k cD) false r l) rfl rfl (BR.out.there 0 5 (by simp)) Tryz.info_slot (tc_one _ _ _ _ _ _ _ _ _) ?_
    refine wpL_store rfl (by kernel_rfl) 30 _ _ rfl (w.heap.size + 1 + 1) 0 (sc (2, 58, 0)) rfl rfl ht3.out Tryz.info_sense (sc_one _) (wpL_nil ?_)
    clear BR BS L ht3 hOff
    generalize ((wx.setCells (w.heap.size + 1) 0 (tc (.slice ab n cb) (.slice aD k cD) false r l)).setCells (w.heap.size + 1 + 1) 0 (sc (2, 58, 0))) = wz at *
    go_wp2
    exact bodyPost_ret (results_cell_cell' rfl _ _ _ (w.heap.size + 1) 0 (w.heap.size + 1 + 1) 0 rfl rfl (.agg #[.slice ab n cb, .slice aD k cD, .bool false, .bool r, .bool l]) (sval (2, 58, 0)) (shut5 TS.out.1 rfl) (shut3 TS.out.2.1)) rfl ⟨_, rfl, TS.out.2.2.1, TS.out.2.2.2⟩
set_option maxRecDepth 20000 in
set_option maxHeartbeats 2000000 in
theorem runload_c {v : Value} {n : Nat} {F : List UInt8} {D : List Drt} {p r l : Bool} (w : World) (h : Slt w v n F D p r l) :
    Calls Tryz.prog 85 #[v] w fun e w' => ∃ v', e = .returned (.tuple #[v', sval (ulS p l)]) ∧ Later w w' ∧ Slt w' v' n (btF p l n F D) (btD p l n D) (p && l) r l := by
  have HS := hide h
  obtain ⟨ab, cb, aD, k, cD, rfl, hm⟩ := h
  have HM := hide hm
  clear hm
  cases p with
  | false =>
    have hb : Hid (ulS false l = (2, 58, 0) ∧ btF false l n F D = F ∧ btD false l n D = D) := by simp [Hid, ulS, btF, btD]
    rw [hb.out.1, hb.out.2.1, hb.out.2.2]
    have BX : Hid (Box (((w.alloc (.cells #[.slice ab n cb, .slice aD k cD, .bool false, .bool r, .bool l] 27)).alloc (.cells #[.slice none 0 0, .slice none 0 0, .bool false, .bool false, .bool false] 27)).alloc (.cells #[.int .i64 0, .int .i64 0, .int .i64 0] 30)) w.heap.size 27 (tc (.slice ab n cb) (.slice aD k cD) false r l)) := ((Box.new w 27 #[.slice ab n cb, .slice aD k cD, .bool false, .bool r, .bool l]).alloc _).alloc _
    have BR : Hid (Box (((w.alloc (.cells #[.slice ab n cb, .slice aD k cD, .bool false, .bool r, .bool l] 27)).alloc (.cells #[.slice none 0 0, .slice none 0 0, .bool false, .bool false, .bool false] 27)).alloc (.cells #[.int .i64 0, .int .i64 0, .int .i64 0] 30)) (w.heap.size + 1) 27 (tc (.slice none 0 0) (.slice none 0 0) false false false)) := (Box.new' _ _ _ _ rfl _ (by simp)).alloc _
    have BS : Hid (Box (((w.alloc (.cells #[.slice ab n cb, .slice aD k cD, .bool false, .bool r, .bool l] 27)).alloc (.cells #[.slice none 0 0, .slice none 0 0, .bool false, .bool false, .bool false] 27)).alloc (.cells #[.int .i64 0, .int .i64 0, .int .i64 0] 30)) (w.heap.size + 1 + 1) 30 (sc (0, 0, 0))) := Box.new' _ _ _ _ rfl _ (by simp)
    have L := hide ((((Later.refl w).alloc (.cells #[.slice ab n cb, .slice aD k cD, .bool false, .bool r, .bool l] 27)).alloc (.cells #[.slice none 0 0, .slice none 0 0, .bool false, .bool false, .bool false] 27)).alloc (.cells #[.int .i64 0, .int .i64 0, .int .i64 0] 30))
    go_enter Tryz.func85, Tryz.ntmps85
    go_wp2_with fail
    generalize (((w.alloc (.cells #[.slice ab n cb, .slice aD k cD, .bool false, .bool r, .bool l] 27)).alloc (.cells #[.slice none 0 0, .slice none 0 0, .bool false, .bool false, .bool false] 27)).alloc (.cells #[.int .i64 0, .int .i64 0, .int .i64 0] 30)) = w1 at *
    refine wp_region_tree [0, 1] [] [2, 3] (by kernel_rfl) (by kernel_rfl) (by kernel_rfl) (by kernel_rfl) ?_
    refine wpT_loadG rfl (by kernel_rfl) 27 (.tmp 1) rfl w.heap.size 0 rfl (tc (.slice ab n cb) (.slice aD k cD) false r l) _ ((World.rangeAt_drew _ _ _ _).2 BX.out.range) Tryz.underlying27 rfl Tryz.info_slot ?_
    refine wpT_call rfl (by kernel_rfl) 12 (Plain.of (by kernel_rfl)) [.const (.int .i64 2), .const (.int .i64 58), .const (.int .i64 0)] _ rfl [.int .i64 2, .int .i64 58, .int .i64 0] rfl (sval (2, 58, 0)) (fun wx hx => rof_c _ _ _ wx) ?_
    refine wpT_done (fun wx hwx => ?_)
    have hlx := (Later.refl w1).drew.trans hwx
    replace BR := hide (BR.out.later hlx)
    replace BS := hide (BS.out.later hlx)
    replace L := hide (L.out.later hlx)
    clear hwx hlx BX
    have hOff : Hid (OffS (w.heap.size + 1 + 1) (.slice ab n cb) ∧ OffS (w.heap.size + 1 + 1) (.slice aD k cD)) := by
      obtain ⟨a, b, p', r', l', e, h1, h2⟩ := HS.out.old (g := w.heap.size + 1 + 1) (by omega)
      simp at e
      obtain ⟨rfl, rfl, _⟩ := e
      exact ⟨h1, h2⟩
    have TS := hide (two_set false r l (2, 58, 0) (by omega) (by omega) (by omega) BR.out (tc_noints _ _ _ _ _ _ _ _ _) rfl BS.out rfl L.out (HM.out.later L.out) hOff.out)
    have ht3 : Hid ((wx.setCells (w.heap.size + 1) 0 (tc (.slice ab n cb) (.slice aD k cD) false r l)).there (w.heap.size + 1 + 1) 0 3) := (BS.out.kept (heap_setCells_other wx (w.heap.size + 1) (w.heap.size + 1 + 1) (by omega) _ _)).there 0 3 (by simp)
    refine wpL_store rfl (by kernel_rfl) 27 (.tmp 2) (.tmp 9) rfl (w.heap.size + 1) 0 (tc (.slice ab n cb) (.slice aD k cD) false r l) rfl rfl (BR.out.there 0 5 (by simp)) Tryz.info_slot (tc_one _ _ _ _ _ _ _ _ _) ?_
    refine wpL_store rfl (by kernel_rfl) 30 _ _ rfl (w.heap.size + 1 + 1) 0 (sc (2, 58, 0)) rfl rfl ht3.out Tryz.info_sense (sc_one _) (wpL_nil ?_)
    clear BR BS L ht3 hOff
    generalize ((wx.setCells (w.heap.size + 1) 0 (tc (.slice ab n cb) (.slice aD k cD) false r l)).setCells (w.heap.size + 1 + 1) 0 (sc (2, 58, 0))) = wz at *
    go_wp2
    exact bodyPost_ret (results_cell_cell' rfl _ _ _ (w.heap.size + 1) 0 (w.heap.size + 1 + 1) 0 rfl rfl (.agg #[.slice ab n cb, .slice aD k cD, .bool false, .bool r, .bool l]) (sval (2, 58, 0)) (shut5 TS.out.1 rfl) (shut3 TS.out.2.1)) rfl ⟨_, rfl, TS.out.2.2.1, TS.out.2.2.2⟩
  | true =>
    cases l with
    | true =>
      have hb : Hid (ulS true true = (5, 83, 2) ∧ btF true true n F D = F ∧ btD true true n D = D) := by simp [Hid, ulS, btF, btD]
      rw [hb.out.1, hb.out.2.1, hb.out.2.2]
      have BX : Hid (Box (((w.alloc (.cells #[.slice ab n cb, .slice aD k cD, .bool true, .bool r, .bool true] 27)).alloc (.cells #[.slice none 0 0, .slice none 0 0, .bool false, .bool false, .bool false] 27)).alloc (.cells #[.int .i64 0, .int .i64 0, .int .i64 0] 30)) w.heap.size 27 (tc (.slice ab n cb) (.slice aD k cD) true r true)) := ((Box.new w 27 #[.slice ab n cb, .slice aD k cD, .bool true, .bool r, .bool true]).alloc _).alloc _
      have BR : Hid (Box (((w.alloc (.cells #[.slice ab n cb, .slice aD k cD, .bool true, .bool r, .bool true] 27)).alloc (.cells #[.slice none 0 0, .slice none 0 0, .bool false, .bool false, .bool false] 27)).alloc (.cells #[.int .i64 0, .int .i64 0, .int .i64 0] 30)) (w.heap.size + 1) 27 (tc (.slice none 0 0) (.slice none 0 0) false false false)) := (Box.new' _ _ _ _ rfl _ (by simp)).alloc _
      have BS : Hid (Box (((w.alloc (.cells #[.slice ab n cb, .slice aD k cD, .bool true, .bool r, .bool true] 27)).alloc (.cells #[.slice none 0 0, .slice none 0 0, .bool false, .bool false, .bool false] 27)).alloc (.cells #[.int .i64 0, .int .i64 0, .int .i64 0] 30)) (w.heap.size + 1 + 1) 30 (sc (0, 0, 0))) := Box.new' _ _ _ _ rfl _ (by simp)
      have L := hide ((((Later.refl w).alloc (.cells #[.slice ab n cb, .slice aD k cD, .bool true, .bool r, .bool true] 27)).alloc (.cells #[.slice none 0 0, .slice none 0 0, .bool false, .bool false, .bool false] 27)).alloc (.cells #[.int .i64 0, .int .i64 0, .int .i64 0] 30))
      go_enter Tryz.func85, Tryz.ntmps85
      go_wp2_with fail
      generalize (((w.alloc (.cells #[.slice ab n cb, .slice aD k cD, .bool true, .bool r, .bool true] 27)).alloc (.cells #[.slice none 0 0, .slice none 0 0, .bool false, .bool false, .bool false] 27)).alloc (.cells #[.int .i64 0, .int .i64 0, .int .i64 0] 30)) = w1 at *
      refine wp_region_tree [0, 1] [] [2, 3] (by kernel_rfl) (by kernel_rfl) (by kernel_rfl) (by kernel_rfl) ?_
      refine wpT_loadG rfl (by kernel_rfl) 27 (.tmp 1) rfl w.heap.size 0 rfl (tc (.slice ab n cb) (.slice aD k cD) true r true) _ ((World.rangeAt_drew _ _ _ _).2 BX.out.range) Tryz.underlying27 rfl Tryz.info_slot ?_
      refine wpT_call rfl (by kernel_rfl) 12 (Plain.of (by kernel_rfl)) [.const (.int .i64 5), .const (.int .i64 83), .const (.int .i64 2)] _ rfl [.int .i64 5, .int .i64 83, .int .i64 2] rfl (sval (5, 83, 2)) (fun wx hx => rof_c _ _ _ wx) ?_
      refine wpT_done (fun wx hwx => ?_)
      have hlx := (Later.refl w1).drew.trans hwx
      replace BR := hide (BR.out.later hlx)
      replace BS := hide (BS.out.later hlx)
      replace L := hide (L.out.later hlx)
      clear hwx hlx BX
      have hOff : Hid (OffS (w.heap.size + 1 + 1) (.slice ab n cb) ∧ OffS (w.heap.size + 1 + 1) (.slice aD k cD)) := by
        obtain ⟨a, b, p', r', l', e, h1, h2⟩ := HS.out.old (g := w.heap.size + 1 + 1) (by omega)
        simp at e
        obtain ⟨rfl, rfl, _⟩ := e
        exact ⟨h1, h2⟩
      have TS := hide (two_set true r true (5, 83, 2) (by omega) (by omega) (by omega) BR.out (tc_noints _ _ _ _ _ _ _ _ _) rfl BS.out rfl L.out (HM.out.later L.out) hOff.out)
      have ht3 : Hid ((wx.setCells (w.heap.size + 1) 0 (tc (.slice ab n cb) (.slice aD k cD) true r true)).there (w.heap.size + 1 + 1) 0 3) := (BS.out.kept (heap_setCells_other wx (w.heap.size + 1) (w.heap.size + 1 + 1) (by omega) _ _)).there 0 3 (by simp)
      refine wpL_store rfl (by kernel_rfl) 27 (.tmp 2) (.tmp 13) rfl (w.heap.size + 1) 0 (tc (.slice ab n cb) (.slice aD k cD) true r true) rfl rfl (BR.out.there 0 5 (by simp)) Tryz.info_slot (tc_one _ _ _ _ _ _ _ _ _) ?_
      refine wpL_store rfl (by kernel_rfl) 30 _ _ rfl (w.heap.size + 1 + 1) 0 (sc (5, 83, 2)) rfl rfl ht3.out Tryz.info_sense (sc_one _) (wpL_nil ?_)
      clear BR BS L ht3 hOff
      generalize ((wx.setCells (w.heap.size + 1) 0 (tc (.slice ab n cb) (.slice aD k cD) true r true)).setCells (w.heap.size + 1 + 1) 0 (sc (5, 83, 2))) = wz at *
      go_wp2
      exact bodyPost_ret (results_cell_cell' rfl _ _ _ (w.heap.size + 1) 0 (w.heap.size + 1 + 1) 0 rfl rfl (.agg #[.slice ab n cb, .slice aD k cD, .bool true, .bool r, .bool true]) (sval (5, 83, 2)) (shut5 TS.out.1 rfl) (shut3 TS.out.2.1)) rfl ⟨_, rfl, TS.out.2.2.1, TS.out.2.2.2⟩
    | false =>
      have BX : Hid (Box (((w.alloc (.cells #[.slice ab n cb, .slice aD k cD, .bool true, .bool r, .bool false] 27)).alloc (.cells #[.slice none 0 0, .slice none 0 0, .bool false, .bool false, .bool false] 27)).alloc (.cells #[.int .i64 0, .int .i64 0, .int .i64 0] 30)) w.heap.size 27 (tc (.slice ab n cb) (.slice aD k cD) true r false)) := ((Box.new w 27 #[.slice ab n cb, .slice aD k cD, .bool true, .bool r, .bool false]).alloc _).alloc _
      have BR : Hid (Box (((w.alloc (.cells #[.slice ab n cb, .slice aD k cD, .bool true, .bool r, .bool false] 27)).alloc (.cells #[.slice none 0 0, .slice none 0 0, .bool false, .bool false, .bool false] 27)).alloc (.cells #[.int .i64 0, .int .i64 0, .int .i64 0] 30)) (w.heap.size + 1) 27 (tc (.slice none 0 0) (.slice none 0 0) false false false)) := (Box.new' _ _ _ _ rfl _ (by simp)).alloc _
      have BS : Hid (Box (((w.alloc (.cells #[.slice ab n cb, .slice aD k cD, .bool true, .bool r, .bool false] 27)).alloc (.cells #[.slice none 0 0, .slice none 0 0, .bool false, .bool false, .bool false] 27)).alloc (.cells #[.int .i64 0, .int .i64 0, .int .i64 0] 30)) (w.heap.size + 1 + 1) 30 (sc (0, 0, 0))) := Box.new' _ _ _ _ rfl _ (by simp)
      have L := hide ((((Later.refl w).alloc (.cells #[.slice ab n cb, .slice aD k cD, .bool true, .bool r, .bool false] 27)).alloc (.cells #[.slice none 0 0, .slice none 0 0, .bool false, .bool false, .bool false] 27)).alloc (.cells #[.int .i64 0, .int .i64 0, .int .i64 0] 30))
      go_enter Tryz.func85, Tryz.ntmps85
      go_wp2_with fail
      generalize (((w.alloc (.cells #[.slice ab n cb, .slice aD k cD, .bool true, .bool r, .bool false] 27)).alloc (.cells #[.slice none 0 0, .slice none 0 0, .bool false, .bool false, .bool false] 27)).alloc (.cells #[.int .i64 0, .int .i64 0, .int .i64 0] 30)) = w1 at *
      refine (rbutton_c w1 (HS.out.later L.out)).mono ?_
      rintro e w3 ⟨v3, rfl, hl, h3, hN⟩
      have hO3 : Hid (OffT (w.heap.size + 1 + 1) v3) := hN _ BS.out.lt (HS.out.old (by omega))
      replace BR := hide (BR.out.later hl)
      replace BS := hide (BS.out.later hl)
      replace L := hide (L.out.later hl)
      clear hl hN BX
      obtain ⟨a3, c3, a6, k6, c6, rfl, hm3⟩ := h3
      have M := hide hm3
      clear hm3
      have hOff : Hid (OffS (w.heap.size + 1 + 1) (.slice a3 n c3) ∧ OffS (w.heap.size + 1 + 1) (.slice a6 k6 c6)) := by
        obtain ⟨a, b, p', r', l', e, h1, h2⟩ := hO3.out
        simp at e
        obtain ⟨rfl, rfl, _⟩ := e
        exact ⟨h1, h2⟩
      clear hO3
      go_wp2_with (refine wpList_new rfl rfl 27 rfl 4 rfl (by simp) (.tmp 18) (by simp) rfl #[.slice none 0 0, .slice none 0 0, .bool false, .bool false, .bool false] (tc (.slice a3 n c3) (.slice a6 k6 c6) false r false) Tryz.zero_slot rfl rfl (tc_one _ _ _ _ _ _ _ _ _) ?_)
      intro g4 w4 hB hl hg
      replace BR := hide (BR.out.later hl)
      replace BS := hide (BS.out.later hl)
      replace L := hide (L.out.later hl)
      replace M := hide (M.out.later hl)
      have B4 := hide hB
      clear hB hl hg
      have TS := hide (two_set false r false (0, 0, 0) (by omega) (by omega) (by omega) BR.out (tc_noints _ _ _ _ _ _ _ _ _) rfl BS.out rfl L.out M.out hOff.out)
      have BS5 := hide (BS.out.kept (heap_setCells_other w4 (w.heap.size + 1) (w.heap.size + 1 + 1) (by omega) (tc (.slice a3 n c3) (.slice a6 k6 c6) false r false) 0))
      have d0 := B4.out.cell 0
      have d1 := B4.out.cell 1
      have d2 := B4.out.cell 2
      have d3 := B4.out.cell 3
      have d4 := B4.out.cell 4
      go_wp2_with (refine wpList_storeT rfl 27 (.tmp 2) (.tmp 20) rfl (w.heap.size + 1) 0 rfl (tc (.slice a3 n c3) (.slice a6 k6 c6) false r false) rfl Tryz.info_slot (tc_one _ _ _ _ _ _ _ _ _) _ _ BR.out (by simp) ?_)
      intro w5 hw5
      rw [← hw5.out] at TS BS5
      clear hw5 BR BS L M d0 d1 d2 d3 d4 B4
      go_wp2_with (refine wpList_storeT rfl 30 (.tmp 3) (.tmp 21) rfl (w.heap.size + 1 + 1) 0 rfl (sc (0, 0, 0)) rfl Tryz.info_sense (sc_one _) _ _ BS5.out (by simp) ?_)
      intro w6 hw6
      rw [← hw6.out] at TS
      clear hw6 BS5
      go_wp2
      exact bodyPost_ret (results_cell_cell' rfl _ _ _ (w.heap.size + 1) 0 (w.heap.size + 1 + 1) 0 rfl rfl (.agg #[.slice a3 n c3, .slice a6 k6 c6, .bool false, .bool r, .bool false]) (sval (0, 0, 0)) (shut5 TS.out.1 rfl) (shut3 TS.out.2.1)) rfl ⟨_, rfl, TS.out.2.2.1, TS.out.2.2.2⟩
end Go.Proofs.YtfakboehmcimpaaGreat
