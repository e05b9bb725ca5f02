import Derived.Test.YtmelkgmbiiobgaaMAT
import Derived.Test.YtmelkgmbiiobgaaMAI
namespace Go.Proofs.Ytmelkgmbiiobgaa
open Go.ChangeShapes Go.WideShapes Go.ChangeAt Go.RowKit
set_option linter.unusedVariables false
set_option maxRecDepth 4000
set_option linter.unusedSimpArgs false
theorem bread_long (ad : Option Addr) (len ca : Nat) (a : Nat) (n : Int) (w : World) (hlen : 64 < len) (hm : len ≤ maxLen) :
    Calls Try.prog 75 #[.slice ad len ca, .int .u64 a, .int .i64 n] w fun e w' => e = .returned (.tuple #[.slice none 0 0, .int .i64 4]) ∧ w' = w := by
  unfold maxLen at hm
  go_enter Try.func75, Try.ntmps75
  go_wp2
  go_ret2
  exact ⟨rfl, rfl⟩
theorem bread_range (ad : Option Addr) (len ca : Nat) (a : Nat) (n : Int) (w : World) (hlen : len ≤ 64) (ha : a ≤ 18446744073709551615) (hn1 : -9223372036854775808 ≤ n) (hn2 : n ≤ 9223372036854775807) (hw : withinB len a n = false) :
    Calls Try.prog 75 #[.slice ad len ca, .int .u64 a, .int .i64 n] w fun e w' => e = .returned (.tuple #[.slice none 0 0, .int .i64 5]) ∧ w' = w := by
  go_enter Try.func75, Try.ntmps75
  go_wp2_with (go_at_call 72; refine (bwithin_w _ _ _ _ (by omega) (by omega) (by omega) (by omega) (by omega)).mono ?_; rintro e w1 ⟨rfl, hw1⟩; have hw2 := hw1.symm; subst hw2; clear hw1)
  go_ret2
  exact ⟨rfl, rfl⟩
theorem bv_arr_get (X : List UInt8) (j : Nat) (h : j < X.length) : (bv X).toArray[j]? = some (.int .u8 (X[j].toNat : Int)) := by simp [bv, h]
set_option maxHeartbeats 2000000 in
theorem bread_yes (ad : Option Addr) (len ca : Nat) (F : List UInt8) (a n : Nat) (w : World) (hlen : len ≤ 64) (hF : F.length = len * 64) (ha : a + n ≤ len) (hr : n = 0 ∨ ∃ ba oa, ad = some ⟨ba, oa, none⟩ ∧ w.rangeAt ba oa (bv F)) :
    Calls Try.prog 75 #[.slice ad len ca, .int .u64 a, .int .i64 n] w fun e w' => ∃ v, e = .returned (.tuple #[v, .int .i64 0]) ∧ Later w w' ∧ w'.ownsRow w.heap.size 5 1 v (n * 64) (bv (seg F (a * 64) (n * 64))) := by
  have hw : withinB len a n = true := by simp [withinB]; omega
  have Hr := hide hr
  clear hr
  go_enter Try.func75, Try.ntmps75
  go_wp2_with (first
    | (go_at_call 72; refine (bwithin_w _ _ _ _ (by omega) (by omega) (by omega) (by omega) (by omega)).mono ?_; rintro e w1 ⟨rfl, hw1⟩; have hw2 := hw1.symm; subst hw2; clear hw1)
    | (at_make; refine wpList_make_room Try.elem_u8 rfl _ _ 39 rfl Try.underlying39 _ (n * 64) rfl rfl ?c0 ?c1 ?c2 ?_))
  case c0 => omega
  case c1 => omega
  case c2 => unfold maxLen; omega
  rintro w1 ho1 hl1
  have Ho1 := hide ho1
  have L1 := hide hl1
  clear ho1 hl1
  go_wp2_with fail
  go_loopw [8, 25] (fun v i wr => ∃ k : Nat, k ≤ n ∧ i = .int .i64 k ∧ Hid (wr.ownsRow w.heap.size 5 1 v (k * 64) (bv (seg F (a * 64) (k * 64)))) ∧ Hid (Later w wr)) (fun _ i _ => n - (intOf i).toNat)
  case atStart => exact ⟨0, Nat.zero_le _, rfl, by simpa [Hid, seg_zero, bv] using Ho1.out, L1⟩
  case round =>
    clear Ho1 L1
    obtain ⟨k, hk, rfl, hown, hbl⟩ := hrel
    by_cases hlt : k < n
    · obtain ⟨ba, oa, rfl, hr0⟩ := Hr.out.resolve_left (by omega)
      have hrg := hide (hbl.out.range hr0)
      have hx := hide (by have := range_part hrg.out ((a + k) * 64) 64; rwa [bv_part] at this)
      have hxl := hide (seg_length F ((a + k) * 64) 64 (by omega))
      clear hr0 hrg
      go_wp2_with (refine wpList_load_mid rfl 50 (.tmp 33) rfl ba (oa + (a + k) * 64) rfl (bv (seg F ((a + k) * 64) 64)) _ hx.out Try.underlying50 rfl (by rw [Try.info_block, bv_length, hxl.out]) ?_)
      have hown2 := hown
      have hbl2 := hbl
      clear hx
      go_loopw [8, 35] (fun v i wq => ∃ j : Nat, j ≤ 64 ∧ i = .int .i64 j ∧ Hid (wq.ownsRow w.heap.size 5 1 v (k * 64 + j) (bv (seg F (a * 64) (k * 64 + j)))) ∧ Hid (Later w wq)) (fun _ i _ => 64 - (intOf i).toNat)
      case atStart => exact ⟨0, Nat.zero_le _, rfl, hown2, hbl2⟩
      case round =>
        obtain ⟨j, hj, rfl, hownj, hlj⟩ := hrel
        clear hown2 hbl2 hown hbl
        by_cases hltj : j < 64
        · have hXl := hxl.out
          have hsn : Hid (seg F (a * 64) (k * 64 + (j + 1)) = seg F (a * 64) (k * 64 + j) ++ [(seg F ((a + k) * 64) 64)[j]]) := by
            unfold Hid
            rw [← Nat.add_assoc, seg_snoc F (a * 64) (k * 64 + j) (by omega)]
            congr 2
            simp [seg]
            congr 1
            omega
          have hsz := hlj.out.size
          have hbyte := run_index_arr (P := Try.prog) wr 50 5 64 Try.underlying50 Try.underlying5 (by kernel_rfl) (bv (seg F ((a + k) * 64) 64)).toArray .i64 j hltj _ (bv_arr_get (seg F ((a + k) * 64) 64) j (by omega))
          generalize (seg F ((a + k) * 64) 64)[j] = c at *
          have hor := hide (hownj.out.alloc (.cells #[.int .u8 (c.toNat : Int)] 5))
          have hBr := hide (hlj.out.alloc (.cells #[.int .u8 (c.toNat : Int)] 5))
          have hone := hide (Bs.one wr c 5)
          clear hownj hlj
          go_wp2_with (at_builtin; refine wpList_append_bs rfl (.tmp 38) (.tmp 40) rfl w.heap.size _ (k * 64 + j) _ rfl hor.out _ [c] rfl hone.out ?c1 ?c2 w hBr.out ?_)
          case c1 => simp; omega
          case c2 => simp; omega
          intro v' w' ho' hb' hg'
          have R : Hid (w'.ownsRow w.heap.size 5 1 v' (k * 64 + (j + 1)) (bv (seg F (a * 64) (k * 64 + (j + 1)))) ∧ Later w w') := by
            refine ⟨?_, hb'⟩
            rw [hsn.out]
            exact ho'
          clear ho' hb' hg' hbyte hor hone hBr
          go_wp2
          go_roundw
          case rel => exact ⟨j + 1, by omega, by go_num, R.out.1, R.out.2⟩
          case measure => simp [intOf]; omega
        · have hj64 : Hid (j = 64) := by unfold Hid; omega
          go_wp2
          go_roundw
          case rel =>
            refine ⟨k + 1, by omega, by go_num, ?_, hlj⟩
            have := hownj.out
            rw [hj64.out] at this
            unfold Hid
            rw [show (k + 1) * 64 = k * 64 + 64 from by omega]
            exact this
          case measure => simp [intOf]; omega
    · have hkn : Hid (k = n) := by unfold Hid; omega
      go_wp2
      go_ret2
      refine ⟨_, rfl, hbl.out, ?_⟩
      have := hown.out
      rwa [hkn.out] at this
theorem bread_o {v : Value} {len : Nat} {F : List UInt8} (a : Nat) (n : Int) (w : World) (h : Rw 64 w v len (bv F)) (ha : a ≤ 18446744073709551615) (hn1 : -9223372036854775808 ≤ n) (hn2 : n ≤ 9223372036854775807) :
    Calls Try.prog 75 #[v, .int .u64 a, .int .i64 n] w fun e w' => ∃ v', e = .returned (.tuple #[v', .int .i64 (readE len a n)]) ∧ Later w w' ∧ w'.ownsRow w.heap.size 5 1 v' (readL len F a n).length (bv (readL len F a n)) := by
  obtain ⟨hl, hm, ad, ca, rfl, _, hr⟩ := h
  rw [bv_length] at hl
  unfold readE readL
  by_cases h1 : 64 < len
  · simp only [if_pos h1]
    exact (bread_long ad len ca a n w h1 hm).mono fun e w' ⟨he, hw⟩ => ⟨_, he, by rw [hw]; exact Later.refl w, World.ownsRow_nil _ _ _ _⟩
  · simp only [if_neg h1]
    by_cases h2 : withinB len a n = true
    · simp only [h2, if_true]
      have h2' := h2
      simp [withinB] at h2'
      obtain ⟨k, rfl⟩ := Int.eq_ofNat_of_zero_le h2'.1
      rw [Int.toNat_natCast]
      refine (bread_yes ad len ca F a k w (by omega) hl (by omega) ?_).mono fun e w' he => ?_
      · rcases hr with rfl | hr
        · left; omega
        · exact .inr hr
      · rwa [seg_length F (a * 64) (k * 64) (by omega)]
    · have h2' : withinB len a n = false := by simpa using h2
      simp only [h2', Bool.false_eq_true, if_false]
      exact (bread_range ad len ca a n w (by omega) ha hn1 hn2 h2').mono fun e w' ⟨he, hw⟩ => ⟨_, he, by rw [hw]; exact Later.refl w, World.ownsRow_nil _ _ _ _⟩
end Go.Proofs.Ytmelkgmbiiobgaa

namespace Go.Proofs.Ytmelkgmbiiobgaa
open Go.ChangeShapes Go.WideShapes Go.ChangeAt Go.RowKit
set_option linter.unusedVariables false
set_option maxRecDepth 4000
set_option linter.unusedSimpArgs false
/-! The landed slot: Ready, count, Check. -/
set_option maxHeartbeats 1000000 in
theorem sready_c : IReadyT := by
  intro v n F D p r l w h
  obtain ⟨ab, cb, aD, k, cD, rfl, hm⟩ := h
  clear hm
  cases p with
  | true =>
    go_enter Try.func26, Try.ntmps26
    go_wp2
    exact bodyPost_ret (results_cell1 rfl _ _ _ (w.heap.size + 1) 0 rfl (sval (0, 0, 0)) (shut3 (s := (0, 0, 0)) (Box.new' _ _ _ _ rfl _ (by simp)))) rfl ⟨rfl, ((Later.refl w).alloc _).alloc _⟩
  | false =>
    go_enter Try.func26, Try.ntmps26
    go_wp2_with fail
    refine (con_NotReady _).mono ?_
    rintro e w2 ⟨rfl, hl⟩
    have BR : Hid (Box w2 (w.heap.size + 1) 30 (sc (0, 0, 0))) := Box.later (Box.new' _ _ _ _ rfl _ (by simp)) hl
    have L : Hid (Later w w2) := Later.trans (((Later.refl w).alloc _).alloc _) hl
    have ht : Hid (w2.there (w.heap.size + 1) 0 3) := BR.out.there 0 3 (by simp)
    have BZ := hide (BR.out.all (sc (2, 58, 0)) rfl)
    have LZ := hide (L.out.setCells (g := w.heap.size + 1) (by omega) (sc (2, 58, 0)) 0)
    clear hl
    go_wp2_with (refine wpList_store_mid rfl 30 (.tmp 2) (.tmp 6) rfl (w.heap.size + 1) 0 (sc (2, 58, 0)).toArray rfl rfl ht.out Try.info_sense (all_oneCell_toArray (by simp [Value.oneCell'])) ?_)
    exact bodyPost_ret (results_cell1 rfl _ _ _ (w.heap.size + 1) 0 rfl (sval (2, 58, 0)) (shut3 BZ.out)) rfl ⟨rfl, LZ.out⟩
set_option maxHeartbeats 1000000 in
theorem scount_c {v : Value} {n : Nat} {F : List UInt8} {D : List Drt} (w : World) (h : Med w v n F D) :
    Calls Try.prog 73 #[v] w fun e w' => e = .returned (.int .i64 (allN n D)) ∧ Later w w' := by
  have HM := hide h
  obtain ⟨a3, c3, a6, k6, c6, rfl, _, hn, _⟩ := h.shape
  clear h
  have L := hide ((Later.refl w).alloc (.cells #[.slice a3 n c3, .slice a6 k6 c6] 25))
  have BX := hide (Box.new w 25 #[.slice a3 n c3, .slice a6 k6 c6])
  go_enter Try.func73, Try.ntmps73
  go_wp2_with fail
  refine (cright_c _ (HM.out.later L.out)).mono ?_
  rintro e w2 ⟨rfl, hl⟩
  replace BX := hide (BX.out.later hl)
  replace L := hide (L.out.later hl)
  clear hl
  have d0 := BX.out.cell 0
  have d1 := BX.out.cell 1
  cases hR : rightB n D with
  | true =>
    have hA : Hid (allN n D = n) := by simp [Hid, allN, hR]
    go_wp2
    go_ret
    exact ⟨by rw [hA.out]; rfl, L.out⟩
  | false =>
    have hA : Hid (allN n D = 0) := by simp [Hid, allN, hR]
    go_wp2
    go_ret
    exact ⟨by rw [hA.out]; rfl, L.out⟩
theorem okS_of (s : Sns) (h : (-9223372036854775808 ≤ s.1 ∧ s.1 ≤ 9223372036854775807) ∧ (-9223372036854775808 ≤ s.2.1 ∧ s.2.1 ≤ 9223372036854775807) ∧ (-9223372036854775808 ≤ s.2.2 ∧ s.2.2 ≤ 9223372036854775807)) : OkS s := h
set_option maxRecDepth 20000 in
set_option maxHeartbeats 2000000 in
theorem scheck_c : ICheckT := by
  intro v n F D p r l at_ m wr w h ha hm1 hm2 hn hD
  have HDl := hide hD
  clear hD
  have hNb : Hid (allN n D ≤ 64) := allN_small n D
  have HS := hide h
  obtain ⟨ab, cb, aD, k, cD, rfl, hm⟩ := h
  have HM := hide hm
  clear hm
  have BX : Hid (Box ((w.alloc (.cells #[.slice ab n cb, .slice aD k cD, .bool p, .bool r, .bool l] 27)).alloc (.cells #[.int .i64 0, .int .i64 0, .int .i64 0] 30)) w.heap.size 27 (tc (.slice ab n cb) (.slice aD k cD) p r l)) := (Box.new w 27 #[.slice ab n cb, .slice aD k cD, .bool p, .bool r, .bool l]).alloc _
  have BQ : Hid (Box ((w.alloc (.cells #[.slice ab n cb, .slice aD k cD, .bool p, .bool r, .bool l] 27)).alloc (.cells #[.int .i64 0, .int .i64 0, .int .i64 0] 30)) (w.heap.size + 1) 30 (sc (0, 0, 0))) := Box.new' _ _ _ _ rfl _ (by simp)
  have L := hide (((Later.refl w).alloc (.cells #[.slice ab n cb, .slice aD k cD, .bool p, .bool r, .bool l] 27)).alloc (.cells #[.int .i64 0, .int .i64 0, .int .i64 0] 30))
  go_enter Try.func47, Try.ntmps47
  go_wp2_with fail
  generalize ((w.alloc (.cells #[.slice ab n cb, .slice aD k cD, .bool p, .bool r, .bool l] 27)).alloc (.cells #[.int .i64 0, .int .i64 0, .int .i64 0] 30)) = w1 at *
  refine (sready_c _ n F D p r l w1 (HS.out.later L.out)).mono ?_
  rintro e w2 ⟨rfl, hl⟩
  replace BX := hide (BX.out.later hl)
  replace BQ := hide (BQ.out.later hl)
  replace L := hide (L.out.later hl)
  clear hl
  cases p with
  | false =>
    go_wp2_with (refine wpList_newS rfl rfl rfl 9 rfl (by simp) (.tmp 11) (by simp) rfl (2, 58, 0) rfl ?_)
    intro g9 w3 hB hl hg
    replace BX := hide (BX.out.later hl)
    replace BQ := hide (BQ.out.later hl)
    replace L := hide (L.out.later hl)
    have B9 := hide hB
    clear hB hl hg
    have e0 := B9.out.cell 0
    have e1 := B9.out.cell 1
    have e2 := B9.out.cell 2
    go_wp2_with fail
    refine (sgood_c (2, 58, 0) w3 (okS_of _ (by decide))).mono ?_
    rintro e w4 ⟨rfl, hl⟩
    rw [show (((2, 58, 0) : Sns) == (0, 0, 0)) = false from rfl]
    clear e0 e1 e2
    replace BX := hide (BX.out.later hl)
    replace BQ := hide (BQ.out.later hl)
    replace L := hide (L.out.later hl)
    replace B9 := hide (B9.out.later hl)
    clear hl
    have e0 := B9.out.cell 0
    have e1 := B9.out.cell 1
    have e2 := B9.out.cell 2
    go_wp2_with (refine wpList_storeT rfl 30 (.tmp 8) (.tmp 15) rfl (w.heap.size + 1) 0 rfl (sc (2, 58, 0)) rfl Try.info_sense (sc_one _) _ _ BQ.out (by simp) ?_)
    intro wz hwz
    have BZ := hide (BQ.out.all (sc (2, 58, 0)) rfl)
    have LZ := hide (L.out.setCells (g := w.heap.size + 1) (by omega) (sc (2, 58, 0)) 0)
    rw [← hwz.out] at BZ LZ
    clear hwz BQ L
    go_wp2
    refine bodyPost_ret (results_cell1 rfl _ _ _ (w.heap.size + 1) 0 rfl (sval (2, 58, 0)) (shut3 BZ.out)) rfl ⟨?_, LZ.out⟩
    simp [checkS]
  | true =>
    go_wp2_with (refine wpList_newS rfl rfl rfl 9 rfl (by simp) (.tmp 11) (by simp) rfl (0, 0, 0) rfl ?_)
    intro g9 w3 hB hl hg
    replace BX := hide (BX.out.later hl)
    replace BQ := hide (BQ.out.later hl)
    replace L := hide (L.out.later hl)
    have B9 := hide hB
    clear hB hl hg
    have e0 := B9.out.cell 0
    have e1 := B9.out.cell 1
    have e2 := B9.out.cell 2
    go_wp2_with fail
    refine (sgood_c (0, 0, 0) w3 (okS_of _ (by decide))).mono ?_
    rintro e w4 ⟨rfl, hl⟩
    rw [show (((0, 0, 0) : Sns) == (0, 0, 0)) = true from rfl]
    clear e0 e1 e2
    replace BX := hide (BX.out.later hl)
    replace BQ := hide (BQ.out.later hl)
    replace L := hide (L.out.later hl)
    replace B9 := hide (B9.out.later hl)
    clear hl
    have e0 := B9.out.cell 0
    have e1 := B9.out.cell 1
    have e2 := B9.out.cell 2
    have d0 := BX.out.cell 0
    have d1 := BX.out.cell 1
    have d2 := BX.out.cell 2
    have d3 := BX.out.cell 3
    have d4 := BX.out.cell 4
    cases wr with
    | false =>
      have HSv : Hid (checkS n D true r at_ m false = if withinB (allN n D) at_ m then (0, 0, 0) else (5, 33, 0)) := by simp [Hid, checkS]
      go_wp2_with fail
      refine (scount_c _ (HM.out.later L.out)).mono ?_
      rintro e w5 ⟨rfl, hl⟩
      replace BQ := hide (BQ.out.later hl)
      replace L := hide (L.out.later hl)
      clear hl d0 d1 d2 d3 d4 e0 e1 e2 BX B9
      generalize allN n D = N at *
      have hNi : (N : Int) ≤ 9223372036854775807 := by have := hNb.out; omega
      go_wp2_with fail
      refine (bwithin_c (N : Int) at_ m w5 (by omega) hNi ha hm1 hm2).mono ?_
      rintro e w6 ⟨rfl, hl⟩
      replace BQ := hide (BQ.out.later hl)
      replace L := hide (L.out.later hl)
      clear hl
      cases hW : withinB (N : Int) at_ m with
      | true =>
        go_wp2_with (refine wpList_storeT rfl 30 (.tmp 8) (.tmp 30) rfl (w.heap.size + 1) 0 rfl (sc (0, 0, 0)) rfl Try.info_sense (sc_one _) _ _ BQ.out (by simp) ?_)
        intro wz hwz
        have BZ := hide (BQ.out.all (sc (0, 0, 0)) rfl)
        have LZ := hide (L.out.setCells (g := w.heap.size + 1) (by omega) (sc (0, 0, 0)) 0)
        rw [← hwz.out] at BZ LZ
        clear hwz BQ L
        go_wp2
        refine bodyPost_ret (results_cell1 rfl _ _ _ (w.heap.size + 1) 0 rfl (sval (0, 0, 0)) (shut3 BZ.out)) rfl ⟨?_, LZ.out⟩
        rw [HSv.out, hW]
        rfl
      | false =>
        go_wp2_with fail
        refine (con_Range _).mono ?_
        rintro e w7 ⟨rfl, hl⟩
        replace BQ := hide (BQ.out.later hl)
        replace L := hide (L.out.later hl)
        clear hl
        go_wp2_with (refine wpList_storeT rfl 30 (.tmp 8) (.tmp 29) rfl (w.heap.size + 1) 0 rfl (sc (5, 33, 0)) rfl Try.info_sense (sc_one _) _ _ BQ.out (by simp) ?_)
        intro wz hwz
        have BZ := hide (BQ.out.all (sc (5, 33, 0)) rfl)
        have LZ := hide (L.out.setCells (g := w.heap.size + 1) (by omega) (sc (5, 33, 0)) 0)
        rw [← hwz.out] at BZ LZ
        clear hwz BQ L
        go_wp2
        refine bodyPost_ret (results_cell1 rfl _ _ _ (w.heap.size + 1) 0 rfl (sval (5, 33, 0)) (shut3 BZ.out)) rfl ⟨?_, LZ.out⟩
        rw [HSv.out, hW]
        rfl
    | true =>
      cases r with
      | false =>
        have HSv : Hid (checkS n D true false at_ m true = if withinB (allN n D) at_ m then (0, 0, 0) else (5, 33, 0)) := by simp [Hid, checkS]
        go_wp2_with fail
        refine (scount_c _ (HM.out.later L.out)).mono ?_
        rintro e w5 ⟨rfl, hl⟩
        replace BQ := hide (BQ.out.later hl)
        replace L := hide (L.out.later hl)
        clear hl d0 d1 d2 d3 d4 e0 e1 e2 BX B9
        generalize allN n D = N at *
        have hNi : (N : Int) ≤ 9223372036854775807 := by have := hNb.out; omega
        go_wp2_with fail
        refine (bwithin_c (N : Int) at_ m w5 (by omega) hNi ha hm1 hm2).mono ?_
        rintro e w6 ⟨rfl, hl⟩
        replace BQ := hide (BQ.out.later hl)
        replace L := hide (L.out.later hl)
        clear hl
        cases hW : withinB (N : Int) at_ m with
        | true =>
          go_wp2_with (refine wpList_storeT rfl 30 (.tmp 8) (.tmp 30) rfl (w.heap.size + 1) 0 rfl (sc (0, 0, 0)) rfl Try.info_sense (sc_one _) _ _ BQ.out (by simp) ?_)
          intro wz hwz
          have BZ := hide (BQ.out.all (sc (0, 0, 0)) rfl)
          have LZ := hide (L.out.setCells (g := w.heap.size + 1) (by omega) (sc (0, 0, 0)) 0)
          rw [← hwz.out] at BZ LZ
          clear hwz BQ L
          go_wp2
          refine bodyPost_ret (results_cell1 rfl _ _ _ (w.heap.size + 1) 0 rfl (sval (0, 0, 0)) (shut3 BZ.out)) rfl ⟨?_, LZ.out⟩
          rw [HSv.out, hW]
          rfl
        | false =>
          go_wp2_with fail
          refine (con_Range _).mono ?_
          rintro e w7 ⟨rfl, hl⟩
          replace BQ := hide (BQ.out.later hl)
          replace L := hide (L.out.later hl)
          clear hl
          go_wp2_with (refine wpList_storeT rfl 30 (.tmp 8) (.tmp 29) rfl (w.heap.size + 1) 0 rfl (sc (5, 33, 0)) rfl Try.info_sense (sc_one _) _ _ BQ.out (by simp) ?_)
          intro wz hwz
          have BZ := hide (BQ.out.all (sc (5, 33, 0)) rfl)
          have LZ := hide (L.out.setCells (g := w.heap.size + 1) (by omega) (sc (5, 33, 0)) 0)
          rw [← hwz.out] at BZ LZ
          clear hwz BQ L
          go_wp2
          refine bodyPost_ret (results_cell1 rfl _ _ _ (w.heap.size + 1) 0 rfl (sval (5, 33, 0)) (shut3 BZ.out)) rfl ⟨?_, LZ.out⟩
          rw [HSv.out, hW]
          rfl
      | true =>
        go_wp2_with fail
        refine (con_Protected _).mono ?_
        rintro e w5 ⟨rfl, hl⟩
        replace BQ := hide (BQ.out.later hl)
        replace L := hide (L.out.later hl)
        clear hl d0 d1 d2 d3 d4 e0 e1 e2 BX B9
        go_wp2_with (refine wpList_storeT rfl 30 (.tmp 8) (.tmp 21) rfl (w.heap.size + 1) 0 rfl (sc (7, 39, 0)) rfl Try.info_sense (sc_one _) _ _ BQ.out (by simp) ?_)
        intro wz hwz
        have BZ := hide (BQ.out.all (sc (7, 39, 0)) rfl)
        have LZ := hide (L.out.setCells (g := w.heap.size + 1) (by omega) (sc (7, 39, 0)) 0)
        rw [← hwz.out] at BZ LZ
        clear hwz BQ L
        go_wp2
        refine bodyPost_ret (results_cell1 rfl _ _ _ (w.heap.size + 1) 0 rfl (sval (7, 39, 0)) (shut3 BZ.out)) rfl ⟨?_, LZ.out⟩
        simp [checkS]
end Go.Proofs.Ytmelkgmbiiobgaa

namespace Go.Proofs.Ytmelkgmbiiobgaa
open Go.ChangeShapes Go.WideShapes Go.ChangeAt Go.RowKit
set_option linter.unusedVariables false
set_option maxRecDepth 4000
set_option linter.unusedSimpArgs false
/-! The landed slot: Read. -/
theorem checkS_ok (n : Nat) (D : List Drt) (p r : Bool) (at_ : Nat) (m : Int) (wr : Bool) : OkS (checkS n D p r at_ m wr) := by
  unfold checkS
  split
  · exact okS_of _ (by decide)
  · split
    · exact okS_of _ (by decide)
    · split
      · exact okS_of _ (by decide)
      · exact okS_of _ (by decide)
set_option maxRecDepth 20000 in
set_option maxHeartbeats 2000000 in
theorem sread_c : IReadT := by
  intro v n F D p r l at_ m w h ha hm1 hm2 hn hD
  have HDl := hide hD
  clear hD
  have HS := hide h
  obtain ⟨ab, cb, aD, k, cD, rfl, hm⟩ := h
  have HM := hide hm
  clear hm
  have BX : Hid (Box ((w.alloc (.cells #[.slice ab n cb, .slice aD k cD, .bool p, .bool r, .bool l] 27)).alloc (.cells #[.int .i64 0, .int .i64 0, .int .i64 0] 30)) w.heap.size 27 (tc (.slice ab n cb) (.slice aD k cD) p r l)) := (Box.new w 27 #[.slice ab n cb, .slice aD k cD, .bool p, .bool r, .bool l]).alloc _
  have BS : Hid (Box ((w.alloc (.cells #[.slice ab n cb, .slice aD k cD, .bool p, .bool r, .bool l] 27)).alloc (.cells #[.int .i64 0, .int .i64 0, .int .i64 0] 30)) (w.heap.size + 1) 30 (sc (0, 0, 0))) := Box.new' _ _ _ _ rfl _ (by simp)
  have L := hide (((Later.refl w).alloc (.cells #[.slice ab n cb, .slice aD k cD, .bool p, .bool r, .bool l] 27)).alloc (.cells #[.int .i64 0, .int .i64 0, .int .i64 0] 30))
  go_enter Try.func48, Try.ntmps48
  go_wp2_with fail
  generalize ((w.alloc (.cells #[.slice ab n cb, .slice aD k cD, .bool p, .bool r, .bool l] 27)).alloc (.cells #[.int .i64 0, .int .i64 0, .int .i64 0] 30)) = w1 at *
  refine (scheck_c _ n F D p r l at_ m false w1 (HS.out.later L.out) ha hm1 hm2 hn HDl.out).mono ?_
  rintro e w2 ⟨rfl, hl⟩
  replace BX := hide (BX.out.later hl)
  replace BS := hide (BS.out.later hl)
  replace L := hide (L.out.later hl)
  clear hl
  have HZ := hide (fun h => checkS_zero (n := n) (D := D) (p := p) (r := r) (at_ := at_) (m := m) (wr := false) h)
  have HOk := hide (checkS_ok n D p r at_ m false)
  generalize hS : checkS n D p r at_ m false = S at *
  have HSv := hide hS
  clear hS
  go_wp2_with (refine wpList_newS rfl rfl rfl 8 rfl (by simp) (.tmp 14) (by simp) rfl S rfl ?_)
  intro g8 w3 hB hl hg
  replace BX := hide (BX.out.later hl)
  replace BS := hide (BS.out.later hl)
  replace L := hide (L.out.later hl)
  have B8 := hide hB
  clear hB hl hg
  have e0 := B8.out.cell 0
  have e1 := B8.out.cell 1
  have e2 := B8.out.cell 2
  go_wp2_with fail
  refine (sgood_c S w3 HOk.out).mono ?_
  rintro e w4 ⟨rfl, hl⟩
  clear e0 e1 e2
  replace BX := hide (BX.out.later hl)
  replace BS := hide (BS.out.later hl)
  replace L := hide (L.out.later hl)
  replace B8 := hide (B8.out.later hl)
  clear hl
  cases hz : (S == ((0, 0, 0) : Sns)) with
  | false =>
    have hRd : Hid (rdL n F D S at_ m = []) := by simp only [Hid, rdL, hz]; rfl
    go_wp2_with fail
    refine wp_region_tree [0, 1] [] [2] (by kernel_rfl) (by kernel_rfl) (by kernel_rfl) (by kernel_rfl) ?_
    refine wpT_loadG rfl (by kernel_rfl) 30 (.tmp 8) rfl g8 0 rfl (sc S) _ ((World.rangeAt_drew _ _ _ _).2 B8.out.range) Try.underlying30 rfl Try.info_sense ?_
    refine wpT_mild rfl (fun K hK => ?_)
    go_simp
    refine hK _ ?_
    clear hK K
    refine wpT_done (fun wx hwx => ?_)
    have hlx := (Later.refl w4).drew.trans hwx
    replace BS := hide (BS.out.later hlx)
    replace L := hide (L.out.later hlx)
    clear hwx hlx BX B8
    refine wpL_store rfl (by kernel_rfl) 30 (.tmp 7) (.tmp 18) rfl (w.heap.size + 1) 0 (sc S) rfl rfl (BS.out.there 0 3 (by simp)) Try.info_sense (sc_one _) (wpL_nil ?_)
    have BZ := hide (BS.out.all (sc S) rfl)
    have LZ := hide (L.out.setCells (g := w.heap.size + 1) (by omega) (sc S) 0)
    clear BS L
    generalize (wx.setCells (w.heap.size + 1) 0 (sc S)) = wz at *
    go_wp2
    refine bodyPost_ret (results_tmp_cell' rfl _ _ _ (w.heap.size + 1) 0 rfl (sval S) (.slice none 0 0) (shut3 BZ.out) rfl) rfl ⟨.slice none 0 0, ?_, LZ.out, ?_⟩
    · rw [HSv.out]
    · rw [HSv.out, hRd.out]; exact Bs.nil _
  | true =>
    obtain rfl : S = (0, 0, 0) := eq_of_beq hz
    have hq := HZ.out rfl
    have hRd : Hid (rdL n F D (0, 0, 0) at_ m = readL (allN n D) (allF n F D) at_ m) := by
      have h1 := allN_small n D
      simp only [Hid, rdL, readL, hz, if_true, if_neg (show ¬ 64 < allN n D by omega), hq.2.2]
    clear hq HZ hz
    have d0 := BX.out.cell 0
    have d1 := BX.out.cell 1
    go_wp2_with fail
    refine (call3_c _ n F D w4 (HM.out.later L.out)).mono ?_
    rintro e w5 ⟨v4, rfl, hl, h4⟩
    replace BX := hide (BX.out.later hl)
    replace BS := hide (BS.out.later hl)
    replace L := hide (L.out.later hl)
    replace B8 := hide (B8.out.later hl)
    have R4 := hide h4
    clear hl h4 d0 d1
    obtain ⟨a4, c4, rfl⟩ := R4.out.shape
    go_wp2_with fail
    refine (bread_o at_ m w5 R4.out ha hm1 hm2).mono ?_
    rintro e w6 ⟨v5, rfl, hl, h5⟩
    rw [← hRd.out] at h5
    have O5 : Hid (w6.ownsRow w.heap.size 5 1 v5 (rdL n F D (0, 0, 0) at_ m).length (bv (rdL n F D (0, 0, 0) at_ m))) := owns_rebase h5 L.out.size
    replace BS := hide (BS.out.later hl)
    replace L := hide (L.out.later hl)
    clear hl h5 R4 BX B8
    go_wp2_with (refine wpList_storeT rfl 30 (.tmp 7) (.tmp 29) rfl (w.heap.size + 1) 0 rfl (sc (0, 0, 0)) rfl Try.info_sense (sc_one _) _ _ BS.out (by simp) ?_)
    intro wz hwz
    have BZ := hide (BS.out.all (sc (0, 0, 0)) rfl)
    have LZ := hide (L.out.setCells (g := w.heap.size + 1) (by omega) (sc (0, 0, 0)) 0)
    have OZ : Hid ((w6.setCells (w.heap.size + 1) 0 (sc (0, 0, 0))).ownsRow w.heap.size 5 1 v5 (rdL n F D (0, 0, 0) at_ m).length (bv (rdL n F D (0, 0, 0) at_ m))) := owns_kept O5.out fun g hg => heap_setCells_other w6 (w.heap.size + 1) g (fun e => box_ne_own BS.out O5.out (by decide) g hg e.symm) _ _
    rw [← hwz.out] at BZ LZ OZ
    clear BS L O5 hwz
    go_wp2
    refine bodyPost_ret (results_tmp_cell' rfl _ _ _ (w.heap.size + 1) 0 rfl (sval (0, 0, 0)) v5 (shut3 BZ.out) rfl) rfl ⟨v5, ?_, LZ.out, ?_⟩
    · rw [HSv.out]
    · rw [HSv.out]; exact (Bs.of_owns OZ.out).1
end Go.Proofs.Ytmelkgmbiiobgaa
