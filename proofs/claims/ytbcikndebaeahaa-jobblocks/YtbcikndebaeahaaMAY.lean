import Derived.Test.YtbcikndebaeahaaMAX
import Derived.Test.YtbcikndebaeahaaMAH
namespace Go.Proofs.Ytbcikndebaeahaa
open Go.ChangeShapes Go.WideShapes Go.ChangeAt Go.RowKit
set_option linter.unusedVariables false
set_option maxRecDepth 4000
set_option linter.unusedSimpArgs false
theorem bread_long (ad : Option Addr) (len ca : Nat) (a : Nat) (n : Int) (w : World) (hlen : 64 < len) (hm : len ≤ maxLen) :
    Calls Try.prog 81 #[.slice ad len ca, .int .u64 a, .int .i64 n] w fun e w' => e = .returned (.tuple #[.slice none 0 0, .int .i64 4]) ∧ w' = w := by
  unfold maxLen at hm
  go_enter Try.func81, Try.ntmps81
  go_wp2
  go_ret2
  exact ⟨rfl, rfl⟩
theorem bread_range (ad : Option Addr) (len ca : Nat) (a : Nat) (n : Int) (w : World) (hlen : len ≤ 64) (ha : a ≤ 18446744073709551615) (hn1 : -9223372036854775808 ≤ n) (hn2 : n ≤ 9223372036854775807) (hw : withinB len a n = false) :
    Calls Try.prog 81 #[.slice ad len ca, .int .u64 a, .int .i64 n] w fun e w' => e = .returned (.tuple #[.slice none 0 0, .int .i64 5]) ∧ w' = w := by
  go_enter Try.func81, Try.ntmps81
  go_wp2_with (go_at_call 75; refine (bwithin_w _ _ _ _ (by omega) (by omega) (by omega) (by omega) (by omega)).mono ?_; rintro e w1 ⟨rfl, hw1⟩; have hw2 := hw1.symm; subst hw2; clear hw1)
  go_ret2
  exact ⟨rfl, rfl⟩
theorem bv_arr_get (X : List UInt8) (j : Nat) (h : j < X.length) : (bv X).toArray[j]? = some (.int .u8 (X[j].toNat : Int)) := by simp [bv, h]
set_option maxHeartbeats 2000000 in
theorem bread_yes (ad : Option Addr) (len ca : Nat) (F : List UInt8) (a n : Nat) (w : World) (hlen : len ≤ 64) (hF : F.length = len * 64) (ha : a + n ≤ len) (hr : n = 0 ∨ ∃ ba oa, ad = some ⟨ba, oa, none⟩ ∧ w.rangeAt ba oa (bv F)) :
    Calls Try.prog 81 #[.slice ad len ca, .int .u64 a, .int .i64 n] w fun e w' => ∃ v, e = .returned (.tuple #[v, .int .i64 0]) ∧ Later w w' ∧ w'.ownsRow w.heap.size 5 1 v (n * 64) (bv (seg F (a * 64) (n * 64))) := by
  have hw : withinB len a n = true := by simp [withinB]; omega
  have Hr := hide hr
  clear hr
  go_enter Try.func81, Try.ntmps81
  go_wp2_with (first
    | (go_at_call 75; refine (bwithin_w _ _ _ _ (by omega) (by omega) (by omega) (by omega) (by omega)).mono ?_; rintro e w1 ⟨rfl, hw1⟩; have hw2 := hw1.symm; subst hw2; clear hw1)
    | (at_make; refine wpList_make_room Try.elem_u8 rfl _ _ 36 rfl Try.underlying36 _ (n * 64) rfl rfl ?c0 ?c1 ?c2 ?_))
  case c0 => omega
  case c1 => omega
  case c2 => unfold maxLen; omega
  rintro w1 ho1 hl1
  have Ho1 := hide ho1
  have L1 := hide hl1
  clear ho1 hl1
  go_wp2_with fail
  go_loopw [8, 25] (fun v i wr => ∃ k : Nat, k ≤ n ∧ i = .int .i64 k ∧ Hid (wr.ownsRow w.heap.size 5 1 v (k * 64) (bv (seg F (a * 64) (k * 64)))) ∧ Hid (Later w wr)) (fun _ i _ => n - (intOf i).toNat)
  case atStart => exact ⟨0, Nat.zero_le _, rfl, by simpa [Hid, seg_zero, bv] using Ho1.out, L1⟩
  case round =>
    clear Ho1 L1
    obtain ⟨k, hk, rfl, hown, hbl⟩ := hrel
    by_cases hlt : k < n
    · obtain ⟨ba, oa, rfl, hr0⟩ := Hr.out.resolve_left (by omega)
      have hrg := hide (hbl.out.range hr0)
      have hx := hide (by have := range_part hrg.out ((a + k) * 64) 64; rwa [bv_part] at this)
      have hxl := hide (seg_length F ((a + k) * 64) 64 (by omega))
      clear hr0 hrg
      go_wp2_with (refine wpList_load_mid rfl 58 (.tmp 33) rfl ba (oa + (a + k) * 64) rfl (bv (seg F ((a + k) * 64) 64)) _ hx.out Try.underlying58 rfl (by rw [Try.info_block, bv_length, hxl.out]) ?_)
      have hown2 := hown
      have hbl2 := hbl
      clear hx
      go_loopw [8, 35] (fun v i wq => ∃ j : Nat, j ≤ 64 ∧ i = .int .i64 j ∧ Hid (wq.ownsRow w.heap.size 5 1 v (k * 64 + j) (bv (seg F (a * 64) (k * 64 + j)))) ∧ Hid (Later w wq)) (fun _ i _ => 64 - (intOf i).toNat)
      case atStart => exact ⟨0, Nat.zero_le _, rfl, hown2, hbl2⟩
      case round =>
        obtain ⟨j, hj, rfl, hownj, hlj⟩ := hrel
        clear hown2 hbl2 hown hbl
        by_cases hltj : j < 64
        · have hXl := hxl.out
          have hsn : Hid (seg F (a * 64) (k * 64 + (j + 1)) = seg F (a * 64) (k * 64 + j) ++ [(seg F ((a + k) * 64) 64)[j]]) := by
            unfold Hid
            rw [← Nat.add_assoc, seg_snoc F (a * 64) (k * 64 + j) (by omega)]
            congr 2
            simp [seg]
            congr 1
            omega
          have hsz := hlj.out.size
          have hbyte := run_index_arr (P := Try.prog) wr 58 5 64 Try.underlying58 Try.underlying5 (by kernel_rfl) (bv (seg F ((a + k) * 64) 64)).toArray .i64 j hltj _ (bv_arr_get (seg F ((a + k) * 64) 64) j (by omega))
          generalize (seg F ((a + k) * 64) 64)[j] = c at *
          have hor := hide (hownj.out.alloc (.cells #[.int .u8 (c.toNat : Int)] 5))
          have hBr := hide (hlj.out.alloc (.cells #[.int .u8 (c.toNat : Int)] 5))
          have hone := hide (Bs.one wr c 5)
          clear hownj hlj
          go_wp2_with (at_builtin; refine wpList_append_bs rfl (.tmp 38) (.tmp 40) rfl w.heap.size _ (k * 64 + j) _ rfl hor.out _ [c] rfl hone.out ?c1 ?c2 w hBr.out ?_)
          case c1 => simp; omega
          case c2 => simp; omega
          intro v' w' ho' hb' hg'
          have R : Hid (w'.ownsRow w.heap.size 5 1 v' (k * 64 + (j + 1)) (bv (seg F (a * 64) (k * 64 + (j + 1)))) ∧ Later w w') := by
            refine ⟨?_, hb'⟩
            rw [hsn.out]
            exact ho'
          clear ho' hb' hg' hbyte hor hone hBr
          go_wp2
          go_roundw
          case rel => exact ⟨j + 1, by omega, by go_num, R.out.1, R.out.2⟩
          case measure => simp [intOf]; omega
        · have hj64 : Hid (j = 64) := by unfold Hid; omega
          go_wp2
          go_roundw
          case rel =>
            refine ⟨k + 1, by omega, by go_num, ?_, hlj⟩
            have := hownj.out
            rw [hj64.out] at this
            unfold Hid
            rw [show (k + 1) * 64 = k * 64 + 64 from by omega]
            exact this
          case measure => simp [intOf]; omega
    · have hkn : Hid (k = n) := by unfold Hid; omega
      go_wp2
      go_ret2
      refine ⟨_, rfl, hbl.out, ?_⟩
      have := hown.out
      rwa [hkn.out] at this
theorem bread_o {v : Value} {len : Nat} {F : List UInt8} (a : Nat) (n : Int) (w : World) (h : Rw 64 w v len (bv F)) (ha : a ≤ 18446744073709551615) (hn1 : -9223372036854775808 ≤ n) (hn2 : n ≤ 9223372036854775807) :
    Calls Try.prog 81 #[v, .int .u64 a, .int .i64 n] w fun e w' => ∃ v', e = .returned (.tuple #[v', .int .i64 (readE len a n)]) ∧ Later w w' ∧ w'.ownsRow w.heap.size 5 1 v' (readL len F a n).length (bv (readL len F a n)) := by
  obtain ⟨hl, hm, ad, ca, rfl, _, hr⟩ := h
  rw [bv_length] at hl
  unfold readE readL
  by_cases h1 : 64 < len
  · simp only [if_pos h1]
    exact (bread_long ad len ca a n w h1 hm).mono fun e w' ⟨he, hw⟩ => ⟨_, he, by rw [hw]; exact Later.refl w, World.ownsRow_nil _ _ _ _⟩
  · simp only [if_neg h1]
    by_cases h2 : withinB len a n = true
    · simp only [h2, if_true]
      have h2' := h2
      simp [withinB] at h2'
      obtain ⟨k, rfl⟩ := Int.eq_ofNat_of_zero_le h2'.1
      rw [Int.toNat_natCast]
      refine (bread_yes ad len ca F a k w (by omega) hl (by omega) ?_).mono fun e w' he => ?_
      · rcases hr with rfl | hr
        · left; omega
        · exact .inr hr
      · rwa [seg_length F (a * 64) (k * 64) (by omega)]
    · have h2' : withinB len a n = false := by simpa using h2
      simp only [h2', Bool.false_eq_true, if_false]
      exact (bread_range ad len ca a n w (by omega) ha hn1 hn2 h2').mono fun e w' ⟨he, hw⟩ => ⟨_, he, by rw [hw]; exact Later.refl w, World.ownsRow_nil _ _ _ _⟩
end Go.Proofs.Ytbcikndebaeahaa

namespace Go.Proofs.Ytbcikndebaeahaa
open Go.ChangeShapes Go.WideShapes Go.ChangeAt Go.RowKit
set_option linter.unusedVariables false
set_option maxRecDepth 4000
set_option linter.unusedSimpArgs false
/-! The landed slot: Ready, count, Check. -/
set_option maxHeartbeats 1000000 in
theorem sready_c : IReadyT := by
  intro v n F D p r l w h
  obtain ⟨ab, cb, aD, k, cD, rfl, hm⟩ := h
  clear hm
  cases p with
  | true =>
    go_enter Try.func73, Try.ntmps73
    go_wp2
    exact bodyPost_ret (results_cell1 rfl _ _ _ (w.heap.size + 1) 0 rfl (sval (0, 0, 0)) (shut3 (s := (0, 0, 0)) (Box.new' _ _ _ _ rfl _ (by simp)))) rfl ⟨rfl, ((Later.refl w).alloc _).alloc _⟩
  | false =>
    go_enter Try.func73, Try.ntmps73
    go_wp2_with fail
    refine (con_NotReady _).mono ?_
    rintro e w2 ⟨rfl, hl⟩
    have BR : Hid (Box w2 (w.heap.size + 1) 30 (sc (0, 0, 0))) := Box.later (Box.new' _ _ _ _ rfl _ (by simp)) hl
    have L : Hid (Later w w2) := Later.trans (((Later.refl w).alloc _).alloc _) hl
    have ht : Hid (w2.there (w.heap.size + 1) 0 3) := BR.out.there 0 3 (by simp)
    have BZ := hide (BR.out.all (sc (2, 58, 0)) rfl)
    have LZ := hide (L.out.setCells (g := w.heap.size + 1) (by omega) (sc (2, 58, 0)) 0)
    clear hl
    go_wp2_with (refine wpList_store_mid rfl 30 (.tmp 2) (.tmp 6) rfl (w.heap.size + 1) 0 (sc (2, 58, 0)).toArray rfl rfl ht.out Try.info_sense (all_oneCell_toArray (by simp [Value.oneCell'])) ?_)
    exact bodyPost_ret (results_cell1 rfl _ _ _ (w.heap.size + 1) 0 rfl (sval (2, 58, 0)) (shut3 BZ.out)) rfl ⟨rfl, LZ.out⟩
set_option maxHeartbeats 1000000 in
theorem scount_c {v : Value} {n : Nat} {F : List UInt8} {D : List Drt} (w : World) (h : Med w v n F D) :
    Calls Try.prog 76 #[v] w fun e w' => e = .returned (.int .i64 (allN n D)) ∧ Later w w' := by
  have HM := hide h
  obtain ⟨a3, c3, a6, k6, c6, rfl, _, hn, _⟩ := h.shape
  clear h
  have L := hide ((Later.refl w).alloc (.cells #[.slice a3 n c3, .slice a6 k6 c6] 25))
  have BX := hide (Box.new w 25 #[.slice a3 n c3, .slice a6 k6 c6])
  go_enter Try.func76, Try.ntmps76
  go_wp2_with fail
  refine (cright_c _ (HM.out.later L.out)).mono ?_
  rintro e w2 ⟨rfl, hl⟩
  replace BX := hide (BX.out.later hl)
  replace L := hide (L.out.later hl)
  clear hl
  have d0 := BX.out.cell 0
  have d1 := BX.out.cell 1
  cases hR : rightB n D with
  | true =>
    have hA : Hid (allN n D = n) := by simp [Hid, allN, hR]
    go_wp2
    go_ret
    exact ⟨by rw [hA.out]; rfl, L.out⟩
  | false =>
    have hA : Hid (allN n D = 0) := by simp [Hid, allN, hR]
    go_wp2
    go_ret
    exact ⟨by rw [hA.out]; rfl, L.out⟩
theorem okS_of (s : Sns) (h : (-9223372036854775808 ≤ s.1 ∧ s.1 ≤ 9223372036854775807) ∧ (-9223372036854775808 ≤ s.2.1 ∧ s.2.1 ≤ 9223372036854775807) ∧ (-9223372036854775808 ≤ s.2.2 ∧ s.2.2 ≤ 9223372036854775807)) : OkS s := h
set_option maxRecDepth 20000 in
set_option maxHeartbeats 2000000 in
theorem scheck_c : ICheckT := by
  intro v n F D p r l at_ m wr w h ha hm1 hm2 hn hD
  have HDl := hide hD
  clear hD
  have hNb : Hid (allN n D ≤ 64) := allN_small n D
  have HS := hide h
  obtain ⟨ab, cb, aD, k, cD, rfl, hm⟩ := h
  have HM := hide hm
  clear hm
  have BX : Hid (Box ((w.alloc (.cells #[.slice ab n cb, .slice aD k cD, .bool p, .bool r, .bool l] 27)).alloc (.cells #[.int .i64 0, .int .i64 0, .int .i64 0] 30)) w.heap.size 27 (tc (.slice ab n cb) (.slice aD k cD) p r l)) := (Box.new w 27 #[.slice ab n cb, .slice aD k cD, .bool p, .bool r, .bool l]).alloc _
  have BQ : Hid (Box ((w.alloc (.cells #[.slice ab n cb, .slice aD k cD, .bool p, .bool r, .bool l] 27)).alloc (.cells #[.int .i64 0, .int .i64 0, .int .i64 0] 30)) (w.heap.size + 1) 30 (sc (0, 0, 0))) := Box.new' _ _ _ _ rfl _ (by simp)
  have L := hide (((Later.refl w).alloc (.cells #[.slice ab n cb, .slice aD k cD, .bool p, .bool r, .bool l] 27)).alloc (.cells #[.int .i64 0, .int .i64 0, .int .i64 0] 30))
  go_enter Try.func62, Try.ntmps62
  go_wp2_with fail
  generalize ((w.alloc (.cells #[.slice ab n cb, .slice aD k cD, .bool p, .bool r, .bool l] 27)).alloc (.cells #[.int .i64 0, .int .i64 0, .int .i64 0] 30)) = w1 at *
  refine (sready_c _ n F D p r l w1 (HS.out.later L.out)).mono ?_
  rintro e w2 ⟨rfl, hl⟩
  replace BX := hide (BX.out.later hl)
  replace BQ := hide (BQ.out.later hl)
  replace L := hide (L.out.later hl)
  clear hl
  cases p with
  | false =>
    go_wp2_with (refine wpList_newS rfl rfl rfl 9 rfl (by simp) (.tmp 11) (by simp) rfl (2, 58, 0) rfl ?_)
    intro g9 w3 hB hl hg
    replace BX := hide (BX.out.later hl)
    replace BQ := hide (BQ.out.later hl)
    replace L := hide (L.out.later hl)
    have B9 := hide hB
    clear hB hl hg
    have e0 := B9.out.cell 0
    have e1 := B9.out.cell 1
    have e2 := B9.out.cell 2
    go_wp2_with fail
    refine (sgood_c (2, 58, 0) w3 (okS_of _ (by decide))).mono ?_
    rintro e w4 ⟨rfl, hl⟩
    rw [show (((2, 58, 0) : Sns) == (0, 0, 0)) = false from rfl]
    clear e0 e1 e2
    replace BX := hide (BX.out.later hl)
    replace BQ := hide (BQ.out.later hl)
    replace L := hide (L.out.later hl)
    replace B9 := hide (B9.out.later hl)
    clear hl
    have e0 := B9.out.cell 0
    have e1 := B9.out.cell 1
    have e2 := B9.out.cell 2
    go_wp2_with (refine wpList_storeT rfl 30 (.tmp 8) (.tmp 15) rfl (w.heap.size + 1) 0 rfl (sc (2, 58, 0)) rfl Try.info_sense (sc_one _) _ _ BQ.out (by simp) ?_)
    intro wz hwz
    have BZ := hide (BQ.out.all (sc (2, 58, 0)) rfl)
    have LZ := hide (L.out.setCells (g := w.heap.size + 1) (by omega) (sc (2, 58, 0)) 0)
    rw [← hwz.out] at BZ LZ
    clear hwz BQ L
    go_wp2
    refine bodyPost_ret (results_cell1 rfl _ _ _ (w.heap.size + 1) 0 rfl (sval (2, 58, 0)) (shut3 BZ.out)) rfl ⟨?_, LZ.out⟩
    simp [checkS]
  | true =>
    go_wp2_with (refine wpList_newS rfl rfl rfl 9 rfl (by simp) (.tmp 11) (by simp) rfl (0, 0, 0) rfl ?_)
    intro g9 w3 hB hl hg
    replace BX := hide (BX.out.later hl)
    replace BQ := hide (BQ.out.later hl)
    replace L := hide (L.out.later hl)
    have B9 := hide hB
    clear hB hl hg
    have e0 := B9.out.cell 0
    have e1 := B9.out.cell 1
    have e2 := B9.out.cell 2
    go_wp2_with fail
    refine (sgood_c (0, 0, 0) w3 (okS_of _ (by decide))).mono ?_
    rintro e w4 ⟨rfl, hl⟩
    rw [show (((0, 0, 0) : Sns) == (0, 0, 0)) = true from rfl]
    clear e0 e1 e2
    replace BX := hide (BX.out.later hl)
    replace BQ := hide (BQ.out.later hl)
    replace L := hide (L.out.later hl)
    replace B9 := hide (B9.out.later hl)
    clear hl
    have e0 := B9.out.cell 0
    have e1 := B9.out.cell 1
    have e2 := B9.out.cell 2
    have d0 := BX.out.cell 0
    have d1 := BX.out.cell 1
    have d2 := BX.out.cell 2
    have d3 := BX.out.cell 3
    have d4 := BX.out.cell 4
    cases wr with
    | false =>
      have HSv : Hid (checkS n D true r at_ m false = if withinB (allN n D) at_ m then (0, 0, 0) else (5, 33, 0)) := by simp [Hid, checkS]
      go_wp2_with fail
      refine (scount_c _ (HM.out.later L.out)).mono ?_
      rintro e w5 ⟨rfl, hl⟩
      replace BQ := hide (BQ.out.later hl)
      replace L := hide (L.out.later hl)
      clear hl d0 d1 d2 d3 d4 e0 e1 e2 BX B9
      generalize allN n D = N at *
      have hNi : (N : Int) ≤ 9223372036854775807 := by have := hNb.out; omega
      go_wp2_with fail
      refine (bwithin_c (N : Int) at_ m w5 (by omega) hNi ha hm1 hm2).mono ?_
      rintro e w6 ⟨rfl, hl⟩
      replace BQ := hide (BQ.out.later hl)
      replace L := hide (L.out.later hl)
      clear hl
      cases hW : withinB (N : Int) at_ m with
      | true =>
        go_wp2_with (refine wpList_storeT rfl 30 (.tmp 8) (.tmp 30) rfl (w.heap.size + 1) 0 rfl (sc (0, 0, 0)) rfl Try.info_sense (sc_one _) _ _ BQ.out (by simp) ?_)
        intro wz hwz
        have BZ := hide (BQ.out.all (sc (0, 0, 0)) rfl)
        have LZ := hide (L.out.setCells (g := w.heap.size + 1) (by omega) (sc (0, 0, 0)) 0)
        rw [← hwz.out] at BZ LZ
        clear hwz BQ L
        go_wp2
        refine bodyPost_ret (results_cell1 rfl _ _ _ (w.heap.size + 1) 0 rfl (sval (0, 0, 0)) (shut3 BZ.out)) rfl ⟨?_, LZ.out⟩
        rw [HSv.out, hW]
        rfl
      | false =>
        go_wp2_with fail
        refine (con_Range _).mono ?_
        rintro e w7 ⟨rfl, hl⟩
        replace BQ := hide (BQ.out.later hl)
        replace L := hide (L.out.later hl)
        clear hl
        go_wp2_with (refine wpList_storeT rfl 30 (.tmp 8) (.tmp 29) rfl (w.heap.size + 1) 0 rfl (sc (5, 33, 0)) rfl Try.info_sense (sc_one _) _ _ BQ.out (by simp) ?_)
        intro wz hwz
        have BZ := hide (BQ.out.all (sc (5, 33, 0)) rfl)
        have LZ := hide (L.out.setCells (g := w.heap.size + 1) (by omega) (sc (5, 33, 0)) 0)
        rw [← hwz.out] at BZ LZ
        clear hwz BQ L
        go_wp2
        refine bodyPost_ret (results_cell1 rfl _ _ _ (w.heap.size + 1) 0 rfl (sval (5, 33, 0)) (shut3 BZ.out)) rfl ⟨?_, LZ.out⟩
        rw [HSv.out, hW]
        rfl
    | true =>
      cases r with
      | false =>
        have HSv : Hid (checkS n D true false at_ m true = if withinB (allN n D) at_ m then (0, 0, 0) else (5, 33, 0)) := by simp [Hid, checkS]
        go_wp2_with fail
        refine (scount_c _ (HM.out.later L.out)).mono ?_
        rintro e w5 ⟨rfl, hl⟩
        replace BQ := hide (BQ.out.later hl)
        replace L := hide (L.out.later hl)
        clear hl d0 d1 d2 d3 d4 e0 e1 e2 BX B9
        generalize allN n D = N at *
        have hNi : (N : Int) ≤ 9223372036854775807 := by have := hNb.out; omega
        go_wp2_with fail
        refine (bwithin_c (N : Int) at_ m w5 (by omega) hNi ha hm1 hm2).mono ?_
        rintro e w6 ⟨rfl, hl⟩
        replace BQ := hide (BQ.out.later hl)
        replace L := hide (L.out.later hl)
        clear hl
        cases hW : withinB (N : Int) at_ m with
        | true =>
          go_wp2_with (refine wpList_storeT rfl 30 (.tmp 8) (.tmp 30) rfl (w.heap.size + 1) 0 rfl (sc (0, 0, 0)) rfl Try.info_sense (sc_one _) _ _ BQ.out (by simp) ?_)
          intro wz hwz
          have BZ := hide (BQ.out.all (sc (0, 0, 0)) rfl)
          have LZ := hide (L.out.setCells (g := w.heap.size + 1) (by omega) (sc (0, 0, 0)) 0)
          rw [← hwz.out] at BZ LZ
          clear hwz BQ L
          go_wp2
          refine bodyPost_ret (results_cell1 rfl _ _ _ (w.heap.size + 1) 0 rfl (sval (0, 0, 0)) (shut3 BZ.out)) rfl ⟨?_, LZ.out⟩
          rw [HSv.out, hW]
          rfl
        | false =>
          go_wp2_with fail
          refine (con_Range _).mono ?_
          rintro e w7 ⟨rfl, hl⟩
          replace BQ := hide (BQ.out.later hl)
          replace L := hide (L.out.later hl)
          clear hl
          go_wp2_with (refine wpList_storeT rfl 30 (.tmp 8) (.tmp 29) rfl (w.heap.size + 1) 0 rfl (sc (5, 33, 0)) rfl Try.info_sense (sc_one _) _ _ BQ.out (by simp) ?_)
          intro wz hwz
          have BZ := hide (BQ.out.all (sc (5, 33, 0)) rfl)
          have LZ := hide (L.out.setCells (g := w.heap.size + 1) (by omega) (sc (5, 33, 0)) 0)
          rw [← hwz.out] at BZ LZ
          clear hwz BQ L
          go_wp2
          refine bodyPost_ret (results_cell1 rfl _ _ _ (w.heap.size + 1) 0 rfl (sval (5, 33, 0)) (shut3 BZ.out)) rfl ⟨?_, LZ.out⟩
          rw [HSv.out, hW]
          rfl
      | true =>
        go_wp2_with fail
        refine (con_Protected _).mono ?_
        rintro e w5 ⟨rfl, hl⟩
        replace BQ := hide (BQ.out.later hl)
        replace L := hide (L.out.later hl)
        clear hl d0 d1 d2 d3 d4 e0 e1 e2 BX B9
        go_wp2_with (refine wpList_storeT rfl 30 (.tmp 8) (.tmp 21) rfl (w.heap.size + 1) 0 rfl (sc (7, 39, 0)) rfl Try.info_sense (sc_one _) _ _ BQ.out (by simp) ?_)
        intro wz hwz
        have BZ := hide (BQ.out.all (sc (7, 39, 0)) rfl)
        have LZ := hide (L.out.setCells (g := w.heap.size + 1) (by omega) (sc (7, 39, 0)) 0)
        rw [← hwz.out] at BZ LZ
        clear hwz BQ L
        go_wp2
        refine bodyPost_ret (results_cell1 rfl _ _ _ (w.heap.size + 1) 0 rfl (sval (7, 39, 0)) (shut3 BZ.out)) rfl ⟨?_, LZ.out⟩
        simp [checkS]
end Go.Proofs.Ytbcikndebaeahaa

namespace Go.Proofs.Ytbcikndebaeahaa
open Go.ChangeShapes Go.WideShapes Go.ChangeAt Go.RowKit
set_option linter.unusedVariables false
set_option maxRecDepth 4000
set_option linter.unusedSimpArgs false
/-! The landed slot: Read. -/
theorem checkS_ok (n : Nat) (D : List Drt) (p r : Bool) (at_ : Nat) (m : Int) (wr : Bool) : OkS (checkS n D p r at_ m wr) := by
  unfold checkS
  split
  · exact okS_of _ (by decide)
  · split
    · exact okS_of _ (by decide)
    · split
      · exact okS_of _ (by decide)
      · exact okS_of _ (by decide)
set_option maxRecDepth 20000 in
set_option maxHeartbeats 2000000 in
theorem sread_c : IReadT := by
  intro v n F D p r l at_ m w h ha hm1 hm2 hn hD
  have HDl := hide hD
  clear hD
  have HS := hide h
  obtain ⟨ab, cb, aD, k, cD, rfl, hm⟩ := h
  have HM := hide hm
  clear hm
  have BX : Hid (Box ((w.alloc (.cells #[.slice ab n cb, .slice aD k cD, .bool p, .bool r, .bool l] 27)).alloc (.cells #[.int .i64 0, .int .i64 0, .int .i64 0] 30)) w.heap.size 27 (tc (.slice ab n cb) (.slice aD k cD) p r l)) := (Box.new w 27 #[.slice ab n cb, .slice aD k cD, .bool p, .bool r, .bool l]).alloc _
  have BS : Hid (Box ((w.alloc (.cells #[.slice ab n cb, .slice aD k cD, .bool p, .bool r, .bool l] 27)).alloc (.cells #[.int .i64 0, .int .i64 0, .int .i64 0] 30)) (w.heap.size + 1) 30 (sc (0, 0, 0))) := Box.new' _ _ _ _ rfl _ (by simp)
  have L := hide (((Later.refl w).alloc (.cells #[.slice ab n cb, .slice aD k cD, .bool p, .bool r, .bool l] 27)).alloc (.cells #[.int .i64 0, .int .i64 0, .int .i64 0] 30))
  go_enter Try.func66, Try.ntmps66
  go_wp2_with fail
  generalize ((w.alloc (.cells #[.slice ab n cb, .slice aD k cD, .bool p, .bool r, .bool l] 27)).alloc (.cells #[.int .i64 0, .int .i64 0, .int .i64 0] 30)) = w1 at *
  refine (scheck_c _ n F D p r l at_ m false w1 (HS.out.later L.out) ha hm1 hm2 hn HDl.out).mono ?_
  rintro e w2 ⟨rfl, hl⟩
  replace BX := hide (BX.out.later hl)
  replace BS := hide (BS.out.later hl)
  replace L := hide (L.out.later hl)
  clear hl
  have HZ := hide (fun h => checkS_zero (n := n) (D := D) (p := p) (r := r) (at_ := at_) (m := m) (wr := false) h)
  have HOk := hide (checkS_ok n D p r at_ m false)
  generalize hS : checkS n D p r at_ m false = S at *
  have HSv := hide hS
  clear hS
  go_wp2_with (refine wpList_newS rfl rfl rfl 8 rfl (by simp) (.tmp 14) (by simp) rfl S rfl ?_)
  intro g8 w3 hB hl hg
  replace BX := hide (BX.out.later hl)
  replace BS := hide (BS.out.later hl)
  replace L := hide (L.out.later hl)
  have B8 := hide hB
  clear hB hl hg
  have e0 := B8.out.cell 0
  have e1 := B8.out.cell 1
  have e2 := B8.out.cell 2
  go_wp2_with fail
  refine (sgood_c S w3 HOk.out).mono ?_
  rintro e w4 ⟨rfl, hl⟩
  clear e0 e1 e2
  replace BX := hide (BX.out.later hl)
  replace BS := hide (BS.out.later hl)
  replace L := hide (L.out.later hl)
  replace B8 := hide (B8.out.later hl)
  clear hl
  cases hz : (S == ((0, 0, 0) : Sns)) with
  | false =>
    have hRd : Hid (rdL n F D S at_ m = []) := by simp only [Hid, rdL, hz]; rfl
    go_wp2_with fail
    refine wp_region_tree [0, 1] [] [2] (by kernel_rfl) (by kernel_rfl) (by kernel_rfl) (by kernel_rfl) ?_
    refine wpT_loadG rfl (by kernel_rfl) 30 (.tmp 8) rfl g8 0 rfl (sc S) _ ((World.rangeAt_drew _ _ _ _).2 B8.out.range) Try.underlying30 rfl Try.info_sense ?_
    refine wpT_mild rfl (fun K hK => ?_)
    go_simp
    refine hK _ ?_
    clear hK K
    refine wpT_done (fun wx hwx => ?_)
    have hlx := (Later.refl w4).drew.trans hwx
    replace BS := hide (BS.out.later hlx)
    replace L := hide (L.out.later hlx)
    clear hwx hlx BX B8
    refine wpL_store rfl (by kernel_rfl) 30 (.tmp 7) (.tmp 18) rfl (w.heap.size + 1) 0 (sc S) rfl rfl (BS.out.there 0 3 (by simp)) Try.info_sense (sc_one _) (wpL_nil ?_)
    have BZ := hide (BS.out.all (sc S) rfl)
    have LZ := hide (L.out.setCells (g := w.heap.size + 1) (by omega) (sc S) 0)
    clear BS L
    generalize (wx.setCells (w.heap.size + 1) 0 (sc S)) = wz at *
    go_wp2
    refine bodyPost_ret (results_tmp_cell' rfl _ _ _ (w.heap.size + 1) 0 rfl (sval S) (.slice none 0 0) (shut3 BZ.out) rfl) rfl ⟨.slice none 0 0, ?_, LZ.out, ?_⟩
    · rw [HSv.out]
    · rw [HSv.out, hRd.out]; exact Bs.nil _
  | true =>
    obtain rfl : S = (0, 0, 0) := eq_of_beq hz
    have hq := HZ.out rfl
    have hRd : Hid (rdL n F D (0, 0, 0) at_ m = readL (allN n D) (allF n F D) at_ m) := by
      have h1 := allN_small n D
      simp only [Hid, rdL, readL, hz, if_true, if_neg (show ¬ 64 < allN n D by omega), hq.2.2]
    clear hq HZ hz
    have d0 := BX.out.cell 0
    have d1 := BX.out.cell 1
    go_wp2_with fail
    refine (call3_c _ n F D w4 (HM.out.later L.out)).mono ?_
    rintro e w5 ⟨v4, rfl, hl, h4⟩
    replace BX := hide (BX.out.later hl)
    replace BS := hide (BS.out.later hl)
    replace L := hide (L.out.later hl)
    replace B8 := hide (B8.out.later hl)
    have R4 := hide h4
    clear hl h4 d0 d1
    obtain ⟨a4, c4, rfl⟩ := R4.out.shape
    go_wp2_with fail
    refine (bread_o at_ m w5 R4.out ha hm1 hm2).mono ?_
    rintro e w6 ⟨v5, rfl, hl, h5⟩
    rw [← hRd.out] at h5
    have O5 : Hid (w6.ownsRow w.heap.size 5 1 v5 (rdL n F D (0, 0, 0) at_ m).length (bv (rdL n F D (0, 0, 0) at_ m))) := owns_rebase h5 L.out.size
    replace BS := hide (BS.out.later hl)
    replace L := hide (L.out.later hl)
    clear hl h5 R4 BX B8
    go_wp2_with (refine wpList_storeT rfl 30 (.tmp 7) (.tmp 29) rfl (w.heap.size + 1) 0 rfl (sc (0, 0, 0)) rfl Try.info_sense (sc_one _) _ _ BS.out (by simp) ?_)
    intro wz hwz
    have BZ := hide (BS.out.all (sc (0, 0, 0)) rfl)
    have LZ := hide (L.out.setCells (g := w.heap.size + 1) (by omega) (sc (0, 0, 0)) 0)
    have OZ : Hid ((w6.setCells (w.heap.size + 1) 0 (sc (0, 0, 0))).ownsRow w.heap.size 5 1 v5 (rdL n F D (0, 0, 0) at_ m).length (bv (rdL n F D (0, 0, 0) at_ m))) := owns_kept O5.out fun g hg => heap_setCells_other w6 (w.heap.size + 1) g (fun e => box_ne_own BS.out O5.out (by decide) g hg e.symm) _ _
    rw [← hwz.out] at BZ LZ OZ
    clear BS L O5 hwz
    go_wp2
    refine bodyPost_ret (results_tmp_cell' rfl _ _ _ (w.heap.size + 1) 0 rfl (sval (0, 0, 0)) v5 (shut3 BZ.out) rfl) rfl ⟨v5, ?_, LZ.out, ?_⟩
    · rw [HSv.out]
    · rw [HSv.out]; exact (Bs.of_owns OZ.out).1
end Go.Proofs.Ytbcikndebaeahaa

namespace Go.Proofs.Ytbcikndebaeahaa
open Go.ChangeShapes Go.WideShapes Go.ChangeAt Go.RowKit
set_option linter.unusedVariables false
set_option maxRecDepth 4000
set_option linter.unusedSimpArgs false
/-! The landed slot: Keep, Unload. -/
end Go.Proofs.Ytbcikndebaeahaa

namespace Go.Proofs.Ytbcikndebaeahaa
open Go.ChangeShapes Go.WideShapes Go.ChangeAt Go.RowKit
set_option linter.unusedVariables false
set_option maxRecDepth 4000
set_option linter.unusedSimpArgs false
/-! The landed slot: Put. -/
theorem put_conv {n : Nat} {D : List Drt} {p r : Bool} {at_ : Int} (h1 : -9223372036854775808 ≤ at_) (h2 : at_ ≤ 9223372036854775807) :
    putS n D p r at_ = checkS n D p r (at_ % 18446744073709551616).toNat 1 true := by
  have h3 := allN_small n D
  unfold putS
  split
  · have e1 : withinB (allN n D) 0 1000 = false := by simp only [withinB, decide_eq_false_iff_not]; omega
    have e2 : withinB (allN n D) (at_ % 18446744073709551616).toNat 1 = false := by simp only [withinB, decide_eq_false_iff_not]; omega
    simp only [checkS, e1, e2]
  · have : (at_ % 18446744073709551616).toNat = at_.toNat := by omega
    rw [this]
theorem put_zero {n : Nat} {D : List Drt} {p r : Bool} {at_ : Int} (h1 : -9223372036854775808 ≤ at_) (h2 : at_ ≤ 9223372036854775807) (h : putS n D p r at_ = (0, 0, 0)) : wrE n D at_ = 0 := by
  unfold putS at h
  split at h
  · have := put_neg (n := n) (D := D) (p := p) (r := r)
    rw [h] at this
    exact absurd this (by decide)
  · rename_i hn
    have := put_yes h
    rwa [show ((at_.toNat : Nat) : Int) = at_ from by omega] at this
end Go.Proofs.Ytbcikndebaeahaa

namespace Go.Proofs.Ytbcikndebaeahaa
open Go.ChangeShapes Go.WideShapes Go.ChangeAt Go.RowKit
set_option linter.unusedVariables false
set_option maxRecDepth 4000
set_option linter.unusedSimpArgs false
/-! The landed slot: Put, and that what it gives lies in no block that is there. -/
set_option maxRecDepth 20000 in
set_option maxHeartbeats 2000000 in
theorem sput2_c (g0 : Nat) {v : Value} {n : Nat} {F : List UInt8} {D : List Drt} {p r l : Bool} {at_ : Int} {X : List UInt8} {th : Bool} (w : World) (hg0 : g0 < w.heap.size) (h : Slt w v n F D p r l) (hX : X.length = 64) (ha : -9223372036854775808 ≤ at_) (ha' : at_ ≤ 9223372036854775807) (hn : n ≤ 100) (hD : D.length ≤ 100) :
    Calls Try.prog 54 #[v, .int .i64 at_, .agg (bv X).toArray, .bool th] w fun e w' => ∃ v', e = .returned (.tuple #[v', sval (putS n D p r at_)]) ∧ Later w w' ∧ Slt w' v' n (ptF n F D (putS n D p r at_) at_ X th) (ptD n D (putS n D p r at_) at_ X th) p r l ∧ OffT g0 v' := by
  have HG0 := hide hg0
  have HDl := hide hD
  have HX := hide hX
  clear hD hX
  have HS := hide h
  obtain ⟨ab, cb, aD, k, cD, rfl, hm⟩ := h
  have HM := hide hm
  clear hm
  have HC := hide (put_conv (n := n) (D := D) (p := p) (r := r) ha ha')
  have HY := hide (fun h => put_zero (n := n) (D := D) (p := p) (r := r) ha ha' h)
  have HOk := hide (checkS_ok n D p r (at_ % 18446744073709551616).toNat 1 true)
  obtain ⟨z, hz⟩ : ∃ z : Nat, z = (at_ % 18446744073709551616).toNat := ⟨_, rfl⟩
  have hzi : at_ % 18446744073709551616 = (z : Int) := by omega
  have hz2 : z ≤ 18446744073709551615 := by omega
  have hzw : IntKind.u64.wrap at_ = (z : Int) := by rw [IntKind.wrap_u64]; exact hzi
  clear hzi
  rw [← hz] at HC HOk
  clear hz
  go_enter Try.func54, Try.ntmps54
  go_wp2_with fail
  try simp only [hzw]
  refine (scheck_c _ n F D p r l z 1 true _ (HS.out.later (((((Later.refl w).alloc _).alloc _).alloc _).alloc _)) hz2 (by omega) (by omega) hn HDl.out).mono ?_
  rintro e w2 ⟨rfl, hl⟩
  have BX : Hid (Box w2 w.heap.size 27 (tc (.slice ab n cb) (.slice aD k cD) p r l)) := Box.later ((((Box.new w 27 #[.slice ab n cb, .slice aD k cD, .bool p, .bool r, .bool l]).alloc _).alloc _).alloc _) hl
  have BB : Hid (Box w2 (w.heap.size + 1) 58 (bv X)) := Box.later (((Box.new' _ _ _ _ (by simp) _ (by simp)).alloc _).alloc _) hl
  have BR : Hid (Box w2 (w.heap.size + 1 + 1) 27 (tc (.slice none 0 0) (.slice none 0 0) false false false)) := Box.later ((Box.new' _ _ _ _ rfl _ (by simp)).alloc _) hl
  have BS : Hid (Box w2 (w.heap.size + 1 + 1 + 1) 30 (sc (0, 0, 0))) := Box.later (Box.new' _ _ _ _ rfl _ (by simp)) hl
  have L : Hid (Later w w2) := Later.trans (((((Later.refl w).alloc _).alloc _).alloc _).alloc _) hl
  clear hl
  rw [← HC.out]
  rw [← HC.out] at HOk
  clear hzw hz2 HC
  generalize hS : putS n D p r at_ = S at *
  have HSv := hide hS
  clear hS
  go_wp2_with (refine wpList_newS rfl rfl rfl 10 rfl (by simp) (.tmp 16) (by simp) rfl S rfl ?_)
  intro gW w3 hB hl hg
  have hgW : gW ≠ w.heap.size + 1 + 1 + 1 := by have h1 := BS.out.lt; have h2 := hg.out.1; omega
  replace BX := hide (BX.out.later hl)
  replace BB := hide (BB.out.later hl)
  replace BR := hide (BR.out.later hl)
  replace BS := hide (BS.out.later hl)
  replace L := hide (L.out.later hl)
  have BW := hide hB
  clear hB hl hg
  have e0 := BW.out.cell 0
  have e1 := BW.out.cell 1
  have e2 := BW.out.cell 2
  go_wp2_with fail
  refine (sgood_c S w3 HOk.out).mono ?_
  rintro e w4 ⟨rfl, hl⟩
  clear e0 e1 e2
  replace BX := hide (BX.out.later hl)
  replace BB := hide (BB.out.later hl)
  replace BR := hide (BR.out.later hl)
  replace BS := hide (BS.out.later hl)
  replace L := hide (L.out.later hl)
  replace BW := hide (BW.out.later hl)
  clear hl
  cases hz : (S == ((0, 0, 0) : Sns)) with
  | false =>
    have hb : Hid (ptF n F D S at_ X th = F ∧ ptD n D S at_ X th = D) := by simp only [Hid, ptF, ptD, hz]; exact ⟨rfl, rfl⟩
    clear BB
    have hDr := hide (Later.refl w4).drew
    go_wp2_with fail
    refine wp_region_bag [0] [1, 2, 3, 4] [3, 4] (by kernel_rfl) (by kernel_rfl) (by kernel_rfl) (by kernel_rfl) ?_
    have hc := fun r => (hDr.out.trans (later_rg _ r))
    have q0 := fun r => (BX.out.later (hc r)).cell 0
    have q1 := fun r => (BX.out.later (hc r)).cell 1
    have q2 := fun r => (BX.out.later (hc r)).cell 2
    have q3 := fun r => (BX.out.later (hc r)).cell 3
    have q4 := fun r => (BX.out.later (hc r)).cell 4
    refine wpM_mild rfl (fun K hK => ?_)
    go_simp
    refine hK _ ?_
    clear hK K q0 q1 q2 q3 q4 hc
    have hwd := hDr.out
    refine wpM_nil (bag_of (fun i => match i with | 3 => [1] | 4 => [1, 2, 3] | _ => [])
      (fun W => Later w W ∧ Box W gW 30 (sc S) ∧ (∃ cr, NoInts cr ∧ cr.length = 5 ∧ Box W (w.heap.size + 1 + 1) 27 cr) ∧ (∃ cz : List Value, cz.length = 3 ∧ Box W (w.heap.size + 1 + 1 + 1) 30 cz))
      (fun i vals W => match i with
        | 1 => ∃ x1 y1 x2 k2 y2, vals 1 = .agg #[.slice x1 n y1, .slice x2 k2 y2, .bool p, .bool r, .bool l] ∧ Med W (.agg #[.slice x1 n y1, .slice x2 k2 y2]) n F D ∧ (OffS (w.heap.size + 1 + 1 + 1) (.slice x1 n y1) ∧ OffS g0 (.slice x1 n y1)) ∧ (OffS (w.heap.size + 1 + 1 + 1) (.slice x2 k2 y2) ∧ OffS g0 (.slice x2 k2 y2))
        | 2 => vals 2 = sval S
        | 3 => ∃ x1 y1 x2 k2 y2, vals 1 = .agg #[.slice x1 n y1, .slice x2 k2 y2, .bool p, .bool r, .bool l] ∧ Med W (.agg #[.slice x1 n y1, .slice x2 k2 y2]) n F D ∧ (OffS (w.heap.size + 1 + 1 + 1) (.slice x1 n y1) ∧ OffS g0 (.slice x1 n y1)) ∧ (OffS (w.heap.size + 1 + 1 + 1) (.slice x2 k2 y2) ∧ OffS g0 (.slice x2 k2 y2)) ∧ Box W (w.heap.size + 1 + 1) 27 (tc (.slice x1 n y1) (.slice x2 k2 y2) p r l)
        | 4 => Box W (w.heap.size + 1 + 1 + 1) 30 (sc S)
        | _ => True) (by kernel_rfl) (by kernel_rfl) ?c1 ?c2 ?c3 ?c4 ?c5 ?c6 ?c7 ?c8)
    case c1 => exact ⟨L.out.trans hwd, BW.out.later hwd, ⟨_, tc_noints _ _ _ _ _ _ _ _ _, rfl, BR.out.later hwd⟩, _, rfl, BS.out.later hwd⟩
    case c2 =>
      rintro W W' hl ⟨ii1, ii2, ⟨cr, jj1, jj2, jj3⟩, cz, jj4, jj5⟩
      exact ⟨ii1.trans hl, ii2.later hl, ⟨cr, jj1, jj2, jj3.later hl⟩, cz, jj4, jj5.later hl⟩
    case c3 =>
      intro i hi vals W W' hl h
      simp only [List.mem_cons, List.not_mem_nil, or_false] at hi
      rcases hi with rfl | rfl | rfl | rfl
      · obtain ⟨x1, y1, x2, k2, y2, h1, h2, h3, h4⟩ := h
        exact ⟨x1, y1, x2, k2, y2, h1, h2.later hl, h3, h4⟩
      · exact h
      · obtain ⟨x1, y1, x2, k2, y2, h1, h2, h3, h4, h5⟩ := h
        exact ⟨x1, y1, x2, k2, y2, h1, h2.later hl, h3, h4, Box.later h5 hl⟩
      · exact Box.later h hl
    case c4 =>
      intro i hi k hk hne hds vals v W h
      simp only [List.mem_cons, List.not_mem_nil, or_false] at hi hk
      rcases hi with rfl | rfl | rfl | rfl <;> rcases hk with rfl | rfl | rfl | rfl <;> first | (exact absurd rfl hne) | (simp at hds; done) | (simpa [upd] using h)
    case c5 =>
      rintro i hi hni vals W ⟨ii1, ii2, ii4, cz, jj4, jj5⟩ hlb hdep
      simp only [List.mem_cons, List.not_mem_nil, or_false] at hi
      rcases hi with rfl | rfl | rfl | rfl
      · refine lVal_step rfl (fun K hK => ?_)
        simp only [putAll, List.foldl]
        go_simp
        refine (sown_c W (HS.out.later ii1) hn HDl.out).mono ?_
        rintro e w3 ⟨v3, rfl, hl3, h3, hf⟩
        obtain ⟨a, b, p', r', l', e, o1, o2⟩ := hf (w.heap.size + 1 + 1 + 1) jj5.lt
        obtain ⟨a', b', p'', r'', l'', e', o1', o2'⟩ := hf g0 (by have := ii1.size; have := HG0.out; omega)
        obtain ⟨x1, y1, x2, k2, y2, rfl, hm3⟩ := h3
        simp at e e'
        obtain ⟨rfl, rfl, _⟩ := e
        obtain ⟨rfl, rfl, _⟩ := e'
        exact ⟨_, rfl, hl3, hK _ _ ⟨x1, y1, x2, k2, y2, by simp [upd], hm3, ⟨o1, o1'⟩, o2, o2'⟩⟩
      · have y0 := ii2.cell 0
        have y1 := ii2.cell 1
        have y2 := ii2.cell 2
        refine lVal_step rfl (fun K hK => ?_)
        simp only [putAll, List.foldl]
        go_simp
        exact ⟨Later.refl _, hK _ _ (by simp [upd])⟩
      · exact absurd (by simp) hni
      · exact absurd (by simp) hni
    case c6 =>
      rintro i hi hni vals W ⟨ii1, ii2, ⟨cr, jj1, jj2, jj3⟩, cz, jj4, jj5⟩ hlb hdep
      simp only [List.mem_cons, List.not_mem_nil, or_false] at hni
      rcases hni with rfl | rfl
      · obtain ⟨x1, y1, x2, k2, y2, h1, h2, h3, h4⟩ := hdep 1 (by simp)
        refine sVal_store rfl rfl 27 (.tmp 8) (.tmp 21) rfl (w.heap.size + 1 + 1) (tc (.slice x1 n y1) (.slice x2 k2 y2) p r l) rfl h1 (jj3.there 0 5 (by omega)) Try.info_slot (tc_one _ _ _ _ _ _ _ _ _) (fun u => ⟨⟨ii1.setCells (by omega) _ 0, ii2.kept (heap_setCells_other W _ _ (box_ne ii2 jj3 (by decide)) _ _), ⟨_, tc_noints _ _ _ _ _ _ _ _ _, rfl, jj3.all _ (by simp [jj2])⟩, cz, jj4, jj5.kept (heap_setCells_other W _ _ (by omega) _ _)⟩, ?_, ?_⟩)
        · exact ⟨x1, y1, x2, k2, y2, by simpa [upd] using h1, h2.setBox jj3 jj1 _ 0, h3, h4, jj3.all _ (by simp [jj2])⟩
        · intro k hk
          simp only [List.mem_cons, List.not_mem_nil, or_false] at hk
          subst hk
          exact ⟨x1, y1, x2, k2, y2, h1, h2.setBox jj3 jj1 _ 0, h3, h4⟩
      · have g2 : vals 2 = sval S := hdep 2 (by simp)
        obtain ⟨x1, y1, x2, k2, y2, h1, h2, h3, h4, h5⟩ := hdep 3 (by simp)
        refine sVal_store rfl rfl 30 (.tmp 9) (.tmp 22) rfl (w.heap.size + 1 + 1 + 1) (sc S) rfl ?_ (jj5.there 0 3 (by omega)) Try.info_sense (sc_one _) (fun u => ⟨⟨ii1.setCells (by omega) _ 0, ii2.kept (heap_setCells_other W _ _ hgW _ _), ⟨_, tc_noints _ _ _ _ _ _ _ _ _, rfl, h5.kept (heap_setCells_other W _ _ (by omega) _ _)⟩, _, rfl, jj5.all (sc S) (by simp [jj4])⟩, ?_, ?_⟩)
        · exact g2
        · exact jj5.all (sc S) (by simp [jj4])
        · intro k hk
          simp only [List.mem_cons, List.not_mem_nil, or_false] at hk
          rcases hk with rfl | rfl | rfl
          · exact ⟨x1, y1, x2, k2, y2, h1, h2.setOff h3.1 h4.1 _ 0, h3, h4⟩
          · exact g2
          · exact ⟨x1, y1, x2, k2, y2, h1, h2.setOff h3.1 h4.1 _ 0, h3, h4, h5.kept (heap_setCells_other W _ _ (by omega) _ _)⟩
    case c7 =>
      intro i hi hst k hk hne hds hds' vals W W' h
      simp only [List.mem_cons, List.not_mem_nil, or_false] at hst hk
      rcases hst with rfl | rfl <;> rcases hk with rfl | rfl | rfl | rfl <;> first | (exact absurd rfl hne) | (simp at hds; done) | (simp at hds'; done) | (exact h)
    case c8 =>
      rintro vals wz ⟨ii1, ii2, ii4, ii5⟩ hall
      have g2 : vals 2 = sval S := hall 2 (by simp)
      obtain ⟨x1, y1, x2, k2, y2, h1, h2, h3, h4, h5⟩ := hall 3 (by simp)
      have T2 := hide h5
      have T3 : Hid (Box wz (w.heap.size + 1 + 1 + 1) 30 (sc S)) := hall 4 (by simp)
      have TL := hide ii1
      have TM := hide h2
      have TO := hide (And.intro h3.2 h4.2)
      clear ii1 ii2 ii4 ii5 hall BX BR BS BW L hDr hwd h2 h3 h4 h5
      simp only [putAll, List.foldl, dstOf, h1, g2]
      go_wp2
      refine bodyPost_ret (results_cell_cell' rfl _ _ _ (w.heap.size + 1 + 1) 0 (w.heap.size + 1 + 1 + 1) 0 rfl rfl (.agg #[.slice x1 n y1, .slice x2 k2 y2, .bool p, .bool r, .bool l]) (sval S) (shut5 T2.out rfl) (shut3 T3.out)) rfl ⟨.agg #[.slice x1 n y1, .slice x2 k2 y2, .bool p, .bool r, .bool l], ?_, TL.out, ?_⟩
      · rw [HSv.out]
      · rw [HSv.out, hb.out.1, hb.out.2]; exact ⟨Slt.mk' _ _ _ TM.out, _, _, _, _, _, rfl, TO.out.1, TO.out.2⟩
  | true =>
    obtain rfl : S = (0, 0, 0) := eq_of_beq hz
    have hE := hide (HY.out rfl)
    clear HY hz HOk
    have d0 := BX.out.cell 0
    have d1 := BX.out.cell 1
    go_wp2_with (refine wpList_load_mid rfl 58 (.tmp 6) rfl (w.heap.size + 1) 0 rfl (bv X) _ BB.out.range Try.underlying58 rfl (by rw [Try.info_block, bv_length, HX.out]) ?_)
    refine (cwrite_x _ n F D at_ X th w4 (HM.out.later L.out) HX.out ha ha').mono ?_
    rintro e w5 ⟨v5, rfl, hl, h5, ho5⟩
    rw [hE.out]
    rw [show wrN n D at_ = n from by simp [wrN, hE.out]] at h5
    have hO5 := hide (ho5 (w.heap.size + 1 + 1 + 1) BS.out.lt)
    have hG5 := hide (ho5 g0 (by have := L.out.size; have := HG0.out; omega))
    clear d0 d1 BW BB
    replace BX := hide (BX.out.later hl)
    replace BR := hide (BR.out.later hl)
    replace BS := hide (BS.out.later hl)
    replace L := hide (L.out.later hl)
    have M := hide h5
    obtain ⟨a3, c3, a6, k6, c6, rfl, _, _, _⟩ := h5.shape
    clear hl h5 ho5
    go_wp2_with (refine wpList_newM rfl rfl rfl 11 rfl (by simp) (.tmp 30) (by simp) rfl a3 a6 _ c3 k6 c6 rfl ?_)
    intro g3 w6 hB hl hg
    replace BX := hide (BX.out.later hl)
    replace BR := hide (BR.out.later hl)
    replace BS := hide (BS.out.later hl)
    replace L := hide (L.out.later hl)
    replace M := hide (M.out.later hl)
    have B3 := hide hB
    clear hl hB hg
    have d0 := BX.out.cell 0
    have d1 := BX.out.cell 1
    have d2 := BX.out.cell 2
    have d3 := BX.out.cell 3
    have d4 := BX.out.cell 4
    have e0 := B3.out.cell 0
    have e1 := B3.out.cell 1
    go_wp2_with fail
    refine (swith_yes (n := n) (F := F) (D := D) w6 (HS.out.later L.out) M.out).mono ?_
    rintro e w7 ⟨v7, rfl, hl, h7, ho7⟩
    have hO7 := hide (ho7 _ hO5.out)
    have hG7 := hide (ho7 g0 hG5.out)
    clear M d0 d1 d2 d3 d4 e0 e1 B3 BX
    replace BR := hide (BR.out.later hl)
    replace BS := hide (BS.out.later hl)
    replace L := hide (L.out.later hl)
    obtain ⟨b3, f3, b6, j6, f6, rfl, hm7⟩ := h7
    have M := hide hm7
    have hOff : Hid (OffS (w.heap.size + 1 + 1 + 1) (.slice b3 n f3) ∧ OffS (w.heap.size + 1 + 1 + 1) (.slice b6 j6 f6)) := by
      obtain ⟨a, b, p', r', l', e, h1, h2⟩ := hO7.out
      simp at e
      obtain ⟨rfl, rfl, _⟩ := e
      exact ⟨h1, h2⟩
    clear hl hm7 ho7 hO7 hO5
    have TS := hide (two_set (gR := w.heap.size + 1 + 1) (gS := w.heap.size + 1 + 1 + 1) p r l (0, 0, 0) (by omega) (by omega) (by omega) BR.out (tc_noints _ _ _ _ _ _ _ _ _) rfl BS.out rfl L.out M.out hOff.out)
    have BS5 := hide (BS.out.kept (heap_setCells_other w7 (w.heap.size + 1 + 1) (w.heap.size + 1 + 1 + 1) (by omega) (tc (.slice b3 n f3) (.slice b6 j6 f6) p r l) 0))
    go_wp2_with (refine wpList_storeT rfl 27 (.tmp 8) (.tmp 35) rfl (w.heap.size + 1 + 1) 0 rfl (tc (.slice b3 n f3) (.slice b6 j6 f6) p r l) rfl Try.info_slot (tc_one _ _ _ _ _ _ _ _ _) _ _ BR.out (by simp) ?_)
    intro w98 hw98
    rw [← hw98.out] at TS BS5
    clear hw98 BR BS L M
    go_wp2_with (refine wpList_storeT rfl 30 (.tmp 9) (.tmp 36) rfl (w.heap.size + 1 + 1 + 1) 0 rfl (sc (0, 0, 0)) rfl Try.info_sense (sc_one _) _ _ BS5.out (by simp) ?_)
    intro w99 hw99
    rw [← hw99.out] at TS
    clear hw99 BS5
    go_wp2
    refine bodyPost_ret (results_cell_cell' rfl _ _ _ (w.heap.size + 1 + 1) 0 (w.heap.size + 1 + 1 + 1) 0 rfl rfl (.agg #[(.slice b3 n f3), (.slice b6 j6 f6), .bool p, .bool r, .bool l]) (sval (0, 0, 0)) (shut5 TS.out.1 rfl) (shut3 TS.out.2.1)) rfl ⟨.agg #[(.slice b3 n f3), (.slice b6 j6 f6), .bool p, .bool r, .bool l], ?_, TS.out.2.2.1, ?_⟩
    · rw [HSv.out]
    · rw [HSv.out]
      exact ⟨TS.out.2.2.2, hG7.out⟩
end Go.Proofs.Ytbcikndebaeahaa

namespace Go.Proofs.Ytbcikndebaeahaa
open Go.ChangeShapes Go.WideShapes Go.ChangeAt Go.RowKit
set_option linter.unusedVariables false
set_option maxRecDepth 4000
set_option linter.unusedSimpArgs false
/-! The landed sense: lists of senses. -/
end Go.Proofs.Ytbcikndebaeahaa

namespace Go.Proofs.Ytbcikndebaeahaa
open Go.ChangeShapes Go.WideShapes Go.ChangeAt Go.RowKit
set_option linter.unusedVariables false
set_option maxRecDepth 4000
set_option linter.unusedSimpArgs false
/-! The landed sense: First, Parse. -/
theorem beqb_c {u v : Value} {l m : List UInt8} (w : World) (hu : Bs w u l) (hv : Bs w v m) :
    Calls Try.prog 67 #[u, v] w fun e w' => e = .returned (.bool (l == m)) ∧ w' = w := by
  have h1 := hu.strOf
  have h2 := hv.strOf
  clear hu hv
  go_enter Try.func67, Try.ntmps67
  go_wp2
  go_ret
  rw [strOf_list, strOf_list]
  exact ⟨rfl, rfl⟩
end Go.Proofs.Ytbcikndebaeahaa
