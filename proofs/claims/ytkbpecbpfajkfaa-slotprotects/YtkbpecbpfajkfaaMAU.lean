import Derived.Test.YtkbpecbpfajkfaaMAT
import Derived.Test.YtkbpecbpfajkfaaMAM
import Derived.Test.YtkbpecbpfajkfaaMAO
import Derived.Test.YtkbpecbpfajkfaaMAF
namespace Go.Proofs.Ytkbpecbpfajkfaa
open Go.ChangeShapes Go.WideShapes Go.ChangeAt Go.RowKit
set_option linter.unusedVariables false
set_option linter.unusedSimpArgs false

/-! The landed slot: Put. -/
theorem put_conv {n : Nat} {D : List Drt} {p r : Bool} {at_ : Int} (h1 : -9223372036854775808 ≤ at_) (h2 : at_ ≤ 9223372036854775807) :
    putS n D p r at_ = checkS n D p r (at_ % 18446744073709551616).toNat 1 true := by
  have h3 := allN_small n D
  unfold putS
  split
  · have e1 : withinB (allN n D) 0 1000 = false := by simp only [withinB, decide_eq_false_iff_not]; omega
    have e2 : withinB (allN n D) (at_ % 18446744073709551616).toNat 1 = false := by simp only [withinB, decide_eq_false_iff_not]; omega
    simp only [checkS, e1, e2]
  · have : (at_ % 18446744073709551616).toNat = at_.toNat := by omega
    rw [this]
theorem put_zero {n : Nat} {D : List Drt} {p r : Bool} {at_ : Int} (h1 : -9223372036854775808 ≤ at_) (h2 : at_ ≤ 9223372036854775807) (h : putS n D p r at_ = (0, 0, 0)) : wrE n D at_ = 0 := by
  unfold putS at h
  split at h
  · have := put_neg (n := n) (D := D) (p := p) (r := r)
    rw [h] at this
    exact absurd this (by decide)
  · rename_i hn
    have := put_yes h
    rwa [show ((at_.toNat : Nat) : Int) = at_ from by omega] at this
set_option maxRecDepth 20000 in
set_option maxHeartbeats 2000000 in
theorem sput_c : IPutT := by
  intro v n F D p r l at_ X th w h hX ha ha' hn hD
  have HDl := hide hD
  have HX := hide hX
  clear hD hX
  have HS := hide h
  obtain ⟨ab, cb, aD, k, cD, rfl, hm⟩ := h
  have HM := hide hm
  clear hm
  have HC := hide (put_conv (n := n) (D := D) (p := p) (r := r) ha ha')
  have HY := hide (fun h => put_zero (n := n) (D := D) (p := p) (r := r) ha ha' h)
  have HOk := hide (checkS_ok n D p r (at_ % 18446744073709551616).toNat 1 true)
  obtain ⟨z, hz⟩ : ∃ z : Nat, z = (at_ % 18446744073709551616).toNat := ⟨_, rfl⟩
  have hzi : at_ % 18446744073709551616 = (z : Int) := by omega
  have hz2 : z ≤ 18446744073709551615 := by omega
  have hzw : IntKind.u64.wrap at_ = (z : Int) := by rw [IntKind.wrap_u64]; exact hzi
  clear hzi
  rw [← hz] at HC HOk
  clear hz
  go_enter Try.func32, Try.ntmps32
  go_wp2_with fail
  try simp only [hzw]
  refine (scheck_c _ n F D p r l z 1 true _ (HS.out.later (((((Later.refl w).alloc _).alloc _).alloc _).alloc _)) hz2 (by omega) (by omega) hn HDl.out).mono ?_
  rintro e w2 ⟨rfl, hl⟩
  have BX : Hid (Box w2 w.heap.size 27 (tc (.slice ab n cb) (.slice aD k cD) p r l)) := Box.later ((((Box.new w 27 #[.slice ab n cb, .slice aD k cD, .bool p, .bool r, .bool l]).alloc _).alloc _).alloc _) hl
  have BB : Hid (Box w2 (w.heap.size + 1) 50 (bv X)) := Box.later (((Box.new' _ _ _ _ (by simp) _ (by simp)).alloc _).alloc _) hl
  have BR : Hid (Box w2 (w.heap.size + 1 + 1) 27 (tc (.slice none 0 0) (.slice none 0 0) false false false)) := Box.later ((Box.new' _ _ _ _ rfl _ (by simp)).alloc _) hl
  have BS : Hid (Box w2 (w.heap.size + 1 + 1 + 1) 35 (sc (0, 0, 0))) := Box.later (Box.new' _ _ _ _ rfl _ (by simp)) hl
  have L : Hid (Later w w2) := Later.trans (((((Later.refl w).alloc _).alloc _).alloc _).alloc _) hl
  clear hl
  rw [← HC.out]
  rw [← HC.out] at HOk
  clear hzw hz2 HC
  generalize hS : putS n D p r at_ = S at *
  have HSv := hide hS
  clear hS
  go_wp2_with (refine wpList_newS rfl rfl rfl 10 rfl (by simp) (.tmp 16) (by simp) rfl S rfl ?_)
  intro gW w3 hB hl hg
  have hgW : gW ≠ w.heap.size + 1 + 1 + 1 := by have h1 := BS.out.lt; have h2 := hg.out.1; omega
  replace BX := hide (BX.out.later hl)
  replace BB := hide (BB.out.later hl)
  replace BR := hide (BR.out.later hl)
  replace BS := hide (BS.out.later hl)
  replace L := hide (L.out.later hl)
  have BW := hide hB
  clear hB hl hg
  have e0 := BW.out.cell 0
  have e1 := BW.out.cell 1
  have e2 := BW.out.cell 2
  go_wp2_with fail
  refine (sgood_c S w3 HOk.out).mono ?_
  rintro e w4 ⟨rfl, hl⟩
  clear e0 e1 e2
  replace BX := hide (BX.out.later hl)
  replace BB := hide (BB.out.later hl)
  replace BR := hide (BR.out.later hl)
  replace BS := hide (BS.out.later hl)
  replace L := hide (L.out.later hl)
  replace BW := hide (BW.out.later hl)
  clear hl
  cases hz : (S == ((0, 0, 0) : Sns)) with
  | false =>
    have hb : Hid (ptF n F D S at_ X th = F ∧ ptD n D S at_ X th = D) := by simp only [Hid, ptF, ptD, hz]; exact ⟨rfl, rfl⟩
    clear BB
    have hDr := hide (Later.refl w4).drew
    go_wp2_with fail
    refine wp_region_bag [0] [1, 2, 3, 4] [3, 4] (by kernel_rfl) (by kernel_rfl) (by kernel_rfl) (by kernel_rfl) ?_
    have hc := fun r => (hDr.out.trans (later_rg _ r))
    have q0 := fun r => (BX.out.later (hc r)).cell 0
    have q1 := fun r => (BX.out.later (hc r)).cell 1
    have q2 := fun r => (BX.out.later (hc r)).cell 2
    have q3 := fun r => (BX.out.later (hc r)).cell 3
    have q4 := fun r => (BX.out.later (hc r)).cell 4
    refine wpM_mild rfl (fun K hK => ?_)
    go_simp
    refine hK _ ?_
    clear hK K q0 q1 q2 q3 q4 hc
    have hwd := hDr.out
    refine wpM_nil (bag_of (fun i => match i with | 3 => [1] | 4 => [1, 2, 3] | _ => [])
      (fun W => Later w W ∧ Box W gW 35 (sc S) ∧ (∃ cr, NoInts cr ∧ cr.length = 5 ∧ Box W (w.heap.size + 1 + 1) 27 cr) ∧ (∃ cz : List Value, cz.length = 3 ∧ Box W (w.heap.size + 1 + 1 + 1) 35 cz))
      (fun i vals W => match i with
        | 1 => ∃ x1 y1 x2 k2 y2, vals 1 = .agg #[.slice x1 n y1, .slice x2 k2 y2, .bool p, .bool r, .bool l] ∧ Med W (.agg #[.slice x1 n y1, .slice x2 k2 y2]) n F D ∧ OffS (w.heap.size + 1 + 1 + 1) (.slice x1 n y1) ∧ OffS (w.heap.size + 1 + 1 + 1) (.slice x2 k2 y2)
        | 2 => vals 2 = sval S
        | 3 => ∃ x1 y1 x2 k2 y2, vals 1 = .agg #[.slice x1 n y1, .slice x2 k2 y2, .bool p, .bool r, .bool l] ∧ Med W (.agg #[.slice x1 n y1, .slice x2 k2 y2]) n F D ∧ OffS (w.heap.size + 1 + 1 + 1) (.slice x1 n y1) ∧ OffS (w.heap.size + 1 + 1 + 1) (.slice x2 k2 y2) ∧ Box W (w.heap.size + 1 + 1) 27 (tc (.slice x1 n y1) (.slice x2 k2 y2) p r l)
        | 4 => Box W (w.heap.size + 1 + 1 + 1) 35 (sc S)
        | _ => True) (by kernel_rfl) (by kernel_rfl) ?c1 ?c2 ?c3 ?c4 ?c5 ?c6 ?c7 ?c8)
    case c1 => exact ⟨L.out.trans hwd, BW.out.later hwd, ⟨_, tc_noints _ _ _ _ _ _ _ _ _, rfl, BR.out.later hwd⟩, _, rfl, BS.out.later hwd⟩
    case c2 =>
      rintro W W' hl ⟨ii1, ii2, ⟨cr, jj1, jj2, jj3⟩, cz, jj4, jj5⟩
      exact ⟨ii1.trans hl, ii2.later hl, ⟨cr, jj1, jj2, jj3.later hl⟩, cz, jj4, jj5.later hl⟩
    case c3 =>
      intro i hi vals W W' hl h
      simp only [List.mem_cons, List.not_mem_nil, or_false] at hi
      rcases hi with rfl | rfl | rfl | rfl
      · obtain ⟨x1, y1, x2, k2, y2, h1, h2, h3, h4⟩ := h
        exact ⟨x1, y1, x2, k2, y2, h1, h2.later hl, h3, h4⟩
      · exact h
      · obtain ⟨x1, y1, x2, k2, y2, h1, h2, h3, h4, h5⟩ := h
        exact ⟨x1, y1, x2, k2, y2, h1, h2.later hl, h3, h4, Box.later h5 hl⟩
      · exact Box.later h hl
    case c4 =>
      intro i hi k hk hne hds vals v W h
      simp only [List.mem_cons, List.not_mem_nil, or_false] at hi hk
      rcases hi with rfl | rfl | rfl | rfl <;> rcases hk with rfl | rfl | rfl | rfl <;> first | (exact absurd rfl hne) | (simp at hds; done) | (simpa [upd] using h)
    case c5 =>
      rintro i hi hni vals W ⟨ii1, ii2, ii4, cz, jj4, jj5⟩ hlb hdep
      simp only [List.mem_cons, List.not_mem_nil, or_false] at hi
      rcases hi with rfl | rfl | rfl | rfl
      · refine lVal_step rfl (fun K hK => ?_)
        simp only [putAll, List.foldl]
        go_simp
        refine (sown_c W (HS.out.later ii1) hn HDl.out).mono ?_
        rintro e w3 ⟨v3, rfl, hl3, h3, hf⟩
        obtain ⟨a, b, p', r', l', e, o1, o2⟩ := hf (w.heap.size + 1 + 1 + 1) jj5.lt
        obtain ⟨x1, y1, x2, k2, y2, rfl, hm3⟩ := h3
        simp at e
        obtain ⟨rfl, rfl, _⟩ := e
        exact ⟨_, rfl, hl3, hK _ _ ⟨x1, y1, x2, k2, y2, by simp [upd], hm3, o1, o2⟩⟩
      · have y0 := ii2.cell 0
        have y1 := ii2.cell 1
        have y2 := ii2.cell 2
        refine lVal_step rfl (fun K hK => ?_)
        simp only [putAll, List.foldl]
        go_simp
        exact ⟨Later.refl _, hK _ _ (by simp [upd])⟩
      · exact absurd (by simp) hni
      · exact absurd (by simp) hni
    case c6 =>
      rintro i hi hni vals W ⟨ii1, ii2, ⟨cr, jj1, jj2, jj3⟩, cz, jj4, jj5⟩ hlb hdep
      simp only [List.mem_cons, List.not_mem_nil, or_false] at hni
      rcases hni with rfl | rfl
      · obtain ⟨x1, y1, x2, k2, y2, h1, h2, h3, h4⟩ := hdep 1 (by simp)
        refine sVal_store rfl rfl 27 (.tmp 8) (.tmp 21) rfl (w.heap.size + 1 + 1) (tc (.slice x1 n y1) (.slice x2 k2 y2) p r l) rfl h1 (jj3.there 0 5 (by omega)) Try.info_slot (tc_one _ _ _ _ _ _ _ _ _) (fun u => ⟨⟨ii1.setCells (by omega) _ 0, ii2.kept (heap_setCells_other W _ _ (box_ne ii2 jj3 (by decide)) _ _), ⟨_, tc_noints _ _ _ _ _ _ _ _ _, rfl, jj3.all _ (by simp [jj2])⟩, cz, jj4, jj5.kept (heap_setCells_other W _ _ (by omega) _ _)⟩, ?_, ?_⟩)
        · exact ⟨x1, y1, x2, k2, y2, by simpa [upd] using h1, h2.setBox jj3 jj1 _ 0, h3, h4, jj3.all _ (by simp [jj2])⟩
        · intro k hk
          simp only [List.mem_cons, List.not_mem_nil, or_false] at hk
          subst hk
          exact ⟨x1, y1, x2, k2, y2, h1, h2.setBox jj3 jj1 _ 0, h3, h4⟩
      · have g2 : vals 2 = sval S := hdep 2 (by simp)
        obtain ⟨x1, y1, x2, k2, y2, h1, h2, h3, h4, h5⟩ := hdep 3 (by simp)
        refine sVal_store rfl rfl 35 (.tmp 9) (.tmp 22) rfl (w.heap.size + 1 + 1 + 1) (sc S) rfl ?_ (jj5.there 0 3 (by omega)) Try.info_sense (sc_one _) (fun u => ⟨⟨ii1.setCells (by omega) _ 0, ii2.kept (heap_setCells_other W _ _ hgW _ _), ⟨_, tc_noints _ _ _ _ _ _ _ _ _, rfl, h5.kept (heap_setCells_other W _ _ (by omega) _ _)⟩, _, rfl, jj5.all (sc S) (by simp [jj4])⟩, ?_, ?_⟩)
        · exact g2
        · exact jj5.all (sc S) (by simp [jj4])
        · intro k hk
          simp only [List.mem_cons, List.not_mem_nil, or_false] at hk
          rcases hk with rfl | rfl | rfl
          · exact ⟨x1, y1, x2, k2, y2, h1, h2.setOff h3 h4 _ 0, h3, h4⟩
          · exact g2
          · exact ⟨x1, y1, x2, k2, y2, h1, h2.setOff h3 h4 _ 0, h3, h4, h5.kept (heap_setCells_other W _ _ (by omega) _ _)⟩
    case c7 =>
      intro i hi hst k hk hne hds hds' vals W W' h
      simp only [List.mem_cons, List.not_mem_nil, or_false] at hst hk
      rcases hst with rfl | rfl <;> rcases hk with rfl | rfl | rfl | rfl <;> first | (exact absurd rfl hne) | (simp at hds; done) | (simp at hds'; done) | (exact h)
    case c8 =>
      rintro vals wz ⟨ii1, ii2, ii4, ii5⟩ hall
      have g2 : vals 2 = sval S := hall 2 (by simp)
      obtain ⟨x1, y1, x2, k2, y2, h1, h2, h3, h4, h5⟩ := hall 3 (by simp)
      have T2 := hide h5
      have T3 : Hid (Box wz (w.heap.size + 1 + 1 + 1) 35 (sc S)) := hall 4 (by simp)
      have TL := hide ii1
      have TM := hide h2
      clear ii1 ii2 ii4 ii5 hall BX BR BS BW L hDr hwd h2 h3 h4 h5
      simp only [putAll, List.foldl, dstOf, h1, g2]
      go_wp2
      refine bodyPost_ret (results_cell_cell' rfl _ _ _ (w.heap.size + 1 + 1) 0 (w.heap.size + 1 + 1 + 1) 0 rfl rfl (.agg #[.slice x1 n y1, .slice x2 k2 y2, .bool p, .bool r, .bool l]) (sval S) (shut5 T2.out rfl) (shut3 T3.out)) rfl ⟨.agg #[.slice x1 n y1, .slice x2 k2 y2, .bool p, .bool r, .bool l], ?_, TL.out, ?_⟩
      · rw [HSv.out]
      · rw [HSv.out, hb.out.1, hb.out.2]; exact Slt.mk' _ _ _ TM.out
  | true =>
    obtain rfl : S = (0, 0, 0) := eq_of_beq hz
    have hE := hide (HY.out rfl)
    clear HY hz HOk
    have d0 := BX.out.cell 0
    have d1 := BX.out.cell 1
    go_wp2_with (refine wpList_load_mid rfl 50 (.tmp 6) rfl (w.heap.size + 1) 0 rfl (bv X) _ BB.out.range Try.underlying50 rfl (by rw [Try.info_block, bv_length, HX.out]) ?_)
    refine (cwrite_x _ n F D at_ X th w4 (HM.out.later L.out) HX.out ha ha').mono ?_
    rintro e w5 ⟨v5, rfl, hl, h5, ho5⟩
    rw [hE.out]
    rw [show wrN n D at_ = n from by simp [wrN, hE.out]] at h5
    have hO5 := hide (ho5 (w.heap.size + 1 + 1 + 1) BS.out.lt)
    clear d0 d1 BW BB
    replace BX := hide (BX.out.later hl)
    replace BR := hide (BR.out.later hl)
    replace BS := hide (BS.out.later hl)
    replace L := hide (L.out.later hl)
    have M := hide h5
    obtain ⟨a3, c3, a6, k6, c6, rfl, _, _, _⟩ := h5.shape
    clear hl h5 ho5
    go_wp2_with (refine wpList_newM rfl rfl rfl 11 rfl (by simp) (.tmp 30) (by simp) rfl a3 a6 _ c3 k6 c6 rfl ?_)
    intro g3 w6 hB hl hg
    replace BX := hide (BX.out.later hl)
    replace BR := hide (BR.out.later hl)
    replace BS := hide (BS.out.later hl)
    replace L := hide (L.out.later hl)
    replace M := hide (M.out.later hl)
    have B3 := hide hB
    clear hl hB hg
    have d0 := BX.out.cell 0
    have d1 := BX.out.cell 1
    have d2 := BX.out.cell 2
    have d3 := BX.out.cell 3
    have d4 := BX.out.cell 4
    have e0 := B3.out.cell 0
    have e1 := B3.out.cell 1
    go_wp2_with fail
    refine (swith_yes (n := n) (F := F) (D := D) w6 (HS.out.later L.out) M.out).mono ?_
    rintro e w7 ⟨v7, rfl, hl, h7, ho7⟩
    have hO7 := hide (ho7 _ hO5.out)
    clear M d0 d1 d2 d3 d4 e0 e1 B3 BX
    replace BR := hide (BR.out.later hl)
    replace BS := hide (BS.out.later hl)
    replace L := hide (L.out.later hl)
    obtain ⟨b3, f3, b6, j6, f6, rfl, hm7⟩ := h7
    have M := hide hm7
    have hOff : Hid (OffS (w.heap.size + 1 + 1 + 1) (.slice b3 n f3) ∧ OffS (w.heap.size + 1 + 1 + 1) (.slice b6 j6 f6)) := by
      obtain ⟨a, b, p', r', l', e, h1, h2⟩ := hO7.out
      simp at e
      obtain ⟨rfl, rfl, _⟩ := e
      exact ⟨h1, h2⟩
    clear hl hm7 ho7 hO7 hO5
    have TS := hide (two_set (gR := w.heap.size + 1 + 1) (gS := w.heap.size + 1 + 1 + 1) p r l (0, 0, 0) (by omega) (by omega) (by omega) BR.out (tc_noints _ _ _ _ _ _ _ _ _) rfl BS.out rfl L.out M.out hOff.out)
    have BS5 := hide (BS.out.kept (heap_setCells_other w7 (w.heap.size + 1 + 1) (w.heap.size + 1 + 1 + 1) (by omega) (tc (.slice b3 n f3) (.slice b6 j6 f6) p r l) 0))
    go_wp2_with (refine wpList_storeT rfl 27 (.tmp 8) (.tmp 35) rfl (w.heap.size + 1 + 1) 0 rfl (tc (.slice b3 n f3) (.slice b6 j6 f6) p r l) rfl Try.info_slot (tc_one _ _ _ _ _ _ _ _ _) _ _ BR.out (by simp) ?_)
    intro w98 hw98
    rw [← hw98.out] at TS BS5
    clear hw98 BR BS L M
    go_wp2_with (refine wpList_storeT rfl 35 (.tmp 9) (.tmp 36) rfl (w.heap.size + 1 + 1 + 1) 0 rfl (sc (0, 0, 0)) rfl Try.info_sense (sc_one _) _ _ BS5.out (by simp) ?_)
    intro w99 hw99
    rw [← hw99.out] at TS
    clear hw99 BS5
    go_wp2
    refine bodyPost_ret (results_cell_cell' rfl _ _ _ (w.heap.size + 1 + 1) 0 (w.heap.size + 1 + 1 + 1) 0 rfl rfl (.agg #[(.slice b3 n f3), (.slice b6 j6 f6), .bool p, .bool r, .bool l]) (sval (0, 0, 0)) (shut5 TS.out.1 rfl) (shut3 TS.out.2.1)) rfl ⟨.agg #[(.slice b3 n f3), (.slice b6 j6 f6), .bool p, .bool r, .bool l], ?_, TS.out.2.2.1, ?_⟩
    · rw [HSv.out]
    · rw [HSv.out]
      exact TS.out.2.2.2
end Go.Proofs.Ytkbpecbpfajkfaa

namespace Go.Proofs.Ytkbpecbpfajkfaa
open Go.ChangeShapes Go.WideShapes Go.ChangeAt Go.RowKit
set_option linter.unusedVariables false
set_option linter.unusedSimpArgs false

/-! 'x, y := f(..)' with structs; a sense's variable lies apart from a medium. -/
theorem put_none (a : Act) (v : Value) : a.put none v = a := rfl
theorem eval_put_other {a : Act} {d : Tmp} {v : Value} {y : Operand} (h : y ≠ .tmp d) : (a.put (some d) v).eval y = a.eval y :=
  Act.eval_put fun t ht e => h (by rw [e]; cases ht; rfl)
theorem wpList_alloc1 {P : Program} {w : World} {ops : Array Oper} {rest : List Oper} {o : Oper} {a : Act} {Q : Exit → Act → World → Prop} (hg : o.guard = none) (ty : TypeId) (h1 : o.op = .alloc ty) (z : Array Value) (n : Nat) (hz : (P.info? ty).map (fun i => (i.zero, i.size)) = some (some (.agg z), n))
    (h : wpList P ops Q rest (a.put o.dst (.pointer (some ⟨w.heap.size, 0, none⟩))) (w.alloc (.cells z ty))) : wpList P ops Q (o :: rest) a w := by
  refine wpList_plain hg fun K hK => ?_
  unfold Go.Oper.wp
  rw [run_alloc ty h1 z n hz w]
  exact hK _ _ h
/-- 'x, y := f(..)', both structs: two variables of their own -/
theorem wpList_new2 {P : Program} {w : World} {ops : Array Oper} {rest : List Oper} {o1 o2 o3 o4 : Oper} {a : Act} {Q : Exit → Act → World → Prop} (hg1 : o1.guard = none) (hg2 : o2.guard = none) (hg3 : o3.guard = none) (hg4 : o4.guard = none)
    (t1 t2 : TypeId) (h1 : o1.op = .alloc t1) (h2 : o2.op = .alloc t2) (d1 d2 : Tmp) (hd1 : o1.dst = some d1) (hd2 : o2.dst = some d2) (hs1 : d1 < a.tmps.size) (hs2 : d2 < a.tmps.size) (hne : d1 ≠ d2) (y1 y2 : Operand) (hy1 : y1 ≠ .tmp d1) (hy1' : y1 ≠ .tmp d2) (hy2 : y2 ≠ .tmp d1) (hy2' : y2 ≠ .tmp d2)
    (h3 : o3.op = .store t1 (.tmp d1) y1) (h4 : o4.op = .store t2 (.tmp d2) y2) (hd3 : o3.dst = none) (hd4 : o4.dst = none) (z1 z2 : Array Value) (c1 c2 : List Value)
    (hz1 : (P.info? t1).map (fun i => (i.zero, i.size)) = some (some (.agg z1), c1.length)) (hzs1 : z1.size = c1.length) (hz2 : (P.info? t2).map (fun i => (i.zero, i.size)) = some (some (.agg z2), c2.length)) (hzs2 : z2.size = c2.length)
    (e1 : a.eval y1 = .agg c1.toArray) (e2 : a.eval y2 = .agg c2.toArray) (k1 : ∀ v ∈ c1, v.oneCell' = true) (k2 : ∀ v ∈ c2, v.oneCell' = true)
    (h : ∀ (g1 g2 : Nat) (w' : World), Box w' g1 t1 c1 → Box w' g2 t2 c2 → Later w w' → Hid (g1 = w.heap.size ∧ g2 = w.heap.size + 1) → wpList P ops Q rest ((a.put (some d1) (.pointer (some ⟨g1, 0, none⟩))).put (some d2) (.pointer (some ⟨g2, 0, none⟩))) w') : wpList P ops Q (o1 :: o2 :: o3 :: o4 :: rest) a w := by
  refine wpList_alloc1 hg1 t1 h1 z1 _ hz1 ?_
  refine wpList_alloc1 hg2 t2 h2 z2 _ hz2 ?_
  rw [hd1, hd2]
  have hsz : (w.alloc (.cells z1 t1)).heap.size = w.heap.size + 1 := by simp
  rw [hsz]
  have B1 : Box ((w.alloc (.cells z1 t1)).alloc (.cells z2 t2)) w.heap.size t1 z1.toList := (Box.new w t1 z1).alloc _
  have B2 : Box ((w.alloc (.cells z1 t1)).alloc (.cells z2 t2)) (w.heap.size + 1) t2 z2.toList := Box.new' _ _ _ _ rfl _ hsz.symm
  have LL : Later w ((w.alloc (.cells z1 t1)).alloc (.cells z2 t2)) := ((Later.refl w).alloc _).alloc _
  generalize ((w.alloc (.cells z1 t1)).alloc (.cells z2 t2)) = w2 at *
  refine wpList_storeT hg3 t1 (.tmp d1) y1 h3 w.heap.size 0 ?_ c1 ?_ (zero_of_info hz1).2 k1 t1 _ B1 (by simp [hzs1]) ?_
  · rw [eval_put_other (by intro e; cases e; exact hne rfl), put_eval hs1]
  · rw [eval_put_other hy1', eval_put_other hy1, e1]
  intro w3 hw3
  have C1 := B1.all c1 (by simp [hzs1])
  have C2 : Box (w2.setCells w.heap.size 0 c1) (w.heap.size + 1) t2 z2.toList := B2.kept (heap_setCells_other w2 _ _ (by omega) _ _)
  have L3 := LL.setCells (g := w.heap.size) (Nat.le_refl _) c1 0
  rw [← hw3.out] at C1 C2 L3
  rw [hd3, put_none]
  refine wpList_storeT hg4 t2 (.tmp d2) y2 h4 (w.heap.size + 1) 0 ?_ c2 ?_ (zero_of_info hz2).2 k2 t2 _ C2 (by simp [hzs2]) ?_
  · rw [put_eval (by rw [put_size]; exact hs2)]
  · rw [eval_put_other hy2', eval_put_other hy2, e2]
  intro w4 hw4
  have E2 := C2.all c2 (by simp [hzs2])
  have E1 : Box (w3.setCells (w.heap.size + 1) 0 c2) w.heap.size t1 c1 := C1.kept (heap_setCells_other w3 _ _ (by omega) _ _)
  have L4 := L3.setCells (g := w.heap.size + 1) (by omega) c2 0
  rw [← hw4.out] at E1 E2 L4
  rw [hd4, put_none]
  exact h _ _ _ E1 E2 L4 ⟨rfl, rfl⟩
/-- 'x, y := f(..)', y alone a struct: the variable is made, x is set, then y is stored -/
theorem wpList_newA {P : Program} {w : World} {ops : Array Oper} {rest : List Oper} {o1 o2 o3 : Oper} {a : Act} {Q : Exit → Act → World → Prop} (hg1 : o1.guard = none) (hg2 : o2.guard = none) (hg3 : o3.guard = none)
    (t : TypeId) (h1 : o1.op = .alloc t) (d d2 : Tmp) (hd1 : o1.dst = some d) (hd2 : o2.dst = some d2) (hs1 : d < a.tmps.size) (hne : d ≠ d2) (x y : Operand) (hx : x ≠ .tmp d) (hy : y ≠ .tmp d) (hy' : y ≠ .tmp d2)
    (h2 : o2.op = .assign x) (h3 : o3.op = .store t (.tmp d) y) (hd3 : o3.dst = none) (z : Array Value) (c : List Value) (xv : Value)
    (hz : (P.info? t).map (fun i => (i.zero, i.size)) = some (some (.agg z), c.length)) (hzs : z.size = c.length) (ex : a.eval x = xv) (e : a.eval y = .agg c.toArray) (k : ∀ v ∈ c, v.oneCell' = true)
    (h : ∀ (g : Nat) (w' : World), Box w' g t c → Later w w' → Hid (g = w.heap.size) → wpList P ops Q rest ((a.put (some d) (.pointer (some ⟨g, 0, none⟩))).put (some d2) xv) w') : wpList P ops Q (o1 :: o2 :: o3 :: rest) a w := by
  refine wpList_alloc1 hg1 t h1 z _ hz ?_
  rw [hd1]
  refine wpList_plain hg2 fun K hK => ?_
  unfold Go.Oper.wp
  rw [run_assign x h2 xv (by rw [eval_put_other hx, ex])]
  refine hK _ _ ?_
  rw [hd2]
  have B1 : Box (w.alloc (.cells z t)) w.heap.size t z.toList := Box.new w t z
  have LL : Later w (w.alloc (.cells z t)) := (Later.refl w).alloc _
  generalize (w.alloc (.cells z t)) = w2 at *
  refine wpList_storeT hg3 t (.tmp d) y h3 w.heap.size 0 ?_ c ?_ (zero_of_info hz).2 k t _ B1 (by simp [hzs]) ?_
  · rw [eval_put_other (by intro e; cases e; exact hne rfl), put_eval hs1]
  · rw [eval_put_other hy', eval_put_other hy, e]
  intro w3 hw3
  have C1 := B1.all c (by simp [hzs])
  have L3 := LL.setCells (g := w.heap.size) (Nat.le_refl _) c 0
  rw [← hw3.out] at C1 L3
  rw [hd3, put_none]
  exact h _ _ C1 L3 rfl
/-- 'x, y := f(..)', a slot and a sense -/
theorem wpList_newTS {w : World} {ops : Array Oper} {rest : List Oper} {o1 o2 o3 o4 : Oper} {a : Act} {Q : Exit → Act → World → Prop} (hg1 : o1.guard = none) (hg2 : o2.guard = none) (hg3 : o3.guard = none) (hg4 : o4.guard = none)
    (h1 : o1.op = .alloc 27) (h2 : o2.op = .alloc 35) (d1 d2 : Tmp) (hd1 : o1.dst = some d1) (hd2 : o2.dst = some d2) (hs1 : d1 < a.tmps.size) (hs2 : d2 < a.tmps.size) (hne : d1 ≠ d2) (y1 y2 : Operand) (hy1 : y1 ≠ .tmp d1) (hy1' : y1 ≠ .tmp d2) (hy2 : y2 ≠ .tmp d1) (hy2' : y2 ≠ .tmp d2)
    (h3 : o3.op = .store 27 (.tmp d1) y1) (h4 : o4.op = .store 35 (.tmp d2) y2) (hd3 : o3.dst = none) (hd4 : o4.dst = none)
    (x1 x2 : Option Addr) (n1 c1 n2 c2 : Nat) (p r l : Bool) (s : Sns) (e1 : a.eval y1 = .agg #[.slice x1 n1 c1, .slice x2 n2 c2, .bool p, .bool r, .bool l]) (e2 : a.eval y2 = sval s)
    (h : ∀ (g1 g2 : Nat) (w' : World), Box w' g1 27 (tc (.slice x1 n1 c1) (.slice x2 n2 c2) p r l) → Box w' g2 35 (sc s) → Later w w' → Hid (g1 = w.heap.size ∧ g2 = w.heap.size + 1) → wpList Try.prog ops Q rest ((a.put (some d1) (.pointer (some ⟨g1, 0, none⟩))).put (some d2) (.pointer (some ⟨g2, 0, none⟩))) w') : wpList Try.prog ops Q (o1 :: o2 :: o3 :: o4 :: rest) a w :=
  wpList_new2 hg1 hg2 hg3 hg4 27 35 h1 h2 d1 d2 hd1 hd2 hs1 hs2 hne y1 y2 hy1 hy1' hy2 hy2' h3 h4 hd3 hd4 #[.slice none 0 0, .slice none 0 0, .bool false, .bool false, .bool false] #[.int .i64 0, .int .i64 0, .int .i64 0] (tc (.slice x1 n1 c1) (.slice x2 n2 c2) p r l) (sc s) Try.zero_slot rfl Try.zero_sense rfl e1 e2 (tc_one _ _ _ _ _ _ _ _ _) (sc_one s) h
/-- 'x, y := f(..)', a value of one cell and a sense -/
theorem wpList_newAS {w : World} {ops : Array Oper} {rest : List Oper} {o1 o2 o3 : Oper} {a : Act} {Q : Exit → Act → World → Prop} (hg1 : o1.guard = none) (hg2 : o2.guard = none) (hg3 : o3.guard = none)
    (h1 : o1.op = .alloc 35) (d d2 : Tmp) (hd1 : o1.dst = some d) (hd2 : o2.dst = some d2) (hs1 : d < a.tmps.size) (hne : d ≠ d2) (x y : Operand) (hx : x ≠ .tmp d) (hy : y ≠ .tmp d) (hy' : y ≠ .tmp d2)
    (h2 : o2.op = .assign x) (h3 : o3.op = .store 35 (.tmp d) y) (hd3 : o3.dst = none) (xv : Value) (s : Sns) (ex : a.eval x = xv) (e : a.eval y = sval s)
    (h : ∀ (g : Nat) (w' : World), Box w' g 35 (sc s) → Later w w' → Hid (g = w.heap.size) → wpList Try.prog ops Q rest ((a.put (some d) (.pointer (some ⟨g, 0, none⟩))).put (some d2) xv) w') : wpList Try.prog ops Q (o1 :: o2 :: o3 :: rest) a w :=
  wpList_newA hg1 hg2 hg3 35 h1 d d2 hd1 hd2 hs1 hne x y hx hy hy' h2 h3 hd3 #[.int .i64 0, .int .i64 0, .int .i64 0] (sc s) xv Try.zero_sense rfl ex e (sc_one s) h
/-- a medium's rows lie in no sense -/
theorem Rw.setApart {sz : Nat} {w : World} {v : Value} {n : Nat} {xs : List Value} {g : Nat} {ty : TypeId} {cs : List Value} (h : Rw sz w v n xs) (j : Nat) (hB : Box w g ty cs) (hc : 0 < n → ∃ u, xs[j]? = some u ∧ u ∉ cs) (vs : List Value) (o : Nat) : Rw sz (w.setCells g o vs) v n xs := by
  obtain ⟨h1, h2, a, cap, rfl, hcap, h3⟩ := h
  refine ⟨h1, h2, a, cap, rfl, hcap, ?_⟩
  by_cases hn : n = 0
  · exact .inl hn
  rcases h3 with h3 | ⟨b, off, rfl, hr⟩
  · exact .inl h3
  · refine .inr ⟨b, off, rfl, ?_⟩
    obtain ⟨u, hu, hnu⟩ := hc (by omega)
    have hne : b ≠ g := fun e => by
      subst e
      have h4 := hr j u hu
      rw [hB.cell] at h4
      exact hnu (List.mem_of_getElem? h4)
    intro j u hu
    rw [← hr j u hu]
    simp only [World.cell?, heap_setCells_other w g b hne]
theorem Med.setSense {w : World} {v : Value} {n : Nat} {F : List UInt8} {D : List Drt} {g : Nat} {ty : TypeId} {s : Sns} (h : Med w v n F D) (hB : Box w g ty (sc s)) (vs : List Value) (o : Nat) : Med (w.setCells g o vs) v n F D := by
  obtain ⟨vb, vd, rfl, hb, hd, ho⟩ := h
  refine ⟨vb, vd, rfl, hb.setApart 0 hB ?_ vs o, hd.setApart 1 hB ?_ vs o, ho⟩
  · intro hn
    have hl := hb.1
    rw [bv_length] at hl
    have h0 : 0 < F.length := by omega
    exact ⟨.int .u8 (F[0].toNat : Int), by simp [bv, h0], by simp [sc]⟩
  · intro hn
    cases D with
    | nil => simp at hn
    | cons d D =>
      have h64 := (ho d (by simp)).1
      have h0 : 0 < d.2.length := by omega
      refine ⟨.int .u8 (d.2[0].toNat : Int), ?_, by simp [sc]⟩
      rw [dv_cons]
      simp only [List.cons_append, List.getElem?_cons_succ]
      rw [List.getElem?_append_left (by rw [bv_length]; exact h0)]
      simp [bv, h0]
theorem Slt.setSense {w : World} {v : Value} {n : Nat} {F : List UInt8} {D : List Drt} {p r l : Bool} {g : Nat} {ty : TypeId} {s : Sns} (h : Slt w v n F D p r l) (hB : Box w g ty (sc s)) (vs : List Value) (o : Nat) : Slt (w.setCells g o vs) v n F D p r l := by
  obtain ⟨ab, cb, aD, k, cD, rfl, hm⟩ := h
  exact ⟨ab, cb, aD, k, cD, rfl, hm.setSense hB vs o⟩
theorem Slt.setBox {w : World} {v : Value} {n : Nat} {F : List UInt8} {D : List Drt} {p r l : Bool} {g : Nat} {ty : TypeId} {cs : List Value} (h : Slt w v n F D p r l) (hB : Box w g ty cs) (hc : NoInts cs) (vs : List Value) (o : Nat) : Slt (w.setCells g o vs) v n F D p r l := by
  obtain ⟨ab, cb, aD, k, cD, rfl, hm⟩ := h
  exact ⟨ab, cb, aD, k, cD, rfl, hm.setBox hB hc vs o⟩
theorem Slt.med {w : World} {a b : Option Addr} {n m c d e : Nat} {F : List UInt8} {D : List Drt} {p r l p' r' l' : Bool} (h : Slt w (.agg #[.slice a n c, .slice b m d, .bool p', .bool r', .bool l']) e F D p r l) : Med w (.agg #[.slice a n c, .slice b m d]) e F D := by
  obtain ⟨ab, cb, aD, k, cD, e, hm⟩ := h
  simp at e
  obtain ⟨⟨rfl, rfl, rfl⟩, ⟨rfl, rfl, rfl⟩, _⟩ := e
  exact hm
end Go.Proofs.Ytkbpecbpfajkfaa

namespace Go.Proofs.Ytkbpecbpfajkfaa

set_option linter.unusedVariables false
set_option linter.unusedSimpArgs false

/-! A bag whose operations are named one by one: no number is put for a variable in a great frame. -/
def AllOf (Q : Nat → Prop) : List Nat → Prop
  | [] => True
  | i :: l => Q i ∧ AllOf Q l
theorem AllOf.get {Q : Nat → Prop} : ∀ {l : List Nat}, AllOf Q l → ∀ i ∈ l, Q i
  | [], _, i, hi => by cases hi
  | j :: l, h, i, hi => by
    rcases List.mem_cons.1 hi with e | hi
    · rw [e]; exact h.1
    · exact AllOf.get h.2 i hi
theorem bag_of2 {P : Program} {ops : Array Oper} {Q : Exit → Act → World → Prop} {st σ : List Nat} {a : Act} {b : World} (gs : List Nat) (ds : Nat → List Nat) (L : World → Prop) (R : Nat → (Nat → Value) → World → Prop) (hd : (σ.all fun i => (σ.filter fun k => dep .any ops i k) == ds i) = true) (hsσ : (st.all fun i => σ.contains i) = true)
    (hgs : (σ.all fun i => st.contains i || gs.contains i) = true) (here : L b) (near : ∀ w w', Later w w' → L w → L w') (stays : ∀ i ∈ σ, ∀ vals w w', Later w w' → R i vals w → R i vals w')
    (alone : ∀ i ∈ σ, ∀ k ∈ σ, k ≠ i → k ∉ ds i → ∀ vals v w, R i vals w → R i (upd vals k v) w)
    (gives : AllOf (fun i => ∀ vals w, L w → (∀ k ∈ ds i, R k vals w) → lVal P ops i (fun v w' => R i (upd vals i v) w') (putAll ops (ds i) vals a) w) gs)
    (stores : AllOf (fun i => ∀ vals w, L w → (∀ k ∈ ds i, R k vals w) → sVal P ops i (fun v w' => L w' ∧ R i (upd vals i v) w' ∧ ∀ k ∈ ds i, R k vals w') (putAll ops (ds i) vals a) w) st)
    (still : ∀ i ∈ σ, i ∈ st → ∀ k ∈ σ, k ≠ i → k ∉ ds i → i ∉ ds k → ∀ vals w w', R k vals w → R k vals w')
    (all : ∀ vals w, L w → (∀ k ∈ σ, R k vals w) → Q .normal (putAll ops σ vals a) w) : ∃ L R, Bag2 P ops Q st σ a b L R := by
  refine bag_of ds L R hd hsσ here near stays alone (fun i hi hn vals w hL _ hR => ?_) (fun i hi hn vals w hL _ hR => AllOf.get stores i hn vals w hL hR) still all
  simp only [List.all_eq_true] at hgs
  have := hgs i hi
  simp only [Bool.or_eq_true, List.contains_iff_mem] at this
  rcases this with h | h
  · exact absurd h hn
  · exact AllOf.get gives i h vals w hL hR
end Go.Proofs.Ytkbpecbpfajkfaa
