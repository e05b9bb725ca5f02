import Derived.Test.YtkbpecbpfajkfaaMAQ
import Derived.Test.YtkbpecbpfajkfaaMAJ
namespace Go.Proofs.Ytkbpecbpfajkfaa
open Go.ChangeShapes Go.WideShapes Go.ChangeAt Go.RowKit
set_option linter.unusedVariables false
set_option linter.unusedSimpArgs false

/-! The landed slot: own. -/
/-- all that it holds lies in new memory -/
def Fresh (B : Nat) (v : Value) : Prop := ∀ g, g < B → OffT g v
theorem Fresh.mono {B B' : Nat} {v : Value} (h : Fresh B v) (hb : B' ≤ B) : Fresh B' v := fun g hg => h g (by omega)

set_option maxRecDepth 20000 in
set_option maxHeartbeats 1000000 in
theorem sown_c {v : Value} {n : Nat} {F : List UInt8} {D : List Drt} {p r l : Bool} (w : World) (h : Slt w v n F D p r l) (hn : n ≤ 100) (hD : D.length ≤ 100) :
    Calls Try.prog 41 #[v] w fun e w' => ∃ v', e = .returned v' ∧ Later w w' ∧ Slt w' v' n F D p r l ∧ Fresh w.heap.size v' := by
  obtain ⟨ab, cb, aD, k, cD, rfl, hm⟩ := h
  obtain ⟨vb, vd, e, hb, hd, hok⟩ := hm
  simp at e
  obtain ⟨rfl, rfl⟩ := e
  obtain rfl : k = D.length := by
    obtain ⟨a', c', e'⟩ := hd.shape
    simp at e'
    exact e'.2.1
  have HB := hide hb
  obtain ⟨k, hk⟩ : ∃ k, k = D.length := ⟨_, rfl⟩
  rw [← hk] at hd hD ⊢
  have HD := hide hd
  have HK := hide hk
  have HO := hide hok
  clear hb hd hok hk
  have BX : Hid (Box ((w.alloc (.cells #[.slice ab n cb, .slice aD k cD, .bool p, .bool r, .bool l] 27)).alloc (.cells #[.slice none 0 0, .slice none 0 0, .bool false, .bool false, .bool false] 27)) w.heap.size 27 (tc (.slice ab n cb) (.slice aD k cD) p r l)) := (Box.new w 27 #[.slice ab n cb, .slice aD k cD, .bool p, .bool r, .bool l]).alloc _
  have BR : Hid (Box ((w.alloc (.cells #[.slice ab n cb, .slice aD k cD, .bool p, .bool r, .bool l] 27)).alloc (.cells #[.slice none 0 0, .slice none 0 0, .bool false, .bool false, .bool false] 27)) (w.heap.size + 1) 27 (tc (.slice none 0 0) (.slice none 0 0) false false false)) := Box.new' _ _ _ _ rfl _ (by simp)
  have L := hide (((Later.refl w).alloc (.cells #[.slice ab n cb, .slice aD k cD, .bool p, .bool r, .bool l] 27)).alloc (.cells #[.slice none 0 0, .slice none 0 0, .bool false, .bool false, .bool false] 27))
  go_enter Try.func41, Try.ntmps41
  go_wp2_with fail
  generalize ((w.alloc (.cells #[.slice ab n cb, .slice aD k cD, .bool p, .bool r, .bool l] 27)).alloc (.cells #[.slice none 0 0, .slice none 0 0, .bool false, .bool false, .bool false] 27)) = w1 at *
  have hc := fun r => ((Later.refl w1).drew.trans (later_rg w1.drew r))
  have hc0 := fun r => (BX.out.later (hc r)).cell 0
  have hc1 := fun r => (BX.out.later (hc r)).cell 1
  refine wp_region_tree [0, 1, 2, 4, 5, 6] [3, 7] [8, 9, 10] (by kernel_rfl) (by kernel_rfl) (by kernel_rfl) (by kernel_rfl) ?_
  iterate 6 (refine wpT_mild rfl (fun K hK => ?_); go_simp; refine hK _ ?_; clear hK K)
  clear hc0 hc1 hc
  refine wpT_bag (fun i => match i with | 7 => [3] | _ => []) (fun i vals W => match i with
    | 3 => W.ownsRow w.heap.size 50 64 (vals 3) n (bv F)
    | 7 => W.ownsRow w.heap.size 80 65 (vals 7) k (dv D)
    | _ => True) (by kernel_rfl) ?b1 ?b2 ?b3 ?b4
  case b1 =>
    intro i hi vals W W' hl h
    simp only [List.mem_cons, List.not_mem_nil, or_false] at hi
    rcases hi with rfl | rfl
    · exact owns_later h hl
    · exact owns_later h hl
  case b2 =>
    intro i hi k hk hne hds vals v W h
    simp only [List.mem_cons, List.not_mem_nil, or_false] at hi hk
    rcases hi with rfl | rfl <;> rcases hk with rfl | rfl <;> first | (exact absurd rfl hne) | (simpa [upd] using h) | (simp at hds)
  case b3 =>
    intro i hi vals W hl hdep
    have L1W := (Later.refl w1).drew.trans hl
    have LW := hide (L.out.trans L1W)
    simp only [List.mem_cons, List.not_mem_nil, or_false] at hi
    rcases hi with rfl | rfl
    · refine lVal_step rfl (fun K hK => ?_)
      simp only [putAll, List.foldl]
      go_simp
      refine (clone64_c W (HB.out.later LW.out) (by omega)).mono ?_
      rintro e w3 ⟨v3, rfl, hl3, ho3⟩
      exact ⟨v3, rfl, hl3, hK _ _ (by simpa [upd] using owns_rebase ho3 LW.out.size)⟩
    · refine lVal_step rfl (fun K hK => ?_)
      simp only [putAll, List.foldl]
      go_simp
      refine (clone65_c W (HD.out.later LW.out) (by omega)).mono ?_
      rintro e w3 ⟨v3, rfl, hl3, ho3⟩
      exact ⟨v3, rfl, hl3, hK _ _ (by simpa [upd] using owns_rebase ho3 LW.out.size)⟩
  case b4 =>
    intro vals w7 hl hall
    have hw7 := (Later.refl w1).drew.trans hl
    have h3 : w7.ownsRow w.heap.size 50 64 (vals 3) n (bv F) := hall 3 (by simp)
    have h7 : w7.ownsRow w.heap.size 80 65 (vals 7) k (dv D) := hall 7 (by simp)
    generalize hv3 : vals 3 = v3 at *
    generalize hv7 : vals 7 = v7 at *
    have FR : Hid (Fresh w.heap.size (.agg #[v3, v7, .bool p, .bool r, .bool l])) := fun g hg => ⟨_, _, _, _, _, rfl, owns_off h3 hg, owns_off h7 hg⟩
    have M : Hid (Med w7 (.agg #[v3, v7]) n F D) := ⟨_, _, rfl, Rw.of_owns h3, by rw [← HK.out]; exact Rw.of_owns h7, HO.out⟩
    obtain ⟨a3, c3, rfl⟩ := (Rw.of_owns h3).shape
    obtain ⟨a6, c6, rfl⟩ := (Rw.of_owns h7).shape
    replace BX := hide (BX.out.later hw7)
    replace BR := hide (BR.out.later hw7)
    replace L := hide (L.out.later hw7)
    clear h3 h7 hall hl hw7
    refine wpL_cons rfl (fun K hK => ?_)
    simp only [putAll, List.foldl, dstOf, hv3, hv7]
    go_simp
    refine hK _ _ ?_
    clear hK K
    refine wpL_cons rfl (fun K hK => ?_)
    go_simp
    refine hK _ _ ?_
    clear hK K
    refine wpL_store rfl (by kernel_rfl) 25 (.tmp 12) (.tmp 11) rfl w.heap.size 0 [.slice a3 n c3, .slice a6 k c6] rfl rfl (BX.out.there 0 2 (by simp)) (zero_of_info Try.zero_medium).2 (by simp [Value.oneCell']) (wpL_nil ?_)
    obtain ⟨w8, hw8⟩ : ∃ w8, Hid (w8 = w7.setCells w.heap.size 0 [.slice a3 n c3, .slice a6 k c6]) := ⟨_, rfl⟩
    rw [← hw8.out]
    have T := hide (tri_set (Nat.le_refl _) (by omega) BX.out (tc_noints _ _ _ _ _ _ _ _ _) BR.out L.out M.out [.slice a3 n c3, .slice a6 k c6] 0 (by simp))
    rw [← hw8.out] at T
    clear BX BR L M hw8
    have BX : Hid (Box w8 w.heap.size 27 (tc (.slice a3 n c3) (.slice a6 k c6) p r l)) := T.out.1
    have BR := hide T.out.2.1
    have L := hide T.out.2.2.1
    have M := hide T.out.2.2.2
    clear T
    have HE := hide (slot_set (p := p) (r := r) (l := l) (by omega) BR.out (tc_noints _ _ _ _ _ _ _ _ _) rfl L.out M.out)
    have d0 := BX.out.cell 0
    have d1 := BX.out.cell 1
    have d2 := BX.out.cell 2
    have d3 := BX.out.cell 3
    have d4 := BX.out.cell 4
    go_wp2_with (refine wpList_storeT rfl 27 (.tmp 2) (.tmp 13) rfl (w.heap.size + 1) 0 rfl (tc (.slice a3 n c3) (.slice a6 k c6) p r l) rfl Try.info_slot (tc_one _ _ _ _ _ _ _ _ _) _ _ BR.out (by simp) ?_)
    intro wz hwz
    rw [← hwz.out] at HE
    clear BX BR L M d0 d1 d2 d3 d4 hwz
    go_wp2
    refine bodyPost_ret (results_cell1 rfl _ _ _ (w.heap.size + 1) 0 rfl (.agg #[.slice a3 n c3, .slice a6 k c6, .bool p, .bool r, .bool l]) (shut5 HE.out.1 rfl)) rfl ⟨_, rfl, HE.out.2.1, ?_, FR.out⟩
    exact Slt.mk' _ _ _ HE.out.2.2
end Go.Proofs.Ytkbpecbpfajkfaa

namespace Go.Proofs.Ytkbpecbpfajkfaa
open Go.ChangeShapes Go.WideShapes Go.ChangeAt Go.RowKit
set_option linter.unusedVariables false
set_option linter.unusedSimpArgs false

/-! The landed slot: with, Sync. -/
set_option maxRecDepth 20000 in
set_option maxHeartbeats 1000000 in
theorem swith_yes {v u : Value} {n m : Nat} {F G : List UInt8} {D E : List Drt} {p r l : Bool} (w : World) (h : Slt w v n F D p r l) (hu : Med w u m G E) :
    Calls Try.prog 46 #[v, u, .int .i64 0] w fun e w' => ∃ v', e = .returned v' ∧ Later w w' ∧ Slt w' v' m G E p r l ∧ ∀ g, OffM g u → OffT g v' := by
  obtain ⟨ab, cb, aD, k, cD, rfl, _⟩ := h
  have HU := hide hu
  obtain ⟨a3, c3, a6, k6, c6, rfl, _, _, _⟩ := hu.shape
  clear hu
  go_enter Try.func46, Try.ntmps46
  go_wp2
  refine bodyPost_ret (results_cell1 rfl _ _ _ (w.heap.size + 1 + 1) 0 rfl (.agg #[.slice a3 m c3, .slice a6 k6 c6, .bool p, .bool r, .bool l]) (shut5 (cs := tc (.slice a3 m c3) (.slice a6 k6 c6) p r l) (Box.new' _ _ _ _ rfl _ (by simp)) rfl)) rfl ⟨_, rfl, (((Later.refl w).alloc _).alloc _).alloc _, Slt.mk' _ _ _ (HU.out.later ((((Later.refl w).alloc _).alloc _).alloc _)), fun g ⟨a, b, e, h1, h2⟩ => ?_⟩
  simp at e
  obtain ⟨rfl, rfl⟩ := e
  exact ⟨_, _, _, _, _, rfl, h1, h2⟩
set_option maxRecDepth 20000 in
set_option maxHeartbeats 1000000 in
theorem swith_no {v u : Value} {n m : Nat} {F G : List UInt8} {D E : List Drt} {p r l : Bool} (ee : Int) (w : World) (h : Slt w v n F D p r l) (hu : Med w u m G E) (he : ee ≠ 0) (hn : n ≤ 100) (hD : D.length ≤ 100) :
    Calls Try.prog 46 #[v, u, .int .i64 ee] w fun e w' => ∃ v', e = .returned v' ∧ Later w w' ∧ Slt w' v' n F D p r l ∧ Fresh w.heap.size v' := by
  have HS := hide h
  obtain ⟨ab, cb, aD, k, cD, rfl, _⟩ := h
  obtain ⟨a3, c3, a6, k6, c6, rfl, _, _, _⟩ := hu.shape
  have hne : (ee != 0) = true := by simpa using he
  have HDl := hide hD
  clear hu hD
  go_enter Try.func46, Try.ntmps46
  go_wp2_with fail
  refine (sown_c _ (HS.out.later ((((Later.refl w).alloc _).alloc _).alloc _)) hn HDl.out).mono ?_
  rintro e w2 ⟨v2, rfl, hl, h2, hf⟩
  have BR : Hid (Box w2 (w.heap.size + 1 + 1) 27 (tc (.slice none 0 0) (.slice none 0 0) false false false)) := Box.later (Box.new' _ _ _ _ rfl _ (by simp)) hl
  have L : Hid (Later w w2) := Later.trans ((((Later.refl w).alloc _).alloc _).alloc _) hl
  have FR : Hid (Fresh w.heap.size v2) := hf.mono (by simp; omega)
  obtain ⟨b3, d3, b6, j6, d6, rfl, hm2⟩ := h2
  have M := hide hm2
  clear hl hf hm2
  have HE := hide (slot_set (p := p) (r := r) (l := l) (by omega) BR.out (tc_noints _ _ _ _ _ _ _ _ _) rfl L.out M.out)
  go_wp2_with (refine wpList_storeT rfl 27 (.tmp 6) (.tmp 10) rfl (w.heap.size + 1 + 1) 0 rfl (tc (.slice b3 n d3) (.slice b6 j6 d6) p r l) rfl Try.info_slot (tc_one _ _ _ _ _ _ _ _ _) _ _ BR.out (by simp) ?_)
  intro wz hwz
  rw [← hwz.out] at HE
  clear hwz BR L M
  go_wp2
  exact bodyPost_ret (results_cell1 rfl _ _ _ (w.heap.size + 1 + 1) 0 rfl (.agg #[.slice b3 n d3, .slice b6 j6 d6, .bool p, .bool r, .bool l]) (shut5 HE.out.1 rfl)) rfl ⟨_, rfl, HE.out.2.1, Slt.mk' _ _ _ HE.out.2.2, FR.out⟩

theorem flush_no {n : Nat} {D : List Drt} (h : rightB n D = false) (a m : Int) : flushE n D a m = 1 := by simp [flushE, h]
theorem lose_no {n : Nat} {D : List Drt} (h : rightB n D = false) : loseE n D = 1 := by simp [loseE, h]
set_option maxRecDepth 20000 in
set_option maxHeartbeats 1000000 in
theorem ssync_x {v : Value} {n : Nat} {F : List UInt8} {D : List Drt} {p r l : Bool} (w : World) (h : Slt w v n F D p r l) (hn : n ≤ 100) (hD : D.length ≤ 100) :
    Calls Try.prog 22 #[v] w fun e w' => ∃ v', e = .returned v' ∧ Later w w' ∧ Slt w' v' n (syncF n F D) (syncD n D) p r l ∧ Fresh w.heap.size v' := by
  have HDl := hide hD
  clear hD
  have HS := hide h
  obtain ⟨ab, cb, aD, k, cD, rfl, hm⟩ := h
  have HM := hide hm
  clear hm
  have BX : Hid (Box ((w.alloc (.cells #[.slice ab n cb, .slice aD k cD, .bool p, .bool r, .bool l] 27)).alloc (.cells #[.slice none 0 0, .slice none 0 0, .bool false, .bool false, .bool false] 27)) w.heap.size 27 (tc (.slice ab n cb) (.slice aD k cD) p r l)) := (Box.new w 27 #[.slice ab n cb, .slice aD k cD, .bool p, .bool r, .bool l]).alloc _
  have BR : Hid (Box ((w.alloc (.cells #[.slice ab n cb, .slice aD k cD, .bool p, .bool r, .bool l] 27)).alloc (.cells #[.slice none 0 0, .slice none 0 0, .bool false, .bool false, .bool false] 27)) (w.heap.size + 1) 27 (tc (.slice none 0 0) (.slice none 0 0) false false false)) := Box.new' _ _ _ _ rfl _ (by simp)
  have L := hide (((Later.refl w).alloc (.cells #[.slice ab n cb, .slice aD k cD, .bool p, .bool r, .bool l] 27)).alloc (.cells #[.slice none 0 0, .slice none 0 0, .bool false, .bool false, .bool false] 27))
  go_enter Try.func22, Try.ntmps22
  go_wp2_with fail
  generalize ((w.alloc (.cells #[.slice ab n cb, .slice aD k cD, .bool p, .bool r, .bool l] 27)).alloc (.cells #[.slice none 0 0, .slice none 0 0, .bool false, .bool false, .bool false] 27)) = w1 at *
  refine (cflush3_x _ n F D 0 0 w1 (HM.out.later L.out) (by omega) (by omega) (by omega) (by omega)).mono ?_
  rintro e w2 ⟨v2, rfl, hl, h2, ho2⟩
  have hO2 : Hid (∀ g, g < w.heap.size → OffM g v2) := fun g hg => ho2 g (by have := L.out.size; omega)
  replace BX := hide (BX.out.later hl)
  replace BR := hide (BR.out.later hl)
  replace L := hide (L.out.later hl)
  have M := hide h2
  obtain ⟨a3, c3, a6, k6, c6, rfl, _, _, _⟩ := h2.shape
  clear hl h2 ho2
  cases hR : rightB n D with
  | true =>
    have hF : Hid (syncF n F D = app F D ∧ syncD n D = []) := by simp [Hid, syncF, syncD, hR]
    obtain ⟨hE, hN, hFF, hDD⟩ := flush0 (F := F) hR HM.out.flat.2
    rw [hE]
    rw [hN, hFF, hDD] at M
    generalize flushN n D 0 0 = nn at *
    have hN' := hN.symm
    subst hN'
    clear hE hN hFF hDD
    go_wp2_with (refine wpList_newM rfl rfl rfl 3 rfl (by simp) (.tmp 9) (by simp) rfl a3 a6 _ c3 k6 c6 rfl ?_)
    intro g3 w3 hB hl hg
    replace BX := hide (BX.out.later hl)
    replace BR := hide (BR.out.later hl)
    replace L := hide (L.out.later hl)
    replace M := hide (M.out.later hl)
    have B3 := hide hB
    clear hl hB hg
    have d0 := BX.out.cell 0
    have d1 := BX.out.cell 1
    have d2 := BX.out.cell 2
    have d3 := BX.out.cell 3
    have d4 := BX.out.cell 4
    have e0 := B3.out.cell 0
    have e1 := B3.out.cell 1
    go_wp2_with fail
    refine (swith_yes (n := n) (F := F) (D := D) w3 (HS.out.later L.out) M.out).mono ?_
    rintro e w4 ⟨v4, rfl, hl, h4, ho4⟩
    have FR : Hid (Fresh w.heap.size v4) := fun g hg => ho4 g (hO2.out g hg)
    clear M d0 d1 d2 d3 d4 e0 e1
    replace BR := hide (BR.out.later hl)
    replace L := hide (L.out.later hl)
    obtain ⟨b3, f3, b6, j6, f6, rfl, hm4⟩ := h4
    have M := hide hm4
    clear hl hm4 ho4 hO2 BX B3
    have HE := hide (slot_set (p := p) (r := r) (l := l) (by omega) BR.out (tc_noints _ _ _ _ _ _ _ _ _) rfl L.out M.out)
    go_wp2_with (refine wpList_storeT rfl 27 (.tmp 2) (.tmp 14) rfl (w.heap.size + 1) 0 rfl (tc (.slice b3 n f3) (.slice b6 j6 f6) p r l) rfl Try.info_slot (tc_one _ _ _ _ _ _ _ _ _) _ _ BR.out (by simp) ?_)
    intro wz hwz
    rw [← hwz.out] at HE
    clear hwz BR L M
    go_wp2
    refine bodyPost_ret (results_cell1 rfl _ _ _ (w.heap.size + 1) 0 rfl (.agg #[.slice b3 n f3, .slice b6 j6 f6, .bool p, .bool r, .bool l]) (shut5 HE.out.1 rfl)) rfl ⟨_, rfl, HE.out.2.1, ?_, FR.out⟩
    rw [hF.out.1, hF.out.2]
    exact Slt.mk' _ _ _ HE.out.2.2
  | false =>
    have hF : Hid (syncF n F D = F ∧ syncD n D = D) := by simp [Hid, syncF, syncD, hR]
    rw [flush_no hR]
    generalize flushN n D 0 0 = nn at *
    go_wp2_with (refine wpList_newM rfl rfl rfl 3 rfl (by simp) (.tmp 9) (by simp) rfl a3 a6 _ c3 k6 c6 rfl ?_)
    intro g3 w3 hB hl hg
    replace BX := hide (BX.out.later hl)
    replace BR := hide (BR.out.later hl)
    replace L := hide (L.out.later hl)
    replace M := hide (M.out.later hl)
    have B3 := hide hB
    clear hl hB hg
    have d0 := BX.out.cell 0
    have d1 := BX.out.cell 1
    have d2 := BX.out.cell 2
    have d3 := BX.out.cell 3
    have d4 := BX.out.cell 4
    have e0 := B3.out.cell 0
    have e1 := B3.out.cell 1
    go_wp2_with fail
    refine (swith_no (n := n) (F := F) (D := D) 1 w3 (HS.out.later L.out) M.out (by omega) hn HDl.out).mono ?_
    rintro e w4 ⟨v4, rfl, hl, h4, hf4⟩
    have FR : Hid (Fresh w.heap.size v4) := hf4.mono L.out.size
    clear M d0 d1 d2 d3 d4 e0 e1
    replace BR := hide (BR.out.later hl)
    replace L := hide (L.out.later hl)
    obtain ⟨b3, f3, b6, j6, f6, rfl, hm4⟩ := h4
    have M := hide hm4
    clear hl hm4 hf4 hO2 BX B3
    have HE := hide (slot_set (p := p) (r := r) (l := l) (by omega) BR.out (tc_noints _ _ _ _ _ _ _ _ _) rfl L.out M.out)
    go_wp2_with (refine wpList_storeT rfl 27 (.tmp 2) (.tmp 14) rfl (w.heap.size + 1) 0 rfl (tc (.slice b3 n f3) (.slice b6 j6 f6) p r l) rfl Try.info_slot (tc_one _ _ _ _ _ _ _ _ _) _ _ BR.out (by simp) ?_)
    intro wz hwz
    rw [← hwz.out] at HE
    clear hwz BR L M
    go_wp2
    refine bodyPost_ret (results_cell1 rfl _ _ _ (w.heap.size + 1) 0 rfl (.agg #[.slice b3 n f3, .slice b6 j6 f6, .bool p, .bool r, .bool l]) (shut5 HE.out.1 rfl)) rfl ⟨_, rfl, HE.out.2.1, ?_, FR.out⟩
    rw [hF.out.1, hF.out.2]
    exact Slt.mk' _ _ _ HE.out.2.2
theorem ssync_c : ISyncT := fun v n F D p r l w h hn hD => (ssync_x w h hn hD).mono fun e w' ⟨v', h1, h2, h3, _⟩ => ⟨v', h1, h2, h3⟩
end Go.Proofs.Ytkbpecbpfajkfaa

namespace Go.Proofs.Ytkbpecbpfajkfaa
open Go.ChangeShapes Go.WideShapes Go.ChangeAt Go.RowKit
set_option linter.unusedVariables false
set_option linter.unusedSimpArgs false

/-! The landed slot: Insert, Switch, Power. -/
theorem box_bool {w : World} {g : Nat} {a b : Value} {p r l : Bool} (h : Box w g 27 (tc a b p r l)) :
    (∀ x, Box (w.setCells g 2 [.bool x]) g 27 (tc a b x r l)) ∧ (∀ x, Box (w.setCells g 3 [.bool x]) g 27 (tc a b p x l)) ∧ (∀ x, Box (w.setCells g 4 [.bool x]) g 27 (tc a b p r x)) :=
  ⟨fun x => h.setCells [.bool x] 2 (by simp), fun x => h.setCells [.bool x] 3 (by simp), fun x => h.setCells [.bool x] 4 (by simp)⟩
theorem Try.info_bool : (Try.prog.info? 4).map (·.size) = some 1 := by kernel_rfl
set_option maxRecDepth 20000 in
set_option maxHeartbeats 1000000 in
theorem sinsert_c : IInsertT := by
  intro v n F D p r l w h hn hD
  have HDl := hide hD
  clear hD
  have HS := hide h
  obtain ⟨ab, cb, aD, k, cD, rfl, hm⟩ := h
  have HM := hide hm
  clear hm
  have BX : Hid (Box ((w.alloc (.cells #[.slice ab n cb, .slice aD k cD, .bool p, .bool r, .bool l] 27)).alloc (.cells #[.slice none 0 0, .slice none 0 0, .bool false, .bool false, .bool false] 27)) w.heap.size 27 (tc (.slice ab n cb) (.slice aD k cD) p r l)) := (Box.new w 27 #[.slice ab n cb, .slice aD k cD, .bool p, .bool r, .bool l]).alloc _
  have BR : Hid (Box ((w.alloc (.cells #[.slice ab n cb, .slice aD k cD, .bool p, .bool r, .bool l] 27)).alloc (.cells #[.slice none 0 0, .slice none 0 0, .bool false, .bool false, .bool false] 27)) (w.heap.size + 1) 27 (tc (.slice none 0 0) (.slice none 0 0) false false false)) := Box.new' _ _ _ _ rfl _ (by simp)
  have L := hide (((Later.refl w).alloc (.cells #[.slice ab n cb, .slice aD k cD, .bool p, .bool r, .bool l] 27)).alloc (.cells #[.slice none 0 0, .slice none 0 0, .bool false, .bool false, .bool false] 27))
  go_enter Try.func11, Try.ntmps11
  go_wp2_with fail
  generalize ((w.alloc (.cells #[.slice ab n cb, .slice aD k cD, .bool p, .bool r, .bool l] 27)).alloc (.cells #[.slice none 0 0, .slice none 0 0, .bool false, .bool false, .bool false] 27)) = w1 at *
  refine (sown_c w1 (HS.out.later L.out) hn HDl.out).mono ?_
  rintro e w2 ⟨v2, rfl, hl, h2, hf⟩
  replace BX := hide (BX.out.later hl)
  replace BR := hide (BR.out.later hl)
  replace L := hide (L.out.later hl)
  obtain ⟨a3, c3, a6, k6, c6, rfl, hm2⟩ := h2
  have M := hide hm2
  clear hl hm2 hf
  go_wp2_with (refine wpList_newT rfl rfl rfl 4 rfl (by simp) (.tmp 6) (by simp) rfl a3 a6 n c3 k6 c6 p r l rfl ?_)
  intro g4 w3 hB hl hg
  have hne : Hid (w.heap.size ≠ g4 ∧ w.heap.size + 1 ≠ g4 ∧ w.heap.size ≤ g4) := by
    have h1 := BX.out.lt
    have h2 := BR.out.lt
    have h3 := hg.out.1
    exact ⟨by omega, by omega, by omega⟩
  replace BX := hide (BX.out.later hl)
  replace BR := hide (BR.out.later hl)
  replace L := hide (L.out.later hl)
  replace M := hide (M.out.later hl)
  have B4 := hide hB
  clear hl hB hg
  go_wp2_with (refine wpList_storeC rfl 4 (.tmp 7) (.const (.bool true)) rfl g4 2 rfl true rfl Try.info_bool _ _ B4.out (by simp) ?_)
  intro w4 hw4
  have B5 := hide ((box_bool B4.out).1 true)
  have BX5 := hide (BX.out.kept (heap_setCells_other w3 g4 w.heap.size hne.out.1 [.bool true] 2))
  have BR5 := hide (BR.out.kept (heap_setCells_other w3 g4 (w.heap.size + 1) hne.out.2.1 [.bool true] 2))
  have L5 := hide (L.out.setCells (g := g4) hne.out.2.2 [.bool true] 2)
  have M5 := hide (M.out.setBox B4.out (tc_noints _ _ _ _ _ _ _ _ _) [.bool true] 2)
  rw [← hw4.out] at B5 BX5 BR5 L5 M5
  clear B4 BX BR L M hw4
  have hDr := hide (Later.refl w4).drew
  go_wp2_with fail
  refine wp_region_bag [0] [1, 2, 3, 4, 5] [4] (by kernel_rfl) (by kernel_rfl) (by kernel_rfl) (by kernel_rfl) ?_
  have hc := fun r => (hDr.out.trans (later_rg _ r))
  have q0 := fun r => (B5.out.later (hc r)).cell 0
  have q1 := fun r => (B5.out.later (hc r)).cell 1
  have q2 := fun r => (B5.out.later (hc r)).cell 2
  have q3 := fun r => (B5.out.later (hc r)).cell 3
  have q4 := fun r => (B5.out.later (hc r)).cell 4
  refine wpM_mild rfl (fun K hK => ?_)
  go_simp
  refine hK _ ?_
  clear hK K q0 q1 q2 q3 q4 hc
  have hwd := hDr.out
  refine wpM_nil (bag_of (fun i => match i with | 2 => [1] | 3 => [1, 2] | 5 => [1, 2, 3, 4] | _ => [])
    (fun W => Later w W ∧ Box W w.heap.size 27 (tc (.slice ab n cb) (.slice aD k cD) p r l) ∧ Med W (.agg #[.slice a3 n c3, .slice a6 k6 c6]) n F D ∧ (∃ cr, NoInts cr ∧ cr.length = 5 ∧ Box W (w.heap.size + 1) 27 cr))
    (fun i vals W => match i with
      | 1 => vals 1 = .pointer (some ⟨w.heap.size, 2, none⟩)
      | 2 => vals 2 = .bool p
      | 3 => vals 3 = .bool (!p)
      | 4 => Box W (w.heap.size + 1) 27 (tc (.slice a3 n c3) (.slice a6 k6 c6) true r l)
      | 5 => vals 5 = .bool (!p)
      | _ => True) (by kernel_rfl) (by kernel_rfl) ?c1 ?c2 ?c3 ?c4 ?c5 ?c6 ?c7 ?c8)
  case c1 => exact ⟨L5.out.trans hwd, BX5.out.later hwd, M5.out.later hwd, _, tc_noints _ _ _ _ _ _ _ _ _, rfl, BR5.out.later hwd⟩
  case c2 =>
    rintro W W' hl ⟨ii1, ii2, ii3, cr, jj1, jj2, jj3⟩
    exact ⟨ii1.trans hl, ii2.later hl, ii3.later hl, cr, jj1, jj2, jj3.later hl⟩
  case c3 =>
    intro i hi vals W W' hl h
    simp only [List.mem_cons, List.not_mem_nil, or_false] at hi
    rcases hi with rfl | rfl | rfl | rfl | rfl
    · exact h
    · exact h
    · exact h
    · exact Box.later h hl
    · exact h
  case c4 =>
    intro i hi k hk hne hds vals v W h
    simp only [List.mem_cons, List.not_mem_nil, or_false] at hi hk
    rcases hi with rfl | rfl | rfl | rfl | rfl <;> rcases hk with rfl | rfl | rfl | rfl | rfl <;> first | (exact absurd rfl hne) | (simp at hds; done) | (simpa [upd] using h)
  case c5 =>
    rintro i hi hni vals W ⟨ii1, ii2, ii3, ii4⟩ hlb hdep
    simp only [List.mem_cons, List.not_mem_nil, or_false] at hi
    rcases hi with rfl | rfl | rfl | rfl | rfl
    · refine lVal_step rfl (fun K hK => ?_)
      simp only [putAll, List.foldl]
      go_simp
      exact ⟨Later.refl _, hK _ _ (by simp [upd])⟩
    · have h1 : vals 1 = .pointer (some ⟨w.heap.size, 2, none⟩) := hdep 1 (by simp)
      have y2 := ii2.cell 2
      refine lVal_step rfl (fun K hK => ?_)
      simp only [putAll, List.foldl, dstOf, h1]
      go_simp
      exact ⟨Later.refl _, hK _ _ (by simp [upd])⟩
    · have h1 : vals 1 = .pointer (some ⟨w.heap.size, 2, none⟩) := hdep 1 (by simp)
      have h2 : vals 2 = .bool p := hdep 2 (by simp)
      refine lVal_step rfl (fun K hK => ?_)
      simp only [putAll, List.foldl, dstOf, h1, h2]
      go_simp
      exact ⟨Later.refl _, hK _ _ (by simp [upd])⟩
    · exact absurd (by simp) hni
    · have h1 : vals 1 = .pointer (some ⟨w.heap.size, 2, none⟩) := hdep 1 (by simp)
      have h2 : vals 2 = .bool p := hdep 2 (by simp)
      have h3 : vals 3 = .bool (!p) := hdep 3 (by simp)
      refine lVal_step rfl (fun K hK => ?_)
      simp only [putAll, List.foldl, dstOf, h1, h2, h3]
      go_simp
      exact ⟨Later.refl _, hK _ _ (by simp [upd])⟩
  case c6 =>
    rintro i hi hni vals W ⟨ii1, ii2, ii3, cr, jj1, jj2, jj3⟩ hlb hdep
    simp only [List.mem_cons, List.not_mem_nil, or_false] at hni
    subst hni
    refine sVal_store rfl rfl 27 (.tmp 2) (.tmp 8) rfl (w.heap.size + 1) (tc (.slice a3 n c3) (.slice a6 k6 c6) true r l) rfl rfl (jj3.there 0 5 (by omega)) Try.info_slot (tc_one _ _ _ _ _ _ _ _ _) (fun u => ⟨⟨ii1.setCells (by omega) _ 0, ii2.kept (heap_setCells_other W _ _ (by omega) _ _), ii3.setBox jj3 jj1 _ 0, _, tc_noints _ _ _ _ _ _ _ _ _, rfl, jj3.all _ (by simp [jj2])⟩, ?_, fun k hk => by cases hk⟩)
    exact jj3.all _ (by simp [jj2])
  case c7 =>
    intro i hi hst k hk hne hds hds' vals W W' h
    simp only [List.mem_cons, List.not_mem_nil, or_false] at hst hk
    subst hst
    rcases hk with rfl | rfl | rfl | rfl | rfl <;> first | (exact absurd rfl hne) | (exact h) | (simp at hds; done) | (simp at hds'; done)
  case c8 =>
    rintro vals wz ⟨ii1, ii2, ii3, ii4⟩ hall
    have h1 : vals 1 = .pointer (some ⟨w.heap.size, 2, none⟩) := hall 1 (by simp)
    have h2 : vals 2 = .bool p := hall 2 (by simp)
    have h3 : vals 3 = .bool (!p) := hall 3 (by simp)
    have T4 : Hid (Box wz (w.heap.size + 1) 27 (tc (.slice a3 n c3) (.slice a6 k6 c6) true r l)) := hall 4 (by simp)
    have h5 : vals 5 = .bool (!p) := hall 5 (by simp)
    have TL := hide ii1
    have TM := hide ii3
    clear ii1 ii2 ii3 ii4 hall B5 BX5 BR5 L5 M5 hDr hwd
    simp only [putAll, List.foldl, dstOf, h1, h2, h3, h5]
    go_wp2
    exact bodyPost_ret (results_cell_tmp rfl _ _ _ (w.heap.size + 1) 0 rfl (.agg #[.slice a3 n c3, .slice a6 k6 c6, .bool true, .bool r, .bool l]) (.bool (!p)) (shut5 T4.out rfl) rfl) rfl ⟨_, rfl, TL.out, Slt.mk' _ _ _ TM.out⟩
end Go.Proofs.Ytkbpecbpfajkfaa

namespace Go.Proofs.Ytkbpecbpfajkfaa
open Go.ChangeShapes Go.WideShapes Go.ChangeAt Go.RowKit
set_option linter.unusedVariables false
set_option linter.unusedSimpArgs false

/-! The landed slot: Switch, Power. -/
set_option maxRecDepth 20000 in
set_option maxHeartbeats 1000000 in
theorem sswitch_c : ISwitchT := by
  intro v n F D p r l on w h hn hD
  have HDl := hide hD
  clear hD
  have HS := hide h
  obtain ⟨ab, cb, aD, k, cD, rfl, hm⟩ := h
  have HM := hide hm
  clear hm
  have BX : Hid (Box ((w.alloc (.cells #[.slice ab n cb, .slice aD k cD, .bool p, .bool r, .bool l] 27)).alloc (.cells #[.slice none 0 0, .slice none 0 0, .bool false, .bool false, .bool false] 27)) w.heap.size 27 (tc (.slice ab n cb) (.slice aD k cD) p r l)) := (Box.new w 27 #[.slice ab n cb, .slice aD k cD, .bool p, .bool r, .bool l]).alloc _
  have BR : Hid (Box ((w.alloc (.cells #[.slice ab n cb, .slice aD k cD, .bool p, .bool r, .bool l] 27)).alloc (.cells #[.slice none 0 0, .slice none 0 0, .bool false, .bool false, .bool false] 27)) (w.heap.size + 1) 27 (tc (.slice none 0 0) (.slice none 0 0) false false false)) := Box.new' _ _ _ _ rfl _ (by simp)
  have L := hide (((Later.refl w).alloc (.cells #[.slice ab n cb, .slice aD k cD, .bool p, .bool r, .bool l] 27)).alloc (.cells #[.slice none 0 0, .slice none 0 0, .bool false, .bool false, .bool false] 27))
  go_enter Try.func20, Try.ntmps20
  go_wp2_with fail
  generalize ((w.alloc (.cells #[.slice ab n cb, .slice aD k cD, .bool p, .bool r, .bool l] 27)).alloc (.cells #[.slice none 0 0, .slice none 0 0, .bool false, .bool false, .bool false] 27)) = w1 at *
  refine (sown_c w1 (HS.out.later L.out) hn HDl.out).mono ?_
  rintro e w2 ⟨v2, rfl, hl, h2, hf⟩
  replace BX := hide (BX.out.later hl)
  replace BR := hide (BR.out.later hl)
  replace L := hide (L.out.later hl)
  obtain ⟨a3, c3, a6, k6, c6, rfl, hm2⟩ := h2
  have M := hide hm2
  clear hl hm2 hf
  go_wp2_with (refine wpList_newT rfl rfl rfl 5 rfl (by simp) (.tmp 7) (by simp) rfl a3 a6 n c3 k6 c6 p r l rfl ?_)
  intro g4 w3 hB hl hg
  have hne : Hid (w.heap.size ≠ g4 ∧ w.heap.size + 1 ≠ g4 ∧ w.heap.size ≤ g4) := by
    have h1 := BX.out.lt
    have h2 := BR.out.lt
    have h3 := hg.out.1
    exact ⟨by omega, by omega, by omega⟩
  replace BX := hide (BX.out.later hl)
  replace BR := hide (BR.out.later hl)
  replace L := hide (L.out.later hl)
  replace M := hide (M.out.later hl)
  have B4 := hide hB
  clear hl hB hg
  have d0 := BX.out.cell 0
  have d1 := BX.out.cell 1
  have d2 := BX.out.cell 2
  have d3 := BX.out.cell 3
  have d4 := BX.out.cell 4
  cases ho : (on && !r) with
  | true =>
    obtain ⟨rfl, rfl⟩ : on = true ∧ r = false := by simpa using ho
    clear ho
    have hF : Hid (swF true false n F D = syncF n F D ∧ swD true false n D = syncD n D) := by simp [Hid, swF, swD]
    go_wp2_with fail
    refine (ssync_x w3 (HS.out.later L.out) hn HDl.out).mono ?_
    rintro e w4 ⟨v4, rfl, hl, h4, hf⟩
    clear M
    replace BR := hide (BR.out.later hl)
    replace L := hide (L.out.later hl)
    replace B4 := hide (B4.out.later hl)
    obtain ⟨b3, f3, b6, j6, f6, rfl, hm4⟩ := h4
    have M := hide hm4
    clear hl hm4 hf BX d0 d1 d2 d3 d4
    go_wp2_with (refine wpList_storeT rfl 27 (.tmp 5) (.tmp 15) rfl g4 0 rfl (tc (.slice b3 n f3) (.slice b6 j6 f6) p false l) rfl Try.info_slot (tc_one _ _ _ _ _ _ _ _ _) _ _ B4.out (by simp) ?_)
    intro w5 hw5
    have B5 := hide (B4.out.all (tc (.slice b3 n f3) (.slice b6 j6 f6) p false l) rfl)
    have BR5 := hide (BR.out.kept (heap_setCells_other w4 g4 (w.heap.size + 1) hne.out.2.1 (tc (.slice b3 n f3) (.slice b6 j6 f6) p false l) 0))
    have L5 := hide (L.out.setCells (g := g4) hne.out.2.2 (tc (.slice b3 n f3) (.slice b6 j6 f6) p false l) 0)
    have M5 := hide (M.out.setBox B4.out (tc_noints _ _ _ _ _ _ _ _ _) (tc (.slice b3 n f3) (.slice b6 j6 f6) p false l) 0)
    rw [← hw5.out] at B5 BR5 L5 M5
    clear B4 BR L M hw5
    have B4 := B5
    have BR := BR5
    have L := L5
    have M := M5
    clear B5 BR5 L5 M5
    go_wp2_with (refine wpList_storeC rfl 4 (.tmp 17) (.tmp 16) rfl g4 3 rfl true rfl Try.info_bool _ _ B4.out (by simp) ?_)
    intro w6 hw4
    have B5 := hide ((box_bool B4.out).2.1 true)
    have BR5 := hide (BR.out.kept (heap_setCells_other w5 g4 (w.heap.size + 1) hne.out.2.1 [.bool true] 3))
    have L5 := hide (L.out.setCells (g := g4) hne.out.2.2 [.bool true] 3)
    have M5 := hide (M.out.setBox B4.out (tc_noints _ _ _ _ _ _ _ _ _) [.bool true] 3)
    rw [← hw4.out] at B5 BR5 L5 M5
    clear B4 BR L M hw4
    have BR := BR5
    have L := L5
    have M := M5
    clear BR5 L5 M5
    have d0 := B5.out.cell 0
    have d1 := B5.out.cell 1
    have d2 := B5.out.cell 2
    have d3 := B5.out.cell 3
    have d4 := B5.out.cell 4
    have HE := hide (slot_set (p := p) (r := true) (l := l) (by omega) BR.out (tc_noints _ _ _ _ _ _ _ _ _) rfl L.out M.out)
    go_wp2_with (refine wpList_storeT rfl 27 (.tmp 4) (.tmp 18) rfl (w.heap.size + 1) 0 rfl (tc (.slice b3 n f3) (.slice b6 j6 f6) p true l) rfl Try.info_slot (tc_one _ _ _ _ _ _ _ _ _) _ _ BR.out (by simp) ?_)
    intro wz hwz
    rw [← hwz.out] at HE
    clear hwz BR L M
    go_wp2
    refine bodyPost_ret (results_cell1 rfl _ _ _ (w.heap.size + 1) 0 rfl (.agg #[.slice b3 n f3, .slice b6 j6 f6, .bool p, .bool true, .bool l]) (shut5 HE.out.1 rfl)) rfl ⟨_, rfl, HE.out.2.1, ?_⟩
    rw [hF.out.1, hF.out.2]
    exact Slt.mk' _ _ _ HE.out.2.2
  | false =>
    have hF : Hid (swF on r n F D = F ∧ swD on r n D = D) := by simp [Hid, swF, swD, ho]
    cases on with
    | true =>
      obtain rfl : r = true := by simpa using ho
      clear ho
      go_wp2_with (refine wpList_storeC rfl 4 (.tmp 17) (.tmp 16) rfl g4 3 rfl true rfl Try.info_bool _ _ B4.out (by simp) ?_)
      intro w6 hw4
      have B5 := hide ((box_bool B4.out).2.1 true)
      have BR5 := hide (BR.out.kept (heap_setCells_other w3 g4 (w.heap.size + 1) hne.out.2.1 [.bool true] 3))
      have L5 := hide (L.out.setCells (g := g4) hne.out.2.2 [.bool true] 3)
      have M5 := hide (M.out.setBox B4.out (tc_noints _ _ _ _ _ _ _ _ _) [.bool true] 3)
      rw [← hw4.out] at B5 BR5 L5 M5
      clear B4 BR L M hw4
      have BR := BR5
      have L := L5
      have M := M5
      clear BR5 L5 M5
      clear d0 d1 d2 d3 d4
      have d0 := B5.out.cell 0
      have d1 := B5.out.cell 1
      have d2 := B5.out.cell 2
      have d3 := B5.out.cell 3
      have d4 := B5.out.cell 4
      have HE := hide (slot_set (p := p) (r := true) (l := l) (by omega) BR.out (tc_noints _ _ _ _ _ _ _ _ _) rfl L.out M.out)
      go_wp2_with (refine wpList_storeT rfl 27 (.tmp 4) (.tmp 18) rfl (w.heap.size + 1) 0 rfl (tc (.slice a3 n c3) (.slice a6 k6 c6) p true l) rfl Try.info_slot (tc_one _ _ _ _ _ _ _ _ _) _ _ BR.out (by simp) ?_)
      intro wz hwz
      rw [← hwz.out] at HE
      clear hwz BR L M
      go_wp2
      exact bodyPost_ret (results_cell1 rfl _ _ _ (w.heap.size + 1) 0 rfl (.agg #[.slice a3 n c3, .slice a6 k6 c6, .bool p, .bool true, .bool l]) (shut5 HE.out.1 rfl)) rfl ⟨_, rfl, HE.out.2.1, by rw [hF.out.1, hF.out.2]; exact Slt.mk' _ _ _ HE.out.2.2⟩
    | false =>
      clear ho
      go_wp2_with (refine wpList_storeC rfl 4 (.tmp 17) (.tmp 16) rfl g4 3 rfl false rfl Try.info_bool _ _ B4.out (by simp) ?_)
      intro w6 hw4
      have B5 := hide ((box_bool B4.out).2.1 false)
      have BR5 := hide (BR.out.kept (heap_setCells_other w3 g4 (w.heap.size + 1) hne.out.2.1 [.bool false] 3))
      have L5 := hide (L.out.setCells (g := g4) hne.out.2.2 [.bool false] 3)
      have M5 := hide (M.out.setBox B4.out (tc_noints _ _ _ _ _ _ _ _ _) [.bool false] 3)
      rw [← hw4.out] at B5 BR5 L5 M5
      clear B4 BR L M hw4
      have BR := BR5
      have L := L5
      have M := M5
      clear BR5 L5 M5
      clear d0 d1 d2 d3 d4
      have d0 := B5.out.cell 0
      have d1 := B5.out.cell 1
      have d2 := B5.out.cell 2
      have d3 := B5.out.cell 3
      have d4 := B5.out.cell 4
      have HE := hide (slot_set (p := p) (r := false) (l := l) (by omega) BR.out (tc_noints _ _ _ _ _ _ _ _ _) rfl L.out M.out)
      go_wp2_with (refine wpList_storeT rfl 27 (.tmp 4) (.tmp 18) rfl (w.heap.size + 1) 0 rfl (tc (.slice a3 n c3) (.slice a6 k6 c6) p false l) rfl Try.info_slot (tc_one _ _ _ _ _ _ _ _ _) _ _ BR.out (by simp) ?_)
      intro wz hwz
      rw [← hwz.out] at HE
      clear hwz BR L M
      go_wp2
      exact bodyPost_ret (results_cell1 rfl _ _ _ (w.heap.size + 1) 0 rfl (.agg #[.slice a3 n c3, .slice a6 k6 c6, .bool p, .bool false, .bool l]) (shut5 HE.out.1 rfl)) rfl ⟨_, rfl, HE.out.2.1, by rw [hF.out.1, hF.out.2]; exact Slt.mk' _ _ _ HE.out.2.2⟩

set_option maxRecDepth 20000 in
set_option maxHeartbeats 1000000 in
theorem spower_c : IPowerT := by
  intro v n F D p r l mask w h hmk hn hD
  have HDl := hide hD
  clear hD
  have HS := hide h
  obtain ⟨ab, cb, aD, k, cD, rfl, hm⟩ := h
  have HM := hide hm
  clear hm
  have BX : Hid (Box ((w.alloc (.cells #[.slice ab n cb, .slice aD k cD, .bool p, .bool r, .bool l] 27)).alloc (.cells #[.slice none 0 0, .slice none 0 0, .bool false, .bool false, .bool false] 27)) w.heap.size 27 (tc (.slice ab n cb) (.slice aD k cD) p r l)) := (Box.new w 27 #[.slice ab n cb, .slice aD k cD, .bool p, .bool r, .bool l]).alloc _
  have BR : Hid (Box ((w.alloc (.cells #[.slice ab n cb, .slice aD k cD, .bool p, .bool r, .bool l] 27)).alloc (.cells #[.slice none 0 0, .slice none 0 0, .bool false, .bool false, .bool false] 27)) (w.heap.size + 1) 27 (tc (.slice none 0 0) (.slice none 0 0) false false false)) := Box.new' _ _ _ _ rfl _ (by simp)
  have L := hide (((Later.refl w).alloc (.cells #[.slice ab n cb, .slice aD k cD, .bool p, .bool r, .bool l] 27)).alloc (.cells #[.slice none 0 0, .slice none 0 0, .bool false, .bool false, .bool false] 27))
  go_enter Try.func24, Try.ntmps24
  go_wp2_with fail
  generalize ((w.alloc (.cells #[.slice ab n cb, .slice aD k cD, .bool p, .bool r, .bool l] 27)).alloc (.cells #[.slice none 0 0, .slice none 0 0, .bool false, .bool false, .bool false] 27)) = w1 at *
  refine (close3_c _ n F D mask w1 (HM.out.later L.out) hmk).mono ?_
  rintro e w2 ⟨v2, rfl, hl, h2⟩
  replace BX := hide (BX.out.later hl)
  replace BR := hide (BR.out.later hl)
  replace L := hide (L.out.later hl)
  have M := hide h2
  obtain ⟨a3, c3, a6, k6, c6, rfl, _, _, _⟩ := h2.shape
  clear hl h2
  cases hR : rightB n D with
  | true =>
    have hF : Hid (pwF n F D mask = app F (pickM D mask) ∧ pwD n D = []) := by simp [Hid, pwF, pwD, hR]
    have hE : loseE n D = 0 := by simp [loseE, hR]
    have hN : loseN n D = n := by simp [loseN, hR]
    have hL : loseF n F D mask = app F (pickM D mask) := by simp [loseF, hR]
    rw [hE]
    rw [hN, hL] at M
    generalize loseN n D = nn at *
    have hN' := hN.symm
    subst hN'
    clear hE hN hL
    go_wp2_with (refine wpList_newM rfl rfl rfl 5 rfl (by simp) (.tmp 13) (by simp) rfl a3 a6 _ c3 k6 c6 rfl ?_)
    intro g3 w3 hB hl hg
    replace BX := hide (BX.out.later hl)
    replace BR := hide (BR.out.later hl)
    replace L := hide (L.out.later hl)
    replace M := hide (M.out.later hl)
    have B3 := hide hB
    clear hl hB hg
    have d0 := BX.out.cell 0
    have d1 := BX.out.cell 1
    have d2 := BX.out.cell 2
    have d3 := BX.out.cell 3
    have d4 := BX.out.cell 4
    have e0 := B3.out.cell 0
    have e1 := B3.out.cell 1
    go_wp2_with fail
    refine (swith_yes (n := n) (F := F) (D := D) w3 (HS.out.later L.out) M.out).mono ?_
    rintro e w4 ⟨v4, rfl, hl, h4, _⟩
    clear M d0 d1 d2 d3 d4 e0 e1
    replace BX := hide (BX.out.later hl)
    replace BR := hide (BR.out.later hl)
    replace L := hide (L.out.later hl)
    obtain ⟨b3, f3, b6, j6, f6, rfl, hm4⟩ := h4
    have M := hide hm4
    clear hl hm4 B3
    go_wp2_with (refine wpList_newT rfl rfl rfl 7 rfl (by simp) (.tmp 18) (by simp) rfl b3 b6 n f3 j6 f6 p r l rfl ?_)
    intro g4 w5 hB hl hg
    have hne : Hid (w.heap.size ≠ g4 ∧ w.heap.size + 1 ≠ g4 ∧ w.heap.size ≤ g4) := by
      have h1 := BX.out.lt
      have h2 := BR.out.lt
      have h3 := hg.out.1
      exact ⟨by omega, by omega, by omega⟩
    replace BX := hide (BX.out.later hl)
    replace BR := hide (BR.out.later hl)
    replace L := hide (L.out.later hl)
    replace M := hide (M.out.later hl)
    have B4 := hide hB
    clear hl hB hg
    go_wp2_with (refine wpList_storeC rfl 4 (.tmp 19) (.const (.bool false)) rfl g4 4 rfl false rfl Try.info_bool _ _ B4.out (by simp) ?_)
    intro w6 hw4
    have B5 := hide ((box_bool B4.out).2.2 false)
    have BR5 := hide (BR.out.kept (heap_setCells_other w5 g4 (w.heap.size + 1) hne.out.2.1 [.bool false] 4))
    have L5 := hide (L.out.setCells (g := g4) hne.out.2.2 [.bool false] 4)
    have M5 := hide (M.out.setBox B4.out (tc_noints _ _ _ _ _ _ _ _ _) [.bool false] 4)
    rw [← hw4.out] at B5 BR5 L5 M5
    clear B4 BR L M hw4
    have BR := BR5
    have L := L5
    have M := M5
    clear BR5 L5 M5
    have d0 := B5.out.cell 0
    have d1 := B5.out.cell 1
    have d2 := B5.out.cell 2
    have d3 := B5.out.cell 3
    have d4 := B5.out.cell 4
    have HE := hide (slot_set (p := p) (r := r) (l := false) (by omega) BR.out (tc_noints _ _ _ _ _ _ _ _ _) rfl L.out M.out)
    go_wp2_with (refine wpList_storeT rfl 27 (.tmp 4) (.tmp 20) rfl (w.heap.size + 1) 0 rfl (tc (.slice b3 n f3) (.slice b6 j6 f6) p r false) rfl Try.info_slot (tc_one _ _ _ _ _ _ _ _ _) _ _ BR.out (by simp) ?_)
    intro wz hwz
    rw [← hwz.out] at HE
    clear hwz BR L M
    go_wp2
    refine bodyPost_ret (results_cell1 rfl _ _ _ (w.heap.size + 1) 0 rfl (.agg #[.slice b3 n f3, .slice b6 j6 f6, .bool p, .bool r, .bool false]) (shut5 HE.out.1 rfl)) rfl ⟨_, rfl, HE.out.2.1, ?_⟩
    rw [hF.out.1, hF.out.2]
    exact Slt.mk' _ _ _ HE.out.2.2
  | false =>
    have hF : Hid (pwF n F D mask = F ∧ pwD n D = D) := by simp [Hid, pwF, pwD, hR]
    rw [lose_no hR]
    generalize loseN n D = nn at *
    go_wp2_with (refine wpList_newM rfl rfl rfl 5 rfl (by simp) (.tmp 13) (by simp) rfl a3 a6 _ c3 k6 c6 rfl ?_)
    intro g3 w3 hB hl hg
    replace BX := hide (BX.out.later hl)
    replace BR := hide (BR.out.later hl)
    replace L := hide (L.out.later hl)
    replace M := hide (M.out.later hl)
    have B3 := hide hB
    clear hl hB hg
    have d0 := BX.out.cell 0
    have d1 := BX.out.cell 1
    have d2 := BX.out.cell 2
    have d3 := BX.out.cell 3
    have d4 := BX.out.cell 4
    have e0 := B3.out.cell 0
    have e1 := B3.out.cell 1
    go_wp2_with fail
    refine (swith_no (n := n) (F := F) (D := D) 1 w3 (HS.out.later L.out) M.out (by omega) hn HDl.out).mono ?_
    rintro e w4 ⟨v4, rfl, hl, h4, _⟩
    clear M d0 d1 d2 d3 d4 e0 e1
    replace BX := hide (BX.out.later hl)
    replace BR := hide (BR.out.later hl)
    replace L := hide (L.out.later hl)
    obtain ⟨b3, f3, b6, j6, f6, rfl, hm4⟩ := h4
    have M := hide hm4
    clear hl hm4 B3
    go_wp2_with (refine wpList_newT rfl rfl rfl 7 rfl (by simp) (.tmp 18) (by simp) rfl b3 b6 n f3 j6 f6 p r l rfl ?_)
    intro g4 w5 hB hl hg
    have hne : Hid (w.heap.size ≠ g4 ∧ w.heap.size + 1 ≠ g4 ∧ w.heap.size ≤ g4) := by
      have h1 := BX.out.lt
      have h2 := BR.out.lt
      have h3 := hg.out.1
      exact ⟨by omega, by omega, by omega⟩
    replace BX := hide (BX.out.later hl)
    replace BR := hide (BR.out.later hl)
    replace L := hide (L.out.later hl)
    replace M := hide (M.out.later hl)
    have B4 := hide hB
    clear hl hB hg
    go_wp2_with (refine wpList_storeC rfl 4 (.tmp 19) (.const (.bool false)) rfl g4 4 rfl false rfl Try.info_bool _ _ B4.out (by simp) ?_)
    intro w6 hw4
    have B5 := hide ((box_bool B4.out).2.2 false)
    have BR5 := hide (BR.out.kept (heap_setCells_other w5 g4 (w.heap.size + 1) hne.out.2.1 [.bool false] 4))
    have L5 := hide (L.out.setCells (g := g4) hne.out.2.2 [.bool false] 4)
    have M5 := hide (M.out.setBox B4.out (tc_noints _ _ _ _ _ _ _ _ _) [.bool false] 4)
    rw [← hw4.out] at B5 BR5 L5 M5
    clear B4 BR L M hw4
    have BR := BR5
    have L := L5
    have M := M5
    clear BR5 L5 M5
    have d0 := B5.out.cell 0
    have d1 := B5.out.cell 1
    have d2 := B5.out.cell 2
    have d3 := B5.out.cell 3
    have d4 := B5.out.cell 4
    have HE := hide (slot_set (p := p) (r := r) (l := false) (by omega) BR.out (tc_noints _ _ _ _ _ _ _ _ _) rfl L.out M.out)
    go_wp2_with (refine wpList_storeT rfl 27 (.tmp 4) (.tmp 20) rfl (w.heap.size + 1) 0 rfl (tc (.slice b3 n f3) (.slice b6 j6 f6) p r false) rfl Try.info_slot (tc_one _ _ _ _ _ _ _ _ _) _ _ BR.out (by simp) ?_)
    intro wz hwz
    rw [← hwz.out] at HE
    clear hwz BR L M
    go_wp2
    refine bodyPost_ret (results_cell1 rfl _ _ _ (w.heap.size + 1) 0 rfl (.agg #[.slice b3 n f3, .slice b6 j6 f6, .bool p, .bool r, .bool false]) (shut5 HE.out.1 rfl)) rfl ⟨_, rfl, HE.out.2.1, ?_⟩
    rw [hF.out.1, hF.out.2]
    exact Slt.mk' _ _ _ HE.out.2.2
end Go.Proofs.Ytkbpecbpfajkfaa

namespace Go.Proofs.Ytkbpecbpfajkfaa
open Go.ChangeShapes Go.WideShapes Go.ChangeAt Go.RowKit
set_option linter.unusedVariables false
set_option linter.unusedSimpArgs false

/-! What the landed sense does, said; proved in P4. -/
def IConS (f : FuncId) (s : Sns) : Prop := ∀ w : World, Calls Try.prog f #[] w fun e w' => e = .returned (sval s) ∧ Later w w'
def IGoodS : Prop := ∀ (s : Sns) (w : World), OkS s → Calls Try.prog 42 #[sval s] w fun e w' => e = .returned (.bool (s == (0, 0, 0))) ∧ Later w w'
theorem headS_ok {L : List Sns} (h : ∀ x ∈ L, OkS x) : OkS (headS L) := by
  cases L with
  | nil => exact ⟨by simp [headS], by simp [headS], by simp [headS]⟩
  | cons s M => exact h s (by simp)
theorem tail_ok {L : List Sns} (h : ∀ x ∈ L, OkS x) : ∀ x ∈ L.tail, OkS x := fun x hx => h x (List.mem_of_mem_tail hx)
theorem Sl.shape {w : World} {v : Value} {L : List Sns} (h : Sl w v L) : ∃ a n c, v = .slice a n c ∧ Hid (n = L.length) ∧ n ≤ 9223372036854775807 := by
  obtain ⟨a, c, rfl⟩ := h.1.shape
  have := h.1.2.1
  unfold maxLen at this
  exact ⟨a, _, c, rfl, rfl, by omega⟩
theorem box_sense {w : World} {g : Nat} {t : TypeId} {L : List Sns} (hB : Box w g t (sv L)) (k : Nat) (hk : k < L.length) : w.cell? ⟨g, k * 3, none⟩ = some (.int .i64 L[k].1) ∧ w.cell? ⟨g, k * 3 + 1, none⟩ = some (.int .i64 L[k].2.1) ∧ w.cell? ⟨g, k * 3 + 2, none⟩ = some (.int .i64 L[k].2.2) := by
  have h := sv_at L k hk
  exact ⟨(hB.cell _).trans h.1, (hB.cell _).trans h.2.1, (hB.cell _).trans h.2.2⟩
end Go.Proofs.Ytkbpecbpfajkfaa

namespace Go.Proofs.Ytkbpecbpfajkfaa
open Go.ChangeShapes Go.WideShapes Go.ChangeAt Go.RowKit
set_option linter.unusedVariables false
set_option linter.unusedSimpArgs false

def of16 : List Sns := [(2, 58, 0), (7, 39, 0), (5, 83, 2), (5, 33, 0), (5, 36, 0), (5, 32, 0), (5, 37, 0), (5, 38, 0), (5, 26, 0), (5, 57, 0), (14, 29, 0), (6, 41, 0), (6, 41, 2), (6, 41, 3), (6, 41, 7), (6, 40, 0)]
theorem of16_ok : ∀ s ∈ of16, OkS s := by
  intro s hs
  simp [of16] at hs
  rcases hs with rfl | rfl | rfl | rfl | rfl | rfl | rfl | rfl | rfl | rfl | rfl | rfl | rfl | rfl | rfl | rfl <;> exact ⟨by simp, by simp, by simp⟩
theorem of16_bad : ∀ s ∈ of16, (s == (0, 0, 0)) = false := by decide
end Go.Proofs.Ytkbpecbpfajkfaa
