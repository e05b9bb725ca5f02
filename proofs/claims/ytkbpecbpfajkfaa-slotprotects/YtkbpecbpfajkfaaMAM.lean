import Derived.Test.YtkbpecbpfajkfaaMAL
namespace Go.Proofs.Ytkbpecbpfajkfaa
open Go.ChangeShapes Go.WideShapes Go.ChangeAt Go.RowKit
set_option linter.unusedVariables false
set_option linter.unusedSimpArgs false

/-! The document's answers for slots: Put. -/
theorem box_ne {w : World} {g g' : Nat} {t t' : TypeId} {xs ys : List Value} (h : Box w g t xs) (h' : Box w g' t' ys) (hne : t ≠ t') : g ≠ g' := by
  intro e
  subst e
  unfold Box at h h'
  rw [h] at h'
  simp at h'
  exact hne h'.2
theorem Med.setOff {w : World} {a b : Value} {n : Nat} {F : List UInt8} {D : List Drt} {g : Nat} (h : Med w (.agg #[a, b]) n F D) (h1 : OffS g a) (h2 : OffS g b) (vs : List Value) (o : Nat) : Med (w.setCells g o vs) (.agg #[a, b]) n F D := by
  obtain ⟨vb, vd, e, hb, hd, ho⟩ := h
  simp at e
  obtain ⟨rfl, rfl⟩ := e
  exact ⟨_, _, rfl, hb.setOff h1 vs o, hd.setOff h2 vs o, ho⟩
def putS (n : Nat) (D : List Drt) (p r : Bool) (at_ : Int) : Sns := if at_ < 0 then checkS n D p r 0 1000 true else checkS n D p r at_.toNat 1 true
def ptF (n : Nat) (F : List UInt8) (D : List Drt) (S : Sns) (at_ : Int) (X : List UInt8) (th : Bool) : List UInt8 := if S == (0, 0, 0) then wrF n F D at_ X th else F
def ptD (n : Nat) (D : List Drt) (S : Sns) (at_ : Int) (X : List UInt8) (th : Bool) : List Drt := if S == (0, 0, 0) then wrD n D at_ X th else D
theorem put_neg {n : Nat} {D : List Drt} {p r : Bool} : (checkS n D p r 0 1000 true == (0, 0, 0)) = false := by
  rw [beq_eq_false_iff_ne]
  intro h
  have h1 := (checkS_zero h).2.2
  have h2 := allN_small n D
  simp only [withinB, decide_eq_true_eq] at h1
  omega
theorem put_yes {n : Nat} {D : List Drt} {p r : Bool} {z : Nat} (h : checkS n D p r z 1 true = (0, 0, 0)) : wrE n D (z : Int) = 0 := by
  have h1 := (checkS_zero h).2.2
  cases hR : rightB n D with
  | true =>
    simp only [withinB, decide_eq_true_eq, allN, hR, if_true] at h1
    unfold wrE
    rw [if_pos hR, if_pos (by omega)]
  | false =>
    simp only [withinB, decide_eq_true_eq, allN, hR] at h1
    have h2 := h1.2.1
    simp at h2
set_option maxRecDepth 20000 in
set_option maxHeartbeats 2000000 in
theorem rput5_c {v : Value} {n : Nat} {F : List UInt8} {D : List Drt} {p r l : Bool} (at_ : Int) (X : List UInt8) (th : Bool) (w : World) (h : Slt w v n F D p r l) (hX : X.length = 64) (ha : -9223372036854775808 ≤ at_) (ha' : at_ ≤ 9223372036854775807) :
    Calls Try.prog 33 #[v, .int .i64 at_, .agg (bv X).toArray, .bool th] w fun e w' => ∃ v', e = .returned (.tuple #[v', sval (putS n D p r at_)]) ∧ Later w w' ∧ Slt w' v' n (ptF n F D (putS n D p r at_) at_ X th) (ptD n D (putS n D p r at_) at_ X th) p r l := by
  have HS := hide h
  obtain ⟨ab, cb, aD, k, cD, rfl, hm⟩ := h
  have HM := hide hm
  clear hm
  have HX := hide hX
  clear hX
  go_enter Try.func33, Try.ntmps33
  by_cases hneg : at_ < 0
  · have HP : Hid (putS n D p r at_ = checkS n D p r 0 1000 true) := by unfold Hid putS; rw [if_pos hneg]
    go_wp2_with fail
    refine (rcheck_c 0 1000 true _ (HS.out.later (((((Later.refl w).alloc _).alloc _).alloc _).alloc _)) (by omega)).mono ?_
    rintro e w2 ⟨rfl, hl⟩
    have BX : Hid (Box w2 w.heap.size 27 (tc (.slice ab n cb) (.slice aD k cD) p r l)) := Box.later ((((Box.new w 27 #[.slice ab n cb, .slice aD k cD, .bool p, .bool r, .bool l]).alloc _).alloc _).alloc _) hl
    have BB : Hid (Box w2 (w.heap.size + 1) 50 (bv X)) := Box.later (((Box.new' _ _ _ _ (by simp) _ (by simp)).alloc _).alloc _) hl
    have BR : Hid (Box w2 (w.heap.size + 1 + 1) 27 (tc (.slice none 0 0) (.slice none 0 0) false false false)) := Box.later ((Box.new' _ _ _ _ rfl _ (by simp)).alloc _) hl
    have BS : Hid (Box w2 (w.heap.size + 1 + 1 + 1) 35 (sc (0, 0, 0))) := Box.later (Box.new' _ _ _ _ rfl _ (by simp)) hl
    have L : Hid (Later w w2) := Later.trans (((((Later.refl w).alloc _).alloc _).alloc _).alloc _) hl
    clear hl
    have hno := hide (put_neg (n := n) (D := D) (p := p) (r := r))
    generalize hS : checkS n D p r 0 1000 true = S at *
    have HSv : Hid (putS n D p r at_ = S) := HP.out
    clear hS
    go_wp2_with (refine wpList_newS rfl rfl rfl 10 rfl (by simp) (.tmp 15) (by simp) rfl S rfl ?_)
    intro gW w3 hB hl hg
    have hgW : gW ≠ w.heap.size + 1 + 1 + 1 := by have h1 := BS.out.lt; have h2 := hg.out.1; omega
    replace BX := hide (BX.out.later hl)
    replace BR := hide (BR.out.later hl)
    replace BS := hide (BS.out.later hl)
    replace L := hide (L.out.later hl)
    have BW := hide hB
    clear hB hl hg BB
    have hOff : Hid (OffS (w.heap.size + 1 + 1 + 1) (.slice ab n cb) ∧ OffS (w.heap.size + 1 + 1 + 1) (.slice aD k cD)) := by
      obtain ⟨a, b, p', r', l', e, h1, h2⟩ := HS.out.old (g := w.heap.size + 1 + 1 + 1) (by omega)
      simp at e
      obtain ⟨rfl, rfl, _⟩ := e
      exact ⟨h1, h2⟩
    have M := hide (HM.out.later L.out)
    have hDr := hide (Later.refl w3).drew
    go_wp2_with fail
    refine wp_region_bag [0] [1, 2, 3] [2, 3] (by kernel_rfl) (by kernel_rfl) (by kernel_rfl) (by kernel_rfl) ?_
    have hc := fun r => (hDr.out.trans (later_rg _ r))
    have q0 := fun r => (BX.out.later (hc r)).cell 0
    have q1 := fun r => (BX.out.later (hc r)).cell 1
    have q2 := fun r => (BX.out.later (hc r)).cell 2
    have q3 := fun r => (BX.out.later (hc r)).cell 3
    have q4 := fun r => (BX.out.later (hc r)).cell 4
    refine wpM_mild rfl (fun K hK => ?_)
    go_simp
    refine hK _ ?_
    clear hK K q0 q1 q2 q3 q4 hc
    have hwd := hDr.out
    refine wpM_nil (bag_of (fun i => match i with | 3 => [1, 2] | _ => [])
      (fun W => Later w W ∧ Box W gW 35 (sc S) ∧ Med W (.agg #[(.slice ab n cb), (.slice aD k cD)]) n F D ∧ (∃ cr, NoInts cr ∧ cr.length = 5 ∧ Box W (w.heap.size + 1 + 1) 27 cr) ∧ (∃ cz : List Value, cz.length = 3 ∧ Box W (w.heap.size + 1 + 1 + 1) 35 cz))
      (fun i vals W => match i with
        | 1 => vals 1 = sval S
        | 2 => Box W (w.heap.size + 1 + 1) 27 (tc (.slice ab n cb) (.slice aD k cD) p r l)
        | 3 => Box W (w.heap.size + 1 + 1 + 1) 35 (sc S)
        | _ => True) (by kernel_rfl) (by kernel_rfl) ?c1 ?c2 ?c3 ?c4 ?c5 ?c6 ?c7 ?c8)
    case c1 => exact ⟨L.out.trans hwd, BW.out.later hwd, M.out.later hwd, ⟨_, tc_noints _ _ _ _ _ _ _ _ _, rfl, BR.out.later hwd⟩, _, rfl, BS.out.later hwd⟩
    case c2 =>
      rintro W W' hl ⟨ii1, ii2, ii3, ⟨cr, jj1, jj2, jj3⟩, cz, jj4, jj5⟩
      exact ⟨ii1.trans hl, ii2.later hl, ii3.later hl, ⟨cr, jj1, jj2, jj3.later hl⟩, cz, jj4, jj5.later hl⟩
    case c3 =>
      intro i hi vals W W' hl h
      simp only [List.mem_cons, List.not_mem_nil, or_false] at hi
      rcases hi with rfl | rfl | rfl
      · exact h
      · exact Box.later h hl
      · exact Box.later h hl
    case c4 =>
      intro i hi k hk hne hds vals v W h
      simp only [List.mem_cons, List.not_mem_nil, or_false] at hi hk
      rcases hi with rfl | rfl | rfl <;> rcases hk with rfl | rfl | rfl <;> first | (exact absurd rfl hne) | (simp at hds; done) | (simpa [upd] using h)
    case c5 =>
      rintro i hi hni vals W ⟨ii1, ii2, ii3, ii4, ii5⟩ hlb hdep
      simp only [List.mem_cons, List.not_mem_nil, or_false] at hi
      rcases hi with rfl | rfl | rfl
      · have y0 := ii2.cell 0
        have y1 := ii2.cell 1
        have y2 := ii2.cell 2
        refine lVal_step rfl (fun K hK => ?_)
        simp only [putAll, List.foldl]
        go_simp
        exact ⟨Later.refl _, hK _ _ (by simp [upd])⟩
      · exact absurd (by simp) hni
      · exact absurd (by simp) hni
    case c6 =>
      rintro i hi hni vals W ⟨ii1, ii2, ii3, ⟨cr, jj1, jj2, jj3⟩, cz, jj4, jj5⟩ hlb hdep
      simp only [List.mem_cons, List.not_mem_nil, or_false] at hni
      rcases hni with rfl | rfl
      · refine sVal_store rfl rfl 27 (.tmp 8) (.tmp 16) rfl (w.heap.size + 1 + 1) (tc (.slice ab n cb) (.slice aD k cD) p r l) rfl rfl (jj3.there 0 5 (by omega)) Try.info_slot (tc_one _ _ _ _ _ _ _ _ _) (fun u => ⟨⟨ii1.setCells (by omega) _ 0, ii2.kept (heap_setCells_other W _ _ (box_ne ii2 jj3 (by decide)) _ _), ii3.setBox jj3 jj1 _ 0, ⟨_, tc_noints _ _ _ _ _ _ _ _ _, rfl, jj3.all _ (by simp [jj2])⟩, cz, jj4, jj5.kept (heap_setCells_other W _ _ (by omega) _ _)⟩, ?_, fun k hk => by cases hk⟩)
        exact jj3.all _ (by simp [jj2])
      · have h1 : vals 1 = sval S := hdep 1 (by simp)
        have h2 : Box W (w.heap.size + 1 + 1) 27 (tc (.slice ab n cb) (.slice aD k cD) p r l) := hdep 2 (by simp)
        refine sVal_store rfl rfl 35 (.tmp 9) (.tmp 17) rfl (w.heap.size + 1 + 1 + 1) (sc S) rfl ?_ (jj5.there 0 3 (by omega)) Try.info_sense (sc_one _) (fun u => ⟨⟨ii1.setCells (by omega) _ 0, ii2.kept (heap_setCells_other W _ _ hgW _ _), ii3.setOff hOff.out.1 hOff.out.2 _ 0, ⟨_, tc_noints _ _ _ _ _ _ _ _ _, rfl, h2.kept (heap_setCells_other W _ _ (by omega) _ _)⟩, _, rfl, jj5.all (sc S) (by simp [jj4])⟩, ?_, ?_⟩)
        · exact h1
        · exact jj5.all (sc S) (by simp [jj4])
        · intro k hk
          simp only [List.mem_cons, List.not_mem_nil, or_false] at hk
          rcases hk with rfl | rfl
          · exact h1
          · exact h2.kept (heap_setCells_other W _ _ (by omega) _ _)
    case c7 =>
      intro i hi hst k hk hne hds hds' vals W W' h
      simp only [List.mem_cons, List.not_mem_nil, or_false] at hst hk
      rcases hst with rfl | rfl <;> rcases hk with rfl | rfl | rfl <;> first | (exact absurd rfl hne) | (exact h) | (simp at hds; done) | (simp at hds'; done)
    case c8 =>
      rintro vals wz ⟨ii1, ii2, ii3, ii4, ii5⟩ hall
      have h1 : vals 1 = sval S := hall 1 (by simp)
      have T2 : Hid (Box wz (w.heap.size + 1 + 1) 27 (tc (.slice ab n cb) (.slice aD k cD) p r l)) := hall 2 (by simp)
      have T3 : Hid (Box wz (w.heap.size + 1 + 1 + 1) 35 (sc S)) := hall 3 (by simp)
      have TL := hide ii1
      have TM := hide ii3
      clear ii1 ii2 ii3 ii4 ii5 hall BX BR BS BW L M hOff hDr hwd
      simp only [putAll, List.foldl, dstOf, h1]
      go_wp2
      refine bodyPost_ret (results_cell_cell' rfl _ _ _ (w.heap.size + 1 + 1) 0 (w.heap.size + 1 + 1 + 1) 0 rfl rfl (.agg #[(.slice ab n cb), (.slice aD k cD), .bool p, .bool r, .bool l]) (sval S) (shut5 T2.out rfl) (shut3 T3.out)) rfl ⟨.agg #[(.slice ab n cb), (.slice aD k cD), .bool p, .bool r, .bool l], ?_, TL.out, ?_⟩
      · rw [HSv.out]
      · rw [HSv.out, show ptF n F D S at_ X th = F from by simp only [ptF, hno.out]; rfl, show ptD n D S at_ X th = D from by simp only [ptD, hno.out]; rfl]
        exact Slt.mk' _ _ _ TM.out
  · obtain ⟨z, rfl⟩ := Int.eq_ofNat_of_zero_le (show 0 ≤ at_ by omega)
    have HP : Hid (putS n D p r (z : Int) = checkS n D p r z 1 true) := by unfold Hid putS; rw [if_neg hneg]; rfl
    have hcv : (z : Int) % 18446744073709551616 = (z : Int) := by omega
    go_wp2_with fail
    refine (rcheck_c z 1 true _ (HS.out.later (((((Later.refl w).alloc _).alloc _).alloc _).alloc _)) (by omega)).mono ?_
    rintro e w2 ⟨rfl, hl⟩
    have BX : Hid (Box w2 w.heap.size 27 (tc (.slice ab n cb) (.slice aD k cD) p r l)) := Box.later ((((Box.new w 27 #[.slice ab n cb, .slice aD k cD, .bool p, .bool r, .bool l]).alloc _).alloc _).alloc _) hl
    have BB : Hid (Box w2 (w.heap.size + 1) 50 (bv X)) := Box.later (((Box.new' _ _ _ _ (by simp) _ (by simp)).alloc _).alloc _) hl
    have BR : Hid (Box w2 (w.heap.size + 1 + 1) 27 (tc (.slice none 0 0) (.slice none 0 0) false false false)) := Box.later ((Box.new' _ _ _ _ rfl _ (by simp)).alloc _) hl
    have BS : Hid (Box w2 (w.heap.size + 1 + 1 + 1) 35 (sc (0, 0, 0))) := Box.later (Box.new' _ _ _ _ rfl _ (by simp)) hl
    have L : Hid (Later w w2) := Later.trans (((((Later.refl w).alloc _).alloc _).alloc _).alloc _) hl
    clear hl
    have HY := hide (fun h => put_yes (n := n) (D := D) (p := p) (r := r) (z := z) h)
    generalize hS : checkS n D p r z 1 true = S at *
    have HSv : Hid (putS n D p r (z : Int) = S) := HP.out
    clear hS
    go_wp2_with (refine wpList_newS rfl rfl rfl 11 rfl (by simp) (.tmp 21) (by simp) rfl S rfl ?_)
    intro gW w3 hB hl hg
    have hgW : gW ≠ w.heap.size + 1 + 1 + 1 := by have h1 := BS.out.lt; have h2 := hg.out.1; omega
    replace BX := hide (BX.out.later hl)
    replace BB := hide (BB.out.later hl)
    replace BR := hide (BR.out.later hl)
    replace BS := hide (BS.out.later hl)
    replace L := hide (L.out.later hl)
    have BW := hide hB
    clear hB hl hg
    have e0 := BW.out.cell 0
    have e1 := BW.out.cell 1
    have e2 := BW.out.cell 2
    cases hz : (S == ((0, 0, 0) : Sns)) with
    | false =>
      have hOff : Hid (OffS (w.heap.size + 1 + 1 + 1) (.slice ab n cb) ∧ OffS (w.heap.size + 1 + 1 + 1) (.slice aD k cD)) := by
        obtain ⟨a, b, p', r', l', e, h1, h2⟩ := HS.out.old (g := w.heap.size + 1 + 1 + 1) (by omega)
        simp at e
        obtain ⟨rfl, rfl, _⟩ := e
        exact ⟨h1, h2⟩
      have M := hide (HM.out.later L.out)
      have hDr := hide (Later.refl w3).drew
      go_wp2_with (refine wpList_eqS (by kernel_rfl) (.tmp 22) (.tmp 23) rfl S (0, 0, 0) rfl rfl ?_; rw [hz])
      clear e0 e1 e2 BB
      refine wp_region_bag [0] [1, 2, 3] [2, 3] (by kernel_rfl) (by kernel_rfl) (by kernel_rfl) (by kernel_rfl) ?_
      have hc := fun r => (hDr.out.trans (later_rg _ r))
      have q0 := fun r => (BX.out.later (hc r)).cell 0
      have q1 := fun r => (BX.out.later (hc r)).cell 1
      have q2 := fun r => (BX.out.later (hc r)).cell 2
      have q3 := fun r => (BX.out.later (hc r)).cell 3
      have q4 := fun r => (BX.out.later (hc r)).cell 4
      refine wpM_mild rfl (fun K hK => ?_)
      go_simp
      refine hK _ ?_
      clear hK K q0 q1 q2 q3 q4 hc
      have hwd := hDr.out
      refine wpM_nil (bag_of (fun i => match i with | 3 => [1, 2] | _ => [])
        (fun W => Later w W ∧ Box W gW 35 (sc S) ∧ Med W (.agg #[(.slice ab n cb), (.slice aD k cD)]) n F D ∧ (∃ cr, NoInts cr ∧ cr.length = 5 ∧ Box W (w.heap.size + 1 + 1) 27 cr) ∧ (∃ cz : List Value, cz.length = 3 ∧ Box W (w.heap.size + 1 + 1 + 1) 35 cz))
        (fun i vals W => match i with
          | 1 => vals 1 = sval S
          | 2 => Box W (w.heap.size + 1 + 1) 27 (tc (.slice ab n cb) (.slice aD k cD) p r l)
          | 3 => Box W (w.heap.size + 1 + 1 + 1) 35 (sc S)
          | _ => True) (by kernel_rfl) (by kernel_rfl) ?c1 ?c2 ?c3 ?c4 ?c5 ?c6 ?c7 ?c8)
      case c1 => exact ⟨L.out.trans hwd, BW.out.later hwd, M.out.later hwd, ⟨_, tc_noints _ _ _ _ _ _ _ _ _, rfl, BR.out.later hwd⟩, _, rfl, BS.out.later hwd⟩
      case c2 =>
        rintro W W' hl ⟨ii1, ii2, ii3, ⟨cr, jj1, jj2, jj3⟩, cz, jj4, jj5⟩
        exact ⟨ii1.trans hl, ii2.later hl, ii3.later hl, ⟨cr, jj1, jj2, jj3.later hl⟩, cz, jj4, jj5.later hl⟩
      case c3 =>
        intro i hi vals W W' hl h
        simp only [List.mem_cons, List.not_mem_nil, or_false] at hi
        rcases hi with rfl | rfl | rfl
        · exact h
        · exact Box.later h hl
        · exact Box.later h hl
      case c4 =>
        intro i hi k hk hne hds vals v W h
        simp only [List.mem_cons, List.not_mem_nil, or_false] at hi hk
        rcases hi with rfl | rfl | rfl <;> rcases hk with rfl | rfl | rfl <;> first | (exact absurd rfl hne) | (simp at hds; done) | (simpa [upd] using h)
      case c5 =>
        rintro i hi hni vals W ⟨ii1, ii2, ii3, ii4, ii5⟩ hlb hdep
        simp only [List.mem_cons, List.not_mem_nil, or_false] at hi
        rcases hi with rfl | rfl | rfl
        · have y0 := ii2.cell 0
          have y1 := ii2.cell 1
          have y2 := ii2.cell 2
          refine lVal_step rfl (fun K hK => ?_)
          simp only [putAll, List.foldl]
          go_simp
          exact ⟨Later.refl _, hK _ _ (by simp [upd])⟩
        · exact absurd (by simp) hni
        · exact absurd (by simp) hni
      case c6 =>
        rintro i hi hni vals W ⟨ii1, ii2, ii3, ⟨cr, jj1, jj2, jj3⟩, cz, jj4, jj5⟩ hlb hdep
        simp only [List.mem_cons, List.not_mem_nil, or_false] at hni
        rcases hni with rfl | rfl
        · refine sVal_store rfl rfl 27 (.tmp 8) (.tmp 35) rfl (w.heap.size + 1 + 1) (tc (.slice ab n cb) (.slice aD k cD) p r l) rfl rfl (jj3.there 0 5 (by omega)) Try.info_slot (tc_one _ _ _ _ _ _ _ _ _) (fun u => ⟨⟨ii1.setCells (by omega) _ 0, ii2.kept (heap_setCells_other W _ _ (box_ne ii2 jj3 (by decide)) _ _), ii3.setBox jj3 jj1 _ 0, ⟨_, tc_noints _ _ _ _ _ _ _ _ _, rfl, jj3.all _ (by simp [jj2])⟩, cz, jj4, jj5.kept (heap_setCells_other W _ _ (by omega) _ _)⟩, ?_, fun k hk => by cases hk⟩)
          exact jj3.all _ (by simp [jj2])
        · have h1 : vals 1 = sval S := hdep 1 (by simp)
          have h2 : Box W (w.heap.size + 1 + 1) 27 (tc (.slice ab n cb) (.slice aD k cD) p r l) := hdep 2 (by simp)
          refine sVal_store rfl rfl 35 (.tmp 9) (.tmp 36) rfl (w.heap.size + 1 + 1 + 1) (sc S) rfl ?_ (jj5.there 0 3 (by omega)) Try.info_sense (sc_one _) (fun u => ⟨⟨ii1.setCells (by omega) _ 0, ii2.kept (heap_setCells_other W _ _ hgW _ _), ii3.setOff hOff.out.1 hOff.out.2 _ 0, ⟨_, tc_noints _ _ _ _ _ _ _ _ _, rfl, h2.kept (heap_setCells_other W _ _ (by omega) _ _)⟩, _, rfl, jj5.all (sc S) (by simp [jj4])⟩, ?_, ?_⟩)
          · exact h1
          · exact jj5.all (sc S) (by simp [jj4])
          · intro k hk
            simp only [List.mem_cons, List.not_mem_nil, or_false] at hk
            rcases hk with rfl | rfl
            · exact h1
            · exact h2.kept (heap_setCells_other W _ _ (by omega) _ _)
      case c7 =>
        intro i hi hst k hk hne hds hds' vals W W' h
        simp only [List.mem_cons, List.not_mem_nil, or_false] at hst hk
        rcases hst with rfl | rfl <;> rcases hk with rfl | rfl | rfl <;> first | (exact absurd rfl hne) | (exact h) | (simp at hds; done) | (simp at hds'; done)
      case c8 =>
        rintro vals wz ⟨ii1, ii2, ii3, ii4, ii5⟩ hall
        have h1 : vals 1 = sval S := hall 1 (by simp)
        have T2 : Hid (Box wz (w.heap.size + 1 + 1) 27 (tc (.slice ab n cb) (.slice aD k cD) p r l)) := hall 2 (by simp)
        have T3 : Hid (Box wz (w.heap.size + 1 + 1 + 1) 35 (sc S)) := hall 3 (by simp)
        have TL := hide ii1
        have TM := hide ii3
        clear ii1 ii2 ii3 ii4 ii5 hall BX BR BS BW L M hOff hDr hwd
        simp only [putAll, List.foldl, dstOf, h1]
        go_wp2
        refine bodyPost_ret (results_cell_cell' rfl _ _ _ (w.heap.size + 1 + 1) 0 (w.heap.size + 1 + 1 + 1) 0 rfl rfl (.agg #[(.slice ab n cb), (.slice aD k cD), .bool p, .bool r, .bool l]) (sval S) (shut5 T2.out rfl) (shut3 T3.out)) rfl ⟨.agg #[(.slice ab n cb), (.slice aD k cD), .bool p, .bool r, .bool l], ?_, TL.out, ?_⟩
        · rw [HSv.out]
        · rw [HSv.out, show ptF n F D S (z : Int) X th = F from by simp only [ptF, hz]; rfl, show ptD n D S (z : Int) X th = D from by simp only [ptD, hz]; rfl]
          exact Slt.mk' _ _ _ TM.out
    | true =>
      obtain rfl : S = (0, 0, 0) := eq_of_beq hz
      have hE := hide (HY.out rfl)
      clear HY hz
      have d0 := BX.out.cell 0
      have d1 := BX.out.cell 1
      go_wp2_with (first
        | (refine wpList_eqS (by kernel_rfl) (.tmp 22) (.tmp 23) rfl (0, 0, 0) (0, 0, 0) rfl rfl ?_; rw [show (((0, 0, 0) : Sns) == (0, 0, 0)) = true from rfl])
        | refine wpList_load_mid rfl 50 (.tmp 6) rfl (w.heap.size + 1) 0 rfl (bv X) _ BB.out.range Try.underlying50 rfl (by rw [Try.info_block, bv_length, HX.out]) ?_)
      refine (rwrite3_x (z : Int) X th w3 (HM.out.later L.out) HX.out (by omega) (by omega)).mono ?_
      rintro e w4 ⟨v4, rfl, hl, h4, ho4⟩
      rw [show wrN n D (z : Int) = n from by simp [wrN, hE.out]] at h4
      have hO4 := hide (ho4 (w.heap.size + 1 + 1 + 1) BS.out.lt)
      replace BX := hide (BX.out.later hl)
      replace BR := hide (BR.out.later hl)
      replace BS := hide (BS.out.later hl)
      replace L := hide (L.out.later hl)
      replace BW := hide (BW.out.later hl)
      have M := hide h4
      obtain ⟨a3, c3, a6, k6, c6, rfl, HK6, _, _⟩ := h4.shape
      clear hl h4 ho4 BB d0 d1 e0 e1 e2
      have hOff : Hid (OffS (w.heap.size + 1 + 1 + 1) (.slice a3 n c3) ∧ OffS (w.heap.size + 1 + 1 + 1) (.slice a6 k6 c6)) := by
        obtain ⟨a, b, e, h1, h2⟩ := hO4.out
        simp at e
        obtain ⟨rfl, rfl⟩ := e
        exact ⟨h1, h2⟩
      clear hO4
      go_wp2_with (refine wpList_storeT rfl 25 (.tmp 34) (.tmp 32) rfl w.heap.size 0 rfl [.slice a3 n c3, .slice a6 k6 c6] rfl (zero_of_info Try.zero_medium).2 (by simp [Value.oneCell']) _ _ BX.out (by simp) ?_)
      intro w5 hw5
      have BS5 := hide (BS.out.kept (heap_setCells_other w4 w.heap.size (w.heap.size + 1 + 1 + 1) (by omega) [.slice a3 n c3, .slice a6 k6 c6] 0))
      have BW5 := hide (BW.out.kept (heap_setCells_other w4 w.heap.size gW (box_ne BW.out BX.out (by decide)) [.slice a3 n c3, .slice a6 k6 c6] 0))
      rw [← hw5.out] at BS5 BW5
      clear BS BW
      have BS := BS5
      have BW := BW5
      clear BS5 BW5
      have T := hide (tri_set (Nat.le_refl _) (by omega) BX.out (tc_noints _ _ _ _ _ _ _ _ _) BR.out L.out M.out [.slice a3 n c3, .slice a6 k6 c6] 0 (by simp))
      rw [← hw5.out] at T
      clear BX BR L M hw5
      have BX : Hid (Box w5 w.heap.size 27 (tc (.slice a3 n c3) (.slice a6 k6 c6) p r l)) := T.out.1
      have BR := hide T.out.2.1
      have L := hide T.out.2.2.1
      have M := hide T.out.2.2.2
      clear T
      have hDr := hide (Later.refl w5).drew
      go_wp2_with fail
      refine wp_region_bag [0] [1, 2, 3] [2, 3] (by kernel_rfl) (by kernel_rfl) (by kernel_rfl) (by kernel_rfl) ?_
      have hc := fun r => (hDr.out.trans (later_rg _ r))
      have q0 := fun r => (BX.out.later (hc r)).cell 0
      have q1 := fun r => (BX.out.later (hc r)).cell 1
      have q2 := fun r => (BX.out.later (hc r)).cell 2
      have q3 := fun r => (BX.out.later (hc r)).cell 3
      have q4 := fun r => (BX.out.later (hc r)).cell 4
      refine wpM_mild rfl (fun K hK => ?_)
      go_simp
      refine hK _ ?_
      clear hK K q0 q1 q2 q3 q4 hc
      have hwd := hDr.out
      refine wpM_nil (bag_of (fun i => match i with | 3 => [1, 2] | _ => [])
        (fun W => Later w W ∧ Box W gW 35 (sc (0, 0, 0)) ∧ Med W (.agg #[(.slice a3 n c3), (.slice a6 k6 c6)]) n (wrF n F D (z : Int) X th) (wrD n D (z : Int) X th) ∧ (∃ cr, NoInts cr ∧ cr.length = 5 ∧ Box W (w.heap.size + 1 + 1) 27 cr) ∧ (∃ cz : List Value, cz.length = 3 ∧ Box W (w.heap.size + 1 + 1 + 1) 35 cz))
        (fun i vals W => match i with
          | 1 => vals 1 = sval (0, 0, 0)
          | 2 => Box W (w.heap.size + 1 + 1) 27 (tc (.slice a3 n c3) (.slice a6 k6 c6) p r l)
          | 3 => Box W (w.heap.size + 1 + 1 + 1) 35 (sc (0, 0, 0))
          | _ => True) (by kernel_rfl) (by kernel_rfl) ?c1 ?c2 ?c3 ?c4 ?c5 ?c6 ?c7 ?c8)
      case c1 => exact ⟨L.out.trans hwd, BW.out.later hwd, M.out.later hwd, ⟨_, tc_noints _ _ _ _ _ _ _ _ _, rfl, BR.out.later hwd⟩, _, rfl, BS.out.later hwd⟩
      case c2 =>
        rintro W W' hl ⟨ii1, ii2, ii3, ⟨cr, jj1, jj2, jj3⟩, cz, jj4, jj5⟩
        exact ⟨ii1.trans hl, ii2.later hl, ii3.later hl, ⟨cr, jj1, jj2, jj3.later hl⟩, cz, jj4, jj5.later hl⟩
      case c3 =>
        intro i hi vals W W' hl h
        simp only [List.mem_cons, List.not_mem_nil, or_false] at hi
        rcases hi with rfl | rfl | rfl
        · exact h
        · exact Box.later h hl
        · exact Box.later h hl
      case c4 =>
        intro i hi k hk hne hds vals v W h
        simp only [List.mem_cons, List.not_mem_nil, or_false] at hi hk
        rcases hi with rfl | rfl | rfl <;> rcases hk with rfl | rfl | rfl <;> first | (exact absurd rfl hne) | (simp at hds; done) | (simpa [upd] using h)
      case c5 =>
        rintro i hi hni vals W ⟨ii1, ii2, ii3, ii4, ii5⟩ hlb hdep
        simp only [List.mem_cons, List.not_mem_nil, or_false] at hi
        rcases hi with rfl | rfl | rfl
        · have y0 := ii2.cell 0
          have y1 := ii2.cell 1
          have y2 := ii2.cell 2
          refine lVal_step rfl (fun K hK => ?_)
          simp only [putAll, List.foldl]
          go_simp
          exact ⟨Later.refl _, hK _ _ (by simp [upd])⟩
        · exact absurd (by simp) hni
        · exact absurd (by simp) hni
      case c6 =>
        rintro i hi hni vals W ⟨ii1, ii2, ii3, ⟨cr, jj1, jj2, jj3⟩, cz, jj4, jj5⟩ hlb hdep
        simp only [List.mem_cons, List.not_mem_nil, or_false] at hni
        rcases hni with rfl | rfl
        · refine sVal_store rfl rfl 27 (.tmp 8) (.tmp 35) rfl (w.heap.size + 1 + 1) (tc (.slice a3 n c3) (.slice a6 k6 c6) p r l) rfl rfl (jj3.there 0 5 (by omega)) Try.info_slot (tc_one _ _ _ _ _ _ _ _ _) (fun u => ⟨⟨ii1.setCells (by omega) _ 0, ii2.kept (heap_setCells_other W _ _ (box_ne ii2 jj3 (by decide)) _ _), ii3.setBox jj3 jj1 _ 0, ⟨_, tc_noints _ _ _ _ _ _ _ _ _, rfl, jj3.all _ (by simp [jj2])⟩, cz, jj4, jj5.kept (heap_setCells_other W _ _ (by omega) _ _)⟩, ?_, fun k hk => by cases hk⟩)
          exact jj3.all _ (by simp [jj2])
        · have h1 : vals 1 = sval (0, 0, 0) := hdep 1 (by simp)
          have h2 : Box W (w.heap.size + 1 + 1) 27 (tc (.slice a3 n c3) (.slice a6 k6 c6) p r l) := hdep 2 (by simp)
          refine sVal_store rfl rfl 35 (.tmp 9) (.tmp 36) rfl (w.heap.size + 1 + 1 + 1) (sc (0, 0, 0)) rfl ?_ (jj5.there 0 3 (by omega)) Try.info_sense (sc_one _) (fun u => ⟨⟨ii1.setCells (by omega) _ 0, ii2.kept (heap_setCells_other W _ _ hgW _ _), ii3.setOff hOff.out.1 hOff.out.2 _ 0, ⟨_, tc_noints _ _ _ _ _ _ _ _ _, rfl, h2.kept (heap_setCells_other W _ _ (by omega) _ _)⟩, _, rfl, jj5.all (sc (0, 0, 0)) (by simp [jj4])⟩, ?_, ?_⟩)
          · exact h1
          · exact jj5.all (sc (0, 0, 0)) (by simp [jj4])
          · intro k hk
            simp only [List.mem_cons, List.not_mem_nil, or_false] at hk
            rcases hk with rfl | rfl
            · exact h1
            · exact h2.kept (heap_setCells_other W _ _ (by omega) _ _)
      case c7 =>
        intro i hi hst k hk hne hds hds' vals W W' h
        simp only [List.mem_cons, List.not_mem_nil, or_false] at hst hk
        rcases hst with rfl | rfl <;> rcases hk with rfl | rfl | rfl <;> first | (exact absurd rfl hne) | (exact h) | (simp at hds; done) | (simp at hds'; done)
      case c8 =>
        rintro vals wz ⟨ii1, ii2, ii3, ii4, ii5⟩ hall
        have h1 : vals 1 = sval (0, 0, 0) := hall 1 (by simp)
        have T2 : Hid (Box wz (w.heap.size + 1 + 1) 27 (tc (.slice a3 n c3) (.slice a6 k6 c6) p r l)) := hall 2 (by simp)
        have T3 : Hid (Box wz (w.heap.size + 1 + 1 + 1) 35 (sc (0, 0, 0))) := hall 3 (by simp)
        have TL := hide ii1
        have TM := hide ii3
        clear ii1 ii2 ii3 ii4 ii5 hall BX BR BS BW L M hOff hDr hwd
        simp only [putAll, List.foldl, dstOf, h1]
        go_wp2
        refine bodyPost_ret (results_cell_cell' rfl _ _ _ (w.heap.size + 1 + 1) 0 (w.heap.size + 1 + 1 + 1) 0 rfl rfl (.agg #[(.slice a3 n c3), (.slice a6 k6 c6), .bool p, .bool r, .bool l]) (sval (0, 0, 0)) (shut5 T2.out rfl) (shut3 T3.out)) rfl ⟨.agg #[(.slice a3 n c3), (.slice a6 k6 c6), .bool p, .bool r, .bool l], ?_, TL.out, ?_⟩
        · rw [HSv.out]
        · rw [HSv.out, show ptF n F D (0, 0, 0) (z : Int) X th = wrF n F D (z : Int) X th from rfl, show ptD n D (0, 0, 0) (z : Int) X th = wrD n D (z : Int) X th from rfl]
          exact Slt.mk' _ _ _ TM.out
end Go.Proofs.Ytkbpecbpfajkfaa

namespace Go.Proofs.Ytkbpecbpfajkfaa
open Go.ChangeShapes Go.WideShapes Go.ChangeAt Go.RowKit
set_option linter.unusedVariables false
set_option linter.unusedSimpArgs false

/-! What the landed slot does, said; proved in P5. -/
def ISyncT : Prop := ∀ (v : Value) (n : Nat) (F : List UInt8) (D : List Drt) (p r l : Bool) (w : World), Slt w v n F D p r l → n ≤ 100 → D.length ≤ 100 →
  Calls Try.prog 22 #[v] w fun e w' => ∃ v', e = .returned v' ∧ Later w w' ∧ Slt w' v' n (syncF n F D) (syncD n D) p r l
def IInsertT : Prop := ∀ (v : Value) (n : Nat) (F : List UInt8) (D : List Drt) (p r l : Bool) (w : World), Slt w v n F D p r l → n ≤ 100 → D.length ≤ 100 →
  Calls Try.prog 11 #[v] w fun e w' => ∃ v', e = .returned (.tuple #[v', .bool (!p)]) ∧ Later w w' ∧ Slt w' v' n F D true r l
def IButtonT : Prop := ∀ (v : Value) (n : Nat) (F : List UInt8) (D : List Drt) (p r l : Bool) (w : World), Slt w v n F D p r l → n ≤ 100 → D.length ≤ 100 →
  Calls Try.prog 13 #[v] w fun e w' => ∃ v', e = .returned (.tuple #[v', .bool (p && !l)]) ∧ Later w w' ∧ Slt w' v' n (btF p l n F D) (btD p l n D) (p && l) r l
def IUnloadT : Prop := ∀ (v : Value) (n : Nat) (F : List UInt8) (D : List Drt) (p r l : Bool) (w : World), Slt w v n F D p r l → n ≤ 100 → D.length ≤ 100 →
  Calls Try.prog 15 #[v] w fun e w' => ∃ v', e = .returned (.tuple #[v', sval (ulS p l)]) ∧ Later w w' ∧ Slt w' v' n (btF p l n F D) (btD p l n D) (p && l) r l
def ISwitchT : Prop := ∀ (v : Value) (n : Nat) (F : List UInt8) (D : List Drt) (p r l on : Bool) (w : World), Slt w v n F D p r l → n ≤ 100 → D.length ≤ 100 →
  Calls Try.prog 20 #[v, .bool on] w fun e w' => ∃ v', e = .returned v' ∧ Later w w' ∧ Slt w' v' n (swF on r n F D) (swD on r n D) p on l
def IKeepT : Prop := ∀ (v : Value) (n : Nat) (F : List UInt8) (D : List Drt) (p r l on : Bool) (w : World), Slt w v n F D p r l → n ≤ 100 → D.length ≤ 100 →
  Calls Try.prog 17 #[v, .bool on] w fun e w' => ∃ v', e = .returned (.tuple #[v', sval (readyS p)]) ∧ Later w w' ∧ Slt w' v' n F D p r (if p then on else l)
def IReadyT : Prop := ∀ (v : Value) (n : Nat) (F : List UInt8) (D : List Drt) (p r l : Bool) (w : World), Slt w v n F D p r l →
  Calls Try.prog 26 #[v] w fun e w' => e = .returned (sval (readyS p)) ∧ Later w w'
def ICheckT : Prop := ∀ (v : Value) (n : Nat) (F : List UInt8) (D : List Drt) (p r l : Bool) (at_ : Nat) (m : Int) (wr : Bool) (w : World), Slt w v n F D p r l → at_ ≤ 18446744073709551615 → -9223372036854775808 ≤ m → m ≤ 9223372036854775807 → n ≤ 100 → D.length ≤ 100 →
  Calls Try.prog 30 #[v, .int .u64 at_, .int .i64 m, .bool wr] w fun e w' => e = .returned (sval (checkS n D p r at_ m wr)) ∧ Later w w'
def IReadT : Prop := ∀ (v : Value) (n : Nat) (F : List UInt8) (D : List Drt) (p r l : Bool) (at_ : Nat) (m : Int) (w : World), Slt w v n F D p r l → at_ ≤ 18446744073709551615 → -9223372036854775808 ≤ m → m ≤ 9223372036854775807 → n ≤ 100 → D.length ≤ 100 →
  Calls Try.prog 28 #[v, .int .u64 at_, .int .i64 m] w fun e w' => ∃ v', e = .returned (.tuple #[v', sval (checkS n D p r at_ m false)]) ∧ Later w w' ∧ Bs w' v' (rdL n F D (checkS n D p r at_ m false) at_ m)
def IPutT : Prop := ∀ (v : Value) (n : Nat) (F : List UInt8) (D : List Drt) (p r l : Bool) (at_ : Int) (X : List UInt8) (th : Bool) (w : World), Slt w v n F D p r l → X.length = 64 → -9223372036854775808 ≤ at_ → at_ ≤ 9223372036854775807 → n ≤ 100 → D.length ≤ 100 →
  Calls Try.prog 32 #[v, .int .i64 at_, .agg (bv X).toArray, .bool th] w fun e w' => ∃ v', e = .returned (.tuple #[v', sval (putS n D p r at_)]) ∧ Later w w' ∧ Slt w' v' n (ptF n F D (putS n D p r at_) at_ X th) (ptD n D (putS n D p r at_) at_ X th) p r l
def IPowerT : Prop := ∀ (v : Value) (n : Nat) (F : List UInt8) (D : List Drt) (p r l : Bool) (mask : Nat) (w : World), Slt w v n F D p r l → mask ≤ 18446744073709551615 → n ≤ 100 → D.length ≤ 100 →
  Calls Try.prog 24 #[v, .int .u64 mask] w fun e w' => ∃ v', e = .returned v' ∧ Later w w' ∧ Slt w' v' n (pwF n F D mask) (pwD n D) p r false
def Alive5 : Prop := ∀ w : World, Calls Try.prog 8 #[] w fun e w' => e = .returned (.bool true) ∧ Later w w'

section
variable {H : Type} {enc : TypeId × Value → H} {w : World} {r : Reach} {base : Nat} {v : Value} {d : DataW H} {p : List MemPlace}
def RSlot (w : World) (v : Value) : Prop := ∃ (n : Nat) (F : List UInt8) (D : List Drt) (p r l : Bool), Slt w v n F D p r l
end
theorem Slt.shape {w : World} {v : Value} {n : Nat} {F : List UInt8} {D : List Drt} {p r l : Bool} (h : Slt w v n F D p r l) : ∃ a c a' k c', v = .agg #[.slice a n c, .slice a' k c', .bool p, .bool r, .bool l] ∧ Hid (k = D.length) ∧ n ≤ 9223372036854775807 ∧ k ≤ 9223372036854775807 := by
  obtain ⟨ab, cb, aD, k, cD, rfl, hm⟩ := h
  obtain ⟨a, c, a', k', c', e, h1, h2, h3⟩ := hm.shape
  simp at e
  obtain ⟨⟨rfl, rfl⟩, rfl, rfl, rfl⟩ := e
  exact ⟨_, _, _, _, _, rfl, h1, h2, h3⟩
/-- 'x := v', v a slot -/
theorem wpList_newT {w : World} {ops : Array Oper} {rest : List Oper} {o1 o2 : Oper} {a : Act} {Q : Exit → Act → World → Prop} (hg1 : o1.guard = none) (hg2 : o2.guard = none) (h1 : o1.op = .alloc 27) (d : Tmp) (hd : o1.dst = some d) (hd' : d < a.tmps.size) (y : Operand) (hy' : y ≠ .tmp d) (h2 : o2.op = .store 27 (.tmp d) y)
    (x1 x2 : Option Addr) (n1 c1 n2 c2 : Nat) (p r l : Bool) (hy : a.eval y = .agg #[.slice x1 n1 c1, .slice x2 n2 c2, .bool p, .bool r, .bool l])
    (h : ∀ (g : Nat) (w' : World), Box w' g 27 (tc (.slice x1 n1 c1) (.slice x2 n2 c2) p r l) → Later w w' → Hid (g = w.heap.size ∧ w' = w.alloc (.cells (tc (.slice x1 n1 c1) (.slice x2 n2 c2) p r l).toArray 27)) → wpList Try.prog ops Q rest ((a.put (some d) (.pointer (some ⟨g, 0, none⟩))).put o2.dst undef) w') : wpList Try.prog ops Q (o1 :: o2 :: rest) a w :=
  wpList_new hg1 hg2 27 h1 d hd hd' y hy' h2 #[.slice none 0 0, .slice none 0 0, .bool false, .bool false, .bool false] (tc (.slice x1 n1 c1) (.slice x2 n2 c2) p r l) Try.zero_slot rfl hy (tc_one _ _ _ _ _ _ _ _ _) h
end Go.Proofs.Ytkbpecbpfajkfaa

namespace Go.Proofs.Ytkbpecbpfajkfaa
open Go.ChangeShapes Go.WideShapes Go.ChangeAt Go.RowKit
set_option linter.unusedVariables false
set_option linter.unusedSimpArgs false

/-! Slots, and what is done to them, that come in. -/
section
variable {H : Type} {enc : TypeId × Value → H} {w : World} {r : Reach} {base : Nat} {v : Value} {d : DataW H} {p : List MemPlace}
theorem Try.is_slot : Try.prog.underlying 27 = some (.struct (Try.prog.fieldsOf 27)) := by kernel_rfl
theorem Try.places_slot : (Try.prog.fieldsOf 27).toList.map (fun f => (f.type, f.offset)) = [(25, 0), (4, 2), (4, 3), (4, 4)] := by kernel_rfl
theorem rd_slot (hv : Value.okWide Try.prog w r base 27 v) (h : DataW.Trod enc Try.prog w 0 (fun _ => true) true 27 v d p) : RSlot w v := by
  obtain ⟨cs, rfl, _⟩ := okWide_struct Try.is_slot hv
  obtain ⟨fuel, hf⟩ := h
  obtain ⟨hl, m0, y0, h0⟩ := shape_field Try.is_slot Try.places_slot 0 _ _ rfl hf
  obtain ⟨_, m1, y1, h1⟩ := shape_field Try.is_slot Try.places_slot 1 _ _ rfl hf
  obtain ⟨_, m2, y2, h2⟩ := shape_field Try.is_slot Try.places_slot 2 _ _ rfl hf
  obtain ⟨_, m3, y3, h3⟩ := shape_field Try.is_slot Try.places_slot 3 _ _ rfl hf
  rw [show Try.prog.cellsOf 27 = 5 from by kernel_rfl] at hl
  rw [show Try.prog.cellsOf 25 = 2 from by kernel_rfl] at h0
  rw [show Try.prog.cellsOf 4 = 1 from by kernel_rfl] at h1 h2 h3
  obtain ⟨vb, vd, n, F, D, e0, r0, r1, ho⟩ := shape_medium _ _ _ h0
  obtain ⟨b1, e1⟩ := shape_bool Try.underlying4 h1
  obtain ⟨b2, e2⟩ := shape_bool Try.underlying4 h2
  obtain ⟨b3, e3⟩ := shape_bool Try.underlying4 h3
  obtain ⟨a, c, rfl⟩ := r0.shape
  obtain ⟨a', c', rfl⟩ := r1.shape
  have e : cs.toList = tc (.slice a n c) (.slice a' D.length c') b1 b2 b3 := by
    change cs.toList.length = 5 at hl
    change (cs.toList.drop 0).take 2 = _ at e0
    change (cs.toList.drop 2).take 1 = _ at e1
    change (cs.toList.drop 3).take 1 = _ at e2
    change (cs.toList.drop 4).take 1 = _ at e3
    generalize cs.toList = L at *
    match L, hl with
    | [x0, x1, x2, x3, x4], _ =>
      simp at e0 e1 e2 e3
      rw [e0.1, e0.2, e1, e2, e3]
  exact ⟨n, F, D, b1, b2, b3, a, c, a', D.length, c', by rw [agg_of e], _, _, rfl, r0, r1, ho⟩
/-- a block's data, and whether it goes through -/
theorem Try.is_write5 : Try.prog.underlying 52 = some (.struct (Try.prog.fieldsOf 52)) := by kernel_rfl
theorem Try.fields_write5 : (Try.prog.fieldsOf 52).toList.map (fun f => (f.type, f.offset)) = [(50, 0), (4, 64)] := by kernel_rfl
theorem rd_write5 (hv : Value.okWide Try.prog w r base 52 v) (h : DataW.Trod enc Try.prog w 0 (fun _ => true) true 52 v d p) : RWrite3 v := by
  obtain ⟨cs, rfl, _⟩ := okWide_struct Try.is_write5 hv
  obtain ⟨fuel, hf⟩ := h
  obtain ⟨hl, m0, y0, h0⟩ := shape_field Try.is_write5 Try.fields_write5 0 _ _ rfl hf
  obtain ⟨_, m1, y1, h1⟩ := shape_field Try.is_write5 Try.fields_write5 1 _ _ rfl hf
  rw [show Try.prog.cellsOf 52 = 65 from by kernel_rfl] at hl
  rw [show Try.prog.cellsOf 50 = 64 from by kernel_rfl] at h0
  rw [show Try.prog.cellsOf 4 = 1 from by kernel_rfl] at h1
  obtain ⟨X, hX, hx⟩ := shape_bytes Try.underlying50 Try.underlying5 (by kernel_rfl) (by kernel_rfl) _ _ _ h0
  obtain ⟨b, hb⟩ := shape_bool Try.underlying4 h1
  refine ⟨X, b, hX, ?_⟩
  have hl' : cs.toList.length = 65 := hl
  have e1 : cs.toList.take 64 = bv X := hx
  have e2 : cs.toList.drop 64 = [Value.bool b] := by
    have : (cs.toList.drop 64).take 1 = cs.toList.drop 64 := List.take_of_length_le (by simp at hl' ⊢; omega)
    rw [← this]; exact hb
  rw [agg_of (show cs.toList = bv X ++ [Value.bool b] from by rw [← e1, ← e2, List.take_append_drop])]
/-! What is done to a slot: which act, at which block, with which byte, and a switch. -/
abbrev ActS := UInt8 × Int × UInt8 × Bool
def as5 (A : ActS) : List Value := [.int .u8 (A.1.toNat : Int), .int .i64 A.2.1, .int .u8 (A.2.2.1.toNat : Int), .bool A.2.2.2]
def av5 (L : List ActS) : List Value := L.flatMap as5
theorem av5_cons (x : ActS) (L : List ActS) : av5 (x :: L) = as5 x ++ av5 L := by simp [av5]
theorem av5_length (L : List ActS) : (av5 L).length = L.length * 4 := by
  induction L with
  | nil => rfl
  | cons x L ih => rw [av5_cons, List.length_append, ih]; simp [as5]; omega
theorem av5_drop : ∀ (L : List ActS) (k : Nat), (av5 L).drop (k * 4) = av5 (L.drop k)
  | L, 0 => by simp
  | [], k + 1 => by simp [av5]
  | x :: L, k + 1 => by
    rw [av5_cons, List.drop_succ_cons, ← av5_drop L k, List.drop_append, List.drop_of_length_le (by simp [as5]; omega), List.nil_append]
    congr 1; simp [as5]; omega
theorem av5_at (L : List ActS) (k : Nat) (hk : k < L.length) : (av5 L)[k * 4]? = some (.int .u8 (L[k].1.toNat : Int)) ∧ (av5 L)[k * 4 + 1]? = some (.int .i64 L[k].2.1) ∧ (av5 L)[k * 4 + 2]? = some (.int .u8 (L[k].2.2.1.toNat : Int)) ∧ (av5 L)[k * 4 + 3]? = some (.bool L[k].2.2.2) := by
  have h : ∀ j, (av5 L)[k * 4 + j]? = (av5 (L.drop k))[j]? := fun j => by rw [← av5_drop, List.getElem?_drop]
  have h0 := h 0
  rw [Nat.add_zero] at h0
  rw [h0, h 1, h 2, h 3, List.drop_eq_getElem_cons hk, av5_cons]
  exact ⟨rfl, rfl, rfl, rfl⟩
def OkA5 (A : ActS) : Prop := -9223372036854775808 ≤ A.2.1 ∧ A.2.1 ≤ 9223372036854775807
theorem Try.is_act5 : Try.prog.underlying 59 = some (.struct (Try.prog.fieldsOf 59)) := by kernel_rfl
theorem Try.places_act5 : (Try.prog.fieldsOf 59).toList.map (fun f => (f.type, f.offset)) = [(5, 0), (3, 1), (5, 2), (4, 3)] := by kernel_rfl
theorem shape_act5 (fuel : Nat) (cs : List Value) (x : DataW H × List MemPlace) (h : DataW.trod enc Try.prog w 0 (fun _ => true) true fuel 59 cs = some x) : ∃ A : ActS, OkA5 A ∧ cs = as5 A := by
  obtain ⟨hl, m0, y0, h0⟩ := shape_field Try.is_act5 Try.places_act5 0 _ _ rfl h
  obtain ⟨_, m1, y1, h1⟩ := shape_field Try.is_act5 Try.places_act5 1 _ _ rfl h
  obtain ⟨_, m2, y2, h2⟩ := shape_field Try.is_act5 Try.places_act5 2 _ _ rfl h
  obtain ⟨_, m3, y3, h3⟩ := shape_field Try.is_act5 Try.places_act5 3 _ _ rfl h
  rw [show Try.prog.cellsOf 59 = 4 from by kernel_rfl] at hl
  rw [show Try.prog.cellsOf 5 = 1 from by kernel_rfl] at h0 h2
  rw [show Try.prog.cellsOf 3 = 1 from by kernel_rfl] at h1
  rw [show Try.prog.cellsOf 4 = 1 from by kernel_rfl] at h3
  obtain ⟨c0, e0⟩ := shape_u8 Try.underlying5 h0
  obtain ⟨n, e1, wn⟩ := shape_int Try.underlying3 h1
  obtain ⟨c2, e2⟩ := shape_u8 Try.underlying5 h2
  obtain ⟨b3, e3⟩ := shape_bool Try.underlying4 h3
  refine ⟨(c0, n, c2, b3), bounds_i64 wn, ?_⟩
  match cs, hl with
  | [x0, x1, x2, x3], _ =>
    simp at e0 e1 e2 e3
    rw [e0, e1, e2, e3]; rfl
theorem av5_flatten : ∀ css : List (List Value), (∀ cs ∈ css, ∃ A : ActS, OkA5 A ∧ cs = as5 A) → ∃ L : List ActS, L.length = css.length ∧ (∀ A ∈ L, OkA5 A) ∧ css.flatten = av5 L
  | [], _ => ⟨[], rfl, (fun d hd => by cases hd), rfl⟩
  | c :: css, h => by
    obtain ⟨X, hX, rfl⟩ := h c (by simp)
    obtain ⟨D, h1, h2, h3⟩ := av5_flatten css (fun cs hcs => h cs (by simp [hcs]))
    refine ⟨X :: D, by simp [h1], fun d hd => ?_, by rw [List.flatten_cons, h3, av5_cons]⟩
    rcases List.mem_cons.1 hd with rfl | hd
    · exact hX
    · exact h2 d hd
def RActs5 (w : World) (v : Value) : Prop := ∃ L : List ActS, (∀ A ∈ L, OkA5 A) ∧ Rw 4 w v L.length (av5 L)
theorem rd_acts5 (hv : Value.okWide Try.prog w r base 56 v) (h : DataW.Trod enc Try.prog w 0 (fun _ => true) true 56 v d p) : RActs5 w v := by
  obtain ⟨css, h1, h2⟩ := rd_rows Try.underlying56 (sz := 4) (by kernel_rfl) (by decide) (fun cs => ∃ A : ActS, OkA5 A ∧ cs = as5 A) (fun fuel cs x hx => shape_act5 fuel cs x hx) hv h
  obtain ⟨L, hL, hok, hf⟩ := av5_flatten css (fun cs hcs => (h1 cs hcs).1)
  rw [hf, ← hL] at h2
  exact ⟨L, hok, h2⟩
end
end Go.Proofs.Ytkbpecbpfajkfaa
