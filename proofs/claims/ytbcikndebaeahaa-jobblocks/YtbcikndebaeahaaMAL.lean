import Derived.Test.YtbcikndebaeahaaMAK
import Derived.Test.YtbcikndebaeahaaMAE
namespace Go.Proofs.Ytbcikndebaeahaa
open Go.ChangeShapes Go.WideShapes Go.ChangeAt Go.RowKit
set_option linter.unusedVariables false
set_option maxRecDepth 4000
set_option linter.unusedSimpArgs false
/-! The document's answers for slots: Put. -/
theorem box_ne {w : World} {g g' : Nat} {t t' : TypeId} {xs ys : List Value} (h : Box w g t xs) (h' : Box w g' t' ys) (hne : t ≠ t') : g ≠ g' := by
  intro e
  subst e
  unfold Box at h h'
  rw [h] at h'
  simp at h'
  exact hne h'.2
theorem Med.setOff {w : World} {a b : Value} {n : Nat} {F : List UInt8} {D : List Drt} {g : Nat} (h : Med w (.agg #[a, b]) n F D) (h1 : OffS g a) (h2 : OffS g b) (vs : List Value) (o : Nat) : Med (w.setCells g o vs) (.agg #[a, b]) n F D := by
  obtain ⟨vb, vd, e, hb, hd, ho⟩ := h
  simp at e
  obtain ⟨rfl, rfl⟩ := e
  exact ⟨_, _, rfl, hb.setOff h1 vs o, hd.setOff h2 vs o, ho⟩
def putS (n : Nat) (D : List Drt) (p r : Bool) (at_ : Int) : Sns := if at_ < 0 then checkS n D p r 0 1000 true else checkS n D p r at_.toNat 1 true
def ptF (n : Nat) (F : List UInt8) (D : List Drt) (S : Sns) (at_ : Int) (X : List UInt8) (th : Bool) : List UInt8 := if S == (0, 0, 0) then wrF n F D at_ X th else F
def ptD (n : Nat) (D : List Drt) (S : Sns) (at_ : Int) (X : List UInt8) (th : Bool) : List Drt := if S == (0, 0, 0) then wrD n D at_ X th else D
theorem put_neg {n : Nat} {D : List Drt} {p r : Bool} : (checkS n D p r 0 1000 true == (0, 0, 0)) = false := by
  rw [beq_eq_false_iff_ne]
  intro h
  have h1 := (checkS_zero h).2.2
  have h2 := allN_small n D
  simp only [withinB, decide_eq_true_eq] at h1
  omega
theorem put_yes {n : Nat} {D : List Drt} {p r : Bool} {z : Nat} (h : checkS n D p r z 1 true = (0, 0, 0)) : wrE n D (z : Int) = 0 := by
  have h1 := (checkS_zero h).2.2
  cases hR : rightB n D with
  | true =>
    simp only [withinB, decide_eq_true_eq, allN, hR, if_true] at h1
    unfold wrE
    rw [if_pos hR, if_pos (by omega)]
  | false =>
    simp only [withinB, decide_eq_true_eq, allN, hR] at h1
    have h2 := h1.2.1
    simp at h2
set_option maxRecDepth 20000 in
set_option maxHeartbeats 2000000 in
theorem rput5_c {v : Value} {n : Nat} {F : List UInt8} {D : List Drt} {p r l : Bool} (at_ : Int) (X : List UInt8) (th : Bool) (w : World) (h : Slt w v n F D p r l) (hX : X.length = 64) (ha : -9223372036854775808 ≤ at_) (ha' : at_ ≤ 9223372036854775807) :
    Calls Try.prog 48 #[v, .int .i64 at_, .agg (bv X).toArray, .bool th] w fun e w' => ∃ v', e = .returned (.tuple #[v', sval (putS n D p r at_)]) ∧ Later w w' ∧ Slt w' v' n (ptF n F D (putS n D p r at_) at_ X th) (ptD n D (putS n D p r at_) at_ X th) p r l := by
  have HS := hide h
  obtain ⟨ab, cb, aD, k, cD, rfl, hm⟩ := h
  have HM := hide hm
  clear hm
  have HX := hide hX
  clear hX
  go_enter Try.func48, Try.ntmps48
  by_cases hneg : at_ < 0
  · have HP : Hid (putS n D p r at_ = checkS n D p r 0 1000 true) := by unfold Hid putS; rw [if_pos hneg]
    go_wp2_with fail
    refine (rcheck_c 0 1000 true _ (HS.out.later (((((Later.refl w).alloc _).alloc _).alloc _).alloc _)) (by omega)).mono ?_
    rintro e w2 ⟨rfl, hl⟩
    have BX : Hid (Box w2 w.heap.size 27 (tc (.slice ab n cb) (.slice aD k cD) p r l)) := Box.later ((((Box.new w 27 #[.slice ab n cb, .slice aD k cD, .bool p, .bool r, .bool l]).alloc _).alloc _).alloc _) hl
    have BB : Hid (Box w2 (w.heap.size + 1) 58 (bv X)) := Box.later (((Box.new' _ _ _ _ (by simp) _ (by simp)).alloc _).alloc _) hl
    have BR : Hid (Box w2 (w.heap.size + 1 + 1) 27 (tc (.slice none 0 0) (.slice none 0 0) false false false)) := Box.later ((Box.new' _ _ _ _ rfl _ (by simp)).alloc _) hl
    have BS : Hid (Box w2 (w.heap.size + 1 + 1 + 1) 30 (sc (0, 0, 0))) := Box.later (Box.new' _ _ _ _ rfl _ (by simp)) hl
    have L : Hid (Later w w2) := Later.trans (((((Later.refl w).alloc _).alloc _).alloc _).alloc _) hl
    clear hl
    have hno := hide (put_neg (n := n) (D := D) (p := p) (r := r))
    generalize hS : checkS n D p r 0 1000 true = S at *
    have HSv : Hid (putS n D p r at_ = S) := HP.out
    clear hS
    go_wp2_with (refine wpList_newS rfl rfl rfl 10 rfl (by simp) (.tmp 15) (by simp) rfl S rfl ?_)
    intro gW w3 hB hl hg
    have hgW : gW ≠ w.heap.size + 1 + 1 + 1 := by have h1 := BS.out.lt; have h2 := hg.out.1; omega
    replace BX := hide (BX.out.later hl)
    replace BR := hide (BR.out.later hl)
    replace BS := hide (BS.out.later hl)
    replace L := hide (L.out.later hl)
    have BW := hide hB
    clear hB hl hg BB
    have hOff : Hid (OffS (w.heap.size + 1 + 1 + 1) (.slice ab n cb) ∧ OffS (w.heap.size + 1 + 1 + 1) (.slice aD k cD)) := by
      obtain ⟨a, b, p', r', l', e, h1, h2⟩ := HS.out.old (g := w.heap.size + 1 + 1 + 1) (by omega)
      simp at e
      obtain ⟨rfl, rfl, _⟩ := e
      exact ⟨h1, h2⟩
    have M := hide (HM.out.later L.out)
    have hDr := hide (Later.refl w3).drew
    go_wp2_with fail
    refine wp_region_bag [0] [1, 2, 3] [2, 3] (by kernel_rfl) (by kernel_rfl) (by kernel_rfl) (by kernel_rfl) ?_
    have hc := fun r => (hDr.out.trans (later_rg _ r))
    have q0 := fun r => (BX.out.later (hc r)).cell 0
    have q1 := fun r => (BX.out.later (hc r)).cell 1
    have q2 := fun r => (BX.out.later (hc r)).cell 2
    have q3 := fun r => (BX.out.later (hc r)).cell 3
    have q4 := fun r => (BX.out.later (hc r)).cell 4
    refine wpM_mild rfl (fun K hK => ?_)
    go_simp
    refine hK _ ?_
    clear hK K q0 q1 q2 q3 q4 hc
    have hwd := hDr.out
    refine wpM_nil (bag_of (fun i => match i with | 3 => [1, 2] | _ => [])
      (fun W => Later w W ∧ Box W gW 30 (sc S) ∧ Med W (.agg #[(.slice ab n cb), (.slice aD k cD)]) n F D ∧ (∃ cr, NoInts cr ∧ cr.length = 5 ∧ Box W (w.heap.size + 1 + 1) 27 cr) ∧ (∃ cz : List Value, cz.length = 3 ∧ Box W (w.heap.size + 1 + 1 + 1) 30 cz))
      (fun i vals W => match i with
        | 1 => vals 1 = sval S
        | 2 => Box W (w.heap.size + 1 + 1) 27 (tc (.slice ab n cb) (.slice aD k cD) p r l)
        | 3 => Box W (w.heap.size + 1 + 1 + 1) 30 (sc S)
        | _ => True) (by kernel_rfl) (by kernel_rfl) ?c1 ?c2 ?c3 ?c4 ?c5 ?c6 ?c7 ?c8)
    case c1 => exact ⟨L.out.trans hwd, BW.out.later hwd, M.out.later hwd, ⟨_, tc_noints _ _ _ _ _ _ _ _ _, rfl, BR.out.later hwd⟩, _, rfl, BS.out.later hwd⟩
    case c2 =>
      rintro W W' hl ⟨ii1, ii2, ii3, ⟨cr, jj1, jj2, jj3⟩, cz, jj4, jj5⟩
      exact ⟨ii1.trans hl, ii2.later hl, ii3.later hl, ⟨cr, jj1, jj2, jj3.later hl⟩, cz, jj4, jj5.later hl⟩
    case c3 =>
      intro i hi vals W W' hl h
      simp only [List.mem_cons, List.not_mem_nil, or_false] at hi
      rcases hi with rfl | rfl | rfl
      · exact h
      · exact Box.later h hl
      · exact Box.later h hl
    case c4 =>
      intro i hi k hk hne hds vals v W h
      simp only [List.mem_cons, List.not_mem_nil, or_false] at hi hk
      rcases hi with rfl | rfl | rfl <;> rcases hk with rfl | rfl | rfl <;> first | (exact absurd rfl hne) | (simp at hds; done) | (simpa [upd] using h)
    case c5 =>
      rintro i hi hni vals W ⟨ii1, ii2, ii3, ii4, ii5⟩ hlb hdep
      simp only [List.mem_cons, List.not_mem_nil, or_false] at hi
      rcases hi with rfl | rfl | rfl
      · have y0 := ii2.cell 0
        have y1 := ii2.cell 1
        have y2 := ii2.cell 2
        refine lVal_step rfl (fun K hK => ?_)
        simp only [putAll, List.foldl]
        go_simp
        exact ⟨Later.refl _, hK _ _ (by simp [upd])⟩
      · exact absurd (by simp) hni
      · exact absurd (by simp) hni
    case c6 =>
      rintro i hi hni vals W ⟨ii1, ii2, ii3, ⟨cr, jj1, jj2, jj3⟩, cz, jj4, jj5⟩ hlb hdep
      simp only [List.mem_cons, List.not_mem_nil, or_false] at hni
      rcases hni with rfl | rfl
      · refine sVal_store rfl rfl 27 (.tmp 8) (.tmp 16) rfl (w.heap.size + 1 + 1) (tc (.slice ab n cb) (.slice aD k cD) p r l) rfl rfl (jj3.there 0 5 (by omega)) Try.info_slot (tc_one _ _ _ _ _ _ _ _ _) (fun u => ⟨⟨ii1.setCells (by omega) _ 0, ii2.kept (heap_setCells_other W _ _ (box_ne ii2 jj3 (by decide)) _ _), ii3.setBox jj3 jj1 _ 0, ⟨_, tc_noints _ _ _ _ _ _ _ _ _, rfl, jj3.all _ (by simp [jj2])⟩, cz, jj4, jj5.kept (heap_setCells_other W _ _ (by omega) _ _)⟩, ?_, fun k hk => by cases hk⟩)
        exact jj3.all _ (by simp [jj2])
      · have h1 : vals 1 = sval S := hdep 1 (by simp)
        have h2 : Box W (w.heap.size + 1 + 1) 27 (tc (.slice ab n cb) (.slice aD k cD) p r l) := hdep 2 (by simp)
        refine sVal_store rfl rfl 30 (.tmp 9) (.tmp 17) rfl (w.heap.size + 1 + 1 + 1) (sc S) rfl ?_ (jj5.there 0 3 (by omega)) Try.info_sense (sc_one _) (fun u => ⟨⟨ii1.setCells (by omega) _ 0, ii2.kept (heap_setCells_other W _ _ hgW _ _), ii3.setOff hOff.out.1 hOff.out.2 _ 0, ⟨_, tc_noints _ _ _ _ _ _ _ _ _, rfl, h2.kept (heap_setCells_other W _ _ (by omega) _ _)⟩, _, rfl, jj5.all (sc S) (by simp [jj4])⟩, ?_, ?_⟩)
        · exact h1
        · exact jj5.all (sc S) (by simp [jj4])
        · intro k hk
          simp only [List.mem_cons, List.not_mem_nil, or_false] at hk
          rcases hk with rfl | rfl
          · exact h1
          · exact h2.kept (heap_setCells_other W _ _ (by omega) _ _)
    case c7 =>
      intro i hi hst k hk hne hds hds' vals W W' h
      simp only [List.mem_cons, List.not_mem_nil, or_false] at hst hk
      rcases hst with rfl | rfl <;> rcases hk with rfl | rfl | rfl <;> first | (exact absurd rfl hne) | (exact h) | (simp at hds; done) | (simp at hds'; done)
    case c8 =>
      rintro vals wz ⟨ii1, ii2, ii3, ii4, ii5⟩ hall
      have h1 : vals 1 = sval S := hall 1 (by simp)
      have T2 : Hid (Box wz (w.heap.size + 1 + 1) 27 (tc (.slice ab n cb) (.slice aD k cD) p r l)) := hall 2 (by simp)
      have T3 : Hid (Box wz (w.heap.size + 1 + 1 + 1) 30 (sc S)) := hall 3 (by simp)
      have TL := hide ii1
      have TM := hide ii3
      clear ii1 ii2 ii3 ii4 ii5 hall BX BR BS BW L M hOff hDr hwd
      simp only [putAll, List.foldl, dstOf, h1]
      go_wp2
      refine bodyPost_ret (results_cell_cell' rfl _ _ _ (w.heap.size + 1 + 1) 0 (w.heap.size + 1 + 1 + 1) 0 rfl rfl (.agg #[(.slice ab n cb), (.slice aD k cD), .bool p, .bool r, .bool l]) (sval S) (shut5 T2.out rfl) (shut3 T3.out)) rfl ⟨.agg #[(.slice ab n cb), (.slice aD k cD), .bool p, .bool r, .bool l], ?_, TL.out, ?_⟩
      · rw [HSv.out]
      · rw [HSv.out, show ptF n F D S at_ X th = F from by simp only [ptF, hno.out]; rfl, show ptD n D S at_ X th = D from by simp only [ptD, hno.out]; rfl]
        exact Slt.mk' _ _ _ TM.out
  · obtain ⟨z, rfl⟩ := Int.eq_ofNat_of_zero_le (show 0 ≤ at_ by omega)
    have HP : Hid (putS n D p r (z : Int) = checkS n D p r z 1 true) := by unfold Hid putS; rw [if_neg hneg]; rfl
    have hcv : (z : Int) % 18446744073709551616 = (z : Int) := by omega
    go_wp2_with fail
    refine (rcheck_c z 1 true _ (HS.out.later (((((Later.refl w).alloc _).alloc _).alloc _).alloc _)) (by omega)).mono ?_
    rintro e w2 ⟨rfl, hl⟩
    have BX : Hid (Box w2 w.heap.size 27 (tc (.slice ab n cb) (.slice aD k cD) p r l)) := Box.later ((((Box.new w 27 #[.slice ab n cb, .slice aD k cD, .bool p, .bool r, .bool l]).alloc _).alloc _).alloc _) hl
    have BB : Hid (Box w2 (w.heap.size + 1) 58 (bv X)) := Box.later (((Box.new' _ _ _ _ (by simp) _ (by simp)).alloc _).alloc _) hl
    have BR : Hid (Box w2 (w.heap.size + 1 + 1) 27 (tc (.slice none 0 0) (.slice none 0 0) false false false)) := Box.later ((Box.new' _ _ _ _ rfl _ (by simp)).alloc _) hl
    have BS : Hid (Box w2 (w.heap.size + 1 + 1 + 1) 30 (sc (0, 0, 0))) := Box.later (Box.new' _ _ _ _ rfl _ (by simp)) hl
    have L : Hid (Later w w2) := Later.trans (((((Later.refl w).alloc _).alloc _).alloc _).alloc _) hl
    clear hl
    have HY := hide (fun h => put_yes (n := n) (D := D) (p := p) (r := r) (z := z) h)
    generalize hS : checkS n D p r z 1 true = S at *
    have HSv : Hid (putS n D p r (z : Int) = S) := HP.out
    clear hS
    go_wp2_with (refine wpList_newS rfl rfl rfl 11 rfl (by simp) (.tmp 21) (by simp) rfl S rfl ?_)
    intro gW w3 hB hl hg
    have hgW : gW ≠ w.heap.size + 1 + 1 + 1 := by have h1 := BS.out.lt; have h2 := hg.out.1; omega
    replace BX := hide (BX.out.later hl)
    replace BB := hide (BB.out.later hl)
    replace BR := hide (BR.out.later hl)
    replace BS := hide (BS.out.later hl)
    replace L := hide (L.out.later hl)
    have BW := hide hB
    clear hB hl hg
    have e0 := BW.out.cell 0
    have e1 := BW.out.cell 1
    have e2 := BW.out.cell 2
    cases hz : (S == ((0, 0, 0) : Sns)) with
    | false =>
      have hOff : Hid (OffS (w.heap.size + 1 + 1 + 1) (.slice ab n cb) ∧ OffS (w.heap.size + 1 + 1 + 1) (.slice aD k cD)) := by
        obtain ⟨a, b, p', r', l', e, h1, h2⟩ := HS.out.old (g := w.heap.size + 1 + 1 + 1) (by omega)
        simp at e
        obtain ⟨rfl, rfl, _⟩ := e
        exact ⟨h1, h2⟩
      have M := hide (HM.out.later L.out)
      have hDr := hide (Later.refl w3).drew
      go_wp2_with (refine wpList_eqS (by kernel_rfl) (.tmp 22) (.tmp 23) rfl S (0, 0, 0) rfl rfl ?_; rw [hz])
      clear e0 e1 e2 BB
      refine wp_region_bag [0] [1, 2, 3] [2, 3] (by kernel_rfl) (by kernel_rfl) (by kernel_rfl) (by kernel_rfl) ?_
      have hc := fun r => (hDr.out.trans (later_rg _ r))
      have q0 := fun r => (BX.out.later (hc r)).cell 0
      have q1 := fun r => (BX.out.later (hc r)).cell 1
      have q2 := fun r => (BX.out.later (hc r)).cell 2
      have q3 := fun r => (BX.out.later (hc r)).cell 3
      have q4 := fun r => (BX.out.later (hc r)).cell 4
      refine wpM_mild rfl (fun K hK => ?_)
      go_simp
      refine hK _ ?_
      clear hK K q0 q1 q2 q3 q4 hc
      have hwd := hDr.out
      refine wpM_nil (bag_of (fun i => match i with | 3 => [1, 2] | _ => [])
        (fun W => Later w W ∧ Box W gW 30 (sc S) ∧ Med W (.agg #[(.slice ab n cb), (.slice aD k cD)]) n F D ∧ (∃ cr, NoInts cr ∧ cr.length = 5 ∧ Box W (w.heap.size + 1 + 1) 27 cr) ∧ (∃ cz : List Value, cz.length = 3 ∧ Box W (w.heap.size + 1 + 1 + 1) 30 cz))
        (fun i vals W => match i with
          | 1 => vals 1 = sval S
          | 2 => Box W (w.heap.size + 1 + 1) 27 (tc (.slice ab n cb) (.slice aD k cD) p r l)
          | 3 => Box W (w.heap.size + 1 + 1 + 1) 30 (sc S)
          | _ => True) (by kernel_rfl) (by kernel_rfl) ?c1 ?c2 ?c3 ?c4 ?c5 ?c6 ?c7 ?c8)
      case c1 => exact ⟨L.out.trans hwd, BW.out.later hwd, M.out.later hwd, ⟨_, tc_noints _ _ _ _ _ _ _ _ _, rfl, BR.out.later hwd⟩, _, rfl, BS.out.later hwd⟩
      case c2 =>
        rintro W W' hl ⟨ii1, ii2, ii3, ⟨cr, jj1, jj2, jj3⟩, cz, jj4, jj5⟩
        exact ⟨ii1.trans hl, ii2.later hl, ii3.later hl, ⟨cr, jj1, jj2, jj3.later hl⟩, cz, jj4, jj5.later hl⟩
      case c3 =>
        intro i hi vals W W' hl h
        simp only [List.mem_cons, List.not_mem_nil, or_false] at hi
        rcases hi with rfl | rfl | rfl
        · exact h
        · exact Box.later h hl
        · exact Box.later h hl
      case c4 =>
        intro i hi k hk hne hds vals v W h
        simp only [List.mem_cons, List.not_mem_nil, or_false] at hi hk
        rcases hi with rfl | rfl | rfl <;> rcases hk with rfl | rfl | rfl <;> first | (exact absurd rfl hne) | (simp at hds; done) | (simpa [upd] using h)
      case c5 =>
        rintro i hi hni vals W ⟨ii1, ii2, ii3, ii4, ii5⟩ hlb hdep
        simp only [List.mem_cons, List.not_mem_nil, or_false] at hi
        rcases hi with rfl | rfl | rfl
        · have y0 := ii2.cell 0
          have y1 := ii2.cell 1
          have y2 := ii2.cell 2
          refine lVal_step rfl (fun K hK => ?_)
          simp only [putAll, List.foldl]
          go_simp
          exact ⟨Later.refl _, hK _ _ (by simp [upd])⟩
        · exact absurd (by simp) hni
        · exact absurd (by simp) hni
      case c6 =>
        rintro i hi hni vals W ⟨ii1, ii2, ii3, ⟨cr, jj1, jj2, jj3⟩, cz, jj4, jj5⟩ hlb hdep
        simp only [List.mem_cons, List.not_mem_nil, or_false] at hni
        rcases hni with rfl | rfl
        · refine sVal_store rfl rfl 27 (.tmp 8) (.tmp 35) rfl (w.heap.size + 1 + 1) (tc (.slice ab n cb) (.slice aD k cD) p r l) rfl rfl (jj3.there 0 5 (by omega)) Try.info_slot (tc_one _ _ _ _ _ _ _ _ _) (fun u => ⟨⟨ii1.setCells (by omega) _ 0, ii2.kept (heap_setCells_other W _ _ (box_ne ii2 jj3 (by decide)) _ _), ii3.setBox jj3 jj1 _ 0, ⟨_, tc_noints _ _ _ _ _ _ _ _ _, rfl, jj3.all _ (by simp [jj2])⟩, cz, jj4, jj5.kept (heap_setCells_other W _ _ (by omega) _ _)⟩, ?_, fun k hk => by cases hk⟩)
          exact jj3.all _ (by simp [jj2])
        · have h1 : vals 1 = sval S := hdep 1 (by simp)
          have h2 : Box W (w.heap.size + 1 + 1) 27 (tc (.slice ab n cb) (.slice aD k cD) p r l) := hdep 2 (by simp)
          refine sVal_store rfl rfl 30 (.tmp 9) (.tmp 36) rfl (w.heap.size + 1 + 1 + 1) (sc S) rfl ?_ (jj5.there 0 3 (by omega)) Try.info_sense (sc_one _) (fun u => ⟨⟨ii1.setCells (by omega) _ 0, ii2.kept (heap_setCells_other W _ _ hgW _ _), ii3.setOff hOff.out.1 hOff.out.2 _ 0, ⟨_, tc_noints _ _ _ _ _ _ _ _ _, rfl, h2.kept (heap_setCells_other W _ _ (by omega) _ _)⟩, _, rfl, jj5.all (sc S) (by simp [jj4])⟩, ?_, ?_⟩)
          · exact h1
          · exact jj5.all (sc S) (by simp [jj4])
          · intro k hk
            simp only [List.mem_cons, List.not_mem_nil, or_false] at hk
            rcases hk with rfl | rfl
            · exact h1
            · exact h2.kept (heap_setCells_other W _ _ (by omega) _ _)
      case c7 =>
        intro i hi hst k hk hne hds hds' vals W W' h
        simp only [List.mem_cons, List.not_mem_nil, or_false] at hst hk
        rcases hst with rfl | rfl <;> rcases hk with rfl | rfl | rfl <;> first | (exact absurd rfl hne) | (exact h) | (simp at hds; done) | (simp at hds'; done)
      case c8 =>
        rintro vals wz ⟨ii1, ii2, ii3, ii4, ii5⟩ hall
        have h1 : vals 1 = sval S := hall 1 (by simp)
        have T2 : Hid (Box wz (w.heap.size + 1 + 1) 27 (tc (.slice ab n cb) (.slice aD k cD) p r l)) := hall 2 (by simp)
        have T3 : Hid (Box wz (w.heap.size + 1 + 1 + 1) 30 (sc S)) := hall 3 (by simp)
        have TL := hide ii1
        have TM := hide ii3
        clear ii1 ii2 ii3 ii4 ii5 hall BX BR BS BW L M hOff hDr hwd
        simp only [putAll, List.foldl, dstOf, h1]
        go_wp2
        refine bodyPost_ret (results_cell_cell' rfl _ _ _ (w.heap.size + 1 + 1) 0 (w.heap.size + 1 + 1 + 1) 0 rfl rfl (.agg #[(.slice ab n cb), (.slice aD k cD), .bool p, .bool r, .bool l]) (sval S) (shut5 T2.out rfl) (shut3 T3.out)) rfl ⟨.agg #[(.slice ab n cb), (.slice aD k cD), .bool p, .bool r, .bool l], ?_, TL.out, ?_⟩
        · rw [HSv.out]
        · rw [HSv.out, show ptF n F D S (z : Int) X th = F from by simp only [ptF, hz]; rfl, show ptD n D S (z : Int) X th = D from by simp only [ptD, hz]; rfl]
          exact Slt.mk' _ _ _ TM.out
    | true =>
      obtain rfl : S = (0, 0, 0) := eq_of_beq hz
      have hE := hide (HY.out rfl)
      clear HY hz
      have d0 := BX.out.cell 0
      have d1 := BX.out.cell 1
      go_wp2_with (first
        | (refine wpList_eqS (by kernel_rfl) (.tmp 22) (.tmp 23) rfl (0, 0, 0) (0, 0, 0) rfl rfl ?_; rw [show (((0, 0, 0) : Sns) == (0, 0, 0)) = true from rfl])
        | refine wpList_load_mid rfl 58 (.tmp 6) rfl (w.heap.size + 1) 0 rfl (bv X) _ BB.out.range Try.underlying58 rfl (by rw [Try.info_block, bv_length, HX.out]) ?_)
      refine (rwrite3_x (z : Int) X th w3 (HM.out.later L.out) HX.out (by omega) (by omega)).mono ?_
      rintro e w4 ⟨v4, rfl, hl, h4, ho4⟩
      rw [show wrN n D (z : Int) = n from by simp [wrN, hE.out]] at h4
      have hO4 := hide (ho4 (w.heap.size + 1 + 1 + 1) BS.out.lt)
      replace BX := hide (BX.out.later hl)
      replace BR := hide (BR.out.later hl)
      replace BS := hide (BS.out.later hl)
      replace L := hide (L.out.later hl)
      replace BW := hide (BW.out.later hl)
      have M := hide h4
      obtain ⟨a3, c3, a6, k6, c6, rfl, HK6, _, _⟩ := h4.shape
      clear hl h4 ho4 BB d0 d1 e0 e1 e2
      have hOff : Hid (OffS (w.heap.size + 1 + 1 + 1) (.slice a3 n c3) ∧ OffS (w.heap.size + 1 + 1 + 1) (.slice a6 k6 c6)) := by
        obtain ⟨a, b, e, h1, h2⟩ := hO4.out
        simp at e
        obtain ⟨rfl, rfl⟩ := e
        exact ⟨h1, h2⟩
      clear hO4
      go_wp2_with (refine wpList_storeT rfl 25 (.tmp 34) (.tmp 32) rfl w.heap.size 0 rfl [.slice a3 n c3, .slice a6 k6 c6] rfl (zero_of_info Try.zero_medium).2 (by simp [Value.oneCell']) _ _ BX.out (by simp) ?_)
      intro w5 hw5
      have BS5 := hide (BS.out.kept (heap_setCells_other w4 w.heap.size (w.heap.size + 1 + 1 + 1) (by omega) [.slice a3 n c3, .slice a6 k6 c6] 0))
      have BW5 := hide (BW.out.kept (heap_setCells_other w4 w.heap.size gW (box_ne BW.out BX.out (by decide)) [.slice a3 n c3, .slice a6 k6 c6] 0))
      rw [← hw5.out] at BS5 BW5
      clear BS BW
      have BS := BS5
      have BW := BW5
      clear BS5 BW5
      have T := hide (tri_set (Nat.le_refl _) (by omega) BX.out (tc_noints _ _ _ _ _ _ _ _ _) BR.out L.out M.out [.slice a3 n c3, .slice a6 k6 c6] 0 (by simp))
      rw [← hw5.out] at T
      clear BX BR L M hw5
      have BX : Hid (Box w5 w.heap.size 27 (tc (.slice a3 n c3) (.slice a6 k6 c6) p r l)) := T.out.1
      have BR := hide T.out.2.1
      have L := hide T.out.2.2.1
      have M := hide T.out.2.2.2
      clear T
      have hDr := hide (Later.refl w5).drew
      go_wp2_with fail
      refine wp_region_bag [0] [1, 2, 3] [2, 3] (by kernel_rfl) (by kernel_rfl) (by kernel_rfl) (by kernel_rfl) ?_
      have hc := fun r => (hDr.out.trans (later_rg _ r))
      have q0 := fun r => (BX.out.later (hc r)).cell 0
      have q1 := fun r => (BX.out.later (hc r)).cell 1
      have q2 := fun r => (BX.out.later (hc r)).cell 2
      have q3 := fun r => (BX.out.later (hc r)).cell 3
      have q4 := fun r => (BX.out.later (hc r)).cell 4
      refine wpM_mild rfl (fun K hK => ?_)
      go_simp
      refine hK _ ?_
      clear hK K q0 q1 q2 q3 q4 hc
      have hwd := hDr.out
      refine wpM_nil (bag_of (fun i => match i with | 3 => [1, 2] | _ => [])
        (fun W => Later w W ∧ Box W gW 30 (sc (0, 0, 0)) ∧ Med W (.agg #[(.slice a3 n c3), (.slice a6 k6 c6)]) n (wrF n F D (z : Int) X th) (wrD n D (z : Int) X th) ∧ (∃ cr, NoInts cr ∧ cr.length = 5 ∧ Box W (w.heap.size + 1 + 1) 27 cr) ∧ (∃ cz : List Value, cz.length = 3 ∧ Box W (w.heap.size + 1 + 1 + 1) 30 cz))
        (fun i vals W => match i with
          | 1 => vals 1 = sval (0, 0, 0)
          | 2 => Box W (w.heap.size + 1 + 1) 27 (tc (.slice a3 n c3) (.slice a6 k6 c6) p r l)
          | 3 => Box W (w.heap.size + 1 + 1 + 1) 30 (sc (0, 0, 0))
          | _ => True) (by kernel_rfl) (by kernel_rfl) ?c1 ?c2 ?c3 ?c4 ?c5 ?c6 ?c7 ?c8)
      case c1 => exact ⟨L.out.trans hwd, BW.out.later hwd, M.out.later hwd, ⟨_, tc_noints _ _ _ _ _ _ _ _ _, rfl, BR.out.later hwd⟩, _, rfl, BS.out.later hwd⟩
      case c2 =>
        rintro W W' hl ⟨ii1, ii2, ii3, ⟨cr, jj1, jj2, jj3⟩, cz, jj4, jj5⟩
        exact ⟨ii1.trans hl, ii2.later hl, ii3.later hl, ⟨cr, jj1, jj2, jj3.later hl⟩, cz, jj4, jj5.later hl⟩
      case c3 =>
        intro i hi vals W W' hl h
        simp only [List.mem_cons, List.not_mem_nil, or_false] at hi
        rcases hi with rfl | rfl | rfl
        · exact h
        · exact Box.later h hl
        · exact Box.later h hl
      case c4 =>
        intro i hi k hk hne hds vals v W h
        simp only [List.mem_cons, List.not_mem_nil, or_false] at hi hk
        rcases hi with rfl | rfl | rfl <;> rcases hk with rfl | rfl | rfl <;> first | (exact absurd rfl hne) | (simp at hds; done) | (simpa [upd] using h)
      case c5 =>
        rintro i hi hni vals W ⟨ii1, ii2, ii3, ii4, ii5⟩ hlb hdep
        simp only [List.mem_cons, List.not_mem_nil, or_false] at hi
        rcases hi with rfl | rfl | rfl
        · have y0 := ii2.cell 0
          have y1 := ii2.cell 1
          have y2 := ii2.cell 2
          refine lVal_step rfl (fun K hK => ?_)
          simp only [putAll, List.foldl]
          go_simp
          exact ⟨Later.refl _, hK _ _ (by simp [upd])⟩
        · exact absurd (by simp) hni
        · exact absurd (by simp) hni
      case c6 =>
        rintro i hi hni vals W ⟨ii1, ii2, ii3, ⟨cr, jj1, jj2, jj3⟩, cz, jj4, jj5⟩ hlb hdep
        simp only [List.mem_cons, List.not_mem_nil, or_false] at hni
        rcases hni with rfl | rfl
        · refine sVal_store rfl rfl 27 (.tmp 8) (.tmp 35) rfl (w.heap.size + 1 + 1) (tc (.slice a3 n c3) (.slice a6 k6 c6) p r l) rfl rfl (jj3.there 0 5 (by omega)) Try.info_slot (tc_one _ _ _ _ _ _ _ _ _) (fun u => ⟨⟨ii1.setCells (by omega) _ 0, ii2.kept (heap_setCells_other W _ _ (box_ne ii2 jj3 (by decide)) _ _), ii3.setBox jj3 jj1 _ 0, ⟨_, tc_noints _ _ _ _ _ _ _ _ _, rfl, jj3.all _ (by simp [jj2])⟩, cz, jj4, jj5.kept (heap_setCells_other W _ _ (by omega) _ _)⟩, ?_, fun k hk => by cases hk⟩)
          exact jj3.all _ (by simp [jj2])
        · have h1 : vals 1 = sval (0, 0, 0) := hdep 1 (by simp)
          have h2 : Box W (w.heap.size + 1 + 1) 27 (tc (.slice a3 n c3) (.slice a6 k6 c6) p r l) := hdep 2 (by simp)
          refine sVal_store rfl rfl 30 (.tmp 9) (.tmp 36) rfl (w.heap.size + 1 + 1 + 1) (sc (0, 0, 0)) rfl ?_ (jj5.there 0 3 (by omega)) Try.info_sense (sc_one _) (fun u => ⟨⟨ii1.setCells (by omega) _ 0, ii2.kept (heap_setCells_other W _ _ hgW _ _), ii3.setOff hOff.out.1 hOff.out.2 _ 0, ⟨_, tc_noints _ _ _ _ _ _ _ _ _, rfl, h2.kept (heap_setCells_other W _ _ (by omega) _ _)⟩, _, rfl, jj5.all (sc (0, 0, 0)) (by simp [jj4])⟩, ?_, ?_⟩)
          · exact h1
          · exact jj5.all (sc (0, 0, 0)) (by simp [jj4])
          · intro k hk
            simp only [List.mem_cons, List.not_mem_nil, or_false] at hk
            rcases hk with rfl | rfl
            · exact h1
            · exact h2.kept (heap_setCells_other W _ _ (by omega) _ _)
      case c7 =>
        intro i hi hst k hk hne hds hds' vals W W' h
        simp only [List.mem_cons, List.not_mem_nil, or_false] at hst hk
        rcases hst with rfl | rfl <;> rcases hk with rfl | rfl | rfl <;> first | (exact absurd rfl hne) | (exact h) | (simp at hds; done) | (simp at hds'; done)
      case c8 =>
        rintro vals wz ⟨ii1, ii2, ii3, ii4, ii5⟩ hall
        have h1 : vals 1 = sval (0, 0, 0) := hall 1 (by simp)
        have T2 : Hid (Box wz (w.heap.size + 1 + 1) 27 (tc (.slice a3 n c3) (.slice a6 k6 c6) p r l)) := hall 2 (by simp)
        have T3 : Hid (Box wz (w.heap.size + 1 + 1 + 1) 30 (sc (0, 0, 0))) := hall 3 (by simp)
        have TL := hide ii1
        have TM := hide ii3
        clear ii1 ii2 ii3 ii4 ii5 hall BX BR BS BW L M hOff hDr hwd
        simp only [putAll, List.foldl, dstOf, h1]
        go_wp2
        refine bodyPost_ret (results_cell_cell' rfl _ _ _ (w.heap.size + 1 + 1) 0 (w.heap.size + 1 + 1 + 1) 0 rfl rfl (.agg #[(.slice a3 n c3), (.slice a6 k6 c6), .bool p, .bool r, .bool l]) (sval (0, 0, 0)) (shut5 T2.out rfl) (shut3 T3.out)) rfl ⟨.agg #[(.slice a3 n c3), (.slice a6 k6 c6), .bool p, .bool r, .bool l], ?_, TL.out, ?_⟩
        · rw [HSv.out]
        · rw [HSv.out, show ptF n F D (0, 0, 0) (z : Int) X th = wrF n F D (z : Int) X th from rfl, show ptD n D (0, 0, 0) (z : Int) X th = wrD n D (z : Int) X th from rfl]
          exact Slt.mk' _ _ _ TM.out
end Go.Proofs.Ytbcikndebaeahaa

namespace Go.Proofs.Ytbcikndebaeahaa
open Go.ChangeShapes Go.WideShapes Go.ChangeAt Go.RowKit
set_option linter.unusedVariables false
set_option maxRecDepth 4000
set_option linter.unusedSimpArgs false
/-! What the landed slot does, said; proved in P5. -/
def IReadyT : Prop := ∀ (v : Value) (n : Nat) (F : List UInt8) (D : List Drt) (p r l : Bool) (w : World), Slt w v n F D p r l →
  Calls Try.prog 73 #[v] w fun e w' => e = .returned (sval (readyS p)) ∧ Later w w'
def ICheckT : Prop := ∀ (v : Value) (n : Nat) (F : List UInt8) (D : List Drt) (p r l : Bool) (at_ : Nat) (m : Int) (wr : Bool) (w : World), Slt w v n F D p r l → at_ ≤ 18446744073709551615 → -9223372036854775808 ≤ m → m ≤ 9223372036854775807 → n ≤ 100 → D.length ≤ 100 →
  Calls Try.prog 62 #[v, .int .u64 at_, .int .i64 m, .bool wr] w fun e w' => e = .returned (sval (checkS n D p r at_ m wr)) ∧ Later w w'
def IReadT : Prop := ∀ (v : Value) (n : Nat) (F : List UInt8) (D : List Drt) (p r l : Bool) (at_ : Nat) (m : Int) (w : World), Slt w v n F D p r l → at_ ≤ 18446744073709551615 → -9223372036854775808 ≤ m → m ≤ 9223372036854775807 → n ≤ 100 → D.length ≤ 100 →
  Calls Try.prog 66 #[v, .int .u64 at_, .int .i64 m] w fun e w' => ∃ v', e = .returned (.tuple #[v', sval (checkS n D p r at_ m false)]) ∧ Later w w' ∧ Bs w' v' (rdL n F D (checkS n D p r at_ m false) at_ m)
section
variable {H : Type} {enc : TypeId × Value → H} {w : World} {r : Reach} {base : Nat} {v : Value} {d : DataW H} {p : List MemPlace}
end
end Go.Proofs.Ytbcikndebaeahaa

namespace Go.Proofs.Ytbcikndebaeahaa
open Go.ChangeShapes Go.WideShapes Go.ChangeAt Go.RowKit
set_option linter.unusedVariables false
set_option maxRecDepth 4000
set_option linter.unusedSimpArgs false
/-! 'x, e := F(..)', x a struct, in a region that draws its order: the call, its parts, the new variable, the store. -/
def ptr (g : Nat) : Value := .pointer (some ⟨g, 0, none⟩)
theorem run_extract {P : Program} {o : Oper} {a : Act} (x : Operand) (n : Nat) (hop : o.op = .extract x n) (vs : Array Value) (v : Value) (hx : a.eval x = .tuple vs) (hv : vs[n]? = some v) (w : World) : (execOp a.eval o).run P w = .ok (.value v) w := by
  simp [execOp, hop, hx, Instr.extract, hv, Result.andThen]
theorem run_move {P : Program} {o : Oper} {a : Act} (x : Operand) (hop : o.op = .move x) (v : Value) (hx : a.eval x = v) (w : World) : (execOp a.eval o).run P w = .ok (.value v) w := by
  simp [execOp, hop, hx, Result.andThen]
theorem run_assign {P : Program} {o : Oper} {a : Act} (x : Operand) (hop : o.op = .assign x) (v : Value) (hx : a.eval x = v) (w : World) : (execOp a.eval o).run P w = .ok (.value v) w := by
  simp [execOp, hop, hx, Result.andThen]
theorem run_alloc {P : Program} {o : Oper} {a : Act} (ty : TypeId) (hop : o.op = .alloc ty) (z : Array Value) (n : Nat) (hz : (P.info? ty).map (fun i => (i.zero, i.size)) = some (some (.agg z), n)) (w : World) : (execOp a.eval o).run P w = .ok (.value (ptr w.heap.size)) (w.alloc (.cells z ty)) := by
  obtain ⟨hzv, hsz⟩ := zero_of_info hz
  simp [execOp, hop, Instr.alloc, hzv, Result.andThen, newVar, newRow, Value.cells, ptr]
theorem dstOf_of {ops : Array Oper} {i : Nat} {o : Oper} {d : Option Tmp} (h : ops[i]? = some o) (hd : o.dst = d) : dstOf ops i = d := by simp [dstOf, h, hd]
theorem eval_put_ne {a : Act} {d t : Tmp} {v : Value} (h : t ≠ d) : (a.put (some d) v).eval (.tmp t) = a.eval (.tmp t) := Act.eval_put fun x hx e => by
  cases hx
  simp at e
  exact h e
theorem put_size (a : Act) (d : Option Tmp) (v : Value) : (a.put d v).tmps.size = a.tmps.size := by
  cases d <;> simp [Act.put]
end Go.Proofs.Ytbcikndebaeahaa

namespace Go.Proofs.Ytbcikndebaeahaa
open Go.ChangeShapes Go.WideShapes Go.ChangeAt Go.RowKit
set_option linter.unusedVariables false
set_option maxRecDepth 4000
set_option linter.unusedSimpArgs false
/-! 'x, y := f(..)' with structs; a sense's variable lies apart from a medium. -/
theorem put_none (a : Act) (v : Value) : a.put none v = a := rfl
theorem eval_put_other {a : Act} {d : Tmp} {v : Value} {y : Operand} (h : y ≠ .tmp d) : (a.put (some d) v).eval y = a.eval y :=
  Act.eval_put fun t ht e => h (by rw [e]; cases ht; rfl)
theorem wpList_alloc1 {P : Program} {w : World} {ops : Array Oper} {rest : List Oper} {o : Oper} {a : Act} {Q : Exit → Act → World → Prop} (hg : o.guard = none) (ty : TypeId) (h1 : o.op = .alloc ty) (z : Array Value) (n : Nat) (hz : (P.info? ty).map (fun i => (i.zero, i.size)) = some (some (.agg z), n))
    (h : wpList P ops Q rest (a.put o.dst (.pointer (some ⟨w.heap.size, 0, none⟩))) (w.alloc (.cells z ty))) : wpList P ops Q (o :: rest) a w := by
  refine wpList_plain hg fun K hK => ?_
  unfold Go.Oper.wp
  rw [run_alloc ty h1 z n hz w]
  exact hK _ _ h
/-- 'x, y := f(..)', both structs: two variables of their own -/
theorem wpList_new2 {P : Program} {w : World} {ops : Array Oper} {rest : List Oper} {o1 o2 o3 o4 : Oper} {a : Act} {Q : Exit → Act → World → Prop} (hg1 : o1.guard = none) (hg2 : o2.guard = none) (hg3 : o3.guard = none) (hg4 : o4.guard = none)
    (t1 t2 : TypeId) (h1 : o1.op = .alloc t1) (h2 : o2.op = .alloc t2) (d1 d2 : Tmp) (hd1 : o1.dst = some d1) (hd2 : o2.dst = some d2) (hs1 : d1 < a.tmps.size) (hs2 : d2 < a.tmps.size) (hne : d1 ≠ d2) (y1 y2 : Operand) (hy1 : y1 ≠ .tmp d1) (hy1' : y1 ≠ .tmp d2) (hy2 : y2 ≠ .tmp d1) (hy2' : y2 ≠ .tmp d2)
    (h3 : o3.op = .store t1 (.tmp d1) y1) (h4 : o4.op = .store t2 (.tmp d2) y2) (hd3 : o3.dst = none) (hd4 : o4.dst = none) (z1 z2 : Array Value) (c1 c2 : List Value)
    (hz1 : (P.info? t1).map (fun i => (i.zero, i.size)) = some (some (.agg z1), c1.length)) (hzs1 : z1.size = c1.length) (hz2 : (P.info? t2).map (fun i => (i.zero, i.size)) = some (some (.agg z2), c2.length)) (hzs2 : z2.size = c2.length)
    (e1 : a.eval y1 = .agg c1.toArray) (e2 : a.eval y2 = .agg c2.toArray) (k1 : ∀ v ∈ c1, v.oneCell' = true) (k2 : ∀ v ∈ c2, v.oneCell' = true)
    (h : ∀ (g1 g2 : Nat) (w' : World), Box w' g1 t1 c1 → Box w' g2 t2 c2 → Later w w' → Hid (g1 = w.heap.size ∧ g2 = w.heap.size + 1) → wpList P ops Q rest ((a.put (some d1) (.pointer (some ⟨g1, 0, none⟩))).put (some d2) (.pointer (some ⟨g2, 0, none⟩))) w') : wpList P ops Q (o1 :: o2 :: o3 :: o4 :: rest) a w := by
  refine wpList_alloc1 hg1 t1 h1 z1 _ hz1 ?_
  refine wpList_alloc1 hg2 t2 h2 z2 _ hz2 ?_
  rw [hd1, hd2]
  have hsz : (w.alloc (.cells z1 t1)).heap.size = w.heap.size + 1 := by simp
  rw [hsz]
  have B1 : Box ((w.alloc (.cells z1 t1)).alloc (.cells z2 t2)) w.heap.size t1 z1.toList := (Box.new w t1 z1).alloc _
  have B2 : Box ((w.alloc (.cells z1 t1)).alloc (.cells z2 t2)) (w.heap.size + 1) t2 z2.toList := Box.new' _ _ _ _ rfl _ hsz.symm
  have LL : Later w ((w.alloc (.cells z1 t1)).alloc (.cells z2 t2)) := ((Later.refl w).alloc _).alloc _
  generalize ((w.alloc (.cells z1 t1)).alloc (.cells z2 t2)) = w2 at *
  refine wpList_storeT hg3 t1 (.tmp d1) y1 h3 w.heap.size 0 ?_ c1 ?_ (zero_of_info hz1).2 k1 t1 _ B1 (by simp [hzs1]) ?_
  · rw [eval_put_other (by intro e; cases e; exact hne rfl), put_eval hs1]
  · rw [eval_put_other hy1', eval_put_other hy1, e1]
  intro w3 hw3
  have C1 := B1.all c1 (by simp [hzs1])
  have C2 : Box (w2.setCells w.heap.size 0 c1) (w.heap.size + 1) t2 z2.toList := B2.kept (heap_setCells_other w2 _ _ (by omega) _ _)
  have L3 := LL.setCells (g := w.heap.size) (Nat.le_refl _) c1 0
  rw [← hw3.out] at C1 C2 L3
  rw [hd3, put_none]
  refine wpList_storeT hg4 t2 (.tmp d2) y2 h4 (w.heap.size + 1) 0 ?_ c2 ?_ (zero_of_info hz2).2 k2 t2 _ C2 (by simp [hzs2]) ?_
  · rw [put_eval (by rw [put_size]; exact hs2)]
  · rw [eval_put_other hy2', eval_put_other hy2, e2]
  intro w4 hw4
  have E2 := C2.all c2 (by simp [hzs2])
  have E1 : Box (w3.setCells (w.heap.size + 1) 0 c2) w.heap.size t1 c1 := C1.kept (heap_setCells_other w3 _ _ (by omega) _ _)
  have L4 := L3.setCells (g := w.heap.size + 1) (by omega) c2 0
  rw [← hw4.out] at E1 E2 L4
  rw [hd4, put_none]
  exact h _ _ _ E1 E2 L4 ⟨rfl, rfl⟩
/-- 'x, y := f(..)', y alone a struct: the variable is made, x is set, then y is stored -/
theorem wpList_newA {P : Program} {w : World} {ops : Array Oper} {rest : List Oper} {o1 o2 o3 : Oper} {a : Act} {Q : Exit → Act → World → Prop} (hg1 : o1.guard = none) (hg2 : o2.guard = none) (hg3 : o3.guard = none)
    (t : TypeId) (h1 : o1.op = .alloc t) (d d2 : Tmp) (hd1 : o1.dst = some d) (hd2 : o2.dst = some d2) (hs1 : d < a.tmps.size) (hne : d ≠ d2) (x y : Operand) (hx : x ≠ .tmp d) (hy : y ≠ .tmp d) (hy' : y ≠ .tmp d2)
    (h2 : o2.op = .assign x) (h3 : o3.op = .store t (.tmp d) y) (hd3 : o3.dst = none) (z : Array Value) (c : List Value) (xv : Value)
    (hz : (P.info? t).map (fun i => (i.zero, i.size)) = some (some (.agg z), c.length)) (hzs : z.size = c.length) (ex : a.eval x = xv) (e : a.eval y = .agg c.toArray) (k : ∀ v ∈ c, v.oneCell' = true)
    (h : ∀ (g : Nat) (w' : World), Box w' g t c → Later w w' → Hid (g = w.heap.size) → wpList P ops Q rest ((a.put (some d) (.pointer (some ⟨g, 0, none⟩))).put (some d2) xv) w') : wpList P ops Q (o1 :: o2 :: o3 :: rest) a w := by
  refine wpList_alloc1 hg1 t h1 z _ hz ?_
  rw [hd1]
  refine wpList_plain hg2 fun K hK => ?_
  unfold Go.Oper.wp
  rw [run_assign x h2 xv (by rw [eval_put_other hx, ex])]
  refine hK _ _ ?_
  rw [hd2]
  have B1 : Box (w.alloc (.cells z t)) w.heap.size t z.toList := Box.new w t z
  have LL : Later w (w.alloc (.cells z t)) := (Later.refl w).alloc _
  generalize (w.alloc (.cells z t)) = w2 at *
  refine wpList_storeT hg3 t (.tmp d) y h3 w.heap.size 0 ?_ c ?_ (zero_of_info hz).2 k t _ B1 (by simp [hzs]) ?_
  · rw [eval_put_other (by intro e; cases e; exact hne rfl), put_eval hs1]
  · rw [eval_put_other hy', eval_put_other hy, e]
  intro w3 hw3
  have C1 := B1.all c (by simp [hzs])
  have L3 := LL.setCells (g := w.heap.size) (Nat.le_refl _) c 0
  rw [← hw3.out] at C1 L3
  rw [hd3, put_none]
  exact h _ _ C1 L3 rfl
/-- 'x, y := f(..)', a slot and a sense -/
theorem wpList_newTS {w : World} {ops : Array Oper} {rest : List Oper} {o1 o2 o3 o4 : Oper} {a : Act} {Q : Exit → Act → World → Prop} (hg1 : o1.guard = none) (hg2 : o2.guard = none) (hg3 : o3.guard = none) (hg4 : o4.guard = none)
    (h1 : o1.op = .alloc 27) (h2 : o2.op = .alloc 30) (d1 d2 : Tmp) (hd1 : o1.dst = some d1) (hd2 : o2.dst = some d2) (hs1 : d1 < a.tmps.size) (hs2 : d2 < a.tmps.size) (hne : d1 ≠ d2) (y1 y2 : Operand) (hy1 : y1 ≠ .tmp d1) (hy1' : y1 ≠ .tmp d2) (hy2 : y2 ≠ .tmp d1) (hy2' : y2 ≠ .tmp d2)
    (h3 : o3.op = .store 27 (.tmp d1) y1) (h4 : o4.op = .store 30 (.tmp d2) y2) (hd3 : o3.dst = none) (hd4 : o4.dst = none)
    (x1 x2 : Option Addr) (n1 c1 n2 c2 : Nat) (p r l : Bool) (s : Sns) (e1 : a.eval y1 = .agg #[.slice x1 n1 c1, .slice x2 n2 c2, .bool p, .bool r, .bool l]) (e2 : a.eval y2 = sval s)
    (h : ∀ (g1 g2 : Nat) (w' : World), Box w' g1 27 (tc (.slice x1 n1 c1) (.slice x2 n2 c2) p r l) → Box w' g2 30 (sc s) → Later w w' → Hid (g1 = w.heap.size ∧ g2 = w.heap.size + 1) → wpList Try.prog ops Q rest ((a.put (some d1) (.pointer (some ⟨g1, 0, none⟩))).put (some d2) (.pointer (some ⟨g2, 0, none⟩))) w') : wpList Try.prog ops Q (o1 :: o2 :: o3 :: o4 :: rest) a w :=
  wpList_new2 hg1 hg2 hg3 hg4 27 30 h1 h2 d1 d2 hd1 hd2 hs1 hs2 hne y1 y2 hy1 hy1' hy2 hy2' h3 h4 hd3 hd4 #[.slice none 0 0, .slice none 0 0, .bool false, .bool false, .bool false] #[.int .i64 0, .int .i64 0, .int .i64 0] (tc (.slice x1 n1 c1) (.slice x2 n2 c2) p r l) (sc s) Try.zero_slot rfl Try.zero_sense rfl e1 e2 (tc_one _ _ _ _ _ _ _ _ _) (sc_one s) h
/-- 'x, y := f(..)', a value of one cell and a sense -/
theorem wpList_newAS {w : World} {ops : Array Oper} {rest : List Oper} {o1 o2 o3 : Oper} {a : Act} {Q : Exit → Act → World → Prop} (hg1 : o1.guard = none) (hg2 : o2.guard = none) (hg3 : o3.guard = none)
    (h1 : o1.op = .alloc 30) (d d2 : Tmp) (hd1 : o1.dst = some d) (hd2 : o2.dst = some d2) (hs1 : d < a.tmps.size) (hne : d ≠ d2) (x y : Operand) (hx : x ≠ .tmp d) (hy : y ≠ .tmp d) (hy' : y ≠ .tmp d2)
    (h2 : o2.op = .assign x) (h3 : o3.op = .store 30 (.tmp d) y) (hd3 : o3.dst = none) (xv : Value) (s : Sns) (ex : a.eval x = xv) (e : a.eval y = sval s)
    (h : ∀ (g : Nat) (w' : World), Box w' g 30 (sc s) → Later w w' → Hid (g = w.heap.size) → wpList Try.prog ops Q rest ((a.put (some d) (.pointer (some ⟨g, 0, none⟩))).put (some d2) xv) w') : wpList Try.prog ops Q (o1 :: o2 :: o3 :: rest) a w :=
  wpList_newA hg1 hg2 hg3 30 h1 d d2 hd1 hd2 hs1 hne x y hx hy hy' h2 h3 hd3 #[.int .i64 0, .int .i64 0, .int .i64 0] (sc s) xv Try.zero_sense rfl ex e (sc_one s) h
/-- a medium's rows lie in no sense -/
theorem Rw.setApart {sz : Nat} {w : World} {v : Value} {n : Nat} {xs : List Value} {g : Nat} {ty : TypeId} {cs : List Value} (h : Rw sz w v n xs) (j : Nat) (hB : Box w g ty cs) (hc : 0 < n → ∃ u, xs[j]? = some u ∧ u ∉ cs) (vs : List Value) (o : Nat) : Rw sz (w.setCells g o vs) v n xs := by
  obtain ⟨h1, h2, a, cap, rfl, hcap, h3⟩ := h
  refine ⟨h1, h2, a, cap, rfl, hcap, ?_⟩
  by_cases hn : n = 0
  · exact .inl hn
  rcases h3 with h3 | ⟨b, off, rfl, hr⟩
  · exact .inl h3
  · refine .inr ⟨b, off, rfl, ?_⟩
    obtain ⟨u, hu, hnu⟩ := hc (by omega)
    have hne : b ≠ g := fun e => by
      subst e
      have h4 := hr j u hu
      rw [hB.cell] at h4
      exact hnu (List.mem_of_getElem? h4)
    intro j u hu
    rw [← hr j u hu]
    simp only [World.cell?, heap_setCells_other w g b hne]
end Go.Proofs.Ytbcikndebaeahaa
