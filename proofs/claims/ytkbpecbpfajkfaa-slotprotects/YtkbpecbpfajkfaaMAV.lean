import Derived.Test.YtkbpecbpfajkfaaMAU
import Derived.Test.YtkbpecbpfajkfaaMAM
namespace Go.Proofs.Ytkbpecbpfajkfaa
open Go.ChangeShapes Go.WideShapes Go.ChangeAt Go.RowKit
set_option linter.unusedVariables false
set_option linter.unusedSimpArgs false

/-! Calls that give a slot and a sense, in regions that draw their order; the frame is a variable. -/
theorem heap_size_setCells (w : World) (g : Nat) : ∀ (o : Nat) (vs : List Value), (w.setCells g o vs).heap.size = w.heap.size := by
  intro o vs
  induction vs generalizing w o with
  | nil => rfl
  | cons v vs ih => rw [World.setCells, ih]; unfold World.setCell; split <;> simp
abbrev slv (x1 : Option Addr) (n y1 : Nat) (x2 : Option Addr) (k2 y2 : Nat) (p r l : Bool) : Value := .agg #[.slice x1 n y1, .slice x2 k2 y2, .bool p, .bool r, .bool l]
def OpAt (ops : Array Oper) (i : Nat) (d : Option Tmp) (op : Op) : Prop := ∃ o, ops[i]? = some o ∧ o.guard = none ∧ o.dst = d ∧ o.op = op
theorem OpAt.dst {ops : Array Oper} {i : Nat} {d : Option Tmp} {op : Op} (h : OpAt ops i d op) : dstOf ops i = d := by
  obtain ⟨o, h1, _, h3, _⟩ := h
  exact dstOf_of h1 h3
theorem lVal_callAt {P : Program} {ops : Array Oper} {i : Nat} {R : Value → World → Prop} {a : Act} {w : World} {d : Option Tmp} {f : FuncId} {xs : List Operand} {ts : Array TypeId} (h : OpAt ops i d (.call { callee := .value (.func f), args := xs.toArray, argTypes := ts })) (hp : Plain P f) (us : List Value) (hx : xs.map a.eval = us)
    (hc : Calls P f us.toArray w fun e w' => ∃ v, e = .returned v ∧ Later w w' ∧ R v w') : lVal P ops i R a w := by
  obtain ⟨o, h1, h2, h3, h4⟩ := h
  refine lVal_step h1 fun K hK => ?_
  rw [if_pos (by simp [Region.wanted, h2])]
  rw [run_call f hp xs ts h4 us hx]
  refine ⟨rfl, hc.mono ?_⟩
  rintro e w' ⟨v, q1, q2, q3⟩
  exact ⟨_, q1, q2, hK _ _ q3⟩
theorem lVal_moveAt {P : Program} {ops : Array Oper} {i : Nat} {R : Value → World → Prop} {a : Act} {w : World} {d : Option Tmp} {x : Operand} (h : OpAt ops i d (.move x)) (v : Value) (hx : a.eval x = v) (hR : R v w) : lVal P ops i R a w := by
  obtain ⟨o, h1, h2, h3, h4⟩ := h
  exact lVal_of_run h1 h2 v w (run_move _ h4 _ hx w) (Later.refl w) hR
theorem lVal_extractAt {P : Program} {ops : Array Oper} {i : Nat} {R : Value → World → Prop} {a : Act} {w : World} {d : Option Tmp} {x : Operand} {k : Nat} (h : OpAt ops i d (.extract x k)) (vs : Array Value) (v : Value) (hx : a.eval x = .tuple vs) (hv : vs[k]? = some v) (hR : R v w) : lVal P ops i R a w := by
  obtain ⟨o, h1, h2, h3, h4⟩ := h
  exact lVal_of_run h1 h2 v w (run_extract x k h4 vs v hx hv w) (Later.refl w) hR
theorem lVal_allocAt {P : Program} {ops : Array Oper} {i : Nat} {R : Value → World → Prop} {a : Act} {w : World} {d : Option Tmp} {ty : TypeId} (h : OpAt ops i d (.alloc ty)) (z : Array Value) (n : Nat) (hz : (P.info? ty).map (fun i => (i.zero, i.size)) = some (some (.agg z), n)) (hR : R (.pointer (some ⟨w.heap.size, 0, none⟩)) (w.alloc (.cells z ty))) : lVal P ops i R a w := by
  obtain ⟨o, h1, h2, h3, h4⟩ := h
  exact lVal_of_run h1 h2 _ _ (run_alloc ty h4 z n hz w) ((Later.refl w).alloc _) hR
theorem sVal_storeAt {P : Program} {ops : Array Oper} {i : Nat} {R : Value → World → Prop} {a : Act} {w : World} {d : Option Tmp} {ty : TypeId} {x y : Operand} (h : OpAt ops i d (.store ty x y)) (g : Nat) (cells : List Value) (hx : a.eval x = .pointer (some ⟨g, 0, none⟩)) (hy : a.eval y = .agg cells.toArray) (ht : w.there g 0 cells.length) (hi : (P.info? ty).map (·.size) = some cells.length) (h1 : ∀ u ∈ cells, u.oneCell' = true)
    (hR : ∀ u, R u (w.setCells g 0 cells)) : sVal P ops i R a w := by
  obtain ⟨o, q1, q2, q3, q4⟩ := h
  exact sVal_store q1 q2 ty x y q4 g cells hx hy ht hi h1 hR
theorem eval_same {a : Act} {d : Tmp} {v : Value} (h : d < a.tmps.size) : (a.put (some d) v).eval (.tmp d) = v := put_eval h

set_option maxHeartbeats 1000000 in
theorem putnew_two {ops : Array Oper} {Q : Exit → Act → World → Prop} {a : Act} {b : World} (n : Nat) (F : List UInt8) (D : List Drt) (p r l : Bool) (S : Sns) (xs : List Operand) (ts : Array TypeId) (us : List Value) (hx : xs.map a.eval = us)
    (hc : OpAt ops 2 (some 42) (.call { callee := .value (.func 32), args := xs.toArray, argTypes := ts })) (hm : OpAt ops 3 (some 39) (.move (.tmp 42))) (h0 : OpAt ops 4 (some 43) (.extract (.tmp 39) 0)) (h1 : OpAt ops 5 (some 44) (.extract (.tmp 39) 1))
    (ha : OpAt ops 6 (some 6) (.alloc 27)) (he : OpAt ops 7 (some 7) (.alloc 35)) (hs : OpAt ops 8 none (.store 27 (.tmp 6) (.tmp 43))) (ht : OpAt ops 9 none (.store 35 (.tmp 7) (.tmp 44))) (hsz : 100 ≤ a.tmps.size)
    (hd : ([2, 3, 4, 5, 6, 7, 8, 9].all fun i => ([2, 3, 4, 5, 6, 7, 8, 9].filter fun k => dep .any ops i k) == (match i with | 3 => [2] | 4 => [2, 3] | 5 => [2, 3] | 8 => [2, 3, 4, 6, 7] | 9 => [2, 3, 4, 5, 6, 7, 8] | _ => [])) = true)
    (hcall : ∀ W, Later b W → Calls Try.prog 32 us.toArray W fun e w' => ∃ v', e = .returned (.tuple #[v', sval S]) ∧ Later W w' ∧ Slt w' v' n F D p r l)
    (hfin : ∀ x1 y1 x2 k2 y2 g1 g2 W, Later b W → Box W g1 27 (tc (.slice x1 n y1) (.slice x2 k2 y2) p r l) → Box W g2 35 (sc S) → Slt W (slv x1 n y1 x2 k2 y2 p r l) n F D p r l → b.heap.size ≤ g1 →
      Q .normal ((((((a.put (some 42) (.tuple #[slv x1 n y1 x2 k2 y2 p r l, sval S])).put (some 39) (.tuple #[slv x1 n y1 x2 k2 y2 p r l, sval S])).put (some 43) (slv x1 n y1 x2 k2 y2 p r l)).put (some 44) (sval S)).put (some 6) (.pointer (some ⟨g1, 0, none⟩))).put (some 7) (.pointer (some ⟨g2, 0, none⟩))) W) :
    ∃ L R', Bag2 Try.prog ops Q [8, 9] [2, 3, 4, 5, 6, 7, 8, 9] a b L R' := by
  refine bag_of2 [2, 3, 4, 5, 6, 7] (fun i => match i with | 3 => [2] | 4 => [2, 3] | 5 => [2, 3] | 8 => [2, 3, 4, 6, 7] | 9 => [2, 3, 4, 5, 6, 7, 8] | _ => [])
    (fun W => Later b W)
    (fun i vals W => match i with
      | 2 => ∃ x1 y1 x2 k2 y2, vals 2 = .tuple #[slv x1 n y1 x2 k2 y2 p r l, sval S] ∧ Slt W (slv x1 n y1 x2 k2 y2 p r l) n F D p r l
      | 3 => vals 3 = vals 2
      | 4 => ∃ x1 y1 x2 k2 y2, vals 2 = .tuple #[slv x1 n y1 x2 k2 y2 p r l, sval S] ∧ vals 4 = slv x1 n y1 x2 k2 y2 p r l ∧ Slt W (slv x1 n y1 x2 k2 y2 p r l) n F D p r l
      | 5 => vals 5 = sval S
      | 6 => ∃ g cr, vals 6 = .pointer (some ⟨g, 0, none⟩) ∧ NoInts cr ∧ cr.length = 5 ∧ Box W g 27 cr ∧ b.heap.size ≤ g
      | 7 => ∃ g s, vals 7 = .pointer (some ⟨g, 0, none⟩) ∧ Box W g 35 (sc s) ∧ b.heap.size ≤ g
      | 8 => ∃ x1 y1 x2 k2 y2 g, vals 2 = .tuple #[slv x1 n y1 x2 k2 y2 p r l, sval S] ∧ vals 4 = slv x1 n y1 x2 k2 y2 p r l ∧ vals 6 = .pointer (some ⟨g, 0, none⟩) ∧ Box W g 27 (tc (.slice x1 n y1) (.slice x2 k2 y2) p r l) ∧ Slt W (slv x1 n y1 x2 k2 y2 p r l) n F D p r l ∧ b.heap.size ≤ g
      | 9 => ∃ g, vals 7 = .pointer (some ⟨g, 0, none⟩) ∧ Box W g 35 (sc S)
      | _ => True) hd (by decide) (by decide) (Later.refl b) (fun w w' hl h => h.trans hl) ?c3 ?c4 ?c5 ?c6 ?c7 ?c8
  case c3 =>
    intro i hi vals W W' hl h
    simp only [List.mem_cons, List.not_mem_nil, or_false] at hi
    rcases hi with rfl | rfl | rfl | rfl | rfl | rfl | rfl | rfl
    · obtain ⟨x1, y1, x2, k2, y2, q1, q2⟩ := h
      exact ⟨x1, y1, x2, k2, y2, q1, q2.later hl⟩
    · exact h
    · obtain ⟨x1, y1, x2, k2, y2, q1, q2, q3⟩ := h
      exact ⟨x1, y1, x2, k2, y2, q1, q2, q3.later hl⟩
    · exact h
    · obtain ⟨g, cr, q1, q2, q3, q4, q5⟩ := h
      exact ⟨g, cr, q1, q2, q3, q4.later hl, q5⟩
    · obtain ⟨g, s, q1, q2, q3⟩ := h
      exact ⟨g, s, q1, q2.later hl, q3⟩
    · obtain ⟨x1, y1, x2, k2, y2, g, q1, q2, q3, q4, q5, q6⟩ := h
      exact ⟨x1, y1, x2, k2, y2, g, q1, q2, q3, q4.later hl, q5.later hl, q6⟩
    · obtain ⟨g, q1, q2⟩ := h
      exact ⟨g, q1, q2.later hl⟩
  case c4 =>
    intro i hi k hk hne hds vals v W h
    simp only [List.mem_cons, List.not_mem_nil, or_false] at hi hk
    rcases hi with rfl | rfl | rfl | rfl | rfl | rfl | rfl | rfl <;> rcases hk with rfl | rfl | rfl | rfl | rfl | rfl | rfl | rfl <;> first | (exact absurd rfl hne) | (simp at hds; done) | (simpa [upd] using h)
  case c5 =>
    refine ⟨?_, ?_, ?_, ?_, ?_, ?_, trivial⟩
    · intro vals W hL hdep
      refine lVal_callAt hc (Plain.of (by kernel_rfl)) us hx ((hcall W hL).mono ?_)
      rintro e w' ⟨v', rfl, q2, q3⟩
      obtain ⟨x1, y1, x2, k2, y2, e, hm3⟩ := q3
      subst e
      exact ⟨_, rfl, q2, x1, y1, x2, k2, y2, by simp [upd], _, _, _, _, _, rfl, hm3⟩
    · intro vals W hL hdep
      refine lVal_moveAt hm (vals 2) ?_ (by simp [upd])
      simp only [putAll, List.foldl, hc.dst]
      exact eval_same (Nat.lt_of_lt_of_le (by decide) hsz)
    · intro vals W hL hdep
      obtain ⟨x1, y1, x2, k2, y2, q1, q2⟩ := hdep 2 (by simp)
      have q3 : vals 3 = vals 2 := hdep 3 (by simp)
      refine lVal_extractAt h0 #[slv x1 n y1 x2 k2 y2 p r l, sval S] (slv x1 n y1 x2 k2 y2 p r l) ?_ rfl ⟨x1, y1, x2, k2, y2, by simpa [upd] using q1, by simp [upd], q2⟩
      simp only [putAll, List.foldl, hc.dst, hm.dst]
      rw [eval_same (by simp only [put_size]; exact Nat.lt_of_lt_of_le (by decide) hsz), q3, q1]
    · intro vals W hL hdep
      obtain ⟨x1, y1, x2, k2, y2, q1, q2⟩ := hdep 2 (by simp)
      have q3 : vals 3 = vals 2 := hdep 3 (by simp)
      refine lVal_extractAt h1 #[slv x1 n y1 x2 k2 y2 p r l, sval S] (sval S) ?_ rfl (by simp [upd])
      simp only [putAll, List.foldl, hc.dst, hm.dst]
      rw [eval_same (by simp only [put_size]; exact Nat.lt_of_lt_of_le (by decide) hsz), q3, q1]
    · intro vals W hL hdep
      exact lVal_allocAt ha _ _ Try.zero_slot ⟨W.heap.size, tc (.slice none 0 0) (.slice none 0 0) false false false, by simp [upd], tc_noints _ _ _ _ _ _ _ _ _, rfl, Box.new W _ _, hL.size⟩
    · intro vals W hL hdep
      exact lVal_allocAt he _ _ Try.zero_sense ⟨W.heap.size, (0, 0, 0), by simp [upd], Box.new W _ _, hL.size⟩
  case c6 =>
    refine ⟨?_, ?_, trivial⟩
    · intro vals W hL hdep
      have q2' := hdep 2 (by simp)
      have q3' := hdep 3 (by simp)
      obtain ⟨x1, y1, x2, k2, y2, q1, q2, q3⟩ := hdep 4 (by simp)
      obtain ⟨g, cr, u1, u2, u3, u4, u5⟩ := hdep 6 (by simp)
      obtain ⟨g', s, v1, v2, v3⟩ := hdep 7 (by simp)
      refine sVal_storeAt hs g (tc (.slice x1 n y1) (.slice x2 k2 y2) p r l) ?_ ?_ (u4.there 0 5 (by omega)) Try.info_slot (tc_one _ _ _ _ _ _ _ _ _) (fun u => ⟨hL.setCells u5 _ 0, ?_, ?_⟩)
      · simp only [putAll, List.foldl, hc.dst, hm.dst, h0.dst, ha.dst, he.dst]
        rw [eval_put_ne (by decide), eval_same (by simp only [put_size]; exact Nat.lt_of_lt_of_le (by decide) hsz), u1]
      · simp only [putAll, List.foldl, hc.dst, hm.dst, h0.dst, ha.dst, he.dst]
        rw [eval_put_ne (by decide), eval_put_ne (by decide), eval_same (by simp only [put_size]; exact Nat.lt_of_lt_of_le (by decide) hsz), q2]
      · exact ⟨x1, y1, x2, k2, y2, g, by simpa [upd] using q1, by simpa [upd] using q2, by simpa [upd] using u1, u4.all _ (by simp [u3]), q3.setBox u4 u2 _ 0, u5⟩
      · intro k hk
        simp only [List.mem_cons, List.not_mem_nil, or_false] at hk
        rcases hk with rfl | rfl | rfl | rfl | rfl
        · exact ⟨x1, y1, x2, k2, y2, q1, q3.setBox u4 u2 _ 0⟩
        · exact q3'
        · exact ⟨x1, y1, x2, k2, y2, q1, q2, q3.setBox u4 u2 _ 0⟩
        · exact ⟨g, _, u1, tc_noints _ _ _ _ _ _ _ _ _, rfl, u4.all (tc (.slice x1 n y1) (.slice x2 k2 y2) p r l) (by simp [u3]), u5⟩
        · exact ⟨g', s, v1, v2.kept (heap_setCells_other W _ _ (box_ne v2 u4 (by decide)) _ _), v3⟩
    · intro vals W hL hdep
      have q3' := hdep 3 (by simp)
      have q5 : vals 5 = sval S := hdep 5 (by simp)
      obtain ⟨x1, y1, x2, k2, y2, g, u1, u2, u3, u4, u5, u6⟩ := hdep 8 (by simp)
      obtain ⟨g', s, v1, v2, v3⟩ := hdep 7 (by simp)
      have hS := u5.setSense v2 (sc S) 0
      have hB := u4.kept (heap_setCells_other W g' g (box_ne u4 v2 (by decide)) (sc S) 0)
      refine sVal_storeAt ht g' (sc S) ?_ ?_ (v2.there 0 3 (by simp)) Try.info_sense (sc_one _) (fun u => ⟨hL.setCells v3 _ 0, ?_, ?_⟩)
      · simp only [putAll, List.foldl, hc.dst, hm.dst, h0.dst, h1.dst, ha.dst, he.dst, hs.dst, put_none]
        rw [eval_same (by simp only [put_size]; exact Nat.lt_of_lt_of_le (by decide) hsz), v1]
      · simp only [putAll, List.foldl, hc.dst, hm.dst, h0.dst, h1.dst, ha.dst, he.dst, hs.dst, put_none]
        rw [eval_put_ne (by decide), eval_put_ne (by decide), eval_same (by simp only [put_size]; exact Nat.lt_of_lt_of_le (by decide) hsz), q5]
      · exact ⟨g', by simpa [upd] using v1, v2.all _ rfl⟩
      · intro k hk
        simp only [List.mem_cons, List.not_mem_nil, or_false] at hk
        rcases hk with rfl | rfl | rfl | rfl | rfl | rfl | rfl
        · exact ⟨x1, y1, x2, k2, y2, u1, hS⟩
        · exact q3'
        · exact ⟨x1, y1, x2, k2, y2, u1, u2, hS⟩
        · exact q5
        · exact ⟨g, _, u3, tc_noints _ _ _ _ _ _ _ _ _, rfl, hB, u6⟩
        · exact ⟨g', S, v1, v2.all _ rfl, v3⟩
        · exact ⟨x1, y1, x2, k2, y2, g, u1, u2, u3, hB, hS, u6⟩
  case c7 =>
    intro i hi hst k hk hne hds hds' vals W W' h
    simp only [List.mem_cons, List.not_mem_nil, or_false] at hst hk
    rcases hst with rfl | rfl <;> rcases hk with rfl | rfl | rfl | rfl | rfl | rfl | rfl | rfl <;> first | (exact absurd rfl hne) | (simp at hds; done) | (simp at hds'; done) | (exact h)
  case c8 =>
    intro vals W hL hall
    have q3 : vals 3 = vals 2 := hall 3 (by simp)
    have q5 : vals 5 = sval S := hall 5 (by simp)
    obtain ⟨x1, y1, x2, k2, y2, g, u1, u2, u3, u4, u5, u6⟩ := hall 8 (by simp)
    obtain ⟨g', v1, v2⟩ := hall 9 (by simp)
    have := hfin x1 y1 x2 k2 y2 g g' W hL u4 v2 u5 u6
    simp only [putAll, List.foldl, hc.dst, hm.dst, h0.dst, h1.dst, ha.dst, he.dst, hs.dst, ht.dst, put_none, q3, q5, u1, u2, u3, v1]
    exact this
set_option maxHeartbeats 1000000 in
theorem putnew_acts {ops : Array Oper} {Q : Exit → Act → World → Prop} {a : Act} {b : World} (n : Nat) (F : List UInt8) (D : List Drt) (p r l : Bool) (S : Sns) (xs : List Operand) (ts : Array TypeId) (us : List Value) (hx : xs.map a.eval = us)
    (hc : OpAt ops 17 (some 88) (.call { callee := .value (.func 32), args := xs.toArray, argTypes := ts })) (hm : OpAt ops 18 (some 70) (.move (.tmp 88))) (h0 : OpAt ops 19 (some 89) (.extract (.tmp 70) 0)) (h1 : OpAt ops 20 (some 90) (.extract (.tmp 70) 1))
    (ha : OpAt ops 21 (some 8) (.alloc 27)) (he : OpAt ops 22 (some 9) (.alloc 35)) (hs : OpAt ops 23 none (.store 27 (.tmp 8) (.tmp 89))) (ht : OpAt ops 24 none (.store 35 (.tmp 9) (.tmp 90))) (hsz : 100 ≤ a.tmps.size)
    (hd : ([17, 18, 19, 20, 21, 22, 23, 24].all fun i => ([17, 18, 19, 20, 21, 22, 23, 24].filter fun k => dep .any ops i k) == (match i with | 18 => [17] | 19 => [17, 18] | 20 => [17, 18] | 23 => [17, 18, 19, 21, 22] | 24 => [17, 18, 19, 20, 21, 22, 23] | _ => [])) = true)
    (hcall : ∀ W, Later b W → Calls Try.prog 32 us.toArray W fun e w' => ∃ v', e = .returned (.tuple #[v', sval S]) ∧ Later W w' ∧ Slt w' v' n F D p r l)
    (hfin : ∀ x1 y1 x2 k2 y2 g1 g2 W, Later b W → Box W g1 27 (tc (.slice x1 n y1) (.slice x2 k2 y2) p r l) → Box W g2 35 (sc S) → Slt W (slv x1 n y1 x2 k2 y2 p r l) n F D p r l → b.heap.size ≤ g1 →
      Q .normal ((((((a.put (some 88) (.tuple #[slv x1 n y1 x2 k2 y2 p r l, sval S])).put (some 70) (.tuple #[slv x1 n y1 x2 k2 y2 p r l, sval S])).put (some 89) (slv x1 n y1 x2 k2 y2 p r l)).put (some 90) (sval S)).put (some 8) (.pointer (some ⟨g1, 0, none⟩))).put (some 9) (.pointer (some ⟨g2, 0, none⟩))) W) :
    ∃ L R', Bag2 Try.prog ops Q [23, 24] [17, 18, 19, 20, 21, 22, 23, 24] a b L R' := by
  refine bag_of2 [17, 18, 19, 20, 21, 22] (fun i => match i with | 18 => [17] | 19 => [17, 18] | 20 => [17, 18] | 23 => [17, 18, 19, 21, 22] | 24 => [17, 18, 19, 20, 21, 22, 23] | _ => [])
    (fun W => Later b W)
    (fun i vals W => match i with
      | 17 => ∃ x1 y1 x2 k2 y2, vals 17 = .tuple #[slv x1 n y1 x2 k2 y2 p r l, sval S] ∧ Slt W (slv x1 n y1 x2 k2 y2 p r l) n F D p r l
      | 18 => vals 18 = vals 17
      | 19 => ∃ x1 y1 x2 k2 y2, vals 17 = .tuple #[slv x1 n y1 x2 k2 y2 p r l, sval S] ∧ vals 19 = slv x1 n y1 x2 k2 y2 p r l ∧ Slt W (slv x1 n y1 x2 k2 y2 p r l) n F D p r l
      | 20 => vals 20 = sval S
      | 21 => ∃ g cr, vals 21 = .pointer (some ⟨g, 0, none⟩) ∧ NoInts cr ∧ cr.length = 5 ∧ Box W g 27 cr ∧ b.heap.size ≤ g
      | 22 => ∃ g s, vals 22 = .pointer (some ⟨g, 0, none⟩) ∧ Box W g 35 (sc s) ∧ b.heap.size ≤ g
      | 23 => ∃ x1 y1 x2 k2 y2 g, vals 17 = .tuple #[slv x1 n y1 x2 k2 y2 p r l, sval S] ∧ vals 19 = slv x1 n y1 x2 k2 y2 p r l ∧ vals 21 = .pointer (some ⟨g, 0, none⟩) ∧ Box W g 27 (tc (.slice x1 n y1) (.slice x2 k2 y2) p r l) ∧ Slt W (slv x1 n y1 x2 k2 y2 p r l) n F D p r l ∧ b.heap.size ≤ g
      | 24 => ∃ g, vals 22 = .pointer (some ⟨g, 0, none⟩) ∧ Box W g 35 (sc S)
      | _ => True) hd (by decide) (by decide) (Later.refl b) (fun w w' hl h => h.trans hl) ?c3 ?c4 ?c5 ?c6 ?c7 ?c8
  case c3 =>
    intro i hi vals W W' hl h
    simp only [List.mem_cons, List.not_mem_nil, or_false] at hi
    rcases hi with rfl | rfl | rfl | rfl | rfl | rfl | rfl | rfl
    · obtain ⟨x1, y1, x2, k2, y2, q1, q2⟩ := h
      exact ⟨x1, y1, x2, k2, y2, q1, q2.later hl⟩
    · exact h
    · obtain ⟨x1, y1, x2, k2, y2, q1, q2, q3⟩ := h
      exact ⟨x1, y1, x2, k2, y2, q1, q2, q3.later hl⟩
    · exact h
    · obtain ⟨g, cr, q1, q2, q3, q4, q5⟩ := h
      exact ⟨g, cr, q1, q2, q3, q4.later hl, q5⟩
    · obtain ⟨g, s, q1, q2, q3⟩ := h
      exact ⟨g, s, q1, q2.later hl, q3⟩
    · obtain ⟨x1, y1, x2, k2, y2, g, q1, q2, q3, q4, q5, q6⟩ := h
      exact ⟨x1, y1, x2, k2, y2, g, q1, q2, q3, q4.later hl, q5.later hl, q6⟩
    · obtain ⟨g, q1, q2⟩ := h
      exact ⟨g, q1, q2.later hl⟩
  case c4 =>
    intro i hi k hk hne hds vals v W h
    simp only [List.mem_cons, List.not_mem_nil, or_false] at hi hk
    rcases hi with rfl | rfl | rfl | rfl | rfl | rfl | rfl | rfl <;> rcases hk with rfl | rfl | rfl | rfl | rfl | rfl | rfl | rfl <;> first | (exact absurd rfl hne) | (simp at hds; done) | (simpa [upd] using h)
  case c5 =>
    refine ⟨?_, ?_, ?_, ?_, ?_, ?_, trivial⟩
    · intro vals W hL hdep
      refine lVal_callAt hc (Plain.of (by kernel_rfl)) us hx ((hcall W hL).mono ?_)
      rintro e w' ⟨v', rfl, q2, q3⟩
      obtain ⟨x1, y1, x2, k2, y2, e, hm3⟩ := q3
      subst e
      exact ⟨_, rfl, q2, x1, y1, x2, k2, y2, by simp [upd], _, _, _, _, _, rfl, hm3⟩
    · intro vals W hL hdep
      refine lVal_moveAt hm (vals 17) ?_ (by simp [upd])
      simp only [putAll, List.foldl, hc.dst]
      exact eval_same (Nat.lt_of_lt_of_le (by decide) hsz)
    · intro vals W hL hdep
      obtain ⟨x1, y1, x2, k2, y2, q1, q2⟩ := hdep 17 (by simp)
      have q3 : vals 18 = vals 17 := hdep 18 (by simp)
      refine lVal_extractAt h0 #[slv x1 n y1 x2 k2 y2 p r l, sval S] (slv x1 n y1 x2 k2 y2 p r l) ?_ rfl ⟨x1, y1, x2, k2, y2, by simpa [upd] using q1, by simp [upd], q2⟩
      simp only [putAll, List.foldl, hc.dst, hm.dst]
      rw [eval_same (by simp only [put_size]; exact Nat.lt_of_lt_of_le (by decide) hsz), q3, q1]
    · intro vals W hL hdep
      obtain ⟨x1, y1, x2, k2, y2, q1, q2⟩ := hdep 17 (by simp)
      have q3 : vals 18 = vals 17 := hdep 18 (by simp)
      refine lVal_extractAt h1 #[slv x1 n y1 x2 k2 y2 p r l, sval S] (sval S) ?_ rfl (by simp [upd])
      simp only [putAll, List.foldl, hc.dst, hm.dst]
      rw [eval_same (by simp only [put_size]; exact Nat.lt_of_lt_of_le (by decide) hsz), q3, q1]
    · intro vals W hL hdep
      exact lVal_allocAt ha _ _ Try.zero_slot ⟨W.heap.size, tc (.slice none 0 0) (.slice none 0 0) false false false, by simp [upd], tc_noints _ _ _ _ _ _ _ _ _, rfl, Box.new W _ _, hL.size⟩
    · intro vals W hL hdep
      exact lVal_allocAt he _ _ Try.zero_sense ⟨W.heap.size, (0, 0, 0), by simp [upd], Box.new W _ _, hL.size⟩
  case c6 =>
    refine ⟨?_, ?_, trivial⟩
    · intro vals W hL hdep
      have q2' := hdep 17 (by simp)
      have q3' := hdep 18 (by simp)
      obtain ⟨x1, y1, x2, k2, y2, q1, q2, q3⟩ := hdep 19 (by simp)
      obtain ⟨g, cr, u1, u2, u3, u4, u5⟩ := hdep 21 (by simp)
      obtain ⟨g', s, v1, v2, v3⟩ := hdep 22 (by simp)
      refine sVal_storeAt hs g (tc (.slice x1 n y1) (.slice x2 k2 y2) p r l) ?_ ?_ (u4.there 0 5 (by omega)) Try.info_slot (tc_one _ _ _ _ _ _ _ _ _) (fun u => ⟨hL.setCells u5 _ 0, ?_, ?_⟩)
      · simp only [putAll, List.foldl, hc.dst, hm.dst, h0.dst, ha.dst, he.dst]
        rw [eval_put_ne (by decide), eval_same (by simp only [put_size]; exact Nat.lt_of_lt_of_le (by decide) hsz), u1]
      · simp only [putAll, List.foldl, hc.dst, hm.dst, h0.dst, ha.dst, he.dst]
        rw [eval_put_ne (by decide), eval_put_ne (by decide), eval_same (by simp only [put_size]; exact Nat.lt_of_lt_of_le (by decide) hsz), q2]
      · exact ⟨x1, y1, x2, k2, y2, g, by simpa [upd] using q1, by simpa [upd] using q2, by simpa [upd] using u1, u4.all _ (by simp [u3]), q3.setBox u4 u2 _ 0, u5⟩
      · intro k hk
        simp only [List.mem_cons, List.not_mem_nil, or_false] at hk
        rcases hk with rfl | rfl | rfl | rfl | rfl
        · exact ⟨x1, y1, x2, k2, y2, q1, q3.setBox u4 u2 _ 0⟩
        · exact q3'
        · exact ⟨x1, y1, x2, k2, y2, q1, q2, q3.setBox u4 u2 _ 0⟩
        · exact ⟨g, _, u1, tc_noints _ _ _ _ _ _ _ _ _, rfl, u4.all (tc (.slice x1 n y1) (.slice x2 k2 y2) p r l) (by simp [u3]), u5⟩
        · exact ⟨g', s, v1, v2.kept (heap_setCells_other W _ _ (box_ne v2 u4 (by decide)) _ _), v3⟩
    · intro vals W hL hdep
      have q3' := hdep 18 (by simp)
      have q5 : vals 20 = sval S := hdep 20 (by simp)
      obtain ⟨x1, y1, x2, k2, y2, g, u1, u2, u3, u4, u5, u6⟩ := hdep 23 (by simp)
      obtain ⟨g', s, v1, v2, v3⟩ := hdep 22 (by simp)
      have hS := u5.setSense v2 (sc S) 0
      have hB := u4.kept (heap_setCells_other W g' g (box_ne u4 v2 (by decide)) (sc S) 0)
      refine sVal_storeAt ht g' (sc S) ?_ ?_ (v2.there 0 3 (by simp)) Try.info_sense (sc_one _) (fun u => ⟨hL.setCells v3 _ 0, ?_, ?_⟩)
      · simp only [putAll, List.foldl, hc.dst, hm.dst, h0.dst, h1.dst, ha.dst, he.dst, hs.dst, put_none]
        rw [eval_same (by simp only [put_size]; exact Nat.lt_of_lt_of_le (by decide) hsz), v1]
      · simp only [putAll, List.foldl, hc.dst, hm.dst, h0.dst, h1.dst, ha.dst, he.dst, hs.dst, put_none]
        rw [eval_put_ne (by decide), eval_put_ne (by decide), eval_same (by simp only [put_size]; exact Nat.lt_of_lt_of_le (by decide) hsz), q5]
      · exact ⟨g', by simpa [upd] using v1, v2.all _ rfl⟩
      · intro k hk
        simp only [List.mem_cons, List.not_mem_nil, or_false] at hk
        rcases hk with rfl | rfl | rfl | rfl | rfl | rfl | rfl
        · exact ⟨x1, y1, x2, k2, y2, u1, hS⟩
        · exact q3'
        · exact ⟨x1, y1, x2, k2, y2, u1, u2, hS⟩
        · exact q5
        · exact ⟨g, _, u3, tc_noints _ _ _ _ _ _ _ _ _, rfl, hB, u6⟩
        · exact ⟨g', S, v1, v2.all _ rfl, v3⟩
        · exact ⟨x1, y1, x2, k2, y2, g, u1, u2, u3, hB, hS, u6⟩
  case c7 =>
    intro i hi hst k hk hne hds hds' vals W W' h
    simp only [List.mem_cons, List.not_mem_nil, or_false] at hst hk
    rcases hst with rfl | rfl <;> rcases hk with rfl | rfl | rfl | rfl | rfl | rfl | rfl | rfl <;> first | (exact absurd rfl hne) | (simp at hds; done) | (simp at hds'; done) | (exact h)
  case c8 =>
    intro vals W hL hall
    have q3 : vals 18 = vals 17 := hall 18 (by simp)
    have q5 : vals 20 = sval S := hall 20 (by simp)
    obtain ⟨x1, y1, x2, k2, y2, g, u1, u2, u3, u4, u5, u6⟩ := hall 23 (by simp)
    obtain ⟨g', v1, v2⟩ := hall 24 (by simp)
    have := hfin x1 y1 x2 k2 y2 g g' W hL u4 v2 u5 u6
    simp only [putAll, List.foldl, hc.dst, hm.dst, h0.dst, h1.dst, ha.dst, he.dst, hs.dst, ht.dst, put_none, q3, q5, u1, u2, u3, v1]
    exact this
set_option maxHeartbeats 1000000 in
/-- the slot goes into a variable that is there already, the sense into a new one -/
theorem putold {ops : Array Oper} {Q : Exit → Act → World → Prop} {a : Act} {b : World} (K : World → Prop) (w : World) (g1 : Nat) (n : Nat) (F : List UInt8) (D : List Drt) (p r l : Bool) (S : Sns) (xs : List Operand) (ts : Array TypeId) (us : List Value) (hx : xs.map a.eval = us)
    (hc : OpAt ops 2 (some 34) (.call { callee := .value (.func 32), args := xs.toArray, argTypes := ts })) (hm : OpAt ops 3 (some 31) (.move (.tmp 34))) (h0 : OpAt ops 4 (some 35) (.extract (.tmp 31) 0)) (h1 : OpAt ops 5 (some 36) (.extract (.tmp 31) 1))
    (he : OpAt ops 6 (some 4) (.alloc 35)) (hs : OpAt ops 7 none (.store 27 (.tmp 1) (.tmp 35))) (ht : OpAt ops 8 none (.store 35 (.tmp 4) (.tmp 36))) (hsz : 100 ≤ a.tmps.size) (hA : a.eval (.tmp 1) = .pointer (some ⟨g1, 0, none⟩))
    (hd : ([2, 3, 4, 5, 6, 7, 8].all fun i => ([2, 3, 4, 5, 6, 7, 8].filter fun k => dep .any ops i k) == (match i with | 3 => [2] | 4 => [2, 3] | 5 => [2, 3] | 7 => [2, 3, 4, 6] | 8 => [2, 3, 4, 5, 6, 7] | _ => [])) = true)
    (hKb : K b) (hKl : ∀ W W', Later W W' → K W → K W') (hKs : ∀ W cr cs, K W → Box W g1 27 cr → NoInts cr → K (W.setCells g1 0 cs)) (hKe : ∀ W g s cs, K W → Box W g 35 (sc s) → b.heap.size ≤ g → K (W.setCells g 0 cs))
    (cr0 : List Value) (hn0 : NoInts cr0) (hl0 : cr0.length = 5) (hB0 : Box b g1 27 cr0) (hw : Later w b) (hg1 : w.heap.size ≤ g1)
    (hcall : ∀ W, K W → Calls Try.prog 32 us.toArray W fun e w' => ∃ v', e = .returned (.tuple #[v', sval S]) ∧ Later W w' ∧ Slt w' v' n F D p r l)
    (hfin : ∀ x1 y1 x2 k2 y2 g W, Later w W → K W → Box W g1 27 (tc (.slice x1 n y1) (.slice x2 k2 y2) p r l) → Box W g 35 (sc S) → Slt W (slv x1 n y1 x2 k2 y2 p r l) n F D p r l →
      Q .normal (((((a.put (some 34) (.tuple #[slv x1 n y1 x2 k2 y2 p r l, sval S])).put (some 31) (.tuple #[slv x1 n y1 x2 k2 y2 p r l, sval S])).put (some 35) (slv x1 n y1 x2 k2 y2 p r l)).put (some 36) (sval S)).put (some 4) (.pointer (some ⟨g, 0, none⟩))) W) :
    ∃ L R', Bag2 Try.prog ops Q [7, 8] [2, 3, 4, 5, 6, 7, 8] a b L R' := by
  refine bag_of2 [2, 3, 4, 5, 6] (fun i => match i with | 3 => [2] | 4 => [2, 3] | 5 => [2, 3] | 7 => [2, 3, 4, 6] | 8 => [2, 3, 4, 5, 6, 7] | _ => [])
    (fun W => Later w W ∧ K W ∧ b.heap.size ≤ W.heap.size ∧ ∃ cr, NoInts cr ∧ cr.length = 5 ∧ Box W g1 27 cr)
    (fun i vals W => match i with
      | 2 => ∃ x1 y1 x2 k2 y2, vals 2 = .tuple #[slv x1 n y1 x2 k2 y2 p r l, sval S] ∧ Slt W (slv x1 n y1 x2 k2 y2 p r l) n F D p r l
      | 3 => vals 3 = vals 2
      | 4 => ∃ x1 y1 x2 k2 y2, vals 2 = .tuple #[slv x1 n y1 x2 k2 y2 p r l, sval S] ∧ vals 4 = slv x1 n y1 x2 k2 y2 p r l ∧ Slt W (slv x1 n y1 x2 k2 y2 p r l) n F D p r l
      | 5 => vals 5 = sval S
      | 6 => ∃ g s, vals 6 = .pointer (some ⟨g, 0, none⟩) ∧ Box W g 35 (sc s) ∧ b.heap.size ≤ g
      | 7 => ∃ x1 y1 x2 k2 y2, vals 2 = .tuple #[slv x1 n y1 x2 k2 y2 p r l, sval S] ∧ vals 4 = slv x1 n y1 x2 k2 y2 p r l ∧ Box W g1 27 (tc (.slice x1 n y1) (.slice x2 k2 y2) p r l) ∧ Slt W (slv x1 n y1 x2 k2 y2 p r l) n F D p r l
      | 8 => ∃ g, vals 6 = .pointer (some ⟨g, 0, none⟩) ∧ Box W g 35 (sc S)
      | _ => True) hd (by decide) (by decide) ⟨hw, hKb, Nat.le_refl _, cr0, hn0, hl0, hB0⟩ ?c2 ?c3 ?c4 ?c5 ?c6 ?c7 ?c8
  case c2 =>
    rintro W W' hl ⟨i1, i2, i3, cr, i4, i5, i6⟩
    exact ⟨i1.trans hl, hKl _ _ hl i2, Nat.le_trans i3 hl.size, cr, i4, i5, i6.later hl⟩
  case c3 =>
    intro i hi vals W W' hl h
    simp only [List.mem_cons, List.not_mem_nil, or_false] at hi
    rcases hi with rfl | rfl | rfl | rfl | rfl | rfl | rfl
    · obtain ⟨x1, y1, x2, k2, y2, q1, q2⟩ := h
      exact ⟨x1, y1, x2, k2, y2, q1, q2.later hl⟩
    · exact h
    · obtain ⟨x1, y1, x2, k2, y2, q1, q2, q3⟩ := h
      exact ⟨x1, y1, x2, k2, y2, q1, q2, q3.later hl⟩
    · exact h
    · obtain ⟨g, s, q1, q2, q3⟩ := h
      exact ⟨g, s, q1, q2.later hl, q3⟩
    · obtain ⟨x1, y1, x2, k2, y2, q1, q2, q3, q4⟩ := h
      exact ⟨x1, y1, x2, k2, y2, q1, q2, q3.later hl, q4.later hl⟩
    · obtain ⟨g, q1, q2⟩ := h
      exact ⟨g, q1, q2.later hl⟩
  case c4 =>
    intro i hi k hk hne hds vals v W h
    simp only [List.mem_cons, List.not_mem_nil, or_false] at hi hk
    rcases hi with rfl | rfl | rfl | rfl | rfl | rfl | rfl <;> rcases hk with rfl | rfl | rfl | rfl | rfl | rfl | rfl <;> first | (exact absurd rfl hne) | (simp at hds; done) | (simpa [upd] using h)
  case c5 =>
    refine ⟨?_, ?_, ?_, ?_, ?_, trivial⟩
    · rintro vals W ⟨i1, i2, i3, i4⟩ hdep
      refine lVal_callAt hc (Plain.of (by kernel_rfl)) us hx ((hcall W i2).mono ?_)
      rintro e w' ⟨v', rfl, q2, q3⟩
      obtain ⟨x1, y1, x2, k2, y2, e, hm3⟩ := q3
      subst e
      exact ⟨_, rfl, q2, x1, y1, x2, k2, y2, by simp [upd], _, _, _, _, _, rfl, hm3⟩
    · intro vals W hL hdep
      refine lVal_moveAt hm (vals 2) ?_ (by simp [upd])
      simp only [putAll, List.foldl, hc.dst]
      exact eval_same (Nat.lt_of_lt_of_le (by decide) hsz)
    · intro vals W hL hdep
      obtain ⟨x1, y1, x2, k2, y2, q1, q2⟩ := hdep 2 (by simp)
      have q3 : vals 3 = vals 2 := hdep 3 (by simp)
      refine lVal_extractAt h0 #[slv x1 n y1 x2 k2 y2 p r l, sval S] (slv x1 n y1 x2 k2 y2 p r l) ?_ rfl ⟨x1, y1, x2, k2, y2, by simpa [upd] using q1, by simp [upd], q2⟩
      simp only [putAll, List.foldl, hc.dst, hm.dst]
      rw [eval_same (by simp only [put_size]; exact Nat.lt_of_lt_of_le (by decide) hsz), q3, q1]
    · intro vals W hL hdep
      obtain ⟨x1, y1, x2, k2, y2, q1, q2⟩ := hdep 2 (by simp)
      have q3 : vals 3 = vals 2 := hdep 3 (by simp)
      refine lVal_extractAt h1 #[slv x1 n y1 x2 k2 y2 p r l, sval S] (sval S) ?_ rfl (by simp [upd])
      simp only [putAll, List.foldl, hc.dst, hm.dst]
      rw [eval_same (by simp only [put_size]; exact Nat.lt_of_lt_of_le (by decide) hsz), q3, q1]
    · rintro vals W ⟨i1, i2, i3, i4⟩ hdep
      exact lVal_allocAt he _ _ Try.zero_sense ⟨W.heap.size, (0, 0, 0), by simp [upd], Box.new W _ _, i3⟩
  case c6 =>
    refine ⟨?_, ?_, trivial⟩
    · rintro vals W ⟨i1, i2, i3, cr, u2, u3, u4⟩ hdep
      have q3' := hdep 3 (by simp)
      obtain ⟨x1, y1, x2, k2, y2, q1, q2, q3⟩ := hdep 4 (by simp)
      obtain ⟨g', s, v1, v2, v3⟩ := hdep 6 (by simp)
      have hsz' : (W.setCells g1 0 (tc (.slice x1 n y1) (.slice x2 k2 y2) p r l)).heap.size = W.heap.size := heap_size_setCells _ _ _ _
      refine sVal_storeAt hs g1 (tc (.slice x1 n y1) (.slice x2 k2 y2) p r l) ?_ ?_ (u4.there 0 5 (by omega)) Try.info_slot (tc_one _ _ _ _ _ _ _ _ _) (fun u => ⟨⟨i1.setCells hg1 _ 0, hKs W cr _ i2 u4 u2, by rw [hsz']; exact i3, _, tc_noints _ _ _ _ _ _ _ _ _, rfl, u4.all _ (by simp [u3])⟩, ?_, ?_⟩)
      · simp only [putAll, List.foldl, hc.dst, hm.dst, h0.dst, he.dst]
        rw [eval_put_ne (by decide), eval_put_ne (by decide), eval_put_ne (by decide), eval_put_ne (by decide), hA]
      · simp only [putAll, List.foldl, hc.dst, hm.dst, h0.dst, he.dst]
        rw [eval_put_ne (by decide), eval_same (by simp only [put_size]; exact Nat.lt_of_lt_of_le (by decide) hsz), q2]
      · exact ⟨x1, y1, x2, k2, y2, by simpa [upd] using q1, by simpa [upd] using q2, u4.all _ (by simp [u3]), q3.setBox u4 u2 _ 0⟩
      · intro k hk
        simp only [List.mem_cons, List.not_mem_nil, or_false] at hk
        rcases hk with rfl | rfl | rfl | rfl
        · exact ⟨x1, y1, x2, k2, y2, q1, q3.setBox u4 u2 _ 0⟩
        · exact q3'
        · exact ⟨x1, y1, x2, k2, y2, q1, q2, q3.setBox u4 u2 _ 0⟩
        · exact ⟨g', s, v1, v2.kept (heap_setCells_other W _ _ (box_ne v2 u4 (by decide)) _ _), v3⟩
    · rintro vals W ⟨i1, i2, i3, cr, r2, r3, r4⟩ hdep
      have q3' := hdep 3 (by simp)
      have q5 : vals 5 = sval S := hdep 5 (by simp)
      obtain ⟨x1, y1, x2, k2, y2, u1, u2, u4, u5⟩ := hdep 7 (by simp)
      obtain ⟨g', s, v1, v2, v3⟩ := hdep 6 (by simp)
      have hS := u5.setSense v2 (sc S) 0
      have hB := u4.kept (heap_setCells_other W g' g1 (box_ne u4 v2 (by decide)) (sc S) 0)
      have hsz' : (W.setCells g' 0 (sc S)).heap.size = W.heap.size := heap_size_setCells _ _ _ _
      refine sVal_storeAt ht g' (sc S) ?_ ?_ (v2.there 0 3 (by simp)) Try.info_sense (sc_one _) (fun u => ⟨⟨i1.setCells (Nat.le_trans hw.size v3) _ 0, hKe W g' s _ i2 v2 v3, by rw [hsz']; exact i3, _, tc_noints _ _ _ _ _ _ _ _ _, rfl, hB⟩, ?_, ?_⟩)
      · simp only [putAll, List.foldl, hc.dst, hm.dst, h0.dst, h1.dst, he.dst, hs.dst, put_none]
        rw [eval_same (by simp only [put_size]; exact Nat.lt_of_lt_of_le (by decide) hsz), v1]
      · simp only [putAll, List.foldl, hc.dst, hm.dst, h0.dst, h1.dst, he.dst, hs.dst, put_none]
        rw [eval_put_ne (by decide), eval_same (by simp only [put_size]; exact Nat.lt_of_lt_of_le (by decide) hsz), q5]
      · exact ⟨g', by simpa [upd] using v1, v2.all _ rfl⟩
      · intro k hk
        simp only [List.mem_cons, List.not_mem_nil, or_false] at hk
        rcases hk with rfl | rfl | rfl | rfl | rfl | rfl
        · exact ⟨x1, y1, x2, k2, y2, u1, hS⟩
        · exact q3'
        · exact ⟨x1, y1, x2, k2, y2, u1, u2, hS⟩
        · exact q5
        · exact ⟨g', S, v1, v2.all _ rfl, v3⟩
        · exact ⟨x1, y1, x2, k2, y2, u1, u2, hB, hS⟩
  case c7 =>
    intro i hi hst k hk hne hds hds' vals W W' h
    simp only [List.mem_cons, List.not_mem_nil, or_false] at hst hk
    rcases hst with rfl | rfl <;> rcases hk with rfl | rfl | rfl | rfl | rfl | rfl | rfl <;> first | (exact absurd rfl hne) | (simp at hds; done) | (simp at hds'; done) | (exact h)
  case c8 =>
    rintro vals W ⟨i1, i2, i3, i4⟩ hall
    have q3 : vals 3 = vals 2 := hall 3 (by simp)
    have q5 : vals 5 = sval S := hall 5 (by simp)
    obtain ⟨x1, y1, x2, k2, y2, u1, u2, u4, u5⟩ := hall 7 (by simp)
    obtain ⟨g', v1, v2⟩ := hall 8 (by simp)
    have := hfin x1 y1 x2 k2 y2 g' W i1 i2 u4 v2 u5
    simp only [putAll, List.foldl, hc.dst, hm.dst, h0.dst, h1.dst, he.dst, hs.dst, ht.dst, put_none, q3, q5, u1, u2, v1]
    exact this
set_option maxHeartbeats 1000000 in
/-- the slot goes into a variable that is there already, the sense nowhere -/
theorem keepold {ops : Array Oper} {Q : Exit → Act → World → Prop} {a : Act} {b : World} (w : World) (g1 : Nat) (n : Nat) (F : List UInt8) (D : List Drt) (p r l : Bool) (S : Sns) (xs : List Operand) (ts : Array TypeId) (us : List Value) (hx : xs.map a.eval = us)
    (K : World → Prop) (hc : OpAt ops 6 (some 118) (.call { callee := .value (.func 17), args := xs.toArray, argTypes := ts })) (hm : OpAt ops 7 (some 111) (.move (.tmp 118))) (h0 : OpAt ops 8 (some 119) (.extract (.tmp 111) 0)) (h1 : OpAt ops 9 (some 120) (.extract (.tmp 111) 1))
    (hs : OpAt ops 10 none (.store 27 (.tmp 2) (.tmp 119))) (hsz : 150 ≤ a.tmps.size) (hA : a.eval (.tmp 2) = .pointer (some ⟨g1, 0, none⟩))
    (hd : ([6, 7, 8, 9, 10].all fun i => ([6, 7, 8, 9, 10].filter fun k => dep .any ops i k) == (match i with | 7 => [6] | 8 => [6, 7] | 9 => [6, 7] | 10 => [6, 7, 8] | _ => [])) = true)
    (hKb : K b) (hKl : ∀ W W', Later W W' → K W → K W') (hKs : ∀ W cr cs, K W → Box W g1 27 cr → NoInts cr → K (W.setCells g1 0 cs))
    (cr0 : List Value) (hn0 : NoInts cr0) (hl0 : cr0.length = 5) (hB0 : Box b g1 27 cr0) (hw : Later w b) (hg1 : w.heap.size ≤ g1)
    (hcall : ∀ W, K W → Calls Try.prog 17 us.toArray W fun e w' => ∃ v', e = .returned (.tuple #[v', sval S]) ∧ Later W w' ∧ Slt w' v' n F D p r l)
    (hfin : ∀ x1 y1 x2 k2 y2 W, Later w W → K W → Box W g1 27 (tc (.slice x1 n y1) (.slice x2 k2 y2) p r l) → Slt W (slv x1 n y1 x2 k2 y2 p r l) n F D p r l →
      Q .normal ((((a.put (some 118) (.tuple #[slv x1 n y1 x2 k2 y2 p r l, sval S])).put (some 111) (.tuple #[slv x1 n y1 x2 k2 y2 p r l, sval S])).put (some 119) (slv x1 n y1 x2 k2 y2 p r l)).put (some 120) (sval S)) W) :
    ∃ L R', Bag2 Try.prog ops Q [10] [6, 7, 8, 9, 10] a b L R' := by
  refine bag_of2 [6, 7, 8, 9] (fun i => match i with | 7 => [6] | 8 => [6, 7] | 9 => [6, 7] | 10 => [6, 7, 8] | _ => [])
    (fun W => Later w W ∧ K W ∧ ∃ cr, NoInts cr ∧ cr.length = 5 ∧ Box W g1 27 cr)
    (fun i vals W => match i with
      | 6 => ∃ x1 y1 x2 k2 y2, vals 6 = .tuple #[slv x1 n y1 x2 k2 y2 p r l, sval S] ∧ Slt W (slv x1 n y1 x2 k2 y2 p r l) n F D p r l
      | 7 => vals 7 = vals 6
      | 8 => ∃ x1 y1 x2 k2 y2, vals 6 = .tuple #[slv x1 n y1 x2 k2 y2 p r l, sval S] ∧ vals 8 = slv x1 n y1 x2 k2 y2 p r l ∧ Slt W (slv x1 n y1 x2 k2 y2 p r l) n F D p r l
      | 9 => vals 9 = sval S
      | 10 => ∃ x1 y1 x2 k2 y2, vals 6 = .tuple #[slv x1 n y1 x2 k2 y2 p r l, sval S] ∧ vals 8 = slv x1 n y1 x2 k2 y2 p r l ∧ Box W g1 27 (tc (.slice x1 n y1) (.slice x2 k2 y2) p r l) ∧ Slt W (slv x1 n y1 x2 k2 y2 p r l) n F D p r l
      | _ => True) hd (by decide) (by decide) ⟨hw, hKb, cr0, hn0, hl0, hB0⟩ ?c2 ?c3 ?c4 ?c5 ?c6 ?c7 ?c8
  case c2 =>
    rintro W W' hl ⟨i1, i2, cr, i4, i5, i6⟩
    exact ⟨i1.trans hl, hKl _ _ hl i2, cr, i4, i5, i6.later hl⟩
  case c3 =>
    intro i hi vals W W' hl h
    simp only [List.mem_cons, List.not_mem_nil, or_false] at hi
    rcases hi with rfl | rfl | rfl | rfl | rfl
    · obtain ⟨x1, y1, x2, k2, y2, q1, q2⟩ := h
      exact ⟨x1, y1, x2, k2, y2, q1, q2.later hl⟩
    · exact h
    · obtain ⟨x1, y1, x2, k2, y2, q1, q2, q3⟩ := h
      exact ⟨x1, y1, x2, k2, y2, q1, q2, q3.later hl⟩
    · exact h
    · obtain ⟨x1, y1, x2, k2, y2, q1, q2, q3, q4⟩ := h
      exact ⟨x1, y1, x2, k2, y2, q1, q2, q3.later hl, q4.later hl⟩
  case c4 =>
    intro i hi k hk hne hds vals v W h
    simp only [List.mem_cons, List.not_mem_nil, or_false] at hi hk
    rcases hi with rfl | rfl | rfl | rfl | rfl <;> rcases hk with rfl | rfl | rfl | rfl | rfl <;> first | (exact absurd rfl hne) | (simp at hds; done) | (simpa [upd] using h)
  case c5 =>
    refine ⟨?_, ?_, ?_, ?_, trivial⟩
    · rintro vals W ⟨i1, i2, i4⟩ hdep
      refine lVal_callAt hc (Plain.of (by kernel_rfl)) us hx ((hcall W i2).mono ?_)
      rintro e w' ⟨v', rfl, q2, q3⟩
      obtain ⟨x1, y1, x2, k2, y2, e, hm3⟩ := q3
      subst e
      exact ⟨_, rfl, q2, x1, y1, x2, k2, y2, by simp [upd], _, _, _, _, _, rfl, hm3⟩
    · intro vals W hL hdep
      refine lVal_moveAt hm (vals 6) ?_ (by simp [upd])
      simp only [putAll, List.foldl, hc.dst]
      exact eval_same (Nat.lt_of_lt_of_le (by decide) hsz)
    · intro vals W hL hdep
      obtain ⟨x1, y1, x2, k2, y2, q1, q2⟩ := hdep 6 (by simp)
      have q3 : vals 7 = vals 6 := hdep 7 (by simp)
      refine lVal_extractAt h0 #[slv x1 n y1 x2 k2 y2 p r l, sval S] (slv x1 n y1 x2 k2 y2 p r l) ?_ rfl ⟨x1, y1, x2, k2, y2, by simpa [upd] using q1, by simp [upd], q2⟩
      simp only [putAll, List.foldl, hc.dst, hm.dst]
      rw [eval_same (by simp only [put_size]; exact Nat.lt_of_lt_of_le (by decide) hsz), q3, q1]
    · intro vals W hL hdep
      obtain ⟨x1, y1, x2, k2, y2, q1, q2⟩ := hdep 6 (by simp)
      have q3 : vals 7 = vals 6 := hdep 7 (by simp)
      refine lVal_extractAt h1 #[slv x1 n y1 x2 k2 y2 p r l, sval S] (sval S) ?_ rfl (by simp [upd])
      simp only [putAll, List.foldl, hc.dst, hm.dst]
      rw [eval_same (by simp only [put_size]; exact Nat.lt_of_lt_of_le (by decide) hsz), q3, q1]
  case c6 =>
    refine ⟨?_, trivial⟩
    rintro vals W ⟨i1, i2, cr, u2, u3, u4⟩ hdep
    have q3' := hdep 7 (by simp)
    obtain ⟨x1, y1, x2, k2, y2, q1, q2, q3⟩ := hdep 8 (by simp)
    refine sVal_storeAt hs g1 (tc (.slice x1 n y1) (.slice x2 k2 y2) p r l) ?_ ?_ (u4.there 0 5 (by omega)) Try.info_slot (tc_one _ _ _ _ _ _ _ _ _) (fun u => ⟨⟨i1.setCells hg1 _ 0, hKs W cr _ i2 u4 u2, _, tc_noints _ _ _ _ _ _ _ _ _, rfl, u4.all _ (by simp [u3])⟩, ?_, ?_⟩)
    · simp only [putAll, List.foldl, hc.dst, hm.dst, h0.dst]
      rw [eval_put_ne (by decide), eval_put_ne (by decide), eval_put_ne (by decide), hA]
    · simp only [putAll, List.foldl, hc.dst, hm.dst, h0.dst]
      rw [eval_same (by simp only [put_size]; exact Nat.lt_of_lt_of_le (by decide) hsz), q2]
    · exact ⟨x1, y1, x2, k2, y2, by simpa [upd] using q1, by simpa [upd] using q2, u4.all _ (by simp [u3]), q3.setBox u4 u2 _ 0⟩
    · intro k hk
      simp only [List.mem_cons, List.not_mem_nil, or_false] at hk
      rcases hk with rfl | rfl | rfl
      · exact ⟨x1, y1, x2, k2, y2, q1, q3.setBox u4 u2 _ 0⟩
      · exact q3'
      · exact ⟨x1, y1, x2, k2, y2, q1, q2, q3.setBox u4 u2 _ 0⟩
  case c7 =>
    intro i hi hst k hk hne hds hds' vals W W' h
    simp only [List.mem_cons, List.not_mem_nil, or_false] at hst hk
    subst hst
    rcases hk with rfl | rfl | rfl | rfl | rfl <;> first | (exact absurd rfl hne) | (simp at hds; done) | (simp at hds'; done) | (exact h)
  case c8 =>
    rintro vals W ⟨i1, i2, i4⟩ hall
    have q3 : vals 7 = vals 6 := hall 7 (by simp)
    have q5 : vals 9 = sval S := hall 9 (by simp)
    obtain ⟨x1, y1, x2, k2, y2, u1, u2, u4, u5⟩ := hall 10 (by simp)
    have := hfin x1 y1 x2 k2 y2 W i1 i2 u4 u5
    simp only [putAll, List.foldl, hc.dst, hm.dst, h0.dst, h1.dst, hs.dst, put_none, q3, q5, u1, u2]
    exact this
end Go.Proofs.Ytkbpecbpfajkfaa

namespace Go.Proofs.Ytkbpecbpfajkfaa
open Go.ChangeShapes Go.WideShapes Go.ChangeAt Go.RowKit
set_option linter.unusedVariables false
set_option linter.unusedSimpArgs false

/-! What a slot shows behind the button. -/
theorem app_nil5 (F : List UInt8) : app F [] = F := rfl
theorem right_nil5 {n : Nat} {D : List Drt} (h : rightB n D = true) : rightB n [] = true := by
  simp only [rightB, decide_eq_true_eq] at h ⊢
  exact ⟨h.1, by simp, fun d hd => by cases hd⟩
theorem all_bt {n : Nat} {F : List UInt8} {D : List Drt} (p l : Bool) (h : rightB n D = true) : allF n (btF p l n F D) (btD p l n D) = app F D ∧ allN n (btD p l n D) = n := by
  unfold btF btD
  split
  · simp only [syncF, syncD, h, if_true, allF, allN, right_nil5 h, app_nil5]
    exact ⟨trivial, trivial⟩
  · simp only [allF, allN, h, if_true]
    exact ⟨trivial, trivial⟩
theorem bt_small {n : Nat} {D : List Drt} (p l : Bool) (h : D.length ≤ 100) : (btD p l n D).length ≤ 100 := by
  unfold btD syncD
  split
  · split
    · simp
    · exact h
  · exact h
end Go.Proofs.Ytkbpecbpfajkfaa
