import Derived.Test.YtbcikndebaeahaaMAO
import Derived.Test.YtbcikndebaeahaaMAP
namespace Go.Proofs.Ytbcikndebaeahaa
open Go.ChangeShapes Go.WideShapes Go.ChangeAt Go.RowKit
set_option linter.unusedVariables false
set_option maxRecDepth 4000
set_option linter.unusedSimpArgs false
/-! JobParts' regions that draw: 'v, k := u, j' and 'x, y := job.Take(v, k, parts[i])'. -/
theorem lVal_loadAt {P : Program} {ops : Array Oper} {i : Nat} {R : Value → World → Prop} {a : Act} {w : World} {d : Option Tmp} {ty : TypeId} {x : Operand} (h : OpAt ops i d (.load ty x)) (g : Nat) (cells : List Value) (hx : a.eval x = .pointer (some ⟨g, 0, none⟩)) (hrun : (loadVar ty ⟨g, 0, none⟩).run P w = .ok (.agg cells.toArray) w) (hR : R (.agg cells.toArray) w) : lVal P ops i R a w := by
  obtain ⟨o, h1, h2, h3, h4⟩ := h
  refine lVal_of_run h1 h2 (.agg cells.toArray) w ?_ (Later.refl w) hR
  simp [execOp, h4, hx, Instr.loadAt, Instr.sureAddr, hrun]
set_option maxHeartbeats 2000000 in
theorem vars_parts {ops : Array Oper} {Q : Exit → Act → World → Prop} {a : Act} {b : World} (T1 T2 : TypeId) (hT : T1 ≠ T2) (z1 z2 : List Value) (hz1 : (Try.prog.info? T1).map (fun i => (i.zero, i.size)) = some (some (.agg z1.toArray), z1.length)) (hz2 : (Try.prog.info? T2).map (fun i => (i.zero, i.size)) = some (some (.agg z2.toArray), z2.length)) (hi1 : (Try.prog.info? T1).map (·.size) = some z1.length) (hi2 : (Try.prog.info? T2).map (·.size) = some z2.length)
    (x y : List Value) (hx1 : x.length = z1.length) (hx2 : ∀ u ∈ x, u.oneCell' = true) (hy1 : y.length = z2.length) (hy2 : ∀ u ∈ y, u.oneCell' = true)
    (u1 : Operand) (e1 : a.eval u1 = .agg x.toArray) (n0 : u1 ≠ .tmp 41) (n1 : u1 ≠ .tmp 10) (n2 : u1 ≠ .tmp 11) (ul : Operand) (gl : Nat) (hul : a.eval ul = .pointer (some ⟨gl, 0, none⟩)) (hgl : Box b gl T2 y) (hll : ∀ W, Box W gl T2 y → (loadVar T2 ⟨gl, 0, none⟩).run Try.prog W = .ok (.agg y.toArray) W)
    (hl : OpAt ops 1 (some 41) (.load T2 ul)) (ha : OpAt ops 2 (some 10) (.alloc T1)) (he : OpAt ops 3 (some 11) (.alloc T2)) (hs : OpAt ops 4 none (.store T1 (.tmp 10) u1)) (ht : OpAt ops 5 none (.store T2 (.tmp 11) (.tmp 41))) (hsz : 119 ≤ a.tmps.size)
    (hd : ([1, 2, 3, 4, 5].all fun i => ([1, 2, 3, 4, 5].filter fun k => dep .any ops i k) == (match i with | 4 => [2, 3] | 5 => [1, 2, 3, 4] | _ => [])) = true)
    (hfin : ∀ g1 g2 W, Later b W → Box W g1 T1 x → Box W g2 T2 y → b.heap.size ≤ g1 → b.heap.size ≤ g2 →
      Q .normal (((a.put (some 41) (.agg y.toArray)).put (some 10) (.pointer (some ⟨g1, 0, none⟩))).put (some 11) (.pointer (some ⟨g2, 0, none⟩))) W) :
    ∃ L R', Bag2 Try.prog ops Q [4, 5] [1, 2, 3, 4, 5] a b L R' := by
  refine bag_of2 [1, 2, 3] (fun i => match i with | 4 => [2, 3] | 5 => [1, 2, 3, 4] | _ => [])
    (fun W => Later b W)
    (fun i vals W => match i with
      | 1 => vals 1 = .agg y.toArray
      | 2 => ∃ g cr, vals 2 = .pointer (some ⟨g, 0, none⟩) ∧ cr.length = z1.length ∧ Box W g T1 cr ∧ b.heap.size ≤ g
      | 3 => ∃ g cr, vals 3 = .pointer (some ⟨g, 0, none⟩) ∧ cr.length = z2.length ∧ Box W g T2 cr ∧ b.heap.size ≤ g
      | 4 => ∃ g : Nat, vals 2 = .pointer (some ⟨g, 0, none⟩) ∧ Box W g T1 x ∧ b.heap.size ≤ g
      | 5 => ∃ g : Nat, vals 3 = .pointer (some ⟨g, 0, none⟩) ∧ Box W g T2 y ∧ b.heap.size ≤ g
      | _ => True) hd (by decide) (by decide) (Later.refl b) (fun w w' hl h => h.trans hl) ?c3 ?c4 ?c5 ?c6 ?c7 ?c8
  case c3 =>
    intro i hi vals W W' hl h
    simp only [List.mem_cons, List.not_mem_nil, or_false] at hi
    rcases hi with rfl | rfl | rfl | rfl | rfl
    · exact h
    · obtain ⟨g, cr, q1, q2, q3, q4⟩ := h
      exact ⟨g, cr, q1, q2, q3.later hl, q4⟩
    · obtain ⟨g, cr, q1, q2, q3, q4⟩ := h
      exact ⟨g, cr, q1, q2, q3.later hl, q4⟩
    · obtain ⟨g, q1, q2, q3⟩ := h
      exact ⟨g, q1, q2.later hl, q3⟩
    · obtain ⟨g, q1, q2, q3⟩ := h
      exact ⟨g, q1, q2.later hl, q3⟩
  case c4 =>
    intro i hi k hk hne hds vals v W h
    simp only [List.mem_cons, List.not_mem_nil, or_false] at hi hk
    rcases hi with rfl | rfl | rfl | rfl | rfl <;> rcases hk with rfl | rfl | rfl | rfl | rfl <;> first | (exact absurd rfl hne) | (simp at hds; done) | (simpa [upd] using h)
  case c5 =>
    refine ⟨?_, ?_, ?_, trivial⟩
    · intro vals W hL hdep
      exact lVal_loadAt hl gl y hul (hll W (hgl.later hL)) (by simp [upd])
    · intro vals W hL hdep
      exact lVal_allocAt ha _ _ hz1 ⟨W.heap.size, z1, by simp [upd], rfl, Box.new W _ _, hL.size⟩
    · intro vals W hL hdep
      exact lVal_allocAt he _ _ hz2 ⟨W.heap.size, z2, by simp [upd], rfl, Box.new W _ _, hL.size⟩
  case c6 =>
    refine ⟨?_, ?_, trivial⟩
    · intro vals W hL hdep
      obtain ⟨g, cr, q1, q2, q3, q4⟩ := hdep 2 (by simp)
      obtain ⟨g', cs, v1, v2, v3, v4⟩ := hdep 3 (by simp)
      refine sVal_storeAt hs g x ?_ ?_ (q3.there 0 x.length (by omega)) (by rw [hi1, hx1]) hx2 (fun u => ⟨hL.setCells q4 _ 0, ?_, ?_⟩)
      · simp only [putAll, List.foldl, ha.dst, he.dst]
        rw [eval_put_ne (by decide), eval_same (Nat.lt_of_lt_of_le (by decide) hsz), q1]
      · simp only [putAll, List.foldl, ha.dst, he.dst]
        rw [eval_put_other n2, eval_put_other n1, e1]
      · exact ⟨g, by simpa [upd] using q1, q3.all x (by omega), q4⟩
      · intro k hk
        simp only [List.mem_cons, List.not_mem_nil, or_false] at hk
        rcases hk with rfl | rfl
        · exact ⟨g, x, q1, hx1, q3.all x (by omega), q4⟩
        · exact ⟨g', cs, v1, v2, v3.kept (heap_setCells_other W _ _ (box_ne v3 q3 (fun e => hT e.symm)) _ _), v4⟩
    · intro vals W hL hdep
      obtain ⟨g, q1, q2, q3⟩ := hdep 4 (by simp)
      have q9 : vals 1 = .agg y.toArray := hdep 1 (by simp)
      obtain ⟨g2, cr, w1, w2, w3, w4⟩ := hdep 2 (by simp)
      obtain ⟨g', cs, v1, v2, v3, v4⟩ := hdep 3 (by simp)
      have hB := q2.kept (heap_setCells_other W g' g (box_ne q2 v3 hT) y 0)
      have hB2 := w3.kept (heap_setCells_other W g' g2 (box_ne w3 v3 hT) y 0)
      refine sVal_storeAt ht g' y ?_ ?_ (v3.there 0 y.length (by omega)) (by rw [hi2, hy1]) hy2 (fun u => ⟨hL.setCells v4 _ 0, ?_, ?_⟩)
      · simp only [putAll, List.foldl, hl.dst, ha.dst, he.dst, hs.dst, put_none]
        rw [eval_same (by simp only [put_size]; exact Nat.lt_of_lt_of_le (by decide) hsz), v1]
      · simp only [putAll, List.foldl, hl.dst, ha.dst, he.dst, hs.dst, put_none]
        rw [eval_put_ne (by decide), eval_put_ne (by decide), eval_same (Nat.lt_of_lt_of_le (by decide) hsz), q9]
      · exact ⟨g', by simpa [upd] using v1, v3.all y (by omega), v4⟩
      · intro k hk
        simp only [List.mem_cons, List.not_mem_nil, or_false] at hk
        rcases hk with rfl | rfl | rfl | rfl
        · exact q9
        · exact ⟨g2, cr, w1, w2, hB2, w4⟩
        · exact ⟨g', y, v1, hy1, v3.all y (by omega), v4⟩
        · exact ⟨g, q1, hB, q3⟩
  case c7 =>
    intro i hi hst k hk hne hds hds' vals W W' h
    simp only [List.mem_cons, List.not_mem_nil, or_false] at hst hk
    rcases hst with rfl | rfl <;> rcases hk with rfl | rfl | rfl | rfl | rfl <;> first | (exact absurd rfl hne) | (simp at hds; done) | (simp at hds'; done) | (exact h)
  case c8 =>
    intro vals W hL hall
    obtain ⟨g, q1, q2, q3⟩ := hall 4 (by simp)
    obtain ⟨g', v1, v2, v3⟩ := hall 5 (by simp)
    have q9 : vals 1 = .agg y.toArray := hall 1 (by simp)
    have := hfin g g' W hL q2 v2 q3 v3
    simp only [putAll, List.foldl, hl.dst, ha.dst, he.dst, hs.dst, ht.dst, put_none, q1, v1, q9]
    exact this
set_option maxHeartbeats 2000000 in
theorem two_part {ops : Array Oper} {Q : Exit → Act → World → Prop} {a : Act} {b : World} (f : FuncId) (hpl : Plain Try.prog f) (T1 T2 : TypeId) (hT : T1 ≠ T2) (z1 z2 : List Value) (hz1 : (Try.prog.info? T1).map (fun i => (i.zero, i.size)) = some (some (.agg z1.toArray), z1.length)) (hz2 : (Try.prog.info? T2).map (fun i => (i.zero, i.size)) = some (some (.agg z2.toArray), z2.length)) (hi1 : (Try.prog.info? T1).map (·.size) = some z1.length) (hi2 : (Try.prog.info? T2).map (·.size) = some z2.length) (hn1 : NoB z1) (hn2 : NoB z2)
    (Pd : List Value → List Value → World → Prop) (hone : ∀ x y W, Pd x y W → (x.length = z1.length ∧ NoB x ∧ ∀ u ∈ x, u.oneCell' = true) ∧ (y.length = z2.length ∧ NoB y ∧ ∀ u ∈ y, u.oneCell' = true))
    (hlat : ∀ x y W W', Later W W' → Pd x y W → Pd x y W') (hset : ∀ x y W g t cs vs, (t = T1 ∨ t = T2) → Box W g t cs → NoB cs → b.heap.size ≤ g → Pd x y W → Pd x y (W.setCells g 0 vs))
    (xs : List Operand) (ts : Array TypeId) (us : List Value) (hx : xs.map a.eval = us)
    (hc : OpAt ops 6 (some 61) (.call { callee := .value (.func f), args := xs.toArray, argTypes := ts })) (hm : OpAt ops 7 (some 54) (.move (.tmp 61))) (h0 : OpAt ops 8 (some 62) (.extract (.tmp 54) 0)) (h1 : OpAt ops 9 (some 63) (.extract (.tmp 54) 1))
    (ha : OpAt ops 10 (some 13) (.alloc T1)) (he : OpAt ops 11 (some 14) (.alloc T2)) (hs : OpAt ops 12 none (.store T1 (.tmp 13) (.tmp 62))) (ht : OpAt ops 13 none (.store T2 (.tmp 14) (.tmp 63))) (hsz : 119 ≤ a.tmps.size)
    (hd : ([6, 7, 8, 9, 10, 11, 12, 13].all fun i => ([6, 7, 8, 9, 10, 11, 12, 13].filter fun k => dep .any ops i k) == (match i with | 7 => [6] | 8 => [6, 7] | 9 => [6, 7] | 12 => [6, 7, 8, 10, 11] | 13 => [6, 7, 8, 9, 10, 11, 12] | _ => [])) = true)
    (hcall : ∀ W, Later b W → Calls Try.prog f us.toArray W fun e w' => ∃ x y, e = .returned (.tuple #[.agg x.toArray, .agg y.toArray]) ∧ Later W w' ∧ Pd x y w')
    (hfin : ∀ x y g1 g2 W, Later b W → Box W g1 T1 x → Box W g2 T2 y → Pd x y W → b.heap.size ≤ g1 → b.heap.size ≤ g2 →
      Q .normal ((((((a.put (some 61) (.tuple #[.agg x.toArray, .agg y.toArray])).put (some 54) (.tuple #[.agg x.toArray, .agg y.toArray])).put (some 62) (.agg x.toArray)).put (some 63) (.agg y.toArray)).put (some 13) (.pointer (some ⟨g1, 0, none⟩))).put (some 14) (.pointer (some ⟨g2, 0, none⟩))) W) :
    ∃ L R', Bag2 Try.prog ops Q [12, 13] [6, 7, 8, 9, 10, 11, 12, 13] a b L R' := by
  refine bag_of2 [6, 7, 8, 9, 10, 11] (fun i => match i with | 7 => [6] | 8 => [6, 7] | 9 => [6, 7] | 12 => [6, 7, 8, 10, 11] | 13 => [6, 7, 8, 9, 10, 11, 12] | _ => [])
    (fun W => Later b W)
    (fun i vals W => match i with
      | 6 => ∃ x y : List Value, vals 6 = .tuple #[.agg x.toArray, .agg y.toArray] ∧ Pd x y W
      | 7 => vals 7 = vals 6
      | 8 => ∃ x y : List Value, vals 6 = .tuple #[.agg x.toArray, .agg y.toArray] ∧ vals 8 = .agg x.toArray ∧ Pd x y W
      | 9 => ∃ x y : List Value, vals 6 = .tuple #[.agg x.toArray, .agg y.toArray] ∧ vals 9 = .agg y.toArray
      | 10 => ∃ g cr, vals 10 = .pointer (some ⟨g, 0, none⟩) ∧ NoB cr ∧ cr.length = z1.length ∧ Box W g T1 cr ∧ b.heap.size ≤ g
      | 11 => ∃ g cr, vals 11 = .pointer (some ⟨g, 0, none⟩) ∧ NoB cr ∧ cr.length = z2.length ∧ Box W g T2 cr ∧ b.heap.size ≤ g
      | 12 => ∃ (x y : List Value) (g : Nat), vals 6 = .tuple #[.agg x.toArray, .agg y.toArray] ∧ vals 8 = .agg x.toArray ∧ vals 10 = .pointer (some ⟨g, 0, none⟩) ∧ Box W g T1 x ∧ Pd x y W ∧ b.heap.size ≤ g
      | 13 => ∃ (x y : List Value) (g : Nat), vals 6 = .tuple #[.agg x.toArray, .agg y.toArray] ∧ vals 11 = .pointer (some ⟨g, 0, none⟩) ∧ Box W g T2 y ∧ b.heap.size ≤ g
      | _ => True) hd (by decide) (by decide) (Later.refl b) (fun w w' hl h => h.trans hl) ?c3 ?c4 ?c5 ?c6 ?c7 ?c8
  case c3 =>
    intro i hi vals W W' hl h
    simp only [List.mem_cons, List.not_mem_nil, or_false] at hi
    rcases hi with rfl | rfl | rfl | rfl | rfl | rfl | rfl | rfl
    · obtain ⟨x, y, q1, q2⟩ := h
      exact ⟨x, y, q1, hlat _ _ _ _ hl q2⟩
    · exact h
    · obtain ⟨x, y, q1, q2, q3⟩ := h
      exact ⟨x, y, q1, q2, hlat _ _ _ _ hl q3⟩
    · exact h
    · obtain ⟨g, cr, q1, q2, q3, q4, q5⟩ := h
      exact ⟨g, cr, q1, q2, q3, q4.later hl, q5⟩
    · obtain ⟨g, cr, q1, q2, q3, q4, q5⟩ := h
      exact ⟨g, cr, q1, q2, q3, q4.later hl, q5⟩
    · obtain ⟨x, y, g, q1, q2, q3, q4, q5, q6⟩ := h
      exact ⟨x, y, g, q1, q2, q3, q4.later hl, hlat _ _ _ _ hl q5, q6⟩
    · obtain ⟨x, y, g, q1, q2, q3, q4⟩ := h
      exact ⟨x, y, g, q1, q2, q3.later hl, q4⟩
  case c4 =>
    intro i hi k hk hne hds vals v W h
    simp only [List.mem_cons, List.not_mem_nil, or_false] at hi hk
    rcases hi with rfl | rfl | rfl | rfl | rfl | rfl | rfl | rfl <;> rcases hk with rfl | rfl | rfl | rfl | rfl | rfl | rfl | rfl <;> first | (exact absurd rfl hne) | (simp at hds; done) | (simpa [upd] using h)
  case c5 =>
    refine ⟨?_, ?_, ?_, ?_, ?_, ?_, trivial⟩
    · intro vals W hL hdep
      refine lVal_callAt hc hpl us hx ((hcall W hL).mono ?_)
      rintro e w' ⟨x, y, rfl, q2, q3⟩
      exact ⟨_, rfl, q2, x, y, by simp [upd], q3⟩
    · intro vals W hL hdep
      refine lVal_moveAt hm (vals 6) ?_ (by simp [upd])
      simp only [putAll, List.foldl, hc.dst]
      exact eval_same (Nat.lt_of_lt_of_le (by decide) hsz)
    · intro vals W hL hdep
      obtain ⟨x, y, q1, q2⟩ := hdep 6 (by simp)
      have q3 : vals 7 = vals 6 := hdep 7 (by simp)
      refine lVal_extractAt h0 #[.agg x.toArray, .agg y.toArray] (.agg x.toArray) ?_ rfl ⟨x, y, by simpa [upd] using q1, by simp [upd], q2⟩
      simp only [putAll, List.foldl, hc.dst, hm.dst]
      rw [eval_same (by simp only [put_size]; exact Nat.lt_of_lt_of_le (by decide) hsz), q3, q1]
    · intro vals W hL hdep
      obtain ⟨x, y, q1, q2⟩ := hdep 6 (by simp)
      have q3 : vals 7 = vals 6 := hdep 7 (by simp)
      refine lVal_extractAt h1 #[.agg x.toArray, .agg y.toArray] (.agg y.toArray) ?_ rfl ⟨x, y, by simpa [upd] using q1, by simp [upd]⟩
      simp only [putAll, List.foldl, hc.dst, hm.dst]
      rw [eval_same (by simp only [put_size]; exact Nat.lt_of_lt_of_le (by decide) hsz), q3, q1]
    · intro vals W hL hdep
      exact lVal_allocAt ha _ _ hz1 ⟨W.heap.size, z1, by simp [upd], hn1, rfl, Box.new W _ _, hL.size⟩
    · intro vals W hL hdep
      exact lVal_allocAt he _ _ hz2 ⟨W.heap.size, z2, by simp [upd], hn2, rfl, Box.new W _ _, hL.size⟩
  case c6 =>
    refine ⟨?_, ?_, trivial⟩
    · intro vals W hL hdep
      obtain ⟨x', y', p1, p2⟩ := hdep 6 (by simp)
      have q3' := hdep 7 (by simp)
      obtain ⟨x, y, q1, q2, q3⟩ := hdep 8 (by simp)
      obtain ⟨g, cr, u1, u2, u3, u4, u5⟩ := hdep 10 (by simp)
      obtain ⟨g', cs, v1, v2, v3, v4, v5⟩ := hdep 11 (by simp)
      obtain ⟨⟨l1, l2, l3⟩, _⟩ := hone _ _ _ q3
      refine sVal_storeAt hs g x ?_ ?_ (u4.there 0 x.length (by omega)) (by rw [hi1, l1]) l3 (fun u => ⟨hL.setCells u5 _ 0, ?_, ?_⟩)
      · simp only [putAll, List.foldl, hc.dst, hm.dst, h0.dst, ha.dst, he.dst]
        rw [eval_put_ne (by decide), eval_same (by simp only [put_size]; exact Nat.lt_of_lt_of_le (by decide) hsz), u1]
      · simp only [putAll, List.foldl, hc.dst, hm.dst, h0.dst, ha.dst, he.dst]
        rw [eval_put_ne (by decide), eval_put_ne (by decide), eval_same (by simp only [put_size]; exact Nat.lt_of_lt_of_le (by decide) hsz), q2]
      · exact ⟨x, y, g, by simpa [upd] using q1, by simpa [upd] using q2, by simpa [upd] using u1, u4.all _ (by omega), hset _ _ _ _ _ _ _ (.inl rfl) u4 u2 u5 q3, u5⟩
      · intro k hk
        simp only [List.mem_cons, List.not_mem_nil, or_false] at hk
        rcases hk with rfl | rfl | rfl | rfl | rfl
        · exact ⟨x', y', p1, hset _ _ _ _ _ _ _ (.inl rfl) u4 u2 u5 p2⟩
        · exact q3'
        · exact ⟨x, y, q1, q2, hset _ _ _ _ _ _ _ (.inl rfl) u4 u2 u5 q3⟩
        · exact ⟨g, x, u1, l2, l1, u4.all x (by omega), u5⟩
        · exact ⟨g', cs, v1, v2, v3, v4.kept (heap_setCells_other W _ _ (box_ne v4 u4 (fun e => hT e.symm)) _ _), v5⟩
    · intro vals W hL hdep
      obtain ⟨x', y', p1, p2⟩ := hdep 6 (by simp)
      have q3' := hdep 7 (by simp)
      obtain ⟨x4, y4, r1, r2, r3⟩ := hdep 8 (by simp)
      obtain ⟨x5, y5, r4, q5⟩ := hdep 9 (by simp)
      obtain ⟨x, y, g, u1, u2, u3, u4, u5, u6⟩ := hdep 12 (by simp)
      obtain ⟨g', cs, v1, v2, v3, v4, v5⟩ := hdep 11 (by simp)
      obtain ⟨⟨k1, k2, k3⟩, l1, l2, l3⟩ := hone _ _ _ u5
      have ey : y5 = y := by
        rw [r4] at u1
        simp at u1
        exact u1.2
      subst ey
      have hB := u4.kept (heap_setCells_other W g' g (box_ne u4 v4 hT) y5 0)
      refine sVal_storeAt ht g' y5 ?_ ?_ (v4.there 0 y5.length (by omega)) (by rw [hi2, l1]) l3 (fun u => ⟨hL.setCells v5 _ 0, ?_, ?_⟩)
      · simp only [putAll, List.foldl, hc.dst, hm.dst, h0.dst, h1.dst, ha.dst, he.dst, hs.dst, put_none]
        rw [eval_same (by simp only [put_size]; exact Nat.lt_of_lt_of_le (by decide) hsz), v1]
      · simp only [putAll, List.foldl, hc.dst, hm.dst, h0.dst, h1.dst, ha.dst, he.dst, hs.dst, put_none]
        rw [eval_put_ne (by decide), eval_put_ne (by decide), eval_same (by simp only [put_size]; exact Nat.lt_of_lt_of_le (by decide) hsz), q5]
      · exact ⟨x, y5, g', by simpa [upd] using u1, by simpa [upd] using v1, v4.all _ (by omega), v5⟩
      · intro k hk
        simp only [List.mem_cons, List.not_mem_nil, or_false] at hk
        rcases hk with rfl | rfl | rfl | rfl | rfl | rfl | rfl
        · exact ⟨x', y', p1, hset _ _ _ _ _ _ _ (.inr rfl) v4 v2 v5 p2⟩
        · exact q3'
        · exact ⟨x4, y4, r1, r2, hset _ _ _ _ _ _ _ (.inr rfl) v4 v2 v5 r3⟩
        · exact ⟨x5, y5, r4, q5⟩
        · exact ⟨g, x, u3, k2, k1, hB, u6⟩
        · exact ⟨g', y5, v1, l2, l1, v4.all _ (by omega), v5⟩
        · exact ⟨x, y5, g, u1, u2, u3, hB, hset _ _ _ _ _ _ _ (.inr rfl) v4 v2 v5 u5, u6⟩
  case c7 =>
    intro i hi hst k hk hne hds hds' vals W W' h
    simp only [List.mem_cons, List.not_mem_nil, or_false] at hst hk
    rcases hst with rfl | rfl <;> rcases hk with rfl | rfl | rfl | rfl | rfl | rfl | rfl | rfl <;> first | (exact absurd rfl hne) | (simp at hds; done) | (simp at hds'; done) | (exact h)
  case c8 =>
    intro vals W hL hall
    have q3 : vals 7 = vals 6 := hall 7 (by simp)
    obtain ⟨x5, y5, r4, q5⟩ := hall 9 (by simp)
    obtain ⟨x, y, g, u1, u2, u3, u4, u5, u6⟩ := hall 12 (by simp)
    obtain ⟨x9, y9, g', v0, v1, v2, v3⟩ := hall 13 (by simp)
    have e5 : x5 = x ∧ y5 = y := by rw [r4] at u1; simpa using u1
    have e9 : x9 = x ∧ y9 = y := by rw [v0] at u1; simpa using u1
    obtain ⟨rfl, rfl⟩ := e5
    obtain ⟨rfl, rfl⟩ := e9
    have := hfin _ _ g g' W hL u4 v2 u5 u6 v3
    simp only [putAll, List.foldl, hc.dst, hm.dst, h0.dst, h1.dst, ha.dst, he.dst, hs.dst, ht.dst, put_none, q3, q5, u1, u2, u3, v1]
    exact this
end Go.Proofs.Ytbcikndebaeahaa

namespace Go.Proofs.Ytbcikndebaeahaa
open Go.ChangeShapes Go.WideShapes Go.ChangeAt Go.RowKit
set_option linter.unusedVariables false
set_option maxRecDepth 4000
set_option linter.unusedSimpArgs false
/-! However the bytes come. -/
/-- parts: a slice of slices of bytes -/
def Pts (w : World) (v : Value) (P : List (List UInt8)) : Prop :=
  ∃ a c, v = .slice a P.length c ∧ P.length ≤ maxLen ∧ P.length ≤ c ∧ (P = [] ∨ ∃ b o, a = some ⟨b, o, none⟩ ∧ ∀ i (h : i < P.length), ∃ ax cx, w.cell? ⟨b, o + i, none⟩ = some (.slice ax P[i].length cx) ∧ Bs w (.slice ax P[i].length cx) P[i])
def PtW (w : World) (gx g7 g10 g11 : Nat) (U0 J0 U J : List Value) (W : World) : Prop :=
  Later w W ∧ Box W gx 32 U0 ∧ Box W g7 38 J0 ∧ Box W g10 32 U ∧ Box W g11 38 J ∧ (w.heap.size ≤ g10 ∧ w.heap.size ≤ g11 ∧ gx ≠ g10 ∧ gx ≠ g11 ∧ g7 ≠ g10 ∧ g7 ≠ g11 ∧ g10 ≠ g11)
theorem PtW.later {w : World} {gx g7 g10 g11 : Nat} {U0 J0 U J : List Value} {W W' : World} (h : PtW w gx g7 g10 g11 U0 J0 U J W) (hl : Later W W') : PtW w gx g7 g10 g11 U0 J0 U J W' :=
  ⟨h.1.trans hl, h.2.1.later hl, h.2.2.1.later hl, h.2.2.2.1.later hl, h.2.2.2.2.1.later hl, h.2.2.2.2.2⟩
theorem PtW.stU {w : World} {gx g7 g10 g11 : Nat} {U0 J0 U J : List Value} {W : World} (h : PtW w gx g7 g10 g11 U0 J0 U J W) (vs : List Value) (hl : vs.length = U.length) : PtW w gx g7 g10 g11 U0 J0 vs J (W.setCells g10 0 vs) := by
  obtain ⟨h1, h2, h3, h4, h5, n1, n2, n3, n4, n5, n6, n7⟩ := h
  exact ⟨h1.setCells n1 _ _, h2.apart _ n3 _ _, h3.apart _ n5 _ _, h4.all vs hl, h5.apart _ (fun e => n7 e.symm) _ _, n1, n2, n3, n4, n5, n6, n7⟩
theorem PtW.stJ {w : World} {gx g7 g10 g11 : Nat} {U0 J0 U J : List Value} {W : World} (h : PtW w gx g7 g10 g11 U0 J0 U J W) (vs : List Value) (hl : vs.length = J.length) : PtW w gx g7 g10 g11 U0 J0 U vs (W.setCells g11 0 vs) := by
  obtain ⟨h1, h2, h3, h4, h5, n1, n2, n3, n4, n5, n6, n7⟩ := h
  exact ⟨h1.setCells n2 _ _, h2.apart _ n4 _ _, h3.apart _ n6 _ _, h4.apart _ n7 _ _, h5.all vs hl, n1, n2, n3, n4, n5, n6, n7⟩
def PtI (w : World) (e1 e2 g10 g11 : Nat) (x y : List Value) (W : World) : Prop := Later w W ∧ Box W e1 32 x ∧ Box W e2 38 y ∧ (w.heap.size ≤ g10 ∧ w.heap.size ≤ g11 ∧ e1 ≠ g10 ∧ e1 ≠ g11 ∧ e2 ≠ g10 ∧ e2 ≠ g11)
theorem PtI.later {w : World} {e1 e2 g10 g11 : Nat} {x y : List Value} {W W' : World} (h : PtI w e1 e2 g10 g11 x y W) (hl : Later W W') : PtI w e1 e2 g10 g11 x y W' := ⟨h.1.trans hl, h.2.1.later hl, h.2.2.1.later hl, h.2.2.2⟩
theorem PtI.setU {w : World} {e1 e2 g10 g11 : Nat} {x y : List Value} {W : World} (h : PtI w e1 e2 g10 g11 x y W) (vs : List Value) : PtI w e1 e2 g10 g11 x y (W.setCells g10 0 vs) := by
  obtain ⟨h1, h2, h3, n1, n2, n3, n4, n5, n6⟩ := h
  exact ⟨h1.setCells n1 _ _, h2.apart _ n3 _ _, h3.apart _ n5 _ _, n1, n2, n3, n4, n5, n6⟩
theorem PtI.setJ {w : World} {e1 e2 g10 g11 : Nat} {x y : List Value} {W : World} (h : PtI w e1 e2 g10 g11 x y W) (vs : List Value) : PtI w e1 e2 g10 g11 x y (W.setCells g11 0 vs) := by
  obtain ⟨h1, h2, h3, n1, n2, n3, n4, n5, n6⟩ := h
  exact ⟨h1.setCells n2 _ _, h2.apart _ n4 _ _, h3.apart _ n6 _ _, n1, n2, n3, n4, n5, n6⟩
/-- attentions: those that came in, or new ones -/
def At10 (w W : World) (v : Value) (M : List Sns) : Prop := Sl w v M ∨ W.ownsRow w.heap.size 30 3 v M.length (sv M)
theorem At10.later {w W W' : World} {v : Value} {M : List Sns} (h : At10 w W v M) (hl : Later W W') : At10 w W' v M := by
  rcases h with h | h
  · exact .inl h
  · exact .inr (owns_later h hl)
theorem At10.sl {w W : World} {v : Value} {M : List Sns} (h : At10 w W v M) (hl : Later w W) (ho : ∀ s ∈ M, OkS s) : Sl W v M := by
  rcases h with h | h
  · exact h.later hl
  · exact Sl.of_owns10 h ho
theorem owns_setBox {W : World} {B n sz : Nat} {e : TypeId} {v : Value} {xs : List Value} (h : W.ownsRow B e sz v n xs) {g : Nat} {t : TypeId} {cs : List Value} (hB : Box W g t cs) (ht : t ≠ e) (vs : List Value) (o : Nat) : (W.setCells g o vs).ownsRow B e sz v n xs :=
  owns_kept h fun k hk => heap_setCells_other W g k (fun e' => box_ne_own hB h ht k hk e'.symm) _ _
theorem At10.set {w W : World} {v : Value} {M : List Sns} (h : At10 w W v M) {g : Nat} {t : TypeId} {cs : List Value} (hB : Box W g t cs) (ht : t ≠ 30) (vs : List Value) (o : Nat) : At10 w (W.setCells g o vs) v M := by
  rcases h with h | h
  · exact .inl h
  · exact .inr (owns_setBox h hB ht vs o)
/-- what a part's call comes to, as cells -/
def PdA (w : World) (n : Nat) (F : List UInt8) (D : List Drt) (p r l cc : Bool) (m : Nat) (M : List Sns) (s : Sns) (c : Cmd) (len took : Int) (kr : Nat) (R : List UInt8) (S : Sns) (x y : List Value) (W : World) : Prop :=
  ∃ am cm, PdT n F D p r l cc am m cm s c len took kr R S x y W ∧ W.ownsRow w.heap.size 30 3 (.slice am m cm) M.length (sv M)
theorem PdA.later {w : World} {n : Nat} {F : List UInt8} {D : List Drt} {p r l cc : Bool} {m : Nat} {M : List Sns} {s : Sns} {c : Cmd} {len took : Int} {kr : Nat} {R : List UInt8} {S : Sns} {x y : List Value} {W W' : World} (h : PdA w n F D p r l cc m M s c len took kr R S x y W) (hl : Later W W') : PdA w n F D p r l cc m M s c len took kr R S x y W' := by
  obtain ⟨am, cm, h1, h2⟩ := h
  exact ⟨am, cm, h1.later hl, owns_later h2 hl⟩
theorem PdA.set {w : World} {n : Nat} {F : List UInt8} {D : List Drt} {p r l cc : Bool} {m : Nat} {M : List Sns} {s : Sns} {c : Cmd} {len took : Int} {kr : Nat} {R : List UInt8} {S : Sns} {x y : List Value} {W : World} {g : Nat} {t : TypeId} {cs : List Value} (h : PdA w n F D p r l cc m M s c len took kr R S x y W) (ht : t = 32 ∨ t = 38) (hB : Box W g t cs) (hn : NoB cs) (vs : List Value) : PdA w n F D p r l cc m M s c len took kr R S x y (W.setCells g 0 vs) := by
  obtain ⟨am, cm, h1, h2⟩ := h
  exact ⟨am, cm, h1.set hB hn vs, owns_setBox h2 hB (by rcases ht with rfl | rfl <;> decide) vs 0⟩
theorem PdA.one {w : World} {n : Nat} {F : List UInt8} {D : List Drt} {p r l cc : Bool} {m : Nat} {M : List Sns} {s : Sns} {c : Cmd} {len took : Int} {kr : Nat} {R : List UInt8} {S : Sns} {x y : List Value} {W : World} (h : PdA w n F D p r l cc m M s c len took kr R S x y W) :
    (x.length = 10 ∧ NoB x ∧ ∀ u ∈ x, u.oneCell' = true) ∧ (y.length = 11 ∧ NoB y ∧ ∀ u ∈ y, u.oneCell' = true) := by
  obtain ⟨am, cm, h1, h2⟩ := h
  exact h1.one
/-- the job that was begun is right, and what it took is as much as came -/
theorem started {c : Cmd} (h : startB c = true) : startL c = some (startN c) ∧ startC c = c := by
  unfold startB startN startC at *
  cases hs : startL c with
  | none => rw [hs] at h; cases h
  | some z => exact ⟨rfl, rfl⟩
theorem start_ge {c : Cmd} (h : startB c = true) : 0 ≤ startN c := by
  obtain ⟨hs, _⟩ := started h
  unfold startL at hs
  split at hs
  · cases hs
  split at hs
  · simp only [Option.some.injEq] at hs; omega
  split at hs
  · simp only [Option.some.injEq] at hs; omega
  · cases hs
theorem started_took {n : Nat} {F : List UInt8} {D : List Drt} {p r cc : Bool} {c : Cmd} {A : List UInt8} (h : startB c = true) : (tkR n F D p r cc c (startN c) 0 [] (0, 0, 0) A).2.1 = if startN c < (A.length : Int) then startN c else (A.length : Int) := by
  have h0 := start_ge h
  have hR : rightJ c (startN c) 0 ([] : List UInt8).length = true := rightJ_of (started h).1 (by omega) h0 (by split <;> rfl)
  have ht : (tkN (startN c) 0 A.length : Int) = if startN c < (A.length : Int) then startN c else (A.length : Int) := by
    unfold tkN
    split <;> split <;> omega
  by_cases hM : modeOp c.1 = true
  · rw [tkR_mode hR hM]; dsimp only; omega
  · rw [tkR_blks hR hM rfl]; dsimp only; omega
end Go.Proofs.Ytbcikndebaeahaa
