import Derived.Test.YtbcikndebaeahaaWB10c
namespace Go.Proofs.Ytbcikndebaeahaa
open Go.ChangeShapes Go.WideShapes Go.ChangeAt Go.RowKit
set_option linter.unusedVariables false
set_option maxRecDepth 4000
set_option linter.unusedSimpArgs false
/-! The fixed fact's regions that draw (printed by chain.py). -/
set_option maxHeartbeats 4000000 in
theorem chain_u6 {ops : Array Oper} {Q : Exit → Act → World → Prop} {a : Act} {b : World} (f : FuncId) (hpl : Plain Try.prog f) (T1 T2 : TypeId) (hT : T1 ≠ T2) (hT1 : T1 ≠ 5) (hT2 : T2 ≠ 5) (z1 z2 : List Value) (hz1 : (Try.prog.info? T1).map (fun i => (i.zero, i.size)) = some (some (.agg z1.toArray), z1.length)) (hz2 : (Try.prog.info? T2).map (fun i => (i.zero, i.size)) = some (some (.agg z2.toArray), z2.length)) (hi1 : (Try.prog.info? T1).map (·.size) = some z1.length) (hi2 : (Try.prog.info? T2).map (·.size) = some z2.length) (hn1 : NoB z1) (hn2 : NoB z2)
    (Pd : List Value → List Value → World → Prop) (hone : ∀ x y W, Pd x y W → (x.length = z1.length ∧ NoB x ∧ ∀ u ∈ x, u.oneCell' = true) ∧ (y.length = z2.length ∧ NoB y ∧ ∀ u ∈ y, u.oneCell' = true))
    (hlat : ∀ x y W W', Later W W' → Pd x y W → Pd x y W') (hset : ∀ x y W g t cs vs, Box W g t cs → NoB cs → b.heap.size ≤ g → Pd x y W → Pd x y (W.setCells g 0 vs))
    (O58 : Value) (ho58 : a.eval (.tmp 58) = O58)
    (R0 : Value → World → Prop) (ht0 : dstOf ops 0 = some 54) (hr0 : ∀ v W W', Later W W' → R0 v W → R0 v W') (hs0 : ∀ v W g t cs vs, t ≠ 5 → Box W g t cs → NoB cs → b.heap.size ≤ g → R0 v W → R0 v (W.setCells g 0 vs))
    (hp0 : ∀ W, Later b W → lVal Try.prog ops 0 (fun v W' => R0 v W') a W)
    (hk0 : ∀ v W W', Keep8 W W' → R0 v W → R0 v W')
    (R1 : Value → World → Prop) (ht1 : dstOf ops 1 = some 55) (hr1 : ∀ v W W', Later W W' → R1 v W → R1 v W') (hs1 : ∀ v W g t cs vs, t ≠ 5 → Box W g t cs → NoB cs → b.heap.size ≤ g → R1 v W → R1 v (W.setCells g 0 vs))
    (hp1 : ∀ W, Later b W → lVal Try.prog ops 1 (fun v W' => R1 v W') a W)
    (hk1 : ∀ v W W', Keep8 W W' → R1 v W → R1 v W')
    (R2 : Value → World → Prop) (ht2 : dstOf ops 2 = some 56) (hr2 : ∀ v W W', Later W W' → R2 v W → R2 v W') (hs2 : ∀ v W g t cs vs, t ≠ 5 → Box W g t cs → NoB cs → b.heap.size ≤ g → R2 v W → R2 v (W.setCells g 0 vs))
    (hp2 : ∀ W, Later b W → lVal Try.prog ops 2 (fun v W' => R2 v W') a W)
    (R3 : Value → World → Prop) (ht3 : dstOf ops 5 = some 59) (hr3 : ∀ v W W', Later W W' → R3 v W → R3 v W') (hs3 : ∀ v W g t cs vs, t ≠ 5 → Box W g t cs → NoB cs → b.heap.size ≤ g → R3 v W → R3 v (W.setCells g 0 vs))
    (hp3 : ∀ W (v2 : Value) (a2 : Act), a2.eval (.tmp 56) = v2 → a2.eval (.tmp 58) = O58 → Later b W → R2 v2 W → lVal Try.prog ops 5 (fun v W' => R3 v W') a2 W)
    (R4 : Value → World → Prop) (ht4 : dstOf ops 6 = some 60) (hr4 : ∀ v W W', Later W W' → R4 v W → R4 v W') (hs4 : ∀ v W g t cs vs, t ≠ 5 → Box W g t cs → NoB cs → b.heap.size ≤ g → R4 v W → R4 v (W.setCells g 0 vs))
    (hp4 : ∀ W, Later b W → lVal Try.prog ops 6 (fun v W' => R4 v W') a W)
    (R5 : Value → World → Prop) (ht5 : dstOf ops 7 = some 61) (hr5 : ∀ v W W', Later W W' → R5 v W → R5 v W') (hs5 : ∀ v W g t cs vs, t ≠ 5 → Box W g t cs → NoB cs → b.heap.size ≤ g → R5 v W → R5 v (W.setCells g 0 vs))
    (hp5 : ∀ W (v2 v3 v4 : Value) (a2 : Act), a2.eval (.tmp 56) = v2 → a2.eval (.tmp 59) = v3 → a2.eval (.tmp 60) = v4 → Later b W → R2 v2 W → R3 v3 W → R4 v4 W → sVal Try.prog ops 7 (fun v W' => Later b W' ∧ R5 v W' ∧ Keep8 W W' ∧ R2 v2 W' ∧ R3 v3 W' ∧ R4 v4 W') a2 W)
    (ts : Array TypeId)
    (hc : OpAt ops 8 (some 62) (.call { callee := .value (.func f), args := ([.tmp 54, .tmp 55, .tmp 61] : List Operand).toArray, argTypes := ts })) (hm : OpAt ops 9 (some 53) (.move (.tmp 62))) (h0 : OpAt ops 10 (some 63) (.extract (.tmp 53) 0)) (h1 : OpAt ops 11 (some 64) (.extract (.tmp 53) 1))
    (ha : OpAt ops 12 (some 8) (.alloc T1)) (he : OpAt ops 13 (some 9) (.alloc T2)) (hs : OpAt ops 14 none (.store T1 (.tmp 8) (.tmp 63))) (ht : OpAt ops 15 none (.store T2 (.tmp 9) (.tmp 64))) (hsz : 211 ≤ a.tmps.size)
    (hd : ([0, 1, 2, 5, 6, 7, 8, 9, 10, 11, 12, 13, 14, 15].all fun i => ([0, 1, 2, 5, 6, 7, 8, 9, 10, 11, 12, 13, 14, 15].filter fun k => dep .any ops i k) == (match i with | 5 => [2] | 7 => [2, 5, 6] | 8 => [0, 1, 2, 5, 6, 7] | 9 => [0, 1, 2, 5, 6, 7, 8] | 10 => [0, 1, 2, 5, 6, 7, 8, 9] | 11 => [0, 1, 2, 5, 6, 7, 8, 9] | 14 => [0, 1, 2, 5, 6, 7, 8, 9, 10, 12, 13] | 15 => [0, 1, 2, 5, 6, 7, 8, 9, 10, 11, 12, 13, 14] | _ => [])) = true)
    (hcall : ∀ W (v0 v1 v2 v3 v4 v5 : Value), Later b W → R0 v0 W → R1 v1 W → R2 v2 W → R3 v3 W → R4 v4 W → R5 v5 W → Calls Try.prog f ([v0, v1, v5] : List Value).toArray W fun e w' => ∃ x y, e = .returned (.tuple #[.agg x.toArray, .agg y.toArray]) ∧ Later W w' ∧ Pd x y w')
    (hfin : ∀ x y g1 g2 W (v0 v1 v2 v3 v4 v5 : Value), Later b W → Box W g1 T1 x → Box W g2 T2 y → Pd x y W → b.heap.size ≤ g1 → b.heap.size ≤ g2 →
      Q .normal ((((((((((((a.put (some 54) v0).put (some 55) v1).put (some 56) v2).put (some 59) v3).put (some 60) v4).put (some 61) v5).put (some 62) (.tuple #[.agg x.toArray, .agg y.toArray])).put (some 53) (.tuple #[.agg x.toArray, .agg y.toArray])).put (some 63) (.agg x.toArray)).put (some 64) (.agg y.toArray)).put (some 8) (.pointer (some ⟨g1, 0, none⟩))).put (some 9) (.pointer (some ⟨g2, 0, none⟩))) W) :
    ∃ L R' SW, Bag3 Try.prog ops Q [7, 14, 15] [0, 1, 2, 5, 6, 7, 8, 9, 10, 11, 12, 13, 14, 15] a b L R' SW := by
  refine bag_of4 [0, 1, 2, 5, 6, 8, 9, 10, 11, 12, 13] (fun i => match i with | 5 => [2] | 7 => [2, 5, 6] | 8 => [0, 1, 2, 5, 6, 7] | 9 => [0, 1, 2, 5, 6, 7, 8] | 10 => [0, 1, 2, 5, 6, 7, 8, 9] | 11 => [0, 1, 2, 5, 6, 7, 8, 9] | 14 => [0, 1, 2, 5, 6, 7, 8, 9, 10, 12, 13] | 15 => [0, 1, 2, 5, 6, 7, 8, 9, 10, 11, 12, 13, 14] | _ => [])
    (fun W => Later b W)
    (fun i vals W => match i with
      | 0 => R0 (vals 0) W
      | 1 => R1 (vals 1) W
      | 2 => R2 (vals 2) W
      | 5 => R3 (vals 5) W
      | 6 => R4 (vals 6) W
      | 7 => R5 (vals 7) W
      | 8 => ∃ x y : List Value, vals 8 = .tuple #[.agg x.toArray, .agg y.toArray] ∧ Pd x y W
      | 9 => vals 9 = vals 8
      | 10 => ∃ x y : List Value, vals 8 = .tuple #[.agg x.toArray, .agg y.toArray] ∧ vals 10 = .agg x.toArray ∧ Pd x y W
      | 11 => ∃ x y : List Value, vals 8 = .tuple #[.agg x.toArray, .agg y.toArray] ∧ vals 11 = .agg y.toArray
      | 12 => ∃ g cr, vals 12 = .pointer (some ⟨g, 0, none⟩) ∧ NoB cr ∧ cr.length = z1.length ∧ Box W g T1 cr ∧ b.heap.size ≤ g
      | 13 => ∃ g cr, vals 13 = .pointer (some ⟨g, 0, none⟩) ∧ NoB cr ∧ cr.length = z2.length ∧ Box W g T2 cr ∧ b.heap.size ≤ g
      | 14 => ∃ (x y : List Value) (g : Nat), vals 8 = .tuple #[.agg x.toArray, .agg y.toArray] ∧ vals 10 = .agg x.toArray ∧ vals 12 = .pointer (some ⟨g, 0, none⟩) ∧ Box W g T1 x ∧ Pd x y W ∧ b.heap.size ≤ g
      | 15 => ∃ (x y : List Value) (g : Nat), vals 8 = .tuple #[.agg x.toArray, .agg y.toArray] ∧ vals 13 = .pointer (some ⟨g, 0, none⟩) ∧ Box W g T2 y ∧ b.heap.size ≤ g
      | _ => True) (fun i W W' => match i with | 7 => Keep8 W W' | _ => True) hd (by decide) (by decide) (Later.refl b) (fun w w' hl h => h.trans hl) ?c3 ?c4 ?c5 ?c6 ?c7 ?c8
  case c3 =>
    intro i hi vals W W' hl h
    simp only [List.mem_cons, List.not_mem_nil, or_false] at hi
    rcases hi with rfl | rfl | rfl | rfl | rfl | rfl | rfl | rfl | rfl | rfl | rfl | rfl | rfl | rfl
    · exact hr0 _ _ _ hl h
    · exact hr1 _ _ _ hl h
    · exact hr2 _ _ _ hl h
    · exact hr3 _ _ _ hl h
    · exact hr4 _ _ _ hl h
    · exact hr5 _ _ _ hl h
    · obtain ⟨x, y, q1, q2⟩ := h
      exact ⟨x, y, q1, hlat _ _ _ _ hl q2⟩
    · exact h
    · obtain ⟨x, y, q1, q2, q3⟩ := h
      exact ⟨x, y, q1, q2, hlat _ _ _ _ hl q3⟩
    · exact h
    · obtain ⟨g, cr, q1, q2, q3, q4, q5⟩ := h
      exact ⟨g, cr, q1, q2, q3, q4.later hl, q5⟩
    · obtain ⟨g, cr, q1, q2, q3, q4, q5⟩ := h
      exact ⟨g, cr, q1, q2, q3, q4.later hl, q5⟩
    · obtain ⟨x, y, g, q1, q2, q3, q4, q5, q6⟩ := h
      exact ⟨x, y, g, q1, q2, q3, q4.later hl, hlat _ _ _ _ hl q5, q6⟩
    · obtain ⟨x, y, g, q1, q2, q3, q4⟩ := h
      exact ⟨x, y, g, q1, q2, q3.later hl, q4⟩
  case c4 =>
    intro i hi k hk hne hds vals v W h
    simp only [List.mem_cons, List.not_mem_nil, or_false] at hi hk
    rcases hi with rfl | rfl | rfl | rfl | rfl | rfl | rfl | rfl | rfl | rfl | rfl | rfl | rfl | rfl <;> rcases hk with rfl | rfl | rfl | rfl | rfl | rfl | rfl | rfl | rfl | rfl | rfl | rfl | rfl | rfl <;> first | (exact absurd rfl hne) | (simp at hds; done) | (simpa [upd] using h)
  case c5 =>
    refine ⟨?_, ?_, ?_, ?_, ?_, ?_, ?_, ?_, ?_, ?_, ?_, trivial⟩
    · intro vals W hL hdep
      refine lVal_mono (fun v w' _ h => by simpa [upd] using h) (hp0 W hL)
    · intro vals W hL hdep
      refine lVal_mono (fun v w' _ h => by simpa [upd] using h) (hp1 W hL)
    · intro vals W hL hdep
      refine lVal_mono (fun v w' _ h => by simpa [upd] using h) (hp2 W hL)
    · intro vals W hL hdep
      simp only [putAll, List.foldl, ht2]
      refine lVal_mono (fun v w' _ h => by simpa [upd] using h) (hp3 W (vals 2) _ (by rw [eval_same (Nat.lt_of_lt_of_le (by decide) hsz)]) (by rw [eval_put_ne (by decide), ho58]) hL (hdep 2 (by simp)))
    · intro vals W hL hdep
      refine lVal_mono (fun v w' _ h => by simpa [upd] using h) (hp4 W hL)
    · intro vals W hL hdep
      simp only [putAll, List.foldl, ht0, ht1, ht2, ht3, ht4, ht5]
      refine lVal_callAt hc hpl [(vals 0), (vals 1), (vals 7)] ?_ ((hcall W (vals 0) (vals 1) (vals 2) (vals 5) (vals 6) (vals 7) hL (hdep 0 (by simp)) (hdep 1 (by simp)) (hdep 2 (by simp)) (hdep 5 (by simp)) (hdep 6 (by simp)) (hdep 7 (by simp))).mono ?_)
      · simp only [List.map]
        rw [show ((((((a.put (some 54) (vals 0)).put (some 55) (vals 1)).put (some 56) (vals 2)).put (some 59) (vals 5)).put (some 60) (vals 6)).put (some 61) (vals 7)).eval (.tmp 54) = vals 0 by rw [eval_put_ne (by decide), eval_put_ne (by decide), eval_put_ne (by decide), eval_put_ne (by decide), eval_put_ne (by decide), eval_same (Nat.lt_of_lt_of_le (by decide) hsz)]]
        rw [show ((((((a.put (some 54) (vals 0)).put (some 55) (vals 1)).put (some 56) (vals 2)).put (some 59) (vals 5)).put (some 60) (vals 6)).put (some 61) (vals 7)).eval (.tmp 55) = vals 1 by rw [eval_put_ne (by decide), eval_put_ne (by decide), eval_put_ne (by decide), eval_put_ne (by decide), eval_same (by simp only [put_size]; exact Nat.lt_of_lt_of_le (by decide) hsz)]]
        rw [show ((((((a.put (some 54) (vals 0)).put (some 55) (vals 1)).put (some 56) (vals 2)).put (some 59) (vals 5)).put (some 60) (vals 6)).put (some 61) (vals 7)).eval (.tmp 61) = vals 7 by rw [eval_same (by simp only [put_size]; exact Nat.lt_of_lt_of_le (by decide) hsz)]]
      rintro e w' ⟨x, y, rfl, q2, q3⟩
      exact ⟨_, rfl, q2, x, y, by simp [upd], q3⟩
    · intro vals W hL hdep
      refine lVal_moveAt hm (vals 8) ?_ (by simp [upd])
      simp only [putAll, List.foldl, ht0, ht1, ht2, ht3, ht4, ht5, hc.dst]
      exact eval_same (by simp only [put_size]; exact Nat.lt_of_lt_of_le (by decide) hsz)
    · intro vals W hL hdep
      obtain ⟨x, y, q1, q2⟩ := hdep 8 (by simp)
      have q3 : vals 9 = vals 8 := hdep 9 (by simp)
      refine lVal_extractAt h0 #[.agg x.toArray, .agg y.toArray] (.agg x.toArray) ?_ rfl ⟨x, y, by simpa [upd] using q1, by simp [upd], q2⟩
      simp only [putAll, List.foldl, ht0, ht1, ht2, ht3, ht4, ht5, hc.dst, hm.dst]
      rw [eval_same (by simp only [put_size]; exact Nat.lt_of_lt_of_le (by decide) hsz), q3, q1]
    · intro vals W hL hdep
      obtain ⟨x, y, q1, q2⟩ := hdep 8 (by simp)
      have q3 : vals 9 = vals 8 := hdep 9 (by simp)
      refine lVal_extractAt h1 #[.agg x.toArray, .agg y.toArray] (.agg y.toArray) ?_ rfl ⟨x, y, by simpa [upd] using q1, by simp [upd]⟩
      simp only [putAll, List.foldl, ht0, ht1, ht2, ht3, ht4, ht5, hc.dst, hm.dst]
      rw [eval_same (by simp only [put_size]; exact Nat.lt_of_lt_of_le (by decide) hsz), q3, q1]
    · intro vals W hL hdep
      exact lVal_allocAt ha _ _ hz1 ⟨W.heap.size, z1, by simp [upd], hn1, rfl, Box.new W _ _, hL.size⟩
    · intro vals W hL hdep
      exact lVal_allocAt he _ _ hz2 ⟨W.heap.size, z2, by simp [upd], hn2, rfl, Box.new W _ _, hL.size⟩
  case c6 =>
    refine ⟨?_, ?_, ?_, trivial⟩
    · intro vals W hL hdep
      simp only [putAll, List.foldl, ht2, ht3, ht4]
      have h := hp5 W (vals 2) (vals 5) (vals 6) (((a.put (some 56) (vals 2)).put (some 59) (vals 5)).put (some 60) (vals 6)) (by rw [eval_put_ne (by decide), eval_put_ne (by decide), eval_same (Nat.lt_of_lt_of_le (by decide) hsz)]) (by rw [eval_put_ne (by decide), eval_same (by simp only [put_size]; exact Nat.lt_of_lt_of_le (by decide) hsz)]) (by rw [eval_same (by simp only [put_size]; exact Nat.lt_of_lt_of_le (by decide) hsz)]) hL (hdep 2 (by simp)) (hdep 5 (by simp)) (hdep 6 (by simp))
      refine sVal_mono (fun v w' hh => ?_) h
      obtain ⟨e, er, ek, e2, e3, e4⟩ := hh
      refine ⟨e, by simpa [upd] using er, ek, ?_⟩
      intro k hk
      simp only [List.mem_cons, List.not_mem_nil, or_false] at hk
      rcases hk with rfl | rfl | rfl
      · exact e2
      · exact e3
      · exact e4
    · intro vals W hL hdep
      obtain ⟨x', y', p1, p2⟩ := hdep 8 (by simp)
      have q3' := hdep 9 (by simp)
      obtain ⟨x, y, q1, q2, q3⟩ := hdep 10 (by simp)
      obtain ⟨g, cr, u1, u2, u3, u4, u5⟩ := hdep 12 (by simp)
      obtain ⟨g', cs, v1, v2, v3, v4, v5⟩ := hdep 13 (by simp)
      have w0 := hdep 0 (by simp)
      have w1 := hdep 1 (by simp)
      have w2 := hdep 2 (by simp)
      have w3 := hdep 5 (by simp)
      have w4 := hdep 6 (by simp)
      have w5 := hdep 7 (by simp)
      obtain ⟨⟨l1, l2, l3⟩, _⟩ := hone _ _ _ q3
      refine sVal_storeAt hs g x ?_ ?_ (u4.there 0 x.length (by omega)) (by rw [hi1, l1]) l3 (fun u => ⟨hL.setCells u5 _ 0, ?_, trivial, ?_⟩)
      · simp only [putAll, List.foldl, ht0, ht1, ht2, ht3, ht4, ht5, hc.dst, hm.dst, h0.dst, ha.dst, he.dst]
        rw [eval_put_ne (by decide), eval_same (by simp only [put_size]; exact Nat.lt_of_lt_of_le (by decide) hsz), u1]
      · simp only [putAll, List.foldl, ht0, ht1, ht2, ht3, ht4, ht5, hc.dst, hm.dst, h0.dst, ha.dst, he.dst]
        rw [eval_put_ne (by decide), eval_put_ne (by decide), eval_same (by simp only [put_size]; exact Nat.lt_of_lt_of_le (by decide) hsz), q2]
      · exact ⟨x, y, g, by simpa [upd] using q1, by simpa [upd] using q2, by simpa [upd] using u1, u4.all _ (by omega), hset _ _ _ _ _ _ _ u4 u2 u5 q3, u5⟩
      · intro k hk
        simp only [List.mem_cons, List.not_mem_nil, or_false] at hk
        rcases hk with rfl | rfl | rfl | rfl | rfl | rfl | rfl | rfl | rfl | rfl | rfl
        · exact hs0 _ _ _ _ _ _ hT1 u4 u2 u5 w0
        · exact hs1 _ _ _ _ _ _ hT1 u4 u2 u5 w1
        · exact hs2 _ _ _ _ _ _ hT1 u4 u2 u5 w2
        · exact hs3 _ _ _ _ _ _ hT1 u4 u2 u5 w3
        · exact hs4 _ _ _ _ _ _ hT1 u4 u2 u5 w4
        · exact hs5 _ _ _ _ _ _ hT1 u4 u2 u5 w5
        · exact ⟨x', y', p1, hset _ _ _ _ _ _ _ u4 u2 u5 p2⟩
        · exact q3'
        · exact ⟨x, y, q1, q2, hset _ _ _ _ _ _ _ u4 u2 u5 q3⟩
        · exact ⟨g, x, u1, l2, l1, u4.all x (by omega), u5⟩
        · exact ⟨g', cs, v1, v2, v3, v4.kept (heap_setCells_other W _ _ (box_ne v4 u4 (fun e => hT e.symm)) _ _), v5⟩
    · intro vals W hL hdep
      obtain ⟨x', y', p1, p2⟩ := hdep 8 (by simp)
      have q3' := hdep 9 (by simp)
      obtain ⟨x4, y4, r1, r2, r3⟩ := hdep 10 (by simp)
      obtain ⟨x5, y5, r4, q5⟩ := hdep 11 (by simp)
      obtain ⟨x, y, g, u1, u2, u3, u4, u5, u6⟩ := hdep 14 (by simp)
      obtain ⟨g', cs, v1, v2, v3, v4, v5⟩ := hdep 13 (by simp)
      have w0 := hdep 0 (by simp)
      have w1 := hdep 1 (by simp)
      have w2 := hdep 2 (by simp)
      have w3 := hdep 5 (by simp)
      have w4 := hdep 6 (by simp)
      have w5 := hdep 7 (by simp)
      obtain ⟨⟨m1, m2, m3⟩, l1, l2, l3⟩ := hone _ _ _ u5
      have ey : y5 = y := by
        rw [r4] at u1
        simp at u1
        exact u1.2
      subst ey
      have hB := u4.kept (heap_setCells_other W g' g (box_ne u4 v4 hT) y5 0)
      refine sVal_storeAt ht g' y5 ?_ ?_ (v4.there 0 y5.length (by omega)) (by rw [hi2, l1]) l3 (fun u => ⟨hL.setCells v5 _ 0, ?_, trivial, ?_⟩)
      · simp only [putAll, List.foldl, ht0, ht1, ht2, ht3, ht4, ht5, hc.dst, hm.dst, h0.dst, h1.dst, ha.dst, he.dst, hs.dst, put_none]
        rw [eval_same (by simp only [put_size]; exact Nat.lt_of_lt_of_le (by decide) hsz), v1]
      · simp only [putAll, List.foldl, ht0, ht1, ht2, ht3, ht4, ht5, hc.dst, hm.dst, h0.dst, h1.dst, ha.dst, he.dst, hs.dst, put_none]
        rw [eval_put_ne (by decide), eval_put_ne (by decide), eval_same (by simp only [put_size]; exact Nat.lt_of_lt_of_le (by decide) hsz), q5]
      · exact ⟨x, y5, g', by simpa [upd] using u1, by simpa [upd] using v1, v4.all _ (by omega), v5⟩
      · intro k hk
        simp only [List.mem_cons, List.not_mem_nil, or_false] at hk
        rcases hk with rfl | rfl | rfl | rfl | rfl | rfl | rfl | rfl | rfl | rfl | rfl | rfl | rfl
        · exact hs0 _ _ _ _ _ _ hT2 v4 v2 v5 w0
        · exact hs1 _ _ _ _ _ _ hT2 v4 v2 v5 w1
        · exact hs2 _ _ _ _ _ _ hT2 v4 v2 v5 w2
        · exact hs3 _ _ _ _ _ _ hT2 v4 v2 v5 w3
        · exact hs4 _ _ _ _ _ _ hT2 v4 v2 v5 w4
        · exact hs5 _ _ _ _ _ _ hT2 v4 v2 v5 w5
        · exact ⟨x', y', p1, hset _ _ _ _ _ _ _ v4 v2 v5 p2⟩
        · exact q3'
        · exact ⟨x4, y4, r1, r2, hset _ _ _ _ _ _ _ v4 v2 v5 r3⟩
        · exact ⟨x5, y5, r4, q5⟩
        · exact ⟨g, x, u3, m2, m1, hB, u6⟩
        · exact ⟨g', y5, v1, l2, l1, v4.all _ (by omega), v5⟩
        · exact ⟨x, y5, g, u1, u2, u3, hB, hset _ _ _ _ _ _ _ v4 v2 v5 u5, u6⟩
  case c7 =>
    intro i hi hst k hk hne hds hds' vals W W' hsw h
    simp only [List.mem_cons, List.not_mem_nil, or_false] at hst hk
    rcases hst with rfl | rfl | rfl <;> rcases hk with rfl | rfl | rfl | rfl | rfl | rfl | rfl | rfl | rfl | rfl | rfl | rfl | rfl | rfl <;> first | (exact absurd rfl hne) | (simp at hds; done) | (simp at hds'; done) | (exact h) | (exact hk0 _ _ _ hsw h) | (exact hk1 _ _ _ hsw h) | (obtain ⟨g, cr, q1, q2, q3, q4, q5⟩ := h; exact ⟨g, cr, q1, q2, q3, hsw _ _ _ hT1 q4, q5⟩) | (obtain ⟨g, cr, q1, q2, q3, q4, q5⟩ := h; exact ⟨g, cr, q1, q2, q3, hsw _ _ _ hT2 q4, q5⟩)
  case c8 =>
    intro vals W hL hall
    have q3 : vals 9 = vals 8 := hall 9 (by simp)
    obtain ⟨x5, y5, r4, q5⟩ := hall 11 (by simp)
    obtain ⟨x, y, g, u1, u2, u3, u4, u5, u6⟩ := hall 14 (by simp)
    obtain ⟨x9, y9, g', v0, v1, v2, v3⟩ := hall 15 (by simp)
    have e5 : x5 = x ∧ y5 = y := by rw [r4] at u1; simpa using u1
    have e9 : x9 = x ∧ y9 = y := by rw [v0] at u1; simpa using u1
    obtain ⟨rfl, rfl⟩ := e5
    obtain ⟨rfl, rfl⟩ := e9
    have := hfin _ _ g g' W (vals 0) (vals 1) (vals 2) (vals 5) (vals 6) (vals 7) hL u4 v2 u5 u6 v3
    simp only [putAll, List.foldl, ht0, ht1, ht2, ht3, ht4, ht5, hc.dst, hm.dst, h0.dst, h1.dst, ha.dst, he.dst, hs.dst, ht.dst, put_none, q3, q5, u1, u2, u3, v1]
    exact this
end Go.Proofs.Ytbcikndebaeahaa
