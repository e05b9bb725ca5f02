import Derived.Test.YtbcikndebaeahaaMAQ
import Derived.Test.YtbcikndebaeahaaMAS
namespace Go.Proofs.Ytbcikndebaeahaa
open Go.ChangeShapes Go.WideShapes Go.ChangeAt Go.RowKit
set_option linter.unusedVariables false
set_option maxRecDepth 4000
set_option linter.unusedSimpArgs false
/-! The fixed fact's regions that draw (printed by chain.py). -/
def Keep8 (W W' : World) : Prop := ∀ g t cs, t ≠ 5 → Box W g t cs → Box W' g t cs
theorem sVal_mono {P : Program} {ops : Array Oper} {i : Nat} {R R' : Value → World → Prop} {a : Act} {w : World} (hR : ∀ v w', R v w' → R' v w') (h : sVal P ops i R a w) : sVal P ops i R' a w := by
  unfold sVal at *
  split
  · rename_i ho; simp [ho] at h
  · rename_i o ho
    simp only [ho] at h
    split
    · rename_i hw
      simp only [hw, if_true] at h
      generalize (execOp a.eval o).run P w = r at *
      cases r with
      | ok n w' => cases n <;> simp only [sUpon] at h ⊢ <;> exact hR _ _ h
      | halt x w' => simp only [sUpon] at h
    · rename_i hw
      simp only [hw] at h
      exact hR _ _ h
set_option maxHeartbeats 4000000 in
theorem chain_u4 {ops : Array Oper} {Q : Exit → Act → World → Prop} {a : Act} {b : World} (f : FuncId) (hpl : Plain Try.prog f) (T1 T2 : TypeId) (hT : T1 ≠ T2) (hT1 : T1 ≠ 5) (hT2 : T2 ≠ 5) (z1 z2 : List Value) (hz1 : (Try.prog.info? T1).map (fun i => (i.zero, i.size)) = some (some (.agg z1.toArray), z1.length)) (hz2 : (Try.prog.info? T2).map (fun i => (i.zero, i.size)) = some (some (.agg z2.toArray), z2.length)) (hi1 : (Try.prog.info? T1).map (·.size) = some z1.length) (hi2 : (Try.prog.info? T2).map (·.size) = some z2.length) (hn1 : NoB z1) (hn2 : NoB z2)
    (Pd : List Value → List Value → World → Prop) (hone : ∀ x y W, Pd x y W → (x.length = z1.length ∧ NoB x ∧ ∀ u ∈ x, u.oneCell' = true) ∧ (y.length = z2.length ∧ NoB y ∧ ∀ u ∈ y, u.oneCell' = true))
    (hlat : ∀ x y W W', Later W W' → Pd x y W → Pd x y W') (hset : ∀ x y W g t cs vs, Box W g t cs → NoB cs → b.heap.size ≤ g → Pd x y W → Pd x y (W.setCells g 0 vs))
    (O41 : Value) (ho41 : a.eval (.tmp 41) = O41)
    (O43 : Value) (ho43 : a.eval (.tmp 43) = O43)
    (R0 : Value → World → Prop) (ht0 : dstOf ops 0 = some 40) (hr0 : ∀ v W W', Later W W' → R0 v W → R0 v W') (hs0 : ∀ v W g t cs vs, t ≠ 5 → Box W g t cs → NoB cs → b.heap.size ≤ g → R0 v W → R0 v (W.setCells g 0 vs))
    (hp0 : ∀ W, Later b W → lVal Try.prog ops 0 (fun v W' => R0 v W') a W)
    (ts : Array TypeId)
    (hc : OpAt ops 4 (some 44) (.call { callee := .value (.func f), args := ([.tmp 40, .tmp 41, .tmp 43] : List Operand).toArray, argTypes := ts })) (hm : OpAt ops 5 (some 39) (.move (.tmp 44))) (h0 : OpAt ops 6 (some 45) (.extract (.tmp 39) 0)) (h1 : OpAt ops 7 (some 46) (.extract (.tmp 39) 1))
    (ha : OpAt ops 8 (some 4) (.alloc T1)) (he : OpAt ops 9 (some 5) (.alloc T2)) (hs : OpAt ops 10 none (.store T1 (.tmp 4) (.tmp 45))) (ht : OpAt ops 11 none (.store T2 (.tmp 5) (.tmp 46))) (hsz : 211 ≤ a.tmps.size)
    (hd : ([0, 4, 5, 6, 7, 8, 9, 10, 11].all fun i => ([0, 4, 5, 6, 7, 8, 9, 10, 11].filter fun k => dep .any ops i k) == (match i with | 4 => [0] | 5 => [0, 4] | 6 => [0, 4, 5] | 7 => [0, 4, 5] | 10 => [0, 4, 5, 6, 8, 9] | 11 => [0, 4, 5, 6, 7, 8, 9, 10] | _ => [])) = true)
    (hcall : ∀ W (v0 : Value), Later b W → R0 v0 W → Calls Try.prog f ([v0, O41, O43] : List Value).toArray W fun e w' => ∃ x y, e = .returned (.tuple #[.agg x.toArray, .agg y.toArray]) ∧ Later W w' ∧ Pd x y w')
    (hfin : ∀ x y g1 g2 W (v0 : Value), Later b W → Box W g1 T1 x → Box W g2 T2 y → Pd x y W → b.heap.size ≤ g1 → b.heap.size ≤ g2 →
      Q .normal (((((((a.put (some 40) v0).put (some 44) (.tuple #[.agg x.toArray, .agg y.toArray])).put (some 39) (.tuple #[.agg x.toArray, .agg y.toArray])).put (some 45) (.agg x.toArray)).put (some 46) (.agg y.toArray)).put (some 4) (.pointer (some ⟨g1, 0, none⟩))).put (some 5) (.pointer (some ⟨g2, 0, none⟩))) W) :
    ∃ L R' SW, Bag3 Try.prog ops Q [10, 11] [0, 4, 5, 6, 7, 8, 9, 10, 11] a b L R' SW := by
  refine bag_of4 [0, 4, 5, 6, 7, 8, 9] (fun i => match i with | 4 => [0] | 5 => [0, 4] | 6 => [0, 4, 5] | 7 => [0, 4, 5] | 10 => [0, 4, 5, 6, 8, 9] | 11 => [0, 4, 5, 6, 7, 8, 9, 10] | _ => [])
    (fun W => Later b W)
    (fun i vals W => match i with
      | 0 => R0 (vals 0) W
      | 4 => ∃ x y : List Value, vals 4 = .tuple #[.agg x.toArray, .agg y.toArray] ∧ Pd x y W
      | 5 => vals 5 = vals 4
      | 6 => ∃ x y : List Value, vals 4 = .tuple #[.agg x.toArray, .agg y.toArray] ∧ vals 6 = .agg x.toArray ∧ Pd x y W
      | 7 => ∃ x y : List Value, vals 4 = .tuple #[.agg x.toArray, .agg y.toArray] ∧ vals 7 = .agg y.toArray
      | 8 => ∃ g cr, vals 8 = .pointer (some ⟨g, 0, none⟩) ∧ NoB cr ∧ cr.length = z1.length ∧ Box W g T1 cr ∧ b.heap.size ≤ g
      | 9 => ∃ g cr, vals 9 = .pointer (some ⟨g, 0, none⟩) ∧ NoB cr ∧ cr.length = z2.length ∧ Box W g T2 cr ∧ b.heap.size ≤ g
      | 10 => ∃ (x y : List Value) (g : Nat), vals 4 = .tuple #[.agg x.toArray, .agg y.toArray] ∧ vals 6 = .agg x.toArray ∧ vals 8 = .pointer (some ⟨g, 0, none⟩) ∧ Box W g T1 x ∧ Pd x y W ∧ b.heap.size ≤ g
      | 11 => ∃ (x y : List Value) (g : Nat), vals 4 = .tuple #[.agg x.toArray, .agg y.toArray] ∧ vals 9 = .pointer (some ⟨g, 0, none⟩) ∧ Box W g T2 y ∧ b.heap.size ≤ g
      | _ => True) (fun i W W' => match i with  | _ => True) hd (by decide) (by decide) (Later.refl b) (fun w w' hl h => h.trans hl) ?c3 ?c4 ?c5 ?c6 ?c7 ?c8
  case c3 =>
    intro i hi vals W W' hl h
    simp only [List.mem_cons, List.not_mem_nil, or_false] at hi
    rcases hi with rfl | rfl | rfl | rfl | rfl | rfl | rfl | rfl | rfl
    · exact hr0 _ _ _ hl h
    · obtain ⟨x, y, q1, q2⟩ := h
      exact ⟨x, y, q1, hlat _ _ _ _ hl q2⟩
    · exact h
    · obtain ⟨x, y, q1, q2, q3⟩ := h
      exact ⟨x, y, q1, q2, hlat _ _ _ _ hl q3⟩
    · exact h
    · obtain ⟨g, cr, q1, q2, q3, q4, q5⟩ := h
      exact ⟨g, cr, q1, q2, q3, q4.later hl, q5⟩
    · obtain ⟨g, cr, q1, q2, q3, q4, q5⟩ := h
      exact ⟨g, cr, q1, q2, q3, q4.later hl, q5⟩
    · obtain ⟨x, y, g, q1, q2, q3, q4, q5, q6⟩ := h
      exact ⟨x, y, g, q1, q2, q3, q4.later hl, hlat _ _ _ _ hl q5, q6⟩
    · obtain ⟨x, y, g, q1, q2, q3, q4⟩ := h
      exact ⟨x, y, g, q1, q2, q3.later hl, q4⟩
  case c4 =>
    intro i hi k hk hne hds vals v W h
    simp only [List.mem_cons, List.not_mem_nil, or_false] at hi hk
    rcases hi with rfl | rfl | rfl | rfl | rfl | rfl | rfl | rfl | rfl <;> rcases hk with rfl | rfl | rfl | rfl | rfl | rfl | rfl | rfl | rfl <;> first | (exact absurd rfl hne) | (simp at hds; done) | (simpa [upd] using h)
  case c5 =>
    refine ⟨?_, ?_, ?_, ?_, ?_, ?_, ?_, trivial⟩
    · intro vals W hL hdep
      refine lVal_mono (fun v w' _ h => by simpa [upd] using h) (hp0 W hL)
    · intro vals W hL hdep
      simp only [putAll, List.foldl, ht0]
      refine lVal_callAt hc hpl [(vals 0), O41, O43] ?_ ((hcall W (vals 0) hL (hdep 0 (by simp))).mono ?_)
      · simp only [List.map]
        rw [show (a.put (some 40) (vals 0)).eval (.tmp 40) = vals 0 by rw [eval_same (Nat.lt_of_lt_of_le (by decide) hsz)]]
        rw [show (a.put (some 40) (vals 0)).eval (.tmp 41) = O41 by rw [eval_put_ne (by decide), ho41]]
        rw [show (a.put (some 40) (vals 0)).eval (.tmp 43) = O43 by rw [eval_put_ne (by decide), ho43]]
      rintro e w' ⟨x, y, rfl, q2, q3⟩
      exact ⟨_, rfl, q2, x, y, by simp [upd], q3⟩
    · intro vals W hL hdep
      refine lVal_moveAt hm (vals 4) ?_ (by simp [upd])
      simp only [putAll, List.foldl, ht0, hc.dst]
      exact eval_same (by simp only [put_size]; exact Nat.lt_of_lt_of_le (by decide) hsz)
    · intro vals W hL hdep
      obtain ⟨x, y, q1, q2⟩ := hdep 4 (by simp)
      have q3 : vals 5 = vals 4 := hdep 5 (by simp)
      refine lVal_extractAt h0 #[.agg x.toArray, .agg y.toArray] (.agg x.toArray) ?_ rfl ⟨x, y, by simpa [upd] using q1, by simp [upd], q2⟩
      simp only [putAll, List.foldl, ht0, hc.dst, hm.dst]
      rw [eval_same (by simp only [put_size]; exact Nat.lt_of_lt_of_le (by decide) hsz), q3, q1]
    · intro vals W hL hdep
      obtain ⟨x, y, q1, q2⟩ := hdep 4 (by simp)
      have q3 : vals 5 = vals 4 := hdep 5 (by simp)
      refine lVal_extractAt h1 #[.agg x.toArray, .agg y.toArray] (.agg y.toArray) ?_ rfl ⟨x, y, by simpa [upd] using q1, by simp [upd]⟩
      simp only [putAll, List.foldl, ht0, hc.dst, hm.dst]
      rw [eval_same (by simp only [put_size]; exact Nat.lt_of_lt_of_le (by decide) hsz), q3, q1]
    · intro vals W hL hdep
      exact lVal_allocAt ha _ _ hz1 ⟨W.heap.size, z1, by simp [upd], hn1, rfl, Box.new W _ _, hL.size⟩
    · intro vals W hL hdep
      exact lVal_allocAt he _ _ hz2 ⟨W.heap.size, z2, by simp [upd], hn2, rfl, Box.new W _ _, hL.size⟩
  case c6 =>
    refine ⟨?_, ?_, trivial⟩
    · intro vals W hL hdep
      obtain ⟨x', y', p1, p2⟩ := hdep 4 (by simp)
      have q3' := hdep 5 (by simp)
      obtain ⟨x, y, q1, q2, q3⟩ := hdep 6 (by simp)
      obtain ⟨g, cr, u1, u2, u3, u4, u5⟩ := hdep 8 (by simp)
      obtain ⟨g', cs, v1, v2, v3, v4, v5⟩ := hdep 9 (by simp)
      have w0 := hdep 0 (by simp)
      obtain ⟨⟨l1, l2, l3⟩, _⟩ := hone _ _ _ q3
      refine sVal_storeAt hs g x ?_ ?_ (u4.there 0 x.length (by omega)) (by rw [hi1, l1]) l3 (fun u => ⟨hL.setCells u5 _ 0, ?_, trivial, ?_⟩)
      · simp only [putAll, List.foldl, ht0, hc.dst, hm.dst, h0.dst, ha.dst, he.dst]
        rw [eval_put_ne (by decide), eval_same (by simp only [put_size]; exact Nat.lt_of_lt_of_le (by decide) hsz), u1]
      · simp only [putAll, List.foldl, ht0, hc.dst, hm.dst, h0.dst, ha.dst, he.dst]
        rw [eval_put_ne (by decide), eval_put_ne (by decide), eval_same (by simp only [put_size]; exact Nat.lt_of_lt_of_le (by decide) hsz), q2]
      · exact ⟨x, y, g, by simpa [upd] using q1, by simpa [upd] using q2, by simpa [upd] using u1, u4.all _ (by omega), hset _ _ _ _ _ _ _ u4 u2 u5 q3, u5⟩
      · intro k hk
        simp only [List.mem_cons, List.not_mem_nil, or_false] at hk
        rcases hk with rfl | rfl | rfl | rfl | rfl | rfl
        · exact hs0 _ _ _ _ _ _ hT1 u4 u2 u5 w0
        · exact ⟨x', y', p1, hset _ _ _ _ _ _ _ u4 u2 u5 p2⟩
        · exact q3'
        · exact ⟨x, y, q1, q2, hset _ _ _ _ _ _ _ u4 u2 u5 q3⟩
        · exact ⟨g, x, u1, l2, l1, u4.all x (by omega), u5⟩
        · exact ⟨g', cs, v1, v2, v3, v4.kept (heap_setCells_other W _ _ (box_ne v4 u4 (fun e => hT e.symm)) _ _), v5⟩
    · intro vals W hL hdep
      obtain ⟨x', y', p1, p2⟩ := hdep 4 (by simp)
      have q3' := hdep 5 (by simp)
      obtain ⟨x4, y4, r1, r2, r3⟩ := hdep 6 (by simp)
      obtain ⟨x5, y5, r4, q5⟩ := hdep 7 (by simp)
      obtain ⟨x, y, g, u1, u2, u3, u4, u5, u6⟩ := hdep 10 (by simp)
      obtain ⟨g', cs, v1, v2, v3, v4, v5⟩ := hdep 9 (by simp)
      have w0 := hdep 0 (by simp)
      obtain ⟨⟨m1, m2, m3⟩, l1, l2, l3⟩ := hone _ _ _ u5
      have ey : y5 = y := by
        rw [r4] at u1
        simp at u1
        exact u1.2
      subst ey
      have hB := u4.kept (heap_setCells_other W g' g (box_ne u4 v4 hT) y5 0)
      refine sVal_storeAt ht g' y5 ?_ ?_ (v4.there 0 y5.length (by omega)) (by rw [hi2, l1]) l3 (fun u => ⟨hL.setCells v5 _ 0, ?_, trivial, ?_⟩)
      · simp only [putAll, List.foldl, ht0, hc.dst, hm.dst, h0.dst, h1.dst, ha.dst, he.dst, hs.dst, put_none]
        rw [eval_same (by simp only [put_size]; exact Nat.lt_of_lt_of_le (by decide) hsz), v1]
      · simp only [putAll, List.foldl, ht0, hc.dst, hm.dst, h0.dst, h1.dst, ha.dst, he.dst, hs.dst, put_none]
        rw [eval_put_ne (by decide), eval_put_ne (by decide), eval_same (by simp only [put_size]; exact Nat.lt_of_lt_of_le (by decide) hsz), q5]
      · exact ⟨x, y5, g', by simpa [upd] using u1, by simpa [upd] using v1, v4.all _ (by omega), v5⟩
      · intro k hk
        simp only [List.mem_cons, List.not_mem_nil, or_false] at hk
        rcases hk with rfl | rfl | rfl | rfl | rfl | rfl | rfl | rfl
        · exact hs0 _ _ _ _ _ _ hT2 v4 v2 v5 w0
        · exact ⟨x', y', p1, hset _ _ _ _ _ _ _ v4 v2 v5 p2⟩
        · exact q3'
        · exact ⟨x4, y4, r1, r2, hset _ _ _ _ _ _ _ v4 v2 v5 r3⟩
        · exact ⟨x5, y5, r4, q5⟩
        · exact ⟨g, x, u3, m2, m1, hB, u6⟩
        · exact ⟨g', y5, v1, l2, l1, v4.all _ (by omega), v5⟩
        · exact ⟨x, y5, g, u1, u2, u3, hB, hset _ _ _ _ _ _ _ v4 v2 v5 u5, u6⟩
  case c7 =>
    intro i hi hst k hk hne hds hds' vals W W' hsw h
    simp only [List.mem_cons, List.not_mem_nil, or_false] at hst hk
    rcases hst with rfl | rfl <;> rcases hk with rfl | rfl | rfl | rfl | rfl | rfl | rfl | rfl | rfl <;> first | (exact absurd rfl hne) | (simp at hds; done) | (simp at hds'; done) | (exact h)
  case c8 =>
    intro vals W hL hall
    have q3 : vals 5 = vals 4 := hall 5 (by simp)
    obtain ⟨x5, y5, r4, q5⟩ := hall 7 (by simp)
    obtain ⟨x, y, g, u1, u2, u3, u4, u5, u6⟩ := hall 10 (by simp)
    obtain ⟨x9, y9, g', v0, v1, v2, v3⟩ := hall 11 (by simp)
    have e5 : x5 = x ∧ y5 = y := by rw [r4] at u1; simpa using u1
    have e9 : x9 = x ∧ y9 = y := by rw [v0] at u1; simpa using u1
    obtain ⟨rfl, rfl⟩ := e5
    obtain ⟨rfl, rfl⟩ := e9
    have := hfin _ _ g g' W (vals 0) hL u4 v2 u5 u6 v3
    simp only [putAll, List.foldl, ht0, hc.dst, hm.dst, h0.dst, h1.dst, ha.dst, he.dst, hs.dst, ht.dst, put_none, q3, q5, u1, u2, u3, v1]
    exact this
set_option maxHeartbeats 4000000 in
theorem chain_u11 {ops : Array Oper} {Q : Exit → Act → World → Prop} {a : Act} {b : World} (f : FuncId) (hpl : Plain Try.prog f) (T1 T2 : TypeId) (hT : T1 ≠ T2) (hT1 : T1 ≠ 5) (hT2 : T2 ≠ 5) (z1 z2 : List Value) (hz1 : (Try.prog.info? T1).map (fun i => (i.zero, i.size)) = some (some (.agg z1.toArray), z1.length)) (hz2 : (Try.prog.info? T2).map (fun i => (i.zero, i.size)) = some (some (.agg z2.toArray), z2.length)) (hi1 : (Try.prog.info? T1).map (·.size) = some z1.length) (hi2 : (Try.prog.info? T2).map (·.size) = some z2.length) (hn1 : NoB z1) (hn2 : NoB z2)
    (Pd : List Value → List Value → World → Prop) (hone : ∀ x y W, Pd x y W → (x.length = z1.length ∧ NoB x ∧ ∀ u ∈ x, u.oneCell' = true) ∧ (y.length = z2.length ∧ NoB y ∧ ∀ u ∈ y, u.oneCell' = true))
    (hlat : ∀ x y W W', Later W W' → Pd x y W → Pd x y W') (hset : ∀ x y W g t cs vs, Box W g t cs → NoB cs → b.heap.size ≤ g → Pd x y W → Pd x y (W.setCells g 0 vs))
    (O88 : Value) (ho88 : a.eval (.tmp 88) = O88)
    (O89 : Value) (ho89 : a.eval (.tmp 89) = O89)
    (R0 : Value → World → Prop) (ht0 : dstOf ops 2 = some 90) (hr0 : ∀ v W W', Later W W' → R0 v W → R0 v W') (hs0 : ∀ v W g t cs vs, t ≠ 5 → Box W g t cs → NoB cs → b.heap.size ≤ g → R0 v W → R0 v (W.setCells g 0 vs))
    (hp0 : ∀ W, Later b W → lVal Try.prog ops 2 (fun v W' => R0 v W') a W)
    (ts : Array TypeId)
    (hc : OpAt ops 3 (some 91) (.call { callee := .value (.func f), args := ([.tmp 88, .tmp 89, .tmp 90] : List Operand).toArray, argTypes := ts })) (hm : OpAt ops 4 (some 87) (.move (.tmp 91))) (h0 : OpAt ops 5 (some 92) (.extract (.tmp 87) 0)) (h1 : OpAt ops 6 (some 93) (.extract (.tmp 87) 1))
    (ha : OpAt ops 7 (some 17) (.alloc T1)) (he : OpAt ops 8 (some 18) (.alloc T2)) (hs : OpAt ops 9 none (.store T1 (.tmp 17) (.tmp 92))) (ht : OpAt ops 10 none (.store T2 (.tmp 18) (.tmp 93))) (hsz : 211 ≤ a.tmps.size)
    (hd : ([2, 3, 4, 5, 6, 7, 8, 9, 10].all fun i => ([2, 3, 4, 5, 6, 7, 8, 9, 10].filter fun k => dep .any ops i k) == (match i with | 3 => [2] | 4 => [2, 3] | 5 => [2, 3, 4] | 6 => [2, 3, 4] | 9 => [2, 3, 4, 5, 7, 8] | 10 => [2, 3, 4, 5, 6, 7, 8, 9] | _ => [])) = true)
    (hcall : ∀ W (v0 : Value), Later b W → R0 v0 W → Calls Try.prog f ([O88, O89, v0] : List Value).toArray W fun e w' => ∃ x y, e = .returned (.tuple #[.agg x.toArray, .agg y.toArray]) ∧ Later W w' ∧ Pd x y w')
    (hfin : ∀ x y g1 g2 W (v0 : Value), Later b W → Box W g1 T1 x → Box W g2 T2 y → Pd x y W → b.heap.size ≤ g1 → b.heap.size ≤ g2 →
      Q .normal (((((((a.put (some 90) v0).put (some 91) (.tuple #[.agg x.toArray, .agg y.toArray])).put (some 87) (.tuple #[.agg x.toArray, .agg y.toArray])).put (some 92) (.agg x.toArray)).put (some 93) (.agg y.toArray)).put (some 17) (.pointer (some ⟨g1, 0, none⟩))).put (some 18) (.pointer (some ⟨g2, 0, none⟩))) W) :
    ∃ L R' SW, Bag3 Try.prog ops Q [9, 10] [2, 3, 4, 5, 6, 7, 8, 9, 10] a b L R' SW := by
  refine bag_of4 [2, 3, 4, 5, 6, 7, 8] (fun i => match i with | 3 => [2] | 4 => [2, 3] | 5 => [2, 3, 4] | 6 => [2, 3, 4] | 9 => [2, 3, 4, 5, 7, 8] | 10 => [2, 3, 4, 5, 6, 7, 8, 9] | _ => [])
    (fun W => Later b W)
    (fun i vals W => match i with
      | 2 => R0 (vals 2) W
      | 3 => ∃ x y : List Value, vals 3 = .tuple #[.agg x.toArray, .agg y.toArray] ∧ Pd x y W
      | 4 => vals 4 = vals 3
      | 5 => ∃ x y : List Value, vals 3 = .tuple #[.agg x.toArray, .agg y.toArray] ∧ vals 5 = .agg x.toArray ∧ Pd x y W
      | 6 => ∃ x y : List Value, vals 3 = .tuple #[.agg x.toArray, .agg y.toArray] ∧ vals 6 = .agg y.toArray
      | 7 => ∃ g cr, vals 7 = .pointer (some ⟨g, 0, none⟩) ∧ NoB cr ∧ cr.length = z1.length ∧ Box W g T1 cr ∧ b.heap.size ≤ g
      | 8 => ∃ g cr, vals 8 = .pointer (some ⟨g, 0, none⟩) ∧ NoB cr ∧ cr.length = z2.length ∧ Box W g T2 cr ∧ b.heap.size ≤ g
      | 9 => ∃ (x y : List Value) (g : Nat), vals 3 = .tuple #[.agg x.toArray, .agg y.toArray] ∧ vals 5 = .agg x.toArray ∧ vals 7 = .pointer (some ⟨g, 0, none⟩) ∧ Box W g T1 x ∧ Pd x y W ∧ b.heap.size ≤ g
      | 10 => ∃ (x y : List Value) (g : Nat), vals 3 = .tuple #[.agg x.toArray, .agg y.toArray] ∧ vals 8 = .pointer (some ⟨g, 0, none⟩) ∧ Box W g T2 y ∧ b.heap.size ≤ g
      | _ => True) (fun i W W' => match i with  | _ => True) hd (by decide) (by decide) (Later.refl b) (fun w w' hl h => h.trans hl) ?c3 ?c4 ?c5 ?c6 ?c7 ?c8
  case c3 =>
    intro i hi vals W W' hl h
    simp only [List.mem_cons, List.not_mem_nil, or_false] at hi
    rcases hi with rfl | rfl | rfl | rfl | rfl | rfl | rfl | rfl | rfl
    · exact hr0 _ _ _ hl h
    · obtain ⟨x, y, q1, q2⟩ := h
      exact ⟨x, y, q1, hlat _ _ _ _ hl q2⟩
    · exact h
    · obtain ⟨x, y, q1, q2, q3⟩ := h
      exact ⟨x, y, q1, q2, hlat _ _ _ _ hl q3⟩
    · exact h
    · obtain ⟨g, cr, q1, q2, q3, q4, q5⟩ := h
      exact ⟨g, cr, q1, q2, q3, q4.later hl, q5⟩
    · obtain ⟨g, cr, q1, q2, q3, q4, q5⟩ := h
      exact ⟨g, cr, q1, q2, q3, q4.later hl, q5⟩
    · obtain ⟨x, y, g, q1, q2, q3, q4, q5, q6⟩ := h
      exact ⟨x, y, g, q1, q2, q3, q4.later hl, hlat _ _ _ _ hl q5, q6⟩
    · obtain ⟨x, y, g, q1, q2, q3, q4⟩ := h
      exact ⟨x, y, g, q1, q2, q3.later hl, q4⟩
  case c4 =>
    intro i hi k hk hne hds vals v W h
    simp only [List.mem_cons, List.not_mem_nil, or_false] at hi hk
    rcases hi with rfl | rfl | rfl | rfl | rfl | rfl | rfl | rfl | rfl <;> rcases hk with rfl | rfl | rfl | rfl | rfl | rfl | rfl | rfl | rfl <;> first | (exact absurd rfl hne) | (simp at hds; done) | (simpa [upd] using h)
  case c5 =>
    refine ⟨?_, ?_, ?_, ?_, ?_, ?_, ?_, trivial⟩
    · intro vals W hL hdep
      refine lVal_mono (fun v w' _ h => by simpa [upd] using h) (hp0 W hL)
    · intro vals W hL hdep
      simp only [putAll, List.foldl, ht0]
      refine lVal_callAt hc hpl [O88, O89, (vals 2)] ?_ ((hcall W (vals 2) hL (hdep 2 (by simp))).mono ?_)
      · simp only [List.map]
        rw [show (a.put (some 90) (vals 2)).eval (.tmp 88) = O88 by rw [eval_put_ne (by decide), ho88]]
        rw [show (a.put (some 90) (vals 2)).eval (.tmp 89) = O89 by rw [eval_put_ne (by decide), ho89]]
        rw [show (a.put (some 90) (vals 2)).eval (.tmp 90) = vals 2 by rw [eval_same (Nat.lt_of_lt_of_le (by decide) hsz)]]
      rintro e w' ⟨x, y, rfl, q2, q3⟩
      exact ⟨_, rfl, q2, x, y, by simp [upd], q3⟩
    · intro vals W hL hdep
      refine lVal_moveAt hm (vals 3) ?_ (by simp [upd])
      simp only [putAll, List.foldl, ht0, hc.dst]
      exact eval_same (by simp only [put_size]; exact Nat.lt_of_lt_of_le (by decide) hsz)
    · intro vals W hL hdep
      obtain ⟨x, y, q1, q2⟩ := hdep 3 (by simp)
      have q3 : vals 4 = vals 3 := hdep 4 (by simp)
      refine lVal_extractAt h0 #[.agg x.toArray, .agg y.toArray] (.agg x.toArray) ?_ rfl ⟨x, y, by simpa [upd] using q1, by simp [upd], q2⟩
      simp only [putAll, List.foldl, ht0, hc.dst, hm.dst]
      rw [eval_same (by simp only [put_size]; exact Nat.lt_of_lt_of_le (by decide) hsz), q3, q1]
    · intro vals W hL hdep
      obtain ⟨x, y, q1, q2⟩ := hdep 3 (by simp)
      have q3 : vals 4 = vals 3 := hdep 4 (by simp)
      refine lVal_extractAt h1 #[.agg x.toArray, .agg y.toArray] (.agg y.toArray) ?_ rfl ⟨x, y, by simpa [upd] using q1, by simp [upd]⟩
      simp only [putAll, List.foldl, ht0, hc.dst, hm.dst]
      rw [eval_same (by simp only [put_size]; exact Nat.lt_of_lt_of_le (by decide) hsz), q3, q1]
    · intro vals W hL hdep
      exact lVal_allocAt ha _ _ hz1 ⟨W.heap.size, z1, by simp [upd], hn1, rfl, Box.new W _ _, hL.size⟩
    · intro vals W hL hdep
      exact lVal_allocAt he _ _ hz2 ⟨W.heap.size, z2, by simp [upd], hn2, rfl, Box.new W _ _, hL.size⟩
  case c6 =>
    refine ⟨?_, ?_, trivial⟩
    · intro vals W hL hdep
      obtain ⟨x', y', p1, p2⟩ := hdep 3 (by simp)
      have q3' := hdep 4 (by simp)
      obtain ⟨x, y, q1, q2, q3⟩ := hdep 5 (by simp)
      obtain ⟨g, cr, u1, u2, u3, u4, u5⟩ := hdep 7 (by simp)
      obtain ⟨g', cs, v1, v2, v3, v4, v5⟩ := hdep 8 (by simp)
      have w0 := hdep 2 (by simp)
      obtain ⟨⟨l1, l2, l3⟩, _⟩ := hone _ _ _ q3
      refine sVal_storeAt hs g x ?_ ?_ (u4.there 0 x.length (by omega)) (by rw [hi1, l1]) l3 (fun u => ⟨hL.setCells u5 _ 0, ?_, trivial, ?_⟩)
      · simp only [putAll, List.foldl, ht0, hc.dst, hm.dst, h0.dst, ha.dst, he.dst]
        rw [eval_put_ne (by decide), eval_same (by simp only [put_size]; exact Nat.lt_of_lt_of_le (by decide) hsz), u1]
      · simp only [putAll, List.foldl, ht0, hc.dst, hm.dst, h0.dst, ha.dst, he.dst]
        rw [eval_put_ne (by decide), eval_put_ne (by decide), eval_same (by simp only [put_size]; exact Nat.lt_of_lt_of_le (by decide) hsz), q2]
      · exact ⟨x, y, g, by simpa [upd] using q1, by simpa [upd] using q2, by simpa [upd] using u1, u4.all _ (by omega), hset _ _ _ _ _ _ _ u4 u2 u5 q3, u5⟩
      · intro k hk
        simp only [List.mem_cons, List.not_mem_nil, or_false] at hk
        rcases hk with rfl | rfl | rfl | rfl | rfl | rfl
        · exact hs0 _ _ _ _ _ _ hT1 u4 u2 u5 w0
        · exact ⟨x', y', p1, hset _ _ _ _ _ _ _ u4 u2 u5 p2⟩
        · exact q3'
        · exact ⟨x, y, q1, q2, hset _ _ _ _ _ _ _ u4 u2 u5 q3⟩
        · exact ⟨g, x, u1, l2, l1, u4.all x (by omega), u5⟩
        · exact ⟨g', cs, v1, v2, v3, v4.kept (heap_setCells_other W _ _ (box_ne v4 u4 (fun e => hT e.symm)) _ _), v5⟩
    · intro vals W hL hdep
      obtain ⟨x', y', p1, p2⟩ := hdep 3 (by simp)
      have q3' := hdep 4 (by simp)
      obtain ⟨x4, y4, r1, r2, r3⟩ := hdep 5 (by simp)
      obtain ⟨x5, y5, r4, q5⟩ := hdep 6 (by simp)
      obtain ⟨x, y, g, u1, u2, u3, u4, u5, u6⟩ := hdep 9 (by simp)
      obtain ⟨g', cs, v1, v2, v3, v4, v5⟩ := hdep 8 (by simp)
      have w0 := hdep 2 (by simp)
      obtain ⟨⟨m1, m2, m3⟩, l1, l2, l3⟩ := hone _ _ _ u5
      have ey : y5 = y := by
        rw [r4] at u1
        simp at u1
        exact u1.2
      subst ey
      have hB := u4.kept (heap_setCells_other W g' g (box_ne u4 v4 hT) y5 0)
      refine sVal_storeAt ht g' y5 ?_ ?_ (v4.there 0 y5.length (by omega)) (by rw [hi2, l1]) l3 (fun u => ⟨hL.setCells v5 _ 0, ?_, trivial, ?_⟩)
      · simp only [putAll, List.foldl, ht0, hc.dst, hm.dst, h0.dst, h1.dst, ha.dst, he.dst, hs.dst, put_none]
        rw [eval_same (by simp only [put_size]; exact Nat.lt_of_lt_of_le (by decide) hsz), v1]
      · simp only [putAll, List.foldl, ht0, hc.dst, hm.dst, h0.dst, h1.dst, ha.dst, he.dst, hs.dst, put_none]
        rw [eval_put_ne (by decide), eval_put_ne (by decide), eval_same (by simp only [put_size]; exact Nat.lt_of_lt_of_le (by decide) hsz), q5]
      · exact ⟨x, y5, g', by simpa [upd] using u1, by simpa [upd] using v1, v4.all _ (by omega), v5⟩
      · intro k hk
        simp only [List.mem_cons, List.not_mem_nil, or_false] at hk
        rcases hk with rfl | rfl | rfl | rfl | rfl | rfl | rfl | rfl
        · exact hs0 _ _ _ _ _ _ hT2 v4 v2 v5 w0
        · exact ⟨x', y', p1, hset _ _ _ _ _ _ _ v4 v2 v5 p2⟩
        · exact q3'
        · exact ⟨x4, y4, r1, r2, hset _ _ _ _ _ _ _ v4 v2 v5 r3⟩
        · exact ⟨x5, y5, r4, q5⟩
        · exact ⟨g, x, u3, m2, m1, hB, u6⟩
        · exact ⟨g', y5, v1, l2, l1, v4.all _ (by omega), v5⟩
        · exact ⟨x, y5, g, u1, u2, u3, hB, hset _ _ _ _ _ _ _ v4 v2 v5 u5, u6⟩
  case c7 =>
    intro i hi hst k hk hne hds hds' vals W W' hsw h
    simp only [List.mem_cons, List.not_mem_nil, or_false] at hst hk
    rcases hst with rfl | rfl <;> rcases hk with rfl | rfl | rfl | rfl | rfl | rfl | rfl | rfl | rfl <;> first | (exact absurd rfl hne) | (simp at hds; done) | (simp at hds'; done) | (exact h)
  case c8 =>
    intro vals W hL hall
    have q3 : vals 4 = vals 3 := hall 4 (by simp)
    obtain ⟨x5, y5, r4, q5⟩ := hall 6 (by simp)
    obtain ⟨x, y, g, u1, u2, u3, u4, u5, u6⟩ := hall 9 (by simp)
    obtain ⟨x9, y9, g', v0, v1, v2, v3⟩ := hall 10 (by simp)
    have e5 : x5 = x ∧ y5 = y := by rw [r4] at u1; simpa using u1
    have e9 : x9 = x ∧ y9 = y := by rw [v0] at u1; simpa using u1
    obtain ⟨rfl, rfl⟩ := e5
    obtain ⟨rfl, rfl⟩ := e9
    have := hfin _ _ g g' W (vals 2) hL u4 v2 u5 u6 v3
    simp only [putAll, List.foldl, ht0, hc.dst, hm.dst, h0.dst, h1.dst, ha.dst, he.dst, hs.dst, ht.dst, put_none, q3, q5, u1, u2, u3, v1]
    exact this
set_option maxHeartbeats 4000000 in
theorem chain_u15 {ops : Array Oper} {Q : Exit → Act → World → Prop} {a : Act} {b : World} (f : FuncId) (hpl : Plain Try.prog f) (T1 T2 : TypeId) (hT : T1 ≠ T2) (hT1 : T1 ≠ 5) (hT2 : T2 ≠ 5) (z1 z2 : List Value) (hz1 : (Try.prog.info? T1).map (fun i => (i.zero, i.size)) = some (some (.agg z1.toArray), z1.length)) (hz2 : (Try.prog.info? T2).map (fun i => (i.zero, i.size)) = some (some (.agg z2.toArray), z2.length)) (hi1 : (Try.prog.info? T1).map (·.size) = some z1.length) (hi2 : (Try.prog.info? T2).map (·.size) = some z2.length) (hn1 : NoB z1) (hn2 : NoB z2)
    (Pd : List Value → List Value → World → Prop) (hone : ∀ x y W, Pd x y W → (x.length = z1.length ∧ NoB x ∧ ∀ u ∈ x, u.oneCell' = true) ∧ (y.length = z2.length ∧ NoB y ∧ ∀ u ∈ y, u.oneCell' = true))
    (hlat : ∀ x y W W', Later W W' → Pd x y W → Pd x y W') (hset : ∀ x y W g t cs vs, Box W g t cs → NoB cs → b.heap.size ≤ g → Pd x y W → Pd x y (W.setCells g 0 vs))
    (O110 : Value) (ho110 : a.eval (.tmp 110) = O110)
    (O111 : Value) (ho111 : a.eval (.tmp 111) = O111)
    (R0 : Value → World → Prop) (ht0 : dstOf ops 2 = some 112) (hr0 : ∀ v W W', Later W W' → R0 v W → R0 v W') (hs0 : ∀ v W g t cs vs, t ≠ 5 → Box W g t cs → NoB cs → b.heap.size ≤ g → R0 v W → R0 v (W.setCells g 0 vs))
    (hp0 : ∀ W, Later b W → lVal Try.prog ops 2 (fun v W' => R0 v W') a W)
    (R1 : Value → World → Prop) (ht1 : dstOf ops 3 = some 113) (hr1 : ∀ v W W', Later W W' → R1 v W → R1 v W') (hs1 : ∀ v W g t cs vs, t ≠ 5 → Box W g t cs → NoB cs → b.heap.size ≤ g → R1 v W → R1 v (W.setCells g 0 vs))
    (hp1 : ∀ W (v0 : Value) (a2 : Act), a2.eval (.tmp 112) = v0 → Later b W → R0 v0 W → lVal Try.prog ops 3 (fun v W' => R1 v W') a2 W)
    (ts : Array TypeId)
    (hc : OpAt ops 4 (some 114) (.call { callee := .value (.func f), args := ([.tmp 110, .tmp 111, .tmp 113] : List Operand).toArray, argTypes := ts })) (hm : OpAt ops 5 (some 109) (.move (.tmp 114))) (h0 : OpAt ops 6 (some 115) (.extract (.tmp 109) 0)) (h1 : OpAt ops 7 (some 116) (.extract (.tmp 109) 1))
    (ha : OpAt ops 8 (some 25) (.alloc T1)) (he : OpAt ops 9 (some 26) (.alloc T2)) (hs : OpAt ops 10 none (.store T1 (.tmp 25) (.tmp 115))) (ht : OpAt ops 11 none (.store T2 (.tmp 26) (.tmp 116))) (hsz : 211 ≤ a.tmps.size)
    (hd : ([2, 3, 4, 5, 6, 7, 8, 9, 10, 11].all fun i => ([2, 3, 4, 5, 6, 7, 8, 9, 10, 11].filter fun k => dep .any ops i k) == (match i with | 3 => [2] | 4 => [2, 3] | 5 => [2, 3, 4] | 6 => [2, 3, 4, 5] | 7 => [2, 3, 4, 5] | 10 => [2, 3, 4, 5, 6, 8, 9] | 11 => [2, 3, 4, 5, 6, 7, 8, 9, 10] | _ => [])) = true)
    (hcall : ∀ W (v0 v1 : Value), Later b W → R0 v0 W → R1 v1 W → Calls Try.prog f ([O110, O111, v1] : List Value).toArray W fun e w' => ∃ x y, e = .returned (.tuple #[.agg x.toArray, .agg y.toArray]) ∧ Later W w' ∧ Pd x y w')
    (hfin : ∀ x y g1 g2 W (v0 v1 : Value), Later b W → Box W g1 T1 x → Box W g2 T2 y → Pd x y W → b.heap.size ≤ g1 → b.heap.size ≤ g2 →
      Q .normal ((((((((a.put (some 112) v0).put (some 113) v1).put (some 114) (.tuple #[.agg x.toArray, .agg y.toArray])).put (some 109) (.tuple #[.agg x.toArray, .agg y.toArray])).put (some 115) (.agg x.toArray)).put (some 116) (.agg y.toArray)).put (some 25) (.pointer (some ⟨g1, 0, none⟩))).put (some 26) (.pointer (some ⟨g2, 0, none⟩))) W) :
    ∃ L R' SW, Bag3 Try.prog ops Q [10, 11] [2, 3, 4, 5, 6, 7, 8, 9, 10, 11] a b L R' SW := by
  refine bag_of4 [2, 3, 4, 5, 6, 7, 8, 9] (fun i => match i with | 3 => [2] | 4 => [2, 3] | 5 => [2, 3, 4] | 6 => [2, 3, 4, 5] | 7 => [2, 3, 4, 5] | 10 => [2, 3, 4, 5, 6, 8, 9] | 11 => [2, 3, 4, 5, 6, 7, 8, 9, 10] | _ => [])
    (fun W => Later b W)
    (fun i vals W => match i with
      | 2 => R0 (vals 2) W
      | 3 => R1 (vals 3) W
      | 4 => ∃ x y : List Value, vals 4 = .tuple #[.agg x.toArray, .agg y.toArray] ∧ Pd x y W
      | 5 => vals 5 = vals 4
      | 6 => ∃ x y : List Value, vals 4 = .tuple #[.agg x.toArray, .agg y.toArray] ∧ vals 6 = .agg x.toArray ∧ Pd x y W
      | 7 => ∃ x y : List Value, vals 4 = .tuple #[.agg x.toArray, .agg y.toArray] ∧ vals 7 = .agg y.toArray
      | 8 => ∃ g cr, vals 8 = .pointer (some ⟨g, 0, none⟩) ∧ NoB cr ∧ cr.length = z1.length ∧ Box W g T1 cr ∧ b.heap.size ≤ g
      | 9 => ∃ g cr, vals 9 = .pointer (some ⟨g, 0, none⟩) ∧ NoB cr ∧ cr.length = z2.length ∧ Box W g T2 cr ∧ b.heap.size ≤ g
      | 10 => ∃ (x y : List Value) (g : Nat), vals 4 = .tuple #[.agg x.toArray, .agg y.toArray] ∧ vals 6 = .agg x.toArray ∧ vals 8 = .pointer (some ⟨g, 0, none⟩) ∧ Box W g T1 x ∧ Pd x y W ∧ b.heap.size ≤ g
      | 11 => ∃ (x y : List Value) (g : Nat), vals 4 = .tuple #[.agg x.toArray, .agg y.toArray] ∧ vals 9 = .pointer (some ⟨g, 0, none⟩) ∧ Box W g T2 y ∧ b.heap.size ≤ g
      | _ => True) (fun i W W' => match i with  | _ => True) hd (by decide) (by decide) (Later.refl b) (fun w w' hl h => h.trans hl) ?c3 ?c4 ?c5 ?c6 ?c7 ?c8
  case c3 =>
    intro i hi vals W W' hl h
    simp only [List.mem_cons, List.not_mem_nil, or_false] at hi
    rcases hi with rfl | rfl | rfl | rfl | rfl | rfl | rfl | rfl | rfl | rfl
    · exact hr0 _ _ _ hl h
    · exact hr1 _ _ _ hl h
    · obtain ⟨x, y, q1, q2⟩ := h
      exact ⟨x, y, q1, hlat _ _ _ _ hl q2⟩
    · exact h
    · obtain ⟨x, y, q1, q2, q3⟩ := h
      exact ⟨x, y, q1, q2, hlat _ _ _ _ hl q3⟩
    · exact h
    · obtain ⟨g, cr, q1, q2, q3, q4, q5⟩ := h
      exact ⟨g, cr, q1, q2, q3, q4.later hl, q5⟩
    · obtain ⟨g, cr, q1, q2, q3, q4, q5⟩ := h
      exact ⟨g, cr, q1, q2, q3, q4.later hl, q5⟩
    · obtain ⟨x, y, g, q1, q2, q3, q4, q5, q6⟩ := h
      exact ⟨x, y, g, q1, q2, q3, q4.later hl, hlat _ _ _ _ hl q5, q6⟩
    · obtain ⟨x, y, g, q1, q2, q3, q4⟩ := h
      exact ⟨x, y, g, q1, q2, q3.later hl, q4⟩
  case c4 =>
    intro i hi k hk hne hds vals v W h
    simp only [List.mem_cons, List.not_mem_nil, or_false] at hi hk
    rcases hi with rfl | rfl | rfl | rfl | rfl | rfl | rfl | rfl | rfl | rfl <;> rcases hk with rfl | rfl | rfl | rfl | rfl | rfl | rfl | rfl | rfl | rfl <;> first | (exact absurd rfl hne) | (simp at hds; done) | (simpa [upd] using h)
  case c5 =>
    refine ⟨?_, ?_, ?_, ?_, ?_, ?_, ?_, ?_, trivial⟩
    · intro vals W hL hdep
      refine lVal_mono (fun v w' _ h => by simpa [upd] using h) (hp0 W hL)
    · intro vals W hL hdep
      simp only [putAll, List.foldl, ht0]
      refine lVal_mono (fun v w' _ h => by simpa [upd] using h) (hp1 W (vals 2) _ (by rw [eval_same (Nat.lt_of_lt_of_le (by decide) hsz)]) hL (hdep 2 (by simp)))
    · intro vals W hL hdep
      simp only [putAll, List.foldl, ht0, ht1]
      refine lVal_callAt hc hpl [O110, O111, (vals 3)] ?_ ((hcall W (vals 2) (vals 3) hL (hdep 2 (by simp)) (hdep 3 (by simp))).mono ?_)
      · simp only [List.map]
        rw [show ((a.put (some 112) (vals 2)).put (some 113) (vals 3)).eval (.tmp 110) = O110 by rw [eval_put_ne (by decide), eval_put_ne (by decide), ho110]]
        rw [show ((a.put (some 112) (vals 2)).put (some 113) (vals 3)).eval (.tmp 111) = O111 by rw [eval_put_ne (by decide), eval_put_ne (by decide), ho111]]
        rw [show ((a.put (some 112) (vals 2)).put (some 113) (vals 3)).eval (.tmp 113) = vals 3 by rw [eval_same (by simp only [put_size]; exact Nat.lt_of_lt_of_le (by decide) hsz)]]
      rintro e w' ⟨x, y, rfl, q2, q3⟩
      exact ⟨_, rfl, q2, x, y, by simp [upd], q3⟩
    · intro vals W hL hdep
      refine lVal_moveAt hm (vals 4) ?_ (by simp [upd])
      simp only [putAll, List.foldl, ht0, ht1, hc.dst]
      exact eval_same (by simp only [put_size]; exact Nat.lt_of_lt_of_le (by decide) hsz)
    · intro vals W hL hdep
      obtain ⟨x, y, q1, q2⟩ := hdep 4 (by simp)
      have q3 : vals 5 = vals 4 := hdep 5 (by simp)
      refine lVal_extractAt h0 #[.agg x.toArray, .agg y.toArray] (.agg x.toArray) ?_ rfl ⟨x, y, by simpa [upd] using q1, by simp [upd], q2⟩
      simp only [putAll, List.foldl, ht0, ht1, hc.dst, hm.dst]
      rw [eval_same (by simp only [put_size]; exact Nat.lt_of_lt_of_le (by decide) hsz), q3, q1]
    · intro vals W hL hdep
      obtain ⟨x, y, q1, q2⟩ := hdep 4 (by simp)
      have q3 : vals 5 = vals 4 := hdep 5 (by simp)
      refine lVal_extractAt h1 #[.agg x.toArray, .agg y.toArray] (.agg y.toArray) ?_ rfl ⟨x, y, by simpa [upd] using q1, by simp [upd]⟩
      simp only [putAll, List.foldl, ht0, ht1, hc.dst, hm.dst]
      rw [eval_same (by simp only [put_size]; exact Nat.lt_of_lt_of_le (by decide) hsz), q3, q1]
    · intro vals W hL hdep
      exact lVal_allocAt ha _ _ hz1 ⟨W.heap.size, z1, by simp [upd], hn1, rfl, Box.new W _ _, hL.size⟩
    · intro vals W hL hdep
      exact lVal_allocAt he _ _ hz2 ⟨W.heap.size, z2, by simp [upd], hn2, rfl, Box.new W _ _, hL.size⟩
  case c6 =>
    refine ⟨?_, ?_, trivial⟩
    · intro vals W hL hdep
      obtain ⟨x', y', p1, p2⟩ := hdep 4 (by simp)
      have q3' := hdep 5 (by simp)
      obtain ⟨x, y, q1, q2, q3⟩ := hdep 6 (by simp)
      obtain ⟨g, cr, u1, u2, u3, u4, u5⟩ := hdep 8 (by simp)
      obtain ⟨g', cs, v1, v2, v3, v4, v5⟩ := hdep 9 (by simp)
      have w0 := hdep 2 (by simp)
      have w1 := hdep 3 (by simp)
      obtain ⟨⟨l1, l2, l3⟩, _⟩ := hone _ _ _ q3
      refine sVal_storeAt hs g x ?_ ?_ (u4.there 0 x.length (by omega)) (by rw [hi1, l1]) l3 (fun u => ⟨hL.setCells u5 _ 0, ?_, trivial, ?_⟩)
      · simp only [putAll, List.foldl, ht0, ht1, hc.dst, hm.dst, h0.dst, ha.dst, he.dst]
        rw [eval_put_ne (by decide), eval_same (by simp only [put_size]; exact Nat.lt_of_lt_of_le (by decide) hsz), u1]
      · simp only [putAll, List.foldl, ht0, ht1, hc.dst, hm.dst, h0.dst, ha.dst, he.dst]
        rw [eval_put_ne (by decide), eval_put_ne (by decide), eval_same (by simp only [put_size]; exact Nat.lt_of_lt_of_le (by decide) hsz), q2]
      · exact ⟨x, y, g, by simpa [upd] using q1, by simpa [upd] using q2, by simpa [upd] using u1, u4.all _ (by omega), hset _ _ _ _ _ _ _ u4 u2 u5 q3, u5⟩
      · intro k hk
        simp only [List.mem_cons, List.not_mem_nil, or_false] at hk
        rcases hk with rfl | rfl | rfl | rfl | rfl | rfl | rfl
        · exact hs0 _ _ _ _ _ _ hT1 u4 u2 u5 w0
        · exact hs1 _ _ _ _ _ _ hT1 u4 u2 u5 w1
        · exact ⟨x', y', p1, hset _ _ _ _ _ _ _ u4 u2 u5 p2⟩
        · exact q3'
        · exact ⟨x, y, q1, q2, hset _ _ _ _ _ _ _ u4 u2 u5 q3⟩
        · exact ⟨g, x, u1, l2, l1, u4.all x (by omega), u5⟩
        · exact ⟨g', cs, v1, v2, v3, v4.kept (heap_setCells_other W _ _ (box_ne v4 u4 (fun e => hT e.symm)) _ _), v5⟩
    · intro vals W hL hdep
      obtain ⟨x', y', p1, p2⟩ := hdep 4 (by simp)
      have q3' := hdep 5 (by simp)
      obtain ⟨x4, y4, r1, r2, r3⟩ := hdep 6 (by simp)
      obtain ⟨x5, y5, r4, q5⟩ := hdep 7 (by simp)
      obtain ⟨x, y, g, u1, u2, u3, u4, u5, u6⟩ := hdep 10 (by simp)
      obtain ⟨g', cs, v1, v2, v3, v4, v5⟩ := hdep 9 (by simp)
      have w0 := hdep 2 (by simp)
      have w1 := hdep 3 (by simp)
      obtain ⟨⟨m1, m2, m3⟩, l1, l2, l3⟩ := hone _ _ _ u5
      have ey : y5 = y := by
        rw [r4] at u1
        simp at u1
        exact u1.2
      subst ey
      have hB := u4.kept (heap_setCells_other W g' g (box_ne u4 v4 hT) y5 0)
      refine sVal_storeAt ht g' y5 ?_ ?_ (v4.there 0 y5.length (by omega)) (by rw [hi2, l1]) l3 (fun u => ⟨hL.setCells v5 _ 0, ?_, trivial, ?_⟩)
      · simp only [putAll, List.foldl, ht0, ht1, hc.dst, hm.dst, h0.dst, h1.dst, ha.dst, he.dst, hs.dst, put_none]
        rw [eval_same (by simp only [put_size]; exact Nat.lt_of_lt_of_le (by decide) hsz), v1]
      · simp only [putAll, List.foldl, ht0, ht1, hc.dst, hm.dst, h0.dst, h1.dst, ha.dst, he.dst, hs.dst, put_none]
        rw [eval_put_ne (by decide), eval_put_ne (by decide), eval_same (by simp only [put_size]; exact Nat.lt_of_lt_of_le (by decide) hsz), q5]
      · exact ⟨x, y5, g', by simpa [upd] using u1, by simpa [upd] using v1, v4.all _ (by omega), v5⟩
      · intro k hk
        simp only [List.mem_cons, List.not_mem_nil, or_false] at hk
        rcases hk with rfl | rfl | rfl | rfl | rfl | rfl | rfl | rfl | rfl
        · exact hs0 _ _ _ _ _ _ hT2 v4 v2 v5 w0
        · exact hs1 _ _ _ _ _ _ hT2 v4 v2 v5 w1
        · exact ⟨x', y', p1, hset _ _ _ _ _ _ _ v4 v2 v5 p2⟩
        · exact q3'
        · exact ⟨x4, y4, r1, r2, hset _ _ _ _ _ _ _ v4 v2 v5 r3⟩
        · exact ⟨x5, y5, r4, q5⟩
        · exact ⟨g, x, u3, m2, m1, hB, u6⟩
        · exact ⟨g', y5, v1, l2, l1, v4.all _ (by omega), v5⟩
        · exact ⟨x, y5, g, u1, u2, u3, hB, hset _ _ _ _ _ _ _ v4 v2 v5 u5, u6⟩
  case c7 =>
    intro i hi hst k hk hne hds hds' vals W W' hsw h
    simp only [List.mem_cons, List.not_mem_nil, or_false] at hst hk
    rcases hst with rfl | rfl <;> rcases hk with rfl | rfl | rfl | rfl | rfl | rfl | rfl | rfl | rfl | rfl <;> first | (exact absurd rfl hne) | (simp at hds; done) | (simp at hds'; done) | (exact h)
  case c8 =>
    intro vals W hL hall
    have q3 : vals 5 = vals 4 := hall 5 (by simp)
    obtain ⟨x5, y5, r4, q5⟩ := hall 7 (by simp)
    obtain ⟨x, y, g, u1, u2, u3, u4, u5, u6⟩ := hall 10 (by simp)
    obtain ⟨x9, y9, g', v0, v1, v2, v3⟩ := hall 11 (by simp)
    have e5 : x5 = x ∧ y5 = y := by rw [r4] at u1; simpa using u1
    have e9 : x9 = x ∧ y9 = y := by rw [v0] at u1; simpa using u1
    obtain ⟨rfl, rfl⟩ := e5
    obtain ⟨rfl, rfl⟩ := e9
    have := hfin _ _ g g' W (vals 2) (vals 3) hL u4 v2 u5 u6 v3
    simp only [putAll, List.foldl, ht0, ht1, hc.dst, hm.dst, h0.dst, h1.dst, ha.dst, he.dst, hs.dst, ht.dst, put_none, q3, q5, u1, u2, u3, v1]
    exact this
end Go.Proofs.Ytbcikndebaeahaa
