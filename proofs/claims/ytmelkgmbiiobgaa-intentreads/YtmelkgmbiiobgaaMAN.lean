import Derived.Test.YtmelkgmbiiobgaaMAM
import Derived.Test.YtmelkgmbiiobgaaMAK
namespace Go.Proofs.Ytmelkgmbiiobgaa
open Go.ChangeShapes Go.WideShapes Go.ChangeAt Go.RowKit
set_option linter.unusedVariables false
set_option maxRecDepth 4000
set_option linter.unusedSimpArgs false
/-! 'v, i := intent.Begin(u, 0, 1, c)' in a region that draws its order. -/
set_option maxHeartbeats 2000000 in
theorem two_reads {ops : Array Oper} {Q : Exit → Act → World → Prop} {a : Act} {b : World} (f : FuncId) (hpl : Plain Try.prog f) (T1 T2 : TypeId) (hT : T1 ≠ T2) (z1 z2 : List Value) (hz1 : (Try.prog.info? T1).map (fun i => (i.zero, i.size)) = some (some (.agg z1.toArray), z1.length)) (hz2 : (Try.prog.info? T2).map (fun i => (i.zero, i.size)) = some (some (.agg z2.toArray), z2.length)) (hi1 : (Try.prog.info? T1).map (·.size) = some z1.length) (hi2 : (Try.prog.info? T2).map (·.size) = some z2.length) (hn1 : NoB z1) (hn2 : NoB z2)
    (Pd : List Value → List Value → World → Prop) (hone : ∀ x y W, Pd x y W → (x.length = z1.length ∧ NoB x ∧ ∀ u ∈ x, u.oneCell' = true) ∧ (y.length = z2.length ∧ NoB y ∧ ∀ u ∈ y, u.oneCell' = true))
    (hlat : ∀ x y W W', Later W W' → Pd x y W → Pd x y W') (hset : ∀ x y W g t cs vs, (t = T1 ∨ t = T2) → Box W g t cs → NoB cs → b.heap.size ≤ g → Pd x y W → Pd x y (W.setCells g 0 vs))
    (xs : List Operand) (ts : Array TypeId) (us : List Value) (hx : xs.map a.eval = us)
    (hc : OpAt ops 10 (some 43) (.call { callee := .value (.func f), args := xs.toArray, argTypes := ts })) (hm : OpAt ops 11 (some 32) (.move (.tmp 43))) (h0 : OpAt ops 12 (some 44) (.extract (.tmp 32) 0)) (h1 : OpAt ops 13 (some 45) (.extract (.tmp 32) 1))
    (ha : OpAt ops 14 (some 11) (.alloc T1)) (he : OpAt ops 15 (some 12) (.alloc T2)) (hs : OpAt ops 16 none (.store T1 (.tmp 11) (.tmp 44))) (ht : OpAt ops 17 none (.store T2 (.tmp 12) (.tmp 45))) (hsz : 64 ≤ a.tmps.size)
    (hd : ([10, 11, 12, 13, 14, 15, 16, 17].all fun i => ([10, 11, 12, 13, 14, 15, 16, 17].filter fun k => dep .any ops i k) == (match i with | 11 => [10] | 12 => [10, 11] | 13 => [10, 11] | 16 => [10, 11, 12, 14, 15] | 17 => [10, 11, 12, 13, 14, 15, 16] | _ => [])) = true)
    (hcall : ∀ W, Later b W → Calls Try.prog f us.toArray W fun e w' => ∃ x y, e = .returned (.tuple #[.agg x.toArray, .agg y.toArray]) ∧ Later W w' ∧ Pd x y w')
    (hfin : ∀ x y g1 g2 W, Later b W → Box W g1 T1 x → Box W g2 T2 y → Pd x y W → b.heap.size ≤ g1 → b.heap.size ≤ g2 →
      Q .normal ((((((a.put (some 43) (.tuple #[.agg x.toArray, .agg y.toArray])).put (some 32) (.tuple #[.agg x.toArray, .agg y.toArray])).put (some 44) (.agg x.toArray)).put (some 45) (.agg y.toArray)).put (some 11) (.pointer (some ⟨g1, 0, none⟩))).put (some 12) (.pointer (some ⟨g2, 0, none⟩))) W) :
    ∃ L R', Bag2 Try.prog ops Q [16, 17] [10, 11, 12, 13, 14, 15, 16, 17] a b L R' := by
  refine bag_of2 [10, 11, 12, 13, 14, 15] (fun i => match i with | 11 => [10] | 12 => [10, 11] | 13 => [10, 11] | 16 => [10, 11, 12, 14, 15] | 17 => [10, 11, 12, 13, 14, 15, 16] | _ => [])
    (fun W => Later b W)
    (fun i vals W => match i with
      | 10 => ∃ x y : List Value, vals 10 = .tuple #[.agg x.toArray, .agg y.toArray] ∧ Pd x y W
      | 11 => vals 11 = vals 10
      | 12 => ∃ x y : List Value, vals 10 = .tuple #[.agg x.toArray, .agg y.toArray] ∧ vals 12 = .agg x.toArray ∧ Pd x y W
      | 13 => ∃ x y : List Value, vals 10 = .tuple #[.agg x.toArray, .agg y.toArray] ∧ vals 13 = .agg y.toArray
      | 14 => ∃ g cr, vals 14 = .pointer (some ⟨g, 0, none⟩) ∧ NoB cr ∧ cr.length = z1.length ∧ Box W g T1 cr ∧ b.heap.size ≤ g
      | 15 => ∃ g cr, vals 15 = .pointer (some ⟨g, 0, none⟩) ∧ NoB cr ∧ cr.length = z2.length ∧ Box W g T2 cr ∧ b.heap.size ≤ g
      | 16 => ∃ (x y : List Value) (g : Nat), vals 10 = .tuple #[.agg x.toArray, .agg y.toArray] ∧ vals 12 = .agg x.toArray ∧ vals 14 = .pointer (some ⟨g, 0, none⟩) ∧ Box W g T1 x ∧ Pd x y W ∧ b.heap.size ≤ g
      | 17 => ∃ (x y : List Value) (g : Nat), vals 10 = .tuple #[.agg x.toArray, .agg y.toArray] ∧ vals 15 = .pointer (some ⟨g, 0, none⟩) ∧ Box W g T2 y ∧ b.heap.size ≤ g
      | _ => True) hd (by decide) (by decide) (Later.refl b) (fun w w' hl h => h.trans hl) ?c3 ?c4 ?c5 ?c6 ?c7 ?c8
  case c3 =>
    intro i hi vals W W' hl h
    simp only [List.mem_cons, List.not_mem_nil, or_false] at hi
    rcases hi with rfl | rfl | rfl | rfl | rfl | rfl | rfl | rfl
    · obtain ⟨x, y, q1, q2⟩ := h
      exact ⟨x, y, q1, hlat _ _ _ _ hl q2⟩
    · exact h
    · obtain ⟨x, y, q1, q2, q3⟩ := h
      exact ⟨x, y, q1, q2, hlat _ _ _ _ hl q3⟩
    · exact h
    · obtain ⟨g, cr, q1, q2, q3, q4, q5⟩ := h
      exact ⟨g, cr, q1, q2, q3, q4.later hl, q5⟩
    · obtain ⟨g, cr, q1, q2, q3, q4, q5⟩ := h
      exact ⟨g, cr, q1, q2, q3, q4.later hl, q5⟩
    · obtain ⟨x, y, g, q1, q2, q3, q4, q5, q6⟩ := h
      exact ⟨x, y, g, q1, q2, q3, q4.later hl, hlat _ _ _ _ hl q5, q6⟩
    · obtain ⟨x, y, g, q1, q2, q3, q4⟩ := h
      exact ⟨x, y, g, q1, q2, q3.later hl, q4⟩
  case c4 =>
    intro i hi k hk hne hds vals v W h
    simp only [List.mem_cons, List.not_mem_nil, or_false] at hi hk
    rcases hi with rfl | rfl | rfl | rfl | rfl | rfl | rfl | rfl <;> rcases hk with rfl | rfl | rfl | rfl | rfl | rfl | rfl | rfl <;> first | (exact absurd rfl hne) | (simp at hds; done) | (simpa [upd] using h)
  case c5 =>
    refine ⟨?_, ?_, ?_, ?_, ?_, ?_, trivial⟩
    · intro vals W hL hdep
      refine lVal_callAt hc hpl us hx ((hcall W hL).mono ?_)
      rintro e w' ⟨x, y, rfl, q2, q3⟩
      exact ⟨_, rfl, q2, x, y, by simp [upd], q3⟩
    · intro vals W hL hdep
      refine lVal_moveAt hm (vals 10) ?_ (by simp [upd])
      simp only [putAll, List.foldl, hc.dst]
      exact eval_same (Nat.lt_of_lt_of_le (by decide) hsz)
    · intro vals W hL hdep
      obtain ⟨x, y, q1, q2⟩ := hdep 10 (by simp)
      have q3 : vals 11 = vals 10 := hdep 11 (by simp)
      refine lVal_extractAt h0 #[.agg x.toArray, .agg y.toArray] (.agg x.toArray) ?_ rfl ⟨x, y, by simpa [upd] using q1, by simp [upd], q2⟩
      simp only [putAll, List.foldl, hc.dst, hm.dst]
      rw [eval_same (by simp only [put_size]; exact Nat.lt_of_lt_of_le (by decide) hsz), q3, q1]
    · intro vals W hL hdep
      obtain ⟨x, y, q1, q2⟩ := hdep 10 (by simp)
      have q3 : vals 11 = vals 10 := hdep 11 (by simp)
      refine lVal_extractAt h1 #[.agg x.toArray, .agg y.toArray] (.agg y.toArray) ?_ rfl ⟨x, y, by simpa [upd] using q1, by simp [upd]⟩
      simp only [putAll, List.foldl, hc.dst, hm.dst]
      rw [eval_same (by simp only [put_size]; exact Nat.lt_of_lt_of_le (by decide) hsz), q3, q1]
    · intro vals W hL hdep
      exact lVal_allocAt ha _ _ hz1 ⟨W.heap.size, z1, by simp [upd], hn1, rfl, Box.new W _ _, hL.size⟩
    · intro vals W hL hdep
      exact lVal_allocAt he _ _ hz2 ⟨W.heap.size, z2, by simp [upd], hn2, rfl, Box.new W _ _, hL.size⟩
  case c6 =>
    refine ⟨?_, ?_, trivial⟩
    · intro vals W hL hdep
      obtain ⟨x', y', p1, p2⟩ := hdep 10 (by simp)
      have q3' := hdep 11 (by simp)
      obtain ⟨x, y, q1, q2, q3⟩ := hdep 12 (by simp)
      obtain ⟨g, cr, u1, u2, u3, u4, u5⟩ := hdep 14 (by simp)
      obtain ⟨g', cs, v1, v2, v3, v4, v5⟩ := hdep 15 (by simp)
      obtain ⟨⟨l1, l2, l3⟩, _⟩ := hone _ _ _ q3
      refine sVal_storeAt hs g x ?_ ?_ (u4.there 0 x.length (by omega)) (by rw [hi1, l1]) l3 (fun u => ⟨hL.setCells u5 _ 0, ?_, ?_⟩)
      · simp only [putAll, List.foldl, hc.dst, hm.dst, h0.dst, ha.dst, he.dst]
        rw [eval_put_ne (by decide), eval_same (by simp only [put_size]; exact Nat.lt_of_lt_of_le (by decide) hsz), u1]
      · simp only [putAll, List.foldl, hc.dst, hm.dst, h0.dst, ha.dst, he.dst]
        rw [eval_put_ne (by decide), eval_put_ne (by decide), eval_same (by simp only [put_size]; exact Nat.lt_of_lt_of_le (by decide) hsz), q2]
      · exact ⟨x, y, g, by simpa [upd] using q1, by simpa [upd] using q2, by simpa [upd] using u1, u4.all _ (by omega), hset _ _ _ _ _ _ _ (.inl rfl) u4 u2 u5 q3, u5⟩
      · intro k hk
        simp only [List.mem_cons, List.not_mem_nil, or_false] at hk
        rcases hk with rfl | rfl | rfl | rfl | rfl
        · exact ⟨x', y', p1, hset _ _ _ _ _ _ _ (.inl rfl) u4 u2 u5 p2⟩
        · exact q3'
        · exact ⟨x, y, q1, q2, hset _ _ _ _ _ _ _ (.inl rfl) u4 u2 u5 q3⟩
        · exact ⟨g, x, u1, l2, l1, u4.all x (by omega), u5⟩
        · exact ⟨g', cs, v1, v2, v3, v4.kept (heap_setCells_other W _ _ (box_ne v4 u4 (fun e => hT e.symm)) _ _), v5⟩
    · intro vals W hL hdep
      obtain ⟨x', y', p1, p2⟩ := hdep 10 (by simp)
      have q3' := hdep 11 (by simp)
      obtain ⟨x4, y4, r1, r2, r3⟩ := hdep 12 (by simp)
      obtain ⟨x5, y5, r4, q5⟩ := hdep 13 (by simp)
      obtain ⟨x, y, g, u1, u2, u3, u4, u5, u6⟩ := hdep 16 (by simp)
      obtain ⟨g', cs, v1, v2, v3, v4, v5⟩ := hdep 15 (by simp)
      obtain ⟨⟨k1, k2, k3⟩, l1, l2, l3⟩ := hone _ _ _ u5
      have ey : y5 = y := by
        rw [r4] at u1
        simp at u1
        exact u1.2
      subst ey
      have hB := u4.kept (heap_setCells_other W g' g (box_ne u4 v4 hT) y5 0)
      refine sVal_storeAt ht g' y5 ?_ ?_ (v4.there 0 y5.length (by omega)) (by rw [hi2, l1]) l3 (fun u => ⟨hL.setCells v5 _ 0, ?_, ?_⟩)
      · simp only [putAll, List.foldl, hc.dst, hm.dst, h0.dst, h1.dst, ha.dst, he.dst, hs.dst, put_none]
        rw [eval_same (by simp only [put_size]; exact Nat.lt_of_lt_of_le (by decide) hsz), v1]
      · simp only [putAll, List.foldl, hc.dst, hm.dst, h0.dst, h1.dst, ha.dst, he.dst, hs.dst, put_none]
        rw [eval_put_ne (by decide), eval_put_ne (by decide), eval_same (by simp only [put_size]; exact Nat.lt_of_lt_of_le (by decide) hsz), q5]
      · exact ⟨x, y5, g', by simpa [upd] using u1, by simpa [upd] using v1, v4.all _ (by omega), v5⟩
      · intro k hk
        simp only [List.mem_cons, List.not_mem_nil, or_false] at hk
        rcases hk with rfl | rfl | rfl | rfl | rfl | rfl | rfl
        · exact ⟨x', y', p1, hset _ _ _ _ _ _ _ (.inr rfl) v4 v2 v5 p2⟩
        · exact q3'
        · exact ⟨x4, y4, r1, r2, hset _ _ _ _ _ _ _ (.inr rfl) v4 v2 v5 r3⟩
        · exact ⟨x5, y5, r4, q5⟩
        · exact ⟨g, x, u3, k2, k1, hB, u6⟩
        · exact ⟨g', y5, v1, l2, l1, v4.all _ (by omega), v5⟩
        · exact ⟨x, y5, g, u1, u2, u3, hB, hset _ _ _ _ _ _ _ (.inr rfl) v4 v2 v5 u5, u6⟩
  case c7 =>
    intro i hi hst k hk hne hds hds' vals W W' h
    simp only [List.mem_cons, List.not_mem_nil, or_false] at hst hk
    rcases hst with rfl | rfl <;> rcases hk with rfl | rfl | rfl | rfl | rfl | rfl | rfl | rfl <;> first | (exact absurd rfl hne) | (simp at hds; done) | (simp at hds'; done) | (exact h)
  case c8 =>
    intro vals W hL hall
    have q3 : vals 11 = vals 10 := hall 11 (by simp)
    obtain ⟨x5, y5, r4, q5⟩ := hall 13 (by simp)
    obtain ⟨x, y, g, u1, u2, u3, u4, u5, u6⟩ := hall 16 (by simp)
    obtain ⟨x9, y9, g', v0, v1, v2, v3⟩ := hall 17 (by simp)
    have e5 : x5 = x ∧ y5 = y := by rw [r4] at u1; simpa using u1
    have e9 : x9 = x ∧ y9 = y := by rw [v0] at u1; simpa using u1
    obtain ⟨rfl, rfl⟩ := e5
    obtain ⟨rfl, rfl⟩ := e9
    have := hfin _ _ g g' W hL u4 v2 u5 u6 v3
    simp only [putAll, List.foldl, hc.dst, hm.dst, h0.dst, h1.dst, ha.dst, he.dst, hs.dst, ht.dst, put_none, q3, q5, u1, u2, u3, v1]
    exact this
theorem PdI.base {b w : World} {n : Nat} {r cc : Bool} {am : Option Addr} {cm : Nat} {M : List Sns} {T : Utt × Itt} {x y : List Value} {W : World} (h : PdI w n r cc am cm M T x y W) (hl : b.heap.size ≤ w.heap.size) : PdI b n r cc am cm M T x y W := by
  obtain ⟨⟨a1, a2, a3, a4, a5, a6, a7, e, hm, ha⟩, h2⟩ := h
  exact ⟨⟨a1, a2, a3, a4, a5, a6, a7, e, hm, ha.base hl⟩, h2⟩
theorem inI_read {L : List UInt8} {S : Sns} (h : S ≠ (0, 0, 0) → L = []) : (inI L S).2.2.1 = L ∧ (inI L S).2.2.2.2.2 = S := by
  unfold inI
  split
  · rename_i h2
    exact ⟨rfl, h2.1.symm⟩
  · rename_i h2
    refine ⟨?_, rfl⟩
    by_cases h3 : S = (0, 0, 0)
    · have : L.length = 0 := by
        by_cases h4 : L.length = 0
        · exact h4
        · exact absurd ⟨h3, h4⟩ h2
      exact (List.eq_nil_of_length_eq_zero this).symm
    · exact (h h3).symm
theorem rdL_bad {n : Nat} {F : List UInt8} {D : List Drt} {S : Sns} {A : Nat} {k : Int} (h : S ≠ (0, 0, 0)) : rdL n F D S A k = [] := by
  unfold rdL
  rw [if_neg (by simpa using h)]
theorem beg_read {n : Nat} {F : List UInt8} {D : List Drt} {p r l cc : Bool} {M : List Sns} {s : Sns} {lun luns : Int} {op : Int} {A : Nat} {k pg bt : Int} (h : op = 40 ∨ op = 168 ∨ op = 136) :
    begI n F D p r l cc M s lun luns (op, A, k, pg, bt) = ((F, D, p, l, M, s), inI (rdL n F D (checkS n D p r A k false) A k) (checkS n D p r A k false)) := by
  rcases h with rfl | rfl | rfl <;> rfl
end Go.Proofs.Ytmelkgmbiiobgaa
