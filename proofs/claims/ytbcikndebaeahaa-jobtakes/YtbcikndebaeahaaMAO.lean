import Derived.Test.YtbcikndebaeahaaMAN
import Derived.Test.YtbcikndebaeahaaMAE
import Derived.Test.YtbcikndebaeahaaMAL
namespace Go.Proofs.Ytbcikndebaeahaa
open Go.ChangeShapes Go.WideShapes Go.ChangeAt Go.RowKit
set_option linter.unusedVariables false
set_option maxRecDepth 4000
set_option linter.unusedSimpArgs false
/-! The document's Join. -/
set_option maxHeartbeats 1000000 in
theorem rjoin_c {u v : Value} {l m : List UInt8} (w : World) (hu : Bs w u l) (hv : Bs w v m) (hl : l.length ≤ 1000000) (hm : m.length ≤ 1000000) :
    Calls Try.prog 20 #[u, v] w fun e w' => ∃ x, e = .returned x ∧ Later w w' ∧ Bs w' x (l ++ m) := by
  have HU := hide hu
  have HV := hide hv
  clear hu hv
  have Ex : Hid ((w.alloc (.cells #[] 5)).ownsRow w.heap.size 5 1 (.slice (some ⟨w.heap.size, 0, none⟩) 0 0) 0 (bv [])) := World.ownsRow_lit w #[] 0 (Nat.le_refl _) (by simp [maxLen]) rfl
  have LEx : Hid (Below w.heap.size w (w.alloc (.cells #[] 5))) := (Below.refl _ _).alloc (Nat.le_refl _) _
  go_enter Try.func20, Try.ntmps20
  go_wp2_with (at_builtin; refine wpList_append_bs rfl (.tmp 5) (.tmp 6) rfl w.heap.size _ 0 [] rfl Ex.out u l rfl (HU.out.later LEx.out) (by omega) (by simp) w LEx.out ?_)
  intro v1 w1 ho hb hg
  have O1 := hide ho
  have L1 : Hid (Below w.heap.size w w1) := hb
  clear ho hb hg Ex LEx
  go_wp2_with (at_builtin; refine wpList_append_bs rfl (.tmp 7) (.tmp 8) rfl w.heap.size v1 l.length l rfl O1.out v m rfl (HV.out.later L1.out) (by omega) L1.out.size w L1.out ?_)
  intro v2 w2 ho hb hg
  have V2 : Hid (Bs w2 v2 (l ++ m)) := (Bs.of_owns ho).1
  have L2 : Hid (Later w w2) := hb
  clear ho hb hg O1 L1
  go_wp2
  go_ret
  exact ⟨v2, rfl, L2.out, V2.out⟩
end Go.Proofs.Ytbcikndebaeahaa

namespace Go.Proofs.Ytbcikndebaeahaa
set_option linter.unusedVariables false
set_option maxRecDepth 4000
set_option linter.unusedSimpArgs false
/-! A bag whose operations are named one by one: no number is put for a variable in a great frame. -/
def AllOf (Q : Nat → Prop) : List Nat → Prop
  | [] => True
  | i :: l => Q i ∧ AllOf Q l
theorem AllOf.get {Q : Nat → Prop} : ∀ {l : List Nat}, AllOf Q l → ∀ i ∈ l, Q i
  | [], _, i, hi => by cases hi
  | j :: l, h, i, hi => by
    rcases List.mem_cons.1 hi with e | hi
    · rw [e]; exact h.1
    · exact AllOf.get h.2 i hi
theorem bag_of2 {P : Program} {ops : Array Oper} {Q : Exit → Act → World → Prop} {st σ : List Nat} {a : Act} {b : World} (gs : List Nat) (ds : Nat → List Nat) (L : World → Prop) (R : Nat → (Nat → Value) → World → Prop) (hd : (σ.all fun i => (σ.filter fun k => dep .any ops i k) == ds i) = true) (hsσ : (st.all fun i => σ.contains i) = true)
    (hgs : (σ.all fun i => st.contains i || gs.contains i) = true) (here : L b) (near : ∀ w w', Later w w' → L w → L w') (stays : ∀ i ∈ σ, ∀ vals w w', Later w w' → R i vals w → R i vals w')
    (alone : ∀ i ∈ σ, ∀ k ∈ σ, k ≠ i → k ∉ ds i → ∀ vals v w, R i vals w → R i (upd vals k v) w)
    (gives : AllOf (fun i => ∀ vals w, L w → (∀ k ∈ ds i, R k vals w) → lVal P ops i (fun v w' => R i (upd vals i v) w') (putAll ops (ds i) vals a) w) gs)
    (stores : AllOf (fun i => ∀ vals w, L w → (∀ k ∈ ds i, R k vals w) → sVal P ops i (fun v w' => L w' ∧ R i (upd vals i v) w' ∧ ∀ k ∈ ds i, R k vals w') (putAll ops (ds i) vals a) w) st)
    (still : ∀ i ∈ σ, i ∈ st → ∀ k ∈ σ, k ≠ i → k ∉ ds i → i ∉ ds k → ∀ vals w w', R k vals w → R k vals w')
    (all : ∀ vals w, L w → (∀ k ∈ σ, R k vals w) → Q .normal (putAll ops σ vals a) w) : ∃ L R, Bag2 P ops Q st σ a b L R := by
  refine bag_of ds L R hd hsσ here near stays alone (fun i hi hn vals w hL _ hR => ?_) (fun i hi hn vals w hL _ hR => AllOf.get stores i hn vals w hL hR) still all
  simp only [List.all_eq_true] at hgs
  have := hgs i hi
  simp only [Bool.or_eq_true, List.contains_iff_mem] at this
  rcases this with h | h
  · exact absurd h hn
  · exact AllOf.get gives i h vals w hL hR
end Go.Proofs.Ytbcikndebaeahaa

namespace Go.Proofs.Ytbcikndebaeahaa
open Go.ChangeShapes Go.WideShapes Go.ChangeAt Go.RowKit
set_option linter.unusedVariables false
set_option maxRecDepth 4000
set_option linter.unusedSimpArgs false
/-! Calls that give a slot and a sense, in regions that draw their order; the frame is a variable. -/
abbrev slv (x1 : Option Addr) (n y1 : Nat) (x2 : Option Addr) (k2 y2 : Nat) (p r l : Bool) : Value := .agg #[.slice x1 n y1, .slice x2 k2 y2, .bool p, .bool r, .bool l]
def OpAt (ops : Array Oper) (i : Nat) (d : Option Tmp) (op : Op) : Prop := ∃ o, ops[i]? = some o ∧ o.guard = none ∧ o.dst = d ∧ o.op = op
theorem OpAt.dst {ops : Array Oper} {i : Nat} {d : Option Tmp} {op : Op} (h : OpAt ops i d op) : dstOf ops i = d := by
  obtain ⟨o, h1, _, h3, _⟩ := h
  exact dstOf_of h1 h3
theorem lVal_callAt {P : Program} {ops : Array Oper} {i : Nat} {R : Value → World → Prop} {a : Act} {w : World} {d : Option Tmp} {f : FuncId} {xs : List Operand} {ts : Array TypeId} (h : OpAt ops i d (.call { callee := .value (.func f), args := xs.toArray, argTypes := ts })) (hp : Plain P f) (us : List Value) (hx : xs.map a.eval = us)
    (hc : Calls P f us.toArray w fun e w' => ∃ v, e = .returned v ∧ Later w w' ∧ R v w') : lVal P ops i R a w := by
  obtain ⟨o, h1, h2, h3, h4⟩ := h
  refine lVal_step h1 fun K hK => ?_
  rw [if_pos (by simp [Region.wanted, h2])]
  rw [run_call f hp xs ts h4 us hx]
  refine ⟨rfl, hc.mono ?_⟩
  rintro e w' ⟨v, q1, q2, q3⟩
  exact ⟨_, q1, q2, hK _ _ q3⟩
theorem lVal_moveAt {P : Program} {ops : Array Oper} {i : Nat} {R : Value → World → Prop} {a : Act} {w : World} {d : Option Tmp} {x : Operand} (h : OpAt ops i d (.move x)) (v : Value) (hx : a.eval x = v) (hR : R v w) : lVal P ops i R a w := by
  obtain ⟨o, h1, h2, h3, h4⟩ := h
  exact lVal_of_run h1 h2 v w (run_move _ h4 _ hx w) (Later.refl w) hR
theorem lVal_extractAt {P : Program} {ops : Array Oper} {i : Nat} {R : Value → World → Prop} {a : Act} {w : World} {d : Option Tmp} {x : Operand} {k : Nat} (h : OpAt ops i d (.extract x k)) (vs : Array Value) (v : Value) (hx : a.eval x = .tuple vs) (hv : vs[k]? = some v) (hR : R v w) : lVal P ops i R a w := by
  obtain ⟨o, h1, h2, h3, h4⟩ := h
  exact lVal_of_run h1 h2 v w (run_extract x k h4 vs v hx hv w) (Later.refl w) hR
theorem lVal_allocAt {P : Program} {ops : Array Oper} {i : Nat} {R : Value → World → Prop} {a : Act} {w : World} {d : Option Tmp} {ty : TypeId} (h : OpAt ops i d (.alloc ty)) (z : Array Value) (n : Nat) (hz : (P.info? ty).map (fun i => (i.zero, i.size)) = some (some (.agg z), n)) (hR : R (.pointer (some ⟨w.heap.size, 0, none⟩)) (w.alloc (.cells z ty))) : lVal P ops i R a w := by
  obtain ⟨o, h1, h2, h3, h4⟩ := h
  exact lVal_of_run h1 h2 _ _ (run_alloc ty h4 z n hz w) ((Later.refl w).alloc _) hR
theorem sVal_storeAt {P : Program} {ops : Array Oper} {i : Nat} {R : Value → World → Prop} {a : Act} {w : World} {d : Option Tmp} {ty : TypeId} {x y : Operand} (h : OpAt ops i d (.store ty x y)) (g : Nat) (cells : List Value) (hx : a.eval x = .pointer (some ⟨g, 0, none⟩)) (hy : a.eval y = .agg cells.toArray) (ht : w.there g 0 cells.length) (hi : (P.info? ty).map (·.size) = some cells.length) (h1 : ∀ u ∈ cells, u.oneCell' = true)
    (hR : ∀ u, R u (w.setCells g 0 cells)) : sVal P ops i R a w := by
  obtain ⟨o, q1, q2, q3, q4⟩ := h
  exact sVal_store q1 q2 ty x y q4 g cells hx hy ht hi h1 hR
theorem eval_same {a : Act} {d : Tmp} {v : Value} (h : d < a.tmps.size) : (a.put (some d) v).eval (.tmp d) = v := put_eval h
end Go.Proofs.Ytbcikndebaeahaa

namespace Go.Proofs.Ytbcikndebaeahaa
open Go.ChangeShapes Go.WideShapes Go.ChangeAt Go.RowKit
set_option linter.unusedVariables false
set_option maxRecDepth 4000
set_option linter.unusedSimpArgs false
/-! 'x, y := f(..)' of two structs, in a region that draws. -/
set_option maxHeartbeats 2000000 in
theorem two_take {ops : Array Oper} {Q : Exit → Act → World → Prop} {a : Act} {b : World} (f : FuncId) (hpl : Plain Try.prog f) (T1 T2 : TypeId) (hT : T1 ≠ T2) (z1 z2 : List Value) (hz1 : (Try.prog.info? T1).map (fun i => (i.zero, i.size)) = some (some (.agg z1.toArray), z1.length)) (hz2 : (Try.prog.info? T2).map (fun i => (i.zero, i.size)) = some (some (.agg z2.toArray), z2.length)) (hi1 : (Try.prog.info? T1).map (·.size) = some z1.length) (hi2 : (Try.prog.info? T2).map (·.size) = some z2.length) (hn1 : NoB z1) (hn2 : NoB z2)
    (Pd : List Value → List Value → World → Prop) (hone : ∀ x y W, Pd x y W → (x.length = z1.length ∧ NoB x ∧ ∀ u ∈ x, u.oneCell' = true) ∧ (y.length = z2.length ∧ NoB y ∧ ∀ u ∈ y, u.oneCell' = true))
    (hlat : ∀ x y W W', Later W W' → Pd x y W → Pd x y W') (hset : ∀ x y W g t cs vs, (t = T1 ∨ t = T2) → Box W g t cs → NoB cs → b.heap.size ≤ g → Pd x y W → Pd x y (W.setCells g 0 vs))
    (xs : List Operand) (ts : Array TypeId) (us : List Value) (hx : xs.map a.eval = us)
    (hc : OpAt ops 6 (some 73) (.call { callee := .value (.func f), args := xs.toArray, argTypes := ts })) (hm : OpAt ops 7 (some 66) (.move (.tmp 73))) (h0 : OpAt ops 8 (some 74) (.extract (.tmp 66) 0)) (h1 : OpAt ops 9 (some 75) (.extract (.tmp 66) 1))
    (ha : OpAt ops 10 (some 12) (.alloc T1)) (he : OpAt ops 11 (some 13) (.alloc T2)) (hs : OpAt ops 12 none (.store T1 (.tmp 12) (.tmp 74))) (ht : OpAt ops 13 none (.store T2 (.tmp 13) (.tmp 75))) (hsz : 89 ≤ a.tmps.size)
    (hd : ([6, 7, 8, 9, 10, 11, 12, 13].all fun i => ([6, 7, 8, 9, 10, 11, 12, 13].filter fun k => dep .any ops i k) == (match i with | 7 => [6] | 8 => [6, 7] | 9 => [6, 7] | 12 => [6, 7, 8, 10, 11] | 13 => [6, 7, 8, 9, 10, 11, 12] | _ => [])) = true)
    (hcall : ∀ W, Later b W → Calls Try.prog f us.toArray W fun e w' => ∃ x y, e = .returned (.tuple #[.agg x.toArray, .agg y.toArray]) ∧ Later W w' ∧ Pd x y w')
    (hfin : ∀ x y g1 g2 W, Later b W → Box W g1 T1 x → Box W g2 T2 y → Pd x y W → b.heap.size ≤ g1 → b.heap.size ≤ g2 →
      Q .normal ((((((a.put (some 73) (.tuple #[.agg x.toArray, .agg y.toArray])).put (some 66) (.tuple #[.agg x.toArray, .agg y.toArray])).put (some 74) (.agg x.toArray)).put (some 75) (.agg y.toArray)).put (some 12) (.pointer (some ⟨g1, 0, none⟩))).put (some 13) (.pointer (some ⟨g2, 0, none⟩))) W) :
    ∃ L R', Bag2 Try.prog ops Q [12, 13] [6, 7, 8, 9, 10, 11, 12, 13] a b L R' := by
  refine bag_of2 [6, 7, 8, 9, 10, 11] (fun i => match i with | 7 => [6] | 8 => [6, 7] | 9 => [6, 7] | 12 => [6, 7, 8, 10, 11] | 13 => [6, 7, 8, 9, 10, 11, 12] | _ => [])
    (fun W => Later b W)
    (fun i vals W => match i with
      | 6 => ∃ x y : List Value, vals 6 = .tuple #[.agg x.toArray, .agg y.toArray] ∧ Pd x y W
      | 7 => vals 7 = vals 6
      | 8 => ∃ x y : List Value, vals 6 = .tuple #[.agg x.toArray, .agg y.toArray] ∧ vals 8 = .agg x.toArray ∧ Pd x y W
      | 9 => ∃ x y : List Value, vals 6 = .tuple #[.agg x.toArray, .agg y.toArray] ∧ vals 9 = .agg y.toArray
      | 10 => ∃ g cr, vals 10 = .pointer (some ⟨g, 0, none⟩) ∧ NoB cr ∧ cr.length = z1.length ∧ Box W g T1 cr ∧ b.heap.size ≤ g
      | 11 => ∃ g cr, vals 11 = .pointer (some ⟨g, 0, none⟩) ∧ NoB cr ∧ cr.length = z2.length ∧ Box W g T2 cr ∧ b.heap.size ≤ g
      | 12 => ∃ (x y : List Value) (g : Nat), vals 6 = .tuple #[.agg x.toArray, .agg y.toArray] ∧ vals 8 = .agg x.toArray ∧ vals 10 = .pointer (some ⟨g, 0, none⟩) ∧ Box W g T1 x ∧ Pd x y W ∧ b.heap.size ≤ g
      | 13 => ∃ (x y : List Value) (g : Nat), vals 6 = .tuple #[.agg x.toArray, .agg y.toArray] ∧ vals 11 = .pointer (some ⟨g, 0, none⟩) ∧ Box W g T2 y ∧ b.heap.size ≤ g
      | _ => True) hd (by decide) (by decide) (Later.refl b) (fun w w' hl h => h.trans hl) ?c3 ?c4 ?c5 ?c6 ?c7 ?c8
  case c3 =>
    intro i hi vals W W' hl h
    simp only [List.mem_cons, List.not_mem_nil, or_false] at hi
    rcases hi with rfl | rfl | rfl | rfl | rfl | rfl | rfl | rfl
    · obtain ⟨x, y, q1, q2⟩ := h
      exact ⟨x, y, q1, hlat _ _ _ _ hl q2⟩
    · exact h
    · obtain ⟨x, y, q1, q2, q3⟩ := h
      exact ⟨x, y, q1, q2, hlat _ _ _ _ hl q3⟩
    · exact h
    · obtain ⟨g, cr, q1, q2, q3, q4, q5⟩ := h
      exact ⟨g, cr, q1, q2, q3, q4.later hl, q5⟩
    · obtain ⟨g, cr, q1, q2, q3, q4, q5⟩ := h
      exact ⟨g, cr, q1, q2, q3, q4.later hl, q5⟩
    · obtain ⟨x, y, g, q1, q2, q3, q4, q5, q6⟩ := h
      exact ⟨x, y, g, q1, q2, q3, q4.later hl, hlat _ _ _ _ hl q5, q6⟩
    · obtain ⟨x, y, g, q1, q2, q3, q4⟩ := h
      exact ⟨x, y, g, q1, q2, q3.later hl, q4⟩
  case c4 =>
    intro i hi k hk hne hds vals v W h
    simp only [List.mem_cons, List.not_mem_nil, or_false] at hi hk
    rcases hi with rfl | rfl | rfl | rfl | rfl | rfl | rfl | rfl <;> rcases hk with rfl | rfl | rfl | rfl | rfl | rfl | rfl | rfl <;> first | (exact absurd rfl hne) | (simp at hds; done) | (simpa [upd] using h)
  case c5 =>
    refine ⟨?_, ?_, ?_, ?_, ?_, ?_, trivial⟩
    · intro vals W hL hdep
      refine lVal_callAt hc hpl us hx ((hcall W hL).mono ?_)
      rintro e w' ⟨x, y, rfl, q2, q3⟩
      exact ⟨_, rfl, q2, x, y, by simp [upd], q3⟩
    · intro vals W hL hdep
      refine lVal_moveAt hm (vals 6) ?_ (by simp [upd])
      simp only [putAll, List.foldl, hc.dst]
      exact eval_same (Nat.lt_of_lt_of_le (by decide) hsz)
    · intro vals W hL hdep
      obtain ⟨x, y, q1, q2⟩ := hdep 6 (by simp)
      have q3 : vals 7 = vals 6 := hdep 7 (by simp)
      refine lVal_extractAt h0 #[.agg x.toArray, .agg y.toArray] (.agg x.toArray) ?_ rfl ⟨x, y, by simpa [upd] using q1, by simp [upd], q2⟩
      simp only [putAll, List.foldl, hc.dst, hm.dst]
      rw [eval_same (by simp only [put_size]; exact Nat.lt_of_lt_of_le (by decide) hsz), q3, q1]
    · intro vals W hL hdep
      obtain ⟨x, y, q1, q2⟩ := hdep 6 (by simp)
      have q3 : vals 7 = vals 6 := hdep 7 (by simp)
      refine lVal_extractAt h1 #[.agg x.toArray, .agg y.toArray] (.agg y.toArray) ?_ rfl ⟨x, y, by simpa [upd] using q1, by simp [upd]⟩
      simp only [putAll, List.foldl, hc.dst, hm.dst]
      rw [eval_same (by simp only [put_size]; exact Nat.lt_of_lt_of_le (by decide) hsz), q3, q1]
    · intro vals W hL hdep
      exact lVal_allocAt ha _ _ hz1 ⟨W.heap.size, z1, by simp [upd], hn1, rfl, Box.new W _ _, hL.size⟩
    · intro vals W hL hdep
      exact lVal_allocAt he _ _ hz2 ⟨W.heap.size, z2, by simp [upd], hn2, rfl, Box.new W _ _, hL.size⟩
  case c6 =>
    refine ⟨?_, ?_, trivial⟩
    · intro vals W hL hdep
      obtain ⟨x', y', p1, p2⟩ := hdep 6 (by simp)
      have q3' := hdep 7 (by simp)
      obtain ⟨x, y, q1, q2, q3⟩ := hdep 8 (by simp)
      obtain ⟨g, cr, u1, u2, u3, u4, u5⟩ := hdep 10 (by simp)
      obtain ⟨g', cs, v1, v2, v3, v4, v5⟩ := hdep 11 (by simp)
      obtain ⟨⟨l1, l2, l3⟩, _⟩ := hone _ _ _ q3
      refine sVal_storeAt hs g x ?_ ?_ (u4.there 0 x.length (by omega)) (by rw [hi1, l1]) l3 (fun u => ⟨hL.setCells u5 _ 0, ?_, ?_⟩)
      · simp only [putAll, List.foldl, hc.dst, hm.dst, h0.dst, ha.dst, he.dst]
        rw [eval_put_ne (by decide), eval_same (by simp only [put_size]; exact Nat.lt_of_lt_of_le (by decide) hsz), u1]
      · simp only [putAll, List.foldl, hc.dst, hm.dst, h0.dst, ha.dst, he.dst]
        rw [eval_put_ne (by decide), eval_put_ne (by decide), eval_same (by simp only [put_size]; exact Nat.lt_of_lt_of_le (by decide) hsz), q2]
      · exact ⟨x, y, g, by simpa [upd] using q1, by simpa [upd] using q2, by simpa [upd] using u1, u4.all _ (by omega), hset _ _ _ _ _ _ _ (.inl rfl) u4 u2 u5 q3, u5⟩
      · intro k hk
        simp only [List.mem_cons, List.not_mem_nil, or_false] at hk
        rcases hk with rfl | rfl | rfl | rfl | rfl
        · exact ⟨x', y', p1, hset _ _ _ _ _ _ _ (.inl rfl) u4 u2 u5 p2⟩
        · exact q3'
        · exact ⟨x, y, q1, q2, hset _ _ _ _ _ _ _ (.inl rfl) u4 u2 u5 q3⟩
        · exact ⟨g, x, u1, l2, l1, u4.all x (by omega), u5⟩
        · exact ⟨g', cs, v1, v2, v3, v4.kept (heap_setCells_other W _ _ (box_ne v4 u4 (fun e => hT e.symm)) _ _), v5⟩
    · intro vals W hL hdep
      obtain ⟨x', y', p1, p2⟩ := hdep 6 (by simp)
      have q3' := hdep 7 (by simp)
      obtain ⟨x4, y4, r1, r2, r3⟩ := hdep 8 (by simp)
      obtain ⟨x5, y5, r4, q5⟩ := hdep 9 (by simp)
      obtain ⟨x, y, g, u1, u2, u3, u4, u5, u6⟩ := hdep 12 (by simp)
      obtain ⟨g', cs, v1, v2, v3, v4, v5⟩ := hdep 11 (by simp)
      obtain ⟨⟨k1, k2, k3⟩, l1, l2, l3⟩ := hone _ _ _ u5
      have ey : y5 = y := by
        rw [r4] at u1
        simp at u1
        exact u1.2
      subst ey
      have hB := u4.kept (heap_setCells_other W g' g (box_ne u4 v4 hT) y5 0)
      refine sVal_storeAt ht g' y5 ?_ ?_ (v4.there 0 y5.length (by omega)) (by rw [hi2, l1]) l3 (fun u => ⟨hL.setCells v5 _ 0, ?_, ?_⟩)
      · simp only [putAll, List.foldl, hc.dst, hm.dst, h0.dst, h1.dst, ha.dst, he.dst, hs.dst, put_none]
        rw [eval_same (by simp only [put_size]; exact Nat.lt_of_lt_of_le (by decide) hsz), v1]
      · simp only [putAll, List.foldl, hc.dst, hm.dst, h0.dst, h1.dst, ha.dst, he.dst, hs.dst, put_none]
        rw [eval_put_ne (by decide), eval_put_ne (by decide), eval_same (by simp only [put_size]; exact Nat.lt_of_lt_of_le (by decide) hsz), q5]
      · exact ⟨x, y5, g', by simpa [upd] using u1, by simpa [upd] using v1, v4.all _ (by omega), v5⟩
      · intro k hk
        simp only [List.mem_cons, List.not_mem_nil, or_false] at hk
        rcases hk with rfl | rfl | rfl | rfl | rfl | rfl | rfl
        · exact ⟨x', y', p1, hset _ _ _ _ _ _ _ (.inr rfl) v4 v2 v5 p2⟩
        · exact q3'
        · exact ⟨x4, y4, r1, r2, hset _ _ _ _ _ _ _ (.inr rfl) v4 v2 v5 r3⟩
        · exact ⟨x5, y5, r4, q5⟩
        · exact ⟨g, x, u3, k2, k1, hB, u6⟩
        · exact ⟨g', y5, v1, l2, l1, v4.all _ (by omega), v5⟩
        · exact ⟨x, y5, g, u1, u2, u3, hB, hset _ _ _ _ _ _ _ (.inr rfl) v4 v2 v5 u5, u6⟩
  case c7 =>
    intro i hi hst k hk hne hds hds' vals W W' h
    simp only [List.mem_cons, List.not_mem_nil, or_false] at hst hk
    rcases hst with rfl | rfl <;> rcases hk with rfl | rfl | rfl | rfl | rfl | rfl | rfl | rfl <;> first | (exact absurd rfl hne) | (simp at hds; done) | (simp at hds'; done) | (exact h)
  case c8 =>
    intro vals W hL hall
    have q3 : vals 7 = vals 6 := hall 7 (by simp)
    obtain ⟨x5, y5, r4, q5⟩ := hall 9 (by simp)
    obtain ⟨x, y, g, u1, u2, u3, u4, u5, u6⟩ := hall 12 (by simp)
    obtain ⟨x9, y9, g', v0, v1, v2, v3⟩ := hall 13 (by simp)
    have e5 : x5 = x ∧ y5 = y := by rw [r4] at u1; simpa using u1
    have e9 : x9 = x ∧ y9 = y := by rw [v0] at u1; simpa using u1
    obtain ⟨rfl, rfl⟩ := e5
    obtain ⟨rfl, rfl⟩ := e9
    have := hfin _ _ g g' W hL u4 v2 u5 u6 v3
    simp only [putAll, List.foldl, hc.dst, hm.dst, h0.dst, h1.dst, ha.dst, he.dst, hs.dst, ht.dst, put_none, q3, q5, u1, u2, u3, v1]
    exact this
end Go.Proofs.Ytbcikndebaeahaa
