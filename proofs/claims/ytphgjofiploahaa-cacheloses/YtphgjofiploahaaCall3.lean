import Derived.Test.YtphgjofiploahaaCall2
import Derived.Test.YtphgjofiploahaaL3C
namespace Go.Proofs.Ytphgjofiploahaa
open Go.ChangeShapes Go.WideShapes Go.ChangeAt Go.RowKit
set_option linter.unusedVariables false
set_option linter.unusedSimpArgs false

theorem wpM_call {P : Program} {ops : Array Oper} {G : Act → World → Prop} {i : Nat} {o : Oper} {μ : List Nat} {a : Act} {b : World} (ho : ops[i]? = some o) (hw : Region.wanted o (yielded ops a.tmps) = true) (f : FuncId) (hp : Plain P f) (xs : List Operand) (ts : Array TypeId) (hop : o.op = .call { callee := .value (.func f), args := xs.toArray, argTypes := ts }) (us : List Value) (hx : xs.map a.eval = us)
    (v : Value) (hc : ∀ w, Later b w → Calls P f us.toArray w fun e w' => e = .returned v ∧ Later w w')
    (h : wpM P ops G μ (a.put o.dst v) b) : wpM P ops G (i :: μ) a b := by
  refine ⟨o, ho, ?_⟩
  rw [if_pos hw]
  refine ⟨v, fun w hl => ?_, h⟩
  rw [run_call f hp xs ts hop us hx]
  exact ⟨rfl, hc w hl⟩

def Slices (cs : List Value) : Prop := ∀ v ∈ cs, ∃ a n c, v = .slice a n c
theorem slices2 (a : Option Addr) (n c : Nat) (a' : Option Addr) (n' c' : Nat) : Slices [.slice a n c, .slice a' n' c'] := by
  intro v hv
  simp at hv
  rcases hv with rfl | rfl
  · exact ⟨_, _, _, rfl⟩
  · exact ⟨_, _, _, rfl⟩
theorem Rw.setTwo {sz : Nat} {w : World} {v : Value} {n : Nat} {xs : List Value} {g : Nat} {ty : TypeId} {cs : List Value} (h : Rw sz w v n xs) (hx : ∀ a n c, Value.slice a n c ∉ xs) (hB : Box w g ty cs) (hs : Slices cs) (hl : cs.length = 2) (u1 u2 : Value) : Rw sz (w.setCells g 0 [u1, u2]) v n xs := by
  match cs, hl with
  | [y1, y2], _ =>
    obtain ⟨a1, n1, c1, rfl⟩ := hs y1 (by simp)
    obtain ⟨a2, n2, c2, rfl⟩ := hs y2 (by simp)
    have h1 := h.setCell_apart (a := ⟨g, 0, none⟩) (u := .slice a1 n1 c1) (u' := u1) (by rw [hB.cell 0]; rfl) (hx _ _ _)
    exact h1.setCell_apart (a := ⟨g, 1, none⟩) (u := .slice a2 n2 c2) (u' := u2) (by rw [(hB.set 0 u1).cell 1]; rfl) (hx _ _ _)
theorem Med.setTwo {w : World} {v : Value} {n : Nat} {F : List UInt8} {D : List Drt} {g : Nat} {ty : TypeId} {cs : List Value} (h : Med w v n F D) (hB : Box w g ty cs) (hs : Slices cs) (hl : cs.length = 2) (u1 u2 : Value) : Med (w.setCells g 0 [u1, u2]) v n F D := by
  obtain ⟨vb, vd, rfl, hb, hd, ho⟩ := h
  exact ⟨vb, vd, rfl, hb.setTwo (fun _ _ _ => bv_noslice F) hB hs hl u1 u2, hd.setTwo (fun _ _ _ => dv_noslice D) hB hs hl u1 u2, ho⟩

/-- 'x, e := F(..)', x a medium -/
theorem call2_med {ops : Array Oper} {Q : Exit → Act → World → Prop} {a : Act} {b : World} (c mv e0 e1 al sto asg : Nat) {oc om o0 o1 oa os oe : Oper}
    (hc : ops[c]? = some oc) (hm : ops[mv]? = some om) (h0 : ops[e0]? = some o0) (h1 : ops[e1]? = some o1) (ha : ops[al]? = some oa) (ho : ops[sto]? = some os) (he : ops[asg]? = some oe)
    (gc : oc.guard = none) (gm : om.guard = none) (g0 : o0.guard = none) (g1 : o1.guard = none) (ga : oa.guard = none) (go : os.guard = none) (ge : oe.guard = none)
    (dC dM d0 d1 dA dE : Tmp) (tc : oc.dst = some dC) (tm : om.dst = some dM) (t0 : o0.dst = some d0) (t1 : o1.dst = some d1) (ta : oa.dst = some dA) (to : os.dst = none) (te : oe.dst = some dE)
    (hsz : (decide (dC < a.tmps.size) && decide (dM < a.tmps.size) && decide (d0 < a.tmps.size) && decide (d1 < a.tmps.size) && decide (dA < a.tmps.size) && decide (dE < a.tmps.size)) = true) (hdd : [dC, dM, d0, d1, dA, dE].Nodup)
    (f : FuncId) (hp : Plain Try.prog f) (xs : List Operand) (ts : Array TypeId) (pc : oc.op = .call { callee := .value (.func f), args := xs.toArray, argTypes := ts }) (us : List Value) (hx : xs.map a.eval = us)
    (pm : om.op = .move (.tmp dC)) (p0 : o0.op = .extract (.tmp dM) 0) (p1 : o1.op = .extract (.tmp dM) 1) (pa : oa.op = .alloc 25) (po : os.op = .store 25 (.tmp dA) (.tmp d0)) (pe : oe.op = .assign (.tmp d1))
    (hnd : [c, mv, e0, e1, al, sto, asg].Nodup)
    (D1 : ([c, mv, e0, e1, al, sto, asg].filter fun k => dep .any ops c k) = []) (D2 : ([c, mv, e0, e1, al, sto, asg].filter fun k => dep .any ops mv k) = [c]) (D3 : ([c, mv, e0, e1, al, sto, asg].filter fun k => dep .any ops e0 k) = [c, mv])
    (D4 : ([c, mv, e0, e1, al, sto, asg].filter fun k => dep .any ops e1 k) = [c, mv]) (D5 : ([c, mv, e0, e1, al, sto, asg].filter fun k => dep .any ops al k) = []) (D6 : ([c, mv, e0, e1, al, sto, asg].filter fun k => dep .any ops sto k) = [c, mv, e0, al])
    (D7 : ([c, mv, e0, e1, al, sto, asg].filter fun k => dep .any ops asg k) = [c, mv, e0, e1, al, sto])
    (E : Int) (N : Nat) (F : List UInt8) (D : List Drt)
    (hcall : ∀ w, Later b w → Calls Try.prog f us.toArray w fun e w' => ∃ v', e = .returned (.tuple #[v', .int .i64 E]) ∧ Later w w' ∧ Med w' v' N F D)
    (hfin : ∀ (x1 : Option Addr) (c1 : Nat) (x2 : Option Addr) (n2 c2 g : Nat) (W : World), Later b W → b.heap.size ≤ g → Hid (n2 = D.length) → Med W (.agg #[.slice x1 N c1, .slice x2 n2 c2]) N F D → Box W g 25 [.slice x1 N c1, .slice x2 n2 c2] →
      Q .normal ((((((a.put (some dC) (.tuple #[.agg #[.slice x1 N c1, .slice x2 n2 c2], .int .i64 E])).put (some dM) (.tuple #[.agg #[.slice x1 N c1, .slice x2 n2 c2], .int .i64 E])).put (some d0) (.agg #[.slice x1 N c1, .slice x2 n2 c2])).put (some d1) (.int .i64 E)).put (some dA) (.pointer (some ⟨g, 0, none⟩))).put (some dE) (.int .i64 E)) W) :
    ∃ L R', Bag2 Try.prog ops Q [sto] [c, mv, e0, e1, al, sto, asg] a b L R' := by
  refine call2_bag c mv e0 e1 al sto asg hc hm h0 h1 ha ho he gc gm g0 g1 ga go ge dC dM d0 d1 dA dE tc tm t0 t1 ta to te hsz hdd f hp xs ts pc us hx pm p0 p1 25 pa po pe #[.slice none 0 0, .slice none 0 0] 2 Try.zero_medium rfl hnd D1 D2 D3 D4 D5 D6 D7
    Slices (fun cells ev W => ev = .int .i64 E ∧ (∃ x1 c1 x2 c2, cells = [.slice x1 N c1, .slice x2 D.length c2]) ∧ Med W (.agg cells.toArray) N F D) ?_ ?_ ?_ ?_ ?_ ?_
  · intro v hv
    simp at hv
    subst hv
    exact ⟨none, 0, 0, rfl⟩
  · rintro cells ev W ⟨_, ⟨x1, c1, x2, c2, rfl⟩, _⟩
    refine ⟨?_, rfl, ?_⟩
    · intro v hv
      simp at hv
      rcases hv with rfl | rfl
      · exact ⟨_, _, _, rfl⟩
      · exact ⟨_, _, _, rfl⟩
    · intro v hv
      simp at hv
      rcases hv with rfl | rfl <;> rfl
  · rintro cells ev W W' hl ⟨h1, h2, h3⟩
    exact ⟨h1, h2, h3.later hl⟩
  · rintro cells ev W g cs ⟨h1, ⟨x1, c1, x2, c2, rfl⟩, h3⟩ _ hs hlen hB
    exact ⟨h1, ⟨x1, c1, x2, c2, rfl⟩, h3.setTwo hB hs hlen _ _⟩
  · intro w hw
    refine (hcall w hw).mono ?_
    rintro e w' ⟨v', rfl, hl, hM⟩
    obtain ⟨x1, c1, x2, k, c2, rfl, hk, _⟩ := hM.shape
    obtain rfl : k = D.length := hk.out
    exact ⟨[.slice x1 N c1, .slice x2 D.length c2], .int .i64 E, rfl, hl, rfl, ⟨x1, c1, x2, c2, rfl⟩, hM⟩
  · rintro cells ev g W hW hg ⟨rfl, ⟨x1, c1, x2, c2, rfl⟩, h3⟩ hB
    exact hfin x1 c1 x2 D.length c2 g W hW hg rfl h3 hB

/-- 'x, e = F(..)', x a medium that is there already -/
theorem call3_med {ops : Array Oper} {Q : Exit → Act → World → Prop} {a : Act} {b : World} (c mv e0 e1 sto asg : Nat) {oc om o0 o1 os oe : Oper}
    (hc : ops[c]? = some oc) (hm : ops[mv]? = some om) (h0 : ops[e0]? = some o0) (h1 : ops[e1]? = some o1) (ho : ops[sto]? = some os) (he : ops[asg]? = some oe)
    (gc : oc.guard = none) (gm : om.guard = none) (g0 : o0.guard = none) (g1 : o1.guard = none) (go : os.guard = none) (ge : oe.guard = none)
    (dC dM d0 d1 dA dE : Tmp) (tc : oc.dst = some dC) (tm : om.dst = some dM) (t0 : o0.dst = some d0) (t1 : o1.dst = some d1) (to : os.dst = none) (te : oe.dst = some dE)
    (hsz : (decide (dC < a.tmps.size) && decide (dM < a.tmps.size) && decide (d0 < a.tmps.size) && decide (d1 < a.tmps.size) && decide (dE < a.tmps.size)) = true) (hdd : [dC, dM, d0, d1, dA, dE].Nodup)
    (f : FuncId) (hp : Plain Try.prog f) (xs : List Operand) (ts : Array TypeId) (pc : oc.op = .call { callee := .value (.func f), args := xs.toArray, argTypes := ts }) (us : List Value) (hx : xs.map a.eval = us)
    (pm : om.op = .move (.tmp dC)) (p0 : o0.op = .extract (.tmp dM) 0) (p1 : o1.op = .extract (.tmp dM) 1) (po : os.op = .store 25 (.tmp dA) (.tmp d0)) (pe : oe.op = .assign (.tmp d1))
    (g : Nat) (hA : a.eval (.tmp dA) = ptr g) (cs : List Value) (hcs : cs.length = 2) (hsl : Slices cs) (hB : Box b g 25 cs)
    (hnd : [c, mv, e0, e1, sto, asg].Nodup)
    (D1 : ([c, mv, e0, e1, sto, asg].filter fun k => dep .any ops c k) = []) (D2 : ([c, mv, e0, e1, sto, asg].filter fun k => dep .any ops mv k) = [c]) (D3 : ([c, mv, e0, e1, sto, asg].filter fun k => dep .any ops e0 k) = [c, mv])
    (D4 : ([c, mv, e0, e1, sto, asg].filter fun k => dep .any ops e1 k) = [c, mv]) (D6 : ([c, mv, e0, e1, sto, asg].filter fun k => dep .any ops sto k) = [c, mv, e0])
    (D7 : ([c, mv, e0, e1, sto, asg].filter fun k => dep .any ops asg k) = [c, mv, e0, e1, sto])
    (E : Int) (N : Nat) (F : List UInt8) (D : List Drt)
    (L : World → Prop) (hL : L b) (hLn : ∀ w w', Later w w' → L w → L w') (hLs : ∀ u1 u2 W, Later b W → L W → Box W g 25 cs → L (W.setCells g 0 [u1, u2]))
    (hcall : ∀ w, Later b w → Calls Try.prog f us.toArray w fun e w' => ∃ v', e = .returned (.tuple #[v', .int .i64 E]) ∧ Later w w' ∧ Med w' v' N F D)
    (hfin : ∀ (x1 : Option Addr) (c1 : Nat) (x2 : Option Addr) (n2 c2 : Nat) (W : World), L W → Hid (n2 = D.length) → Med W (.agg #[.slice x1 N c1, .slice x2 n2 c2]) N F D → Box W g 25 [.slice x1 N c1, .slice x2 n2 c2] →
      Q .normal (((((a.put (some dC) (.tuple #[.agg #[.slice x1 N c1, .slice x2 n2 c2], .int .i64 E])).put (some dM) (.tuple #[.agg #[.slice x1 N c1, .slice x2 n2 c2], .int .i64 E])).put (some d0) (.agg #[.slice x1 N c1, .slice x2 n2 c2])).put (some d1) (.int .i64 E)).put (some dE) (.int .i64 E)) W) :
    ∃ L R', Bag2 Try.prog ops Q [sto] [c, mv, e0, e1, sto, asg] a b L R' := by
  refine call3_bag c mv e0 e1 sto asg hc hm h0 h1 ho he gc gm g0 g1 go ge dC dM d0 d1 dA dE tc tm t0 t1 to te hsz hdd f hp xs ts pc us hx pm p0 p1 25 po pe g hA cs 2 (zero_of_info Try.zero_medium).2 hcs hB hnd D1 D2 D3 D4 D6 D7
    (fun cells ev W => ev = .int .i64 E ∧ (∃ x1 c1 x2 c2, cells = [.slice x1 N c1, .slice x2 D.length c2]) ∧ Med W (.agg cells.toArray) N F D) ?_ ?_ ?_ L hL hLn ?_ ?_ ?_
  · rintro cells ev W ⟨_, ⟨x1, c1, x2, c2, rfl⟩, _⟩
    refine ⟨rfl, ?_⟩
    intro v hv
    simp at hv
    rcases hv with rfl | rfl <;> rfl
  · rintro cells ev W W' hl ⟨h1, h2, h3⟩
    exact ⟨h1, h2, h3.later hl⟩
  · rintro cells ev W ⟨h1, ⟨x1, c1, x2, c2, rfl⟩, h3⟩ hB
    exact ⟨h1, ⟨x1, c1, x2, c2, rfl⟩, h3.setTwo hB hsl hcs _ _⟩
  · rintro cells ev W ⟨h1, ⟨x1, c1, x2, c2, rfl⟩, h3⟩ hb hLW hB
    exact hLs _ _ W hb hLW hB
  · intro w hw
    refine (hcall w hw).mono ?_
    rintro e w' ⟨v', rfl, hl, hM⟩
    obtain ⟨x1, c1, x2, k, c2, rfl, hk, _⟩ := hM.shape
    obtain rfl : k = D.length := hk.out
    exact ⟨[.slice x1 N c1, .slice x2 D.length c2], .int .i64 E, rfl, hl, rfl, ⟨x1, c1, x2, c2, rfl⟩, hM⟩
  · rintro cells ev W hW ⟨rfl, ⟨x1, c1, x2, c2, rfl⟩, h3⟩ hB
    exact hfin x1 c1 x2 D.length c2 W hW rfl h3 hB
end Go.Proofs.Ytphgjofiploahaa
