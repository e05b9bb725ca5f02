import Derived.Laws.BitsAllLaws
import Derived.Test.YtkbpecbpfajkfaaMAO
import Derived.Test.YtkbpecbpfajkfaaMAG
import Derived.Test.YtkbpecbpfajkfaaMAI
import Derived.Test.YtkbpecbpfajkfaaMAN
namespace Go.Proofs.Ytkbpecbpfajkfaa
open Go.ChangeShapes Go.WideShapes Go.ChangeAt Go.RowKit
set_option linter.unusedVariables false
set_option linter.unusedSimpArgs false

def Slices (cs : List Value) : Prop := ∀ v ∈ cs, ∃ a n c, v = .slice a n c
theorem slices2 (a : Option Addr) (n c : Nat) (a' : Option Addr) (n' c' : Nat) : Slices [.slice a n c, .slice a' n' c'] := by
  intro v hv
  simp at hv
  rcases hv with rfl | rfl
  · exact ⟨_, _, _, rfl⟩
  · exact ⟨_, _, _, rfl⟩
theorem Rw.setTwo {sz : Nat} {w : World} {v : Value} {n : Nat} {xs : List Value} {g : Nat} {ty : TypeId} {cs : List Value} (h : Rw sz w v n xs) (hx : ∀ a n c, Value.slice a n c ∉ xs) (hB : Box w g ty cs) (hs : Slices cs) (hl : cs.length = 2) (u1 u2 : Value) : Rw sz (w.setCells g 0 [u1, u2]) v n xs := by
  match cs, hl with
  | [y1, y2], _ =>
    obtain ⟨a1, n1, c1, rfl⟩ := hs y1 (by simp)
    obtain ⟨a2, n2, c2, rfl⟩ := hs y2 (by simp)
    have h1 := h.setCell_apart (a := ⟨g, 0, none⟩) (u := .slice a1 n1 c1) (u' := u1) (by rw [hB.cell 0]; rfl) (hx _ _ _)
    exact h1.setCell_apart (a := ⟨g, 1, none⟩) (u := .slice a2 n2 c2) (u' := u2) (by rw [(hB.set 0 u1).cell 1]; rfl) (hx _ _ _)
theorem Med.setTwo {w : World} {v : Value} {n : Nat} {F : List UInt8} {D : List Drt} {g : Nat} {ty : TypeId} {cs : List Value} (h : Med w v n F D) (hB : Box w g ty cs) (hs : Slices cs) (hl : cs.length = 2) (u1 u2 : Value) : Med (w.setCells g 0 [u1, u2]) v n F D := by
  obtain ⟨vb, vd, rfl, hb, hd, ho⟩ := h
  exact ⟨vb, vd, rfl, hb.setTwo (fun _ _ _ => bv_noslice F) hB hs hl u1 u2, hd.setTwo (fun _ _ _ => dv_noslice D) hB hs hl u1 u2, ho⟩

/-- 'x, e := F(..)', x a medium -/
theorem call2_med {ops : Array Oper} {Q : Exit → Act → World → Prop} {a : Act} {b : World} (c mv e0 e1 al sto asg : Nat) {oc om o0 o1 oa os oe : Oper}
    (hc : ops[c]? = some oc) (hm : ops[mv]? = some om) (h0 : ops[e0]? = some o0) (h1 : ops[e1]? = some o1) (ha : ops[al]? = some oa) (ho : ops[sto]? = some os) (he : ops[asg]? = some oe)
    (gc : oc.guard = none) (gm : om.guard = none) (g0 : o0.guard = none) (g1 : o1.guard = none) (ga : oa.guard = none) (go : os.guard = none) (ge : oe.guard = none)
    (dC dM d0 d1 dA dE : Tmp) (tc : oc.dst = some dC) (tm : om.dst = some dM) (t0 : o0.dst = some d0) (t1 : o1.dst = some d1) (ta : oa.dst = some dA) (to : os.dst = none) (te : oe.dst = some dE)
    (hsz : (decide (dC < a.tmps.size) && decide (dM < a.tmps.size) && decide (d0 < a.tmps.size) && decide (d1 < a.tmps.size) && decide (dA < a.tmps.size) && decide (dE < a.tmps.size)) = true) (hdd : [dC, dM, d0, d1, dA, dE].Nodup)
    (f : FuncId) (hp : Plain Try.prog f) (xs : List Operand) (ts : Array TypeId) (pc : oc.op = .call { callee := .value (.func f), args := xs.toArray, argTypes := ts }) (us : List Value) (hx : xs.map a.eval = us)
    (pm : om.op = .move (.tmp dC)) (p0 : o0.op = .extract (.tmp dM) 0) (p1 : o1.op = .extract (.tmp dM) 1) (pa : oa.op = .alloc 25) (po : os.op = .store 25 (.tmp dA) (.tmp d0)) (pe : oe.op = .assign (.tmp d1))
    (hnd : [c, mv, e0, e1, al, sto, asg].Nodup)
    (D1 : ([c, mv, e0, e1, al, sto, asg].filter fun k => dep .any ops c k) = []) (D2 : ([c, mv, e0, e1, al, sto, asg].filter fun k => dep .any ops mv k) = [c]) (D3 : ([c, mv, e0, e1, al, sto, asg].filter fun k => dep .any ops e0 k) = [c, mv])
    (D4 : ([c, mv, e0, e1, al, sto, asg].filter fun k => dep .any ops e1 k) = [c, mv]) (D5 : ([c, mv, e0, e1, al, sto, asg].filter fun k => dep .any ops al k) = []) (D6 : ([c, mv, e0, e1, al, sto, asg].filter fun k => dep .any ops sto k) = [c, mv, e0, al])
    (D7 : ([c, mv, e0, e1, al, sto, asg].filter fun k => dep .any ops asg k) = [c, mv, e0, e1, al, sto])
    (E : Int) (N : Nat) (F : List UInt8) (D : List Drt)
    (hcall : ∀ w, Later b w → Calls Try.prog f us.toArray w fun e w' => ∃ v', e = .returned (.tuple #[v', .int .i64 E]) ∧ Later w w' ∧ Med w' v' N F D)
    (hfin : ∀ (x1 : Option Addr) (c1 : Nat) (x2 : Option Addr) (n2 c2 g : Nat) (W : World), Later b W → b.heap.size ≤ g → Hid (n2 = D.length) → Med W (.agg #[.slice x1 N c1, .slice x2 n2 c2]) N F D → Box W g 25 [.slice x1 N c1, .slice x2 n2 c2] →
      Q .normal ((((((a.put (some dC) (.tuple #[.agg #[.slice x1 N c1, .slice x2 n2 c2], .int .i64 E])).put (some dM) (.tuple #[.agg #[.slice x1 N c1, .slice x2 n2 c2], .int .i64 E])).put (some d0) (.agg #[.slice x1 N c1, .slice x2 n2 c2])).put (some d1) (.int .i64 E)).put (some dA) (.pointer (some ⟨g, 0, none⟩))).put (some dE) (.int .i64 E)) W) :
    ∃ L R', Bag2 Try.prog ops Q [sto] [c, mv, e0, e1, al, sto, asg] a b L R' := by
  refine call2_bag c mv e0 e1 al sto asg hc hm h0 h1 ha ho he gc gm g0 g1 ga go ge dC dM d0 d1 dA dE tc tm t0 t1 ta to te hsz hdd f hp xs ts pc us hx pm p0 p1 25 pa po pe #[.slice none 0 0, .slice none 0 0] 2 Try.zero_medium rfl hnd D1 D2 D3 D4 D5 D6 D7
    Slices (fun cells ev W => ev = .int .i64 E ∧ (∃ x1 c1 x2 c2, cells = [.slice x1 N c1, .slice x2 D.length c2]) ∧ Med W (.agg cells.toArray) N F D) ?_ ?_ ?_ ?_ ?_ ?_
  · intro v hv
    simp at hv
    subst hv
    exact ⟨none, 0, 0, rfl⟩
  · rintro cells ev W ⟨_, ⟨x1, c1, x2, c2, rfl⟩, _⟩
    refine ⟨?_, rfl, ?_⟩
    · intro v hv
      simp at hv
      rcases hv with rfl | rfl
      · exact ⟨_, _, _, rfl⟩
      · exact ⟨_, _, _, rfl⟩
    · intro v hv
      simp at hv
      rcases hv with rfl | rfl <;> rfl
  · rintro cells ev W W' hl ⟨h1, h2, h3⟩
    exact ⟨h1, h2, h3.later hl⟩
  · rintro cells ev W g cs ⟨h1, ⟨x1, c1, x2, c2, rfl⟩, h3⟩ _ hs hlen hB
    exact ⟨h1, ⟨x1, c1, x2, c2, rfl⟩, h3.setTwo hB hs hlen _ _⟩
  · intro w hw
    refine (hcall w hw).mono ?_
    rintro e w' ⟨v', rfl, hl, hM⟩
    obtain ⟨x1, c1, x2, k, c2, rfl, hk, _⟩ := hM.shape
    obtain rfl : k = D.length := hk.out
    exact ⟨[.slice x1 N c1, .slice x2 D.length c2], .int .i64 E, rfl, hl, rfl, ⟨x1, c1, x2, c2, rfl⟩, hM⟩
  · rintro cells ev g W hW hg ⟨rfl, ⟨x1, c1, x2, c2, rfl⟩, h3⟩ hB
    exact hfin x1 c1 x2 D.length c2 g W hW hg rfl h3 hB

/-- 'x, e = F(..)', x a medium that is there already -/
theorem call3_med {ops : Array Oper} {Q : Exit → Act → World → Prop} {a : Act} {b : World} (c mv e0 e1 sto asg : Nat) {oc om o0 o1 os oe : Oper}
    (hc : ops[c]? = some oc) (hm : ops[mv]? = some om) (h0 : ops[e0]? = some o0) (h1 : ops[e1]? = some o1) (ho : ops[sto]? = some os) (he : ops[asg]? = some oe)
    (gc : oc.guard = none) (gm : om.guard = none) (g0 : o0.guard = none) (g1 : o1.guard = none) (go : os.guard = none) (ge : oe.guard = none)
    (dC dM d0 d1 dA dE : Tmp) (tc : oc.dst = some dC) (tm : om.dst = some dM) (t0 : o0.dst = some d0) (t1 : o1.dst = some d1) (to : os.dst = none) (te : oe.dst = some dE)
    (hsz : (decide (dC < a.tmps.size) && decide (dM < a.tmps.size) && decide (d0 < a.tmps.size) && decide (d1 < a.tmps.size) && decide (dE < a.tmps.size)) = true) (hdd : [dC, dM, d0, d1, dA, dE].Nodup)
    (f : FuncId) (hp : Plain Try.prog f) (xs : List Operand) (ts : Array TypeId) (pc : oc.op = .call { callee := .value (.func f), args := xs.toArray, argTypes := ts }) (us : List Value) (hx : xs.map a.eval = us)
    (pm : om.op = .move (.tmp dC)) (p0 : o0.op = .extract (.tmp dM) 0) (p1 : o1.op = .extract (.tmp dM) 1) (po : os.op = .store 25 (.tmp dA) (.tmp d0)) (pe : oe.op = .assign (.tmp d1))
    (g : Nat) (hA : a.eval (.tmp dA) = ptr g) (cs : List Value) (hcs : cs.length = 2) (hsl : Slices cs) (hB : Box b g 25 cs)
    (hnd : [c, mv, e0, e1, sto, asg].Nodup)
    (D1 : ([c, mv, e0, e1, sto, asg].filter fun k => dep .any ops c k) = []) (D2 : ([c, mv, e0, e1, sto, asg].filter fun k => dep .any ops mv k) = [c]) (D3 : ([c, mv, e0, e1, sto, asg].filter fun k => dep .any ops e0 k) = [c, mv])
    (D4 : ([c, mv, e0, e1, sto, asg].filter fun k => dep .any ops e1 k) = [c, mv]) (D6 : ([c, mv, e0, e1, sto, asg].filter fun k => dep .any ops sto k) = [c, mv, e0])
    (D7 : ([c, mv, e0, e1, sto, asg].filter fun k => dep .any ops asg k) = [c, mv, e0, e1, sto])
    (E : Int) (N : Nat) (F : List UInt8) (D : List Drt)
    (L : World → Prop) (hL : L b) (hLn : ∀ w w', Later w w' → L w → L w') (hLs : ∀ u1 u2 W, Later b W → L W → Box W g 25 cs → L (W.setCells g 0 [u1, u2]))
    (hcall : ∀ w, Later b w → Calls Try.prog f us.toArray w fun e w' => ∃ v', e = .returned (.tuple #[v', .int .i64 E]) ∧ Later w w' ∧ Med w' v' N F D)
    (hfin : ∀ (x1 : Option Addr) (c1 : Nat) (x2 : Option Addr) (n2 c2 : Nat) (W : World), L W → Hid (n2 = D.length) → Med W (.agg #[.slice x1 N c1, .slice x2 n2 c2]) N F D → Box W g 25 [.slice x1 N c1, .slice x2 n2 c2] →
      Q .normal (((((a.put (some dC) (.tuple #[.agg #[.slice x1 N c1, .slice x2 n2 c2], .int .i64 E])).put (some dM) (.tuple #[.agg #[.slice x1 N c1, .slice x2 n2 c2], .int .i64 E])).put (some d0) (.agg #[.slice x1 N c1, .slice x2 n2 c2])).put (some d1) (.int .i64 E)).put (some dE) (.int .i64 E)) W) :
    ∃ L R', Bag2 Try.prog ops Q [sto] [c, mv, e0, e1, sto, asg] a b L R' := by
  refine call3_bag c mv e0 e1 sto asg hc hm h0 h1 ho he gc gm g0 g1 go ge dC dM d0 d1 dA dE tc tm t0 t1 to te hsz hdd f hp xs ts pc us hx pm p0 p1 25 po pe g hA cs 2 (zero_of_info Try.zero_medium).2 hcs hB hnd D1 D2 D3 D4 D6 D7
    (fun cells ev W => ev = .int .i64 E ∧ (∃ x1 c1 x2 c2, cells = [.slice x1 N c1, .slice x2 D.length c2]) ∧ Med W (.agg cells.toArray) N F D) ?_ ?_ ?_ L hL hLn ?_ ?_ ?_
  · rintro cells ev W ⟨_, ⟨x1, c1, x2, c2, rfl⟩, _⟩
    refine ⟨rfl, ?_⟩
    intro v hv
    simp at hv
    rcases hv with rfl | rfl <;> rfl
  · rintro cells ev W W' hl ⟨h1, h2, h3⟩
    exact ⟨h1, h2, h3.later hl⟩
  · rintro cells ev W ⟨h1, ⟨x1, c1, x2, c2, rfl⟩, h3⟩ hB
    exact ⟨h1, ⟨x1, c1, x2, c2, rfl⟩, h3.setTwo hB hsl hcs _ _⟩
  · rintro cells ev W ⟨h1, ⟨x1, c1, x2, c2, rfl⟩, h3⟩ hb hLW hB
    exact hLs _ _ W hb hLW hB
  · intro w hw
    refine (hcall w hw).mono ?_
    rintro e w' ⟨v', rfl, hl, hM⟩
    obtain ⟨x1, c1, x2, k, c2, rfl, hk, _⟩ := hM.shape
    obtain rfl : k = D.length := hk.out
    exact ⟨[.slice x1 N c1, .slice x2 D.length c2], .int .i64 E, rfl, hl, rfl, ⟨x1, c1, x2, c2, rfl⟩, hM⟩
  · rintro cells ev W hW ⟨rfl, ⟨x1, c1, x2, c2, rfl⟩, h3⟩ hB
    exact hfin x1 c1 x2 D.length c2 W hW rfl h3 hB
end Go.Proofs.Ytkbpecbpfajkfaa

namespace Go.Proofs.Ytkbpecbpfajkfaa
open Go.ChangeShapes Go.WideShapes Go.ChangeAt Go.RowKit
set_option linter.unusedVariables false
set_option linter.unusedSimpArgs false

end Go.Proofs.Ytkbpecbpfajkfaa

namespace Go.Proofs.Ytkbpecbpfajkfaa
open Go.ChangeShapes Go.WideShapes Go.ChangeAt Go.RowKit
set_option linter.unusedVariables false
set_option linter.unusedSimpArgs false

/-! What may be there when the power goes. -/
def May (n : Nat) (G A : List UInt8) (W : List Drt) : Prop := ∀ b, b < n → blk G b = blk A b ∨ ∃ d ∈ W, d.1 = (b : Int) ∧ d.2 = blk G b
def Loses (n : Nat) (G : List UInt8) (E : List Drt) (A : List UInt8) (W : List Drt) : Prop :=
  rightB n E = true ∧ Ok E ∧ G.length = n * 64 ∧ A.length = n * 64 ∧ May n G A W ∧ ∀ e ∈ E, e ∈ W
theorem Loses.fit {n : Nat} {G : List UInt8} {E : List Drt} {A : List UInt8} {W : List Drt} (h : Loses n G E A W) : Fit n E := fit_of_right h.1 h.2.1
theorem loses_start {n : Nat} {F : List UInt8} {D : List Drt} (h : rightB n D = true) (ho : Ok D) (hF : F.length = n * 64) : Loses n (app F D) [] (app F D) [] := by
  have hl := app_length n D F hF (fit_of_right h ho)
  exact ⟨right_nil h, (fun d hd => by cases hd), hl, hl, fun b _ => .inl rfl, fun e he => by cases he⟩
theorem Loses.flush {n : Nat} {G : List UInt8} {E : List Drt} {A : List UInt8} {W : List Drt} (h : Loses n G E A W) : Loses n (app G E) [] (app G E) [] := loses_start h.1 h.2.1 h.2.2.1
/-- what is done of the cached writes may be there -/
theorem Loses.may {n : Nat} {G : List UInt8} {E : List Drt} {A : List UInt8} {W : List Drt} (h : Loses n G E A W) (E' : List Drt) (hs : ∀ e ∈ E', e ∈ E) : May n (app G E') A W := by
  intro b hb
  rcases blk_app b E' G h.2.2.1 (h.fit.sub hs) with h1 | ⟨d, hd, h1, h2⟩
  · rw [h1]; exact h.2.2.2.2.1 b hb
  · exact .inr ⟨d, h.2.2.2.2.2 d (hs d hd), h1, h2.symm⟩
theorem May.more {n : Nat} {G A : List UInt8} {W : List Drt} (h : May n G A W) (x : List Drt) : May n G A (W ++ x) := by
  intro b hb
  rcases h b hb with h | ⟨d, hd, h⟩
  · exact .inl h
  · exact .inr ⟨d, by simp [hd], h⟩
theorem Loses.write {n : Nat} {G : List UInt8} {E : List Drt} {A : List UInt8} {W : List Drt} (h : Loses n G E A W) (at_ : Int) (X : List UInt8) (th : Bool) (h0 : 0 ≤ at_) (h1 : at_ < n) (hX : X.length = 64) :
    wrE n E at_ = 0 ∧ wrN n E at_ = n ∧ Loses n (wrF n G E at_ X th) (wrD n E at_ X th) A (W ++ [(at_, X)]) := by
  have hf := h.fit
  have hr := (right_iff n E).1 h.1
  have e : wrE n E at_ = 0 := by simp only [wrE, h.1, if_true]; rw [if_pos ⟨h0, h1⟩]
  have hd : (at_, X).2.length = 64 ∧ 0 ≤ (at_, X).1 ∧ (at_, X).1 < n := ⟨hX, h0, h1⟩
  have hokd : Ok [(at_, X)] := fun d hd' => by
    have : d = (at_, X) := by simpa using hd'
    subst this
    exact ⟨hX, by show _ ≤ at_; omega, by show at_ ≤ _; have := hr.1; omega⟩
  refine ⟨e, by simp [wrN, e], ?_⟩
  cases th with
  | true =>
    have eF : wrF n G E at_ X true = over (app G (E.filter (inR at_ (at_ + 1)))) ((at_, X).1.toNat * 64) (at_, X).2 := by simp [wrF, e]
    have eD : wrD n E at_ X true = E.filter fun d => !inR at_ (at_ + 1) d := by simp [wrD, e]
    have hl := app_length n _ G h.2.2.1 (hf.filter (inR at_ (at_ + 1)))
    rw [eF, eD]
    refine ⟨right_filter h.1 _, h.2.1.filter _, over_len hd hl, h.2.2.2.1, fun b hb => ?_, fun x hx => List.mem_append_left _ (h.2.2.2.2.2 x (List.mem_filter.1 hx).1)⟩
    rw [blk_over hd hl b]
    by_cases hb' : at_ = (b : Int)
    · rw [if_pos hb']; exact .inr ⟨(at_, X), by simp, hb', rfl⟩
    · rw [if_neg hb', blk_app_else b _ G h.2.2.1 (hf.filter _) (fun d hd' he => by
        have := (List.mem_filter.1 hd').2
        simp [inR] at this
        omega)]
      exact h.2.2.2.2.1.more _ b hb
  | false =>
    by_cases h64 : E.length = 64
    · have eF : wrF n G E at_ X false = app G E := by simp [wrF, e, h64, (inR_all hf).1]
      have eD : wrD n E at_ X false = [(at_, X)] := by
        have h2 := (inR_all hf).2
        simp only [wrD, e, if_true, h64, Bool.false_eq_true, if_false]
        rw [h2]; rfl
      rw [eF, eD]
      refine ⟨?_, hokd, app_length n E G h.2.2.1 hf, h.2.2.2.1, (h.may E (fun e he => he)).more _, fun x hx => List.mem_append_right _ hx⟩
      rw [right_iff]
      refine ⟨hr.1, by simp, fun d hd' => ?_⟩
      have : d = (at_, X) := by simpa using hd'
      subst this
      exact ⟨h0, h1⟩
    · have eF : wrF n G E at_ X false = G := by simp [wrF, e, h64]
      have eD : wrD n E at_ X false = E ++ [(at_, X)] := by simp [wrD, e, h64]
      rw [eF, eD]
      refine ⟨?_, h.2.1.append hokd, h.2.2.1, h.2.2.2.1, h.2.2.2.2.1.more _, fun x hx => ?_⟩
      · rw [right_iff]
        refine ⟨hr.1, by simp; omega, fun d hd' => ?_⟩
        rcases List.mem_append.1 hd' with hd' | hd'
        · exact hr.2.2 d hd'
        · have : d = (at_, X) := by simpa using hd'
          subst this
          exact ⟨h0, h1⟩
      · rcases List.mem_append.1 hx with hx | hx
        · exact List.mem_append_left _ (h.2.2.2.2.2 x hx)
        · exact List.mem_append_right _ hx
theorem write_out {n : Nat} {E : List Drt} (h : rightB n E = true) (at_ : Int) (ha : ¬ (0 ≤ at_ ∧ at_ < n)) : wrE n E at_ = 5 := by
  simp only [wrE, h, if_true]; rw [if_neg ha]
theorem Loses.lose {n : Nat} {G : List UInt8} {E : List Drt} {A : List UInt8} {W : List Drt} (h : Loses n G E A W) (mask : Nat) : loseE n E = 0 ∧ loseN n E = n ∧ (loseF n G E mask).length = n * 64 ∧ May n (loseF n G E mask) A W := by
  have e : loseF n G E mask = app G (pickM E mask) := by simp [loseF, h.1]
  refine ⟨by simp [loseE, h.1], by simp [loseN, h.1], ?_, ?_⟩
  · rw [e]; exact app_length n _ G h.2.2.1 (h.fit.sub fun d hd => pickM_mem hd)
  · rw [e]; exact h.may _ fun d hd => pickM_mem hd

/-! Acts that come in. -/
abbrev ActT := Int × UInt8 × Bool × Bool
def av (L : List ActT) : List Value := L.flatMap fun x => [.int .i64 x.1, .int .u8 (x.2.1.toNat : Int), .bool x.2.2.1, .bool x.2.2.2]
def OkA (L : List ActT) : Prop := ∀ x ∈ L, -9223372036854775808 ≤ x.1 ∧ x.1 ≤ 9223372036854775807
theorem av_cons (x : ActT) (L : List ActT) : av (x :: L) = [.int .i64 x.1, .int .u8 (x.2.1.toNat : Int), .bool x.2.2.1, .bool x.2.2.2] ++ av L := by simp [av]
theorem av_length (L : List ActT) : (av L).length = L.length * 4 := by
  induction L with
  | nil => rfl
  | cons x L ih => rw [av_cons, List.length_append, ih]; simp; omega
theorem av_drop : ∀ (L : List ActT) (k : Nat), (av L).drop (k * 4) = av (L.drop k)
  | L, 0 => by simp
  | [], k + 1 => by simp [av]
  | x :: L, k + 1 => by
    rw [av_cons, List.drop_succ_cons, ← av_drop L k, List.drop_append, List.drop_of_length_le (by simp; omega), List.nil_append]
    congr 1; simp; omega
theorem av_at (L : List ActT) (k : Nat) (hk : k < L.length) : (av L)[k * 4]? = some (.int .i64 L[k].1) ∧ (av L)[k * 4 + 1]? = some (.int .u8 (L[k].2.1.toNat : Int)) ∧ (av L)[k * 4 + 2]? = some (.bool L[k].2.2.1) ∧ (av L)[k * 4 + 3]? = some (.bool L[k].2.2.2) := by
  have h : ∀ j, (av L)[k * 4 + j]? = (av (L.drop k))[j]? := fun j => by rw [← av_drop, List.getElem?_drop]
  have h0 := h 0
  rw [Nat.add_zero] at h0
  rw [h0, h 1, h 2, h 3, List.drop_eq_getElem_cons hk, av_cons]
  exact ⟨rfl, rfl, rfl, rfl⟩
section
variable {H : Type} {enc : TypeId × Value → H} {w : World} {r : Reach} {base : Nat} {v : Value} {d : DataW H} {p : List MemPlace}
theorem av_flatten : ∀ css : List (List Value), (∀ cs ∈ css, ∃ A : ActT, (-9223372036854775808 ≤ A.1 ∧ A.1 ≤ 9223372036854775807) ∧ cs = [.int .i64 A.1, .int .u8 (A.2.1.toNat : Int), .bool A.2.2.1, .bool A.2.2.2]) → ∃ L : List ActT, L.length = css.length ∧ OkA L ∧ css.flatten = av L
  | [], _ => ⟨[], rfl, (fun d hd => by cases hd), rfl⟩
  | c :: css, h => by
    obtain ⟨X, hX, rfl⟩ := h c (by simp)
    obtain ⟨D, h1, h2, h3⟩ := av_flatten css (fun cs hcs => h cs (by simp [hcs]))
    refine ⟨X :: D, by simp [h1], fun d hd => ?_, by rw [List.flatten_cons, h3, av_cons]⟩
    rcases List.mem_cons.1 hd with rfl | hd
    · exact hX
    · exact h2 d hd
def RActs (w : World) (v : Value) : Prop := ∃ L : List ActT, OkA L ∧ Rw 4 w v L.length (av L)
end
end Go.Proofs.Ytkbpecbpfajkfaa

namespace Go.Proofs.Ytkbpecbpfajkfaa
open Go.ChangeShapes Go.WideShapes Go.ChangeAt Go.RowKit
set_option linter.unusedVariables false
set_option linter.unusedSimpArgs false

/-- only the variable at g has turned, and it holds no numbers -/
def Kept (w : World) (g : Nat) (w' : World) : Prop :=
  (∀ k, k ≠ g → w'.heap[k]? = w.heap[k]?) ∧ w'.heap.size = w.heap.size ∧ ∀ (sz : Nat) (v : Value) (n : Nat) (xs : List Value), (∀ a m c, Value.slice a m c ∉ xs) → Rw sz w v n xs → Rw sz w' v n xs
theorem kept_set {w : World} {g : Nat} {ty : TypeId} {cs : List Value} (hB : Box w g ty cs) (hs : Slices cs) (hl : cs.length = 2) (u1 u2 : Value) : Kept w g (w.setCells g 0 [u1, u2]) :=
  ⟨(setCells_others g [u1, u2] 0 w).1, (setCells_others g [u1, u2] 0 w).2, fun sz v n xs hx h => h.setTwo hx hB hs hl u1 u2⟩
theorem Kept.med {w w' : World} {g : Nat} (h : Kept w g w') {v : Value} {n : Nat} {F : List UInt8} {D : List Drt} (hM : Med w v n F D) : Med w' v n F D := by
  obtain ⟨vb, vd, rfl, hb, hd, ho⟩ := hM
  exact ⟨vb, vd, rfl, h.2.2 _ _ _ _ (fun _ _ _ => bv_noslice F) hb, h.2.2 _ _ _ _ (fun _ _ _ => dv_noslice D) hd, ho⟩
theorem Kept.blocks {w w' : World} {g : Nat} (h : Kept w g w') {v : Value} {n : Nat} {F : List UInt8} (hb : Rw 64 w v n (bv F)) : Rw 64 w' v n (bv F) := h.2.2 _ _ _ _ (fun _ _ _ => bv_noslice F) hb
theorem Kept.owns {w w' : World} {g : Nat} (h : Kept w g w') {ty : TypeId} {cs : List Value} (hB : Box w g ty cs) {B : Nat} {e : TypeId} {sz : Nat} {v : Value} {n : Nat} {xs : List Value} (ho : w.ownsRow B e sz v n xs) (hne : ty ≠ e) : w'.ownsRow B e sz v n xs :=
  owns_kept ho fun j hj => h.1 j fun e' => box_ne_own hB ho hne j hj e'.symm
/-- 'x = v', x and v media -/
theorem wpList_storeM {w : World} {ops : Array Oper} {rest : List Oper} {op : Oper} {a : Act} {Q : Exit → Act → World → Prop} (hgd : op.guard = none) (x y : Operand) (ho : op.op = .store 25 x y)
    (g : Nat) (hx : a.eval x = .pointer (some ⟨g, 0, none⟩)) (x1 x2 : Option Addr) (n1 c1 n2 c2 : Nat) (hy : a.eval y = .agg #[.slice x1 n1 c1, .slice x2 n2 c2]) (cs : List Value) (hB : Box w g 25 cs) (hs : Slices cs) (hl : cs.length = 2)
    (w0 : World) (hb : Later w0 w) (hg : w0.heap.size ≤ g)
    (h : ∀ w', Box w' g 25 [.slice x1 n1 c1, .slice x2 n2 c2] → Later w0 w' → Kept w g w' → wpList Try.prog ops Q rest (a.put op.dst undef) w') : wpList Try.prog ops Q (op :: rest) a w := by
  refine wpList_store_mid hgd 25 x y ho g 0 #[.slice x1 n1 c1, .slice x2 n2 c2] hx hy (by simpa using hB.there 0 2 (by omega)) (zero_of_info Try.zero_medium).2 (by simp [Value.oneCell']) ?_
  refine h _ ?_ (hb.setCells hg _ 0) (kept_set hB hs hl _ _)
  have := hB.setCells [.slice x1 n1 c1, .slice x2 n2 c2] 0 (by simp; omega)
  rw [List.take_zero, List.nil_append, List.drop_of_length_le (by simp; omega), List.append_nil] at this
  exact this

theorem wpL_storeM {ops : Array Oper} {Q : Exit → Act → World → Prop} {τ : List Nat} {i : Nat} {o : Oper} {a : Act} {w : World} (hoi : ops[i]? = some o) (hgd : o.guard = none) (x y : Operand) (ho : o.op = .store 25 x y)
    (g : Nat) (hx : a.eval x = .pointer (some ⟨g, 0, none⟩)) (x1 x2 : Option Addr) (n1 c1 n2 c2 : Nat) (hy : a.eval y = .agg #[.slice x1 n1 c1, .slice x2 n2 c2]) (cs : List Value) (hB : Box w g 25 cs) (hs : Slices cs) (hl : cs.length = 2)
    (w0 : World) (hb : Later w0 w) (hg : w0.heap.size ≤ g)
    (h : ∀ w', Box w' g 25 [.slice x1 n1 c1, .slice x2 n2 c2] → Later w0 w' → Kept w g w' → wpL Try.prog ops Q τ (a.put o.dst undef) w') : wpL Try.prog ops Q (i :: τ) a w := by
  refine wpL_cons hoi (fun K hK => ?_)
  rw [if_pos (by simp [Region.wanted, hgd])]
  refine wp_store_mid 25 x y ho g 0 #[.slice x1 n1 c1, .slice x2 n2 c2] hx hy (by simpa using hB.there 0 2 (by omega)) (zero_of_info Try.zero_medium).2 (by simp [Value.oneCell']) (hK _ _ ?_)
  refine h _ ?_ (hb.setCells hg _ 0) (kept_set hB hs hl _ _)
  have := hB.setCells [.slice x1 n1 c1, .slice x2 n2 c2] 0 (by simp; omega)
  rw [List.take_zero, List.nil_append, List.drop_of_length_le (by simp; omega), List.append_nil] at this
  exact this
/-- behind a bag: the same -/
theorem wpL_append_rw2 {P : Program} {ops : Array Oper} {Q : Exit → Act → World → Prop} {τ : List Nat} {i : Nat} {o : Oper} {a : Act} {w : World} {T e : TypeId} {sz bytes : Nat} {z : Value} (he : Elem P e sz bytes z) (ht : P.underlying T = some (.slice e)) (hz : z.cells.size = sz) (hsz : 0 < sz)
    (hoi : ops[i]? = some o) (hgd : o.guard = none) (s x : Operand) (ho : o.op = .call { callee := .builtin .append, args := #[s, x], argTypes := #[T, T] }) (B : Nat)
    (v : Value) (n : Nat) (xs : List Value) (hs : a.eval s = v) (hown : w.ownsRow B e sz v n xs) (u : Value) (m : Nat) (ys : List Value) (hx : a.eval x = u) (hu : Rw sz w u m ys) (h1 : ∀ q ∈ ys, q.oneCell' = true)
    (hbytes : (n + m) * bytes ≤ 140737488355328) (hlen : n + m ≤ maxLen) (hbase : B ≤ w.heap.size)
    (h : ∀ v' w', w'.ownsRow B e sz v' (n + m) (xs ++ ys) → w.grownBy w' v.ownBlock → (∀ g, v'.ownBlock = some g → v.ownBlock = some g ∨ w.heap.size ≤ g) → wpL P ops Q τ (a.put o.dst v') w') : wpL P ops Q (i :: τ) a w := by
  refine wpL_cons hoi (fun K hK => ?_)
  rw [if_pos (by simp [Region.wanted, hgd])]
  obtain ⟨v', w', hrun, r1, r2, r3⟩ := run_append_rw2 (P := P) (ty := o.type) he ht hz hsz B v n xs hown u m ys hu h1 hbytes hlen hbase
  unfold Go.Oper.wp
  simp [execOp, ho, resolve, invoke, builtin, hs, hx, hrun, Result.andThen]
  exact hK _ _ (h v' w' r1 r2 r3)
/-- the same, more being told of the value (X) -/
theorem call2_medX {ops : Array Oper} {Q : Exit → Act → World → Prop} {a : Act} {b : World} (c mv e0 e1 al sto asg : Nat) {oc om o0 o1 oa os oe : Oper}
    (hc : ops[c]? = some oc) (hm : ops[mv]? = some om) (h0 : ops[e0]? = some o0) (h1 : ops[e1]? = some o1) (ha : ops[al]? = some oa) (ho : ops[sto]? = some os) (he : ops[asg]? = some oe)
    (gc : oc.guard = none) (gm : om.guard = none) (g0 : o0.guard = none) (g1 : o1.guard = none) (ga : oa.guard = none) (go : os.guard = none) (ge : oe.guard = none)
    (dC dM d0 d1 dA dE : Tmp) (tc : oc.dst = some dC) (tm : om.dst = some dM) (t0 : o0.dst = some d0) (t1 : o1.dst = some d1) (ta : oa.dst = some dA) (to : os.dst = none) (te : oe.dst = some dE)
    (hsz : (decide (dC < a.tmps.size) && decide (dM < a.tmps.size) && decide (d0 < a.tmps.size) && decide (d1 < a.tmps.size) && decide (dA < a.tmps.size) && decide (dE < a.tmps.size)) = true) (hdd : [dC, dM, d0, d1, dA, dE].Nodup)
    (f : FuncId) (hp : Plain Try.prog f) (xs : List Operand) (ts : Array TypeId) (pc : oc.op = .call { callee := .value (.func f), args := xs.toArray, argTypes := ts }) (us : List Value) (hx : xs.map a.eval = us)
    (pm : om.op = .move (.tmp dC)) (p0 : o0.op = .extract (.tmp dM) 0) (p1 : o1.op = .extract (.tmp dM) 1) (pa : oa.op = .alloc 25) (po : os.op = .store 25 (.tmp dA) (.tmp d0)) (pe : oe.op = .assign (.tmp d1))
    (hnd : [c, mv, e0, e1, al, sto, asg].Nodup)
    (D1 : ([c, mv, e0, e1, al, sto, asg].filter fun k => dep .any ops c k) = []) (D2 : ([c, mv, e0, e1, al, sto, asg].filter fun k => dep .any ops mv k) = [c]) (D3 : ([c, mv, e0, e1, al, sto, asg].filter fun k => dep .any ops e0 k) = [c, mv])
    (D4 : ([c, mv, e0, e1, al, sto, asg].filter fun k => dep .any ops e1 k) = [c, mv]) (D5 : ([c, mv, e0, e1, al, sto, asg].filter fun k => dep .any ops al k) = []) (D6 : ([c, mv, e0, e1, al, sto, asg].filter fun k => dep .any ops sto k) = [c, mv, e0, al])
    (D7 : ([c, mv, e0, e1, al, sto, asg].filter fun k => dep .any ops asg k) = [c, mv, e0, e1, al, sto])
    (E : Int) (N : Nat) (F : List UInt8) (D : List Drt) (X : Value → Prop)
    (hcall : ∀ w, Later b w → Calls Try.prog f us.toArray w fun e w' => ∃ v', e = .returned (.tuple #[v', .int .i64 E]) ∧ Later w w' ∧ Med w' v' N F D ∧ X v')
    (hfin : ∀ (x1 : Option Addr) (c1 : Nat) (x2 : Option Addr) (n2 c2 g : Nat) (W : World), Later b W → b.heap.size ≤ g → Hid (n2 = D.length) → Med W (.agg #[.slice x1 N c1, .slice x2 n2 c2]) N F D → X (.agg #[.slice x1 N c1, .slice x2 n2 c2]) → Box W g 25 [.slice x1 N c1, .slice x2 n2 c2] →
      Q .normal ((((((a.put (some dC) (.tuple #[.agg #[.slice x1 N c1, .slice x2 n2 c2], .int .i64 E])).put (some dM) (.tuple #[.agg #[.slice x1 N c1, .slice x2 n2 c2], .int .i64 E])).put (some d0) (.agg #[.slice x1 N c1, .slice x2 n2 c2])).put (some d1) (.int .i64 E)).put (some dA) (.pointer (some ⟨g, 0, none⟩))).put (some dE) (.int .i64 E)) W) :
    ∃ L R', Bag2 Try.prog ops Q [sto] [c, mv, e0, e1, al, sto, asg] a b L R' := by
  refine call2_bag c mv e0 e1 al sto asg hc hm h0 h1 ha ho he gc gm g0 g1 ga go ge dC dM d0 d1 dA dE tc tm t0 t1 ta to te hsz hdd f hp xs ts pc us hx pm p0 p1 25 pa po pe #[.slice none 0 0, .slice none 0 0] 2 Try.zero_medium rfl hnd D1 D2 D3 D4 D5 D6 D7
    Slices (fun cells ev W => ev = .int .i64 E ∧ (∃ x1 c1 x2 c2, cells = [.slice x1 N c1, .slice x2 D.length c2]) ∧ Med W (.agg cells.toArray) N F D ∧ X (.agg cells.toArray)) ?_ ?_ ?_ ?_ ?_ ?_
  · intro v hv
    simp at hv
    subst hv
    exact ⟨none, 0, 0, rfl⟩
  · rintro cells ev W ⟨_, ⟨x1, c1, x2, c2, rfl⟩, _⟩
    refine ⟨?_, rfl, ?_⟩
    · intro v hv
      simp at hv
      rcases hv with rfl | rfl
      · exact ⟨_, _, _, rfl⟩
      · exact ⟨_, _, _, rfl⟩
    · intro v hv
      simp at hv
      rcases hv with rfl | rfl <;> rfl
  · rintro cells ev W W' hl ⟨h1, h2, h3⟩
    exact ⟨h1, h2, h3.1.later hl, h3.2⟩
  · rintro cells ev W g cs ⟨h1, ⟨x1, c1, x2, c2, rfl⟩, h3⟩ _ hs hlen hB
    exact ⟨h1, ⟨x1, c1, x2, c2, rfl⟩, h3.1.setTwo hB hs hlen _ _, h3.2⟩
  · intro w hw
    refine (hcall w hw).mono ?_
    rintro e w' ⟨v', rfl, hl, hM, hX⟩
    obtain ⟨x1, c1, x2, k, c2, rfl, hk, _⟩ := hM.shape
    obtain rfl : k = D.length := hk.out
    exact ⟨[.slice x1 N c1, .slice x2 D.length c2], .int .i64 E, rfl, hl, rfl, ⟨x1, c1, x2, c2, rfl⟩, hM, hX⟩
  · rintro cells ev g W hW hg ⟨rfl, ⟨x1, c1, x2, c2, rfl⟩, h3⟩ hB
    exact hfin x1 c1 x2 D.length c2 g W hW hg rfl h3.1 h3.2 hB
/-- what the landed Write does besides: its answer lies in new memory -/
def IWriteX : Prop := ∀ (v : Value) (n : Nat) (F : List UInt8) (D : List Drt) (at_ : Int) (X : List UInt8) (th : Bool) (w : World), Med w v n F D → X.length = 64 → -9223372036854775808 ≤ at_ → at_ ≤ 9223372036854775807 →
  Calls Try.prog 58 #[v, .int .i64 at_, .agg (bv X).toArray, .bool th] w fun e w' => ∃ v', e = .returned (.tuple #[v', .int .i64 (wrE n D at_)]) ∧ Later w w' ∧ Med w' v' (wrN n D at_) (wrF n F D at_ X th) (wrD n D at_ X th) ∧ ∀ g, g < w.heap.size → OffM g v'
theorem Med.off {w w' : World} {vb vd : Value} {n : Nat} {F : List UInt8} {D : List Drt} {g : Nat} (h : Med w (.agg #[vb, vd]) n F D) (hx : OffM g (.agg #[vb, vd])) (hg : w.grownBy w' (some g)) : Med w' (.agg #[vb, vd]) n F D := by
  obtain ⟨b, d, e, h1, h2, h3⟩ := h
  obtain ⟨b', d', e', o1, o2⟩ := hx
  simp at e e'
  obtain ⟨rfl, rfl⟩ := e
  obtain ⟨rfl, rfl⟩ := e'
  exact ⟨vb, vd, rfl, h1.off o1 hg, h2.off o2 hg, h3⟩
theorem Med.old {w : World} {vb vd : Value} {n : Nat} {F : List UInt8} {D : List Drt} (h : Med w (.agg #[vb, vd]) n F D) {g : Nat} (hg : w.heap.size ≤ g) : OffM g (.agg #[vb, vd]) := by
  obtain ⟨b, d, e, h1, h2, h3⟩ := h
  simp at e
  obtain ⟨rfl, rfl⟩ := e
  exact ⟨vb, vd, rfl, h1.old (by decide) hg, h2.old (by decide) hg⟩
theorem keepMed {w w' : World} {v vb vd : Value} {n : Nat} {F : List UInt8} {D : List Drt} (hg : w.grownBy w' v.ownBlock) (hx : ∀ g, v.ownBlock = some g → OffM g (.agg #[vb, vd])) (h : Med w (.agg #[vb, vd]) n F D) : Med w' (.agg #[vb, vd]) n F D := by
  cases hv : v.ownBlock with
  | none => rw [hv] at hg; exact h.later (Below.grown0 hg)
  | some g => rw [hv] at hg; exact h.off (hx g hv) hg
end Go.Proofs.Ytkbpecbpfajkfaa

namespace Go.Proofs.Ytkbpecbpfajkfaa
open Go.ChangeShapes Go.WideShapes Go.ChangeAt Go.RowKit
set_option linter.unusedVariables false
set_option linter.unusedSimpArgs false

/-! The landed cache: All and Lose. -/
theorem bit_of (m q : Nat) (hm : m ≤ 18446744073709551615) : bits .and .u64 ((m : Int) / 2 ^ q) 1 = ((m / 2 ^ q % 2 : Nat) : Int) := by
  have h1 : ((m : Int) / 2 ^ q) = ((m / 2 ^ q : Nat) : Int) := by simp
  have h2 : m / 2 ^ q ≤ m := Nat.div_le_self _ _
  have h3 := u64_and_nat (m / 2 ^ q) 1 (by omega) (by omega)
  rw [Nat.and_one_is_mod] at h3
  rw [h1]
  exact h3
theorem field_blocks (w : World) (a3 a6 : Option Addr) (n c3 m c6 : Nat) : Sem.run Try.prog (Instr.field 25 (.agg #[.slice a3 n c3, .slice a6 m c6]) 0) w = .ok (.slice a3 n c3) w := by
  simp [Instr.field, part, asAgg]
theorem right_parts {n : Nat} {D : List Drt} (h : rightB n D = true) : n ≤ 64 ∧ D.length ≤ 64 := by
  simp only [rightB, decide_eq_true_eq] at h
  exact ⟨h.1, h.2.1⟩

set_option maxHeartbeats 1000000 in
theorem call3_c : IAll := by
  intro v n F D w h
  have HM := hide h
  obtain ⟨vb, vd, rfl, hb, hd, hok⟩ := h
  obtain ⟨ab, cb, rfl⟩ := hb.shape
  obtain ⟨k, hk⟩ : ∃ k, k = D.length := ⟨_, rfl⟩
  rw [← hk] at hd
  obtain ⟨aD, cD, rfl⟩ := hd.shape
  have HO := hide hok
  clear hb hd hk hok
  go_enter Try.func51, Try.ntmps51
  go_wp2_with fail
  refine (cright_c _ (HM.out.later ((Later.refl w).alloc _))).mono ?_
  rintro e w2 ⟨rfl, hl2⟩
  have L2 : Hid (Later w w2) := Later.trans ((Later.refl w).alloc _) hl2
  have BX : Hid (Box w2 w.heap.size 25 [.slice ab n cb, .slice aD k cD]) := Box.later (Box.new w 25 #[.slice ab n cb, .slice aD k cD]) hl2
  clear hl2
  have d0 := BX.out.cell 0
  have d1 := BX.out.cell 1
  by_cases hR : rightB n D = true
  case neg =>
    have hR' : rightB n D = false := by simpa using hR
    rw [hR']
    go_wp2
    go_ret
    refine ⟨_, rfl, L2.out, ?_⟩
    simp only [allN, allF, hR']
    exact Rw.nil _ _
  rw [hR]
  have HR := hide hR
  have hp := right_parts hR
  have HFit := hide (fit_of_right hR HO.out)
  clear hR
  go_wp2_with fail
  refine (cflush_i 0 (n : Int) w2 (HM.out.later L2.out) hp.1 hp.2 HFit.out).mono ?_
  rintro e w3 ⟨vb, vd, rfl, hl3, h1, h2⟩
  have L3 := hide (L2.out.trans hl3)
  rw [(inR_all HFit.out).1] at h1
  rw [(inR_all HFit.out).2] at h2
  obtain ⟨a3, c3, rfl⟩ := (Rw.of_owns h1).shape
  obtain ⟨a6, c6, rfl⟩ := (Rw.of_owns h2).shape
  have O1 := hide h1
  clear h1 h2 hl3 d0 d1
  have hfd := field_blocks w3 a3 a6 n c3 0 c6
  go_wp2
  go_ret
  refine ⟨_, rfl, L3.out, ?_⟩
  simp only [allN, allF, HR.out, if_true]
  exact Rw.of_owns O1.out

set_option maxRecDepth 20000 in
set_option maxHeartbeats 1000000 in
theorem close3_c : ILose := by
  intro v n F D mask w h hmk
  have HM := hide h
  obtain ⟨vb, vd, rfl, hb, hd, hok⟩ := h
  obtain ⟨ab, cb, rfl⟩ := hb.shape
  obtain ⟨k, hk⟩ : ∃ k, k = D.length := ⟨_, rfl⟩
  rw [← hk] at hd
  obtain ⟨aD, cD, rfl⟩ := hd.shape
  have hnm := hb.2.1
  have hkm := hd.2.1
  unfold maxLen at hnm hkm
  have HB := hide hb
  have HD := hide hd
  have HO := hide hok
  have HK := hide hk
  clear hb hd hk hok
  go_enter Try.func47, Try.ntmps47
  go_wp2_with fail
  refine (cright_c _ (HM.out.later (((Later.refl w).alloc _).alloc _))).mono ?_
  rintro e w2 ⟨rfl, hl2⟩
  have L2 : Hid (Later w w2) := Later.trans (((Later.refl w).alloc _).alloc _) hl2
  have BX : Hid (Box w2 w.heap.size 25 [.slice ab n cb, .slice aD k cD]) := Box.later ((Box.new w 25 #[.slice ab n cb, .slice aD k cD]).alloc _) hl2
  have BR : Hid (Box w2 (w.heap.size + 1) 25 [.slice none 0 0, .slice none 0 0]) := Box.later (Box.new' _ _ _ _ rfl _ (by simp)) hl2
  clear hl2
  have d0 := BX.out.cell 0
  have d1 := BX.out.cell 1
  have r0 := BR.out.cell 0
  have r1 := BR.out.cell 1
  have f0 := BR.out.frozen 0
  have f1 := BR.out.frozen 1
  by_cases hR : rightB n D = true
  case neg =>
    have hR' : rightB n D = false := by simpa using hR
    have BZ : Hid (Box ((w2.setCell ⟨w.heap.size + 1, 0, none⟩ (.slice none 0 0)).setCell ⟨w.heap.size + 1, 1, none⟩ (.slice none 0 0)) (w.heap.size + 1) 25 [.slice none 0 0, .slice none 0 0]) := (BR.out.set 0 _).set 1 _
    have LZ : Hid (Later w ((w2.setCell ⟨w.heap.size + 1, 0, none⟩ (.slice none 0 0)).setCell ⟨w.heap.size + 1, 1, none⟩ (.slice none 0 0))) := (L2.out.setCell (by simp) _).setCell (by simp) _
    rw [hR']
    go_wp2
    refine bodyPost_ret (results_cell_tmp rfl _ _ _ (w.heap.size + 1) 0 rfl (.agg #[.slice none 0 0, .slice none 0 0]) (.int .i64 1) (run_loadVar_mid _ _ _ _ [.slice none 0 0, .slice none 0 0] _ BZ.out.range Try.underlying25 rfl (by kernel_rfl)) rfl) rfl ⟨.agg #[.slice none 0 0, .slice none 0 0], ?_, LZ.out, ?_⟩
    · simp [loseE, hR']
    · simpa [loseN, loseF, hR'] using Med.nil _
  rw [hR]
  have hn64 : n ≤ 64 := (right_parts hR).1
  have hk64 : k ≤ 64 := by have := (right_parts hR).2; have := HK.out; omega
  have HFit := hide (fit_of_right hR HO.out)
  have HR := hide hR
  clear hR
  go_wp2_with fail
  refine (clasting_c _ (HM.out.later L2.out) hn64).mono ?_
  rintro e w3 ⟨v3, rfl, hl3, ho3⟩
  have L3 := hide (L2.out.trans hl3)
  have BX3 := hide (Box.later BX.out hl3)
  have BR3 := hide (Box.later BR.out hl3)
  have O3 : Hid (w3.ownsRow w.heap.size 50 64 v3 n (bv F)) := ho3.mono L2.out.size
  clear hl3 ho3 d0 d1 r0 r1 f0 f1 BX BR L2
  obtain ⟨a3, c3, rfl⟩ := (Rw.of_owns O3.out).shape
  have e1 := (BX3.out.alloc (.cells #[.slice a3 n c3, .slice none 0 0] 25)).cell 1
  go_wp2_with fail
  clear e1
  have BX1 := hide (BX3.out.alloc (.cells #[.slice a3 n c3, .slice none 0 0] 25))
  have BR1 := hide (BR3.out.alloc (.cells #[.slice a3 n c3, .slice none 0 0] 25))
  have BO1 := hide (Box.new w3 25 #[.slice a3 n c3, .slice none 0 0])
  have O1 := hide (O3.out.alloc (.cells #[.slice a3 n c3, .slice none 0 0] 25))
  have L1 := hide (L3.out.alloc (.cells #[.slice a3 n c3, .slice none 0 0] 25))
  have hG2 : w.heap.size + 1 < w3.heap.size := BR3.out.lt
  clear BX3 BR3 O3 L3
  generalize (w3.alloc (.cells #[.slice a3 n c3, .slice none 0 0] 25)) = w4 at *
  generalize w3.heap.size = G2 at *
  go_loopw [18] (fun i wr => ∃ (q : Nat), q ≤ k ∧ i = .int .i64 q ∧ Hid (Later w wr) ∧ Hid (Box wr w.heap.size 25 [.slice ab n cb, .slice aD k cD]) ∧ Hid (Box wr (w.heap.size + 1) 25 [.slice none 0 0, .slice none 0 0]) ∧ Hid (Box wr G2 25 [.slice a3 n c3, .slice none 0 0]) ∧
      Hid (wr.ownsRow w.heap.size 50 64 (.slice a3 n c3) n (bv (app F (pickM (D.take q) mask))))) (fun i _ => k - (intOf i).toNat)
  case atStart => exact ⟨0, Nat.zero_le _, rfl, L1, BX1, BR1, BO1, by simpa [app, pickM] using O1⟩
  case round =>
    clear BX1 BR1 BO1 O1 L1
    obtain ⟨q, hq, rfl, hl, hbx, hbr, hbo, hob⟩ := hrel
    by_cases hlt : q < k
    · have hqD : q < D.length := by have := HK.out; omega
      have hdq := HFit.out D[q] (List.getElem_mem hqD)
      obtain ⟨z, hz⟩ := Int.eq_ofNat_of_zero_le hdq.2.1
      have hzn : z < n := by have := hdq.2.2; omega
      obtain ⟨bD, oD, e, hr⟩ := (HD.out.later hl.out).lies? (by omega)
      subst e
      have hra := range_part hr (q * 65) 65
      rw [dv_part D q hqD HO.out] at hra
      have hXl := hide hdq.1
      have hstep : Hid (pickM (D.take (q + 1)) mask = pickM (D.take q) mask ++ (if mask / 2 ^ q % 2 = 1 then [((z : Int), D[q].2)] else [])) := by
        unfold Hid
        rw [List.take_succ_eq_append_getElem hqD, pickM_snoc, List.length_take, Nat.min_eq_left (by omega), ← hz]
      rw [hz] at hra
      have hra' := hide hra
      generalize D[q].2 = X at *
      clear hra hr hdq hz
      have hcl : Hid ((Value.int .i64 (z : Int) :: bv X).length = 65) := by simp [Hid, bv_length, hXl.out]
      have hbox := hide (Box.new' wr 80 (#[.int .i64 0] ++ Array.replicate 64 (.int .u8 0)) _ rfl wr.heap.size rfl)
      have hbl1 := hide (hl.out.alloc (.cells (#[.int .i64 0] ++ Array.replicate 64 (.int .u8 0)) 80))
      have hszr := hl.out.size
      go_wp2_with (first
        | refine wpList_load_mid rfl 80 (.tmp 21) rfl bD (oD + q * 65) rfl (Value.int .i64 (z : Int) :: bv X) _ hra'.out Try.underlying80 rfl (by rw [Try.info_dirty, hcl.out]) ?_
        | refine wpList_store_new rfl 80 (.tmp 8) (.tmp 22) rfl wr.heap.size (Value.int .i64 (z : Int) :: bv X) rfl rfl _ hbox.out (by rw [hcl.out]; rfl) (by rw [hcl.out, Try.info_dirty]) (fun u hu => by rcases List.mem_cons.1 hu with rfl | h; rfl; exact bv_one X u h) w hbl1.out hszr ?_)
      intro w5 hb5 hl5 hk5 hs5
      have hkeep : ∀ j, j < wr.heap.size → w5.heap[j]? = wr.heap[j]? := fun j hj => by rw [hk5 j (by omega)]; exact Below.heap_alloc wr _ j hj
      have X5 : Hid (Box w5 w.heap.size 25 [.slice ab n cb, .slice (some ⟨bD, oD, none⟩) k cD]) := hbx.out.kept (hkeep _ hbx.out.lt)
      have R5 : Hid (Box w5 (w.heap.size + 1) 25 [.slice none 0 0, .slice none 0 0]) := hbr.out.kept (hkeep _ hbr.out.lt)
      have U5 : Hid (Box w5 G2 25 [.slice a3 n c3, .slice none 0 0]) := hbo.out.kept (hkeep _ hbo.out.lt)
      have B5 := hide (owns_kept hob.out fun g hg => hkeep g (hob.out.lt g hg).2)
      have E5 := hide hb5
      have L5 := hide hl5
      have e0 := hb5.cell 0
      have u0 := U5.out.cell 0
      clear hkeep hk5 hs5 hb5 hl5 hbx hbr hbo hob hl hbox hbl1 hszr hra'
      generalize wr.heap.size = G at *
      have hbit := bit_of mask q hmk
      by_cases hodd : mask / 2 ^ q % 2 = 1
      · have hb1 : (bits BinOp.and IntKind.u64 ((mask : Int) / 2 ^ q) 1 == 1) = true := by rw [hbit, hodd]; rfl
        clear hbit
        obtain ⟨g, cg, e, hg⟩ := owns_head B5.out (by omega)
        simp only [Value.slice.injEq, true_and] at e
        obtain ⟨rfl, rfl⟩ := e
        have hrX := hide (range_tail E5.out.range)
        have hth : Hid (w5.there g (z * 64) (bv X).toArray.size) := by
          have := owns_there B5.out (z * 64) 64 (by omega)
          unfold Hid
          simpa [bv_length, hXl.out] using this
        have hnew := (owns_setCells B5.out (bv X) (z * 64) (by rw [bv_length, hXl.out]; omega)).1
        rw [← bv_over] at hnew
        have ho1 : ∀ b t xs, t ≠ 50 → Box w5 b t xs → Box (w5.setCells g (z * 64) (bv X)) b t xs := fun b t xs hne hB => by
          unfold Box
          rw [heap_setCells_other w5 g b (box_ne_own hB B5.out hne g rfl)]
          exact hB
        have N1 : Hid ((w5.setCells g (z * 64) (bv X)).ownsRow w.heap.size 50 64 (.slice (some ⟨g, 0, none⟩) n c3) n (bv (app F (pickM (D.take (q + 1)) mask)))) := by
          unfold Hid
          rw [hstep.out, if_pos hodd, app_snoc]
          exact hnew
        have N3 := hide (ho1 _ _ _ (by decide) X5.out)
        have N4 := hide (ho1 _ _ _ (by decide) R5.out)
        have N5 := hide (ho1 _ _ _ (by decide) U5.out)
        have N6 := hide (L5.out.setCells hg (bv X) (z * 64))
        clear ho1 hnew X5 R5 U5 L5 hstep hodd
        go_wp2_with (first
          | refine wpList_load_mid rfl 50 (.tmp 32) rfl G 1 rfl (bv X) _ hrX.out Try.underlying50 rfl (by rw [Try.info_block, bv_length, hXl.out]) ?_
          | refine wpList_store_mid rfl 50 (.tmp 34) (.tmp 33) rfl g (z * 64) (bv X).toArray rfl rfl hth.out (by rw [Try.info_block]; simp [bv_length, hXl.out]) (all_oneCell_toArray (bv_one _)) ?_)
        go_roundw
        case rel => exact ⟨q + 1, by omega, by go_num, N6, N3, N4, N5, N1⟩
        case measure => simp [intOf]; omega
      · have hb1 : (bits BinOp.and IntKind.u64 ((mask : Int) / 2 ^ q) 1 == 1) = false := by rw [hbit, beq_eq_false_iff_ne]; omega
        have N1 : Hid (w5.ownsRow w.heap.size 50 64 (.slice a3 n c3) n (bv (app F (pickM (D.take (q + 1)) mask)))) := by
          unfold Hid
          rw [hstep.out, if_neg hodd, List.append_nil]
          exact B5.out
        clear hbit hstep hodd B5
        go_wp2
        go_roundw
        case rel => exact ⟨q + 1, by omega, by go_num, L5, X5, R5, U5, N1⟩
        case measure => simp [intOf]; omega
    · have hkq : q = k := by omega
      have B1 : Hid (wr.ownsRow w.heap.size 50 64 (.slice a3 n c3) n (bv (app F (pickM D mask)))) := by have := hob.out; rw [hkq, HK.out, List.take_length] at this; exact this
      have o0 := hbo.out.cell 0
      have o1 := hbo.out.cell 1
      have r0 := hbr.out.cell 0
      have r1 := hbr.out.cell 1
      have f0 := hbr.out.frozen 0
      have f1 := hbr.out.frozen 1
      have hw1 : Hid (Box ((wr.setCell ⟨w.heap.size + 1, 0, none⟩ (.slice a3 n c3)).setCell ⟨w.heap.size + 1, 1, none⟩ (.slice none 0 0)) (w.heap.size + 1) 25 [.slice a3 n c3, .slice none 0 0]) := (hbr.out.set 0 _).set 1 _
      have hne : ∀ g, g ≠ w.heap.size + 1 → ((wr.setCell ⟨w.heap.size + 1, 0, none⟩ (.slice a3 n c3)).setCell ⟨w.heap.size + 1, 1, none⟩ (.slice none 0 0)).heap[g]? = wr.heap[g]? := fun g hg => by
        rw [heap_setCell_other _ _ _ _ (by simpa using hg), heap_setCell_other _ _ _ _ (by simpa using hg)]
      have N1 := hide (owns_kept B1.out fun g hg => hne g (fun e => box_ne_own hbr.out B1.out (by decide) g hg e.symm))
      have N6 : Hid (Later w ((wr.setCell ⟨w.heap.size + 1, 0, none⟩ (.slice a3 n c3)).setCell ⟨w.heap.size + 1, 1, none⟩ (.slice none 0 0))) := (hl.out.setCell (by simp) _).setCell (by simp) _
      clear hne hob hbx hbr hl B1
      go_wp2
      refine bodyPost_ret (results_cell_tmp rfl _ _ _ (w.heap.size + 1) 0 rfl (.agg #[.slice a3 n c3, .slice none 0 0]) (.int .i64 0) (run_loadVar_mid _ _ _ _ [.slice a3 n c3, .slice none 0 0] _ hw1.out.range Try.underlying25 rfl (by kernel_rfl)) rfl) rfl ⟨.agg #[.slice a3 n c3, .slice none 0 0], by simp [loseE, HR.out], N6.out, _, _, rfl, ?_, Rw.nil 65 _, fun d hd => by cases hd⟩
      simp only [loseN, loseF, HR.out, if_true]
      exact Rw.of_owns N1.out
end Go.Proofs.Ytkbpecbpfajkfaa
