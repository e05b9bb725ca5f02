import Derived.Test.YtoflkbilkkfekaaMAI
import Derived.Test.YtoflkbilkkfekaaMAE
import Derived.Test.YtoflkbilkkfekaaMAG
import Derived.Test.YtoflkbilkkfekaaMAH
namespace Go.Proofs.Ytoflkbilkkfekaa
open Go.ChangeShapes Go.WideShapes Go.ChangeAt Go.RowKit
set_option linter.unusedVariables false
set_option linter.unusedSimpArgs false

def wrE (n : Nat) (D : List Drt) (at_ : Int) : Int := if rightB n D then (if 0 ≤ at_ ∧ at_ < n then 0 else 5) else 1
def wrF (n : Nat) (F : List UInt8) (D : List Drt) (at_ : Int) (X : List UInt8) (th : Bool) : List UInt8 :=
  if wrE n D at_ = 0 then (if th then over (app F (D.filter (inR at_ (at_ + 1)))) (at_.toNat * 64) X else if D.length = 64 then app F (D.filter (inR 0 n)) else F) else []
def wrD (n : Nat) (D : List Drt) (at_ : Int) (X : List UInt8) (th : Bool) : List Drt :=
  if wrE n D at_ = 0 then (if th then D.filter (fun d => !inR at_ (at_ + 1) d) else (if D.length = 64 then D.filter (fun d => !inR 0 n d) else D) ++ [(at_, X)]) else []
def wrN (n : Nat) (D : List Drt) (at_ : Int) : Nat := if wrE n D at_ = 0 then n else 0

end Go.Proofs.Ytoflkbilkkfekaa

namespace Go.Proofs.Ytoflkbilkkfekaa
open Go.ChangeShapes Go.WideShapes Go.ChangeAt Go.RowKit
set_option linter.unusedVariables false
set_option linter.unusedSimpArgs false

end Go.Proofs.Ytoflkbilkkfekaa

namespace Go.Proofs.Ytoflkbilkkfekaa
open Go.ChangeShapes Go.WideShapes Go.ChangeAt Go.RowKit
set_option linter.unusedVariables false
set_option linter.unusedSimpArgs false

/-! What the landed cache does, said; proved in P3. -/
theorem Med.shape {w : World} {v : Value} {n : Nat} {F : List UInt8} {D : List Drt} (h : Med w v n F D) : ∃ a c a' k c', v = .agg #[.slice a n c, .slice a' k c'] ∧ Hid (k = D.length) ∧ n ≤ 9223372036854775807 ∧ k ≤ 9223372036854775807 := by
  obtain ⟨vb, vd, rfl, hb, hd, _⟩ := h
  obtain ⟨a, c, rfl⟩ := hb.shape
  obtain ⟨a', c', rfl⟩ := hd.shape
  have h1 := hb.2.1
  have h2 := hd.2.1
  unfold maxLen at h1 h2
  exact ⟨a, c, a', D.length, c', rfl, rfl, by omega, by omega⟩
theorem showL_length (n : Nat) (F : List UInt8) (D : List Drt) (at_ : Int) (hF : F.length = n * 64) (ho : Ok D) : (showL n F D at_).length = 64 := by
  unfold showL
  split
  · rename_i h
    rw [seg_length]
    rw [app_length n D F hF (fit_of_right h.1 ho)]
    omega
  · simp
theorem Med.flat {w : World} {v : Value} {n : Nat} {F : List UInt8} {D : List Drt} (h : Med w v n F D) : F.length = n * 64 ∧ Ok D := by
  obtain ⟨vb, vd, rfl, hb, hd, ho⟩ := h
  have := hb.1
  rw [bv_length] at this
  exact ⟨this, ho⟩
end Go.Proofs.Ytoflkbilkkfekaa

namespace Go.Proofs.Ytoflkbilkkfekaa
open Go.ChangeShapes Go.WideShapes Go.ChangeAt Go.RowKit
set_option linter.unusedVariables false
set_option linter.unusedSimpArgs false

/-! Slots. Variables that hold no numbers lie apart from rows of numbers. -/
def NoInts (cs : List Value) : Prop := ∀ c ∈ cs, ∀ k z, c ≠ .int k z
def Ints (xs : List Value) : Prop := ∀ x ∈ xs, ∃ k z, x = .int k z
theorem bv_ints (l : List UInt8) : Ints (bv l) := fun x hx => by
  obtain ⟨b, _, rfl⟩ := List.mem_map.1 hx
  exact ⟨_, _, rfl⟩
theorem dv_ints (D : List Drt) : Ints (dv D) := fun x hx => by
  simp only [dv, List.mem_flatMap] at hx
  obtain ⟨d, _, hd⟩ := hx
  rcases List.mem_cons.1 hd with e | h
  · exact ⟨_, _, e⟩
  · exact bv_ints _ x h
theorem Rw.setBox {sz : Nat} {w : World} {v : Value} {n : Nat} {xs : List Value} {g : Nat} {ty : TypeId} {cs : List Value} (h : Rw sz w v n xs) (hx : Ints xs) (hB : Box w g ty cs) (hc : NoInts cs) (vs : List Value) (o : Nat) : Rw sz (w.setCells g o vs) v n xs := by
  obtain ⟨h1, h2, a, cap, rfl, hcap, h3⟩ := h
  refine ⟨h1, h2, a, cap, rfl, hcap, ?_⟩
  rcases h3 with h3 | ⟨b, off, rfl, hr⟩
  · exact .inl h3
  · refine .inr ⟨b, off, rfl, fun j u hu => ?_⟩
    have h4 := hr j u hu
    have hne : b ≠ g := fun e => by
      subst e
      rw [hB.cell] at h4
      obtain ⟨k, z, e⟩ := hx u (List.mem_of_getElem? hu)
      exact hc u (List.mem_of_getElem? h4) k z e
    rw [← h4]
    simp only [World.cell?, heap_setCells_other w g b hne]
theorem Med.setBox {w : World} {v : Value} {n : Nat} {F : List UInt8} {D : List Drt} {g : Nat} {ty : TypeId} {cs : List Value} (h : Med w v n F D) (hB : Box w g ty cs) (hc : NoInts cs) (vs : List Value) (o : Nat) : Med (w.setCells g o vs) v n F D := by
  obtain ⟨vb, vd, rfl, hb, hd, ho⟩ := h
  exact ⟨vb, vd, rfl, hb.setBox (bv_ints F) hB hc vs o, hd.setBox (dv_ints D) hB hc vs o, ho⟩

/-- a slot's cells -/
abbrev tc (vb vd : Value) (p r l : Bool) : List Value := [vb, vd, .bool p, .bool r, .bool l]
def Slt (w : World) (v : Value) (n : Nat) (F : List UInt8) (D : List Drt) (p r l : Bool) : Prop :=
  ∃ ab cb aD k cD, v = .agg #[.slice ab n cb, .slice aD k cD, .bool p, .bool r, .bool l] ∧ Med w (.agg #[.slice ab n cb, .slice aD k cD]) n F D
def OffT (g : Nat) (v : Value) : Prop := ∃ a b p r l, v = .agg #[a, b, .bool p, .bool r, .bool l] ∧ OffS g a ∧ OffS g b
/-- what comes out lies in what came in, or in new memory -/
def NewT (w : World) (v v' : Value) : Prop := ∀ g, g < w.heap.size → OffT g v → OffT g v'
theorem tc_noints (a b : Option Addr) (n m c d : Nat) (p r l : Bool) : NoInts (tc (.slice a n c) (.slice b m d) p r l) := by
  intro x hx k z
  simp at hx
  rcases hx with rfl | rfl | rfl | rfl | rfl <;> simp
theorem tc_one (a b : Option Addr) (n m c d : Nat) (p r l : Bool) : ∀ u ∈ tc (.slice a n c) (.slice b m d) p r l, u.oneCell' = true := by
  intro x hx
  simp at hx
  rcases hx with rfl | rfl | rfl | rfl | rfl <;> rfl
theorem Slt.later {w w' : World} {v : Value} {n : Nat} {F : List UInt8} {D : List Drt} {p r l : Bool} (h : Slt w v n F D p r l) (hl : Later w w') : Slt w' v n F D p r l := by
  obtain ⟨ab, cb, aD, k, cD, rfl, hm⟩ := h
  exact ⟨ab, cb, aD, k, cD, rfl, hm.later hl⟩
theorem Slt.old {w : World} {v : Value} {n : Nat} {F : List UInt8} {D : List Drt} {p r l : Bool} (h : Slt w v n F D p r l) {g : Nat} (hg : w.heap.size ≤ g) : OffT g v := by
  obtain ⟨ab, cb, aD, k, cD, rfl, hm⟩ := h
  obtain ⟨vb, vd, e, h1, h2, _⟩ := hm
  simp at e
  obtain ⟨rfl, rfl⟩ := e
  exact ⟨_, _, _, _, _, rfl, h1.old (by decide) hg, h2.old (by decide) hg⟩
theorem Slt.mk' {w : World} {a b : Option Addr} {n m c d n' : Nat} {F : List UInt8} {D : List Drt} (p r l : Bool) (hm : Med w (.agg #[.slice a n c, .slice b m d]) n' F D) : Slt w (.agg #[.slice a n c, .slice b m d, .bool p, .bool r, .bool l]) n' F D p r l := by
  obtain ⟨vb, vd, e, h1, h2, h3⟩ := hm
  simp at e
  obtain ⟨rfl, rfl⟩ := e
  have : n = n' := by
    obtain ⟨a', c', e'⟩ := h1.shape
    simp at e'
    exact e'.2.1
  subst this
  exact ⟨a, c, b, m, d, rfl, _, _, rfl, h1, h2, h3⟩
theorem Rw.setOff {sz : Nat} {w : World} {v : Value} {n : Nat} {xs : List Value} {g : Nat} (h : Rw sz w v n xs) (hx : OffS g v) (vs : List Value) (o : Nat) : Rw sz (w.setCells g o vs) v n xs := by
  obtain ⟨h1, h2, a, cap, rfl, hcap, h3⟩ := h
  refine ⟨h1, h2, a, cap, rfl, hcap, ?_⟩
  rcases h3 with h3 | ⟨b, off, rfl, hr⟩
  · exact .inl h3
  · rcases hx with hx | hx
    · exact .inl hx
    · refine .inr ⟨b, off, rfl, fun j u hu => ?_⟩
      rw [← hr j u hu]
      simp only [World.cell?, heap_setCells_other w g b (fun e => hx e)]
theorem Slt.setOff {w : World} {v : Value} {n : Nat} {F : List UInt8} {D : List Drt} {p r l : Bool} {g : Nat} (h : Slt w v n F D p r l) (hx : OffT g v) (vs : List Value) (o : Nat) : Slt (w.setCells g o vs) v n F D p r l := by
  obtain ⟨ab, cb, aD, k, cD, rfl, hm⟩ := h
  obtain ⟨a, b, p', r', l', e, o1, o2⟩ := hx
  simp at e
  obtain ⟨rfl, rfl, _⟩ := e
  obtain ⟨vb, vd, e, h1, h2, h3⟩ := hm
  simp at e
  obtain ⟨rfl, rfl⟩ := e
  exact ⟨ab, cb, aD, k, cD, rfl, _, _, rfl, h1.setOff o1 vs o, h2.setOff o2 vs o, h3⟩
/-- two results, each in a variable of its own -/
theorem results_cell_cell' {fn : Func} {p q : Tmp} {ty ty' : TypeId} (h : fn.results = #[.cell p ty, .cell q ty']) (tmps : Array Value) (P : Program) (w : World) (b o b' o' : Nat) (hp : tmps.getD p undef = .pointer (some ⟨b, o, none⟩)) (hq : tmps.getD q undef = .pointer (some ⟨b', o', none⟩)) (v u : Value) (hl : (loadVar ty ⟨b, o, none⟩).run P w = .ok v w) (hl' : (loadVar ty' ⟨b', o', none⟩).run P w = .ok u w) :
    (results fn tmps).run P w = .ok (.tuple #[v, u]) w := by
  have ha : (asAddr (tmps.getD p undef)).run P w = .ok ⟨b, o, none⟩ w := by rw [hp]; rfl
  have hb : (asAddr (tmps.getD q undef)).run P w = .ok ⟨b', o', none⟩ w := by rw [hq]; rfl
  simp only [results, h]
  simp only [List.mapM_toArray, Sem.run_bind]
  simp [ha, hl, hb, hl', -Array.getD_eq_getD_getElem?]
/-- a store of a struct into a variable of whatever type; the world behind it gets a name -/
theorem wpList_storeT {P : Program} {w : World} {ops : Array Oper} {rest : List Oper} {op : Oper} {a : Act} {Q : Exit → Act → World → Prop} (hgd : op.guard = none) (ty : TypeId) (x y : Operand) (ho : op.op = .store ty x y) (g o : Nat) (hx : a.eval x = .pointer (some ⟨g, o, none⟩)) (vs : List Value) (hy : a.eval y = .agg vs.toArray)
    (hi : (P.info? ty).map (·.size) = some vs.length) (h1 : ∀ u ∈ vs, u.oneCell' = true) (t : TypeId) (cs : List Value) (hB : Box w g t cs) (hl : o + vs.length ≤ cs.length)
    (h : ∀ w', Hid (w' = w.setCells g o vs) → wpList P ops Q rest (a.put op.dst undef) w') : wpList P ops Q (op :: rest) a w :=
  wpList_store_mid hgd ty x y ho g o vs.toArray hx hy (by simpa using hB.there o vs.length hl) (by simpa using hi) (all_oneCell_toArray h1) (h _ rfl)
/-- a store of one cell -/
theorem wpList_storeC {P : Program} {w : World} {ops : Array Oper} {rest : List Oper} {op : Oper} {a : Act} {Q : Exit → Act → World → Prop} (hgd : op.guard = none) (ty : TypeId) (x y : Operand) (ho : op.op = .store ty x y) (g o : Nat) (hx : a.eval x = .pointer (some ⟨g, o, none⟩)) (b : Bool) (hy : a.eval y = .bool b)
    (hs : (P.info? ty).map (·.size) = some 1) (t : TypeId) (cs : List Value) (hB : Box w g t cs) (hl : o < cs.length)
    (h : ∀ w', Hid (w' = w.setCells g o [.bool b]) → wpList P ops Q rest (a.put op.dst undef) w') : wpList P ops Q (op :: rest) a w := by
  refine wpList_plain hgd fun K hK => ?_
  have hc : w.cell? ⟨g, o, none⟩ = some (cs[o]'hl) := by rw [hB.cell o, List.getElem?_eq_getElem hl]
  have hf := hB.frozen o
  have hrun : (Instr.storeAt ty (.pointer (some ⟨g, o, none⟩)) (.bool b)).run P w = .ok () (w.setCells g o [.bool b]) := by
    simp [Instr.storeAt, Instr.sureAddr, storeVar, run_size hs, Value.cells, World.setCells]
    go_simp
  unfold Go.Oper.wp
  simp [execOp, ho, hx, hy, hrun, Result.andThen]
  exact hK _ _ (h _ rfl)
end Go.Proofs.Ytoflkbilkkfekaa

namespace Go.Proofs.Ytoflkbilkkfekaa
open Go.ChangeShapes Go.WideShapes Go.ChangeAt Go.RowKit
set_option linter.unusedVariables false
set_option linter.unusedSimpArgs false

/-! The document's answers for slots. -/
def syncF (n : Nat) (F : List UInt8) (D : List Drt) : List UInt8 := if rightB n D then app F D else F
def syncD (n : Nat) (D : List Drt) : List Drt := if rightB n D then [] else D

end Go.Proofs.Ytoflkbilkkfekaa

namespace Go.Proofs.Ytoflkbilkkfekaa
open Go.ChangeShapes Go.WideShapes Go.ChangeAt Go.RowKit
set_option linter.unusedVariables false
set_option linter.unusedSimpArgs false

/-! The document's answers for slots: Ready, Switch, Power, Button. -/
def notReady : Sns := (2, 58, 0)
def readyS (p : Bool) : Sns := if p then (0, 0, 0) else notReady
def swF (on r : Bool) (n : Nat) (F : List UInt8) (D : List Drt) : List UInt8 := if on && !r then syncF n F D else F
def swD (on r : Bool) (n : Nat) (D : List Drt) : List Drt := if on && !r then syncD n D else D
end Go.Proofs.Ytoflkbilkkfekaa

namespace Go.Proofs.Ytoflkbilkkfekaa
open Go.ChangeShapes Go.WideShapes Go.ChangeAt Go.RowKit
set_option linter.unusedVariables false
set_option linter.unusedSimpArgs false

/-! The document's answers for slots: Button, Power, Same, Copy. -/
def btF (p l : Bool) (n : Nat) (F : List UInt8) (D : List Drt) : List UInt8 := if p && !l then syncF n F D else F
def btD (p l : Bool) (n : Nat) (D : List Drt) : List Drt := if p && !l then syncD n D else D
def pwF (n : Nat) (F : List UInt8) (D : List Drt) (mask : Nat) : List UInt8 := if rightB n D then app F (pickM D mask) else F
def pwD (n : Nat) (D : List Drt) : List Drt := if rightB n D then [] else D
end Go.Proofs.Ytoflkbilkkfekaa

namespace Go.Proofs.Ytoflkbilkkfekaa
open Go.ChangeShapes Go.WideShapes Go.ChangeAt Go.RowKit
set_option linter.unusedVariables false
set_option linter.unusedSimpArgs false

/-! The document's answers for slots: Check, Same. -/
def checkS (n : Nat) (D : List Drt) (p r : Bool) (at_ : Nat) (m : Int) (wr : Bool) : Sns :=
  if !p then (2, 58, 0) else if r && wr then (7, 39, 0) else if withinB (allN n D) at_ m then (0, 0, 0) else (5, 33, 0)
end Go.Proofs.Ytoflkbilkkfekaa

namespace Go.Proofs.Ytoflkbilkkfekaa
open Go.ChangeShapes Go.WideShapes Go.ChangeAt Go.RowKit
set_option linter.unusedVariables false
set_option linter.unusedSimpArgs false

/-! The document's answers for slots: Keep, Unload. -/
def ulS (p l : Bool) : Sns := if !p then (2, 58, 0) else if l then (5, 83, 2) else (0, 0, 0)
end Go.Proofs.Ytoflkbilkkfekaa

namespace Go.Proofs.Ytoflkbilkkfekaa
open Go.ChangeShapes Go.WideShapes Go.ChangeAt Go.RowKit
set_option linter.unusedVariables false
set_option linter.unusedSimpArgs false

/-! The document's answers for slots: Read. -/
theorem checkS_zero {n : Nat} {D : List Drt} {p r : Bool} {at_ : Nat} {m : Int} {wr : Bool} (h : checkS n D p r at_ m wr = (0, 0, 0)) : p = true ∧ (r && wr) = false ∧ withinB (allN n D) at_ m = true := by
  unfold checkS at h
  cases p with
  | false => simp at h
  | true =>
    simp only [Bool.not_true, Bool.false_eq_true, if_false] at h
    split at h
    · simp at h
    · rename_i h1
      split at h
      · rename_i h2; exact ⟨rfl, by simpa using h1, h2⟩
      · simp at h
def rdL (n : Nat) (F : List UInt8) (D : List Drt) (S : Sns) (at_ : Nat) (m : Int) : List UInt8 := if S == (0, 0, 0) then seg (allF n F D) (at_ * 64) (m.toNat * 64) else []
theorem allN_small (n : Nat) (D : List Drt) : allN n D ≤ 64 := by
  unfold allN
  split
  · rename_i h; simp only [rightB, decide_eq_true_eq] at h; exact h.1
  · omega
end Go.Proofs.Ytoflkbilkkfekaa

namespace Go.Proofs.Ytoflkbilkkfekaa
open Go.ChangeShapes Go.WideShapes Go.ChangeAt Go.RowKit
set_option linter.unusedVariables false
set_option linter.unusedSimpArgs false

/-! The document's answers for slots: Put. -/
theorem box_ne {w : World} {g g' : Nat} {t t' : TypeId} {xs ys : List Value} (h : Box w g t xs) (h' : Box w g' t' ys) (hne : t ≠ t') : g ≠ g' := by
  intro e
  subst e
  unfold Box at h h'
  rw [h] at h'
  simp at h'
  exact hne h'.2
theorem Med.setOff {w : World} {a b : Value} {n : Nat} {F : List UInt8} {D : List Drt} {g : Nat} (h : Med w (.agg #[a, b]) n F D) (h1 : OffS g a) (h2 : OffS g b) (vs : List Value) (o : Nat) : Med (w.setCells g o vs) (.agg #[a, b]) n F D := by
  obtain ⟨vb, vd, e, hb, hd, ho⟩ := h
  simp at e
  obtain ⟨rfl, rfl⟩ := e
  exact ⟨_, _, rfl, hb.setOff h1 vs o, hd.setOff h2 vs o, ho⟩
def putS (n : Nat) (D : List Drt) (p r : Bool) (at_ : Int) : Sns := if at_ < 0 then checkS n D p r 0 1000 true else checkS n D p r at_.toNat 1 true
def ptF (n : Nat) (F : List UInt8) (D : List Drt) (S : Sns) (at_ : Int) (X : List UInt8) (th : Bool) : List UInt8 := if S == (0, 0, 0) then wrF n F D at_ X th else F
def ptD (n : Nat) (D : List Drt) (S : Sns) (at_ : Int) (X : List UInt8) (th : Bool) : List Drt := if S == (0, 0, 0) then wrD n D at_ X th else D
theorem put_neg {n : Nat} {D : List Drt} {p r : Bool} : (checkS n D p r 0 1000 true == (0, 0, 0)) = false := by
  rw [beq_eq_false_iff_ne]
  intro h
  have h1 := (checkS_zero h).2.2
  have h2 := allN_small n D
  simp only [withinB, decide_eq_true_eq] at h1
  omega
theorem put_yes {n : Nat} {D : List Drt} {p r : Bool} {z : Nat} (h : checkS n D p r z 1 true = (0, 0, 0)) : wrE n D (z : Int) = 0 := by
  have h1 := (checkS_zero h).2.2
  cases hR : rightB n D with
  | true =>
    simp only [withinB, decide_eq_true_eq, allN, hR, if_true] at h1
    unfold wrE
    rw [if_pos hR, if_pos (by omega)]
  | false =>
    simp only [withinB, decide_eq_true_eq, allN, hR] at h1
    have h2 := h1.2.1
    simp at h2
end Go.Proofs.Ytoflkbilkkfekaa

namespace Go.Proofs.Ytoflkbilkkfekaa
open Go.ChangeShapes Go.WideShapes Go.ChangeAt Go.RowKit
set_option linter.unusedVariables false
set_option linter.unusedSimpArgs false

/-! What the landed slot does, said; proved in P5. -/
section
variable {H : Type} {enc : TypeId × Value → H} {w : World} {r : Reach} {base : Nat} {v : Value} {d : DataW H} {p : List MemPlace}
def RSlot (w : World) (v : Value) : Prop := ∃ (n : Nat) (F : List UInt8) (D : List Drt) (p r l : Bool), Slt w v n F D p r l
end
theorem Slt.shape {w : World} {v : Value} {n : Nat} {F : List UInt8} {D : List Drt} {p r l : Bool} (h : Slt w v n F D p r l) : ∃ a c a' k c', v = .agg #[.slice a n c, .slice a' k c', .bool p, .bool r, .bool l] ∧ Hid (k = D.length) ∧ n ≤ 9223372036854775807 ∧ k ≤ 9223372036854775807 := by
  obtain ⟨ab, cb, aD, k, cD, rfl, hm⟩ := h
  obtain ⟨a, c, a', k', c', e, h1, h2, h3⟩ := hm.shape
  simp at e
  obtain ⟨⟨rfl, rfl⟩, rfl, rfl, rfl⟩ := e
  exact ⟨_, _, _, _, _, rfl, h1, h2, h3⟩
end Go.Proofs.Ytoflkbilkkfekaa
