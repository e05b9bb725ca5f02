import Derived.Deep.AppendSrc
import Derived.Test.YtbcikndebaeahaaMAH
import Derived.Test.YtbcikndebaeahaaMAL
import Derived.Test.YtbcikndebaeahaaMAC
namespace Go.Proofs.Ytbcikndebaeahaa
open Go.ChangeShapes Go.WideShapes Go.ChangeAt Go.RowKit
set_option linter.unusedVariables false
set_option maxRecDepth 4000
set_option linter.unusedSimpArgs false
/-! Two commands held against one another. -/
theorem map_five {α β : Type} {f : α → β} {l : List α} {x y z u v : β} (h : l.map f = [x, y, z, u, v]) : ∃ a b c d e, l = [a, b, c, d, e] ∧ f a = x ∧ f b = y ∧ f c = z ∧ f d = u ∧ f e = v := by
  match l, h with
  | [a, b, c, d, e], h => simp at h; exact ⟨a, b, c, d, e, rfl, h.1, h.2.1, h.2.2.1, h.2.2.2.1, h.2.2.2.2⟩
  | [_], h => simp at h
  | [_, _], h => simp at h
  | [_, _, _], h => simp at h
  | [_, _, _, _], h => simp at h
  | _ :: _ :: _ :: _ :: _ :: _ :: _, h => simp at h
theorem eqFields_cons {P : Program} (w : World) (d : Nat) (xs ys : Array Value) (f : Field) (fs : List Field) (hf : f.name ≠ "_") (a b : Value) (r r' : Bool)
    (p1 : (part f.type xs f.offset).run P w = .ok a w) (p2 : (part f.type ys f.offset).run P w = .ok b w) (p3 : (Op.equalIn d f.type a b).run P w = .ok r w)
    (ih : (Op.eqFields d xs ys fs).run P w = .ok r' w) : (Op.eqFields d xs ys (f :: fs)).run P w = .ok (r && r') w := by
  simp only [Op.eqFields, hf, ne_eq, not_false_eq_true, if_true, Sem.run_bind, p1, p2, p3, Result.andThen_ok]
  cases r <;> simp [ih]
theorem eqFields_nil {P : Program} (w : World) (d : Nat) (xs ys : Array Value) : (Op.eqFields d xs ys []).run P w = .ok true w := by simp [Op.eqFields]
theorem part_cellU {P : Program} {t : TypeId} {k : IntKind} (w : World) (ht : P.underlying t = some (.int k)) (cs : Array Value) (o : Nat) (v : Value) (h : cs[o]? = some v) : (part t cs o).run P w = .ok v w := by
  simp [part, isAgg, run_underlying ht, h]
theorem Try.fields_cmd : (Try.prog.fieldsOf 35).toList.map (fun f => (f.name, f.type, f.offset)) = [("Op", 3, 0), ("At", 33, 1), ("N", 3, 2), ("Page", 3, 3), ("Bits", 3, 4)] := by kernel_rfl
theorem Try.is_cmd : Try.prog.underlying 35 = some (.struct (Try.prog.fieldsOf 35)) := by kernel_rfl
theorem Try.plain_cmd : Try.prog.stoodInHeld 35 = false := by kernel_rfl
theorem Try.guard_cmd : Try.prog.eqGuardType Try.prog.depth 35 = false := by kernel_rfl
theorem cmd_beq (s t : Cmd) : (s == t) = (decide (s.1 = t.1) && (decide ((s.2.1 : Int) = (t.2.1 : Int)) && (decide (s.2.2.1 = t.2.2.1) && (decide (s.2.2.2.1 = t.2.2.2.1) && (decide (s.2.2.2.2 = t.2.2.2.2) && true))))) := by
  obtain ⟨a, b, c, d, e⟩ := s
  obtain ⟨a', b', c', d', e'⟩ := t
  rw [Bool.eq_iff_iff]
  simp
  intros
  omega
theorem cmd_eq (s t : Cmd) (w : World) : (Op.equalIn 10000 35 (cval s) (cval t)).run Try.prog w = .ok (s == t) w := by
  refine (run_equalIn_struct w 9999 35 _ _ Try.is_cmd Try.plain_cmd).trans ?_
  obtain ⟨f, g, h, i, j, hfs, hf, hg, hh, hi, hj⟩ := map_five Try.fields_cmd
  rw [hfs, cmd_beq]
  simp only [Prod.mk.injEq] at hf hg hh hi hj
  obtain ⟨n1, t1, o1⟩ := hf
  obtain ⟨n2, t2, o2⟩ := hg
  obtain ⟨n3, t3, o3⟩ := hh
  obtain ⟨n4, t4, o4⟩ := hi
  obtain ⟨n5, t5, o5⟩ := hj
  have ki : ∀ x y : Int, (Op.equalIn 9999 3 (.int .i64 x) (.int .i64 y)).run Try.prog w = .ok (decide (x = y)) w := fun x y => run_equalIn_int (P := Try.prog) w 9998 3 .i64 .i64 x y Try.underlying3
  have ku : ∀ x y : Int, (Op.equalIn 9999 33 (.int .u64 x) (.int .u64 y)).run Try.prog w = .ok (decide (x = y)) w := fun x y => run_equalIn_int (P := Try.prog) w 9998 33 .u64 .u64 x y Try.underlying33
  refine eqFields_cons w 9999 _ _ f _ (by rw [n1]; decide) (.int .i64 s.1) (.int .i64 t.1) _ _ (by rw [t1, o1]; exact part_cellU w Try.underlying3 _ _ _ rfl) (by rw [t1, o1]; exact part_cellU w Try.underlying3 _ _ _ rfl) (by rw [t1]; exact ki _ _) ?_
  refine eqFields_cons w 9999 _ _ g _ (by rw [n2]; decide) (.int .u64 (s.2.1 : Int)) (.int .u64 (t.2.1 : Int)) _ _ (by rw [t2, o2]; exact part_cellU w Try.underlying33 _ _ _ rfl) (by rw [t2, o2]; exact part_cellU w Try.underlying33 _ _ _ rfl) (by rw [t2]; exact ku _ _) ?_
  refine eqFields_cons w 9999 _ _ h _ (by rw [n3]; decide) (.int .i64 s.2.2.1) (.int .i64 t.2.2.1) _ _ (by rw [t3, o3]; exact part_cellU w Try.underlying3 _ _ _ rfl) (by rw [t3, o3]; exact part_cellU w Try.underlying3 _ _ _ rfl) (by rw [t3]; exact ki _ _) ?_
  refine eqFields_cons w 9999 _ _ i _ (by rw [n4]; decide) (.int .i64 s.2.2.2.1) (.int .i64 t.2.2.2.1) _ _ (by rw [t4, o4]; exact part_cellU w Try.underlying3 _ _ _ rfl) (by rw [t4, o4]; exact part_cellU w Try.underlying3 _ _ _ rfl) (by rw [t4]; exact ki _ _) ?_
  refine eqFields_cons w 9999 _ _ j _ (by rw [n5]; decide) (.int .i64 s.2.2.2.2) (.int .i64 t.2.2.2.2) _ _ (by rw [t5, o5]; exact part_cellU w Try.underlying3 _ _ _ rfl) (by rw [t5, o5]; exact part_cellU w Try.underlying3 _ _ _ rfl) (by rw [t5]; exact ki _ _) ?_
  exact eqFields_nil w 9999 _ _
theorem wpList_eqC {w : World} {ops : Array Oper} {rest : List Oper} {o : Oper} {a : Act} {Q : Exit → Act → World → Prop} (hw : Region.wanted o (yielded ops a.tmps) = true) (x y : Operand) (hop : o.op = .binOp .eql 35 x y 35)
    (s t : Cmd) (hx : a.eval x = cval s) (hy : a.eval y = cval t) (r : Bool) (hr : (s == t) = r) (h : wpList Try.prog ops Q rest (a.put o.dst (.bool r)) w) : wpList Try.prog ops Q (o :: rest) a w := by
  subst hr
  refine wpList_step fun K hK => ?_
  rw [if_pos hw]
  unfold Go.Oper.wp execOp
  simp [hop, hx, hy, run_eqGuard_agg w .eql 35 x y _ _ Try.guard_cmd, run_eql_struct, cmd_eq, Result.andThen]
  exact hK _ _ h
end Go.Proofs.Ytbcikndebaeahaa

namespace Go.Proofs.Ytbcikndebaeahaa
open Go.ChangeShapes Go.WideShapes Go.ChangeAt Go.RowKit
set_option linter.unusedVariables false
set_option maxRecDepth 4000
set_option linter.unusedSimpArgs false
/-! Answer: to a command. -/
end Go.Proofs.Ytbcikndebaeahaa

namespace Go.Proofs.Ytbcikndebaeahaa
open Go.ChangeShapes Go.WideShapes Go.ChangeAt Go.RowKit
set_option linter.unusedVariables false
set_option maxRecDepth 4000
set_option linter.unusedSimpArgs false
/-! 'append(a, x...)', a our own, in regions that draw their order. -/
attribute [go_sem] Oper.heldUpon
end Go.Proofs.Ytbcikndebaeahaa

namespace Go.Proofs.Ytbcikndebaeahaa
open Go.ChangeShapes Go.WideShapes Go.ChangeAt Go.RowKit
set_option linter.unusedVariables false
set_option maxRecDepth 4000
set_option linter.unusedSimpArgs false
/-! The document's mode: Page. -/
def vU (c : Bool) : UInt8 := if c then 4 else 0
def pg8 (c : Bool) : List UInt8 := [8, 18, vU c, 0, 0, 0, 0, 0, 0, 0, 0, 0, 0, 0, 0, 0, 0, 0, 0, 0]
def pg28 : List UInt8 := [28, 10, 0, 0, 0, 0, 0, 0, 0, 0, 0, 0]
end Go.Proofs.Ytbcikndebaeahaa

namespace Go.Proofs.Ytbcikndebaeahaa
open Go.ChangeShapes Go.WideShapes Go.ChangeAt Go.RowKit
set_option linter.unusedVariables false
set_option maxRecDepth 4000
set_option linter.unusedSimpArgs false
/-! The document's mode: Answer. -/
end Go.Proofs.Ytbcikndebaeahaa

namespace Go.Proofs.Ytbcikndebaeahaa
open Go.ChangeShapes Go.WideShapes Go.ChangeAt Go.RowKit
set_option linter.unusedVariables false
set_option maxRecDepth 4000
set_option linter.unusedSimpArgs false
/-! lay: a number into bytes. -/
theorem Try.info1_u8 : (Try.prog.info? 5).map (·.size) = some 1 := by kernel_rfl
end Go.Proofs.Ytbcikndebaeahaa

namespace Go.Proofs.Ytbcikndebaeahaa
open Go.ChangeShapes Go.WideShapes Go.ChangeAt Go.RowKit
set_option linter.unusedVariables false
set_option maxRecDepth 4000
set_option linter.unusedSimpArgs false
/-! lay of a form: a command into bytes. -/
end Go.Proofs.Ytbcikndebaeahaa

namespace Go.Proofs.Ytbcikndebaeahaa
open Go.ChangeShapes Go.WideShapes Go.ChangeAt Go.RowKit
set_option linter.unusedVariables false
set_option maxRecDepth 4000
set_option linter.unusedSimpArgs false
/-! Bytes that are made, and one of them that is set: the world behind it stands by itself. -/
theorem wpList_makeB {w : World} {ops : Array Oper} {rest : List Oper} {o : Oper} {a : Act} {Q : Exit → Act → World → Prop} (hg : o.guard = none) (l c : Operand) (hop : o.op = Op.makeSlice 36 l c) (n : Nat) (hl : a.eval l = .int .i64 (n : Int)) (hc : a.eval c = .int .i64 (n : Int)) (hn : n ≤ 100000)
    (h : ∀ (g : Nat) (w' : World), Box w' g 5 (bv (List.replicate n 0)) → Later w w' → Hid (g = w.heap.size) → wpList Try.prog ops Q rest (a.put o.dst (.slice (some ⟨g, 0, none⟩) n n)) w') : wpList Try.prog ops Q (o :: rest) a w := by
  refine wpList_plain hg fun K hK => ?_
  have hrun := run_make_row' (P := Try.prog) 36 5 (.int .u8 0) 1 Try.underlying36 Try.info_u8 rfl .i64 .i64 n (by omega) (by omega) w
  unfold Go.Oper.wp
  simp [execOp, hop, hl, hc, hrun, Result.andThen]
  exact hK _ _ (h _ _ (Box.new' _ _ _ _ (made_zero n) _ rfl) ((Later.refl w).alloc _) rfl)
theorem wpList_storeB {P : Program} {w : World} {ops : Array Oper} {rest : List Oper} {op : Oper} {a : Act} {Q : Exit → Act → World → Prop} (hgd : op.guard = none) (ty : TypeId) (x y : Operand) (ho : op.op = .store ty x y) (g o : Nat) (hx : a.eval x = .pointer (some ⟨g, o, none⟩)) (z : Int) (hy : a.eval y = .int .u8 z)
    (hs : (P.info? ty).map (·.size) = some 1) (t : TypeId) (l : List UInt8) (hB : Box w g t (bv l)) (hl : o < l.length) (b : UInt8) (hb : z = (b.toNat : Int))
    (h : ∀ w', Box w' g t (bv (l.set o b)) → Hid (w' = w.setCells g o [.int .u8 z]) → wpList P ops Q rest (a.put op.dst undef) w') : wpList P ops Q (op :: rest) a w := by
  refine wpList_plain hgd fun K hK => ?_
  have hl' : o < (bv l).length := by rw [bv_length]; exact hl
  have hc : w.cell? ⟨g, o, none⟩ = some ((bv l)[o]'hl') := by rw [hB.cell o, List.getElem?_eq_getElem hl']
  have hf := hB.frozen o
  have hrun : (Instr.storeAt ty (.pointer (some ⟨g, o, none⟩)) (.int .u8 z)).run P w = .ok () (w.setCells g o [.int .u8 z]) := by
    simp [Instr.storeAt, Instr.sureAddr, storeVar, run_size hs, Value.cells, World.setCells]
    go_simp
  have hB2 : Box (w.setCells g o [.int .u8 z]) g t (bv (l.set o b)) := by
    rw [bv_set, ← hb]
    exact hB.set o _
  unfold Go.Oper.wp
  simp [execOp, ho, hx, hy, hrun, Result.andThen]
  exact hK _ _ (h _ hB2 rfl)
/-! Bytes. -/
end Go.Proofs.Ytbcikndebaeahaa

namespace Go.Proofs.Ytbcikndebaeahaa
open Go.ChangeShapes Go.WideShapes Go.ChangeAt Go.RowKit
set_option linter.unusedVariables false
set_option maxRecDepth 4000
set_option linter.unusedSimpArgs false
/-! The document's cdb: Known, Size, big. -/
end Go.Proofs.Ytbcikndebaeahaa

namespace Go.Proofs.Ytbcikndebaeahaa
open Go.ChangeShapes Go.WideShapes Go.ChangeAt Go.RowKit
set_option linter.unusedVariables false
set_option maxRecDepth 4000
set_option linter.unusedSimpArgs false
/-! rest: any other command. -/
def Bn (l : List UInt8) (i : Nat) : Nat := (l.getD i 0).toNat
theorem Bn_lt (l : List UInt8) (i : Nat) : Bn l i < 256 := UInt8.toNat_lt _
theorem Bs.cells6 {w : World} {v : Value} {l : List UInt8} {n : Nat} (h : Bs w v l) (hn : l.length = n) (hp : 0 < n) : ∃ b off cap, v = .slice (some ⟨b, off, none⟩) n cap ∧ ∀ i, i < n → ∀ W, Later w W → W.cell? ⟨b, off + i, none⟩ = some (.int .u8 (Bn l i : Int)) := by
  obtain ⟨hl, ad, cap, rfl, hc, hd⟩ := h
  rcases hd with hd | ⟨b, off, rfl, hr⟩
  · subst hd; simp at hn; omega
  · refine ⟨b, off, cap, by rw [hn], fun i hi W hW => hW.cellOf ?_⟩
    have h1 := hr i (by omega)
    rw [h1, Bn, List.getD_eq_getElem?_getD, List.getElem?_eq_getElem (by omega)]
    rfl
theorem Try.info1_int : (Try.prog.info? 3).map (·.size) = some 1 := by kernel_rfl
theorem wpList_storeI {P : Program} {w : World} {ops : Array Oper} {rest : List Oper} {op : Oper} {a : Act} {Q : Exit → Act → World → Prop} (hgd : op.guard = none) (ty : TypeId) (x y : Operand) (ho : op.op = .store ty x y) (g o : Nat) (hx : a.eval x = .pointer (some ⟨g, o, none⟩)) (k : IntKind) (z : Int) (hy : a.eval y = .int k z)
    (hs : (P.info? ty).map (·.size) = some 1) (t : TypeId) (cs : List Value) (hB : Box w g t cs) (hl : o < cs.length)
    (h : ∀ w', Box w' g t (cs.set o (.int k z)) → Hid (w' = w.setCells g o [.int k z]) → wpList P ops Q rest (a.put op.dst undef) w') : wpList P ops Q (op :: rest) a w := by
  refine wpList_plain hgd fun K hK => ?_
  have hc : w.cell? ⟨g, o, none⟩ = some (cs[o]'hl) := by rw [hB.cell o, List.getElem?_eq_getElem hl]
  have hf := hB.frozen o
  have hrun : (Instr.storeAt ty (.pointer (some ⟨g, o, none⟩)) (.int k z)).run P w = .ok () (w.setCells g o [.int k z]) := by
    simp [Instr.storeAt, Instr.sureAddr, storeVar, run_size hs, Value.cells, World.setCells]
    go_simp
  unfold Go.Oper.wp
  simp [execOp, ho, hx, hy, hrun, Result.andThen]
  exact hK _ _ (h _ (hB.set o _) rfl)
end Go.Proofs.Ytbcikndebaeahaa

namespace Go.Proofs.Ytbcikndebaeahaa
open Go.ChangeShapes Go.WideShapes Go.ChangeAt Go.RowKit
set_option linter.unusedVariables false
set_option maxRecDepth 4000
set_option linter.unusedSimpArgs false
/-! What parameters select, as a function on lists. -/
def selP : Nat → List UInt8 → Bool → Bool × Sns
  | 0, _, c => (c, (0, 0, 0))
  | f + 1, l, c =>
    if l.length = 0 then (c, (0, 0, 0))
    else if l.length < 2 ∨ l.length < 2 + Bn l 1 then (false, (5, 26, 0))
    else if l.take (2 + Bn l 1) = pg8 true then selP f (l.drop (2 + Bn l 1)) true
    else if l.take (2 + Bn l 1) = pg8 false then selP f (l.drop (2 + Bn l 1)) false
    else if l.take (2 + Bn l 1) = pg28 then selP f (l.drop (2 + Bn l 1)) c
    else (false, (5, 38, 0))
def selF (l : List UInt8) (c : Bool) : Bool × Sns := selP l.length l c
theorem selP_nil (f : Nat) (l : List UInt8) (c : Bool) (h : l.length = 0) : selP f l c = (c, (0, 0, 0)) := by
  cases f with
  | zero => rfl
  | succ f => rw [selP, if_pos h]
theorem selP_fuel : ∀ (n f : Nat) (l : List UInt8) (c : Bool), l.length ≤ n → l.length ≤ f → selP f l c = selP n l c := by
  intro n
  induction n with
  | zero =>
    intro f l c h1 h2
    rw [selP_nil f l c (by omega), selP_nil 0 l c (by omega)]
  | succ n ih =>
    intro f l c h1 h2
    by_cases h0 : l.length = 0
    · rw [selP_nil f l c h0, selP_nil _ l c h0]
    cases f with
    | zero => omega
    | succ f =>
      have hd : (l.drop (2 + Bn l 1)).length ≤ n ∧ (l.drop (2 + Bn l 1)).length ≤ f := by simp only [List.length_drop]; omega
      rw [selP, selP, ih f _ true hd.1 hd.2, ih f _ false hd.1 hd.2, ih f _ c hd.1 hd.2]
theorem selF_nil (l : List UInt8) (c : Bool) (h : l.length = 0) : selF l c = (c, (0, 0, 0)) := selP_nil _ l c h
theorem selF_step (l : List UInt8) (c : Bool) (h : 0 < l.length) : selF l c =
    if l.length < 2 ∨ l.length < 2 + Bn l 1 then (false, (5, 26, 0))
    else if l.take (2 + Bn l 1) = pg8 true then selF (l.drop (2 + Bn l 1)) true
    else if l.take (2 + Bn l 1) = pg8 false then selF (l.drop (2 + Bn l 1)) false
    else if l.take (2 + Bn l 1) = pg28 then selF (l.drop (2 + Bn l 1)) c
    else (false, (5, 38, 0)) := by
  obtain ⟨f, hf⟩ : ∃ f, l.length = f + 1 := ⟨l.length - 1, by omega⟩
  have hd : (l.drop (2 + Bn l 1)).length ≤ f := by simp only [List.length_drop]; omega
  have e : selP l.length l c = selP (f + 1) l c := by rw [hf]
  unfold selF
  rw [e, selP, if_neg (by omega), selP_fuel _ f _ true (Nat.le_refl _) hd, selP_fuel _ f _ false (Nat.le_refl _) hd, selP_fuel _ f _ c (Nat.le_refl _) hd]
theorem pg8_ne : pg8 true ≠ pg8 false := by decide
theorem pg28_ne (b : Bool) : pg28 ≠ pg8 b := by cases b <;> decide
theorem selF_short (l : List UInt8) (c : Bool) (h : 0 < l.length) (hs : l.length < 2 ∨ l.length < 2 + Bn l 1) : selF l c = (false, (5, 26, 0)) := by
  rw [selF_step l c h, if_pos hs]
theorem selF_8 (l : List UInt8) (c b : Bool) (hs : ¬ (l.length < 2 ∨ l.length < 2 + Bn l 1)) (hp : l.take (2 + Bn l 1) = pg8 b) : selF l c = selF (l.drop (2 + Bn l 1)) b := by
  rw [selF_step l c (by omega), if_neg hs]
  cases b with
  | true => rw [if_pos hp]
  | false => rw [if_neg (by rw [hp]; exact fun e => pg8_ne e.symm), if_pos hp]
theorem selF_28 (l : List UInt8) (c : Bool) (hs : ¬ (l.length < 2 ∨ l.length < 2 + Bn l 1)) (hp : l.take (2 + Bn l 1) = pg28) : selF l c = selF (l.drop (2 + Bn l 1)) c := by
  rw [selF_step l c (by omega), if_neg hs, if_neg (by rw [hp]; exact pg28_ne true), if_neg (by rw [hp]; exact pg28_ne false), if_pos hp]
theorem selF_bad (l : List UInt8) (c : Bool) (hs : ¬ (l.length < 2 ∨ l.length < 2 + Bn l 1)) (h1 : l.take (2 + Bn l 1) ≠ pg8 true) (h2 : l.take (2 + Bn l 1) ≠ pg8 false) (h3 : l.take (2 + Bn l 1) ≠ pg28) : selF l c = (false, (5, 38, 0)) := by
  rw [selF_step l c (by omega), if_neg hs, if_neg h1, if_neg h2, if_neg h3]
def hdN (ten : Bool) : Nat := if ten then 8 else 4
def hdM (l : List UInt8) (ten : Bool) : Nat := if ten then Bn l 7 + 256 * Bn l 6 else Bn l 3
def selR (l : List UInt8) (ten caching : Bool) : Bool × Sns :=
  if l.length = 0 then (caching, (0, 0, 0))
  else if l.length < hdN ten then (false, (5, 26, 0))
  else if hdM l ten ≠ 0 ∧ hdM l ten ≠ 8 then (false, (5, 38, 0))
  else if l.length < hdN ten + hdM l ten then (false, (5, 26, 0))
  else selF (l.drop (hdN ten + hdM l ten)) caching
/-- are m bytes from a on all 0? -/
def zrB (l : List UInt8) (a m : Nat) : Bool := (seg l a m).all (· == 0)
theorem zrB_zero (l : List UInt8) (a : Nat) : zrB l a 0 = true := by simp [zrB, seg]
theorem Bn_get (l : List UInt8) (i : Nat) (h : i < l.length) : Bn l i = l[i].toNat := by
  rw [Bn, List.getD_eq_getElem?_getD, List.getElem?_eq_getElem h]; rfl
theorem u8_zero (x : UInt8) : (x == 0) = decide (x.toNat = 0) := by
  rw [Bool.eq_iff_iff, beq_iff_eq, decide_eq_true_eq]
  constructor
  · rintro rfl; rfl
  · intro h; exact UInt8.toNat_inj.1 h
theorem zrB_step (l : List UInt8) (a m : Nat) (h : a + m < l.length) : zrB l a (m + 1) = (zrB l a m && decide (Bn l (a + m) = 0)) := by
  rw [zrB, seg_snoc l a m h, List.all_append, Bn_get l _ h]
  simp only [List.all_cons, List.all_nil, Bool.and_true]
  rw [u8_zero]
  rfl
theorem zrB_iff (l : List UInt8) (a m : Nat) (h : a + m ≤ l.length) : zrB l a m = true ↔ seg l a m = List.replicate m 0 := by
  have hm := seg_length l a m h
  rw [zrB, List.all_eq_true]
  constructor
  · intro hh
    refine List.eq_replicate_iff.2 ⟨hm, fun b hb => ?_⟩
    simpa using hh b hb
  · intro e b hb
    rw [e] at hb
    simpa using List.eq_of_mem_replicate hb
theorem page_take (l : List UInt8) (n : Nat) (hn : 1 ≤ n) (h : 2 + n ≤ l.length) : l.take (2 + n) = (l[0]'(by omega)) :: (l[1]'(by omega)) :: (l[2]'(by omega)) :: seg l 3 (n - 1) := by
  obtain ⟨k, rfl⟩ : ∃ k, n = k + 1 := ⟨n - 1, by omega⟩
  have e : l.take (2 + (k + 1)) = seg l 0 (k + 3) := by simp only [seg, List.drop_zero]; congr 1; omega
  rw [e, seg_cons l 0 _ (by omega), seg_cons l 1 _ (by omega), seg_cons l 2 _ (by omega)]
  rfl
theorem bn_u8 (x : UInt8) (k : Nat) (hk : k < 256) (h : x.toNat = k) : x = UInt8.ofNat k := by
  apply UInt8.toNat_inj.1; rw [h, UInt8.toNat_ofNat']; omega
theorem page_8 (l : List UInt8) (b : Bool) (hs : ¬ (l.length < 2 ∨ l.length < 2 + Bn l 1)) : l.take (2 + Bn l 1) = pg8 b ↔ (Bn l 0 = 8 ∧ Bn l 1 = 18 ∧ zrB l 3 17 = true ∧ Bn l 2 = (if b then 4 else 0)) := by
  have e8 : pg8 b = 8 :: 18 :: vU b :: List.replicate 17 0 := rfl
  constructor
  · intro h
    have hl := congrArg List.length h
    rw [List.length_take, show (pg8 b).length = 20 from rfl] at hl
    have h1 : Bn l 1 = 18 := by omega
    rw [h1, page_take l 18 (by omega) (by omega), e8] at h
    simp only [List.cons.injEq] at h
    obtain ⟨g0, g1, g2, g3⟩ := h
    refine ⟨by rw [Bn_get l 0 (by omega), g0]; rfl, h1, (zrB_iff l 3 17 (by omega)).2 g3, ?_⟩
    rw [Bn_get l 2 (by omega), g2]
    cases b <;> rfl
  · rintro ⟨g0, g1, g3, g2⟩
    have hlen : 20 ≤ l.length := by omega
    rw [Bn_get l 0 (by omega)] at g0
    rw [g1, page_take l 18 (by omega) (by omega), e8, (zrB_iff l 3 17 (by omega)).1 g3, bn_u8 _ 8 (by omega) g0]
    rw [Bn_get l 1 (by omega)] at g1
    rw [bn_u8 _ 18 (by omega) g1]
    rw [Bn_get l 2 (by omega)] at g2
    have g4 : l[2] = vU b := by
      cases b with
      | true => exact bn_u8 _ 4 (by omega) g2
      | false => exact bn_u8 _ 0 (by omega) g2
    rw [g4]; rfl
theorem page_28 (l : List UInt8) (hs : ¬ (l.length < 2 ∨ l.length < 2 + Bn l 1)) : l.take (2 + Bn l 1) = pg28 ↔ (Bn l 0 = 28 ∧ Bn l 1 = 10 ∧ zrB l 3 9 = true ∧ Bn l 2 = 0) := by
  have e8 : pg28 = 28 :: 10 :: 0 :: List.replicate 9 0 := rfl
  constructor
  · intro h
    have hl := congrArg List.length h
    rw [List.length_take, show pg28.length = 12 from rfl] at hl
    have h1 : Bn l 1 = 10 := by omega
    rw [h1, page_take l 10 (by omega) (by omega), e8] at h
    simp only [List.cons.injEq] at h
    obtain ⟨g0, g1, g2, g3⟩ := h
    refine ⟨by rw [Bn_get l 0 (by omega), g0]; rfl, h1, (zrB_iff l 3 9 (by omega)).2 g3, ?_⟩
    rw [Bn_get l 2 (by omega), g2]; rfl
  · rintro ⟨g0, g1, g3, g2⟩
    have hlen : 12 ≤ l.length := by omega
    rw [Bn_get l 0 (by omega)] at g0
    rw [g1, page_take l 10 (by omega) (by omega), e8, (zrB_iff l 3 9 (by omega)).1 g3, bn_u8 _ 28 (by omega) g0]
    rw [Bn_get l 1 (by omega)] at g1
    rw [bn_u8 _ 10 (by omega) g1]
    rw [Bn_get l 2 (by omega)] at g2
    rw [bn_u8 _ 0 (by omega) g2]; rfl
theorem Bn_drop (l : List UInt8) (a i : Nat) : Bn (l.drop a) i = Bn l (a + i) := by
  rw [Bn, Bn, List.getD_eq_getElem?_getD, List.getD_eq_getElem?_getD, List.getElem?_drop]
theorem zrB_drop (l : List UInt8) (a b m : Nat) : zrB (l.drop a) b m = zrB l (a + b) m := by
  rw [zrB, zrB, seg, seg, List.drop_drop]
/-! the same, from a place on -/
def selA (l : List UInt8) (at_ : Nat) (c : Bool) : Bool × Sns := selF (l.drop at_) c
theorem selA_nil (l : List UInt8) (at_ : Nat) (c : Bool) (h : l.length ≤ at_) : selA l at_ c = (c, (0, 0, 0)) := selF_nil _ _ (by rw [List.length_drop]; omega)
theorem selA_short (l : List UInt8) (at_ : Nat) (c : Bool) (h : at_ < l.length) (hs : l.length ≤ at_ + 1 ∨ l.length < at_ + 2 + Bn l (at_ + 1)) : selA l at_ c = (false, (5, 26, 0)) := by
  refine selF_short _ _ (by rw [List.length_drop]; omega) ?_
  rw [List.length_drop, Bn_drop]; omega
theorem selA_8 (l : List UInt8) (at_ : Nat) (c b : Bool) (hs : at_ + 2 + Bn l (at_ + 1) ≤ l.length) (h0 : Bn l at_ = 8) (h1 : Bn l (at_ + 1) = 18) (h2 : Bn l (at_ + 2) = if b then 4 else 0) (h3 : zrB l (at_ + 3) 17 = true) : selA l at_ c = selA l (at_ + 20) b := by
  have hq : ¬ ((l.drop at_).length < 2 ∨ (l.drop at_).length < 2 + Bn (l.drop at_) 1) := by rw [List.length_drop, Bn_drop]; omega
  unfold selA
  rw [selF_8 (l.drop at_) c b hq ((page_8 _ b hq).2 ⟨by rw [Bn_drop]; exact h0, by rw [Bn_drop]; exact h1, by rw [zrB_drop]; exact h3, by rw [Bn_drop]; exact h2⟩), Bn_drop, h1, List.drop_drop]
theorem selA_28 (l : List UInt8) (at_ : Nat) (c : Bool) (hs : at_ + 2 + Bn l (at_ + 1) ≤ l.length) (h0 : Bn l at_ = 28) (h1 : Bn l (at_ + 1) = 10) (h2 : Bn l (at_ + 2) = 0) (h3 : zrB l (at_ + 3) 9 = true) : selA l at_ c = selA l (at_ + 12) c := by
  have hq : ¬ ((l.drop at_).length < 2 ∨ (l.drop at_).length < 2 + Bn (l.drop at_) 1) := by rw [List.length_drop, Bn_drop]; omega
  unfold selA
  rw [selF_28 (l.drop at_) c hq ((page_28 _ hq).2 ⟨by rw [Bn_drop]; exact h0, by rw [Bn_drop]; exact h1, by rw [zrB_drop]; exact h3, by rw [Bn_drop]; exact h2⟩), Bn_drop, h1, List.drop_drop]
theorem selA_bad (l : List UInt8) (at_ : Nat) (c : Bool) (hs : at_ + 2 + Bn l (at_ + 1) ≤ l.length)
    (h8 : ¬ (Bn l at_ = 8 ∧ Bn l (at_ + 1) = 18 ∧ zrB l (at_ + 3) (Bn l (at_ + 1) - 1) = true ∧ (Bn l (at_ + 2) = 0 ∨ Bn l (at_ + 2) = 4)))
    (h28 : ¬ (Bn l at_ = 28 ∧ Bn l (at_ + 1) = 10 ∧ zrB l (at_ + 3) (Bn l (at_ + 1) - 1) = true ∧ Bn l (at_ + 2) = 0)) : selA l at_ c = (false, (5, 38, 0)) := by
  have hq : ¬ ((l.drop at_).length < 2 ∨ (l.drop at_).length < 2 + Bn (l.drop at_) 1) := by rw [List.length_drop, Bn_drop]; omega
  unfold selA
  refine selF_bad (l.drop at_) c hq ?_ ?_ ?_
  · intro e
    have := (page_8 _ true hq).1 e
    rw [Bn_drop, Bn_drop, Bn_drop, zrB_drop] at this
    exact h8 ⟨this.1, this.2.1, by rw [this.2.1]; exact this.2.2.1, .inr this.2.2.2⟩
  · intro e
    have := (page_8 _ false hq).1 e
    rw [Bn_drop, Bn_drop, Bn_drop, zrB_drop] at this
    exact h8 ⟨this.1, this.2.1, by rw [this.2.1]; exact this.2.2.1, .inl this.2.2.2⟩
  · intro e
    have := (page_28 _ hq).1 e
    rw [Bn_drop, Bn_drop, Bn_drop, zrB_drop] at this
    exact h28 ⟨this.1, this.2.1, by rw [this.2.1]; exact this.2.2.1, this.2.2.2⟩
end Go.Proofs.Ytbcikndebaeahaa
