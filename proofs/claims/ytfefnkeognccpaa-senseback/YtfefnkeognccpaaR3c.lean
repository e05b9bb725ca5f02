import Derived.Test.YtfefnkeognccpaaR3b
namespace Go.Proofs.Ytfefnkeognccpaa
open Go.ChangeShapes Go.WideShapes Go.ChangeAt Go.RowKit
set_option linter.unusedVariables false
set_option linter.unusedSimpArgs false

theorem map_two {α β : Type} {f : α → β} {l : List α} {x y : β} (h : l.map f = [x, y]) : ∃ a b, l = [a, b] ∧ f a = x ∧ f b = y := by
  match l, h with
  | [a, b], h => simp at h; exact ⟨a, b, rfl, h.1, h.2⟩
  | [_], h => simp at h
  | _ :: _ :: _ :: _, h => simp at h
theorem part_int {P : Program} {t : TypeId} (w : World) (ht : P.underlying t = some (.int .i64)) (a : Int) (X : List UInt8) : (part t (Value.int .i64 a :: bv X).toArray 0).run P w = .ok (.int .i64 a) w := by
  simp [part, isAgg, run_underlying ht]
theorem part_arr {P : Program} {t e : TypeId} (w : World) (ht : P.underlying t = some (.array 64 e)) (hs : (P.info? t).map (·.size) = some 64) (a : Int) (X : List UInt8) (hX : X.length = 64) : (part t (Value.int .i64 a :: bv X).toArray 1).run P w = .ok (.agg (bv X).toArray) w := by
  have : (bv X).take 64 = bv X := List.take_of_length_le (by rw [bv_length]; omega)
  simp [part, isAgg, run_underlying ht, run_size hs, this]
theorem eqFields_two {P : Program} (w : World) (d : Nat) (xs ys : Array Value) (f g : Field) (hf : f.name ≠ "_") (hg : g.name ≠ "_") (a b a' b' : Value) (r r' : Bool)
    (p1 : (part f.type xs f.offset).run P w = .ok a w) (p2 : (part f.type ys f.offset).run P w = .ok b w) (p3 : (Op.equalIn d f.type a b).run P w = .ok r w)
    (q1 : (part g.type xs g.offset).run P w = .ok a' w) (q2 : (part g.type ys g.offset).run P w = .ok b' w) (q3 : (Op.equalIn d g.type a' b').run P w = .ok r' w) :
    (Op.eqFields d xs ys [f, g]).run P w = .ok (r && r') w := by
  simp only [Op.eqFields, hf, hg, ne_eq, not_false_eq_true, if_true, Sem.run_bind, p1, p2, p3, q1, q2, q3, Result.andThen_ok]
  cases r <;> cases r' <;> simp [Sem.run_bind, q1, q2, q3, Result.andThen_ok]
/-- '!=' of two structs or arrays, in a region that draws its order -/
theorem wpS_neqG {P : Program} {ops : Array Oper} {Q : Act → World → Prop} {i : Nat} {o : Oper} {σ : List (Nat × Bool)} {a : Act} {b : World} (ho : ops[i]? = some o) (hw : Region.wanted o (yielded ops a.tmps) = true) (ty tt : TypeId) (x y : Operand) (hop : o.op = .binOp .neq ty x y tt)
    (xs ys : Array Value) (hx : a.eval x = .agg xs) (hy : a.eval y = .agg ys) (hgt : P.eqGuardType P.depth ty = false) (r : Bool) (heq : ∀ w, (Op.equalIn 10000 ty (.agg xs) (.agg ys)).run P w = .ok r w)
    (h : wpS P ops Q σ (a.put o.dst (.bool (!r))) b) : wpS P ops Q ((i, false) :: σ) a b := by
  refine ⟨o, ho, ?_⟩
  rw [if_pos hw]
  refine ⟨.bool (!r), fun w hl => ?_, h⟩
  unfold execOp
  simp [hop, hx, hy, run_eqGuard_agg w .neq ty x y xs ys hgt, run_neq_struct, heq, Result.andThen, Oper.mildUpon]

end Go.Proofs.Ytfefnkeognccpaa
