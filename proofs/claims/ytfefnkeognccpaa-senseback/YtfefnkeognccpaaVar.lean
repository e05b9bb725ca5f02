import Derived.Test.YtfefnkeognccpaaRow2
import Derived.Deep.WholeRow
namespace Go.Proofs.Ytfefnkeognccpaa
open Go.ChangeShapes Go.WideShapes Go.ChangeAt Go.RowKit
set_option linter.unusedVariables false
set_option linter.unusedSimpArgs false

/-! Variables of structs; calls in regions that draw their order. -/
theorem Later.later {a b c : World} (h : Later a b) (k : Later b c) : Later a c := h.trans k
theorem Bs.later {w b : World} {v : Value} {l : List UInt8} (h : Bs w v l) (hl : Later w b) : Bs b v l := h.below hl (Nat.le_refl _)
theorem put_eval {a : Act} {d : Tmp} {v : Value} (h : d < a.tmps.size) : (a.put (some d) v).eval (.tmp d) = v := by
  simp [Act.put, Act.eval, h]
/-- 'x := v', v a struct: a variable of its own -/
theorem wpList_new {P : Program} {w : World} {ops : Array Oper} {rest : List Oper} {o1 o2 : Oper} {a : Act} {Q : Exit → Act → World → Prop} (hg1 : o1.guard = none) (hg2 : o2.guard = none) (ty : TypeId) (h1 : o1.op = .alloc ty) (d : Tmp) (hd : o1.dst = some d) (hd' : d < a.tmps.size) (y : Operand) (hy' : y ≠ .tmp d) (h2 : o2.op = .store ty (.tmp d) y)
    (z : Array Value) (cells : List Value) (hz : (P.info? ty).map (fun i => (i.zero, i.size)) = some (some (.agg z), cells.length)) (hzs : z.size = cells.length) (hy : a.eval y = .agg cells.toArray) (h1c : ∀ v ∈ cells, v.oneCell' = true)
    (h : ∀ (g : Nat) (w' : World), Box w' g ty cells → Later w w' → Hid (g = w.heap.size ∧ w' = w.alloc (.cells cells.toArray ty)) → wpList P ops Q rest ((a.put (some d) (.pointer (some ⟨g, 0, none⟩))).put o2.dst undef) w') : wpList P ops Q (o1 :: o2 :: rest) a w := by
  obtain ⟨hzv, hsz⟩ := zero_of_info hz
  refine wpList_plain hg1 fun K hK => ?_
  have hr1 : (execOp a.eval o1).run P w = .ok (.value (.pointer (some ⟨w.heap.size, 0, none⟩))) (w.alloc (.cells z ty)) := by
    simp [execOp, h1, Instr.alloc, hzv, Result.andThen, newVar, newRow, Value.cells]
  unfold Go.Oper.wp
  rw [hr1]
  refine hK _ _ ?_
  rw [hd]
  refine wpList_plain hg2 fun K' hK' => ?_
  have he : (a.put (some d) (.pointer (some ⟨w.heap.size, 0, none⟩))).eval y = .agg cells.toArray := by
    rw [← hy]
    exact Act.eval_put fun t ht e => hy' (by rw [e]; cases ht; rfl)
  have hr2 := run_storeAt_new (P := P) w ty z cells.toArray (by simpa using hsz) (by simpa using hzs) (all_oneCell_toArray h1c)
  unfold Go.Oper.wp
  simp [execOp, h2, he, put_eval hd', hr2, Result.andThen]
  exact hK' _ _ (h _ _ (by simpa using Box.new w ty cells.toArray) ((Later.refl w).alloc _) ⟨rfl, rfl⟩)

/-- f is a function with a body -/
def Plain (P : Program) (f : FuncId) : Prop := (P.funcs[f]?).map (fun fn => (fn.name == "runtime.NumGoroutine", fn.body.isNone)) = some (false, false)
theorem Plain.of {P : Program} {f : FuncId} (h : (P.funcs[f]?).map (fun fn => (fn.name == "runtime.NumGoroutine", fn.body.isNone)) = some (false, false)) : Plain P f := h
theorem run_call {P : Program} {o : Oper} {a : Act} (f : FuncId) (hp : Plain P f) (xs : List Operand) (ts : Array TypeId) (hop : o.op = .call { callee := .value (.func f), args := xs.toArray, argTypes := ts }) (us : List Value) (hx : xs.map a.eval = us) (w : World) : (execOp a.eval o).run P w = .ok (.enter f us.toArray) w := by
  have hf : a.eval (.func f) = .func (.func f) #[] #[] := rfl
  unfold Plain at hp
  cases hq : P.funcs[f]? with
  | none => simp [hq] at hp
  | some fn =>
    simp only [hq, Option.map_some, Option.some.injEq, Prod.mk.injEq] at hp
    have hc : ∀ args, (callFunc f args).run P w = .ok (.enter f args) w := fun args => by
      have h1 : ¬ fn.name = "runtime.NumGoroutine" := by have := hp.1; simpa using this
      have h2 : ¬ fn.body = none := fun e => by have := hp.2; simp [e] at this
      simp [callFunc, hq, h1, h2]
    simp [execOp, hop, resolve, invoke, hf, hx, Result.andThen, Deferred.ofValue, hc]
/-- a call that gives one value, in a region that draws its order -/
theorem wpS_call {P : Program} {ops : Array Oper} {Q : Act → World → Prop} {i : Nat} {o : Oper} {σ : List (Nat × Bool)} {a : Act} {b : World} (ho : ops[i]? = some o) (hw : Region.wanted o (yielded ops a.tmps) = true) (f : FuncId) (hp : Plain P f) (xs : List Operand) (ts : Array TypeId) (hop : o.op = .call { callee := .value (.func f), args := xs.toArray, argTypes := ts }) (us : List Value) (hx : xs.map a.eval = us)
    (v : Value) (hc : ∀ w, Later b w → Calls P f us.toArray w fun e w' => e = .returned v ∧ Later w w')
    (h : wpS P ops Q σ (a.put o.dst v) b) : wpS P ops Q ((i, false) :: σ) a b := by
  refine ⟨o, ho, ?_⟩
  rw [if_pos hw]
  refine ⟨v, fun w hl => ?_, h⟩
  rw [run_call f hp xs ts hop us hx]
  exact ⟨rfl, hc w hl⟩
/-- a call that makes memory, where it alone may come up -/
theorem wpS_callL {P : Program} {ops : Array Oper} {Q : Act → World → Prop} {i : Nat} {o : Oper} {σ : List (Nat × Bool)} {a : Act} {b : World} (ho : ops[i]? = some o) (hw : Region.wanted o (yielded ops a.tmps) = true) (f : FuncId) (hp : Plain P f) (xs : List Operand) (ts : Array TypeId) (hop : o.op = .call { callee := .value (.func f), args := xs.toArray, argTypes := ts }) (us : List Value) (hx : xs.map a.eval = us)
    (R : Value → World → Prop) (hc : ∀ w, Later b w → Calls P f us.toArray w fun e w' => ∃ v, e = .returned v ∧ Later w w' ∧ R v w')
    (h : ∀ v b', Later b b' → R v b' → wpS P ops Q σ (a.put o.dst v) b') : wpS P ops Q ((i, true) :: σ) a b := by
  intro w hl
  unfold lOp
  simp only [ho]
  rw [if_pos hw]
  unfold Oper.loud
  rw [run_call f hp xs ts hop us hx]
  exact ⟨rfl, (hc w hl).mono fun e w'' ⟨v, he, hl', hr⟩ => ⟨v, he, hl', h v w'' (hl.trans hl') hr⟩⟩
/-- '==' of arrays or structs, in a region that draws its order -/
theorem wpS_eqG {P : Program} {ops : Array Oper} {Q : Act → World → Prop} {i : Nat} {o : Oper} {σ : List (Nat × Bool)} {a : Act} {b : World} (ho : ops[i]? = some o) (hw : Region.wanted o (yielded ops a.tmps) = true) (ty tt : TypeId) (x y : Operand) (hop : o.op = .binOp .eql ty x y tt)
    (xs ys : Array Value) (hx : a.eval x = .agg xs) (hy : a.eval y = .agg ys) (hgt : P.eqGuardType P.depth ty = false) (r : Bool) (heq : ∀ w, (Op.equalIn 10000 ty (.agg xs) (.agg ys)).run P w = .ok r w)
    (h : wpS P ops Q σ (a.put o.dst (.bool r)) b) : wpS P ops Q ((i, false) :: σ) a b := by
  refine ⟨o, ho, ?_⟩
  rw [if_pos hw]
  refine ⟨.bool r, fun w hl => ?_, h⟩
  unfold execOp
  simp [hop, hx, hy, run_eqGuard_agg w .eql ty x y xs ys hgt, run_eql_struct, heq, Result.andThen, Oper.mildUpon]
end Go.Proofs.Ytfefnkeognccpaa
