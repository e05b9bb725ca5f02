import Derived.Deep.WholeRow
import Derived.Test.YtoflkbilkkfekaaMAD
namespace Go.Proofs.Ytoflkbilkkfekaa
open Go.ChangeShapes Go.WideShapes Go.ChangeAt Go.RowKit
set_option linter.unusedVariables false
set_option linter.unusedSimpArgs false

/-! Laws of single operations, for bags and for last operations. -/
theorem run_append_rw {P : Program} {w : World} {T e ty : TypeId} {sz bytes : Nat} {z : Value} (he : Elem P e sz bytes z) (ht : P.underlying T = some (.slice e)) (hz : z.cells.size = sz) (hsz : 0 < sz) (B : Nat)
    (v : Value) (n : Nat) (xs : List Value) (hown : w.ownsRow B e sz v n xs) (u : Value) (m : Nat) (ys : List Value) (hu : Rw sz w u m ys) (h1 : ∀ q ∈ ys, q.oneCell' = true)
    (hbytes : (n + m) * bytes ≤ 140737488355328) (hlen : n + m ≤ maxLen) (hbase : B ≤ w.heap.size) :
    ∃ v' w', (Builtin.append_ #[T, T] ty #[v, u]).run P w = .ok v' w' ∧ w'.ownsRow B e sz v' (n + m) (xs ++ ys) ∧ w.grownBy w' v.ownBlock := by
  obtain ⟨i0, hi, hz0, hz1, hz2⟩ := he
  obtain ⟨hl, hm, ad, cap, rfl, hcap, hu⟩ := hu
  cases ad with
  | none =>
    have hm0 : m = 0 := by
      rcases hu with h | ⟨_, _, h, _⟩
      · exact h
      · cases h
    subst hm0
    have hys : ys = [] := List.eq_nil_of_length_eq_zero (by rw [hl]; simp)
    subst hys
    refine ⟨v, w, ?_, by simpa using hown, World.grownBy.refl _ _⟩
    rcases hown.2 with ⟨rfl, h0⟩ | ⟨g, c, cur, rfl, hbg, hg, hc, hmm, hsz, ht'⟩
    · simp [Builtin.append_, run_underlying ht, sizeOf, typeInfo, hi, Builtin.lenOf, Builtin.firstCells]
    · simp [Builtin.append_, run_underlying ht, sizeOf, typeInfo, hi, Builtin.lenOf, Builtin.firstCells, hc, storeCells]
  | some ad =>
    obtain ⟨v', w', r1, r2, r3, _⟩ := run_append_own (P := P) w B T ty e i0 z sz bytes ht hi hz0 hz1 hz2 hz hsz v n xs hown ad m cap ys hl (fun j q hq => by
      rcases hu with rfl | ⟨b, off, e', hc⟩
      · have : ys = [] := List.eq_nil_of_length_eq_zero (by rw [hl]; simp)
        subst this
        simp at hq
      · cases e'
        rw [Addr.add_mid]; exact hc j q hq) h1 hlen hbytes hbase
    exact ⟨v', w', r1, r2, r3⟩
/-- 'append([]T{}, x...)': one's own -/
theorem run_append_lit {P : Program} {w : World} {T e ty : TypeId} {sz bytes : Nat} {z : Value} (he : Elem P e sz bytes z) (ht : P.underlying T = some (.slice e)) (hz : z.cells.size = sz) (hsz : 0 < sz) (B : Nat) (g : Nat) (hown : w.ownsRow B e sz (.slice (some ⟨g, 0, none⟩) 0 0) 0 []) (hB : B ≤ w.heap.size)
    (u : Value) (m : Nat) (ys : List Value) (hu : Rw sz w u m ys) (h1 : ∀ q ∈ ys, q.oneCell' = true) (hbytes : m * bytes ≤ 140737488355328) :
    ∃ v' w', (Builtin.append_ #[T, T] ty #[.slice (some ⟨g, 0, none⟩) 0 0, u]).run P w = .ok v' w' ∧ w'.ownsRow B e sz v' m ys ∧ Later w w' := by
  obtain ⟨i0, hi, hz0, hz1, hz2⟩ := he
  have hu' := hu
  obtain ⟨hl, hm, au, c, rfl, hc, hcase⟩ := hu
  by_cases h0 : m = 0
  · subst h0
    have hy : ys = [] := List.eq_nil_of_length_eq_zero (by rw [hl]; simp)
    subst hy
    refine ⟨.slice (some ⟨g, 0, none⟩) 0 0, w, ?_, hown, Later.refl w⟩
    cases au with
    | none => simp [Builtin.append_, run_underlying ht, sizeOf, typeInfo, hi, Builtin.lenOf, Builtin.firstCells, storeCells]
    | some au =>
      have hfc := run_firstCells_some (P := P) w i0.size 0 au 0 c [] (by simp) (by simp)
      simp [Builtin.append_, run_underlying ht, sizeOf, typeInfo, hi, Builtin.lenOf, hfc, storeCells]
  · obtain ⟨b, off, rfl, _⟩ := hu'.lies? (by omega)
    obtain ⟨v', w', hrun, ho, hg⟩ := run_append_arg_grows (P := P) w T ty e i0 z sz bytes ht hi hz0 hz1 hz2 hz hsz ⟨g, 0, none⟩ 0 0 [] (by simp) (by simp) ⟨b, off, none⟩ m c ys hl hu'.lies (by omega) (by omega) (by rw [Nat.zero_add]; exact hbytes)
    refine ⟨v', w', hrun, ?_, Below.grown0 hg⟩
    have := owns_rebase ho hB
    simpa using this

theorem lVal_mono {P : Program} {ops : Array Oper} {i : Nat} {R R' : Value → World → Prop} {a : Act} {w : World} (hR : ∀ v w', Later w w' → R v w' → R' v w') (h : lVal P ops i R a w) : lVal P ops i R' a w := by
  unfold lVal at *
  split
  · rename_i ho; simp [ho] at h
  · rename_i o ho
    simp only [ho] at h
    split
    · rename_i hw
      simp only [hw, if_true] at h
      generalize (execOp a.eval o).run P w = r at *
      cases r with
      | ok n w' =>
        cases n <;> simp only [vUpon] at h ⊢
        case value u => exact ⟨h.1, hR _ _ h.1 h.2⟩
        case skip => exact ⟨h.1, hR _ _ h.1 h.2⟩
        case enter f args => exact ⟨h.1, h.2.mono fun e w'' ⟨u, he, hl, hk⟩ => ⟨u, he, hl, hR _ _ hl hk⟩⟩
      | halt x w' => simp only [vUpon] at h
    · rename_i hw
      simp only [hw] at h
      exact hR _ _ (Later.refl _) h
theorem lVal_of_run {P : Program} {ops : Array Oper} {i : Nat} {o : Oper} {R : Value → World → Prop} {a : Act} {w : World} (ho : ops[i]? = some o) (hgd : o.guard = none) (v : Value) (w' : World) (hrun : (execOp a.eval o).run P w = .ok (.value v) w') (hl : Later w w') (h : R v w') : lVal P ops i R a w := by
  unfold lVal
  simp only [ho]
  rw [if_pos (by simp [Region.wanted, hgd]), hrun]
  exact ⟨hl, h⟩
/-- in a bag: 'append([]T{}, x...)' -/
theorem lVal_append_lit {P : Program} {ops : Array Oper} {i : Nat} {o : Oper} {R : Value → World → Prop} {a : Act} {w : World} {T e : TypeId} {sz bytes : Nat} {z : Value} (he : Elem P e sz bytes z) (ht : P.underlying T = some (.slice e)) (hz : z.cells.size = sz) (hsz : 0 < sz)
    (hoi : ops[i]? = some o) (hgd : o.guard = none) (l x : Operand) (ho : o.op = .call { callee := .builtin .append, args := #[l, x], argTypes := #[T, T] }) (B g : Nat) (hl : a.eval l = .slice (some ⟨g, 0, none⟩) 0 0) (hown : w.ownsRow B e sz (.slice (some ⟨g, 0, none⟩) 0 0) 0 []) (hB : B ≤ w.heap.size)
    (u : Value) (m : Nat) (ys : List Value) (hx : a.eval x = u) (hu : Rw sz w u m ys) (h1 : ∀ q ∈ ys, q.oneCell' = true) (hbytes : m * bytes ≤ 140737488355328)
    (h : ∀ v' w', w'.ownsRow B e sz v' m ys → R v' w') : lVal P ops i R a w := by
  obtain ⟨v', w', hrun, hr, hl'⟩ := run_append_lit (P := P) (ty := o.type) he ht hz hsz B g hown hB u m ys hu h1 hbytes
  refine lVal_of_run hoi hgd v' w' ?_ hl' (h v' w' hr)
  simp [execOp, ho, resolve, invoke, builtin, hl, hx, hrun, Result.andThen]
/-- in a bag: a slice of one element, that is an aggregate -/
theorem lVal_buildOne {P : Program} {ops : Array Oper} {i : Nat} {o : Oper} {R : Value → World → Prop} {a : Act} {w : World} {T e : TypeId} {sz bytes : Nat} {z : Value} (he : Elem P e sz bytes z) (ht : P.underlying T = some (.slice e)) (hz : z.cells.size = sz) (hsz : 0 < sz) (hsm : sz ≤ 1000000)
    (hoi : ops[i]? = some o) (hgd : o.guard = none) (x : Operand) (ho : o.op = .buildSlice T 1 #[(0, x)]) (cs : List Value) (hx : a.eval x = .agg cs.toArray) (hl : cs.length = sz)
    (h : Rw sz (w.alloc (.cells cs.toArray e)) (.slice (some ⟨w.heap.size, 0, none⟩) 1 1) 1 cs → R (.slice (some ⟨w.heap.size, 0, none⟩) 1 1) (w.alloc (.cells cs.toArray e))) : lVal P ops i R a w := by
  have hR : Rw sz (w.alloc (.cells cs.toArray e)) (.slice (some ⟨w.heap.size, 0, none⟩) 1 1) 1 cs := by
    refine ⟨by omega, by simp [maxLen], _, 1, rfl, Nat.le_refl _, .inr ⟨w.heap.size, 0, rfl, ?_⟩⟩
    have := (Box.new w e cs.toArray).range
    simpa using this
  refine lVal_of_run hoi hgd (.slice (some ⟨w.heap.size, 0, none⟩) 1 1) _ ?_ ((Later.refl w).alloc _) (h hR)
  obtain ⟨i0, hi, hz0, hz1, hz2⟩ := he
  have := fill_one (.agg cs.toArray) sz ((Array.range (1 * sz)).map (z.cells[· % z.cells.size]!)) hsz (by simp [Value.cells, hl]) (by simp)
  have hrun := run_buildSlice (P := P) w T e 1 #[(0, a.eval x)] cs.toArray i0 z ht hi hz0 (by rw [hz1]; omega) (by rw [hz1]; omega) (by rw [hz1]; simpa [hx, Value.cells] using this)
  unfold execOp
  simp [ho, hrun, Result.andThen]
/-- behind a bag: 'append(a, b...)', a our own -/
theorem wpL_append_rw {P : Program} {ops : Array Oper} {Q : Exit → Act → World → Prop} {τ : List Nat} {i : Nat} {o : Oper} {a : Act} {w : World} {T e : TypeId} {sz bytes : Nat} {z : Value} (he : Elem P e sz bytes z) (ht : P.underlying T = some (.slice e)) (hz : z.cells.size = sz) (hsz : 0 < sz)
    (hoi : ops[i]? = some o) (hgd : o.guard = none) (s x : Operand) (ho : o.op = .call { callee := .builtin .append, args := #[s, x], argTypes := #[T, T] }) (B : Nat)
    (v : Value) (n : Nat) (xs : List Value) (hs : a.eval s = v) (hown : w.ownsRow B e sz v n xs) (u : Value) (m : Nat) (ys : List Value) (hx : a.eval x = u) (hu : Rw sz w u m ys) (h1 : ∀ q ∈ ys, q.oneCell' = true)
    (hbytes : (n + m) * bytes ≤ 140737488355328) (hlen : n + m ≤ maxLen) (hbase : B ≤ w.heap.size)
    (h : ∀ v' w', w'.ownsRow B e sz v' (n + m) (xs ++ ys) → w.grownBy w' v.ownBlock → wpL P ops Q τ (a.put o.dst v') w') : wpL P ops Q (i :: τ) a w := by
  refine wpL_cons hoi (fun K hK => ?_)
  rw [if_pos (by simp [Region.wanted, hgd])]
  obtain ⟨v', w', hrun, r1, r2⟩ := run_append_rw (P := P) (ty := o.type) he ht hz hsz B v n xs hown u m ys hu h1 hbytes hlen hbase
  unfold Go.Oper.wp
  simp [execOp, ho, resolve, invoke, builtin, hs, hx, hrun, Result.andThen]
  exact hK _ _ (h v' w' r1 r2)
/-- the cells of a part are laid -/
theorem fold_fill (o : Nat) : ∀ (xs : List Value) (i : Nat) (Z : Array Value), o + i + xs.length ≤ Z.size → List.foldl (fun (cs : Array Value) (x : Value × Nat) => cs.setIfInBounds (o + x.snd) x.fst) Z (xs.zipIdx i) = (Z.toList.take (o + i) ++ xs ++ Z.toList.drop (o + i + xs.length)).toArray
  | [], i, Z, _ => by simp
  | x :: xs, i, Z, h => by
    simp only [List.length_cons] at h
    rw [List.zipIdx_cons, List.foldl_cons, fold_fill o xs (i + 1) _ (by simp; omega)]
    have hz : o + i < Z.toList.length := by simp; omega
    rw [Array.toList_setIfInBounds, List.drop_set_of_lt (by omega), List.take_set, show o + (i + 1) = o + i + 1 from by omega, List.take_succ_eq_append_getElem hz, List.set_append_right _ _ (by simp; omega)]
    simp only [List.length_take, List.length_cons]
    rw [show o + i - min (o + i) Z.toList.length = 0 from by omega, List.set_cons_zero]
    simp
    omega
theorem dirty_build (v : Value) (xs : List Value) (Z : Array Value) (hZ : Z.size = 65) (hx : xs.length = 64) :
    (if ¬xs.length = 64 ∨ 65 < 1 + xs.length then none else some (List.foldl (fun (cs : Array Value) (x : Value × Nat) => cs.setIfInBounds (1 + x.snd) x.fst) (Z.setIfInBounds 0 v) xs.zipIdx)) = some (v :: xs).toArray := by
  rw [if_neg (by omega), fold_fill 1 xs 0 _ (by simp; omega)]
  have hl : Z.toList.length = 65 := by simpa using hZ
  congr 2
  rw [Array.toList_setIfInBounds, List.drop_of_length_le (by simp; omega), List.append_nil]
  obtain ⟨y, ys, hy⟩ : ∃ y ys, Z.toList = y :: ys := by
    cases h : Z.toList with
    | nil => rw [h] at hl; simp at hl
    | cons y ys => exact ⟨y, ys, rfl⟩
  rw [hy]
  simp
end Go.Proofs.Ytoflkbilkkfekaa

namespace Go.Proofs.Ytoflkbilkkfekaa
open Go.ChangeShapes Go.WideShapes Go.ChangeAt Go.RowKit
set_option linter.unusedVariables false
set_option linter.unusedSimpArgs false

/-! Variables of structs; calls in regions that draw their order. -/
theorem Later.later {a b c : World} (h : Later a b) (k : Later b c) : Later a c := h.trans k
theorem Bs.later {w b : World} {v : Value} {l : List UInt8} (h : Bs w v l) (hl : Later w b) : Bs b v l := h.below hl (Nat.le_refl _)
theorem put_eval {a : Act} {d : Tmp} {v : Value} (h : d < a.tmps.size) : (a.put (some d) v).eval (.tmp d) = v := by
  simp [Act.put, Act.eval, h]
/-- 'x := v', v a struct: a variable of its own -/
theorem wpList_new {P : Program} {w : World} {ops : Array Oper} {rest : List Oper} {o1 o2 : Oper} {a : Act} {Q : Exit → Act → World → Prop} (hg1 : o1.guard = none) (hg2 : o2.guard = none) (ty : TypeId) (h1 : o1.op = .alloc ty) (d : Tmp) (hd : o1.dst = some d) (hd' : d < a.tmps.size) (y : Operand) (hy' : y ≠ .tmp d) (h2 : o2.op = .store ty (.tmp d) y)
    (z : Array Value) (cells : List Value) (hz : (P.info? ty).map (fun i => (i.zero, i.size)) = some (some (.agg z), cells.length)) (hzs : z.size = cells.length) (hy : a.eval y = .agg cells.toArray) (h1c : ∀ v ∈ cells, v.oneCell' = true)
    (h : ∀ (g : Nat) (w' : World), Box w' g ty cells → Later w w' → Hid (g = w.heap.size ∧ w' = w.alloc (.cells cells.toArray ty)) → wpList P ops Q rest ((a.put (some d) (.pointer (some ⟨g, 0, none⟩))).put o2.dst undef) w') : wpList P ops Q (o1 :: o2 :: rest) a w := by
  obtain ⟨hzv, hsz⟩ := zero_of_info hz
  refine wpList_plain hg1 fun K hK => ?_
  have hr1 : (execOp a.eval o1).run P w = .ok (.value (.pointer (some ⟨w.heap.size, 0, none⟩))) (w.alloc (.cells z ty)) := by
    simp [execOp, h1, Instr.alloc, hzv, Result.andThen, newVar, newRow, Value.cells]
  unfold Go.Oper.wp
  rw [hr1]
  refine hK _ _ ?_
  rw [hd]
  refine wpList_plain hg2 fun K' hK' => ?_
  have he : (a.put (some d) (.pointer (some ⟨w.heap.size, 0, none⟩))).eval y = .agg cells.toArray := by
    rw [← hy]
    exact Act.eval_put fun t ht e => hy' (by rw [e]; cases ht; rfl)
  have hr2 := run_storeAt_new (P := P) w ty z cells.toArray (by simpa using hsz) (by simpa using hzs) (all_oneCell_toArray h1c)
  unfold Go.Oper.wp
  simp [execOp, h2, he, put_eval hd', hr2, Result.andThen]
  exact hK' _ _ (h _ _ (by simpa using Box.new w ty cells.toArray) ((Later.refl w).alloc _) ⟨rfl, rfl⟩)

/-- f is a function with a body -/
def Plain (P : Program) (f : FuncId) : Prop := (P.funcs[f]?).map (fun fn => (fn.name == "runtime.NumGoroutine", fn.body.isNone)) = some (false, false)
theorem Plain.of {P : Program} {f : FuncId} (h : (P.funcs[f]?).map (fun fn => (fn.name == "runtime.NumGoroutine", fn.body.isNone)) = some (false, false)) : Plain P f := h
theorem run_call {P : Program} {o : Oper} {a : Act} (f : FuncId) (hp : Plain P f) (xs : List Operand) (ts : Array TypeId) (hop : o.op = .call { callee := .value (.func f), args := xs.toArray, argTypes := ts }) (us : List Value) (hx : xs.map a.eval = us) (w : World) : (execOp a.eval o).run P w = .ok (.enter f us.toArray) w := by
  have hf : a.eval (.func f) = .func (.func f) #[] #[] := rfl
  unfold Plain at hp
  cases hq : P.funcs[f]? with
  | none => simp [hq] at hp
  | some fn =>
    simp only [hq, Option.map_some, Option.some.injEq, Prod.mk.injEq] at hp
    have hc : ∀ args, (callFunc f args).run P w = .ok (.enter f args) w := fun args => by
      have h1 : ¬ fn.name = "runtime.NumGoroutine" := by have := hp.1; simpa using this
      have h2 : ¬ fn.body = none := fun e => by have := hp.2; simp [e] at this
      simp [callFunc, hq, h1, h2]
    simp [execOp, hop, resolve, invoke, hf, hx, Result.andThen, Deferred.ofValue, hc]
/-- a call that gives one value, in a region that draws its order -/
theorem wpS_call {P : Program} {ops : Array Oper} {Q : Act → World → Prop} {i : Nat} {o : Oper} {σ : List (Nat × Bool)} {a : Act} {b : World} (ho : ops[i]? = some o) (hw : Region.wanted o (yielded ops a.tmps) = true) (f : FuncId) (hp : Plain P f) (xs : List Operand) (ts : Array TypeId) (hop : o.op = .call { callee := .value (.func f), args := xs.toArray, argTypes := ts }) (us : List Value) (hx : xs.map a.eval = us)
    (v : Value) (hc : ∀ w, Later b w → Calls P f us.toArray w fun e w' => e = .returned v ∧ Later w w')
    (h : wpS P ops Q σ (a.put o.dst v) b) : wpS P ops Q ((i, false) :: σ) a b := by
  refine ⟨o, ho, ?_⟩
  rw [if_pos hw]
  refine ⟨v, fun w hl => ?_, h⟩
  rw [run_call f hp xs ts hop us hx]
  exact ⟨rfl, hc w hl⟩
/-- a call that makes memory, where it alone may come up -/
theorem wpS_callL {P : Program} {ops : Array Oper} {Q : Act → World → Prop} {i : Nat} {o : Oper} {σ : List (Nat × Bool)} {a : Act} {b : World} (ho : ops[i]? = some o) (hw : Region.wanted o (yielded ops a.tmps) = true) (f : FuncId) (hp : Plain P f) (xs : List Operand) (ts : Array TypeId) (hop : o.op = .call { callee := .value (.func f), args := xs.toArray, argTypes := ts }) (us : List Value) (hx : xs.map a.eval = us)
    (R : Value → World → Prop) (hc : ∀ w, Later b w → Calls P f us.toArray w fun e w' => ∃ v, e = .returned v ∧ Later w w' ∧ R v w')
    (h : ∀ v b', Later b b' → R v b' → wpS P ops Q σ (a.put o.dst v) b') : wpS P ops Q ((i, true) :: σ) a b := by
  intro w hl
  unfold lOp
  simp only [ho]
  rw [if_pos hw]
  unfold Oper.loud
  rw [run_call f hp xs ts hop us hx]
  exact ⟨rfl, (hc w hl).mono fun e w'' ⟨v, he, hl', hr⟩ => ⟨v, he, hl', h v w'' (hl.trans hl') hr⟩⟩
/-- '==' of arrays or structs, in a region that draws its order -/
theorem wpS_eqG {P : Program} {ops : Array Oper} {Q : Act → World → Prop} {i : Nat} {o : Oper} {σ : List (Nat × Bool)} {a : Act} {b : World} (ho : ops[i]? = some o) (hw : Region.wanted o (yielded ops a.tmps) = true) (ty tt : TypeId) (x y : Operand) (hop : o.op = .binOp .eql ty x y tt)
    (xs ys : Array Value) (hx : a.eval x = .agg xs) (hy : a.eval y = .agg ys) (hgt : P.eqGuardType P.depth ty = false) (r : Bool) (heq : ∀ w, (Op.equalIn 10000 ty (.agg xs) (.agg ys)).run P w = .ok r w)
    (h : wpS P ops Q σ (a.put o.dst (.bool r)) b) : wpS P ops Q ((i, false) :: σ) a b := by
  refine ⟨o, ho, ?_⟩
  rw [if_pos hw]
  refine ⟨.bool r, fun w hl => ?_, h⟩
  unfold execOp
  simp [hop, hx, hy, run_eqGuard_agg w .eql ty x y xs ys hgt, run_eql_struct, heq, Result.andThen, Oper.mildUpon]
end Go.Proofs.Ytoflkbilkkfekaa
