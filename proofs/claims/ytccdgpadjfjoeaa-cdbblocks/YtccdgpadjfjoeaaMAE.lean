import Derived.Deep.WholeRow
import Derived.Test.YtccdgpadjfjoeaaMAC
import Derived.Test.YtccdgpadjfjoeaaMAD
import Derived.Test.YtccdgpadjfjoeaaMAB
namespace Go.Proofs.Ytccdgpadjfjoeaa
open Go.ChangeShapes Go.WideShapes Go.ChangeAt Go.RowKit
set_option linter.unusedVariables false
set_option linter.unusedSimpArgs false

def z65 : Value := .agg (#[.int .i64 0] ++ Array.replicate 64 (.int .u8 0))
theorem z65_size : z65.cells.size = 65 := rfl
theorem Med.later {w w' : World} {v : Value} {n : Nat} {F : List UInt8} {D : List Drt} (h : Med w v n F D) (hl : Later w w') : Med w' v n F D := by
  obtain ⟨vb, vd, rfl, hb, hd, hok⟩ := h
  exact ⟨vb, vd, rfl, hb.later hl, hd.later hl, hok⟩

theorem Rw.setCell_apart {sz : Nat} {w : World} {v : Value} {n : Nat} {xs : List Value} {a : Addr} {u u' : Value} (h : Rw sz w v n xs) (hc : w.cell? a = some u) (hu : u ∉ xs) : Rw sz (w.setCell a u') v n xs := by
  obtain ⟨h1, h2, a', cap, rfl, hcap, h3⟩ := h
  refine ⟨h1, h2, a', cap, rfl, hcap, ?_⟩
  rcases h3 with h3 | ⟨b, off, ha, hr⟩
  · exact .inl h3
  · refine .inr ⟨b, off, ha, fun j x hx => ?_⟩
    have hne : a ≠ ⟨b, off + j, none⟩ := fun e => by
      have := hr j x hx
      rw [← e, hc] at this
      cases this
      exact hu (List.mem_of_getElem? hx)
    rw [World.cell?_setCell_other _ _ _ _ hne]; exact hr j x hx
theorem bv_noslice (l : List UInt8) {a : Option Addr} {n c : Nat} : Value.slice a n c ∉ bv l := fun h => by
  obtain ⟨b, _, e⟩ := List.mem_map.1 h
  cases e
theorem dv_noslice (D : List Drt) {a : Option Addr} {n c : Nat} : Value.slice a n c ∉ dv D := fun h => by
  simp only [dv, List.mem_flatMap] at h
  obtain ⟨d, _, hd⟩ := h
  rcases List.mem_cons.1 hd with e | h
  · cases e
  · exact bv_noslice _ h

def greatB (n : Nat) (D : List Drt) : Bool := decide (70 < n ∨ 70 < D.length)
end Go.Proofs.Ytccdgpadjfjoeaa

namespace Go.Proofs.Ytccdgpadjfjoeaa
open Go.ChangeShapes Go.WideShapes Go.ChangeAt Go.RowKit
set_option linter.unusedVariables false
set_option linter.unusedSimpArgs false

theorem map_two {α β : Type} {f : α → β} {l : List α} {x y : β} (h : l.map f = [x, y]) : ∃ a b, l = [a, b] ∧ f a = x ∧ f b = y := by
  match l, h with
  | [a, b], h => simp at h; exact ⟨a, b, rfl, h.1, h.2⟩
  | [_], h => simp at h
  | _ :: _ :: _ :: _, h => simp at h
theorem part_int {P : Program} {t : TypeId} (w : World) (ht : P.underlying t = some (.int .i64)) (a : Int) (X : List UInt8) : (part t (Value.int .i64 a :: bv X).toArray 0).run P w = .ok (.int .i64 a) w := by
  simp [part, isAgg, run_underlying ht]
theorem part_arr {P : Program} {t e : TypeId} (w : World) (ht : P.underlying t = some (.array 64 e)) (hs : (P.info? t).map (·.size) = some 64) (a : Int) (X : List UInt8) (hX : X.length = 64) : (part t (Value.int .i64 a :: bv X).toArray 1).run P w = .ok (.agg (bv X).toArray) w := by
  have : (bv X).take 64 = bv X := List.take_of_length_le (by rw [bv_length]; omega)
  simp [part, isAgg, run_underlying ht, run_size hs, this]
theorem eqFields_two {P : Program} (w : World) (d : Nat) (xs ys : Array Value) (f g : Field) (hf : f.name ≠ "_") (hg : g.name ≠ "_") (a b a' b' : Value) (r r' : Bool)
    (p1 : (part f.type xs f.offset).run P w = .ok a w) (p2 : (part f.type ys f.offset).run P w = .ok b w) (p3 : (Op.equalIn d f.type a b).run P w = .ok r w)
    (q1 : (part g.type xs g.offset).run P w = .ok a' w) (q2 : (part g.type ys g.offset).run P w = .ok b' w) (q3 : (Op.equalIn d g.type a' b').run P w = .ok r' w) :
    (Op.eqFields d xs ys [f, g]).run P w = .ok (r && r') w := by
  simp only [Op.eqFields, hf, hg, ne_eq, not_false_eq_true, if_true, Sem.run_bind, p1, p2, p3, q1, q2, q3, Result.andThen_ok]
  cases r <;> cases r' <;> simp [Sem.run_bind, q1, q2, q3, Result.andThen_ok]
/-- '!=' of two structs or arrays, in a region that draws its order -/
theorem wpS_neqG {P : Program} {ops : Array Oper} {Q : Act → World → Prop} {i : Nat} {o : Oper} {σ : List (Nat × Bool)} {a : Act} {b : World} (ho : ops[i]? = some o) (hw : Region.wanted o (yielded ops a.tmps) = true) (ty tt : TypeId) (x y : Operand) (hop : o.op = .binOp .neq ty x y tt)
    (xs ys : Array Value) (hx : a.eval x = .agg xs) (hy : a.eval y = .agg ys) (hgt : P.eqGuardType P.depth ty = false) (r : Bool) (heq : ∀ w, (Op.equalIn 10000 ty (.agg xs) (.agg ys)).run P w = .ok r w)
    (h : wpS P ops Q σ (a.put o.dst (.bool (!r))) b) : wpS P ops Q ((i, false) :: σ) a b := by
  refine ⟨o, ho, ?_⟩
  rw [if_pos hw]
  refine ⟨.bool (!r), fun w hl => ?_, h⟩
  unfold execOp
  simp [hop, hx, hy, run_eqGuard_agg w .neq ty x y xs ys hgt, run_neq_struct, heq, Result.andThen, Oper.mildUpon]

end Go.Proofs.Ytccdgpadjfjoeaa

namespace Go.Proofs.Ytccdgpadjfjoeaa
open Go.ChangeShapes Go.WideShapes Go.ChangeAt Go.RowKit
set_option linter.unusedVariables false
set_option linter.unusedSimpArgs false

/-! Structs that come in, whatever is in them. -/
section
variable {H : Type} {enc : TypeId × Value → H} {P : Program} {w : World} {t : TypeId}

/-- A slice of whatever elements, as cells. -/
theorem shape_rows {e : TypeId} {sz : Nat} (ht : P.underlying t = some (.slice e)) (hce : P.cellsOf e = sz) (hsz : 0 < sz) (S : List Value → Prop)
    (hS : ∀ fuel cs x, DataW.trod enc P w 0 (fun _ => true) true fuel e cs = some x → S cs) (fuel : Nat) (cs : List Value) (x : DataW H × List MemPlace) (hf : DataW.trod enc P w 0 (fun _ => true) true fuel t cs = some x) :
    ∃ (v : Value) (css : List (List Value)), cs = [v] ∧ (∀ c ∈ css, S c ∧ c.length = sz) ∧ Rw sz w v css.length css.flatten := by
  rcases Deep.open_slice ht hf with ⟨rfl, _⟩ | ⟨x, len, cap, m, n, D, Pl, rfl, _, hl, hm, hmm, _, hel⟩
  · exact ⟨_, [], rfl, by simp, Rw.nil _ _⟩
  · by_cases h0 : len = 0
    · subst h0
      exact ⟨_, [], rfl, by simp, by simp, by simp, some x, cap, rfl, by omega, .inl rfl⟩
    · have hmc : m = cap := by simpa using hmm
      subst hmc
      have hspot : x.spot = none := by
        obtain ⟨cs, h1, h2⟩ := hel 0 (by omega)
        rw [hce] at h1
        have hc := World.cells?_some h1
        have h3 := hc.2.2 0 hsz
        rw [List.getElem?_eq_getElem (by rw [hc.2.1]; exact hsz)] at h3
        have h4 := World.cell?_spot h3
        clear h3 hc h1 h2 hel hf
        obtain ⟨b, off, spot⟩ := x
        cases spot with
        | none => rfl
        | some q => simp [Addr.add] at h4
      obtain ⟨b, off, spot⟩ := x
      simp at hspot
      subst hspot
      have hch : ∀ i, ∃ cs : List Value, cs.length = sz ∧ (i < len → S cs ∧ ∀ j, j < sz → w.cell? ⟨b, off + (i * sz + j), none⟩ = cs[j]?) := by
        intro i
        by_cases hi : i < len
        · obtain ⟨cs, h1, h2⟩ := hel i (by omega)
          rw [hce] at h1
          have hc := World.cells?_some h1
          refine ⟨cs, hc.2.1, fun _ => ⟨hS _ _ _ h2, fun j hj => ?_⟩⟩
          rw [← hc.2.2 j hj, Addr.add_mid, Addr.add_mid, Nat.add_assoc]
        · exact ⟨List.replicate sz undef, by simp, fun h => absurd h hi⟩
      obtain ⟨f, hf'⟩ := Classical.axiomOfChoice hch
      have hfl := flatten_len f (fun i => (hf' i).1) len
      refine ⟨_, (List.range len).map f, rfl, ?_, ?_⟩
      · intro cs hcs
        obtain ⟨i, hi, rfl⟩ := List.mem_map.1 hcs
        exact ⟨((hf' i).2 (by simpa using hi)).1, (hf' i).1⟩
      · rw [show ((List.range len).map f).length = len from by simp]
        refine ⟨hfl, by omega, some ⟨b, off, none⟩, m, rfl, hl, .inr ⟨b, off, rfl, fun j u hu => ?_⟩⟩
        have hj : j < len * sz := by have := (List.getElem?_eq_some_iff.1 hu).1; omega
        rw [flatten_get f (fun i => (hf' i).1) hsz len j hj] at hu
        have hd : j / sz < len := Nat.div_lt_of_lt_mul (by rw [Nat.mul_comm]; exact hj)
        have := ((hf' (j / sz)).2 hd).2 (j % sz) (Nat.mod_lt _ hsz)
        rw [← hu, ← this]
        congr 3
        have := Nat.div_add_mod j sz
        rw [Nat.mul_comm] at this
        omega
/-- A field of a struct, as cells. -/
theorem shape_field {fs : Array Field} {L : List (TypeId × Nat)} (ht : P.underlying t = some (.struct fs)) (hL : fs.toList.map (fun f => (f.type, f.offset)) = L) (i : Nat) (ty : TypeId) (off : Nat) (hi : L[i]? = some (ty, off))
    {fuel : Nat} {cs : List Value} {x : DataW H × List MemPlace} (h : DataW.trod enc P w 0 (fun _ => true) true fuel t cs = some x) : cs.length = P.cellsOf t ∧ ∃ m y, DataW.trod enc P w 0 (fun _ => true) true m ty ((cs.drop off).take (P.cellsOf ty)) = some y := by
  obtain ⟨xs, n, _, _, hl, hxs, hall⟩ := DataW.trod_struct ht h
  rw [← hL, List.getElem?_map, Option.map_eq_some_iff] at hi
  obtain ⟨f, hf, he⟩ := hi
  simp only [Prod.mk.injEq] at he
  obtain ⟨rfl, rfl⟩ := he
  have hlt : i < fs.size := by have := (List.getElem?_eq_some_iff.1 hf).1; simpa using this
  have := hall i f (by simpa using hf)
  rw [List.getElem?_eq_getElem (by omega)] at this
  exact ⟨hl, n, _, this⟩
theorem shape_int {k : IntKind} (ht : P.underlying t = some (.int k)) {fuel : Nat} {cs : List Value} {x : DataW H × List MemPlace} (h : DataW.trod enc P w 0 (fun _ => true) true fuel t cs = some x) : ∃ n : Int, cs = [.int k n] ∧ (Lit.int k n).wf = true := by
  obtain ⟨n, h1, _, h2⟩ := DataW.trod_int ht h
  exact ⟨n, h1, h2⟩
theorem shape_u8 (ht : P.underlying t = some (.int .u8)) {fuel : Nat} {cs : List Value} {x : DataW H × List MemPlace} (h : DataW.trod enc P w 0 (fun _ => true) true fuel t cs = some x) : ∃ c : UInt8, cs = [.int .u8 (c.toNat : Int)] := by
  obtain ⟨n, h1, h2⟩ := shape_int ht h
  have hx := bounds_u8 h2
  obtain ⟨y, rfl⟩ := Int.eq_ofNat_of_zero_le hx.1
  refine ⟨UInt8.ofNat y, ?_⟩
  rw [h1, UInt8.toNat_ofNat']
  congr 3
  omega
theorem shape_bool (ht : P.underlying t = some .bool) {fuel : Nat} {cs : List Value} {x : DataW H × List MemPlace} (h : DataW.trod enc P w 0 (fun _ => true) true fuel t cs = some x) : ∃ b : Bool, cs = [.bool b] := by
  obtain ⟨b, h1, _⟩ := DataW.trod_bool ht h
  exact ⟨b, h1⟩
end
theorem agg_of {cs : Array Value} {l : List Value} (h : cs.toList = l) : Value.agg cs = .agg l.toArray := by rw [← h]
theorem two_cells {cs : List Value} {a b : Value} (h : cs.length = 2) (h0 : (cs.drop 0).take 1 = [a]) (h1 : (cs.drop 1).take 1 = [b]) : cs = [a, b] := by
  match cs, h with
  | [x, y], _ => simp at h0 h1; rw [h0, h1]

section
variable {H : Type} {enc : TypeId × Value → H} {w : World} {r : Reach} {base : Nat} {v : Value} {d : DataW H} {p : List MemPlace}
theorem dv_flatten : ∀ css : List (List Value), (∀ cs ∈ css, ∃ D : Drt, (D.2.length = 64 ∧ -9223372036854775808 ≤ D.1 ∧ D.1 ≤ 9223372036854775807) ∧ cs = .int .i64 D.1 :: bv D.2) → ∃ D : List Drt, D.length = css.length ∧ Ok D ∧ css.flatten = dv D
  | [], _ => ⟨[], rfl, (fun d hd => by cases hd), rfl⟩
  | c :: css, h => by
    obtain ⟨X, hX, rfl⟩ := h c (by simp)
    obtain ⟨D, h1, h2, h3⟩ := dv_flatten css (fun cs hcs => h cs (by simp [hcs]))
    refine ⟨X :: D, by simp [h1], fun d hd => ?_, by rw [List.flatten_cons, h3, dv_cons]⟩
    rcases List.mem_cons.1 hd with rfl | hd
    · exact hX
    · exact h2 d hd
def RMed (w : World) (v : Value) : Prop := ∃ n F D, Med w v n F D
def RWrite3 (v : Value) : Prop := ∃ (X : List UInt8) (b : Bool), X.length = 64 ∧ v = .agg (bv X ++ [Value.bool b]).toArray
def RLoss (v : Value) : Prop := ∃ (c : UInt8) (m : Nat), m ≤ 18446744073709551615 ∧ v = .agg #[.int .u8 (c.toNat : Int), .int .u64 (m : Int)]
end
end Go.Proofs.Ytccdgpadjfjoeaa

namespace Go.Proofs.Ytccdgpadjfjoeaa
open Go.ChangeShapes Go.WideShapes Go.ChangeAt Go.RowKit
set_option linter.unusedVariables false
set_option linter.unusedSimpArgs false

/-! Variables of structs; calls in regions that draw their order. -/
theorem Later.later {a b c : World} (h : Later a b) (k : Later b c) : Later a c := h.trans k
theorem Bs.later {w b : World} {v : Value} {l : List UInt8} (h : Bs w v l) (hl : Later w b) : Bs b v l := h.below hl (Nat.le_refl _)
theorem put_eval {a : Act} {d : Tmp} {v : Value} (h : d < a.tmps.size) : (a.put (some d) v).eval (.tmp d) = v := by
  simp [Act.put, Act.eval, h]
/-- 'x := v', v a struct: a variable of its own -/
theorem wpList_new {P : Program} {w : World} {ops : Array Oper} {rest : List Oper} {o1 o2 : Oper} {a : Act} {Q : Exit → Act → World → Prop} (hg1 : o1.guard = none) (hg2 : o2.guard = none) (ty : TypeId) (h1 : o1.op = .alloc ty) (d : Tmp) (hd : o1.dst = some d) (hd' : d < a.tmps.size) (y : Operand) (hy' : y ≠ .tmp d) (h2 : o2.op = .store ty (.tmp d) y)
    (z : Array Value) (cells : List Value) (hz : (P.info? ty).map (fun i => (i.zero, i.size)) = some (some (.agg z), cells.length)) (hzs : z.size = cells.length) (hy : a.eval y = .agg cells.toArray) (h1c : ∀ v ∈ cells, v.oneCell' = true)
    (h : ∀ (g : Nat) (w' : World), Box w' g ty cells → Later w w' → Hid (g = w.heap.size ∧ w' = w.alloc (.cells cells.toArray ty)) → wpList P ops Q rest ((a.put (some d) (.pointer (some ⟨g, 0, none⟩))).put o2.dst undef) w') : wpList P ops Q (o1 :: o2 :: rest) a w := by
  obtain ⟨hzv, hsz⟩ := zero_of_info hz
  refine wpList_plain hg1 fun K hK => ?_
  have hr1 : (execOp a.eval o1).run P w = .ok (.value (.pointer (some ⟨w.heap.size, 0, none⟩))) (w.alloc (.cells z ty)) := by
    simp [execOp, h1, Instr.alloc, hzv, Result.andThen, newVar, newRow, Value.cells]
  unfold Go.Oper.wp
  rw [hr1]
  refine hK _ _ ?_
  rw [hd]
  refine wpList_plain hg2 fun K' hK' => ?_
  have he : (a.put (some d) (.pointer (some ⟨w.heap.size, 0, none⟩))).eval y = .agg cells.toArray := by
    rw [← hy]
    exact Act.eval_put fun t ht e => hy' (by rw [e]; cases ht; rfl)
  have hr2 := run_storeAt_new (P := P) w ty z cells.toArray (by simpa using hsz) (by simpa using hzs) (all_oneCell_toArray h1c)
  unfold Go.Oper.wp
  simp [execOp, h2, he, put_eval hd', hr2, Result.andThen]
  exact hK' _ _ (h _ _ (by simpa using Box.new w ty cells.toArray) ((Later.refl w).alloc _) ⟨rfl, rfl⟩)

/-- f is a function with a body -/
def Plain (P : Program) (f : FuncId) : Prop := (P.funcs[f]?).map (fun fn => (fn.name == "runtime.NumGoroutine", fn.body.isNone)) = some (false, false)
theorem Plain.of {P : Program} {f : FuncId} (h : (P.funcs[f]?).map (fun fn => (fn.name == "runtime.NumGoroutine", fn.body.isNone)) = some (false, false)) : Plain P f := h
theorem run_call {P : Program} {o : Oper} {a : Act} (f : FuncId) (hp : Plain P f) (xs : List Operand) (ts : Array TypeId) (hop : o.op = .call { callee := .value (.func f), args := xs.toArray, argTypes := ts }) (us : List Value) (hx : xs.map a.eval = us) (w : World) : (execOp a.eval o).run P w = .ok (.enter f us.toArray) w := by
  have hf : a.eval (.func f) = .func (.func f) #[] #[] := rfl
  unfold Plain at hp
  cases hq : P.funcs[f]? with
  | none => simp [hq] at hp
  | some fn =>
    simp only [hq, Option.map_some, Option.some.injEq, Prod.mk.injEq] at hp
    have hc : ∀ args, (callFunc f args).run P w = .ok (.enter f args) w := fun args => by
      have h1 : ¬ fn.name = "runtime.NumGoroutine" := by have := hp.1; simpa using this
      have h2 : ¬ fn.body = none := fun e => by have := hp.2; simp [e] at this
      simp [callFunc, hq, h1, h2]
    simp [execOp, hop, resolve, invoke, hf, hx, Result.andThen, Deferred.ofValue, hc]
/-- a call that gives one value, in a region that draws its order -/
theorem wpS_call {P : Program} {ops : Array Oper} {Q : Act → World → Prop} {i : Nat} {o : Oper} {σ : List (Nat × Bool)} {a : Act} {b : World} (ho : ops[i]? = some o) (hw : Region.wanted o (yielded ops a.tmps) = true) (f : FuncId) (hp : Plain P f) (xs : List Operand) (ts : Array TypeId) (hop : o.op = .call { callee := .value (.func f), args := xs.toArray, argTypes := ts }) (us : List Value) (hx : xs.map a.eval = us)
    (v : Value) (hc : ∀ w, Later b w → Calls P f us.toArray w fun e w' => e = .returned v ∧ Later w w')
    (h : wpS P ops Q σ (a.put o.dst v) b) : wpS P ops Q ((i, false) :: σ) a b := by
  refine ⟨o, ho, ?_⟩
  rw [if_pos hw]
  refine ⟨v, fun w hl => ?_, h⟩
  rw [run_call f hp xs ts hop us hx]
  exact ⟨rfl, hc w hl⟩
/-- a call that makes memory, where it alone may come up -/
theorem wpS_callL {P : Program} {ops : Array Oper} {Q : Act → World → Prop} {i : Nat} {o : Oper} {σ : List (Nat × Bool)} {a : Act} {b : World} (ho : ops[i]? = some o) (hw : Region.wanted o (yielded ops a.tmps) = true) (f : FuncId) (hp : Plain P f) (xs : List Operand) (ts : Array TypeId) (hop : o.op = .call { callee := .value (.func f), args := xs.toArray, argTypes := ts }) (us : List Value) (hx : xs.map a.eval = us)
    (R : Value → World → Prop) (hc : ∀ w, Later b w → Calls P f us.toArray w fun e w' => ∃ v, e = .returned v ∧ Later w w' ∧ R v w')
    (h : ∀ v b', Later b b' → R v b' → wpS P ops Q σ (a.put o.dst v) b') : wpS P ops Q ((i, true) :: σ) a b := by
  intro w hl
  unfold lOp
  simp only [ho]
  rw [if_pos hw]
  unfold Oper.loud
  rw [run_call f hp xs ts hop us hx]
  exact ⟨rfl, (hc w hl).mono fun e w'' ⟨v, he, hl', hr⟩ => ⟨v, he, hl', h v w'' (hl.trans hl') hr⟩⟩
/-- '==' of arrays or structs, in a region that draws its order -/
theorem wpS_eqG {P : Program} {ops : Array Oper} {Q : Act → World → Prop} {i : Nat} {o : Oper} {σ : List (Nat × Bool)} {a : Act} {b : World} (ho : ops[i]? = some o) (hw : Region.wanted o (yielded ops a.tmps) = true) (ty tt : TypeId) (x y : Operand) (hop : o.op = .binOp .eql ty x y tt)
    (xs ys : Array Value) (hx : a.eval x = .agg xs) (hy : a.eval y = .agg ys) (hgt : P.eqGuardType P.depth ty = false) (r : Bool) (heq : ∀ w, (Op.equalIn 10000 ty (.agg xs) (.agg ys)).run P w = .ok r w)
    (h : wpS P ops Q σ (a.put o.dst (.bool r)) b) : wpS P ops Q ((i, false) :: σ) a b := by
  refine ⟨o, ho, ?_⟩
  rw [if_pos hw]
  refine ⟨.bool r, fun w hl => ?_, h⟩
  unfold execOp
  simp [hop, hx, hy, run_eqGuard_agg w .eql ty x y xs ys hgt, run_eql_struct, heq, Result.andThen, Oper.mildUpon]
end Go.Proofs.Ytccdgpadjfjoeaa
