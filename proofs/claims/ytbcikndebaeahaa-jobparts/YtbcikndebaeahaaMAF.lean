import Derived.Deep.Slices
import Derived.Deep.WholeRow
import Derived.Test.YtbcikndebaeahaaMAE
import Derived.Test.YtbcikndebaeahaaMAB
import Derived.Test.YtbcikndebaeahaaMAC
import Derived.Test.YtbcikndebaeahaaMAD
namespace Go.Proofs.Ytbcikndebaeahaa
open Go.ChangeShapes Go.WideShapes Go.ChangeAt Go.RowKit
set_option linter.unusedVariables false
set_option maxRecDepth 4000
set_option linter.unusedSimpArgs false
/-! Calls in regions that draw their order; rows that lie in another block than one's own. -/
theorem wpM_call {P : Program} {ops : Array Oper} {G : Act → World → Prop} {i : Nat} {o : Oper} {μ : List Nat} {a : Act} {b : World} (ho : ops[i]? = some o) (hw : Region.wanted o (yielded ops a.tmps) = true) (f : FuncId) (hp : Plain P f) (xs : List Operand) (ts : Array TypeId) (hop : o.op = .call { callee := .value (.func f), args := xs.toArray, argTypes := ts }) (us : List Value) (hx : xs.map a.eval = us)
    (v : Value) (hc : ∀ w, Later b w → Calls P f us.toArray w fun e w' => e = .returned v ∧ Later w w')
    (h : wpM P ops G μ (a.put o.dst v) b) : wpM P ops G (i :: μ) a b := by
  refine ⟨o, ho, ?_⟩
  rw [if_pos hw]
  refine ⟨v, fun w hl => ?_, h⟩
  rw [run_call f hp xs ts hop us hx]
  exact ⟨rfl, hc w hl⟩
def OffS (g : Nat) : Value → Prop
  | .slice (some a) n _ => n = 0 ∨ a.block ≠ g
  | _ => True
theorem Rw.off {sz : Nat} {w w' : World} {v : Value} {n : Nat} {xs : List Value} {g : Nat} (h : Rw sz w v n xs) (hx : OffS g v) (hg : w.grownBy w' (some g)) : Rw sz w' v n xs := by
  obtain ⟨h1, h2, a, cap, rfl, hc, h3⟩ := h
  refine ⟨h1, h2, a, cap, rfl, hc, ?_⟩
  rcases h3 with h3 | ⟨b, off, rfl, hr⟩
  · exact .inl h3
  · rcases hx with hx | hx
    · exact .inl hx
    · refine .inr ⟨b, off, rfl, fun j u hu => ?_⟩
      have h4 := hr j u hu
      have hlt : b < w.heap.size := World.block_lt_of_cell? w _ h4
      have he := hg.block b hlt (fun e => hx (by cases e; rfl))
      rw [← h4]
      simp only [World.cell?, he]
/-- rows that are there lie in no block that comes -/
theorem Rw.old {sz : Nat} {w : World} {v : Value} {n : Nat} {xs : List Value} (h : Rw sz w v n xs) (hsz : 0 < sz) {g : Nat} (hg : w.heap.size ≤ g) : OffS g v := by
  obtain ⟨h1, h2, a, cap, rfl, hc, h3⟩ := h
  rcases h3 with h3 | ⟨b, off, rfl, hr⟩
  · cases a with
    | none => exact trivial
    | some a => exact .inl h3
  · by_cases h0 : n = 0
    · exact .inl h0
    · refine .inr fun e => ?_
      have hp : 0 < xs.length := by rw [h1]; exact Nat.mul_pos (by omega) hsz
      have h4 := hr 0 _ (List.getElem?_eq_getElem hp)
      have hlt : b < w.heap.size := World.block_lt_of_cell? w _ h4
      have e' : b = g := e
      omega
theorem keepRw {sz : Nat} {w w' : World} {v u : Value} {n : Nat} {xs : List Value} (hg : w.grownBy w' v.ownBlock) (hx : ∀ g, v.ownBlock = some g → OffS g u) (h : Rw sz w u n xs) : Rw sz w' u n xs := by
  cases hv : v.ownBlock with
  | none => rw [hv] at hg; exact h.later (Below.grown0 hg)
  | some g => rw [hv] at hg; exact h.off (hx g hv) hg
theorem sVal_of_run {P : Program} {ops : Array Oper} {i : Nat} {o : Oper} {R : Value → World → Prop} {a : Act} {w : World} (ho : ops[i]? = some o) (hgd : o.guard = none) (v : Value) (w' : World) (hrun : (execOp a.eval o).run P w = .ok (.value v) w') (h : R v w') : sVal P ops i R a w := by
  unfold sVal
  simp only [ho]
  rw [if_pos (by simp [Region.wanted, hgd]), hrun]
  exact h
theorem sVal_store {P : Program} {ops : Array Oper} {i : Nat} {o : Oper} {R : Value → World → Prop} {a : Act} {w : World} (ho : ops[i]? = some o) (hgd : o.guard = none) (ty : TypeId) (x y : Operand) (hop : o.op = .store ty x y) (g : Nat) (cells : List Value) (hx : a.eval x = .pointer (some ⟨g, 0, none⟩)) (hy : a.eval y = .agg cells.toArray)
    (ht : w.there g 0 cells.length) (hi : (P.info? ty).map (·.size) = some cells.length) (h1 : ∀ v ∈ cells, v.oneCell' = true) (h : ∀ u, R u (w.setCells g 0 cells)) : sVal P ops i R a w := by
  unfold sVal
  simp only [ho]
  rw [if_pos (by simp [Region.wanted, hgd])]
  have hrun := run_storeAt_mid (P := P) w g 0 ty cells.toArray (by simpa using ht) (by simpa using hi) (all_oneCell_toArray h1)
  simp [execOp, hop, hx, hy, hrun, Result.andThen, sUpon]
  exact h _
theorem range_tail {w : World} {b o : Nat} {x : Value} {xs : List Value} (h : w.rangeAt b o (x :: xs)) : w.rangeAt b (o + 1) xs := fun j v hv => by
  have := h (j + 1) v (by simpa using hv)
  rwa [show o + (j + 1) = o + 1 + j from by omega] at this
theorem owns_head {w : World} {B : Nat} {e : TypeId} {sz : Nat} {v : Value} {n : Nat} {xs : List Value} (h : w.ownsRow B e sz v n xs) (hn : 0 < n) : ∃ g cap, v = .slice (some ⟨g, 0, none⟩) n cap ∧ B ≤ g := by
  rcases h.2 with ⟨_, h0⟩ | ⟨g, cap, cur, rfl, hb, _⟩
  · omega
  · exact ⟨g, cap, rfl, hb⟩
theorem wpT_loadG {P : Program} {ops : Array Oper} {Q : Exit → Act → World → Prop} {τ : List Nat} {i : Nat} {o : Oper} {σ μ : List Nat} {a : Act} {b : World} (ho : ops[i]? = some o) (hw : Region.wanted o (yielded ops a.tmps) = true) (ty : TypeId) (x : Operand) (hop : o.op = .load ty x)
    (k off : Nat) (hx : a.eval x = .pointer (some ⟨k, off, none⟩)) (cs : List Value) (d : TypeDesc) (hc : b.rangeAt k off cs) (hu : P.underlying ty = some d) (hd : d.isRow = true) (hi : (P.info? ty).map (·.size) = some cs.length)
    (h : wpT P ops Q τ σ μ (a.put o.dst (.agg cs.toArray)) b) : wpT P ops Q τ σ (i :: μ) a b := by
  refine ⟨o, ho, ?_⟩
  rw [if_pos hw]
  refine ⟨.agg cs.toArray, fun w hl => ?_, h⟩
  unfold execOp
  simp only [hop, hx, Instr.loadAt, Instr.sureAddr, Sem.run_bind, Sem.run_pure, Result.andThen_ok, run_loadVar_mid w k off ty cs d (hl.range hc) hu hd hi]
  simp [Oper.mildUpon]
theorem wpL_store {P : Program} {ops : Array Oper} {Q : Exit → Act → World → Prop} {τ : List Nat} {i : Nat} {o : Oper} {a : Act} {w : World} (ho : ops[i]? = some o) (hw : Region.wanted o (yielded ops a.tmps) = true) (ty : TypeId) (x y : Operand) (hop : o.op = .store ty x y)
    (b off : Nat) (cs : List Value) (hx : a.eval x = .pointer (some ⟨b, off, none⟩)) (hy : a.eval y = .agg cs.toArray) (ht : w.there b off cs.length) (hi : (P.info? ty).map (·.size) = some cs.length) (h1 : ∀ u ∈ cs, u.oneCell' = true)
    (h : wpL P ops Q τ (a.put o.dst undef) (w.setCells b off cs)) : wpL P ops Q (i :: τ) a w := by
  refine wpL_cons ho (fun K hK => ?_)
  rw [if_pos hw]
  exact wp_store_mid ty x y hop b off cs.toArray hx hy (by simpa using ht) (by simpa using hi) (all_oneCell_toArray h1) (hK _ _ h)
theorem owns_later {w w' : World} {B : Nat} {e : TypeId} {sz : Nat} {v : Value} {n : Nat} {xs : List Value} (h : w.ownsRow B e sz v n xs) (hl : Later w w') : w'.ownsRow B e sz v n xs :=
  owns_kept h fun g hg => hl.block g (h.lt g hg).2
/-- two results, the first one in a variable of its own -/
theorem results_cell_tmp {fn : Func} {p q : Tmp} {ty : TypeId} (h : fn.results = #[.cell p ty, .tmp q]) (tmps : Array Value) (P : Program) (w : World) (b o : Nat) (hp : tmps.getD p undef = .pointer (some ⟨b, o, none⟩)) (v u : Value) (hl : (loadVar ty ⟨b, o, none⟩).run P w = .ok v w) (hq : tmps.getD q undef = u) :
    (results fn tmps).run P w = .ok (.tuple #[v, u]) w := by
  have ha : (asAddr (tmps.getD p undef)).run P w = .ok ⟨b, o, none⟩ w := by rw [hp]; rfl
  simp only [results, h]
  simp only [List.mapM_toArray, Sem.run_bind]
  simp [ha, hl, hq, -Array.getD_eq_getD_getElem?]
theorem Box.all {w : World} {g : Nat} {t : TypeId} {xs : List Value} (h : Box w g t xs) (vs : List Value) (hl : vs.length = xs.length) : Box (w.setCells g 0 vs) g t vs := by
  have := h.setCells vs 0 (by omega)
  rw [List.take_zero, List.nil_append, List.drop_of_length_le (by omega), List.append_nil] at this
  exact this
theorem box_ne_own {w : World} {b : Nat} {t : TypeId} {xs : List Value} {B : Nat} {e : TypeId} {sz : Nat} {v : Value} {n : Nat} {ys : List Value} (hB : Box w b t xs) (ho : w.ownsRow B e sz v n ys) (hne : t ≠ e) (g : Nat) (hg : v.ownBlock = some g) : b ≠ g := by
  intro he
  subst he
  rcases ho.2 with ⟨rfl, _⟩ | ⟨g', cap, cur, rfl, _, hg', _⟩
  · simp [Value.ownBlock] at hg
  · simp [Value.ownBlock] at hg
    subst hg
    unfold Box at hB
    rw [hg'] at hB
    simp at hB
    exact hne hB.2.symm
theorem Box.kept {w w' : World} {g : Nat} {t : TypeId} {xs : List Value} (h : Box w g t xs) (hk : w'.heap[g]? = w.heap[g]?) : Box w' g t xs := by unfold Box; rw [hk]; exact h
theorem own_ne_own {w : World} {B B' : Nat} {e e' : TypeId} {sz sz' : Nat} {v v' : Value} {n n' : Nat} {xs ys : List Value} (h : w.ownsRow B e sz v n xs) (h' : w.ownsRow B' e' sz' v' n' ys) (hne : e ≠ e') (g : Nat) (hg : v.ownBlock = some g) : v'.ownBlock ≠ some g := by
  intro hg'
  rcases h.2 with ⟨rfl, _⟩ | ⟨g1, cap, cur, rfl, _, hc, _⟩
  · simp [Value.ownBlock] at hg
  · simp [Value.ownBlock] at hg
    subst hg
    rcases h'.2 with ⟨rfl, _⟩ | ⟨g2, cap', cur', rfl, _, hc', _⟩
    · simp [Value.ownBlock] at hg'
    · simp [Value.ownBlock] at hg'
      subst hg'
      rw [hc] at hc'
      simp at hc'
      exact hne hc'.2
theorem heap_setCells_other (w : World) (g k : Nat) (hk : k ≠ g) : ∀ (vs : List Value) (o : Nat), (w.setCells g o vs).heap[k]? = w.heap[k]? := by
  intro vs
  induction vs generalizing w with
  | nil => intro o; rfl
  | cons v vs ih => intro o; rw [World.setCells, ih]; exact heap_setCell_other w ⟨g, o, none⟩ k v hk
theorem owns_off {w : World} {B : Nat} {e : TypeId} {sz : Nat} {v : Value} {n : Nat} {xs : List Value} (h : w.ownsRow B e sz v n xs) {g : Nat} (hg : g < B) : OffS g v := by
  rcases h.2 with ⟨rfl, _⟩ | ⟨g', cap, cur, rfl, hb, _⟩
  · trivial
  · exact .inr (by simp; omega)
/-- 's[l:]' in a region that draws its order -/
theorem wpT_slice_lo {P : Program} {ops : Array Oper} {Q : Exit → Act → World → Prop} {τ σ : List Nat} {i : Nat} {o : Oper} {μ : List Nat} {a : Act} {b : World} {T e : TypeId} {sz : Nat} (ht : P.underlying T = some (.slice e)) (hs : (P.info? e).map (·.size) = some sz)
    (hoi : ops[i]? = some o) (hw : Region.wanted o (yielded ops a.tmps) = true) (x lo : Operand) (ho : o.op = .slice T x (some lo) none none) (ad : Option Addr) (n cap : Nat) (hx : a.eval x = .slice ad n cap) (kd : IntKind) (l : Nat) (hlo : a.eval lo = .int kd (l : Int)) (hl : l ≤ n)
    (h : wpT P ops Q τ σ μ (a.put o.dst (Go.sliced ad l n cap sz)) b) : wpT P ops Q τ σ (i :: μ) a b := by
  refine ⟨o, hoi, ?_⟩
  rw [if_pos hw]
  refine ⟨Go.sliced ad l n cap sz, fun w _ => ?_, h⟩
  have hrun : (Instr.sliceAt T (.slice ad n cap) (some (.int kd (l : Int))) none none).run P w = .ok (Go.sliced ad l n cap sz) w := by
    rw [run_sliceAt_slice w T _ _ _ _ (elem_of ht), run_slice_l w T ad n cap (elem_of ht) kd _ (by omega) (by omega), elem_is ht, run_size hs]
    simp [Result.andThen]
  unfold execOp
  simp [ho, hx, hlo, hrun, Result.andThen, Oper.mildUpon]
/-- 'append(a, b...)', a our own: in a's own block, or in a new one -/
theorem run_append_rw2 {P : Program} {w : World} {T e ty : TypeId} {sz bytes : Nat} {z : Value} (he : Elem P e sz bytes z) (ht : P.underlying T = some (.slice e)) (hz : z.cells.size = sz) (hsz : 0 < sz) (B : Nat)
    (v : Value) (n : Nat) (xs : List Value) (hown : w.ownsRow B e sz v n xs) (u : Value) (m : Nat) (ys : List Value) (hu : Rw sz w u m ys) (h1 : ∀ q ∈ ys, q.oneCell' = true)
    (hbytes : (n + m) * bytes ≤ 140737488355328) (hlen : n + m ≤ maxLen) (hbase : B ≤ w.heap.size) :
    ∃ v' w', (Builtin.append_ #[T, T] ty #[v, u]).run P w = .ok v' w' ∧ w'.ownsRow B e sz v' (n + m) (xs ++ ys) ∧ w.grownBy w' v.ownBlock ∧ ∀ g, v'.ownBlock = some g → v.ownBlock = some g ∨ w.heap.size ≤ g := by
  by_cases hm0 : m = 0
  · subst hm0
    have hys : ys = [] := List.eq_nil_of_length_eq_zero (by rw [hu.1]; simp)
    subst hys
    obtain ⟨i0, hi, hz0, hz1, hz2⟩ := he
    obtain ⟨hl, hm, ad, cap, rfl, hcap, _⟩ := hu
    refine ⟨v, w, ?_, by simpa using hown, World.grownBy.refl _ _, fun g hg => .inl hg⟩
    rcases hown.2 with ⟨rfl, h0⟩ | ⟨g, c, cur, rfl, hbg, hg, hc, hmm, hs, ht'⟩
    · cases ad with
      | none => simp [Builtin.append_, run_underlying ht, sizeOf, typeInfo, hi, Builtin.lenOf, Builtin.firstCells]
      | some ad =>
        have hfc := run_firstCells_some (P := P) w i0.size 0 ad 0 cap [] (by simp) (by simp)
        simp [Builtin.append_, run_underlying ht, sizeOf, typeInfo, hi, Builtin.lenOf, hfc]
    · cases ad with
      | none => simp [Builtin.append_, run_underlying ht, sizeOf, typeInfo, hi, Builtin.lenOf, Builtin.firstCells, hc, storeCells]
      | some ad =>
        have hfc := run_firstCells_some (P := P) w i0.size 0 ad 0 cap [] (by simp) (by simp)
        simp [Builtin.append_, run_underlying ht, sizeOf, typeInfo, hi, Builtin.lenOf, hfc, hc, storeCells]
  · obtain ⟨au, cu, rfl⟩ := hu.shape
    obtain ⟨bu, ou, rfl, _⟩ := hu.lies? (by omega)
    obtain ⟨i0, hi, hz0, hz1, hz2⟩ := he
    rcases hown.2 with ⟨rfl, h0⟩ | ⟨g, c, cur, rfl, hbg, hg, hc, hmm, hs, ht'⟩
    · subst h0
      have hxs : xs = [] := List.eq_nil_of_length_eq_zero (by rw [hown.1]; simp)
      subst hxs
      obtain ⟨v', w', r1, r2, r3, _⟩ := run_append_own (P := P) w w.heap.size T ty e i0 z sz bytes ht hi hz0 hz1 hz2 hz hsz (.slice none 0 0) 0 [] (World.ownsRow_nil w _ e sz) ⟨bu, ou, none⟩ m cu ys hu.1 hu.lies h1 hlen hbytes (Nat.le_refl _)
      exact ⟨v', w', r1, owns_rebase r2 hbase, r3, fun g hg => .inr (r2.lt g hg).1⟩
    · by_cases hfit : n + m ≤ c
      · obtain ⟨w', r1, r2, r3⟩ := run_append_fits (P := P) w B T ty e i0 sz ht hi hz1 g n c xs hown ⟨bu, ou, none⟩ m cu ys hu.1 hu.lies h1 hfit
        exact ⟨_, w', r1, r2, r3, fun g' hg' => .inl hg'⟩
      · obtain ⟨v', w', r1, r2, r3⟩ := run_append_arg_grows (P := P) w T ty e i0 z sz bytes ht hi hz0 hz1 hz2 hz hsz ⟨g, 0, none⟩ n c xs hown.1 (hown.cells (g := g) rfl) ⟨bu, ou, none⟩ m cu ys hu.1 hu.lies (by omega) hlen hbytes
        refine ⟨v', w', r1, owns_rebase r2 hbase, ⟨r3.os, r3.tape, r3.output, r3.size, fun k hk _ => r3.block k hk (by simp)⟩, fun g' hg' => .inr (r2.lt g' hg').1⟩
/-- 'append', and in which block its answer lies -/
theorem wpList_append_rw2 {P : Program} {w : World} {ops : Array Oper} {rest : List Oper} {o : Oper} {a : Act} {Q : Exit → Act → World → Prop} {T e : TypeId} {sz bytes : Nat} {z : Value} (he : Elem P e sz bytes z) (ht : P.underlying T = some (.slice e)) (hz : z.cells.size = sz) (hsz : 0 < sz)
    (hgd : o.guard = none) (s x : Operand) (ho : o.op = .call { callee := .builtin .append, args := #[s, x], argTypes := #[T, T] }) (B : Nat)
    (v : Value) (n : Nat) (xs : List Value) (hs : a.eval s = v) (hown : w.ownsRow B e sz v n xs) (u : Value) (m : Nat) (ys : List Value) (hx : a.eval x = u) (hu : Rw sz w u m ys) (h1 : ∀ q ∈ ys, q.oneCell' = true)
    (hbytes : (n + m) * bytes ≤ 140737488355328) (hlen : n + m ≤ maxLen) (hbase : B ≤ w.heap.size)
    (h : ∀ v' w', w'.ownsRow B e sz v' (n + m) (xs ++ ys) → w.grownBy w' v.ownBlock → (∀ g, v'.ownBlock = some g → v.ownBlock = some g ∨ w.heap.size ≤ g) → wpList P ops Q rest (a.put o.dst v') w') : wpList P ops Q (o :: rest) a w := by
  refine wpList_plain hgd fun K hK => ?_
  obtain ⟨v', w', hrun, r1, r2, r3⟩ := run_append_rw2 (P := P) (ty := o.type) he ht hz hsz B v n xs hown u m ys hu h1 hbytes hlen hbase
  unfold Go.Oper.wp
  simp [execOp, ho, resolve, invoke, builtin, hs, hx, hrun, Result.andThen]
  exact hK _ _ (h v' w' r1 r2 r3)
def OffM (g : Nat) (v : Value) : Prop := ∃ vb vd, v = .agg #[vb, vd] ∧ OffS g vb ∧ OffS g vd
end Go.Proofs.Ytbcikndebaeahaa

namespace Go.Proofs.Ytbcikndebaeahaa
open Go.ChangeShapes Go.WideShapes Go.ChangeAt Go.RowKit
set_option linter.unusedVariables false
set_option maxRecDepth 20000
set_option linter.unusedSimpArgs false
section
variable {H : Type} {enc : TypeId × Value → H} {P : Program} {w : World} {r : Reach} {base : Nat} {t : TypeId} {v : Value} {d : DataW H} {p : List MemPlace}
theorem flatten_len {sz : Nat} (f : Nat → List Value) (hf : ∀ i, (f i).length = sz) : ∀ n : Nat, (((List.range n).map f).flatten).length = n * sz := by
  intro n
  induction n with
  | zero => simp
  | succ n ih => rw [List.range_succ, List.map_append, List.flatten_append, List.length_append, ih]; simp [hf, Nat.add_mul]
theorem flatten_get {sz : Nat} (f : Nat → List Value) (hf : ∀ i, (f i).length = sz) (hsz : 0 < sz) : ∀ (n j : Nat), j < n * sz → (((List.range n).map f).flatten)[j]? = (f (j / sz))[j % sz]? := by
  intro n
  induction n with
  | zero => intro j hj; simp at hj
  | succ n ih =>
    intro j hj
    rw [List.range_succ, List.map_append, List.flatten_append]
    have hl := flatten_len f hf n
    by_cases h : j < n * sz
    · rw [List.getElem?_append_left (by omega)]; exact ih j h
    · rw [List.getElem?_append_right (by omega), hl]
      have h1 : j < n * sz + sz := by rw [Nat.add_mul] at hj; omega
      have e1 : j / sz = n := by
        apply Nat.div_eq_of_lt_le
        · omega
        · rw [Nat.add_mul]; omega
      have e2 : j % sz = j - n * sz := by rw [Nat.mod_eq_sub_mul_div, e1, Nat.mul_comm]
      simp [e1, e2]
/-- A slice of whatever elements, S what the cells of one of them are. -/
theorem rd_rows {e : TypeId} {sz : Nat} (ht : P.underlying t = some (.slice e)) (hce : P.cellsOf e = sz) (hsz : 0 < sz) (S : List Value → Prop)
    (hS : ∀ fuel cs x, DataW.trod enc P w 0 (fun _ => true) true fuel e cs = some x → S cs) (hv : Value.okWide P w r base t v) (h : DataW.Trod enc P w 0 (fun _ => true) true t v d p) :
    ∃ css : List (List Value), (∀ cs ∈ css, S cs ∧ cs.length = sz) ∧ Rw sz w v css.length css.flatten := by
  obtain ⟨a, len, cap, rfl⟩ := okWide_slice ht hv
  obtain ⟨fuel, hf⟩ := h
  rcases Deep.open_slice ht hf with ⟨hcs, _⟩ | ⟨x, l, c, m, n, D, Pl, hcs, _, hl, hm, hmm, _, hel⟩
  · simp [Value.cells] at hcs
    obtain ⟨rfl, rfl, rfl⟩ := hcs
    exact ⟨[], by simp, Rw.nil _ _⟩
  · simp [Value.cells] at hcs
    obtain ⟨e1, e2, e3⟩ := hcs
    subst e1 e2 e3
    by_cases h0 : len = 0
    · subst h0
      exact ⟨[], by simp, by simp, by simp, some x, cap, rfl, by omega, .inl rfl⟩
    · have hmc : m = cap := by simpa using hmm
      subst hmc
      have hspot : x.spot = none := by
        obtain ⟨cs, h1, h2⟩ := hel 0 (by omega)
        rw [hce] at h1
        have hc := World.cells?_some h1
        have h3 := hc.2.2 0 hsz
        rw [List.getElem?_eq_getElem (by rw [hc.2.1]; exact hsz)] at h3
        have h4 := World.cell?_spot h3
        clear h3 hc h1 h2 hel hf
        obtain ⟨b, off, spot⟩ := x
        cases spot with
        | none => rfl
        | some q => simp [Addr.add] at h4
      obtain ⟨b, off, spot⟩ := x
      simp at hspot
      subst hspot
      have hch : ∀ i, ∃ cs : List Value, cs.length = sz ∧ (i < len → S cs ∧ ∀ j, j < sz → w.cell? ⟨b, off + (i * sz + j), none⟩ = cs[j]?) := by
        intro i
        by_cases hi : i < len
        · obtain ⟨cs, h1, h2⟩ := hel i (by omega)
          rw [hce] at h1
          have hc := World.cells?_some h1
          refine ⟨cs, hc.2.1, fun _ => ⟨hS _ _ _ h2, fun j hj => ?_⟩⟩
          rw [← hc.2.2 j hj, Addr.add_mid, Addr.add_mid, Nat.add_assoc]
        · exact ⟨List.replicate sz undef, by simp, fun h => absurd h hi⟩
      obtain ⟨f, hf'⟩ := Classical.axiomOfChoice hch
      have hfl := flatten_len f (fun i => (hf' i).1) len
      refine ⟨(List.range len).map f, ?_, ?_⟩
      · intro cs hcs
        obtain ⟨i, hi, rfl⟩ := List.mem_map.1 hcs
        exact ⟨((hf' i).2 (by simpa using hi)).1, (hf' i).1⟩
      · rw [show ((List.range len).map f).length = len from by simp]
        refine ⟨hfl, by omega, some ⟨b, off, none⟩, m, rfl, hl, .inr ⟨b, off, rfl, fun j u hu => ?_⟩⟩
        have hj : j < len * sz := by have := (List.getElem?_eq_some_iff.1 hu).1; omega
        rw [flatten_get f (fun i => (hf' i).1) hsz len j hj] at hu
        have hd : j / sz < len := Nat.div_lt_of_lt_mul (by rw [Nat.mul_comm]; exact hj)
        have := ((hf' (j / sz)).2 hd).2 (j % sz) (Nat.mod_lt _ hsz)
        rw [← hu, ← this]
        congr 3
        have := Nat.div_add_mod j sz
        rw [Nat.mul_comm] at this
        omega
/-- An array of bytes, as cells. -/
theorem shape_bytes {n : Nat} {e : TypeId} (ht : P.underlying t = some (.array n e)) (he : P.underlying e = some (.int .u8)) (hc : P.cellsOf e = 1) (hct : P.cellsOf t = n) (fuel : Nat) (cs : List Value) (x : DataW H × List MemPlace)
    (h : DataW.trod enc P w 0 (fun _ => true) true fuel t cs = some x) : ∃ X : List UInt8, X.length = n ∧ cs = bv X := by
  obtain ⟨xs, m, _, _, hl, hxs, hall⟩ := DataW.trod_array ht h
  rw [hct] at hl
  have hget : ∀ i, i < n → ∃ b : UInt8, cs[i]? = some (.int .u8 (b.toNat : Int)) := by
    intro i hi
    have h1 := hall i hi
    rw [hc, Nat.mul_one] at h1
    have h2 : (List.drop i cs).take 1 = [cs[i]'(by omega)] := by
      rw [List.drop_eq_getElem_cons (by omega), List.take_succ_cons, List.take_zero]
    rw [h2, List.getElem?_eq_getElem (by omega)] at h1
    obtain ⟨z, e0, _, wz⟩ := DataW.trod_int he h1
    simp at e0
    have hb := bounds_u8 wz
    obtain ⟨y, rfl⟩ := Int.eq_ofNat_of_zero_le hb.1
    refine ⟨UInt8.ofNat y, ?_⟩
    rw [List.getElem?_eq_getElem (by omega), e0, UInt8.toNat_ofNat']
    congr 3
    omega
  have hch : ∀ i, ∃ b : UInt8, i < n → cs[i]? = some (.int .u8 (b.toNat : Int)) := fun i => by
    by_cases hi : i < n
    · obtain ⟨b, hb⟩ := hget i hi; exact ⟨b, fun _ => hb⟩
    · exact ⟨0, fun h => absurd h hi⟩
  obtain ⟨f, hf⟩ := Classical.axiomOfChoice hch
  refine ⟨(List.range n).map f, by simp, ?_⟩
  apply List.ext_getElem?
  intro i
  by_cases hi : i < n
  · rw [hf i hi]; simp [bv, hi]
  · rw [List.getElem?_eq_none (by omega), List.getElem?_eq_none (by simp [bv]; omega)]
end
theorem bv_flatten : ∀ css : List (List Value), (∀ cs ∈ css, ∃ X : List UInt8, X.length = 64 ∧ cs = bv X) → ∃ F : List UInt8, css.flatten = bv F
  | [], _ => ⟨[], rfl⟩
  | c :: css, h => by
    obtain ⟨X, _, rfl⟩ := h c (by simp)
    obtain ⟨F, hF⟩ := bv_flatten css (fun cs hcs => h cs (by simp [hcs]))
    exact ⟨X ++ F, by rw [List.flatten_cons, hF, bv_append]⟩
end Go.Proofs.Ytbcikndebaeahaa

namespace Go.Proofs.Ytbcikndebaeahaa
open Go.ChangeShapes Go.WideShapes Go.ChangeAt Go.RowKit
set_option linter.unusedVariables false
set_option maxRecDepth 4000
set_option linter.unusedSimpArgs false
/-! Media: blocks as flat bytes, the cached writes as a list of places and bytes. -/
abbrev Drt := Int × List UInt8
def dv (D : List Drt) : List Value := D.flatMap fun d => .int .i64 d.1 :: bv d.2
def Ok (D : List Drt) : Prop := ∀ d ∈ D, d.2.length = 64 ∧ -9223372036854775808 ≤ d.1 ∧ d.1 ≤ 9223372036854775807
def Med (w : World) (v : Value) (n : Nat) (F : List UInt8) (D : List Drt) : Prop :=
  ∃ vb vd, v = .agg #[vb, vd] ∧ Rw 64 w vb n (bv F) ∧ Rw 65 w vd D.length (dv D) ∧ Ok D
theorem dv_cons (d : Drt) (D : List Drt) : dv (d :: D) = (.int .i64 d.1 :: bv d.2) ++ dv D := by simp [dv]
theorem dv_append (D E : List Drt) : dv (D ++ E) = dv D ++ dv E := by simp [dv]
theorem dv_one (D : List Drt) : ∀ u ∈ dv D, u.oneCell' = true := by
  intro u hu
  simp only [dv, List.mem_flatMap] at hu
  obtain ⟨d, _, hd⟩ := hu
  rcases List.mem_cons.1 hd with rfl | h
  · rfl
  · exact bv_one _ u h
theorem Ok.tail {d : Drt} {D : List Drt} (h : Ok (d :: D)) : Ok D := fun x hx => h x (by simp [hx])
theorem Ok.append {D E : List Drt} (h : Ok D) (h' : Ok E) : Ok (D ++ E) := fun x hx => by
  rcases List.mem_append.1 hx with hx | hx
  · exact h x hx
  · exact h' x hx
theorem dv_drop : ∀ (D : List Drt) (k : Nat), Ok D → (dv D).drop (k * 65) = dv (D.drop k)
  | D, 0, _ => by simp
  | [], k + 1, _ => by simp [dv]
  | d :: D, k + 1, h => by
    have hl : (Value.int .i64 d.1 :: bv d.2).length = 65 := by simp [bv_length, (h d (by simp)).1]
    rw [dv_cons, List.drop_succ_cons, ← dv_drop D k h.tail, List.drop_append, hl, List.drop_of_length_le (by omega), List.nil_append]
    congr 1; omega
theorem dv_part (D : List Drt) (k : Nat) (hk : k < D.length) (h : Ok D) : ((dv D).drop (k * 65)).take 65 = .int .i64 D[k].1 :: bv D[k].2 := by
  have hl : (Value.int .i64 D[k].1 :: bv D[k].2).length = 65 := by simp [bv_length, (h D[k] (List.getElem_mem hk)).1]
  rw [dv_drop D k h, List.drop_eq_getElem_cons hk, dv_cons]
  have := List.take_left (l₁ := Value.int .i64 D[k].1 :: bv D[k].2) (l₂ := dv (D.drop (k + 1)))
  rw [hl] at this
  exact this
theorem dv_at (D : List Drt) (k : Nat) (hk : k < D.length) (h : Ok D) : (dv D)[k * 65]? = some (.int .i64 D[k].1) := by
  have := dv_part D k hk h
  have h2 := congrArg (fun l : List Value => l[0]?) this
  simpa [List.getElem?_take, List.getElem?_drop] using h2
def rightB (n : Nat) (D : List Drt) : Bool := decide (n ≤ 64 ∧ D.length ≤ 64 ∧ ∀ d ∈ D, 0 ≤ d.1 ∧ d.1 < n)
set_option maxHeartbeats 1000000 in
theorem rright_c {v : Value} {n : Nat} {F : List UInt8} {D : List Drt} (w : World) (h : Med w v n F D) :
    Calls Try.prog 21 #[v] w fun e w' => e = .returned (.bool (rightB n D)) ∧ Later w w' := by
  obtain ⟨vb, vd, rfl, hb, hd, hok⟩ := h
  obtain ⟨ab, cb, rfl⟩ := hb.shape
  obtain ⟨k, hk⟩ : ∃ k, k = D.length := ⟨_, rfl⟩
  rw [← hk] at hd
  obtain ⟨aD, cD, rfl⟩ := hd.shape
  have hn := hb.2.1
  have hkm := hd.2.1
  unfold maxLen at hn hkm
  have HD := hide hd
  have HK := hide hk
  have HO := hide hok
  clear hb hd hk hok
  have BX0 := hide (Box.new w 25 #[.slice ab n cb, .slice aD k cD])
  have L0 := hide ((Later.refl w).alloc (.cells #[.slice ab n cb, .slice aD k cD] 25))
  by_cases h1 : 64 < n
  · go_enter Try.func21, Try.ntmps21
    go_wp2
    go_ret
    exact ⟨ret_bool (by simp [rightB]; omega), L0.out⟩
  by_cases h2 : 64 < k
  · go_enter Try.func21, Try.ntmps21
    go_wp2
    go_ret
    exact ⟨ret_bool (by have := HK.out; simp [rightB]; omega), L0.out⟩
  go_enter Try.func21, Try.ntmps21
  go_wp2_with fail
  go_loopw [3] (fun i wr => ∃ q : Nat, q ≤ k ∧ i = .int .i64 q ∧ Hid (∀ j (hj : j < D.length), j < q → 0 ≤ D[j].1 ∧ D[j].1 < n) ∧ Hid (Box wr w.heap.size 25 [.slice ab n cb, .slice aD k cD]) ∧ Hid (Later w wr)) (fun i _ => k - (intOf i).toNat)
  case atStart => exact ⟨0, Nat.zero_le _, rfl, fun _ _ h => by omega, BX0, L0⟩
  case round =>
    clear BX0 L0
    obtain ⟨q, hq, rfl, hall, hbx, hl⟩ := hrel
    by_cases hlt : q < k
    · obtain ⟨bD, oD, e, hr⟩ := (HD.out.later hl.out).lies? (by omega)
      subst e
      have hqD : q < D.length := by have := HK.out; omega
      have hz := HO.out D[q] (List.getElem_mem hqD)
      have hcell := hr _ _ (dv_at D q hqD HO.out)
      have hin : Hid (∀ z, z = D[q].1 → (0 ≤ z ∧ z < n) → ∀ j (hj : j < D.length), j < q + 1 → 0 ≤ D[j].1 ∧ D[j].1 < n) := by
        intro z hz1 hz2 j hj hjq
        by_cases hjq' : j = q
        · subst hjq'; rw [← hz1]; exact hz2
        · exact hall.out j hj (by omega)
      have hno : Hid (∀ z, z = D[q].1 → ¬ (0 ≤ z ∧ z < n) → rightB n D = false) := by
        intro z hz1 hz2
        simp only [rightB, decide_eq_false_iff_not]
        intro ⟨_, _, h⟩
        exact hz2 (by rw [hz1]; exact h _ (List.getElem_mem hqD))
      generalize hzz : D[q].1 = z at *
      have HZ := hide hzz.symm
      have hzb := hz.2
      clear hzz hz hall hr
      have hc0 := fun r => (Box.later hbx.out ((Later.refl wr).drew.trans (later_rg wr.drew r))).cell 0
      have hc1 := fun r => (Box.later hbx.out ((Later.refl wr).drew.trans (later_rg wr.drew r))).cell 1
      have hc2 := fun r => ((Later.refl wr).drew.trans (later_rg wr.drew r)).cellOf hcell
      have hd0 := hbx.out.cell 0
      have hd1 := hbx.out.cell 1
      go_wp2_with fail
      refine wp_region_sched ((List.range 19).map fun i => (i, false)) (by kernel_rfl) (by kernel_rfl) (by kernel_rfl) (by kernel_rfl) ?_
      simp only [List.range, List.range.loop, List.map]
      by_cases c1 : z < 0
      · iterate 19 (refine wpS_mild rfl (fun K hK => ?_); go_simp; refine hK _ ?_; clear hK K)
        refine wpS_nil (fun wx hwx => ?_)
        have Lx := hide (hl.out.drew.trans hwx)
        clear hc0 hc1 hc2 hd0 hd1 hcell hwx
        go_wp2
        go_ret
        exact ⟨ret_bool (hno.out z rfl (by omega)).symm, Lx.out⟩
      · by_cases c2 : (n : Int) ≤ z
        · iterate 19 (refine wpS_mild rfl (fun K hK => ?_); go_simp; refine hK _ ?_; clear hK K)
          refine wpS_nil (fun wx hwx => ?_)
          have Lx := hide (hl.out.drew.trans hwx)
          clear hc0 hc1 hc2 hd0 hd1 hcell hwx
          go_wp2
          go_ret
          exact ⟨ret_bool (hno.out z rfl (by omega)).symm, Lx.out⟩
        · iterate 19 (refine wpS_mild rfl (fun K hK => ?_); go_simp; refine hK _ ?_; clear hK K)
          refine wpS_nil (fun wx hwx => ?_)
          have Lx := hide (hl.out.drew.trans hwx)
          have Bx := hide (Box.later hbx.out ((Later.refl wr).drew.trans hwx))
          clear hc0 hc1 hc2 hd0 hd1 hcell hwx
          go_wp2
          go_roundw
          case rel => exact ⟨q + 1, by omega, by go_num, hin.out z rfl (by omega), Bx, Lx⟩
          case measure => simp [intOf]; omega
    · have hd1 := hbx.out.cell 1
      go_wp2
      go_ret
      refine ⟨ret_bool ?_, hl.out⟩
      have hk := HK.out
      symm
      simp only [rightB, decide_eq_true_eq]
      refine ⟨by omega, by omega, fun d hd => ?_⟩
      obtain ⟨j, hj, rfl⟩ := List.mem_iff_getElem.1 hd
      exact hall.out j hj (by omega)
end Go.Proofs.Ytbcikndebaeahaa

namespace Go.Proofs.Ytbcikndebaeahaa
open Go.ChangeShapes Go.WideShapes Go.ChangeAt Go.RowKit
set_option linter.unusedVariables false
set_option maxRecDepth 20000
set_option linter.unusedSimpArgs false
def z65 : Value := .agg (#[.int .i64 0] ++ Array.replicate 64 (.int .u8 0))
theorem z65_size : z65.cells.size = 65 := rfl
theorem Try.elem_dirty : Elem Try.prog 79 65 72 z65 := by
  have h : (Try.prog.info? 79).map (fun i => (i.zero, i.size, i.bytes)) = some (some z65, 65, 72) := by kernel_rfl
  obtain ⟨i, hi, h1, h2, h3⟩ := info_parts h
  exact ⟨i, hi, h1, h2, h3⟩
/-- the zero of a cached write, its cells behind a name of their own -/
def zc65 : Array Value := #[.int .i64 0] ++ Array.replicate 64 (.int .u8 0)
@[simp] theorem zc65_size : zc65.size = 65 := by unfold zc65; simp
@[simp] theorem zc65_ne : zc65 ≠ #[] := fun h => by have := congrArg Array.size h; simp at this
@[simp] theorem Try.zero_dirty_run (w : World) : Sem.run Try.prog (zeroValue 79) w = .ok (.agg zc65) w :=
  (zero_of_info (P := Try.prog) (n := 65) (by kernel_rfl)).1 w
theorem Med.later {w w' : World} {v : Value} {n : Nat} {F : List UInt8} {D : List Drt} (h : Med w v n F D) (hl : Later w w') : Med w' v n F D := by
  obtain ⟨vb, vd, rfl, hb, hd, hok⟩ := h
  exact ⟨vb, vd, rfl, hb.later hl, hd.later hl, hok⟩
theorem Rw.setCell_apart {sz : Nat} {w : World} {v : Value} {n : Nat} {xs : List Value} {a : Addr} {u u' : Value} (h : Rw sz w v n xs) (hc : w.cell? a = some u) (hu : u ∉ xs) : Rw sz (w.setCell a u') v n xs := by
  obtain ⟨h1, h2, a', cap, rfl, hcap, h3⟩ := h
  refine ⟨h1, h2, a', cap, rfl, hcap, ?_⟩
  rcases h3 with h3 | ⟨b, off, ha, hr⟩
  · exact .inl h3
  · refine .inr ⟨b, off, ha, fun j x hx => ?_⟩
    have hne : a ≠ ⟨b, off + j, none⟩ := fun e => by
      have := hr j x hx
      rw [← e, hc] at this
      cases this
      exact hu (List.mem_of_getElem? hx)
    rw [World.cell?_setCell_other _ _ _ _ hne]; exact hr j x hx
theorem bv_noslice (l : List UInt8) {a : Option Addr} {n c : Nat} : Value.slice a n c ∉ bv l := fun h => by
  obtain ⟨b, _, e⟩ := List.mem_map.1 h
  cases e
theorem dv_noslice (D : List Drt) {a : Option Addr} {n c : Nat} : Value.slice a n c ∉ dv D := fun h => by
  simp only [dv, List.mem_flatMap] at h
  obtain ⟨d, _, hd⟩ := h
  rcases List.mem_cons.1 hd with e | h
  · cases e
  · exact bv_noslice _ h
def greatB (n : Nat) (D : List Drt) : Bool := decide (70 < n ∨ 70 < D.length)
theorem rgreat_c {v : Value} {n : Nat} {F : List UInt8} {D : List Drt} (w : World) (h : Med w v n F D) :
    Calls Try.prog 26 #[v] w fun e w' => e = .returned (.bool (greatB n D)) ∧ Later w w' := by
  obtain ⟨vb, vd, rfl, hb, hd, hok⟩ := h
  obtain ⟨ab, cb, rfl⟩ := hb.shape
  obtain ⟨k, hk⟩ : ∃ k, k = D.length := ⟨_, rfl⟩
  rw [← hk] at hd
  obtain ⟨aD, cD, rfl⟩ := hd.shape
  have hn := hb.2.1
  have hkm := hd.2.1
  unfold maxLen at hn hkm
  unfold greatB
  rw [← hk]
  have L0 := hide ((Later.refl w).alloc (.cells #[.slice ab n cb, .slice aD k cD] 25))
  clear hb hd hk hok
  by_cases h1 : 70 < n
  · go_enter Try.func26, Try.ntmps26
    go_wp2
    go_ret
    exact ⟨ret_bool (by first | (simp; done) | (simp; omega) | (rw [Bool.eq_iff_iff]; simp; omega)), L0.out⟩
  · by_cases h2 : 70 < k
    · go_enter Try.func26, Try.ntmps26
      go_wp2
      go_ret
      exact ⟨ret_bool (by first | (simp; done) | (simp; omega) | (rw [Bool.eq_iff_iff]; simp; omega)), L0.out⟩
    · go_enter Try.func26, Try.ntmps26
      go_wp2
      go_ret
      exact ⟨ret_bool (by first | (simp; done) | (simp; omega) | (rw [Bool.eq_iff_iff]; simp; omega)), L0.out⟩
set_option maxRecDepth 20000 in
set_option maxHeartbeats 1000000 in
theorem rcopy3_c {v : Value} {n : Nat} {F : List UInt8} {D : List Drt} (w : World) (h : Med w v n F D) (hn' : n ≤ 1000) (hD' : D.length ≤ 1000) :
    Calls Try.prog 41 #[v] w fun e w' => ∃ v', e = .returned v' ∧ Later w w' ∧ Med w' v' n F D := by
  obtain ⟨vb, vd, rfl, hb, hd, hok⟩ := h
  obtain ⟨ab, cb, rfl⟩ := hb.shape
  obtain ⟨k, hk⟩ : ∃ k, k = D.length := ⟨_, rfl⟩
  rw [← hk] at hd hD'
  obtain ⟨aD, cD, rfl⟩ := hd.shape
  have HD := hide hd
  have HB := hide hb
  have HK := hide hk
  have HO := hide hok
  clear hb hd hk hok
  have BX0 := hide (Box.new w 25 #[.slice ab n cb, .slice aD k cD])
  have L0 := hide ((Later.refl w).alloc (.cells #[.slice ab n cb, .slice aD k cD] 25))
  go_enter Try.func41, Try.ntmps41
  go_wp2_with fail
  have BX := hide (BX0.out.alloc (.cells #[.slice none 0 0, .slice none 0 0] 25))
  have BR := hide (Box.new' (w.alloc (.cells #[.slice ab n cb, .slice aD k cD] 25)) 25 #[.slice none 0 0, .slice none 0 0] _ rfl (w.heap.size + 1) (by simp))
  have L1 := hide (L0.out.alloc (.cells #[.slice none 0 0, .slice none 0 0] 25))
  clear BX0 L0
  generalize ((w.alloc (.cells #[.slice ab n cb, .slice aD k cD] 25)).alloc (.cells #[.slice none 0 0, .slice none 0 0] 25)) = w1 at *
  have hc0 := fun r => (Box.later BX.out ((Later.refl w1).drew.trans (later_rg w1.drew r))).cell 0
  have hc1 := fun r => (Box.later BX.out ((Later.refl w1).drew.trans (later_rg w1.drew r))).cell 1
  refine wp_region_tree [0, 1, 4, 5] [2, 3, 6] [7, 8] (by kernel_rfl) (by kernel_rfl) (by kernel_rfl) (by kernel_rfl) ?_
  iterate 4 (refine wpT_mild rfl (fun K hK => ?_); go_simp; refine hK _ ?_; clear hK K)
  clear hc0 hc1
  refine wpT_bag (fun i => match i with | 6 => [2, 3] | _ => []) (fun i vals W => match i with
    | 2 => Rw 64 W (vals 2) n (bv F)
    | 3 => ∃ g, vals 3 = .slice (some ⟨g, 0, none⟩) 0 0 ∧ W.ownsRow w1.heap.size 79 65 (vals 3) 0 []
    | 6 => Rw 65 W (vals 6) k (dv D)
    | _ => True) (by kernel_rfl) ?b1 ?b2 ?b3 ?b4
  case b1 =>
    intro i hi vals W W' hl h
    simp only [List.mem_cons, List.not_mem_nil, or_false] at hi
    rcases hi with rfl | rfl | rfl
    · exact Rw.later h hl
    · obtain ⟨g, h1, h2⟩ := h; exact ⟨g, h1, owns_kept h2 fun g hg => hl.block g (h2.lt g hg).2⟩
    · exact Rw.later h hl
  case b2 =>
    intro i hi k hk hne hds vals v W h
    simp only [List.mem_cons, List.not_mem_nil, or_false] at hi hk
    rcases hi with rfl | rfl | rfl <;> rcases hk with rfl | rfl | rfl <;> first | (exact absurd rfl hne) | (simpa [upd] using h) | (simp at hds)
  case b3 =>
    intro i hi vals W hl hdep
    have L1W := (Later.refl w1).drew.trans hl
    have LW := hide (L1.out.trans L1W)
    simp only [List.mem_cons, List.not_mem_nil, or_false] at hi
    rcases hi with rfl | rfl | rfl
    · refine lVal_step rfl (fun K hK => ?_)
      simp only [putAll, List.foldl]
      go_simp
      refine (rcopy_c W W.heap.size (Nat.le_refl _) (HB.out.later LW.out) (by omega)).mono ?_
      rintro e w3 ⟨v3, rfl, hl3, ho3⟩
      exact ⟨v3, rfl, hl3, hK _ _ (by simpa [upd] using Rw.of_owns ho3)⟩
    · refine lVal_step rfl (fun K hK => ?_)
      simp only [putAll, List.foldl]
      go_simp
      refine ⟨(Later.refl W).alloc _, hK _ _ ⟨W.heap.size, by simp [upd], ?_⟩⟩
      have := World.ownsRow_lit (e := 79) (size := 65) W #[] 0 L1W.size (by simp [maxLen]) rfl
      simpa [upd] using this
    · obtain ⟨g, hg, ho⟩ := hdep 3 (by simp)
      rw [hg] at ho
      refine lVal_append_lit Try.elem_dirty Try.underlying23 z65_size (by decide) rfl rfl (.tmp 6) (.tmp 8) rfl w1.heap.size g ?_ ho L1W.size _ k (dv D) rfl (HD.out.later LW.out) (dv_one _) (by omega) ?_
      · show vals 3 = _
        exact hg
      · intro v' w' h
        simpa [upd] using Rw.of_owns h
  case b4 =>
    intro vals w7 hl hall
    have hw7 := (Later.refl w1).drew.trans hl
    have h2 : Rw 64 w7 (vals 2) n (bv F) := hall 2 (by simp)
    have h6 : Rw 65 w7 (vals 6) k (dv D) := hall 6 (by simp)
    generalize hv2 : vals 2 = v2 at *
    generalize hv6 : vals 6 = v6 at *
    have W6 := hide h2
    have V6 := hide h6
    obtain ⟨a3, c3, rfl⟩ := h2.shape
    obtain ⟨a6, c6, rfl⟩ := h6.shape
    have R6 := hide (Box.later BR.out hw7)
    have L6 := hide (L1.out.trans hw7)
    clear h2 h6 hall hl hw7
    have c0 := R6.out.cell 0
    have c1 := R6.out.cell 1
    have f0 := R6.out.frozen 0
    have f1 := R6.out.frozen 1
    refine wpL_cons rfl (fun K hK => ?_)
    simp only [putAll, List.foldl, dstOf]
    go_simp
    refine hK _ _ ?_
    clear hK K
    refine wpL_cons rfl (fun K hK => ?_)
    go_simp
    refine hK _ _ (wpL_nil ?_)
    clear hK K
    have R8 : Hid (Box ((w7.setCell ⟨w.heap.size + 1, 0, none⟩ (.slice a3 n c3)).setCell ⟨w.heap.size + 1, 1, none⟩ (.slice a6 k c6)) (w.heap.size + 1) 25 [.slice a3 n c3, .slice a6 k c6]) := (R6.out.set 0 _).set 1 _
    have L8 : Hid (Later w ((w7.setCell ⟨w.heap.size + 1, 0, none⟩ (.slice a3 n c3)).setCell ⟨w.heap.size + 1, 1, none⟩ (.slice a6 k c6))) := (L6.out.setCell (by simp) _).setCell (by simp) _
    have W8 : Hid (Rw 64 ((w7.setCell ⟨w.heap.size + 1, 0, none⟩ (.slice a3 n c3)).setCell ⟨w.heap.size + 1, 1, none⟩ (.slice a6 k c6)) (.slice a3 n c3) n (bv F)) :=
      (W6.out.setCell_apart c0 (bv_noslice F)).setCell_apart (u := .slice none 0 0) (by rw [(R6.out.set 0 _).cell 1]; rfl) (bv_noslice F)
    have V8 : Hid (Rw 65 ((w7.setCell ⟨w.heap.size + 1, 0, none⟩ (.slice a3 n c3)).setCell ⟨w.heap.size + 1, 1, none⟩ (.slice a6 k c6)) (.slice a6 k c6) k (dv D)) :=
      (V6.out.setCell_apart c0 (dv_noslice D)).setCell_apart (u := .slice none 0 0) (by rw [(R6.out.set 0 _).cell 1]; rfl) (dv_noslice D)
    clear c0 c1 f0 f1 L6 V6 W6 R6
    generalize ((w7.setCell ⟨w.heap.size + 1, 0, none⟩ (.slice a3 n c3)).setCell ⟨w.heap.size + 1, 1, none⟩ (.slice a6 k c6)) = w8 at *
    go_wp2
    refine bodyPost_ret (results_cell1 rfl _ _ _ (w.heap.size + 1) 0 rfl (.agg #[.slice a3 n c3, .slice a6 k c6]) (run_loadVar_mid _ _ _ _ [.slice a3 n c3, .slice a6 k c6] _ R8.out.range Try.underlying25 rfl (by kernel_rfl))) rfl ⟨_, rfl, L8.out, _, _, rfl, W8.out, ?_, HO.out⟩
    rw [← HK.out]
    exact V8.out
end Go.Proofs.Ytbcikndebaeahaa
