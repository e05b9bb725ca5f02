import Derived.Deep.Onto
import Derived.Test.YtkbpecbpfajkfaaMAE
import Derived.Test.YtkbpecbpfajkfaaMAF
namespace Go.Proofs.Ytkbpecbpfajkfaa
open Go.ChangeShapes Go.WideShapes Go.ChangeAt Go.RowKit
set_option linter.unusedVariables false
set_option linter.unusedSimpArgs false

/-! Calls in regions that draw their order; rows that lie in another block than one's own. -/
theorem wpM_call {P : Program} {ops : Array Oper} {G : Act → World → Prop} {i : Nat} {o : Oper} {μ : List Nat} {a : Act} {b : World} (ho : ops[i]? = some o) (hw : Region.wanted o (yielded ops a.tmps) = true) (f : FuncId) (hp : Plain P f) (xs : List Operand) (ts : Array TypeId) (hop : o.op = .call { callee := .value (.func f), args := xs.toArray, argTypes := ts }) (us : List Value) (hx : xs.map a.eval = us)
    (v : Value) (hc : ∀ w, Later b w → Calls P f us.toArray w fun e w' => e = .returned v ∧ Later w w')
    (h : wpM P ops G μ (a.put o.dst v) b) : wpM P ops G (i :: μ) a b := by
  refine ⟨o, ho, ?_⟩
  rw [if_pos hw]
  refine ⟨v, fun w hl => ?_, h⟩
  rw [run_call f hp xs ts hop us hx]
  exact ⟨rfl, hc w hl⟩
theorem wpT_call {P : Program} {ops : Array Oper} {Q : Exit → Act → World → Prop} {τ σ : List Nat} {i : Nat} {o : Oper} {μ : List Nat} {a : Act} {b : World} (ho : ops[i]? = some o) (hw : Region.wanted o (yielded ops a.tmps) = true) (f : FuncId) (hp : Plain P f) (xs : List Operand) (ts : Array TypeId) (hop : o.op = .call { callee := .value (.func f), args := xs.toArray, argTypes := ts }) (us : List Value) (hx : xs.map a.eval = us)
    (v : Value) (hc : ∀ w, Later b w → Calls P f us.toArray w fun e w' => e = .returned v ∧ Later w w')
    (h : wpT P ops Q τ σ μ (a.put o.dst v) b) : wpT P ops Q τ σ (i :: μ) a b := by
  refine ⟨o, ho, ?_⟩
  rw [if_pos hw]
  refine ⟨v, fun w hl => ?_, h⟩
  rw [run_call f hp xs ts hop us hx]
  exact ⟨rfl, hc w hl⟩
/-- a bag of one -/
theorem wpT_one {P : Program} {ops : Array Oper} {Q : Exit → Act → World → Prop} {τ : List Nat} {i : Nat} {a : Act} {b : World} (R : Value → World → Prop) (hd : dep .any ops i i = false) (hst : ∀ v w w', Later w w' → R v w → R v w') (hv : ∀ w, Later b w → lVal P ops i R a w)
    (h : ∀ v w, Later b w → R v w → wpL P ops Q τ (a.put (dstOf ops i) v) w) : wpT P ops Q τ [i] [] a b := by
  refine wpT_bag (fun _ => []) (fun _ vals w => R (vals i) w) (by simp [hd]) (fun _ _ vals w w' hl h => hst _ _ _ hl h) ?_ ?_ ?_
  · intro j hj k hk hne
    simp at hj hk
    exact absurd (hk.trans hj.symm) hne
  · intro j hj vals w hw _
    have : j = i := by simpa using hj
    subst this
    refine lVal_mono (fun v w' _ h => ?_) (hv w hw)
    rw [upd_same]; exact h
  · intro vals w hw hall
    exact h (vals i) w hw (hall i (by simp))


/-! Rows that lie in another block than one's own. -/
def OffS (g : Nat) : Value → Prop
  | .slice (some a) n _ => n = 0 ∨ a.block ≠ g
  | _ => True
theorem Rw.off {sz : Nat} {w w' : World} {v : Value} {n : Nat} {xs : List Value} {g : Nat} (h : Rw sz w v n xs) (hx : OffS g v) (hg : w.grownBy w' (some g)) : Rw sz w' v n xs := by
  obtain ⟨h1, h2, a, cap, rfl, hc, h3⟩ := h
  refine ⟨h1, h2, a, cap, rfl, hc, ?_⟩
  rcases h3 with h3 | ⟨b, off, rfl, hr⟩
  · exact .inl h3
  · rcases hx with hx | hx
    · exact .inl hx
    · refine .inr ⟨b, off, rfl, fun j u hu => ?_⟩
      have h4 := hr j u hu
      have hlt : b < w.heap.size := World.block_lt_of_cell? w _ h4
      have he := hg.block b hlt (fun e => hx (by cases e; rfl))
      rw [← h4]
      simp only [World.cell?, he]
/-- rows that are there lie in no block that comes -/
theorem Rw.old {sz : Nat} {w : World} {v : Value} {n : Nat} {xs : List Value} (h : Rw sz w v n xs) (hsz : 0 < sz) {g : Nat} (hg : w.heap.size ≤ g) : OffS g v := by
  obtain ⟨h1, h2, a, cap, rfl, hc, h3⟩ := h
  rcases h3 with h3 | ⟨b, off, rfl, hr⟩
  · cases a with
    | none => exact trivial
    | some a => exact .inl h3
  · by_cases h0 : n = 0
    · exact .inl h0
    · refine .inr fun e => ?_
      have hp : 0 < xs.length := by rw [h1]; exact Nat.mul_pos (by omega) hsz
      have h4 := hr 0 _ (List.getElem?_eq_getElem hp)
      have hlt : b < w.heap.size := World.block_lt_of_cell? w _ h4
      have e' : b = g := e
      omega
theorem grown_any {w w' : World} (hg : w.grownBy w' none) (g : Nat) : w.grownBy w' (some g) := ⟨hg.os, hg.tape, hg.output, hg.size, fun k hk _ => hg.block k hk (by simp)⟩
theorem keepRw {sz : Nat} {w w' : World} {v u : Value} {n : Nat} {xs : List Value} (hg : w.grownBy w' v.ownBlock) (hx : ∀ g, v.ownBlock = some g → OffS g u) (h : Rw sz w u n xs) : Rw sz w' u n xs := by
  cases hv : v.ownBlock with
  | none => rw [hv] at hg; exact h.later (Below.grown0 hg)
  | some g => rw [hv] at hg; exact h.off (hx g hv) hg
theorem sVal_of_run {P : Program} {ops : Array Oper} {i : Nat} {o : Oper} {R : Value → World → Prop} {a : Act} {w : World} (ho : ops[i]? = some o) (hgd : o.guard = none) (v : Value) (w' : World) (hrun : (execOp a.eval o).run P w = .ok (.value v) w') (h : R v w') : sVal P ops i R a w := by
  unfold sVal
  simp only [ho]
  rw [if_pos (by simp [Region.wanted, hgd]), hrun]
  exact h
theorem sVal_store {P : Program} {ops : Array Oper} {i : Nat} {o : Oper} {R : Value → World → Prop} {a : Act} {w : World} (ho : ops[i]? = some o) (hgd : o.guard = none) (ty : TypeId) (x y : Operand) (hop : o.op = .store ty x y) (g : Nat) (cells : List Value) (hx : a.eval x = .pointer (some ⟨g, 0, none⟩)) (hy : a.eval y = .agg cells.toArray)
    (ht : w.there g 0 cells.length) (hi : (P.info? ty).map (·.size) = some cells.length) (h1 : ∀ v ∈ cells, v.oneCell' = true) (h : ∀ u, R u (w.setCells g 0 cells)) : sVal P ops i R a w := by
  unfold sVal
  simp only [ho]
  rw [if_pos (by simp [Region.wanted, hgd])]
  have hrun := run_storeAt_mid (P := P) w g 0 ty cells.toArray (by simpa using ht) (by simpa using hi) (all_oneCell_toArray h1)
  simp [execOp, hop, hx, hy, hrun, Result.andThen, sUpon]
  exact h _
theorem run_append_op {P : Program} {o : Oper} {a : Act} {w w' : World} {v' : Value} (s x : Operand) (T : TypeId) (ho : o.op = .call { callee := .builtin .append, args := #[s, x], argTypes := #[T, T] }) (v u : Value) (hs : a.eval s = v) (hx : a.eval x = u) (hrun : (Builtin.append_ #[T, T] o.type #[v, u]).run P w = .ok v' w') : (execOp a.eval o).run P w = .ok (.value v') w' := by
  simp [execOp, ho, resolve, invoke, builtin, hs, hx, hrun, Result.andThen]
theorem range_tail {w : World} {b o : Nat} {x : Value} {xs : List Value} (h : w.rangeAt b o (x :: xs)) : w.rangeAt b (o + 1) xs := fun j v hv => by
  have := h (j + 1) v (by simpa using hv)
  rwa [show o + (j + 1) = o + 1 + j from by omega] at this
theorem owns_head {w : World} {B : Nat} {e : TypeId} {sz : Nat} {v : Value} {n : Nat} {xs : List Value} (h : w.ownsRow B e sz v n xs) (hn : 0 < n) : ∃ g cap, v = .slice (some ⟨g, 0, none⟩) n cap ∧ B ≤ g := by
  rcases h.2 with ⟨_, h0⟩ | ⟨g, cap, cur, rfl, hb, _⟩
  · omega
  · exact ⟨g, cap, rfl, hb⟩
theorem wpT_loadG {P : Program} {ops : Array Oper} {Q : Exit → Act → World → Prop} {τ : List Nat} {i : Nat} {o : Oper} {σ μ : List Nat} {a : Act} {b : World} (ho : ops[i]? = some o) (hw : Region.wanted o (yielded ops a.tmps) = true) (ty : TypeId) (x : Operand) (hop : o.op = .load ty x)
    (k off : Nat) (hx : a.eval x = .pointer (some ⟨k, off, none⟩)) (cs : List Value) (d : TypeDesc) (hc : b.rangeAt k off cs) (hu : P.underlying ty = some d) (hd : d.isRow = true) (hi : (P.info? ty).map (·.size) = some cs.length)
    (h : wpT P ops Q τ σ μ (a.put o.dst (.agg cs.toArray)) b) : wpT P ops Q τ σ (i :: μ) a b := by
  refine ⟨o, ho, ?_⟩
  rw [if_pos hw]
  refine ⟨.agg cs.toArray, fun w hl => ?_, h⟩
  unfold execOp
  simp only [hop, hx, Instr.loadAt, Instr.sureAddr, Sem.run_bind, Sem.run_pure, Result.andThen_ok, run_loadVar_mid w k off ty cs d (hl.range hc) hu hd hi]
  simp [Oper.mildUpon]
theorem wpL_store {P : Program} {ops : Array Oper} {Q : Exit → Act → World → Prop} {τ : List Nat} {i : Nat} {o : Oper} {a : Act} {w : World} (ho : ops[i]? = some o) (hw : Region.wanted o (yielded ops a.tmps) = true) (ty : TypeId) (x y : Operand) (hop : o.op = .store ty x y)
    (b off : Nat) (cs : List Value) (hx : a.eval x = .pointer (some ⟨b, off, none⟩)) (hy : a.eval y = .agg cs.toArray) (ht : w.there b off cs.length) (hi : (P.info? ty).map (·.size) = some cs.length) (h1 : ∀ u ∈ cs, u.oneCell' = true)
    (h : wpL P ops Q τ (a.put o.dst undef) (w.setCells b off cs)) : wpL P ops Q (i :: τ) a w := by
  refine wpL_cons ho (fun K hK => ?_)
  rw [if_pos hw]
  exact wp_store_mid ty x y hop b off cs.toArray hx hy (by simpa using ht) (by simpa using hi) (all_oneCell_toArray h1) (hK _ _ h)
theorem owns_later {w w' : World} {B : Nat} {e : TypeId} {sz : Nat} {v : Value} {n : Nat} {xs : List Value} (h : w.ownsRow B e sz v n xs) (hl : Later w w') : w'.ownsRow B e sz v n xs :=
  owns_kept h fun g hg => hl.block g (h.lt g hg).2
/-- two results, the first one in a variable of its own -/
theorem results_cell_tmp {fn : Func} {p q : Tmp} {ty : TypeId} (h : fn.results = #[.cell p ty, .tmp q]) (tmps : Array Value) (P : Program) (w : World) (b o : Nat) (hp : tmps.getD p undef = .pointer (some ⟨b, o, none⟩)) (v u : Value) (hl : (loadVar ty ⟨b, o, none⟩).run P w = .ok v w) (hq : tmps.getD q undef = u) :
    (results fn tmps).run P w = .ok (.tuple #[v, u]) w := by
  have ha : (asAddr (tmps.getD p undef)).run P w = .ok ⟨b, o, none⟩ w := by rw [hp]; rfl
  simp only [results, h]
  simp only [List.mapM_toArray, Sem.run_bind]
  simp [ha, hl, hq, -Array.getD_eq_getD_getElem?]
theorem Box.all {w : World} {g : Nat} {t : TypeId} {xs : List Value} (h : Box w g t xs) (vs : List Value) (hl : vs.length = xs.length) : Box (w.setCells g 0 vs) g t vs := by
  have := h.setCells vs 0 (by omega)
  rw [List.take_zero, List.nil_append, List.drop_of_length_le (by omega), List.append_nil] at this
  exact this
theorem box_ne_own {w : World} {b : Nat} {t : TypeId} {xs : List Value} {B : Nat} {e : TypeId} {sz : Nat} {v : Value} {n : Nat} {ys : List Value} (hB : Box w b t xs) (ho : w.ownsRow B e sz v n ys) (hne : t ≠ e) (g : Nat) (hg : v.ownBlock = some g) : b ≠ g := by
  intro he
  subst he
  rcases ho.2 with ⟨rfl, _⟩ | ⟨g', cap, cur, rfl, _, hg', _⟩
  · simp [Value.ownBlock] at hg
  · simp [Value.ownBlock] at hg
    subst hg
    unfold Box at hB
    rw [hg'] at hB
    simp at hB
    exact hne hB.2.symm
theorem Box.kept {w w' : World} {g : Nat} {t : TypeId} {xs : List Value} (h : Box w g t xs) (hk : w'.heap[g]? = w.heap[g]?) : Box w' g t xs := by unfold Box; rw [hk]; exact h
theorem own_ne_own {w : World} {B B' : Nat} {e e' : TypeId} {sz sz' : Nat} {v v' : Value} {n n' : Nat} {xs ys : List Value} (h : w.ownsRow B e sz v n xs) (h' : w.ownsRow B' e' sz' v' n' ys) (hne : e ≠ e') (g : Nat) (hg : v.ownBlock = some g) : v'.ownBlock ≠ some g := by
  intro hg'
  rcases h.2 with ⟨rfl, _⟩ | ⟨g1, cap, cur, rfl, _, hc, _⟩
  · simp [Value.ownBlock] at hg
  · simp [Value.ownBlock] at hg
    subst hg
    rcases h'.2 with ⟨rfl, _⟩ | ⟨g2, cap', cur', rfl, _, hc', _⟩
    · simp [Value.ownBlock] at hg'
    · simp [Value.ownBlock] at hg'
      subst hg'
      rw [hc] at hc'
      simp at hc'
      exact hne hc'.2
theorem heap_setCells_other (w : World) (g k : Nat) (hk : k ≠ g) : ∀ (vs : List Value) (o : Nat), (w.setCells g o vs).heap[k]? = w.heap[k]? := by
  intro vs
  induction vs generalizing w with
  | nil => intro o; rfl
  | cons v vs ih => intro o; rw [World.setCells, ih]; exact heap_setCell_other w ⟨g, o, none⟩ k v hk
theorem owns_off {w : World} {B : Nat} {e : TypeId} {sz : Nat} {v : Value} {n : Nat} {xs : List Value} (h : w.ownsRow B e sz v n xs) {g : Nat} (hg : g < B) : OffS g v := by
  rcases h.2 with ⟨rfl, _⟩ | ⟨g', cap, cur, rfl, hb, _⟩
  · trivial
  · exact .inr (by simp; omega)
/-- 's[l:]' in a region that draws its order -/
theorem wpT_slice_lo {P : Program} {ops : Array Oper} {Q : Exit → Act → World → Prop} {τ σ : List Nat} {i : Nat} {o : Oper} {μ : List Nat} {a : Act} {b : World} {T e : TypeId} {sz : Nat} (ht : P.underlying T = some (.slice e)) (hs : (P.info? e).map (·.size) = some sz)
    (hoi : ops[i]? = some o) (hw : Region.wanted o (yielded ops a.tmps) = true) (x lo : Operand) (ho : o.op = .slice T x (some lo) none none) (ad : Option Addr) (n cap : Nat) (hx : a.eval x = .slice ad n cap) (kd : IntKind) (l : Nat) (hlo : a.eval lo = .int kd (l : Int)) (hl : l ≤ n)
    (h : wpT P ops Q τ σ μ (a.put o.dst (Go.sliced ad l n cap sz)) b) : wpT P ops Q τ σ (i :: μ) a b := by
  refine ⟨o, hoi, ?_⟩
  rw [if_pos hw]
  refine ⟨Go.sliced ad l n cap sz, fun w _ => ?_, h⟩
  have hrun : (Instr.sliceAt T (.slice ad n cap) (some (.int kd (l : Int))) none none).run P w = .ok (Go.sliced ad l n cap sz) w := by
    rw [run_sliceAt_slice w T _ _ _ _ (elem_of ht), run_slice_l w T ad n cap (elem_of ht) kd _ (by omega) (by omega), elem_is ht, run_size hs]
    simp [Result.andThen]
  unfold execOp
  simp [ho, hx, hlo, hrun, Result.andThen, Oper.mildUpon]
/-- 'append(a, b...)', a our own: in a's own block, or in a new one -/
theorem run_append_rw2 {P : Program} {w : World} {T e ty : TypeId} {sz bytes : Nat} {z : Value} (he : Elem P e sz bytes z) (ht : P.underlying T = some (.slice e)) (hz : z.cells.size = sz) (hsz : 0 < sz) (B : Nat)
    (v : Value) (n : Nat) (xs : List Value) (hown : w.ownsRow B e sz v n xs) (u : Value) (m : Nat) (ys : List Value) (hu : Rw sz w u m ys) (h1 : ∀ q ∈ ys, q.oneCell' = true)
    (hbytes : (n + m) * bytes ≤ 140737488355328) (hlen : n + m ≤ maxLen) (hbase : B ≤ w.heap.size) :
    ∃ v' w', (Builtin.append_ #[T, T] ty #[v, u]).run P w = .ok v' w' ∧ w'.ownsRow B e sz v' (n + m) (xs ++ ys) ∧ w.grownBy w' v.ownBlock ∧ ∀ g, v'.ownBlock = some g → v.ownBlock = some g ∨ w.heap.size ≤ g := by
  by_cases hm0 : m = 0
  · subst hm0
    have hys : ys = [] := List.eq_nil_of_length_eq_zero (by rw [hu.1]; simp)
    subst hys
    obtain ⟨i0, hi, hz0, hz1, hz2⟩ := he
    obtain ⟨hl, hm, ad, cap, rfl, hcap, _⟩ := hu
    refine ⟨v, w, ?_, by simpa using hown, World.grownBy.refl _ _, fun g hg => .inl hg⟩
    rcases hown.2 with ⟨rfl, h0⟩ | ⟨g, c, cur, rfl, hbg, hg, hc, hmm, hs, ht'⟩
    · cases ad with
      | none => simp [Builtin.append_, run_underlying ht, sizeOf, typeInfo, hi, Builtin.lenOf, Builtin.firstCells]
      | some ad =>
        have hfc := run_firstCells_some (P := P) w i0.size 0 ad 0 cap [] (by simp) (by simp)
        simp [Builtin.append_, run_underlying ht, sizeOf, typeInfo, hi, Builtin.lenOf, hfc]
    · cases ad with
      | none => simp [Builtin.append_, run_underlying ht, sizeOf, typeInfo, hi, Builtin.lenOf, Builtin.firstCells, hc, storeCells]
      | some ad =>
        have hfc := run_firstCells_some (P := P) w i0.size 0 ad 0 cap [] (by simp) (by simp)
        simp [Builtin.append_, run_underlying ht, sizeOf, typeInfo, hi, Builtin.lenOf, hfc, hc, storeCells]
  · obtain ⟨au, cu, rfl⟩ := hu.shape
    obtain ⟨bu, ou, rfl, _⟩ := hu.lies? (by omega)
    obtain ⟨i0, hi, hz0, hz1, hz2⟩ := he
    rcases hown.2 with ⟨rfl, h0⟩ | ⟨g, c, cur, rfl, hbg, hg, hc, hmm, hs, ht'⟩
    · subst h0
      have hxs : xs = [] := List.eq_nil_of_length_eq_zero (by rw [hown.1]; simp)
      subst hxs
      obtain ⟨v', w', r1, r2, r3, _⟩ := run_append_own (P := P) w w.heap.size T ty e i0 z sz bytes ht hi hz0 hz1 hz2 hz hsz (.slice none 0 0) 0 [] (World.ownsRow_nil w _ e sz) ⟨bu, ou, none⟩ m cu ys hu.1 hu.lies h1 hlen hbytes (Nat.le_refl _)
      exact ⟨v', w', r1, owns_rebase r2 hbase, r3, fun g hg => .inr (r2.lt g hg).1⟩
    · by_cases hfit : n + m ≤ c
      · obtain ⟨w', r1, r2, r3⟩ := run_append_fits (P := P) w B T ty e i0 sz ht hi hz1 g n c xs hown ⟨bu, ou, none⟩ m cu ys hu.1 hu.lies h1 hfit
        exact ⟨_, w', r1, r2, r3, fun g' hg' => .inl hg'⟩
      · obtain ⟨v', w', r1, r2, r3⟩ := run_append_arg_grows (P := P) w T ty e i0 z sz bytes ht hi hz0 hz1 hz2 hz hsz ⟨g, 0, none⟩ n c xs hown.1 (hown.cells (g := g) rfl) ⟨bu, ou, none⟩ m cu ys hu.1 hu.lies (by omega) hlen hbytes
        refine ⟨v', w', r1, owns_rebase r2 hbase, ⟨r3.os, r3.tape, r3.output, r3.size, fun k hk _ => r3.block k hk (by simp)⟩, fun g' hg' => .inr (r2.lt g' hg').1⟩
/-- 'append', and in which block its answer lies -/
theorem wpList_append_rw2 {P : Program} {w : World} {ops : Array Oper} {rest : List Oper} {o : Oper} {a : Act} {Q : Exit → Act → World → Prop} {T e : TypeId} {sz bytes : Nat} {z : Value} (he : Elem P e sz bytes z) (ht : P.underlying T = some (.slice e)) (hz : z.cells.size = sz) (hsz : 0 < sz)
    (hgd : o.guard = none) (s x : Operand) (ho : o.op = .call { callee := .builtin .append, args := #[s, x], argTypes := #[T, T] }) (B : Nat)
    (v : Value) (n : Nat) (xs : List Value) (hs : a.eval s = v) (hown : w.ownsRow B e sz v n xs) (u : Value) (m : Nat) (ys : List Value) (hx : a.eval x = u) (hu : Rw sz w u m ys) (h1 : ∀ q ∈ ys, q.oneCell' = true)
    (hbytes : (n + m) * bytes ≤ 140737488355328) (hlen : n + m ≤ maxLen) (hbase : B ≤ w.heap.size)
    (h : ∀ v' w', w'.ownsRow B e sz v' (n + m) (xs ++ ys) → w.grownBy w' v.ownBlock → (∀ g, v'.ownBlock = some g → v.ownBlock = some g ∨ w.heap.size ≤ g) → wpList P ops Q rest (a.put o.dst v') w') : wpList P ops Q (o :: rest) a w := by
  refine wpList_plain hgd fun K hK => ?_
  obtain ⟨v', w', hrun, r1, r2, r3⟩ := run_append_rw2 (P := P) (ty := o.type) he ht hz hsz B v n xs hown u m ys hu h1 hbytes hlen hbase
  unfold Go.Oper.wp
  simp [execOp, ho, resolve, invoke, builtin, hs, hx, hrun, Result.andThen]
  exact hK _ _ (h v' w' r1 r2 r3)
/-- a literal whose cells are known -/
theorem wpList_buildC {P : Program} {ops : Array Oper} {rest : List Oper} {o : Oper} {a : Act} {w : World} {Q : Exit → Act → World → Prop} (hg : o.guard = none) (t : TypeId) (parts : Array (Nat × Operand)) (ho : o.op = .build t parts) (cs : Array Value)
    (hf : P.built t (parts.map fun (i, x) => (i, a.eval x)).toList = some cs) (h : wpList P ops Q rest (a.put o.dst (.agg cs)) w) : wpList P ops Q (o :: rest) a w :=
  wpList_build hg t parts ho (by rw [hf]; rfl) (by rw [hf]; exact h)
def OffM (g : Nat) (v : Value) : Prop := ∃ vb vd, v = .agg #[vb, vd] ∧ OffS g vb ∧ OffS g vd
end Go.Proofs.Ytkbpecbpfajkfaa

namespace Go.Proofs.Ytkbpecbpfajkfaa
open Go.ChangeShapes Go.WideShapes Go.ChangeAt Go.RowKit
set_option linter.unusedVariables false
set_option linter.unusedSimpArgs false

/-- the cached writes laid over the blocks, one behind the other -/
def app (F : List UInt8) (D : List Drt) : List UInt8 := D.foldl (fun F d => over F (d.1.toNat * 64) d.2) F
theorem app_snoc (F : List UInt8) (D : List Drt) (d : Drt) : app F (D ++ [d]) = over (app F D) (d.1.toNat * 64) d.2 := by simp [app]
def Fit (n : Nat) (D : List Drt) : Prop := ∀ d ∈ D, d.2.length = 64 ∧ 0 ≤ d.1 ∧ d.1 < n
theorem app_length (n : Nat) : ∀ (D : List Drt) (F : List UInt8), F.length = n * 64 → Fit n D → (app F D).length = n * 64
  | [], F, hF, _ => by simpa [app] using hF
  | d :: D, F, hF, h => by
    have hd := h d (by simp)
    show (app (over F (d.1.toNat * 64) d.2) D).length = n * 64
    exact app_length n D _ (by rw [over_length _ _ _ (by rw [hF, hd.1]; omega), hF]) fun x hx => h x (by simp [hx])
theorem fit_of_right {n : Nat} {D : List Drt} (h : rightB n D = true) (ho : Ok D) : Fit n D := fun d hd => by
  simp only [rightB, decide_eq_true_eq] at h
  exact ⟨(ho d hd).1, (h.2.2 d hd).1, (h.2.2 d hd).2⟩

def allF (n : Nat) (F : List UInt8) (D : List Drt) : List UInt8 := if rightB n D then app F D else []
def allN (n : Nat) (D : List Drt) : Nat := if rightB n D then n else 0

set_option maxHeartbeats 1000000 in
theorem rall_c {v : Value} {n : Nat} {F : List UInt8} {D : List Drt} (w : World) (h : Med w v n F D) :
    Calls Try.prog 36 #[v] w fun e w' => ∃ v', e = .returned v' ∧ Later w w' ∧ w'.ownsRow w.heap.size 50 64 v' (allN n D) (bv (allF n F D)) := by
  have HM := hide h
  obtain ⟨vb, vd, rfl, hb, hd, hok⟩ := h
  obtain ⟨ab, cb, rfl⟩ := hb.shape
  obtain ⟨k, hk⟩ : ∃ k, k = D.length := ⟨_, rfl⟩
  rw [← hk] at hd
  obtain ⟨aD, cD, rfl⟩ := hd.shape
  have hkm := hd.2.1
  unfold maxLen at hkm
  have HB := hide hb
  have HD := hide hd
  have HK := hide hk
  have HO := hide hok
  clear hb hd hk hok
  have BX0 := hide (Box.new w 25 #[.slice ab n cb, .slice aD k cD])
  have L0 := hide ((Later.refl w).alloc (.cells #[.slice ab n cb, .slice aD k cD] 25))
  go_enter Try.func36, Try.ntmps36
  go_wp2_with fail
  generalize (w.alloc (.cells #[.slice ab n cb, .slice aD k cD] 25)) = w1 at *
  refine (rright_c w1 (HM.out.later L0.out)).mono ?_
  rintro e w2 ⟨rfl, hl2⟩
  have L2 := hide (L0.out.trans hl2)
  have BX := hide (Box.later BX0.out hl2)
  clear hl2 L0 BX0
  have d0 := BX.out.cell 0
  have d1 := BX.out.cell 1
  by_cases hR : rightB n D = true
  case neg =>
    have hR' : rightB n D = false := by simpa using hR
    rw [hR']
    go_wp2
    go_ret
    refine ⟨_, rfl, L2.out, ?_⟩
    simp only [allN, allF, hR']
    exact World.ownsRow_nil _ _ _ _
  rw [hR]
  have hfit := hide (fit_of_right hR HO.out)
  have hn64 : n ≤ 64 := by simp only [rightB, decide_eq_true_eq] at hR; exact hR.1
  go_wp2_with fail
  refine (rcopy_c w2 w2.heap.size (Nat.le_refl _) (HB.out.later L2.out) (by omega)).mono ?_
  rintro e w3 ⟨v3, rfl, hl3, ho3⟩
  have L3 := hide hl3
  have O3 := hide ho3
  clear hl3 ho3 d0 d1
  have d0 := (Box.later BX.out L3.out).cell 0
  have d1 := (Box.later BX.out L3.out).cell 1
  go_wp2_with fail
  go_loopw [4] (fun i wr => ∃ q : Nat, q ≤ k ∧ i = .int .i64 q ∧ Hid (Later w2 wr) ∧ Hid (wr.ownsRow w2.heap.size 50 64 v3 n (bv (app F (D.take q))))) (fun i _ => k - (intOf i).toNat)
  case atStart => exact ⟨0, Nat.zero_le _, rfl, L3, by simpa [app] using O3⟩
  case round =>
    clear d0 d1
    obtain ⟨q, hq, rfl, hl, ho⟩ := hrel
    have d0 := (Box.later BX.out hl.out).cell 0
    have d1 := (Box.later BX.out hl.out).cell 1
    by_cases hlt : q < k
    · have hqD : q < D.length := by have := HK.out; omega
      have hdq := hfit.out D[q] (List.getElem_mem hqD)
      obtain ⟨z, hz⟩ := Int.eq_ofNat_of_zero_le hdq.2.1
      have hzn : z < n := by have := hdq.2.2; omega
      obtain ⟨bD, oD, e, hr⟩ := (HD.out.later (L2.out.trans hl.out)).lies? (by omega)
      subst e
      have hra := range_part hr (q * 65) 65
      rw [dv_part D q hqD HO.out] at hra
      have hat := hr _ _ (dv_at D q hqD HO.out)
      rw [hz] at hat
      have hrd := hide (range_tail hra)
      have hdl := hide hdq.1
      obtain ⟨g, capg, e, hg⟩ := owns_head ho.out (by omega)
      subst e
      have happ : Hid (app F (D.take (q + 1)) = over (app F (D.take q)) (z * 64) D[q].2) := by
        unfold Hid
        rw [List.take_succ_eq_append_getElem hqD, app_snoc, hz]
        rfl
      have hlenA : Hid ((app F (D.take q)).length = n * 64) := by
        refine app_length n _ F ?_ fun x hx => hfit.out x (List.mem_of_mem_take hx)
        have := HB.out.1
        rwa [bv_length] at this
      generalize D[q].2 = X at *
      clear hra hr hdq hz
      have g1 := fun r => (Box.later BX.out (hl.out.trans ((Later.refl wr).drew.trans (later_rg wr.drew r)))).cell 1
      have g2 := fun r => ((Later.refl wr).drew.trans (later_rg wr.drew r)).cellOf hat
      go_wp2_with fail
      refine wp_region_tree [0, 1, 2, 3, 4, 5, 6, 7, 8, 9, 10, 11, 12, 13] [] [14] (by kernel_rfl) (by kernel_rfl) (by kernel_rfl) (by kernel_rfl) ?_
      iterate 12 (refine wpT_mild rfl (fun K hK => ?_); go_simp; refine hK _ ?_; clear hK K)
      refine wpT_loadG rfl (by kernel_rfl) 50 (.tmp 29) rfl bD (oD + q * 65 + 1) rfl (bv X) _ ((World.rangeAt_drew _ _ _ _).2 hrd.out) Try.underlying50 rfl (by rw [Try.info_block, bv_length, hdl.out]) ?_
      iterate 1 (refine wpT_mild rfl (fun K hK => ?_); go_simp; refine hK _ ?_; clear hK K)
      refine wpT_done (fun wx hwx => ?_)
      have ox := owns_later ho.out ((Later.refl wr).drew.trans hwx)
      have hlx : Later w2 wx := hl.out.drew.trans hwx
      have ht : wx.there g (z * 64) (bv X).length := by
        rw [bv_length, hdl.out]
        exact owns_there ox (z * 64) 64 (by omega)
      have hnew := (owns_setCells ox (bv X) (z * 64) (by rw [bv_length, hdl.out]; omega)).1
      have hlnew : Later w2 (wx.setCells g (z * 64) (bv X)) := hlx.setCells hg (bv X) (z * 64)
      rw [← bv_over, ← happ.out] at hnew
      refine wpL_store rfl (by kernel_rfl) 50 (.tmp 31) (.tmp 30) rfl g (z * 64) (bv X) rfl rfl ht (by rw [Try.info_block, bv_length, hdl.out]) (bv_one X) (wpL_nil ?_)
      have NL := hide hlnew
      have NO := hide hnew
      clear hnew hlnew ht hlx ox hwx g1 g2 hat hrd hdl happ hlenA d0 d1
      generalize wx.setCells g (z * 64) (bv X) = wz at *
      go_wp2
      go_roundw
      case rel => exact ⟨q + 1, by omega, by go_num, NL, NO⟩
      case measure => simp [intOf]; omega
    · have hkq : q = k := by omega
      go_wp2
      go_ret
      refine ⟨_, rfl, L2.out.trans hl.out, ?_⟩
      have := ho.out
      rw [hkq, HK.out, List.take_length] at this
      simp only [allN, allF, hR, if_true]
      exact this.mono L2.out.size
end Go.Proofs.Ytkbpecbpfajkfaa

namespace Go.Proofs.Ytkbpecbpfajkfaa
open Go.ChangeShapes Go.WideShapes Go.ChangeAt Go.RowKit
set_option linter.unusedVariables false
set_option linter.unusedSimpArgs false

def showE (n : Nat) (D : List Drt) (at_ : Int) : Int := if rightB n D then (if 0 ≤ at_ ∧ at_ < n then 0 else 5) else 1
def showL (n : Nat) (F : List UInt8) (D : List Drt) (at_ : Int) : List UInt8 := if rightB n D = true ∧ 0 ≤ at_ ∧ at_ < n then seg (app F D) (at_.toNat * 64) 64 else List.replicate 64 0

def z64L : List UInt8 := List.replicate 64 0
theorem z64L_is : (Array.replicate 64 (Value.int .u8 0)).toList = bv z64L := by rw [z64L, bv_replicate]; simp

end Go.Proofs.Ytkbpecbpfajkfaa
