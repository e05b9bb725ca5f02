import Derived.Lib.ConvBytes
import Derived.Test.YtdhagfklcfajgaaMAF
import Derived.Test.YtdhagfklcfajgaaMAE
namespace Go.Proofs.Ytdhagfklcfajgaa
open Go.ChangeShapes Go.WideShapes Go.ChangeAt Go.RowKit
set_option linter.unusedVariables false
set_option linter.unusedSimpArgs false

/-! Calls in regions that draw their order; rows that lie in another block than one's own. -/
theorem wpM_call {P : Program} {ops : Array Oper} {G : Act → World → Prop} {i : Nat} {o : Oper} {μ : List Nat} {a : Act} {b : World} (ho : ops[i]? = some o) (hw : Region.wanted o (yielded ops a.tmps) = true) (f : FuncId) (hp : Plain P f) (xs : List Operand) (ts : Array TypeId) (hop : o.op = .call { callee := .value (.func f), args := xs.toArray, argTypes := ts }) (us : List Value) (hx : xs.map a.eval = us)
    (v : Value) (hc : ∀ w, Later b w → Calls P f us.toArray w fun e w' => e = .returned v ∧ Later w w')
    (h : wpM P ops G μ (a.put o.dst v) b) : wpM P ops G (i :: μ) a b := by
  refine ⟨o, ho, ?_⟩
  rw [if_pos hw]
  refine ⟨v, fun w hl => ?_, h⟩
  rw [run_call f hp xs ts hop us hx]
  exact ⟨rfl, hc w hl⟩
theorem wpT_call {P : Program} {ops : Array Oper} {Q : Exit → Act → World → Prop} {τ σ : List Nat} {i : Nat} {o : Oper} {μ : List Nat} {a : Act} {b : World} (ho : ops[i]? = some o) (hw : Region.wanted o (yielded ops a.tmps) = true) (f : FuncId) (hp : Plain P f) (xs : List Operand) (ts : Array TypeId) (hop : o.op = .call { callee := .value (.func f), args := xs.toArray, argTypes := ts }) (us : List Value) (hx : xs.map a.eval = us)
    (v : Value) (hc : ∀ w, Later b w → Calls P f us.toArray w fun e w' => e = .returned v ∧ Later w w')
    (h : wpT P ops Q τ σ μ (a.put o.dst v) b) : wpT P ops Q τ σ (i :: μ) a b := by
  refine ⟨o, ho, ?_⟩
  rw [if_pos hw]
  refine ⟨v, fun w hl => ?_, h⟩
  rw [run_call f hp xs ts hop us hx]
  exact ⟨rfl, hc w hl⟩
/-- a bag of one -/
theorem wpT_one {P : Program} {ops : Array Oper} {Q : Exit → Act → World → Prop} {τ : List Nat} {i : Nat} {a : Act} {b : World} (R : Value → World → Prop) (hd : dep .any ops i i = false) (hst : ∀ v w w', Later w w' → R v w → R v w') (hv : ∀ w, Later b w → lVal P ops i R a w)
    (h : ∀ v w, Later b w → R v w → wpL P ops Q τ (a.put (dstOf ops i) v) w) : wpT P ops Q τ [i] [] a b := by
  refine wpT_bag (fun _ => []) (fun _ vals w => R (vals i) w) (by simp [hd]) (fun _ _ vals w w' hl h => hst _ _ _ hl h) ?_ ?_ ?_
  · intro j hj k hk hne
    simp at hj hk
    exact absurd (hk.trans hj.symm) hne
  · intro j hj vals w hw _
    have : j = i := by simpa using hj
    subst this
    refine lVal_mono (fun v w' _ h => ?_) (hv w hw)
    rw [upd_same]; exact h
  · intro vals w hw hall
    exact h (vals i) w hw (hall i (by simp))


/-! Rows that lie in another block than one's own. -/
def OffS (g : Nat) : Value → Prop
  | .slice (some a) n _ => n = 0 ∨ a.block ≠ g
  | _ => True
theorem Rw.off {sz : Nat} {w w' : World} {v : Value} {n : Nat} {xs : List Value} {g : Nat} (h : Rw sz w v n xs) (hx : OffS g v) (hg : w.grownBy w' (some g)) : Rw sz w' v n xs := by
  obtain ⟨h1, h2, a, cap, rfl, hc, h3⟩ := h
  refine ⟨h1, h2, a, cap, rfl, hc, ?_⟩
  rcases h3 with h3 | ⟨b, off, rfl, hr⟩
  · exact .inl h3
  · rcases hx with hx | hx
    · exact .inl hx
    · refine .inr ⟨b, off, rfl, fun j u hu => ?_⟩
      have h4 := hr j u hu
      have hlt : b < w.heap.size := World.block_lt_of_cell? w _ h4
      have he := hg.block b hlt (fun e => hx (by cases e; rfl))
      rw [← h4]
      simp only [World.cell?, he]
/-- rows that are there lie in no block that comes -/
theorem Rw.old {sz : Nat} {w : World} {v : Value} {n : Nat} {xs : List Value} (h : Rw sz w v n xs) (hsz : 0 < sz) {g : Nat} (hg : w.heap.size ≤ g) : OffS g v := by
  obtain ⟨h1, h2, a, cap, rfl, hc, h3⟩ := h
  rcases h3 with h3 | ⟨b, off, rfl, hr⟩
  · cases a with
    | none => exact trivial
    | some a => exact .inl h3
  · by_cases h0 : n = 0
    · exact .inl h0
    · refine .inr fun e => ?_
      have hp : 0 < xs.length := by rw [h1]; exact Nat.mul_pos (by omega) hsz
      have h4 := hr 0 _ (List.getElem?_eq_getElem hp)
      have hlt : b < w.heap.size := World.block_lt_of_cell? w _ h4
      have e' : b = g := e
      omega
theorem grown_any {w w' : World} (hg : w.grownBy w' none) (g : Nat) : w.grownBy w' (some g) := ⟨hg.os, hg.tape, hg.output, hg.size, fun k hk _ => hg.block k hk (by simp)⟩
theorem keepRw {sz : Nat} {w w' : World} {v u : Value} {n : Nat} {xs : List Value} (hg : w.grownBy w' v.ownBlock) (hx : ∀ g, v.ownBlock = some g → OffS g u) (h : Rw sz w u n xs) : Rw sz w' u n xs := by
  cases hv : v.ownBlock with
  | none => rw [hv] at hg; exact h.later (Below.grown0 hg)
  | some g => rw [hv] at hg; exact h.off (hx g hv) hg
theorem sVal_of_run {P : Program} {ops : Array Oper} {i : Nat} {o : Oper} {R : Value → World → Prop} {a : Act} {w : World} (ho : ops[i]? = some o) (hgd : o.guard = none) (v : Value) (w' : World) (hrun : (execOp a.eval o).run P w = .ok (.value v) w') (h : R v w') : sVal P ops i R a w := by
  unfold sVal
  simp only [ho]
  rw [if_pos (by simp [Region.wanted, hgd]), hrun]
  exact h
theorem sVal_store {P : Program} {ops : Array Oper} {i : Nat} {o : Oper} {R : Value → World → Prop} {a : Act} {w : World} (ho : ops[i]? = some o) (hgd : o.guard = none) (ty : TypeId) (x y : Operand) (hop : o.op = .store ty x y) (g : Nat) (cells : List Value) (hx : a.eval x = .pointer (some ⟨g, 0, none⟩)) (hy : a.eval y = .agg cells.toArray)
    (ht : w.there g 0 cells.length) (hi : (P.info? ty).map (·.size) = some cells.length) (h1 : ∀ v ∈ cells, v.oneCell' = true) (h : ∀ u, R u (w.setCells g 0 cells)) : sVal P ops i R a w := by
  unfold sVal
  simp only [ho]
  rw [if_pos (by simp [Region.wanted, hgd])]
  have hrun := run_storeAt_mid (P := P) w g 0 ty cells.toArray (by simpa using ht) (by simpa using hi) (all_oneCell_toArray h1)
  simp [execOp, hop, hx, hy, hrun, Result.andThen, sUpon]
  exact h _
theorem run_append_op {P : Program} {o : Oper} {a : Act} {w w' : World} {v' : Value} (s x : Operand) (T : TypeId) (ho : o.op = .call { callee := .builtin .append, args := #[s, x], argTypes := #[T, T] }) (v u : Value) (hs : a.eval s = v) (hx : a.eval x = u) (hrun : (Builtin.append_ #[T, T] o.type #[v, u]).run P w = .ok v' w') : (execOp a.eval o).run P w = .ok (.value v') w' := by
  simp [execOp, ho, resolve, invoke, builtin, hs, hx, hrun, Result.andThen]
theorem range_tail {w : World} {b o : Nat} {x : Value} {xs : List Value} (h : w.rangeAt b o (x :: xs)) : w.rangeAt b (o + 1) xs := fun j v hv => by
  have := h (j + 1) v (by simpa using hv)
  rwa [show o + (j + 1) = o + 1 + j from by omega] at this
theorem owns_head {w : World} {B : Nat} {e : TypeId} {sz : Nat} {v : Value} {n : Nat} {xs : List Value} (h : w.ownsRow B e sz v n xs) (hn : 0 < n) : ∃ g cap, v = .slice (some ⟨g, 0, none⟩) n cap ∧ B ≤ g := by
  rcases h.2 with ⟨_, h0⟩ | ⟨g, cap, cur, rfl, hb, _⟩
  · omega
  · exact ⟨g, cap, rfl, hb⟩
theorem wpT_loadG {P : Program} {ops : Array Oper} {Q : Exit → Act → World → Prop} {τ : List Nat} {i : Nat} {o : Oper} {σ μ : List Nat} {a : Act} {b : World} (ho : ops[i]? = some o) (hw : Region.wanted o (yielded ops a.tmps) = true) (ty : TypeId) (x : Operand) (hop : o.op = .load ty x)
    (k off : Nat) (hx : a.eval x = .pointer (some ⟨k, off, none⟩)) (cs : List Value) (d : TypeDesc) (hc : b.rangeAt k off cs) (hu : P.underlying ty = some d) (hd : d.isRow = true) (hi : (P.info? ty).map (·.size) = some cs.length)
    (h : wpT P ops Q τ σ μ (a.put o.dst (.agg cs.toArray)) b) : wpT P ops Q τ σ (i :: μ) a b := by
  refine ⟨o, ho, ?_⟩
  rw [if_pos hw]
  refine ⟨.agg cs.toArray, fun w hl => ?_, h⟩
  unfold execOp
  simp only [hop, hx, Instr.loadAt, Instr.sureAddr, Sem.run_bind, Sem.run_pure, Result.andThen_ok, run_loadVar_mid w k off ty cs d (hl.range hc) hu hd hi]
  simp [Oper.mildUpon]
theorem wpL_store {P : Program} {ops : Array Oper} {Q : Exit → Act → World → Prop} {τ : List Nat} {i : Nat} {o : Oper} {a : Act} {w : World} (ho : ops[i]? = some o) (hw : Region.wanted o (yielded ops a.tmps) = true) (ty : TypeId) (x y : Operand) (hop : o.op = .store ty x y)
    (b off : Nat) (cs : List Value) (hx : a.eval x = .pointer (some ⟨b, off, none⟩)) (hy : a.eval y = .agg cs.toArray) (ht : w.there b off cs.length) (hi : (P.info? ty).map (·.size) = some cs.length) (h1 : ∀ u ∈ cs, u.oneCell' = true)
    (h : wpL P ops Q τ (a.put o.dst undef) (w.setCells b off cs)) : wpL P ops Q (i :: τ) a w := by
  refine wpL_cons ho (fun K hK => ?_)
  rw [if_pos hw]
  exact wp_store_mid ty x y hop b off cs.toArray hx hy (by simpa using ht) (by simpa using hi) (all_oneCell_toArray h1) (hK _ _ h)
theorem owns_later {w w' : World} {B : Nat} {e : TypeId} {sz : Nat} {v : Value} {n : Nat} {xs : List Value} (h : w.ownsRow B e sz v n xs) (hl : Later w w') : w'.ownsRow B e sz v n xs :=
  owns_kept h fun g hg => hl.block g (h.lt g hg).2
/-- two results, the first one in a variable of its own -/
theorem results_cell_tmp {fn : Func} {p q : Tmp} {ty : TypeId} (h : fn.results = #[.cell p ty, .tmp q]) (tmps : Array Value) (P : Program) (w : World) (b o : Nat) (hp : tmps.getD p undef = .pointer (some ⟨b, o, none⟩)) (v u : Value) (hl : (loadVar ty ⟨b, o, none⟩).run P w = .ok v w) (hq : tmps.getD q undef = u) :
    (results fn tmps).run P w = .ok (.tuple #[v, u]) w := by
  have ha : (asAddr (tmps.getD p undef)).run P w = .ok ⟨b, o, none⟩ w := by rw [hp]; rfl
  simp only [results, h]
  simp only [List.mapM_toArray, Sem.run_bind]
  simp [ha, hl, hq, -Array.getD_eq_getD_getElem?]
theorem Box.all {w : World} {g : Nat} {t : TypeId} {xs : List Value} (h : Box w g t xs) (vs : List Value) (hl : vs.length = xs.length) : Box (w.setCells g 0 vs) g t vs := by
  have := h.setCells vs 0 (by omega)
  rw [List.take_zero, List.nil_append, List.drop_of_length_le (by omega), List.append_nil] at this
  exact this
theorem box_ne_own {w : World} {b : Nat} {t : TypeId} {xs : List Value} {B : Nat} {e : TypeId} {sz : Nat} {v : Value} {n : Nat} {ys : List Value} (hB : Box w b t xs) (ho : w.ownsRow B e sz v n ys) (hne : t ≠ e) (g : Nat) (hg : v.ownBlock = some g) : b ≠ g := by
  intro he
  subst he
  rcases ho.2 with ⟨rfl, _⟩ | ⟨g', cap, cur, rfl, _, hg', _⟩
  · simp [Value.ownBlock] at hg
  · simp [Value.ownBlock] at hg
    subst hg
    unfold Box at hB
    rw [hg'] at hB
    simp at hB
    exact hne hB.2.symm
theorem Box.kept {w w' : World} {g : Nat} {t : TypeId} {xs : List Value} (h : Box w g t xs) (hk : w'.heap[g]? = w.heap[g]?) : Box w' g t xs := by unfold Box; rw [hk]; exact h
theorem own_ne_own {w : World} {B B' : Nat} {e e' : TypeId} {sz sz' : Nat} {v v' : Value} {n n' : Nat} {xs ys : List Value} (h : w.ownsRow B e sz v n xs) (h' : w.ownsRow B' e' sz' v' n' ys) (hne : e ≠ e') (g : Nat) (hg : v.ownBlock = some g) : v'.ownBlock ≠ some g := by
  intro hg'
  rcases h.2 with ⟨rfl, _⟩ | ⟨g1, cap, cur, rfl, _, hc, _⟩
  · simp [Value.ownBlock] at hg
  · simp [Value.ownBlock] at hg
    subst hg
    rcases h'.2 with ⟨rfl, _⟩ | ⟨g2, cap', cur', rfl, _, hc', _⟩
    · simp [Value.ownBlock] at hg'
    · simp [Value.ownBlock] at hg'
      subst hg'
      rw [hc] at hc'
      simp at hc'
      exact hne hc'.2
theorem heap_setCells_other (w : World) (g k : Nat) (hk : k ≠ g) : ∀ (vs : List Value) (o : Nat), (w.setCells g o vs).heap[k]? = w.heap[k]? := by
  intro vs
  induction vs generalizing w with
  | nil => intro o; rfl
  | cons v vs ih => intro o; rw [World.setCells, ih]; exact heap_setCell_other w ⟨g, o, none⟩ k v hk
theorem owns_off {w : World} {B : Nat} {e : TypeId} {sz : Nat} {v : Value} {n : Nat} {xs : List Value} (h : w.ownsRow B e sz v n xs) {g : Nat} (hg : g < B) : OffS g v := by
  rcases h.2 with ⟨rfl, _⟩ | ⟨g', cap, cur, rfl, hb, _⟩
  · trivial
  · exact .inr (by simp; omega)
/-- 's[l:]' in a region that draws its order -/
theorem wpT_slice_lo {P : Program} {ops : Array Oper} {Q : Exit → Act → World → Prop} {τ σ : List Nat} {i : Nat} {o : Oper} {μ : List Nat} {a : Act} {b : World} {T e : TypeId} {sz : Nat} (ht : P.underlying T = some (.slice e)) (hs : (P.info? e).map (·.size) = some sz)
    (hoi : ops[i]? = some o) (hw : Region.wanted o (yielded ops a.tmps) = true) (x lo : Operand) (ho : o.op = .slice T x (some lo) none none) (ad : Option Addr) (n cap : Nat) (hx : a.eval x = .slice ad n cap) (kd : IntKind) (l : Nat) (hlo : a.eval lo = .int kd (l : Int)) (hl : l ≤ n)
    (h : wpT P ops Q τ σ μ (a.put o.dst (Go.sliced ad l n cap sz)) b) : wpT P ops Q τ σ (i :: μ) a b := by
  refine ⟨o, hoi, ?_⟩
  rw [if_pos hw]
  refine ⟨Go.sliced ad l n cap sz, fun w _ => ?_, h⟩
  have hrun : (Instr.sliceAt T (.slice ad n cap) (some (.int kd (l : Int))) none none).run P w = .ok (Go.sliced ad l n cap sz) w := by
    rw [run_sliceAt_slice w T _ _ _ _ (elem_of ht), run_slice_l w T ad n cap (elem_of ht) kd _ (by omega) (by omega), elem_is ht, run_size hs]
    simp [Result.andThen]
  unfold execOp
  simp [ho, hx, hlo, hrun, Result.andThen, Oper.mildUpon]
/-- 'append(a, b...)', a our own: in a's own block, or in a new one -/
theorem run_append_rw2 {P : Program} {w : World} {T e ty : TypeId} {sz bytes : Nat} {z : Value} (he : Elem P e sz bytes z) (ht : P.underlying T = some (.slice e)) (hz : z.cells.size = sz) (hsz : 0 < sz) (B : Nat)
    (v : Value) (n : Nat) (xs : List Value) (hown : w.ownsRow B e sz v n xs) (u : Value) (m : Nat) (ys : List Value) (hu : Rw sz w u m ys) (h1 : ∀ q ∈ ys, q.oneCell' = true)
    (hbytes : (n + m) * bytes ≤ 140737488355328) (hlen : n + m ≤ maxLen) (hbase : B ≤ w.heap.size) :
    ∃ v' w', (Builtin.append_ #[T, T] ty #[v, u]).run P w = .ok v' w' ∧ w'.ownsRow B e sz v' (n + m) (xs ++ ys) ∧ w.grownBy w' v.ownBlock ∧ ∀ g, v'.ownBlock = some g → v.ownBlock = some g ∨ w.heap.size ≤ g := by
  by_cases hm0 : m = 0
  · subst hm0
    have hys : ys = [] := List.eq_nil_of_length_eq_zero (by rw [hu.1]; simp)
    subst hys
    obtain ⟨i0, hi, hz0, hz1, hz2⟩ := he
    obtain ⟨hl, hm, ad, cap, rfl, hcap, _⟩ := hu
    refine ⟨v, w, ?_, by simpa using hown, World.grownBy.refl _ _, fun g hg => .inl hg⟩
    rcases hown.2 with ⟨rfl, h0⟩ | ⟨g, c, cur, rfl, hbg, hg, hc, hmm, hs, ht'⟩
    · cases ad with
      | none => simp [Builtin.append_, run_underlying ht, sizeOf, typeInfo, hi, Builtin.lenOf, Builtin.firstCells]
      | some ad =>
        have hfc := run_firstCells_some (P := P) w i0.size 0 ad 0 cap [] (by simp) (by simp)
        simp [Builtin.append_, run_underlying ht, sizeOf, typeInfo, hi, Builtin.lenOf, hfc]
    · cases ad with
      | none => simp [Builtin.append_, run_underlying ht, sizeOf, typeInfo, hi, Builtin.lenOf, Builtin.firstCells, hc, storeCells]
      | some ad =>
        have hfc := run_firstCells_some (P := P) w i0.size 0 ad 0 cap [] (by simp) (by simp)
        simp [Builtin.append_, run_underlying ht, sizeOf, typeInfo, hi, Builtin.lenOf, hfc, hc, storeCells]
  · obtain ⟨au, cu, rfl⟩ := hu.shape
    obtain ⟨bu, ou, rfl, _⟩ := hu.lies? (by omega)
    obtain ⟨i0, hi, hz0, hz1, hz2⟩ := he
    rcases hown.2 with ⟨rfl, h0⟩ | ⟨g, c, cur, rfl, hbg, hg, hc, hmm, hs, ht'⟩
    · subst h0
      have hxs : xs = [] := List.eq_nil_of_length_eq_zero (by rw [hown.1]; simp)
      subst hxs
      obtain ⟨v', w', r1, r2, r3, _⟩ := run_append_own (P := P) w w.heap.size T ty e i0 z sz bytes ht hi hz0 hz1 hz2 hz hsz (.slice none 0 0) 0 [] (World.ownsRow_nil w _ e sz) ⟨bu, ou, none⟩ m cu ys hu.1 hu.lies h1 hlen hbytes (Nat.le_refl _)
      exact ⟨v', w', r1, owns_rebase r2 hbase, r3, fun g hg => .inr (r2.lt g hg).1⟩
    · by_cases hfit : n + m ≤ c
      · obtain ⟨w', r1, r2, r3⟩ := run_append_fits (P := P) w B T ty e i0 sz ht hi hz1 g n c xs hown ⟨bu, ou, none⟩ m cu ys hu.1 hu.lies h1 hfit
        exact ⟨_, w', r1, r2, r3, fun g' hg' => .inl hg'⟩
      · obtain ⟨v', w', r1, r2, r3⟩ := run_append_arg_grows (P := P) w T ty e i0 z sz bytes ht hi hz0 hz1 hz2 hz hsz ⟨g, 0, none⟩ n c xs hown.1 (hown.cells (g := g) rfl) ⟨bu, ou, none⟩ m cu ys hu.1 hu.lies (by omega) hlen hbytes
        refine ⟨v', w', r1, owns_rebase r2 hbase, ⟨r3.os, r3.tape, r3.output, r3.size, fun k hk _ => r3.block k hk (by simp)⟩, fun g' hg' => .inr (r2.lt g' hg').1⟩
/-- 'append', and in which block its answer lies -/
theorem wpList_append_rw2 {P : Program} {w : World} {ops : Array Oper} {rest : List Oper} {o : Oper} {a : Act} {Q : Exit → Act → World → Prop} {T e : TypeId} {sz bytes : Nat} {z : Value} (he : Elem P e sz bytes z) (ht : P.underlying T = some (.slice e)) (hz : z.cells.size = sz) (hsz : 0 < sz)
    (hgd : o.guard = none) (s x : Operand) (ho : o.op = .call { callee := .builtin .append, args := #[s, x], argTypes := #[T, T] }) (B : Nat)
    (v : Value) (n : Nat) (xs : List Value) (hs : a.eval s = v) (hown : w.ownsRow B e sz v n xs) (u : Value) (m : Nat) (ys : List Value) (hx : a.eval x = u) (hu : Rw sz w u m ys) (h1 : ∀ q ∈ ys, q.oneCell' = true)
    (hbytes : (n + m) * bytes ≤ 140737488355328) (hlen : n + m ≤ maxLen) (hbase : B ≤ w.heap.size)
    (h : ∀ v' w', w'.ownsRow B e sz v' (n + m) (xs ++ ys) → w.grownBy w' v.ownBlock → (∀ g, v'.ownBlock = some g → v.ownBlock = some g ∨ w.heap.size ≤ g) → wpList P ops Q rest (a.put o.dst v') w') : wpList P ops Q (o :: rest) a w := by
  refine wpList_plain hgd fun K hK => ?_
  obtain ⟨v', w', hrun, r1, r2, r3⟩ := run_append_rw2 (P := P) (ty := o.type) he ht hz hsz B v n xs hown u m ys hu h1 hbytes hlen hbase
  unfold Go.Oper.wp
  simp [execOp, ho, resolve, invoke, builtin, hs, hx, hrun, Result.andThen]
  exact hK _ _ (h v' w' r1 r2 r3)
/-- a literal whose cells are known -/
theorem wpList_buildC {P : Program} {ops : Array Oper} {rest : List Oper} {o : Oper} {a : Act} {w : World} {Q : Exit → Act → World → Prop} (hg : o.guard = none) (t : TypeId) (parts : Array (Nat × Operand)) (ho : o.op = .build t parts) (cs : Array Value)
    (hf : P.built t (parts.map fun (i, x) => (i, a.eval x)).toList = some cs) (h : wpList P ops Q rest (a.put o.dst (.agg cs)) w) : wpList P ops Q (o :: rest) a w :=
  wpList_build hg t parts ho (by rw [hf]; rfl) (by rw [hf]; exact h)
def OffM (g : Nat) (v : Value) : Prop := ∃ vb vd, v = .agg #[vb, vd] ∧ OffS g vb ∧ OffS g vd
end Go.Proofs.Ytdhagfklcfajgaa

namespace Go.Proofs.Ytdhagfklcfajgaa
open Go.ChangeShapes Go.WideShapes Go.ChangeAt Go.RowKit
set_option linter.unusedVariables false
set_option linter.unusedSimpArgs false

/-! Senses: key, code, qualifier. -/
abbrev Sns := Int × Int × Int
abbrev sc (s : Sns) : List Value := [.int .i64 s.1, .int .i64 s.2.1, .int .i64 s.2.2]
abbrev sval (s : Sns) : Value := .agg #[.int .i64 s.1, .int .i64 s.2.1, .int .i64 s.2.2]
def sv (L : List Sns) : List Value := L.flatMap sc
def OkS (s : Sns) : Prop := (-9223372036854775808 ≤ s.1 ∧ s.1 ≤ 9223372036854775807) ∧ (-9223372036854775808 ≤ s.2.1 ∧ s.2.1 ≤ 9223372036854775807) ∧ (-9223372036854775808 ≤ s.2.2 ∧ s.2.2 ≤ 9223372036854775807)
theorem sv_nil : sv [] = [] := rfl
theorem sv_cons (s : Sns) (L : List Sns) : sv (s :: L) = sc s ++ sv L := by simp [sv]
theorem sv_append (L M : List Sns) : sv (L ++ M) = sv L ++ sv M := by simp [sv]
theorem sv_single (s : Sns) : sv [s] = [.int .i64 s.1, .int .i64 s.2.1, .int .i64 s.2.2] := by simp [sv, sc]
theorem sv_length (L : List Sns) : (sv L).length = L.length * 3 := by
  induction L with
  | nil => rfl
  | cons x L ih => rw [sv_cons, List.length_append, ih]; simp [sc]; omega
theorem sv_drop : ∀ (L : List Sns) (k : Nat), (sv L).drop (k * 3) = sv (L.drop k)
  | L, 0 => by simp
  | [], k + 1 => by simp [sv]
  | x :: L, k + 1 => by
    rw [sv_cons, List.drop_succ_cons, ← sv_drop L k, List.drop_append, List.drop_of_length_le (by simp [sc]; omega), List.nil_append]
    congr 1; simp [sc]; omega
theorem sv_take : ∀ (L : List Sns) (k : Nat), (sv L).take (k * 3) = sv (L.take k)
  | L, 0 => by simp [sv]
  | [], k + 1 => by simp [sv]
  | x :: L, k + 1 => by
    rw [sv_cons, List.take_succ_cons, sv_cons, ← sv_take L k, List.take_append, List.take_of_length_le (by simp [sc]; omega)]
    congr 2; simp [sc]; omega
theorem sv_at (L : List Sns) (k : Nat) (hk : k < L.length) : (sv L)[k * 3]? = some (.int .i64 L[k].1) ∧ (sv L)[k * 3 + 1]? = some (.int .i64 L[k].2.1) ∧ (sv L)[k * 3 + 2]? = some (.int .i64 L[k].2.2) := by
  have h : ∀ j, (sv L)[k * 3 + j]? = (sv (L.drop k))[j]? := fun j => by rw [← sv_drop, List.getElem?_drop]
  have h0 := h 0
  rw [Nat.add_zero] at h0
  rw [h0, h 1, h 2, List.drop_eq_getElem_cons hk, sv_cons]
  exact ⟨rfl, rfl, rfl⟩
theorem sv_one (L : List Sns) : ∀ u ∈ sv L, u.oneCell' = true := by
  intro u hu
  simp only [sv, List.mem_flatMap, sc] at hu
  obtain ⟨d, _, hd⟩ := hu
  simp at hd
  rcases hd with rfl | rfl | rfl <;> rfl
theorem Try.elem_sense : Elem Try.prog 28 3 24 (.agg #[.int .i64 0, .int .i64 0, .int .i64 0]) := by
  have h : (Try.prog.info? 28).map (fun i => (i.zero, i.size, i.bytes)) = some (some (.agg #[.int .i64 0, .int .i64 0, .int .i64 0]), 3, 24) := by kernel_rfl
  obtain ⟨i, hi, h1, h2, h3⟩ := info_parts h
  exact ⟨i, hi, h1, h2, h3⟩
theorem Try.zero_sense : (Try.prog.info? 28).map (fun i => (i.zero, i.size)) = some (some (.agg #[.int .i64 0, .int .i64 0, .int .i64 0]), 3) := by kernel_rfl
theorem Try.info_sense : (Try.prog.info? 28).map (·.size) = some 3 := by kernel_rfl
theorem Try.guard_sense : Try.prog.eqGuardType Try.prog.depth 28 = false := by kernel_rfl

/-! Two senses held against one another. -/
theorem map_three {α β : Type} {f : α → β} {l : List α} {x y z : β} (h : l.map f = [x, y, z]) : ∃ a b c, l = [a, b, c] ∧ f a = x ∧ f b = y ∧ f c = z := by
  match l, h with
  | [a, b, c], h => simp at h; exact ⟨a, b, c, rfl, h.1, h.2.1, h.2.2⟩
  | [_], h => simp at h
  | [_, _], h => simp at h
  | _ :: _ :: _ :: _ :: _, h => simp at h
theorem Try.fields_sense : (Try.prog.fieldsOf 28).toList.map (fun f => (f.name, f.type, f.offset)) = [("Key", 3, 0), ("Code", 3, 1), ("Qual", 3, 2)] := by kernel_rfl
theorem Try.is_sense : Try.prog.underlying 28 = some (.struct (Try.prog.fieldsOf 28)) := by kernel_rfl
theorem Try.plain_sense : Try.prog.stoodInHeld 28 = false := by kernel_rfl
theorem eqFields_three {P : Program} (w : World) (d : Nat) (xs ys : Array Value) (f g h : Field) (hf : f.name ≠ "_") (hg : g.name ≠ "_") (hh : h.name ≠ "_") (a b a' b' a2 b2 : Value) (r r' r2 : Bool)
    (p1 : (part f.type xs f.offset).run P w = .ok a w) (p2 : (part f.type ys f.offset).run P w = .ok b w) (p3 : (Op.equalIn d f.type a b).run P w = .ok r w)
    (q1 : (part g.type xs g.offset).run P w = .ok a' w) (q2 : (part g.type ys g.offset).run P w = .ok b' w) (q3 : (Op.equalIn d g.type a' b').run P w = .ok r' w)
    (s1 : (part h.type xs h.offset).run P w = .ok a2 w) (s2 : (part h.type ys h.offset).run P w = .ok b2 w) (s3 : (Op.equalIn d h.type a2 b2).run P w = .ok r2 w) :
    (Op.eqFields d xs ys [f, g, h]).run P w = .ok (r && (r' && r2)) w := by
  simp only [Op.eqFields, hf, hg, hh, ne_eq, not_false_eq_true, if_true, Sem.run_bind, p1, p2, p3, q1, q2, q3, s1, s2, s3, Result.andThen_ok]
  cases r <;> cases r' <;> cases r2 <;> simp [Sem.run_bind, q1, q2, q3, s1, s2, s3, Result.andThen_ok]
theorem part_cell {P : Program} {t : TypeId} (w : World) (ht : P.underlying t = some (.int .i64)) (cs : Array Value) (o : Nat) (v : Value) (h : cs[o]? = some v) : (part t cs o).run P w = .ok v w := by
  simp [part, isAgg, run_underlying ht, h]
theorem sense_eq (s t : Sns) (w : World) : (Op.equalIn 10000 28 (sval s) (sval t)).run Try.prog w = .ok (s == t) w := by
  refine (run_equalIn_struct w 9999 28 _ _ Try.is_sense Try.plain_sense).trans ?_
  obtain ⟨f, g, h, hfs, hf, hg, hh⟩ := map_three Try.fields_sense
  rw [hfs]
  simp only [Prod.mk.injEq] at hf hg hh
  obtain ⟨n1, t1, o1⟩ := hf
  obtain ⟨n2, t2, o2⟩ := hg
  obtain ⟨n3, t3, o3⟩ := hh
  refine eqFields_three w 9999 _ _ f g h (by rw [n1]; decide) (by rw [n2]; decide) (by rw [n3]; decide) (.int .i64 s.1) (.int .i64 t.1) (.int .i64 s.2.1) (.int .i64 t.2.1) (.int .i64 s.2.2) (.int .i64 t.2.2) _ _ _ ?_ ?_ ?_ ?_ ?_ ?_ ?_ ?_ ?_
  · rw [t1, o1]; exact part_cell w Try.underlying3 _ _ _ rfl
  · rw [t1, o1]; exact part_cell w Try.underlying3 _ _ _ rfl
  · rw [t1]; exact run_equalIn_int (P := Try.prog) w 9998 3 .i64 .i64 s.1 t.1 Try.underlying3
  · rw [t2, o2]; exact part_cell w Try.underlying3 _ _ _ rfl
  · rw [t2, o2]; exact part_cell w Try.underlying3 _ _ _ rfl
  · rw [t2]; exact run_equalIn_int (P := Try.prog) w 9998 3 .i64 .i64 s.2.1 t.2.1 Try.underlying3
  · rw [t3, o3]; exact part_cell w Try.underlying3 _ _ _ rfl
  · rw [t3, o3]; exact part_cell w Try.underlying3 _ _ _ rfl
  · rw [t3]; exact run_equalIn_int (P := Try.prog) w 9998 3 .i64 .i64 s.2.2 t.2.2 Try.underlying3
theorem wpList_eqS {w : World} {ops : Array Oper} {rest : List Oper} {o : Oper} {a : Act} {Q : Exit → Act → World → Prop} (hw : Region.wanted o (yielded ops a.tmps) = true) (x y : Operand) (hop : o.op = .binOp .eql 28 x y 28)
    (s t : Sns) (hx : a.eval x = sval s) (hy : a.eval y = sval t) (h : wpList Try.prog ops Q rest (a.put o.dst (.bool (s == t))) w) : wpList Try.prog ops Q (o :: rest) a w := by
  refine wpList_step fun K hK => ?_
  rw [if_pos hw]
  unfold Go.Oper.wp execOp
  simp [hop, hx, hy, run_eqGuard_agg w .eql 28 x y _ _ Try.guard_sense, run_eql_struct, sense_eq, Result.andThen]
  exact hK _ _ h

/-! What comes in. -/
section
variable {H : Type} {enc : TypeId × Value → H} {w : World} {r : Reach} {base : Nat} {v : Value} {d : DataW H} {p : List MemPlace}
theorem Try.places_sense : (Try.prog.fieldsOf 28).toList.map (fun f => (f.type, f.offset)) = [(3, 0), (3, 1), (3, 2)] := by kernel_rfl
theorem shape_sense (fuel : Nat) (cs : List Value) (x : DataW H × List MemPlace) (h : DataW.trod enc Try.prog w 0 (fun _ => true) true fuel 28 cs = some x) : ∃ s : Sns, OkS s ∧ cs = sc s := by
  obtain ⟨hl, m0, y0, h0⟩ := shape_field Try.is_sense Try.places_sense 0 _ _ rfl h
  obtain ⟨_, m1, y1, h1⟩ := shape_field Try.is_sense Try.places_sense 1 _ _ rfl h
  obtain ⟨_, m2, y2, h2⟩ := shape_field Try.is_sense Try.places_sense 2 _ _ rfl h
  rw [show Try.prog.cellsOf 28 = 3 from by kernel_rfl] at hl
  rw [show Try.prog.cellsOf 3 = 1 from by kernel_rfl] at h0 h1 h2
  obtain ⟨n0, e0, w0⟩ := shape_int Try.underlying3 h0
  obtain ⟨n1, e1, w1⟩ := shape_int Try.underlying3 h1
  obtain ⟨n2, e2, w2⟩ := shape_int Try.underlying3 h2
  refine ⟨(n0, n1, n2), ⟨bounds_i64 w0, bounds_i64 w1, bounds_i64 w2⟩, ?_⟩
  match cs, hl with
  | [x0, x1, x2], _ =>
    simp at e0 e1 e2
    rw [e0, e1, e2]
def RSense (v : Value) : Prop := ∃ s : Sns, OkS s ∧ v = sval s
theorem rd_sense (hv : Value.okWide Try.prog w r base 28 v) (h : DataW.Trod enc Try.prog w 0 (fun _ => true) true 28 v d p) : RSense v := by
  obtain ⟨cs, rfl, _⟩ := okWide_struct Try.is_sense hv
  obtain ⟨fuel, hf⟩ := h
  obtain ⟨s, hs, e⟩ := shape_sense fuel _ _ hf
  exact ⟨s, hs, agg_of (show cs.toList = _ from e)⟩
theorem sv_flatten : ∀ css : List (List Value), (∀ cs ∈ css, ∃ s : Sns, OkS s ∧ cs = sc s) → ∃ L : List Sns, L.length = css.length ∧ (∀ s ∈ L, OkS s) ∧ css.flatten = sv L
  | [], _ => ⟨[], rfl, (fun d hd => by cases hd), rfl⟩
  | c :: css, h => by
    obtain ⟨X, hX, rfl⟩ := h c (by simp)
    obtain ⟨D, h1, h2, h3⟩ := sv_flatten css (fun cs hcs => h cs (by simp [hcs]))
    refine ⟨X :: D, by simp [h1], fun d hd => ?_, by rw [List.flatten_cons, h3, sv_cons]⟩
    rcases List.mem_cons.1 hd with rfl | hd
    · exact hX
    · exact h2 d hd
def Sl (w : World) (v : Value) (L : List Sns) : Prop := Rw 3 w v L.length (sv L) ∧ ∀ s ∈ L, OkS s
def RSenses (w : World) (v : Value) : Prop := ∃ L : List Sns, Sl w v L
end
theorem Sl.later {w w' : World} {v : Value} {L : List Sns} (h : Sl w v L) (hl : Later w w') : Sl w' v L := ⟨h.1.later hl, h.2⟩
theorem Sl.nil (w : World) : Sl w (.slice none 0 0) [] := ⟨Rw.nil 3 w, fun s hs => by cases hs⟩
theorem sc_one (s : Sns) : ∀ u ∈ sc s, u.oneCell' = true := by
  intro u hu
  simp [sc] at hu
  rcases hu with rfl | rfl | rfl <;> rfl
/-- 'x := v', v a sense -/
theorem wpList_newS {w : World} {ops : Array Oper} {rest : List Oper} {o1 o2 : Oper} {a : Act} {Q : Exit → Act → World → Prop} (hg1 : o1.guard = none) (hg2 : o2.guard = none) (h1 : o1.op = .alloc 28) (d : Tmp) (hd : o1.dst = some d) (hd' : d < a.tmps.size) (y : Operand) (hy' : y ≠ .tmp d) (h2 : o2.op = .store 28 (.tmp d) y)
    (s : Sns) (hy : a.eval y = sval s)
    (h : ∀ (g : Nat) (w' : World), Box w' g 28 (sc s) → Later w w' → Hid (g = w.heap.size ∧ w' = w.alloc (.cells (sc s).toArray 28)) → wpList Try.prog ops Q rest ((a.put (some d) (.pointer (some ⟨g, 0, none⟩))).put o2.dst undef) w') : wpList Try.prog ops Q (o1 :: o2 :: rest) a w :=
  wpList_new hg1 hg2 28 h1 d hd hd' y hy' h2 #[.int .i64 0, .int .i64 0, .int .i64 0] (sc s) Try.zero_sense rfl hy (sc_one s) h
theorem wpList_neqS {w : World} {ops : Array Oper} {rest : List Oper} {o : Oper} {a : Act} {Q : Exit → Act → World → Prop} (hw : Region.wanted o (yielded ops a.tmps) = true) (x y : Operand) (hop : o.op = .binOp .neq 28 x y 28)
    (s t : Sns) (hx : a.eval x = sval s) (hy : a.eval y = sval t) (h : wpList Try.prog ops Q rest (a.put o.dst (.bool (!(s == t)))) w) : wpList Try.prog ops Q (o :: rest) a w := by
  refine wpList_step fun K hK => ?_
  rw [if_pos hw]
  unfold Go.Oper.wp execOp
  simp [hop, hx, hy, run_eqGuard_agg w .neq 28 x y _ _ Try.guard_sense, run_neq_struct, sense_eq, Result.andThen]
  exact hK _ _ h
/-- two results, the second one in a variable of its own -/
theorem results_tmp_cell' {fn : Func} {p q : Tmp} {ty : TypeId} (h : fn.results = #[.tmp q, .cell p ty]) (tmps : Array Value) (P : Program) (w : World) (b o : Nat) (hp : tmps.getD p undef = .pointer (some ⟨b, o, none⟩)) (v u : Value) (hl : (loadVar ty ⟨b, o, none⟩).run P w = .ok v w) (hq : tmps.getD q undef = u) :
    (results fn tmps).run P w = .ok (.tuple #[u, v]) w := by
  have ha : (asAddr (tmps.getD p undef)).run P w = .ok ⟨b, o, none⟩ w := by rw [hp]; rfl
  simp only [results, h]
  simp only [List.mapM_toArray, Sem.run_bind]
  simp [ha, hl, hq, -Array.getD_eq_getD_getElem?]
end Go.Proofs.Ytdhagfklcfajgaa

namespace Go.Proofs.Ytdhagfklcfajgaa
open Go.ChangeShapes Go.WideShapes Go.ChangeAt Go.RowKit
set_option linter.unusedVariables false
set_option linter.unusedSimpArgs false

/-! The document's answers for senses. -/
def b8 (x : Int) : UInt8 := UInt8.ofNat (x % 256).toNat
theorem b8_nat (x : Int) : ((b8 x).toNat : Int) = x % 256 := by
  have h1 : 0 ≤ x % 256 := Int.emod_nonneg _ (by omega)
  have h2 : x % 256 < 256 := Int.emod_lt_of_pos _ (by omega)
  simp only [b8, UInt8.toNat_ofNat']
  omega
theorem b8_byte (b : UInt8) : b8 (b.toNat : Int) = b := by
  have h := b8_nat (b.toNat : Int)
  have hb : b.toNat < 256 := UInt8.toNat_lt b
  apply UInt8.toNat_inj.1
  omega
def bytesL (s : Sns) : List UInt8 := [112, 0, b8 s.1, 0, 0, 0, 0, 10, 0, 0, 0, 0, b8 s.2.1, b8 s.2.2, 0, 0, 0, 0]
theorem bytesL_length (s : Sns) : (bytesL s).length = 18 := rfl

theorem bs_of_box {w : World} {g n : Nat} {t : TypeId} {xs : List Value} {l : List UInt8} (h : Box w g t xs) (hx : xs = bv l) (hl : l.length = n) (hn : n ≤ 1000000) : Bs w (.slice (some ⟨g, 0, none⟩) n n) l := by
  subst hx
  have hr : Rw 1 w (.slice (some ⟨g, 0, none⟩) n n) n (bv l) := ⟨by rw [bv_length, hl]; omega, by unfold maxLen; omega, _, n, rfl, Nat.le_refl _, .inr ⟨g, 0, rfl, h.range⟩⟩
  exact hr.bs.1
theorem rof_c (k c q : Int) (w : World) : Calls Try.prog 19 #[.int .i64 k, .int .i64 c, .int .i64 q] w fun e w' => e = .returned (sval (k, c, q)) ∧ Later w w' := by
  have B0 := hide (Box.new w 28 #[.int .i64 k, .int .i64 c, .int .i64 q])
  have L0 := hide ((Later.refl w).alloc (.cells #[.int .i64 k, .int .i64 c, .int .i64 q] 28))
  go_enter Try.func19, Try.ntmps19
  go_wp2
  exact bodyPost_ret (results_cell1 rfl _ _ _ w.heap.size 0 rfl (sval (k, c, q)) (run_loadVar_mid _ _ _ _ [.int .i64 k, .int .i64 c, .int .i64 q] _ B0.out.range Try.underlying28 rfl (by kernel_rfl))) rfl ⟨rfl, L0.out⟩
def sAt (l : List UInt8) : Sns := ((l.getD 2 0).toNat, (l.getD 12 0).toNat, (l.getD 13 0).toNat)
def parseB (l : List UInt8) : Bool := l.length == 18 && bytesL (sAt l) == l
def parseS (l : List UInt8) : Sns := if parseB l then sAt l else (0, 0, 0)
def strOf (l : List UInt8) : ByteArray := ⟨l.toArray⟩
theorem strOf_inj {l m : List UInt8} : strOf l = strOf m ↔ l = m := by
  constructor
  · intro h
    have := congrArg (fun b : ByteArray => b.data.toList) h
    simpa [strOf] using this
  · intro h; rw [h]
theorem strOf_list (l : List UInt8) : (strOf l).toList = l := by rw [ByteArray.toList_eq]; simp [strOf]
theorem Bs.strOf {w : World} {v : Value} {l : List UInt8} (h : Bs w v l) : (convert 26 9 v).run Try.prog w = .ok (.string (strOf l)) w := h.str

end Go.Proofs.Ytdhagfklcfajgaa

namespace Go.Proofs.Ytdhagfklcfajgaa
open Go.ChangeShapes Go.WideShapes Go.ChangeAt Go.RowKit
set_option linter.unusedVariables false
set_option linter.unusedSimpArgs false

/-! The document's inquiry: Serial, first, Standard, Cut. -/
def serL (lun : Int) : List UInt8 := [82, 84, 48, 48, 48, 48, 48, UInt8.ofNat (48 + (lun % 8).toNat)]
def firstB (there : Bool) : UInt8 := if there then 0 else 127
def stdL (there : Bool) : List UInt8 := [firstB there, 128, 6, 2, 31, 0, 0, 2, 82, 69, 84, 73, 67, 85, 76, 69, 71, 65, 68, 71, 69, 84, 32, 68, 73, 83, 75, 32, 32, 32, 32, 32, 48, 48, 48, 49]
theorem rfirst7_c (there : Bool) (w : World) : Calls Try.prog 25 #[.bool there] w fun e w' => e = .returned (.int .u8 ((firstB there).toNat : Int)) ∧ w' = w := by
  cases there with
  | true =>
    go_enter Try.func25, Try.ntmps25
    go_wp2
    go_ret
    exact ⟨rfl, rfl⟩
  | false =>
    go_enter Try.func25, Try.ntmps25
    go_wp2
    go_ret
    exact ⟨rfl, rfl⟩
theorem bits3 (x : Nat) : bitsI x 0 3 = x % 8 := by
  unfold bitsI
  rw [if_pos (by decide)]
  simp [bitsN]
set_option maxHeartbeats 1000000 in
theorem rserial_c (lun : Int) (w : World) (hl : -9223372036854775808 ≤ lun ∧ lun ≤ 9223372036854775807) : Calls Try.prog 11 #[.int .i64 lun] w fun e w' => e = .returned (.string (strOf (serL lun))) ∧ Later w w' := by
  obtain ⟨x, hx, hx2⟩ : ∃ x : Nat, IntKind.u64.wrap lun = (x : Int) ∧ x ≤ 18446744073709551615 := ⟨(lun % 18446744073709551616).toNat, by rw [IntKind.wrap_u64]; omega, by omega⟩
  have hd : x % 8 = (lun % 8).toNat := by rw [IntKind.wrap_u64] at hx; omega
  obtain ⟨d, hd2⟩ : ∃ d : Nat, d = x % 8 := ⟨_, rfl⟩
  have hd8 : d < 8 := by omega
  have HS : Hid (serL lun = [82, 84, 48, 48, 48, 48, 48, UInt8.ofNat (48 + d)]) := by rw [Hid, serL, ← hd, ← hd2]
  have HB : Hid (bitsI x 0 3 = d) := by rw [Hid, bits3, hd2]
  clear hd hd2
  have LL := hide ((Later.refl w).alloc (.cells #[.string ⟨#[48]⟩, .string ⟨#[49]⟩, .string ⟨#[50]⟩, .string ⟨#[51]⟩, .string ⟨#[52]⟩, .string ⟨#[53]⟩, .string ⟨#[54]⟩, .string ⟨#[55]⟩] 9))
  have BX := hide (Box.new w 9 #[.string ⟨#[48]⟩, .string ⟨#[49]⟩, .string ⟨#[50]⟩, .string ⟨#[51]⟩, .string ⟨#[52]⟩, .string ⟨#[53]⟩, .string ⟨#[54]⟩, .string ⟨#[55]⟩])
  go_enter Try.func11, Try.ntmps11
  go_wp2_with fail
  refine (rbits_c x 0 3 _ hx2).mono ?_
  rintro e w' ⟨rfl, hw⟩
  have hw2 := hw.symm
  subst hw2
  clear hw
  rw [HB.out]
  rcases (show d = 0 ∨ d = 1 ∨ d = 2 ∨ d = 3 ∨ d = 4 ∨ d = 5 ∨ d = 6 ∨ d = 7 by omega) with rfl | rfl | rfl | rfl | rfl | rfl | rfl | rfl <;>
  · have k0 := BX.out.cell 0
    have k1 := BX.out.cell 1
    have k2 := BX.out.cell 2
    have k3 := BX.out.cell 3
    have k4 := BX.out.cell 4
    have k5 := BX.out.cell 5
    have k6 := BX.out.cell 6
    have k7 := BX.out.cell 7
    go_wp2
    go_ret
    refine ⟨by rw [HS.out]; rfl, LL.out⟩
end Go.Proofs.Ytdhagfklcfajgaa

namespace Go.Proofs.Ytdhagfklcfajgaa
open Go.ChangeShapes Go.WideShapes Go.ChangeAt Go.RowKit
set_option linter.unusedVariables false
set_option linter.unusedSimpArgs false

/-! Bytes of a constant text, and of any text. -/
theorem owns_box {w : World} {g n B : Nat} {e : TypeId} {l : List UInt8} (h : Box w g e (bv l)) (hl : l.length = n) (hm : n ≤ 1000000) (hB : B ≤ g) : w.ownsRow B e 1 (.slice (some ⟨g, 0, none⟩) n n) n (bv l) :=
  ⟨by rw [bv_length]; omega, .inr ⟨g, n, (bv l).toArray, rfl, hB, h, Nat.le_refl _, by unfold maxLen; omega, by simp [bv_length]; omega, List.take_of_length_le (by simp [bv_length]; omega)⟩⟩
theorem cell_freeze (w : World) (a b : Addr) (n : Nat) : (w.freeze a n).cell? b = w.cell? b := by
  unfold World.freeze
  split
  · rfl
  · unfold World.cell?
    simp only [Array.getElem?_modify]
    by_cases h : a.block = b.block
    · rw [if_pos h]
      cases hh : w.heap[b.block]? with
      | none => rfl
      | some o => cases o <;> rfl
    · rw [if_neg h]
theorem later_freeze {w0 w : World} (h : Later w0 w) {a : Addr} (hg : w0.heap.size ≤ a.block) (n : Nat) : Later w0 (w.freeze a n) := by
  unfold World.freeze
  split
  · exact h
  · refine ⟨h.os, h.tape, h.output, by simpa using h.size, fun k hk => ?_⟩
    simp only [Array.getElem?_modify]
    rw [if_neg (by omega)]
    exact h.block k hk
theorem heap_freeze_other (w : World) (a : Addr) (n k : Nat) (h : a.block ≠ k) : (w.freeze a n).heap[k]? = w.heap[k]? := by
  unfold World.freeze
  split
  · rfl
  · simp only [Array.getElem?_modify]
    rw [if_neg h]
theorem run_conv_box {w : World} {g n c : Nat} {l : List UInt8} (hB : Box w g 5 (bv l)) : (convert 26 26 (.slice (some ⟨g, 0, none⟩) n c)).run Try.prog w = .ok (.slice (some ⟨g, 0, none⟩) n c) (w.freeze ⟨g, l.length, none⟩ 1) := by
  have hsh : w.shape? g = some (5, l.length) := by unfold World.shape?; rw [hB]; simp [bv_length]
  simp [convert, run_underlying Try.underlying26, run_underlying Try.underlying5, markStringish, hsh]
/-- '[]byte("..")': the world behind it stands by itself -/
theorem wpList_conv {w : World} {ops : Array Oper} {rest : List Oper} {o : Oper} {a : Act} {Q : Exit → Act → World → Prop} (hg : o.guard = none) (x : Operand) (hop : o.op = Op.convert 26 26 x) (g n : Nat) (l : List UInt8) (hx : a.eval x = .slice (some ⟨g, 0, none⟩) n n) (hB : Box w g 5 (bv l)) (hl : l.length = n) (hm : n ≤ 1000000)
    (h : ∀ w', Bs w' (.slice (some ⟨g, 0, none⟩) n n) l → Hid (w' = w.freeze ⟨g, l.length, none⟩ 1) → wpList Try.prog ops Q rest (a.put o.dst (.slice (some ⟨g, 0, none⟩) n n)) w') : wpList Try.prog ops Q (o :: rest) a w := by
  refine wpList_plain hg fun K hK => ?_
  have hrun := run_conv_box (n := n) (c := n) hB
  have hb : Bs (w.freeze ⟨g, l.length, none⟩ 1) (.slice (some ⟨g, 0, none⟩) n n) l := (bs_of_box hB rfl hl hm).cellsOf fun b u hu => by rw [cell_freeze]; exact hu
  unfold Go.Oper.wp
  simp [execOp, hop, hx, hrun, Result.andThen]
  exact hK _ _ (h _ hb rfl)
theorem later_bytes (w : World) (e : TypeId) (s : ByteArray) : Later w (Lib.bytesWorld w e s) := by
  unfold Lib.bytesWorld
  exact later_freeze (((Later.refl w).drew).alloc _) (Nat.le_refl _) _
theorem bs_bytes (w : World) (l : List UInt8) (hl : l.length ≤ 1000000) : Bs (Lib.bytesWorld w 5 (strOf l)) (.slice (some ⟨w.heap.size, 0, none⟩) l.length (grownCap w l.length 0 5)) l := by
  refine ⟨by unfold maxLen; omega, some ⟨w.heap.size, 0, none⟩, _, rfl, ?_, .inr ⟨w.heap.size, 0, rfl, fun j hj => ?_⟩⟩
  · exact grownCap_ge _ _ _ _
  · rw [Nat.zero_add, Lib.bytesWorld_cell w 5 (strOf l) j (by simpa [strOf, ByteArray.size] using hj)]
    simp [strOf, List.getD, hj]
set_option maxHeartbeats 1000000 in
theorem rstandard_c (there : Bool) (w : World) : Calls Try.prog 15 #[.bool there] w fun e w' => ∃ v, e = .returned v ∧ Later w w' ∧ Bs w' v (stdL there) := by
  have HS : Hid (stdL there = [firstB there, 128, 6, 2, 31, 0, 0, 2] ++ [82, 69, 84, 73, 67, 85, 76, 69, 71, 65, 68, 71, 69, 84, 32, 68, 73, 83, 75, 32, 32, 32, 32, 32, 48, 48, 48, 49]) := rfl
  go_enter Try.func15, Try.ntmps15
  go_wp2_with fail
  refine (rfirst7_c there _).mono ?_
  rintro e w' ⟨rfl, hw⟩
  have hw2 := hw.symm
  subst hw2
  clear hw
  generalize firstB there = f at *
  go_wp2_with (first | (at_builtin; fail) | (refine wpList_conv rfl (.tmp 6) rfl (w.heap.size + 1) 28 [82, 69, 84, 73, 67, 85, 76, 69, 71, 65, 68, 71, 69, 84, 32, 68, 73, 83, 75, 32, 32, 32, 32, 32, 48, 48, 48, 49] rfl (Box.new' _ _ _ _ rfl _ (by simp)) rfl (by decide) ?_))
  intro w2 hb2 hw2
  have LL : Hid (Later w w2) := by rw [Hid, hw2.out]; exact later_freeze (((Later.refl w).alloc _).alloc _) (Nat.le_succ _) _
  have B2 : Hid (Box w2 w.heap.size 5 (bv [f, 128, 6, 2, 31, 0, 0, 2])) := by
    rw [Hid, hw2.out]
    unfold Box
    rw [heap_freeze_other _ _ _ _ (by show w.heap.size + 1 ≠ w.heap.size; omega)]
    exact (Box.new w 5 #[.int .u8 (f.toNat : Int), .int .u8 128, .int .u8 6, .int .u8 2, .int .u8 31, .int .u8 0, .int .u8 0, .int .u8 2]).alloc _
  have V2 := hide hb2
  clear hb2 hw2
  go_wp2_with (at_builtin; refine wpList_append_bs rfl (.tmp 5) (.tmp 7) rfl w.heap.size _ 8 [f, 128, 6, 2, 31, 0, 0, 2] rfl (owns_box B2.out rfl (by decide) (Nat.le_refl _)) _ [82, 69, 84, 73, 67, 85, 76, 69, 71, 65, 68, 71, 69, 84, 32, 68, 73, 83, 75, 32, 32, 32, 32, 32, 48, 48, 48, 49] rfl V2.out (by decide) LL.out.size w LL.out ?_)
  intro v3 w3 ho hb hg
  have V3 := hide (Bs.of_owns ho).1
  have L3 : Hid (Later w w3) := hb
  clear ho hb hg
  go_wp2
  go_ret
  exact ⟨_, rfl, L3.out, by rw [HS.out]; exact V3.out⟩
end Go.Proofs.Ytdhagfklcfajgaa
