import Derived.Deep.MidRow
import Derived.Stop.BytesEq
import Derived.Great.BuildSlice
import Derived.ArgAppend
import Derived.Test.YtfakboehmcimpaaGreatMAA
namespace Go.Proofs.YtfakboehmcimpaaGreat
open Go.ChangeShapes Go.WideShapes Go.ChangeAt Go.RowKit
set_option linter.unusedVariables false
set_option maxRecDepth 4000
set_option linter.unusedSimpArgs false
/-! Slices of whatever elements: n elements of sz cells each, the cells xs. -/
def Rw (sz : Nat) (w : World) (v : Value) (n : Nat) (xs : List Value) : Prop :=
  xs.length = n * sz ∧ n ≤ maxLen ∧ ∃ a cap, v = .slice a n cap ∧ n ≤ cap ∧ (n = 0 ∨ ∃ b off, a = some ⟨b, off, none⟩ ∧ w.rangeAt b off xs)
theorem Rw.nil (sz : Nat) (w : World) : Rw sz w (.slice none 0 0) 0 [] := ⟨by simp, by simp, none, 0, rfl, Nat.le_refl _, .inl rfl⟩
theorem Rw.of_owns {sz : Nat} {w : World} {base : Nat} {e : TypeId} {v : Value} {n : Nat} {xs : List Value} (h : w.ownsRow base e sz v n xs) : Rw sz w v n xs := by
  rcases h.2 with ⟨rfl, h0⟩ | ⟨g, cap, cur, rfl, hb, hg, hc, hm, hs, ht⟩
  · subst h0
    have : xs = [] := List.eq_nil_of_length_eq_zero (by rw [h.1]; simp)
    subst this
    exact Rw.nil sz w
  · refine ⟨h.1, Nat.le_trans hc hm, some ⟨g, 0, none⟩, cap, rfl, hc, .inr ⟨g, 0, rfl, fun j v hv => ?_⟩⟩
    rw [Nat.zero_add, h.cellAt j (by have := (List.getElem?_eq_some_iff.1 hv).1; rw [h.1] at this; exact this)]
    exact hv
theorem Later.cellOf {w b : World} (h : Later w b) {a : Addr} {v : Value} (hc : w.cell? a = some v) : b.cell? a = some v := by
  have : a.block < w.heap.size := World.block_lt_of_cell? w a hc
  rw [Below.cell h this]; exact hc
theorem Later.range {w b : World} (h : Later w b) {k o : Nat} {xs : List Value} (hr : w.rangeAt k o xs) : b.rangeAt k o xs := fun j v hv => h.cellOf (hr j v hv)
theorem Rw.later {sz : Nat} {w b : World} {v : Value} {n : Nat} {xs : List Value} (h : Rw sz w v n xs) (hb : Later w b) : Rw sz b v n xs := by
  obtain ⟨h1, h2, a, cap, rfl, hc, h3⟩ := h
  refine ⟨h1, h2, a, cap, rfl, hc, ?_⟩
  rcases h3 with h3 | ⟨k, o, ha, hr⟩
  · exact .inl h3
  · exact .inr ⟨k, o, ha, hb.range hr⟩
theorem Bs.rw {w : World} {v : Value} {l : List UInt8} (h : Bs w v l) : Rw 1 w v l.length (bv l) := by
  obtain ⟨hm, a, cap, rfl, hc, h⟩ := h
  refine ⟨by simp [bv_length], hm, a, cap, rfl, hc, ?_⟩
  rcases h with rfl | ⟨b, off, ha, hcell⟩
  · exact .inl rfl
  · refine .inr ⟨b, off, ha, fun j u hu => ?_⟩
    have hj : j < l.length := by have := (List.getElem?_eq_some_iff.1 hu).1; rwa [bv_length] at this
    rw [hcell j hj, ← hu, bv_get_lt l j hj]
theorem Rw.bs {w : World} {v : Value} {n : Nat} {l : List UInt8} (h : Rw 1 w v n (bv l)) : Bs w v l ∧ n = l.length := by
  obtain ⟨h1, hm, a, cap, rfl, hc, h⟩ := h
  rw [bv_length, Nat.mul_one] at h1
  subst h1
  refine ⟨⟨hm, a, cap, rfl, hc, ?_⟩, rfl⟩
  rcases h with h | ⟨b, off, ha, hr⟩
  · exact .inl (List.eq_nil_of_length_eq_zero h)
  · exact .inr ⟨b, off, ha, fun j hj => hr j _ (bv_get_lt l j hj)⟩
/-- the element type's row of the table, its zero's cells given -/
def Elem (P : Program) (e : TypeId) (sz bytes : Nat) (z : Value) : Prop := ∃ i, P.info? e = some i ∧ i.zero = some z ∧ i.size = sz ∧ i.bytes = bytes
/-- 'append(a, b...)': a our own, b whatever. -/
theorem wpList_append_rw {P : Program} {w : World} {ops : Array Oper} {rest : List Oper} {o : Oper} {a : Act} {Q : Exit → Act → World → Prop} {T e : TypeId} {sz bytes : Nat} {z : Value} (he : Elem P e sz bytes z) (ht : P.underlying T = some (.slice e)) (hz : z.cells.size = sz) (hsz : 0 < sz)
    (hgd : o.guard = none) (s x : Operand) (ho : o.op = .call { callee := .builtin .append, args := #[s, x], argTypes := #[T, T] }) (B : Nat)
    (v : Value) (n : Nat) (xs : List Value) (hs : a.eval s = v) (hown : w.ownsRow B e sz v n xs) (u : Value) (m : Nat) (ys : List Value) (hx : a.eval x = u) (hu : Rw sz w u m ys) (h1 : ∀ q ∈ ys, q.oneCell' = true)
    (hbytes : (n + m) * bytes ≤ 140737488355328) (hlen : n + m ≤ maxLen) (hbase : B ≤ w.heap.size) (w0 : World) (hb : Below B w0 w)
    (h : ∀ v' w', w'.ownsRow B e sz v' (n + m) (xs ++ ys) → Below B w0 w' → w.grownBy w' v.ownBlock → wpList P ops Q rest (a.put o.dst v') w') : wpList P ops Q (o :: rest) a w := by
  obtain ⟨i0, hi, hz0, hz1, hz2⟩ := he
  have hB : ∀ k, v.ownBlock = some k → B ≤ k := fun k hk => (hown.lt k hk).1
  obtain ⟨hl, hm, ad, cap, rfl, hcap, hu⟩ := hu
  cases ad with
  | none =>
    have hm0 : m = 0 := by
      rcases hu with h | ⟨_, _, h, _⟩
      · exact h
      · cases h
    subst hm0
    have hys : ys = [] := List.eq_nil_of_length_eq_zero (by rw [hl]; simp)
    subst hys
    refine wpList_plain hgd fun K hK => ?_
    have hrun : (Builtin.append_ #[T, T] o.type #[v, .slice none 0 cap]).run P w = .ok v w := by
      rcases hown.2 with ⟨rfl, h0⟩ | ⟨g, c, cur, rfl, hbg, hg, hc, hmm, hsz, ht'⟩
      · simp [Builtin.append_, run_underlying ht, sizeOf, typeInfo, hi, Builtin.lenOf, Builtin.firstCells]
      · simp [Builtin.append_, run_underlying ht, sizeOf, typeInfo, hi, Builtin.lenOf, Builtin.firstCells, hc, storeCells]
    unfold Go.Oper.wp
    simp [execOp, ho, resolve, invoke, builtin, hs, hx, hrun, Result.andThen]
    exact hK _ _ (h v w (by simpa using hown) hb (World.grownBy.refl _ _))
  | some ad =>
    refine wpList_append_own w hgd s x T ho B e i0 z sz bytes ht hi hz0 hz1 hz2 hz hsz v n xs hs hown ad m cap ys hx hl ?_ h1 hlen hbytes hbase ?_
    · intro j q hq
      rcases hu with rfl | ⟨b, off, e', hc⟩
      · have : ys = [] := List.eq_nil_of_length_eq_zero (by rw [hl]; simp)
        subst this
        simp at hq
      · cases e'
        rw [Addr.add_mid]; exact hc j q hq
    · intro v' w' ho' hg' _
      exact h v' w' ho' (hb.grown hg' hbase hB) hg'
theorem madeCells_rep (c : Value) (k m : Nat) (hk : 0 < k) : (madeCells (Array.replicate k c) m).toList = List.replicate m c := by
  apply List.ext_getElem?
  intro j
  by_cases hj : j < m
  · simp [madeCells, hj, Nat.mod_lt _ hk]
  · simp [madeCells, hj]
theorem range_part {w : World} {b off : Nat} {xs : List Value} (h : w.rangeAt b off xs) (o k : Nat) : w.rangeAt b (off + o) ((xs.drop o).take k) := fun j v hv => by
  have hj : j < ((xs.drop o).take k).length := (List.getElem?_eq_some_iff.1 hv).1
  simp at hj
  rw [List.getElem?_take_of_lt (by omega), List.getElem?_drop] at hv
  rw [Nat.add_assoc]
  exact h (o + j) v hv
theorem bv_part (l : List UInt8) (o k : Nat) : ((bv l).drop o).take k = bv (seg l o k) := by simp [bv, seg, List.map_take, List.map_drop]
/-- what lies behind a store of some cells into an owned row -/
theorem owns_setCells {w : World} {B : Nat} {e : TypeId} {sz g n cap : Nat} {xs : List Value} (h : w.ownsRow B e sz (.slice (some ⟨g, 0, none⟩) n cap) n xs) : ∀ (vs : List Value) (o : Nat), o + vs.length ≤ n * sz →
    (w.setCells g o vs).ownsRow B e sz (.slice (some ⟨g, 0, none⟩) n cap) n (xs.take o ++ vs ++ xs.drop (o + vs.length)) ∧ w.grownBy (w.setCells g o vs) (some g) := by
  intro vs
  induction vs generalizing w xs with
  | nil => intro o ho; simp [World.setCells]; exact ⟨h, World.grownBy.refl _ _⟩
  | cons v vs ih =>
    intro o ho
    simp at ho
    have h1 := h.stored o v
    have h2 := ih h1.1 (o + 1) (by omega)
    rw [World.setCells]
    refine ⟨?_, ?_⟩
    · have e : xs.take o ++ (v :: vs) ++ xs.drop (o + (v :: vs).length) = (xs.set o v).take (o + 1) ++ vs ++ (xs.set o v).drop (o + 1 + vs.length) := by
        have hol : o < xs.length := by have := h.1; omega
        rw [List.drop_set_of_lt (by omega), List.take_set, List.length_cons, show o + (vs.length + 1) = o + 1 + vs.length from by omega]
        rw [List.take_succ_eq_append_getElem hol, List.set_append_right _ _ (by simp; omega)]
        simp [show o - min o xs.length = 0 from by omega]
      rw [e]; exact h2.1
    · exact ⟨h2.2.os.trans h1.2.os, h2.2.tape.trans h1.2.tape, h2.2.output.trans h1.2.output, Nat.le_trans h1.2.size h2.2.size, fun k hk hne => (h2.2.block k (Nat.lt_of_lt_of_le hk h1.2.size) hne).trans (h1.2.block k hk hne)⟩
theorem owns_there {w : World} {B : Nat} {e : TypeId} {sz g n cap : Nat} {xs : List Value} (h : w.ownsRow B e sz (.slice (some ⟨g, 0, none⟩) n cap) n xs) (o k : Nat) (hk : o + k ≤ n * sz) : w.there g o k := fun j hj => by
  refine ⟨?_, h.frozenAt (o + j)⟩
  rw [h.cellAt (o + j) (by omega)]
  have : o + j < xs.length := by have := h.1; omega
  simp [this]
/-- a variable of its own block -/
def Box (w : World) (g : Nat) (t : TypeId) (xs : List Value) : Prop := w.heap[g]? = some (.cells xs.toArray t (0, 0))
theorem Box.new (w : World) (t : TypeId) (c : Array Value) : Box (w.alloc (.cells c t)) w.heap.size t c.toList := by unfold Box; rw [heap_alloc_new]
theorem Box.cell {w : World} {g : Nat} {t : TypeId} {xs : List Value} (h : Box w g t xs) (j : Nat) : w.cell? ⟨g, j, none⟩ = xs[j]? := by rw [cell_of_row w g j _ t (0, 0) h]; simp
theorem Box.frozen {w : World} {g : Nat} {t : TypeId} {xs : List Value} (h : Box w g t xs) (j : Nat) : w.frozen? ⟨g, j, none⟩ = false := frozen_of_row w g j _ t h
theorem Box.set {w : World} {g : Nat} {t : TypeId} {xs : List Value} (h : Box w g t xs) (j : Nat) (v : Value) : Box (w.setCell ⟨g, j, none⟩ v) g t (xs.set j v) := by
  unfold Box; rw [heap_setCell_same w g j _ t v h]; simp
theorem Box.other {w : World} {g : Nat} {t : TypeId} {xs : List Value} (h : Box w g t xs) (a : Addr) (v : Value) (hne : g ≠ a.block) : Box (w.setCell a v) g t xs := by
  unfold Box; rw [heap_setCell_other w a g v hne]; exact h
theorem Box.alloc {w : World} {g : Nat} {t : TypeId} {xs : List Value} (h : Box w g t xs) (o : Obj) : Box (w.alloc o) g t xs := by
  unfold Box; rw [Below.heap_alloc w o g (Array.getElem?_eq_some_iff.1 h).1]; exact h
theorem Box.lt {w : World} {g : Nat} {t : TypeId} {xs : List Value} (h : Box w g t xs) : g < w.heap.size := (Array.getElem?_eq_some_iff.1 h).1
theorem Box.below {w w' : World} {B g : Nat} {t : TypeId} {xs : List Value} (h : Box w g t xs) (hb : Below B w w') (hg : g < B) : Box w' g t xs := by
  unfold Box; rw [hb.block g hg]; exact h
theorem Box.later {w w' : World} {g : Nat} {t : TypeId} {xs : List Value} (h : Box w g t xs) (hb : Later w w') : Box w' g t xs := h.below hb h.lt
theorem Box.range {w : World} {g : Nat} {t : TypeId} {xs : List Value} (h : Box w g t xs) : w.rangeAt g 0 xs := fun j v hv => by rw [Nat.zero_add, h.cell j]; exact hv
theorem Box.there {w : World} {g : Nat} {t : TypeId} {xs : List Value} (h : Box w g t xs) (o n : Nat) (hn : o + n ≤ xs.length) : w.there g o n := fun j hj => ⟨by rw [h.cell (o + j)]; simp; omega, h.frozen _⟩
theorem Box.setCells {w : World} {g : Nat} {t : TypeId} {xs : List Value} (h : Box w g t xs) : ∀ (vs : List Value) (o : Nat), o + vs.length ≤ xs.length → Box (w.setCells g o vs) g t (xs.take o ++ vs ++ xs.drop (o + vs.length)) := by
  intro vs
  induction vs generalizing w xs with
  | nil => intro o _; simpa [World.setCells] using h
  | cons v vs ih =>
    intro o ho
    simp at ho
    have h2 := ih (h.set o v) (o + 1) (by simp; omega)
    rw [World.setCells]
    have e : xs.take o ++ (v :: vs) ++ xs.drop (o + (v :: vs).length) = (xs.set o v).take (o + 1) ++ vs ++ (xs.set o v).drop (o + 1 + vs.length) := by
      rw [List.drop_set_of_lt (by omega), List.take_set, List.length_cons, show o + (vs.length + 1) = o + 1 + vs.length from by omega]
      rw [List.take_succ_eq_append_getElem (by omega), List.set_append_right _ _ (by simp; omega)]
      simp [show o - min o xs.length = 0 from by omega]
    rw [e]; exact h2
theorem Later.setCells {w0 w : World} (h : Later w0 w) {g : Nat} (hg : w0.heap.size ≤ g) : ∀ (vs : List Value) (o : Nat), Later w0 (w.setCells g o vs) := by
  intro vs
  induction vs generalizing w with
  | nil => intro o; exact h
  | cons v vs ih => intro o; rw [World.setCells]; exact ih (Below.setCell h hg v) (o + 1)
theorem Later.setCell {w0 w : World} (h : Later w0 w) {a : Addr} (hg : w0.heap.size ≤ a.block) (v : Value) : Later w0 (w.setCell a v) := Below.setCell h hg v
theorem Later.alloc {w0 w : World} (h : Later w0 w) (o : Obj) : Later w0 (w.alloc o) := Below.alloc h h.size o
theorem Box.new' (w : World) (t : TypeId) (c : Array Value) (xs : List Value) (hx : c.toList = xs) (g : Nat) (hg : g = w.heap.size) : Box (w.alloc (.cells c t)) g t xs := by
  subst hg hx; exact Box.new w t c
/-- one result, in a variable of its own -/
theorem results_cell1 {fn : Func} {p : Tmp} {ty : TypeId} (h : fn.results = #[.cell p ty]) (tmps : Array Value) (P : Program) (w : World) (b o : Nat) (hp : tmps.getD p undef = .pointer (some ⟨b, o, none⟩)) (v : Value) (hl : (loadVar ty ⟨b, o, none⟩).run P w = .ok v w) :
    (results fn tmps).run P w = .ok v w := by
  have ha : (asAddr (tmps.getD p undef)).run P w = .ok ⟨b, o, none⟩ w := by rw [hp]; rfl
  simp only [results, h]
  simp only [List.mapM_toArray, Sem.run_bind]
  simp [ha, hl, -Array.getD_eq_getD_getElem?]
/-- a load of many cells, in a region that draws its order -/
theorem wpS_load {P : Program} {ops : Array Oper} {Q : Act → World → Prop} {i : Nat} {o : Oper} {σ : List (Nat × Bool)} {a : Act} {b : World} (ho : ops[i]? = some o) (hg : o.guard = none) (ty : TypeId) (x : Operand) (hop : o.op = .load ty x)
    (k off : Nat) (hx : a.eval x = .pointer (some ⟨k, off, none⟩)) (cs : List Value) (d : TypeDesc) (hc : b.rangeAt k off cs) (hu : P.underlying ty = some d) (hd : d.isRow = true) (hi : (P.info? ty).map (·.size) = some cs.length)
    (h : wpS P ops Q σ (a.put o.dst (.agg cs.toArray)) b) : wpS P ops Q ((i, false) :: σ) a b := by
  refine ⟨o, ho, ?_⟩
  have hw : Region.wanted o (yielded ops a.tmps) = true := by simp [Region.wanted, hg]
  rw [if_pos hw]
  refine ⟨.agg cs.toArray, fun w hl => ?_, h⟩
  unfold execOp
  simp only [hop, hx, Instr.loadAt, Instr.sureAddr, Sem.run_bind, Sem.run_pure, Result.andThen_ok, run_loadVar_mid w k off ty cs d (hl.range hc) hu hd hi]
  simp [Oper.mildUpon]
theorem bytes_eq {P : Program} (t e : TypeId) (n : Nat) (ht : P.underlying t = some (.array n e)) (he : P.underlying e = some (.int .u8)) (hsz : (P.info? e).map (·.size) = some 1) (xs ys : List UInt8) (hx : xs.length = n) (hy : ys.length = n) (w : World) :
    (Op.equalIn 10000 t (.agg (bv xs).toArray) (.agg (bv ys).toArray)).run P w = .ok (xs == ys) w := by
  refine run_equalIn_bytes w 9998 t e n ht he (fun w => ?_) xs ys hx hy
  cases hq : P.info? e with
  | none => simp [hq] at hsz
  | some i => simp [sizeOf, typeInfo, hq] at hsz ⊢; exact hsz
theorem take_snoc_seg (l : List UInt8) (a k : Nat) : l.take (a + k) = l.take a ++ seg l a k := by
  rw [seg, List.take_add]
/-- a store of a whole variable into a new block -/
theorem wpList_store_new {P : Program} {ops : Array Oper} {rest : List Oper} {op : Oper} {a : Act} {w : World} {Q : Exit → Act → World → Prop} (hgd : op.guard = none) (ty : TypeId) (x y : Operand) (ho : op.op = .store ty x y)
    (g : Nat) (cells : List Value) (hx : a.eval x = .pointer (some ⟨g, 0, none⟩)) (hy : a.eval y = .agg cells.toArray) (zs : List Value) (hz : Box w g ty zs) (hl : zs.length = cells.length) (hi : (P.info? ty).map (·.size) = some cells.length) (h1 : ∀ v ∈ cells, v.oneCell' = true)
    (w0 : World) (hb : Later w0 w) (hg : w0.heap.size ≤ g)
    (h : ∀ w', Box w' g ty cells → Later w0 w' → (∀ k, k ≠ g → w'.heap[k]? = w.heap[k]?) → w'.heap.size = w.heap.size → wpList P ops Q rest (a.put op.dst undef) w') : wpList P ops Q (op :: rest) a w := by
  refine wpList_store_mid hgd ty x y ho g 0 cells.toArray hx hy (by simpa using hz.there 0 cells.length (by omega)) (by simpa using hi) (all_oneCell_toArray h1) ?_
  have hB := hz.setCells cells 0 (by omega)
  have e : zs.take 0 ++ cells ++ zs.drop (0 + cells.length) = cells := by rw [List.drop_of_length_le (by omega)]; simp
  rw [e] at hB
  have key : ∀ (vs : List Value) (o : Nat) (w1 : World), (∀ k, k ≠ g → (w1.setCells g o vs).heap[k]? = w1.heap[k]?) ∧ (w1.setCells g o vs).heap.size = w1.heap.size := by
    intro vs
    induction vs with
    | nil => intro o w1; exact ⟨fun _ _ => rfl, rfl⟩
    | cons v vs ih =>
      intro o w1
      rw [World.setCells]
      have := ih (o + 1) (w1.setCell ⟨g, o, none⟩ v)
      exact ⟨fun k hk => (this.1 k hk).trans (heap_setCell_other w1 ⟨g, o, none⟩ k v hk), this.2.trans (by simp [World.setCell])⟩
  exact h _ hB (hb.setCells hg _ _) (key _ _ _).1 (key _ _ _).2
/-- 'make([]T, n)': the cells as a list of one's own -/
theorem wpList_make_of {P : Program} {w : World} {ops : Array Oper} {rest : List Oper} {o : Oper} {a : Act} {Q : Exit → Act → World → Prop} {e : TypeId} {sz bytes : Nat} {z : Value} (he : Elem P e sz bytes z)
    (hg : o.guard = none) (l c : Operand) (t : TypeId) (hop : o.op = Op.makeSlice t l c) (h1 : P.underlying t = some (.slice e)) (L C : Int) (n : Nat) (hl : a.eval l = .int .i64 L) (hc : a.eval c = .int .i64 C) (hL : L = (n : Int)) (hC : C = (n : Int))
    (b2 : bytes * n ≤ 281474976710656) (b3 : n ≤ maxLen) (xs : List Value) (hxs : (madeCells z.cells (n * sz)).toList = xs)
    (hK : ∀ w', w'.ownsRow w.heap.size e sz (.slice (some ⟨w.heap.size, 0, none⟩) n n) n xs → Later w w' → wpList P ops Q rest (a.put o.dst (.slice (some ⟨w.heap.size, 0, none⟩) n n)) w') :
    wpList P ops Q (o :: rest) a w := by
  obtain ⟨i0, hi, hz0, hz1, hz2⟩ := he
  refine wpList_make_full w hg l c t hop w.heap.size e i0 z sz h1 hi hz0 hz1 .i64 .i64 L C n hl hc hL hC (by rw [hz2]; exact b2) b3 (Nat.le_refl _) ?_
  intro w' ho hgr
  rw [hxs] at ho
  exact hK w' ho (Below.grown0 hgr)
theorem fill_one (v : Value) (sz : Nat) (zs : Array Value) (hp : 0 < sz) (hv : v.cells.size = sz) (hz : zs.size = sz) : Instr.fill (fun i => some (i * sz, sz)) zs [(0, v)] = some v.cells := by
  obtain ⟨r, hr, hs, hk⟩ := Great.fill_dense hp [v] 0 zs (by simpa using hv) (by simp [hz])
  simp at hr
  rw [hr]
  congr 1
  apply Array.ext_getElem?
  intro k
  rw [hk k]
  by_cases h : k < sz
  · rw [if_pos (by simp; omega)]
    rw [Nat.div_eq_of_lt h, Nat.mod_eq_of_lt h]
    simp
  · rw [if_neg (by simp; omega), Array.getElem?_eq_none (by omega), Array.getElem?_eq_none (by omega)]
/-- 'append(l, x)' lays x in a slice of one element first -/
theorem wpList_buildOne {P : Program} {w : World} {ops : Array Oper} {rest : List Oper} {o : Oper} {a : Act} {Q : Exit → Act → World → Prop} {T e : TypeId} {sz bytes : Nat} {z : Value} (he : Elem P e sz bytes z) (ht : P.underlying T = some (.slice e)) (hz : z.cells.size = sz) (hsz : 0 < sz) (hsm : sz ≤ 1000000)
    (hgd : o.guard = none) (x : Operand) (ho : o.op = .buildSlice T 1 #[(0, x)]) (cs : List Value) (hx : a.eval x = .agg cs.toArray) (hl : cs.length = sz)
    (h : ∀ w', Rw sz w' (.slice (some ⟨w.heap.size, 0, none⟩) 1 1) 1 cs → Later w w' → w'.heap.size = w.heap.size + 1 → wpList P ops Q rest (a.put o.dst (.slice (some ⟨w.heap.size, 0, none⟩) 1 1)) w') : wpList P ops Q (o :: rest) a w := by
  obtain ⟨i0, hi, hz0, hz1, hz2⟩ := he
  refine wpList_buildSlice hgd T e 1 #[(0, x)] ho cs.toArray i0 z ht hi hz0 (by rw [hz1]; omega) (by rw [hz1]; omega) ?_ (h _ ?_ ((Later.refl w).alloc _) (by simp))
  · rw [hz1]
    have := fill_one (.agg cs.toArray) sz ((Array.range (1 * sz)).map (z.cells[· % z.cells.size]!)) hsz (by simp [Value.cells, hl]) (by simp)
    simpa [hx, Value.cells] using this
  · refine ⟨by omega, by simp [maxLen], _, 1, rfl, Nat.le_refl _, .inr ⟨w.heap.size, 0, rfl, ?_⟩⟩
    have := (Box.new w e cs.toArray).range
    simpa using this
theorem Rw.shape {sz : Nat} {w : World} {v : Value} {n : Nat} {xs : List Value} (hr : Rw sz w v n xs) : ∃ a cap, v = .slice a n cap := by
  obtain ⟨_, _, a, cap, rfl, _⟩ := hr; exact ⟨a, cap, rfl⟩
theorem run_size {P : Program} {e : TypeId} {sz : Nat} (hs : (P.info? e).map (·.size) = some sz) (w : World) : (sizeOf e).run P w = .ok sz w := by
  cases hq : P.info? e with
  | none => simp [hq] at hs
  | some i => simp [sizeOf, typeInfo, hq] at hs ⊢; exact hs
theorem Rw.lies? {sz : Nat} {w : World} {a : Option Addr} {n cap : Nat} {xs : List Value} (h : Rw sz w (.slice a n cap) n xs) (hn : 0 < n) : ∃ b off, a = some ⟨b, off, none⟩ ∧ w.rangeAt b off xs := by
  obtain ⟨_, _, a', cap', e, _, h⟩ := h
  simp only [Value.slice.injEq] at e
  obtain ⟨rfl, -, rfl⟩ := e
  rcases h with h | ⟨b, off, rfl, h⟩
  · omega
  · exact ⟨b, off, rfl, h⟩
/-- a load of many cells, in a region that draws its order, where it is wanted -/
theorem wpS_loadG {P : Program} {ops : Array Oper} {Q : Act → World → Prop} {i : Nat} {o : Oper} {σ : List (Nat × Bool)} {a : Act} {b : World} (ho : ops[i]? = some o) (hw : Region.wanted o (yielded ops a.tmps) = true) (ty : TypeId) (x : Operand) (hop : o.op = .load ty x)
    (k off : Nat) (hx : a.eval x = .pointer (some ⟨k, off, none⟩)) (cs : List Value) (d : TypeDesc) (hc : b.rangeAt k off cs) (hu : P.underlying ty = some d) (hd : d.isRow = true) (hi : (P.info? ty).map (·.size) = some cs.length)
    (h : wpS P ops Q σ (a.put o.dst (.agg cs.toArray)) b) : wpS P ops Q ((i, false) :: σ) a b := by
  refine ⟨o, ho, ?_⟩
  rw [if_pos hw]
  refine ⟨.agg cs.toArray, fun w hl => ?_, h⟩
  unfold execOp
  simp only [hop, hx, Instr.loadAt, Instr.sureAddr, Sem.run_bind, Sem.run_pure, Result.andThen_ok, run_loadVar_mid w k off ty cs d (hl.range hc) hu hd hi]
  simp [Oper.mildUpon]
theorem Rw.lies {sz : Nat} {w : World} {ad : Addr} {n cap : Nat} {xs : List Value} (h : Rw sz w (.slice (some ad) n cap) n xs) (j : Nat) (u : Value) (hu : xs[j]? = some u) : w.cell? (ad.add j) = some u := by
  obtain ⟨hl, _, a', cap', e, _, h⟩ := h
  simp only [Value.slice.injEq] at e
  obtain ⟨rfl, -, rfl⟩ := e
  rcases h with rfl | ⟨b, off, e, hr⟩
  · have := (List.getElem?_eq_some_iff.1 hu).1; omega
  · simp only [Option.some.injEq] at e
    subst e
    rw [Addr.add_mid]; exact hr j u hu
end Go.Proofs.YtfakboehmcimpaaGreat

namespace Go.Proofs.YtfakboehmcimpaaGreat
open Go.ChangeShapes Go.WideShapes Go.ChangeAt Go.RowKit
set_option linter.unusedVariables false
set_option maxRecDepth 4000
set_option linter.unusedSimpArgs false
def withinB (c : Int) (at_ : Nat) (n : Int) : Bool := decide (0 ≤ n ∧ n ≤ c ∧ (at_ : Int) ≤ c - n)
theorem rwithin_c (c : Int) (at_ : Nat) (n : Int) (w : World) (hc : c ≤ 9223372036854775807) (ha : at_ ≤ 18446744073709551615) :
    Calls Tryz.prog 120 #[.int .i64 c, .int .u64 at_, .int .i64 n] w fun e w' => e = .returned (.bool (withinB c at_ n)) ∧ w' = w := by
  unfold withinB
  by_cases h1 : n < 0
  · have hd : decide (n < 0) = true := by simpa using h1
    go_enter Tryz.func120, Tryz.ntmps120
    go_wp2
    go_ret
    refine ⟨ret_bool (by first | (simp; done) | (simp; omega)), rfl⟩
  · have hd : decide (n < 0) = false := by simpa using h1
    by_cases h2 : c < n
    · go_enter Tryz.func120, Tryz.ntmps120
      go_wp2
      go_ret
      refine ⟨ret_bool (by first | (simp; done) | (simp; omega)), rfl⟩
    · go_enter Tryz.func120, Tryz.ntmps120
      go_wp2
      go_ret
      refine ⟨ret_bool (by first | (simp; done) | (simp; omega)), rfl⟩
theorem Tryz.info_block : (Tryz.prog.info? 80).map (·.size) = some 64 := by kernel_rfl
theorem rsame_len (aa ab : Option Addr) (n m ca cb : Nat) (w : World) (hn : n ≤ maxLen) (hm : m ≤ maxLen) (hne : n ≠ m) :
    Calls Tryz.prog 122 #[.slice aa n ca, .slice ab m cb] w fun e w' => e = .returned (.bool false) ∧ w' = w := by
  unfold maxLen at hn hm
  have hb : ((n : Int) != (m : Int)) = true := by rw [bne_iff_ne]; omega
  go_enter Tryz.func122, Tryz.ntmps122
  go_wp2
  go_ret
  exact ⟨rfl, rfl⟩
theorem rsame_nil (aa ab : Option Addr) (ca cb : Nat) (w : World) :
    Calls Tryz.prog 122 #[.slice aa 0 ca, .slice ab 0 cb] w fun e w' => e = .returned (.bool true) ∧ w' = w := by
  go_enter Tryz.func122, Tryz.ntmps122
  go_wp2
  refine wp_loop_rounds 1 ?_
  rw [rounds_succ]
  go_wp2
  go_ret
  exact ⟨rfl, rfl⟩
set_option maxHeartbeats 1000000 in
theorem rsame_yes (ba oa bb ob n ca cb : Nat) (F G : List UInt8) (w : World) (hn : n ≤ maxLen) (hF : F.length = n * 64) (hG : G.length = n * 64) (ha : w.rangeAt ba oa (bv F)) (hb : w.rangeAt bb ob (bv G)) :
    Calls Tryz.prog 122 #[.slice (some ⟨ba, oa, none⟩) n ca, .slice (some ⟨bb, ob, none⟩) n cb] w fun e w' => e = .returned (.bool (F == G)) ∧ Later w w' := by
  unfold maxLen at hn
  have hne : ((n : Int) != (n : Int)) = false := by simp
  have Ha := hide ha
  have Hb := hide hb
  clear ha hb
  go_enter Tryz.func122, Tryz.ntmps122
  go_wp2
  go_loopw [5] (fun i wr => ∃ k : Nat, k ≤ n ∧ i = .int .i64 k ∧ Hid (F.take (k * 64) = G.take (k * 64)) ∧ Hid (Later w wr)) (fun i _ => n - (intOf i).toNat)
  case atStart => exact ⟨0, Nat.zero_le _, rfl, by simp [Hid], Later.refl w⟩
  case round =>
    obtain ⟨k, hk, rfl, he, hl⟩ := hrel
    by_cases hlt : k < n
    · have hFk := hide (seg_length F (k * 64) 64 (by omega))
      have hGk := hide (seg_length G (k * 64) 64 (by omega))
      have ra := hide (by have := range_part (hl.out.range Ha.out) (k * 64) 64; rwa [bv_part] at this)
      have rb := hide (by have := range_part (hl.out.range Hb.out) (k * 64) 64; rwa [bv_part] at this)
      have heq := hide (fun w => bytes_eq (P := Tryz.prog) 80 5 64 Tryz.underlying80 Tryz.underlying5 (by kernel_rfl) (seg F (k * 64) 64) (seg G (k * 64) 64) hFk.out hGk.out w)
      go_wp2_with fail
      refine wp_region_sched ((List.range 9).map fun i => (i, false)) (by kernel_rfl) (by kernel_rfl) (by kernel_rfl) (by kernel_rfl) ?_
      simp only [List.range, List.range.loop, List.map]
      iterate 3 (refine wpS_mild rfl (fun K hK => ?_); go_simp; refine hK _ ?_; clear hK K)
      refine wpS_load rfl rfl 80 (.tmp 19) rfl ba (oa + k * 64) rfl (bv (seg F (k * 64) 64)) _ ((World.rangeAt_drew _ _ _ _).2 ra.out) Tryz.underlying80 rfl (by rw [Tryz.info_block, bv_length, hFk.out]) ?_
      iterate 3 (refine wpS_mild rfl (fun K hK => ?_); go_simp; refine hK _ ?_; clear hK K)
      refine wpS_load rfl rfl 80 (.tmp 23) rfl bb (ob + k * 64) rfl (bv (seg G (k * 64) 64)) _ ((World.rangeAt_drew _ _ _ _).2 rb.out) Tryz.underlying80 rfl (by rw [Tryz.info_block, bv_length, hGk.out]) ?_
      have heq' := fun p => heq.out (rg wr.drew p)
      iterate 1 (refine wpS_mild rfl (fun K hK => ?_); go_simp; refine hK _ ?_; clear hK K)
      clear heq' ra rb
      refine wpS_nil (fun wx hwx => ?_)
      have hlx := hide (hl.out.drew.trans hwx)
      have hstep := hide (And.intro (take_snoc_seg F (k * 64) 64) (take_snoc_seg G (k * 64) 64))
      clear hwx hl heq hFk hGk
      generalize hX : seg F (k * 64) 64 = X at *
      generalize hY : seg G (k * 64) 64 = Y at *
      have HX := hide hX
      have HY := hide hY
      clear hX hY
      by_cases hxy : X = Y
      · have hbq : (!(X == Y)) = false := by simpa using hxy
        have Hxy := hide hxy
        rw [hbq]
        clear hxy hbq
        go_wp2
        go_roundw
        case rel =>
          refine ⟨k + 1, by omega, by go_num, ?_, hlx⟩
          unfold Hid
          rw [show (k + 1) * 64 = k * 64 + 64 from by omega, hstep.out.1, hstep.out.2, he.out, Hxy.out]
        case measure => simp [intOf]; omega
      · have hbq : (!(X == Y)) = true := by simpa using hxy
        have Hxy := hide hxy
        rw [hbq]
        clear hxy hbq
        go_wp2
        go_ret
        refine ⟨ret_bool ?_, hlx.out⟩
        symm
        rw [beq_eq_false_iff_ne]
        intro e
        exact Hxy.out (by rw [← HX.out, ← HY.out, e])
    · have hkn : Hid (k = n) := by unfold Hid; omega
      go_wp2
      go_ret
      refine ⟨ret_bool ?_, hl.out⟩
      symm
      rw [beq_iff_eq]
      have := he.out
      rwa [hkn.out, List.take_of_length_le (by omega), List.take_of_length_le (by omega)] at this
theorem rsame_c {va vb : Value} {n m : Nat} {F G : List UInt8} (w : World) (ha : Rw 64 w va n (bv F)) (hb : Rw 64 w vb m (bv G)) :
    Calls Tryz.prog 122 #[va, vb] w fun e w' => e = .returned (.bool (F == G)) ∧ Later w w' := by
  obtain ⟨l1, m1, aa, ca, rfl, _, h1⟩ := ha
  obtain ⟨l2, m2, ab, cb, rfl, _, h2⟩ := hb
  rw [bv_length] at l1 l2
  by_cases hnm : n = m
  · subst hnm
    rcases h1 with rfl | ⟨b1, o1, rfl, r1⟩
    · have e1 : F = [] := List.eq_nil_of_length_eq_zero (by omega)
      have e2 : G = [] := List.eq_nil_of_length_eq_zero (by omega)
      subst e1 e2
      exact (rsame_nil aa ab ca cb w).mono fun e w' ⟨he, hw⟩ => ⟨he, by rw [hw]; exact Later.refl w⟩
    · rcases h2 with rfl | ⟨b2, o2, rfl, r2⟩
      · have e1 : F = [] := List.eq_nil_of_length_eq_zero (by omega)
        have e2 : G = [] := List.eq_nil_of_length_eq_zero (by omega)
        subst e1 e2
        exact (rsame_nil _ ab ca cb w).mono fun e w' ⟨he, hw⟩ => ⟨he, by rw [hw]; exact Later.refl w⟩
      · exact rsame_yes b1 o1 b2 o2 n ca cb F G w m1 l1 l2 r1 r2
  · refine (rsame_len aa ab n m ca cb w m1 m2 hnm).mono fun e w' ⟨he, hw⟩ => ⟨?_, by rw [hw]; exact Later.refl w⟩
    rw [he]
    refine ret_bool ?_
    symm
    rw [beq_eq_false_iff_ne]
    intro e
    rw [e] at l1
    omega
end Go.Proofs.YtfakboehmcimpaaGreat

namespace Go.Proofs.YtfakboehmcimpaaGreat
open Go.ChangeShapes Go.WideShapes Go.ChangeAt Go.RowKit
set_option linter.unusedVariables false
set_option maxRecDepth 4000
set_option linter.unusedSimpArgs false
theorem Tryz.elem_block : Elem Tryz.prog 80 64 64 (.agg (Array.replicate 64 (.int .u8 0))) := by
  have h : (Tryz.prog.info? 80).map (fun i => (i.zero, i.size, i.bytes)) = some (some (.agg (Array.replicate 64 (.int .u8 0))), 64, 64) := by kernel_rfl
  obtain ⟨i, hi, h1, h2, h3⟩ := info_parts h
  exact ⟨i, hi, h1, h2, h3⟩
theorem Tryz.elem_u8 : Elem Tryz.prog 5 1 1 (.int .u8 0) := by
  obtain ⟨i, hi, h1, h2, h3⟩ := info_parts Tryz.info_u8
  exact ⟨i, hi, h1, h2, h3⟩
theorem rcopy_c {v : Value} {n : Nat} {F : List UInt8} (w : World) (B : Nat) (hB : B ≤ w.heap.size) (h : Rw 64 w v n (bv F)) (hn : n * 64 ≤ 140737488355328) :
    Calls Tryz.prog 78 #[v] w fun e w' => ∃ v', e = .returned v' ∧ Below B w w' ∧ w'.ownsRow B 80 64 v' n (bv F) := by
  have hown : Hid ((w.alloc (.cells #[] 80)).ownsRow B 80 64 (.slice (some ⟨w.heap.size, 0, none⟩) 0 0) 0 []) := World.ownsRow_lit w #[] 0 hB (by simp [maxLen]) rfl
  have hb : Hid (Below B w (w.alloc (.cells #[] 80))) := (Below.refl _ _).alloc hB _
  have hr := hide (h.later ((Later.refl w).alloc (.cells #[] 80)))
  have hlen := h.2.1
  unfold maxLen at hlen
  obtain ⟨_, _, a, cap, rfl, _, _⟩ := h
  go_enter Tryz.func78, Tryz.ntmps78
  go_wp2_with (at_builtin; refine wpList_append_rw Tryz.elem_block Tryz.underlying22 rfl (by decide) rfl (.tmp 3) (.tmp 4) rfl B _ 0 [] rfl hown.out _ n (bv F) rfl hr.out (bv_one F) ?c1 ?c2 ?c3 w hb.out ?_)
  case c1 => omega
  case c2 => unfold maxLen; omega
  case c3 => simp; omega
  intro v' w' ho hbl _
  go_wp2
  go_ret
  exact ⟨_, rfl, hbl, by simpa using ho⟩
theorem owns_kept {w w' : World} {B : Nat} {e : TypeId} {sz : Nat} {v : Value} {n : Nat} {xs : List Value} (h : w.ownsRow B e sz v n xs) (hk : ∀ g, v.ownBlock = some g → w'.heap[g]? = w.heap[g]?) : w'.ownsRow B e sz v n xs := by
  refine ⟨h.1, ?_⟩
  rcases h.2 with hn | ⟨g, cap, cur, rfl, hb, hg, rest⟩
  · exact .inl hn
  · exact .inr ⟨g, cap, cur, rfl, hb, by rw [hk g rfl]; exact hg, rest⟩
theorem box_grown {w w' : World} {g : Nat} {t : TypeId} {xs : List Value} {B : Nat} {e : TypeId} {sz : Nat} {v : Value} {n : Nat} {ys : List Value} (hB : Box w g t xs) (ho : w.ownsRow B e sz v n ys) (hne : t ≠ e) (hg : w.grownBy w' v.ownBlock) : Box w' g t xs := by
  unfold Box
  rw [hg.block g hB.lt ?_]
  · exact hB
  · intro he
    rcases ho.2 with ⟨rfl, _⟩ | ⟨g', cap, cur, rfl, _, hg', _⟩
    · simp [Value.ownBlock] at he
    · simp [Value.ownBlock] at he
      subst he
      unfold Box at hB
      rw [hg'] at hB
      simp at hB
      exact hne hB.2.symm
set_option maxHeartbeats 2000000 in
theorem rread_yes (ba oa len ca : Nat) (F : List UInt8) (a n : Nat) (w : World) (hlen : len ≤ 64) (hF : F.length = len * 64) (ha : a + n ≤ len) (hr : n = 0 ∨ w.rangeAt ba oa (bv F)) :
    Calls Tryz.prog 119 #[.slice (some ⟨ba, oa, none⟩) len ca, .int .u64 a, .int .i64 n] w fun e w' => ∃ v, e = .returned (.tuple #[v, .int .i64 0]) ∧ Later w w' ∧ w'.ownsRow w.heap.size 5 1 v (n * 64) (bv (seg F (a * 64) (n * 64))) := by
  have hw : withinB len a n = true := by simp [withinB]; omega
  have Hr := hide hr
  clear hr
  go_enter Tryz.func119, Tryz.ntmps119
  go_wp2_with (go_at_call 120; refine (rwithin_c _ _ _ _ (by omega) (by omega)).mono ?_; rintro e w1 ⟨rfl, hw1⟩; have hw2 := hw1.symm; subst hw2; clear hw1)
  go_loopw [8, 9] (fun v i wr => ∃ k : Nat, k ≤ n ∧ i = .int .i64 k ∧ Hid (wr.ownsRow w.heap.size 5 1 v (k * 64) (bv (seg F (a * 64) (k * 64)))) ∧ Hid (Later w wr)) (fun _ i _ => n - (intOf i).toNat)
  case atStart => exact ⟨0, Nat.zero_le _, rfl, by simpa [Hid, seg_zero, bv] using World.ownsRow_nil _ _ _ _, Later.refl w⟩
  case round =>
    obtain ⟨k, hk, rfl, hown, hbl⟩ := hrel
    by_cases hlt : k < n
    · have hrg := hide (hbl.out.range (Hr.out.resolve_left (by omega)))
      have hx := hide (by have := range_part hrg.out ((a + k) * 64) 64; rwa [bv_part] at this)
      have hxl := hide (seg_length F ((a + k) * 64) 64 (by omega))
      have hown1 := hide (hown.out.alloc (.cells (Array.replicate 64 (.int .u8 0)) 80))
      have hbl1 := hide (hbl.out.alloc (.cells (Array.replicate 64 (.int .u8 0)) 80))
      have hbox := hide (Box.new wr 80 (Array.replicate 64 (.int .u8 0)))
      have hszr := hbl.out.size
      have hHB := hide hown.out.lt
      go_wp2_with (first
        | refine wpList_load_mid rfl 80 (.tmp 31) rfl ba (oa + (a + k) * 64) rfl (bv (seg F ((a + k) * 64) 64)) _ hx.out Tryz.underlying80 rfl (by rw [Tryz.info_block, bv_length, hxl.out]) ?_
        | refine wpList_store_new rfl 80 (.tmp 10) (.tmp 32) rfl wr.heap.size (bv (seg F ((a + k) * 64) 64)) rfl rfl _ hbox.out (by rw [bv_length, hxl.out]; simp) (by rw [bv_length, hxl.out, Tryz.info_block]) (bv_one _) w hbl1.out hszr ?_)
      intro w2 hbox2 hl2 hk2 hs2
      have hown2 : Hid (w2.ownsRow w.heap.size 5 1 u8 (k * 64) (bv (seg F (a * 64) (k * 64)))) := owns_kept hown1.out (fun g hg => hk2 g (by have := hHB.out g hg; omega))
      have Hbox2 := hide hbox2
      have Hl2 := hide hl2
      clear hk2 hs2 hbox2 hl2 hown1 hbl1 hbox hHB hx hrg hown hbl hszr
      generalize wr.heap.size = G at *
      go_wp2_with fail
      go_loopw [8, 11] (fun v i wq => ∃ j : Nat, j ≤ 64 ∧ i = .int .i64 j ∧ Hid (wq.ownsRow w.heap.size 5 1 v (k * 64 + j) (bv (seg F (a * 64) (k * 64 + j)))) ∧ Hid (Later w wq) ∧ Hid (Box wq G 80 (bv (seg F ((a + k) * 64) 64)))) (fun _ i _ => 64 - (intOf i).toNat)
      case atStart => exact ⟨0, Nat.zero_le _, rfl, hown2, Hl2, Hbox2⟩
      case round =>
        obtain ⟨j, hj, rfl, hownj, hlj, hboxj⟩ := hrel
        by_cases hltj : j < 64
        · have hXl := hxl.out
          have hbyte : wr.cell? ⟨G, j, none⟩ = some (.int .u8 ((seg F ((a + k) * 64) 64)[j].toNat : Int)) := by
            rw [hboxj.out.cell j, bv_get_lt _ j (by omega)]
          have hsn : Hid (seg F (a * 64) (k * 64 + (j + 1)) = seg F (a * 64) (k * 64 + j) ++ [(seg F ((a + k) * 64) 64)[j]]) := by
            unfold Hid
            rw [← Nat.add_assoc, seg_snoc F (a * 64) (k * 64 + j) (by omega)]
            congr 2
            simp [seg]
            congr 1
            omega
          have hsz := hlj.out.size
          have hBr := hide (hlj.out.alloc (.cells #[.int .u8 ((seg F ((a + k) * 64) 64)[j].toNat : Int)] 5))
          have hbxr := hide (hboxj.out.alloc (.cells #[.int .u8 ((seg F ((a + k) * 64) 64)[j].toNat : Int)] 5))
          have hor := hide (hownj.out.alloc (.cells #[.int .u8 ((seg F ((a + k) * 64) 64)[j].toNat : Int)] 5))
          have hone := hide (Bs.one wr (seg F ((a + k) * 64) 64)[j] 5)
          generalize (seg F ((a + k) * 64) 64)[j] = c at *
          clear hownj hboxj hlj
          go_wp2_with (at_builtin; refine wpList_append_bs rfl (.tmp 37) (.tmp 41) rfl w.heap.size _ (k * 64 + j) _ rfl hor.out _ [c] rfl hone.out ?c1 ?c2 w hBr.out ?_)
          case c1 => simp; omega
          case c2 => simp; omega
          intro v' w' ho' hb' hg'
          have R : Hid (w'.ownsRow w.heap.size 5 1 v' (k * 64 + (j + 1)) (bv (seg F (a * 64) (k * 64 + (j + 1)))) ∧ Later w w' ∧ Box w' G 80 (bv (seg F ((a + k) * 64) 64))) := by
            refine ⟨?_, hb', box_grown hbxr.out hor.out (by decide) hg'⟩
            rw [hsn.out]
            exact ho'
          clear ho' hb' hg' hbyte hor hone hbxr hBr
          go_wp2
          go_roundw
          case rel => exact ⟨j + 1, by omega, by go_num, R.out.1, R.out.2.1, R.out.2.2⟩
          case measure => simp [intOf]; omega
        · have hj64 : Hid (j = 64) := by unfold Hid; omega
          go_wp2
          go_roundw
          case rel =>
            refine ⟨k + 1, by omega, by go_num, ?_, hlj⟩
            have := hownj.out
            rw [hj64.out] at this
            unfold Hid
            rw [show (k + 1) * 64 = k * 64 + 64 from by omega]
            exact this
          case measure => simp [intOf]; omega
    · have hkn : Hid (k = n) := by unfold Hid; omega
      go_wp2
      go_ret2
      refine ⟨_, rfl, hbl.out, ?_⟩
      have := hown.out
      rwa [hkn.out] at this
theorem rread_zero (ad : Option Addr) (len ca : Nat) (a : Nat) (w : World) (hlen : len ≤ 64) (ha : a ≤ len) :
    Calls Tryz.prog 119 #[.slice ad len ca, .int .u64 a, .int .i64 0] w fun e w' => e = .returned (.tuple #[.slice none 0 0, .int .i64 0]) ∧ w' = w := by
  have hw : withinB len a 0 = true := by simp [withinB]; omega
  go_enter Tryz.func119, Tryz.ntmps119
  go_wp2_with (go_at_call 120; refine (rwithin_c _ _ _ _ (by omega) (by omega)).mono ?_; rintro e w1 ⟨rfl, hw1⟩; have hw2 := hw1.symm; subst hw2; clear hw1)
  refine wp_loop_rounds 1 ?_
  rw [rounds_succ]
  go_wp2
  go_ret2
  exact ⟨rfl, rfl⟩
theorem rread_long (ad : Option Addr) (len ca : Nat) (a : Nat) (n : Int) (w : World) (hlen : 64 < len) (hm : len ≤ maxLen) :
    Calls Tryz.prog 119 #[.slice ad len ca, .int .u64 a, .int .i64 n] w fun e w' => e = .returned (.tuple #[.slice none 0 0, .int .i64 4]) ∧ w' = w := by
  unfold maxLen at hm
  go_enter Tryz.func119, Tryz.ntmps119
  go_wp2
  go_ret2
  exact ⟨rfl, rfl⟩
theorem rread_range (ad : Option Addr) (len ca : Nat) (a : Nat) (n : Int) (w : World) (hlen : len ≤ 64) (ha : a ≤ 18446744073709551615) (hw : withinB len a n = false) :
    Calls Tryz.prog 119 #[.slice ad len ca, .int .u64 a, .int .i64 n] w fun e w' => e = .returned (.tuple #[.slice none 0 0, .int .i64 5]) ∧ w' = w := by
  go_enter Tryz.func119, Tryz.ntmps119
  go_wp2_with (go_at_call 120; refine (rwithin_c _ _ _ _ (by omega) (by omega)).mono ?_; rintro e w1 ⟨rfl, hw1⟩; have hw2 := hw1.symm; subst hw2; clear hw1)
  go_ret2
  exact ⟨rfl, rfl⟩
/-- what is read of a store of len blocks, the bytes F -/
def readE (len : Nat) (a : Nat) (n : Int) : Int := if 64 < len then 4 else if withinB len a n then 0 else 5
def readL (len : Nat) (F : List UInt8) (a : Nat) (n : Int) : List UInt8 := if 64 < len then [] else if withinB len a n then seg F (a * 64) (n.toNat * 64) else []
theorem rread_c {v : Value} {len : Nat} {F : List UInt8} (a : Nat) (n : Int) (w : World) (h : Rw 64 w v len (bv F)) (ha : a ≤ 18446744073709551615) :
    Calls Tryz.prog 119 #[v, .int .u64 a, .int .i64 n] w fun e w' => ∃ v', e = .returned (.tuple #[v', .int .i64 (readE len a n)]) ∧ Later w w' ∧ w'.ownsRow w.heap.size 5 1 v' (readL len F a n).length (bv (readL len F a n)) := by
  obtain ⟨hl, hm, ad, ca, rfl, _, hr⟩ := h
  rw [bv_length] at hl
  unfold readE readL
  by_cases h1 : 64 < len
  · simp only [if_pos h1]
    exact (rread_long ad len ca a n w h1 hm).mono fun e w' ⟨he, hw⟩ => ⟨_, he, by rw [hw]; exact Later.refl w, World.ownsRow_nil _ _ _ _⟩
  · simp only [if_neg h1]
    by_cases h2 : withinB len a n = true
    · simp only [h2, if_true]
      have h2' := h2
      simp [withinB] at h2'
      obtain ⟨k, rfl⟩ := Int.eq_ofNat_of_zero_le h2'.1
      rw [Int.toNat_natCast]
      by_cases h0 : k = 0
      · subst h0
        refine (rread_zero ad len ca a w (by omega) (by omega)).mono fun e w' ⟨he, hw⟩ => ⟨_, he, by rw [hw]; exact Later.refl w, ?_⟩
        simpa [seg_zero, bv] using World.ownsRow_nil w' _ _ _
      · rcases hr with rfl | ⟨ba, oa, rfl, hr⟩
        · omega
        · refine (rread_yes ba oa len ca F a k w (by omega) hl (by omega) (.inr hr)).mono fun e w' he => ?_
          rwa [seg_length F (a * 64) (k * 64) (by omega)]
    · have h2' : withinB len a n = false := by simpa using h2
      simp only [h2', Bool.false_eq_true, if_false]
      exact (rread_range ad len ca a n w (by omega) ha h2').mono fun e w' ⟨he, hw⟩ => ⟨_, he, by rw [hw]; exact Later.refl w, World.ownsRow_nil _ _ _ _⟩
end Go.Proofs.YtfakboehmcimpaaGreat

namespace Go.Proofs.YtfakboehmcimpaaGreat
open Go.ChangeShapes Go.WideShapes Go.ChangeAt Go.RowKit
set_option linter.unusedVariables false
set_option maxRecDepth 4000
set_option linter.unusedSimpArgs false
def z64 : Value := .agg (Array.replicate 64 (.int .u8 0))
theorem Tryz.elem_z64 : Elem Tryz.prog 80 64 64 z64 := Tryz.elem_block
theorem made64 (n : Nat) : (madeCells z64.cells (n * 64)).toList = bv (List.replicate (n * 64) 0) := by
  rw [bv_replicate]; exact madeCells_rep _ 64 _ (by omega)
end Go.Proofs.YtfakboehmcimpaaGreat

namespace Go.Proofs.YtfakboehmcimpaaGreat
open Go.ChangeShapes Go.WideShapes Go.ChangeAt Go.RowKit
set_option linter.unusedVariables false
set_option maxRecDepth 4000
set_option linter.unusedSimpArgs false
end Go.Proofs.YtfakboehmcimpaaGreat

namespace Go.Proofs.YtfakboehmcimpaaGreat
open Go.ChangeShapes Go.WideShapes Go.ChangeAt Go.RowKit
set_option linter.unusedVariables false
set_option maxRecDepth 4000
set_option linter.unusedSimpArgs false
/-- bytes laid over others from a place on -/
def over (F : List UInt8) (o : Nat) (l : List UInt8) : List UInt8 := F.take o ++ l ++ F.drop (o + l.length)
theorem over_length (F : List UInt8) (o : Nat) (l : List UInt8) (h : o + l.length ≤ F.length) : (over F o l).length = F.length := by simp [over]; omega
theorem bv_over (F : List UInt8) (o : Nat) (l : List UInt8) : bv (over F o l) = (bv F).take o ++ bv l ++ (bv F).drop (o + (bv l).length) := by simp [over, bv, List.map_take, List.map_drop]
end Go.Proofs.YtfakboehmcimpaaGreat
