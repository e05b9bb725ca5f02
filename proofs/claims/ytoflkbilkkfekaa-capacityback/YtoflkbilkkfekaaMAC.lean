import Derived.Deep.MidRow
import Derived.Stop.BytesEq
import Derived.Great.BuildSlice
import Derived.ArgAppend
import Derived.Test.YtoflkbilkkfekaaMAA
import Derived.Test.YtoflkbilkkfekaaMAB
namespace Go.Proofs.Ytoflkbilkkfekaa
open Go.ChangeShapes Go.WideShapes Go.ChangeAt Go.RowKit
set_option linter.unusedVariables false
set_option linter.unusedSimpArgs false

/-! Slices of whatever elements: n elements of sz cells each, the cells xs. -/
def Rw (sz : Nat) (w : World) (v : Value) (n : Nat) (xs : List Value) : Prop :=
  xs.length = n * sz ∧ n ≤ maxLen ∧ ∃ a cap, v = .slice a n cap ∧ n ≤ cap ∧ (n = 0 ∨ ∃ b off, a = some ⟨b, off, none⟩ ∧ w.rangeAt b off xs)

theorem Rw.nil (sz : Nat) (w : World) : Rw sz w (.slice none 0 0) 0 [] := ⟨by simp, by simp, none, 0, rfl, Nat.le_refl _, .inl rfl⟩
theorem Rw.of_owns {sz : Nat} {w : World} {base : Nat} {e : TypeId} {v : Value} {n : Nat} {xs : List Value} (h : w.ownsRow base e sz v n xs) : Rw sz w v n xs := by
  rcases h.2 with ⟨rfl, h0⟩ | ⟨g, cap, cur, rfl, hb, hg, hc, hm, hs, ht⟩
  · subst h0
    have : xs = [] := List.eq_nil_of_length_eq_zero (by rw [h.1]; simp)
    subst this
    exact Rw.nil sz w
  · refine ⟨h.1, Nat.le_trans hc hm, some ⟨g, 0, none⟩, cap, rfl, hc, .inr ⟨g, 0, rfl, fun j v hv => ?_⟩⟩
    rw [Nat.zero_add, h.cellAt j (by have := (List.getElem?_eq_some_iff.1 hv).1; rw [h.1] at this; exact this)]
    exact hv
theorem Later.cellOf {w b : World} (h : Later w b) {a : Addr} {v : Value} (hc : w.cell? a = some v) : b.cell? a = some v := by
  have : a.block < w.heap.size := World.block_lt_of_cell? w a hc
  rw [Below.cell h this]; exact hc
theorem Later.range {w b : World} (h : Later w b) {k o : Nat} {xs : List Value} (hr : w.rangeAt k o xs) : b.rangeAt k o xs := fun j v hv => h.cellOf (hr j v hv)
theorem Rw.later {sz : Nat} {w b : World} {v : Value} {n : Nat} {xs : List Value} (h : Rw sz w v n xs) (hb : Later w b) : Rw sz b v n xs := by
  obtain ⟨h1, h2, a, cap, rfl, hc, h3⟩ := h
  refine ⟨h1, h2, a, cap, rfl, hc, ?_⟩
  rcases h3 with h3 | ⟨k, o, ha, hr⟩
  · exact .inl h3
  · exact .inr ⟨k, o, ha, hb.range hr⟩
theorem Bs.rw {w : World} {v : Value} {l : List UInt8} (h : Bs w v l) : Rw 1 w v l.length (bv l) := by
  obtain ⟨hm, a, cap, rfl, hc, h⟩ := h
  refine ⟨by simp [bv_length], hm, a, cap, rfl, hc, ?_⟩
  rcases h with rfl | ⟨b, off, ha, hcell⟩
  · exact .inl rfl
  · refine .inr ⟨b, off, ha, fun j u hu => ?_⟩
    have hj : j < l.length := by have := (List.getElem?_eq_some_iff.1 hu).1; rwa [bv_length] at this
    rw [hcell j hj, ← hu, bv_get_lt l j hj]
theorem Rw.bs {w : World} {v : Value} {n : Nat} {l : List UInt8} (h : Rw 1 w v n (bv l)) : Bs w v l ∧ n = l.length := by
  obtain ⟨h1, hm, a, cap, rfl, hc, h⟩ := h
  rw [bv_length, Nat.mul_one] at h1
  subst h1
  refine ⟨⟨hm, a, cap, rfl, hc, ?_⟩, rfl⟩
  rcases h with h | ⟨b, off, ha, hr⟩
  · exact .inl (List.eq_nil_of_length_eq_zero h)
  · exact .inr ⟨b, off, ha, fun j hj => hr j _ (bv_get_lt l j hj)⟩

/-- the element type's row of the table, its zero's cells given -/
def Elem (P : Program) (e : TypeId) (sz bytes : Nat) (z : Value) : Prop := ∃ i, P.info? e = some i ∧ i.zero = some z ∧ i.size = sz ∧ i.bytes = bytes

/-- 'append(a, b...)': a our own, b whatever. -/
theorem wpList_append_rw {P : Program} {w : World} {ops : Array Oper} {rest : List Oper} {o : Oper} {a : Act} {Q : Exit → Act → World → Prop} {T e : TypeId} {sz bytes : Nat} {z : Value} (he : Elem P e sz bytes z) (ht : P.underlying T = some (.slice e)) (hz : z.cells.size = sz) (hsz : 0 < sz)
    (hgd : o.guard = none) (s x : Operand) (ho : o.op = .call { callee := .builtin .append, args := #[s, x], argTypes := #[T, T] }) (B : Nat)
    (v : Value) (n : Nat) (xs : List Value) (hs : a.eval s = v) (hown : w.ownsRow B e sz v n xs) (u : Value) (m : Nat) (ys : List Value) (hx : a.eval x = u) (hu : Rw sz w u m ys) (h1 : ∀ q ∈ ys, q.oneCell' = true)
    (hbytes : (n + m) * bytes ≤ 140737488355328) (hlen : n + m ≤ maxLen) (hbase : B ≤ w.heap.size) (w0 : World) (hb : Below B w0 w)
    (h : ∀ v' w', w'.ownsRow B e sz v' (n + m) (xs ++ ys) → Below B w0 w' → w.grownBy w' v.ownBlock → wpList P ops Q rest (a.put o.dst v') w') : wpList P ops Q (o :: rest) a w := by
  obtain ⟨i0, hi, hz0, hz1, hz2⟩ := he
  have hB : ∀ k, v.ownBlock = some k → B ≤ k := fun k hk => (hown.lt k hk).1
  obtain ⟨hl, hm, ad, cap, rfl, hcap, hu⟩ := hu
  cases ad with
  | none =>
    have hm0 : m = 0 := by
      rcases hu with h | ⟨_, _, h, _⟩
      · exact h
      · cases h
    subst hm0
    have hys : ys = [] := List.eq_nil_of_length_eq_zero (by rw [hl]; simp)
    subst hys
    refine wpList_plain hgd fun K hK => ?_
    have hrun : (Builtin.append_ #[T, T] o.type #[v, .slice none 0 cap]).run P w = .ok v w := by
      rcases hown.2 with ⟨rfl, h0⟩ | ⟨g, c, cur, rfl, hbg, hg, hc, hmm, hsz, ht'⟩
      · simp [Builtin.append_, run_underlying ht, sizeOf, typeInfo, hi, Builtin.lenOf, Builtin.firstCells]
      · simp [Builtin.append_, run_underlying ht, sizeOf, typeInfo, hi, Builtin.lenOf, Builtin.firstCells, hc, storeCells]
    unfold Go.Oper.wp
    simp [execOp, ho, resolve, invoke, builtin, hs, hx, hrun, Result.andThen]
    exact hK _ _ (h v w (by simpa using hown) hb (World.grownBy.refl _ _))
  | some ad =>
    refine wpList_append_own w hgd s x T ho B e i0 z sz bytes ht hi hz0 hz1 hz2 hz hsz v n xs hs hown ad m cap ys hx hl ?_ h1 hlen hbytes hbase ?_
    · intro j q hq
      rcases hu with rfl | ⟨b, off, e', hc⟩
      · have : ys = [] := List.eq_nil_of_length_eq_zero (by rw [hl]; simp)
        subst this
        simp at hq
      · cases e'
        rw [Addr.add_mid]; exact hc j q hq
    · intro v' w' ho' hg' _
      exact h v' w' ho' (hb.grown hg' hbase hB) hg'

theorem madeCells_rep (c : Value) (k m : Nat) (hk : 0 < k) : (madeCells (Array.replicate k c) m).toList = List.replicate m c := by
  apply List.ext_getElem?
  intro j
  by_cases hj : j < m
  · simp [madeCells, hj, Nat.mod_lt _ hk]
  · simp [madeCells, hj]

/-- a part of the cells of an owned row -/
theorem owns_range {w : World} {B : Nat} {e : TypeId} {sz g n cap : Nat} {xs : List Value} (h : w.ownsRow B e sz (.slice (some ⟨g, 0, none⟩) n cap) n xs) (o k : Nat) (hk : o + k ≤ n * sz) : w.rangeAt g o ((xs.drop o).take k) := fun j v hv => by
  have hj : j < ((xs.drop o).take k).length := (List.getElem?_eq_some_iff.1 hv).1
  simp at hj
  rw [h.cellAt (o + j) (by omega)]
  rw [List.getElem?_take_of_lt (by omega), List.getElem?_drop] at hv
  exact hv
theorem range_part {w : World} {b off : Nat} {xs : List Value} (h : w.rangeAt b off xs) (o k : Nat) : w.rangeAt b (off + o) ((xs.drop o).take k) := fun j v hv => by
  have hj : j < ((xs.drop o).take k).length := (List.getElem?_eq_some_iff.1 hv).1
  simp at hj
  rw [List.getElem?_take_of_lt (by omega), List.getElem?_drop] at hv
  rw [Nat.add_assoc]
  exact h (o + j) v hv
theorem bv_part (l : List UInt8) (o k : Nat) : ((bv l).drop o).take k = bv (seg l o k) := by simp [bv, seg, List.map_take, List.map_drop]

/-- what lies behind a store of some cells into an owned row -/
theorem owns_setCells {w : World} {B : Nat} {e : TypeId} {sz g n cap : Nat} {xs : List Value} (h : w.ownsRow B e sz (.slice (some ⟨g, 0, none⟩) n cap) n xs) : ∀ (vs : List Value) (o : Nat), o + vs.length ≤ n * sz →
    (w.setCells g o vs).ownsRow B e sz (.slice (some ⟨g, 0, none⟩) n cap) n (xs.take o ++ vs ++ xs.drop (o + vs.length)) ∧ w.grownBy (w.setCells g o vs) (some g) := by
  intro vs
  induction vs generalizing w xs with
  | nil => intro o ho; simp [World.setCells]; exact ⟨h, World.grownBy.refl _ _⟩
  | cons v vs ih =>
    intro o ho
    simp at ho
    have h1 := h.stored o v
    have h2 := ih h1.1 (o + 1) (by omega)
    rw [World.setCells]
    refine ⟨?_, ?_⟩
    · have e : xs.take o ++ (v :: vs) ++ xs.drop (o + (v :: vs).length) = (xs.set o v).take (o + 1) ++ vs ++ (xs.set o v).drop (o + 1 + vs.length) := by
        have hol : o < xs.length := by have := h.1; omega
        rw [List.drop_set_of_lt (by omega), List.take_set, List.length_cons, show o + (vs.length + 1) = o + 1 + vs.length from by omega]
        rw [List.take_succ_eq_append_getElem hol, List.set_append_right _ _ (by simp; omega)]
        simp [show o - min o xs.length = 0 from by omega]
      rw [e]; exact h2.1
    · exact ⟨h2.2.os.trans h1.2.os, h2.2.tape.trans h1.2.tape, h2.2.output.trans h1.2.output, Nat.le_trans h1.2.size h2.2.size, fun k hk hne => (h2.2.block k (Nat.lt_of_lt_of_le hk h1.2.size) hne).trans (h1.2.block k hk hne)⟩
theorem owns_there {w : World} {B : Nat} {e : TypeId} {sz g n cap : Nat} {xs : List Value} (h : w.ownsRow B e sz (.slice (some ⟨g, 0, none⟩) n cap) n xs) (o k : Nat) (hk : o + k ≤ n * sz) : w.there g o k := fun j hj => by
  refine ⟨?_, h.frozenAt (o + j)⟩
  rw [h.cellAt (o + j) (by omega)]
  have : o + j < xs.length := by have := h.1; omega
  simp [this]

/-- a variable of its own block -/
def Box (w : World) (g : Nat) (t : TypeId) (xs : List Value) : Prop := w.heap[g]? = some (.cells xs.toArray t (0, 0))
theorem Box.new (w : World) (t : TypeId) (c : Array Value) : Box (w.alloc (.cells c t)) w.heap.size t c.toList := by unfold Box; rw [heap_alloc_new]
theorem Box.cell {w : World} {g : Nat} {t : TypeId} {xs : List Value} (h : Box w g t xs) (j : Nat) : w.cell? ⟨g, j, none⟩ = xs[j]? := by rw [cell_of_row w g j _ t (0, 0) h]; simp
theorem Box.frozen {w : World} {g : Nat} {t : TypeId} {xs : List Value} (h : Box w g t xs) (j : Nat) : w.frozen? ⟨g, j, none⟩ = false := frozen_of_row w g j _ t h
theorem Box.set {w : World} {g : Nat} {t : TypeId} {xs : List Value} (h : Box w g t xs) (j : Nat) (v : Value) : Box (w.setCell ⟨g, j, none⟩ v) g t (xs.set j v) := by
  unfold Box; rw [heap_setCell_same w g j _ t v h]; simp
theorem Box.other {w : World} {g : Nat} {t : TypeId} {xs : List Value} (h : Box w g t xs) (a : Addr) (v : Value) (hne : g ≠ a.block) : Box (w.setCell a v) g t xs := by
  unfold Box; rw [heap_setCell_other w a g v hne]; exact h
theorem Box.alloc {w : World} {g : Nat} {t : TypeId} {xs : List Value} (h : Box w g t xs) (o : Obj) : Box (w.alloc o) g t xs := by
  unfold Box; rw [Below.heap_alloc w o g (Array.getElem?_eq_some_iff.1 h).1]; exact h
theorem Box.lt {w : World} {g : Nat} {t : TypeId} {xs : List Value} (h : Box w g t xs) : g < w.heap.size := (Array.getElem?_eq_some_iff.1 h).1
theorem Box.below {w w' : World} {B g : Nat} {t : TypeId} {xs : List Value} (h : Box w g t xs) (hb : Below B w w') (hg : g < B) : Box w' g t xs := by
  unfold Box; rw [hb.block g hg]; exact h
theorem Box.later {w w' : World} {g : Nat} {t : TypeId} {xs : List Value} (h : Box w g t xs) (hb : Later w w') : Box w' g t xs := h.below hb h.lt
theorem Box.range {w : World} {g : Nat} {t : TypeId} {xs : List Value} (h : Box w g t xs) : w.rangeAt g 0 xs := fun j v hv => by rw [Nat.zero_add, h.cell j]; exact hv
theorem Box.there {w : World} {g : Nat} {t : TypeId} {xs : List Value} (h : Box w g t xs) (o n : Nat) (hn : o + n ≤ xs.length) : w.there g o n := fun j hj => ⟨by rw [h.cell (o + j)]; simp; omega, h.frozen _⟩
theorem Box.setCells {w : World} {g : Nat} {t : TypeId} {xs : List Value} (h : Box w g t xs) : ∀ (vs : List Value) (o : Nat), o + vs.length ≤ xs.length → Box (w.setCells g o vs) g t (xs.take o ++ vs ++ xs.drop (o + vs.length)) := by
  intro vs
  induction vs generalizing w xs with
  | nil => intro o _; simpa [World.setCells] using h
  | cons v vs ih =>
    intro o ho
    simp at ho
    have h2 := ih (h.set o v) (o + 1) (by simp; omega)
    rw [World.setCells]
    have e : xs.take o ++ (v :: vs) ++ xs.drop (o + (v :: vs).length) = (xs.set o v).take (o + 1) ++ vs ++ (xs.set o v).drop (o + 1 + vs.length) := by
      rw [List.drop_set_of_lt (by omega), List.take_set, List.length_cons, show o + (vs.length + 1) = o + 1 + vs.length from by omega]
      rw [List.take_succ_eq_append_getElem (by omega), List.set_append_right _ _ (by simp; omega)]
      simp [show o - min o xs.length = 0 from by omega]
    rw [e]; exact h2
theorem Later.setCells {w0 w : World} (h : Later w0 w) {g : Nat} (hg : w0.heap.size ≤ g) : ∀ (vs : List Value) (o : Nat), Later w0 (w.setCells g o vs) := by
  intro vs
  induction vs generalizing w with
  | nil => intro o; exact h
  | cons v vs ih => intro o; rw [World.setCells]; exact ih (Below.setCell h hg v) (o + 1)
theorem Later.setCell {w0 w : World} (h : Later w0 w) {a : Addr} (hg : w0.heap.size ≤ a.block) (v : Value) : Later w0 (w.setCell a v) := Below.setCell h hg v
theorem Later.alloc {w0 w : World} (h : Later w0 w) (o : Obj) : Later w0 (w.alloc o) := Below.alloc h h.size o

theorem Box.new' (w : World) (t : TypeId) (c : Array Value) (xs : List Value) (hx : c.toList = xs) (g : Nat) (hg : g = w.heap.size) : Box (w.alloc (.cells c t)) g t xs := by
  subst hg hx; exact Box.new w t c
/-- one result, in a variable of its own -/
theorem results_cell1 {fn : Func} {p : Tmp} {ty : TypeId} (h : fn.results = #[.cell p ty]) (tmps : Array Value) (P : Program) (w : World) (b o : Nat) (hp : tmps.getD p undef = .pointer (some ⟨b, o, none⟩)) (v : Value) (hl : (loadVar ty ⟨b, o, none⟩).run P w = .ok v w) :
    (results fn tmps).run P w = .ok v w := by
  have ha : (asAddr (tmps.getD p undef)).run P w = .ok ⟨b, o, none⟩ w := by rw [hp]; rfl
  simp only [results, h]
  simp only [List.mapM_toArray, Sem.run_bind]
  simp [ha, hl, -Array.getD_eq_getD_getElem?]

/-- a load of many cells, in a region that draws its order -/
theorem wpS_load {P : Program} {ops : Array Oper} {Q : Act → World → Prop} {i : Nat} {o : Oper} {σ : List (Nat × Bool)} {a : Act} {b : World} (ho : ops[i]? = some o) (hg : o.guard = none) (ty : TypeId) (x : Operand) (hop : o.op = .load ty x)
    (k off : Nat) (hx : a.eval x = .pointer (some ⟨k, off, none⟩)) (cs : List Value) (d : TypeDesc) (hc : b.rangeAt k off cs) (hu : P.underlying ty = some d) (hd : d.isRow = true) (hi : (P.info? ty).map (·.size) = some cs.length)
    (h : wpS P ops Q σ (a.put o.dst (.agg cs.toArray)) b) : wpS P ops Q ((i, false) :: σ) a b := by
  refine ⟨o, ho, ?_⟩
  have hw : Region.wanted o (yielded ops a.tmps) = true := by simp [Region.wanted, hg]
  rw [if_pos hw]
  refine ⟨.agg cs.toArray, fun w hl => ?_, h⟩
  unfold execOp
  simp only [hop, hx, Instr.loadAt, Instr.sureAddr, Sem.run_bind, Sem.run_pure, Result.andThen_ok, run_loadVar_mid w k off ty cs d (hl.range hc) hu hd hi]
  simp [Oper.mildUpon]
theorem bytes_eq {P : Program} (t e : TypeId) (n : Nat) (ht : P.underlying t = some (.array n e)) (he : P.underlying e = some (.int .u8)) (hsz : (P.info? e).map (·.size) = some 1) (xs ys : List UInt8) (hx : xs.length = n) (hy : ys.length = n) (w : World) :
    (Op.equalIn 10000 t (.agg (bv xs).toArray) (.agg (bv ys).toArray)).run P w = .ok (xs == ys) w := by
  refine run_equalIn_bytes w 9998 t e n ht he (fun w => ?_) xs ys hx hy
  cases hq : P.info? e with
  | none => simp [hq] at hsz
  | some i => simp [sizeOf, typeInfo, hq] at hsz ⊢; exact hsz
theorem take_snoc_seg (l : List UInt8) (a k : Nat) : l.take (a + k) = l.take a ++ seg l a k := by
  rw [seg, List.take_add]

/-- a store of a whole variable into a new block -/
theorem wpList_store_new {P : Program} {ops : Array Oper} {rest : List Oper} {op : Oper} {a : Act} {w : World} {Q : Exit → Act → World → Prop} (hgd : op.guard = none) (ty : TypeId) (x y : Operand) (ho : op.op = .store ty x y)
    (g : Nat) (cells : List Value) (hx : a.eval x = .pointer (some ⟨g, 0, none⟩)) (hy : a.eval y = .agg cells.toArray) (zs : List Value) (hz : Box w g ty zs) (hl : zs.length = cells.length) (hi : (P.info? ty).map (·.size) = some cells.length) (h1 : ∀ v ∈ cells, v.oneCell' = true)
    (w0 : World) (hb : Later w0 w) (hg : w0.heap.size ≤ g)
    (h : ∀ w', Box w' g ty cells → Later w0 w' → (∀ k, k ≠ g → w'.heap[k]? = w.heap[k]?) → w'.heap.size = w.heap.size → wpList P ops Q rest (a.put op.dst undef) w') : wpList P ops Q (op :: rest) a w := by
  refine wpList_store_mid hgd ty x y ho g 0 cells.toArray hx hy (by simpa using hz.there 0 cells.length (by omega)) (by simpa using hi) (all_oneCell_toArray h1) ?_
  have hB := hz.setCells cells 0 (by omega)
  have e : zs.take 0 ++ cells ++ zs.drop (0 + cells.length) = cells := by rw [List.drop_of_length_le (by omega)]; simp
  rw [e] at hB
  have key : ∀ (vs : List Value) (o : Nat) (w1 : World), (∀ k, k ≠ g → (w1.setCells g o vs).heap[k]? = w1.heap[k]?) ∧ (w1.setCells g o vs).heap.size = w1.heap.size := by
    intro vs
    induction vs with
    | nil => intro o w1; exact ⟨fun _ _ => rfl, rfl⟩
    | cons v vs ih =>
      intro o w1
      rw [World.setCells]
      have := ih (o + 1) (w1.setCell ⟨g, o, none⟩ v)
      exact ⟨fun k hk => (this.1 k hk).trans (heap_setCell_other w1 ⟨g, o, none⟩ k v hk), this.2.trans (by simp [World.setCell])⟩
  exact h _ hB (hb.setCells hg _ _) (key _ _ _).1 (key _ _ _).2

/-- 'make([]T, n)': the cells as a list of one's own -/
theorem wpList_make_of {P : Program} {w : World} {ops : Array Oper} {rest : List Oper} {o : Oper} {a : Act} {Q : Exit → Act → World → Prop} {e : TypeId} {sz bytes : Nat} {z : Value} (he : Elem P e sz bytes z)
    (hg : o.guard = none) (l c : Operand) (t : TypeId) (hop : o.op = Op.makeSlice t l c) (h1 : P.underlying t = some (.slice e)) (L C : Int) (n : Nat) (hl : a.eval l = .int .i64 L) (hc : a.eval c = .int .i64 C) (hL : L = (n : Int)) (hC : C = (n : Int))
    (b2 : bytes * n ≤ 281474976710656) (b3 : n ≤ maxLen) (xs : List Value) (hxs : (madeCells z.cells (n * sz)).toList = xs)
    (hK : ∀ w', w'.ownsRow w.heap.size e sz (.slice (some ⟨w.heap.size, 0, none⟩) n n) n xs → Later w w' → wpList P ops Q rest (a.put o.dst (.slice (some ⟨w.heap.size, 0, none⟩) n n)) w') :
    wpList P ops Q (o :: rest) a w := by
  obtain ⟨i0, hi, hz0, hz1, hz2⟩ := he
  refine wpList_make_full w hg l c t hop w.heap.size e i0 z sz h1 hi hz0 hz1 .i64 .i64 L C n hl hc hL hC (by rw [hz2]; exact b2) b3 (Nat.le_refl _) ?_
  intro w' ho hgr
  rw [hxs] at ho
  exact hK w' ho (Below.grown0 hgr)

theorem fill_one (v : Value) (sz : Nat) (zs : Array Value) (hp : 0 < sz) (hv : v.cells.size = sz) (hz : zs.size = sz) : Instr.fill (fun i => some (i * sz, sz)) zs [(0, v)] = some v.cells := by
  obtain ⟨r, hr, hs, hk⟩ := Great.fill_dense hp [v] 0 zs (by simpa using hv) (by simp [hz])
  simp at hr
  rw [hr]
  congr 1
  apply Array.ext_getElem?
  intro k
  rw [hk k]
  by_cases h : k < sz
  · rw [if_pos (by simp; omega)]
    rw [Nat.div_eq_of_lt h, Nat.mod_eq_of_lt h]
    simp
  · rw [if_neg (by simp; omega), Array.getElem?_eq_none (by omega), Array.getElem?_eq_none (by omega)]
/-- 'append(l, x)' lays x in a slice of one element first -/
theorem wpList_buildOne {P : Program} {w : World} {ops : Array Oper} {rest : List Oper} {o : Oper} {a : Act} {Q : Exit → Act → World → Prop} {T e : TypeId} {sz bytes : Nat} {z : Value} (he : Elem P e sz bytes z) (ht : P.underlying T = some (.slice e)) (hz : z.cells.size = sz) (hsz : 0 < sz) (hsm : sz ≤ 1000000)
    (hgd : o.guard = none) (x : Operand) (ho : o.op = .buildSlice T 1 #[(0, x)]) (cs : List Value) (hx : a.eval x = .agg cs.toArray) (hl : cs.length = sz)
    (h : ∀ w', Rw sz w' (.slice (some ⟨w.heap.size, 0, none⟩) 1 1) 1 cs → Later w w' → w'.heap.size = w.heap.size + 1 → wpList P ops Q rest (a.put o.dst (.slice (some ⟨w.heap.size, 0, none⟩) 1 1)) w') : wpList P ops Q (o :: rest) a w := by
  obtain ⟨i0, hi, hz0, hz1, hz2⟩ := he
  refine wpList_buildSlice hgd T e 1 #[(0, x)] ho cs.toArray i0 z ht hi hz0 (by rw [hz1]; omega) (by rw [hz1]; omega) ?_ (h _ ?_ ((Later.refl w).alloc _) (by simp))
  · rw [hz1]
    have := fill_one (.agg cs.toArray) sz ((Array.range (1 * sz)).map (z.cells[· % z.cells.size]!)) hsz (by simp [Value.cells, hl]) (by simp)
    simpa [hx, Value.cells] using this
  · refine ⟨by omega, by simp [maxLen], _, 1, rfl, Nat.le_refl _, .inr ⟨w.heap.size, 0, rfl, ?_⟩⟩
    have := (Box.new w e cs.toArray).range
    simpa using this

theorem Rw.sliced {sz : Nat} {w : World} {a : Option Addr} {n cap : Nat} {xs : List Value} (hr : Rw sz w (.slice a n cap) n xs) (l h : Nat) (hl : l ≤ h) (hh : h ≤ n) : Rw sz w (Go.sliced a l h cap sz) (h - l) ((xs.drop (l * sz)).take ((h - l) * sz)) := by
  obtain ⟨h1, h2, a', cap', e, hc, h3⟩ := hr
  simp only [Value.slice.injEq, true_and] at e
  obtain ⟨rfl, rfl⟩ := e
  have hm : (h - l) * sz ≤ n * sz - l * sz := by rw [← Nat.sub_mul]; exact Nat.mul_le_mul_right _ (by omega)
  refine ⟨by rw [List.length_take, List.length_drop, h1]; omega, by omega, _, _, rfl, by omega, ?_⟩
  by_cases h0 : h - l = 0
  · exact .inl h0
  · rcases h3 with h3 | ⟨b, off, rfl, hr⟩
    · omega
    · refine .inr ⟨b, off + l * sz, ?_, range_part hr _ _⟩
      rw [if_neg (by omega)]
      simp [Addr.add_mid]
theorem Rw.shape {sz : Nat} {w : World} {v : Value} {n : Nat} {xs : List Value} (hr : Rw sz w v n xs) : ∃ a cap, v = .slice a n cap := by
  obtain ⟨_, _, a, cap, rfl, _⟩ := hr; exact ⟨a, cap, rfl⟩

theorem elem_of {P : Program} {T e : TypeId} (ht : P.underlying T = some (.slice e)) : P.underlying T = some (.slice (P.elem T)) := by
  rw [ht]; simp [Program.elem, ht]
theorem elem_is {P : Program} {T e : TypeId} (ht : P.underlying T = some (.slice e)) : P.elem T = e := by simp [Program.elem, ht]
theorem run_size {P : Program} {e : TypeId} {sz : Nat} (hs : (P.info? e).map (·.size) = some sz) (w : World) : (sizeOf e).run P w = .ok sz w := by
  cases hq : P.info? e with
  | none => simp [hq] at hs
  | some i => simp [sizeOf, typeInfo, hq] at hs ⊢; exact hs

/-- 's[l:]' -/
theorem wpList_slice_lo {P : Program} {w : World} {ops : Array Oper} {rest : List Oper} {o : Oper} {a : Act} {Q : Exit → Act → World → Prop} {T e : TypeId} {sz : Nat} (ht : P.underlying T = some (.slice e)) (hs : (P.info? e).map (·.size) = some sz)
    (hgd : o.guard = none) (x lo : Operand) (ho : o.op = .slice T x (some lo) none none) (v : Value) (n : Nat) (xs : List Value) (hx : a.eval x = v) (hr : Rw sz w v n xs) (L : Int) (l : Nat) (hlo : a.eval lo = .int .i64 L) (hL : L = (l : Int)) (hl : l ≤ n)
    (h : ∀ v', Hid (Rw sz w v' (n - l) ((xs.drop (l * sz)).take ((n - l) * sz))) → wpList P ops Q rest (a.put o.dst v') w) : wpList P ops Q (o :: rest) a w := by
  obtain ⟨ad, cap, rfl⟩ := hr.shape
  subst hL
  refine wpList_plain hgd fun K hK => ?_
  have hrun : (Instr.sliceAt T (.slice ad n cap) (some (.int .i64 (l : Int))) none none).run P w = .ok (Go.sliced ad l n cap sz) w := by
    rw [run_sliceAt_slice w T _ _ _ _ (elem_of ht), run_slice_l w T ad n cap (elem_of ht) .i64 _ (by omega) (by omega), elem_is ht, run_size hs]
    simp [Result.andThen]
  unfold Go.Oper.wp
  simp [execOp, ho, hx, hlo, hrun, Result.andThen]
  exact hK _ _ (h _ (hr.sliced l n hl (Nat.le_refl _)))
/-- 's[:h]' -/
theorem wpList_slice_hi {P : Program} {w : World} {ops : Array Oper} {rest : List Oper} {o : Oper} {a : Act} {Q : Exit → Act → World → Prop} {T e : TypeId} {sz : Nat} (ht : P.underlying T = some (.slice e)) (hs : (P.info? e).map (·.size) = some sz)
    (hgd : o.guard = none) (x hi : Operand) (ho : o.op = .slice T x none (some hi) none) (v : Value) (n : Nat) (xs : List Value) (hx : a.eval x = v) (hr : Rw sz w v n xs) (U : Int) (u : Nat) (hhi : a.eval hi = .int .i64 U) (hU : U = (u : Int)) (hu : u ≤ n)
    (h : ∀ v', Hid (Rw sz w v' u (xs.take (u * sz))) → wpList P ops Q rest (a.put o.dst v') w) : wpList P ops Q (o :: rest) a w := by
  have hc : ∀ ad cap, v = .slice ad n cap → n ≤ cap := fun ad cap e => by obtain ⟨_, _, a', c', e', hc, _⟩ := hr; rw [e] at e'; simp at e'; omega
  obtain ⟨ad, cap, rfl⟩ := hr.shape
  have hcap := hc ad cap rfl
  subst hU
  refine wpList_plain hgd fun K hK => ?_
  have hrun : (Instr.sliceAt T (.slice ad n cap) none (some (.int .i64 (u : Int))) none).run P w = .ok (Go.sliced ad 0 u cap sz) w := by
    rw [run_sliceAt_slice w T _ _ _ _ (elem_of ht), run_slice_h w T ad n cap (elem_of ht) .i64 _ (by omega) (by omega), elem_is ht, run_size hs]
    simp [Result.andThen]
  unfold Go.Oper.wp
  simp [execOp, ho, hx, hhi, hrun, Result.andThen]
  have := hr.sliced 0 u (by omega) hu
  simp at this
  exact hK _ _ (h _ this)
/-- 's[l:h]' -/
theorem wpList_slice_lh {P : Program} {w : World} {ops : Array Oper} {rest : List Oper} {o : Oper} {a : Act} {Q : Exit → Act → World → Prop} {T e : TypeId} {sz : Nat} (ht : P.underlying T = some (.slice e)) (hs : (P.info? e).map (·.size) = some sz)
    (hgd : o.guard = none) (x lo hi : Operand) (ho : o.op = .slice T x (some lo) (some hi) none) (v : Value) (n : Nat) (xs : List Value) (hx : a.eval x = v) (hr : Rw sz w v n xs) (L U : Int) (l u : Nat) (hlo : a.eval lo = .int .i64 L) (hL : L = (l : Int)) (hhi : a.eval hi = .int .i64 U) (hU : U = (u : Int)) (hl : l ≤ u) (hu : u ≤ n)
    (h : ∀ v', Hid (Rw sz w v' (u - l) ((xs.drop (l * sz)).take ((u - l) * sz))) → wpList P ops Q rest (a.put o.dst v') w) : wpList P ops Q (o :: rest) a w := by
  have hc : ∀ ad cap, v = .slice ad n cap → n ≤ cap := fun ad cap e => by obtain ⟨_, _, a', c', e', hc, _⟩ := hr; rw [e] at e'; simp at e'; omega
  obtain ⟨ad, cap, rfl⟩ := hr.shape
  have hcap := hc ad cap rfl
  subst hL hU
  refine wpList_plain hgd fun K hK => ?_
  have hrun : (Instr.sliceAt T (.slice ad n cap) (some (.int .i64 (l : Int))) (some (.int .i64 (u : Int))) none).run P w = .ok (Go.sliced ad l u cap sz) w := by
    rw [run_sliceAt_slice w T _ _ _ _ (elem_of ht), run_slice_lh w T ad n cap (elem_of ht) .i64 .i64 _ _ (by omega) (by omega) (by omega), elem_is ht, run_size hs]
    simp [Result.andThen]
  unfold Go.Oper.wp
  simp [execOp, ho, hx, hlo, hhi, hrun, Result.andThen]
  exact hK _ _ (h _ (hr.sliced l u hl hu))

theorem bv_tail (l : List UInt8) (k : Nat) : ((bv l).drop k).take (l.length - k) = bv (l.drop k) := by
  rw [List.take_of_length_le (by simp [bv])]; simp [bv, List.map_drop]
theorem info_size_of {P : Program} {e : TypeId} {sz bytes : Nat} {z : Value} (h : Elem P e sz bytes z) : (P.info? e).map (·.size) = some sz := by
  obtain ⟨i, hi, _, hs, _⟩ := h; simp [hi, hs]
theorem Rw.lies? {sz : Nat} {w : World} {a : Option Addr} {n cap : Nat} {xs : List Value} (h : Rw sz w (.slice a n cap) n xs) (hn : 0 < n) : ∃ b off, a = some ⟨b, off, none⟩ ∧ w.rangeAt b off xs := by
  obtain ⟨_, _, a', cap', e, _, h⟩ := h
  simp only [Value.slice.injEq] at e
  obtain ⟨rfl, -, rfl⟩ := e
  rcases h with h | ⟨b, off, rfl, h⟩
  · omega
  · exact ⟨b, off, rfl, h⟩
/-- a load of many cells, in a region that draws its order, where it is wanted -/
theorem wpS_loadG {P : Program} {ops : Array Oper} {Q : Act → World → Prop} {i : Nat} {o : Oper} {σ : List (Nat × Bool)} {a : Act} {b : World} (ho : ops[i]? = some o) (hw : Region.wanted o (yielded ops a.tmps) = true) (ty : TypeId) (x : Operand) (hop : o.op = .load ty x)
    (k off : Nat) (hx : a.eval x = .pointer (some ⟨k, off, none⟩)) (cs : List Value) (d : TypeDesc) (hc : b.rangeAt k off cs) (hu : P.underlying ty = some d) (hd : d.isRow = true) (hi : (P.info? ty).map (·.size) = some cs.length)
    (h : wpS P ops Q σ (a.put o.dst (.agg cs.toArray)) b) : wpS P ops Q ((i, false) :: σ) a b := by
  refine ⟨o, ho, ?_⟩
  rw [if_pos hw]
  refine ⟨.agg cs.toArray, fun w hl => ?_, h⟩
  unfold execOp
  simp only [hop, hx, Instr.loadAt, Instr.sureAddr, Sem.run_bind, Sem.run_pure, Result.andThen_ok, run_loadVar_mid w k off ty cs d (hl.range hc) hu hd hi]
  simp [Oper.mildUpon]
theorem wp_mono_frame {P : Program} {c : Code} {Q : Exit → Act → World → Prop} {a : Act} {w : World} (R : Act → Act → World → Prop) (h1 : c.wp P (fun e a' w' => e = .normal ∧ R a a' w') a w) (h2 : ∀ a' w', R a a' w' → Q .normal a' w') : c.wp P Q a w :=
  Code.wp_mono (fun e a' w' ⟨he, hr⟩ => by subst he; exact h2 a' w' hr) h1
theorem Rw.lies {sz : Nat} {w : World} {ad : Addr} {n cap : Nat} {xs : List Value} (h : Rw sz w (.slice (some ad) n cap) n xs) (j : Nat) (u : Value) (hu : xs[j]? = some u) : w.cell? (ad.add j) = some u := by
  obtain ⟨hl, _, a', cap', e, _, h⟩ := h
  simp only [Value.slice.injEq] at e
  obtain ⟨rfl, -, rfl⟩ := e
  rcases h with rfl | ⟨b, off, e, hr⟩
  · have := (List.getElem?_eq_some_iff.1 hu).1; omega
  · simp only [Option.some.injEq] at e
    subst e
    rw [Addr.add_mid]; exact hr j u hu
/-- 'append(a, b...)' where a has no room: new memory. -/
theorem wpList_append_full {P : Program} {w : World} {ops : Array Oper} {rest : List Oper} {o : Oper} {a : Act} {Q : Exit → Act → World → Prop} {T e : TypeId} {sz bytes : Nat} {z : Value} (he : Elem P e sz bytes z) (ht : P.underlying T = some (.slice e)) (hz : z.cells.size = sz) (hsz : 0 < sz)
    (hgd : o.guard = none) (s x : Operand) (ho : o.op = .call { callee := .builtin .append, args := #[s, x], argTypes := #[T, T] })
    (ad : Addr) (n cap : Nat) (xs : List Value) (hs : a.eval s = .slice (some ad) n cap) (hr : Rw sz w (.slice (some ad) n cap) n xs) (au : Addr) (m c : Nat) (ys : List Value) (hx : a.eval x = .slice (some au) m c) (hu : Rw sz w (.slice (some au) m c) m ys) (h1 : ∀ q ∈ ys, q.oneCell' = true)
    (hfull : cap < n + m) (hlen : n + m ≤ maxLen) (hbytes : (n + m) * bytes ≤ 140737488355328)
    (h : ∀ v' w', w'.ownsRow w.heap.size e sz v' (n + m) (xs ++ ys) → Later w w' → wpList P ops Q rest (a.put o.dst v') w') : wpList P ops Q (o :: rest) a w := by
  obtain ⟨i0, hi, hz0, hz1, hz2⟩ := he
  refine wpList_append_grows w hgd s x T ho e i0 z sz bytes ht hi hz0 hz1 hz2 hz hsz (some ad) n cap xs hs (fun h => by cases h) hr.1 (fun b hb => by cases hb; exact hr.lies) au m c ys hx hu.1 hu.lies h1 hfull hlen hbytes ?_
  intro v' w' h1 h2
  exact h v' w' h1 (Below.grown0 h2)
end Go.Proofs.Ytoflkbilkkfekaa

namespace Go.Proofs.Ytoflkbilkkfekaa
open Go.ChangeShapes Go.WideShapes Go.ChangeAt Go.RowKit
set_option linter.unusedVariables false
set_option linter.unusedSimpArgs false

def withinB (c : Int) (at_ : Nat) (n : Int) : Bool := decide (0 ≤ n ∧ n ≤ c ∧ (at_ : Int) ≤ c - n)
def partB (l : List UInt8) (a k : Nat) : List UInt8 := seg l a k ++ List.replicate (64 - k) 0
theorem partB_length (l : List UInt8) (a k : Nat) (h : k ≤ 64) (ha : a + 64 ≤ l.length) : (partB l a k).length = 64 := by simp [partB, seg_length l a k (by omega)]; omega
theorem partB_set (l : List UInt8) (a k : Nat) (h : k < 64) (ha : a + 64 ≤ l.length) : partB l a (k + 1) = (partB l a k).set k (l[a + k]'(by omega)) := by
  unfold partB
  have hs := seg_length l a k (by omega)
  rw [List.set_append_right _ _ (by omega), hs, Nat.sub_self, seg_snoc l a k (by omega)]
  obtain ⟨m, hm⟩ : ∃ m, 64 - k = m + 1 := ⟨63 - k, by omega⟩
  rw [hm, show 64 - (k + 1) = m from by omega, List.replicate_succ, List.set_cons_zero]
  simp
theorem partB_all (l : List UInt8) (a : Nat) : partB l a 64 = seg l a 64 := by simp [partB]
theorem partB_zero (l : List UInt8) (a : Nat) : partB l a 0 = List.replicate 64 0 := by simp [partB, seg_zero]

theorem zeros64 : (bv (List.replicate 64 0)) = List.replicate 64 (Value.int .u8 0) := bv_replicate 64

end Go.Proofs.Ytoflkbilkkfekaa

namespace Go.Proofs.Ytoflkbilkkfekaa
open Go.ChangeShapes Go.WideShapes Go.ChangeAt Go.RowKit
set_option linter.unusedVariables false
set_option linter.unusedSimpArgs false

theorem Try.elem_u8 : Elem Try.prog 5 1 1 (.int .u8 0) := by
  obtain ⟨i, hi, h1, h2, h3⟩ := info_parts Try.info_u8
  exact ⟨i, hi, h1, h2, h3⟩

theorem seg_add (l : List UInt8) (a i k : Nat) : seg l a (i + k) = seg l a i ++ seg l (a + i) k := by
  simp [seg, List.take_add, List.drop_drop]
theorem seg_seg (l : List UInt8) (a b k n : Nat) (h : b + k ≤ n) : seg (seg l a n) b k = seg l (a + b) k := by
  unfold seg
  rw [List.drop_take, List.take_take, List.drop_drop, Nat.min_eq_left (by omega)]

theorem owns_kept {w w' : World} {B : Nat} {e : TypeId} {sz : Nat} {v : Value} {n : Nat} {xs : List Value} (h : w.ownsRow B e sz v n xs) (hk : ∀ g, v.ownBlock = some g → w'.heap[g]? = w.heap[g]?) : w'.ownsRow B e sz v n xs := by
  refine ⟨h.1, ?_⟩
  rcases h.2 with hn | ⟨g, cap, cur, rfl, hb, hg, rest⟩
  · exact .inl hn
  · exact .inr ⟨g, cap, cur, rfl, hb, by rw [hk g rfl]; exact hg, rest⟩

theorem box_grown {w w' : World} {g : Nat} {t : TypeId} {xs : List Value} {B : Nat} {e : TypeId} {sz : Nat} {v : Value} {n : Nat} {ys : List Value} (hB : Box w g t xs) (ho : w.ownsRow B e sz v n ys) (hne : t ≠ e) (hg : w.grownBy w' v.ownBlock) : Box w' g t xs := by
  unfold Box
  rw [hg.block g hB.lt ?_]
  · exact hB
  · intro he
    rcases ho.2 with ⟨rfl, _⟩ | ⟨g', cap, cur, rfl, _, hg', _⟩
    · simp [Value.ownBlock] at he
    · simp [Value.ownBlock] at he
      subst he
      unfold Box at hB
      rw [hg'] at hB
      simp at hB
      exact hne hB.2.symm

/-- what is read of a store of len blocks, the bytes F -/
def readE (len : Nat) (a : Nat) (n : Int) : Int := if 64 < len then 4 else if withinB len a n then 0 else 5
def readL (len : Nat) (F : List UInt8) (a : Nat) (n : Int) : List UInt8 := if 64 < len then [] else if withinB len a n then seg F (a * 64) (n.toNat * 64) else []
end Go.Proofs.Ytoflkbilkkfekaa

namespace Go.Proofs.Ytoflkbilkkfekaa
open Go.ChangeShapes Go.WideShapes Go.ChangeAt Go.RowKit
set_option linter.unusedVariables false
set_option linter.unusedSimpArgs false

def z64 : Value := .agg (Array.replicate 64 (.int .u8 0))
theorem made64 (n : Nat) : (madeCells z64.cells (n * 64)).toList = bv (List.replicate (n * 64) 0) := by
  rw [bv_replicate]; exact madeCells_rep _ 64 _ (by omega)

/-- so many bytes laid, zeros behind -/
def fillP (c : UInt8) (all k : Nat) : List UInt8 := List.replicate k c ++ List.replicate (all - k) 0
theorem fillP_set (c : UInt8) (all k : Nat) (h : k < all) : fillP c all (k + 1) = (fillP c all k).set k c := by
  unfold fillP
  rw [List.set_append_right _ _ (by simp), List.length_replicate, Nat.sub_self]
  obtain ⟨m, hm⟩ : ∃ m, all - k = m + 1 := ⟨all - k - 1, by omega⟩
  rw [hm, show all - (k + 1) = m from by omega, List.replicate_succ (n := m), List.set_cons_zero, List.replicate_succ']
  simp
theorem fillP_zero (c : UInt8) (all : Nat) : fillP c all 0 = List.replicate all 0 := by simp [fillP]
theorem fillP_all (c : UInt8) (all : Nat) : fillP c all all = List.replicate all c := by simp [fillP]
theorem fillP_length (c : UInt8) (all k : Nat) (h : k ≤ all) : (fillP c all k).length = all := by simp [fillP]; omega

end Go.Proofs.Ytoflkbilkkfekaa

namespace Go.Proofs.Ytoflkbilkkfekaa
open Go.ChangeShapes Go.WideShapes Go.ChangeAt Go.RowKit
set_option linter.unusedVariables false
set_option linter.unusedSimpArgs false

end Go.Proofs.Ytoflkbilkkfekaa

namespace Go.Proofs.Ytoflkbilkkfekaa
open Go.ChangeShapes Go.WideShapes Go.ChangeAt Go.RowKit
set_option linter.unusedVariables false
set_option linter.unusedSimpArgs false

/-- bytes laid over others from a place on -/
def over (F : List UInt8) (o : Nat) (l : List UInt8) : List UInt8 := F.take o ++ l ++ F.drop (o + l.length)
theorem over_get (F : List UInt8) (o : Nat) (l : List UInt8) (h : o + l.length ≤ F.length) (i : Nat) : (over F o l)[i]? = if o ≤ i ∧ i < o + l.length then l[i - o]? else F[i]? := by
  unfold over
  have h1 : (F.take o).length = o := by simp; omega
  by_cases c1 : i < o
  · rw [if_neg (by omega), List.append_assoc, List.getElem?_append_left (by omega), List.getElem?_take_of_lt c1]
  · by_cases c2 : i < o + l.length
    · rw [if_pos (by omega), List.getElem?_append_left (by simp; omega), List.getElem?_append_right (by omega), h1]
    · rw [if_neg (by omega), List.getElem?_append_right (by simp; omega), List.getElem?_drop]
      congr 1
      simp
      omega
theorem over_length (F : List UInt8) (o : Nat) (l : List UInt8) (h : o + l.length ≤ F.length) : (over F o l).length = F.length := by simp [over]; omega
theorem over_nil (F : List UInt8) (o : Nat) : over F o [] = F := by simp [over]
theorem over_over (F : List UInt8) (o : Nat) (l m : List UInt8) (h : o + l.length + m.length ≤ F.length) : over (over F o l) (o + l.length) m = over F o (l ++ m) := by
  apply List.ext_getElem?
  intro i
  rw [over_get (over F o l) (o + l.length) m (by rw [over_length _ _ _ (by omega)]; omega), over_get F o l (by omega), over_get F o (l ++ m) (by simp; omega)]
  simp only [List.length_append]
  by_cases c1 : o + l.length ≤ i ∧ i < o + l.length + m.length
  · rw [if_pos c1, if_pos (by omega), List.getElem?_append_right (by omega)]
    congr 1; omega
  · rw [if_neg c1]
    by_cases c2 : o ≤ i ∧ i < o + l.length
    · rw [if_pos c2, if_pos (by omega), List.getElem?_append_left (by omega)]
    · rw [if_neg c2, if_neg (by omega)]
theorem bv_over (F : List UInt8) (o : Nat) (l : List UInt8) : bv (over F o l) = (bv F).take o ++ bv l ++ (bv F).drop (o + (bv l).length) := by simp [over, bv, List.map_take, List.map_drop]

def writeE (len a lb : Nat) : Int := if 64 < len then 4 else if lb % 64 ≠ 0 then 3 else if withinB len a ((lb : Int) / 64) then 0 else 5
def writeL (len : Nat) (F : List UInt8) (a : Nat) (l : List UInt8) : List UInt8 := if writeE len a l.length = 0 then over F (a * 64) l else []
def writeN (len a lb : Nat) : Nat := if writeE len a lb = 0 then len else 0
def makeE (n : Int) : Int := if 0 ≤ n ∧ n ≤ 64 then 0 else 1
def makeN (n : Int) : Nat := if 0 ≤ n ∧ n ≤ 64 then n.toNat else 0
end Go.Proofs.Ytoflkbilkkfekaa
