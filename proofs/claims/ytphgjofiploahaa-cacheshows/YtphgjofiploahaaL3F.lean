import Derived.Test.YtphgjofiploahaaL3D
import Derived.Test.YtphgjofiploahaaL3Q
namespace Go.Proofs.Ytphgjofiploahaa
open Go.ChangeShapes Go.WideShapes Go.ChangeAt Go.RowKit
set_option linter.unusedVariables false
set_option linter.unusedSimpArgs false

/-- only the variable at g has turned, and it holds no numbers -/
def Kept (w : World) (g : Nat) (w' : World) : Prop :=
  (∀ k, k ≠ g → w'.heap[k]? = w.heap[k]?) ∧ w'.heap.size = w.heap.size ∧ ∀ (sz : Nat) (v : Value) (n : Nat) (xs : List Value), (∀ a m c, Value.slice a m c ∉ xs) → Rw sz w v n xs → Rw sz w' v n xs
theorem kept_set {w : World} {g : Nat} {ty : TypeId} {cs : List Value} (hB : Box w g ty cs) (hs : Slices cs) (hl : cs.length = 2) (u1 u2 : Value) : Kept w g (w.setCells g 0 [u1, u2]) :=
  ⟨(setCells_others g [u1, u2] 0 w).1, (setCells_others g [u1, u2] 0 w).2, fun sz v n xs hx h => h.setTwo hx hB hs hl u1 u2⟩
theorem Kept.med {w w' : World} {g : Nat} (h : Kept w g w') {v : Value} {n : Nat} {F : List UInt8} {D : List Drt} (hM : Med w v n F D) : Med w' v n F D := by
  obtain ⟨vb, vd, rfl, hb, hd, ho⟩ := hM
  exact ⟨vb, vd, rfl, h.2.2 _ _ _ _ (fun _ _ _ => bv_noslice F) hb, h.2.2 _ _ _ _ (fun _ _ _ => dv_noslice D) hd, ho⟩
theorem Kept.blocks {w w' : World} {g : Nat} (h : Kept w g w') {v : Value} {n : Nat} {F : List UInt8} (hb : Rw 64 w v n (bv F)) : Rw 64 w' v n (bv F) := h.2.2 _ _ _ _ (fun _ _ _ => bv_noslice F) hb
theorem Kept.owns {w w' : World} {g : Nat} (h : Kept w g w') {ty : TypeId} {cs : List Value} (hB : Box w g ty cs) {B : Nat} {e : TypeId} {sz : Nat} {v : Value} {n : Nat} {xs : List Value} (ho : w.ownsRow B e sz v n xs) (hne : ty ≠ e) : w'.ownsRow B e sz v n xs :=
  owns_kept ho fun j hj => h.1 j fun e' => box_ne_own hB ho hne j hj e'.symm
/-- 'x = v', x and v media -/
theorem wpList_storeM {w : World} {ops : Array Oper} {rest : List Oper} {op : Oper} {a : Act} {Q : Exit → Act → World → Prop} (hgd : op.guard = none) (x y : Operand) (ho : op.op = .store 25 x y)
    (g : Nat) (hx : a.eval x = .pointer (some ⟨g, 0, none⟩)) (x1 x2 : Option Addr) (n1 c1 n2 c2 : Nat) (hy : a.eval y = .agg #[.slice x1 n1 c1, .slice x2 n2 c2]) (cs : List Value) (hB : Box w g 25 cs) (hs : Slices cs) (hl : cs.length = 2)
    (w0 : World) (hb : Later w0 w) (hg : w0.heap.size ≤ g)
    (h : ∀ w', Box w' g 25 [.slice x1 n1 c1, .slice x2 n2 c2] → Later w0 w' → Kept w g w' → wpList Try.prog ops Q rest (a.put op.dst undef) w') : wpList Try.prog ops Q (op :: rest) a w := by
  refine wpList_store_mid hgd 25 x y ho g 0 #[.slice x1 n1 c1, .slice x2 n2 c2] hx hy (by simpa using hB.there 0 2 (by omega)) (zero_of_info Try.zero_medium).2 (by simp [Value.oneCell']) ?_
  refine h _ ?_ (hb.setCells hg _ 0) (kept_set hB hs hl _ _)
  have := hB.setCells [.slice x1 n1 c1, .slice x2 n2 c2] 0 (by simp; omega)
  rw [List.take_zero, List.nil_append, List.drop_of_length_le (by simp; omega), List.append_nil] at this
  exact this

theorem wpL_storeM {ops : Array Oper} {Q : Exit → Act → World → Prop} {τ : List Nat} {i : Nat} {o : Oper} {a : Act} {w : World} (hoi : ops[i]? = some o) (hgd : o.guard = none) (x y : Operand) (ho : o.op = .store 25 x y)
    (g : Nat) (hx : a.eval x = .pointer (some ⟨g, 0, none⟩)) (x1 x2 : Option Addr) (n1 c1 n2 c2 : Nat) (hy : a.eval y = .agg #[.slice x1 n1 c1, .slice x2 n2 c2]) (cs : List Value) (hB : Box w g 25 cs) (hs : Slices cs) (hl : cs.length = 2)
    (w0 : World) (hb : Later w0 w) (hg : w0.heap.size ≤ g)
    (h : ∀ w', Box w' g 25 [.slice x1 n1 c1, .slice x2 n2 c2] → Later w0 w' → Kept w g w' → wpL Try.prog ops Q τ (a.put o.dst undef) w') : wpL Try.prog ops Q (i :: τ) a w := by
  refine wpL_cons hoi (fun K hK => ?_)
  rw [if_pos (by simp [Region.wanted, hgd])]
  refine wp_store_mid 25 x y ho g 0 #[.slice x1 n1 c1, .slice x2 n2 c2] hx hy (by simpa using hB.there 0 2 (by omega)) (zero_of_info Try.zero_medium).2 (by simp [Value.oneCell']) (hK _ _ ?_)
  refine h _ ?_ (hb.setCells hg _ 0) (kept_set hB hs hl _ _)
  have := hB.setCells [.slice x1 n1 c1, .slice x2 n2 c2] 0 (by simp; omega)
  rw [List.take_zero, List.nil_append, List.drop_of_length_le (by simp; omega), List.append_nil] at this
  exact this
theorem wpT_call {P : Program} {ops : Array Oper} {Q : Exit → Act → World → Prop} {τ σ : List Nat} {i : Nat} {o : Oper} {μ : List Nat} {a : Act} {b : World} (ho : ops[i]? = some o) (hw : Region.wanted o (yielded ops a.tmps) = true) (f : FuncId) (hp : Plain P f) (xs : List Operand) (ts : Array TypeId) (hop : o.op = .call { callee := .value (.func f), args := xs.toArray, argTypes := ts }) (us : List Value) (hx : xs.map a.eval = us)
    (v : Value) (hc : ∀ w, Later b w → Calls P f us.toArray w fun e w' => e = .returned v ∧ Later w w')
    (h : wpT P ops Q τ σ μ (a.put o.dst v) b) : wpT P ops Q τ σ (i :: μ) a b := by
  refine ⟨o, ho, ?_⟩
  rw [if_pos hw]
  refine ⟨v, fun w hl => ?_, h⟩
  rw [run_call f hp xs ts hop us hx]
  exact ⟨rfl, hc w hl⟩
/-- a bag of one -/
theorem wpT_one {P : Program} {ops : Array Oper} {Q : Exit → Act → World → Prop} {τ : List Nat} {i : Nat} {a : Act} {b : World} (R : Value → World → Prop) (hd : dep .any ops i i = false) (hst : ∀ v w w', Later w w' → R v w → R v w') (hv : ∀ w, Later b w → lVal P ops i R a w)
    (h : ∀ v w, Later b w → R v w → wpL P ops Q τ (a.put (dstOf ops i) v) w) : wpT P ops Q τ [i] [] a b := by
  refine wpT_bag (fun _ => []) (fun _ vals w => R (vals i) w) (by simp [hd]) (fun _ _ vals w w' hl h => hst _ _ _ hl h) ?_ ?_ ?_
  · intro j hj k hk hne
    simp at hj hk
    exact absurd (hk.trans hj.symm) hne
  · intro j hj vals w hw _
    have : j = i := by simpa using hj
    subst this
    refine lVal_mono (fun v w' _ h => ?_) (hv w hw)
    rw [upd_same]; exact h
  · intro vals w hw hall
    exact h (vals i) w hw (hall i (by simp))


/-! Rows that lie in another block than one's own. -/
def OffS (g : Nat) : Value → Prop
  | .slice (some a) n _ => n = 0 ∨ a.block ≠ g
  | _ => True
def OffM (g : Nat) (v : Value) : Prop := ∃ vb vd, v = .agg #[vb, vd] ∧ OffS g vb ∧ OffS g vd
theorem Rw.off {sz : Nat} {w w' : World} {v : Value} {n : Nat} {xs : List Value} {g : Nat} (h : Rw sz w v n xs) (hx : OffS g v) (hg : w.grownBy w' (some g)) : Rw sz w' v n xs := by
  obtain ⟨h1, h2, a, cap, rfl, hc, h3⟩ := h
  refine ⟨h1, h2, a, cap, rfl, hc, ?_⟩
  rcases h3 with h3 | ⟨b, off, rfl, hr⟩
  · exact .inl h3
  · rcases hx with hx | hx
    · exact .inl hx
    · refine .inr ⟨b, off, rfl, fun j u hu => ?_⟩
      have h4 := hr j u hu
      have hlt : b < w.heap.size := World.block_lt_of_cell? w _ h4
      have he := hg.block b hlt (fun e => hx (by cases e; rfl))
      rw [← h4]
      simp only [World.cell?, he]
/-- rows that are there lie in no block that comes -/
theorem Rw.old {sz : Nat} {w : World} {v : Value} {n : Nat} {xs : List Value} (h : Rw sz w v n xs) (hsz : 0 < sz) {g : Nat} (hg : w.heap.size ≤ g) : OffS g v := by
  obtain ⟨h1, h2, a, cap, rfl, hc, h3⟩ := h
  rcases h3 with h3 | ⟨b, off, rfl, hr⟩
  · cases a with
    | none => exact trivial
    | some a => exact .inl h3
  · by_cases h0 : n = 0
    · exact .inl h0
    · refine .inr fun e => ?_
      have hp : 0 < xs.length := by rw [h1]; exact Nat.mul_pos (by omega) hsz
      have h4 := hr 0 _ (List.getElem?_eq_getElem hp)
      have hlt : b < w.heap.size := World.block_lt_of_cell? w _ h4
      have e' : b = g := e
      omega
/-- 'append(a, b...)', a our own: in a's own block, or in a new one -/
theorem run_append_rw2 {P : Program} {w : World} {T e ty : TypeId} {sz bytes : Nat} {z : Value} (he : Elem P e sz bytes z) (ht : P.underlying T = some (.slice e)) (hz : z.cells.size = sz) (hsz : 0 < sz) (B : Nat)
    (v : Value) (n : Nat) (xs : List Value) (hown : w.ownsRow B e sz v n xs) (u : Value) (m : Nat) (ys : List Value) (hu : Rw sz w u m ys) (h1 : ∀ q ∈ ys, q.oneCell' = true)
    (hbytes : (n + m) * bytes ≤ 140737488355328) (hlen : n + m ≤ maxLen) (hbase : B ≤ w.heap.size) :
    ∃ v' w', (Builtin.append_ #[T, T] ty #[v, u]).run P w = .ok v' w' ∧ w'.ownsRow B e sz v' (n + m) (xs ++ ys) ∧ w.grownBy w' v.ownBlock ∧ ∀ g, v'.ownBlock = some g → v.ownBlock = some g ∨ w.heap.size ≤ g := by
  by_cases hm0 : m = 0
  · subst hm0
    have hys : ys = [] := List.eq_nil_of_length_eq_zero (by rw [hu.1]; simp)
    subst hys
    obtain ⟨i0, hi, hz0, hz1, hz2⟩ := he
    obtain ⟨hl, hm, ad, cap, rfl, hcap, _⟩ := hu
    refine ⟨v, w, ?_, by simpa using hown, World.grownBy.refl _ _, fun g hg => .inl hg⟩
    rcases hown.2 with ⟨rfl, h0⟩ | ⟨g, c, cur, rfl, hbg, hg, hc, hmm, hs, ht'⟩
    · cases ad with
      | none => simp [Builtin.append_, run_underlying ht, sizeOf, typeInfo, hi, Builtin.lenOf, Builtin.firstCells]
      | some ad =>
        have hfc := run_firstCells_some (P := P) w i0.size 0 ad 0 cap [] (by simp) (by simp)
        simp [Builtin.append_, run_underlying ht, sizeOf, typeInfo, hi, Builtin.lenOf, hfc]
    · cases ad with
      | none => simp [Builtin.append_, run_underlying ht, sizeOf, typeInfo, hi, Builtin.lenOf, Builtin.firstCells, hc, storeCells]
      | some ad =>
        have hfc := run_firstCells_some (P := P) w i0.size 0 ad 0 cap [] (by simp) (by simp)
        simp [Builtin.append_, run_underlying ht, sizeOf, typeInfo, hi, Builtin.lenOf, hfc, hc, storeCells]
  · obtain ⟨au, cu, rfl⟩ := hu.shape
    obtain ⟨bu, ou, rfl, _⟩ := hu.lies? (by omega)
    obtain ⟨i0, hi, hz0, hz1, hz2⟩ := he
    rcases hown.2 with ⟨rfl, h0⟩ | ⟨g, c, cur, rfl, hbg, hg, hc, hmm, hs, ht'⟩
    · subst h0
      have hxs : xs = [] := List.eq_nil_of_length_eq_zero (by rw [hown.1]; simp)
      subst hxs
      obtain ⟨v', w', r1, r2, r3, _⟩ := run_append_own (P := P) w w.heap.size T ty e i0 z sz bytes ht hi hz0 hz1 hz2 hz hsz (.slice none 0 0) 0 [] (World.ownsRow_nil w _ e sz) ⟨bu, ou, none⟩ m cu ys hu.1 hu.lies h1 hlen hbytes (Nat.le_refl _)
      exact ⟨v', w', r1, owns_rebase r2 hbase, r3, fun g hg => .inr (r2.lt g hg).1⟩
    · by_cases hfit : n + m ≤ c
      · obtain ⟨w', r1, r2, r3⟩ := run_append_fits (P := P) w B T ty e i0 sz ht hi hz1 g n c xs hown ⟨bu, ou, none⟩ m cu ys hu.1 hu.lies h1 hfit
        exact ⟨_, w', r1, r2, r3, fun g' hg' => .inl hg'⟩
      · obtain ⟨v', w', r1, r2, r3⟩ := run_append_arg_grows (P := P) w T ty e i0 z sz bytes ht hi hz0 hz1 hz2 hz hsz ⟨g, 0, none⟩ n c xs hown.1 (hown.cells (g := g) rfl) ⟨bu, ou, none⟩ m cu ys hu.1 hu.lies (by omega) hlen hbytes
        refine ⟨v', w', r1, owns_rebase r2 hbase, ⟨r3.os, r3.tape, r3.output, r3.size, fun k hk _ => r3.block k hk (by simp)⟩, fun g' hg' => .inr (r2.lt g' hg').1⟩
/-- behind a bag: the same -/
theorem wpL_append_rw2 {P : Program} {ops : Array Oper} {Q : Exit → Act → World → Prop} {τ : List Nat} {i : Nat} {o : Oper} {a : Act} {w : World} {T e : TypeId} {sz bytes : Nat} {z : Value} (he : Elem P e sz bytes z) (ht : P.underlying T = some (.slice e)) (hz : z.cells.size = sz) (hsz : 0 < sz)
    (hoi : ops[i]? = some o) (hgd : o.guard = none) (s x : Operand) (ho : o.op = .call { callee := .builtin .append, args := #[s, x], argTypes := #[T, T] }) (B : Nat)
    (v : Value) (n : Nat) (xs : List Value) (hs : a.eval s = v) (hown : w.ownsRow B e sz v n xs) (u : Value) (m : Nat) (ys : List Value) (hx : a.eval x = u) (hu : Rw sz w u m ys) (h1 : ∀ q ∈ ys, q.oneCell' = true)
    (hbytes : (n + m) * bytes ≤ 140737488355328) (hlen : n + m ≤ maxLen) (hbase : B ≤ w.heap.size)
    (h : ∀ v' w', w'.ownsRow B e sz v' (n + m) (xs ++ ys) → w.grownBy w' v.ownBlock → (∀ g, v'.ownBlock = some g → v.ownBlock = some g ∨ w.heap.size ≤ g) → wpL P ops Q τ (a.put o.dst v') w') : wpL P ops Q (i :: τ) a w := by
  refine wpL_cons hoi (fun K hK => ?_)
  rw [if_pos (by simp [Region.wanted, hgd])]
  obtain ⟨v', w', hrun, r1, r2, r3⟩ := run_append_rw2 (P := P) (ty := o.type) he ht hz hsz B v n xs hown u m ys hu h1 hbytes hlen hbase
  unfold Go.Oper.wp
  simp [execOp, ho, resolve, invoke, builtin, hs, hx, hrun, Result.andThen]
  exact hK _ _ (h v' w' r1 r2 r3)
/-- the same, more being told of the value (X) -/
theorem call2_medX {ops : Array Oper} {Q : Exit → Act → World → Prop} {a : Act} {b : World} (c mv e0 e1 al sto asg : Nat) {oc om o0 o1 oa os oe : Oper}
    (hc : ops[c]? = some oc) (hm : ops[mv]? = some om) (h0 : ops[e0]? = some o0) (h1 : ops[e1]? = some o1) (ha : ops[al]? = some oa) (ho : ops[sto]? = some os) (he : ops[asg]? = some oe)
    (gc : oc.guard = none) (gm : om.guard = none) (g0 : o0.guard = none) (g1 : o1.guard = none) (ga : oa.guard = none) (go : os.guard = none) (ge : oe.guard = none)
    (dC dM d0 d1 dA dE : Tmp) (tc : oc.dst = some dC) (tm : om.dst = some dM) (t0 : o0.dst = some d0) (t1 : o1.dst = some d1) (ta : oa.dst = some dA) (to : os.dst = none) (te : oe.dst = some dE)
    (hsz : (decide (dC < a.tmps.size) && decide (dM < a.tmps.size) && decide (d0 < a.tmps.size) && decide (d1 < a.tmps.size) && decide (dA < a.tmps.size) && decide (dE < a.tmps.size)) = true) (hdd : [dC, dM, d0, d1, dA, dE].Nodup)
    (f : FuncId) (hp : Plain Try.prog f) (xs : List Operand) (ts : Array TypeId) (pc : oc.op = .call { callee := .value (.func f), args := xs.toArray, argTypes := ts }) (us : List Value) (hx : xs.map a.eval = us)
    (pm : om.op = .move (.tmp dC)) (p0 : o0.op = .extract (.tmp dM) 0) (p1 : o1.op = .extract (.tmp dM) 1) (pa : oa.op = .alloc 25) (po : os.op = .store 25 (.tmp dA) (.tmp d0)) (pe : oe.op = .assign (.tmp d1))
    (hnd : [c, mv, e0, e1, al, sto, asg].Nodup)
    (D1 : ([c, mv, e0, e1, al, sto, asg].filter fun k => dep .any ops c k) = []) (D2 : ([c, mv, e0, e1, al, sto, asg].filter fun k => dep .any ops mv k) = [c]) (D3 : ([c, mv, e0, e1, al, sto, asg].filter fun k => dep .any ops e0 k) = [c, mv])
    (D4 : ([c, mv, e0, e1, al, sto, asg].filter fun k => dep .any ops e1 k) = [c, mv]) (D5 : ([c, mv, e0, e1, al, sto, asg].filter fun k => dep .any ops al k) = []) (D6 : ([c, mv, e0, e1, al, sto, asg].filter fun k => dep .any ops sto k) = [c, mv, e0, al])
    (D7 : ([c, mv, e0, e1, al, sto, asg].filter fun k => dep .any ops asg k) = [c, mv, e0, e1, al, sto])
    (E : Int) (N : Nat) (F : List UInt8) (D : List Drt) (X : Value → Prop)
    (hcall : ∀ w, Later b w → Calls Try.prog f us.toArray w fun e w' => ∃ v', e = .returned (.tuple #[v', .int .i64 E]) ∧ Later w w' ∧ Med w' v' N F D ∧ X v')
    (hfin : ∀ (x1 : Option Addr) (c1 : Nat) (x2 : Option Addr) (n2 c2 g : Nat) (W : World), Later b W → b.heap.size ≤ g → Hid (n2 = D.length) → Med W (.agg #[.slice x1 N c1, .slice x2 n2 c2]) N F D → X (.agg #[.slice x1 N c1, .slice x2 n2 c2]) → Box W g 25 [.slice x1 N c1, .slice x2 n2 c2] →
      Q .normal ((((((a.put (some dC) (.tuple #[.agg #[.slice x1 N c1, .slice x2 n2 c2], .int .i64 E])).put (some dM) (.tuple #[.agg #[.slice x1 N c1, .slice x2 n2 c2], .int .i64 E])).put (some d0) (.agg #[.slice x1 N c1, .slice x2 n2 c2])).put (some d1) (.int .i64 E)).put (some dA) (.pointer (some ⟨g, 0, none⟩))).put (some dE) (.int .i64 E)) W) :
    ∃ L R', Bag2 Try.prog ops Q [sto] [c, mv, e0, e1, al, sto, asg] a b L R' := by
  refine call2_bag c mv e0 e1 al sto asg hc hm h0 h1 ha ho he gc gm g0 g1 ga go ge dC dM d0 d1 dA dE tc tm t0 t1 ta to te hsz hdd f hp xs ts pc us hx pm p0 p1 25 pa po pe #[.slice none 0 0, .slice none 0 0] 2 Try.zero_medium rfl hnd D1 D2 D3 D4 D5 D6 D7
    Slices (fun cells ev W => ev = .int .i64 E ∧ (∃ x1 c1 x2 c2, cells = [.slice x1 N c1, .slice x2 D.length c2]) ∧ Med W (.agg cells.toArray) N F D ∧ X (.agg cells.toArray)) ?_ ?_ ?_ ?_ ?_ ?_
  · intro v hv
    simp at hv
    subst hv
    exact ⟨none, 0, 0, rfl⟩
  · rintro cells ev W ⟨_, ⟨x1, c1, x2, c2, rfl⟩, _⟩
    refine ⟨?_, rfl, ?_⟩
    · intro v hv
      simp at hv
      rcases hv with rfl | rfl
      · exact ⟨_, _, _, rfl⟩
      · exact ⟨_, _, _, rfl⟩
    · intro v hv
      simp at hv
      rcases hv with rfl | rfl <;> rfl
  · rintro cells ev W W' hl ⟨h1, h2, h3⟩
    exact ⟨h1, h2, h3.1.later hl, h3.2⟩
  · rintro cells ev W g cs ⟨h1, ⟨x1, c1, x2, c2, rfl⟩, h3⟩ _ hs hlen hB
    exact ⟨h1, ⟨x1, c1, x2, c2, rfl⟩, h3.1.setTwo hB hs hlen _ _, h3.2⟩
  · intro w hw
    refine (hcall w hw).mono ?_
    rintro e w' ⟨v', rfl, hl, hM, hX⟩
    obtain ⟨x1, c1, x2, k, c2, rfl, hk, _⟩ := hM.shape
    obtain rfl : k = D.length := hk.out
    exact ⟨[.slice x1 N c1, .slice x2 D.length c2], .int .i64 E, rfl, hl, rfl, ⟨x1, c1, x2, c2, rfl⟩, hM, hX⟩
  · rintro cells ev g W hW hg ⟨rfl, ⟨x1, c1, x2, c2, rfl⟩, h3⟩ hB
    exact hfin x1 c1 x2 D.length c2 g W hW hg rfl h3.1 h3.2 hB
/-- what the landed Write does besides: its answer lies in new memory -/
def IWriteX : Prop := ∀ (v : Value) (n : Nat) (F : List UInt8) (D : List Drt) (at_ : Int) (X : List UInt8) (th : Bool) (w : World), Med w v n F D → X.length = 64 → -9223372036854775808 ≤ at_ → at_ ≤ 9223372036854775807 →
  Calls Try.prog 11 #[v, .int .i64 at_, .agg (bv X).toArray, .bool th] w fun e w' => ∃ v', e = .returned (.tuple #[v', .int .i64 (wrE n D at_)]) ∧ Later w w' ∧ Med w' v' (wrN n D at_) (wrF n F D at_ X th) (wrD n D at_ X th) ∧ ∀ g, g < w.heap.size → OffM g v'
theorem Med.off {w w' : World} {vb vd : Value} {n : Nat} {F : List UInt8} {D : List Drt} {g : Nat} (h : Med w (.agg #[vb, vd]) n F D) (hx : OffM g (.agg #[vb, vd])) (hg : w.grownBy w' (some g)) : Med w' (.agg #[vb, vd]) n F D := by
  obtain ⟨b, d, e, h1, h2, h3⟩ := h
  obtain ⟨b', d', e', o1, o2⟩ := hx
  simp at e e'
  obtain ⟨rfl, rfl⟩ := e
  obtain ⟨rfl, rfl⟩ := e'
  exact ⟨vb, vd, rfl, h1.off o1 hg, h2.off o2 hg, h3⟩
theorem Med.old {w : World} {vb vd : Value} {n : Nat} {F : List UInt8} {D : List Drt} (h : Med w (.agg #[vb, vd]) n F D) {g : Nat} (hg : w.heap.size ≤ g) : OffM g (.agg #[vb, vd]) := by
  obtain ⟨b, d, e, h1, h2, h3⟩ := h
  simp at e
  obtain ⟨rfl, rfl⟩ := e
  exact ⟨vb, vd, rfl, h1.old (by decide) hg, h2.old (by decide) hg⟩
theorem grown_any {w w' : World} (hg : w.grownBy w' none) (g : Nat) : w.grownBy w' (some g) := ⟨hg.os, hg.tape, hg.output, hg.size, fun k hk _ => hg.block k hk (by simp)⟩
theorem keepRw {sz : Nat} {w w' : World} {v u : Value} {n : Nat} {xs : List Value} (hg : w.grownBy w' v.ownBlock) (hx : ∀ g, v.ownBlock = some g → OffS g u) (h : Rw sz w u n xs) : Rw sz w' u n xs := by
  cases hv : v.ownBlock with
  | none => rw [hv] at hg; exact h.later (Below.grown0 hg)
  | some g => rw [hv] at hg; exact h.off (hx g hv) hg
theorem keepMed {w w' : World} {v vb vd : Value} {n : Nat} {F : List UInt8} {D : List Drt} (hg : w.grownBy w' v.ownBlock) (hx : ∀ g, v.ownBlock = some g → OffM g (.agg #[vb, vd])) (h : Med w (.agg #[vb, vd]) n F D) : Med w' (.agg #[vb, vd]) n F D := by
  cases hv : v.ownBlock with
  | none => rw [hv] at hg; exact h.later (Below.grown0 hg)
  | some g => rw [hv] at hg; exact h.off (hx g hv) hg
theorem sVal_of_run {P : Program} {ops : Array Oper} {i : Nat} {o : Oper} {R : Value → World → Prop} {a : Act} {w : World} (ho : ops[i]? = some o) (hgd : o.guard = none) (v : Value) (w' : World) (hrun : (execOp a.eval o).run P w = .ok (.value v) w') (h : R v w') : sVal P ops i R a w := by
  unfold sVal
  simp only [ho]
  rw [if_pos (by simp [Region.wanted, hgd]), hrun]
  exact h
theorem sVal_store {P : Program} {ops : Array Oper} {i : Nat} {o : Oper} {R : Value → World → Prop} {a : Act} {w : World} (ho : ops[i]? = some o) (hgd : o.guard = none) (ty : TypeId) (x y : Operand) (hop : o.op = .store ty x y) (g : Nat) (cells : List Value) (hx : a.eval x = .pointer (some ⟨g, 0, none⟩)) (hy : a.eval y = .agg cells.toArray)
    (ht : w.there g 0 cells.length) (hi : (P.info? ty).map (·.size) = some cells.length) (h1 : ∀ v ∈ cells, v.oneCell' = true) (h : ∀ u, R u (w.setCells g 0 cells)) : sVal P ops i R a w := by
  unfold sVal
  simp only [ho]
  rw [if_pos (by simp [Region.wanted, hgd])]
  have hrun := run_storeAt_mid (P := P) w g 0 ty cells.toArray (by simpa using ht) (by simpa using hi) (all_oneCell_toArray h1)
  simp [execOp, hop, hx, hy, hrun, Result.andThen, sUpon]
  exact h _
theorem run_append_op {P : Program} {o : Oper} {a : Act} {w w' : World} {v' : Value} (s x : Operand) (T : TypeId) (ho : o.op = .call { callee := .builtin .append, args := #[s, x], argTypes := #[T, T] }) (v u : Value) (hs : a.eval s = v) (hx : a.eval x = u) (hrun : (Builtin.append_ #[T, T] o.type #[v, u]).run P w = .ok v' w') : (execOp a.eval o).run P w = .ok (.value v') w' := by
  simp [execOp, ho, resolve, invoke, builtin, hs, hx, hrun, Result.andThen]
end Go.Proofs.Ytphgjofiploahaa
