import Derived.Test.YtoflkbilkkfekaaMAE
import Derived.Test.YtoflkbilkkfekaaMAF
import Derived.Test.YtoflkbilkkfekaaMAJ
namespace Go.Proofs.Ytoflkbilkkfekaa
open Go.ChangeShapes Go.WideShapes Go.ChangeAt Go.RowKit
set_option linter.unusedVariables false
set_option linter.unusedSimpArgs false

/-! 'x, e := F(..)', x a struct, in a region that draws its order: the call, its parts, the new variable, the store. -/
def tup (cells : List Value) (ev : Value) : Value := .tuple #[.agg cells.toArray, ev]
theorem tup_inj {c c' : List Value} {e e' : Value} (h : tup c e = tup c' e') : c = c' ∧ e = e' := by
  simp [tup] at h
  exact h
def ptr (g : Nat) : Value := .pointer (some ⟨g, 0, none⟩)
theorem ptr_inj {g g' : Nat} (h : ptr g = ptr g') : g = g' := by simpa [ptr] using h
def c2R (b : World) (ty : TypeId) (sz : Nat) (Z : List Value → Prop) (R : List Value → Value → World → Prop) (c mv e0 e1 al sto : Nat) : Nat → (Nat → Value) → World → Prop := fun i vals W =>
  if i = c then ∃ cells ev, vals c = tup cells ev ∧ R cells ev W
  else if i = mv then vals mv = vals c
  else if i = e0 then ∃ cells ev, vals c = tup cells ev ∧ vals e0 = .agg cells.toArray
  else if i = e1 then ∃ cells ev, vals c = tup cells ev ∧ vals e1 = ev
  else if i = al then ∃ g cs, vals al = ptr g ∧ b.heap.size ≤ g ∧ cs.length = sz ∧ Z cs ∧ Box W g ty cs
  else if i = sto then ∃ cells ev g, vals c = tup cells ev ∧ vals al = ptr g ∧ Box W g ty cells
  else vals i = vals e1
theorem run_extract {P : Program} {o : Oper} {a : Act} (x : Operand) (n : Nat) (hop : o.op = .extract x n) (vs : Array Value) (v : Value) (hx : a.eval x = .tuple vs) (hv : vs[n]? = some v) (w : World) : (execOp a.eval o).run P w = .ok (.value v) w := by
  simp [execOp, hop, hx, Instr.extract, hv, Result.andThen]
theorem run_move {P : Program} {o : Oper} {a : Act} (x : Operand) (hop : o.op = .move x) (v : Value) (hx : a.eval x = v) (w : World) : (execOp a.eval o).run P w = .ok (.value v) w := by
  simp [execOp, hop, hx, Result.andThen]
theorem run_assign {P : Program} {o : Oper} {a : Act} (x : Operand) (hop : o.op = .assign x) (v : Value) (hx : a.eval x = v) (w : World) : (execOp a.eval o).run P w = .ok (.value v) w := by
  simp [execOp, hop, hx, Result.andThen]
theorem run_alloc {P : Program} {o : Oper} {a : Act} (ty : TypeId) (hop : o.op = .alloc ty) (z : Array Value) (n : Nat) (hz : (P.info? ty).map (fun i => (i.zero, i.size)) = some (some (.agg z), n)) (w : World) : (execOp a.eval o).run P w = .ok (.value (ptr w.heap.size)) (w.alloc (.cells z ty)) := by
  obtain ⟨hzv, hsz⟩ := zero_of_info hz
  simp [execOp, hop, Instr.alloc, hzv, Result.andThen, newVar, newRow, Value.cells, ptr]

theorem dep_of {ops : Array Oper} {σ L : List Nat} {i k : Nat} (h : (σ.filter fun k => dep .any ops i k) = L) (hk : k ∈ L) : dep .any ops i k = true := by
  rw [← h] at hk
  exact (List.mem_filter.1 hk).2
theorem dep_in {ops : Array Oper} {σ L : List Nat} {i k : Nat} (h : (σ.filter fun k => dep .any ops i k) = L) (hk : k ∈ σ) (hd : dep .any ops i k = true) : k ∈ L := by
  rw [← h]
  exact List.mem_filter.2 ⟨hk, hd⟩
theorem dstOf_of {ops : Array Oper} {i : Nat} {o : Oper} {d : Option Tmp} (h : ops[i]? = some o) (hd : o.dst = d) : dstOf ops i = d := by simp [dstOf, h, hd]
theorem eval_put_ne {a : Act} {d t : Tmp} {v : Value} (h : t ≠ d) : (a.put (some d) v).eval (.tmp t) = a.eval (.tmp t) := Act.eval_put fun x hx e => by
  cases hx
  simp at e
  exact h e
theorem put_size (a : Act) (d : Option Tmp) (v : Value) : (a.put d v).tmps.size = a.tmps.size := by
  cases d <;> simp [Act.put]

set_option maxHeartbeats 1000000 in
theorem call2_bag {P : Program} {ops : Array Oper} {Q : Exit → Act → World → Prop} {a : Act} {b : World} (c mv e0 e1 al sto asg : Nat) {oc om o0 o1 oa os oe : Oper}
    (hc : ops[c]? = some oc) (hm : ops[mv]? = some om) (h0 : ops[e0]? = some o0) (h1 : ops[e1]? = some o1) (ha : ops[al]? = some oa) (ho : ops[sto]? = some os) (he : ops[asg]? = some oe)
    (gc : oc.guard = none) (gm : om.guard = none) (g0 : o0.guard = none) (g1 : o1.guard = none) (ga : oa.guard = none) (go : os.guard = none) (ge : oe.guard = none)
    (dC dM d0 d1 dA dE : Tmp) (tc : oc.dst = some dC) (tm : om.dst = some dM) (t0 : o0.dst = some d0) (t1 : o1.dst = some d1) (ta : oa.dst = some dA) (to : os.dst = none) (te : oe.dst = some dE)
    (hsz : (decide (dC < a.tmps.size) && decide (dM < a.tmps.size) && decide (d0 < a.tmps.size) && decide (d1 < a.tmps.size) && decide (dA < a.tmps.size) && decide (dE < a.tmps.size)) = true) (hdd : [dC, dM, d0, d1, dA, dE].Nodup)
    (f : FuncId) (hp : Plain P f) (xs : List Operand) (ts : Array TypeId) (pc : oc.op = .call { callee := .value (.func f), args := xs.toArray, argTypes := ts }) (us : List Value) (hx : xs.map a.eval = us)
    (pm : om.op = .move (.tmp dC)) (p0 : o0.op = .extract (.tmp dM) 0) (p1 : o1.op = .extract (.tmp dM) 1) (ty : TypeId) (pa : oa.op = .alloc ty) (po : os.op = .store ty (.tmp dA) (.tmp d0)) (pe : oe.op = .assign (.tmp d1))
    (z : Array Value) (sz : Nat) (hz : (P.info? ty).map (fun i => (i.zero, i.size)) = some (some (.agg z), sz)) (hzs : z.size = sz)
    (hnd : [c, mv, e0, e1, al, sto, asg].Nodup)
    (D1 : ([c, mv, e0, e1, al, sto, asg].filter fun k => dep .any ops c k) = []) (D2 : ([c, mv, e0, e1, al, sto, asg].filter fun k => dep .any ops mv k) = [c]) (D3 : ([c, mv, e0, e1, al, sto, asg].filter fun k => dep .any ops e0 k) = [c, mv])
    (D4 : ([c, mv, e0, e1, al, sto, asg].filter fun k => dep .any ops e1 k) = [c, mv]) (D5 : ([c, mv, e0, e1, al, sto, asg].filter fun k => dep .any ops al k) = []) (D6 : ([c, mv, e0, e1, al, sto, asg].filter fun k => dep .any ops sto k) = [c, mv, e0, al])
    (D7 : ([c, mv, e0, e1, al, sto, asg].filter fun k => dep .any ops asg k) = [c, mv, e0, e1, al, sto])
    (Z : List Value → Prop) (R : List Value → Value → World → Prop) (hZ : Z z.toList) (hR : ∀ cells ev W, R cells ev W → Z cells ∧ cells.length = sz ∧ ∀ v ∈ cells, v.oneCell' = true)
    (hst : ∀ cells ev W W', Later W W' → R cells ev W → R cells ev W') (hso : ∀ cells ev W g cs, R cells ev W → b.heap.size ≤ g → Z cs → cs.length = sz → Box W g ty cs → R cells ev (W.setCells g 0 cells))
    (hcall : ∀ w, Later b w → Calls P f us.toArray w fun e w' => ∃ cells ev, e = .returned (tup cells ev) ∧ Later w w' ∧ R cells ev w')
    (hfin : ∀ cells ev g W, Later b W → b.heap.size ≤ g → R cells ev W → Box W g ty cells → Q .normal ((((((a.put (some dC) (tup cells ev)).put (some dM) (tup cells ev)).put (some d0) (.agg cells.toArray)).put (some d1) ev).put (some dA) (ptr g)).put (some dE) ev) W) :
    ∃ L R', Bag2 P ops Q [sto] [c, mv, e0, e1, al, sto, asg] a b L R' := by
  simp only [Bool.and_eq_true, decide_eq_true_eq] at hsz
  obtain ⟨⟨⟨⟨⟨zC, zM⟩, z0⟩, z1⟩, zA⟩, zE⟩ := hsz
  simp only [List.nodup_cons, List.mem_cons, List.not_mem_nil, or_false, not_or, List.nodup_nil, and_true, not_false_eq_true] at hnd hdd
  obtain ⟨⟨n12, n13, n14, n15, n16, n17⟩, ⟨n23, n24, n25, n26, n27⟩, ⟨n34, n35, n36, n37⟩, ⟨n45, n46, n47⟩, ⟨n56, n57⟩, n67⟩ := hnd
  obtain ⟨⟨m12, m13, m14, m15, m16⟩, ⟨m23, m24, m25, m26⟩, ⟨m34, m35, m36⟩, ⟨m45, m46⟩, m56⟩ := hdd
  have Rc : ∀ vals W, c2R b ty sz Z R c mv e0 e1 al sto c vals W = ∃ cells ev, vals c = tup cells ev ∧ R cells ev W := fun vals W => by simp [c2R]
  have Rm : ∀ vals W, c2R b ty sz Z R c mv e0 e1 al sto mv vals W = (vals mv = vals c) := fun vals W => by simp [c2R, Ne.symm n12, n12, fun h => n12 (Eq.symm h)]
  have R0 : ∀ vals W, c2R b ty sz Z R c mv e0 e1 al sto e0 vals W = ∃ cells ev, vals c = tup cells ev ∧ vals e0 = .agg cells.toArray := fun vals W => by
    unfold c2R; rw [if_neg (Ne.symm n13), if_neg (Ne.symm n23), if_pos rfl]
  have R1 : ∀ vals W, c2R b ty sz Z R c mv e0 e1 al sto e1 vals W = ∃ cells ev, vals c = tup cells ev ∧ vals e1 = ev := fun vals W => by
    unfold c2R; rw [if_neg (Ne.symm n14), if_neg (Ne.symm n24), if_neg (Ne.symm n34), if_pos rfl]
  have Ra : ∀ vals W, c2R b ty sz Z R c mv e0 e1 al sto al vals W = ∃ g cs, vals al = ptr g ∧ b.heap.size ≤ g ∧ cs.length = sz ∧ Z cs ∧ Box W g ty cs := fun vals W => by
    unfold c2R; rw [if_neg (Ne.symm n15), if_neg (Ne.symm n25), if_neg (Ne.symm n35), if_neg (Ne.symm n45), if_pos rfl]
  have Ro : ∀ vals W, c2R b ty sz Z R c mv e0 e1 al sto sto vals W = ∃ cells ev g, vals c = tup cells ev ∧ vals al = ptr g ∧ Box W g ty cells := fun vals W => by
    unfold c2R; rw [if_neg (Ne.symm n16), if_neg (Ne.symm n26), if_neg (Ne.symm n36), if_neg (Ne.symm n46), if_neg (Ne.symm n56), if_pos rfl]
  have Re : ∀ vals W, c2R b ty sz Z R c mv e0 e1 al sto asg vals W = (vals asg = vals e1) := fun vals W => by
    unfold c2R; rw [if_neg (Ne.symm n17), if_neg (Ne.symm n27), if_neg (Ne.symm n37), if_neg (Ne.symm n47), if_neg (Ne.symm n57), if_neg (Ne.symm n67)]
  have sC := dstOf_of hc tc
  have sM := dstOf_of hm tm
  have s0 := dstOf_of h0 t0
  have s1 := dstOf_of h1 t1
  have sA := dstOf_of ha ta
  have sO := dstOf_of ho to
  have sE := dstOf_of he te
  have split : ∀ {i : Nat} {p : Nat → Prop}, i ∈ [c, mv, e0, e1, al, sto, asg] → p c → p mv → p e0 → p e1 → p al → p sto → p asg → p i := by
    intro i p hi q1 q2 q3 q4 q5 q6 q7
    simp only [List.mem_cons, List.not_mem_nil, or_false] at hi
    rcases hi with rfl | rfl | rfl | rfl | rfl | rfl | rfl <;> assumption
  refine ⟨fun w => Later b w, c2R b ty sz Z R c mv e0 e1 al sto, Later.refl b, fun w w' hl h => h.trans hl, ?_, ?_, ?_, ?_, ?_, ?_⟩
  · intro i hi vals w w' hl
    refine split (p := fun i => c2R b ty sz Z R c mv e0 e1 al sto i vals w → c2R b ty sz Z R c mv e0 e1 al sto i vals w') hi ?_ ?_ ?_ ?_ ?_ ?_ ?_
    · rw [Rc, Rc]; rintro ⟨x, y, h1, h2⟩; exact ⟨x, y, h1, hst _ _ _ _ hl h2⟩
    · rw [Rm, Rm]; exact id
    · rw [R0, R0]; exact id
    · rw [R1, R1]; exact id
    · rw [Ra, Ra]; rintro ⟨g, cs, h1, h2, h3, h4, h5⟩; exact ⟨g, cs, h1, h2, h3, h4, h5.later hl⟩
    · rw [Ro, Ro]; rintro ⟨x, y, g, h1, h2, h3⟩; exact ⟨x, y, g, h1, h2, h3.later hl⟩
    · rw [Re, Re]; exact id
  · intro i hi k hk hne hdep vals v w
    have nd : ∀ {i x : Nat} {L : List Nat}, ([c, mv, e0, e1, al, sto, asg].filter fun k => dep .any ops i k) = L → x ∈ L → dep .any ops i k = false → x ≠ k := fun h hx hf e => by
      rw [← e, dep_of h hx] at hf; cases hf
    revert hdep hne
    refine split (p := fun i => k ≠ i → dep .any ops i k = false → c2R b ty sz Z R c mv e0 e1 al sto i vals w → c2R b ty sz Z R c mv e0 e1 al sto i (upd vals k v) w) hi ?_ ?_ ?_ ?_ ?_ ?_ ?_
    · intro hne hd; rw [Rc, Rc, upd_ne _ _ _ (Ne.symm hne)]; exact id
    · intro hne hd; rw [Rm, Rm, upd_ne _ _ _ (Ne.symm hne), upd_ne _ _ _ (nd D2 (by simp) hd)]; exact id
    · intro hne hd; rw [R0, R0, upd_ne _ _ _ (Ne.symm hne), upd_ne _ _ _ (nd D3 (by simp) hd)]; exact id
    · intro hne hd; rw [R1, R1, upd_ne _ _ _ (Ne.symm hne), upd_ne _ _ _ (nd D4 (by simp) hd)]; exact id
    · intro hne hd; rw [Ra, Ra, upd_ne _ _ _ (Ne.symm hne)]; exact id
    · intro hne hd
      have q1 : c ≠ k := nd D6 (by simp) hd
      have q2 : al ≠ k := nd D6 (by simp) hd
      rw [Ro, Ro, upd_ne _ _ _ q1, upd_ne _ _ _ q2]; exact id
    · intro hne hd
      have q1 : e1 ≠ k := nd D7 (by simp) hd
      rw [Re, Re, upd_ne _ _ _ (Ne.symm hne), upd_ne _ _ _ q1]; exact id
  · intro i hi hni vals w hw _
    revert hni
    refine split (p := fun i => i ∉ [sto] → (∀ k ∈ [c, mv, e0, e1, al, sto, asg], dep .any ops i k = true → c2R b ty sz Z R c mv e0 e1 al sto k vals w) → lVal P ops i (fun v w' => c2R b ty sz Z R c mv e0 e1 al sto i (upd vals i v) w') (putAll ops ([c, mv, e0, e1, al, sto, asg].filter fun k => dep .any ops i k) vals a) w) hi ?_ ?_ ?_ ?_ ?_ ?_ ?_
    · intro _ hk
      rw [D1]
      refine lVal_step hc fun K hK => ?_
      rw [if_pos (by simp [Region.wanted, gc])]
      show vUpon P w K ((execOp a.eval oc).run P w)
      rw [run_call f hp xs ts pc us hx]
      refine ⟨rfl, (hcall w hw).mono ?_⟩
      rintro e w' ⟨cells, ev, h1, h2, h3⟩
      refine ⟨_, h1, h2, hK _ _ ?_⟩
      rw [Rc]
      exact ⟨cells, ev, upd_same _ _ _, h3⟩
    · intro _ hk
      have hc' := hk c (by simp) (dep_of D2 (by simp))
      rw [D2]
      refine lVal_of_run hm gm (vals c) w (run_move _ pm _ ?_ w) (Later.refl w) ?_
      · simp only [putAll, List.foldl, sC]; exact put_eval zC
      · rw [Rm, upd_same, upd_ne _ _ _ n12]
    · intro _ hk
      have hc' := hk c (by simp) (dep_of D3 (by simp))
      have hm' := hk mv (by simp) (dep_of D3 (by simp))
      rw [Rc] at hc'
      rw [Rm] at hm'
      obtain ⟨cells, ev, h1, h2⟩ := hc'
      rw [D3]
      refine lVal_of_run h0 g0 (.agg cells.toArray) w (run_extract (a := putAll ops [c, mv] vals a) _ 0 p0 #[.agg cells.toArray, ev] _ ?_ rfl w) (Later.refl w) ?_
      · simp only [putAll, List.foldl, sC, sM]
        rw [put_eval (by rw [put_size]; exact zM), hm', h1]; rfl
      · rw [R0, upd_same, upd_ne _ _ _ n13]; exact ⟨cells, ev, h1, rfl⟩
    · intro _ hk
      have hc' := hk c (by simp) (dep_of D4 (by simp))
      have hm' := hk mv (by simp) (dep_of D4 (by simp))
      rw [Rc] at hc'
      rw [Rm] at hm'
      obtain ⟨cells, ev, h1', h2⟩ := hc'
      rw [D4]
      refine lVal_of_run h1 g1 ev w (run_extract (a := putAll ops [c, mv] vals a) _ 1 p1 #[.agg cells.toArray, ev] _ ?_ rfl w) (Later.refl w) ?_
      · simp only [putAll, List.foldl, sC, sM]
        rw [put_eval (by rw [put_size]; exact zM), hm', h1']; rfl
      · rw [R1, upd_same, upd_ne _ _ _ n14]; exact ⟨cells, ev, h1', rfl⟩
    · intro _ hk
      rw [D5]
      refine lVal_of_run ha ga (ptr w.heap.size) _ (run_alloc ty pa z sz hz w) ((Later.refl w).alloc _) ?_
      rw [Ra]
      exact ⟨w.heap.size, z.toList, upd_same _ _ _, hw.size, by simpa using hzs, hZ, Box.new w ty z⟩
    · intro h; exact absurd (by simp) h
    · intro _ hk
      have h1' := hk e1 (by simp) (dep_of D7 (by simp))
      rw [D7]
      refine lVal_of_run he ge (vals e1) w (run_assign _ pe _ ?_ w) (Later.refl w) ?_
      · simp only [putAll, List.foldl, sC, sM, s0, s1, sA, sO]
        show (Act.put (Act.put (Act.put (Act.put (Act.put a (some dC) (vals c)) (some dM) (vals mv)) (some d0) (vals e0)) (some d1) (vals e1)) (some dA) (vals al)).eval (.tmp d1) = vals e1
        rw [eval_put_ne m45, put_eval (by simp only [put_size]; exact z1)]
      · rw [Re, upd_same, upd_ne _ _ _ n47]
  · intro i hi hni vals w hw _
    have : i = sto := by simpa using hni
    subst this
    intro hk
    have hc' := hk c (by simp) (dep_of D6 (by simp))
    have h0' := hk e0 (by simp) (dep_of D6 (by simp))
    have ha' := hk al (by simp) (dep_of D6 (by simp))
    rw [Rc] at hc'
    rw [R0] at h0'
    rw [Ra] at ha'
    obtain ⟨cells, ev, q1, q2⟩ := hc'
    obtain ⟨cells', ev', q3, q4⟩ := h0'
    obtain ⟨rfl, rfl⟩ := tup_inj (q1.symm.trans q3)
    obtain ⟨g, cs, q5, q6, q7, q8, q9⟩ := ha'
    obtain ⟨r1, r2, r3⟩ := hR _ _ _ q2
    have hBx : Box (w.setCells g 0 cells) g ty cells := by
      have := q9.setCells cells 0 (by omega)
      rw [List.take_zero, List.nil_append, List.drop_of_length_le (by omega), List.append_nil] at this
      exact this
    have hrun := run_storeAt_mid (P := P) w g 0 ty cells.toArray (by simpa using q9.there 0 cells.length (by omega)) (by have := (zero_of_info hz).2; rw [this]; simp [r2]) (all_oneCell_toArray r3)
    rw [D6]
    unfold sVal
    simp only [ho]
    rw [if_pos (by simp [Region.wanted, go])]
    have ev1 : (putAll ops [c, mv, e0, al] vals a).eval (.tmp dA) = .pointer (some ⟨g, 0, none⟩) := by
      simp only [putAll, List.foldl, sC, sM, s0, sA]
      rw [put_eval (by simp only [put_size]; exact zA), q5]; rfl
    have ev2 : (putAll ops [c, mv, e0, al] vals a).eval (.tmp d0) = .agg cells.toArray := by
      simp only [putAll, List.foldl, sC, sM, s0, sA]
      rw [eval_put_ne m35, put_eval (by simp only [put_size]; exact z0), q4]
    have hex : sUpon (fun v w' => Later b w' ∧ c2R b ty sz Z R c mv e0 e1 al i i (upd vals i v) w' ∧ ∀ k ∈ [c, mv, e0, e1, al, i, asg], dep .any ops i k = true → c2R b ty sz Z R c mv e0 e1 al i k vals w') ((execOp (putAll ops [c, mv, e0, al] vals a).eval os).run P w) := by
      simp [execOp, po, ev1, ev2, hrun, Result.andThen, sUpon]
      refine ⟨hw.setCells q6 cells 0, ?_, ?_⟩
      · rw [Ro, upd_ne _ _ _ n16, upd_ne _ _ _ n56]
        exact ⟨cells, ev, g, q1, q5, hBx⟩
      · refine ⟨fun _ => ?_, fun _ => ?_, fun _ => ?_, fun h => ?_, fun _ => ?_, fun h => ?_, fun h => ?_⟩
        · rw [Rc]; exact ⟨cells, ev, q1, hso _ _ _ _ _ q2 q6 q8 q7 q9⟩
        · have := hk mv (by simp) (dep_of D6 (by simp)); rw [Rm] at this ⊢; exact this
        · rw [R0]; exact ⟨cells, ev, q1, q4⟩
        · have := dep_in D6 (by simp) h
          simp at this
          rcases this with e | e | e | e
          · exact absurd e.symm n14
          · exact absurd e.symm n24
          · exact absurd e.symm n34
          · exact absurd e n45
        · rw [Ra]; exact ⟨g, cells, q5, q6, r2, r1, hBx⟩
        · have := dep_in D6 (by simp) h
          simp at this
          rcases this with e | e | e | e
          · exact absurd e.symm n16
          · exact absurd e.symm n26
          · exact absurd e.symm n36
          · exact absurd e.symm n56
        · have := dep_in D6 (by simp) h
          simp at this
          rcases this with e | e | e | e
          · exact absurd e.symm n17
          · exact absurd e.symm n27
          · exact absurd e.symm n37
          · exact absurd e.symm n57
    exact hex
  · intro i hi hni k hk hne hd1 hd2 vals w w'
    have : i = sto := by simpa using hni
    subst this
    revert hne hd1 hd2
    refine split (p := fun k => k ≠ i → dep .any ops i k = false → dep .any ops k i = false → c2R b ty sz Z R c mv e0 e1 al i k vals w → c2R b ty sz Z R c mv e0 e1 al i k vals w') hk ?_ ?_ ?_ ?_ ?_ ?_ ?_
    · intro _ h; rw [dep_of D6 (by simp)] at h; cases h
    · intro _ h; rw [dep_of D6 (by simp)] at h; cases h
    · intro _ h; rw [dep_of D6 (by simp)] at h; cases h
    · intro _ _ _; rw [R1, R1]; exact id
    · intro _ h; rw [dep_of D6 (by simp)] at h; cases h
    · intro h; exact absurd rfl h
    · intro _ _ h; rw [dep_of D7 (by simp)] at h; cases h
  · intro vals w hw hall
    have k1 := hall c (by simp)
    have k2 := hall mv (by simp)
    have k3 := hall e0 (by simp)
    have k4 := hall e1 (by simp)
    have k5 := hall al (by simp)
    have k6 := hall sto (by simp)
    have k7 := hall asg (by simp)
    rw [Rc] at k1
    rw [Rm] at k2
    rw [R0] at k3
    rw [R1] at k4
    rw [Ra] at k5
    rw [Ro] at k6
    rw [Re] at k7
    obtain ⟨cells, ev, q1, q2⟩ := k1
    obtain ⟨x3, y3, q3, r3⟩ := k3
    obtain ⟨rfl, rfl⟩ := tup_inj (q1.symm.trans q3)
    obtain ⟨x4, y4, q4, r4⟩ := k4
    obtain ⟨rfl, rfl⟩ := tup_inj (q1.symm.trans q4)
    obtain ⟨g, cs, q5, q6, _⟩ := k5
    obtain ⟨x6, y6, g6, q7, q8, q9⟩ := k6
    obtain ⟨rfl, rfl⟩ := tup_inj (q1.symm.trans q7)
    obtain rfl := ptr_inj (q5.symm.trans q8)
    have := hfin cells ev g w hw q6 q2 q9
    simp only [putAll, List.foldl, sC, sM, s0, s1, sA, sO, sE]
    rw [k7, k2, q1, r3, r4, q5]
    exact this

/-! 'x, e = F(..)', x a struct that is there already. -/
def c3R (g : Nat) (ty : TypeId) (R : List Value → Value → World → Prop) (c mv e0 e1 sto : Nat) : Nat → (Nat → Value) → World → Prop := fun i vals W =>
  if i = c then ∃ cells ev, vals c = tup cells ev ∧ R cells ev W
  else if i = mv then vals mv = vals c
  else if i = e0 then ∃ cells ev, vals c = tup cells ev ∧ vals e0 = .agg cells.toArray
  else if i = e1 then ∃ cells ev, vals c = tup cells ev ∧ vals e1 = ev
  else if i = sto then ∃ cells ev, vals c = tup cells ev ∧ Box W g ty cells
  else vals i = vals e1
set_option maxHeartbeats 1000000 in
theorem call3_bag {P : Program} {ops : Array Oper} {Q : Exit → Act → World → Prop} {a : Act} {b : World} (c mv e0 e1 sto asg : Nat) {oc om o0 o1 os oe : Oper}
    (hc : ops[c]? = some oc) (hm : ops[mv]? = some om) (h0 : ops[e0]? = some o0) (h1 : ops[e1]? = some o1) (ho : ops[sto]? = some os) (he : ops[asg]? = some oe)
    (gc : oc.guard = none) (gm : om.guard = none) (g0 : o0.guard = none) (g1 : o1.guard = none) (go : os.guard = none) (ge : oe.guard = none)
    (dC dM d0 d1 dA dE : Tmp) (tc : oc.dst = some dC) (tm : om.dst = some dM) (t0 : o0.dst = some d0) (t1 : o1.dst = some d1) (to : os.dst = none) (te : oe.dst = some dE)
    (hsz : (decide (dC < a.tmps.size) && decide (dM < a.tmps.size) && decide (d0 < a.tmps.size) && decide (d1 < a.tmps.size) && decide (dE < a.tmps.size)) = true) (hdd : [dC, dM, d0, d1, dA, dE].Nodup)
    (f : FuncId) (hp : Plain P f) (xs : List Operand) (ts : Array TypeId) (pc : oc.op = .call { callee := .value (.func f), args := xs.toArray, argTypes := ts }) (us : List Value) (hx : xs.map a.eval = us)
    (pm : om.op = .move (.tmp dC)) (p0 : o0.op = .extract (.tmp dM) 0) (p1 : o1.op = .extract (.tmp dM) 1) (ty : TypeId) (po : os.op = .store ty (.tmp dA) (.tmp d0)) (pe : oe.op = .assign (.tmp d1))
    (g : Nat) (hA : a.eval (.tmp dA) = ptr g) (cs : List Value) (sz : Nat) (hinf : (P.info? ty).map (·.size) = some sz) (hcs : cs.length = sz) (hB : Box b g ty cs)
    (hnd : [c, mv, e0, e1, sto, asg].Nodup)
    (D1 : ([c, mv, e0, e1, sto, asg].filter fun k => dep .any ops c k) = []) (D2 : ([c, mv, e0, e1, sto, asg].filter fun k => dep .any ops mv k) = [c]) (D3 : ([c, mv, e0, e1, sto, asg].filter fun k => dep .any ops e0 k) = [c, mv])
    (D4 : ([c, mv, e0, e1, sto, asg].filter fun k => dep .any ops e1 k) = [c, mv]) (D6 : ([c, mv, e0, e1, sto, asg].filter fun k => dep .any ops sto k) = [c, mv, e0])
    (D7 : ([c, mv, e0, e1, sto, asg].filter fun k => dep .any ops asg k) = [c, mv, e0, e1, sto])
    (R : List Value → Value → World → Prop) (hR : ∀ cells ev W, R cells ev W → cells.length = sz ∧ ∀ v ∈ cells, v.oneCell' = true)
    (hst : ∀ cells ev W W', Later W W' → R cells ev W → R cells ev W') (hso : ∀ cells ev W, R cells ev W → Box W g ty cs → R cells ev (W.setCells g 0 cells))
    (L : World → Prop) (hL : L b) (hLn : ∀ w w', Later w w' → L w → L w') (hLs : ∀ cells ev W, R cells ev W → Later b W → L W → Box W g ty cs → L (W.setCells g 0 cells))
    (hcall : ∀ w, Later b w → Calls P f us.toArray w fun e w' => ∃ cells ev, e = .returned (tup cells ev) ∧ Later w w' ∧ R cells ev w')
    (hfin : ∀ cells ev W, L W → R cells ev W → Box W g ty cells → Q .normal (((((a.put (some dC) (tup cells ev)).put (some dM) (tup cells ev)).put (some d0) (.agg cells.toArray)).put (some d1) ev).put (some dE) ev) W) :
    ∃ L R', Bag2 P ops Q [sto] [c, mv, e0, e1, sto, asg] a b L R' := by
  simp only [Bool.and_eq_true, decide_eq_true_eq] at hsz
  obtain ⟨⟨⟨⟨zC, zM⟩, z0⟩, z1⟩, zE⟩ := hsz
  simp only [List.nodup_cons, List.mem_cons, List.not_mem_nil, or_false, not_or, List.nodup_nil, and_true, not_false_eq_true] at hnd hdd
  obtain ⟨⟨n12, n13, n14, n16, n17⟩, ⟨n23, n24, n26, n27⟩, ⟨n34, n36, n37⟩, ⟨n46, n47⟩, n67⟩ := hnd
  obtain ⟨⟨m12, m13, m14, m15, m16⟩, ⟨m23, m24, m25, m26⟩, ⟨m34, m35, m36⟩, ⟨m45, m46⟩, m56⟩ := hdd
  have Rc : ∀ vals W, c3R g ty R c mv e0 e1 sto c vals W = ∃ cells ev, vals c = tup cells ev ∧ R cells ev W := fun vals W => by simp [c3R]
  have Rm : ∀ vals W, c3R g ty R c mv e0 e1 sto mv vals W = (vals mv = vals c) := fun vals W => by
    unfold c3R; rw [if_neg (Ne.symm n12), if_pos rfl]
  have R0 : ∀ vals W, c3R g ty R c mv e0 e1 sto e0 vals W = ∃ cells ev, vals c = tup cells ev ∧ vals e0 = .agg cells.toArray := fun vals W => by
    unfold c3R; rw [if_neg (Ne.symm n13), if_neg (Ne.symm n23), if_pos rfl]
  have R1 : ∀ vals W, c3R g ty R c mv e0 e1 sto e1 vals W = ∃ cells ev, vals c = tup cells ev ∧ vals e1 = ev := fun vals W => by
    unfold c3R; rw [if_neg (Ne.symm n14), if_neg (Ne.symm n24), if_neg (Ne.symm n34), if_pos rfl]
  have Ro : ∀ vals W, c3R g ty R c mv e0 e1 sto sto vals W = ∃ cells ev, vals c = tup cells ev ∧ Box W g ty cells := fun vals W => by
    unfold c3R; rw [if_neg (Ne.symm n16), if_neg (Ne.symm n26), if_neg (Ne.symm n36), if_neg (Ne.symm n46), if_pos rfl]
  have Re : ∀ vals W, c3R g ty R c mv e0 e1 sto asg vals W = (vals asg = vals e1) := fun vals W => by
    unfold c3R; rw [if_neg (Ne.symm n17), if_neg (Ne.symm n27), if_neg (Ne.symm n37), if_neg (Ne.symm n47), if_neg (Ne.symm n67)]
  have sC := dstOf_of hc tc
  have sM := dstOf_of hm tm
  have s0 := dstOf_of h0 t0
  have s1 := dstOf_of h1 t1
  have sO := dstOf_of ho to
  have sE := dstOf_of he te
  have split : ∀ {i : Nat} {p : Nat → Prop}, i ∈ [c, mv, e0, e1, sto, asg] → p c → p mv → p e0 → p e1 → p sto → p asg → p i := by
    intro i p hi q1 q2 q3 q4 q6 q7
    simp only [List.mem_cons, List.not_mem_nil, or_false] at hi
    rcases hi with rfl | rfl | rfl | rfl | rfl | rfl <;> assumption
  refine ⟨L, c3R g ty R c mv e0 e1 sto, hL, hLn, ?_, ?_, ?_, ?_, ?_, ?_⟩
  · intro i hi vals w w' hl
    refine split (p := fun i => c3R g ty R c mv e0 e1 sto i vals w → c3R g ty R c mv e0 e1 sto i vals w') hi ?_ ?_ ?_ ?_ ?_ ?_
    · rw [Rc, Rc]; rintro ⟨x, y, h1, h2⟩; exact ⟨x, y, h1, hst _ _ _ _ hl h2⟩
    · rw [Rm, Rm]; exact id
    · rw [R0, R0]; exact id
    · rw [R1, R1]; exact id
    · rw [Ro, Ro]; rintro ⟨x, y, h1, h3⟩; exact ⟨x, y, h1, h3.later hl⟩
    · rw [Re, Re]; exact id
  · intro i hi k hk hne hdep vals v w
    have nd : ∀ {i x : Nat} {L : List Nat}, ([c, mv, e0, e1, sto, asg].filter fun k => dep .any ops i k) = L → x ∈ L → dep .any ops i k = false → x ≠ k := fun h hx hf e => by
      rw [← e, dep_of h hx] at hf; cases hf
    revert hdep hne
    refine split (p := fun i => k ≠ i → dep .any ops i k = false → c3R g ty R c mv e0 e1 sto i vals w → c3R g ty R c mv e0 e1 sto i (upd vals k v) w) hi ?_ ?_ ?_ ?_ ?_ ?_
    · intro hne hd; rw [Rc, Rc, upd_ne _ _ _ (Ne.symm hne)]; exact id
    · intro hne hd; rw [Rm, Rm, upd_ne _ _ _ (Ne.symm hne), upd_ne _ _ _ (nd D2 (by simp) hd)]; exact id
    · intro hne hd; rw [R0, R0, upd_ne _ _ _ (Ne.symm hne), upd_ne _ _ _ (nd D3 (by simp) hd)]; exact id
    · intro hne hd; rw [R1, R1, upd_ne _ _ _ (Ne.symm hne), upd_ne _ _ _ (nd D4 (by simp) hd)]; exact id
    · intro hne hd; rw [Ro, Ro, upd_ne _ _ _ (nd D6 (by simp) hd)]; exact id
    · intro hne hd
      have q1 : e1 ≠ k := nd D7 (by simp) hd
      rw [Re, Re, upd_ne _ _ _ (Ne.symm hne), upd_ne _ _ _ q1]; exact id
  · intro i hi hni vals w hw
    revert hni
    refine split (p := fun i => i ∉ [sto] → ((∀ s ∈ [sto], dep .any ops s i = true) → Later b w) → (∀ k ∈ [c, mv, e0, e1, sto, asg], dep .any ops i k = true → c3R g ty R c mv e0 e1 sto k vals w) → lVal P ops i (fun v w' => c3R g ty R c mv e0 e1 sto i (upd vals i v) w') (putAll ops ([c, mv, e0, e1, sto, asg].filter fun k => dep .any ops i k) vals a) w) hi ?_ ?_ ?_ ?_ ?_ ?_
    · intro _ hlb hk
      rw [D1]
      refine lVal_step hc fun K hK => ?_
      rw [if_pos (by simp [Region.wanted, gc])]
      show vUpon P w K ((execOp a.eval oc).run P w)
      rw [run_call f hp xs ts pc us hx]
      refine ⟨rfl, (hcall w (hlb (by simpa using dep_of D6 (by simp)))).mono ?_⟩
      rintro e w' ⟨cells, ev, h1, h2, h3⟩
      refine ⟨_, h1, h2, hK _ _ ?_⟩
      rw [Rc]
      exact ⟨cells, ev, upd_same _ _ _, h3⟩
    · intro _ _ hk
      rw [D2]
      refine lVal_of_run hm gm (vals c) w (run_move _ pm _ ?_ w) (Later.refl w) ?_
      · simp only [putAll, List.foldl, sC]; exact put_eval zC
      · rw [Rm, upd_same, upd_ne _ _ _ n12]
    · intro _ _ hk
      have hc' := hk c (by simp) (dep_of D3 (by simp))
      have hm' := hk mv (by simp) (dep_of D3 (by simp))
      rw [Rc] at hc'
      rw [Rm] at hm'
      obtain ⟨cells, ev, h1, h2⟩ := hc'
      rw [D3]
      refine lVal_of_run h0 g0 (.agg cells.toArray) w (run_extract (a := putAll ops [c, mv] vals a) _ 0 p0 #[.agg cells.toArray, ev] _ ?_ rfl w) (Later.refl w) ?_
      · simp only [putAll, List.foldl, sC, sM]
        rw [put_eval (by rw [put_size]; exact zM), hm', h1]; rfl
      · rw [R0, upd_same, upd_ne _ _ _ n13]; exact ⟨cells, ev, h1, rfl⟩
    · intro _ _ hk
      have hc' := hk c (by simp) (dep_of D4 (by simp))
      have hm' := hk mv (by simp) (dep_of D4 (by simp))
      rw [Rc] at hc'
      rw [Rm] at hm'
      obtain ⟨cells, ev, h1', h2⟩ := hc'
      rw [D4]
      refine lVal_of_run h1 g1 ev w (run_extract (a := putAll ops [c, mv] vals a) _ 1 p1 #[.agg cells.toArray, ev] _ ?_ rfl w) (Later.refl w) ?_
      · simp only [putAll, List.foldl, sC, sM]
        rw [put_eval (by rw [put_size]; exact zM), hm', h1']; rfl
      · rw [R1, upd_same, upd_ne _ _ _ n14]; exact ⟨cells, ev, h1', rfl⟩
    · intro h; exact absurd (by simp) h
    · intro _ _ hk
      rw [D7]
      refine lVal_of_run he ge (vals e1) w (run_assign _ pe _ ?_ w) (Later.refl w) ?_
      · simp only [putAll, List.foldl, sC, sM, s0, s1, sO]
        show (Act.put (Act.put (Act.put (Act.put a (some dC) (vals c)) (some dM) (vals mv)) (some d0) (vals e0)) (some d1) (vals e1)).eval (.tmp d1) = vals e1
        rw [put_eval (by simp only [put_size]; exact z1)]
      · rw [Re, upd_same, upd_ne _ _ _ n47]
  · intro i hi hni vals w hw hlb
    have : i = sto := by simpa using hni
    subst this
    intro hk
    have hlb' := hlb (by simp)
    have hc' := hk c (by simp) (dep_of D6 (by simp))
    have h0' := hk e0 (by simp) (dep_of D6 (by simp))
    rw [Rc] at hc'
    rw [R0] at h0'
    obtain ⟨cells, ev, q1, q2⟩ := hc'
    obtain ⟨cells', ev', q3, q4⟩ := h0'
    obtain ⟨rfl, rfl⟩ := tup_inj (q1.symm.trans q3)
    obtain ⟨r2, r3⟩ := hR _ _ _ q2
    have q9 : Box w g ty cs := hB.later hlb'
    have hBx : Box (w.setCells g 0 cells) g ty cells := by
      have := q9.setCells cells 0 (by omega)
      rw [List.take_zero, List.nil_append, List.drop_of_length_le (by omega), List.append_nil] at this
      exact this
    have hrun := run_storeAt_mid (P := P) w g 0 ty cells.toArray (by simpa using q9.there 0 cells.length (by omega)) (by rw [hinf]; simp [r2]) (all_oneCell_toArray r3)
    rw [D6]
    unfold sVal
    simp only [ho]
    rw [if_pos (by simp [Region.wanted, go])]
    have ev1 : (putAll ops [c, mv, e0] vals a).eval (.tmp dA) = .pointer (some ⟨g, 0, none⟩) := by
      simp only [putAll, List.foldl, sC, sM, s0]
      rw [eval_put_ne (Ne.symm m35), eval_put_ne (Ne.symm m25), eval_put_ne (Ne.symm m15), hA]; rfl
    have ev2 : (putAll ops [c, mv, e0] vals a).eval (.tmp d0) = .agg cells.toArray := by
      simp only [putAll, List.foldl, sC, sM, s0]
      rw [put_eval (by simp only [put_size]; exact z0), q4]
    have hex : sUpon (fun v w' => L w' ∧ c3R g ty R c mv e0 e1 i i (upd vals i v) w' ∧ ∀ k ∈ [c, mv, e0, e1, i, asg], dep .any ops i k = true → c3R g ty R c mv e0 e1 i k vals w') ((execOp (putAll ops [c, mv, e0] vals a).eval os).run P w) := by
      simp [execOp, po, ev1, ev2, hrun, Result.andThen, sUpon]
      refine ⟨hLs _ _ _ q2 hlb' hw q9, ?_, ?_⟩
      · rw [Ro, upd_ne _ _ _ n16]
        exact ⟨cells, ev, q1, hBx⟩
      · refine ⟨fun _ => ?_, fun _ => ?_, fun _ => ?_, fun h => ?_, fun h => ?_, fun h => ?_⟩
        · rw [Rc]; exact ⟨cells, ev, q1, hso _ _ _ q2 q9⟩
        · have := hk mv (by simp) (dep_of D6 (by simp)); rw [Rm] at this ⊢; exact this
        · rw [R0]; exact ⟨cells, ev, q1, q4⟩
        · have := dep_in D6 (by simp) h
          simp at this
          rcases this with e | e | e
          · exact absurd e.symm n14
          · exact absurd e.symm n24
          · exact absurd e.symm n34
        · have := dep_in D6 (by simp) h
          simp at this
          rcases this with e | e | e
          · exact absurd e.symm n16
          · exact absurd e.symm n26
          · exact absurd e.symm n36
        · have := dep_in D6 (by simp) h
          simp at this
          rcases this with e | e | e
          · exact absurd e.symm n17
          · exact absurd e.symm n27
          · exact absurd e.symm n37
    exact hex
  · intro i hi hni k hk hne hd1 hd2 vals w w'
    have : i = sto := by simpa using hni
    subst this
    revert hne hd1 hd2
    refine split (p := fun k => k ≠ i → dep .any ops i k = false → dep .any ops k i = false → c3R g ty R c mv e0 e1 i k vals w → c3R g ty R c mv e0 e1 i k vals w') hk ?_ ?_ ?_ ?_ ?_ ?_
    · intro _ h; rw [dep_of D6 (by simp)] at h; cases h
    · intro _ h; rw [dep_of D6 (by simp)] at h; cases h
    · intro _ h; rw [dep_of D6 (by simp)] at h; cases h
    · intro _ _ _; rw [R1, R1]; exact id
    · intro h; exact absurd rfl h
    · intro _ _ h; rw [dep_of D7 (by simp)] at h; cases h
  · intro vals w hw hall
    have k1 := hall c (by simp)
    have k2 := hall mv (by simp)
    have k3 := hall e0 (by simp)
    have k4 := hall e1 (by simp)
    have k6 := hall sto (by simp)
    have k7 := hall asg (by simp)
    rw [Rc] at k1
    rw [Rm] at k2
    rw [R0] at k3
    rw [R1] at k4
    rw [Ro] at k6
    rw [Re] at k7
    obtain ⟨cells, ev, q1, q2⟩ := k1
    obtain ⟨x3, y3, q3, r3⟩ := k3
    obtain ⟨rfl, rfl⟩ := tup_inj (q1.symm.trans q3)
    obtain ⟨x4, y4, q4, r4⟩ := k4
    obtain ⟨rfl, rfl⟩ := tup_inj (q1.symm.trans q4)
    obtain ⟨x6, y6, q7, q9⟩ := k6
    obtain ⟨rfl, rfl⟩ := tup_inj (q1.symm.trans q7)
    have := hfin cells ev w hw q2 q9
    simp only [putAll, List.foldl, sC, sM, s0, s1, sO, sE]
    rw [k7, k2, q1, r3, r4]
    exact this
end Go.Proofs.Ytoflkbilkkfekaa

namespace Go.Proofs.Ytoflkbilkkfekaa
open Go.ChangeShapes Go.WideShapes Go.ChangeAt Go.RowKit
set_option linter.unusedVariables false
set_option linter.unusedSimpArgs false

/-! 'x, y := f(..)' with structs; a sense's variable lies apart from a medium. -/
theorem put_none (a : Act) (v : Value) : a.put none v = a := rfl
theorem eval_put_other {a : Act} {d : Tmp} {v : Value} {y : Operand} (h : y ≠ .tmp d) : (a.put (some d) v).eval y = a.eval y :=
  Act.eval_put fun t ht e => h (by rw [e]; cases ht; rfl)
theorem wpList_alloc1 {P : Program} {w : World} {ops : Array Oper} {rest : List Oper} {o : Oper} {a : Act} {Q : Exit → Act → World → Prop} (hg : o.guard = none) (ty : TypeId) (h1 : o.op = .alloc ty) (z : Array Value) (n : Nat) (hz : (P.info? ty).map (fun i => (i.zero, i.size)) = some (some (.agg z), n))
    (h : wpList P ops Q rest (a.put o.dst (.pointer (some ⟨w.heap.size, 0, none⟩))) (w.alloc (.cells z ty))) : wpList P ops Q (o :: rest) a w := by
  refine wpList_plain hg fun K hK => ?_
  unfold Go.Oper.wp
  rw [run_alloc ty h1 z n hz w]
  exact hK _ _ h
/-- 'x, y := f(..)', both structs: two variables of their own -/
theorem wpList_new2 {P : Program} {w : World} {ops : Array Oper} {rest : List Oper} {o1 o2 o3 o4 : Oper} {a : Act} {Q : Exit → Act → World → Prop} (hg1 : o1.guard = none) (hg2 : o2.guard = none) (hg3 : o3.guard = none) (hg4 : o4.guard = none)
    (t1 t2 : TypeId) (h1 : o1.op = .alloc t1) (h2 : o2.op = .alloc t2) (d1 d2 : Tmp) (hd1 : o1.dst = some d1) (hd2 : o2.dst = some d2) (hs1 : d1 < a.tmps.size) (hs2 : d2 < a.tmps.size) (hne : d1 ≠ d2) (y1 y2 : Operand) (hy1 : y1 ≠ .tmp d1) (hy1' : y1 ≠ .tmp d2) (hy2 : y2 ≠ .tmp d1) (hy2' : y2 ≠ .tmp d2)
    (h3 : o3.op = .store t1 (.tmp d1) y1) (h4 : o4.op = .store t2 (.tmp d2) y2) (hd3 : o3.dst = none) (hd4 : o4.dst = none) (z1 z2 : Array Value) (c1 c2 : List Value)
    (hz1 : (P.info? t1).map (fun i => (i.zero, i.size)) = some (some (.agg z1), c1.length)) (hzs1 : z1.size = c1.length) (hz2 : (P.info? t2).map (fun i => (i.zero, i.size)) = some (some (.agg z2), c2.length)) (hzs2 : z2.size = c2.length)
    (e1 : a.eval y1 = .agg c1.toArray) (e2 : a.eval y2 = .agg c2.toArray) (k1 : ∀ v ∈ c1, v.oneCell' = true) (k2 : ∀ v ∈ c2, v.oneCell' = true)
    (h : ∀ (g1 g2 : Nat) (w' : World), Box w' g1 t1 c1 → Box w' g2 t2 c2 → Later w w' → Hid (g1 = w.heap.size ∧ g2 = w.heap.size + 1) → wpList P ops Q rest ((a.put (some d1) (.pointer (some ⟨g1, 0, none⟩))).put (some d2) (.pointer (some ⟨g2, 0, none⟩))) w') : wpList P ops Q (o1 :: o2 :: o3 :: o4 :: rest) a w := by
  refine wpList_alloc1 hg1 t1 h1 z1 _ hz1 ?_
  refine wpList_alloc1 hg2 t2 h2 z2 _ hz2 ?_
  rw [hd1, hd2]
  have hsz : (w.alloc (.cells z1 t1)).heap.size = w.heap.size + 1 := by simp
  rw [hsz]
  have B1 : Box ((w.alloc (.cells z1 t1)).alloc (.cells z2 t2)) w.heap.size t1 z1.toList := (Box.new w t1 z1).alloc _
  have B2 : Box ((w.alloc (.cells z1 t1)).alloc (.cells z2 t2)) (w.heap.size + 1) t2 z2.toList := Box.new' _ _ _ _ rfl _ hsz.symm
  have LL : Later w ((w.alloc (.cells z1 t1)).alloc (.cells z2 t2)) := ((Later.refl w).alloc _).alloc _
  generalize ((w.alloc (.cells z1 t1)).alloc (.cells z2 t2)) = w2 at *
  refine wpList_storeT hg3 t1 (.tmp d1) y1 h3 w.heap.size 0 ?_ c1 ?_ (zero_of_info hz1).2 k1 t1 _ B1 (by simp [hzs1]) ?_
  · rw [eval_put_other (by intro e; cases e; exact hne rfl), put_eval hs1]
  · rw [eval_put_other hy1', eval_put_other hy1, e1]
  intro w3 hw3
  have C1 := B1.all c1 (by simp [hzs1])
  have C2 : Box (w2.setCells w.heap.size 0 c1) (w.heap.size + 1) t2 z2.toList := B2.kept (heap_setCells_other w2 _ _ (by omega) _ _)
  have L3 := LL.setCells (g := w.heap.size) (Nat.le_refl _) c1 0
  rw [← hw3.out] at C1 C2 L3
  rw [hd3, put_none]
  refine wpList_storeT hg4 t2 (.tmp d2) y2 h4 (w.heap.size + 1) 0 ?_ c2 ?_ (zero_of_info hz2).2 k2 t2 _ C2 (by simp [hzs2]) ?_
  · rw [put_eval (by rw [put_size]; exact hs2)]
  · rw [eval_put_other hy2', eval_put_other hy2, e2]
  intro w4 hw4
  have E2 := C2.all c2 (by simp [hzs2])
  have E1 : Box (w3.setCells (w.heap.size + 1) 0 c2) w.heap.size t1 c1 := C1.kept (heap_setCells_other w3 _ _ (by omega) _ _)
  have L4 := L3.setCells (g := w.heap.size + 1) (by omega) c2 0
  rw [← hw4.out] at E1 E2 L4
  rw [hd4, put_none]
  exact h _ _ _ E1 E2 L4 ⟨rfl, rfl⟩
/-- 'x, y := f(..)', y alone a struct: the variable is made, x is set, then y is stored -/
theorem wpList_newA {P : Program} {w : World} {ops : Array Oper} {rest : List Oper} {o1 o2 o3 : Oper} {a : Act} {Q : Exit → Act → World → Prop} (hg1 : o1.guard = none) (hg2 : o2.guard = none) (hg3 : o3.guard = none)
    (t : TypeId) (h1 : o1.op = .alloc t) (d d2 : Tmp) (hd1 : o1.dst = some d) (hd2 : o2.dst = some d2) (hs1 : d < a.tmps.size) (hne : d ≠ d2) (x y : Operand) (hx : x ≠ .tmp d) (hy : y ≠ .tmp d) (hy' : y ≠ .tmp d2)
    (h2 : o2.op = .assign x) (h3 : o3.op = .store t (.tmp d) y) (hd3 : o3.dst = none) (z : Array Value) (c : List Value) (xv : Value)
    (hz : (P.info? t).map (fun i => (i.zero, i.size)) = some (some (.agg z), c.length)) (hzs : z.size = c.length) (ex : a.eval x = xv) (e : a.eval y = .agg c.toArray) (k : ∀ v ∈ c, v.oneCell' = true)
    (h : ∀ (g : Nat) (w' : World), Box w' g t c → Later w w' → Hid (g = w.heap.size) → wpList P ops Q rest ((a.put (some d) (.pointer (some ⟨g, 0, none⟩))).put (some d2) xv) w') : wpList P ops Q (o1 :: o2 :: o3 :: rest) a w := by
  refine wpList_alloc1 hg1 t h1 z _ hz ?_
  rw [hd1]
  refine wpList_plain hg2 fun K hK => ?_
  unfold Go.Oper.wp
  rw [run_assign x h2 xv (by rw [eval_put_other hx, ex])]
  refine hK _ _ ?_
  rw [hd2]
  have B1 : Box (w.alloc (.cells z t)) w.heap.size t z.toList := Box.new w t z
  have LL : Later w (w.alloc (.cells z t)) := (Later.refl w).alloc _
  generalize (w.alloc (.cells z t)) = w2 at *
  refine wpList_storeT hg3 t (.tmp d) y h3 w.heap.size 0 ?_ c ?_ (zero_of_info hz).2 k t _ B1 (by simp [hzs]) ?_
  · rw [eval_put_other (by intro e; cases e; exact hne rfl), put_eval hs1]
  · rw [eval_put_other hy', eval_put_other hy, e]
  intro w3 hw3
  have C1 := B1.all c (by simp [hzs])
  have L3 := LL.setCells (g := w.heap.size) (Nat.le_refl _) c 0
  rw [← hw3.out] at C1 L3
  rw [hd3, put_none]
  exact h _ _ C1 L3 rfl
/-- a medium's rows lie in no sense -/
theorem Rw.setApart {sz : Nat} {w : World} {v : Value} {n : Nat} {xs : List Value} {g : Nat} {ty : TypeId} {cs : List Value} (h : Rw sz w v n xs) (j : Nat) (hB : Box w g ty cs) (hc : 0 < n → ∃ u, xs[j]? = some u ∧ u ∉ cs) (vs : List Value) (o : Nat) : Rw sz (w.setCells g o vs) v n xs := by
  obtain ⟨h1, h2, a, cap, rfl, hcap, h3⟩ := h
  refine ⟨h1, h2, a, cap, rfl, hcap, ?_⟩
  by_cases hn : n = 0
  · exact .inl hn
  rcases h3 with h3 | ⟨b, off, rfl, hr⟩
  · exact .inl h3
  · refine .inr ⟨b, off, rfl, ?_⟩
    obtain ⟨u, hu, hnu⟩ := hc (by omega)
    have hne : b ≠ g := fun e => by
      subst e
      have h4 := hr j u hu
      rw [hB.cell] at h4
      exact hnu (List.mem_of_getElem? h4)
    intro j u hu
    rw [← hr j u hu]
    simp only [World.cell?, heap_setCells_other w g b hne]
theorem Med.setSense {w : World} {v : Value} {n : Nat} {F : List UInt8} {D : List Drt} {g : Nat} {ty : TypeId} {s : Sns} (h : Med w v n F D) (hB : Box w g ty (sc s)) (vs : List Value) (o : Nat) : Med (w.setCells g o vs) v n F D := by
  obtain ⟨vb, vd, rfl, hb, hd, ho⟩ := h
  refine ⟨vb, vd, rfl, hb.setApart 0 hB ?_ vs o, hd.setApart 1 hB ?_ vs o, ho⟩
  · intro hn
    have hl := hb.1
    rw [bv_length] at hl
    have h0 : 0 < F.length := by omega
    exact ⟨.int .u8 (F[0].toNat : Int), by simp [bv, h0], by simp [sc]⟩
  · intro hn
    cases D with
    | nil => simp at hn
    | cons d D =>
      have h64 := (ho d (by simp)).1
      have h0 : 0 < d.2.length := by omega
      refine ⟨.int .u8 (d.2[0].toNat : Int), ?_, by simp [sc]⟩
      rw [dv_cons]
      simp only [List.cons_append, List.getElem?_cons_succ]
      rw [List.getElem?_append_left (by rw [bv_length]; exact h0)]
      simp [bv, h0]
theorem Slt.setSense {w : World} {v : Value} {n : Nat} {F : List UInt8} {D : List Drt} {p r l : Bool} {g : Nat} {ty : TypeId} {s : Sns} (h : Slt w v n F D p r l) (hB : Box w g ty (sc s)) (vs : List Value) (o : Nat) : Slt (w.setCells g o vs) v n F D p r l := by
  obtain ⟨ab, cb, aD, k, cD, rfl, hm⟩ := h
  exact ⟨ab, cb, aD, k, cD, rfl, hm.setSense hB vs o⟩
theorem Slt.setBox {w : World} {v : Value} {n : Nat} {F : List UInt8} {D : List Drt} {p r l : Bool} {g : Nat} {ty : TypeId} {cs : List Value} (h : Slt w v n F D p r l) (hB : Box w g ty cs) (hc : NoInts cs) (vs : List Value) (o : Nat) : Slt (w.setCells g o vs) v n F D p r l := by
  obtain ⟨ab, cb, aD, k, cD, rfl, hm⟩ := h
  exact ⟨ab, cb, aD, k, cD, rfl, hm.setBox hB hc vs o⟩
theorem Slt.med {w : World} {a b : Option Addr} {n m c d e : Nat} {F : List UInt8} {D : List Drt} {p r l p' r' l' : Bool} (h : Slt w (.agg #[.slice a n c, .slice b m d, .bool p', .bool r', .bool l']) e F D p r l) : Med w (.agg #[.slice a n c, .slice b m d]) e F D := by
  obtain ⟨ab, cb, aD, k, cD, e, hm⟩ := h
  simp at e
  obtain ⟨⟨rfl, rfl, rfl⟩, ⟨rfl, rfl, rfl⟩, _⟩ := e
  exact hm
end Go.Proofs.Ytoflkbilkkfekaa
