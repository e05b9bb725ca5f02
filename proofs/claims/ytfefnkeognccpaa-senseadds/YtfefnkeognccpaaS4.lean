import Derived.Test.YtfefnkeognccpaaOpn3
import Derived.Test.YtfefnkeognccpaaReg5
namespace Go.Proofs.Ytfefnkeognccpaa
open Go.ChangeShapes Go.WideShapes Go.ChangeAt Go.RowKit
set_option linter.unusedVariables false
set_option linter.unusedSimpArgs false

/-! Senses: key, code, qualifier. -/
abbrev Sns := Int × Int × Int
abbrev sc (s : Sns) : List Value := [.int .i64 s.1, .int .i64 s.2.1, .int .i64 s.2.2]
abbrev sval (s : Sns) : Value := .agg #[.int .i64 s.1, .int .i64 s.2.1, .int .i64 s.2.2]
def sv (L : List Sns) : List Value := L.flatMap sc
def OkS (s : Sns) : Prop := (-9223372036854775808 ≤ s.1 ∧ s.1 ≤ 9223372036854775807) ∧ (-9223372036854775808 ≤ s.2.1 ∧ s.2.1 ≤ 9223372036854775807) ∧ (-9223372036854775808 ≤ s.2.2 ∧ s.2.2 ≤ 9223372036854775807)
theorem sv_nil : sv [] = [] := rfl
theorem sv_cons (s : Sns) (L : List Sns) : sv (s :: L) = sc s ++ sv L := by simp [sv]
theorem sv_append (L M : List Sns) : sv (L ++ M) = sv L ++ sv M := by simp [sv]
theorem sv_single (s : Sns) : sv [s] = [.int .i64 s.1, .int .i64 s.2.1, .int .i64 s.2.2] := by simp [sv, sc]
theorem sv_length (L : List Sns) : (sv L).length = L.length * 3 := by
  induction L with
  | nil => rfl
  | cons x L ih => rw [sv_cons, List.length_append, ih]; simp [sc]; omega
theorem sv_drop : ∀ (L : List Sns) (k : Nat), (sv L).drop (k * 3) = sv (L.drop k)
  | L, 0 => by simp
  | [], k + 1 => by simp [sv]
  | x :: L, k + 1 => by
    rw [sv_cons, List.drop_succ_cons, ← sv_drop L k, List.drop_append, List.drop_of_length_le (by simp [sc]; omega), List.nil_append]
    congr 1; simp [sc]; omega
theorem sv_take : ∀ (L : List Sns) (k : Nat), (sv L).take (k * 3) = sv (L.take k)
  | L, 0 => by simp [sv]
  | [], k + 1 => by simp [sv]
  | x :: L, k + 1 => by
    rw [sv_cons, List.take_succ_cons, sv_cons, ← sv_take L k, List.take_append, List.take_of_length_le (by simp [sc]; omega)]
    congr 2; simp [sc]; omega
theorem sv_at (L : List Sns) (k : Nat) (hk : k < L.length) : (sv L)[k * 3]? = some (.int .i64 L[k].1) ∧ (sv L)[k * 3 + 1]? = some (.int .i64 L[k].2.1) ∧ (sv L)[k * 3 + 2]? = some (.int .i64 L[k].2.2) := by
  have h : ∀ j, (sv L)[k * 3 + j]? = (sv (L.drop k))[j]? := fun j => by rw [← sv_drop, List.getElem?_drop]
  have h0 := h 0
  rw [Nat.add_zero] at h0
  rw [h0, h 1, h 2, List.drop_eq_getElem_cons hk, sv_cons]
  exact ⟨rfl, rfl, rfl⟩
theorem sv_one (L : List Sns) : ∀ u ∈ sv L, u.oneCell' = true := by
  intro u hu
  simp only [sv, List.mem_flatMap, sc] at hu
  obtain ⟨d, _, hd⟩ := hu
  simp at hd
  rcases hd with rfl | rfl | rfl <;> rfl
theorem Try.elem_sense : Elem Try.prog 23 3 24 (.agg #[.int .i64 0, .int .i64 0, .int .i64 0]) := by
  have h : (Try.prog.info? 23).map (fun i => (i.zero, i.size, i.bytes)) = some (some (.agg #[.int .i64 0, .int .i64 0, .int .i64 0]), 3, 24) := by kernel_rfl
  obtain ⟨i, hi, h1, h2, h3⟩ := info_parts h
  exact ⟨i, hi, h1, h2, h3⟩
theorem Try.zero_sense : (Try.prog.info? 23).map (fun i => (i.zero, i.size)) = some (some (.agg #[.int .i64 0, .int .i64 0, .int .i64 0]), 3) := by kernel_rfl
theorem Try.info_sense : (Try.prog.info? 23).map (·.size) = some 3 := by kernel_rfl
theorem Try.guard_sense : Try.prog.eqGuardType Try.prog.depth 23 = false := by kernel_rfl

/-! Two senses held against one another. -/
theorem map_three {α β : Type} {f : α → β} {l : List α} {x y z : β} (h : l.map f = [x, y, z]) : ∃ a b c, l = [a, b, c] ∧ f a = x ∧ f b = y ∧ f c = z := by
  match l, h with
  | [a, b, c], h => simp at h; exact ⟨a, b, c, rfl, h.1, h.2.1, h.2.2⟩
  | [_], h => simp at h
  | [_, _], h => simp at h
  | _ :: _ :: _ :: _ :: _, h => simp at h
theorem Try.fields_sense : (Try.prog.fieldsOf 23).toList.map (fun f => (f.name, f.type, f.offset)) = [("Key", 3, 0), ("Code", 3, 1), ("Qual", 3, 2)] := by kernel_rfl
theorem Try.is_sense : Try.prog.underlying 23 = some (.struct (Try.prog.fieldsOf 23)) := by kernel_rfl
theorem Try.plain_sense : Try.prog.stoodInHeld 23 = false := by kernel_rfl
theorem eqFields_three {P : Program} (w : World) (d : Nat) (xs ys : Array Value) (f g h : Field) (hf : f.name ≠ "_") (hg : g.name ≠ "_") (hh : h.name ≠ "_") (a b a' b' a2 b2 : Value) (r r' r2 : Bool)
    (p1 : (part f.type xs f.offset).run P w = .ok a w) (p2 : (part f.type ys f.offset).run P w = .ok b w) (p3 : (Op.equalIn d f.type a b).run P w = .ok r w)
    (q1 : (part g.type xs g.offset).run P w = .ok a' w) (q2 : (part g.type ys g.offset).run P w = .ok b' w) (q3 : (Op.equalIn d g.type a' b').run P w = .ok r' w)
    (s1 : (part h.type xs h.offset).run P w = .ok a2 w) (s2 : (part h.type ys h.offset).run P w = .ok b2 w) (s3 : (Op.equalIn d h.type a2 b2).run P w = .ok r2 w) :
    (Op.eqFields d xs ys [f, g, h]).run P w = .ok (r && (r' && r2)) w := by
  simp only [Op.eqFields, hf, hg, hh, ne_eq, not_false_eq_true, if_true, Sem.run_bind, p1, p2, p3, q1, q2, q3, s1, s2, s3, Result.andThen_ok]
  cases r <;> cases r' <;> cases r2 <;> simp [Sem.run_bind, q1, q2, q3, s1, s2, s3, Result.andThen_ok]
theorem part_cell {P : Program} {t : TypeId} (w : World) (ht : P.underlying t = some (.int .i64)) (cs : Array Value) (o : Nat) (v : Value) (h : cs[o]? = some v) : (part t cs o).run P w = .ok v w := by
  simp [part, isAgg, run_underlying ht, h]
theorem sense_eq (s t : Sns) (w : World) : (Op.equalIn 10000 23 (sval s) (sval t)).run Try.prog w = .ok (s == t) w := by
  refine (run_equalIn_struct w 9999 23 _ _ Try.is_sense Try.plain_sense).trans ?_
  obtain ⟨f, g, h, hfs, hf, hg, hh⟩ := map_three Try.fields_sense
  rw [hfs]
  simp only [Prod.mk.injEq] at hf hg hh
  obtain ⟨n1, t1, o1⟩ := hf
  obtain ⟨n2, t2, o2⟩ := hg
  obtain ⟨n3, t3, o3⟩ := hh
  refine eqFields_three w 9999 _ _ f g h (by rw [n1]; decide) (by rw [n2]; decide) (by rw [n3]; decide) (.int .i64 s.1) (.int .i64 t.1) (.int .i64 s.2.1) (.int .i64 t.2.1) (.int .i64 s.2.2) (.int .i64 t.2.2) _ _ _ ?_ ?_ ?_ ?_ ?_ ?_ ?_ ?_ ?_
  · rw [t1, o1]; exact part_cell w Try.underlying3 _ _ _ rfl
  · rw [t1, o1]; exact part_cell w Try.underlying3 _ _ _ rfl
  · rw [t1]; exact run_equalIn_int (P := Try.prog) w 9998 3 .i64 .i64 s.1 t.1 Try.underlying3
  · rw [t2, o2]; exact part_cell w Try.underlying3 _ _ _ rfl
  · rw [t2, o2]; exact part_cell w Try.underlying3 _ _ _ rfl
  · rw [t2]; exact run_equalIn_int (P := Try.prog) w 9998 3 .i64 .i64 s.2.1 t.2.1 Try.underlying3
  · rw [t3, o3]; exact part_cell w Try.underlying3 _ _ _ rfl
  · rw [t3, o3]; exact part_cell w Try.underlying3 _ _ _ rfl
  · rw [t3]; exact run_equalIn_int (P := Try.prog) w 9998 3 .i64 .i64 s.2.2 t.2.2 Try.underlying3
theorem wpList_eqS {w : World} {ops : Array Oper} {rest : List Oper} {o : Oper} {a : Act} {Q : Exit → Act → World → Prop} (hw : Region.wanted o (yielded ops a.tmps) = true) (x y : Operand) (hop : o.op = .binOp .eql 23 x y 23)
    (s t : Sns) (hx : a.eval x = sval s) (hy : a.eval y = sval t) (h : wpList Try.prog ops Q rest (a.put o.dst (.bool (s == t))) w) : wpList Try.prog ops Q (o :: rest) a w := by
  refine wpList_step fun K hK => ?_
  rw [if_pos hw]
  unfold Go.Oper.wp execOp
  simp [hop, hx, hy, run_eqGuard_agg w .eql 23 x y _ _ Try.guard_sense, run_eql_struct, sense_eq, Result.andThen]
  exact hK _ _ h

/-! What comes in. -/
section
variable {H : Type} {enc : TypeId × Value → H} {w : World} {r : Reach} {base : Nat} {v : Value} {d : DataW H} {p : List MemPlace}
theorem Try.places_sense : (Try.prog.fieldsOf 23).toList.map (fun f => (f.type, f.offset)) = [(3, 0), (3, 1), (3, 2)] := by kernel_rfl
theorem shape_sense (fuel : Nat) (cs : List Value) (x : DataW H × List MemPlace) (h : DataW.trod enc Try.prog w 0 (fun _ => true) true fuel 23 cs = some x) : ∃ s : Sns, OkS s ∧ cs = sc s := by
  obtain ⟨hl, m0, y0, h0⟩ := shape_field Try.is_sense Try.places_sense 0 _ _ rfl h
  obtain ⟨_, m1, y1, h1⟩ := shape_field Try.is_sense Try.places_sense 1 _ _ rfl h
  obtain ⟨_, m2, y2, h2⟩ := shape_field Try.is_sense Try.places_sense 2 _ _ rfl h
  rw [show Try.prog.cellsOf 23 = 3 from by kernel_rfl] at hl
  rw [show Try.prog.cellsOf 3 = 1 from by kernel_rfl] at h0 h1 h2
  obtain ⟨n0, e0, w0⟩ := shape_int Try.underlying3 h0
  obtain ⟨n1, e1, w1⟩ := shape_int Try.underlying3 h1
  obtain ⟨n2, e2, w2⟩ := shape_int Try.underlying3 h2
  refine ⟨(n0, n1, n2), ⟨bounds_i64 w0, bounds_i64 w1, bounds_i64 w2⟩, ?_⟩
  match cs, hl with
  | [x0, x1, x2], _ =>
    simp at e0 e1 e2
    rw [e0, e1, e2]
def RSense (v : Value) : Prop := ∃ s : Sns, OkS s ∧ v = sval s
theorem rd_sense (hv : Value.okWide Try.prog w r base 23 v) (h : DataW.Trod enc Try.prog w 0 (fun _ => true) true 23 v d p) : RSense v := by
  obtain ⟨cs, rfl, _⟩ := okWide_struct Try.is_sense hv
  obtain ⟨fuel, hf⟩ := h
  obtain ⟨s, hs, e⟩ := shape_sense fuel _ _ hf
  exact ⟨s, hs, agg_of (show cs.toList = _ from e)⟩
theorem sv_flatten : ∀ css : List (List Value), (∀ cs ∈ css, ∃ s : Sns, OkS s ∧ cs = sc s) → ∃ L : List Sns, L.length = css.length ∧ (∀ s ∈ L, OkS s) ∧ css.flatten = sv L
  | [], _ => ⟨[], rfl, (fun d hd => by cases hd), rfl⟩
  | c :: css, h => by
    obtain ⟨X, hX, rfl⟩ := h c (by simp)
    obtain ⟨D, h1, h2, h3⟩ := sv_flatten css (fun cs hcs => h cs (by simp [hcs]))
    refine ⟨X :: D, by simp [h1], fun d hd => ?_, by rw [List.flatten_cons, h3, sv_cons]⟩
    rcases List.mem_cons.1 hd with rfl | hd
    · exact hX
    · exact h2 d hd
def Sl (w : World) (v : Value) (L : List Sns) : Prop := Rw 3 w v L.length (sv L) ∧ ∀ s ∈ L, OkS s
def RSenses (w : World) (v : Value) : Prop := ∃ L : List Sns, Sl w v L
theorem rd_senses (hv : Value.okWide Try.prog w r base 34 v) (h : DataW.Trod enc Try.prog w 0 (fun _ => true) true 34 v d p) : RSenses w v := by
  obtain ⟨css, h1, h2⟩ := rd_rows Try.underlying34 (sz := 3) (by kernel_rfl) (by decide) (fun cs => ∃ s : Sns, OkS s ∧ cs = sc s) (fun fuel cs x hx => shape_sense fuel cs x hx) hv h
  obtain ⟨L, hL, hok, hf⟩ := sv_flatten css (fun cs hcs => (h1 cs hcs).1)
  rw [hf, ← hL] at h2
  exact ⟨L, h2, hok⟩
end
theorem Sl.later {w w' : World} {v : Value} {L : List Sns} (h : Sl w v L) (hl : Later w w') : Sl w' v L := ⟨h.1.later hl, h.2⟩
theorem Sl.nil (w : World) : Sl w (.slice none 0 0) [] := ⟨Rw.nil 3 w, fun s hs => by cases hs⟩
theorem sc_one (s : Sns) : ∀ u ∈ sc s, u.oneCell' = true := by
  intro u hu
  simp [sc] at hu
  rcases hu with rfl | rfl | rfl <;> rfl
/-- 'x := v', v a sense -/
theorem wpList_newS {w : World} {ops : Array Oper} {rest : List Oper} {o1 o2 : Oper} {a : Act} {Q : Exit → Act → World → Prop} (hg1 : o1.guard = none) (hg2 : o2.guard = none) (h1 : o1.op = .alloc 23) (d : Tmp) (hd : o1.dst = some d) (hd' : d < a.tmps.size) (y : Operand) (hy' : y ≠ .tmp d) (h2 : o2.op = .store 23 (.tmp d) y)
    (s : Sns) (hy : a.eval y = sval s)
    (h : ∀ (g : Nat) (w' : World), Box w' g 23 (sc s) → Later w w' → Hid (g = w.heap.size ∧ w' = w.alloc (.cells (sc s).toArray 23)) → wpList Try.prog ops Q rest ((a.put (some d) (.pointer (some ⟨g, 0, none⟩))).put o2.dst undef) w') : wpList Try.prog ops Q (o1 :: o2 :: rest) a w :=
  wpList_new hg1 hg2 23 h1 d hd hd' y hy' h2 #[.int .i64 0, .int .i64 0, .int .i64 0] (sc s) Try.zero_sense rfl hy (sc_one s) h
theorem wpList_neqS {w : World} {ops : Array Oper} {rest : List Oper} {o : Oper} {a : Act} {Q : Exit → Act → World → Prop} (hw : Region.wanted o (yielded ops a.tmps) = true) (x y : Operand) (hop : o.op = .binOp .neq 23 x y 23)
    (s t : Sns) (hx : a.eval x = sval s) (hy : a.eval y = sval t) (h : wpList Try.prog ops Q rest (a.put o.dst (.bool (!(s == t)))) w) : wpList Try.prog ops Q (o :: rest) a w := by
  refine wpList_step fun K hK => ?_
  rw [if_pos hw]
  unfold Go.Oper.wp execOp
  simp [hop, hx, hy, run_eqGuard_agg w .neq 23 x y _ _ Try.guard_sense, run_neq_struct, sense_eq, Result.andThen]
  exact hK _ _ h
/-- two results, the second one in a variable of its own -/
theorem results_tmp_cell' {fn : Func} {p q : Tmp} {ty : TypeId} (h : fn.results = #[.tmp q, .cell p ty]) (tmps : Array Value) (P : Program) (w : World) (b o : Nat) (hp : tmps.getD p undef = .pointer (some ⟨b, o, none⟩)) (v u : Value) (hl : (loadVar ty ⟨b, o, none⟩).run P w = .ok v w) (hq : tmps.getD q undef = u) :
    (results fn tmps).run P w = .ok (.tuple #[u, v]) w := by
  have ha : (asAddr (tmps.getD p undef)).run P w = .ok ⟨b, o, none⟩ w := by rw [hp]; rfl
  simp only [results, h]
  simp only [List.mapM_toArray, Sem.run_bind]
  simp [ha, hl, hq, -Array.getD_eq_getD_getElem?]
end Go.Proofs.Ytfefnkeognccpaa
