import Derived.Test.YtkbpecbpfajkfaaMAI
import Derived.Test.YtkbpecbpfajkfaaMAE
import Derived.Test.YtkbpecbpfajkfaaMAG
namespace Go.Proofs.Ytkbpecbpfajkfaa
open Go.ChangeShapes Go.WideShapes Go.ChangeAt Go.RowKit
set_option linter.unusedVariables false
set_option linter.unusedSimpArgs false

/-! What the landed cache does, said; proved in P3. -/
def IRight : Prop := ∀ (v : Value) (n : Nat) (F : List UInt8) (D : List Drt) (w : World), Med w v n F D → Calls Try.prog 63 #[v] w fun e w' => e = .returned (.bool (rightB n D)) ∧ Later w w'
def IWrite : Prop := ∀ (v : Value) (n : Nat) (F : List UInt8) (D : List Drt) (at_ : Int) (X : List UInt8) (th : Bool) (w : World), Med w v n F D → X.length = 64 → -9223372036854775808 ≤ at_ → at_ ≤ 9223372036854775807 →
  Calls Try.prog 58 #[v, .int .i64 at_, .agg (bv X).toArray, .bool th] w fun e w' => ∃ v', e = .returned (.tuple #[v', .int .i64 (wrE n D at_)]) ∧ Later w w' ∧ Med w' v' (wrN n D at_) (wrF n F D at_ X th) (wrD n D at_ X th)
def IFlush : Prop := ∀ (v : Value) (n : Nat) (F : List UInt8) (D : List Drt) (at_ m : Int) (w : World), Med w v n F D → -9223372036854775808 ≤ at_ → at_ ≤ 9223372036854775807 → -9223372036854775808 ≤ m → m ≤ 9223372036854775807 →
  Calls Try.prog 45 #[v, .int .i64 at_, .int .i64 m] w fun e w' => ∃ v', e = .returned (.tuple #[v', .int .i64 (flushE n D at_ m)]) ∧ Later w w' ∧ Med w' v' (flushN n D at_ m) (flushF n F D at_ m) (flushD n D at_ m)
def ILose : Prop := ∀ (v : Value) (n : Nat) (F : List UInt8) (D : List Drt) (mask : Nat) (w : World), Med w v n F D → mask ≤ 18446744073709551615 →
  Calls Try.prog 47 #[v, .int .u64 mask] w fun e w' => ∃ v', e = .returned (.tuple #[v', .int .i64 (loseE n D)]) ∧ Later w w' ∧ Med w' v' (loseN n D) (loseF n F D mask) []
def IAll : Prop := ∀ (v : Value) (n : Nat) (F : List UInt8) (D : List Drt) (w : World), Med w v n F D →
  Calls Try.prog 51 #[v] w fun e w' => ∃ v', e = .returned v' ∧ Later w w' ∧ Rw 64 w' v' (allN n D) (bv (allF n F D))
theorem Med.shape {w : World} {v : Value} {n : Nat} {F : List UInt8} {D : List Drt} (h : Med w v n F D) : ∃ a c a' k c', v = .agg #[.slice a n c, .slice a' k c'] ∧ Hid (k = D.length) ∧ n ≤ 9223372036854775807 ∧ k ≤ 9223372036854775807 := by
  obtain ⟨vb, vd, rfl, hb, hd, _⟩ := h
  obtain ⟨a, c, rfl⟩ := hb.shape
  obtain ⟨a', c', rfl⟩ := hd.shape
  have h1 := hb.2.1
  have h2 := hd.2.1
  unfold maxLen at h1 h2
  exact ⟨a, c, a', D.length, c', rfl, rfl, by omega, by omega⟩
theorem rall_b {v : Value} {n : Nat} {F : List UInt8} {D : List Drt} (w : World) (h : Med w v n F D) :
    Calls Try.prog 36 #[v] w fun e w' => ∃ v', e = .returned v' ∧ Later w w' ∧ Rw 64 w' v' (allN n D) (bv (allF n F D)) :=
  (rall_c w h).mono fun e w' ⟨v', he, hl, ho⟩ => ⟨v', he, hl, Rw.of_owns ho⟩
theorem Try.zero_medium : (Try.prog.info? 25).map (fun i => (i.zero, i.size)) = some (some (.agg #[.slice none 0 0, .slice none 0 0]), 2) := by kernel_rfl
theorem Try.zero_block : (Try.prog.info? 50).map (fun i => (i.zero, i.size)) = some (some (.agg (Array.replicate 64 (.int .u8 0))), 64) := by kernel_rfl
theorem Try.guard_block : Try.prog.eqGuardType Try.prog.depth 50 = false := by kernel_rfl
theorem block_eq (X Y : List UInt8) (hX : X.length = 64) (hY : Y.length = 64) (w : World) : (Op.equalIn 10000 50 (.agg (bv X).toArray) (.agg (bv Y).toArray)).run Try.prog w = .ok (X == Y) w :=
  bytes_eq 50 5 64 Try.underlying50 Try.underlying5 (by kernel_rfl) X Y hX hY w
/-- 'x := v', v a block -/
theorem wpList_newB {w : World} {ops : Array Oper} {rest : List Oper} {o1 o2 : Oper} {a : Act} {Q : Exit → Act → World → Prop} (hg1 : o1.guard = none) (hg2 : o2.guard = none) (h1 : o1.op = .alloc 50) (d : Tmp) (hd : o1.dst = some d) (hd' : d < a.tmps.size) (y : Operand) (hy' : y ≠ .tmp d) (h2 : o2.op = .store 50 (.tmp d) y)
    (X : List UInt8) (hX : X.length = 64) (hy : a.eval y = .agg (bv X).toArray)
    (h : ∀ (g : Nat) (w' : World), Box w' g 50 (bv X) → Later w w' → Hid (g = w.heap.size ∧ w' = w.alloc (.cells (bv X).toArray 50)) → wpList Try.prog ops Q rest ((a.put (some d) (.pointer (some ⟨g, 0, none⟩))).put o2.dst undef) w') : wpList Try.prog ops Q (o1 :: o2 :: rest) a w :=
  wpList_new hg1 hg2 50 h1 d hd hd' y hy' h2 (Array.replicate 64 (.int .u8 0)) (bv X) (by rw [bv_length, hX]; exact Try.zero_block) (by simp [bv_length, hX]) hy (bv_one X) h
/-- 'x := v', v a medium -/
theorem wpList_newM {w : World} {ops : Array Oper} {rest : List Oper} {o1 o2 : Oper} {a : Act} {Q : Exit → Act → World → Prop} (hg1 : o1.guard = none) (hg2 : o2.guard = none) (h1 : o1.op = .alloc 25) (d : Tmp) (hd : o1.dst = some d) (hd' : d < a.tmps.size) (y : Operand) (hy' : y ≠ .tmp d) (h2 : o2.op = .store 25 (.tmp d) y)
    (x1 x2 : Option Addr) (n1 c1 n2 c2 : Nat) (hy : a.eval y = .agg #[.slice x1 n1 c1, .slice x2 n2 c2])
    (h : ∀ (g : Nat) (w' : World), Box w' g 25 [.slice x1 n1 c1, .slice x2 n2 c2] → Later w w' → Hid (g = w.heap.size ∧ w' = w.alloc (.cells #[.slice x1 n1 c1, .slice x2 n2 c2] 25)) → wpList Try.prog ops Q rest ((a.put (some d) (.pointer (some ⟨g, 0, none⟩))).put o2.dst undef) w') : wpList Try.prog ops Q (o1 :: o2 :: rest) a w :=
  wpList_new hg1 hg2 25 h1 d hd hd' y hy' h2 #[.slice none 0 0, .slice none 0 0] [.slice x1 n1 c1, .slice x2 n2 c2] Try.zero_medium rfl hy (by simp [Value.oneCell']) h
theorem showL_length (n : Nat) (F : List UInt8) (D : List Drt) (at_ : Int) (hF : F.length = n * 64) (ho : Ok D) : (showL n F D at_).length = 64 := by
  unfold showL
  split
  · rename_i h
    rw [seg_length]
    rw [app_length n D F hF (fit_of_right h.1 ho)]
    omega
  · simp
theorem Med.flat {w : World} {v : Value} {n : Nat} {F : List UInt8} {D : List Drt} (h : Med w v n F D) : F.length = n * 64 ∧ Ok D := by
  obtain ⟨vb, vd, rfl, hb, hd, ho⟩ := h
  have := hb.1
  rw [bv_length] at this
  exact ⟨this, ho⟩
end Go.Proofs.Ytkbpecbpfajkfaa

namespace Go.Proofs.Ytkbpecbpfajkfaa
open Go.ChangeShapes Go.WideShapes Go.ChangeAt Go.RowKit
set_option linter.unusedVariables false
set_option linter.unusedSimpArgs false

/-! Senses: key, code, qualifier. -/
abbrev Sns := Int × Int × Int
abbrev sc (s : Sns) : List Value := [.int .i64 s.1, .int .i64 s.2.1, .int .i64 s.2.2]
abbrev sval (s : Sns) : Value := .agg #[.int .i64 s.1, .int .i64 s.2.1, .int .i64 s.2.2]
def sv (L : List Sns) : List Value := L.flatMap sc
def OkS (s : Sns) : Prop := (-9223372036854775808 ≤ s.1 ∧ s.1 ≤ 9223372036854775807) ∧ (-9223372036854775808 ≤ s.2.1 ∧ s.2.1 ≤ 9223372036854775807) ∧ (-9223372036854775808 ≤ s.2.2 ∧ s.2.2 ≤ 9223372036854775807)
theorem sv_nil : sv [] = [] := rfl
theorem sv_cons (s : Sns) (L : List Sns) : sv (s :: L) = sc s ++ sv L := by simp [sv]
theorem sv_append (L M : List Sns) : sv (L ++ M) = sv L ++ sv M := by simp [sv]
theorem sv_single (s : Sns) : sv [s] = [.int .i64 s.1, .int .i64 s.2.1, .int .i64 s.2.2] := by simp [sv, sc]
theorem sv_length (L : List Sns) : (sv L).length = L.length * 3 := by
  induction L with
  | nil => rfl
  | cons x L ih => rw [sv_cons, List.length_append, ih]; simp [sc]; omega
theorem sv_drop : ∀ (L : List Sns) (k : Nat), (sv L).drop (k * 3) = sv (L.drop k)
  | L, 0 => by simp
  | [], k + 1 => by simp [sv]
  | x :: L, k + 1 => by
    rw [sv_cons, List.drop_succ_cons, ← sv_drop L k, List.drop_append, List.drop_of_length_le (by simp [sc]; omega), List.nil_append]
    congr 1; simp [sc]; omega
theorem sv_take : ∀ (L : List Sns) (k : Nat), (sv L).take (k * 3) = sv (L.take k)
  | L, 0 => by simp [sv]
  | [], k + 1 => by simp [sv]
  | x :: L, k + 1 => by
    rw [sv_cons, List.take_succ_cons, sv_cons, ← sv_take L k, List.take_append, List.take_of_length_le (by simp [sc]; omega)]
    congr 2; simp [sc]; omega
theorem sv_at (L : List Sns) (k : Nat) (hk : k < L.length) : (sv L)[k * 3]? = some (.int .i64 L[k].1) ∧ (sv L)[k * 3 + 1]? = some (.int .i64 L[k].2.1) ∧ (sv L)[k * 3 + 2]? = some (.int .i64 L[k].2.2) := by
  have h : ∀ j, (sv L)[k * 3 + j]? = (sv (L.drop k))[j]? := fun j => by rw [← sv_drop, List.getElem?_drop]
  have h0 := h 0
  rw [Nat.add_zero] at h0
  rw [h0, h 1, h 2, List.drop_eq_getElem_cons hk, sv_cons]
  exact ⟨rfl, rfl, rfl⟩
theorem sv_one (L : List Sns) : ∀ u ∈ sv L, u.oneCell' = true := by
  intro u hu
  simp only [sv, List.mem_flatMap, sc] at hu
  obtain ⟨d, _, hd⟩ := hu
  simp at hd
  rcases hd with rfl | rfl | rfl <;> rfl
theorem Try.elem_sense : Elem Try.prog 35 3 24 (.agg #[.int .i64 0, .int .i64 0, .int .i64 0]) := by
  have h : (Try.prog.info? 35).map (fun i => (i.zero, i.size, i.bytes)) = some (some (.agg #[.int .i64 0, .int .i64 0, .int .i64 0]), 3, 24) := by kernel_rfl
  obtain ⟨i, hi, h1, h2, h3⟩ := info_parts h
  exact ⟨i, hi, h1, h2, h3⟩
theorem Try.zero_sense : (Try.prog.info? 35).map (fun i => (i.zero, i.size)) = some (some (.agg #[.int .i64 0, .int .i64 0, .int .i64 0]), 3) := by kernel_rfl
theorem Try.info_sense : (Try.prog.info? 35).map (·.size) = some 3 := by kernel_rfl
theorem Try.guard_sense : Try.prog.eqGuardType Try.prog.depth 35 = false := by kernel_rfl

/-! Two senses held against one another. -/
theorem map_three {α β : Type} {f : α → β} {l : List α} {x y z : β} (h : l.map f = [x, y, z]) : ∃ a b c, l = [a, b, c] ∧ f a = x ∧ f b = y ∧ f c = z := by
  match l, h with
  | [a, b, c], h => simp at h; exact ⟨a, b, c, rfl, h.1, h.2.1, h.2.2⟩
  | [_], h => simp at h
  | [_, _], h => simp at h
  | _ :: _ :: _ :: _ :: _, h => simp at h
theorem Try.fields_sense : (Try.prog.fieldsOf 35).toList.map (fun f => (f.name, f.type, f.offset)) = [("Key", 3, 0), ("Code", 3, 1), ("Qual", 3, 2)] := by kernel_rfl
theorem Try.is_sense : Try.prog.underlying 35 = some (.struct (Try.prog.fieldsOf 35)) := by kernel_rfl
theorem Try.plain_sense : Try.prog.stoodInHeld 35 = false := by kernel_rfl
theorem eqFields_three {P : Program} (w : World) (d : Nat) (xs ys : Array Value) (f g h : Field) (hf : f.name ≠ "_") (hg : g.name ≠ "_") (hh : h.name ≠ "_") (a b a' b' a2 b2 : Value) (r r' r2 : Bool)
    (p1 : (part f.type xs f.offset).run P w = .ok a w) (p2 : (part f.type ys f.offset).run P w = .ok b w) (p3 : (Op.equalIn d f.type a b).run P w = .ok r w)
    (q1 : (part g.type xs g.offset).run P w = .ok a' w) (q2 : (part g.type ys g.offset).run P w = .ok b' w) (q3 : (Op.equalIn d g.type a' b').run P w = .ok r' w)
    (s1 : (part h.type xs h.offset).run P w = .ok a2 w) (s2 : (part h.type ys h.offset).run P w = .ok b2 w) (s3 : (Op.equalIn d h.type a2 b2).run P w = .ok r2 w) :
    (Op.eqFields d xs ys [f, g, h]).run P w = .ok (r && (r' && r2)) w := by
  simp only [Op.eqFields, hf, hg, hh, ne_eq, not_false_eq_true, if_true, Sem.run_bind, p1, p2, p3, q1, q2, q3, s1, s2, s3, Result.andThen_ok]
  cases r <;> cases r' <;> cases r2 <;> simp [Sem.run_bind, q1, q2, q3, s1, s2, s3, Result.andThen_ok]
theorem part_cell {P : Program} {t : TypeId} (w : World) (ht : P.underlying t = some (.int .i64)) (cs : Array Value) (o : Nat) (v : Value) (h : cs[o]? = some v) : (part t cs o).run P w = .ok v w := by
  simp [part, isAgg, run_underlying ht, h]
theorem sense_eq (s t : Sns) (w : World) : (Op.equalIn 10000 35 (sval s) (sval t)).run Try.prog w = .ok (s == t) w := by
  refine (run_equalIn_struct w 9999 35 _ _ Try.is_sense Try.plain_sense).trans ?_
  obtain ⟨f, g, h, hfs, hf, hg, hh⟩ := map_three Try.fields_sense
  rw [hfs]
  simp only [Prod.mk.injEq] at hf hg hh
  obtain ⟨n1, t1, o1⟩ := hf
  obtain ⟨n2, t2, o2⟩ := hg
  obtain ⟨n3, t3, o3⟩ := hh
  refine eqFields_three w 9999 _ _ f g h (by rw [n1]; decide) (by rw [n2]; decide) (by rw [n3]; decide) (.int .i64 s.1) (.int .i64 t.1) (.int .i64 s.2.1) (.int .i64 t.2.1) (.int .i64 s.2.2) (.int .i64 t.2.2) _ _ _ ?_ ?_ ?_ ?_ ?_ ?_ ?_ ?_ ?_
  · rw [t1, o1]; exact part_cell w Try.underlying3 _ _ _ rfl
  · rw [t1, o1]; exact part_cell w Try.underlying3 _ _ _ rfl
  · rw [t1]; exact run_equalIn_int (P := Try.prog) w 9998 3 .i64 .i64 s.1 t.1 Try.underlying3
  · rw [t2, o2]; exact part_cell w Try.underlying3 _ _ _ rfl
  · rw [t2, o2]; exact part_cell w Try.underlying3 _ _ _ rfl
  · rw [t2]; exact run_equalIn_int (P := Try.prog) w 9998 3 .i64 .i64 s.2.1 t.2.1 Try.underlying3
  · rw [t3, o3]; exact part_cell w Try.underlying3 _ _ _ rfl
  · rw [t3, o3]; exact part_cell w Try.underlying3 _ _ _ rfl
  · rw [t3]; exact run_equalIn_int (P := Try.prog) w 9998 3 .i64 .i64 s.2.2 t.2.2 Try.underlying3
theorem wpList_eqS {w : World} {ops : Array Oper} {rest : List Oper} {o : Oper} {a : Act} {Q : Exit → Act → World → Prop} (hw : Region.wanted o (yielded ops a.tmps) = true) (x y : Operand) (hop : o.op = .binOp .eql 35 x y 35)
    (s t : Sns) (hx : a.eval x = sval s) (hy : a.eval y = sval t) (h : wpList Try.prog ops Q rest (a.put o.dst (.bool (s == t))) w) : wpList Try.prog ops Q (o :: rest) a w := by
  refine wpList_step fun K hK => ?_
  rw [if_pos hw]
  unfold Go.Oper.wp execOp
  simp [hop, hx, hy, run_eqGuard_agg w .eql 35 x y _ _ Try.guard_sense, run_eql_struct, sense_eq, Result.andThen]
  exact hK _ _ h

/-! What comes in. -/
section
variable {H : Type} {enc : TypeId × Value → H} {w : World} {r : Reach} {base : Nat} {v : Value} {d : DataW H} {p : List MemPlace}
theorem Try.places_sense : (Try.prog.fieldsOf 35).toList.map (fun f => (f.type, f.offset)) = [(3, 0), (3, 1), (3, 2)] := by kernel_rfl
theorem shape_sense (fuel : Nat) (cs : List Value) (x : DataW H × List MemPlace) (h : DataW.trod enc Try.prog w 0 (fun _ => true) true fuel 35 cs = some x) : ∃ s : Sns, OkS s ∧ cs = sc s := by
  obtain ⟨hl, m0, y0, h0⟩ := shape_field Try.is_sense Try.places_sense 0 _ _ rfl h
  obtain ⟨_, m1, y1, h1⟩ := shape_field Try.is_sense Try.places_sense 1 _ _ rfl h
  obtain ⟨_, m2, y2, h2⟩ := shape_field Try.is_sense Try.places_sense 2 _ _ rfl h
  rw [show Try.prog.cellsOf 35 = 3 from by kernel_rfl] at hl
  rw [show Try.prog.cellsOf 3 = 1 from by kernel_rfl] at h0 h1 h2
  obtain ⟨n0, e0, w0⟩ := shape_int Try.underlying3 h0
  obtain ⟨n1, e1, w1⟩ := shape_int Try.underlying3 h1
  obtain ⟨n2, e2, w2⟩ := shape_int Try.underlying3 h2
  refine ⟨(n0, n1, n2), ⟨bounds_i64 w0, bounds_i64 w1, bounds_i64 w2⟩, ?_⟩
  match cs, hl with
  | [x0, x1, x2], _ =>
    simp at e0 e1 e2
    rw [e0, e1, e2]
def RSense (v : Value) : Prop := ∃ s : Sns, OkS s ∧ v = sval s
theorem rd_sense (hv : Value.okWide Try.prog w r base 35 v) (h : DataW.Trod enc Try.prog w 0 (fun _ => true) true 35 v d p) : RSense v := by
  obtain ⟨cs, rfl, _⟩ := okWide_struct Try.is_sense hv
  obtain ⟨fuel, hf⟩ := h
  obtain ⟨s, hs, e⟩ := shape_sense fuel _ _ hf
  exact ⟨s, hs, agg_of (show cs.toList = _ from e)⟩
theorem sv_flatten : ∀ css : List (List Value), (∀ cs ∈ css, ∃ s : Sns, OkS s ∧ cs = sc s) → ∃ L : List Sns, L.length = css.length ∧ (∀ s ∈ L, OkS s) ∧ css.flatten = sv L
  | [], _ => ⟨[], rfl, (fun d hd => by cases hd), rfl⟩
  | c :: css, h => by
    obtain ⟨X, hX, rfl⟩ := h c (by simp)
    obtain ⟨D, h1, h2, h3⟩ := sv_flatten css (fun cs hcs => h cs (by simp [hcs]))
    refine ⟨X :: D, by simp [h1], fun d hd => ?_, by rw [List.flatten_cons, h3, sv_cons]⟩
    rcases List.mem_cons.1 hd with rfl | hd
    · exact hX
    · exact h2 d hd
def Sl (w : World) (v : Value) (L : List Sns) : Prop := Rw 3 w v L.length (sv L) ∧ ∀ s ∈ L, OkS s
def RSenses (w : World) (v : Value) : Prop := ∃ L : List Sns, Sl w v L
end
theorem Sl.later {w w' : World} {v : Value} {L : List Sns} (h : Sl w v L) (hl : Later w w') : Sl w' v L := ⟨h.1.later hl, h.2⟩
theorem Sl.nil (w : World) : Sl w (.slice none 0 0) [] := ⟨Rw.nil 3 w, fun s hs => by cases hs⟩
theorem sc_one (s : Sns) : ∀ u ∈ sc s, u.oneCell' = true := by
  intro u hu
  simp [sc] at hu
  rcases hu with rfl | rfl | rfl <;> rfl
/-- 'x := v', v a sense -/
theorem wpList_newS {w : World} {ops : Array Oper} {rest : List Oper} {o1 o2 : Oper} {a : Act} {Q : Exit → Act → World → Prop} (hg1 : o1.guard = none) (hg2 : o2.guard = none) (h1 : o1.op = .alloc 35) (d : Tmp) (hd : o1.dst = some d) (hd' : d < a.tmps.size) (y : Operand) (hy' : y ≠ .tmp d) (h2 : o2.op = .store 35 (.tmp d) y)
    (s : Sns) (hy : a.eval y = sval s)
    (h : ∀ (g : Nat) (w' : World), Box w' g 35 (sc s) → Later w w' → Hid (g = w.heap.size ∧ w' = w.alloc (.cells (sc s).toArray 35)) → wpList Try.prog ops Q rest ((a.put (some d) (.pointer (some ⟨g, 0, none⟩))).put o2.dst undef) w') : wpList Try.prog ops Q (o1 :: o2 :: rest) a w :=
  wpList_new hg1 hg2 35 h1 d hd hd' y hy' h2 #[.int .i64 0, .int .i64 0, .int .i64 0] (sc s) Try.zero_sense rfl hy (sc_one s) h
theorem wpList_neqS {w : World} {ops : Array Oper} {rest : List Oper} {o : Oper} {a : Act} {Q : Exit → Act → World → Prop} (hw : Region.wanted o (yielded ops a.tmps) = true) (x y : Operand) (hop : o.op = .binOp .neq 35 x y 35)
    (s t : Sns) (hx : a.eval x = sval s) (hy : a.eval y = sval t) (h : wpList Try.prog ops Q rest (a.put o.dst (.bool (!(s == t)))) w) : wpList Try.prog ops Q (o :: rest) a w := by
  refine wpList_step fun K hK => ?_
  rw [if_pos hw]
  unfold Go.Oper.wp execOp
  simp [hop, hx, hy, run_eqGuard_agg w .neq 35 x y _ _ Try.guard_sense, run_neq_struct, sense_eq, Result.andThen]
  exact hK _ _ h
/-- two results, the second one in a variable of its own -/
theorem results_tmp_cell' {fn : Func} {p q : Tmp} {ty : TypeId} (h : fn.results = #[.tmp q, .cell p ty]) (tmps : Array Value) (P : Program) (w : World) (b o : Nat) (hp : tmps.getD p undef = .pointer (some ⟨b, o, none⟩)) (v u : Value) (hl : (loadVar ty ⟨b, o, none⟩).run P w = .ok v w) (hq : tmps.getD q undef = u) :
    (results fn tmps).run P w = .ok (.tuple #[u, v]) w := by
  have ha : (asAddr (tmps.getD p undef)).run P w = .ok ⟨b, o, none⟩ w := by rw [hp]; rfl
  simp only [results, h]
  simp only [List.mapM_toArray, Sem.run_bind]
  simp [ha, hl, hq, -Array.getD_eq_getD_getElem?]
end Go.Proofs.Ytkbpecbpfajkfaa

namespace Go.Proofs.Ytkbpecbpfajkfaa
open Go.ChangeShapes Go.WideShapes Go.ChangeAt Go.RowKit
set_option linter.unusedVariables false
set_option linter.unusedSimpArgs false

/-! The document's answers for senses. -/
def b8 (x : Int) : UInt8 := UInt8.ofNat (x % 256).toNat
theorem b8_nat (x : Int) : ((b8 x).toNat : Int) = x % 256 := by
  have h1 : 0 ≤ x % 256 := Int.emod_nonneg _ (by omega)
  have h2 : x % 256 < 256 := Int.emod_lt_of_pos _ (by omega)
  simp only [b8, UInt8.toNat_ofNat']
  omega
theorem b8_byte (b : UInt8) : b8 (b.toNat : Int) = b := by
  have h := b8_nat (b.toNat : Int)
  have hb : b.toNat < 256 := UInt8.toNat_lt b
  apply UInt8.toNat_inj.1
  omega
def bytesL (s : Sns) : List UInt8 := [112, 0, b8 s.1, 0, 0, 0, 0, 10, 0, 0, 0, 0, b8 s.2.1, b8 s.2.2, 0, 0, 0, 0]
theorem bytesL_length (s : Sns) : (bytesL s).length = 18 := rfl

theorem bs_of_box {w : World} {g n : Nat} {t : TypeId} {xs : List Value} {l : List UInt8} (h : Box w g t xs) (hx : xs = bv l) (hl : l.length = n) (hn : n ≤ 1000000) : Bs w (.slice (some ⟨g, 0, none⟩) n n) l := by
  subst hx
  have hr : Rw 1 w (.slice (some ⟨g, 0, none⟩) n n) n (bv l) := ⟨by rw [bv_length, hl]; omega, by unfold maxLen; omega, _, n, rfl, Nat.le_refl _, .inr ⟨g, 0, rfl, h.range⟩⟩
  exact hr.bs.1
theorem rof_c (k c q : Int) (w : World) : Calls Try.prog 38 #[.int .i64 k, .int .i64 c, .int .i64 q] w fun e w' => e = .returned (sval (k, c, q)) ∧ Later w w' := by
  have B0 := hide (Box.new w 35 #[.int .i64 k, .int .i64 c, .int .i64 q])
  have L0 := hide ((Later.refl w).alloc (.cells #[.int .i64 k, .int .i64 c, .int .i64 q] 35))
  go_enter Try.func38, Try.ntmps38
  go_wp2
  exact bodyPost_ret (results_cell1 rfl _ _ _ w.heap.size 0 rfl (sval (k, c, q)) (run_loadVar_mid _ _ _ _ [.int .i64 k, .int .i64 c, .int .i64 q] _ B0.out.range Try.underlying35 rfl (by kernel_rfl))) rfl ⟨rfl, L0.out⟩
def sAt (l : List UInt8) : Sns := ((l.getD 2 0).toNat, (l.getD 12 0).toNat, (l.getD 13 0).toNat)
def parseB (l : List UInt8) : Bool := l.length == 18 && bytesL (sAt l) == l
def parseS (l : List UInt8) : Sns := if parseB l then sAt l else (0, 0, 0)
def strOf (l : List UInt8) : ByteArray := ⟨l.toArray⟩
theorem strOf_inj {l m : List UInt8} : strOf l = strOf m ↔ l = m := by
  constructor
  · intro h
    have := congrArg (fun b : ByteArray => b.data.toList) h
    simpa [strOf] using this
  · intro h; rw [h]
theorem strOf_list (l : List UInt8) : (strOf l).toList = l := by rw [ByteArray.toList_eq]; simp [strOf]
theorem Bs.strOf {w : World} {v : Value} {l : List UInt8} (h : Bs w v l) : (convert 44 9 v).run Try.prog w = .ok (.string (strOf l)) w := h.str

end Go.Proofs.Ytkbpecbpfajkfaa

namespace Go.Proofs.Ytkbpecbpfajkfaa
open Go.ChangeShapes Go.WideShapes Go.ChangeAt Go.RowKit
set_option linter.unusedVariables false
set_option linter.unusedSimpArgs false

/-! The document's answers for lists of senses. -/
def hasB (L : List Sns) (s : Sns) : Bool := L.any (· == s)
end Go.Proofs.Ytkbpecbpfajkfaa

namespace Go.Proofs.Ytkbpecbpfajkfaa
open Go.ChangeShapes Go.WideShapes Go.ChangeAt Go.RowKit
set_option linter.unusedVariables false
set_option linter.unusedSimpArgs false

/-! The document's answers for lists of senses: Add, First. -/
def power : Sns := (6, 41, 0)
def addL (L : List Sns) (s : Sns) : List Sns := if hasB L s then L else if s == power then [s] else if 4 ≤ L.length then L else L ++ [s]
theorem addL_ok {L : List Sns} {s : Sns} (h : ∀ x ∈ L, OkS x) (hs : OkS s) : ∀ x ∈ addL L s, OkS x := by
  intro x hx
  unfold addL at hx
  split at hx
  · exact h x hx
  · split at hx
    · simp at hx; rw [hx]; exact hs
    · split at hx
      · exact h x hx
      · rcases List.mem_append.1 hx with hx | hx
        · exact h x hx
        · simp at hx; rw [hx]; exact hs
theorem addL_length (L : List Sns) (s : Sns) : (addL L s).length ≤ L.length + 1 := by
  unfold addL
  split
  · omega
  · split
    · simp
    · split
      · omega
      · simp
/-- a list in one's own memory -/
def SlO (w : World) (B : Nat) (v : Value) (L : List Sns) : Prop := w.ownsRow B 35 3 v L.length (sv L)
theorem SlO.sl {w : World} {B : Nat} {v : Value} {L : List Sns} (h : SlO w B v L) (ho : ∀ s ∈ L, OkS s) : Sl w v L := ⟨Rw.of_owns h, ho⟩
theorem SlO.later {w w' : World} {B : Nat} {v : Value} {L : List Sns} (h : SlO w B v L) (hl : Later w w') : SlO w' B v L := owns_later h hl
theorem SlO.rebase {w : World} {B B' : Nat} {v : Value} {L : List Sns} (h : SlO w B v L) (hb : B' ≤ B) : SlO w B' v L := owns_rebase h hb
theorem SlO.box (w : World) (s : Sns) : SlO (w.alloc (.cells #[.int .i64 s.1, .int .i64 s.2.1, .int .i64 s.2.2] 35)) w.heap.size (.slice (some ⟨w.heap.size, 0, none⟩) 1 1) [s] := by
  have := World.ownsRow_lit (base := w.heap.size) (e := 35) (size := 3) w #[.int .i64 s.1, .int .i64 s.2.1, .int .i64 s.2.2] 1 (Nat.le_refl _) (by simp [maxLen]) rfl
  unfold SlO
  rw [sv_single]
  exact this

def headS (L : List Sns) : Sns := L.headD (0, 0, 0)
end Go.Proofs.Ytkbpecbpfajkfaa

namespace Go.Proofs.Ytkbpecbpfajkfaa
open Go.ChangeShapes Go.WideShapes Go.ChangeAt Go.RowKit
set_option linter.unusedVariables false
set_option linter.unusedSimpArgs false

/-! Slots. Variables that hold no numbers lie apart from rows of numbers. -/
def NoInts (cs : List Value) : Prop := ∀ c ∈ cs, ∀ k z, c ≠ .int k z
def Ints (xs : List Value) : Prop := ∀ x ∈ xs, ∃ k z, x = .int k z
theorem bv_ints (l : List UInt8) : Ints (bv l) := fun x hx => by
  obtain ⟨b, _, rfl⟩ := List.mem_map.1 hx
  exact ⟨_, _, rfl⟩
theorem dv_ints (D : List Drt) : Ints (dv D) := fun x hx => by
  simp only [dv, List.mem_flatMap] at hx
  obtain ⟨d, _, hd⟩ := hx
  rcases List.mem_cons.1 hd with e | h
  · exact ⟨_, _, e⟩
  · exact bv_ints _ x h
theorem Rw.setBox {sz : Nat} {w : World} {v : Value} {n : Nat} {xs : List Value} {g : Nat} {ty : TypeId} {cs : List Value} (h : Rw sz w v n xs) (hx : Ints xs) (hB : Box w g ty cs) (hc : NoInts cs) (vs : List Value) (o : Nat) : Rw sz (w.setCells g o vs) v n xs := by
  obtain ⟨h1, h2, a, cap, rfl, hcap, h3⟩ := h
  refine ⟨h1, h2, a, cap, rfl, hcap, ?_⟩
  rcases h3 with h3 | ⟨b, off, rfl, hr⟩
  · exact .inl h3
  · refine .inr ⟨b, off, rfl, fun j u hu => ?_⟩
    have h4 := hr j u hu
    have hne : b ≠ g := fun e => by
      subst e
      rw [hB.cell] at h4
      obtain ⟨k, z, e⟩ := hx u (List.mem_of_getElem? hu)
      exact hc u (List.mem_of_getElem? h4) k z e
    rw [← h4]
    simp only [World.cell?, heap_setCells_other w g b hne]
theorem Med.setBox {w : World} {v : Value} {n : Nat} {F : List UInt8} {D : List Drt} {g : Nat} {ty : TypeId} {cs : List Value} (h : Med w v n F D) (hB : Box w g ty cs) (hc : NoInts cs) (vs : List Value) (o : Nat) : Med (w.setCells g o vs) v n F D := by
  obtain ⟨vb, vd, rfl, hb, hd, ho⟩ := h
  exact ⟨vb, vd, rfl, hb.setBox (bv_ints F) hB hc vs o, hd.setBox (dv_ints D) hB hc vs o, ho⟩

/-- a slot's cells -/
abbrev tc (vb vd : Value) (p r l : Bool) : List Value := [vb, vd, .bool p, .bool r, .bool l]
def Slt (w : World) (v : Value) (n : Nat) (F : List UInt8) (D : List Drt) (p r l : Bool) : Prop :=
  ∃ ab cb aD k cD, v = .agg #[.slice ab n cb, .slice aD k cD, .bool p, .bool r, .bool l] ∧ Med w (.agg #[.slice ab n cb, .slice aD k cD]) n F D
def OffT (g : Nat) (v : Value) : Prop := ∃ a b p r l, v = .agg #[a, b, .bool p, .bool r, .bool l] ∧ OffS g a ∧ OffS g b
/-- what comes out lies in what came in, or in new memory -/
def NewT (w : World) (v v' : Value) : Prop := ∀ g, g < w.heap.size → OffT g v → OffT g v'
theorem tc_noints (a b : Option Addr) (n m c d : Nat) (p r l : Bool) : NoInts (tc (.slice a n c) (.slice b m d) p r l) := by
  intro x hx k z
  simp at hx
  rcases hx with rfl | rfl | rfl | rfl | rfl <;> simp
theorem tc_one (a b : Option Addr) (n m c d : Nat) (p r l : Bool) : ∀ u ∈ tc (.slice a n c) (.slice b m d) p r l, u.oneCell' = true := by
  intro x hx
  simp at hx
  rcases hx with rfl | rfl | rfl | rfl | rfl <;> rfl
theorem Slt.later {w w' : World} {v : Value} {n : Nat} {F : List UInt8} {D : List Drt} {p r l : Bool} (h : Slt w v n F D p r l) (hl : Later w w') : Slt w' v n F D p r l := by
  obtain ⟨ab, cb, aD, k, cD, rfl, hm⟩ := h
  exact ⟨ab, cb, aD, k, cD, rfl, hm.later hl⟩
theorem Slt.old {w : World} {v : Value} {n : Nat} {F : List UInt8} {D : List Drt} {p r l : Bool} (h : Slt w v n F D p r l) {g : Nat} (hg : w.heap.size ≤ g) : OffT g v := by
  obtain ⟨ab, cb, aD, k, cD, rfl, hm⟩ := h
  obtain ⟨vb, vd, e, h1, h2, _⟩ := hm
  simp at e
  obtain ⟨rfl, rfl⟩ := e
  exact ⟨_, _, _, _, _, rfl, h1.old (by decide) hg, h2.old (by decide) hg⟩
theorem Try.info_slot : (Try.prog.info? 27).map (·.size) = some 5 := by kernel_rfl
theorem Try.zero_slot : (Try.prog.info? 27).map (fun i => (i.zero, i.size)) = some (some (.agg #[.slice none 0 0, .slice none 0 0, .bool false, .bool false, .bool false]), 5) := by kernel_rfl
/-- a slot is laid into the variable of the result -/
theorem slot_set {w w8 : World} {R : Nat} {a b : Option Addr} {n m c d n' : Nat} {p r l : Bool} {F : List UInt8} {D : List Drt} {cs : List Value} (hR : w.heap.size ≤ R) (hB : Box w8 R 27 cs) (hn : NoInts cs) (hl5 : cs.length = 5) (hl : Later w w8) (hm : Med w8 (.agg #[.slice a n c, .slice b m d]) n' F D) :
    Box (w8.setCells R 0 (tc (.slice a n c) (.slice b m d) p r l)) R 27 (tc (.slice a n c) (.slice b m d) p r l) ∧ Later w (w8.setCells R 0 (tc (.slice a n c) (.slice b m d) p r l)) ∧ Med (w8.setCells R 0 (tc (.slice a n c) (.slice b m d) p r l)) (.agg #[.slice a n c, .slice b m d]) n' F D :=
  ⟨hB.all _ (by simp [hl5]), hl.setCells hR _ 0, hm.setBox hB hn _ 0⟩
theorem Slt.mk' {w : World} {a b : Option Addr} {n m c d n' : Nat} {F : List UInt8} {D : List Drt} (p r l : Bool) (hm : Med w (.agg #[.slice a n c, .slice b m d]) n' F D) : Slt w (.agg #[.slice a n c, .slice b m d, .bool p, .bool r, .bool l]) n' F D p r l := by
  obtain ⟨vb, vd, e, h1, h2, h3⟩ := hm
  simp at e
  obtain ⟨rfl, rfl⟩ := e
  have : n = n' := by
    obtain ⟨a', c', e'⟩ := h1.shape
    simp at e'
    exact e'.2.1
  subst this
  exact ⟨a, c, b, m, d, rfl, _, _, rfl, h1, h2, h3⟩
theorem shut5 {w : World} {R : Nat} {cs : List Value} (h : Box w R 27 cs) (hl : cs.length = 5) : (loadVar 27 ⟨R, 0, none⟩).run Try.prog w = .ok (.agg cs.toArray) w :=
  run_loadVar_mid _ _ _ _ cs _ h.range Try.underlying27 rfl (by rw [Try.info_slot, hl])
/-- a store into the parameter's variable: it turns, the result's stays, the medium stays -/
theorem tri_set {w w3 : World} {gX gR : Nat} {tR : TypeId} {cs cr : List Value} {v : Value} {n : Nat} {F : List UInt8} {D : List Drt} (hX : w.heap.size ≤ gX) (hne : gX ≠ gR) (BX : Box w3 gX 27 cs) (hn : NoInts cs) (BR : Box w3 gR tR cr) (L : Later w w3) (M : Med w3 v n F D) (vs : List Value) (o : Nat) (ho : o + vs.length ≤ cs.length) :
    Box (w3.setCells gX o vs) gX 27 (cs.take o ++ vs ++ cs.drop (o + vs.length)) ∧ Box (w3.setCells gX o vs) gR tR cr ∧ Later w (w3.setCells gX o vs) ∧ Med (w3.setCells gX o vs) v n F D :=
  ⟨BX.setCells vs o ho, BR.kept (heap_setCells_other w3 gX gR (fun e => hne e.symm) _ _), L.setCells hX vs o, M.setBox BX hn vs o⟩
theorem Rw.setOff {sz : Nat} {w : World} {v : Value} {n : Nat} {xs : List Value} {g : Nat} (h : Rw sz w v n xs) (hx : OffS g v) (vs : List Value) (o : Nat) : Rw sz (w.setCells g o vs) v n xs := by
  obtain ⟨h1, h2, a, cap, rfl, hcap, h3⟩ := h
  refine ⟨h1, h2, a, cap, rfl, hcap, ?_⟩
  rcases h3 with h3 | ⟨b, off, rfl, hr⟩
  · exact .inl h3
  · rcases hx with hx | hx
    · exact .inl hx
    · refine .inr ⟨b, off, rfl, fun j u hu => ?_⟩
      rw [← hr j u hu]
      simp only [World.cell?, heap_setCells_other w g b (fun e => hx e)]
theorem Slt.setOff {w : World} {v : Value} {n : Nat} {F : List UInt8} {D : List Drt} {p r l : Bool} {g : Nat} (h : Slt w v n F D p r l) (hx : OffT g v) (vs : List Value) (o : Nat) : Slt (w.setCells g o vs) v n F D p r l := by
  obtain ⟨ab, cb, aD, k, cD, rfl, hm⟩ := h
  obtain ⟨a, b, p', r', l', e, o1, o2⟩ := hx
  simp at e
  obtain ⟨rfl, rfl, _⟩ := e
  obtain ⟨vb, vd, e, h1, h2, h3⟩ := hm
  simp at e
  obtain ⟨rfl, rfl⟩ := e
  exact ⟨ab, cb, aD, k, cD, rfl, _, _, rfl, h1.setOff o1 vs o, h2.setOff o2 vs o, h3⟩
/-- two results, each in a variable of its own -/
theorem results_cell_cell' {fn : Func} {p q : Tmp} {ty ty' : TypeId} (h : fn.results = #[.cell p ty, .cell q ty']) (tmps : Array Value) (P : Program) (w : World) (b o b' o' : Nat) (hp : tmps.getD p undef = .pointer (some ⟨b, o, none⟩)) (hq : tmps.getD q undef = .pointer (some ⟨b', o', none⟩)) (v u : Value) (hl : (loadVar ty ⟨b, o, none⟩).run P w = .ok v w) (hl' : (loadVar ty' ⟨b', o', none⟩).run P w = .ok u w) :
    (results fn tmps).run P w = .ok (.tuple #[v, u]) w := by
  have ha : (asAddr (tmps.getD p undef)).run P w = .ok ⟨b, o, none⟩ w := by rw [hp]; rfl
  have hb : (asAddr (tmps.getD q undef)).run P w = .ok ⟨b', o', none⟩ w := by rw [hq]; rfl
  simp only [results, h]
  simp only [List.mapM_toArray, Sem.run_bind]
  simp [ha, hl, hb, hl', -Array.getD_eq_getD_getElem?]
theorem shut3 {w : World} {R : Nat} {s : Sns} (h : Box w R 35 (sc s)) : (loadVar 35 ⟨R, 0, none⟩).run Try.prog w = .ok (sval s) w :=
  run_loadVar_mid _ _ _ _ (sc s) _ h.range Try.underlying35 rfl Try.info_sense
/-- a store of a struct into a variable of whatever type; the world behind it gets a name -/
theorem wpList_storeT {P : Program} {w : World} {ops : Array Oper} {rest : List Oper} {op : Oper} {a : Act} {Q : Exit → Act → World → Prop} (hgd : op.guard = none) (ty : TypeId) (x y : Operand) (ho : op.op = .store ty x y) (g o : Nat) (hx : a.eval x = .pointer (some ⟨g, o, none⟩)) (vs : List Value) (hy : a.eval y = .agg vs.toArray)
    (hi : (P.info? ty).map (·.size) = some vs.length) (h1 : ∀ u ∈ vs, u.oneCell' = true) (t : TypeId) (cs : List Value) (hB : Box w g t cs) (hl : o + vs.length ≤ cs.length)
    (h : ∀ w', Hid (w' = w.setCells g o vs) → wpList P ops Q rest (a.put op.dst undef) w') : wpList P ops Q (op :: rest) a w :=
  wpList_store_mid hgd ty x y ho g o vs.toArray hx hy (by simpa using hB.there o vs.length hl) (by simpa using hi) (all_oneCell_toArray h1) (h _ rfl)
/-- a store of one cell -/
theorem wpList_storeC {P : Program} {w : World} {ops : Array Oper} {rest : List Oper} {op : Oper} {a : Act} {Q : Exit → Act → World → Prop} (hgd : op.guard = none) (ty : TypeId) (x y : Operand) (ho : op.op = .store ty x y) (g o : Nat) (hx : a.eval x = .pointer (some ⟨g, o, none⟩)) (b : Bool) (hy : a.eval y = .bool b)
    (hs : (P.info? ty).map (·.size) = some 1) (t : TypeId) (cs : List Value) (hB : Box w g t cs) (hl : o < cs.length)
    (h : ∀ w', Hid (w' = w.setCells g o [.bool b]) → wpList P ops Q rest (a.put op.dst undef) w') : wpList P ops Q (op :: rest) a w := by
  refine wpList_plain hgd fun K hK => ?_
  have hc : w.cell? ⟨g, o, none⟩ = some (cs[o]'hl) := by rw [hB.cell o, List.getElem?_eq_getElem hl]
  have hf := hB.frozen o
  have hrun : (Instr.storeAt ty (.pointer (some ⟨g, o, none⟩)) (.bool b)).run P w = .ok () (w.setCells g o [.bool b]) := by
    simp [Instr.storeAt, Instr.sureAddr, storeVar, run_size hs, Value.cells, World.setCells]
    go_simp
  unfold Go.Oper.wp
  simp [execOp, ho, hx, hy, hrun, Result.andThen]
  exact hK _ _ (h _ rfl)
end Go.Proofs.Ytkbpecbpfajkfaa

namespace Go.Proofs.Ytkbpecbpfajkfaa
open Go.ChangeShapes Go.WideShapes Go.ChangeAt Go.RowKit
set_option linter.unusedVariables false
set_option linter.unusedSimpArgs false

/-! The document's answers for slots. -/
def syncF (n : Nat) (F : List UInt8) (D : List Drt) : List UInt8 := if rightB n D then app F D else F
def syncD (n : Nat) (D : List Drt) : List Drt := if rightB n D then [] else D

set_option maxRecDepth 20000 in
set_option maxHeartbeats 1000000 in
theorem rinsert_c {v : Value} {n : Nat} {F : List UInt8} {D : List Drt} {p r l : Bool} (w : World) (h : Slt w v n F D p r l) :
    Calls Try.prog 12 #[v] w fun e w' => ∃ v', e = .returned (.tuple #[v', .bool (!p)]) ∧ Later w w' ∧ Slt w' v' n F D true r l ∧ NewT w v v' := by
  obtain ⟨ab, cb, aD, k, cD, rfl, hm⟩ := h
  have HM := hide hm
  clear hm
  cases p with
  | true =>
    go_enter Try.func12, Try.ntmps12
    go_wp2
    refine bodyPost_ret (results_cell_tmp rfl _ _ _ (w.heap.size + 1) 0 rfl (.agg #[.slice ab n cb, .slice aD k cD, .bool true, .bool r, .bool l]) (.bool false) (shut5 (cs := tc (.slice ab n cb) (.slice aD k cD) true r l) (Box.new' _ _ _ _ rfl _ (by simp)) rfl) rfl) rfl ⟨_, rfl, ((Later.refl w).alloc _).alloc _, Slt.mk' _ _ _ (HM.out.later (((Later.refl w).alloc _).alloc _)), fun g hg ⟨a, b, p, r, l, e, h1, h2⟩ => ?_⟩
    simp at e
    obtain ⟨rfl, rfl, _⟩ := e
    exact ⟨_, _, _, _, _, rfl, h1, h2⟩
  | false =>
    go_enter Try.func12, Try.ntmps12
    go_wp2
    refine bodyPost_ret (results_cell_tmp rfl _ _ _ (w.heap.size + 1) 0 rfl (.agg #[.slice ab n cb, .slice aD k cD, .bool true, .bool r, .bool l]) (.bool true) (shut5 (cs := tc (.slice ab n cb) (.slice aD k cD) true r l) (Box.new' _ _ _ _ rfl _ (by simp)) rfl) rfl) rfl ⟨_, rfl, ((Later.refl w).alloc _).alloc _, Slt.mk' _ _ _ (HM.out.later (((Later.refl w).alloc _).alloc _)), fun g hg ⟨a, b, p, r, l, e, h1, h2⟩ => ?_⟩
    simp at e
    obtain ⟨rfl, rfl, _⟩ := e
    exact ⟨_, _, _, _, _, rfl, h1, h2⟩

set_option maxRecDepth 20000 in
set_option maxHeartbeats 1000000 in
theorem rsync_c {v : Value} {n : Nat} {F : List UInt8} {D : List Drt} {p r l : Bool} (w : World) (h : Slt w v n F D p r l) :
    Calls Try.prog 23 #[v] w fun e w' => ∃ v', e = .returned v' ∧ Later w w' ∧ Slt w' v' n (syncF n F D) (syncD n D) p r l ∧ NewT w v v' := by
  obtain ⟨ab, cb, aD, k, cD, rfl, hm⟩ := h
  have HM := hide hm
  have BX : Hid (Box (w.alloc (.cells #[.slice ab n cb, .slice aD k cD, .bool p, .bool r, .bool l] 27)) w.heap.size 27 (tc (.slice ab n cb) (.slice aD k cD) p r l)) := Box.new w 27 #[.slice ab n cb, .slice aD k cD, .bool p, .bool r, .bool l]
  have L := hide ((Later.refl w).alloc (.cells #[.slice ab n cb, .slice aD k cD, .bool p, .bool r, .bool l] 27))
  clear hm
  have BR : Hid (Box ((w.alloc (.cells #[.slice ab n cb, .slice aD k cD, .bool p, .bool r, .bool l] 27)).alloc (.cells #[.slice none 0 0, .slice none 0 0, .bool false, .bool false, .bool false] 27)) (w.heap.size + 1) 27 (tc (.slice none 0 0) (.slice none 0 0) false false false)) := Box.new' _ _ _ _ rfl _ (by simp)
  replace BX := hide (BX.out.alloc (.cells #[.slice none 0 0, .slice none 0 0, .bool false, .bool false, .bool false] 27))
  replace L := hide (L.out.alloc (.cells #[.slice none 0 0, .slice none 0 0, .bool false, .bool false, .bool false] 27))
  have M1 := hide (HM.out.later L.out)
  go_enter Try.func23, Try.ntmps23
  go_wp2_with fail
  generalize ((w.alloc (.cells #[.slice ab n cb, .slice aD k cD, .bool p, .bool r, .bool l] 27)).alloc (.cells #[.slice none 0 0, .slice none 0 0, .bool false, .bool false, .bool false] 27)) = w1 at *
  refine (rright_c w1 M1.out).mono ?_
  rintro e w2 ⟨rfl, hl⟩
  replace BX := hide (BX.out.later hl)
  replace BR := hide (BR.out.later hl)
  replace L := hide (L.out.later hl)
  replace M1 := hide (M1.out.later hl)
  clear hl
  have d0 := BX.out.cell 0
  have d1 := BX.out.cell 1
  have d2 := BX.out.cell 2
  have d3 := BX.out.cell 3
  have d4 := BX.out.cell 4
  cases hR : rightB n D with
  | true =>
    have hF : Hid (syncF n F D = app F D ∧ syncD n D = []) := by simp [Hid, syncF, syncD, hR]
    go_wp2_with fail
    refine (rall_c w2 M1.out).mono ?_
    rintro e w3 ⟨vb, rfl, hl, hb⟩
    simp only [allN, allF, hR, if_true] at hb
    have O3 : Hid (w3.ownsRow w.heap.size 50 64 vb n (bv (app F D))) := owns_rebase hb L.out.size
    replace BX := hide (BX.out.later hl)
    replace BR := hide (BR.out.later hl)
    replace L := hide (L.out.later hl)
    clear hl hb d0 d1 d2 d3 d4 M1
    obtain ⟨a3, c3, rfl⟩ := (Rw.of_owns O3.out).shape
    have M3 : Hid (Med w3 (.agg #[.slice a3 n c3, .slice none 0 0]) n (app F D) []) := ⟨_, _, rfl, Rw.of_owns O3.out, Rw.nil 65 _, fun d hd => by cases hd⟩
    have HX := hide (BX.out.setCells [.slice a3 n c3, .slice none 0 0] 0 (by simp))
    have M4 := hide (M3.out.setBox BX.out (tc_noints _ _ _ _ _ _ _ _ _) [.slice a3 n c3, .slice none 0 0] 0)
    have BR4 : Hid (Box (w3.setCells w.heap.size 0 [.slice a3 n c3, .slice none 0 0]) (w.heap.size + 1) 27 (tc (.slice none 0 0) (.slice none 0 0) false false false)) := BR.out.kept (heap_setCells_other w3 w.heap.size (w.heap.size + 1) (by omega) _ _)
    have L4 := hide (L.out.setCells (g := w.heap.size) (Nat.le_refl _) [.slice a3 n c3, .slice none 0 0] 0)
    have ht0 : Hid (w3.there w.heap.size 0 2) := BX.out.there 0 2 (by simp)
    have d0 := HX.out.cell 0
    have d1 := HX.out.cell 1
    have d2 := HX.out.cell 2
    have d3 := HX.out.cell 3
    have d4 := HX.out.cell 4
    have ht : Hid ((w3.setCells w.heap.size 0 [.slice a3 n c3, .slice none 0 0]).there (w.heap.size + 1) 0 5) := BR4.out.there 0 5 (by simp)
    have HE := hide (slot_set (p := p) (r := r) (l := l) (by omega) BR4.out (tc_noints _ _ _ _ _ _ _ _ _) rfl L4.out M4.out)
    clear HX M4 M3 L4 BX BR
    go_wp2_with (first
      | refine wpList_store_mid rfl 25 (.tmp 10) (.tmp 9) rfl w.heap.size 0 [.slice a3 n c3, .slice none 0 0].toArray rfl rfl ht0.out (zero_of_info Try.zero_medium).2 (by simp [Value.oneCell']) ?_
      | refine wpList_store_mid rfl 27 (.tmp 2) (.tmp 11) rfl (w.heap.size + 1) 0 (tc (.slice a3 n c3) (.slice none 0 0) p r l).toArray rfl rfl ht.out Try.info_slot (all_oneCell_toArray (tc_one _ _ _ _ _ _ _ _ _)) ?_)
    refine bodyPost_ret (results_cell1 rfl _ _ _ (w.heap.size + 1) 0 rfl (.agg #[.slice a3 n c3, .slice none 0 0, .bool p, .bool r, .bool l]) (shut5 HE.out.1 rfl)) rfl ⟨_, rfl, HE.out.2.1, ?_, fun g hg h => ⟨_, _, _, _, _, rfl, owns_off O3.out hg, trivial⟩⟩
    rw [hF.out.1, hF.out.2]
    exact Slt.mk' _ _ _ HE.out.2.2
  | false =>
    have hF : Hid (syncF n F D = F ∧ syncD n D = D) := by simp [Hid, syncF, syncD, hR]
    have ht : Hid (w2.there (w.heap.size + 1) 0 5) := BR.out.there 0 5 (by simp)
    have HE := hide (slot_set (p := p) (r := r) (l := l) (by omega) BR.out (tc_noints _ _ _ _ _ _ _ _ _) rfl L.out M1.out)
    go_wp2_with (refine wpList_store_mid rfl 27 (.tmp 2) (.tmp 11) rfl (w.heap.size + 1) 0 (tc (.slice ab n cb) (.slice aD k cD) p r l).toArray rfl rfl ht.out Try.info_slot (all_oneCell_toArray (tc_one _ _ _ _ _ _ _ _ _)) ?_)
    refine bodyPost_ret (results_cell1 rfl _ _ _ (w.heap.size + 1) 0 rfl (.agg #[.slice ab n cb, .slice aD k cD, .bool p, .bool r, .bool l]) (shut5 HE.out.1 rfl)) rfl ⟨_, rfl, HE.out.2.1, ?_, fun g hg h => h⟩
    rw [hF.out.1, hF.out.2]
    exact Slt.mk' _ _ _ HE.out.2.2
end Go.Proofs.Ytkbpecbpfajkfaa
