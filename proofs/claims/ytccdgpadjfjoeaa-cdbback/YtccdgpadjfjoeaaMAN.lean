import Derived.Test.YtccdgpadjfjoeaaMAK
import Derived.Test.YtccdgpadjfjoeaaMAM
import Derived.Test.YtccdgpadjfjoeaaMAL
namespace Go.Proofs.Ytccdgpadjfjoeaa
open Go.ChangeShapes Go.WideShapes Go.ChangeAt Go.RowKit
set_option linter.unusedVariables false
set_option linter.unusedSimpArgs false

/-! Two commands held against one another. -/
theorem map_five {α β : Type} {f : α → β} {l : List α} {x y z u v : β} (h : l.map f = [x, y, z, u, v]) : ∃ a b c d e, l = [a, b, c, d, e] ∧ f a = x ∧ f b = y ∧ f c = z ∧ f d = u ∧ f e = v := by
  match l, h with
  | [a, b, c, d, e], h => simp at h; exact ⟨a, b, c, d, e, rfl, h.1, h.2.1, h.2.2.1, h.2.2.2.1, h.2.2.2.2⟩
  | [_], h => simp at h
  | [_, _], h => simp at h
  | [_, _, _], h => simp at h
  | [_, _, _, _], h => simp at h
  | _ :: _ :: _ :: _ :: _ :: _ :: _, h => simp at h
theorem eqFields_cons {P : Program} (w : World) (d : Nat) (xs ys : Array Value) (f : Field) (fs : List Field) (hf : f.name ≠ "_") (a b : Value) (r r' : Bool)
    (p1 : (part f.type xs f.offset).run P w = .ok a w) (p2 : (part f.type ys f.offset).run P w = .ok b w) (p3 : (Op.equalIn d f.type a b).run P w = .ok r w)
    (ih : (Op.eqFields d xs ys fs).run P w = .ok r' w) : (Op.eqFields d xs ys (f :: fs)).run P w = .ok (r && r') w := by
  simp only [Op.eqFields, hf, ne_eq, not_false_eq_true, if_true, Sem.run_bind, p1, p2, p3, Result.andThen_ok]
  cases r <;> simp [ih]
theorem eqFields_nil {P : Program} (w : World) (d : Nat) (xs ys : Array Value) : (Op.eqFields d xs ys []).run P w = .ok true w := by simp [Op.eqFields]
theorem part_cellU {P : Program} {t : TypeId} {k : IntKind} (w : World) (ht : P.underlying t = some (.int k)) (cs : Array Value) (o : Nat) (v : Value) (h : cs[o]? = some v) : (part t cs o).run P w = .ok v w := by
  simp [part, isAgg, run_underlying ht, h]
theorem Try.fields_cmd : (Try.prog.fieldsOf 26).toList.map (fun f => (f.name, f.type, f.offset)) = [("Op", 3, 0), ("At", 24, 1), ("N", 3, 2), ("Page", 3, 3), ("Bits", 3, 4)] := by kernel_rfl
theorem Try.is_cmd : Try.prog.underlying 26 = some (.struct (Try.prog.fieldsOf 26)) := by kernel_rfl
theorem Try.plain_cmd : Try.prog.stoodInHeld 26 = false := by kernel_rfl
theorem Try.guard_cmd : Try.prog.eqGuardType Try.prog.depth 26 = false := by kernel_rfl
theorem cmd_beq (s t : Cmd) : (s == t) = (decide (s.1 = t.1) && (decide ((s.2.1 : Int) = (t.2.1 : Int)) && (decide (s.2.2.1 = t.2.2.1) && (decide (s.2.2.2.1 = t.2.2.2.1) && (decide (s.2.2.2.2 = t.2.2.2.2) && true))))) := by
  obtain ⟨a, b, c, d, e⟩ := s
  obtain ⟨a', b', c', d', e'⟩ := t
  rw [Bool.eq_iff_iff]
  simp
  intros
  omega
theorem cmd_eq (s t : Cmd) (w : World) : (Op.equalIn 10000 26 (cval s) (cval t)).run Try.prog w = .ok (s == t) w := by
  refine (run_equalIn_struct w 9999 26 _ _ Try.is_cmd Try.plain_cmd).trans ?_
  obtain ⟨f, g, h, i, j, hfs, hf, hg, hh, hi, hj⟩ := map_five Try.fields_cmd
  rw [hfs, cmd_beq]
  simp only [Prod.mk.injEq] at hf hg hh hi hj
  obtain ⟨n1, t1, o1⟩ := hf
  obtain ⟨n2, t2, o2⟩ := hg
  obtain ⟨n3, t3, o3⟩ := hh
  obtain ⟨n4, t4, o4⟩ := hi
  obtain ⟨n5, t5, o5⟩ := hj
  have ki : ∀ x y : Int, (Op.equalIn 9999 3 (.int .i64 x) (.int .i64 y)).run Try.prog w = .ok (decide (x = y)) w := fun x y => run_equalIn_int (P := Try.prog) w 9998 3 .i64 .i64 x y Try.underlying3
  have ku : ∀ x y : Int, (Op.equalIn 9999 24 (.int .u64 x) (.int .u64 y)).run Try.prog w = .ok (decide (x = y)) w := fun x y => run_equalIn_int (P := Try.prog) w 9998 24 .u64 .u64 x y Try.underlying24
  refine eqFields_cons w 9999 _ _ f _ (by rw [n1]; decide) (.int .i64 s.1) (.int .i64 t.1) _ _ (by rw [t1, o1]; exact part_cellU w Try.underlying3 _ _ _ rfl) (by rw [t1, o1]; exact part_cellU w Try.underlying3 _ _ _ rfl) (by rw [t1]; exact ki _ _) ?_
  refine eqFields_cons w 9999 _ _ g _ (by rw [n2]; decide) (.int .u64 (s.2.1 : Int)) (.int .u64 (t.2.1 : Int)) _ _ (by rw [t2, o2]; exact part_cellU w Try.underlying24 _ _ _ rfl) (by rw [t2, o2]; exact part_cellU w Try.underlying24 _ _ _ rfl) (by rw [t2]; exact ku _ _) ?_
  refine eqFields_cons w 9999 _ _ h _ (by rw [n3]; decide) (.int .i64 s.2.2.1) (.int .i64 t.2.2.1) _ _ (by rw [t3, o3]; exact part_cellU w Try.underlying3 _ _ _ rfl) (by rw [t3, o3]; exact part_cellU w Try.underlying3 _ _ _ rfl) (by rw [t3]; exact ki _ _) ?_
  refine eqFields_cons w 9999 _ _ i _ (by rw [n4]; decide) (.int .i64 s.2.2.2.1) (.int .i64 t.2.2.2.1) _ _ (by rw [t4, o4]; exact part_cellU w Try.underlying3 _ _ _ rfl) (by rw [t4, o4]; exact part_cellU w Try.underlying3 _ _ _ rfl) (by rw [t4]; exact ki _ _) ?_
  refine eqFields_cons w 9999 _ _ j _ (by rw [n5]; decide) (.int .i64 s.2.2.2.2) (.int .i64 t.2.2.2.2) _ _ (by rw [t5, o5]; exact part_cellU w Try.underlying3 _ _ _ rfl) (by rw [t5, o5]; exact part_cellU w Try.underlying3 _ _ _ rfl) (by rw [t5]; exact ki _ _) ?_
  exact eqFields_nil w 9999 _ _
theorem wpList_eqC {w : World} {ops : Array Oper} {rest : List Oper} {o : Oper} {a : Act} {Q : Exit → Act → World → Prop} (hw : Region.wanted o (yielded ops a.tmps) = true) (x y : Operand) (hop : o.op = .binOp .eql 26 x y 26)
    (s t : Cmd) (hx : a.eval x = cval s) (hy : a.eval y = cval t) (r : Bool) (hr : (s == t) = r) (h : wpList Try.prog ops Q rest (a.put o.dst (.bool r)) w) : wpList Try.prog ops Q (o :: rest) a w := by
  subst hr
  refine wpList_step fun K hK => ?_
  rw [if_pos hw]
  unfold Go.Oper.wp execOp
  simp [hop, hx, hy, run_eqGuard_agg w .eql 26 x y _ _ Try.guard_cmd, run_eql_struct, cmd_eq, Result.andThen]
  exact hK _ _ h
theorem wpList_neqC {w : World} {ops : Array Oper} {rest : List Oper} {o : Oper} {a : Act} {Q : Exit → Act → World → Prop} (hw : Region.wanted o (yielded ops a.tmps) = true) (x y : Operand) (hop : o.op = .binOp .neq 26 x y 26)
    (s t : Cmd) (hx : a.eval x = cval s) (hy : a.eval y = cval t) (r : Bool) (hr : (!(s == t)) = r) (h : wpList Try.prog ops Q rest (a.put o.dst (.bool r)) w) : wpList Try.prog ops Q (o :: rest) a w := by
  subst hr
  refine wpList_step fun K hK => ?_
  rw [if_pos hw]
  unfold Go.Oper.wp execOp
  simp [hop, hx, hy, run_eqGuard_agg w .neq 26 x y _ _ Try.guard_cmd, run_neq_struct, cmd_eq, Result.andThen]
  exact hK _ _ h
/-- 'x := v', v a command -/
theorem wpList_newC {w : World} {ops : Array Oper} {rest : List Oper} {o1 o2 : Oper} {a : Act} {Q : Exit → Act → World → Prop} (hg1 : o1.guard = none) (hg2 : o2.guard = none) (h1 : o1.op = .alloc 26) (d : Tmp) (hd : o1.dst = some d) (hd' : d < a.tmps.size) (y : Operand) (hy' : y ≠ .tmp d) (h2 : o2.op = .store 26 (.tmp d) y)
    (s : Cmd) (hy : a.eval y = cval s)
    (h : ∀ (g : Nat) (w' : World), Box w' g 26 (cc s) → Later w w' → Hid (g = w.heap.size ∧ w' = w.alloc (.cells (cc s).toArray 26)) → wpList Try.prog ops Q rest ((a.put (some d) (.pointer (some ⟨g, 0, none⟩))).put o2.dst undef) w') : wpList Try.prog ops Q (o1 :: o2 :: rest) a w :=
  wpList_new hg1 hg2 26 h1 d hd hd' y hy' h2 #[.int .i64 0, .int .u64 0, .int .i64 0, .int .i64 0, .int .i64 0] (cc s) Try.zero_cmd rfl hy (cc_one s) h
/-- 'x, y := f(..)', a command and a sense -/
theorem wpList_newCS {w : World} {ops : Array Oper} {rest : List Oper} {o1 o2 o3 o4 : Oper} {a : Act} {Q : Exit → Act → World → Prop} (hg1 : o1.guard = none) (hg2 : o2.guard = none) (hg3 : o3.guard = none) (hg4 : o4.guard = none)
    (h1 : o1.op = .alloc 26) (h2 : o2.op = .alloc 28) (d1 d2 : Tmp) (hd1 : o1.dst = some d1) (hd2 : o2.dst = some d2) (hs1 : d1 < a.tmps.size) (hs2 : d2 < a.tmps.size) (hne : d1 ≠ d2) (y1 y2 : Operand) (hy1 : y1 ≠ .tmp d1) (hy1' : y1 ≠ .tmp d2) (hy2 : y2 ≠ .tmp d1) (hy2' : y2 ≠ .tmp d2)
    (h3 : o3.op = .store 26 (.tmp d1) y1) (h4 : o4.op = .store 28 (.tmp d2) y2) (hd3 : o3.dst = none) (hd4 : o4.dst = none) (c : Cmd) (s : Sns)
    (e1 : a.eval y1 = cval c) (e2 : a.eval y2 = sval s)
    (h : ∀ (g1 g2 : Nat) (w' : World), Box w' g1 26 (cc c) → Box w' g2 28 (sc s) → Later w w' → Hid (g1 = w.heap.size ∧ g2 = w.heap.size + 1) → wpList Try.prog ops Q rest ((a.put (some d1) (.pointer (some ⟨g1, 0, none⟩))).put (some d2) (.pointer (some ⟨g2, 0, none⟩))) w') : wpList Try.prog ops Q (o1 :: o2 :: o3 :: o4 :: rest) a w :=
  wpList_new2 hg1 hg2 hg3 hg4 26 28 h1 h2 d1 d2 hd1 hd2 hs1 hs2 hne y1 y2 hy1 hy1' hy2 hy2' h3 h4 hd3 hd4 #[.int .i64 0, .int .u64 0, .int .i64 0, .int .i64 0, .int .i64 0] #[.int .i64 0, .int .i64 0, .int .i64 0] (cc c) (sc s) Try.zero_cmd rfl Try.zero_sense rfl e1 e2 (cc_one c) (sc_one s) h
end Go.Proofs.Ytccdgpadjfjoeaa

namespace Go.Proofs.Ytccdgpadjfjoeaa
open Go.ChangeShapes Go.WideShapes Go.ChangeAt Go.RowKit
set_option linter.unusedVariables false
set_option linter.unusedSimpArgs false

/-! Bytes that are made, and one of them that is set: the world behind it stands by itself. -/
theorem wpList_makeB {w : World} {ops : Array Oper} {rest : List Oper} {o : Oper} {a : Act} {Q : Exit → Act → World → Prop} (hg : o.guard = none) (l c : Operand) (hop : o.op = Op.makeSlice 22 l c) (n : Nat) (hl : a.eval l = .int .i64 (n : Int)) (hc : a.eval c = .int .i64 (n : Int)) (hn : n ≤ 100000)
    (h : ∀ (g : Nat) (w' : World), Box w' g 5 (bv (List.replicate n 0)) → Later w w' → Hid (g = w.heap.size) → wpList Try.prog ops Q rest (a.put o.dst (.slice (some ⟨g, 0, none⟩) n n)) w') : wpList Try.prog ops Q (o :: rest) a w := by
  refine wpList_plain hg fun K hK => ?_
  have hrun := run_make_row' (P := Try.prog) 22 5 (.int .u8 0) 1 Try.underlying22 Try.info_u8 rfl .i64 .i64 n (by omega) (by omega) w
  unfold Go.Oper.wp
  simp [execOp, hop, hl, hc, hrun, Result.andThen]
  exact hK _ _ (h _ _ (Box.new' _ _ _ _ (made_zero n) _ rfl) ((Later.refl w).alloc _) rfl)
theorem wpList_storeB {P : Program} {w : World} {ops : Array Oper} {rest : List Oper} {op : Oper} {a : Act} {Q : Exit → Act → World → Prop} (hgd : op.guard = none) (ty : TypeId) (x y : Operand) (ho : op.op = .store ty x y) (g o : Nat) (hx : a.eval x = .pointer (some ⟨g, o, none⟩)) (z : Int) (hy : a.eval y = .int .u8 z)
    (hs : (P.info? ty).map (·.size) = some 1) (t : TypeId) (l : List UInt8) (hB : Box w g t (bv l)) (hl : o < l.length) (b : UInt8) (hb : z = (b.toNat : Int))
    (h : ∀ w', Box w' g t (bv (l.set o b)) → Hid (w' = w.setCells g o [.int .u8 z]) → wpList P ops Q rest (a.put op.dst undef) w') : wpList P ops Q (op :: rest) a w := by
  refine wpList_plain hgd fun K hK => ?_
  have hl' : o < (bv l).length := by rw [bv_length]; exact hl
  have hc : w.cell? ⟨g, o, none⟩ = some ((bv l)[o]'hl') := by rw [hB.cell o, List.getElem?_eq_getElem hl']
  have hf := hB.frozen o
  have hrun : (Instr.storeAt ty (.pointer (some ⟨g, o, none⟩)) (.int .u8 z)).run P w = .ok () (w.setCells g o [.int .u8 z]) := by
    simp [Instr.storeAt, Instr.sureAddr, storeVar, run_size hs, Value.cells, World.setCells]
    go_simp
  have hB2 : Box (w.setCells g o [.int .u8 z]) g t (bv (l.set o b)) := by
    rw [bv_set, ← hb]
    exact hB.set o _
  unfold Go.Oper.wp
  simp [execOp, ho, hx, hy, hrun, Result.andThen]
  exact hK _ _ (h _ hB2 rfl)

/-! Bytes. -/
def initB (op : Int) : List UInt8 := (List.replicate (sizeN op) 0).set 0 (b8 op)
def layC (c : Cmd) : List UInt8 := layF (formN c.1) (initB c.1) c
def bytesB (c : Cmd) : Bool := knownB c.1 && ((parseI (layC c)).1 == c && (parseI (layC c)).2 == ((0, 0, 0) : Sns))
def bytesI (c : Cmd) : List UInt8 := if bytesB c then layC c else []
def OkC (c : Cmd) : Prop := (-9223372036854775808 ≤ c.1 ∧ c.1 ≤ 9223372036854775807) ∧ c.2.1 ≤ 18446744073709551615 ∧ (-9223372036854775808 ≤ c.2.2.1 ∧ c.2.2.1 ≤ 9223372036854775807) ∧ (-9223372036854775808 ≤ c.2.2.2.1 ∧ c.2.2.2.1 ≤ 9223372036854775807) ∧ (-9223372036854775808 ≤ c.2.2.2.2 ∧ c.2.2.2.2 ≤ 9223372036854775807)
theorem initB_length (op : Int) : (initB op).length = sizeN op := by simp [initB]
theorem parseI_sns (l : List UInt8) : (parseI l).2 = (0, 0, 0) ∨ (parseI l).2 = (5, 32, 0) ∨ (parseI l).2 = (5, 36, 0) := by
  unfold parseI parseOp
  split
  · simp
  split
  · simp
  split
  · simp
  split <;> simp
theorem parseI_ok (l : List UInt8) : OkS (parseI l).2 := by
  rcases parseI_sns l with h | h | h <;> rw [h] <;> (unfold OkS; simp)
theorem okP6 (op : Int) (h : knownB op = true) : (∀ r ∈ (formN op).2.2.2.2.2, OkR r ∧ OkP r.1 (sizeN op)) ∧ OkP (formN op).1 (sizeN op) ∧ OkP (formN op).2.1 (sizeN op) ∧ OkP (formN op).2.2.1 (sizeN op) ∧ OkP (formN op).2.2.2.1 (sizeN op) := by
  rcases known_cases op with h1 | h1
  · rcases h1 with rfl | rfl | rfl | rfl | rfl | rfl | rfl | rfl | rfl | rfl | rfl | rfl | rfl | rfl | rfl | rfl | rfl | rfl | rfl | rfl | rfl | rfl | rfl | rfl | rfl <;>
    (unfold OkR OkP; decide)
  · rw [(known_other h1).1] at h; cases h
end Go.Proofs.Ytccdgpadjfjoeaa

namespace Go.Proofs.Ytccdgpadjfjoeaa
open Go.ChangeShapes Go.WideShapes Go.ChangeAt Go.RowKit
set_option linter.unusedVariables false
set_option linter.unusedSimpArgs false

/-! Bytes of the landed cdb. -/
set_option maxHeartbeats 4000000 in
theorem bytes_c (c : Cmd) (w : World) (hc : OkC c) : Calls Try.prog 16 #[cval c] w fun e w' => ∃ v, e = .returned (.tuple #[v, .bool (bytesB c)]) ∧ Later w w' ∧ Bs w' v (bytesI c) := by
  obtain ⟨op, c1, c2, c3, c4⟩ := c
  have HC := hide hc
  clear hc
  have BX := hide (Box.new w 26 #[.int .i64 op, .int .u64 (c1 : Int), .int .i64 c2, .int .i64 c3, .int .i64 c4])
  have LL := hide ((Later.refl w).alloc (.cells #[.int .i64 op, .int .u64 (c1 : Int), .int .i64 c2, .int .i64 c3, .int .i64 c4] 26))
  go_enter Try.func16, Try.ntmps16
  go_wp2_with fail
  generalize (w.alloc (.cells #[.int .i64 op, .int .u64 (c1 : Int), .int .i64 c2, .int .i64 c3, .int .i64 c4] 26)) = w1 at *
  refine (form_c op _).mono ?_
  rintro e w2 ⟨fv, rfl, hl, hF⟩
  replace BX := hide (BX.out.later hl)
  replace LL := hide (LL.out.trans hl)
  have HF := hide hF
  obtain ⟨s, rfl, hr⟩ := hF
  obtain ⟨fa, fcap, rfl⟩ := hr.shape
  clear hl hr
  go_wp2_with (refine wpList_new rfl rfl 47 rfl 4 rfl (by simp) (.tmp 13) (by simp) rfl #[.int .u16 0, .int .u16 0, .int .u16 0, .int .u16 0, .int .i64 0, .slice none 0 0] (fc (formN op) (.slice fa (formN op).2.2.2.2.2.length fcap)) Try.zero_form rfl rfl (fc_one _ _ rfl) ?_)
  intro gF w3 hBF hl hg
  replace BX := hide (BX.out.later hl)
  replace LL := hide (LL.out.trans hl)
  replace HF := hide (HF.out.later hl)
  have BF := hide hBF
  clear hl hg hBF
  cases hk : knownB op with
  | false =>
    have HP : Hid (bytesB (op, c1, c2, c3, c4) = false) := by simp [Hid, bytesB, hk]
    go_wp2
    refine bodyPost_ret (results_tmp2 rfl _ _ _) rfl ?_
    exact ⟨_, by rw [HP.out]; rfl, LL.out, by rw [bytesI, HP.out]; exact Bs.nil _⟩
  | true =>
  have HK := hide hk
  clear hk
  have xx0 := BX.out.cell 0
  have xx1 := BX.out.cell 1
  have xx2 := BX.out.cell 2
  have xx3 := BX.out.cell 3
  have xx4 := BX.out.cell 4
  go_wp2_with fail
  refine (size_c op _).mono ?_
  rintro e w4 ⟨rfl, hl⟩
  obtain ⟨n, hn⟩ : ∃ n, n = sizeN op := ⟨_, rfl⟩
  have hn0 : 0 < n ∧ n ≤ 16 := by obtain ⟨m, h1, h2⟩ := size_pos HK.out; omega
  rw [← hn]
  have HN := hide hn
  obtain ⟨hn0, hn16⟩ := hn0
  clear hn xx0 xx1 xx2 xx3 xx4
  replace BX := hide (BX.out.later hl)
  replace LL := hide (LL.out.trans hl)
  replace HF := hide (HF.out.later hl)
  replace BF := hide (BF.out.later hl)
  clear hl
  go_wp2_with (refine wpList_makeB rfl (.tmp 19) (.tmp 19) rfl n rfl rfl (by omega) ?_)
  intro g w5 hB hl hg
  have hgF : Hid (gF < g ∧ w.heap.size < g) := by rw [Hid, hg.out]; exact ⟨BF.out.lt, BX.out.lt⟩
  replace BX := hide (BX.out.later hl)
  replace LL := hide (LL.out.trans hl)
  replace HF := hide (HF.out.later hl)
  replace BF := hide (BF.out.later hl)
  have BB := hide hB
  clear hl hg hB
  have xx0 := BX.out.cell 0
  have xx1 := BX.out.cell 1
  have xx2 := BX.out.cell 2
  have xx3 := BX.out.cell 3
  have xx4 := BX.out.cell 4
  go_wp2_with (refine wpList_storeB rfl 5 (.tmp 25) (.tmp 24) rfl g 0 rfl _ rfl Try.info1_u8 _ _ BB.out (by simpa using hn0) (b8 op) (b8_nat op).symm ?_)
  intro w6 hB hw
  clear xx0 xx1 xx2 xx3 xx4
  replace BX := hide (BX.out.apart g (by have := hgF.out; omega) [.int .u8 (op % 256)] 0)
  replace BF := hide (BF.out.apart g (by have := hgF.out; omega) [.int .u8 (op % 256)] 0)
  replace LL := hide (LL.out.setCells (g := g) (by have := hgF.out; omega) [.int .u8 (op % 256)] 0)
  have HF2 : Hid (FormV (w5.setCells g 0 [.int .u8 (op % 256)]) (fval (formN op) (.slice fa (formN op).2.2.2.2.2.length fcap)) (formN op)) := by
    obtain ⟨s', e, hr⟩ := HF.out
    exact ⟨s', e, rw_off6 hr BB.out (bv_nou64 _) _ _⟩
  rw [← hw.out] at BX BF LL HF2
  replace BB : Hid (Box w6 g 5 (bv (initB op))) := by
    rw [Hid, initB, ← HN.out]; exact hB
  clear hB hw HF
  have xx0 := BX.out.cell 0
  have xx1 := BX.out.cell 1
  have xx2 := BX.out.cell 2
  have xx3 := BX.out.cell 3
  have xx4 := BX.out.cell 4
  have fx0 := BF.out.cell 0
  have fx1 := BF.out.cell 1
  have fx2 := BF.out.cell 2
  have fx3 := BF.out.cell 3
  have fx4 := BF.out.cell 4
  have fx5 := BF.out.cell 5
  go_wp2_with fail
  refine (flay_c (formN op) (op, c1, c2, c3, c4) _ g n HF2.out BB.out (by rw [initB_length, HN.out]) (by omega) (by rw [HN.out]; exact (okP6 op HK.out).1) (by rw [HN.out]; exact (okP6 op HK.out).2) HC.out.2.1).mono ?_
  rintro e w7 ⟨rfl, hbl, hB⟩
  clear xx0 xx1 xx2 xx3 xx4 fx0 fx1 fx2 fx3 fx4 fx5 HF2
  replace BX := hide (BX.out.below hbl (by have := hgF.out; omega))
  replace LL : Hid (Later w w7) := Below.trans LL.out (Below.mono hbl (by have := hgF.out; omega))
  have HLn : Hid ((layC (op, c1, c2, c3, c4)).length = n) := by
    have ok := okP6 op HK.out
    rw [← HN.out] at ok
    exact layP_length _ ok.2.2.2.2 (layP_length _ ok.2.2.2.1 (layP_length _ ok.2.2.1 (layP_length _ ok.2.1 (layRs_length _ _ ok.1 (by rw [initB_length, HN.out])))))
  replace BB : Hid (Box w7 g 5 (bv (layC (op, c1, c2, c3, c4)))) := hB
  have HS : Hid (Bs w7 (.slice (some ⟨g, 0, none⟩) n n) (layC (op, c1, c2, c3, c4))) := bs_of_box BB.out rfl HLn.out (by omega)
  have HR : Hid (bytesB (op, c1, c2, c3, c4) = ((parseI (layC (op, c1, c2, c3, c4))).1 == (op, c1, c2, c3, c4) && (parseI (layC (op, c1, c2, c3, c4))).2 == ((0, 0, 0) : Sns))) := by
    rw [Hid, bytesB, HK.out, Bool.true_and]
  have HI : Hid (bytesI (op, c1, c2, c3, c4) = if bytesB (op, c1, c2, c3, c4) then layC (op, c1, c2, c3, c4) else []) := rfl
  generalize layC (op, c1, c2, c3, c4) = D at *
  clear hbl hB BB BF hgF HLn
  go_wp2_with fail
  refine (parse_c _ HS.out).mono ?_
  rintro e w8 ⟨rfl, hl⟩
  replace BX := hide (BX.out.later hl)
  replace LL := hide (LL.out.trans hl)
  replace HS := hide (HS.out.later hl)
  clear hl
  have okS := hide (parseI_ok D)
  generalize hpd : parseI D = pd at *
  clear hpd
  obtain ⟨b, s⟩ := pd
  simp only at HR okS ⊢
  go_wp2_with (refine wpList_newCS rfl rfl rfl rfl rfl rfl 7 8 rfl rfl (by simp) (by simp) (by decide) (.tmp 33) (.tmp 34) (by simp) (by simp) (by simp) (by simp) rfl rfl rfl rfl b s rfl rfl ?_)
  intro gC gS w9 hB1 hB2 hl hg
  replace BX := hide (BX.out.later hl)
  replace LL := hide (LL.out.trans hl)
  replace HS := hide (HS.out.later hl)
  have BC := hide hB1
  have BS := hide hB2
  clear hl hg hB1 hB2
  have xx0 := BX.out.cell 0
  have xx1 := BX.out.cell 1
  have xx2 := BX.out.cell 2
  have xx3 := BX.out.cell 3
  have xx4 := BX.out.cell 4
  have cx0 := BC.out.cell 0
  have cx1 := BC.out.cell 1
  have cx2 := BC.out.cell 2
  have cx3 := BC.out.cell 3
  have cx4 := BC.out.cell 4
  have sx0 := BS.out.cell 0
  have sx1 := BS.out.cell 1
  have sx2 := BS.out.cell 2
  cases hq : (b == ((op, c1, c2, c3, c4) : Cmd)) with
  | false =>
    have HP : Hid (bytesB (op, c1, c2, c3, c4) = false) := by rw [Hid, HR.out, hq]; rfl
    have HQ := hide hq
    clear HR hq
    go_wp2_with (refine wpList_neqC (by kernel_rfl) (.tmp 35) (.tmp 36) rfl b (op, c1, c2, c3, c4) rfl rfl true (by rw [HQ.out]; rfl) ?_)
    refine bodyPost_ret (results_tmp2 rfl _ _ _) rfl ?_
    exact ⟨_, by rw [HP.out]; rfl, LL.out, by rw [HI.out, HP.out]; exact Bs.nil _⟩
  | true =>
  have HR2 : Hid (bytesB (op, c1, c2, c3, c4) = (s == ((0, 0, 0) : Sns))) := by rw [Hid, HR.out, hq]; simp
  have HQ := hide hq
  clear HR hq
  go_wp2_with (refine wpList_neqC (by kernel_rfl) (.tmp 35) (.tmp 36) rfl b (op, c1, c2, c3, c4) rfl rfl false (by rw [HQ.out]; rfl) ?_)
  refine (sgood_c s _ okS.out).mono ?_
  rintro e wa ⟨rfl, hl⟩
  replace LL := hide (LL.out.trans hl)
  replace HS := hide (HS.out.later hl)
  clear hl xx0 xx1 xx2 xx3 xx4 cx0 cx1 cx2 cx3 cx4 sx0 sx1 sx2
  generalize (s == ((0, 0, 0) : Sns)) = z at *
  cases z with
  | false =>
    go_wp2
    refine bodyPost_ret (results_tmp2 rfl _ _ _) rfl ?_
    exact ⟨_, by rw [HR2.out]; rfl, LL.out, by rw [HI.out, HR2.out]; exact Bs.nil _⟩
  | true =>
    go_wp2
    refine bodyPost_ret (results_tmp2 rfl _ _ _) rfl ?_
    exact ⟨_, by rw [HR2.out]; rfl, LL.out, by rw [HI.out, HR2.out]; exact HS.out⟩
end Go.Proofs.Ytccdgpadjfjoeaa
