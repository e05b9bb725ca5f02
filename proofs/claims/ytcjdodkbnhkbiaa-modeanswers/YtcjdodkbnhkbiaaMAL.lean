import Derived.Deep.AppendSrc
import Derived.Test.YtcjdodkbnhkbiaaMAI
import Derived.Test.YtcjdodkbnhkbiaaMAK
namespace Go.Proofs.Ytcjdodkbnhkbiaa
open Go.ChangeShapes Go.WideShapes Go.ChangeAt Go.RowKit
set_option linter.unusedVariables false
set_option linter.unusedSimpArgs false

/-! Two commands held against one another. -/
theorem map_five {α β : Type} {f : α → β} {l : List α} {x y z u v : β} (h : l.map f = [x, y, z, u, v]) : ∃ a b c d e, l = [a, b, c, d, e] ∧ f a = x ∧ f b = y ∧ f c = z ∧ f d = u ∧ f e = v := by
  match l, h with
  | [a, b, c, d, e], h => simp at h; exact ⟨a, b, c, d, e, rfl, h.1, h.2.1, h.2.2.1, h.2.2.2.1, h.2.2.2.2⟩
  | [_], h => simp at h
  | [_, _], h => simp at h
  | [_, _, _], h => simp at h
  | [_, _, _, _], h => simp at h
  | _ :: _ :: _ :: _ :: _ :: _ :: _, h => simp at h
theorem eqFields_cons {P : Program} (w : World) (d : Nat) (xs ys : Array Value) (f : Field) (fs : List Field) (hf : f.name ≠ "_") (a b : Value) (r r' : Bool)
    (p1 : (part f.type xs f.offset).run P w = .ok a w) (p2 : (part f.type ys f.offset).run P w = .ok b w) (p3 : (Op.equalIn d f.type a b).run P w = .ok r w)
    (ih : (Op.eqFields d xs ys fs).run P w = .ok r' w) : (Op.eqFields d xs ys (f :: fs)).run P w = .ok (r && r') w := by
  simp only [Op.eqFields, hf, ne_eq, not_false_eq_true, if_true, Sem.run_bind, p1, p2, p3, Result.andThen_ok]
  cases r <;> simp [ih]
theorem eqFields_nil {P : Program} (w : World) (d : Nat) (xs ys : Array Value) : (Op.eqFields d xs ys []).run P w = .ok true w := by simp [Op.eqFields]
theorem part_cellU {P : Program} {t : TypeId} {k : IntKind} (w : World) (ht : P.underlying t = some (.int k)) (cs : Array Value) (o : Nat) (v : Value) (h : cs[o]? = some v) : (part t cs o).run P w = .ok v w := by
  simp [part, isAgg, run_underlying ht, h]
theorem Try.fields_cmd : (Try.prog.fieldsOf 24).toList.map (fun f => (f.name, f.type, f.offset)) = [("Op", 3, 0), ("At", 22, 1), ("N", 3, 2), ("Page", 3, 3), ("Bits", 3, 4)] := by kernel_rfl
theorem Try.is_cmd : Try.prog.underlying 24 = some (.struct (Try.prog.fieldsOf 24)) := by kernel_rfl
theorem Try.plain_cmd : Try.prog.stoodInHeld 24 = false := by kernel_rfl
theorem Try.guard_cmd : Try.prog.eqGuardType Try.prog.depth 24 = false := by kernel_rfl
theorem cmd_beq (s t : Cmd) : (s == t) = (decide (s.1 = t.1) && (decide ((s.2.1 : Int) = (t.2.1 : Int)) && (decide (s.2.2.1 = t.2.2.1) && (decide (s.2.2.2.1 = t.2.2.2.1) && (decide (s.2.2.2.2 = t.2.2.2.2) && true))))) := by
  obtain ⟨a, b, c, d, e⟩ := s
  obtain ⟨a', b', c', d', e'⟩ := t
  rw [Bool.eq_iff_iff]
  simp
  intros
  omega
theorem cmd_eq (s t : Cmd) (w : World) : (Op.equalIn 10000 24 (cval s) (cval t)).run Try.prog w = .ok (s == t) w := by
  refine (run_equalIn_struct w 9999 24 _ _ Try.is_cmd Try.plain_cmd).trans ?_
  obtain ⟨f, g, h, i, j, hfs, hf, hg, hh, hi, hj⟩ := map_five Try.fields_cmd
  rw [hfs, cmd_beq]
  simp only [Prod.mk.injEq] at hf hg hh hi hj
  obtain ⟨n1, t1, o1⟩ := hf
  obtain ⟨n2, t2, o2⟩ := hg
  obtain ⟨n3, t3, o3⟩ := hh
  obtain ⟨n4, t4, o4⟩ := hi
  obtain ⟨n5, t5, o5⟩ := hj
  have ki : ∀ x y : Int, (Op.equalIn 9999 3 (.int .i64 x) (.int .i64 y)).run Try.prog w = .ok (decide (x = y)) w := fun x y => run_equalIn_int (P := Try.prog) w 9998 3 .i64 .i64 x y Try.underlying3
  have ku : ∀ x y : Int, (Op.equalIn 9999 22 (.int .u64 x) (.int .u64 y)).run Try.prog w = .ok (decide (x = y)) w := fun x y => run_equalIn_int (P := Try.prog) w 9998 22 .u64 .u64 x y Try.underlying22
  refine eqFields_cons w 9999 _ _ f _ (by rw [n1]; decide) (.int .i64 s.1) (.int .i64 t.1) _ _ (by rw [t1, o1]; exact part_cellU w Try.underlying3 _ _ _ rfl) (by rw [t1, o1]; exact part_cellU w Try.underlying3 _ _ _ rfl) (by rw [t1]; exact ki _ _) ?_
  refine eqFields_cons w 9999 _ _ g _ (by rw [n2]; decide) (.int .u64 (s.2.1 : Int)) (.int .u64 (t.2.1 : Int)) _ _ (by rw [t2, o2]; exact part_cellU w Try.underlying22 _ _ _ rfl) (by rw [t2, o2]; exact part_cellU w Try.underlying22 _ _ _ rfl) (by rw [t2]; exact ku _ _) ?_
  refine eqFields_cons w 9999 _ _ h _ (by rw [n3]; decide) (.int .i64 s.2.2.1) (.int .i64 t.2.2.1) _ _ (by rw [t3, o3]; exact part_cellU w Try.underlying3 _ _ _ rfl) (by rw [t3, o3]; exact part_cellU w Try.underlying3 _ _ _ rfl) (by rw [t3]; exact ki _ _) ?_
  refine eqFields_cons w 9999 _ _ i _ (by rw [n4]; decide) (.int .i64 s.2.2.2.1) (.int .i64 t.2.2.2.1) _ _ (by rw [t4, o4]; exact part_cellU w Try.underlying3 _ _ _ rfl) (by rw [t4, o4]; exact part_cellU w Try.underlying3 _ _ _ rfl) (by rw [t4]; exact ki _ _) ?_
  refine eqFields_cons w 9999 _ _ j _ (by rw [n5]; decide) (.int .i64 s.2.2.2.2) (.int .i64 t.2.2.2.2) _ _ (by rw [t5, o5]; exact part_cellU w Try.underlying3 _ _ _ rfl) (by rw [t5, o5]; exact part_cellU w Try.underlying3 _ _ _ rfl) (by rw [t5]; exact ki _ _) ?_
  exact eqFields_nil w 9999 _ _
theorem wpList_eqC {w : World} {ops : Array Oper} {rest : List Oper} {o : Oper} {a : Act} {Q : Exit → Act → World → Prop} (hw : Region.wanted o (yielded ops a.tmps) = true) (x y : Operand) (hop : o.op = .binOp .eql 24 x y 24)
    (s t : Cmd) (hx : a.eval x = cval s) (hy : a.eval y = cval t) (r : Bool) (hr : (s == t) = r) (h : wpList Try.prog ops Q rest (a.put o.dst (.bool r)) w) : wpList Try.prog ops Q (o :: rest) a w := by
  subst hr
  refine wpList_step fun K hK => ?_
  rw [if_pos hw]
  unfold Go.Oper.wp execOp
  simp [hop, hx, hy, run_eqGuard_agg w .eql 24 x y _ _ Try.guard_cmd, run_eql_struct, cmd_eq, Result.andThen]
  exact hK _ _ h
theorem wpList_neqC {w : World} {ops : Array Oper} {rest : List Oper} {o : Oper} {a : Act} {Q : Exit → Act → World → Prop} (hw : Region.wanted o (yielded ops a.tmps) = true) (x y : Operand) (hop : o.op = .binOp .neq 24 x y 24)
    (s t : Cmd) (hx : a.eval x = cval s) (hy : a.eval y = cval t) (r : Bool) (hr : (!(s == t)) = r) (h : wpList Try.prog ops Q rest (a.put o.dst (.bool r)) w) : wpList Try.prog ops Q (o :: rest) a w := by
  subst hr
  refine wpList_step fun K hK => ?_
  rw [if_pos hw]
  unfold Go.Oper.wp execOp
  simp [hop, hx, hy, run_eqGuard_agg w .neq 24 x y _ _ Try.guard_cmd, run_neq_struct, cmd_eq, Result.andThen]
  exact hK _ _ h
/-- 'x := v', v a command -/
theorem wpList_newC {w : World} {ops : Array Oper} {rest : List Oper} {o1 o2 : Oper} {a : Act} {Q : Exit → Act → World → Prop} (hg1 : o1.guard = none) (hg2 : o2.guard = none) (h1 : o1.op = .alloc 24) (d : Tmp) (hd : o1.dst = some d) (hd' : d < a.tmps.size) (y : Operand) (hy' : y ≠ .tmp d) (h2 : o2.op = .store 24 (.tmp d) y)
    (s : Cmd) (hy : a.eval y = cval s)
    (h : ∀ (g : Nat) (w' : World), Box w' g 24 (cc s) → Later w w' → Hid (g = w.heap.size ∧ w' = w.alloc (.cells (cc s).toArray 24)) → wpList Try.prog ops Q rest ((a.put (some d) (.pointer (some ⟨g, 0, none⟩))).put o2.dst undef) w') : wpList Try.prog ops Q (o1 :: o2 :: rest) a w :=
  wpList_new hg1 hg2 24 h1 d hd hd' y hy' h2 #[.int .i64 0, .int .u64 0, .int .i64 0, .int .i64 0, .int .i64 0] (cc s) Try.zero_cmd rfl hy (cc_one s) h
/-- 'x, y := f(..)', a command and a sense -/
theorem wpList_newCS {w : World} {ops : Array Oper} {rest : List Oper} {o1 o2 o3 o4 : Oper} {a : Act} {Q : Exit → Act → World → Prop} (hg1 : o1.guard = none) (hg2 : o2.guard = none) (hg3 : o3.guard = none) (hg4 : o4.guard = none)
    (h1 : o1.op = .alloc 24) (h2 : o2.op = .alloc 28) (d1 d2 : Tmp) (hd1 : o1.dst = some d1) (hd2 : o2.dst = some d2) (hs1 : d1 < a.tmps.size) (hs2 : d2 < a.tmps.size) (hne : d1 ≠ d2) (y1 y2 : Operand) (hy1 : y1 ≠ .tmp d1) (hy1' : y1 ≠ .tmp d2) (hy2 : y2 ≠ .tmp d1) (hy2' : y2 ≠ .tmp d2)
    (h3 : o3.op = .store 24 (.tmp d1) y1) (h4 : o4.op = .store 28 (.tmp d2) y2) (hd3 : o3.dst = none) (hd4 : o4.dst = none) (c : Cmd) (s : Sns)
    (e1 : a.eval y1 = cval c) (e2 : a.eval y2 = sval s)
    (h : ∀ (g1 g2 : Nat) (w' : World), Box w' g1 24 (cc c) → Box w' g2 28 (sc s) → Later w w' → Hid (g1 = w.heap.size ∧ g2 = w.heap.size + 1) → wpList Try.prog ops Q rest ((a.put (some d1) (.pointer (some ⟨g1, 0, none⟩))).put (some d2) (.pointer (some ⟨g2, 0, none⟩))) w') : wpList Try.prog ops Q (o1 :: o2 :: o3 :: o4 :: rest) a w :=
  wpList_new2 hg1 hg2 hg3 hg4 24 28 h1 h2 d1 d2 hd1 hd2 hs1 hs2 hne y1 y2 hy1 hy1' hy2 hy2' h3 h4 hd3 hd4 #[.int .i64 0, .int .u64 0, .int .i64 0, .int .i64 0, .int .i64 0] #[.int .i64 0, .int .i64 0, .int .i64 0] (cc c) (sc s) Try.zero_cmd rfl Try.zero_sense rfl e1 e2 (cc_one c) (sc_one s) h
end Go.Proofs.Ytcjdodkbnhkbiaa

namespace Go.Proofs.Ytcjdodkbnhkbiaa
open Go.ChangeShapes Go.WideShapes Go.ChangeAt Go.RowKit
set_option linter.unusedVariables false
set_option linter.unusedSimpArgs false

/-! Answer: to a command. -/
/-- a call that makes memory, where it alone may come up -/
theorem wpJ_callL {P : Program} {ops : Array Oper} {I : World → Prop} (hI : ∀ w w', Later w w' → I w → I w') {Q : Act → World → Prop} {i : Nat} {o : Oper} {σ : List (Nat × Bool)} {a : Act} {b : World} (ho : ops[i]? = some o) (hw : Region.wanted o (yielded ops a.tmps) = true) (f : FuncId) (hp : Plain P f) (xs : List Operand) (ts : Array TypeId) (hop : o.op = .call { callee := .value (.func f), args := xs.toArray, argTypes := ts }) (us : List Value) (hx : xs.map a.eval = us)
    (R : Value → World → Prop) (hb : I b) (hc : ∀ w, Later b w → Calls P f us.toArray w fun e w' => ∃ v, e = .returned v ∧ Later w w' ∧ R v w')
    (h : ∀ v b', Later b b' → R v b' → wpJ P ops I Q σ (a.put o.dst v) b') : wpJ P ops I Q ((i, true) :: σ) a b := by
  intro w hl
  unfold jOp
  simp only [ho]
  rw [if_pos hw, run_call f hp xs ts hop us hx]
  exact ⟨rfl, (hc w hl).mono fun e w' ⟨v, e1, l1, r1⟩ => ⟨v, e1, hI _ _ (hl.trans l1) hb, h v w' (hl.trans l1) r1⟩⟩
def thereB (lun luns : Int) : Bool := decide (0 ≤ lun) && decide (lun < luns)
def ansR (c : Cmd) (lun luns : Int) : List UInt8 × Sns :=
  if c.1 ≠ 18 then ([], (5, 36, 0))
  else if c.2.2.2.2 ≠ 1 then (cutL (stdL (thereB lun luns)) c.2.2.1, (0, 0, 0))
  else (cutL (pageL c.2.2.2.1 lun (thereB lun luns)) c.2.2.1, pageS c.2.2.2.1)
theorem stdL_len (there : Bool) : (stdL there).length = 36 := rfl
end Go.Proofs.Ytcjdodkbnhkbiaa

namespace Go.Proofs.Ytcjdodkbnhkbiaa
open Go.ChangeShapes Go.WideShapes Go.ChangeAt Go.RowKit
set_option linter.unusedVariables false
set_option linter.unusedSimpArgs false

/-! 'append(a, x...)', a our own, in regions that draw their order. -/
theorem src_bs {w : World} {v : Value} {m : List UInt8} (h : Bs w v m) : Src Try.prog 1 26 v m.length (bv m) w := by
  obtain ⟨h1, ad, cap, rfl, h2, h3⟩ := h
  rcases h3 with rfl | ⟨b, off, rfl, h3⟩
  · cases ad with
    | none => exact Src.ofNil w Try.underlying26 cap
    | some a => exact Src.ofSlice w Try.underlying26 a 0 cap [] rfl (fun j u hu => by simp at hu) (fun u hu => by simp at hu)
  · refine Src.ofSlice w Try.underlying26 ⟨b, off, none⟩ m.length cap (bv m) (by rw [bv_length, Nat.mul_one]) ?_ (bv_one m)
    intro j u hu
    have hj : j < m.length := by rw [← bv_length]; exact (List.getElem?_eq_some_iff.1 hu).1
    rw [show (⟨b, off, none⟩ : Addr).add j = ⟨b, off + j, none⟩ from by unfold Addr.add; split <;> simp_all, h3 j hj, ← hu]
    simp [bv, hj]
set_option maxHeartbeats 1000000 in
theorem run_append_src8 {w : World} {B g n cap : Nat} {l : List UInt8} (ty tx : TypeId) (x : Value) (m : List UInt8) (hsrc0 : Src Try.prog 1 tx x m.length (bv m) w) (hown : w.ownsRow B 5 1 (.slice (some ⟨g, 0, none⟩) n cap) n (bv l)) (hn : n + m.length ≤ 1000000) (hbase : B ≤ w.heap.size) :
    ∃ v' w', (Builtin.append_ #[26, tx] ty #[.slice (some ⟨g, 0, none⟩) n cap, x]).run Try.prog w = .ok v' w' ∧ w'.ownsRow B 5 1 v' (n + m.length) (bv (l ++ m)) ∧ w.grownBy w' (some g) ∧ ∃ g' cap', v' = .slice (some ⟨g', 0, none⟩) (n + m.length) cap' := by
  obtain ⟨i0, hi, hz0, hz1, hz2⟩ := info_parts Try.info_u8
  have hsrc : Src Try.prog i0.size tx x m.length (bv m) w := by rw [hz1]; exact hsrc0
  obtain ⟨hlen, h | ⟨g', cap', cur, e, hbg, hg, hnc, hcm, hcs, htake⟩⟩ := hown
  · obtain ⟨h, _⟩ := h; cases h
  simp at e
  obtain ⟨rfl, rfl⟩ := e
  rw [Nat.mul_one] at hlen hcs htake
  have hL : (bv (l ++ m)).length = n + m.length := by rw [bv_append, List.length_append, hlen, bv_length]
  have hB : Box w g 5 cur.toList := by unfold Box; rw [hg]
  by_cases hroom : n + m.length ≤ cap
  · have hrun := run_append_room_src (P := Try.prog) w 26 tx ty 5 i0 Try.underlying26 hi g 0 n cap x m.length (bv m) hsrc hroom (fun j hj => by rw [hz1, hB.cell]; rw [bv_length] at hj; simp; omega) (fun j hj => hB.frozen _)
    rw [hz1, Nat.mul_one, Nat.zero_add] at hrun
    have hB2 := hB.setCells (bv m) n (by rw [bv_length]; simp; omega)
    refine ⟨.slice (some ⟨g, 0, none⟩) (n + m.length) cap, w.setCells g n (bv m), hrun, ?_, ?_, _, _, rfl⟩
    · refine ⟨by rw [hL, Nat.mul_one], .inr ⟨g, cap, _, rfl, hbg, hB2, hroom, hcm, ?_, ?_⟩⟩
      · simp [bv_length]; omega
      · rw [Nat.mul_one, htake, ← bv_append, ← hL]
        exact List.take_left
    · have hlt := hB.lt
      exact ⟨(below_setCells (Below.refl g w) (Nat.le_refl _) _ _).os, (below_setCells (Below.refl g w) (Nat.le_refl _) _ _).tape, (below_setCells (Below.refl g w) (Nat.le_refl _) _ _).output, (below_setCells (Below.refl g w) (Nat.le_refl _) _ _).size, fun k hk hne => heap_setCells_other w g k (fun e => hne (by rw [e])) _ _⟩
  · have hfit : Builtin.nextslicecap (n + m.length) cap * i0.bytes ≤ 281474976710656 := by
      rw [hz2]
      have := growslice_fits (need := n + m.length) (old := cap) (bytes := 1) (by omega) (by omega)
      omega
    have holds : (Builtin.firstCells i0.size n (.slice (some ⟨g, 0, none⟩) n cap)).run Try.prog w.drew = .ok (bv l).toArray w.drew := by
      rw [hz1]
      refine run_firstCells_some w.drew 1 n ⟨g, 0, none⟩ n cap (bv l) (by rw [hlen]; omega) ?_
      intro j u hu
      have hj : j < n := by rw [← hlen]; exact (List.getElem?_eq_some_iff.1 hu).1
      have hB : Box w.drew g 5 cur.toList := by unfold Box; exact hg
      rw [show (⟨g, 0, none⟩ : Addr).add j = ⟨g, j, none⟩ from by unfold Addr.add; split <;> simp_all, hB.cell j, ← hu, ← htake, List.getElem?_take_of_lt hj]
    have hrun := run_append_grow_src (P := Try.prog) w 26 tx ty 5 i0 (.int .u8 0) Try.underlying26 hi hz0 (some ⟨g, 0, none⟩) n cap (bv l) holds x m.length (bv m) hsrc (by omega) (by omega) hfit
    have hge := grownCap_ge w (n + m.length) cap 5
    have hcm2 : grownCap w (n + m.length) cap 5 ≤ maxLen := grownCap_le_maxLen w (n + m.length) cap 5 (by unfold maxLen; omega)
    refine ⟨_, _, hrun, ?_, ?_, _, _, rfl⟩
    · refine ⟨by rw [hL, Nat.mul_one], .inr ⟨w.heap.size, _, _, rfl, hbase, heap_alloc_new w.drew _, hge, hcm2, ?_, ?_⟩⟩
      · simp only [Array.size_append, List.size_toArray, size_zeroCells, List.length_append, hlen, bv_length]
        simp [Value.cells]
        omega
      · simp only [Array.toList_append, List.toList_toArray]
        rw [Nat.mul_one, ← bv_append, ← hL]
        exact List.take_left
    · exact ⟨rfl, rfl, rfl, by simp, fun k hk _ => heap_alloc_old w.drew _ hk⟩
/-- an operation where it alone may come up -/
theorem wpJ_loud {P : Program} {ops : Array Oper} {I : World → Prop} {Q : Act → World → Prop} {i : Nat} {o : Oper} {σ : List (Nat × Bool)} {a : Act} {b : World} (ho : ops[i]? = some o)
    (h : ∀ K : Act → World → Prop, (∀ a' w', wpJ P ops I Q σ a' w' → K a' w') → ∀ w, Later b w → if Region.wanted o (yielded ops a.tmps) then Oper.heldUpon P I o a w K ((execOp a.eval o).run P w) else K (a.put o.dst undef) w) : wpJ P ops I Q ((i, true) :: σ) a b := by
  intro w hw
  unfold jOp
  simp only [ho]
  exact h _ (fun _ _ h => h) w hw
attribute [go_sem] Oper.heldUpon
theorem wpJ_append8 {ops : Array Oper} {I : World → Prop} {Q : Act → World → Prop} {i : Nat} {o : Oper} {σ : List (Nat × Bool)} {a : Act} {b : World} (ho : ops[i]? = some o) (hw : Region.wanted o (yielded ops a.tmps) = true) (s x : Operand) (tx : TypeId) (hop : o.op = .call { callee := .builtin .append, args := #[s, x], argTypes := #[26, tx] })
    (B g n cap : Nat) (l m : List UInt8) (hs : a.eval s = .slice (some ⟨g, 0, none⟩) n cap) (u : Value) (hx : a.eval x = u) (hown : b.ownsRow B 5 1 (.slice (some ⟨g, 0, none⟩) n cap) n (bv l)) (hsrc : ∀ w, Later b w → Src Try.prog 1 tx u m.length (bv m) w) (hn : n + m.length ≤ 1000000) (hbase : B ≤ b.heap.size)
    (hI : ∀ w', Below B b w' → I w') (h : ∀ g' cap' w', Below B b w' → w'.ownsRow B 5 1 (.slice (some ⟨g', 0, none⟩) (n + m.length) cap') (n + m.length) (bv (l ++ m)) → wpJ Try.prog ops I Q σ (a.put o.dst (.slice (some ⟨g', 0, none⟩) (n + m.length) cap')) w') : wpJ Try.prog ops I Q ((i, true) :: σ) a b := by
  refine wpJ_loud ho (fun K hK w hl => ?_)
  rw [if_pos hw]
  have hown' := owns_later hown hl
  obtain ⟨v', w', hrun, h1, h2, g', cap', rfl⟩ := run_append_src8 o.type tx u m (hsrc w hl) hown' hn (Nat.le_trans hbase hl.size)
  have hbg : B ≤ g := (hown'.lt g rfl).1
  have hB : Below B b w' := ((Below.refl B b).trans (hl.mono hbase)).grown h2 (Nat.le_trans hbase hl.size) fun k hk => by cases hk; exact hbg
  unfold execOp
  simp only [hop, resolve, invoke, builtin, Sem.run_bind, Sem.run_pure, Result.andThen_ok, List.map_toArray, List.map_cons, List.map_nil, hs, hx, hrun, Oper.heldUpon]
  exact ⟨hI _ hB, hK _ _ (h g' cap' w' hB h1)⟩
end Go.Proofs.Ytcjdodkbnhkbiaa
