import Derived.Laws.Runes
import Derived.Deep.AppendSrc
import Derived.Test.YtdhagfklcfajgaaMAI
import Derived.Test.YtdhagfklcfajgaaMAK
import Derived.Test.YtdhagfklcfajgaaMAH
import Derived.Test.YtdhagfklcfajgaaMAA
import Derived.Test.YtdhagfklcfajgaaMAE
namespace Go.Proofs.Ytdhagfklcfajgaa
open Go.ChangeShapes Go.WideShapes Go.ChangeAt Go.RowKit
set_option linter.unusedVariables false
set_option linter.unusedSimpArgs false

/-! Two commands held against one another. -/
theorem map_five {α β : Type} {f : α → β} {l : List α} {x y z u v : β} (h : l.map f = [x, y, z, u, v]) : ∃ a b c d e, l = [a, b, c, d, e] ∧ f a = x ∧ f b = y ∧ f c = z ∧ f d = u ∧ f e = v := by
  match l, h with
  | [a, b, c, d, e], h => simp at h; exact ⟨a, b, c, d, e, rfl, h.1, h.2.1, h.2.2.1, h.2.2.2.1, h.2.2.2.2⟩
  | [_], h => simp at h
  | [_, _], h => simp at h
  | [_, _, _], h => simp at h
  | [_, _, _, _], h => simp at h
  | _ :: _ :: _ :: _ :: _ :: _ :: _, h => simp at h
theorem eqFields_cons {P : Program} (w : World) (d : Nat) (xs ys : Array Value) (f : Field) (fs : List Field) (hf : f.name ≠ "_") (a b : Value) (r r' : Bool)
    (p1 : (part f.type xs f.offset).run P w = .ok a w) (p2 : (part f.type ys f.offset).run P w = .ok b w) (p3 : (Op.equalIn d f.type a b).run P w = .ok r w)
    (ih : (Op.eqFields d xs ys fs).run P w = .ok r' w) : (Op.eqFields d xs ys (f :: fs)).run P w = .ok (r && r') w := by
  simp only [Op.eqFields, hf, ne_eq, not_false_eq_true, if_true, Sem.run_bind, p1, p2, p3, Result.andThen_ok]
  cases r <;> simp [ih]
theorem eqFields_nil {P : Program} (w : World) (d : Nat) (xs ys : Array Value) : (Op.eqFields d xs ys []).run P w = .ok true w := by simp [Op.eqFields]
theorem part_cellU {P : Program} {t : TypeId} {k : IntKind} (w : World) (ht : P.underlying t = some (.int k)) (cs : Array Value) (o : Nat) (v : Value) (h : cs[o]? = some v) : (part t cs o).run P w = .ok v w := by
  simp [part, isAgg, run_underlying ht, h]
theorem Try.fields_cmd : (Try.prog.fieldsOf 24).toList.map (fun f => (f.name, f.type, f.offset)) = [("Op", 3, 0), ("At", 22, 1), ("N", 3, 2), ("Page", 3, 3), ("Bits", 3, 4)] := by kernel_rfl
theorem Try.is_cmd : Try.prog.underlying 24 = some (.struct (Try.prog.fieldsOf 24)) := by kernel_rfl
theorem Try.plain_cmd : Try.prog.stoodInHeld 24 = false := by kernel_rfl
theorem Try.guard_cmd : Try.prog.eqGuardType Try.prog.depth 24 = false := by kernel_rfl
theorem cmd_beq (s t : Cmd) : (s == t) = (decide (s.1 = t.1) && (decide ((s.2.1 : Int) = (t.2.1 : Int)) && (decide (s.2.2.1 = t.2.2.1) && (decide (s.2.2.2.1 = t.2.2.2.1) && (decide (s.2.2.2.2 = t.2.2.2.2) && true))))) := by
  obtain ⟨a, b, c, d, e⟩ := s
  obtain ⟨a', b', c', d', e'⟩ := t
  rw [Bool.eq_iff_iff]
  simp
  intros
  omega
theorem cmd_eq (s t : Cmd) (w : World) : (Op.equalIn 10000 24 (cval s) (cval t)).run Try.prog w = .ok (s == t) w := by
  refine (run_equalIn_struct w 9999 24 _ _ Try.is_cmd Try.plain_cmd).trans ?_
  obtain ⟨f, g, h, i, j, hfs, hf, hg, hh, hi, hj⟩ := map_five Try.fields_cmd
  rw [hfs, cmd_beq]
  simp only [Prod.mk.injEq] at hf hg hh hi hj
  obtain ⟨n1, t1, o1⟩ := hf
  obtain ⟨n2, t2, o2⟩ := hg
  obtain ⟨n3, t3, o3⟩ := hh
  obtain ⟨n4, t4, o4⟩ := hi
  obtain ⟨n5, t5, o5⟩ := hj
  have ki : ∀ x y : Int, (Op.equalIn 9999 3 (.int .i64 x) (.int .i64 y)).run Try.prog w = .ok (decide (x = y)) w := fun x y => run_equalIn_int (P := Try.prog) w 9998 3 .i64 .i64 x y Try.underlying3
  have ku : ∀ x y : Int, (Op.equalIn 9999 22 (.int .u64 x) (.int .u64 y)).run Try.prog w = .ok (decide (x = y)) w := fun x y => run_equalIn_int (P := Try.prog) w 9998 22 .u64 .u64 x y Try.underlying22
  refine eqFields_cons w 9999 _ _ f _ (by rw [n1]; decide) (.int .i64 s.1) (.int .i64 t.1) _ _ (by rw [t1, o1]; exact part_cellU w Try.underlying3 _ _ _ rfl) (by rw [t1, o1]; exact part_cellU w Try.underlying3 _ _ _ rfl) (by rw [t1]; exact ki _ _) ?_
  refine eqFields_cons w 9999 _ _ g _ (by rw [n2]; decide) (.int .u64 (s.2.1 : Int)) (.int .u64 (t.2.1 : Int)) _ _ (by rw [t2, o2]; exact part_cellU w Try.underlying22 _ _ _ rfl) (by rw [t2, o2]; exact part_cellU w Try.underlying22 _ _ _ rfl) (by rw [t2]; exact ku _ _) ?_
  refine eqFields_cons w 9999 _ _ h _ (by rw [n3]; decide) (.int .i64 s.2.2.1) (.int .i64 t.2.2.1) _ _ (by rw [t3, o3]; exact part_cellU w Try.underlying3 _ _ _ rfl) (by rw [t3, o3]; exact part_cellU w Try.underlying3 _ _ _ rfl) (by rw [t3]; exact ki _ _) ?_
  refine eqFields_cons w 9999 _ _ i _ (by rw [n4]; decide) (.int .i64 s.2.2.2.1) (.int .i64 t.2.2.2.1) _ _ (by rw [t4, o4]; exact part_cellU w Try.underlying3 _ _ _ rfl) (by rw [t4, o4]; exact part_cellU w Try.underlying3 _ _ _ rfl) (by rw [t4]; exact ki _ _) ?_
  refine eqFields_cons w 9999 _ _ j _ (by rw [n5]; decide) (.int .i64 s.2.2.2.2) (.int .i64 t.2.2.2.2) _ _ (by rw [t5, o5]; exact part_cellU w Try.underlying3 _ _ _ rfl) (by rw [t5, o5]; exact part_cellU w Try.underlying3 _ _ _ rfl) (by rw [t5]; exact ki _ _) ?_
  exact eqFields_nil w 9999 _ _
theorem wpList_eqC {w : World} {ops : Array Oper} {rest : List Oper} {o : Oper} {a : Act} {Q : Exit → Act → World → Prop} (hw : Region.wanted o (yielded ops a.tmps) = true) (x y : Operand) (hop : o.op = .binOp .eql 24 x y 24)
    (s t : Cmd) (hx : a.eval x = cval s) (hy : a.eval y = cval t) (r : Bool) (hr : (s == t) = r) (h : wpList Try.prog ops Q rest (a.put o.dst (.bool r)) w) : wpList Try.prog ops Q (o :: rest) a w := by
  subst hr
  refine wpList_step fun K hK => ?_
  rw [if_pos hw]
  unfold Go.Oper.wp execOp
  simp [hop, hx, hy, run_eqGuard_agg w .eql 24 x y _ _ Try.guard_cmd, run_eql_struct, cmd_eq, Result.andThen]
  exact hK _ _ h
theorem wpList_neqC {w : World} {ops : Array Oper} {rest : List Oper} {o : Oper} {a : Act} {Q : Exit → Act → World → Prop} (hw : Region.wanted o (yielded ops a.tmps) = true) (x y : Operand) (hop : o.op = .binOp .neq 24 x y 24)
    (s t : Cmd) (hx : a.eval x = cval s) (hy : a.eval y = cval t) (r : Bool) (hr : (!(s == t)) = r) (h : wpList Try.prog ops Q rest (a.put o.dst (.bool r)) w) : wpList Try.prog ops Q (o :: rest) a w := by
  subst hr
  refine wpList_step fun K hK => ?_
  rw [if_pos hw]
  unfold Go.Oper.wp execOp
  simp [hop, hx, hy, run_eqGuard_agg w .neq 24 x y _ _ Try.guard_cmd, run_neq_struct, cmd_eq, Result.andThen]
  exact hK _ _ h
/-- 'x := v', v a command -/
theorem wpList_newC {w : World} {ops : Array Oper} {rest : List Oper} {o1 o2 : Oper} {a : Act} {Q : Exit → Act → World → Prop} (hg1 : o1.guard = none) (hg2 : o2.guard = none) (h1 : o1.op = .alloc 24) (d : Tmp) (hd : o1.dst = some d) (hd' : d < a.tmps.size) (y : Operand) (hy' : y ≠ .tmp d) (h2 : o2.op = .store 24 (.tmp d) y)
    (s : Cmd) (hy : a.eval y = cval s)
    (h : ∀ (g : Nat) (w' : World), Box w' g 24 (cc s) → Later w w' → Hid (g = w.heap.size ∧ w' = w.alloc (.cells (cc s).toArray 24)) → wpList Try.prog ops Q rest ((a.put (some d) (.pointer (some ⟨g, 0, none⟩))).put o2.dst undef) w') : wpList Try.prog ops Q (o1 :: o2 :: rest) a w :=
  wpList_new hg1 hg2 24 h1 d hd hd' y hy' h2 #[.int .i64 0, .int .u64 0, .int .i64 0, .int .i64 0, .int .i64 0] (cc s) Try.zero_cmd rfl hy (cc_one s) h
/-- 'x, y := f(..)', a command and a sense -/
theorem wpList_newCS {w : World} {ops : Array Oper} {rest : List Oper} {o1 o2 o3 o4 : Oper} {a : Act} {Q : Exit → Act → World → Prop} (hg1 : o1.guard = none) (hg2 : o2.guard = none) (hg3 : o3.guard = none) (hg4 : o4.guard = none)
    (h1 : o1.op = .alloc 24) (h2 : o2.op = .alloc 28) (d1 d2 : Tmp) (hd1 : o1.dst = some d1) (hd2 : o2.dst = some d2) (hs1 : d1 < a.tmps.size) (hs2 : d2 < a.tmps.size) (hne : d1 ≠ d2) (y1 y2 : Operand) (hy1 : y1 ≠ .tmp d1) (hy1' : y1 ≠ .tmp d2) (hy2 : y2 ≠ .tmp d1) (hy2' : y2 ≠ .tmp d2)
    (h3 : o3.op = .store 24 (.tmp d1) y1) (h4 : o4.op = .store 28 (.tmp d2) y2) (hd3 : o3.dst = none) (hd4 : o4.dst = none) (c : Cmd) (s : Sns)
    (e1 : a.eval y1 = cval c) (e2 : a.eval y2 = sval s)
    (h : ∀ (g1 g2 : Nat) (w' : World), Box w' g1 24 (cc c) → Box w' g2 28 (sc s) → Later w w' → Hid (g1 = w.heap.size ∧ g2 = w.heap.size + 1) → wpList Try.prog ops Q rest ((a.put (some d1) (.pointer (some ⟨g1, 0, none⟩))).put (some d2) (.pointer (some ⟨g2, 0, none⟩))) w') : wpList Try.prog ops Q (o1 :: o2 :: o3 :: o4 :: rest) a w :=
  wpList_new2 hg1 hg2 hg3 hg4 24 28 h1 h2 d1 d2 hd1 hd2 hs1 hs2 hne y1 y2 hy1 hy1' hy2 hy2' h3 h4 hd3 hd4 #[.int .i64 0, .int .u64 0, .int .i64 0, .int .i64 0, .int .i64 0] #[.int .i64 0, .int .i64 0, .int .i64 0] (cc c) (sc s) Try.zero_cmd rfl Try.zero_sense rfl e1 e2 (cc_one c) (sc_one s) h
end Go.Proofs.Ytdhagfklcfajgaa

namespace Go.Proofs.Ytdhagfklcfajgaa
open Go.ChangeShapes Go.WideShapes Go.ChangeAt Go.RowKit
set_option linter.unusedVariables false
set_option linter.unusedSimpArgs false

/-! Answer: to a command. -/
/-- a call that makes memory, where it alone may come up -/
theorem wpJ_callL {P : Program} {ops : Array Oper} {I : World → Prop} (hI : ∀ w w', Later w w' → I w → I w') {Q : Act → World → Prop} {i : Nat} {o : Oper} {σ : List (Nat × Bool)} {a : Act} {b : World} (ho : ops[i]? = some o) (hw : Region.wanted o (yielded ops a.tmps) = true) (f : FuncId) (hp : Plain P f) (xs : List Operand) (ts : Array TypeId) (hop : o.op = .call { callee := .value (.func f), args := xs.toArray, argTypes := ts }) (us : List Value) (hx : xs.map a.eval = us)
    (R : Value → World → Prop) (hb : I b) (hc : ∀ w, Later b w → Calls P f us.toArray w fun e w' => ∃ v, e = .returned v ∧ Later w w' ∧ R v w')
    (h : ∀ v b', Later b b' → R v b' → wpJ P ops I Q σ (a.put o.dst v) b') : wpJ P ops I Q ((i, true) :: σ) a b := by
  intro w hl
  unfold jOp
  simp only [ho]
  rw [if_pos hw, run_call f hp xs ts hop us hx]
  exact ⟨rfl, (hc w hl).mono fun e w' ⟨v, e1, l1, r1⟩ => ⟨v, e1, hI _ _ (hl.trans l1) hb, h v w' (hl.trans l1) r1⟩⟩
def thereB (lun luns : Int) : Bool := decide (0 ≤ lun) && decide (lun < luns)
def ansR (c : Cmd) (lun luns : Int) : List UInt8 × Sns :=
  if c.1 ≠ 18 then ([], (5, 36, 0))
  else if c.2.2.2.2 ≠ 1 then (cutL (stdL (thereB lun luns)) c.2.2.1, (0, 0, 0))
  else (cutL (pageL c.2.2.2.1 lun (thereB lun luns)) c.2.2.1, pageS c.2.2.2.1)
theorem stdL_len (there : Bool) : (stdL there).length = 36 := rfl
set_option maxHeartbeats 4000000 in
theorem ranswer_c (c : Cmd) (lun luns : Int) (w : World) (hlun : -9223372036854775808 ≤ lun ∧ lun ≤ 9223372036854775807) : Calls Try.prog 9 #[cval c, .int .i64 lun, .int .i64 luns] w fun e w' => ∃ v, e = .returned (.tuple #[v, sval (ansR c lun luns).2]) ∧ Later w w' ∧ Bs w' v (ansR c lun luns).1 := by
  obtain ⟨op, at_, n, pg, bt⟩ := c
  have BX := hide ((Box.new w 24 #[.int .i64 op, .int .u64 (at_ : Int), .int .i64 n, .int .i64 pg, .int .i64 bt]).alloc (.cells #[.int .i64 0, .int .i64 0, .int .i64 0] 28))
  have BS : Hid (Box _ (w.heap.size + 1) 28 (sc (0, 0, 0))) := Box.new' (w.alloc (.cells #[.int .i64 op, .int .u64 (at_ : Int), .int .i64 n, .int .i64 pg, .int .i64 bt] 24)) 28 #[.int .i64 0, .int .i64 0, .int .i64 0] _ rfl _ (by simp)
  have LL := hide (((Later.refl w).alloc (.cells #[.int .i64 op, .int .u64 (at_ : Int), .int .i64 n, .int .i64 pg, .int .i64 bt] 24)).alloc (.cells #[.int .i64 0, .int .i64 0, .int .i64 0] 28))
  by_cases hop : op = 18
  case neg =>
    have HR : Hid (ansR (op, at_, n, pg, bt) lun luns = ([], (5, 36, 0))) := by simp [Hid, ansR, hop]
    have hopb : (op != 18) = true := by simp [hop]
    clear hop
    go_enter Try.func9, Try.ntmps9
    go_wp2_with fail
    generalize ((w.alloc (.cells #[.int .i64 op, .int .u64 (at_ : Int), .int .i64 n, .int .i64 pg, .int .i64 bt] 24)).alloc (.cells #[.int .i64 0, .int .i64 0, .int .i64 0] 28)) = w1 at *
    refine (rof_c 5 36 0 _).mono ?_
    rintro e w2 ⟨rfl, hl⟩
    replace LL := hide (LL.out.trans hl)
    replace BS := hide (BS.out.later hl)
    clear hl
    go_wp2_with (refine wpList_storeU rfl 28 (.tmp 7) (.tmp 14) rfl (w.heap.size + 1) 0 rfl (sc (5, 36, 0)) rfl Try.info_sense (sc_one _) _ _ BS.out (by simp) ?_)
    intro wz hz
    have BZ : Hid (Box wz (w.heap.size + 1) 28 (sc (5, 36, 0))) := by rw [hz.out]; exact BS.out.all _ rfl
    have LZ : Hid (Later w wz) := by rw [hz.out]; exact LL.out.setCells (Nat.le_succ _) _ _
    clear hz
    go_wp2
    refine bodyPost_ret (results_tmp_cell' rfl _ _ _ (w.heap.size + 1) 0 rfl _ _ (run_loadVar_mid _ _ _ _ (sc (5, 36, 0)) _ BZ.out.range Try.underlying28 rfl Try.info_sense) rfl) rfl ⟨_, by rw [HR.out], LZ.out, by rw [HR.out]; exact (Bs.nil _)⟩
  subst hop
  have HT : Hid (thereB lun luns = (decide (0 ≤ lun) && decide (lun < luns))) := rfl
  have HA : Hid (ansR (18, at_, n, pg, bt) lun luns = if bt ≠ 1 then (cutL (stdL (thereB lun luns)) n, (0, 0, 0)) else (cutL (pageL pg lun (thereB lun luns)) n, pageS pg)) := by simp [Hid, ansR]
  generalize thereB lun luns = th at *
  have x0 := BX.out.cell 0
  have x1 := BX.out.cell 1
  have x2 := BX.out.cell 2
  have x3 := BX.out.cell 3
  have x4 := BX.out.cell 4
  go_enter Try.func9, Try.ntmps9
  cases ha : decide (0 ≤ lun) with
  | false =>
    have ht : th = false := by rw [HT.out, ha]; rfl
    subst ht
    clear HT
    by_cases hb : bt = 1
    case neg =>
      have hbb : (bt != 1) = true := by simp [hb]
      have HR : Hid (ansR (18, at_, n, pg, bt) lun luns = (cutL (stdL false) n, (0, 0, 0))) := by rw [Hid, HA.out, if_pos hb]
      clear hb
      go_wp2_with fail
      clear x0 x1 x2 x3 x4
      generalize ((w.alloc (.cells #[.int .i64 18, .int .u64 (at_ : Int), .int .i64 n, .int .i64 pg, .int .i64 bt] 24)).alloc (.cells #[.int .i64 0, .int .i64 0, .int .i64 0] 28)) = w1 at *
      refine wp_region_held (fun W => Later w W ∧ Box W w.heap.size 24 [.int .i64 18, .int .u64 (at_ : Int), .int .i64 n, .int .i64 pg, .int .i64 bt]) (fun a b hl h => ⟨h.1.trans hl, h.2.later hl⟩) ⟨LL.out, BX.out⟩ [(0, false), (2, false), (3, false), (5, false), (1, true), (4, true), (6, false), (7, true)] (by kernel_rfl) (by kernel_rfl) (by kernel_rfl) (by kernel_rfl) ?_
      haveI : Nonempty (Held (fun W => Later w W ∧ Box W w.heap.size 24 [.int .i64 18, .int .u64 (at_ : Int), .int .i64 n, .int .i64 pg, .int .i64 bt])) := ⟨⟨_, LL.out, BX.out⟩⟩
      have e2 := fun p : Held (fun W => Later w W ∧ Box W w.heap.size 24 [.int .i64 18, .int .u64 (at_ : Int), .int .i64 n, .int .i64 pg, .int .i64 bt]) => p.h.2.cell 2
      replace LL := hide (LL.out.trans (Later.refl _).drew)
      replace BX := hide (BX.out.later (Later.refl _).drew)
      replace BS := hide (BS.out.later (Later.refl _).drew)
      iterate 4 (refine wpJ_mild rfl (fun K hK => ?_); go_simp; refine hK _ ?_; clear hK K)
      refine wpJ_callL (fun a b hl h => ⟨h.1.trans hl, h.2.later hl⟩) rfl (by kernel_rfl) 15 (Plain.of (by kernel_rfl)) [.tmp 25] _ rfl [.bool false] rfl (fun v W => Bs W v (stdL false)) ⟨LL.out, BX.out⟩ (fun wx hx => rstandard_c false wx) ?_
      intro v1 b1 hl1 hr1
      replace LL := hide (LL.out.trans hl1)
      replace BX := hide (BX.out.later hl1)
      replace BS := hide (BS.out.later hl1)
      clear hl1
      refine wpJ_callL (fun a b hl h => ⟨h.1.trans hl, h.2.later hl⟩) rfl (by kernel_rfl) 18 (Plain.of (by kernel_rfl)) [.tmp 26, .tmp 28] _ rfl [v1, .int .i64 n] rfl (fun v W => Bs W v (cutL (stdL false) n)) ⟨LL.out, BX.out⟩ (fun wx hx => rcut_c n wx (hr1.later hx) (by rw [stdL_len]; decide)) ?_
      intro v2 b2 hl2 hr2
      replace LL := hide (LL.out.trans hl2)
      replace BX := hide (BX.out.later hl2)
      replace BS := hide (BS.out.later hl2)
      clear hr1
      iterate 1 (refine wpJ_mild rfl (fun K hK => ?_); go_simp; refine hK _ ?_; clear hK K)
      refine wpJ_store rfl rfl 28 (.tmp 7) (.tmp 30) rfl (w.heap.size + 1) (sc (0, 0, 0)) rfl rfl Try.info_sense (sc_one _) _ _ BS.out (by simp) (fun W hW => ⟨(LL.out.trans hW).setCells (Nat.le_succ _) _ _, (BX.out.later hW).apart _ (by omega) _ _⟩) ?_
      intro wl hl wz hz
      have BZ : Hid (Box wz (w.heap.size + 1) 28 (sc (0, 0, 0))) := by rw [hz.out]; exact (BS.out.later hl).all _ rfl
      have LZ : Hid (Later w wz) := by rw [hz.out]; exact (LL.out.trans hl).setCells (Nat.le_succ _) _ _
      have VZ := (hr2.later hl).setSns7 (BS.out.later hl) (sc (0, 0, 0)) 0
      rw [← hz.out] at VZ
      clear hz hl hr2 hl2 e2
      refine wpJ_nil (fun wn hn => ?_)
      replace BZ := hide (BZ.out.later hn)
      replace LZ := hide (LZ.out.trans hn)
      have VN := hide (VZ.later hn)
      clear hn VZ
      go_wp2
      refine bodyPost_ret (results_tmp_cell' rfl _ _ _ (w.heap.size + 1) 0 rfl _ _ (run_loadVar_mid _ _ _ _ (sc (0, 0, 0)) _ BZ.out.range Try.underlying28 rfl Try.info_sense) rfl) rfl ⟨_, by rw [HR.out], LZ.out, by rw [HR.out]; exact VN.out⟩
    subst hb
    have HR : Hid (ansR (18, at_, n, pg, 1) lun luns = (cutL (pageL pg lun false) n, pageS pg)) := by rw [Hid, HA.out, if_neg (by simp)]
    go_wp2_with fail
    clear x0 x1 x2 x3 x4
    generalize ((w.alloc (.cells #[.int .i64 18, .int .u64 (at_ : Int), .int .i64 n, .int .i64 pg, .int .i64 1] 24)).alloc (.cells #[.int .i64 0, .int .i64 0, .int .i64 0] 28)) = w1 at *
    refine (rpage_c pg lun false _ hlun).mono ?_
    rintro e w2 ⟨vp, rfl, hl, hp⟩
    replace LL := hide (LL.out.trans hl)
    replace BX := hide (BX.out.later hl)
    replace BS := hide (BS.out.later hl)
    have VP := hide hp
    clear hl hp
    generalize pageS pg = sp at *
    go_wp2_with (refine wpList_newAS rfl rfl rfl rfl 10 9 rfl rfl (by simp) (by decide) (.tmp 37) (.tmp 38) (by simp) (by simp) (by simp) rfl rfl rfl _ sp rfl rfl ?_)
    intro g10 w3 hB hl hg
    have hg10 : Hid (w.heap.size + 1 < g10) := by rw [Hid, hg.out]; exact BS.out.lt
    replace LL := hide (LL.out.trans hl)
    replace BX := hide (BX.out.later hl)
    replace BS := hide (BS.out.later hl)
    replace VP := hide (VP.out.later hl)
    have B10 := hide hB
    clear hl hg hB
    go_wp2_with fail
    refine wp_region_held (fun W => (Later w W ∧ Box W w.heap.size 24 [.int .i64 18, .int .u64 (at_ : Int), .int .i64 n, .int .i64 pg, .int .i64 1]) ∧ Box W g10 28 (sc sp)) (fun a b hl h => ⟨⟨h.1.1.trans hl, h.1.2.later hl⟩, h.2.later hl⟩) ⟨⟨LL.out, BX.out⟩, B10.out⟩ [(0, false), (1, false), (2, false), (4, false), (3, true), (5, false), (6, true)] (by kernel_rfl) (by kernel_rfl) (by kernel_rfl) (by kernel_rfl) ?_
    haveI : Nonempty (Held (fun W => (Later w W ∧ Box W w.heap.size 24 [.int .i64 18, .int .u64 (at_ : Int), .int .i64 n, .int .i64 pg, .int .i64 1]) ∧ Box W g10 28 (sc sp))) := ⟨⟨_, ⟨LL.out, BX.out⟩, B10.out⟩⟩
    have e2 := fun p : Held (fun W => (Later w W ∧ Box W w.heap.size 24 [.int .i64 18, .int .u64 (at_ : Int), .int .i64 n, .int .i64 pg, .int .i64 1]) ∧ Box W g10 28 (sc sp)) => p.h.1.2.cell 2
    have s0 := fun p : Held (fun W => (Later w W ∧ Box W w.heap.size 24 [.int .i64 18, .int .u64 (at_ : Int), .int .i64 n, .int .i64 pg, .int .i64 1]) ∧ Box W g10 28 (sc sp)) => p.h.2.cell 0
    have s1 := fun p : Held (fun W => (Later w W ∧ Box W w.heap.size 24 [.int .i64 18, .int .u64 (at_ : Int), .int .i64 n, .int .i64 pg, .int .i64 1]) ∧ Box W g10 28 (sc sp)) => p.h.2.cell 1
    have s2 := fun p : Held (fun W => (Later w W ∧ Box W w.heap.size 24 [.int .i64 18, .int .u64 (at_ : Int), .int .i64 n, .int .i64 pg, .int .i64 1]) ∧ Box W g10 28 (sc sp)) => p.h.2.cell 2
    replace LL := hide (LL.out.trans (Later.refl _).drew)
    replace BX := hide (BX.out.later (Later.refl _).drew)
    replace BS := hide (BS.out.later (Later.refl _).drew)
    replace B10 := hide (B10.out.later (Later.refl _).drew)
    replace VP := hide (VP.out.later (Later.refl _).drew)
    iterate 4 (refine wpJ_mild rfl (fun K hK => ?_); go_simp; refine hK _ ?_; clear hK K)
    refine wpJ_callL (fun a b hl h => ⟨⟨h.1.1.trans hl, h.1.2.later hl⟩, h.2.later hl⟩) rfl (by kernel_rfl) 18 (Plain.of (by kernel_rfl)) [.tmp 39, .tmp 41] _ rfl [vp, .int .i64 n] rfl (fun v W => Bs W v (cutL (pageL pg lun false) n)) ⟨⟨LL.out, BX.out⟩, B10.out⟩ (fun wx hx => rcut_c n wx (VP.out.later hx) (by have := pageL_len pg lun false; omega)) ?_
    intro v2 b2 hl2 hr2
    replace LL := hide (LL.out.trans hl2)
    replace BX := hide (BX.out.later hl2)
    replace BS := hide (BS.out.later hl2)
    (clear s0 s1 s2; replace B10 := hide (B10.out.later hl2))
    iterate 1 (refine wpJ_mild rfl (fun K hK => ?_); go_simp; refine hK _ ?_; clear hK K)
    refine wpJ_store rfl rfl 28 (.tmp 7) (.tmp 43) rfl (w.heap.size + 1) (sc sp) rfl rfl Try.info_sense (sc_one _) _ _ BS.out (by simp) (fun W hW => ⟨⟨(LL.out.trans hW).setCells (Nat.le_succ _) _ _, (BX.out.later hW).apart _ (by omega) _ _⟩, (B10.out.later hW).apart _ (by have := hg10.out; omega) _ _⟩) ?_
    intro wl hl wz hz
    have BZ : Hid (Box wz (w.heap.size + 1) 28 (sc sp)) := by rw [hz.out]; exact (BS.out.later hl).all _ rfl
    have LZ : Hid (Later w wz) := by rw [hz.out]; exact (LL.out.trans hl).setCells (Nat.le_succ _) _ _
    have VZ := (hr2.later hl).setSns7 (BS.out.later hl) (sc sp) 0
    rw [← hz.out] at VZ
    clear hz hl hr2 hl2 e2
    refine wpJ_nil (fun wn hn => ?_)
    replace BZ := hide (BZ.out.later hn)
    replace LZ := hide (LZ.out.trans hn)
    have VN := hide (VZ.later hn)
    clear hn VZ
    go_wp2
    refine bodyPost_ret (results_tmp_cell' rfl _ _ _ (w.heap.size + 1) 0 rfl _ _ (run_loadVar_mid _ _ _ _ (sc sp) _ BZ.out.range Try.underlying28 rfl Try.info_sense) rfl) rfl ⟨_, by rw [HR.out], LZ.out, by rw [HR.out]; exact VN.out⟩
  | true =>
    have ht : decide (lun < luns) = th := by rw [HT.out, ha]; rfl
    clear HT
    by_cases hb : bt = 1
    case neg =>
      have hbb : (bt != 1) = true := by simp [hb]
      have HR : Hid (ansR (18, at_, n, pg, bt) lun luns = (cutL (stdL th) n, (0, 0, 0))) := by rw [Hid, HA.out, if_pos hb]
      clear hb
      go_wp2_with fail
      clear x0 x1 x2 x3 x4
      generalize ((w.alloc (.cells #[.int .i64 18, .int .u64 (at_ : Int), .int .i64 n, .int .i64 pg, .int .i64 bt] 24)).alloc (.cells #[.int .i64 0, .int .i64 0, .int .i64 0] 28)) = w1 at *
      refine wp_region_held (fun W => Later w W ∧ Box W w.heap.size 24 [.int .i64 18, .int .u64 (at_ : Int), .int .i64 n, .int .i64 pg, .int .i64 bt]) (fun a b hl h => ⟨h.1.trans hl, h.2.later hl⟩) ⟨LL.out, BX.out⟩ [(0, false), (2, false), (3, false), (5, false), (1, true), (4, true), (6, false), (7, true)] (by kernel_rfl) (by kernel_rfl) (by kernel_rfl) (by kernel_rfl) ?_
      haveI : Nonempty (Held (fun W => Later w W ∧ Box W w.heap.size 24 [.int .i64 18, .int .u64 (at_ : Int), .int .i64 n, .int .i64 pg, .int .i64 bt])) := ⟨⟨_, LL.out, BX.out⟩⟩
      have e2 := fun p : Held (fun W => Later w W ∧ Box W w.heap.size 24 [.int .i64 18, .int .u64 (at_ : Int), .int .i64 n, .int .i64 pg, .int .i64 bt]) => p.h.2.cell 2
      replace LL := hide (LL.out.trans (Later.refl _).drew)
      replace BX := hide (BX.out.later (Later.refl _).drew)
      replace BS := hide (BS.out.later (Later.refl _).drew)
      iterate 4 (refine wpJ_mild rfl (fun K hK => ?_); go_simp; refine hK _ ?_; clear hK K)
      refine wpJ_callL (fun a b hl h => ⟨h.1.trans hl, h.2.later hl⟩) rfl (by kernel_rfl) 15 (Plain.of (by kernel_rfl)) [.tmp 25] _ rfl [.bool th] rfl (fun v W => Bs W v (stdL th)) ⟨LL.out, BX.out⟩ (fun wx hx => rstandard_c th wx) ?_
      intro v1 b1 hl1 hr1
      replace LL := hide (LL.out.trans hl1)
      replace BX := hide (BX.out.later hl1)
      replace BS := hide (BS.out.later hl1)
      clear hl1
      refine wpJ_callL (fun a b hl h => ⟨h.1.trans hl, h.2.later hl⟩) rfl (by kernel_rfl) 18 (Plain.of (by kernel_rfl)) [.tmp 26, .tmp 28] _ rfl [v1, .int .i64 n] rfl (fun v W => Bs W v (cutL (stdL th) n)) ⟨LL.out, BX.out⟩ (fun wx hx => rcut_c n wx (hr1.later hx) (by rw [stdL_len]; decide)) ?_
      intro v2 b2 hl2 hr2
      replace LL := hide (LL.out.trans hl2)
      replace BX := hide (BX.out.later hl2)
      replace BS := hide (BS.out.later hl2)
      clear hr1
      iterate 1 (refine wpJ_mild rfl (fun K hK => ?_); go_simp; refine hK _ ?_; clear hK K)
      refine wpJ_store rfl rfl 28 (.tmp 7) (.tmp 30) rfl (w.heap.size + 1) (sc (0, 0, 0)) rfl rfl Try.info_sense (sc_one _) _ _ BS.out (by simp) (fun W hW => ⟨(LL.out.trans hW).setCells (Nat.le_succ _) _ _, (BX.out.later hW).apart _ (by omega) _ _⟩) ?_
      intro wl hl wz hz
      have BZ : Hid (Box wz (w.heap.size + 1) 28 (sc (0, 0, 0))) := by rw [hz.out]; exact (BS.out.later hl).all _ rfl
      have LZ : Hid (Later w wz) := by rw [hz.out]; exact (LL.out.trans hl).setCells (Nat.le_succ _) _ _
      have VZ := (hr2.later hl).setSns7 (BS.out.later hl) (sc (0, 0, 0)) 0
      rw [← hz.out] at VZ
      clear hz hl hr2 hl2 e2
      refine wpJ_nil (fun wn hn => ?_)
      replace BZ := hide (BZ.out.later hn)
      replace LZ := hide (LZ.out.trans hn)
      have VN := hide (VZ.later hn)
      clear hn VZ
      go_wp2
      refine bodyPost_ret (results_tmp_cell' rfl _ _ _ (w.heap.size + 1) 0 rfl _ _ (run_loadVar_mid _ _ _ _ (sc (0, 0, 0)) _ BZ.out.range Try.underlying28 rfl Try.info_sense) rfl) rfl ⟨_, by rw [HR.out], LZ.out, by rw [HR.out]; exact VN.out⟩
    subst hb
    have HR : Hid (ansR (18, at_, n, pg, 1) lun luns = (cutL (pageL pg lun th) n, pageS pg)) := by rw [Hid, HA.out, if_neg (by simp)]
    go_wp2_with fail
    clear x0 x1 x2 x3 x4
    generalize ((w.alloc (.cells #[.int .i64 18, .int .u64 (at_ : Int), .int .i64 n, .int .i64 pg, .int .i64 1] 24)).alloc (.cells #[.int .i64 0, .int .i64 0, .int .i64 0] 28)) = w1 at *
    refine (rpage_c pg lun th _ hlun).mono ?_
    rintro e w2 ⟨vp, rfl, hl, hp⟩
    replace LL := hide (LL.out.trans hl)
    replace BX := hide (BX.out.later hl)
    replace BS := hide (BS.out.later hl)
    have VP := hide hp
    clear hl hp
    generalize pageS pg = sp at *
    go_wp2_with (refine wpList_newAS rfl rfl rfl rfl 10 9 rfl rfl (by simp) (by decide) (.tmp 37) (.tmp 38) (by simp) (by simp) (by simp) rfl rfl rfl _ sp rfl rfl ?_)
    intro g10 w3 hB hl hg
    have hg10 : Hid (w.heap.size + 1 < g10) := by rw [Hid, hg.out]; exact BS.out.lt
    replace LL := hide (LL.out.trans hl)
    replace BX := hide (BX.out.later hl)
    replace BS := hide (BS.out.later hl)
    replace VP := hide (VP.out.later hl)
    have B10 := hide hB
    clear hl hg hB
    go_wp2_with fail
    refine wp_region_held (fun W => (Later w W ∧ Box W w.heap.size 24 [.int .i64 18, .int .u64 (at_ : Int), .int .i64 n, .int .i64 pg, .int .i64 1]) ∧ Box W g10 28 (sc sp)) (fun a b hl h => ⟨⟨h.1.1.trans hl, h.1.2.later hl⟩, h.2.later hl⟩) ⟨⟨LL.out, BX.out⟩, B10.out⟩ [(0, false), (1, false), (2, false), (4, false), (3, true), (5, false), (6, true)] (by kernel_rfl) (by kernel_rfl) (by kernel_rfl) (by kernel_rfl) ?_
    haveI : Nonempty (Held (fun W => (Later w W ∧ Box W w.heap.size 24 [.int .i64 18, .int .u64 (at_ : Int), .int .i64 n, .int .i64 pg, .int .i64 1]) ∧ Box W g10 28 (sc sp))) := ⟨⟨_, ⟨LL.out, BX.out⟩, B10.out⟩⟩
    have e2 := fun p : Held (fun W => (Later w W ∧ Box W w.heap.size 24 [.int .i64 18, .int .u64 (at_ : Int), .int .i64 n, .int .i64 pg, .int .i64 1]) ∧ Box W g10 28 (sc sp)) => p.h.1.2.cell 2
    have s0 := fun p : Held (fun W => (Later w W ∧ Box W w.heap.size 24 [.int .i64 18, .int .u64 (at_ : Int), .int .i64 n, .int .i64 pg, .int .i64 1]) ∧ Box W g10 28 (sc sp)) => p.h.2.cell 0
    have s1 := fun p : Held (fun W => (Later w W ∧ Box W w.heap.size 24 [.int .i64 18, .int .u64 (at_ : Int), .int .i64 n, .int .i64 pg, .int .i64 1]) ∧ Box W g10 28 (sc sp)) => p.h.2.cell 1
    have s2 := fun p : Held (fun W => (Later w W ∧ Box W w.heap.size 24 [.int .i64 18, .int .u64 (at_ : Int), .int .i64 n, .int .i64 pg, .int .i64 1]) ∧ Box W g10 28 (sc sp)) => p.h.2.cell 2
    replace LL := hide (LL.out.trans (Later.refl _).drew)
    replace BX := hide (BX.out.later (Later.refl _).drew)
    replace BS := hide (BS.out.later (Later.refl _).drew)
    replace B10 := hide (B10.out.later (Later.refl _).drew)
    replace VP := hide (VP.out.later (Later.refl _).drew)
    iterate 4 (refine wpJ_mild rfl (fun K hK => ?_); go_simp; refine hK _ ?_; clear hK K)
    refine wpJ_callL (fun a b hl h => ⟨⟨h.1.1.trans hl, h.1.2.later hl⟩, h.2.later hl⟩) rfl (by kernel_rfl) 18 (Plain.of (by kernel_rfl)) [.tmp 39, .tmp 41] _ rfl [vp, .int .i64 n] rfl (fun v W => Bs W v (cutL (pageL pg lun th) n)) ⟨⟨LL.out, BX.out⟩, B10.out⟩ (fun wx hx => rcut_c n wx (VP.out.later hx) (by have := pageL_len pg lun th; omega)) ?_
    intro v2 b2 hl2 hr2
    replace LL := hide (LL.out.trans hl2)
    replace BX := hide (BX.out.later hl2)
    replace BS := hide (BS.out.later hl2)
    (clear s0 s1 s2; replace B10 := hide (B10.out.later hl2))
    iterate 1 (refine wpJ_mild rfl (fun K hK => ?_); go_simp; refine hK _ ?_; clear hK K)
    refine wpJ_store rfl rfl 28 (.tmp 7) (.tmp 43) rfl (w.heap.size + 1) (sc sp) rfl rfl Try.info_sense (sc_one _) _ _ BS.out (by simp) (fun W hW => ⟨⟨(LL.out.trans hW).setCells (Nat.le_succ _) _ _, (BX.out.later hW).apart _ (by omega) _ _⟩, (B10.out.later hW).apart _ (by have := hg10.out; omega) _ _⟩) ?_
    intro wl hl wz hz
    have BZ : Hid (Box wz (w.heap.size + 1) 28 (sc sp)) := by rw [hz.out]; exact (BS.out.later hl).all _ rfl
    have LZ : Hid (Later w wz) := by rw [hz.out]; exact (LL.out.trans hl).setCells (Nat.le_succ _) _ _
    have VZ := (hr2.later hl).setSns7 (BS.out.later hl) (sc sp) 0
    rw [← hz.out] at VZ
    clear hz hl hr2 hl2 e2
    refine wpJ_nil (fun wn hn => ?_)
    replace BZ := hide (BZ.out.later hn)
    replace LZ := hide (LZ.out.trans hn)
    have VN := hide (VZ.later hn)
    clear hn VZ
    go_wp2
    refine bodyPost_ret (results_tmp_cell' rfl _ _ _ (w.heap.size + 1) 0 rfl _ _ (run_loadVar_mid _ _ _ _ (sc sp) _ BZ.out.range Try.underlying28 rfl Try.info_sense) rfl) rfl ⟨_, by rw [HR.out], LZ.out, by rw [HR.out]; exact VN.out⟩
end Go.Proofs.Ytdhagfklcfajgaa

namespace Go.Proofs.Ytdhagfklcfajgaa
open Go.ChangeShapes Go.WideShapes Go.ChangeAt Go.RowKit
set_option linter.unusedVariables false
set_option linter.unusedSimpArgs false

/-! What is asked of the landed inquiry. -/
abbrev In64 (x : Int) : Prop := -9223372036854775808 ≤ x ∧ x ≤ 9223372036854775807
def OkC7 (c : Cmd) : Prop := In64 c.1 ∧ c.2.1 ≤ 18446744073709551615 ∧ In64 c.2.2.1 ∧ In64 c.2.2.2.1 ∧ In64 c.2.2.2.2
def ISerial7 : Prop := ∀ (lun : Int) (w : World), In64 lun → Calls Try.prog 10 #[.int .i64 lun] w fun e w' => e = .returned (.string (strOf (serL lun))) ∧ Later w w'
def IStd7 : Prop := ∀ (there : Bool) (w : World), Calls Try.prog 14 #[.bool there] w fun e w' => ∃ v, e = .returned v ∧ Later w w' ∧ Bs w' v (stdL there)
def IPage7 : Prop := ∀ (page lun : Int) (there : Bool) (w : World), In64 page → In64 lun → Calls Try.prog 12 #[.int .i64 page, .int .i64 lun, .bool there] w fun e w' => ∃ v, e = .returned (.tuple #[v, sval (pageS page)]) ∧ Later w w' ∧ Bs w' v (pageL page lun there)
def IAns7 : Prop := ∀ (c : Cmd) (lun luns : Int) (w : World), OkC7 c → In64 lun → In64 luns → Calls Try.prog 8 #[cval c, .int .i64 lun, .int .i64 luns] w fun e w' => ∃ v, e = .returned (.tuple #[v, sval (ansR c lun luns).2]) ∧ Later w w' ∧ Bs w' v (ansR c lun luns).1
def ICut7 : Prop := ∀ (v : Value) (l : List UInt8) (n : Int) (w : World), Bs w v l → l.length ≤ 1000000 → In64 n → Calls Try.prog 17 #[v, .int .i64 n] w fun e w' => ∃ v, e = .returned v ∧ Later w w' ∧ Bs w' v (cutL l n)
def Alive7 : Prop := ∀ w : World, Calls Try.prog 7 #[] w fun e w' => e = .returned (.bool true) ∧ Later w w'
end Go.Proofs.Ytdhagfklcfajgaa

namespace Go.Proofs.Ytdhagfklcfajgaa
open Go.ChangeShapes Go.WideShapes Go.ChangeAt Go.RowKit
set_option linter.unusedVariables false
set_option linter.unusedSimpArgs false

/-! A command that comes in. -/
section
variable {H : Type} {enc : TypeId × Value → H} {w : World} {r : Reach} {base : Nat} {v : Value} {d : DataW H} {p : List MemPlace}
theorem Try.places_cmd7 : (Try.prog.fieldsOf 24).toList.map (fun f => (f.type, f.offset)) = [(3, 0), (22, 1), (3, 2), (3, 3), (3, 4)] := by kernel_rfl
theorem shape_cmd7 (fuel : Nat) (cs : List Value) (x : DataW H × List MemPlace) (h : DataW.trod enc Try.prog w 0 (fun _ => true) true fuel 24 cs = some x) : ∃ c : Cmd, OkC7 c ∧ cs = cc c := by
  obtain ⟨hl, m0, y0, h0⟩ := shape_field Try.is_cmd Try.places_cmd7 0 _ _ rfl h
  obtain ⟨_, m1, y1, h1⟩ := shape_field Try.is_cmd Try.places_cmd7 1 _ _ rfl h
  obtain ⟨_, m2, y2, h2⟩ := shape_field Try.is_cmd Try.places_cmd7 2 _ _ rfl h
  obtain ⟨_, m3, y3, h3⟩ := shape_field Try.is_cmd Try.places_cmd7 3 _ _ rfl h
  obtain ⟨_, m4, y4, h4⟩ := shape_field Try.is_cmd Try.places_cmd7 4 _ _ rfl h
  rw [show Try.prog.cellsOf 24 = 5 from by kernel_rfl] at hl
  rw [show Try.prog.cellsOf 3 = 1 from by kernel_rfl] at h0 h2 h3 h4
  rw [show Try.prog.cellsOf 22 = 1 from by kernel_rfl] at h1
  obtain ⟨n0, e0, w0⟩ := shape_int Try.underlying3 h0
  obtain ⟨n1, e1, w1⟩ := shape_int Try.underlying22 h1
  obtain ⟨n2, e2, w2⟩ := shape_int Try.underlying3 h2
  obtain ⟨n3, e3, w3⟩ := shape_int Try.underlying3 h3
  obtain ⟨n4, e4, w4⟩ := shape_int Try.underlying3 h4
  have b1 := bounds_u64 w1
  obtain ⟨m, rfl⟩ : ∃ m : Nat, n1 = m := ⟨n1.toNat, by omega⟩
  refine ⟨(n0, m, n2, n3, n4), ⟨bounds_i64 w0, by simp only; omega, bounds_i64 w2, bounds_i64 w3, bounds_i64 w4⟩, ?_⟩
  match cs, hl with
  | [x0, x1, x2, x3, x4], _ =>
    simp at e0 e1 e2 e3 e4
    rw [e0, e1, e2, e3, e4]
def RCmd7 (v : Value) : Prop := ∃ c : Cmd, OkC7 c ∧ v = cval c
theorem rd_cmd7 (hv : Value.okWide Try.prog w r base 24 v) (h : DataW.Trod enc Try.prog w 0 (fun _ => true) true 24 v d p) : RCmd7 v := by
  obtain ⟨cs, rfl, _⟩ := okWide_struct Try.is_cmd hv
  obtain ⟨fuel, hf⟩ := h
  obtain ⟨c, hc, e⟩ := shape_cmd7 fuel _ _ hf
  exact ⟨c, hc, agg_of (show cs.toList = _ from e)⟩
end
end Go.Proofs.Ytdhagfklcfajgaa

namespace Go.Proofs.Ytdhagfklcfajgaa
open Go.ChangeShapes Go.WideShapes Go.ChangeAt Go.RowKit
set_option linter.unusedVariables false
set_option linter.unusedSimpArgs false

/-! 'append(a, s...)', a our own, s a text. -/
theorem byteCells_str (m : List UInt8) : byteCells (strOf m) = bv m := by simp [byteCells, strOf, bv]
theorem strOf_size (m : List UInt8) : (strOf m).size = m.length := by simp [strOf, ByteArray.size]
set_option maxHeartbeats 1000000 in
theorem run_append_text {w : World} {B g n cap : Nat} {l : List UInt8} (ty : TypeId) (m : List UInt8) (hown : w.ownsRow B 5 1 (.slice (some ⟨g, 0, none⟩) n cap) n (bv l)) (hn : n + m.length ≤ 1000000) (hbase : B ≤ w.heap.size) :
    ∃ v' w', (Builtin.append_ #[26, 9] ty #[.slice (some ⟨g, 0, none⟩) n cap, .string (strOf m)]).run Try.prog w = .ok v' w' ∧ w'.ownsRow B 5 1 v' (n + m.length) (bv (l ++ m)) ∧ w.grownBy w' (some g) := by
  obtain ⟨i0, hi, hz0, hz1, hz2⟩ := info_parts Try.info_u8
  have hsrc : Src Try.prog i0.size 9 (.string (strOf m)) m.length (bv m) w := by
    have := Src.ofString (P := Try.prog) w (tx := 9) Try.underlying9 (strOf m)
    rw [strOf_size, byteCells_str] at this
    rw [hz1]
    exact this
  obtain ⟨hlen, h | ⟨g', cap', cur, e, hbg, hg, hnc, hcm, hcs, htake⟩⟩ := hown
  · obtain ⟨h, _⟩ := h; cases h
  simp at e
  obtain ⟨rfl, rfl⟩ := e
  rw [Nat.mul_one] at hlen hcs htake
  have hL : (bv (l ++ m)).length = n + m.length := by rw [bv_append, List.length_append, hlen, bv_length]
  have hB : Box w g 5 cur.toList := by unfold Box; rw [hg]
  by_cases hroom : n + m.length ≤ cap
  · have hrun := run_append_room_src (P := Try.prog) w 26 9 ty 5 i0 Try.underlying26 hi g 0 n cap (.string (strOf m)) m.length (bv m) hsrc hroom (fun j hj => by rw [hz1, hB.cell]; rw [bv_length] at hj; simp; omega) (fun j hj => hB.frozen _)
    rw [hz1, Nat.mul_one, Nat.zero_add] at hrun
    have hB2 := hB.setCells (bv m) n (by rw [bv_length]; simp; omega)
    refine ⟨.slice (some ⟨g, 0, none⟩) (n + m.length) cap, w.setCells g n (bv m), hrun, ?_, ?_⟩
    · refine ⟨by rw [hL, Nat.mul_one], .inr ⟨g, cap, _, rfl, hbg, hB2, hroom, hcm, ?_, ?_⟩⟩
      · simp [bv_length]; omega
      · rw [Nat.mul_one, htake, ← bv_append, ← hL]
        exact List.take_left
    · have hlt := hB.lt
      exact ⟨(below_setCells (Below.refl g w) (Nat.le_refl _) _ _).os, (below_setCells (Below.refl g w) (Nat.le_refl _) _ _).tape, (below_setCells (Below.refl g w) (Nat.le_refl _) _ _).output, (below_setCells (Below.refl g w) (Nat.le_refl _) _ _).size, fun k hk hne => heap_setCells_other w g k (fun e => hne (by rw [e])) _ _⟩
  · have hfit : Builtin.nextslicecap (n + m.length) cap * i0.bytes ≤ 281474976710656 := by
      rw [hz2]
      have := growslice_fits (need := n + m.length) (old := cap) (bytes := 1) (by omega) (by omega)
      omega
    have holds : (Builtin.firstCells i0.size n (.slice (some ⟨g, 0, none⟩) n cap)).run Try.prog w.drew = .ok (bv l).toArray w.drew := by
      rw [hz1]
      refine run_firstCells_some w.drew 1 n ⟨g, 0, none⟩ n cap (bv l) (by rw [hlen]; omega) ?_
      intro j u hu
      have hj : j < n := by rw [← hlen]; exact (List.getElem?_eq_some_iff.1 hu).1
      have hB : Box w.drew g 5 cur.toList := by unfold Box; exact hg
      rw [show (⟨g, 0, none⟩ : Addr).add j = ⟨g, j, none⟩ from by unfold Addr.add; split <;> simp_all, hB.cell j, ← hu, ← htake, List.getElem?_take_of_lt hj]
    have hrun := run_append_grow_src (P := Try.prog) w 26 9 ty 5 i0 (.int .u8 0) Try.underlying26 hi hz0 (some ⟨g, 0, none⟩) n cap (bv l) holds (.string (strOf m)) m.length (bv m) hsrc (by omega) (by omega) hfit
    have hge := grownCap_ge w (n + m.length) cap 5
    have hcm2 : grownCap w (n + m.length) cap 5 ≤ maxLen := grownCap_le_maxLen w (n + m.length) cap 5 (by unfold maxLen; omega)
    refine ⟨_, _, hrun, ?_, ?_⟩
    · refine ⟨by rw [hL, Nat.mul_one], .inr ⟨w.heap.size, _, _, rfl, hbase, heap_alloc_new w.drew _, hge, hcm2, ?_, ?_⟩⟩
      · simp only [Array.size_append, List.size_toArray, size_zeroCells, List.length_append, hlen, bv_length]
        simp [Value.cells]
        omega
      · simp only [Array.toList_append, List.toList_toArray]
        rw [Nat.mul_one, ← bv_append, ← hL]
        exact List.take_left
    · exact ⟨rfl, rfl, rfl, by simp, fun k hk _ => heap_alloc_old w.drew _ hk⟩
theorem owns_slice {w : World} {B n : Nat} {v : Value} {l : List UInt8} (hown : w.ownsRow B 5 1 v n (bv l)) (hp : 0 < n) : ∃ g cap, v = .slice (some ⟨g, 0, none⟩) n cap := by
  obtain ⟨_, h | ⟨g, cap, cur, e, _⟩⟩ := hown
  · obtain ⟨_, h⟩ := h; omega
  · exact ⟨g, cap, e⟩
theorem wpList_append_text {w : World} {ops : Array Oper} {rest : List Oper} {o : Oper} {a : Act} {Q : Exit → Act → World → Prop} (hgd : o.guard = none) (s x : Operand) (ho : o.op = .call { callee := .builtin .append, args := #[s, x], argTypes := #[26, 9] }) (B n : Nat) (v : Value) (l m : List UInt8) (hs : a.eval s = v) (hx : a.eval x = .string (strOf m)) (hown : w.ownsRow B 5 1 v n (bv l)) (hp : 0 < n) (hn : n + m.length ≤ 1000000) (hbase : B ≤ w.heap.size) (w0 : World) (hb : Below B w0 w)
    (h : ∀ v' w', w'.ownsRow B 5 1 v' (n + m.length) (bv (l ++ m)) → Below B w0 w' → wpList Try.prog ops Q rest (a.put o.dst v') w') : wpList Try.prog ops Q (o :: rest) a w := by
  obtain ⟨g, cap, rfl⟩ := owns_slice hown hp
  refine wpList_plain hgd fun K hK => ?_
  obtain ⟨v', w', hrun, h1, h2⟩ := run_append_text o.type m hown hn hbase
  have hbg : B ≤ g := (hown.lt g rfl).1
  unfold Go.Oper.wp execOp
  simp only [ho, resolve, invoke, builtin, Sem.run_bind, Sem.run_pure, Result.andThen_ok, List.map_toArray, List.map_cons, List.map_nil, hs, hx, hrun]
  exact hK _ _ (h v' w' h1 (hb.grown h2 hbase fun k hk => by cases hk; exact hbg))

/-! The landed inquiry: first, Serial, Standard. -/
theorem first7_c (there : Bool) (w : World) : Calls Try.prog 23 #[.bool there] w fun e w' => e = .returned (.int .u8 ((firstB there).toNat : Int)) ∧ w' = w := by
  cases there with
  | true =>
    go_enter Try.func23, Try.ntmps23
    go_wp2
    go_ret
    exact ⟨rfl, rfl⟩
  | false =>
    go_enter Try.func23, Try.ntmps23
    go_wp2
    go_ret
    exact ⟨rfl, rfl⟩
end Go.Proofs.Ytdhagfklcfajgaa
