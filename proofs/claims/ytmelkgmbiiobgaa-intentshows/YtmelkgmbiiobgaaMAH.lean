import Derived.Test.YtmelkgmbiiobgaaMAG
namespace Go.Proofs.Ytmelkgmbiiobgaa
open Go.ChangeShapes Go.WideShapes Go.ChangeAt Go.RowKit
set_option linter.unusedVariables false
set_option maxRecDepth 4000
set_option linter.unusedSimpArgs false
/-! Senses: key, code, qualifier. -/
abbrev Sns := Int × Int × Int
abbrev sc (s : Sns) : List Value := [.int .i64 s.1, .int .i64 s.2.1, .int .i64 s.2.2]
abbrev sval (s : Sns) : Value := .agg #[.int .i64 s.1, .int .i64 s.2.1, .int .i64 s.2.2]
def sv (L : List Sns) : List Value := L.flatMap sc
def OkS (s : Sns) : Prop := (-9223372036854775808 ≤ s.1 ∧ s.1 ≤ 9223372036854775807) ∧ (-9223372036854775808 ≤ s.2.1 ∧ s.2.1 ≤ 9223372036854775807) ∧ (-9223372036854775808 ≤ s.2.2 ∧ s.2.2 ≤ 9223372036854775807)
theorem sv_cons (s : Sns) (L : List Sns) : sv (s :: L) = sc s ++ sv L := by simp [sv]
theorem sv_append (L M : List Sns) : sv (L ++ M) = sv L ++ sv M := by simp [sv]
theorem sv_single (s : Sns) : sv [s] = [.int .i64 s.1, .int .i64 s.2.1, .int .i64 s.2.2] := by simp [sv, sc]
theorem sv_drop : ∀ (L : List Sns) (k : Nat), (sv L).drop (k * 3) = sv (L.drop k)
  | L, 0 => by simp
  | [], k + 1 => by simp [sv]
  | x :: L, k + 1 => by
    rw [sv_cons, List.drop_succ_cons, ← sv_drop L k, List.drop_append, List.drop_of_length_le (by simp [sc]; omega), List.nil_append]
    congr 1; simp [sc]; omega
theorem sv_at (L : List Sns) (k : Nat) (hk : k < L.length) : (sv L)[k * 3]? = some (.int .i64 L[k].1) ∧ (sv L)[k * 3 + 1]? = some (.int .i64 L[k].2.1) ∧ (sv L)[k * 3 + 2]? = some (.int .i64 L[k].2.2) := by
  have h : ∀ j, (sv L)[k * 3 + j]? = (sv (L.drop k))[j]? := fun j => by rw [← sv_drop, List.getElem?_drop]
  have h0 := h 0
  rw [Nat.add_zero] at h0
  rw [h0, h 1, h 2, List.drop_eq_getElem_cons hk, sv_cons]
  exact ⟨rfl, rfl, rfl⟩
theorem sv_one (L : List Sns) : ∀ u ∈ sv L, u.oneCell' = true := by
  intro u hu
  simp only [sv, List.mem_flatMap, sc] at hu
  obtain ⟨d, _, hd⟩ := hu
  simp at hd
  rcases hd with rfl | rfl | rfl <;> rfl
theorem Try.elem_sense : Elem Try.prog 30 3 24 (.agg #[.int .i64 0, .int .i64 0, .int .i64 0]) := by
  have h : (Try.prog.info? 30).map (fun i => (i.zero, i.size, i.bytes)) = some (some (.agg #[.int .i64 0, .int .i64 0, .int .i64 0]), 3, 24) := by kernel_rfl
  obtain ⟨i, hi, h1, h2, h3⟩ := info_parts h
  exact ⟨i, hi, h1, h2, h3⟩
theorem Try.zero_sense : (Try.prog.info? 30).map (fun i => (i.zero, i.size)) = some (some (.agg #[.int .i64 0, .int .i64 0, .int .i64 0]), 3) := by kernel_rfl
theorem Try.info_sense : (Try.prog.info? 30).map (·.size) = some 3 := by kernel_rfl
theorem Try.guard_sense : Try.prog.eqGuardType Try.prog.depth 30 = false := by kernel_rfl
/-! Two senses held against one another. -/
theorem map_three {α β : Type} {f : α → β} {l : List α} {x y z : β} (h : l.map f = [x, y, z]) : ∃ a b c, l = [a, b, c] ∧ f a = x ∧ f b = y ∧ f c = z := by
  match l, h with
  | [a, b, c], h => simp at h; exact ⟨a, b, c, rfl, h.1, h.2.1, h.2.2⟩
  | [_], h => simp at h
  | [_, _], h => simp at h
  | _ :: _ :: _ :: _ :: _, h => simp at h
theorem Try.fields_sense : (Try.prog.fieldsOf 30).toList.map (fun f => (f.name, f.type, f.offset)) = [("Key", 3, 0), ("Code", 3, 1), ("Qual", 3, 2)] := by kernel_rfl
theorem Try.is_sense : Try.prog.underlying 30 = some (.struct (Try.prog.fieldsOf 30)) := by kernel_rfl
theorem Try.plain_sense : Try.prog.stoodInHeld 30 = false := by kernel_rfl
theorem eqFields_three {P : Program} (w : World) (d : Nat) (xs ys : Array Value) (f g h : Field) (hf : f.name ≠ "_") (hg : g.name ≠ "_") (hh : h.name ≠ "_") (a b a' b' a2 b2 : Value) (r r' r2 : Bool)
    (p1 : (part f.type xs f.offset).run P w = .ok a w) (p2 : (part f.type ys f.offset).run P w = .ok b w) (p3 : (Op.equalIn d f.type a b).run P w = .ok r w)
    (q1 : (part g.type xs g.offset).run P w = .ok a' w) (q2 : (part g.type ys g.offset).run P w = .ok b' w) (q3 : (Op.equalIn d g.type a' b').run P w = .ok r' w)
    (s1 : (part h.type xs h.offset).run P w = .ok a2 w) (s2 : (part h.type ys h.offset).run P w = .ok b2 w) (s3 : (Op.equalIn d h.type a2 b2).run P w = .ok r2 w) :
    (Op.eqFields d xs ys [f, g, h]).run P w = .ok (r && (r' && r2)) w := by
  simp only [Op.eqFields, hf, hg, hh, ne_eq, not_false_eq_true, if_true, Sem.run_bind, p1, p2, p3, q1, q2, q3, s1, s2, s3, Result.andThen_ok]
  cases r <;> cases r' <;> cases r2 <;> simp [Sem.run_bind, q1, q2, q3, s1, s2, s3, Result.andThen_ok]
theorem part_cell {P : Program} {t : TypeId} (w : World) (ht : P.underlying t = some (.int .i64)) (cs : Array Value) (o : Nat) (v : Value) (h : cs[o]? = some v) : (part t cs o).run P w = .ok v w := by
  simp [part, isAgg, run_underlying ht, h]
theorem sense_eq (s t : Sns) (w : World) : (Op.equalIn 10000 30 (sval s) (sval t)).run Try.prog w = .ok (s == t) w := by
  refine (run_equalIn_struct w 9999 30 _ _ Try.is_sense Try.plain_sense).trans ?_
  obtain ⟨f, g, h, hfs, hf, hg, hh⟩ := map_three Try.fields_sense
  rw [hfs]
  simp only [Prod.mk.injEq] at hf hg hh
  obtain ⟨n1, t1, o1⟩ := hf
  obtain ⟨n2, t2, o2⟩ := hg
  obtain ⟨n3, t3, o3⟩ := hh
  refine eqFields_three w 9999 _ _ f g h (by rw [n1]; decide) (by rw [n2]; decide) (by rw [n3]; decide) (.int .i64 s.1) (.int .i64 t.1) (.int .i64 s.2.1) (.int .i64 t.2.1) (.int .i64 s.2.2) (.int .i64 t.2.2) _ _ _ ?_ ?_ ?_ ?_ ?_ ?_ ?_ ?_ ?_
  · rw [t1, o1]; exact part_cell w Try.underlying3 _ _ _ rfl
  · rw [t1, o1]; exact part_cell w Try.underlying3 _ _ _ rfl
  · rw [t1]; exact run_equalIn_int (P := Try.prog) w 9998 3 .i64 .i64 s.1 t.1 Try.underlying3
  · rw [t2, o2]; exact part_cell w Try.underlying3 _ _ _ rfl
  · rw [t2, o2]; exact part_cell w Try.underlying3 _ _ _ rfl
  · rw [t2]; exact run_equalIn_int (P := Try.prog) w 9998 3 .i64 .i64 s.2.1 t.2.1 Try.underlying3
  · rw [t3, o3]; exact part_cell w Try.underlying3 _ _ _ rfl
  · rw [t3, o3]; exact part_cell w Try.underlying3 _ _ _ rfl
  · rw [t3]; exact run_equalIn_int (P := Try.prog) w 9998 3 .i64 .i64 s.2.2 t.2.2 Try.underlying3
theorem wpList_eqS {w : World} {ops : Array Oper} {rest : List Oper} {o : Oper} {a : Act} {Q : Exit → Act → World → Prop} (hw : Region.wanted o (yielded ops a.tmps) = true) (x y : Operand) (hop : o.op = .binOp .eql 30 x y 30)
    (s t : Sns) (hx : a.eval x = sval s) (hy : a.eval y = sval t) (h : wpList Try.prog ops Q rest (a.put o.dst (.bool (s == t))) w) : wpList Try.prog ops Q (o :: rest) a w := by
  refine wpList_step fun K hK => ?_
  rw [if_pos hw]
  unfold Go.Oper.wp execOp
  simp [hop, hx, hy, run_eqGuard_agg w .eql 30 x y _ _ Try.guard_sense, run_eql_struct, sense_eq, Result.andThen]
  exact hK _ _ h
/-! What comes in. -/
section
variable {H : Type} {enc : TypeId × Value → H} {w : World} {r : Reach} {base : Nat} {v : Value} {d : DataW H} {p : List MemPlace}
theorem Try.places_sense : (Try.prog.fieldsOf 30).toList.map (fun f => (f.type, f.offset)) = [(3, 0), (3, 1), (3, 2)] := by kernel_rfl
theorem shape_sense (fuel : Nat) (cs : List Value) (x : DataW H × List MemPlace) (h : DataW.trod enc Try.prog w 0 (fun _ => true) true fuel 30 cs = some x) : ∃ s : Sns, OkS s ∧ cs = sc s := by
  obtain ⟨hl, m0, y0, h0⟩ := shape_field Try.is_sense Try.places_sense 0 _ _ rfl h
  obtain ⟨_, m1, y1, h1⟩ := shape_field Try.is_sense Try.places_sense 1 _ _ rfl h
  obtain ⟨_, m2, y2, h2⟩ := shape_field Try.is_sense Try.places_sense 2 _ _ rfl h
  rw [show Try.prog.cellsOf 30 = 3 from by kernel_rfl] at hl
  rw [show Try.prog.cellsOf 3 = 1 from by kernel_rfl] at h0 h1 h2
  obtain ⟨n0, e0, w0⟩ := shape_int Try.underlying3 h0
  obtain ⟨n1, e1, w1⟩ := shape_int Try.underlying3 h1
  obtain ⟨n2, e2, w2⟩ := shape_int Try.underlying3 h2
  refine ⟨(n0, n1, n2), ⟨bounds_i64 w0, bounds_i64 w1, bounds_i64 w2⟩, ?_⟩
  match cs, hl with
  | [x0, x1, x2], _ =>
    simp at e0 e1 e2
    rw [e0, e1, e2]
def RSense (v : Value) : Prop := ∃ s : Sns, OkS s ∧ v = sval s
theorem rd_sense (hv : Value.okWide Try.prog w r base 30 v) (h : DataW.Trod enc Try.prog w 0 (fun _ => true) true 30 v d p) : RSense v := by
  obtain ⟨cs, rfl, _⟩ := okWide_struct Try.is_sense hv
  obtain ⟨fuel, hf⟩ := h
  obtain ⟨s, hs, e⟩ := shape_sense fuel _ _ hf
  exact ⟨s, hs, agg_of (show cs.toList = _ from e)⟩
theorem sv_flatten : ∀ css : List (List Value), (∀ cs ∈ css, ∃ s : Sns, OkS s ∧ cs = sc s) → ∃ L : List Sns, L.length = css.length ∧ (∀ s ∈ L, OkS s) ∧ css.flatten = sv L
  | [], _ => ⟨[], rfl, (fun d hd => by cases hd), rfl⟩
  | c :: css, h => by
    obtain ⟨X, hX, rfl⟩ := h c (by simp)
    obtain ⟨D, h1, h2, h3⟩ := sv_flatten css (fun cs hcs => h cs (by simp [hcs]))
    refine ⟨X :: D, by simp [h1], fun d hd => ?_, by rw [List.flatten_cons, h3, sv_cons]⟩
    rcases List.mem_cons.1 hd with rfl | hd
    · exact hX
    · exact h2 d hd
def Sl (w : World) (v : Value) (L : List Sns) : Prop := Rw 3 w v L.length (sv L) ∧ ∀ s ∈ L, OkS s
end
theorem Sl.later {w w' : World} {v : Value} {L : List Sns} (h : Sl w v L) (hl : Later w w') : Sl w' v L := ⟨h.1.later hl, h.2⟩
theorem Sl.nil (w : World) : Sl w (.slice none 0 0) [] := ⟨Rw.nil 3 w, fun s hs => by cases hs⟩
theorem sc_one (s : Sns) : ∀ u ∈ sc s, u.oneCell' = true := by
  intro u hu
  simp [sc] at hu
  rcases hu with rfl | rfl | rfl <;> rfl
/-- 'x := v', v a sense -/
theorem wpList_newS {w : World} {ops : Array Oper} {rest : List Oper} {o1 o2 : Oper} {a : Act} {Q : Exit → Act → World → Prop} (hg1 : o1.guard = none) (hg2 : o2.guard = none) (h1 : o1.op = .alloc 30) (d : Tmp) (hd : o1.dst = some d) (hd' : d < a.tmps.size) (y : Operand) (hy' : y ≠ .tmp d) (h2 : o2.op = .store 30 (.tmp d) y)
    (s : Sns) (hy : a.eval y = sval s)
    (h : ∀ (g : Nat) (w' : World), Box w' g 30 (sc s) → Later w w' → Hid (g = w.heap.size ∧ w' = w.alloc (.cells (sc s).toArray 30)) → wpList Try.prog ops Q rest ((a.put (some d) (.pointer (some ⟨g, 0, none⟩))).put o2.dst undef) w') : wpList Try.prog ops Q (o1 :: o2 :: rest) a w :=
  wpList_new hg1 hg2 30 h1 d hd hd' y hy' h2 #[.int .i64 0, .int .i64 0, .int .i64 0] (sc s) Try.zero_sense rfl hy (sc_one s) h
theorem wpList_neqS {w : World} {ops : Array Oper} {rest : List Oper} {o : Oper} {a : Act} {Q : Exit → Act → World → Prop} (hw : Region.wanted o (yielded ops a.tmps) = true) (x y : Operand) (hop : o.op = .binOp .neq 30 x y 30)
    (s t : Sns) (hx : a.eval x = sval s) (hy : a.eval y = sval t) (h : wpList Try.prog ops Q rest (a.put o.dst (.bool (!(s == t)))) w) : wpList Try.prog ops Q (o :: rest) a w := by
  refine wpList_step fun K hK => ?_
  rw [if_pos hw]
  unfold Go.Oper.wp execOp
  simp [hop, hx, hy, run_eqGuard_agg w .neq 30 x y _ _ Try.guard_sense, run_neq_struct, sense_eq, Result.andThen]
  exact hK _ _ h
/-- two results, the second one in a variable of its own -/
theorem results_tmp_cell' {fn : Func} {p q : Tmp} {ty : TypeId} (h : fn.results = #[.tmp q, .cell p ty]) (tmps : Array Value) (P : Program) (w : World) (b o : Nat) (hp : tmps.getD p undef = .pointer (some ⟨b, o, none⟩)) (v u : Value) (hl : (loadVar ty ⟨b, o, none⟩).run P w = .ok v w) (hq : tmps.getD q undef = u) :
    (results fn tmps).run P w = .ok (.tuple #[u, v]) w := by
  have ha : (asAddr (tmps.getD p undef)).run P w = .ok ⟨b, o, none⟩ w := by rw [hp]; rfl
  simp only [results, h]
  simp only [List.mapM_toArray, Sem.run_bind]
  simp [ha, hl, hq, -Array.getD_eq_getD_getElem?]
end Go.Proofs.Ytmelkgmbiiobgaa

namespace Go.Proofs.Ytmelkgmbiiobgaa
open Go.ChangeShapes Go.WideShapes Go.ChangeAt Go.RowKit
set_option linter.unusedVariables false
set_option maxRecDepth 4000
set_option linter.unusedSimpArgs false
/-! The document's answers for senses. -/
def b8 (x : Int) : UInt8 := UInt8.ofNat (x % 256).toNat
theorem b8_nat (x : Int) : ((b8 x).toNat : Int) = x % 256 := by
  have h1 : 0 ≤ x % 256 := Int.emod_nonneg _ (by omega)
  have h2 : x % 256 < 256 := Int.emod_lt_of_pos _ (by omega)
  simp only [b8, UInt8.toNat_ofNat']
  omega
def bytesL (s : Sns) : List UInt8 := [112, 0, b8 s.1, 0, 0, 0, 0, 10, 0, 0, 0, 0, b8 s.2.1, b8 s.2.2, 0, 0, 0, 0]
theorem bytesL_length (s : Sns) : (bytesL s).length = 18 := rfl
theorem bs_of_box {w : World} {g n : Nat} {t : TypeId} {xs : List Value} {l : List UInt8} (h : Box w g t xs) (hx : xs = bv l) (hl : l.length = n) (hn : n ≤ 1000000) : Bs w (.slice (some ⟨g, 0, none⟩) n n) l := by
  subst hx
  have hr : Rw 1 w (.slice (some ⟨g, 0, none⟩) n n) n (bv l) := ⟨by rw [bv_length, hl]; omega, by unfold maxLen; omega, _, n, rfl, Nat.le_refl _, .inr ⟨g, 0, rfl, h.range⟩⟩
  exact hr.bs.1
theorem rof_c (k c q : Int) (w : World) : Calls Try.prog 21 #[.int .i64 k, .int .i64 c, .int .i64 q] w fun e w' => e = .returned (sval (k, c, q)) ∧ Later w w' := by
  have B0 := hide (Box.new w 30 #[.int .i64 k, .int .i64 c, .int .i64 q])
  have L0 := hide ((Later.refl w).alloc (.cells #[.int .i64 k, .int .i64 c, .int .i64 q] 30))
  go_enter Try.func21, Try.ntmps21
  go_wp2
  exact bodyPost_ret (results_cell1 rfl _ _ _ w.heap.size 0 rfl (sval (k, c, q)) (run_loadVar_mid _ _ _ _ [.int .i64 k, .int .i64 c, .int .i64 q] _ B0.out.range Try.underlying30 rfl (by kernel_rfl))) rfl ⟨rfl, L0.out⟩
def strOf (l : List UInt8) : ByteArray := ⟨l.toArray⟩
theorem strOf_list (l : List UInt8) : (strOf l).toList = l := by rw [ByteArray.toList_eq]; simp [strOf]
theorem Bs.strOf {w : World} {v : Value} {l : List UInt8} (h : Bs w v l) : (convert 39 9 v).run Try.prog w = .ok (.string (strOf l)) w := h.str
end Go.Proofs.Ytmelkgmbiiobgaa

namespace Go.Proofs.Ytmelkgmbiiobgaa
open Go.ChangeShapes Go.WideShapes Go.ChangeAt Go.RowKit
set_option linter.unusedVariables false
set_option maxRecDepth 4000
set_option linter.unusedSimpArgs false
/-! The document's answers for lists of senses. -/
def hasB (L : List Sns) (s : Sns) : Bool := L.any (· == s)
set_option maxHeartbeats 1000000 in
theorem rsame4_c {u v : Value} {L M : List Sns} (w : World) (hu : Sl w u L) (hv : Sl w v M) :
    Calls Try.prog 40 #[u, v] w fun e w' => e = .returned (.bool (L == M)) ∧ Later w w' := by
  obtain ⟨hu, hou⟩ := hu
  obtain ⟨hv, hov⟩ := hv
  obtain ⟨k, hk⟩ : ∃ k, k = L.length := ⟨_, rfl⟩
  obtain ⟨m, hm⟩ : ∃ m, m = M.length := ⟨_, rfl⟩
  rw [← hk] at hu
  rw [← hm] at hv
  obtain ⟨au, cu, rfl⟩ := hu.shape
  obtain ⟨av, cv, rfl⟩ := hv.shape
  have hkm := hu.2.1
  have hmm := hv.2.1
  unfold maxLen at hkm hmm
  have HU := hide hu
  have HV := hide hv
  have HK := hide hk
  have HMm := hide hm
  clear hu hv hk hm hou hov
  generalize hR : (L == M) = r
  have HR := hide hR
  clear hR
  by_cases hkne : k = m
  case neg =>
    have hb : ((k : Int) != (m : Int)) = true := by rw [bne_iff_ne]; omega
    have hrf : Hid (r = false) := by
      unfold Hid
      rw [← HR.out, beq_eq_false_iff_ne]
      intro h
      have h1 := HK.out
      have h2 := HMm.out
      rw [h] at h1
      omega
    clear HR
    go_enter Try.func40, Try.ntmps40
    go_wp2
    go_ret
    exact ⟨ret_bool hrf.out.symm, Later.refl w⟩
  subst hkne
  have hb : ((k : Int) != (k : Int)) = false := by simp
  go_enter Try.func40, Try.ntmps40
  go_wp2_with fail
  go_loopw [5] (fun i wr => ∃ q : Nat, q ≤ k ∧ i = .int .i64 q ∧ Hid (L.take q = M.take q) ∧ Hid (Later w wr)) (fun i _ => k - (intOf i).toNat)
  case atStart => exact ⟨0, Nat.zero_le _, rfl, by simp [Hid], Later.refl w⟩
  case round =>
    obtain ⟨q, hq, rfl, hall, hl⟩ := hrel
    by_cases hlt : q < k
    · obtain ⟨b, off, e, hr⟩ := (HU.out.later hl.out).lies? (by omega)
      subst e
      obtain ⟨b2, off2, e, hr2⟩ := (HV.out.later hl.out).lies? (by omega)
      subst e
      have hqL : q < L.length := by have := HK.out; omega
      have hqM : q < M.length := by have := HMm.out; omega
      have hat := sv_at L q hqL
      have c0 := hr _ _ hat.1
      have c1 := hr _ _ hat.2.1
      have c2 := hr _ _ hat.2.2
      have hat2 := sv_at M q hqM
      have e0 := hr2 _ _ hat2.1
      have e1 := hr2 _ _ hat2.2.1
      have e2 := hr2 _ _ hat2.2.2
      have hyes : Hid ((L[q] == M[q]) = true → L.take (q + 1) = M.take (q + 1)) := fun h => by
        rw [List.take_succ_eq_append_getElem hqL, List.take_succ_eq_append_getElem hqM, hall.out, eq_of_beq h]
      have hno : Hid ((L[q] == M[q]) = false → r = false) := fun h => by
        rw [← HR.out, beq_eq_false_iff_ne]
        intro h2
        subst h2
        simp at h
      generalize L[q] = t at *
      generalize M[q] = t2 at *
      clear hat hat2 hr hr2 hall
      rw [← Nat.add_assoc] at c1 c2 e1 e2
      have hc := fun r => ((Later.refl wr).drew.trans (later_rg wr.drew r))
      have a0 := fun r => (hc r).cellOf c0
      have a1 := fun r => (hc r).cellOf c1
      have a2 := fun r => (hc r).cellOf c2
      have x0 := fun r => (hc r).cellOf e0
      have x1 := fun r => (hc r).cellOf e1
      have x2 := fun r => (hc r).cellOf e2
      go_wp2_with fail
      refine wp_region_sched ((List.range 9).map fun i => (i, false)) (by kernel_rfl) (by kernel_rfl) (by kernel_rfl) (by kernel_rfl) ?_
      simp only [List.range, List.range.loop, List.map]
      iterate 8 (refine wpS_mild rfl (fun K hK => ?_); go_simp; refine hK _ ?_; clear hK K)
      refine wpS_neqG rfl (by kernel_rfl) 30 _ (.tmp 20) (.tmp 24) rfl _ _ rfl rfl Try.guard_sense (t == t2) (fun w => sense_eq t t2 w) ?_
      refine wpS_nil (fun wx hwx => ?_)
      have Lx := hide (hl.out.drew.trans hwx)
      clear a0 a1 a2 x0 x1 x2 c0 c1 c2 e0 e1 e2 hc hwx hl
      cases hts : (t == t2) with
      | true =>
        rw [hts] at hyes
        go_wp2
        go_roundw
        case rel => exact ⟨q + 1, by omega, by go_num, hyes.out (by simp), Lx⟩
        case measure => simp [intOf]; omega
      | false =>
        rw [hts] at hno
        go_wp2
        go_ret
        exact ⟨ret_bool (hno.out (by simp)).symm, Lx.out⟩
    · go_wp2
      go_ret
      refine ⟨ret_bool ?_, hl.out⟩
      have hk := HK.out
      have hm := HMm.out
      have := hall.out
      rw [List.take_of_length_le (by omega), List.take_of_length_le (by omega)] at this
      rw [← HR.out, this]
      simp
end Go.Proofs.Ytmelkgmbiiobgaa

namespace Go.Proofs.Ytmelkgmbiiobgaa
open Go.ChangeShapes Go.WideShapes Go.ChangeAt Go.RowKit
set_option linter.unusedVariables false
set_option maxRecDepth 4000
set_option linter.unusedSimpArgs false
/-! The document's answers for lists of senses: Add, First. -/
def power : Sns := (6, 41, 0)
def addL (L : List Sns) (s : Sns) : List Sns := if hasB L s then L else if s == power then [s] else if 4 ≤ L.length then L else L ++ [s]
theorem addL_ok {L : List Sns} {s : Sns} (h : ∀ x ∈ L, OkS x) (hs : OkS s) : ∀ x ∈ addL L s, OkS x := by
  intro x hx
  unfold addL at hx
  split at hx
  · exact h x hx
  · split at hx
    · simp at hx; rw [hx]; exact hs
    · split at hx
      · exact h x hx
      · rcases List.mem_append.1 hx with hx | hx
        · exact h x hx
        · simp at hx; rw [hx]; exact hs
/-- a list in one's own memory -/
def SlO (w : World) (B : Nat) (v : Value) (L : List Sns) : Prop := w.ownsRow B 30 3 v L.length (sv L)
theorem SlO.sl {w : World} {B : Nat} {v : Value} {L : List Sns} (h : SlO w B v L) (ho : ∀ s ∈ L, OkS s) : Sl w v L := ⟨Rw.of_owns h, ho⟩
theorem SlO.rebase {w : World} {B B' : Nat} {v : Value} {L : List Sns} (h : SlO w B v L) (hb : B' ≤ B) : SlO w B' v L := owns_rebase h hb
theorem SlO.box (w : World) (s : Sns) : SlO (w.alloc (.cells #[.int .i64 s.1, .int .i64 s.2.1, .int .i64 s.2.2] 30)) w.heap.size (.slice (some ⟨w.heap.size, 0, none⟩) 1 1) [s] := by
  have := World.ownsRow_lit (base := w.heap.size) (e := 30) (size := 3) w #[.int .i64 s.1, .int .i64 s.2.1, .int .i64 s.2.2] 1 (Nat.le_refl _) (by simp [maxLen]) rfl
  unfold SlO
  rw [sv_single]
  exact this
end Go.Proofs.Ytmelkgmbiiobgaa

namespace Go.Proofs.Ytmelkgmbiiobgaa
open Go.ChangeShapes Go.WideShapes Go.ChangeAt Go.RowKit
set_option linter.unusedVariables false
set_option maxRecDepth 4000
set_option linter.unusedSimpArgs false
/-! Slots. Variables that hold no numbers lie apart from rows of numbers. -/
def NoInts (cs : List Value) : Prop := ∀ c ∈ cs, ∀ k z, c ≠ .int k z
def Ints (xs : List Value) : Prop := ∀ x ∈ xs, ∃ k z, x = .int k z
theorem bv_ints (l : List UInt8) : Ints (bv l) := fun x hx => by
  obtain ⟨b, _, rfl⟩ := List.mem_map.1 hx
  exact ⟨_, _, rfl⟩
theorem dv_ints (D : List Drt) : Ints (dv D) := fun x hx => by
  simp only [dv, List.mem_flatMap] at hx
  obtain ⟨d, _, hd⟩ := hx
  rcases List.mem_cons.1 hd with e | h
  · exact ⟨_, _, e⟩
  · exact bv_ints _ x h
theorem Rw.setBox {sz : Nat} {w : World} {v : Value} {n : Nat} {xs : List Value} {g : Nat} {ty : TypeId} {cs : List Value} (h : Rw sz w v n xs) (hx : Ints xs) (hB : Box w g ty cs) (hc : NoInts cs) (vs : List Value) (o : Nat) : Rw sz (w.setCells g o vs) v n xs := by
  obtain ⟨h1, h2, a, cap, rfl, hcap, h3⟩ := h
  refine ⟨h1, h2, a, cap, rfl, hcap, ?_⟩
  rcases h3 with h3 | ⟨b, off, rfl, hr⟩
  · exact .inl h3
  · refine .inr ⟨b, off, rfl, fun j u hu => ?_⟩
    have h4 := hr j u hu
    have hne : b ≠ g := fun e => by
      subst e
      rw [hB.cell] at h4
      obtain ⟨k, z, e⟩ := hx u (List.mem_of_getElem? hu)
      exact hc u (List.mem_of_getElem? h4) k z e
    rw [← h4]
    simp only [World.cell?, heap_setCells_other w g b hne]
theorem Med.setBox {w : World} {v : Value} {n : Nat} {F : List UInt8} {D : List Drt} {g : Nat} {ty : TypeId} {cs : List Value} (h : Med w v n F D) (hB : Box w g ty cs) (hc : NoInts cs) (vs : List Value) (o : Nat) : Med (w.setCells g o vs) v n F D := by
  obtain ⟨vb, vd, rfl, hb, hd, ho⟩ := h
  exact ⟨vb, vd, rfl, hb.setBox (bv_ints F) hB hc vs o, hd.setBox (dv_ints D) hB hc vs o, ho⟩
/-- a slot's cells -/
abbrev tc (vb vd : Value) (p r l : Bool) : List Value := [vb, vd, .bool p, .bool r, .bool l]
def Slt (w : World) (v : Value) (n : Nat) (F : List UInt8) (D : List Drt) (p r l : Bool) : Prop :=
  ∃ ab cb aD k cD, v = .agg #[.slice ab n cb, .slice aD k cD, .bool p, .bool r, .bool l] ∧ Med w (.agg #[.slice ab n cb, .slice aD k cD]) n F D
def OffT (g : Nat) (v : Value) : Prop := ∃ a b p r l, v = .agg #[a, b, .bool p, .bool r, .bool l] ∧ OffS g a ∧ OffS g b
theorem tc_noints (a b : Option Addr) (n m c d : Nat) (p r l : Bool) : NoInts (tc (.slice a n c) (.slice b m d) p r l) := by
  intro x hx k z
  simp at hx
  rcases hx with rfl | rfl | rfl | rfl | rfl <;> simp
theorem tc_one (a b : Option Addr) (n m c d : Nat) (p r l : Bool) : ∀ u ∈ tc (.slice a n c) (.slice b m d) p r l, u.oneCell' = true := by
  intro x hx
  simp at hx
  rcases hx with rfl | rfl | rfl | rfl | rfl <;> rfl
theorem Slt.later {w w' : World} {v : Value} {n : Nat} {F : List UInt8} {D : List Drt} {p r l : Bool} (h : Slt w v n F D p r l) (hl : Later w w') : Slt w' v n F D p r l := by
  obtain ⟨ab, cb, aD, k, cD, rfl, hm⟩ := h
  exact ⟨ab, cb, aD, k, cD, rfl, hm.later hl⟩
theorem Try.info_slot : (Try.prog.info? 27).map (·.size) = some 5 := by kernel_rfl
theorem Try.zero_slot : (Try.prog.info? 27).map (fun i => (i.zero, i.size)) = some (some (.agg #[.slice none 0 0, .slice none 0 0, .bool false, .bool false, .bool false]), 5) := by kernel_rfl
/-- a slot is laid into the variable of the result -/
theorem slot_set {w w8 : World} {R : Nat} {a b : Option Addr} {n m c d n' : Nat} {p r l : Bool} {F : List UInt8} {D : List Drt} {cs : List Value} (hR : w.heap.size ≤ R) (hB : Box w8 R 27 cs) (hn : NoInts cs) (hl5 : cs.length = 5) (hl : Later w w8) (hm : Med w8 (.agg #[.slice a n c, .slice b m d]) n' F D) :
    Box (w8.setCells R 0 (tc (.slice a n c) (.slice b m d) p r l)) R 27 (tc (.slice a n c) (.slice b m d) p r l) ∧ Later w (w8.setCells R 0 (tc (.slice a n c) (.slice b m d) p r l)) ∧ Med (w8.setCells R 0 (tc (.slice a n c) (.slice b m d) p r l)) (.agg #[.slice a n c, .slice b m d]) n' F D :=
  ⟨hB.all _ (by simp [hl5]), hl.setCells hR _ 0, hm.setBox hB hn _ 0⟩
theorem Slt.mk' {w : World} {a b : Option Addr} {n m c d n' : Nat} {F : List UInt8} {D : List Drt} (p r l : Bool) (hm : Med w (.agg #[.slice a n c, .slice b m d]) n' F D) : Slt w (.agg #[.slice a n c, .slice b m d, .bool p, .bool r, .bool l]) n' F D p r l := by
  obtain ⟨vb, vd, e, h1, h2, h3⟩ := hm
  simp at e
  obtain ⟨rfl, rfl⟩ := e
  have : n = n' := by
    obtain ⟨a', c', e'⟩ := h1.shape
    simp at e'
    exact e'.2.1
  subst this
  exact ⟨a, c, b, m, d, rfl, _, _, rfl, h1, h2, h3⟩
theorem shut5 {w : World} {R : Nat} {cs : List Value} (h : Box w R 27 cs) (hl : cs.length = 5) : (loadVar 27 ⟨R, 0, none⟩).run Try.prog w = .ok (.agg cs.toArray) w :=
  run_loadVar_mid _ _ _ _ cs _ h.range Try.underlying27 rfl (by rw [Try.info_slot, hl])
/-- a store into the parameter's variable: it turns, the result's stays, the medium stays -/
theorem tri_set {w w3 : World} {gX gR : Nat} {tR : TypeId} {cs cr : List Value} {v : Value} {n : Nat} {F : List UInt8} {D : List Drt} (hX : w.heap.size ≤ gX) (hne : gX ≠ gR) (BX : Box w3 gX 27 cs) (hn : NoInts cs) (BR : Box w3 gR tR cr) (L : Later w w3) (M : Med w3 v n F D) (vs : List Value) (o : Nat) (ho : o + vs.length ≤ cs.length) :
    Box (w3.setCells gX o vs) gX 27 (cs.take o ++ vs ++ cs.drop (o + vs.length)) ∧ Box (w3.setCells gX o vs) gR tR cr ∧ Later w (w3.setCells gX o vs) ∧ Med (w3.setCells gX o vs) v n F D :=
  ⟨BX.setCells vs o ho, BR.kept (heap_setCells_other w3 gX gR (fun e => hne e.symm) _ _), L.setCells hX vs o, M.setBox BX hn vs o⟩
theorem Rw.setOff {sz : Nat} {w : World} {v : Value} {n : Nat} {xs : List Value} {g : Nat} (h : Rw sz w v n xs) (hx : OffS g v) (vs : List Value) (o : Nat) : Rw sz (w.setCells g o vs) v n xs := by
  obtain ⟨h1, h2, a, cap, rfl, hcap, h3⟩ := h
  refine ⟨h1, h2, a, cap, rfl, hcap, ?_⟩
  rcases h3 with h3 | ⟨b, off, rfl, hr⟩
  · exact .inl h3
  · rcases hx with hx | hx
    · exact .inl hx
    · refine .inr ⟨b, off, rfl, fun j u hu => ?_⟩
      rw [← hr j u hu]
      simp only [World.cell?, heap_setCells_other w g b (fun e => hx e)]
theorem Slt.setOff {w : World} {v : Value} {n : Nat} {F : List UInt8} {D : List Drt} {p r l : Bool} {g : Nat} (h : Slt w v n F D p r l) (hx : OffT g v) (vs : List Value) (o : Nat) : Slt (w.setCells g o vs) v n F D p r l := by
  obtain ⟨ab, cb, aD, k, cD, rfl, hm⟩ := h
  obtain ⟨a, b, p', r', l', e, o1, o2⟩ := hx
  simp at e
  obtain ⟨rfl, rfl, _⟩ := e
  obtain ⟨vb, vd, e, h1, h2, h3⟩ := hm
  simp at e
  obtain ⟨rfl, rfl⟩ := e
  exact ⟨ab, cb, aD, k, cD, rfl, _, _, rfl, h1.setOff o1 vs o, h2.setOff o2 vs o, h3⟩
/-- two results, each in a variable of its own -/
theorem results_cell_cell' {fn : Func} {p q : Tmp} {ty ty' : TypeId} (h : fn.results = #[.cell p ty, .cell q ty']) (tmps : Array Value) (P : Program) (w : World) (b o b' o' : Nat) (hp : tmps.getD p undef = .pointer (some ⟨b, o, none⟩)) (hq : tmps.getD q undef = .pointer (some ⟨b', o', none⟩)) (v u : Value) (hl : (loadVar ty ⟨b, o, none⟩).run P w = .ok v w) (hl' : (loadVar ty' ⟨b', o', none⟩).run P w = .ok u w) :
    (results fn tmps).run P w = .ok (.tuple #[v, u]) w := by
  have ha : (asAddr (tmps.getD p undef)).run P w = .ok ⟨b, o, none⟩ w := by rw [hp]; rfl
  have hb : (asAddr (tmps.getD q undef)).run P w = .ok ⟨b', o', none⟩ w := by rw [hq]; rfl
  simp only [results, h]
  simp only [List.mapM_toArray, Sem.run_bind]
  simp [ha, hl, hb, hl', -Array.getD_eq_getD_getElem?]
theorem shut3 {w : World} {R : Nat} {s : Sns} (h : Box w R 30 (sc s)) : (loadVar 30 ⟨R, 0, none⟩).run Try.prog w = .ok (sval s) w :=
  run_loadVar_mid _ _ _ _ (sc s) _ h.range Try.underlying30 rfl Try.info_sense
/-- a store of a struct into a variable of whatever type; the world behind it gets a name -/
theorem wpList_storeT {P : Program} {w : World} {ops : Array Oper} {rest : List Oper} {op : Oper} {a : Act} {Q : Exit → Act → World → Prop} (hgd : op.guard = none) (ty : TypeId) (x y : Operand) (ho : op.op = .store ty x y) (g o : Nat) (hx : a.eval x = .pointer (some ⟨g, o, none⟩)) (vs : List Value) (hy : a.eval y = .agg vs.toArray)
    (hi : (P.info? ty).map (·.size) = some vs.length) (h1 : ∀ u ∈ vs, u.oneCell' = true) (t : TypeId) (cs : List Value) (hB : Box w g t cs) (hl : o + vs.length ≤ cs.length)
    (h : ∀ w', Hid (w' = w.setCells g o vs) → wpList P ops Q rest (a.put op.dst undef) w') : wpList P ops Q (op :: rest) a w :=
  wpList_store_mid hgd ty x y ho g o vs.toArray hx hy (by simpa using hB.there o vs.length hl) (by simpa using hi) (all_oneCell_toArray h1) (h _ rfl)
/-- a store of one cell -/
theorem wpList_storeC {P : Program} {w : World} {ops : Array Oper} {rest : List Oper} {op : Oper} {a : Act} {Q : Exit → Act → World → Prop} (hgd : op.guard = none) (ty : TypeId) (x y : Operand) (ho : op.op = .store ty x y) (g o : Nat) (hx : a.eval x = .pointer (some ⟨g, o, none⟩)) (b : Bool) (hy : a.eval y = .bool b)
    (hs : (P.info? ty).map (·.size) = some 1) (t : TypeId) (cs : List Value) (hB : Box w g t cs) (hl : o < cs.length)
    (h : ∀ w', Hid (w' = w.setCells g o [.bool b]) → wpList P ops Q rest (a.put op.dst undef) w') : wpList P ops Q (op :: rest) a w := by
  refine wpList_plain hgd fun K hK => ?_
  have hc : w.cell? ⟨g, o, none⟩ = some (cs[o]'hl) := by rw [hB.cell o, List.getElem?_eq_getElem hl]
  have hf := hB.frozen o
  have hrun : (Instr.storeAt ty (.pointer (some ⟨g, o, none⟩)) (.bool b)).run P w = .ok () (w.setCells g o [.bool b]) := by
    simp [Instr.storeAt, Instr.sureAddr, storeVar, run_size hs, Value.cells, World.setCells]
    go_simp
  unfold Go.Oper.wp
  simp [execOp, ho, hx, hy, hrun, Result.andThen]
  exact hK _ _ (h _ rfl)
end Go.Proofs.Ytmelkgmbiiobgaa

namespace Go.Proofs.Ytmelkgmbiiobgaa
open Go.ChangeShapes Go.WideShapes Go.ChangeAt Go.RowKit
set_option linter.unusedVariables false
set_option maxRecDepth 4000
set_option linter.unusedSimpArgs false
/-! The document's answers for slots. -/
def syncF (n : Nat) (F : List UInt8) (D : List Drt) : List UInt8 := if rightB n D then app F D else F
def syncD (n : Nat) (D : List Drt) : List Drt := if rightB n D then [] else D
end Go.Proofs.Ytmelkgmbiiobgaa

namespace Go.Proofs.Ytmelkgmbiiobgaa
open Go.ChangeShapes Go.WideShapes Go.ChangeAt Go.RowKit
set_option linter.unusedVariables false
set_option maxRecDepth 4000
set_option linter.unusedSimpArgs false
/-! The document's answers for slots: Ready, Switch, Power, Button. -/
def notReady : Sns := (2, 58, 0)
def readyS (p : Bool) : Sns := if p then (0, 0, 0) else notReady
end Go.Proofs.Ytmelkgmbiiobgaa

namespace Go.Proofs.Ytmelkgmbiiobgaa
open Go.ChangeShapes Go.WideShapes Go.ChangeAt Go.RowKit
set_option linter.unusedVariables false
set_option maxRecDepth 4000
set_option linter.unusedSimpArgs false
/-! The document's answers for slots: Button, Power, Same, Copy. -/
def btF (p l : Bool) (n : Nat) (F : List UInt8) (D : List Drt) : List UInt8 := if p && !l then syncF n F D else F
def btD (p l : Bool) (n : Nat) (D : List Drt) : List Drt := if p && !l then syncD n D else D
end Go.Proofs.Ytmelkgmbiiobgaa

namespace Go.Proofs.Ytmelkgmbiiobgaa
open Go.ChangeShapes Go.WideShapes Go.ChangeAt Go.RowKit
set_option linter.unusedVariables false
set_option maxRecDepth 4000
set_option linter.unusedSimpArgs false
/-! The document's answers for slots: Check, Same. -/
def checkS (n : Nat) (D : List Drt) (p r : Bool) (at_ : Nat) (m : Int) (wr : Bool) : Sns :=
  if !p then (2, 58, 0) else if r && wr then (7, 39, 0) else if withinB (allN n D) at_ m then (0, 0, 0) else (5, 33, 0)
set_option maxRecDepth 20000 in
set_option maxHeartbeats 2000000 in
theorem rcheck_c {v : Value} {n : Nat} {F : List UInt8} {D : List Drt} {p r l : Bool} (at_ : Nat) (m : Int) (wr : Bool) (w : World) (h : Slt w v n F D p r l) (ha : at_ ≤ 18446744073709551615) :
    Calls Try.prog 37 #[v, .int .u64 at_, .int .i64 m, .bool wr] w fun e w' => e = .returned (sval (checkS n D p r at_ m wr)) ∧ Later w w' := by
  have HS := hide h
  obtain ⟨ab, cb, aD, k, cD, rfl, hm⟩ := h
  have HM := hide hm
  clear hm
  cases p with
  | false =>
    go_enter Try.func37, Try.ntmps37
    go_wp2_with fail
    refine (rof_c 2 58 0 _).mono ?_
    rintro e wq ⟨rfl, hl⟩
    have BQ : Hid (Box wq (w.heap.size + 1) 30 (sc (0, 0, 0))) := Box.later (Box.new' _ _ _ _ rfl _ (by simp)) hl
    have LQ : Hid (Later w wq) := Later.trans (((Later.refl w).alloc _).alloc _) hl
    clear hl
    go_wp2_with (refine wpList_storeT rfl 30 (.tmp 8) (.tmp 12) rfl (w.heap.size + 1) 0 rfl (sc (2, 58, 0)) rfl Try.info_sense (sc_one _) _ _ BQ.out (by simp) ?_)
    intro wz hwz
    have BZ := hide (BQ.out.all (sc (2, 58, 0)) rfl)
    have LZ := hide (LQ.out.setCells (g := w.heap.size + 1) (by omega) (sc (2, 58, 0)) 0)
    rw [← hwz.out] at BZ LZ
    clear hwz BQ LQ
    go_wp2
    refine bodyPost_ret (results_cell1 rfl _ _ _ (w.heap.size + 1) 0 rfl (sval (2, 58, 0)) (shut3 BZ.out)) rfl ⟨?_, LZ.out⟩
    simp [checkS]
  | true =>
    by_cases hrw : (r && wr) = true
    · obtain ⟨rfl, rfl⟩ : r = true ∧ wr = true := by simpa using hrw
      clear hrw
      go_enter Try.func37, Try.ntmps37
      go_wp2_with fail
      refine (rof_c 7 39 0 _).mono ?_
      rintro e wq ⟨rfl, hl⟩
      have BQ : Hid (Box wq (w.heap.size + 1) 30 (sc (0, 0, 0))) := Box.later (Box.new' _ _ _ _ rfl _ (by simp)) hl
      have LQ : Hid (Later w wq) := Later.trans (((Later.refl w).alloc _).alloc _) hl
      clear hl
      go_wp2_with (refine wpList_storeT rfl 30 (.tmp 8) (.tmp 18) rfl (w.heap.size + 1) 0 rfl (sc (7, 39, 0)) rfl Try.info_sense (sc_one _) _ _ BQ.out (by simp) ?_)
      intro wz hwz
      have BZ := hide (BQ.out.all (sc (7, 39, 0)) rfl)
      have LZ := hide (LQ.out.setCells (g := w.heap.size + 1) (by omega) (sc (7, 39, 0)) 0)
      rw [← hwz.out] at BZ LZ
      clear hwz BQ LQ
      go_wp2
      refine bodyPost_ret (results_cell1 rfl _ _ _ (w.heap.size + 1) 0 rfl (sval (7, 39, 0)) (shut3 BZ.out)) rfl ⟨?_, LZ.out⟩
      simp [checkS]
    · have hC : Hid (checkS n D true r at_ m wr = if withinB (allN n D) at_ m then (0, 0, 0) else (5, 33, 0)) := by
        have h' : (r && wr) = false := by simpa using hrw
        simp [Hid, checkS, h']
      have hNb : Hid (allN n D ≤ 9223372036854775807) := by
        obtain ⟨vb, vd, e, hb, _⟩ := HM.out
        have := hb.2.1
        unfold maxLen at this
        unfold Hid allN
        split <;> omega
      have step : ∀ (rr ww : Bool) (S : Sns), Hid (S = if withinB (allN n D) at_ m then (0, 0, 0) else (5, 33, 0)) → (rr && ww) = false → Calls Try.prog 37 #[.agg #[.slice ab n cb, .slice aD k cD, .bool true, .bool rr, .bool l], .int .u64 at_, .int .i64 m, .bool ww] w fun e w' => e = .returned (sval S) ∧ Later w w' := by
        intro rr ww S HSv hh
        cases rr with
        | true =>
          obtain rfl : ww = false := by simpa using hh
          clear hh hrw hC
          go_enter Try.func37, Try.ntmps37
          go_wp2_with fail
          refine (rall_c _ (HM.out.later (((Later.refl w).alloc _).alloc _))).mono ?_
          rintro e w3 ⟨v3, rfl, hl, h3⟩
          have BQ : Hid (Box w3 (w.heap.size + 1) 30 (sc (0, 0, 0))) := Box.later (Box.new' _ _ _ _ rfl _ (by simp)) hl
          have L3 : Hid (Later w w3) := Later.trans (((Later.refl w).alloc _).alloc _) hl
          obtain ⟨a3, c3, rfl⟩ := (Rw.of_owns h3).shape
          clear hl h3
          generalize allN n D = N at *
          have hNi : (N : Int) ≤ 9223372036854775807 := by have := hNb.out; omega
          go_wp2_with fail
          refine (rwithin_c (N : Int) at_ m _ hNi ha).mono ?_
          rintro e w4 ⟨rfl, hw1⟩
          have hw2 := hw1.symm
          subst hw2
          clear hw1
          cases hW : withinB (N : Int) at_ m with
          | true =>
            go_wp2_with (refine wpList_storeT rfl 30 (.tmp 8) (.tmp 28) rfl (w.heap.size + 1) 0 rfl (sc (0, 0, 0)) rfl Try.info_sense (sc_one _) _ _ BQ.out (by simp) ?_)
            intro wz hwz
            have BZ := hide (BQ.out.all (sc (0, 0, 0)) rfl)
            have LZ := hide (L3.out.setCells (g := w.heap.size + 1) (by omega) (sc (0, 0, 0)) 0)
            rw [← hwz.out] at BZ LZ
            clear hwz BQ L3
            go_wp2
            exact bodyPost_ret (results_cell1 rfl _ _ _ (w.heap.size + 1) 0 rfl (sval (0, 0, 0)) (shut3 BZ.out)) rfl ⟨by rw [HSv.out, hW]; rfl, LZ.out⟩
          | false =>
            go_wp2_with fail
            refine (rof_c 5 33 0 _).mono ?_
            rintro e w5 ⟨rfl, hl⟩
            replace BQ := hide (BQ.out.later hl)
            replace L3 := hide (L3.out.later hl)
            clear hl
            go_wp2_with (refine wpList_storeT rfl 30 (.tmp 8) (.tmp 27) rfl (w.heap.size + 1) 0 rfl (sc (5, 33, 0)) rfl Try.info_sense (sc_one _) _ _ BQ.out (by simp) ?_)
            intro wz hwz
            have BZ := hide (BQ.out.all (sc (5, 33, 0)) rfl)
            have LZ := hide (L3.out.setCells (g := w.heap.size + 1) (by omega) (sc (5, 33, 0)) 0)
            rw [← hwz.out] at BZ LZ
            clear hwz BQ L3
            go_wp2
            exact bodyPost_ret (results_cell1 rfl _ _ _ (w.heap.size + 1) 0 rfl (sval (5, 33, 0)) (shut3 BZ.out)) rfl ⟨by rw [HSv.out, hW]; rfl, LZ.out⟩
        | false =>
          clear hh hrw hC
          go_enter Try.func37, Try.ntmps37
          go_wp2_with fail
          refine (rall_c _ (HM.out.later (((Later.refl w).alloc _).alloc _))).mono ?_
          rintro e w3 ⟨v3, rfl, hl, h3⟩
          have BQ : Hid (Box w3 (w.heap.size + 1) 30 (sc (0, 0, 0))) := Box.later (Box.new' _ _ _ _ rfl _ (by simp)) hl
          have L3 : Hid (Later w w3) := Later.trans (((Later.refl w).alloc _).alloc _) hl
          obtain ⟨a3, c3, rfl⟩ := (Rw.of_owns h3).shape
          clear hl h3
          generalize allN n D = N at *
          have hNi : (N : Int) ≤ 9223372036854775807 := by have := hNb.out; omega
          go_wp2_with fail
          refine (rwithin_c (N : Int) at_ m _ hNi ha).mono ?_
          rintro e w4 ⟨rfl, hw1⟩
          have hw2 := hw1.symm
          subst hw2
          clear hw1
          cases hW : withinB (N : Int) at_ m with
          | true =>
            go_wp2_with (refine wpList_storeT rfl 30 (.tmp 8) (.tmp 28) rfl (w.heap.size + 1) 0 rfl (sc (0, 0, 0)) rfl Try.info_sense (sc_one _) _ _ BQ.out (by simp) ?_)
            intro wz hwz
            have BZ := hide (BQ.out.all (sc (0, 0, 0)) rfl)
            have LZ := hide (L3.out.setCells (g := w.heap.size + 1) (by omega) (sc (0, 0, 0)) 0)
            rw [← hwz.out] at BZ LZ
            clear hwz BQ L3
            go_wp2
            exact bodyPost_ret (results_cell1 rfl _ _ _ (w.heap.size + 1) 0 rfl (sval (0, 0, 0)) (shut3 BZ.out)) rfl ⟨by rw [HSv.out, hW]; rfl, LZ.out⟩
          | false =>
            go_wp2_with fail
            refine (rof_c 5 33 0 _).mono ?_
            rintro e w5 ⟨rfl, hl⟩
            replace BQ := hide (BQ.out.later hl)
            replace L3 := hide (L3.out.later hl)
            clear hl
            go_wp2_with (refine wpList_storeT rfl 30 (.tmp 8) (.tmp 27) rfl (w.heap.size + 1) 0 rfl (sc (5, 33, 0)) rfl Try.info_sense (sc_one _) _ _ BQ.out (by simp) ?_)
            intro wz hwz
            have BZ := hide (BQ.out.all (sc (5, 33, 0)) rfl)
            have LZ := hide (L3.out.setCells (g := w.heap.size + 1) (by omega) (sc (5, 33, 0)) 0)
            rw [← hwz.out] at BZ LZ
            clear hwz BQ L3
            go_wp2
            exact bodyPost_ret (results_cell1 rfl _ _ _ (w.heap.size + 1) 0 rfl (sval (5, 33, 0)) (shut3 BZ.out)) rfl ⟨by rw [HSv.out, hW]; rfl, LZ.out⟩
      exact step r wr _ hC (by simpa using hrw)
set_option maxRecDepth 20000 in
set_option maxHeartbeats 2000000 in
theorem rsame5_c {u v : Value} {n m : Nat} {F G : List UInt8} {D E : List Drt} {p r l p' r' l' : Bool} (w : World) (hu : Slt w u n F D p r l) (hv : Slt w v m G E p' r' l') :
    Calls Try.prog 39 #[u, v] w fun e w' => e = .returned (.bool (p == p' && (r == r' && (l == l' && (F == G && D == E))))) ∧ Later w w' := by
  obtain ⟨ab, cb, aD, k, cD, rfl, hm⟩ := hu
  obtain ⟨ab', cb', aD', k', cD', rfl, hm'⟩ := hv
  have HM := hide hm
  have HM' := hide hm'
  clear hm hm'
  cases hp : (p == p') with
  | false =>
    go_enter Try.func39, Try.ntmps39
    go_wp2
    go_ret
    exact ⟨rfl, ((Later.refl w).alloc _).alloc _⟩
  | true =>
    cases hr : (r == r') with
    | false =>
      go_enter Try.func39, Try.ntmps39
      go_wp2
      go_ret
      exact ⟨rfl, ((Later.refl w).alloc _).alloc _⟩
    | true =>
      cases hl : (l == l') with
      | false =>
        go_enter Try.func39, Try.ntmps39
        go_wp2
        go_ret
        exact ⟨rfl, ((Later.refl w).alloc _).alloc _⟩
      | true =>
        go_enter Try.func39, Try.ntmps39
        go_wp2_with fail
        refine (rsame3_c _ (HM.out.later (((Later.refl w).alloc _).alloc _)) (HM'.out.later (((Later.refl w).alloc _).alloc _))).mono ?_
        rintro e w2 ⟨rfl, hl2⟩
        have L2 : Hid (Later w w2) := Later.trans (((Later.refl w).alloc _).alloc _) hl2
        clear hl2
        go_wp2
        go_ret
        exact ⟨ret_bool (by simp), L2.out⟩
end Go.Proofs.Ytmelkgmbiiobgaa

namespace Go.Proofs.Ytmelkgmbiiobgaa
open Go.ChangeShapes Go.WideShapes Go.ChangeAt Go.RowKit
set_option linter.unusedVariables false
set_option maxRecDepth 4000
set_option linter.unusedSimpArgs false
/-! The document's answers for slots: Keep, Unload. -/
theorem two_set {w w8 : World} {gR gS : Nat} {a b : Option Addr} {n m c d n' : Nat} {F : List UInt8} {D : List Drt} {cr cz : List Value} (p r l : Bool) (s : Sns) (hR : w.heap.size ≤ gR) (hS : w.heap.size ≤ gS) (hne : gR ≠ gS) (BR : Box w8 gR 27 cr) (hn : NoInts cr) (hl5 : cr.length = 5) (BS : Box w8 gS 30 cz) (hl3 : cz.length = 3) (L : Later w w8) (M : Med w8 (.agg #[.slice a n c, .slice b m d]) n' F D)
    (hoff : OffS gS (.slice a n c) ∧ OffS gS (.slice b m d)) :
    Box ((w8.setCells gR 0 (tc (.slice a n c) (.slice b m d) p r l)).setCells gS 0 (sc s)) gR 27 (tc (.slice a n c) (.slice b m d) p r l) ∧ Box ((w8.setCells gR 0 (tc (.slice a n c) (.slice b m d) p r l)).setCells gS 0 (sc s)) gS 30 (sc s) ∧ Later w ((w8.setCells gR 0 (tc (.slice a n c) (.slice b m d) p r l)).setCells gS 0 (sc s)) ∧
    Slt ((w8.setCells gR 0 (tc (.slice a n c) (.slice b m d) p r l)).setCells gS 0 (sc s)) (.agg #[.slice a n c, .slice b m d, .bool p, .bool r, .bool l]) n' F D p r l := by
  have h := slot_set (p := p) (r := r) (l := l) hR BR hn hl5 L M
  have hBS : Box (w8.setCells gR 0 (tc (.slice a n c) (.slice b m d) p r l)) gS 30 cz := BS.kept (heap_setCells_other w8 gR gS (fun e => hne e.symm) _ _)
  exact ⟨h.1.kept (heap_setCells_other _ gS gR hne _ _), hBS.all _ (by simp [hl3]), h.2.1.setCells hS _ 0, (Slt.mk' p r l h.2.2).setOff ⟨_, _, _, _, _, rfl, hoff.1, hoff.2⟩ _ _⟩
def ulS (p l : Bool) : Sns := if !p then (2, 58, 0) else if l then (5, 83, 2) else (0, 0, 0)
end Go.Proofs.Ytmelkgmbiiobgaa
