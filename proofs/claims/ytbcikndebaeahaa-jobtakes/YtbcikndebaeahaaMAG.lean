import Derived.Lib.ConvBytes
import Derived.Test.YtbcikndebaeahaaMAF
import Derived.Test.YtbcikndebaeahaaMAA
namespace Go.Proofs.Ytbcikndebaeahaa
open Go.ChangeShapes Go.WideShapes Go.ChangeAt Go.RowKit
set_option linter.unusedVariables false
set_option maxRecDepth 4000
set_option linter.unusedSimpArgs false
theorem map_two {α β : Type} {f : α → β} {l : List α} {x y : β} (h : l.map f = [x, y]) : ∃ a b, l = [a, b] ∧ f a = x ∧ f b = y := by
  match l, h with
  | [a, b], h => simp at h; exact ⟨a, b, rfl, h.1, h.2⟩
  | [_], h => simp at h
  | _ :: _ :: _ :: _, h => simp at h
theorem Try.fields_dirty : (Try.prog.fieldsOf 79).toList.map (fun f => (f.name, f.type, f.offset)) = [("At", 3, 0), ("Data", 58, 1)] := by kernel_rfl
theorem Try.is_dirty : Try.prog.underlying 79 = some (.struct (Try.prog.fieldsOf 79)) := by kernel_rfl
theorem Try.plain_dirty : Try.prog.stoodInHeld 79 = false := by kernel_rfl
theorem part_int {P : Program} {t : TypeId} (w : World) (ht : P.underlying t = some (.int .i64)) (a : Int) (X : List UInt8) : (part t (Value.int .i64 a :: bv X).toArray 0).run P w = .ok (.int .i64 a) w := by
  simp [part, isAgg, run_underlying ht]
theorem part_arr {P : Program} {t e : TypeId} (w : World) (ht : P.underlying t = some (.array 64 e)) (hs : (P.info? t).map (·.size) = some 64) (a : Int) (X : List UInt8) (hX : X.length = 64) : (part t (Value.int .i64 a :: bv X).toArray 1).run P w = .ok (.agg (bv X).toArray) w := by
  have : (bv X).take 64 = bv X := List.take_of_length_le (by rw [bv_length]; omega)
  simp [part, isAgg, run_underlying ht, run_size hs, this]
theorem eqFields_two {P : Program} (w : World) (d : Nat) (xs ys : Array Value) (f g : Field) (hf : f.name ≠ "_") (hg : g.name ≠ "_") (a b a' b' : Value) (r r' : Bool)
    (p1 : (part f.type xs f.offset).run P w = .ok a w) (p2 : (part f.type ys f.offset).run P w = .ok b w) (p3 : (Op.equalIn d f.type a b).run P w = .ok r w)
    (q1 : (part g.type xs g.offset).run P w = .ok a' w) (q2 : (part g.type ys g.offset).run P w = .ok b' w) (q3 : (Op.equalIn d g.type a' b').run P w = .ok r' w) :
    (Op.eqFields d xs ys [f, g]).run P w = .ok (r && r') w := by
  simp only [Op.eqFields, hf, hg, ne_eq, not_false_eq_true, if_true, Sem.run_bind, p1, p2, p3, q1, q2, q3, Result.andThen_ok]
  cases r <;> cases r' <;> simp [Sem.run_bind, q1, q2, q3, Result.andThen_ok]
theorem Try.info_dirty : (Try.prog.info? 79).map (·.size) = some 65 := by kernel_rfl
theorem dirty_eq (d e : Drt) (hd : d.2.length = 64) (he : e.2.length = 64) (w : World) :
    (Op.equalIn 10000 79 (.agg (Value.int .i64 d.1 :: bv d.2).toArray) (.agg (Value.int .i64 e.1 :: bv e.2).toArray)).run Try.prog w = .ok (d.1 == e.1 && d.2 == e.2) w := by
  refine (run_equalIn_struct w 9999 79 _ _ Try.is_dirty Try.plain_dirty).trans ?_
  obtain ⟨f, g, hfs, hf, hg⟩ := map_two Try.fields_dirty
  rw [hfs]
  simp only [Prod.mk.injEq] at hf hg
  obtain ⟨n1, t1, o1⟩ := hf
  obtain ⟨n2, t2, o2⟩ := hg
  refine eqFields_two w 9999 _ _ f g (by rw [n1]; decide) (by rw [n2]; decide) (.int .i64 d.1) (.int .i64 e.1) (.agg (bv d.2).toArray) (.agg (bv e.2).toArray) _ _ ?_ ?_ ?_ ?_ ?_ ?_
  · rw [t1, o1]; exact part_int w Try.underlying3 _ _
  · rw [t1, o1]; exact part_int w Try.underlying3 _ _
  · rw [t1]; exact run_equalIn_int (P := Try.prog) w 9998 3 .i64 .i64 d.1 e.1 Try.underlying3
  · rw [t2, o2]; exact part_arr w Try.underlying58 Try.info_block _ _ hd
  · rw [t2, o2]; exact part_arr w Try.underlying58 Try.info_block _ _ he
  · rw [t2]; exact run_equalIn_bytes (P := Try.prog) w 9997 58 5 64 Try.underlying58 Try.underlying5 (fun w => run_size (by kernel_rfl) w) d.2 e.2 hd he
/-- '!=' of two structs or arrays, in a region that draws its order -/
theorem wpS_neqG {P : Program} {ops : Array Oper} {Q : Act → World → Prop} {i : Nat} {o : Oper} {σ : List (Nat × Bool)} {a : Act} {b : World} (ho : ops[i]? = some o) (hw : Region.wanted o (yielded ops a.tmps) = true) (ty tt : TypeId) (x y : Operand) (hop : o.op = .binOp .neq ty x y tt)
    (xs ys : Array Value) (hx : a.eval x = .agg xs) (hy : a.eval y = .agg ys) (hgt : P.eqGuardType P.depth ty = false) (r : Bool) (heq : ∀ w, (Op.equalIn 10000 ty (.agg xs) (.agg ys)).run P w = .ok r w)
    (h : wpS P ops Q σ (a.put o.dst (.bool (!r))) b) : wpS P ops Q ((i, false) :: σ) a b := by
  refine ⟨o, ho, ?_⟩
  rw [if_pos hw]
  refine ⟨.bool (!r), fun w hl => ?_, h⟩
  unfold execOp
  simp [hop, hx, hy, run_eqGuard_agg w .neq ty x y xs ys hgt, run_neq_struct, heq, Result.andThen, Oper.mildUpon]
set_option maxHeartbeats 1000000 in
theorem rsame3_c {u v : Value} {n m : Nat} {F G : List UInt8} {D E : List Drt} (w : World) (hu : Med w u n F D) (hv : Med w v m G E) :
    Calls Try.prog 52 #[u, v] w fun e w' => e = .returned (.bool (F == G && D == E)) ∧ Later w w' := by
  obtain ⟨ub, ud, rfl, hub, hud, huk⟩ := hu
  obtain ⟨vb, vd, rfl, hvb, hvd, hvk⟩ := hv
  obtain ⟨aU, cU, rfl⟩ := hub.shape
  obtain ⟨aV, cV, rfl⟩ := hvb.shape
  obtain ⟨k, hk⟩ : ∃ k, k = D.length := ⟨_, rfl⟩
  obtain ⟨l, hl⟩ : ∃ l, l = E.length := ⟨_, rfl⟩
  rw [← hk] at hud
  rw [← hl] at hvd
  obtain ⟨aD, cD, rfl⟩ := hud.shape
  obtain ⟨aE, cE, rfl⟩ := hvd.shape
  have hkm := hud.2.1
  have hlm := hvd.2.1
  unfold maxLen at hkm hlm
  have UB := hide hub
  have VB := hide hvb
  have UD := hide hud
  have VD := hide hvd
  have KD := hide (And.intro hk huk)
  have KE := hide (And.intro hl hvk)
  clear hub hvb hud hvd hk hl huk hvk
  generalize hR : (F == G && D == E) = r
  have HR := hide hR
  clear hR
  have BX0 := hide ((Box.new w 25 #[.slice aU n cU, .slice aD k cD]).alloc (.cells #[.slice aV m cV, .slice aE l cE] 25))
  have BY0 := hide (Box.new' (w.alloc (.cells #[.slice aU n cU, .slice aD k cD] 25)) 25 #[.slice aV m cV, .slice aE l cE] _ rfl (w.heap.size + 1) (by simp))
  have L0 := hide (((Later.refl w).alloc (.cells #[.slice aU n cU, .slice aD k cD] 25)).alloc (.cells #[.slice aV m cV, .slice aE l cE] 25))
  go_enter Try.func52, Try.ntmps52
  go_wp2_with fail
  generalize ((w.alloc (.cells #[.slice aU n cU, .slice aD k cD] 25)).alloc (.cells #[.slice aV m cV, .slice aE l cE] 25)) = w1 at *
  refine (rsame_c w1 (UB.out.later L0.out) (VB.out.later L0.out)).mono ?_
  rintro e w2 ⟨rfl, hl2⟩
  have L2 := hide (L0.out.trans hl2)
  have BX := hide (Box.later BX0.out hl2)
  have BY := hide (Box.later BY0.out hl2)
  clear hl2 L0 BX0 BY0
  have d0 := BX.out.cell 0
  have d1 := BX.out.cell 1
  have d2 := BY.out.cell 0
  have d3 := BY.out.cell 1
  by_cases hFG : (F == G) = true
  case neg =>
    have hFG' : (F == G) = false := by simpa using hFG
    rw [hFG']
    go_wp2
    go_ret
    exact ⟨ret_bool (by rw [← HR.out, hFG']; rfl), L2.out⟩
  rw [hFG]
  have HR' : Hid ((D == E) = r) := by have := HR.out; rwa [hFG, Bool.true_and] at this
  clear HR
  by_cases hkl : k = l
  case neg =>
    have hb : ((k : Int) != (l : Int)) = true := by rw [bne_iff_ne]; omega
    go_wp2
    go_ret
    refine ⟨ret_bool ?_, L2.out⟩
    rw [← HR'.out]
    symm
    rw [beq_eq_false_iff_ne]
    intro e
    have h1 := KD.out.1
    have h2 := KE.out.1
    rw [e] at h1
    exact hkl (h1.trans h2.symm)
  subst hkl
  have hb : ((k : Int) != (k : Int)) = false := by simp
  go_wp2_with fail
  go_loopw [5] (fun i wr => ∃ q : Nat, q ≤ k ∧ i = .int .i64 q ∧ Hid (D.take q = E.take q) ∧ Hid (Later w2 wr)) (fun i _ => k - (intOf i).toNat)
  case atStart => exact ⟨0, Nat.zero_le _, rfl, by simp [Hid], Later.refl w2⟩
  case round =>
    obtain ⟨q, hq, rfl, he, hl⟩ := hrel
    have e0 := (Box.later BX.out hl.out).cell 0
    have e1 := (Box.later BX.out hl.out).cell 1
    have e2 := (Box.later BY.out hl.out).cell 0
    have e3 := (Box.later BY.out hl.out).cell 1
    by_cases hlt : q < k
    · have hqD : q < D.length := by have := KD.out.1; omega
      have hqE : q < E.length := by have := KE.out.1; omega
      obtain ⟨b1, o1, x1, r1⟩ := (UD.out.later (L2.out.trans hl.out)).lies? (by omega)
      obtain ⟨b2, o2, x2, r2⟩ := (VD.out.later (L2.out.trans hl.out)).lies? (by omega)
      subst x1 x2
      have ra := range_part r1 (q * 65) 65
      have rb := range_part r2 (q * 65) 65
      rw [dv_part D q hqD KD.out.2] at ra
      rw [dv_part E q hqE KE.out.2] at rb
      have lD := (KD.out.2 D[q] (List.getElem_mem hqD)).1
      have lE := (KE.out.2 E[q] (List.getElem_mem hqE)).1
      have heq := hide (dirty_eq D[q] E[q] lD lE)
      have hstep : Hid (D[q] = E[q] → D.take (q + 1) = E.take (q + 1)) := by
        intro h
        rw [List.take_succ_eq_append_getElem hqD, List.take_succ_eq_append_getElem hqE, h, he.out]
      have hnot : Hid (¬ D[q] = E[q] → (D == E) = false) := by
        intro h
        rw [beq_eq_false_iff_ne]
        intro e
        subst e
        exact h rfl
      generalize D[q] = x at *
      generalize E[q] = y at *
      obtain ⟨xa, xd⟩ := x
      obtain ⟨ya, yd⟩ := y
      simp only at ra rb lD lE
      obtain ⟨r0, hr0⟩ : ∃ r0 : Bool, r0 = (xa == ya && xd == yd) := ⟨_, rfl⟩
      have heq0 : ∀ w, (Op.equalIn 10000 79 (.agg (Value.int .i64 xa :: bv xd).toArray) (.agg (Value.int .i64 ya :: bv yd).toArray)).run Try.prog w = .ok r0 w := fun w => by rw [hr0]; exact heq.out w
      have hyes : Hid (r0 = true → D.take (q + 1) = E.take (q + 1)) := by
        intro h
        rw [h] at hr0
        simp at hr0
        exact hstep.out (by rw [hr0.1, hr0.2])
      have hno : Hid (r0 = false → (D == E) = false) := by
        intro h
        rw [h] at hr0
        refine hnot.out fun e => ?_
        simp only [Prod.mk.injEq] at e
        rw [e.1, e.2] at hr0
        simp at hr0
      have HEQ := hide heq0
      clear hr0 heq0 hstep hnot heq
      have RA := hide ra
      have RB := hide rb
      have hlx : Hid ((Value.int .i64 xa :: bv xd).length = 65) := by simp [Hid, bv_length, lD]
      have hly : Hid ((Value.int .i64 ya :: bv yd).length = 65) := by simp [Hid, bv_length, lE]
      clear ra rb r1 r2 lD lE
      go_wp2_with fail
      have g1 := fun r => (Box.later BX.out (hl.out.trans ((Later.refl wr).drew.trans (later_rg wr.drew r)))).cell 1
      have g3 := fun r => (Box.later BY.out (hl.out.trans ((Later.refl wr).drew.trans (later_rg wr.drew r)))).cell 1
      refine wp_region_sched ((List.range 11).map fun i => (i, false)) (by kernel_rfl) (by kernel_rfl) (by kernel_rfl) (by kernel_rfl) ?_
      simp only [List.range, List.range.loop, List.map]
      iterate 4 (refine wpS_mild rfl (fun K hK => ?_); go_simp; refine hK _ ?_; clear hK K)
      refine wpS_load rfl rfl 79 (.tmp 31) rfl b1 (o1 + q * 65) rfl (Value.int .i64 xa :: bv xd) _ ((World.rangeAt_drew _ _ _ _).2 RA.out) Try.underlying79 rfl (by rw [hlx.out]; exact Try.info_dirty) ?_
      iterate 4 (refine wpS_mild rfl (fun K hK => ?_); go_simp; refine hK _ ?_; clear hK K)
      refine wpS_load rfl rfl 79 (.tmp 36) rfl b2 (o2 + q * 65) rfl (Value.int .i64 ya :: bv yd) _ ((World.rangeAt_drew _ _ _ _).2 RB.out) Try.underlying79 rfl (by rw [hly.out]; exact Try.info_dirty) ?_
      refine wpS_neqG rfl (by kernel_rfl) 79 79 (.tmp 32) (.tmp 37) rfl _ _ rfl rfl (by kernel_rfl) r0 HEQ.out ?_
      clear HEQ RA RB hlx hly g1 g3 e0 e1 e2 e3 d0 d1 d2 d3
      refine wpS_nil (fun wx hwx => ?_)
      have Lx := hide (hl.out.drew.trans hwx)
      clear hwx
      cases r0 with
      | true =>
        go_wp2
        go_roundw
        case rel => exact ⟨q + 1, by omega, by go_num, hyes.out rfl, Lx⟩
        case measure => simp [intOf]; omega
      | false =>
        go_wp2
        go_ret
        exact ⟨ret_bool (by rw [← HR'.out]; exact (hno.out trivial).symm), L2.out.trans Lx.out⟩
    · have hkq : q = k := by omega
      go_wp2
      go_ret
      refine ⟨ret_bool ?_, L2.out.trans hl.out⟩
      rw [← HR'.out]
      have h1 := KD.out.1
      have h2 := KE.out.1
      have h3 := he.out
      rw [hkq] at h3
      rw [List.take_of_length_le (by omega), List.take_of_length_le (by omega)] at h3
      rw [h3]; simp
end Go.Proofs.Ytbcikndebaeahaa

namespace Go.Proofs.Ytbcikndebaeahaa
open Go.ChangeShapes Go.WideShapes Go.ChangeAt Go.RowKit
set_option linter.unusedVariables false
set_option maxRecDepth 20000
set_option linter.unusedSimpArgs false
/-! Structs that come in, whatever is in them. -/
section
variable {H : Type} {enc : TypeId × Value → H} {P : Program} {w : World} {t : TypeId}
/-- A slice of whatever elements, as cells. -/
theorem shape_rows {e : TypeId} {sz : Nat} (ht : P.underlying t = some (.slice e)) (hce : P.cellsOf e = sz) (hsz : 0 < sz) (S : List Value → Prop)
    (hS : ∀ fuel cs x, DataW.trod enc P w 0 (fun _ => true) true fuel e cs = some x → S cs) (fuel : Nat) (cs : List Value) (x : DataW H × List MemPlace) (hf : DataW.trod enc P w 0 (fun _ => true) true fuel t cs = some x) :
    ∃ (v : Value) (css : List (List Value)), cs = [v] ∧ (∀ c ∈ css, S c ∧ c.length = sz) ∧ Rw sz w v css.length css.flatten := by
  rcases Deep.open_slice ht hf with ⟨rfl, _⟩ | ⟨x, len, cap, m, n, D, Pl, rfl, _, hl, hm, hmm, _, hel⟩
  · exact ⟨_, [], rfl, by simp, Rw.nil _ _⟩
  · by_cases h0 : len = 0
    · subst h0
      exact ⟨_, [], rfl, by simp, by simp, by simp, some x, cap, rfl, by omega, .inl rfl⟩
    · have hmc : m = cap := by simpa using hmm
      subst hmc
      have hspot : x.spot = none := by
        obtain ⟨cs, h1, h2⟩ := hel 0 (by omega)
        rw [hce] at h1
        have hc := World.cells?_some h1
        have h3 := hc.2.2 0 hsz
        rw [List.getElem?_eq_getElem (by rw [hc.2.1]; exact hsz)] at h3
        have h4 := World.cell?_spot h3
        clear h3 hc h1 h2 hel hf
        obtain ⟨b, off, spot⟩ := x
        cases spot with
        | none => rfl
        | some q => simp [Addr.add] at h4
      obtain ⟨b, off, spot⟩ := x
      simp at hspot
      subst hspot
      have hch : ∀ i, ∃ cs : List Value, cs.length = sz ∧ (i < len → S cs ∧ ∀ j, j < sz → w.cell? ⟨b, off + (i * sz + j), none⟩ = cs[j]?) := by
        intro i
        by_cases hi : i < len
        · obtain ⟨cs, h1, h2⟩ := hel i (by omega)
          rw [hce] at h1
          have hc := World.cells?_some h1
          refine ⟨cs, hc.2.1, fun _ => ⟨hS _ _ _ h2, fun j hj => ?_⟩⟩
          rw [← hc.2.2 j hj, Addr.add_mid, Addr.add_mid, Nat.add_assoc]
        · exact ⟨List.replicate sz undef, by simp, fun h => absurd h hi⟩
      obtain ⟨f, hf'⟩ := Classical.axiomOfChoice hch
      have hfl := flatten_len f (fun i => (hf' i).1) len
      refine ⟨_, (List.range len).map f, rfl, ?_, ?_⟩
      · intro cs hcs
        obtain ⟨i, hi, rfl⟩ := List.mem_map.1 hcs
        exact ⟨((hf' i).2 (by simpa using hi)).1, (hf' i).1⟩
      · rw [show ((List.range len).map f).length = len from by simp]
        refine ⟨hfl, by omega, some ⟨b, off, none⟩, m, rfl, hl, .inr ⟨b, off, rfl, fun j u hu => ?_⟩⟩
        have hj : j < len * sz := by have := (List.getElem?_eq_some_iff.1 hu).1; omega
        rw [flatten_get f (fun i => (hf' i).1) hsz len j hj] at hu
        have hd : j / sz < len := Nat.div_lt_of_lt_mul (by rw [Nat.mul_comm]; exact hj)
        have := ((hf' (j / sz)).2 hd).2 (j % sz) (Nat.mod_lt _ hsz)
        rw [← hu, ← this]
        congr 3
        have := Nat.div_add_mod j sz
        rw [Nat.mul_comm] at this
        omega
/-- A field of a struct, as cells. -/
theorem shape_field {fs : Array Field} {L : List (TypeId × Nat)} (ht : P.underlying t = some (.struct fs)) (hL : fs.toList.map (fun f => (f.type, f.offset)) = L) (i : Nat) (ty : TypeId) (off : Nat) (hi : L[i]? = some (ty, off))
    {fuel : Nat} {cs : List Value} {x : DataW H × List MemPlace} (h : DataW.trod enc P w 0 (fun _ => true) true fuel t cs = some x) : cs.length = P.cellsOf t ∧ ∃ m y, DataW.trod enc P w 0 (fun _ => true) true m ty ((cs.drop off).take (P.cellsOf ty)) = some y := by
  obtain ⟨xs, n, _, _, hl, hxs, hall⟩ := DataW.trod_struct ht h
  rw [← hL, List.getElem?_map, Option.map_eq_some_iff] at hi
  obtain ⟨f, hf, he⟩ := hi
  simp only [Prod.mk.injEq] at he
  obtain ⟨rfl, rfl⟩ := he
  have hlt : i < fs.size := by have := (List.getElem?_eq_some_iff.1 hf).1; simpa using this
  have := hall i f (by simpa using hf)
  rw [List.getElem?_eq_getElem (by omega)] at this
  exact ⟨hl, n, _, this⟩
theorem shape_int {k : IntKind} (ht : P.underlying t = some (.int k)) {fuel : Nat} {cs : List Value} {x : DataW H × List MemPlace} (h : DataW.trod enc P w 0 (fun _ => true) true fuel t cs = some x) : ∃ n : Int, cs = [.int k n] ∧ (Lit.int k n).wf = true := by
  obtain ⟨n, h1, _, h2⟩ := DataW.trod_int ht h
  exact ⟨n, h1, h2⟩
theorem shape_u8 (ht : P.underlying t = some (.int .u8)) {fuel : Nat} {cs : List Value} {x : DataW H × List MemPlace} (h : DataW.trod enc P w 0 (fun _ => true) true fuel t cs = some x) : ∃ c : UInt8, cs = [.int .u8 (c.toNat : Int)] := by
  obtain ⟨n, h1, h2⟩ := shape_int ht h
  have hx := bounds_u8 h2
  obtain ⟨y, rfl⟩ := Int.eq_ofNat_of_zero_le hx.1
  refine ⟨UInt8.ofNat y, ?_⟩
  rw [h1, UInt8.toNat_ofNat']
  congr 3
  omega
theorem shape_bool (ht : P.underlying t = some .bool) {fuel : Nat} {cs : List Value} {x : DataW H × List MemPlace} (h : DataW.trod enc P w 0 (fun _ => true) true fuel t cs = some x) : ∃ b : Bool, cs = [.bool b] := by
  obtain ⟨b, h1, _⟩ := DataW.trod_bool ht h
  exact ⟨b, h1⟩
end
theorem agg_of {cs : Array Value} {l : List Value} (h : cs.toList = l) : Value.agg cs = .agg l.toArray := by rw [← h]
theorem two_cells {cs : List Value} {a b : Value} (h : cs.length = 2) (h0 : (cs.drop 0).take 1 = [a]) (h1 : (cs.drop 1).take 1 = [b]) : cs = [a, b] := by
  match cs, h with
  | [x, y], _ => simp at h0 h1; rw [h0, h1]
section
variable {H : Type} {enc : TypeId × Value → H} {w : World} {r : Reach} {base : Nat} {v : Value} {d : DataW H} {p : List MemPlace}
theorem Try.is_medium : Try.prog.underlying 25 = some (.struct (Try.prog.fieldsOf 25)) := by kernel_rfl
theorem Try.fields_medium : (Try.prog.fieldsOf 25).toList.map (fun f => (f.type, f.offset)) = [(22, 0), (23, 1)] := by kernel_rfl
theorem Try.offs_dirty : (Try.prog.fieldsOf 79).toList.map (fun f => (f.type, f.offset)) = [(3, 0), (58, 1)] := by kernel_rfl
theorem shape_dirty (fuel : Nat) (cs : List Value) (x : DataW H × List MemPlace) (h : DataW.trod enc Try.prog w 0 (fun _ => true) true fuel 79 cs = some x) : ∃ D : Drt, (D.2.length = 64 ∧ -9223372036854775808 ≤ D.1 ∧ D.1 ≤ 9223372036854775807) ∧ cs = .int .i64 D.1 :: bv D.2 := by
  obtain ⟨hl, m0, y0, h0⟩ := shape_field Try.is_dirty Try.offs_dirty 0 _ _ rfl h
  obtain ⟨_, m1, y1, h1⟩ := shape_field Try.is_dirty Try.offs_dirty 1 _ _ rfl h
  rw [show Try.prog.cellsOf 79 = 65 from by kernel_rfl] at hl
  rw [show Try.prog.cellsOf 3 = 1 from by kernel_rfl] at h0
  rw [show Try.prog.cellsOf 58 = 64 from by kernel_rfl] at h1
  obtain ⟨n, hn, wn⟩ := shape_int Try.underlying3 h0
  obtain ⟨X, hX, hx⟩ := shape_bytes Try.underlying58 Try.underlying5 (by kernel_rfl) (by kernel_rfl) _ _ _ h1
  refine ⟨(n, X), ⟨hX, bounds_i64 wn⟩, ?_⟩
  have e2 : (cs.drop 1).take 64 = cs.drop 1 := List.take_of_length_le (by simp; omega)
  rw [e2] at hx
  match cs, hl with
  | c :: cs, _ =>
    simp at hn hx
    rw [hn, hx]
theorem dv_flatten : ∀ css : List (List Value), (∀ cs ∈ css, ∃ D : Drt, (D.2.length = 64 ∧ -9223372036854775808 ≤ D.1 ∧ D.1 ≤ 9223372036854775807) ∧ cs = .int .i64 D.1 :: bv D.2) → ∃ D : List Drt, D.length = css.length ∧ Ok D ∧ css.flatten = dv D
  | [], _ => ⟨[], rfl, (fun d hd => by cases hd), rfl⟩
  | c :: css, h => by
    obtain ⟨X, hX, rfl⟩ := h c (by simp)
    obtain ⟨D, h1, h2, h3⟩ := dv_flatten css (fun cs hcs => h cs (by simp [hcs]))
    refine ⟨X :: D, by simp [h1], fun d hd => ?_, by rw [List.flatten_cons, h3, dv_cons]⟩
    rcases List.mem_cons.1 hd with rfl | hd
    · exact hX
    · exact h2 d hd
/-- the cells of a medium -/
theorem shape_medium (fuel : Nat) (cs : List Value) (x : DataW H × List MemPlace) (h : DataW.trod enc Try.prog w 0 (fun _ => true) true fuel 25 cs = some x) : ∃ vb vd n F D, cs = [vb, vd] ∧ Rw 64 w vb n (bv F) ∧ Rw 65 w vd D.length (dv D) ∧ Ok D := by
  obtain ⟨hl, m0, y0, h0⟩ := shape_field Try.is_medium Try.fields_medium 0 _ _ rfl h
  obtain ⟨_, m1, y1, h1⟩ := shape_field Try.is_medium Try.fields_medium 1 _ _ rfl h
  rw [show Try.prog.cellsOf 25 = 2 from by kernel_rfl] at hl
  rw [show Try.prog.cellsOf 22 = 1 from by kernel_rfl] at h0
  rw [show Try.prog.cellsOf 23 = 1 from by kernel_rfl] at h1
  obtain ⟨vb, css, e0, k0, r0⟩ := shape_rows Try.underlying22 (sz := 64) (by kernel_rfl) (by decide) (fun cs => ∃ X : List UInt8, X.length = 64 ∧ cs = bv X) (fun fuel cs x hx => shape_bytes Try.underlying58 Try.underlying5 (by kernel_rfl) (by kernel_rfl) fuel cs x hx) _ _ _ h0
  obtain ⟨vd, dss, e1, k1, r1⟩ := shape_rows Try.underlying23 (sz := 65) (by kernel_rfl) (by decide) (fun cs => ∃ D : Drt, (D.2.length = 64 ∧ -9223372036854775808 ≤ D.1 ∧ D.1 ≤ 9223372036854775807) ∧ cs = .int .i64 D.1 :: bv D.2) (fun fuel cs x hx => shape_dirty fuel cs x hx) _ _ _ h1
  obtain ⟨F, hF⟩ := bv_flatten css (fun cs hcs => (k0 cs hcs).1)
  obtain ⟨D, hD, hok, hDf⟩ := dv_flatten dss (fun cs hcs => (k1 cs hcs).1)
  rw [hF] at r0
  rw [hDf, ← hD] at r1
  exact ⟨vb, vd, css.length, F, D, two_cells hl e0 e1, r0, r1, hok⟩
end
end Go.Proofs.Ytbcikndebaeahaa

namespace Go.Proofs.Ytbcikndebaeahaa
open Go.ChangeShapes Go.WideShapes Go.ChangeAt Go.RowKit
set_option linter.unusedVariables false
set_option maxRecDepth 4000
set_option linter.unusedSimpArgs false
/-! Senses: key, code, qualifier. -/
abbrev Sns := Int × Int × Int
abbrev sc (s : Sns) : List Value := [.int .i64 s.1, .int .i64 s.2.1, .int .i64 s.2.2]
abbrev sval (s : Sns) : Value := .agg #[.int .i64 s.1, .int .i64 s.2.1, .int .i64 s.2.2]
def sv (L : List Sns) : List Value := L.flatMap sc
def OkS (s : Sns) : Prop := (-9223372036854775808 ≤ s.1 ∧ s.1 ≤ 9223372036854775807) ∧ (-9223372036854775808 ≤ s.2.1 ∧ s.2.1 ≤ 9223372036854775807) ∧ (-9223372036854775808 ≤ s.2.2 ∧ s.2.2 ≤ 9223372036854775807)
theorem sv_cons (s : Sns) (L : List Sns) : sv (s :: L) = sc s ++ sv L := by simp [sv]
theorem sv_drop : ∀ (L : List Sns) (k : Nat), (sv L).drop (k * 3) = sv (L.drop k)
  | L, 0 => by simp
  | [], k + 1 => by simp [sv]
  | x :: L, k + 1 => by
    rw [sv_cons, List.drop_succ_cons, ← sv_drop L k, List.drop_append, List.drop_of_length_le (by simp [sc]; omega), List.nil_append]
    congr 1; simp [sc]; omega
theorem sv_at (L : List Sns) (k : Nat) (hk : k < L.length) : (sv L)[k * 3]? = some (.int .i64 L[k].1) ∧ (sv L)[k * 3 + 1]? = some (.int .i64 L[k].2.1) ∧ (sv L)[k * 3 + 2]? = some (.int .i64 L[k].2.2) := by
  have h : ∀ j, (sv L)[k * 3 + j]? = (sv (L.drop k))[j]? := fun j => by rw [← sv_drop, List.getElem?_drop]
  have h0 := h 0
  rw [Nat.add_zero] at h0
  rw [h0, h 1, h 2, List.drop_eq_getElem_cons hk, sv_cons]
  exact ⟨rfl, rfl, rfl⟩
theorem sv_one (L : List Sns) : ∀ u ∈ sv L, u.oneCell' = true := by
  intro u hu
  simp only [sv, List.mem_flatMap, sc] at hu
  obtain ⟨d, _, hd⟩ := hu
  simp at hd
  rcases hd with rfl | rfl | rfl <;> rfl
theorem Try.elem_sense : Elem Try.prog 30 3 24 (.agg #[.int .i64 0, .int .i64 0, .int .i64 0]) := by
  have h : (Try.prog.info? 30).map (fun i => (i.zero, i.size, i.bytes)) = some (some (.agg #[.int .i64 0, .int .i64 0, .int .i64 0]), 3, 24) := by kernel_rfl
  obtain ⟨i, hi, h1, h2, h3⟩ := info_parts h
  exact ⟨i, hi, h1, h2, h3⟩
theorem Try.zero_sense : (Try.prog.info? 30).map (fun i => (i.zero, i.size)) = some (some (.agg #[.int .i64 0, .int .i64 0, .int .i64 0]), 3) := by kernel_rfl
theorem Try.info_sense : (Try.prog.info? 30).map (·.size) = some 3 := by kernel_rfl
theorem Try.guard_sense : Try.prog.eqGuardType Try.prog.depth 30 = false := by kernel_rfl
/-! Two senses held against one another. -/
theorem map_three {α β : Type} {f : α → β} {l : List α} {x y z : β} (h : l.map f = [x, y, z]) : ∃ a b c, l = [a, b, c] ∧ f a = x ∧ f b = y ∧ f c = z := by
  match l, h with
  | [a, b, c], h => simp at h; exact ⟨a, b, c, rfl, h.1, h.2.1, h.2.2⟩
  | [_], h => simp at h
  | [_, _], h => simp at h
  | _ :: _ :: _ :: _ :: _, h => simp at h
theorem Try.fields_sense : (Try.prog.fieldsOf 30).toList.map (fun f => (f.name, f.type, f.offset)) = [("Key", 3, 0), ("Code", 3, 1), ("Qual", 3, 2)] := by kernel_rfl
theorem Try.is_sense : Try.prog.underlying 30 = some (.struct (Try.prog.fieldsOf 30)) := by kernel_rfl
theorem Try.plain_sense : Try.prog.stoodInHeld 30 = false := by kernel_rfl
theorem eqFields_three {P : Program} (w : World) (d : Nat) (xs ys : Array Value) (f g h : Field) (hf : f.name ≠ "_") (hg : g.name ≠ "_") (hh : h.name ≠ "_") (a b a' b' a2 b2 : Value) (r r' r2 : Bool)
    (p1 : (part f.type xs f.offset).run P w = .ok a w) (p2 : (part f.type ys f.offset).run P w = .ok b w) (p3 : (Op.equalIn d f.type a b).run P w = .ok r w)
    (q1 : (part g.type xs g.offset).run P w = .ok a' w) (q2 : (part g.type ys g.offset).run P w = .ok b' w) (q3 : (Op.equalIn d g.type a' b').run P w = .ok r' w)
    (s1 : (part h.type xs h.offset).run P w = .ok a2 w) (s2 : (part h.type ys h.offset).run P w = .ok b2 w) (s3 : (Op.equalIn d h.type a2 b2).run P w = .ok r2 w) :
    (Op.eqFields d xs ys [f, g, h]).run P w = .ok (r && (r' && r2)) w := by
  simp only [Op.eqFields, hf, hg, hh, ne_eq, not_false_eq_true, if_true, Sem.run_bind, p1, p2, p3, q1, q2, q3, s1, s2, s3, Result.andThen_ok]
  cases r <;> cases r' <;> cases r2 <;> simp [Sem.run_bind, q1, q2, q3, s1, s2, s3, Result.andThen_ok]
theorem part_cell {P : Program} {t : TypeId} (w : World) (ht : P.underlying t = some (.int .i64)) (cs : Array Value) (o : Nat) (v : Value) (h : cs[o]? = some v) : (part t cs o).run P w = .ok v w := by
  simp [part, isAgg, run_underlying ht, h]
theorem sense_eq (s t : Sns) (w : World) : (Op.equalIn 10000 30 (sval s) (sval t)).run Try.prog w = .ok (s == t) w := by
  refine (run_equalIn_struct w 9999 30 _ _ Try.is_sense Try.plain_sense).trans ?_
  obtain ⟨f, g, h, hfs, hf, hg, hh⟩ := map_three Try.fields_sense
  rw [hfs]
  simp only [Prod.mk.injEq] at hf hg hh
  obtain ⟨n1, t1, o1⟩ := hf
  obtain ⟨n2, t2, o2⟩ := hg
  obtain ⟨n3, t3, o3⟩ := hh
  refine eqFields_three w 9999 _ _ f g h (by rw [n1]; decide) (by rw [n2]; decide) (by rw [n3]; decide) (.int .i64 s.1) (.int .i64 t.1) (.int .i64 s.2.1) (.int .i64 t.2.1) (.int .i64 s.2.2) (.int .i64 t.2.2) _ _ _ ?_ ?_ ?_ ?_ ?_ ?_ ?_ ?_ ?_
  · rw [t1, o1]; exact part_cell w Try.underlying3 _ _ _ rfl
  · rw [t1, o1]; exact part_cell w Try.underlying3 _ _ _ rfl
  · rw [t1]; exact run_equalIn_int (P := Try.prog) w 9998 3 .i64 .i64 s.1 t.1 Try.underlying3
  · rw [t2, o2]; exact part_cell w Try.underlying3 _ _ _ rfl
  · rw [t2, o2]; exact part_cell w Try.underlying3 _ _ _ rfl
  · rw [t2]; exact run_equalIn_int (P := Try.prog) w 9998 3 .i64 .i64 s.2.1 t.2.1 Try.underlying3
  · rw [t3, o3]; exact part_cell w Try.underlying3 _ _ _ rfl
  · rw [t3, o3]; exact part_cell w Try.underlying3 _ _ _ rfl
  · rw [t3]; exact run_equalIn_int (P := Try.prog) w 9998 3 .i64 .i64 s.2.2 t.2.2 Try.underlying3
theorem wpList_eqS {w : World} {ops : Array Oper} {rest : List Oper} {o : Oper} {a : Act} {Q : Exit → Act → World → Prop} (hw : Region.wanted o (yielded ops a.tmps) = true) (x y : Operand) (hop : o.op = .binOp .eql 30 x y 30)
    (s t : Sns) (hx : a.eval x = sval s) (hy : a.eval y = sval t) (h : wpList Try.prog ops Q rest (a.put o.dst (.bool (s == t))) w) : wpList Try.prog ops Q (o :: rest) a w := by
  refine wpList_step fun K hK => ?_
  rw [if_pos hw]
  unfold Go.Oper.wp execOp
  simp [hop, hx, hy, run_eqGuard_agg w .eql 30 x y _ _ Try.guard_sense, run_eql_struct, sense_eq, Result.andThen]
  exact hK _ _ h
/-! What comes in. -/
section
variable {H : Type} {enc : TypeId × Value → H} {w : World} {r : Reach} {base : Nat} {v : Value} {d : DataW H} {p : List MemPlace}
theorem Try.places_sense : (Try.prog.fieldsOf 30).toList.map (fun f => (f.type, f.offset)) = [(3, 0), (3, 1), (3, 2)] := by kernel_rfl
theorem shape_sense (fuel : Nat) (cs : List Value) (x : DataW H × List MemPlace) (h : DataW.trod enc Try.prog w 0 (fun _ => true) true fuel 30 cs = some x) : ∃ s : Sns, OkS s ∧ cs = sc s := by
  obtain ⟨hl, m0, y0, h0⟩ := shape_field Try.is_sense Try.places_sense 0 _ _ rfl h
  obtain ⟨_, m1, y1, h1⟩ := shape_field Try.is_sense Try.places_sense 1 _ _ rfl h
  obtain ⟨_, m2, y2, h2⟩ := shape_field Try.is_sense Try.places_sense 2 _ _ rfl h
  rw [show Try.prog.cellsOf 30 = 3 from by kernel_rfl] at hl
  rw [show Try.prog.cellsOf 3 = 1 from by kernel_rfl] at h0 h1 h2
  obtain ⟨n0, e0, w0⟩ := shape_int Try.underlying3 h0
  obtain ⟨n1, e1, w1⟩ := shape_int Try.underlying3 h1
  obtain ⟨n2, e2, w2⟩ := shape_int Try.underlying3 h2
  refine ⟨(n0, n1, n2), ⟨bounds_i64 w0, bounds_i64 w1, bounds_i64 w2⟩, ?_⟩
  match cs, hl with
  | [x0, x1, x2], _ =>
    simp at e0 e1 e2
    rw [e0, e1, e2]
theorem sv_flatten : ∀ css : List (List Value), (∀ cs ∈ css, ∃ s : Sns, OkS s ∧ cs = sc s) → ∃ L : List Sns, L.length = css.length ∧ (∀ s ∈ L, OkS s) ∧ css.flatten = sv L
  | [], _ => ⟨[], rfl, (fun d hd => by cases hd), rfl⟩
  | c :: css, h => by
    obtain ⟨X, hX, rfl⟩ := h c (by simp)
    obtain ⟨D, h1, h2, h3⟩ := sv_flatten css (fun cs hcs => h cs (by simp [hcs]))
    refine ⟨X :: D, by simp [h1], fun d hd => ?_, by rw [List.flatten_cons, h3, sv_cons]⟩
    rcases List.mem_cons.1 hd with rfl | hd
    · exact hX
    · exact h2 d hd
def Sl (w : World) (v : Value) (L : List Sns) : Prop := Rw 3 w v L.length (sv L) ∧ ∀ s ∈ L, OkS s
end
theorem Sl.later {w w' : World} {v : Value} {L : List Sns} (h : Sl w v L) (hl : Later w w') : Sl w' v L := ⟨h.1.later hl, h.2⟩
theorem sc_one (s : Sns) : ∀ u ∈ sc s, u.oneCell' = true := by
  intro u hu
  simp [sc] at hu
  rcases hu with rfl | rfl | rfl <;> rfl
/-- 'x := v', v a sense -/
theorem wpList_newS {w : World} {ops : Array Oper} {rest : List Oper} {o1 o2 : Oper} {a : Act} {Q : Exit → Act → World → Prop} (hg1 : o1.guard = none) (hg2 : o2.guard = none) (h1 : o1.op = .alloc 30) (d : Tmp) (hd : o1.dst = some d) (hd' : d < a.tmps.size) (y : Operand) (hy' : y ≠ .tmp d) (h2 : o2.op = .store 30 (.tmp d) y)
    (s : Sns) (hy : a.eval y = sval s)
    (h : ∀ (g : Nat) (w' : World), Box w' g 30 (sc s) → Later w w' → Hid (g = w.heap.size ∧ w' = w.alloc (.cells (sc s).toArray 30)) → wpList Try.prog ops Q rest ((a.put (some d) (.pointer (some ⟨g, 0, none⟩))).put o2.dst undef) w') : wpList Try.prog ops Q (o1 :: o2 :: rest) a w :=
  wpList_new hg1 hg2 30 h1 d hd hd' y hy' h2 #[.int .i64 0, .int .i64 0, .int .i64 0] (sc s) Try.zero_sense rfl hy (sc_one s) h
theorem wpList_neqS {w : World} {ops : Array Oper} {rest : List Oper} {o : Oper} {a : Act} {Q : Exit → Act → World → Prop} (hw : Region.wanted o (yielded ops a.tmps) = true) (x y : Operand) (hop : o.op = .binOp .neq 30 x y 30)
    (s t : Sns) (hx : a.eval x = sval s) (hy : a.eval y = sval t) (h : wpList Try.prog ops Q rest (a.put o.dst (.bool (!(s == t)))) w) : wpList Try.prog ops Q (o :: rest) a w := by
  refine wpList_step fun K hK => ?_
  rw [if_pos hw]
  unfold Go.Oper.wp execOp
  simp [hop, hx, hy, run_eqGuard_agg w .neq 30 x y _ _ Try.guard_sense, run_neq_struct, sense_eq, Result.andThen]
  exact hK _ _ h
/-- two results, the second one in a variable of its own -/
theorem results_tmp_cell' {fn : Func} {p q : Tmp} {ty : TypeId} (h : fn.results = #[.tmp q, .cell p ty]) (tmps : Array Value) (P : Program) (w : World) (b o : Nat) (hp : tmps.getD p undef = .pointer (some ⟨b, o, none⟩)) (v u : Value) (hl : (loadVar ty ⟨b, o, none⟩).run P w = .ok v w) (hq : tmps.getD q undef = u) :
    (results fn tmps).run P w = .ok (.tuple #[u, v]) w := by
  have ha : (asAddr (tmps.getD p undef)).run P w = .ok ⟨b, o, none⟩ w := by rw [hp]; rfl
  simp only [results, h]
  simp only [List.mapM_toArray, Sem.run_bind]
  simp [ha, hl, hq, -Array.getD_eq_getD_getElem?]
end Go.Proofs.Ytbcikndebaeahaa

namespace Go.Proofs.Ytbcikndebaeahaa
open Go.ChangeShapes Go.WideShapes Go.ChangeAt Go.RowKit
set_option linter.unusedVariables false
set_option maxRecDepth 4000
set_option linter.unusedSimpArgs false
/-! The document's answers for senses. -/
def b8 (x : Int) : UInt8 := UInt8.ofNat (x % 256).toNat
theorem bs_of_box {w : World} {g n : Nat} {t : TypeId} {xs : List Value} {l : List UInt8} (h : Box w g t xs) (hx : xs = bv l) (hl : l.length = n) (hn : n ≤ 1000000) : Bs w (.slice (some ⟨g, 0, none⟩) n n) l := by
  subst hx
  have hr : Rw 1 w (.slice (some ⟨g, 0, none⟩) n n) n (bv l) := ⟨by rw [bv_length, hl]; omega, by unfold maxLen; omega, _, n, rfl, Nat.le_refl _, .inr ⟨g, 0, rfl, h.range⟩⟩
  exact hr.bs.1
theorem rof_c (k c q : Int) (w : World) : Calls Try.prog 25 #[.int .i64 k, .int .i64 c, .int .i64 q] w fun e w' => e = .returned (sval (k, c, q)) ∧ Later w w' := by
  have B0 := hide (Box.new w 30 #[.int .i64 k, .int .i64 c, .int .i64 q])
  have L0 := hide ((Later.refl w).alloc (.cells #[.int .i64 k, .int .i64 c, .int .i64 q] 30))
  go_enter Try.func25, Try.ntmps25
  go_wp2
  exact bodyPost_ret (results_cell1 rfl _ _ _ w.heap.size 0 rfl (sval (k, c, q)) (run_loadVar_mid _ _ _ _ [.int .i64 k, .int .i64 c, .int .i64 q] _ B0.out.range Try.underlying30 rfl (by kernel_rfl))) rfl ⟨rfl, L0.out⟩
def strOf (l : List UInt8) : ByteArray := ⟨l.toArray⟩
theorem strOf_list (l : List UInt8) : (strOf l).toList = l := by rw [ByteArray.toList_eq]; simp [strOf]
theorem Bs.strOf {w : World} {v : Value} {l : List UInt8} (h : Bs w v l) : (convert 36 9 v).run Try.prog w = .ok (.string (strOf l)) w := h.str
end Go.Proofs.Ytbcikndebaeahaa

namespace Go.Proofs.Ytbcikndebaeahaa
open Go.ChangeShapes Go.WideShapes Go.ChangeAt Go.RowKit
set_option linter.unusedVariables false
set_option maxRecDepth 4000
set_option linter.unusedSimpArgs false
/-! The document's inquiry: Serial, first, Standard, Cut. -/
end Go.Proofs.Ytbcikndebaeahaa

namespace Go.Proofs.Ytbcikndebaeahaa
open Go.ChangeShapes Go.WideShapes Go.ChangeAt Go.RowKit
set_option linter.unusedVariables false
set_option maxRecDepth 4000
set_option linter.unusedSimpArgs false
/-! Bytes of a constant text, and of any text. -/
theorem owns_box {w : World} {g n B : Nat} {e : TypeId} {l : List UInt8} (h : Box w g e (bv l)) (hl : l.length = n) (hm : n ≤ 1000000) (hB : B ≤ g) : w.ownsRow B e 1 (.slice (some ⟨g, 0, none⟩) n n) n (bv l) :=
  ⟨by rw [bv_length]; omega, .inr ⟨g, n, (bv l).toArray, rfl, hB, h, Nat.le_refl _, by unfold maxLen; omega, by simp [bv_length]; omega, List.take_of_length_le (by simp [bv_length]; omega)⟩⟩
end Go.Proofs.Ytbcikndebaeahaa

namespace Go.Proofs.Ytbcikndebaeahaa
open Go.ChangeShapes Go.WideShapes Go.ChangeAt Go.RowKit
set_option linter.unusedVariables false
set_option maxRecDepth 4000
set_option linter.unusedSimpArgs false
/-! Cut: the first bytes. -/
theorem Bs.cut7 {w : World} {a : Option Addr} {n cap : Nat} {l : List UInt8} (h : Bs w (.slice a n cap) l) (k : Nat) (hk : k ≤ n) : Bs w (.slice a k cap) (l.take k) := by
  obtain ⟨h1, ad, cap', e, h2, h3⟩ := h
  simp at e
  obtain ⟨rfl, rfl, rfl⟩ := e
  have hl : (l.take k).length = k := by simp; omega
  refine ⟨by rw [hl]; omega, a, cap, by rw [hl], by rw [hl]; omega, ?_⟩
  rcases h3 with h3 | ⟨b', off', e, h3⟩
  · exact .inl (by rw [h3]; simp)
  · refine .inr ⟨b', off', e, fun j hj => ?_⟩
    rw [hl] at hj
    rw [h3 j (by omega), List.getElem_take]
end Go.Proofs.Ytbcikndebaeahaa

namespace Go.Proofs.Ytbcikndebaeahaa
open Go.ChangeShapes Go.WideShapes Go.ChangeAt Go.RowKit
set_option linter.unusedVariables false
set_option maxRecDepth 4000
set_option linter.unusedSimpArgs false
/-! 'append(a, make([]byte, 52)...)', a our own. -/
theorem zerosN (n : Nat) : (Builtin.zeroCells (Value.int .u8 0).cells n).toList = bv (List.replicate n 0) := by
  rw [bv_replicate]
  simp only [Builtin.zeroCells, Value.cells]
  refine List.ext_getElem (by simp) fun i h1 h2 => ?_
  simp [Nat.mod_one]
end Go.Proofs.Ytbcikndebaeahaa

namespace Go.Proofs.Ytbcikndebaeahaa
open Go.ChangeShapes Go.WideShapes Go.ChangeAt Go.RowKit
set_option linter.unusedVariables false
set_option maxRecDepth 4000
set_option linter.unusedSimpArgs false
/-! The document's answers for lists of senses. -/
set_option maxHeartbeats 1000000 in
theorem rsame4_c {u v : Value} {L M : List Sns} (w : World) (hu : Sl w u L) (hv : Sl w v M) :
    Calls Try.prog 36 #[u, v] w fun e w' => e = .returned (.bool (L == M)) ∧ Later w w' := by
  obtain ⟨hu, hou⟩ := hu
  obtain ⟨hv, hov⟩ := hv
  obtain ⟨k, hk⟩ : ∃ k, k = L.length := ⟨_, rfl⟩
  obtain ⟨m, hm⟩ : ∃ m, m = M.length := ⟨_, rfl⟩
  rw [← hk] at hu
  rw [← hm] at hv
  obtain ⟨au, cu, rfl⟩ := hu.shape
  obtain ⟨av, cv, rfl⟩ := hv.shape
  have hkm := hu.2.1
  have hmm := hv.2.1
  unfold maxLen at hkm hmm
  have HU := hide hu
  have HV := hide hv
  have HK := hide hk
  have HMm := hide hm
  clear hu hv hk hm hou hov
  generalize hR : (L == M) = r
  have HR := hide hR
  clear hR
  by_cases hkne : k = m
  case neg =>
    have hb : ((k : Int) != (m : Int)) = true := by rw [bne_iff_ne]; omega
    have hrf : Hid (r = false) := by
      unfold Hid
      rw [← HR.out, beq_eq_false_iff_ne]
      intro h
      have h1 := HK.out
      have h2 := HMm.out
      rw [h] at h1
      omega
    clear HR
    go_enter Try.func36, Try.ntmps36
    go_wp2
    go_ret
    exact ⟨ret_bool hrf.out.symm, Later.refl w⟩
  subst hkne
  have hb : ((k : Int) != (k : Int)) = false := by simp
  go_enter Try.func36, Try.ntmps36
  go_wp2_with fail
  go_loopw [5] (fun i wr => ∃ q : Nat, q ≤ k ∧ i = .int .i64 q ∧ Hid (L.take q = M.take q) ∧ Hid (Later w wr)) (fun i _ => k - (intOf i).toNat)
  case atStart => exact ⟨0, Nat.zero_le _, rfl, by simp [Hid], Later.refl w⟩
  case round =>
    obtain ⟨q, hq, rfl, hall, hl⟩ := hrel
    by_cases hlt : q < k
    · obtain ⟨b, off, e, hr⟩ := (HU.out.later hl.out).lies? (by omega)
      subst e
      obtain ⟨b2, off2, e, hr2⟩ := (HV.out.later hl.out).lies? (by omega)
      subst e
      have hqL : q < L.length := by have := HK.out; omega
      have hqM : q < M.length := by have := HMm.out; omega
      have hat := sv_at L q hqL
      have c0 := hr _ _ hat.1
      have c1 := hr _ _ hat.2.1
      have c2 := hr _ _ hat.2.2
      have hat2 := sv_at M q hqM
      have e0 := hr2 _ _ hat2.1
      have e1 := hr2 _ _ hat2.2.1
      have e2 := hr2 _ _ hat2.2.2
      have hyes : Hid ((L[q] == M[q]) = true → L.take (q + 1) = M.take (q + 1)) := fun h => by
        rw [List.take_succ_eq_append_getElem hqL, List.take_succ_eq_append_getElem hqM, hall.out, eq_of_beq h]
      have hno : Hid ((L[q] == M[q]) = false → r = false) := fun h => by
        rw [← HR.out, beq_eq_false_iff_ne]
        intro h2
        subst h2
        simp at h
      generalize L[q] = t at *
      generalize M[q] = t2 at *
      clear hat hat2 hr hr2 hall
      rw [← Nat.add_assoc] at c1 c2 e1 e2
      have hc := fun r => ((Later.refl wr).drew.trans (later_rg wr.drew r))
      have a0 := fun r => (hc r).cellOf c0
      have a1 := fun r => (hc r).cellOf c1
      have a2 := fun r => (hc r).cellOf c2
      have x0 := fun r => (hc r).cellOf e0
      have x1 := fun r => (hc r).cellOf e1
      have x2 := fun r => (hc r).cellOf e2
      go_wp2_with fail
      refine wp_region_sched ((List.range 9).map fun i => (i, false)) (by kernel_rfl) (by kernel_rfl) (by kernel_rfl) (by kernel_rfl) ?_
      simp only [List.range, List.range.loop, List.map]
      iterate 8 (refine wpS_mild rfl (fun K hK => ?_); go_simp; refine hK _ ?_; clear hK K)
      refine wpS_neqG rfl (by kernel_rfl) 30 _ (.tmp 20) (.tmp 24) rfl _ _ rfl rfl Try.guard_sense (t == t2) (fun w => sense_eq t t2 w) ?_
      refine wpS_nil (fun wx hwx => ?_)
      have Lx := hide (hl.out.drew.trans hwx)
      clear a0 a1 a2 x0 x1 x2 c0 c1 c2 e0 e1 e2 hc hwx hl
      cases hts : (t == t2) with
      | true =>
        rw [hts] at hyes
        go_wp2
        go_roundw
        case rel => exact ⟨q + 1, by omega, by go_num, hyes.out (by simp), Lx⟩
        case measure => simp [intOf]; omega
      | false =>
        rw [hts] at hno
        go_wp2
        go_ret
        exact ⟨ret_bool (hno.out (by simp)).symm, Lx.out⟩
    · go_wp2
      go_ret
      refine ⟨ret_bool ?_, hl.out⟩
      have hk := HK.out
      have hm := HMm.out
      have := hall.out
      rw [List.take_of_length_le (by omega), List.take_of_length_le (by omega)] at this
      rw [← HR.out, this]
      simp
end Go.Proofs.Ytbcikndebaeahaa

namespace Go.Proofs.Ytbcikndebaeahaa
open Go.ChangeShapes Go.WideShapes Go.ChangeAt Go.RowKit
set_option linter.unusedVariables false
set_option maxRecDepth 4000
set_option linter.unusedSimpArgs false
/-! The document's answers for lists of senses: Add, First. -/
end Go.Proofs.Ytbcikndebaeahaa

namespace Go.Proofs.Ytbcikndebaeahaa
open Go.ChangeShapes Go.WideShapes Go.ChangeAt Go.RowKit
set_option linter.unusedVariables false
set_option maxRecDepth 4000
set_option linter.unusedSimpArgs false
/-! What the landed sense does, said; proved in P4. -/
def IConS (f : FuncId) (s : Sns) : Prop := ∀ w : World, Calls Try.prog f #[] w fun e w' => e = .returned (sval s) ∧ Later w w'
def IGoodS : Prop := ∀ (s : Sns) (w : World), OkS s → Calls Try.prog 50 #[sval s] w fun e w' => e = .returned (.bool (s == (0, 0, 0))) ∧ Later w w'
end Go.Proofs.Ytbcikndebaeahaa

namespace Go.Proofs.Ytbcikndebaeahaa
open Go.ChangeShapes Go.WideShapes Go.ChangeAt Go.RowKit
set_option linter.unusedVariables false
set_option maxRecDepth 4000
set_option linter.unusedSimpArgs false
end Go.Proofs.Ytbcikndebaeahaa
