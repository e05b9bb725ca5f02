import Derived.Deep.WholeRow
import Derived.Test.YtfakboehmcimpaaGreatMAC
import Derived.Test.YtfakboehmcimpaaGreatMAD
namespace Go.Proofs.YtfakboehmcimpaaGreat
open Go.ChangeShapes Go.WideShapes Go.ChangeAt Go.RowKit
set_option linter.unusedVariables false
set_option maxRecDepth 20000
set_option linter.unusedSimpArgs false
def z65 : Value := .agg (#[.int .i64 0] ++ Array.replicate 64 (.int .u8 0))
theorem z65_size : z65.cells.size = 65 := rfl
theorem Tryz.elem_dirty : Elem Tryz.prog 83 65 72 z65 := by
  have h : (Tryz.prog.info? 83).map (fun i => (i.zero, i.size, i.bytes)) = some (some z65, 65, 72) := by kernel_rfl
  obtain ⟨i, hi, h1, h2, h3⟩ := info_parts h
  exact ⟨i, hi, h1, h2, h3⟩
theorem Med.later {w w' : World} {v : Value} {n : Nat} {F : List UInt8} {D : List Drt} (h : Med w v n F D) (hl : Later w w') : Med w' v n F D := by
  obtain ⟨vb, vd, rfl, hb, hd, hok⟩ := h
  exact ⟨vb, vd, rfl, hb.later hl, hd.later hl, hok⟩
theorem Rw.setCell_apart {sz : Nat} {w : World} {v : Value} {n : Nat} {xs : List Value} {a : Addr} {u u' : Value} (h : Rw sz w v n xs) (hc : w.cell? a = some u) (hu : u ∉ xs) : Rw sz (w.setCell a u') v n xs := by
  obtain ⟨h1, h2, a', cap, rfl, hcap, h3⟩ := h
  refine ⟨h1, h2, a', cap, rfl, hcap, ?_⟩
  rcases h3 with h3 | ⟨b, off, ha, hr⟩
  · exact .inl h3
  · refine .inr ⟨b, off, ha, fun j x hx => ?_⟩
    have hne : a ≠ ⟨b, off + j, none⟩ := fun e => by
      have := hr j x hx
      rw [← e, hc] at this
      cases this
      exact hu (List.mem_of_getElem? hx)
    rw [World.cell?_setCell_other _ _ _ _ hne]; exact hr j x hx
theorem bv_noslice (l : List UInt8) {a : Option Addr} {n c : Nat} : Value.slice a n c ∉ bv l := fun h => by
  obtain ⟨b, _, e⟩ := List.mem_map.1 h
  cases e
theorem dv_noslice (D : List Drt) {a : Option Addr} {n c : Nat} : Value.slice a n c ∉ dv D := fun h => by
  simp only [dv, List.mem_flatMap] at h
  obtain ⟨d, _, hd⟩ := h
  rcases List.mem_cons.1 hd with e | h
  · cases e
  · exact bv_noslice _ h
def greatB (n : Nat) (D : List Drt) : Bool := decide (70 < n ∨ 70 < D.length)
theorem rgreat_c {v : Value} {n : Nat} {F : List UInt8} {D : List Drt} (w : World) (h : Med w v n F D) :
    Calls Tryz.prog 13 #[v] w fun e w' => e = .returned (.bool (greatB n D)) ∧ Later w w' := by
  obtain ⟨vb, vd, rfl, hb, hd, hok⟩ := h
  obtain ⟨ab, cb, rfl⟩ := hb.shape
  obtain ⟨k, hk⟩ : ∃ k, k = D.length := ⟨_, rfl⟩
  rw [← hk] at hd
  obtain ⟨aD, cD, rfl⟩ := hd.shape
  have hn := hb.2.1
  have hkm := hd.2.1
  unfold maxLen at hn hkm
  unfold greatB
  rw [← hk]
  have L0 := hide ((Later.refl w).alloc (.cells #[.slice ab n cb, .slice aD k cD] 25))
  clear hb hd hk hok
  by_cases h1 : 70 < n
  · go_enter Tryz.func13, Tryz.ntmps13
    go_wp2
    go_ret
    exact ⟨ret_bool (by first | (simp; done) | (simp; omega) | (rw [Bool.eq_iff_iff]; simp; omega)), L0.out⟩
  · by_cases h2 : 70 < k
    · go_enter Tryz.func13, Tryz.ntmps13
      go_wp2
      go_ret
      exact ⟨ret_bool (by first | (simp; done) | (simp; omega) | (rw [Bool.eq_iff_iff]; simp; omega)), L0.out⟩
    · go_enter Tryz.func13, Tryz.ntmps13
      go_wp2
      go_ret
      exact ⟨ret_bool (by first | (simp; done) | (simp; omega) | (rw [Bool.eq_iff_iff]; simp; omega)), L0.out⟩
set_option maxRecDepth 20000 in
set_option maxHeartbeats 1000000 in
theorem rcopy3_c {v : Value} {n : Nat} {F : List UInt8} {D : List Drt} (w : World) (h : Med w v n F D) (hn' : n ≤ 1000) (hD' : D.length ≤ 1000) :
    Calls Tryz.prog 49 #[v] w fun e w' => ∃ v', e = .returned v' ∧ Later w w' ∧ Med w' v' n F D := by
  obtain ⟨vb, vd, rfl, hb, hd, hok⟩ := h
  obtain ⟨ab, cb, rfl⟩ := hb.shape
  obtain ⟨k, hk⟩ : ∃ k, k = D.length := ⟨_, rfl⟩
  rw [← hk] at hd hD'
  obtain ⟨aD, cD, rfl⟩ := hd.shape
  have HD := hide hd
  have HB := hide hb
  have HK := hide hk
  have HO := hide hok
  clear hb hd hk hok
  have BX0 := hide (Box.new w 25 #[.slice ab n cb, .slice aD k cD])
  have L0 := hide ((Later.refl w).alloc (.cells #[.slice ab n cb, .slice aD k cD] 25))
  go_enter Tryz.func49, Tryz.ntmps49
  go_wp2_with fail
  have BX := hide (BX0.out.alloc (.cells #[.slice none 0 0, .slice none 0 0] 25))
  have BR := hide (Box.new' (w.alloc (.cells #[.slice ab n cb, .slice aD k cD] 25)) 25 #[.slice none 0 0, .slice none 0 0] _ rfl (w.heap.size + 1) (by simp))
  have L1 := hide (L0.out.alloc (.cells #[.slice none 0 0, .slice none 0 0] 25))
  clear BX0 L0
  generalize ((w.alloc (.cells #[.slice ab n cb, .slice aD k cD] 25)).alloc (.cells #[.slice none 0 0, .slice none 0 0] 25)) = w1 at *
  have hc0 := fun r => (Box.later BX.out ((Later.refl w1).drew.trans (later_rg w1.drew r))).cell 0
  have hc1 := fun r => (Box.later BX.out ((Later.refl w1).drew.trans (later_rg w1.drew r))).cell 1
  refine wp_region_tree [0, 1, 4, 5] [2, 3, 6] [7, 8] (by kernel_rfl) (by kernel_rfl) (by kernel_rfl) (by kernel_rfl) ?_
  iterate 4 (refine wpT_mild rfl (fun K hK => ?_); go_simp; refine hK _ ?_; clear hK K)
  clear hc0 hc1
  refine wpT_bag (fun i => match i with | 6 => [2, 3] | _ => []) (fun i vals W => match i with
    | 2 => Rw 64 W (vals 2) n (bv F)
    | 3 => ∃ g, vals 3 = .slice (some ⟨g, 0, none⟩) 0 0 ∧ W.ownsRow w1.heap.size 83 65 (vals 3) 0 []
    | 6 => Rw 65 W (vals 6) k (dv D)
    | _ => True) (by kernel_rfl) ?b1 ?b2 ?b3 ?b4
  case b1 =>
    intro i hi vals W W' hl h
    simp only [List.mem_cons, List.not_mem_nil, or_false] at hi
    rcases hi with rfl | rfl | rfl
    · exact Rw.later h hl
    · obtain ⟨g, h1, h2⟩ := h; exact ⟨g, h1, owns_kept h2 fun g hg => hl.block g (h2.lt g hg).2⟩
    · exact Rw.later h hl
  case b2 =>
    intro i hi k hk hne hds vals v W h
    simp only [List.mem_cons, List.not_mem_nil, or_false] at hi hk
    rcases hi with rfl | rfl | rfl <;> rcases hk with rfl | rfl | rfl <;> first | (exact absurd rfl hne) | (simpa [upd] using h) | (simp at hds)
  case b3 =>
    intro i hi vals W hl hdep
    have L1W := (Later.refl w1).drew.trans hl
    have LW := hide (L1.out.trans L1W)
    simp only [List.mem_cons, List.not_mem_nil, or_false] at hi
    rcases hi with rfl | rfl | rfl
    · refine lVal_step rfl (fun K hK => ?_)
      simp only [putAll, List.foldl]
      go_simp
      refine (rcopy_c W W.heap.size (Nat.le_refl _) (HB.out.later LW.out) (by omega)).mono ?_
      rintro e w3 ⟨v3, rfl, hl3, ho3⟩
      exact ⟨v3, rfl, hl3, hK _ _ (by simpa [upd] using Rw.of_owns ho3)⟩
    · refine lVal_step rfl (fun K hK => ?_)
      simp only [putAll, List.foldl]
      go_simp
      refine ⟨(Later.refl W).alloc _, hK _ _ ⟨W.heap.size, by simp [upd], ?_⟩⟩
      have := World.ownsRow_lit (e := 83) (size := 65) W #[] 0 L1W.size (by simp [maxLen]) rfl
      simpa [upd] using this
    · obtain ⟨g, hg, ho⟩ := hdep 3 (by simp)
      rw [hg] at ho
      refine lVal_append_lit Tryz.elem_dirty Tryz.underlying23 z65_size (by decide) rfl rfl (.tmp 6) (.tmp 8) rfl w1.heap.size g ?_ ho L1W.size _ k (dv D) rfl (HD.out.later LW.out) (dv_one _) (by omega) ?_
      · show vals 3 = _
        exact hg
      · intro v' w' h
        simpa [upd] using Rw.of_owns h
  case b4 =>
    intro vals w7 hl hall
    have hw7 := (Later.refl w1).drew.trans hl
    have h2 : Rw 64 w7 (vals 2) n (bv F) := hall 2 (by simp)
    have h6 : Rw 65 w7 (vals 6) k (dv D) := hall 6 (by simp)
    generalize hv2 : vals 2 = v2 at *
    generalize hv6 : vals 6 = v6 at *
    have W6 := hide h2
    have V6 := hide h6
    obtain ⟨a3, c3, rfl⟩ := h2.shape
    obtain ⟨a6, c6, rfl⟩ := h6.shape
    have R6 := hide (Box.later BR.out hw7)
    have L6 := hide (L1.out.trans hw7)
    clear h2 h6 hall hl hw7
    have c0 := R6.out.cell 0
    have c1 := R6.out.cell 1
    have f0 := R6.out.frozen 0
    have f1 := R6.out.frozen 1
    refine wpL_cons rfl (fun K hK => ?_)
    simp only [putAll, List.foldl, dstOf]
    go_simp
    refine hK _ _ ?_
    clear hK K
    refine wpL_cons rfl (fun K hK => ?_)
    go_simp
    refine hK _ _ (wpL_nil ?_)
    clear hK K
    have R8 : Hid (Box ((w7.setCell ⟨w.heap.size + 1, 0, none⟩ (.slice a3 n c3)).setCell ⟨w.heap.size + 1, 1, none⟩ (.slice a6 k c6)) (w.heap.size + 1) 25 [.slice a3 n c3, .slice a6 k c6]) := (R6.out.set 0 _).set 1 _
    have L8 : Hid (Later w ((w7.setCell ⟨w.heap.size + 1, 0, none⟩ (.slice a3 n c3)).setCell ⟨w.heap.size + 1, 1, none⟩ (.slice a6 k c6))) := (L6.out.setCell (by simp) _).setCell (by simp) _
    have W8 : Hid (Rw 64 ((w7.setCell ⟨w.heap.size + 1, 0, none⟩ (.slice a3 n c3)).setCell ⟨w.heap.size + 1, 1, none⟩ (.slice a6 k c6)) (.slice a3 n c3) n (bv F)) :=
      (W6.out.setCell_apart c0 (bv_noslice F)).setCell_apart (u := .slice none 0 0) (by rw [(R6.out.set 0 _).cell 1]; rfl) (bv_noslice F)
    have V8 : Hid (Rw 65 ((w7.setCell ⟨w.heap.size + 1, 0, none⟩ (.slice a3 n c3)).setCell ⟨w.heap.size + 1, 1, none⟩ (.slice a6 k c6)) (.slice a6 k c6) k (dv D)) :=
      (V6.out.setCell_apart c0 (dv_noslice D)).setCell_apart (u := .slice none 0 0) (by rw [(R6.out.set 0 _).cell 1]; rfl) (dv_noslice D)
    clear c0 c1 f0 f1 L6 V6 W6 R6
    generalize ((w7.setCell ⟨w.heap.size + 1, 0, none⟩ (.slice a3 n c3)).setCell ⟨w.heap.size + 1, 1, none⟩ (.slice a6 k c6)) = w8 at *
    go_wp2
    refine bodyPost_ret (results_cell1 rfl _ _ _ (w.heap.size + 1) 0 rfl (.agg #[.slice a3 n c3, .slice a6 k c6]) (run_loadVar_mid _ _ _ _ [.slice a3 n c3, .slice a6 k c6] _ R8.out.range Tryz.underlying25 rfl (by kernel_rfl))) rfl ⟨_, rfl, L8.out, _, _, rfl, W8.out, ?_, HO.out⟩
    rw [← HK.out]
    exact V8.out
end Go.Proofs.YtfakboehmcimpaaGreat

namespace Go.Proofs.YtfakboehmcimpaaGreat
open Go.ChangeShapes Go.WideShapes Go.ChangeAt Go.RowKit
set_option linter.unusedVariables false
set_option maxRecDepth 4000
set_option linter.unusedSimpArgs false
theorem map_two {α β : Type} {f : α → β} {l : List α} {x y : β} (h : l.map f = [x, y]) : ∃ a b, l = [a, b] ∧ f a = x ∧ f b = y := by
  match l, h with
  | [a, b], h => simp at h; exact ⟨a, b, rfl, h.1, h.2⟩
  | [_], h => simp at h
  | _ :: _ :: _ :: _, h => simp at h
theorem Tryz.fields_dirty : (Tryz.prog.fieldsOf 83).toList.map (fun f => (f.name, f.type, f.offset)) = [("At", 3, 0), ("Data", 80, 1)] := by kernel_rfl
theorem Tryz.is_dirty : Tryz.prog.underlying 83 = some (.struct (Tryz.prog.fieldsOf 83)) := by kernel_rfl
theorem Tryz.plain_dirty : Tryz.prog.stoodInHeld 83 = false := by kernel_rfl
theorem part_int {P : Program} {t : TypeId} (w : World) (ht : P.underlying t = some (.int .i64)) (a : Int) (X : List UInt8) : (part t (Value.int .i64 a :: bv X).toArray 0).run P w = .ok (.int .i64 a) w := by
  simp [part, isAgg, run_underlying ht]
theorem part_arr {P : Program} {t e : TypeId} (w : World) (ht : P.underlying t = some (.array 64 e)) (hs : (P.info? t).map (·.size) = some 64) (a : Int) (X : List UInt8) (hX : X.length = 64) : (part t (Value.int .i64 a :: bv X).toArray 1).run P w = .ok (.agg (bv X).toArray) w := by
  have : (bv X).take 64 = bv X := List.take_of_length_le (by rw [bv_length]; omega)
  simp [part, isAgg, run_underlying ht, run_size hs, this]
theorem eqFields_two {P : Program} (w : World) (d : Nat) (xs ys : Array Value) (f g : Field) (hf : f.name ≠ "_") (hg : g.name ≠ "_") (a b a' b' : Value) (r r' : Bool)
    (p1 : (part f.type xs f.offset).run P w = .ok a w) (p2 : (part f.type ys f.offset).run P w = .ok b w) (p3 : (Op.equalIn d f.type a b).run P w = .ok r w)
    (q1 : (part g.type xs g.offset).run P w = .ok a' w) (q2 : (part g.type ys g.offset).run P w = .ok b' w) (q3 : (Op.equalIn d g.type a' b').run P w = .ok r' w) :
    (Op.eqFields d xs ys [f, g]).run P w = .ok (r && r') w := by
  simp only [Op.eqFields, hf, hg, ne_eq, not_false_eq_true, if_true, Sem.run_bind, p1, p2, p3, q1, q2, q3, Result.andThen_ok]
  cases r <;> cases r' <;> simp [Sem.run_bind, q1, q2, q3, Result.andThen_ok]
theorem Tryz.info_dirty : (Tryz.prog.info? 83).map (·.size) = some 65 := by kernel_rfl
theorem dirty_eq (d e : Drt) (hd : d.2.length = 64) (he : e.2.length = 64) (w : World) :
    (Op.equalIn 10000 83 (.agg (Value.int .i64 d.1 :: bv d.2).toArray) (.agg (Value.int .i64 e.1 :: bv e.2).toArray)).run Tryz.prog w = .ok (d.1 == e.1 && d.2 == e.2) w := by
  refine (run_equalIn_struct w 9999 83 _ _ Tryz.is_dirty Tryz.plain_dirty).trans ?_
  obtain ⟨f, g, hfs, hf, hg⟩ := map_two Tryz.fields_dirty
  rw [hfs]
  simp only [Prod.mk.injEq] at hf hg
  obtain ⟨n1, t1, o1⟩ := hf
  obtain ⟨n2, t2, o2⟩ := hg
  refine eqFields_two w 9999 _ _ f g (by rw [n1]; decide) (by rw [n2]; decide) (.int .i64 d.1) (.int .i64 e.1) (.agg (bv d.2).toArray) (.agg (bv e.2).toArray) _ _ ?_ ?_ ?_ ?_ ?_ ?_
  · rw [t1, o1]; exact part_int w Tryz.underlying3 _ _
  · rw [t1, o1]; exact part_int w Tryz.underlying3 _ _
  · rw [t1]; exact run_equalIn_int (P := Tryz.prog) w 9998 3 .i64 .i64 d.1 e.1 Tryz.underlying3
  · rw [t2, o2]; exact part_arr w Tryz.underlying80 Tryz.info_block _ _ hd
  · rw [t2, o2]; exact part_arr w Tryz.underlying80 Tryz.info_block _ _ he
  · rw [t2]; exact run_equalIn_bytes (P := Tryz.prog) w 9997 80 5 64 Tryz.underlying80 Tryz.underlying5 (fun w => run_size (by kernel_rfl) w) d.2 e.2 hd he
/-- '!=' of two structs or arrays, in a region that draws its order -/
theorem wpS_neqG {P : Program} {ops : Array Oper} {Q : Act → World → Prop} {i : Nat} {o : Oper} {σ : List (Nat × Bool)} {a : Act} {b : World} (ho : ops[i]? = some o) (hw : Region.wanted o (yielded ops a.tmps) = true) (ty tt : TypeId) (x y : Operand) (hop : o.op = .binOp .neq ty x y tt)
    (xs ys : Array Value) (hx : a.eval x = .agg xs) (hy : a.eval y = .agg ys) (hgt : P.eqGuardType P.depth ty = false) (r : Bool) (heq : ∀ w, (Op.equalIn 10000 ty (.agg xs) (.agg ys)).run P w = .ok r w)
    (h : wpS P ops Q σ (a.put o.dst (.bool (!r))) b) : wpS P ops Q ((i, false) :: σ) a b := by
  refine ⟨o, ho, ?_⟩
  rw [if_pos hw]
  refine ⟨.bool (!r), fun w hl => ?_, h⟩
  unfold execOp
  simp [hop, hx, hy, run_eqGuard_agg w .neq ty x y xs ys hgt, run_neq_struct, heq, Result.andThen, Oper.mildUpon]
set_option maxHeartbeats 1000000 in
theorem rsame3_c {u v : Value} {n m : Nat} {F G : List UInt8} {D E : List Drt} (w : World) (hu : Med w u n F D) (hv : Med w v m G E) :
    Calls Tryz.prog 91 #[u, v] w fun e w' => e = .returned (.bool (F == G && D == E)) ∧ Later w w' := by
  obtain ⟨ub, ud, rfl, hub, hud, huk⟩ := hu
  obtain ⟨vb, vd, rfl, hvb, hvd, hvk⟩ := hv
  obtain ⟨aU, cU, rfl⟩ := hub.shape
  obtain ⟨aV, cV, rfl⟩ := hvb.shape
  obtain ⟨k, hk⟩ : ∃ k, k = D.length := ⟨_, rfl⟩
  obtain ⟨l, hl⟩ : ∃ l, l = E.length := ⟨_, rfl⟩
  rw [← hk] at hud
  rw [← hl] at hvd
  obtain ⟨aD, cD, rfl⟩ := hud.shape
  obtain ⟨aE, cE, rfl⟩ := hvd.shape
  have hkm := hud.2.1
  have hlm := hvd.2.1
  unfold maxLen at hkm hlm
  have UB := hide hub
  have VB := hide hvb
  have UD := hide hud
  have VD := hide hvd
  have KD := hide (And.intro hk huk)
  have KE := hide (And.intro hl hvk)
  clear hub hvb hud hvd hk hl huk hvk
  generalize hR : (F == G && D == E) = r
  have HR := hide hR
  clear hR
  have BX0 := hide ((Box.new w 25 #[.slice aU n cU, .slice aD k cD]).alloc (.cells #[.slice aV m cV, .slice aE l cE] 25))
  have BY0 := hide (Box.new' (w.alloc (.cells #[.slice aU n cU, .slice aD k cD] 25)) 25 #[.slice aV m cV, .slice aE l cE] _ rfl (w.heap.size + 1) (by simp))
  have L0 := hide (((Later.refl w).alloc (.cells #[.slice aU n cU, .slice aD k cD] 25)).alloc (.cells #[.slice aV m cV, .slice aE l cE] 25))
  go_enter Tryz.func91, Tryz.ntmps91
  go_wp2_with fail
  generalize ((w.alloc (.cells #[.slice aU n cU, .slice aD k cD] 25)).alloc (.cells #[.slice aV m cV, .slice aE l cE] 25)) = w1 at *
  refine (rsame_c w1 (UB.out.later L0.out) (VB.out.later L0.out)).mono ?_
  rintro e w2 ⟨rfl, hl2⟩
  have L2 := hide (L0.out.trans hl2)
  have BX := hide (Box.later BX0.out hl2)
  have BY := hide (Box.later BY0.out hl2)
  clear hl2 L0 BX0 BY0
  have d0 := BX.out.cell 0
  have d1 := BX.out.cell 1
  have d2 := BY.out.cell 0
  have d3 := BY.out.cell 1
  by_cases hFG : (F == G) = true
  case neg =>
    have hFG' : (F == G) = false := by simpa using hFG
    rw [hFG']
    go_wp2
    go_ret
    exact ⟨ret_bool (by rw [← HR.out, hFG']; rfl), L2.out⟩
  rw [hFG]
  have HR' : Hid ((D == E) = r) := by have := HR.out; rwa [hFG, Bool.true_and] at this
  clear HR
  by_cases hkl : k = l
  case neg =>
    have hb : ((k : Int) != (l : Int)) = true := by rw [bne_iff_ne]; omega
    go_wp2
    go_ret
    refine ⟨ret_bool ?_, L2.out⟩
    rw [← HR'.out]
    symm
    rw [beq_eq_false_iff_ne]
    intro e
    have h1 := KD.out.1
    have h2 := KE.out.1
    rw [e] at h1
    exact hkl (h1.trans h2.symm)
  subst hkl
  have hb : ((k : Int) != (k : Int)) = false := by simp
  go_wp2_with fail
  go_loopw [5] (fun i wr => ∃ q : Nat, q ≤ k ∧ i = .int .i64 q ∧ Hid (D.take q = E.take q) ∧ Hid (Later w2 wr)) (fun i _ => k - (intOf i).toNat)
  case atStart => exact ⟨0, Nat.zero_le _, rfl, by simp [Hid], Later.refl w2⟩
  case round =>
    obtain ⟨q, hq, rfl, he, hl⟩ := hrel
    have e0 := (Box.later BX.out hl.out).cell 0
    have e1 := (Box.later BX.out hl.out).cell 1
    have e2 := (Box.later BY.out hl.out).cell 0
    have e3 := (Box.later BY.out hl.out).cell 1
    by_cases hlt : q < k
    · have hqD : q < D.length := by have := KD.out.1; omega
      have hqE : q < E.length := by have := KE.out.1; omega
      obtain ⟨b1, o1, x1, r1⟩ := (UD.out.later (L2.out.trans hl.out)).lies? (by omega)
      obtain ⟨b2, o2, x2, r2⟩ := (VD.out.later (L2.out.trans hl.out)).lies? (by omega)
      subst x1 x2
      have ra := range_part r1 (q * 65) 65
      have rb := range_part r2 (q * 65) 65
      rw [dv_part D q hqD KD.out.2] at ra
      rw [dv_part E q hqE KE.out.2] at rb
      have lD := (KD.out.2 D[q] (List.getElem_mem hqD)).1
      have lE := (KE.out.2 E[q] (List.getElem_mem hqE)).1
      have heq := hide (dirty_eq D[q] E[q] lD lE)
      have hstep : Hid (D[q] = E[q] → D.take (q + 1) = E.take (q + 1)) := by
        intro h
        rw [List.take_succ_eq_append_getElem hqD, List.take_succ_eq_append_getElem hqE, h, he.out]
      have hnot : Hid (¬ D[q] = E[q] → (D == E) = false) := by
        intro h
        rw [beq_eq_false_iff_ne]
        intro e
        subst e
        exact h rfl
      generalize D[q] = x at *
      generalize E[q] = y at *
      obtain ⟨xa, xd⟩ := x
      obtain ⟨ya, yd⟩ := y
      simp only at ra rb lD lE
      obtain ⟨r0, hr0⟩ : ∃ r0 : Bool, r0 = (xa == ya && xd == yd) := ⟨_, rfl⟩
      have heq0 : ∀ w, (Op.equalIn 10000 83 (.agg (Value.int .i64 xa :: bv xd).toArray) (.agg (Value.int .i64 ya :: bv yd).toArray)).run Tryz.prog w = .ok r0 w := fun w => by rw [hr0]; exact heq.out w
      have hyes : Hid (r0 = true → D.take (q + 1) = E.take (q + 1)) := by
        intro h
        rw [h] at hr0
        simp at hr0
        exact hstep.out (by rw [hr0.1, hr0.2])
      have hno : Hid (r0 = false → (D == E) = false) := by
        intro h
        rw [h] at hr0
        refine hnot.out fun e => ?_
        simp only [Prod.mk.injEq] at e
        rw [e.1, e.2] at hr0
        simp at hr0
      have HEQ := hide heq0
      clear hr0 heq0 hstep hnot heq
      have RA := hide ra
      have RB := hide rb
      have hlx : Hid ((Value.int .i64 xa :: bv xd).length = 65) := by simp [Hid, bv_length, lD]
      have hly : Hid ((Value.int .i64 ya :: bv yd).length = 65) := by simp [Hid, bv_length, lE]
      clear ra rb r1 r2 lD lE
      go_wp2_with fail
      have g1 := fun r => (Box.later BX.out (hl.out.trans ((Later.refl wr).drew.trans (later_rg wr.drew r)))).cell 1
      have g3 := fun r => (Box.later BY.out (hl.out.trans ((Later.refl wr).drew.trans (later_rg wr.drew r)))).cell 1
      refine wp_region_sched ((List.range 11).map fun i => (i, false)) (by kernel_rfl) (by kernel_rfl) (by kernel_rfl) (by kernel_rfl) ?_
      simp only [List.range, List.range.loop, List.map]
      iterate 4 (refine wpS_mild rfl (fun K hK => ?_); go_simp; refine hK _ ?_; clear hK K)
      refine wpS_load rfl rfl 83 (.tmp 31) rfl b1 (o1 + q * 65) rfl (Value.int .i64 xa :: bv xd) _ ((World.rangeAt_drew _ _ _ _).2 RA.out) Tryz.underlying83 rfl (by rw [hlx.out]; exact Tryz.info_dirty) ?_
      iterate 4 (refine wpS_mild rfl (fun K hK => ?_); go_simp; refine hK _ ?_; clear hK K)
      refine wpS_load rfl rfl 83 (.tmp 36) rfl b2 (o2 + q * 65) rfl (Value.int .i64 ya :: bv yd) _ ((World.rangeAt_drew _ _ _ _).2 RB.out) Tryz.underlying83 rfl (by rw [hly.out]; exact Tryz.info_dirty) ?_
      refine wpS_neqG rfl (by kernel_rfl) 83 83 (.tmp 32) (.tmp 37) rfl _ _ rfl rfl (by kernel_rfl) r0 HEQ.out ?_
      clear HEQ RA RB hlx hly g1 g3 e0 e1 e2 e3 d0 d1 d2 d3
      refine wpS_nil (fun wx hwx => ?_)
      have Lx := hide (hl.out.drew.trans hwx)
      clear hwx
      cases r0 with
      | true =>
        go_wp2
        go_roundw
        case rel => exact ⟨q + 1, by omega, by go_num, hyes.out rfl, Lx⟩
        case measure => simp [intOf]; omega
      | false =>
        go_wp2
        go_ret
        exact ⟨ret_bool (by rw [← HR'.out]; exact (hno.out trivial).symm), L2.out.trans Lx.out⟩
    · have hkq : q = k := by omega
      go_wp2
      go_ret
      refine ⟨ret_bool ?_, L2.out.trans hl.out⟩
      rw [← HR'.out]
      have h1 := KD.out.1
      have h2 := KE.out.1
      have h3 := he.out
      rw [hkq] at h3
      rw [List.take_of_length_le (by omega), List.take_of_length_le (by omega)] at h3
      rw [h3]; simp
end Go.Proofs.YtfakboehmcimpaaGreat

namespace Go.Proofs.YtfakboehmcimpaaGreat
open Go.ChangeShapes Go.WideShapes Go.ChangeAt Go.RowKit
set_option linter.unusedVariables false
set_option maxRecDepth 4000
set_option linter.unusedSimpArgs false
/-! Variables of structs; calls in regions that draw their order. -/
theorem Later.later {a b c : World} (h : Later a b) (k : Later b c) : Later a c := h.trans k
theorem Bs.later {w b : World} {v : Value} {l : List UInt8} (h : Bs w v l) (hl : Later w b) : Bs b v l := h.below hl (Nat.le_refl _)
theorem put_eval {a : Act} {d : Tmp} {v : Value} (h : d < a.tmps.size) : (a.put (some d) v).eval (.tmp d) = v := by
  simp [Act.put, Act.eval, h]
/-- 'x := v', v a struct: a variable of its own -/
theorem wpList_new {P : Program} {w : World} {ops : Array Oper} {rest : List Oper} {o1 o2 : Oper} {a : Act} {Q : Exit → Act → World → Prop} (hg1 : o1.guard = none) (hg2 : o2.guard = none) (ty : TypeId) (h1 : o1.op = .alloc ty) (d : Tmp) (hd : o1.dst = some d) (hd' : d < a.tmps.size) (y : Operand) (hy' : y ≠ .tmp d) (h2 : o2.op = .store ty (.tmp d) y)
    (z : Array Value) (cells : List Value) (hz : (P.info? ty).map (fun i => (i.zero, i.size)) = some (some (.agg z), cells.length)) (hzs : z.size = cells.length) (hy : a.eval y = .agg cells.toArray) (h1c : ∀ v ∈ cells, v.oneCell' = true)
    (h : ∀ (g : Nat) (w' : World), Box w' g ty cells → Later w w' → Hid (g = w.heap.size ∧ w' = w.alloc (.cells cells.toArray ty)) → wpList P ops Q rest ((a.put (some d) (.pointer (some ⟨g, 0, none⟩))).put o2.dst undef) w') : wpList P ops Q (o1 :: o2 :: rest) a w := by
  obtain ⟨hzv, hsz⟩ := zero_of_info hz
  refine wpList_plain hg1 fun K hK => ?_
  have hr1 : (execOp a.eval o1).run P w = .ok (.value (.pointer (some ⟨w.heap.size, 0, none⟩))) (w.alloc (.cells z ty)) := by
    simp [execOp, h1, Instr.alloc, hzv, Result.andThen, newVar, newRow, Value.cells]
  unfold Go.Oper.wp
  rw [hr1]
  refine hK _ _ ?_
  rw [hd]
  refine wpList_plain hg2 fun K' hK' => ?_
  have he : (a.put (some d) (.pointer (some ⟨w.heap.size, 0, none⟩))).eval y = .agg cells.toArray := by
    rw [← hy]
    exact Act.eval_put fun t ht e => hy' (by rw [e]; cases ht; rfl)
  have hr2 := run_storeAt_new (P := P) w ty z cells.toArray (by simpa using hsz) (by simpa using hzs) (all_oneCell_toArray h1c)
  unfold Go.Oper.wp
  simp [execOp, h2, he, put_eval hd', hr2, Result.andThen]
  exact hK' _ _ (h _ _ (by simpa using Box.new w ty cells.toArray) ((Later.refl w).alloc _) ⟨rfl, rfl⟩)
/-- f is a function with a body -/
def Plain (P : Program) (f : FuncId) : Prop := (P.funcs[f]?).map (fun fn => (fn.name == "runtime.NumGoroutine", fn.body.isNone)) = some (false, false)
theorem Plain.of {P : Program} {f : FuncId} (h : (P.funcs[f]?).map (fun fn => (fn.name == "runtime.NumGoroutine", fn.body.isNone)) = some (false, false)) : Plain P f := h
theorem run_call {P : Program} {o : Oper} {a : Act} (f : FuncId) (hp : Plain P f) (xs : List Operand) (ts : Array TypeId) (hop : o.op = .call { callee := .value (.func f), args := xs.toArray, argTypes := ts }) (us : List Value) (hx : xs.map a.eval = us) (w : World) : (execOp a.eval o).run P w = .ok (.enter f us.toArray) w := by
  have hf : a.eval (.func f) = .func (.func f) #[] #[] := rfl
  unfold Plain at hp
  cases hq : P.funcs[f]? with
  | none => simp [hq] at hp
  | some fn =>
    simp only [hq, Option.map_some, Option.some.injEq, Prod.mk.injEq] at hp
    have hc : ∀ args, (callFunc f args).run P w = .ok (.enter f args) w := fun args => by
      have h1 : ¬ fn.name = "runtime.NumGoroutine" := by have := hp.1; simpa using this
      have h2 : ¬ fn.body = none := fun e => by have := hp.2; simp [e] at this
      simp [callFunc, hq, h1, h2]
    simp [execOp, hop, resolve, invoke, hf, hx, Result.andThen, Deferred.ofValue, hc]
/-- a call that gives one value, in a region that draws its order -/
theorem wpS_call {P : Program} {ops : Array Oper} {Q : Act → World → Prop} {i : Nat} {o : Oper} {σ : List (Nat × Bool)} {a : Act} {b : World} (ho : ops[i]? = some o) (hw : Region.wanted o (yielded ops a.tmps) = true) (f : FuncId) (hp : Plain P f) (xs : List Operand) (ts : Array TypeId) (hop : o.op = .call { callee := .value (.func f), args := xs.toArray, argTypes := ts }) (us : List Value) (hx : xs.map a.eval = us)
    (v : Value) (hc : ∀ w, Later b w → Calls P f us.toArray w fun e w' => e = .returned v ∧ Later w w')
    (h : wpS P ops Q σ (a.put o.dst v) b) : wpS P ops Q ((i, false) :: σ) a b := by
  refine ⟨o, ho, ?_⟩
  rw [if_pos hw]
  refine ⟨v, fun w hl => ?_, h⟩
  rw [run_call f hp xs ts hop us hx]
  exact ⟨rfl, hc w hl⟩
/-- '==' of arrays or structs, in a region that draws its order -/
theorem wpS_eqG {P : Program} {ops : Array Oper} {Q : Act → World → Prop} {i : Nat} {o : Oper} {σ : List (Nat × Bool)} {a : Act} {b : World} (ho : ops[i]? = some o) (hw : Region.wanted o (yielded ops a.tmps) = true) (ty tt : TypeId) (x y : Operand) (hop : o.op = .binOp .eql ty x y tt)
    (xs ys : Array Value) (hx : a.eval x = .agg xs) (hy : a.eval y = .agg ys) (hgt : P.eqGuardType P.depth ty = false) (r : Bool) (heq : ∀ w, (Op.equalIn 10000 ty (.agg xs) (.agg ys)).run P w = .ok r w)
    (h : wpS P ops Q σ (a.put o.dst (.bool r)) b) : wpS P ops Q ((i, false) :: σ) a b := by
  refine ⟨o, ho, ?_⟩
  rw [if_pos hw]
  refine ⟨.bool r, fun w hl => ?_, h⟩
  unfold execOp
  simp [hop, hx, hy, run_eqGuard_agg w .eql ty x y xs ys hgt, run_eql_struct, heq, Result.andThen, Oper.mildUpon]
end Go.Proofs.YtfakboehmcimpaaGreat
