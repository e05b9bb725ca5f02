import Derived.Test.YtbcikndebaeahaaWR10e
namespace Go.Proofs.Ytbcikndebaeahaa
open Go.ChangeShapes Go.WideShapes Go.ChangeAt Go.RowKit
set_option linter.unusedVariables false
set_option maxRecDepth 4000
set_option linter.unusedSimpArgs false
/-! The document's job: Finish. -/
def finR (cc : Bool) (c : Cmd) (len took : Int) (R : List UInt8) (S : Sns) : Bool × Sns :=
  if rightJ c len took R.length = false then (cc, (5, 26, 0))
  else if S ≠ (0, 0, 0) then (cc, S)
  else if took < len then (cc, (5, 26, 0))
  else if modeOp c.1 = false then (cc, (0, 0, 0))
  else if (selR R (c.1 == 85) cc).2 = (0, 0, 0) then ((selR R (c.1 == 85) cc).1, (0, 0, 0))
  else (cc, (selR R (c.1 == 85) cc).2)
def FnW (w : World) (U J : List Value) (W : World) : Prop :=
  Later w W ∧ Box W w.heap.size 32 U ∧ Box W (w.heap.size + 1) 38 J ∧
  (∃ cs, NoB cs ∧ cs.length = 10 ∧ Box W (w.heap.size + 2) 32 cs) ∧ (∃ cs, NoB cs ∧ cs.length = 3 ∧ Box W (w.heap.size + 3) 30 cs)
theorem FnW.later {w : World} {U J : List Value} {W W' : World} (h : FnW w U J W) (hl : Later W W') : FnW w U J W' := by
  obtain ⟨h1, h2, h3, ⟨cs, h5, h6, h7⟩, ds, h8, h9, h10⟩ := h
  exact ⟨h1.trans hl, h2.later hl, h3.later hl, ⟨cs, h5, h6, h7.later hl⟩, ds, h8, h9, h10.later hl⟩
theorem FnW.stU {w : World} {U J : List Value} {W : World} (h : FnW w U J W) (vs : List Value) (o : Nat) (ho : o + vs.length ≤ U.length) : FnW w (U.take o ++ vs ++ U.drop (o + vs.length)) J (W.setCells w.heap.size o vs) := by
  obtain ⟨h1, h2, h3, ⟨cs, h5, h6, h7⟩, ds, h8, h9, h10⟩ := h
  exact ⟨h1.setCells (by omega) _ _, h2.setCells vs o ho, h3.apart _ (by omega) _ _, ⟨cs, h5, h6, h7.apart _ (by omega) _ _⟩, ds, h8, h9, h10.apart _ (by omega) _ _⟩
theorem FnW.setU {w : World} {U J : List Value} {W : World} (h : FnW w U J W) (us : List Value) (hn : NoB us) (hl : us.length = 10) :
    FnW w U J (W.setCells (w.heap.size + 2) 0 us) ∧ Box (W.setCells (w.heap.size + 2) 0 us) (w.heap.size + 2) 32 us ∧ ∃ cs, NoB cs ∧ Box W (w.heap.size + 2) 32 cs := by
  obtain ⟨h1, h2, h3, ⟨cs, h5, h6, h7⟩, ds, h8, h9, h10⟩ := h
  have hb := h7.all us (by omega)
  exact ⟨⟨h1.setCells (by omega) _ _, h2.apart _ (by omega) _ _, h3.apart _ (by omega) _ _, ⟨us, hn, hl, hb⟩, ds, h8, h9, h10.apart _ (by omega) _ _⟩, hb, cs, h5, h7⟩
theorem FnW.setS {w : World} {U J : List Value} {W : World} (h : FnW w U J W) (S : Sns) :
    FnW w U J (W.setCells (w.heap.size + 3) 0 (sc S)) ∧ Box (W.setCells (w.heap.size + 3) 0 (sc S)) (w.heap.size + 3) 30 (sc S) ∧ ∃ cs, NoB cs ∧ Box W (w.heap.size + 3) 30 cs := by
  obtain ⟨h1, h2, h3, ⟨cs, h5, h6, h7⟩, ds, h8, h9, h10⟩ := h
  have hb := h10.all (sc S) (by rw [h9]; rfl)
  exact ⟨⟨h1.setCells (by omega) _ _, h2.apart _ (by omega) _ _, h3.apart _ (by omega) _ _, ⟨cs, h5, h6, h7.apart _ (by omega) _ _⟩, sc S, sc_nob _, rfl, hb⟩, hb, ds, h8, h10⟩
theorem fn_start (w : World) (ab : Option Addr) (n cb : Nat) (aD : Option Addr) (k cD : Nat) (p r l cc : Bool) (am : Option Addr) (m cm : Nat) (s : Sns) (c : Cmd) (len took : Int) (ar : Option Addr) (kr cr : Nat) (S : Sns) :
    FnW w (uc ab n cb aD k cD p r l cc am m cm s) (jc c len took ar kr cr S) ((((w.alloc (.cells (uc ab n cb aD k cD p r l cc am m cm s).toArray 32)).alloc (.cells (jc c len took ar kr cr S).toArray 38)).alloc
      (.cells #[.slice none 0 0, .slice none 0 0, .bool false, .bool false, .bool false, .bool false, .slice none 0 0, .int .i64 0, .int .i64 0, .int .i64 0] 32)).alloc (.cells #[.int .i64 0, .int .i64 0, .int .i64 0] 30)) :=
  ⟨((((Later.refl w).alloc _).alloc _).alloc _).alloc _, (((Box.new w _ _).alloc _).alloc _).alloc _, ((Box.new' _ _ _ _ rfl _ (by simp)).alloc _).alloc _,
    ⟨uc none 0 0 none 0 0 false false false false none 0 0 (0, 0, 0), uc_nob _ _ _ _ _ _ _ _ _ _ _ _ _ _, rfl, (Box.new' _ _ _ _ rfl _ (by simp)).alloc _⟩,
    ⟨sc (0, 0, 0), sc_nob _, rfl, Box.new' _ _ _ _ rfl _ (by simp)⟩⟩
theorem wpList_eqS9 {w : World} {ops : Array Oper} {rest : List Oper} {o : Oper} {a : Act} {Q : Exit → Act → World → Prop} (hw : Region.wanted o (yielded ops a.tmps) = true) (x y : Operand) (hop : o.op = .binOp .eql 30 x y 30)
    (s t : Sns) (hx : a.eval x = sval s) (hy : a.eval y = sval t) (r : Bool) (hr : (s == t) = r) (h : wpList Try.prog ops Q rest (a.put o.dst (.bool r)) w) : wpList Try.prog ops Q (o :: rest) a w := by
  subst hr
  exact wpList_eqS hw x y hop s t hx hy h
def FnS (w : World) (U J : List Value) (g : Nat) (t : Sns) (W : World) : Prop := FnW w U J W ∧ Box W g 30 (sc t) ∧ w.heap.size + 3 < g
theorem FnS.later {w : World} {U J : List Value} {g : Nat} {t : Sns} {W W' : World} (h : FnS w U J g t W) (hl : Later W W') : FnS w U J g t W' := ⟨h.1.later hl, h.2.1.later hl, h.2.2⟩
/-- a Boolean goes into a variable's cell -/
theorem wpList_storeBo {P : Program} {w : World} {ops : Array Oper} {rest : List Oper} {op : Oper} {a : Act} {Q : Exit → Act → World → Prop} (hgd : op.guard = none) (ty : TypeId) (x y : Operand) (ho : op.op = .store ty x y) (g o : Nat) (hx : a.eval x = .pointer (some ⟨g, o, none⟩)) (z : Bool) (hy : a.eval y = .bool z)
    (hs : (P.info? ty).map (·.size) = some 1) (t : TypeId) (cs : List Value) (hB : Box w g t cs) (hl : o < cs.length)
    (h : ∀ w', Hid (w' = w.setCells g o [.bool z]) → wpList P ops Q rest (a.put op.dst undef) w') : wpList P ops Q (op :: rest) a w := by
  refine wpList_plain hgd fun K hK => ?_
  have hc : w.cell? ⟨g, o, none⟩ = some (cs[o]'hl) := by rw [hB.cell o, List.getElem?_eq_getElem hl]
  have hf := hB.frozen o
  have hrun : (Instr.storeAt ty (.pointer (some ⟨g, o, none⟩)) (.bool z)).run P w = .ok () (w.setCells g o [.bool z]) := by
    simp [Instr.storeAt, Instr.sureAddr, storeVar, run_size hs, Value.cells, World.setCells]
    go_simp
  unfold Go.Oper.wp
  simp [execOp, ho, hx, hy, hrun, Result.andThen]
  exact hK _ _ (h _ rfl)
theorem Try.info1_bool : (Try.prog.info? 4).map (·.size) = some 1 := by kernel_rfl
set_option maxRecDepth 20000 in
set_option maxHeartbeats 8000000 in
theorem rfinish_c {u v : Value} {n : Nat} {F : List UInt8} {D : List Drt} {p r l cc : Bool} {am : Option Addr} {m cm : Nat} {s : Sns} {c : Cmd} {len took : Int} {R : List UInt8} {S : Sns} (w : World) (hU : Un w u n F D p r l cc am m cm s) (hJ : Jb w v c len took R S) (hc : OkC7 c) (h1 : In64 len) (h2 : In64 took) (hR : R.length ≤ 1000000) :
    Calls Try.prog 13 #[u, v] w fun e w' => ∃ u', e = .returned (.tuple #[u', sval (finR cc c len took R S).2]) ∧ Later w w' ∧ Un w' u' n F D p r l (finR cc c len took R S).1 am m cm s := by
  have HJ := hide hJ
  obtain ⟨ab, cb, aD, k, cD, rfl, hm⟩ := hU
  obtain ⟨ar, cr, rfl, hr⟩ := hJ
  have HM := hide hm
  have HB := hide hr
  have HC := hide hc
  clear hm hr hc
  obtain ⟨kr, hkr⟩ : ∃ kr, kr = R.length := ⟨_, rfl⟩
  rw [← hkr] at HB HJ hR ⊢
  have HK := hide hkr
  clear hkr
  have HW := hide (fn_start w ab n cb aD k cD p r l cc am m cm s c len took ar kr cr S)
  have x_0 := HW.out.2.1.cell 0
  have x_1 := HW.out.2.1.cell 1
  have x_2 := HW.out.2.1.cell 2
  have x_3 := HW.out.2.1.cell 3
  have x_4 := HW.out.2.1.cell 4
  have x_5 := HW.out.2.1.cell 5
  have x_6 := HW.out.2.1.cell 6
  have x_7 := HW.out.2.1.cell 7
  have x_8 := HW.out.2.1.cell 8
  have x_9 := HW.out.2.1.cell 9
  have y_0 := HW.out.2.2.1.cell 0
  have y_1 := HW.out.2.2.1.cell 1
  have y_2 := HW.out.2.2.1.cell 2
  have y_3 := HW.out.2.2.1.cell 3
  have y_4 := HW.out.2.2.1.cell 4
  have y_5 := HW.out.2.2.1.cell 5
  have y_6 := HW.out.2.2.1.cell 6
  have y_7 := HW.out.2.2.1.cell 7
  have y_8 := HW.out.2.2.1.cell 8
  have y_9 := HW.out.2.2.1.cell 9
  have y_10 := HW.out.2.2.1.cell 10
  go_enter Try.func13, Try.ntmps13
  go_wp2_with fail
  generalize ((((w.alloc (.cells (uc ab n cb aD k cD p r l cc am m cm s).toArray 32)).alloc (.cells (jc c len took ar kr cr S).toArray 38)).alloc
      (.cells #[.slice none 0 0, .slice none 0 0, .bool false, .bool false, .bool false, .bool false, .slice none 0 0, .int .i64 0, .int .i64 0, .int .i64 0] 32)).alloc (.cells #[.int .i64 0, .int .i64 0, .int .i64 0] 30)) = w5 at *
  refine (rright10_c _ (HJ.out.later HW.out.1) HC.out h1 h2).mono ?_
  rintro e w6 ⟨rfl, hl⟩
  replace HM := hide ((HM.out.later HW.out.1).later hl)
  replace HB := hide ((HB.out.later HW.out.1).later hl)
  replace HW := hide (HW.out.later hl)
  clear hl HJ
  clear x_0 x_1 x_2 x_3 x_4 x_5 x_6 x_7 x_8 x_9
  clear y_0 y_1 y_2 y_3 y_4 y_5 y_6 y_7 y_8 y_9 y_10
  cases hrt : rightJ c len took R.length with
  | false =>
    have HT : Hid (finR cc c len took R S = (cc, (5, 26, 0))) := by rw [Hid, finR, if_pos hrt]
    clear hrt
    go_wp2_with fail
    refine wp_region_held (FnW w (uc ab n cb aD k cD p r l cc am m cm s) (jc c len took ar kr cr S)) (fun a b hl h => h.later hl) HW.out [(0, false), (1, false), (2, true), (3, true)] (by kernel_rfl) (by kernel_rfl) (by kernel_rfl) (by kernel_rfl) ?_
    haveI : Nonempty (Held (FnW w (uc ab n cb aD k cD p r l cc am m cm s) (jc c len took ar kr cr S))) := ⟨⟨_, HW.out⟩⟩
    have x_0 := fun q : Held (FnW w (uc ab n cb aD k cD p r l cc am m cm s) (jc c len took ar kr cr S)) => q.h.2.1.cell 0
    have x_1 := fun q : Held (FnW w (uc ab n cb aD k cD p r l cc am m cm s) (jc c len took ar kr cr S)) => q.h.2.1.cell 1
    have x_2 := fun q : Held (FnW w (uc ab n cb aD k cD p r l cc am m cm s) (jc c len took ar kr cr S)) => q.h.2.1.cell 2
    have x_3 := fun q : Held (FnW w (uc ab n cb aD k cD p r l cc am m cm s) (jc c len took ar kr cr S)) => q.h.2.1.cell 3
    have x_4 := fun q : Held (FnW w (uc ab n cb aD k cD p r l cc am m cm s) (jc c len took ar kr cr S)) => q.h.2.1.cell 4
    have x_5 := fun q : Held (FnW w (uc ab n cb aD k cD p r l cc am m cm s) (jc c len took ar kr cr S)) => q.h.2.1.cell 5
    have x_6 := fun q : Held (FnW w (uc ab n cb aD k cD p r l cc am m cm s) (jc c len took ar kr cr S)) => q.h.2.1.cell 6
    have x_7 := fun q : Held (FnW w (uc ab n cb aD k cD p r l cc am m cm s) (jc c len took ar kr cr S)) => q.h.2.1.cell 7
    have x_8 := fun q : Held (FnW w (uc ab n cb aD k cD p r l cc am m cm s) (jc c len took ar kr cr S)) => q.h.2.1.cell 8
    have x_9 := fun q : Held (FnW w (uc ab n cb aD k cD p r l cc am m cm s) (jc c len took ar kr cr S)) => q.h.2.1.cell 9
    have y_0 := fun q : Held (FnW w (uc ab n cb aD k cD p r l cc am m cm s) (jc c len took ar kr cr S)) => q.h.2.2.1.cell 0
    have y_1 := fun q : Held (FnW w (uc ab n cb aD k cD p r l cc am m cm s) (jc c len took ar kr cr S)) => q.h.2.2.1.cell 1
    have y_2 := fun q : Held (FnW w (uc ab n cb aD k cD p r l cc am m cm s) (jc c len took ar kr cr S)) => q.h.2.2.1.cell 2
    have y_3 := fun q : Held (FnW w (uc ab n cb aD k cD p r l cc am m cm s) (jc c len took ar kr cr S)) => q.h.2.2.1.cell 3
    have y_4 := fun q : Held (FnW w (uc ab n cb aD k cD p r l cc am m cm s) (jc c len took ar kr cr S)) => q.h.2.2.1.cell 4
    have y_5 := fun q : Held (FnW w (uc ab n cb aD k cD p r l cc am m cm s) (jc c len took ar kr cr S)) => q.h.2.2.1.cell 5
    have y_6 := fun q : Held (FnW w (uc ab n cb aD k cD p r l cc am m cm s) (jc c len took ar kr cr S)) => q.h.2.2.1.cell 6
    have y_7 := fun q : Held (FnW w (uc ab n cb aD k cD p r l cc am m cm s) (jc c len took ar kr cr S)) => q.h.2.2.1.cell 7
    have y_8 := fun q : Held (FnW w (uc ab n cb aD k cD p r l cc am m cm s) (jc c len took ar kr cr S)) => q.h.2.2.1.cell 8
    have y_9 := fun q : Held (FnW w (uc ab n cb aD k cD p r l cc am m cm s) (jc c len took ar kr cr S)) => q.h.2.2.1.cell 9
    have y_10 := fun q : Held (FnW w (uc ab n cb aD k cD p r l cc am m cm s) (jc c len took ar kr cr S)) => q.h.2.2.1.cell 10
    replace HW := hide (HW.out.later (Later.refl _).drew)
    replace HM := hide (HM.out.later (Later.refl _).drew)
    iterate 1 (refine wpJ_mild rfl (fun K hK => ?_); go_simp; refine hK _ ?_; clear hK K)
    refine wpJ_call rfl (by kernel_rfl) 25 (Plain.of (by kernel_rfl)) [.const (.int .i64 5), .const (.int .i64 26), .const (.int .i64 0)] _ rfl [.int .i64 5, .int .i64 26, .int .i64 0] rfl (sval (5, 26, 0)) (fun wx hx => rof_c 5 26 0 wx) ?_
    clear x_0 x_1 x_2 x_3 x_4 x_5 x_6 x_7 x_8 x_9
    clear y_0 y_1 y_2 y_3 y_4 y_5 y_6 y_7 y_8 y_9 y_10
    obtain ⟨c3, n3, l3, b3⟩ := HW.out.2.2.2.1
    refine wpJ_store rfl rfl 32 (.tmp 4) (.tmp 11) rfl (w.heap.size + 2) (uc ab n cb aD k cD p r l cc am m cm s) rfl rfl Try.info_unit (uc_one _ _ _ _ _ _ _ _ _ _ _ _ _ _) _ c3 b3 (by simp [l3]) (fun W hW => ((HW.out.later hW).setU _ (uc_nob _ _ _ _ _ _ _ _ _ _ _ _ _ _) rfl).1) ?_
    intro wl hl wz hz
    have HA := (HW.out.later hl).setU (uc ab n cb aD k cD p r l cc am m cm s) (uc_nob _ _ _ _ _ _ _ _ _ _ _ _ _ _) rfl
    have HM2 := (HM.out.later hl).setNoB HA.2.2.choose_spec.2 HA.2.2.choose_spec.1 (uc ab n cb aD k cD p r l cc am m cm s) 0
    skip
    rw [← hz.out] at HA HM2
    replace HW := hide HA.1
    have B3 := hide HA.2.1
    replace HM := hide HM2
    clear HA HM2 hz hl b3 n3 l3
    obtain ⟨c4, n4, l4, b4⟩ := HW.out.2.2.2.2
    refine wpJ_store rfl rfl 30 (.tmp 5) (.tmp 12) rfl (w.heap.size + 3) (sc (5, 26, 0)) rfl rfl Try.info_sense (sc_one _) _ c4 b4 (by simp [l4]) (fun W hW => ((HW.out.later hW).setS _).1) ?_
    intro wl hl wy hy
    have HA := (HW.out.later hl).setS (5, 26, 0)
    have HM2 := (HM.out.later hl).setNoB HA.2.2.choose_spec.2 HA.2.2.choose_spec.1 (sc (5, 26, 0)) 0
    have B32 := (B3.out.later hl).apart (w.heap.size + 3) (by omega) (sc (5, 26, 0)) 0
    rw [← hy.out] at HA HM2 B32
    replace HW := hide HA.1
    have B4 := hide HA.2.1
    replace B3 := hide B32
    replace HM := hide HM2
    clear HA HM2 B32 hy hl b4 n4 l4
    refine wpJ_nil (fun wn hn => ?_)
    replace HW := hide (HW.out.later hn)
    replace B3 := hide (B3.out.later hn)
    replace B4 := hide (B4.out.later hn)
    replace HM := hide (HM.out.later hn)
    clear hn
    go_wp2
    refine bodyPost_ret (results_cell_cell' rfl _ _ _ (w.heap.size + 2) 0 (w.heap.size + 3) 0 rfl rfl _ _ (load_unit B3.out rfl) (shut3 B4.out)) rfl ⟨_, by rw [HT.out], HW.out.1, by rw [HT.out]; exact ⟨_, _, _, _, _, rfl, HM.out⟩⟩
  | true =>
  have HT0 : Hid (finR cc c len took R S = if S ≠ (0, 0, 0) then (cc, S) else if took < len then (cc, (5, 26, 0)) else if modeOp c.1 = false then (cc, (0, 0, 0)) else if (selR R (c.1 == 85) cc).2 = (0, 0, 0) then ((selR R (c.1 == 85) cc).1, (0, 0, 0)) else (cc, (selR R (c.1 == 85) cc).2)) := by rw [Hid, finR, if_neg (by rw [hrt]; simp)]
  clear hrt
  have x_0 := HW.out.2.1.cell 0
  have x_1 := HW.out.2.1.cell 1
  have x_2 := HW.out.2.1.cell 2
  have x_3 := HW.out.2.1.cell 3
  have x_4 := HW.out.2.1.cell 4
  have x_5 := HW.out.2.1.cell 5
  have x_6 := HW.out.2.1.cell 6
  have x_7 := HW.out.2.1.cell 7
  have x_8 := HW.out.2.1.cell 8
  have x_9 := HW.out.2.1.cell 9
  have y_0 := HW.out.2.2.1.cell 0
  have y_1 := HW.out.2.2.1.cell 1
  have y_2 := HW.out.2.2.1.cell 2
  have y_3 := HW.out.2.2.1.cell 3
  have y_4 := HW.out.2.2.1.cell 4
  have y_5 := HW.out.2.2.1.cell 5
  have y_6 := HW.out.2.2.1.cell 6
  have y_7 := HW.out.2.2.1.cell 7
  have y_8 := HW.out.2.2.1.cell 8
  have y_9 := HW.out.2.2.1.cell 9
  have y_10 := HW.out.2.2.1.cell 10
  by_cases hS : S = (0, 0, 0)
  case neg =>
    have HT : Hid (finR cc c len took R S = (cc, S)) := by rw [Hid, HT0.out, if_pos hS]
    have eS : (!(S == (0, 0, 0))) = true := by simpa using hS
    clear HT0 hS
    go_wp2_with (refine wpList_neqS9 (by kernel_rfl) (.tmp 14) (.tmp 15) rfl S (0, 0, 0) rfl rfl true eS ?_)
    clear x_0 x_1 x_2 x_3 x_4 x_5 x_6 x_7 x_8 x_9
    clear y_0 y_1 y_2 y_3 y_4 y_5 y_6 y_7 y_8 y_9 y_10
    refine wp_region_held (FnW w (uc ab n cb aD k cD p r l cc am m cm s) (jc c len took ar kr cr S)) (fun a b hl h => h.later hl) HW.out [(0, false), (1, false), (2, false), (3, true), (4, true)] (by kernel_rfl) (by kernel_rfl) (by kernel_rfl) (by kernel_rfl) ?_
    haveI : Nonempty (Held (FnW w (uc ab n cb aD k cD p r l cc am m cm s) (jc c len took ar kr cr S))) := ⟨⟨_, HW.out⟩⟩
    have x_0 := fun q : Held (FnW w (uc ab n cb aD k cD p r l cc am m cm s) (jc c len took ar kr cr S)) => q.h.2.1.cell 0
    have x_1 := fun q : Held (FnW w (uc ab n cb aD k cD p r l cc am m cm s) (jc c len took ar kr cr S)) => q.h.2.1.cell 1
    have x_2 := fun q : Held (FnW w (uc ab n cb aD k cD p r l cc am m cm s) (jc c len took ar kr cr S)) => q.h.2.1.cell 2
    have x_3 := fun q : Held (FnW w (uc ab n cb aD k cD p r l cc am m cm s) (jc c len took ar kr cr S)) => q.h.2.1.cell 3
    have x_4 := fun q : Held (FnW w (uc ab n cb aD k cD p r l cc am m cm s) (jc c len took ar kr cr S)) => q.h.2.1.cell 4
    have x_5 := fun q : Held (FnW w (uc ab n cb aD k cD p r l cc am m cm s) (jc c len took ar kr cr S)) => q.h.2.1.cell 5
    have x_6 := fun q : Held (FnW w (uc ab n cb aD k cD p r l cc am m cm s) (jc c len took ar kr cr S)) => q.h.2.1.cell 6
    have x_7 := fun q : Held (FnW w (uc ab n cb aD k cD p r l cc am m cm s) (jc c len took ar kr cr S)) => q.h.2.1.cell 7
    have x_8 := fun q : Held (FnW w (uc ab n cb aD k cD p r l cc am m cm s) (jc c len took ar kr cr S)) => q.h.2.1.cell 8
    have x_9 := fun q : Held (FnW w (uc ab n cb aD k cD p r l cc am m cm s) (jc c len took ar kr cr S)) => q.h.2.1.cell 9
    have y_0 := fun q : Held (FnW w (uc ab n cb aD k cD p r l cc am m cm s) (jc c len took ar kr cr S)) => q.h.2.2.1.cell 0
    have y_1 := fun q : Held (FnW w (uc ab n cb aD k cD p r l cc am m cm s) (jc c len took ar kr cr S)) => q.h.2.2.1.cell 1
    have y_2 := fun q : Held (FnW w (uc ab n cb aD k cD p r l cc am m cm s) (jc c len took ar kr cr S)) => q.h.2.2.1.cell 2
    have y_3 := fun q : Held (FnW w (uc ab n cb aD k cD p r l cc am m cm s) (jc c len took ar kr cr S)) => q.h.2.2.1.cell 3
    have y_4 := fun q : Held (FnW w (uc ab n cb aD k cD p r l cc am m cm s) (jc c len took ar kr cr S)) => q.h.2.2.1.cell 4
    have y_5 := fun q : Held (FnW w (uc ab n cb aD k cD p r l cc am m cm s) (jc c len took ar kr cr S)) => q.h.2.2.1.cell 5
    have y_6 := fun q : Held (FnW w (uc ab n cb aD k cD p r l cc am m cm s) (jc c len took ar kr cr S)) => q.h.2.2.1.cell 6
    have y_7 := fun q : Held (FnW w (uc ab n cb aD k cD p r l cc am m cm s) (jc c len took ar kr cr S)) => q.h.2.2.1.cell 7
    have y_8 := fun q : Held (FnW w (uc ab n cb aD k cD p r l cc am m cm s) (jc c len took ar kr cr S)) => q.h.2.2.1.cell 8
    have y_9 := fun q : Held (FnW w (uc ab n cb aD k cD p r l cc am m cm s) (jc c len took ar kr cr S)) => q.h.2.2.1.cell 9
    have y_10 := fun q : Held (FnW w (uc ab n cb aD k cD p r l cc am m cm s) (jc c len took ar kr cr S)) => q.h.2.2.1.cell 10
    replace HW := hide (HW.out.later (Later.refl _).drew)
    replace HM := hide (HM.out.later (Later.refl _).drew)
    iterate 3 (refine wpJ_mild rfl (fun K hK => ?_); go_simp; refine hK _ ?_; clear hK K)
    clear x_0 x_1 x_2 x_3 x_4 x_5 x_6 x_7 x_8 x_9
    clear y_0 y_1 y_2 y_3 y_4 y_5 y_6 y_7 y_8 y_9 y_10
    obtain ⟨c3, n3, l3, b3⟩ := HW.out.2.2.2.1
    refine wpJ_store rfl rfl 32 (.tmp 4) (.tmp 17) rfl (w.heap.size + 2) (uc ab n cb aD k cD p r l cc am m cm s) rfl rfl Try.info_unit (uc_one _ _ _ _ _ _ _ _ _ _ _ _ _ _) _ c3 b3 (by simp [l3]) (fun W hW => ((HW.out.later hW).setU _ (uc_nob _ _ _ _ _ _ _ _ _ _ _ _ _ _) rfl).1) ?_
    intro wl hl wz hz
    have HA := (HW.out.later hl).setU (uc ab n cb aD k cD p r l cc am m cm s) (uc_nob _ _ _ _ _ _ _ _ _ _ _ _ _ _) rfl
    have HM2 := (HM.out.later hl).setNoB HA.2.2.choose_spec.2 HA.2.2.choose_spec.1 (uc ab n cb aD k cD p r l cc am m cm s) 0
    skip
    rw [← hz.out] at HA HM2
    replace HW := hide HA.1
    have B3 := hide HA.2.1
    replace HM := hide HM2
    clear HA HM2 hz hl b3 n3 l3
    obtain ⟨c4, n4, l4, b4⟩ := HW.out.2.2.2.2
    refine wpJ_store rfl rfl 30 (.tmp 5) (.tmp 19) rfl (w.heap.size + 3) (sc S) rfl rfl Try.info_sense (sc_one _) _ c4 b4 (by simp [l4]) (fun W hW => ((HW.out.later hW).setS _).1) ?_
    intro wl hl wy hy
    have HA := (HW.out.later hl).setS S
    have HM2 := (HM.out.later hl).setNoB HA.2.2.choose_spec.2 HA.2.2.choose_spec.1 (sc S) 0
    have B32 := (B3.out.later hl).apart (w.heap.size + 3) (by omega) (sc S) 0
    rw [← hy.out] at HA HM2 B32
    replace HW := hide HA.1
    have B4 := hide HA.2.1
    replace B3 := hide B32
    replace HM := hide HM2
    clear HA HM2 B32 hy hl b4 n4 l4
    refine wpJ_nil (fun wn hn => ?_)
    replace HW := hide (HW.out.later hn)
    replace B3 := hide (B3.out.later hn)
    replace B4 := hide (B4.out.later hn)
    replace HM := hide (HM.out.later hn)
    clear hn
    go_wp2
    refine bodyPost_ret (results_cell_cell' rfl _ _ _ (w.heap.size + 2) 0 (w.heap.size + 3) 0 rfl rfl _ _ (load_unit B3.out rfl) (shut3 B4.out)) rfl ⟨_, by rw [HT.out], HW.out.1, by rw [HT.out]; exact ⟨_, _, _, _, _, rfl, HM.out⟩⟩
  have eS : (!(S == (0, 0, 0))) = false := by simpa using hS
  have HS := hide hS
  replace HT0 : Hid (finR cc c len took R S = if took < len then (cc, (5, 26, 0)) else if modeOp c.1 = false then (cc, (0, 0, 0)) else if (selR R (c.1 == 85) cc).2 = (0, 0, 0) then ((selR R (c.1 == 85) cc).1, (0, 0, 0)) else (cc, (selR R (c.1 == 85) cc).2)) := by rw [Hid, HT0.out, if_neg (by simp [hS])]
  clear hS
  by_cases hlt : took < len
  · have HT : Hid (finR cc c len took R S = (cc, (5, 26, 0))) := by rw [Hid, HT0.out, if_pos hlt]
    have el : decide (took < len) = true := by simp [hlt]
    clear HT0 hlt
    go_wp2_with (refine wpList_neqS9 (by kernel_rfl) (.tmp 14) (.tmp 15) rfl S (0, 0, 0) rfl rfl false eS ?_)
    clear x_0 x_1 x_2 x_3 x_4 x_5 x_6 x_7 x_8 x_9
    clear y_0 y_1 y_2 y_3 y_4 y_5 y_6 y_7 y_8 y_9 y_10
    go_wp2_with fail
    refine wp_region_held (FnW w (uc ab n cb aD k cD p r l cc am m cm s) (jc c len took ar kr cr S)) (fun a b hl h => h.later hl) HW.out [(0, false), (1, false), (2, true), (3, true)] (by kernel_rfl) (by kernel_rfl) (by kernel_rfl) (by kernel_rfl) ?_
    haveI : Nonempty (Held (FnW w (uc ab n cb aD k cD p r l cc am m cm s) (jc c len took ar kr cr S))) := ⟨⟨_, HW.out⟩⟩
    have x_0 := fun q : Held (FnW w (uc ab n cb aD k cD p r l cc am m cm s) (jc c len took ar kr cr S)) => q.h.2.1.cell 0
    have x_1 := fun q : Held (FnW w (uc ab n cb aD k cD p r l cc am m cm s) (jc c len took ar kr cr S)) => q.h.2.1.cell 1
    have x_2 := fun q : Held (FnW w (uc ab n cb aD k cD p r l cc am m cm s) (jc c len took ar kr cr S)) => q.h.2.1.cell 2
    have x_3 := fun q : Held (FnW w (uc ab n cb aD k cD p r l cc am m cm s) (jc c len took ar kr cr S)) => q.h.2.1.cell 3
    have x_4 := fun q : Held (FnW w (uc ab n cb aD k cD p r l cc am m cm s) (jc c len took ar kr cr S)) => q.h.2.1.cell 4
    have x_5 := fun q : Held (FnW w (uc ab n cb aD k cD p r l cc am m cm s) (jc c len took ar kr cr S)) => q.h.2.1.cell 5
    have x_6 := fun q : Held (FnW w (uc ab n cb aD k cD p r l cc am m cm s) (jc c len took ar kr cr S)) => q.h.2.1.cell 6
    have x_7 := fun q : Held (FnW w (uc ab n cb aD k cD p r l cc am m cm s) (jc c len took ar kr cr S)) => q.h.2.1.cell 7
    have x_8 := fun q : Held (FnW w (uc ab n cb aD k cD p r l cc am m cm s) (jc c len took ar kr cr S)) => q.h.2.1.cell 8
    have x_9 := fun q : Held (FnW w (uc ab n cb aD k cD p r l cc am m cm s) (jc c len took ar kr cr S)) => q.h.2.1.cell 9
    have y_0 := fun q : Held (FnW w (uc ab n cb aD k cD p r l cc am m cm s) (jc c len took ar kr cr S)) => q.h.2.2.1.cell 0
    have y_1 := fun q : Held (FnW w (uc ab n cb aD k cD p r l cc am m cm s) (jc c len took ar kr cr S)) => q.h.2.2.1.cell 1
    have y_2 := fun q : Held (FnW w (uc ab n cb aD k cD p r l cc am m cm s) (jc c len took ar kr cr S)) => q.h.2.2.1.cell 2
    have y_3 := fun q : Held (FnW w (uc ab n cb aD k cD p r l cc am m cm s) (jc c len took ar kr cr S)) => q.h.2.2.1.cell 3
    have y_4 := fun q : Held (FnW w (uc ab n cb aD k cD p r l cc am m cm s) (jc c len took ar kr cr S)) => q.h.2.2.1.cell 4
    have y_5 := fun q : Held (FnW w (uc ab n cb aD k cD p r l cc am m cm s) (jc c len took ar kr cr S)) => q.h.2.2.1.cell 5
    have y_6 := fun q : Held (FnW w (uc ab n cb aD k cD p r l cc am m cm s) (jc c len took ar kr cr S)) => q.h.2.2.1.cell 6
    have y_7 := fun q : Held (FnW w (uc ab n cb aD k cD p r l cc am m cm s) (jc c len took ar kr cr S)) => q.h.2.2.1.cell 7
    have y_8 := fun q : Held (FnW w (uc ab n cb aD k cD p r l cc am m cm s) (jc c len took ar kr cr S)) => q.h.2.2.1.cell 8
    have y_9 := fun q : Held (FnW w (uc ab n cb aD k cD p r l cc am m cm s) (jc c len took ar kr cr S)) => q.h.2.2.1.cell 9
    have y_10 := fun q : Held (FnW w (uc ab n cb aD k cD p r l cc am m cm s) (jc c len took ar kr cr S)) => q.h.2.2.1.cell 10
    replace HW := hide (HW.out.later (Later.refl _).drew)
    replace HM := hide (HM.out.later (Later.refl _).drew)
    iterate 1 (refine wpJ_mild rfl (fun K hK => ?_); go_simp; refine hK _ ?_; clear hK K)
    refine wpJ_call rfl (by kernel_rfl) 25 (Plain.of (by kernel_rfl)) [.const (.int .i64 5), .const (.int .i64 26), .const (.int .i64 0)] _ rfl [.int .i64 5, .int .i64 26, .int .i64 0] rfl (sval (5, 26, 0)) (fun wx hx => rof_c 5 26 0 wx) ?_
    clear x_0 x_1 x_2 x_3 x_4 x_5 x_6 x_7 x_8 x_9
    clear y_0 y_1 y_2 y_3 y_4 y_5 y_6 y_7 y_8 y_9 y_10
    obtain ⟨c3, n3, l3, b3⟩ := HW.out.2.2.2.1
    refine wpJ_store rfl rfl 32 (.tmp 4) (.tmp 25) rfl (w.heap.size + 2) (uc ab n cb aD k cD p r l cc am m cm s) rfl rfl Try.info_unit (uc_one _ _ _ _ _ _ _ _ _ _ _ _ _ _) _ c3 b3 (by simp [l3]) (fun W hW => ((HW.out.later hW).setU _ (uc_nob _ _ _ _ _ _ _ _ _ _ _ _ _ _) rfl).1) ?_
    intro wl hl wz hz
    have HA := (HW.out.later hl).setU (uc ab n cb aD k cD p r l cc am m cm s) (uc_nob _ _ _ _ _ _ _ _ _ _ _ _ _ _) rfl
    have HM2 := (HM.out.later hl).setNoB HA.2.2.choose_spec.2 HA.2.2.choose_spec.1 (uc ab n cb aD k cD p r l cc am m cm s) 0
    skip
    rw [← hz.out] at HA HM2
    replace HW := hide HA.1
    have B3 := hide HA.2.1
    replace HM := hide HM2
    clear HA HM2 hz hl b3 n3 l3
    obtain ⟨c4, n4, l4, b4⟩ := HW.out.2.2.2.2
    refine wpJ_store rfl rfl 30 (.tmp 5) (.tmp 26) rfl (w.heap.size + 3) (sc (5, 26, 0)) rfl rfl Try.info_sense (sc_one _) _ c4 b4 (by simp [l4]) (fun W hW => ((HW.out.later hW).setS _).1) ?_
    intro wl hl wy hy
    have HA := (HW.out.later hl).setS (5, 26, 0)
    have HM2 := (HM.out.later hl).setNoB HA.2.2.choose_spec.2 HA.2.2.choose_spec.1 (sc (5, 26, 0)) 0
    have B32 := (B3.out.later hl).apart (w.heap.size + 3) (by omega) (sc (5, 26, 0)) 0
    rw [← hy.out] at HA HM2 B32
    replace HW := hide HA.1
    have B4 := hide HA.2.1
    replace B3 := hide B32
    replace HM := hide HM2
    clear HA HM2 B32 hy hl b4 n4 l4
    refine wpJ_nil (fun wn hn => ?_)
    replace HW := hide (HW.out.later hn)
    replace B3 := hide (B3.out.later hn)
    replace B4 := hide (B4.out.later hn)
    replace HM := hide (HM.out.later hn)
    clear hn
    go_wp2
    refine bodyPost_ret (results_cell_cell' rfl _ _ _ (w.heap.size + 2) 0 (w.heap.size + 3) 0 rfl rfl _ _ (load_unit B3.out rfl) (shut3 B4.out)) rfl ⟨_, by rw [HT.out], HW.out.1, by rw [HT.out]; exact ⟨_, _, _, _, _, rfl, HM.out⟩⟩
  have el : decide (took < len) = false := by simp [hlt]
  replace HT0 : Hid (finR cc c len took R S = if modeOp c.1 = false then (cc, (0, 0, 0)) else if (selR R (c.1 == 85) cc).2 = (0, 0, 0) then ((selR R (c.1 == 85) cc).1, (0, 0, 0)) else (cc, (selR R (c.1 == 85) cc).2)) := by rw [Hid, HT0.out, if_neg hlt]
  clear hlt
  clear x_0 x_1 x_2 x_3 x_4 x_5 x_6 x_7 x_8 x_9
  clear y_0 y_1 y_2 y_3 y_4 y_5 y_6 y_7 y_8 y_9 y_10
  by_cases hop : c.1 = 21
  · have e1 : (c.1 != 21) = false := by simp [hop]
    have e2 : (c.1 == 85) = false := by simp [hop]
    replace HT0 : Hid (finR cc c len took R S = if (selR R false cc).2 = (0, 0, 0) then ((selR R false cc).1, (0, 0, 0)) else (cc, (selR R false cc).2)) := by rw [Hid, HT0.out, if_neg (by simp [modeOp, hop]), e2]
    clear hop
    have x_0 := HW.out.2.1.cell 0
    have x_1 := HW.out.2.1.cell 1
    have x_2 := HW.out.2.1.cell 2
    have x_3 := HW.out.2.1.cell 3
    have x_4 := HW.out.2.1.cell 4
    have x_5 := HW.out.2.1.cell 5
    have x_6 := HW.out.2.1.cell 6
    have x_7 := HW.out.2.1.cell 7
    have x_8 := HW.out.2.1.cell 8
    have x_9 := HW.out.2.1.cell 9
    have y_0 := HW.out.2.2.1.cell 0
    have y_1 := HW.out.2.2.1.cell 1
    have y_2 := HW.out.2.2.1.cell 2
    have y_3 := HW.out.2.2.1.cell 3
    have y_4 := HW.out.2.2.1.cell 4
    have y_5 := HW.out.2.2.1.cell 5
    have y_6 := HW.out.2.2.1.cell 6
    have y_7 := HW.out.2.2.1.cell 7
    have y_8 := HW.out.2.2.1.cell 8
    have y_9 := HW.out.2.2.1.cell 9
    have y_10 := HW.out.2.2.1.cell 10
    go_wp2_with (refine wpList_neqS9 (by kernel_rfl) (.tmp 14) (.tmp 15) rfl S (0, 0, 0) rfl rfl false eS ?_)
    refine (rselect_c false cc _ (HB.out) (by rw [← HK.out]; exact hR)).mono ?_
    rintro e w7 ⟨rfl, hl⟩
    replace HW := hide (HW.out.later hl)
    replace HM := hide (HM.out.later hl)
    clear hl HB
    clear x_0 x_1 x_2 x_3 x_4 x_5 x_6 x_7 x_8 x_9
    clear y_0 y_1 y_2 y_3 y_4 y_5 y_6 y_7 y_8 y_9 y_10
    generalize hz : selR R false cc = z at *
    obtain ⟨on, t⟩ := z
    clear hz
    simp only at HT0 ⊢
    go_wp2_with (refine wpList_newAS rfl rfl rfl rfl 7 6 rfl rfl (by simp) (by decide) (.tmp 49) (.tmp 50) (by simp) (by simp) (by simp) rfl rfl rfl _ t rfl rfl ?_)
    intro g7 w8 hB hl hg
    have hg7 : Hid (w.heap.size + 3 < g7) := by
      obtain ⟨_, _, _, b4⟩ := HW.out.2.2.2.2
      rw [Hid, hg.out]; exact b4.lt
    replace HW := hide (HW.out.later hl)
    replace HM := hide (HM.out.later hl)
    have B7 := hide hB
    clear hl hg hB
    have s0 := B7.out.cell 0
    have s1 := B7.out.cell 1
    have s2 := B7.out.cell 2
    by_cases ht : t = (0, 0, 0)
    · have et : (t == (0, 0, 0)) = true := by simp [ht]
      have HT : Hid (finR cc c len took R S = (on, t)) := by rw [Hid, HT0.out, if_pos ht, ht]
      clear HT0 ht
      go_wp2_with (first | refine wpList_eqS9 (by kernel_rfl) (.tmp 51) (.tmp 52) rfl t (0, 0, 0) rfl rfl true et ?_ | refine wpList_storeBo rfl 4 (.tmp 55) (.tmp 54) rfl w.heap.size 5 rfl on rfl Try.info1_bool _ _ HW.out.2.1 (by simp) ?_)
      intro w9 h9
      clear s0 s1 s2
      have HWn : FnW w (uc ab n cb aD k cD p r l on am m cm s) (jc c len took ar kr cr S) (w8.setCells w.heap.size 5 [.bool on]) := HW.out.stU [.bool on] 5 (by simp)
      have HM2 := HM.out.setNoB HW.out.2.1 (uc_nob _ _ _ _ _ _ _ _ _ _ _ _ _ _) [.bool on] 5
      have B72 := B7.out.apart w.heap.size (by have := hg7.out; omega) [.bool on] 5
      rw [← h9.out] at HWn HM2 B72
      replace HW := hide HWn
      replace HM := hide HM2
      replace B7 := hide B72
      clear HWn HM2 B72 h9
      go_wp2_with fail
      have HI : Hid (FnS w (uc ab n cb aD k cD p r l on am m cm s) (jc c len took ar kr cr S) g7 t _) := ⟨HW.out, B7.out, hg7.out⟩
      refine wp_region_held (FnS w (uc ab n cb aD k cD p r l on am m cm s) (jc c len took ar kr cr S) g7 t) (fun a b hl h => h.later hl) HI.out [(0, false), (1, false), (2, true), (3, true)] (by kernel_rfl) (by kernel_rfl) (by kernel_rfl) (by kernel_rfl) ?_
      haveI : Nonempty (Held (FnS w (uc ab n cb aD k cD p r l on am m cm s) (jc c len took ar kr cr S) g7 t)) := ⟨⟨_, HI.out⟩⟩
      have x_0 := fun q : Held (FnS w (uc ab n cb aD k cD p r l on am m cm s) (jc c len took ar kr cr S) g7 t) => q.h.1.2.1.cell 0
      have x_1 := fun q : Held (FnS w (uc ab n cb aD k cD p r l on am m cm s) (jc c len took ar kr cr S) g7 t) => q.h.1.2.1.cell 1
      have x_2 := fun q : Held (FnS w (uc ab n cb aD k cD p r l on am m cm s) (jc c len took ar kr cr S) g7 t) => q.h.1.2.1.cell 2
      have x_3 := fun q : Held (FnS w (uc ab n cb aD k cD p r l on am m cm s) (jc c len took ar kr cr S) g7 t) => q.h.1.2.1.cell 3
      have x_4 := fun q : Held (FnS w (uc ab n cb aD k cD p r l on am m cm s) (jc c len took ar kr cr S) g7 t) => q.h.1.2.1.cell 4
      have x_5 := fun q : Held (FnS w (uc ab n cb aD k cD p r l on am m cm s) (jc c len took ar kr cr S) g7 t) => q.h.1.2.1.cell 5
      have x_6 := fun q : Held (FnS w (uc ab n cb aD k cD p r l on am m cm s) (jc c len took ar kr cr S) g7 t) => q.h.1.2.1.cell 6
      have x_7 := fun q : Held (FnS w (uc ab n cb aD k cD p r l on am m cm s) (jc c len took ar kr cr S) g7 t) => q.h.1.2.1.cell 7
      have x_8 := fun q : Held (FnS w (uc ab n cb aD k cD p r l on am m cm s) (jc c len took ar kr cr S) g7 t) => q.h.1.2.1.cell 8
      have x_9 := fun q : Held (FnS w (uc ab n cb aD k cD p r l on am m cm s) (jc c len took ar kr cr S) g7 t) => q.h.1.2.1.cell 9
      have t0 := fun q : Held (FnS w (uc ab n cb aD k cD p r l on am m cm s) (jc c len took ar kr cr S) g7 t) => q.h.2.1.cell 0
      have t1 := fun q : Held (FnS w (uc ab n cb aD k cD p r l on am m cm s) (jc c len took ar kr cr S) g7 t) => q.h.2.1.cell 1
      have t2 := fun q : Held (FnS w (uc ab n cb aD k cD p r l on am m cm s) (jc c len took ar kr cr S) g7 t) => q.h.2.1.cell 2
      replace HW := hide (HW.out.later (Later.refl _).drew)
      replace HM := hide (HM.out.later (Later.refl _).drew)
      replace B7 := hide (B7.out.later (Later.refl _).drew)
      iterate 2 (refine wpJ_mild rfl (fun K hK => ?_); go_simp; refine hK _ ?_; clear hK K)
      clear x_0 x_1 x_2 x_3 x_4 x_5 x_6 x_7 x_8 x_9
      clear t0 t1 t2 HI
      obtain ⟨c3, n3, l3, b3⟩ := HW.out.2.2.2.1
      refine wpJ_store rfl rfl 32 (.tmp 4) (.tmp 56) rfl (w.heap.size + 2) (uc ab n cb aD k cD p r l on am m cm s) rfl rfl Try.info_unit (uc_one _ _ _ _ _ _ _ _ _ _ _ _ _ _) _ c3 b3 (by simp [l3]) (fun W hW => ⟨((HW.out.later hW).setU _ (uc_nob _ _ _ _ _ _ _ _ _ _ _ _ _ _) rfl).1, (B7.out.later hW).apart _ (by have := hg7.out; omega) _ _, hg7.out⟩) ?_
      intro wl hl wz hz
      have HA := (HW.out.later hl).setU (uc ab n cb aD k cD p r l on am m cm s) (uc_nob _ _ _ _ _ _ _ _ _ _ _ _ _ _) rfl
      have HM2 := (HM.out.later hl).setNoB HA.2.2.choose_spec.2 HA.2.2.choose_spec.1 (uc ab n cb aD k cD p r l on am m cm s) 0
      (replace B7 : Hid (Box wz g7 30 (sc t)) := by rw [Hid, hz.out]; exact (B7.out.later hl).apart _ (by have := hg7.out; omega) _ _)
      rw [← hz.out] at HA HM2
      replace HW := hide HA.1
      have B3 := hide HA.2.1
      replace HM := hide HM2
      clear HA HM2 hz hl b3 n3 l3
      obtain ⟨c4, n4, l4, b4⟩ := HW.out.2.2.2.2
      refine wpJ_store rfl rfl 30 (.tmp 5) (.tmp 57) rfl (w.heap.size + 3) (sc t) rfl rfl Try.info_sense (sc_one _) _ c4 b4 (by simp [l4]) (fun W hW => ⟨((HW.out.later hW).setS _).1, (B7.out.later hW).apart _ (by have := hg7.out; omega) _ _, hg7.out⟩) ?_
      intro wl hl wy hy
      have HA := (HW.out.later hl).setS t
      have HM2 := (HM.out.later hl).setNoB HA.2.2.choose_spec.2 HA.2.2.choose_spec.1 (sc t) 0
      have B32 := (B3.out.later hl).apart (w.heap.size + 3) (by omega) (sc t) 0
      rw [← hy.out] at HA HM2 B32
      replace HW := hide HA.1
      have B4 := hide HA.2.1
      replace B3 := hide B32
      replace HM := hide HM2
      clear HA HM2 B32 hy hl b4 n4 l4
      refine wpJ_nil (fun wn hn => ?_)
      replace HW := hide (HW.out.later hn)
      replace B3 := hide (B3.out.later hn)
      replace B4 := hide (B4.out.later hn)
      replace HM := hide (HM.out.later hn)
      clear hn
      go_wp2
      refine bodyPost_ret (results_cell_cell' rfl _ _ _ (w.heap.size + 2) 0 (w.heap.size + 3) 0 rfl rfl _ _ (load_unit B3.out rfl) (shut3 B4.out)) rfl ⟨_, by rw [HT.out], HW.out.1, by rw [HT.out]; exact ⟨_, _, _, _, _, rfl, HM.out⟩⟩
    · have et : (t == (0, 0, 0)) = false := by simp [ht]
      have HT : Hid (finR cc c len took R S = (cc, t)) := by rw [Hid, HT0.out, if_neg ht]
      clear HT0 ht
      go_wp2_with (refine wpList_eqS9 (by kernel_rfl) (.tmp 51) (.tmp 52) rfl t (0, 0, 0) rfl rfl false et ?_)
      clear s0 s1 s2
      have HI : Hid (FnS w (uc ab n cb aD k cD p r l cc am m cm s) (jc c len took ar kr cr S) g7 t _) := ⟨HW.out, B7.out, hg7.out⟩
      refine wp_region_held (FnS w (uc ab n cb aD k cD p r l cc am m cm s) (jc c len took ar kr cr S) g7 t) (fun a b hl h => h.later hl) HI.out [(0, false), (1, false), (2, true), (3, true)] (by kernel_rfl) (by kernel_rfl) (by kernel_rfl) (by kernel_rfl) ?_
      haveI : Nonempty (Held (FnS w (uc ab n cb aD k cD p r l cc am m cm s) (jc c len took ar kr cr S) g7 t)) := ⟨⟨_, HI.out⟩⟩
      have x_0 := fun q : Held (FnS w (uc ab n cb aD k cD p r l cc am m cm s) (jc c len took ar kr cr S) g7 t) => q.h.1.2.1.cell 0
      have x_1 := fun q : Held (FnS w (uc ab n cb aD k cD p r l cc am m cm s) (jc c len took ar kr cr S) g7 t) => q.h.1.2.1.cell 1
      have x_2 := fun q : Held (FnS w (uc ab n cb aD k cD p r l cc am m cm s) (jc c len took ar kr cr S) g7 t) => q.h.1.2.1.cell 2
      have x_3 := fun q : Held (FnS w (uc ab n cb aD k cD p r l cc am m cm s) (jc c len took ar kr cr S) g7 t) => q.h.1.2.1.cell 3
      have x_4 := fun q : Held (FnS w (uc ab n cb aD k cD p r l cc am m cm s) (jc c len took ar kr cr S) g7 t) => q.h.1.2.1.cell 4
      have x_5 := fun q : Held (FnS w (uc ab n cb aD k cD p r l cc am m cm s) (jc c len took ar kr cr S) g7 t) => q.h.1.2.1.cell 5
      have x_6 := fun q : Held (FnS w (uc ab n cb aD k cD p r l cc am m cm s) (jc c len took ar kr cr S) g7 t) => q.h.1.2.1.cell 6
      have x_7 := fun q : Held (FnS w (uc ab n cb aD k cD p r l cc am m cm s) (jc c len took ar kr cr S) g7 t) => q.h.1.2.1.cell 7
      have x_8 := fun q : Held (FnS w (uc ab n cb aD k cD p r l cc am m cm s) (jc c len took ar kr cr S) g7 t) => q.h.1.2.1.cell 8
      have x_9 := fun q : Held (FnS w (uc ab n cb aD k cD p r l cc am m cm s) (jc c len took ar kr cr S) g7 t) => q.h.1.2.1.cell 9
      have t0 := fun q : Held (FnS w (uc ab n cb aD k cD p r l cc am m cm s) (jc c len took ar kr cr S) g7 t) => q.h.2.1.cell 0
      have t1 := fun q : Held (FnS w (uc ab n cb aD k cD p r l cc am m cm s) (jc c len took ar kr cr S) g7 t) => q.h.2.1.cell 1
      have t2 := fun q : Held (FnS w (uc ab n cb aD k cD p r l cc am m cm s) (jc c len took ar kr cr S) g7 t) => q.h.2.1.cell 2
      replace HW := hide (HW.out.later (Later.refl _).drew)
      replace HM := hide (HM.out.later (Later.refl _).drew)
      replace B7 := hide (B7.out.later (Later.refl _).drew)
      iterate 2 (refine wpJ_mild rfl (fun K hK => ?_); go_simp; refine hK _ ?_; clear hK K)
      clear x_0 x_1 x_2 x_3 x_4 x_5 x_6 x_7 x_8 x_9
      clear t0 t1 t2 HI
      obtain ⟨c3, n3, l3, b3⟩ := HW.out.2.2.2.1
      refine wpJ_store rfl rfl 32 (.tmp 4) (.tmp 56) rfl (w.heap.size + 2) (uc ab n cb aD k cD p r l cc am m cm s) rfl rfl Try.info_unit (uc_one _ _ _ _ _ _ _ _ _ _ _ _ _ _) _ c3 b3 (by simp [l3]) (fun W hW => ⟨((HW.out.later hW).setU _ (uc_nob _ _ _ _ _ _ _ _ _ _ _ _ _ _) rfl).1, (B7.out.later hW).apart _ (by have := hg7.out; omega) _ _, hg7.out⟩) ?_
      intro wl hl wz hz
      have HA := (HW.out.later hl).setU (uc ab n cb aD k cD p r l cc am m cm s) (uc_nob _ _ _ _ _ _ _ _ _ _ _ _ _ _) rfl
      have HM2 := (HM.out.later hl).setNoB HA.2.2.choose_spec.2 HA.2.2.choose_spec.1 (uc ab n cb aD k cD p r l cc am m cm s) 0
      (replace B7 : Hid (Box wz g7 30 (sc t)) := by rw [Hid, hz.out]; exact (B7.out.later hl).apart _ (by have := hg7.out; omega) _ _)
      rw [← hz.out] at HA HM2
      replace HW := hide HA.1
      have B3 := hide HA.2.1
      replace HM := hide HM2
      clear HA HM2 hz hl b3 n3 l3
      obtain ⟨c4, n4, l4, b4⟩ := HW.out.2.2.2.2
      refine wpJ_store rfl rfl 30 (.tmp 5) (.tmp 57) rfl (w.heap.size + 3) (sc t) rfl rfl Try.info_sense (sc_one _) _ c4 b4 (by simp [l4]) (fun W hW => ⟨((HW.out.later hW).setS _).1, (B7.out.later hW).apart _ (by have := hg7.out; omega) _ _, hg7.out⟩) ?_
      intro wl hl wy hy
      have HA := (HW.out.later hl).setS t
      have HM2 := (HM.out.later hl).setNoB HA.2.2.choose_spec.2 HA.2.2.choose_spec.1 (sc t) 0
      have B32 := (B3.out.later hl).apart (w.heap.size + 3) (by omega) (sc t) 0
      rw [← hy.out] at HA HM2 B32
      replace HW := hide HA.1
      have B4 := hide HA.2.1
      replace B3 := hide B32
      replace HM := hide HM2
      clear HA HM2 B32 hy hl b4 n4 l4
      refine wpJ_nil (fun wn hn => ?_)
      replace HW := hide (HW.out.later hn)
      replace B3 := hide (B3.out.later hn)
      replace B4 := hide (B4.out.later hn)
      replace HM := hide (HM.out.later hn)
      clear hn
      go_wp2
      refine bodyPost_ret (results_cell_cell' rfl _ _ _ (w.heap.size + 2) 0 (w.heap.size + 3) 0 rfl rfl _ _ (load_unit B3.out rfl) (shut3 B4.out)) rfl ⟨_, by rw [HT.out], HW.out.1, by rw [HT.out]; exact ⟨_, _, _, _, _, rfl, HM.out⟩⟩
  by_cases hop2 : c.1 = 85
  · have e1 : (c.1 != 21) = true := by simp [hop]
    have e3 : (c.1 != 85) = false := by simp [hop2]
    have e2 : (c.1 == 85) = true := by simp [hop2]
    replace HT0 : Hid (finR cc c len took R S = if (selR R true cc).2 = (0, 0, 0) then ((selR R true cc).1, (0, 0, 0)) else (cc, (selR R true cc).2)) := by rw [Hid, HT0.out, if_neg (by simp [modeOp, hop2]), e2]
    clear hop hop2
    have x_0 := HW.out.2.1.cell 0
    have x_1 := HW.out.2.1.cell 1
    have x_2 := HW.out.2.1.cell 2
    have x_3 := HW.out.2.1.cell 3
    have x_4 := HW.out.2.1.cell 4
    have x_5 := HW.out.2.1.cell 5
    have x_6 := HW.out.2.1.cell 6
    have x_7 := HW.out.2.1.cell 7
    have x_8 := HW.out.2.1.cell 8
    have x_9 := HW.out.2.1.cell 9
    have y_0 := HW.out.2.2.1.cell 0
    have y_1 := HW.out.2.2.1.cell 1
    have y_2 := HW.out.2.2.1.cell 2
    have y_3 := HW.out.2.2.1.cell 3
    have y_4 := HW.out.2.2.1.cell 4
    have y_5 := HW.out.2.2.1.cell 5
    have y_6 := HW.out.2.2.1.cell 6
    have y_7 := HW.out.2.2.1.cell 7
    have y_8 := HW.out.2.2.1.cell 8
    have y_9 := HW.out.2.2.1.cell 9
    have y_10 := HW.out.2.2.1.cell 10
    go_wp2_with (refine wpList_neqS9 (by kernel_rfl) (.tmp 14) (.tmp 15) rfl S (0, 0, 0) rfl rfl false eS ?_)
    refine (rselect_c true cc _ (HB.out) (by rw [← HK.out]; exact hR)).mono ?_
    rintro e w7 ⟨rfl, hl⟩
    replace HW := hide (HW.out.later hl)
    replace HM := hide (HM.out.later hl)
    clear hl HB
    clear x_0 x_1 x_2 x_3 x_4 x_5 x_6 x_7 x_8 x_9
    clear y_0 y_1 y_2 y_3 y_4 y_5 y_6 y_7 y_8 y_9 y_10
    generalize hz : selR R true cc = z at *
    obtain ⟨on, t⟩ := z
    clear hz
    simp only at HT0 ⊢
    go_wp2_with (refine wpList_newAS rfl rfl rfl rfl 7 6 rfl rfl (by simp) (by decide) (.tmp 49) (.tmp 50) (by simp) (by simp) (by simp) rfl rfl rfl _ t rfl rfl ?_)
    intro g7 w8 hB hl hg
    have hg7 : Hid (w.heap.size + 3 < g7) := by
      obtain ⟨_, _, _, b4⟩ := HW.out.2.2.2.2
      rw [Hid, hg.out]; exact b4.lt
    replace HW := hide (HW.out.later hl)
    replace HM := hide (HM.out.later hl)
    have B7 := hide hB
    clear hl hg hB
    have s0 := B7.out.cell 0
    have s1 := B7.out.cell 1
    have s2 := B7.out.cell 2
    by_cases ht : t = (0, 0, 0)
    · have et : (t == (0, 0, 0)) = true := by simp [ht]
      have HT : Hid (finR cc c len took R S = (on, t)) := by rw [Hid, HT0.out, if_pos ht, ht]
      clear HT0 ht
      go_wp2_with (first | refine wpList_eqS9 (by kernel_rfl) (.tmp 51) (.tmp 52) rfl t (0, 0, 0) rfl rfl true et ?_ | refine wpList_storeBo rfl 4 (.tmp 55) (.tmp 54) rfl w.heap.size 5 rfl on rfl Try.info1_bool _ _ HW.out.2.1 (by simp) ?_)
      intro w9 h9
      clear s0 s1 s2
      have HWn : FnW w (uc ab n cb aD k cD p r l on am m cm s) (jc c len took ar kr cr S) (w8.setCells w.heap.size 5 [.bool on]) := HW.out.stU [.bool on] 5 (by simp)
      have HM2 := HM.out.setNoB HW.out.2.1 (uc_nob _ _ _ _ _ _ _ _ _ _ _ _ _ _) [.bool on] 5
      have B72 := B7.out.apart w.heap.size (by have := hg7.out; omega) [.bool on] 5
      rw [← h9.out] at HWn HM2 B72
      replace HW := hide HWn
      replace HM := hide HM2
      replace B7 := hide B72
      clear HWn HM2 B72 h9
      go_wp2_with fail
      have HI : Hid (FnS w (uc ab n cb aD k cD p r l on am m cm s) (jc c len took ar kr cr S) g7 t _) := ⟨HW.out, B7.out, hg7.out⟩
      refine wp_region_held (FnS w (uc ab n cb aD k cD p r l on am m cm s) (jc c len took ar kr cr S) g7 t) (fun a b hl h => h.later hl) HI.out [(0, false), (1, false), (2, true), (3, true)] (by kernel_rfl) (by kernel_rfl) (by kernel_rfl) (by kernel_rfl) ?_
      haveI : Nonempty (Held (FnS w (uc ab n cb aD k cD p r l on am m cm s) (jc c len took ar kr cr S) g7 t)) := ⟨⟨_, HI.out⟩⟩
      have x_0 := fun q : Held (FnS w (uc ab n cb aD k cD p r l on am m cm s) (jc c len took ar kr cr S) g7 t) => q.h.1.2.1.cell 0
      have x_1 := fun q : Held (FnS w (uc ab n cb aD k cD p r l on am m cm s) (jc c len took ar kr cr S) g7 t) => q.h.1.2.1.cell 1
      have x_2 := fun q : Held (FnS w (uc ab n cb aD k cD p r l on am m cm s) (jc c len took ar kr cr S) g7 t) => q.h.1.2.1.cell 2
      have x_3 := fun q : Held (FnS w (uc ab n cb aD k cD p r l on am m cm s) (jc c len took ar kr cr S) g7 t) => q.h.1.2.1.cell 3
      have x_4 := fun q : Held (FnS w (uc ab n cb aD k cD p r l on am m cm s) (jc c len took ar kr cr S) g7 t) => q.h.1.2.1.cell 4
      have x_5 := fun q : Held (FnS w (uc ab n cb aD k cD p r l on am m cm s) (jc c len took ar kr cr S) g7 t) => q.h.1.2.1.cell 5
      have x_6 := fun q : Held (FnS w (uc ab n cb aD k cD p r l on am m cm s) (jc c len took ar kr cr S) g7 t) => q.h.1.2.1.cell 6
      have x_7 := fun q : Held (FnS w (uc ab n cb aD k cD p r l on am m cm s) (jc c len took ar kr cr S) g7 t) => q.h.1.2.1.cell 7
      have x_8 := fun q : Held (FnS w (uc ab n cb aD k cD p r l on am m cm s) (jc c len took ar kr cr S) g7 t) => q.h.1.2.1.cell 8
      have x_9 := fun q : Held (FnS w (uc ab n cb aD k cD p r l on am m cm s) (jc c len took ar kr cr S) g7 t) => q.h.1.2.1.cell 9
      have t0 := fun q : Held (FnS w (uc ab n cb aD k cD p r l on am m cm s) (jc c len took ar kr cr S) g7 t) => q.h.2.1.cell 0
      have t1 := fun q : Held (FnS w (uc ab n cb aD k cD p r l on am m cm s) (jc c len took ar kr cr S) g7 t) => q.h.2.1.cell 1
      have t2 := fun q : Held (FnS w (uc ab n cb aD k cD p r l on am m cm s) (jc c len took ar kr cr S) g7 t) => q.h.2.1.cell 2
      replace HW := hide (HW.out.later (Later.refl _).drew)
      replace HM := hide (HM.out.later (Later.refl _).drew)
      replace B7 := hide (B7.out.later (Later.refl _).drew)
      iterate 2 (refine wpJ_mild rfl (fun K hK => ?_); go_simp; refine hK _ ?_; clear hK K)
      clear x_0 x_1 x_2 x_3 x_4 x_5 x_6 x_7 x_8 x_9
      clear t0 t1 t2 HI
      obtain ⟨c3, n3, l3, b3⟩ := HW.out.2.2.2.1
      refine wpJ_store rfl rfl 32 (.tmp 4) (.tmp 56) rfl (w.heap.size + 2) (uc ab n cb aD k cD p r l on am m cm s) rfl rfl Try.info_unit (uc_one _ _ _ _ _ _ _ _ _ _ _ _ _ _) _ c3 b3 (by simp [l3]) (fun W hW => ⟨((HW.out.later hW).setU _ (uc_nob _ _ _ _ _ _ _ _ _ _ _ _ _ _) rfl).1, (B7.out.later hW).apart _ (by have := hg7.out; omega) _ _, hg7.out⟩) ?_
      intro wl hl wz hz
      have HA := (HW.out.later hl).setU (uc ab n cb aD k cD p r l on am m cm s) (uc_nob _ _ _ _ _ _ _ _ _ _ _ _ _ _) rfl
      have HM2 := (HM.out.later hl).setNoB HA.2.2.choose_spec.2 HA.2.2.choose_spec.1 (uc ab n cb aD k cD p r l on am m cm s) 0
      (replace B7 : Hid (Box wz g7 30 (sc t)) := by rw [Hid, hz.out]; exact (B7.out.later hl).apart _ (by have := hg7.out; omega) _ _)
      rw [← hz.out] at HA HM2
      replace HW := hide HA.1
      have B3 := hide HA.2.1
      replace HM := hide HM2
      clear HA HM2 hz hl b3 n3 l3
      obtain ⟨c4, n4, l4, b4⟩ := HW.out.2.2.2.2
      refine wpJ_store rfl rfl 30 (.tmp 5) (.tmp 57) rfl (w.heap.size + 3) (sc t) rfl rfl Try.info_sense (sc_one _) _ c4 b4 (by simp [l4]) (fun W hW => ⟨((HW.out.later hW).setS _).1, (B7.out.later hW).apart _ (by have := hg7.out; omega) _ _, hg7.out⟩) ?_
      intro wl hl wy hy
      have HA := (HW.out.later hl).setS t
      have HM2 := (HM.out.later hl).setNoB HA.2.2.choose_spec.2 HA.2.2.choose_spec.1 (sc t) 0
      have B32 := (B3.out.later hl).apart (w.heap.size + 3) (by omega) (sc t) 0
      rw [← hy.out] at HA HM2 B32
      replace HW := hide HA.1
      have B4 := hide HA.2.1
      replace B3 := hide B32
      replace HM := hide HM2
      clear HA HM2 B32 hy hl b4 n4 l4
      refine wpJ_nil (fun wn hn => ?_)
      replace HW := hide (HW.out.later hn)
      replace B3 := hide (B3.out.later hn)
      replace B4 := hide (B4.out.later hn)
      replace HM := hide (HM.out.later hn)
      clear hn
      go_wp2
      refine bodyPost_ret (results_cell_cell' rfl _ _ _ (w.heap.size + 2) 0 (w.heap.size + 3) 0 rfl rfl _ _ (load_unit B3.out rfl) (shut3 B4.out)) rfl ⟨_, by rw [HT.out], HW.out.1, by rw [HT.out]; exact ⟨_, _, _, _, _, rfl, HM.out⟩⟩
    · have et : (t == (0, 0, 0)) = false := by simp [ht]
      have HT : Hid (finR cc c len took R S = (cc, t)) := by rw [Hid, HT0.out, if_neg ht]
      clear HT0 ht
      go_wp2_with (refine wpList_eqS9 (by kernel_rfl) (.tmp 51) (.tmp 52) rfl t (0, 0, 0) rfl rfl false et ?_)
      clear s0 s1 s2
      have HI : Hid (FnS w (uc ab n cb aD k cD p r l cc am m cm s) (jc c len took ar kr cr S) g7 t _) := ⟨HW.out, B7.out, hg7.out⟩
      refine wp_region_held (FnS w (uc ab n cb aD k cD p r l cc am m cm s) (jc c len took ar kr cr S) g7 t) (fun a b hl h => h.later hl) HI.out [(0, false), (1, false), (2, true), (3, true)] (by kernel_rfl) (by kernel_rfl) (by kernel_rfl) (by kernel_rfl) ?_
      haveI : Nonempty (Held (FnS w (uc ab n cb aD k cD p r l cc am m cm s) (jc c len took ar kr cr S) g7 t)) := ⟨⟨_, HI.out⟩⟩
      have x_0 := fun q : Held (FnS w (uc ab n cb aD k cD p r l cc am m cm s) (jc c len took ar kr cr S) g7 t) => q.h.1.2.1.cell 0
      have x_1 := fun q : Held (FnS w (uc ab n cb aD k cD p r l cc am m cm s) (jc c len took ar kr cr S) g7 t) => q.h.1.2.1.cell 1
      have x_2 := fun q : Held (FnS w (uc ab n cb aD k cD p r l cc am m cm s) (jc c len took ar kr cr S) g7 t) => q.h.1.2.1.cell 2
      have x_3 := fun q : Held (FnS w (uc ab n cb aD k cD p r l cc am m cm s) (jc c len took ar kr cr S) g7 t) => q.h.1.2.1.cell 3
      have x_4 := fun q : Held (FnS w (uc ab n cb aD k cD p r l cc am m cm s) (jc c len took ar kr cr S) g7 t) => q.h.1.2.1.cell 4
      have x_5 := fun q : Held (FnS w (uc ab n cb aD k cD p r l cc am m cm s) (jc c len took ar kr cr S) g7 t) => q.h.1.2.1.cell 5
      have x_6 := fun q : Held (FnS w (uc ab n cb aD k cD p r l cc am m cm s) (jc c len took ar kr cr S) g7 t) => q.h.1.2.1.cell 6
      have x_7 := fun q : Held (FnS w (uc ab n cb aD k cD p r l cc am m cm s) (jc c len took ar kr cr S) g7 t) => q.h.1.2.1.cell 7
      have x_8 := fun q : Held (FnS w (uc ab n cb aD k cD p r l cc am m cm s) (jc c len took ar kr cr S) g7 t) => q.h.1.2.1.cell 8
      have x_9 := fun q : Held (FnS w (uc ab n cb aD k cD p r l cc am m cm s) (jc c len took ar kr cr S) g7 t) => q.h.1.2.1.cell 9
      have t0 := fun q : Held (FnS w (uc ab n cb aD k cD p r l cc am m cm s) (jc c len took ar kr cr S) g7 t) => q.h.2.1.cell 0
      have t1 := fun q : Held (FnS w (uc ab n cb aD k cD p r l cc am m cm s) (jc c len took ar kr cr S) g7 t) => q.h.2.1.cell 1
      have t2 := fun q : Held (FnS w (uc ab n cb aD k cD p r l cc am m cm s) (jc c len took ar kr cr S) g7 t) => q.h.2.1.cell 2
      replace HW := hide (HW.out.later (Later.refl _).drew)
      replace HM := hide (HM.out.later (Later.refl _).drew)
      replace B7 := hide (B7.out.later (Later.refl _).drew)
      iterate 2 (refine wpJ_mild rfl (fun K hK => ?_); go_simp; refine hK _ ?_; clear hK K)
      clear x_0 x_1 x_2 x_3 x_4 x_5 x_6 x_7 x_8 x_9
      clear t0 t1 t2 HI
      obtain ⟨c3, n3, l3, b3⟩ := HW.out.2.2.2.1
      refine wpJ_store rfl rfl 32 (.tmp 4) (.tmp 56) rfl (w.heap.size + 2) (uc ab n cb aD k cD p r l cc am m cm s) rfl rfl Try.info_unit (uc_one _ _ _ _ _ _ _ _ _ _ _ _ _ _) _ c3 b3 (by simp [l3]) (fun W hW => ⟨((HW.out.later hW).setU _ (uc_nob _ _ _ _ _ _ _ _ _ _ _ _ _ _) rfl).1, (B7.out.later hW).apart _ (by have := hg7.out; omega) _ _, hg7.out⟩) ?_
      intro wl hl wz hz
      have HA := (HW.out.later hl).setU (uc ab n cb aD k cD p r l cc am m cm s) (uc_nob _ _ _ _ _ _ _ _ _ _ _ _ _ _) rfl
      have HM2 := (HM.out.later hl).setNoB HA.2.2.choose_spec.2 HA.2.2.choose_spec.1 (uc ab n cb aD k cD p r l cc am m cm s) 0
      (replace B7 : Hid (Box wz g7 30 (sc t)) := by rw [Hid, hz.out]; exact (B7.out.later hl).apart _ (by have := hg7.out; omega) _ _)
      rw [← hz.out] at HA HM2
      replace HW := hide HA.1
      have B3 := hide HA.2.1
      replace HM := hide HM2
      clear HA HM2 hz hl b3 n3 l3
      obtain ⟨c4, n4, l4, b4⟩ := HW.out.2.2.2.2
      refine wpJ_store rfl rfl 30 (.tmp 5) (.tmp 57) rfl (w.heap.size + 3) (sc t) rfl rfl Try.info_sense (sc_one _) _ c4 b4 (by simp [l4]) (fun W hW => ⟨((HW.out.later hW).setS _).1, (B7.out.later hW).apart _ (by have := hg7.out; omega) _ _, hg7.out⟩) ?_
      intro wl hl wy hy
      have HA := (HW.out.later hl).setS t
      have HM2 := (HM.out.later hl).setNoB HA.2.2.choose_spec.2 HA.2.2.choose_spec.1 (sc t) 0
      have B32 := (B3.out.later hl).apart (w.heap.size + 3) (by omega) (sc t) 0
      rw [← hy.out] at HA HM2 B32
      replace HW := hide HA.1
      have B4 := hide HA.2.1
      replace B3 := hide B32
      replace HM := hide HM2
      clear HA HM2 B32 hy hl b4 n4 l4
      refine wpJ_nil (fun wn hn => ?_)
      replace HW := hide (HW.out.later hn)
      replace B3 := hide (B3.out.later hn)
      replace B4 := hide (B4.out.later hn)
      replace HM := hide (HM.out.later hn)
      clear hn
      go_wp2
      refine bodyPost_ret (results_cell_cell' rfl _ _ _ (w.heap.size + 2) 0 (w.heap.size + 3) 0 rfl rfl _ _ (load_unit B3.out rfl) (shut3 B4.out)) rfl ⟨_, by rw [HT.out], HW.out.1, by rw [HT.out]; exact ⟨_, _, _, _, _, rfl, HM.out⟩⟩
  have e1 : (c.1 != 21) = true := by simp [hop]
  have e3 : (c.1 != 85) = true := by simp [hop2]
  have HT : Hid (finR cc c len took R S = (cc, (0, 0, 0))) := by rw [Hid, HT0.out, if_pos (by simp [modeOp, hop, hop2])]
  clear HT0 hop hop2
  have x_0 := HW.out.2.1.cell 0
  have x_1 := HW.out.2.1.cell 1
  have x_2 := HW.out.2.1.cell 2
  have x_3 := HW.out.2.1.cell 3
  have x_4 := HW.out.2.1.cell 4
  have x_5 := HW.out.2.1.cell 5
  have x_6 := HW.out.2.1.cell 6
  have x_7 := HW.out.2.1.cell 7
  have x_8 := HW.out.2.1.cell 8
  have x_9 := HW.out.2.1.cell 9
  have y_0 := HW.out.2.2.1.cell 0
  have y_1 := HW.out.2.2.1.cell 1
  have y_2 := HW.out.2.2.1.cell 2
  have y_3 := HW.out.2.2.1.cell 3
  have y_4 := HW.out.2.2.1.cell 4
  have y_5 := HW.out.2.2.1.cell 5
  have y_6 := HW.out.2.2.1.cell 6
  have y_7 := HW.out.2.2.1.cell 7
  have y_8 := HW.out.2.2.1.cell 8
  have y_9 := HW.out.2.2.1.cell 9
  have y_10 := HW.out.2.2.1.cell 10
  obtain ⟨c3, n3, l3, b3⟩ := HW.out.2.2.2.1
  have H3 := hide (And.intro n3 (And.intro l3 b3))
  clear n3 l3 b3
  go_wp2_with (first | refine wpList_neqS9 (by kernel_rfl) (.tmp 14) (.tmp 15) rfl S (0, 0, 0) rfl rfl false eS ?_ | refine wpList_storeU rfl 32 (.tmp 4) (.tmp 37) rfl (w.heap.size + 2) 0 rfl (uc ab n cb aD k cD p r l cc am m cm s) rfl Try.info_unit (uc_one _ _ _ _ _ _ _ _ _ _ _ _ _ _) _ _ H3.out.2.2 (by simp [H3.out.2.1]) ?_)
  intro wz hz
  have HA := HW.out.setU (uc ab n cb aD k cD p r l cc am m cm s) (uc_nob _ _ _ _ _ _ _ _ _ _ _ _ _ _) rfl
  have HM2 := HM.out.setNoB HA.2.2.choose_spec.2 HA.2.2.choose_spec.1 (uc ab n cb aD k cD p r l cc am m cm s) 0
  rw [← hz.out] at HA HM2
  replace HW := hide HA.1
  have B3 := hide HA.2.1
  replace HM := hide HM2
  clear HA HM2 hz H3
  clear x_0 x_1 x_2 x_3 x_4 x_5 x_6 x_7 x_8 x_9
  clear y_0 y_1 y_2 y_3 y_4 y_5 y_6 y_7 y_8 y_9 y_10
  obtain ⟨c4, n4, l4, b4⟩ := HW.out.2.2.2.2
  have H4 := hide (And.intro n4 (And.intro l4 b4))
  clear n4 l4 b4
  go_wp2_with (refine wpList_storeU rfl 30 (.tmp 5) (.tmp 38) rfl (w.heap.size + 3) 0 rfl (sc (0, 0, 0)) rfl Try.info_sense (sc_one _) _ _ H4.out.2.2 (by simp [H4.out.2.1]) ?_)
  intro wy hy
  have HA := HW.out.setS (0, 0, 0)
  have HM2 := HM.out.setNoB HA.2.2.choose_spec.2 HA.2.2.choose_spec.1 (sc (0, 0, 0)) 0
  have B32 := B3.out.apart (w.heap.size + 3) (by omega) (sc (0, 0, 0)) 0
  rw [← hy.out] at HA HM2 B32
  replace HW := hide HA.1
  have B4 := hide HA.2.1
  replace B3 := hide B32
  replace HM := hide HM2
  clear HA HM2 B32 hy H4
  go_wp2
  refine bodyPost_ret (results_cell_cell' rfl _ _ _ (w.heap.size + 2) 0 (w.heap.size + 3) 0 rfl rfl _ _ (load_unit B3.out rfl) (shut3 B4.out)) rfl ⟨_, by rw [HT.out], HW.out.1, by rw [HT.out]; exact ⟨_, _, _, _, _, rfl, HM.out⟩⟩
end Go.Proofs.Ytbcikndebaeahaa
