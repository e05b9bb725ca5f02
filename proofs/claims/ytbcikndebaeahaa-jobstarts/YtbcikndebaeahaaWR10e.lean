import Derived.Test.YtbcikndebaeahaaMAO
import Derived.Test.YtbcikndebaeahaaWR10d
namespace Go.Proofs.Ytbcikndebaeahaa
open Go.ChangeShapes Go.WideShapes Go.ChangeAt Go.RowKit
set_option linter.unusedVariables false
set_option maxRecDepth 4000
set_option linter.unusedSimpArgs false
/-! The document's job: Take. -/
/-- blocks that came, one behind the other -/
def blksT (n : Nat) (p r cc : Bool) (c : Cmd) : Nat → List UInt8 → List Drt → Sns → Nat → List UInt8 → List UInt8 × List Drt × Sns
  | 0, F, D, S, _, _ => (F, D, S)
  | q + 1, F, D, S, i, L => blksT n p r cc c q (blkF n F D p r cc c S i (L.take 64)) (blkD n F D p r cc c S i (L.take 64)) (blkS n F D p r cc c S i (L.take 64)) (i + 1) (L.drop 64)
/-- how many bytes are taken -/
def tkN (len took : Int) (k : Nat) : Nat := if len - took < (k : Int) then (len - took).toNat else k
def TkW (w : World) (U J : List Value) (W : World) : Prop :=
  Later w W ∧ Box W w.heap.size 32 U ∧ Box W (w.heap.size + 1) 38 J ∧
  (∃ cs, NoB cs ∧ cs.length = 10 ∧ Box W (w.heap.size + 2) 32 cs) ∧ (∃ cs, NoB cs ∧ cs.length = 11 ∧ Box W (w.heap.size + 3) 38 cs)
theorem TkW.later {w : World} {U J : List Value} {W W' : World} (h : TkW w U J W) (hl : Later W W') : TkW w U J W' := by
  obtain ⟨h1, h2, h3, ⟨cs, h5, h6, h7⟩, ds, h8, h9, h10⟩ := h
  exact ⟨h1.trans hl, h2.later hl, h3.later hl, ⟨cs, h5, h6, h7.later hl⟩, ds, h8, h9, h10.later hl⟩
theorem TkW.stU {w : World} {U J : List Value} {W : World} (h : TkW w U J W) (vs : List Value) (o : Nat) (ho : o + vs.length ≤ U.length) : TkW w (U.take o ++ vs ++ U.drop (o + vs.length)) J (W.setCells w.heap.size o vs) := by
  obtain ⟨h1, h2, h3, ⟨cs, h5, h6, h7⟩, ds, h8, h9, h10⟩ := h
  exact ⟨h1.setCells (by omega) _ _, h2.setCells vs o ho, h3.apart _ (by omega) _ _, ⟨cs, h5, h6, h7.apart _ (by omega) _ _⟩, ds, h8, h9, h10.apart _ (by omega) _ _⟩
theorem TkW.stJ {w : World} {U J : List Value} {W : World} (h : TkW w U J W) (vs : List Value) (o : Nat) (ho : o + vs.length ≤ J.length) : TkW w U (J.take o ++ vs ++ J.drop (o + vs.length)) (W.setCells (w.heap.size + 1) o vs) := by
  obtain ⟨h1, h2, h3, ⟨cs, h5, h6, h7⟩, ds, h8, h9, h10⟩ := h
  exact ⟨h1.setCells (by omega) _ _, h2.apart _ (by omega) _ _, h3.setCells vs o ho, ⟨cs, h5, h6, h7.apart _ (by omega) _ _⟩, ds, h8, h9, h10.apart _ (by omega) _ _⟩
theorem TkW.setU {w : World} {U J : List Value} {W : World} (h : TkW w U J W) (us : List Value) (hn : NoB us) (hl : us.length = 10) :
    TkW w U J (W.setCells (w.heap.size + 2) 0 us) ∧ Box (W.setCells (w.heap.size + 2) 0 us) (w.heap.size + 2) 32 us ∧ ∃ cs, NoB cs ∧ Box W (w.heap.size + 2) 32 cs := by
  obtain ⟨h1, h2, h3, ⟨cs, h5, h6, h7⟩, ds, h8, h9, h10⟩ := h
  have hb := h7.all us (by omega)
  exact ⟨⟨h1.setCells (by omega) _ _, h2.apart _ (by omega) _ _, h3.apart _ (by omega) _ _, ⟨us, hn, hl, hb⟩, ds, h8, h9, h10.apart _ (by omega) _ _⟩, hb, cs, h5, h7⟩
theorem TkW.setJ {w : World} {U J : List Value} {W : World} (h : TkW w U J W) (us : List Value) (hn : NoB us) (hl : us.length = 11) :
    TkW w U J (W.setCells (w.heap.size + 3) 0 us) ∧ Box (W.setCells (w.heap.size + 3) 0 us) (w.heap.size + 3) 38 us ∧ ∃ cs, NoB cs ∧ Box W (w.heap.size + 3) 38 cs := by
  obtain ⟨h1, h2, h3, ⟨cs, h5, h6, h7⟩, ds, h8, h9, h10⟩ := h
  have hb := h10.all us (by omega)
  exact ⟨⟨h1.setCells (by omega) _ _, h2.apart _ (by omega) _ _, h3.apart _ (by omega) _ _, ⟨cs, h5, h6, h7.apart _ (by omega) _ _⟩, us, hn, hl, hb⟩, hb, ds, h8, h10⟩
theorem tk_start (w : World) (ab : Option Addr) (n cb : Nat) (aD : Option Addr) (k cD : Nat) (p r l cc : Bool) (am : Option Addr) (m cm : Nat) (s : Sns) (c : Cmd) (len took : Int) (ar : Option Addr) (kr cr : Nat) (S : Sns) :
    TkW w (uc ab n cb aD k cD p r l cc am m cm s) (jc c len took ar kr cr S) ((((w.alloc (.cells (uc ab n cb aD k cD p r l cc am m cm s).toArray 32)).alloc (.cells (jc c len took ar kr cr S).toArray 38)).alloc
      (.cells #[.slice none 0 0, .slice none 0 0, .bool false, .bool false, .bool false, .bool false, .slice none 0 0, .int .i64 0, .int .i64 0, .int .i64 0] 32)).alloc (.cells #[.int .i64 0, .int .u64 0, .int .i64 0, .int .i64 0, .int .i64 0, .int .i64 0, .int .i64 0, .slice none 0 0, .int .i64 0, .int .i64 0, .int .i64 0] 38)) :=
  ⟨((((Later.refl w).alloc _).alloc _).alloc _).alloc _, (((Box.new w _ _).alloc _).alloc _).alloc _, ((Box.new' _ _ _ _ rfl _ (by simp)).alloc _).alloc _,
    ⟨uc none 0 0 none 0 0 false false false false none 0 0 (0, 0, 0), uc_nob _ _ _ _ _ _ _ _ _ _ _ _ _ _, rfl, (Box.new' _ _ _ _ rfl _ (by simp)).alloc _⟩,
    ⟨jc (0, 0, 0, 0, 0) 0 0 none 0 0 (0, 0, 0), jc_nob _ _ _ _ _ _ _, rfl, Box.new' _ _ _ _ rfl _ (by simp)⟩⟩
/-- what a block's call comes to, as cells -/
def PdT (n : Nat) (F : List UInt8) (D : List Drt) (p r l cc : Bool) (am : Option Addr) (m cm : Nat) (s : Sns) (c : Cmd) (len took : Int) (kr : Nat) (R : List UInt8) (S : Sns) (x y : List Value) (W : World) : Prop :=
  (∃ ab cb aD k cD, x = uc ab n cb aD k cD p r l cc am m cm s ∧ Med W (.agg #[.slice ab n cb, .slice aD k cD]) n F D) ∧ ∃ ar cr, y = jc c len took ar kr cr S ∧ Bs W (.slice ar kr cr) R
theorem PdT.one {n : Nat} {F : List UInt8} {D : List Drt} {p r l cc : Bool} {am : Option Addr} {m cm : Nat} {s : Sns} {c : Cmd} {len took : Int} {kr : Nat} {R : List UInt8} {S : Sns} {x y : List Value} {W : World} (h : PdT n F D p r l cc am m cm s c len took kr R S x y W) :
    (x.length = 10 ∧ NoB x ∧ ∀ u ∈ x, u.oneCell' = true) ∧ (y.length = 11 ∧ NoB y ∧ ∀ u ∈ y, u.oneCell' = true) := by
  obtain ⟨⟨_, _, _, _, _, rfl, _⟩, _, _, rfl, _⟩ := h
  exact ⟨⟨rfl, uc_nob _ _ _ _ _ _ _ _ _ _ _ _ _ _, uc_one _ _ _ _ _ _ _ _ _ _ _ _ _ _⟩, rfl, jc_nob _ _ _ _ _ _ _, jc_one _ _ _ _ _ _ _⟩
theorem PdT.later {n : Nat} {F : List UInt8} {D : List Drt} {p r l cc : Bool} {am : Option Addr} {m cm : Nat} {s : Sns} {c : Cmd} {len took : Int} {kr : Nat} {R : List UInt8} {S : Sns} {x y : List Value} {W W' : World} (h : PdT n F D p r l cc am m cm s c len took kr R S x y W) (hl : Later W W') : PdT n F D p r l cc am m cm s c len took kr R S x y W' := by
  obtain ⟨⟨a1, a2, a3, a4, a5, e, hm⟩, b1, b2, e2, hb⟩ := h
  exact ⟨⟨a1, a2, a3, a4, a5, e, hm.later hl⟩, b1, b2, e2, hb.later hl⟩
theorem PdT.set {n : Nat} {F : List UInt8} {D : List Drt} {p r l cc : Bool} {am : Option Addr} {m cm : Nat} {s : Sns} {c : Cmd} {len took : Int} {kr : Nat} {R : List UInt8} {S : Sns} {x y : List Value} {W : World} {g : Nat} {t : TypeId} {cs : List Value} (h : PdT n F D p r l cc am m cm s c len took kr R S x y W) (hB : Box W g t cs) (hn : NoB cs) (vs : List Value) : PdT n F D p r l cc am m cm s c len took kr R S x y (W.setCells g 0 vs) := by
  obtain ⟨⟨a1, a2, a3, a4, a5, e, hm⟩, b1, b2, e2, hb⟩ := h
  exact ⟨⟨a1, a2, a3, a4, a5, e, hm.setNoB hB hn vs 0⟩, b1, b2, e2, hb.setNoB hB hn vs 0⟩
def TkI (w : World) (g1 g2 : Nat) (x y : List Value) (W : World) : Prop := Later w W ∧ Box W g1 32 x ∧ Box W g2 38 y ∧ w.heap.size + 3 < g1 ∧ w.heap.size + 3 < g2
theorem TkI.later {w : World} {g1 g2 : Nat} {x y : List Value} {W W' : World} (h : TkI w g1 g2 x y W) (hl : Later W W') : TkI w g1 g2 x y W' := ⟨h.1.trans hl, h.2.1.later hl, h.2.2.1.later hl, h.2.2.2⟩
theorem TkI.set {w : World} {g1 g2 : Nat} {x y : List Value} {W : World} (h : TkI w g1 g2 x y W) (g : Nat) (h1 : w.heap.size ≤ g) (h2 : g ≤ w.heap.size + 3) (vs : List Value) (o : Nat) : TkI w g1 g2 x y (W.setCells g o vs) :=
  ⟨h.1.setCells h1 _ _, h.2.1.apart _ (by have := h.2.2.2; omega) _ _, h.2.2.1.apart _ (by have := h.2.2.2; omega) _ _, h.2.2.2⟩
/-- what Take comes to -/
def tkR (n : Nat) (F : List UInt8) (D : List Drt) (p r cc : Bool) (c : Cmd) (len took : Int) (R : List UInt8) (S : Sns) (B : List UInt8) : (List UInt8 × List Drt × Sns) × Int × List UInt8 :=
  if rightJ c len took R.length = false then ((F, D, S), took, R)
  else if modeOp c.1 then ((F, D, S), took + tkN len took B.length, R ++ B.take (tkN len took B.length))
  else let L := R ++ B.take (tkN len took B.length); (blksT n p r cc c (L.length / 64) F D S (took / 64).toNat L, took + tkN len took B.length, L.drop (64 * (L.length / 64)))
/-- a slice goes into a variable's cell -/
theorem wpList_storeV {P : Program} {w : World} {ops : Array Oper} {rest : List Oper} {op : Oper} {a : Act} {Q : Exit → Act → World → Prop} (hgd : op.guard = none) (ty : TypeId) (x y : Operand) (ho : op.op = .store ty x y) (g o : Nat) (hx : a.eval x = .pointer (some ⟨g, o, none⟩)) (A : Option Addr) (n c : Nat) (hy : a.eval y = .slice A n c)
    (hs : (P.info? ty).map (·.size) = some 1) (t : TypeId) (cs : List Value) (hB : Box w g t cs) (hl : o < cs.length)
    (h : ∀ w', Hid (w' = w.setCells g o [.slice A n c]) → wpList P ops Q rest (a.put op.dst undef) w') : wpList P ops Q (op :: rest) a w := by
  refine wpList_plain hgd fun K hK => ?_
  have hc : w.cell? ⟨g, o, none⟩ = some (cs[o]'hl) := by rw [hB.cell o, List.getElem?_eq_getElem hl]
  have hf := hB.frozen o
  have hrun : (Instr.storeAt ty (.pointer (some ⟨g, o, none⟩)) (.slice A n c)).run P w = .ok () (w.setCells g o [.slice A n c]) := by
    simp [Instr.storeAt, Instr.sureAddr, storeVar, run_size hs, Value.cells, World.setCells]
    go_simp
  unfold Go.Oper.wp
  simp [execOp, ho, hx, hy, hrun, Result.andThen]
  exact hK _ _ (h _ rfl)
theorem Try.info1_bytes : (Try.prog.info? 36).map (·.size) = some 1 := by kernel_rfl
theorem rightJ_true {c : Cmd} {len took : Int} {m : Nat} (h : rightJ c len took m = true) : 0 ≤ took ∧ took ≤ len := by
  unfold rightJ at h
  cases hs : startL c with
  | none => rw [hs] at h; cases h
  | some z =>
    rw [hs] at h
    simp only at h
    by_cases hh : z = len ∧ 0 ≤ took ∧ took ≤ len
    · exact hh.2
    · rw [if_neg hh] at h; cases h
set_option maxRecDepth 20000 in
set_option maxHeartbeats 8000000 in
theorem rtake_c {u v bv' : Value} {n : Nat} {F : List UInt8} {D : List Drt} {p r l cc : Bool} {am : Option Addr} {m cm : Nat} {s : Sns} {c : Cmd} {len took : Int} {R : List UInt8} {S : Sns} {B : List UInt8} (w : World) (hU : Un w u n F D p r l cc am m cm s) (hJ : Jb w v c len took R S) (hb : Bs w bv' B) (hc : OkC7 c) (h1 : In64 len) (h2 : In64 took) (hR : R.length ≤ 1000000) (hBl : B.length ≤ 1000000) :
    Calls Try.prog 11 #[u, v, bv'] w fun e w' => ∃ u' v', e = .returned (.tuple #[u', v']) ∧ Later w w' ∧ Un w' u' n (tkR n F D p r cc c len took R S B).1.1 (tkR n F D p r cc c len took R S B).1.2.1 p r l cc am m cm s ∧ Jb w' v' c len (tkR n F D p r cc c len took R S B).2.1 (tkR n F D p r cc c len took R S B).2.2 (tkR n F D p r cc c len took R S B).1.2.2 := by
  have HJ := hide hJ
  obtain ⟨ab, cb, aD, k, cD, rfl, hm⟩ := hU
  obtain ⟨ar, cr, rfl, hr⟩ := hJ
  have HM := hide hm
  have HB := hide hr
  have HBb := hide hb
  have HC := hide hc
  have H1 := hide h1
  have H2 := hide h2
  clear hm hr hc hb
  obtain ⟨kr, hkr⟩ : ∃ kr, kr = R.length := ⟨_, rfl⟩
  rw [← hkr] at HB HJ hR ⊢
  have HK := hide hkr
  clear hkr
  have HW := hide (tk_start w ab n cb aD k cD p r l cc am m cm s c len took ar kr cr S)
  have x_0 := HW.out.2.1.cell 0
  have x_1 := HW.out.2.1.cell 1
  have x_2 := HW.out.2.1.cell 2
  have x_3 := HW.out.2.1.cell 3
  have x_4 := HW.out.2.1.cell 4
  have x_5 := HW.out.2.1.cell 5
  have x_6 := HW.out.2.1.cell 6
  have x_7 := HW.out.2.1.cell 7
  have x_8 := HW.out.2.1.cell 8
  have x_9 := HW.out.2.1.cell 9
  have y_0 := HW.out.2.2.1.cell 0
  have y_1 := HW.out.2.2.1.cell 1
  have y_2 := HW.out.2.2.1.cell 2
  have y_3 := HW.out.2.2.1.cell 3
  have y_4 := HW.out.2.2.1.cell 4
  have y_5 := HW.out.2.2.1.cell 5
  have y_6 := HW.out.2.2.1.cell 6
  have y_7 := HW.out.2.2.1.cell 7
  have y_8 := HW.out.2.2.1.cell 8
  have y_9 := HW.out.2.2.1.cell 9
  have y_10 := HW.out.2.2.1.cell 10
  go_enter Try.func11, Try.ntmps11
  go_wp2_with fail
  generalize ((((w.alloc (.cells (uc ab n cb aD k cD p r l cc am m cm s).toArray 32)).alloc (.cells (jc c len took ar kr cr S).toArray 38)).alloc
      (.cells #[.slice none 0 0, .slice none 0 0, .bool false, .bool false, .bool false, .bool false, .slice none 0 0, .int .i64 0, .int .i64 0, .int .i64 0] 32)).alloc (.cells #[.int .i64 0, .int .u64 0, .int .i64 0, .int .i64 0, .int .i64 0, .int .i64 0, .int .i64 0, .slice none 0 0, .int .i64 0, .int .i64 0, .int .i64 0] 38)) = w5 at *
  refine (rright10_c _ (HJ.out.later HW.out.1) HC.out h1 h2).mono ?_
  rintro e w6 ⟨rfl, hl⟩
  replace HM := hide ((HM.out.later HW.out.1).later hl)
  replace HB := hide ((HB.out.later HW.out.1).later hl)
  replace HBb := hide ((HBb.out.later HW.out.1).later hl)
  replace HW := hide (HW.out.later hl)
  clear hl HJ
  clear x_0 x_1 x_2 x_3 x_4 x_5 x_6 x_7 x_8 x_9
  clear y_0 y_1 y_2 y_3 y_4 y_5 y_6 y_7 y_8 y_9 y_10
  have HT : Hid (tkR n F D p r cc c len took R S B = if rightJ c len took R.length = false then ((F, D, S), took, R) else if modeOp c.1 then ((F, D, S), took + tkN len took B.length, R ++ B.take (tkN len took B.length)) else (blksT n p r cc c ((R ++ B.take (tkN len took B.length)).length / 64) F D S (took / 64).toNat (R ++ B.take (tkN len took B.length)), took + tkN len took B.length, (R ++ B.take (tkN len took B.length)).drop (64 * ((R ++ B.take (tkN len took B.length)).length / 64)))) := rfl
  cases hrt : rightJ c len took R.length with
  | false =>
    replace HT : Hid (tkR n F D p r cc c len took R S B = ((F, D, S), took, R)) := by rw [Hid, HT.out, if_pos hrt]
    clear hrt
    go_wp2_with fail
    refine wp_region_held (TkW w (uc ab n cb aD k cD p r l cc am m cm s) (jc c len took ar kr cr S)) (fun a b hl h => h.later hl) HW.out [(0, false), (1, false), (2, true), (3, true)] (by kernel_rfl) (by kernel_rfl) (by kernel_rfl) (by kernel_rfl) ?_
    haveI : Nonempty (Held (TkW w (uc ab n cb aD k cD p r l cc am m cm s) (jc c len took ar kr cr S))) := ⟨⟨_, HW.out⟩⟩
    have x_0 := fun q : Held ((TkW w (uc ab n cb aD k cD p r l cc am m cm s) (jc c len took ar kr cr S))) => q.h.2.1.cell 0
    have x_1 := fun q : Held ((TkW w (uc ab n cb aD k cD p r l cc am m cm s) (jc c len took ar kr cr S))) => q.h.2.1.cell 1
    have x_2 := fun q : Held ((TkW w (uc ab n cb aD k cD p r l cc am m cm s) (jc c len took ar kr cr S))) => q.h.2.1.cell 2
    have x_3 := fun q : Held ((TkW w (uc ab n cb aD k cD p r l cc am m cm s) (jc c len took ar kr cr S))) => q.h.2.1.cell 3
    have x_4 := fun q : Held ((TkW w (uc ab n cb aD k cD p r l cc am m cm s) (jc c len took ar kr cr S))) => q.h.2.1.cell 4
    have x_5 := fun q : Held ((TkW w (uc ab n cb aD k cD p r l cc am m cm s) (jc c len took ar kr cr S))) => q.h.2.1.cell 5
    have x_6 := fun q : Held ((TkW w (uc ab n cb aD k cD p r l cc am m cm s) (jc c len took ar kr cr S))) => q.h.2.1.cell 6
    have x_7 := fun q : Held ((TkW w (uc ab n cb aD k cD p r l cc am m cm s) (jc c len took ar kr cr S))) => q.h.2.1.cell 7
    have x_8 := fun q : Held ((TkW w (uc ab n cb aD k cD p r l cc am m cm s) (jc c len took ar kr cr S))) => q.h.2.1.cell 8
    have x_9 := fun q : Held ((TkW w (uc ab n cb aD k cD p r l cc am m cm s) (jc c len took ar kr cr S))) => q.h.2.1.cell 9
    have y_0 := fun q : Held ((TkW w (uc ab n cb aD k cD p r l cc am m cm s) (jc c len took ar kr cr S))) => q.h.2.2.1.cell 0
    have y_1 := fun q : Held ((TkW w (uc ab n cb aD k cD p r l cc am m cm s) (jc c len took ar kr cr S))) => q.h.2.2.1.cell 1
    have y_2 := fun q : Held ((TkW w (uc ab n cb aD k cD p r l cc am m cm s) (jc c len took ar kr cr S))) => q.h.2.2.1.cell 2
    have y_3 := fun q : Held ((TkW w (uc ab n cb aD k cD p r l cc am m cm s) (jc c len took ar kr cr S))) => q.h.2.2.1.cell 3
    have y_4 := fun q : Held ((TkW w (uc ab n cb aD k cD p r l cc am m cm s) (jc c len took ar kr cr S))) => q.h.2.2.1.cell 4
    have y_5 := fun q : Held ((TkW w (uc ab n cb aD k cD p r l cc am m cm s) (jc c len took ar kr cr S))) => q.h.2.2.1.cell 5
    have y_6 := fun q : Held ((TkW w (uc ab n cb aD k cD p r l cc am m cm s) (jc c len took ar kr cr S))) => q.h.2.2.1.cell 6
    have y_7 := fun q : Held ((TkW w (uc ab n cb aD k cD p r l cc am m cm s) (jc c len took ar kr cr S))) => q.h.2.2.1.cell 7
    have y_8 := fun q : Held ((TkW w (uc ab n cb aD k cD p r l cc am m cm s) (jc c len took ar kr cr S))) => q.h.2.2.1.cell 8
    have y_9 := fun q : Held ((TkW w (uc ab n cb aD k cD p r l cc am m cm s) (jc c len took ar kr cr S))) => q.h.2.2.1.cell 9
    have y_10 := fun q : Held ((TkW w (uc ab n cb aD k cD p r l cc am m cm s) (jc c len took ar kr cr S))) => q.h.2.2.1.cell 10
    replace HW := hide (HW.out.later (Later.refl _).drew)
    replace HM := hide (HM.out.later (Later.refl _).drew)
    replace HB := hide (HB.out.later (Later.refl _).drew)
    iterate 2 (refine wpJ_mild rfl (fun K hK => ?_); go_simp; refine hK _ ?_; clear hK K)
    obtain ⟨c3, n3, l3, b3⟩ := HW.out.2.2.2.1
    refine wpJ_store rfl rfl 32 (.tmp 6) (.tmp 17) rfl (w.heap.size + 2) (uc ab n cb aD k cD p r l cc am m cm s) rfl rfl Try.info_unit (uc_one _ _ _ _ _ _ _ _ _ _ _ _ _ _) _ c3 b3 (by simp [l3]) (fun W hW => ((HW.out.later hW).setU _ (uc_nob _ _ _ _ _ _ _ _ _ _ _ _ _ _) rfl).1) ?_
    intro wl hl wz hz
    have HA := (HW.out.later hl).setU (uc ab n cb aD k cD p r l cc am m cm s) (uc_nob _ _ _ _ _ _ _ _ _ _ _ _ _ _) rfl
    have HM2 := (HM.out.later hl).setNoB HA.2.2.choose_spec.2 HA.2.2.choose_spec.1 (uc ab n cb aD k cD p r l cc am m cm s) 0
    have HB2 := (HB.out.later hl).setNoB HA.2.2.choose_spec.2 HA.2.2.choose_spec.1 (uc ab n cb aD k cD p r l cc am m cm s) 0
    rw [← hz.out] at HA HM2 HB2
    replace HW := hide HA.1
    have B3 := hide HA.2.1
    replace HM := hide HM2
    replace HB := hide HB2
    clear HA HM2 HB2 hz hl b3 n3 l3
    obtain ⟨c4, n4, l4, b4⟩ := HW.out.2.2.2.2
    refine wpJ_store rfl rfl 38 (.tmp 7) (.tmp 18) rfl (w.heap.size + 3) (jc c len took ar kr cr S) rfl rfl Try.info_job (jc_one _ _ _ _ _ _ _) _ c4 b4 (by simp [l4]) (fun W hW => ((HW.out.later hW).setJ _ (jc_nob _ _ _ _ _ _ _) rfl).1) ?_
    intro wl hl wy hy
    have HA := (HW.out.later hl).setJ (jc c len took ar kr cr S) (jc_nob _ _ _ _ _ _ _) rfl
    have HM2 := (HM.out.later hl).setNoB HA.2.2.choose_spec.2 HA.2.2.choose_spec.1 (jc c len took ar kr cr S) 0
    have HB2 := (HB.out.later hl).setNoB HA.2.2.choose_spec.2 HA.2.2.choose_spec.1 (jc c len took ar kr cr S) 0
    have B32 := (B3.out.later hl).apart (w.heap.size + 3) (by omega) (jc c len took ar kr cr S) 0
    rw [← hy.out] at HA HM2 HB2 B32
    replace HW := hide HA.1
    have B4 := hide HA.2.1
    replace B3 := hide B32
    replace HM := hide HM2
    replace HB := hide HB2
    clear HA HM2 HB2 B32 hy hl b4 n4 l4
    refine wpJ_nil (fun wn hn => ?_)
    replace HW := hide (HW.out.later hn)
    replace B3 := hide (B3.out.later hn)
    replace B4 := hide (B4.out.later hn)
    replace HM := hide (HM.out.later hn)
    replace HB := hide (HB.out.later hn)
    clear hn
    clear x_0 x_1 x_2 x_3 x_4 x_5 x_6 x_7 x_8 x_9
    clear y_0 y_1 y_2 y_3 y_4 y_5 y_6 y_7 y_8 y_9 y_10
    go_wp2
    refine bodyPost_ret (results_cell_cell' rfl _ _ _ (w.heap.size + 2) 0 (w.heap.size + 3) 0 rfl rfl _ _ (load_unit B3.out rfl) (load_job B4.out rfl)) rfl ⟨_, _, rfl, HW.out.1, ?_, ?_⟩
    · rw [HT.out]
      exact ⟨_, _, _, _, _, rfl, HM.out⟩
    · rw [HT.out]
      exact ⟨_, _, by rw [HK.out], by rw [← HK.out]; exact HB.out⟩
  | true =>
  obtain ⟨g0, g1⟩ := rightJ_true hrt
  replace HT : Hid (tkR n F D p r cc c len took R S B = if modeOp c.1 then ((F, D, S), took + tkN len took B.length, R ++ B.take (tkN len took B.length)) else (blksT n p r cc c ((R ++ B.take (tkN len took B.length)).length / 64) F D S (took / 64).toNat (R ++ B.take (tkN len took B.length)), took + tkN len took B.length, (R ++ B.take (tkN len took B.length)).drop (64 * ((R ++ B.take (tkN len took B.length)).length / 64)))) := by rw [Hid, HT.out, if_neg (by rw [hrt]; simp)]
  clear hrt
  unfold In64 at h1 h2
  obtain ⟨_, bb, cb', rfl, hcb, _⟩ := HBb.out
  obtain ⟨kb, hkb⟩ : ∃ kb, kb = B.length := ⟨_, rfl⟩
  rw [← hkb] at HBb HT hBl hcb ⊢
  have HKb := hide hkb
  clear hkb
  obtain ⟨N, hN⟩ : ∃ N, N = tkN len took kb := ⟨_, rfl⟩
  have hN1 : N ≤ kb ∧ (N : Int) ≤ len - took := by
    rw [hN, tkN]
    split
    · omega
    · omega
  have HN : Hid (N = if len - took < (kb : Int) then (len - took).toNat else kb) := by rw [Hid, hN, tkN]
  rw [← hN] at HT
  clear hN
  have hws : IntKind.i64.wrap (len - took) = len - took := by rw [IntKind.wrap_i64]; omega
  have HH : Hid (TkW w (uc ab n cb aD k cD p r l cc am m cm s) (jc c len took ar kr cr S) w6 ∧ Med w6 (.agg #[.slice ab n cb, .slice aD k cD]) n F D ∧ Bs w6 (.slice ar kr cr) R ∧ Bs w6 (.slice bb kb cb') B) := ⟨HW.out, HM.out, HB.out, HBb.out⟩
  have y5 := HW.out.2.2.1.cell 5
  have y6 := HW.out.2.2.1.cell 6
  go_upto_if 27 with fail
  clear HW HM HB HBb y5 y6
  go_cut [8] from 14 (fun z W => z = .int .i64 (N : Int) ∧ Hid (TkW w (uc ab n cb aD k cD p r l cc am m cm s) (jc c len took ar kr cr S) W ∧ Med W (.agg #[.slice ab n cb, .slice aD k cD]) n F D ∧ Bs W (.slice ar kr cr) R ∧ Bs W (.slice bb kb cb') B))
  case first =>
    have y5 := HH.out.1.2.2.1.cell 5
    have y6 := HH.out.1.2.2.1.cell 6
    by_cases hlt : len - took < (kb : Int)
    · have e1 : decide (len - took < (kb : Int)) = true := by simp [hlt]
      go_wp2
      go_meet
      exact ⟨by rw [HN.out, if_pos hlt]; congr 1; omega, HH⟩
    · have e1 : decide (len - took < (kb : Int)) = false := by simp [hlt]
      go_wp2
      go_meet
      exact ⟨by rw [HN.out, if_neg (by omega)], HH⟩
  case rest =>
  clear HH
  obtain ⟨rfl, HH⟩ := hcut
  have HW := hide HH.out.1
  have HM := hide HH.out.2.1
  have HB := hide HH.out.2.2.1
  have HBb := hide HH.out.2.2.2
  clear HH HN
  obtain ⟨I0, hI⟩ : ∃ I0 : Nat, took.tdiv 64 = (I0 : Int) ∧ (took / 64).toNat = I0 ∧ I0 ≤ 1000000000000000000 := ⟨(took / 64).toNat, by rw [Int.tdiv_eq_ediv_of_nonneg g0]; omega, rfl, by omega⟩
  obtain ⟨hI1, hI2, hI3⟩ := hI
  rw [hI2] at HT
  clear hI2
  have y6 := HW.out.2.2.1.cell 6
  have hwt : IntKind.i64.wrap (took + (N : Int)) = took + (N : Int) := by rw [IntKind.wrap_i64]; omega
  go_wp2_with (refine wpList_storeI rfl 3 (.tmp 40) (.tmp 39) rfl (w.heap.size + 1) 6 rfl .i64 (took + (N : Int)) rfl Try.info1_int _ _ HW.out.2.2.1 (by simp) ?_)
  intro w7 hB7 h7
  clear hB7 y6
  have HWn : Hid (TkW w (uc ab n cb aD k cD p r l cc am m cm s) (jc c len (took + (N : Int)) ar kr cr S) w7) := by
    rw [h7.out]; exact HW.out.stJ [.int .i64 (took + (N : Int))] 6 (by simp)
  have HM2 := HM.out.setNoB HW.out.2.2.1 (jc_nob _ _ _ _ _ _ _) [.int .i64 (took + (N : Int))] 6
  have HB2 := HB.out.setNoB HW.out.2.2.1 (jc_nob _ _ _ _ _ _ _) [.int .i64 (took + (N : Int))] 6
  have HBb2 := HBb.out.setNoB HW.out.2.2.1 (jc_nob _ _ _ _ _ _ _) [.int .i64 (took + (N : Int))] 6
  rw [← h7.out] at HM2 HB2 HBb2
  replace HW := HWn
  replace HM := hide HM2
  replace HB := hide HB2
  replace HBb := hide HBb2
  clear HWn HM2 HB2 HBb2 h7
  go_wp2_with fail
  have hc := fun q => ((Later.refl w7).drew.trans (later_rg w7.drew q))
  have y7 := fun q => (HW.out.2.2.1.later (hc q)).cell 7
  have hN2 : N ≤ cb' := by omega
  have VN := hide (HBb.out.cut7 N hN1.1)
  refine wp_region_sched [(0, false), (1, false), (2, false), (3, false), (4, false), (5, true), (6, false)] (by kernel_rfl) (by kernel_rfl) (by kernel_rfl) (by kernel_rfl) ?_
  iterate 5 (refine wpS_mild rfl (fun K hK => ?_); go_simp; refine hK _ ?_; clear hK K)
  refine wpS_callL rfl (by kernel_rfl) 20 (Plain.of (by kernel_rfl)) [.tmp 42, .tmp 45] _ rfl [.slice ar kr cr, .slice bb N cb'] rfl (fun v W => Bs W v (R ++ B.take N)) (fun wx hx => rjoin_c wx (HB.out.later ((Later.refl w7).drew.trans hx)) (VN.out.later ((Later.refl w7).drew.trans hx)) (by rw [← HK.out]; exact hR) (by rw [List.length_take]; omega)) ?_
  intro vL w8 hl8 hb8
  iterate 1 (refine wpS_mild rfl (fun K hK => ?_); go_simp; refine hK _ ?_; clear hK K)
  refine wpS_nil (fun wx hwx => ?_)
  have hlx := ((Later.refl w7).drew.trans hl8).trans hwx
  replace HW := hide (HW.out.later hlx)
  replace HM := hide (HM.out.later hlx)
  replace HB := hide (HB.out.later hlx)
  have VL := hide (hb8.later hwx)
  clear hb8 hl8 hwx hlx hc y7 VN HBb hN2
  generalize hLL : R ++ B.take N = L at *
  have hLs : L.length ≤ 2000000 := by rw [← hLL, List.length_append, List.length_take, ← HK.out]; omega
  clear hLL
  obtain ⟨_, aL, cL, rfl, hcL, _⟩ := VL.out
  obtain ⟨nL, hnL⟩ : ∃ nL, nL = L.length := ⟨_, rfl⟩
  rw [← hnL] at VL HT hLs hcL ⊢
  have HnL := hide hnL
  clear hnL
  have y0 := HW.out.2.2.1.cell 0
  by_cases hop : c.1 = 21 ∨ c.1 = 85
  · replace HT : Hid (tkR n F D p r cc c len took R S B = ((F, D, S), took + (N : Int), L)) := by rw [Hid, HT.out, if_pos (by simp only [modeOp]; rcases hop with h | h <;> simp [h])]
    rcases hop with hop | hop
    · have e1 : (c.1 == 21) = true := by simp [hop]
      clear hop
      go_wp2_with (refine wpList_storeV rfl 36 (.tmp 58) (.tmp 57) rfl (w.heap.size + 1) 7 rfl aL nL cL rfl Try.info1_bytes _ _ HW.out.2.2.1 (by simp) ?_)
      intro w9 h9
      clear y0
      have HWn : Hid (TkW w (uc ab n cb aD k cD p r l cc am m cm s) (jc c len (took + (N : Int)) aL nL cL S) w9) := by
        rw [h9.out]; exact HW.out.stJ [.slice aL nL cL] 7 (by simp)
      have HM2 := HM.out.setNoB HW.out.2.2.1 (jc_nob _ _ _ _ _ _ _) [.slice aL nL cL] 7
      have HB2 := VL.out.setNoB HW.out.2.2.1 (jc_nob _ _ _ _ _ _ _) [.slice aL nL cL] 7
      rw [← h9.out] at HM2 HB2
      replace HW := HWn
      replace HM := hide HM2
      replace HB := hide HB2
      clear HWn HM2 HB2 h9 VL
      go_wp2_with fail
      refine wp_region_held (TkW w (uc ab n cb aD k cD p r l cc am m cm s) (jc c len (took + (N : Int)) aL nL cL S)) (fun a b hl h => h.later hl) HW.out [(0, false), (1, false), (2, true), (3, true)] (by kernel_rfl) (by kernel_rfl) (by kernel_rfl) (by kernel_rfl) ?_
      haveI : Nonempty (Held (TkW w (uc ab n cb aD k cD p r l cc am m cm s) (jc c len (took + (N : Int)) aL nL cL S))) := ⟨⟨_, HW.out⟩⟩
      have x_0 := fun q : Held ((TkW w (uc ab n cb aD k cD p r l cc am m cm s) (jc c len (took + (N : Int)) aL nL cL S))) => q.h.2.1.cell 0
      have x_1 := fun q : Held ((TkW w (uc ab n cb aD k cD p r l cc am m cm s) (jc c len (took + (N : Int)) aL nL cL S))) => q.h.2.1.cell 1
      have x_2 := fun q : Held ((TkW w (uc ab n cb aD k cD p r l cc am m cm s) (jc c len (took + (N : Int)) aL nL cL S))) => q.h.2.1.cell 2
      have x_3 := fun q : Held ((TkW w (uc ab n cb aD k cD p r l cc am m cm s) (jc c len (took + (N : Int)) aL nL cL S))) => q.h.2.1.cell 3
      have x_4 := fun q : Held ((TkW w (uc ab n cb aD k cD p r l cc am m cm s) (jc c len (took + (N : Int)) aL nL cL S))) => q.h.2.1.cell 4
      have x_5 := fun q : Held ((TkW w (uc ab n cb aD k cD p r l cc am m cm s) (jc c len (took + (N : Int)) aL nL cL S))) => q.h.2.1.cell 5
      have x_6 := fun q : Held ((TkW w (uc ab n cb aD k cD p r l cc am m cm s) (jc c len (took + (N : Int)) aL nL cL S))) => q.h.2.1.cell 6
      have x_7 := fun q : Held ((TkW w (uc ab n cb aD k cD p r l cc am m cm s) (jc c len (took + (N : Int)) aL nL cL S))) => q.h.2.1.cell 7
      have x_8 := fun q : Held ((TkW w (uc ab n cb aD k cD p r l cc am m cm s) (jc c len (took + (N : Int)) aL nL cL S))) => q.h.2.1.cell 8
      have x_9 := fun q : Held ((TkW w (uc ab n cb aD k cD p r l cc am m cm s) (jc c len (took + (N : Int)) aL nL cL S))) => q.h.2.1.cell 9
      have y_0 := fun q : Held ((TkW w (uc ab n cb aD k cD p r l cc am m cm s) (jc c len (took + (N : Int)) aL nL cL S))) => q.h.2.2.1.cell 0
      have y_1 := fun q : Held ((TkW w (uc ab n cb aD k cD p r l cc am m cm s) (jc c len (took + (N : Int)) aL nL cL S))) => q.h.2.2.1.cell 1
      have y_2 := fun q : Held ((TkW w (uc ab n cb aD k cD p r l cc am m cm s) (jc c len (took + (N : Int)) aL nL cL S))) => q.h.2.2.1.cell 2
      have y_3 := fun q : Held ((TkW w (uc ab n cb aD k cD p r l cc am m cm s) (jc c len (took + (N : Int)) aL nL cL S))) => q.h.2.2.1.cell 3
      have y_4 := fun q : Held ((TkW w (uc ab n cb aD k cD p r l cc am m cm s) (jc c len (took + (N : Int)) aL nL cL S))) => q.h.2.2.1.cell 4
      have y_5 := fun q : Held ((TkW w (uc ab n cb aD k cD p r l cc am m cm s) (jc c len (took + (N : Int)) aL nL cL S))) => q.h.2.2.1.cell 5
      have y_6 := fun q : Held ((TkW w (uc ab n cb aD k cD p r l cc am m cm s) (jc c len (took + (N : Int)) aL nL cL S))) => q.h.2.2.1.cell 6
      have y_7 := fun q : Held ((TkW w (uc ab n cb aD k cD p r l cc am m cm s) (jc c len (took + (N : Int)) aL nL cL S))) => q.h.2.2.1.cell 7
      have y_8 := fun q : Held ((TkW w (uc ab n cb aD k cD p r l cc am m cm s) (jc c len (took + (N : Int)) aL nL cL S))) => q.h.2.2.1.cell 8
      have y_9 := fun q : Held ((TkW w (uc ab n cb aD k cD p r l cc am m cm s) (jc c len (took + (N : Int)) aL nL cL S))) => q.h.2.2.1.cell 9
      have y_10 := fun q : Held ((TkW w (uc ab n cb aD k cD p r l cc am m cm s) (jc c len (took + (N : Int)) aL nL cL S))) => q.h.2.2.1.cell 10
      replace HW := hide (HW.out.later (Later.refl _).drew)
      replace HM := hide (HM.out.later (Later.refl _).drew)
      replace HB := hide (HB.out.later (Later.refl _).drew)
      iterate 2 (refine wpJ_mild rfl (fun K hK => ?_); go_simp; refine hK _ ?_; clear hK K)
      obtain ⟨c3, n3, l3, b3⟩ := HW.out.2.2.2.1
      refine wpJ_store rfl rfl 32 (.tmp 6) (.tmp 59) rfl (w.heap.size + 2) (uc ab n cb aD k cD p r l cc am m cm s) rfl rfl Try.info_unit (uc_one _ _ _ _ _ _ _ _ _ _ _ _ _ _) _ c3 b3 (by simp [l3]) (fun W hW => ((HW.out.later hW).setU _ (uc_nob _ _ _ _ _ _ _ _ _ _ _ _ _ _) rfl).1) ?_
      intro wl hl wz hz
      have HA := (HW.out.later hl).setU (uc ab n cb aD k cD p r l cc am m cm s) (uc_nob _ _ _ _ _ _ _ _ _ _ _ _ _ _) rfl
      have HM2 := (HM.out.later hl).setNoB HA.2.2.choose_spec.2 HA.2.2.choose_spec.1 (uc ab n cb aD k cD p r l cc am m cm s) 0
      have HB2 := (HB.out.later hl).setNoB HA.2.2.choose_spec.2 HA.2.2.choose_spec.1 (uc ab n cb aD k cD p r l cc am m cm s) 0
      rw [← hz.out] at HA HM2 HB2
      replace HW := hide HA.1
      have B3 := hide HA.2.1
      replace HM := hide HM2
      replace HB := hide HB2
      clear HA HM2 HB2 hz hl b3 n3 l3
      obtain ⟨c4, n4, l4, b4⟩ := HW.out.2.2.2.2
      refine wpJ_store rfl rfl 38 (.tmp 7) (.tmp 60) rfl (w.heap.size + 3) (jc c len (took + (N : Int)) aL nL cL S) rfl rfl Try.info_job (jc_one _ _ _ _ _ _ _) _ c4 b4 (by simp [l4]) (fun W hW => ((HW.out.later hW).setJ _ (jc_nob _ _ _ _ _ _ _) rfl).1) ?_
      intro wl hl wy hy
      have HA := (HW.out.later hl).setJ (jc c len (took + (N : Int)) aL nL cL S) (jc_nob _ _ _ _ _ _ _) rfl
      have HM2 := (HM.out.later hl).setNoB HA.2.2.choose_spec.2 HA.2.2.choose_spec.1 (jc c len (took + (N : Int)) aL nL cL S) 0
      have HB2 := (HB.out.later hl).setNoB HA.2.2.choose_spec.2 HA.2.2.choose_spec.1 (jc c len (took + (N : Int)) aL nL cL S) 0
      have B32 := (B3.out.later hl).apart (w.heap.size + 3) (by omega) (jc c len (took + (N : Int)) aL nL cL S) 0
      rw [← hy.out] at HA HM2 HB2 B32
      replace HW := hide HA.1
      have B4 := hide HA.2.1
      replace B3 := hide B32
      replace HM := hide HM2
      replace HB := hide HB2
      clear HA HM2 HB2 B32 hy hl b4 n4 l4
      refine wpJ_nil (fun wn hn => ?_)
      replace HW := hide (HW.out.later hn)
      replace B3 := hide (B3.out.later hn)
      replace B4 := hide (B4.out.later hn)
      replace HM := hide (HM.out.later hn)
      replace HB := hide (HB.out.later hn)
      clear hn
      clear x_0 x_1 x_2 x_3 x_4 x_5 x_6 x_7 x_8 x_9
      clear y_0 y_1 y_2 y_3 y_4 y_5 y_6 y_7 y_8 y_9 y_10
      go_wp2
      refine bodyPost_ret (results_cell_cell' rfl _ _ _ (w.heap.size + 2) 0 (w.heap.size + 3) 0 rfl rfl _ _ (load_unit B3.out rfl) (load_job B4.out rfl)) rfl ⟨_, _, rfl, HW.out.1, ?_, ?_⟩
      · rw [HT.out]
        exact ⟨_, _, _, _, _, rfl, HM.out⟩
      · rw [HT.out]
        exact ⟨_, _, by rw [HnL.out], by rw [← HnL.out]; exact HB.out⟩
    · have e1 : (c.1 == 21) = false := by simp [hop]
      have e2 : (c.1 == 85) = true := by simp [hop]
      clear hop
      go_wp2_with (refine wpList_storeV rfl 36 (.tmp 58) (.tmp 57) rfl (w.heap.size + 1) 7 rfl aL nL cL rfl Try.info1_bytes _ _ HW.out.2.2.1 (by simp) ?_)
      intro w9 h9
      clear y0
      have HWn : Hid (TkW w (uc ab n cb aD k cD p r l cc am m cm s) (jc c len (took + (N : Int)) aL nL cL S) w9) := by
        rw [h9.out]; exact HW.out.stJ [.slice aL nL cL] 7 (by simp)
      have HM2 := HM.out.setNoB HW.out.2.2.1 (jc_nob _ _ _ _ _ _ _) [.slice aL nL cL] 7
      have HB2 := VL.out.setNoB HW.out.2.2.1 (jc_nob _ _ _ _ _ _ _) [.slice aL nL cL] 7
      rw [← h9.out] at HM2 HB2
      replace HW := HWn
      replace HM := hide HM2
      replace HB := hide HB2
      clear HWn HM2 HB2 h9 VL
      go_wp2_with fail
      refine wp_region_held (TkW w (uc ab n cb aD k cD p r l cc am m cm s) (jc c len (took + (N : Int)) aL nL cL S)) (fun a b hl h => h.later hl) HW.out [(0, false), (1, false), (2, true), (3, true)] (by kernel_rfl) (by kernel_rfl) (by kernel_rfl) (by kernel_rfl) ?_
      haveI : Nonempty (Held (TkW w (uc ab n cb aD k cD p r l cc am m cm s) (jc c len (took + (N : Int)) aL nL cL S))) := ⟨⟨_, HW.out⟩⟩
      have x_0 := fun q : Held ((TkW w (uc ab n cb aD k cD p r l cc am m cm s) (jc c len (took + (N : Int)) aL nL cL S))) => q.h.2.1.cell 0
      have x_1 := fun q : Held ((TkW w (uc ab n cb aD k cD p r l cc am m cm s) (jc c len (took + (N : Int)) aL nL cL S))) => q.h.2.1.cell 1
      have x_2 := fun q : Held ((TkW w (uc ab n cb aD k cD p r l cc am m cm s) (jc c len (took + (N : Int)) aL nL cL S))) => q.h.2.1.cell 2
      have x_3 := fun q : Held ((TkW w (uc ab n cb aD k cD p r l cc am m cm s) (jc c len (took + (N : Int)) aL nL cL S))) => q.h.2.1.cell 3
      have x_4 := fun q : Held ((TkW w (uc ab n cb aD k cD p r l cc am m cm s) (jc c len (took + (N : Int)) aL nL cL S))) => q.h.2.1.cell 4
      have x_5 := fun q : Held ((TkW w (uc ab n cb aD k cD p r l cc am m cm s) (jc c len (took + (N : Int)) aL nL cL S))) => q.h.2.1.cell 5
      have x_6 := fun q : Held ((TkW w (uc ab n cb aD k cD p r l cc am m cm s) (jc c len (took + (N : Int)) aL nL cL S))) => q.h.2.1.cell 6
      have x_7 := fun q : Held ((TkW w (uc ab n cb aD k cD p r l cc am m cm s) (jc c len (took + (N : Int)) aL nL cL S))) => q.h.2.1.cell 7
      have x_8 := fun q : Held ((TkW w (uc ab n cb aD k cD p r l cc am m cm s) (jc c len (took + (N : Int)) aL nL cL S))) => q.h.2.1.cell 8
      have x_9 := fun q : Held ((TkW w (uc ab n cb aD k cD p r l cc am m cm s) (jc c len (took + (N : Int)) aL nL cL S))) => q.h.2.1.cell 9
      have y_0 := fun q : Held ((TkW w (uc ab n cb aD k cD p r l cc am m cm s) (jc c len (took + (N : Int)) aL nL cL S))) => q.h.2.2.1.cell 0
      have y_1 := fun q : Held ((TkW w (uc ab n cb aD k cD p r l cc am m cm s) (jc c len (took + (N : Int)) aL nL cL S))) => q.h.2.2.1.cell 1
      have y_2 := fun q : Held ((TkW w (uc ab n cb aD k cD p r l cc am m cm s) (jc c len (took + (N : Int)) aL nL cL S))) => q.h.2.2.1.cell 2
      have y_3 := fun q : Held ((TkW w (uc ab n cb aD k cD p r l cc am m cm s) (jc c len (took + (N : Int)) aL nL cL S))) => q.h.2.2.1.cell 3
      have y_4 := fun q : Held ((TkW w (uc ab n cb aD k cD p r l cc am m cm s) (jc c len (took + (N : Int)) aL nL cL S))) => q.h.2.2.1.cell 4
      have y_5 := fun q : Held ((TkW w (uc ab n cb aD k cD p r l cc am m cm s) (jc c len (took + (N : Int)) aL nL cL S))) => q.h.2.2.1.cell 5
      have y_6 := fun q : Held ((TkW w (uc ab n cb aD k cD p r l cc am m cm s) (jc c len (took + (N : Int)) aL nL cL S))) => q.h.2.2.1.cell 6
      have y_7 := fun q : Held ((TkW w (uc ab n cb aD k cD p r l cc am m cm s) (jc c len (took + (N : Int)) aL nL cL S))) => q.h.2.2.1.cell 7
      have y_8 := fun q : Held ((TkW w (uc ab n cb aD k cD p r l cc am m cm s) (jc c len (took + (N : Int)) aL nL cL S))) => q.h.2.2.1.cell 8
      have y_9 := fun q : Held ((TkW w (uc ab n cb aD k cD p r l cc am m cm s) (jc c len (took + (N : Int)) aL nL cL S))) => q.h.2.2.1.cell 9
      have y_10 := fun q : Held ((TkW w (uc ab n cb aD k cD p r l cc am m cm s) (jc c len (took + (N : Int)) aL nL cL S))) => q.h.2.2.1.cell 10
      replace HW := hide (HW.out.later (Later.refl _).drew)
      replace HM := hide (HM.out.later (Later.refl _).drew)
      replace HB := hide (HB.out.later (Later.refl _).drew)
      iterate 2 (refine wpJ_mild rfl (fun K hK => ?_); go_simp; refine hK _ ?_; clear hK K)
      obtain ⟨c3, n3, l3, b3⟩ := HW.out.2.2.2.1
      refine wpJ_store rfl rfl 32 (.tmp 6) (.tmp 59) rfl (w.heap.size + 2) (uc ab n cb aD k cD p r l cc am m cm s) rfl rfl Try.info_unit (uc_one _ _ _ _ _ _ _ _ _ _ _ _ _ _) _ c3 b3 (by simp [l3]) (fun W hW => ((HW.out.later hW).setU _ (uc_nob _ _ _ _ _ _ _ _ _ _ _ _ _ _) rfl).1) ?_
      intro wl hl wz hz
      have HA := (HW.out.later hl).setU (uc ab n cb aD k cD p r l cc am m cm s) (uc_nob _ _ _ _ _ _ _ _ _ _ _ _ _ _) rfl
      have HM2 := (HM.out.later hl).setNoB HA.2.2.choose_spec.2 HA.2.2.choose_spec.1 (uc ab n cb aD k cD p r l cc am m cm s) 0
      have HB2 := (HB.out.later hl).setNoB HA.2.2.choose_spec.2 HA.2.2.choose_spec.1 (uc ab n cb aD k cD p r l cc am m cm s) 0
      rw [← hz.out] at HA HM2 HB2
      replace HW := hide HA.1
      have B3 := hide HA.2.1
      replace HM := hide HM2
      replace HB := hide HB2
      clear HA HM2 HB2 hz hl b3 n3 l3
      obtain ⟨c4, n4, l4, b4⟩ := HW.out.2.2.2.2
      refine wpJ_store rfl rfl 38 (.tmp 7) (.tmp 60) rfl (w.heap.size + 3) (jc c len (took + (N : Int)) aL nL cL S) rfl rfl Try.info_job (jc_one _ _ _ _ _ _ _) _ c4 b4 (by simp [l4]) (fun W hW => ((HW.out.later hW).setJ _ (jc_nob _ _ _ _ _ _ _) rfl).1) ?_
      intro wl hl wy hy
      have HA := (HW.out.later hl).setJ (jc c len (took + (N : Int)) aL nL cL S) (jc_nob _ _ _ _ _ _ _) rfl
      have HM2 := (HM.out.later hl).setNoB HA.2.2.choose_spec.2 HA.2.2.choose_spec.1 (jc c len (took + (N : Int)) aL nL cL S) 0
      have HB2 := (HB.out.later hl).setNoB HA.2.2.choose_spec.2 HA.2.2.choose_spec.1 (jc c len (took + (N : Int)) aL nL cL S) 0
      have B32 := (B3.out.later hl).apart (w.heap.size + 3) (by omega) (jc c len (took + (N : Int)) aL nL cL S) 0
      rw [← hy.out] at HA HM2 HB2 B32
      replace HW := hide HA.1
      have B4 := hide HA.2.1
      replace B3 := hide B32
      replace HM := hide HM2
      replace HB := hide HB2
      clear HA HM2 HB2 B32 hy hl b4 n4 l4
      refine wpJ_nil (fun wn hn => ?_)
      replace HW := hide (HW.out.later hn)
      replace B3 := hide (B3.out.later hn)
      replace B4 := hide (B4.out.later hn)
      replace HM := hide (HM.out.later hn)
      replace HB := hide (HB.out.later hn)
      clear hn
      clear x_0 x_1 x_2 x_3 x_4 x_5 x_6 x_7 x_8 x_9
      clear y_0 y_1 y_2 y_3 y_4 y_5 y_6 y_7 y_8 y_9 y_10
      go_wp2
      refine bodyPost_ret (results_cell_cell' rfl _ _ _ (w.heap.size + 2) 0 (w.heap.size + 3) 0 rfl rfl _ _ (load_unit B3.out rfl) (load_job B4.out rfl)) rfl ⟨_, _, rfl, HW.out.1, ?_, ?_⟩
      · rw [HT.out]
        exact ⟨_, _, _, _, _, rfl, HM.out⟩
      · rw [HT.out]
        exact ⟨_, _, by rw [HnL.out], by rw [← HnL.out]; exact HB.out⟩
  have e1 : (c.1 == 21) = false := by simp; omega
  have e2 : (c.1 == 85) = false := by simp; omega
  replace HT : Hid (tkR n F D p r cc c len took R S B = (blksT n p r cc c (nL / 64) F D S I0 L, took + (N : Int), L.drop (64 * (nL / 64)))) := by rw [Hid, HT.out, if_neg (by simp only [modeOp]; rw [e1, e2]; simp)]
  clear hop
  go_wp2_with fail
  clear y0
  have HAll := hide (And.intro HW.out (And.intro HM.out (And.intro HB.out VL.out)))
  clear HW HM HB VL
  go_loopw [9, 11] (fun ii aa W => ∃ (q : Nat) (ab' : Option Addr) (cb' : Nat) (aD' : Option Addr) (k' cD' : Nat) (F' : List UInt8) (D' : List Drt) (S' : Sns) (ar' : Option Addr) (cr' : Nat), ii = .int .i64 ((I0 + q : Nat) : Int) ∧ aa = .int .i64 ((64 * q : Nat) : Int) ∧ 64 * q ≤ nL ∧ Hid (TkW w (uc ab' n cb' aD' k' cD' p r l cc am m cm s) (jc c len (took + (N : Int)) ar' kr cr' S') W ∧ Med W (.agg #[.slice ab' n cb', .slice aD' k' cD']) n F' D' ∧ Bs W (.slice ar' kr cr') R ∧ Bs W (.slice aL nL cL) L) ∧ Hid (blksT n p r cc c (nL / 64) F D S I0 L = blksT n p r cc c (nL / 64 - q) F' D' S' (I0 + q) (L.drop (64 * q)))) (fun _ aa _ => nL - (intOf aa).toNat)
  case atStart => exact ⟨0, ab, cb, aD, k, cD, F, D, S, ar, cr, by simp, rfl, by omega, HAll, by simp [Hid]⟩
  case round =>
  clear HAll
  obtain ⟨q, ab', cb', aD', k', cD', F', D', S', ar', cr', rfl, rfl, hq, HAll, HQ⟩ := hrel
  have HW := hide HAll.out.1
  have HM := hide HAll.out.2.1
  have HB := hide HAll.out.2.2.1
  have VL := hide HAll.out.2.2.2
  clear HAll
  by_cases hlt : 64 * q + 64 ≤ nL
  case neg =>
    have hqe : nL / 64 = q := by omega
    replace HT : Hid (tkR n F D p r cc c len took R S B = ((F', D', S'), took + (N : Int), L.drop (64 * q))) := by
      rw [Hid, HT.out, HQ.out, hqe, Nat.sub_self]; rfl
    clear HQ hqe
    go_wp2_with (refine wpList_slice_lo Try.underlying36 Try.info1_u8 rfl (.tmp 82) (.tmp 83) rfl _ nL (bv L) rfl (by have := VL.out.rw; rw [← HnL.out] at this; exact this) _ (64 * q) rfl rfl (by omega) ?_)
    intro v9 h9
    have V9 : Hid (Bs wr v9 (L.drop (64 * q))) := by
      have := h9.out
      rw [HnL.out, bv_tail] at this
      exact this.bs.1
    clear h9
    go_wp2_with fail
    refine (rjoin_c _ (Bs.nil _) V9.out (by simp) (by rw [List.length_drop, ← HnL.out]; omega)).mono ?_
    rintro e w9 ⟨vj, rfl, hl, hvj⟩
    rw [List.nil_append] at hvj
    replace HW := hide (HW.out.later hl)
    replace HM := hide (HM.out.later hl)
    have VJ := hide hvj
    clear hl hvj V9 VL HB
    generalize L.drop (64 * q) = LR at *
    obtain ⟨_, aR, cR, rfl, _, _⟩ := VJ.out
    obtain ⟨nR, hnR⟩ : ∃ nR, nR = LR.length := ⟨_, rfl⟩
    rw [← hnR] at VJ ⊢
    have HnR := hide hnR
    clear hnR
    go_wp2_with (refine wpList_storeV rfl 36 (.tmp 86) (.tmp 85) rfl (w.heap.size + 1) 7 rfl aR nR cR rfl Try.info1_bytes _ _ HW.out.2.2.1 (by simp) ?_)
    intro w10 h10
    have HWn : Hid (TkW w (uc ab' n cb' aD' k' cD' p r l cc am m cm s) (jc c len (took + (N : Int)) aR nR cR S') w10) := by
      rw [h10.out]; exact HW.out.stJ [.slice aR nR cR] 7 (by simp)
    have HM2 := HM.out.setNoB HW.out.2.2.1 (jc_nob _ _ _ _ _ _ _) [.slice aR nR cR] 7
    have HB2 := VJ.out.setNoB HW.out.2.2.1 (jc_nob _ _ _ _ _ _ _) [.slice aR nR cR] 7
    rw [← h10.out] at HM2 HB2
    replace HW := HWn
    replace HM := hide HM2
    have HB := hide HB2
    clear HWn HM2 HB2 h10 VJ
    go_wp2_with fail
    refine wp_region_held (TkW w (uc ab' n cb' aD' k' cD' p r l cc am m cm s) (jc c len (took + (N : Int)) aR nR cR S')) (fun a b hl h => h.later hl) HW.out [(0, false), (1, false), (2, true), (3, true)] (by kernel_rfl) (by kernel_rfl) (by kernel_rfl) (by kernel_rfl) ?_
    haveI : Nonempty (Held (TkW w (uc ab' n cb' aD' k' cD' p r l cc am m cm s) (jc c len (took + (N : Int)) aR nR cR S'))) := ⟨⟨_, HW.out⟩⟩
    have x_0 := fun q : Held ((TkW w (uc ab' n cb' aD' k' cD' p r l cc am m cm s) (jc c len (took + (N : Int)) aR nR cR S'))) => q.h.2.1.cell 0
    have x_1 := fun q : Held ((TkW w (uc ab' n cb' aD' k' cD' p r l cc am m cm s) (jc c len (took + (N : Int)) aR nR cR S'))) => q.h.2.1.cell 1
    have x_2 := fun q : Held ((TkW w (uc ab' n cb' aD' k' cD' p r l cc am m cm s) (jc c len (took + (N : Int)) aR nR cR S'))) => q.h.2.1.cell 2
    have x_3 := fun q : Held ((TkW w (uc ab' n cb' aD' k' cD' p r l cc am m cm s) (jc c len (took + (N : Int)) aR nR cR S'))) => q.h.2.1.cell 3
    have x_4 := fun q : Held ((TkW w (uc ab' n cb' aD' k' cD' p r l cc am m cm s) (jc c len (took + (N : Int)) aR nR cR S'))) => q.h.2.1.cell 4
    have x_5 := fun q : Held ((TkW w (uc ab' n cb' aD' k' cD' p r l cc am m cm s) (jc c len (took + (N : Int)) aR nR cR S'))) => q.h.2.1.cell 5
    have x_6 := fun q : Held ((TkW w (uc ab' n cb' aD' k' cD' p r l cc am m cm s) (jc c len (took + (N : Int)) aR nR cR S'))) => q.h.2.1.cell 6
    have x_7 := fun q : Held ((TkW w (uc ab' n cb' aD' k' cD' p r l cc am m cm s) (jc c len (took + (N : Int)) aR nR cR S'))) => q.h.2.1.cell 7
    have x_8 := fun q : Held ((TkW w (uc ab' n cb' aD' k' cD' p r l cc am m cm s) (jc c len (took + (N : Int)) aR nR cR S'))) => q.h.2.1.cell 8
    have x_9 := fun q : Held ((TkW w (uc ab' n cb' aD' k' cD' p r l cc am m cm s) (jc c len (took + (N : Int)) aR nR cR S'))) => q.h.2.1.cell 9
    have y_0 := fun q : Held ((TkW w (uc ab' n cb' aD' k' cD' p r l cc am m cm s) (jc c len (took + (N : Int)) aR nR cR S'))) => q.h.2.2.1.cell 0
    have y_1 := fun q : Held ((TkW w (uc ab' n cb' aD' k' cD' p r l cc am m cm s) (jc c len (took + (N : Int)) aR nR cR S'))) => q.h.2.2.1.cell 1
    have y_2 := fun q : Held ((TkW w (uc ab' n cb' aD' k' cD' p r l cc am m cm s) (jc c len (took + (N : Int)) aR nR cR S'))) => q.h.2.2.1.cell 2
    have y_3 := fun q : Held ((TkW w (uc ab' n cb' aD' k' cD' p r l cc am m cm s) (jc c len (took + (N : Int)) aR nR cR S'))) => q.h.2.2.1.cell 3
    have y_4 := fun q : Held ((TkW w (uc ab' n cb' aD' k' cD' p r l cc am m cm s) (jc c len (took + (N : Int)) aR nR cR S'))) => q.h.2.2.1.cell 4
    have y_5 := fun q : Held ((TkW w (uc ab' n cb' aD' k' cD' p r l cc am m cm s) (jc c len (took + (N : Int)) aR nR cR S'))) => q.h.2.2.1.cell 5
    have y_6 := fun q : Held ((TkW w (uc ab' n cb' aD' k' cD' p r l cc am m cm s) (jc c len (took + (N : Int)) aR nR cR S'))) => q.h.2.2.1.cell 6
    have y_7 := fun q : Held ((TkW w (uc ab' n cb' aD' k' cD' p r l cc am m cm s) (jc c len (took + (N : Int)) aR nR cR S'))) => q.h.2.2.1.cell 7
    have y_8 := fun q : Held ((TkW w (uc ab' n cb' aD' k' cD' p r l cc am m cm s) (jc c len (took + (N : Int)) aR nR cR S'))) => q.h.2.2.1.cell 8
    have y_9 := fun q : Held ((TkW w (uc ab' n cb' aD' k' cD' p r l cc am m cm s) (jc c len (took + (N : Int)) aR nR cR S'))) => q.h.2.2.1.cell 9
    have y_10 := fun q : Held ((TkW w (uc ab' n cb' aD' k' cD' p r l cc am m cm s) (jc c len (took + (N : Int)) aR nR cR S'))) => q.h.2.2.1.cell 10
    replace HW := hide (HW.out.later (Later.refl _).drew)
    replace HM := hide (HM.out.later (Later.refl _).drew)
    replace HB := hide (HB.out.later (Later.refl _).drew)
    iterate 2 (refine wpJ_mild rfl (fun K hK => ?_); go_simp; refine hK _ ?_; clear hK K)
    obtain ⟨c3, n3, l3, b3⟩ := HW.out.2.2.2.1
    refine wpJ_store rfl rfl 32 (.tmp 6) (.tmp 87) rfl (w.heap.size + 2) (uc ab' n cb' aD' k' cD' p r l cc am m cm s) rfl rfl Try.info_unit (uc_one _ _ _ _ _ _ _ _ _ _ _ _ _ _) _ c3 b3 (by simp [l3]) (fun W hW => ((HW.out.later hW).setU _ (uc_nob _ _ _ _ _ _ _ _ _ _ _ _ _ _) rfl).1) ?_
    intro wl hl wz hz
    have HA := (HW.out.later hl).setU (uc ab' n cb' aD' k' cD' p r l cc am m cm s) (uc_nob _ _ _ _ _ _ _ _ _ _ _ _ _ _) rfl
    have HM2 := (HM.out.later hl).setNoB HA.2.2.choose_spec.2 HA.2.2.choose_spec.1 (uc ab' n cb' aD' k' cD' p r l cc am m cm s) 0
    have HB2 := (HB.out.later hl).setNoB HA.2.2.choose_spec.2 HA.2.2.choose_spec.1 (uc ab' n cb' aD' k' cD' p r l cc am m cm s) 0
    rw [← hz.out] at HA HM2 HB2
    replace HW := hide HA.1
    have B3 := hide HA.2.1
    replace HM := hide HM2
    replace HB := hide HB2
    clear HA HM2 HB2 hz hl b3 n3 l3
    obtain ⟨c4, n4, l4, b4⟩ := HW.out.2.2.2.2
    refine wpJ_store rfl rfl 38 (.tmp 7) (.tmp 88) rfl (w.heap.size + 3) (jc c len (took + (N : Int)) aR nR cR S') rfl rfl Try.info_job (jc_one _ _ _ _ _ _ _) _ c4 b4 (by simp [l4]) (fun W hW => ((HW.out.later hW).setJ _ (jc_nob _ _ _ _ _ _ _) rfl).1) ?_
    intro wl hl wy hy
    have HA := (HW.out.later hl).setJ (jc c len (took + (N : Int)) aR nR cR S') (jc_nob _ _ _ _ _ _ _) rfl
    have HM2 := (HM.out.later hl).setNoB HA.2.2.choose_spec.2 HA.2.2.choose_spec.1 (jc c len (took + (N : Int)) aR nR cR S') 0
    have HB2 := (HB.out.later hl).setNoB HA.2.2.choose_spec.2 HA.2.2.choose_spec.1 (jc c len (took + (N : Int)) aR nR cR S') 0
    have B32 := (B3.out.later hl).apart (w.heap.size + 3) (by omega) (jc c len (took + (N : Int)) aR nR cR S') 0
    rw [← hy.out] at HA HM2 HB2 B32
    replace HW := hide HA.1
    have B4 := hide HA.2.1
    replace B3 := hide B32
    replace HM := hide HM2
    replace HB := hide HB2
    clear HA HM2 HB2 B32 hy hl b4 n4 l4
    refine wpJ_nil (fun wn hn => ?_)
    replace HW := hide (HW.out.later hn)
    replace B3 := hide (B3.out.later hn)
    replace B4 := hide (B4.out.later hn)
    replace HM := hide (HM.out.later hn)
    replace HB := hide (HB.out.later hn)
    clear hn
    clear x_0 x_1 x_2 x_3 x_4 x_5 x_6 x_7 x_8 x_9
    clear y_0 y_1 y_2 y_3 y_4 y_5 y_6 y_7 y_8 y_9 y_10
    go_wp2
    refine bodyPost_ret (results_cell_cell' rfl _ _ _ (w.heap.size + 2) 0 (w.heap.size + 3) 0 rfl rfl _ _ (load_unit B3.out rfl) (load_job B4.out rfl)) rfl ⟨_, _, rfl, HW.out.1, ?_, ?_⟩
    · rw [HT.out]
      exact ⟨_, _, _, _, _, rfl, HM.out⟩
    · rw [HT.out]
      exact ⟨_, _, by rw [HnR.out], by rw [← HnR.out]; exact HB.out⟩
  go_wp2_with fail
  have hc := fun q' => ((Later.refl wr).drew.trans (later_rg wr.drew q'))
  have x_0 := fun q' => (HW.out.later (hc q')).2.1.cell 0
  have x_1 := fun q' => (HW.out.later (hc q')).2.1.cell 1
  have x_2 := fun q' => (HW.out.later (hc q')).2.1.cell 2
  have x_3 := fun q' => (HW.out.later (hc q')).2.1.cell 3
  have x_4 := fun q' => (HW.out.later (hc q')).2.1.cell 4
  have x_5 := fun q' => (HW.out.later (hc q')).2.1.cell 5
  have x_6 := fun q' => (HW.out.later (hc q')).2.1.cell 6
  have x_7 := fun q' => (HW.out.later (hc q')).2.1.cell 7
  have x_8 := fun q' => (HW.out.later (hc q')).2.1.cell 8
  have x_9 := fun q' => (HW.out.later (hc q')).2.1.cell 9
  have y_0 := fun q' => (HW.out.later (hc q')).2.2.1.cell 0
  have y_1 := fun q' => (HW.out.later (hc q')).2.2.1.cell 1
  have y_2 := fun q' => (HW.out.later (hc q')).2.2.1.cell 2
  have y_3 := fun q' => (HW.out.later (hc q')).2.2.1.cell 3
  have y_4 := fun q' => (HW.out.later (hc q')).2.2.1.cell 4
  have y_5 := fun q' => (HW.out.later (hc q')).2.2.1.cell 5
  have y_6 := fun q' => (HW.out.later (hc q')).2.2.1.cell 6
  have y_7 := fun q' => (HW.out.later (hc q')).2.2.1.cell 7
  have y_8 := fun q' => (HW.out.later (hc q')).2.2.1.cell 8
  have y_9 := fun q' => (HW.out.later (hc q')).2.2.1.cell 9
  have y_10 := fun q' => (HW.out.later (hc q')).2.2.1.cell 10
  refine wp_region_bag [0, 1, 2, 3, 4, 5] [6, 7, 8, 9, 10, 11, 12, 13] [12, 13] (by kernel_rfl) (by kernel_rfl) (by kernel_rfl) (by kernel_rfl) ?_
  iterate 5 (refine wpM_mild rfl (fun K hK => ?_); go_simp; refine hK _ ?_; clear hK K)
  refine wpM_call rfl (by kernel_rfl) 31 (Plain.of (by kernel_rfl)) [.tmp 70, .tmp 71] _ rfl [.slice aL nL cL, .int .i64 (((64 * q : Nat) : Nat) : Int)] rfl (.agg (bv (seg L (64 * q) 64)).toArray) (fun wx hx => of_c (64 * q) wx (VL.out.later ((Later.refl wr).drew.trans hx)) (by rw [← HnL.out]; exact hlt)) ?_
  clear x_0 x_1 x_2 x_3 x_4 x_5 x_6 x_7 x_8 x_9
  clear y_0 y_1 y_2 y_3 y_4 y_5 y_6 y_7 y_8 y_9 y_10
  clear hc
  have HX64 : Hid ((seg L (64 * q) 64).length = 64) := seg_length _ _ _ (by rw [← HnL.out]; exact hlt)
  have hseg : seg L (64 * q) 64 = (L.drop (64 * q)).take 64 := rfl
  have hiq : I0 + q ≤ 9223372036854775807 := by omega
  refine wpM_nil (two_take 30 (Plain.of (by kernel_rfl)) 32 38 (by decide) (uc none 0 0 none 0 0 false false false false none 0 0 (0, 0, 0)) (jc (0, 0, 0, 0, 0) 0 0 none 0 0 (0, 0, 0)) Try.zero_unit Try.zero_job Try.info_unit Try.info_job (uc_nob _ _ _ _ _ _ _ _ _ _ _ _ _ _) (jc_nob _ _ _ _ _ _ _)
    (PdT n (blkF n F' D' p r cc c S' (I0 + q) (seg L (64 * q) 64)) (blkD n F' D' p r cc c S' (I0 + q) (seg L (64 * q) 64)) p r l cc am m cm s c len (took + (N : Int)) kr R (blkS n F' D' p r cc c S' (I0 + q) (seg L (64 * q) 64))) (fun x y W h => h.one) (fun x y W W' hl h => h.later hl) (fun x y W g t cs vs _ hB hn _ h => h.set hB hn vs)
    [.tmp 67, .tmp 68, .tmp 69, .tmp 72] _ [uval ab' n cb' aD' k' cD' p r l cc am m cm s, jval c len (took + (N : Int)) ar' kr cr' S', .int .i64 ((I0 + q : Nat) : Int), .agg (bv (seg L (64 * q) 64)).toArray] rfl
    ⟨_, rfl, rfl, rfl, rfl⟩ ⟨_, rfl, rfl, rfl, rfl⟩ ⟨_, rfl, rfl, rfl, rfl⟩ ⟨_, rfl, rfl, rfl, rfl⟩ ⟨_, rfl, rfl, rfl, rfl⟩ ⟨_, rfl, rfl, rfl, rfl⟩ ⟨_, rfl, rfl, rfl, rfl⟩ ⟨_, rfl, rfl, rfl, rfl⟩ (of_decide_eq_true (by kernel_rfl)) (by kernel_rfl) ?k4 ?k5)
  case k4 =>
    intro W h
    have hlw := (Later.refl wr).drew.trans h
    refine (rblock_c (I0 + q) (seg L (64 * q) 64) W ⟨ab', cb', aD', k', cD', rfl, HM.out.later hlw⟩ (show Jb W (jval c len (took + (N : Int)) ar' kr cr' S') c len (took + (N : Int)) R S' from ⟨ar', cr', by rw [HK.out], by rw [← HK.out]; exact HB.out.later hlw⟩) HC.out HX64.out hiq).mono ?_
    rintro e w' ⟨u', v', rfl, hl, ⟨a1, a2, a3, a4, a5, rfl, hm1⟩, ⟨b1, b2, rfl, hb1⟩⟩
    refine ⟨_, _, rfl, hl, ⟨a1, a2, a3, a4, a5, rfl, hm1⟩, b1, b2, ?_, ?_⟩
    · rw [HK.out]
    · rw [HK.out]; exact hb1
  intro x y e1 e2 W hL hb1 hb2 hPd he1 he2
  obtain ⟨⟨a1, a2, a3, a4, a5, rfl, hm1⟩, b1, b2, rfl, hr1⟩ := hPd
  have hlw := (Later.refl wr).drew.trans hL
  have hge : Hid (w.heap.size + 3 < e1 ∧ w.heap.size + 3 < e2) := by
    obtain ⟨_, _, _, b4⟩ := HW.out.2.2.2.2
    have := b4.lt
    have h2 : wr.heap.size ≤ wr.drew.heap.size := (Later.refl wr).drew.size
    exact ⟨by omega, by omega⟩
  replace HW := hide (HW.out.later hlw)
  replace HM := hide hm1
  replace HB := hide hr1
  replace VL := hide (VL.out.later hlw)
  have HI : Hid (TkI w e1 e2 (uc a1 n a2 a3 a4 a5 p r l cc am m cm s) (jc c len (took + (N : Int)) b1 kr b2 (blkS n F' D' p r cc c S' (I0 + q) (seg L (64 * q) 64))) W) := ⟨HW.out.1, hb1, hb2, hge.out.1, hge.out.2⟩
  clear hm1 hr1 hb1 hb2 hL hlw hge he1 he2
  replace HQ : Hid (blksT n p r cc c (nL / 64) F D S I0 L = blksT n p r cc c (nL / 64 - (q + 1)) (blkF n F' D' p r cc c S' (I0 + q) (seg L (64 * q) 64)) (blkD n F' D' p r cc c S' (I0 + q) (seg L (64 * q) 64)) (blkS n F' D' p r cc c S' (I0 + q) (seg L (64 * q) 64)) (I0 + (q + 1)) (L.drop (64 * (q + 1)))) := by
    rw [Hid, HQ.out, show nL / 64 - q = (nL / 64 - (q + 1)) + 1 by omega, blksT, ← hseg, List.drop_drop, show 64 * q + 64 = 64 * (q + 1) by omega]
    rfl
  clear hseg HX64
  generalize blkF n F' D' p r cc c S' (I0 + q) (seg L (64 * q) 64) = F2 at *
  generalize blkD n F' D' p r cc c S' (I0 + q) (seg L (64 * q) 64) = D2 at *
  generalize blkS n F' D' p r cc c S' (I0 + q) (seg L (64 * q) 64) = S2 at *
  go_wp2_with fail
  simp only [Act.put, List.setIfInBounds_toArray, List.set_cons_succ, List.set_cons_zero]
  refine wp_region_held (TkI w e1 e2 (uc a1 n a2 a3 a4 a5 p r l cc am m cm s) (jc c len (took + (N : Int)) b1 kr b2 S2)) (fun a b hl h => h.later hl) HI.out [(0, false), (1, false), (2, true), (3, true)] (by kernel_rfl) (by kernel_rfl) (by kernel_rfl) (by kernel_rfl) ?_
  haveI : Nonempty (Held (TkI w e1 e2 (uc a1 n a2 a3 a4 a5 p r l cc am m cm s) (jc c len (took + (N : Int)) b1 kr b2 S2))) := ⟨⟨_, HI.out⟩⟩
  have x_0 := fun q' : Held (TkI w e1 e2 (uc a1 n a2 a3 a4 a5 p r l cc am m cm s) (jc c len (took + (N : Int)) b1 kr b2 S2)) => q'.h.2.1.cell 0
  have x_1 := fun q' : Held (TkI w e1 e2 (uc a1 n a2 a3 a4 a5 p r l cc am m cm s) (jc c len (took + (N : Int)) b1 kr b2 S2)) => q'.h.2.1.cell 1
  have x_2 := fun q' : Held (TkI w e1 e2 (uc a1 n a2 a3 a4 a5 p r l cc am m cm s) (jc c len (took + (N : Int)) b1 kr b2 S2)) => q'.h.2.1.cell 2
  have x_3 := fun q' : Held (TkI w e1 e2 (uc a1 n a2 a3 a4 a5 p r l cc am m cm s) (jc c len (took + (N : Int)) b1 kr b2 S2)) => q'.h.2.1.cell 3
  have x_4 := fun q' : Held (TkI w e1 e2 (uc a1 n a2 a3 a4 a5 p r l cc am m cm s) (jc c len (took + (N : Int)) b1 kr b2 S2)) => q'.h.2.1.cell 4
  have x_5 := fun q' : Held (TkI w e1 e2 (uc a1 n a2 a3 a4 a5 p r l cc am m cm s) (jc c len (took + (N : Int)) b1 kr b2 S2)) => q'.h.2.1.cell 5
  have x_6 := fun q' : Held (TkI w e1 e2 (uc a1 n a2 a3 a4 a5 p r l cc am m cm s) (jc c len (took + (N : Int)) b1 kr b2 S2)) => q'.h.2.1.cell 6
  have x_7 := fun q' : Held (TkI w e1 e2 (uc a1 n a2 a3 a4 a5 p r l cc am m cm s) (jc c len (took + (N : Int)) b1 kr b2 S2)) => q'.h.2.1.cell 7
  have x_8 := fun q' : Held (TkI w e1 e2 (uc a1 n a2 a3 a4 a5 p r l cc am m cm s) (jc c len (took + (N : Int)) b1 kr b2 S2)) => q'.h.2.1.cell 8
  have x_9 := fun q' : Held (TkI w e1 e2 (uc a1 n a2 a3 a4 a5 p r l cc am m cm s) (jc c len (took + (N : Int)) b1 kr b2 S2)) => q'.h.2.1.cell 9
  have y_0 := fun q' : Held (TkI w e1 e2 (uc a1 n a2 a3 a4 a5 p r l cc am m cm s) (jc c len (took + (N : Int)) b1 kr b2 S2)) => q'.h.2.2.1.cell 0
  have y_1 := fun q' : Held (TkI w e1 e2 (uc a1 n a2 a3 a4 a5 p r l cc am m cm s) (jc c len (took + (N : Int)) b1 kr b2 S2)) => q'.h.2.2.1.cell 1
  have y_2 := fun q' : Held (TkI w e1 e2 (uc a1 n a2 a3 a4 a5 p r l cc am m cm s) (jc c len (took + (N : Int)) b1 kr b2 S2)) => q'.h.2.2.1.cell 2
  have y_3 := fun q' : Held (TkI w e1 e2 (uc a1 n a2 a3 a4 a5 p r l cc am m cm s) (jc c len (took + (N : Int)) b1 kr b2 S2)) => q'.h.2.2.1.cell 3
  have y_4 := fun q' : Held (TkI w e1 e2 (uc a1 n a2 a3 a4 a5 p r l cc am m cm s) (jc c len (took + (N : Int)) b1 kr b2 S2)) => q'.h.2.2.1.cell 4
  have y_5 := fun q' : Held (TkI w e1 e2 (uc a1 n a2 a3 a4 a5 p r l cc am m cm s) (jc c len (took + (N : Int)) b1 kr b2 S2)) => q'.h.2.2.1.cell 5
  have y_6 := fun q' : Held (TkI w e1 e2 (uc a1 n a2 a3 a4 a5 p r l cc am m cm s) (jc c len (took + (N : Int)) b1 kr b2 S2)) => q'.h.2.2.1.cell 6
  have y_7 := fun q' : Held (TkI w e1 e2 (uc a1 n a2 a3 a4 a5 p r l cc am m cm s) (jc c len (took + (N : Int)) b1 kr b2 S2)) => q'.h.2.2.1.cell 7
  have y_8 := fun q' : Held (TkI w e1 e2 (uc a1 n a2 a3 a4 a5 p r l cc am m cm s) (jc c len (took + (N : Int)) b1 kr b2 S2)) => q'.h.2.2.1.cell 8
  have y_9 := fun q' : Held (TkI w e1 e2 (uc a1 n a2 a3 a4 a5 p r l cc am m cm s) (jc c len (took + (N : Int)) b1 kr b2 S2)) => q'.h.2.2.1.cell 9
  have y_10 := fun q' : Held (TkI w e1 e2 (uc a1 n a2 a3 a4 a5 p r l cc am m cm s) (jc c len (took + (N : Int)) b1 kr b2 S2)) => q'.h.2.2.1.cell 10
  replace HI := hide (HI.out.later (Later.refl _).drew)
  replace HW := hide (HW.out.later (Later.refl _).drew)
  replace HM := hide (HM.out.later (Later.refl _).drew)
  replace HB := hide (HB.out.later (Later.refl _).drew)
  replace VL := hide (VL.out.later (Later.refl _).drew)
  iterate 2 (refine wpJ_mild rfl (fun K hK => ?_); go_simp; refine hK _ ?_; clear hK K)
  clear x_0 x_1 x_2 x_3 x_4 x_5 x_6 x_7 x_8 x_9
  clear y_0 y_1 y_2 y_3 y_4 y_5 y_6 y_7 y_8 y_9 y_10
  refine wpJ_store rfl rfl 32 (.tmp 3) (.tmp 76) rfl w.heap.size (uc a1 n a2 a3 a4 a5 p r l cc am m cm s) rfl rfl Try.info_unit (uc_one _ _ _ _ _ _ _ _ _ _ _ _ _ _) _ _ HW.out.2.1 (by simp) (fun W hW => (HI.out.later hW).set _ (Nat.le_refl _) (by omega) _ _) ?_
  intro wl hl wz hz
  have HWn : TkW w (uc a1 n a2 a3 a4 a5 p r l cc am m cm s) (jc c len (took + (N : Int)) ar' kr cr' S') (wl.setCells w.heap.size 0 (uc a1 n a2 a3 a4 a5 p r l cc am m cm s)) := (HW.out.later hl).stU (uc a1 n a2 a3 a4 a5 p r l cc am m cm s) 0 (by simp)
  have HI2 := (HI.out.later hl).set w.heap.size (Nat.le_refl _) (by omega) (uc a1 n a2 a3 a4 a5 p r l cc am m cm s) 0
  have HM2 := (HM.out.later hl).setNoB (HW.out.2.1.later hl) (uc_nob _ _ _ _ _ _ _ _ _ _ _ _ _ _) (uc a1 n a2 a3 a4 a5 p r l cc am m cm s) 0
  have HB2 := (HB.out.later hl).setNoB (HW.out.2.1.later hl) (uc_nob _ _ _ _ _ _ _ _ _ _ _ _ _ _) (uc a1 n a2 a3 a4 a5 p r l cc am m cm s) 0
  have VL2 := (VL.out.later hl).setNoB (HW.out.2.1.later hl) (uc_nob _ _ _ _ _ _ _ _ _ _ _ _ _ _) (uc a1 n a2 a3 a4 a5 p r l cc am m cm s) 0
  rw [← hz.out] at HWn HI2 HM2 HB2 VL2
  replace HW := hide HWn
  replace HI := hide HI2
  replace HM := hide HM2
  replace HB := hide HB2
  replace VL := hide VL2
  clear HWn HI2 HM2 HB2 VL2 hz hl
  refine wpJ_store rfl rfl 38 (.tmp 4) (.tmp 77) rfl (w.heap.size + 1) (jc c len (took + (N : Int)) b1 kr b2 S2) rfl rfl Try.info_job (jc_one _ _ _ _ _ _ _) _ _ HW.out.2.2.1 (by simp) (fun W hW => (HI.out.later hW).set _ (by omega) (by omega) _ _) ?_
  intro wl hl wy hy
  have HWn : TkW w (uc a1 n a2 a3 a4 a5 p r l cc am m cm s) (jc c len (took + (N : Int)) b1 kr b2 S2) (wl.setCells (w.heap.size + 1) 0 (jc c len (took + (N : Int)) b1 kr b2 S2)) := (HW.out.later hl).stJ (jc c len (took + (N : Int)) b1 kr b2 S2) 0 (by simp)
  have HM2 := (HM.out.later hl).setNoB (HW.out.2.2.1.later hl) (jc_nob _ _ _ _ _ _ _) (jc c len (took + (N : Int)) b1 kr b2 S2) 0
  have HB2 := (HB.out.later hl).setNoB (HW.out.2.2.1.later hl) (jc_nob _ _ _ _ _ _ _) (jc c len (took + (N : Int)) b1 kr b2 S2) 0
  have VL2 := (VL.out.later hl).setNoB (HW.out.2.2.1.later hl) (jc_nob _ _ _ _ _ _ _) (jc c len (took + (N : Int)) b1 kr b2 S2) 0
  rw [← hy.out] at HWn HM2 HB2 VL2
  replace HW := hide HWn
  replace HM := hide HM2
  replace HB := hide HB2
  replace VL := hide VL2
  clear HWn HM2 HB2 VL2 hy hl HI
  refine wpJ_nil (fun wn hn => ?_)
  replace HW := hide (HW.out.later hn)
  replace HM := hide (HM.out.later hn)
  replace HB := hide (HB.out.later hn)
  replace VL := hide (VL.out.later hn)
  clear hn
  go_wp2_with fail
  go_roundw
  case rel => exact ⟨q + 1, a1, a2, a3, a4, a5, F2, D2, S2, b1, b2, congrArg _ (by omega), congrArg _ (by omega), by omega, ⟨HW.out, HM.out, HB.out, VL.out⟩, HQ⟩
  case measure => simp [intOf]; omega
end Go.Proofs.Ytbcikndebaeahaa
