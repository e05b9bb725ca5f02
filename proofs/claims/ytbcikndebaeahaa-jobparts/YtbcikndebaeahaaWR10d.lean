import Derived.Deep.Cut
import Derived.Test.YtbcikndebaeahaaWR10b
import Derived.Test.YtbcikndebaeahaaMAK
namespace Go.Proofs.Ytbcikndebaeahaa
open Go.ChangeShapes Go.WideShapes Go.ChangeAt Go.RowKit
set_option linter.unusedVariables false
set_option maxRecDepth 4000
set_option linter.unusedSimpArgs false
/-! The document's job: a block that came. -/
/-- which block -/
def atJ (a i : Nat) : Nat := let x := (a + i) % 18446744073709551616; if 1000 < x ∨ x < i then 1000 else x
def thJ (c : Cmd) (cc : Bool) : Bool := c.2.2.2.2 == 1 || !cc
def blkS (n : Nat) (F : List UInt8) (D : List Drt) (p r cc : Bool) (c : Cmd) (S : Sns) (i : Nat) (X : List UInt8) : Sns :=
  if S ≠ (0, 0, 0) then S
  else if classI c.1 = 3 then (let S' := checkS n D p r (atJ c.2.1 i) 1 false; if S' = (0, 0, 0) ∧ (rdL n F D S' (atJ c.2.1 i) 1).take 64 ≠ X then (14, 29, 0) else S')
  else putS n D p r (atJ c.2.1 i)
def blkF (n : Nat) (F : List UInt8) (D : List Drt) (p r cc : Bool) (c : Cmd) (S : Sns) (i : Nat) (X : List UInt8) : List UInt8 :=
  if S ≠ (0, 0, 0) ∨ classI c.1 = 3 then F else ptF n F D (putS n D p r (atJ c.2.1 i)) (atJ c.2.1 i) X (thJ c cc)
def blkD (n : Nat) (F : List UInt8) (D : List Drt) (p r cc : Bool) (c : Cmd) (S : Sns) (i : Nat) (X : List UInt8) : List Drt :=
  if S ≠ (0, 0, 0) ∨ classI c.1 = 3 then D else ptD n D (putS n D p r (atJ c.2.1 i)) (atJ c.2.1 i) X (thJ c cc)
theorem wpList_neqS9 {w : World} {ops : Array Oper} {rest : List Oper} {o : Oper} {a : Act} {Q : Exit → Act → World → Prop} (hw : Region.wanted o (yielded ops a.tmps) = true) (x y : Operand) (hop : o.op = .binOp .neq 30 x y 30)
    (s t : Sns) (hx : a.eval x = sval s) (hy : a.eval y = sval t) (r : Bool) (hr : (!(s == t)) = r) (h : wpList Try.prog ops Q rest (a.put o.dst (.bool r)) w) : wpList Try.prog ops Q (o :: rest) a w := by
  subst hr
  exact wpList_neqS hw x y hop s t hx hy h
/-- what stands in memory once block has begun -/
def BlkW (w : World) (ab : Option Addr) (n cb : Nat) (aD : Option Addr) (k cD : Nat) (p r l cc : Bool) (am : Option Addr) (m cm : Nat) (s : Sns) (c : Cmd) (len took : Int) (ar : Option Addr) (kr cr : Nat) (S : Sns) (X : List UInt8) (W : World) : Prop :=
  Later w W ∧ Box W w.heap.size 32 (uc ab n cb aD k cD p r l cc am m cm s) ∧ Box W (w.heap.size + 1) 38 (jc c len took ar kr cr S) ∧ Box W (w.heap.size + 2) 58 (bv X) ∧
  (∃ cs, NoB cs ∧ cs.length = 10 ∧ Box W (w.heap.size + 3) 32 cs) ∧ (∃ cs, NoB cs ∧ cs.length = 11 ∧ Box W (w.heap.size + 4) 38 cs)
theorem BlkW.later {w : World} {ab : Option Addr} {n cb : Nat} {aD : Option Addr} {k cD : Nat} {p r l cc : Bool} {am : Option Addr} {m cm : Nat} {s : Sns} {c : Cmd} {len took : Int} {ar : Option Addr} {kr cr : Nat} {S : Sns} {X : List UInt8} {W W' : World} (h : BlkW w ab n cb aD k cD p r l cc am m cm s c len took ar kr cr S X W) (hl : Later W W') : BlkW w ab n cb aD k cD p r l cc am m cm s c len took ar kr cr S X W' := by
  obtain ⟨h1, h2, h3, h4, ⟨cs, h5, h6, h7⟩, ds, h8, h9, h10⟩ := h
  exact ⟨h1.trans hl, h2.later hl, h3.later hl, h4.later hl, ⟨cs, h5, h6, h7.later hl⟩, ds, h8, h9, h10.later hl⟩
theorem blk_start (w : World) (ab : Option Addr) (n cb : Nat) (aD : Option Addr) (k cD : Nat) (p r l cc : Bool) (am : Option Addr) (m cm : Nat) (s : Sns) (c : Cmd) (len took : Int) (ar : Option Addr) (kr cr : Nat) (S : Sns) (X : List UInt8) :
    BlkW w ab n cb aD k cD p r l cc am m cm s c len took ar kr cr S X (((((w.alloc (.cells (uc ab n cb aD k cD p r l cc am m cm s).toArray 32)).alloc (.cells (jc c len took ar kr cr S).toArray 38)).alloc (.cells (bv X).toArray 58)).alloc
      (.cells #[.slice none 0 0, .slice none 0 0, .bool false, .bool false, .bool false, .bool false, .slice none 0 0, .int .i64 0, .int .i64 0, .int .i64 0] 32)).alloc (.cells #[.int .i64 0, .int .u64 0, .int .i64 0, .int .i64 0, .int .i64 0, .int .i64 0, .int .i64 0, .slice none 0 0, .int .i64 0, .int .i64 0, .int .i64 0] 38)) :=
  ⟨(((((Later.refl w).alloc _).alloc _).alloc _).alloc _).alloc _, ((((Box.new w _ _).alloc _).alloc _).alloc _).alloc _, (((Box.new' _ _ _ _ rfl _ (by simp)).alloc _).alloc _).alloc _, ((Box.new' _ _ _ _ (by simp) _ (by simp)).alloc _).alloc _,
    ⟨uc none 0 0 none 0 0 false false false false none 0 0 (0, 0, 0), uc_nob _ _ _ _ _ _ _ _ _ _ _ _ _ _, rfl, (Box.new' _ _ _ _ rfl _ (by simp)).alloc _⟩,
    ⟨jc (0, 0, 0, 0, 0) 0 0 none 0 0 (0, 0, 0), jc_nob _ _ _ _ _ _ _, rfl, Box.new' _ _ _ _ rfl _ (by simp)⟩⟩
theorem BlkW.setU {w : World} {ab : Option Addr} {n cb : Nat} {aD : Option Addr} {k cD : Nat} {p r l cc : Bool} {am : Option Addr} {m cm : Nat} {s : Sns} {c : Cmd} {len took : Int} {ar : Option Addr} {kr cr : Nat} {S : Sns} {X : List UInt8} {W : World} (h : BlkW w ab n cb aD k cD p r l cc am m cm s c len took ar kr cr S X W) (us : List Value) (hn : NoB us) (hl : us.length = 10) :
    BlkW w ab n cb aD k cD p r l cc am m cm s c len took ar kr cr S X (W.setCells (w.heap.size + 3) 0 us) ∧ Box (W.setCells (w.heap.size + 3) 0 us) (w.heap.size + 3) 32 us ∧ ∃ cs, NoB cs ∧ Box W (w.heap.size + 3) 32 cs := by
  obtain ⟨h1, h2, h3, h4, ⟨cs, h5, h6, h7⟩, ds, h8, h9, h10⟩ := h
  have hb := h7.all us (by omega)
  exact ⟨⟨h1.setCells (by omega) _ _, h2.apart _ (by omega) _ _, h3.apart _ (by omega) _ _, h4.apart _ (by omega) _ _, ⟨us, hn, hl, hb⟩, ds, h8, h9, h10.apart _ (by omega) _ _⟩, hb, cs, h5, h7⟩
theorem BlkW.setJ {w : World} {ab : Option Addr} {n cb : Nat} {aD : Option Addr} {k cD : Nat} {p r l cc : Bool} {am : Option Addr} {m cm : Nat} {s : Sns} {c : Cmd} {len took : Int} {ar : Option Addr} {kr cr : Nat} {S : Sns} {X : List UInt8} {W : World} (h : BlkW w ab n cb aD k cD p r l cc am m cm s c len took ar kr cr S X W) (us : List Value) (hn : NoB us) (hl : us.length = 11) :
    BlkW w ab n cb aD k cD p r l cc am m cm s c len took ar kr cr S X (W.setCells (w.heap.size + 4) 0 us) ∧ Box (W.setCells (w.heap.size + 4) 0 us) (w.heap.size + 4) 38 us ∧ ∃ cs, NoB cs ∧ Box W (w.heap.size + 4) 38 cs := by
  obtain ⟨h1, h2, h3, h4, ⟨cs, h5, h6, h7⟩, ds, h8, h9, h10⟩ := h
  have hb := h10.all us (by omega)
  exact ⟨⟨h1.setCells (by omega) _ _, h2.apart _ (by omega) _ _, h3.apart _ (by omega) _ _, h4.apart _ (by omega) _ _, ⟨cs, h5, h6, h7.apart _ (by omega) _ _⟩, us, hn, hl, hb⟩, hb, ds, h8, h10⟩
/-- a job's sense turns -/
theorem BlkW.setS {w : World} {ab : Option Addr} {n cb : Nat} {aD : Option Addr} {k cD : Nat} {p r l cc : Bool} {am : Option Addr} {m cm : Nat} {s : Sns} {c : Cmd} {len took : Int} {ar : Option Addr} {kr cr : Nat} {S : Sns} {X : List UInt8} {W : World} (h : BlkW w ab n cb aD k cD p r l cc am m cm s c len took ar kr cr S X W) (S' : Sns) :
    BlkW w ab n cb aD k cD p r l cc am m cm s c len took ar kr cr S' X (W.setCells (w.heap.size + 1) 8 (sc S')) ∧ ∃ cs, NoB cs ∧ Box W (w.heap.size + 1) 38 cs := by
  obtain ⟨h1, h2, h3, h4, ⟨cs, h5, h6, h7⟩, ds, h8, h9, h10⟩ := h
  have hb := h3.setCells (sc S') 8 (by simp)
  exact ⟨⟨h1.setCells (by omega) _ _, h2.apart _ (by omega) _ _, hb, h4.apart _ (by omega) _ _, ⟨cs, h5, h6, h7.apart _ (by omega) _ _⟩, ds, h8, h9, h10.apart _ (by omega) _ _⟩, _, jc_nob _ _ _ _ _ _ _, h3⟩
/-- a unit's slot turns -/
theorem BlkW.setT {w : World} {ab : Option Addr} {n cb : Nat} {aD : Option Addr} {k cD : Nat} {p r l cc : Bool} {am : Option Addr} {m cm : Nat} {s : Sns} {c : Cmd} {len took : Int} {ar : Option Addr} {kr cr : Nat} {S : Sns} {X : List UInt8} {W : World} (h : BlkW w ab n cb aD k cD p r l cc am m cm s c len took ar kr cr S X W) (ab' : Option Addr) (cb' : Nat) (aD' : Option Addr) (k' cD' : Nat) :
    BlkW w ab' n cb' aD' k' cD' p r l cc am m cm s c len took ar kr cr S X (W.setCells w.heap.size 0 (tc (.slice ab' n cb') (.slice aD' k' cD') p r l)) ∧ ∃ cs, NoB cs ∧ Box W w.heap.size 32 cs := by
  obtain ⟨h1, h2, h3, h4, ⟨cs, h5, h6, h7⟩, ds, h8, h9, h10⟩ := h
  have hb := h2.setCells (tc (.slice ab' n cb') (.slice aD' k' cD') p r l) 0 (by simp)
  exact ⟨⟨h1.setCells (by omega) _ _, hb, h3.apart _ (by omega) _ _, h4.apart _ (by omega) _ _, ⟨cs, h5, h6, h7.apart _ (by omega) _ _⟩, ds, h8, h9, h10.apart _ (by omega) _ _⟩, _, uc_nob _ _ _ _ _ _ _ _ _ _ _ _ _ _, h2⟩
theorem allF_len {n : Nat} {F : List UInt8} {D : List Drt} (hF : F.length = n * 64) (ho : Ok D) : (allF n F D).length = allN n D * 64 := by
  unfold allF allN
  split
  · rename_i h
    exact app_length n D F hF (fit_of_right h ho)
  · simp
theorem rdL_64 {w : World} {v : Value} {n : Nat} {F : List UInt8} {D : List Drt} {p r : Bool} (h : Med w v n F D) (A : Nat) (h0 : checkS n D p r A 1 false = (0, 0, 0)) : 64 ≤ (rdL n F D (checkS n D p r A 1 false) A 1).length := by
  have h1 := (checkS_zero h0).2.2
  obtain ⟨vb, vd, rfl, hb, hd, ho⟩ := h
  have hF := hb.1
  rw [bv_length] at hF
  simp only [withinB, decide_eq_true_eq] at h1
  have hA := allF_len hF ho
  rw [h0, rdL]
  simp only [beq_self_eq_true, if_true]
  show 64 ≤ (seg (allF n F D) (A * 64) (1 * 64)).length
  rw [seg_length _ _ _ (by omega)]
  omega
/-- what a slot and a sense that came out stand in -/
def BkI (w : World) (g1 g2 : Nat) (a b : Option Addr) (n m c d : Nat) (p r l : Bool) (s : Sns) (W : World) : Prop := Later w W ∧ Box W g1 27 (tc (.slice a n c) (.slice b m d) p r l) ∧ Box W g2 30 (sc s) ∧ w.heap.size + 4 < g1 ∧ g1 < g2
theorem BkI.later {w : World} {g1 g2 : Nat} {a b : Option Addr} {n m c d : Nat} {p r l : Bool} {s : Sns} {W W' : World} (h : BkI w g1 g2 a b n m c d p r l s W) (hl : Later W W') : BkI w g1 g2 a b n m c d p r l s W' := ⟨h.1.trans hl, h.2.1.later hl, h.2.2.1.later hl, h.2.2.2⟩
theorem BkI.set {w : World} {g1 g2 : Nat} {a b : Option Addr} {n m c d : Nat} {p r l : Bool} {s : Sns} {W : World} (h : BkI w g1 g2 a b n m c d p r l s W) (g : Nat) (h1 : w.heap.size ≤ g) (h2 : g ≤ w.heap.size + 4) (vs : List Value) (o : Nat) : BkI w g1 g2 a b n m c d p r l s (W.setCells g o vs) :=
  ⟨h.1.setCells h1 _ _, h.2.1.apart _ (by have := h.2.2.2; omega) _ _, h.2.2.1.apart _ (by have := h.2.2.2; omega) _ _, h.2.2.2⟩
set_option maxHeartbeats 4000000 in
theorem rblock_c {u v : Value} {n : Nat} {F : List UInt8} {D : List Drt} {p r l cc : Bool} {am : Option Addr} {m cm : Nat} {s : Sns} {c : Cmd} {len took : Int} {R : List UInt8} {S : Sns} (i : Nat) (X : List UInt8) (w : World) (hU : Un w u n F D p r l cc am m cm s) (hJ : Jb w v c len took R S) (hc : OkC7 c) (hX : X.length = 64) (hi : i ≤ 9223372036854775807) :
    Calls Try.prog 30 #[u, v, .int .i64 i, .agg (bv X).toArray] w fun e w' => ∃ u' v', e = .returned (.tuple #[u', v']) ∧ Later w w' ∧ Un w' u' n (blkF n F D p r cc c S i X) (blkD n F D p r cc c S i X) p r l cc am m cm s ∧ Jb w' v' c len took R (blkS n F D p r cc c S i X) := by
  obtain ⟨ab, cb, aD, k, cD, rfl, hm⟩ := hU
  obtain ⟨ar, cr, rfl, hr⟩ := hJ
  have HM := hide hm
  have HB := hide hr
  have HC := hide hc
  have HX := hide hX
  clear hm hr hc hX
  obtain ⟨kr, hkr⟩ : ∃ kr, kr = R.length := ⟨_, rfl⟩
  rw [← hkr] at HB ⊢
  have HK := hide hkr
  clear hkr
  have HW := hide (blk_start w ab n cb aD k cD p r l cc am m cm s c len took ar kr cr S X)
  have x_0 := HW.out.2.1.cell 0
  have x_1 := HW.out.2.1.cell 1
  have x_2 := HW.out.2.1.cell 2
  have x_3 := HW.out.2.1.cell 3
  have x_4 := HW.out.2.1.cell 4
  have x_5 := HW.out.2.1.cell 5
  have x_6 := HW.out.2.1.cell 6
  have x_7 := HW.out.2.1.cell 7
  have x_8 := HW.out.2.1.cell 8
  have x_9 := HW.out.2.1.cell 9
  have y_0 := HW.out.2.2.1.cell 0
  have y_1 := HW.out.2.2.1.cell 1
  have y_2 := HW.out.2.2.1.cell 2
  have y_3 := HW.out.2.2.1.cell 3
  have y_4 := HW.out.2.2.1.cell 4
  have y_5 := HW.out.2.2.1.cell 5
  have y_6 := HW.out.2.2.1.cell 6
  have y_7 := HW.out.2.2.1.cell 7
  have y_8 := HW.out.2.2.1.cell 8
  have y_9 := HW.out.2.2.1.cell 9
  have y_10 := HW.out.2.2.1.cell 10
  go_enter Try.func30, Try.ntmps30
  by_cases hS : S = (0, 0, 0)
  case neg =>
    have eS : (!(S == (0, 0, 0))) = true := by simpa using hS
    go_wp2_with (refine wpList_neqS9 (by kernel_rfl) (.tmp 16) (.tmp 17) rfl S (0, 0, 0) rfl rfl true eS ?_)
    generalize (((((w.alloc (.cells (uc ab n cb aD k cD p r l cc am m cm s).toArray 32)).alloc (.cells (jc c len took ar kr cr S).toArray 38)).alloc (.cells (bv X).toArray 58)).alloc
      (.cells #[.slice none 0 0, .slice none 0 0, .bool false, .bool false, .bool false, .bool false, .slice none 0 0, .int .i64 0, .int .i64 0, .int .i64 0] 32)).alloc (.cells #[.int .i64 0, .int .u64 0, .int .i64 0, .int .i64 0, .int .i64 0, .int .i64 0, .int .i64 0, .slice none 0 0, .int .i64 0, .int .i64 0, .int .i64 0] 38)) = w5 at *
    replace HM := hide (HM.out.later HW.out.1)
    replace HB := hide (HB.out.later HW.out.1)
    have EF : Hid (blkF n F D p r cc c S i X = F) := by rw [Hid, blkF, if_pos (.inl hS)]
    have ED : Hid (blkD n F D p r cc c S i X = D) := by rw [Hid, blkD, if_pos (.inl hS)]
    have ES : Hid (blkS n F D p r cc c S i X = S) := by rw [Hid, blkS, if_pos hS]
    clear x_0 x_1 x_2 x_3 x_4 x_5 x_6 x_7 x_8 x_9
    clear y_0 y_1 y_2 y_3 y_4 y_5 y_6 y_7 y_8 y_9 y_10
    refine wp_region_held (BlkW w ab n cb aD k cD p r l cc am m cm s c len took ar kr cr S X) (fun a b hl h => h.later hl) HW.out [(0, false), (1, false), (2, true), (3, true)] (by kernel_rfl) (by kernel_rfl) (by kernel_rfl) (by kernel_rfl) ?_
    haveI : Nonempty (Held (BlkW w ab n cb aD k cD p r l cc am m cm s c len took ar kr cr S X)) := ⟨⟨_, HW.out⟩⟩
    have x_0 := fun q : Held ((BlkW w ab n cb aD k cD p r l cc am m cm s c len took ar kr cr S X)) => q.h.2.1.cell 0
    have x_1 := fun q : Held ((BlkW w ab n cb aD k cD p r l cc am m cm s c len took ar kr cr S X)) => q.h.2.1.cell 1
    have x_2 := fun q : Held ((BlkW w ab n cb aD k cD p r l cc am m cm s c len took ar kr cr S X)) => q.h.2.1.cell 2
    have x_3 := fun q : Held ((BlkW w ab n cb aD k cD p r l cc am m cm s c len took ar kr cr S X)) => q.h.2.1.cell 3
    have x_4 := fun q : Held ((BlkW w ab n cb aD k cD p r l cc am m cm s c len took ar kr cr S X)) => q.h.2.1.cell 4
    have x_5 := fun q : Held ((BlkW w ab n cb aD k cD p r l cc am m cm s c len took ar kr cr S X)) => q.h.2.1.cell 5
    have x_6 := fun q : Held ((BlkW w ab n cb aD k cD p r l cc am m cm s c len took ar kr cr S X)) => q.h.2.1.cell 6
    have x_7 := fun q : Held ((BlkW w ab n cb aD k cD p r l cc am m cm s c len took ar kr cr S X)) => q.h.2.1.cell 7
    have x_8 := fun q : Held ((BlkW w ab n cb aD k cD p r l cc am m cm s c len took ar kr cr S X)) => q.h.2.1.cell 8
    have x_9 := fun q : Held ((BlkW w ab n cb aD k cD p r l cc am m cm s c len took ar kr cr S X)) => q.h.2.1.cell 9
    have y_0 := fun q : Held ((BlkW w ab n cb aD k cD p r l cc am m cm s c len took ar kr cr S X)) => q.h.2.2.1.cell 0
    have y_1 := fun q : Held ((BlkW w ab n cb aD k cD p r l cc am m cm s c len took ar kr cr S X)) => q.h.2.2.1.cell 1
    have y_2 := fun q : Held ((BlkW w ab n cb aD k cD p r l cc am m cm s c len took ar kr cr S X)) => q.h.2.2.1.cell 2
    have y_3 := fun q : Held ((BlkW w ab n cb aD k cD p r l cc am m cm s c len took ar kr cr S X)) => q.h.2.2.1.cell 3
    have y_4 := fun q : Held ((BlkW w ab n cb aD k cD p r l cc am m cm s c len took ar kr cr S X)) => q.h.2.2.1.cell 4
    have y_5 := fun q : Held ((BlkW w ab n cb aD k cD p r l cc am m cm s c len took ar kr cr S X)) => q.h.2.2.1.cell 5
    have y_6 := fun q : Held ((BlkW w ab n cb aD k cD p r l cc am m cm s c len took ar kr cr S X)) => q.h.2.2.1.cell 6
    have y_7 := fun q : Held ((BlkW w ab n cb aD k cD p r l cc am m cm s c len took ar kr cr S X)) => q.h.2.2.1.cell 7
    have y_8 := fun q : Held ((BlkW w ab n cb aD k cD p r l cc am m cm s c len took ar kr cr S X)) => q.h.2.2.1.cell 8
    have y_9 := fun q : Held ((BlkW w ab n cb aD k cD p r l cc am m cm s c len took ar kr cr S X)) => q.h.2.2.1.cell 9
    have y_10 := fun q : Held ((BlkW w ab n cb aD k cD p r l cc am m cm s c len took ar kr cr S X)) => q.h.2.2.1.cell 10
    replace HW := hide (HW.out.later (Later.refl _).drew)
    replace HM := hide (HM.out.later (Later.refl _).drew)
    replace HB := hide (HB.out.later (Later.refl _).drew)
    iterate 2 (refine wpJ_mild rfl (fun K hK => ?_); go_simp; refine hK _ ?_; clear hK K)
    obtain ⟨c3, n3, l3, b3⟩ := HW.out.2.2.2.2.1
    refine wpJ_store rfl rfl 32 (.tmp 8) (.tmp 19) rfl (w.heap.size + 3) (uc ab n cb aD k cD p r l cc am m cm s) rfl rfl Try.info_unit (uc_one _ _ _ _ _ _ _ _ _ _ _ _ _ _) _ c3 b3 (by simp [l3]) (fun W hW => ((HW.out.later hW).setU _ (uc_nob _ _ _ _ _ _ _ _ _ _ _ _ _ _) rfl).1) ?_
    intro wl hl wz hz
    have HA := (HW.out.later hl).setU (uc ab n cb aD k cD p r l cc am m cm s) (uc_nob _ _ _ _ _ _ _ _ _ _ _ _ _ _) rfl
    have HM2 := (HM.out.later hl).setNoB HA.2.2.choose_spec.2 HA.2.2.choose_spec.1 (uc ab n cb aD k cD p r l cc am m cm s) 0
    have HB2 := (HB.out.later hl).setNoB HA.2.2.choose_spec.2 HA.2.2.choose_spec.1 (uc ab n cb aD k cD p r l cc am m cm s) 0
    rw [← hz.out] at HA HM2 HB2
    replace HW := hide HA.1
    have B3 := hide HA.2.1
    replace HM := hide HM2
    replace HB := hide HB2
    clear HA HM2 HB2 hz hl b3 n3 l3
    obtain ⟨c4, n4, l4, b4⟩ := HW.out.2.2.2.2.2
    refine wpJ_store rfl rfl 38 (.tmp 9) (.tmp 20) rfl (w.heap.size + 4) (jc c len took ar kr cr S) rfl rfl Try.info_job (jc_one _ _ _ _ _ _ _) _ c4 b4 (by simp [l4]) (fun W hW => ((HW.out.later hW).setJ _ (jc_nob _ _ _ _ _ _ _) rfl).1) ?_
    intro wl hl wy hy
    have HA := (HW.out.later hl).setJ (jc c len took ar kr cr S) (jc_nob _ _ _ _ _ _ _) rfl
    have HM2 := (HM.out.later hl).setNoB HA.2.2.choose_spec.2 HA.2.2.choose_spec.1 (jc c len took ar kr cr S) 0
    have HB2 := (HB.out.later hl).setNoB HA.2.2.choose_spec.2 HA.2.2.choose_spec.1 (jc c len took ar kr cr S) 0
    have B32 := (B3.out.later hl).apart (w.heap.size + 4) (by omega) (jc c len took ar kr cr S) 0
    rw [← hy.out] at HA HM2 HB2 B32
    replace HW := hide HA.1
    have B4 := hide HA.2.1
    replace B3 := hide B32
    replace HM := hide HM2
    replace HB := hide HB2
    clear HA HM2 HB2 B32 hy hl b4 n4 l4
    refine wpJ_nil (fun wn hn => ?_)
    replace HW := hide (HW.out.later hn)
    replace B3 := hide (B3.out.later hn)
    replace B4 := hide (B4.out.later hn)
    replace HM := hide (HM.out.later hn)
    replace HB := hide (HB.out.later hn)
    clear hn
    clear x_0 x_1 x_2 x_3 x_4 x_5 x_6 x_7 x_8 x_9
    clear y_0 y_1 y_2 y_3 y_4 y_5 y_6 y_7 y_8 y_9 y_10
    go_wp2
    refine bodyPost_ret (results_cell_cell' rfl _ _ _ (w.heap.size + 3) 0 (w.heap.size + 4) 0 rfl rfl _ _ (load_unit B3.out rfl) (load_job B4.out rfl)) rfl ⟨_, _, rfl, HW.out.1, ⟨_, _, _, _, _, rfl, by rw [EF.out, ED.out]; exact HM.out⟩, ⟨_, _, by rw [ES.out, HK.out], by rw [← HK.out]; exact HB.out⟩⟩
  have eS : (!(S == (0, 0, 0))) = false := by simpa using hS
  obtain ⟨a, ha⟩ : ∃ a, a = c.2.1 := ⟨_, rfl⟩
  have ha64 : a ≤ 18446744073709551615 := by rw [ha]; exact HC.out.2.1
  obtain ⟨x, hx⟩ : ∃ x, x = (a + i) % 18446744073709551616 := ⟨_, rfl⟩
  have hwx : IntKind.u64.wrap ((c.2.1 : Int) + (i : Int)) = (x : Int) := by rw [IntKind.wrap_u64, hx, ha]; omega
  have hwi : IntKind.u64.wrap (i : Int) = (i : Int) := by rw [IntKind.wrap_u64]; omega
  have hx64 : x ≤ 18446744073709551615 := by omega
  have HAt : Hid (atJ a i = if 1000 < x ∨ x < i then 1000 else x) := by rw [Hid, atJ, hx]
  clear hx
  have HS := hide hS
  clear hS
  go_upto_region 4 with (refine wpList_neqS9 (by kernel_rfl) (.tmp 16) (.tmp 17) rfl S (0, 0, 0) rfl rfl false eS ?_)
  generalize (((((w.alloc (.cells (uc ab n cb aD k cD p r l cc am m cm s).toArray 32)).alloc (.cells (jc c len took ar kr cr S).toArray 38)).alloc (.cells (bv X).toArray 58)).alloc
    (.cells #[.slice none 0 0, .slice none 0 0, .bool false, .bool false, .bool false, .bool false, .slice none 0 0, .int .i64 0, .int .i64 0, .int .i64 0] 32)).alloc (.cells #[.int .i64 0, .int .u64 0, .int .i64 0, .int .i64 0, .int .i64 0, .int .i64 0, .int .i64 0, .slice none 0 0, .int .i64 0, .int .i64 0, .int .i64 0] 38)) = w5 at *
  replace HM := hide (HM.out.later HW.out.1)
  replace HB := hide (HB.out.later HW.out.1)
  clear x_0 x_1 x_2 x_3 x_4 x_5 x_6 x_7 x_8 x_9
  clear y_0 y_1 y_2 y_3 y_4 y_5 y_6 y_7 y_8 y_9 y_10
  have HH : Hid (BlkW w ab n cb aD k cD p r l cc am m cm s c len took ar kr cr S X w5 ∧ Med w5 (.agg #[.slice ab n cb, .slice aD k cD]) n F D ∧ Bs w5 (.slice ar kr cr) R) := ⟨HW.out, HM.out, HB.out⟩
  clear HW HM HB
  go_cut [34] from 15 (fun z W => z = .bool (decide (1000 < x ∨ x < i)) ∧ Hid (BlkW w ab n cb aD k cD p r l cc am m cm s c len took ar kr cr S X W ∧ Med W (.agg #[.slice ab n cb, .slice aD k cD]) n F D ∧ Bs W (.slice ar kr cr) R))
  case first =>
    by_cases h1 : 1000 < x
    · have e1 : decide ((1000 : Int) < (x : Int)) = true := by simp; omega
      go_wp2
      go_meet
      exact ⟨by rw [decide_eq_true (.inl h1)], HH⟩
    · have e1 : decide ((1000 : Int) < (x : Int)) = false := by simp; omega
      go_wp2
      go_meet
      exact ⟨by simp [h1], HH⟩
  case rest =>
  clear HH
  obtain ⟨rfl, HH⟩ := hcut
  go_upto_if 34 with fail
  go_cut [10] from 15 (fun z W => z = .int .u64 (atJ a i : Int) ∧ Hid (BlkW w ab n cb aD k cD p r l cc am m cm s c len took ar kr cr S X W ∧ Med W (.agg #[.slice ab n cb, .slice aD k cD]) n F D ∧ Bs W (.slice ar kr cr) R))
  case first =>
    by_cases h1 : 1000 < x ∨ x < i
    · rw [decide_eq_true h1]
      go_wp2
      go_meet
      exact ⟨by rw [HAt.out, if_pos h1]; rfl, HH⟩
    · rw [decide_eq_false h1]
      go_wp2
      go_meet
      exact ⟨by rw [HAt.out, if_neg h1], HH⟩
  case rest =>
  clear HH
  obtain ⟨rfl, HH⟩ := hcut
  have hA1 : atJ a i ≤ 1000 := by rw [HAt.out]; split <;> omega
  have hEq : atJ c.2.1 i = atJ a i := by rw [ha]
  have HE := hide hEq
  clear hEq HAt ha
  generalize atJ a i = A at *
  have HW := hide HH.out.1
  have HM := hide HH.out.2.1
  have HB := hide HH.out.2.2
  clear HH
  have x_0 := HW.out.2.1.cell 0
  have x_1 := HW.out.2.1.cell 1
  have x_2 := HW.out.2.1.cell 2
  have x_3 := HW.out.2.1.cell 3
  have x_4 := HW.out.2.1.cell 4
  have x_5 := HW.out.2.1.cell 5
  have x_6 := HW.out.2.1.cell 6
  have x_7 := HW.out.2.1.cell 7
  have x_8 := HW.out.2.1.cell 8
  have x_9 := HW.out.2.1.cell 9
  have y_0 := HW.out.2.2.1.cell 0
  have y_1 := HW.out.2.2.1.cell 1
  have y_2 := HW.out.2.2.1.cell 2
  have y_3 := HW.out.2.2.1.cell 3
  have y_4 := HW.out.2.2.1.cell 4
  have y_5 := HW.out.2.2.1.cell 5
  have y_6 := HW.out.2.2.1.cell 6
  have y_7 := HW.out.2.2.1.cell 7
  have y_8 := HW.out.2.2.1.cell 8
  have y_9 := HW.out.2.2.1.cell 9
  have y_10 := HW.out.2.2.1.cell 10
  have HSl := hide (show Slt wc (.agg #[.slice ab n cb, .slice aD k cD, .bool p, .bool r, .bool l]) n F D p r l from ⟨ab, cb, aD, k, cD, rfl, HM.out⟩)
  go_wp2_with fail
  refine (rclass_c _ _).mono ?_
  rintro e w6 ⟨rfl, hw⟩
  have hw2 := hw.symm
  subst hw2
  clear hw
  by_cases hk : classI c.1 = 3
  · have ek : (classI c.1 == 3) = true := by simp [hk]
    have EF : Hid (blkF n F D p r cc c S i X = F) := by rw [Hid, blkF, if_pos (.inr hk)]
    have ED : Hid (blkD n F D p r cc c S i X = D) := by rw [Hid, blkD, if_pos (.inr hk)]
    have ES0 : Hid (blkS n F D p r cc c S i X = if checkS n D p r A 1 false = (0, 0, 0) ∧ (rdL n F D (checkS n D p r A 1 false) A 1).take 64 ≠ X then (14, 29, 0) else checkS n D p r A 1 false) := by
      rw [Hid, blkS, if_neg (by rw [HS.out]; simp), if_pos hk, HE.out]
    clear hk
    go_wp2_with fail
    refine (rread5_c A 1 _ HSl.out (by omega)).mono ?_
    rintro e w6 ⟨vo, rfl, hl, hvo⟩
    replace HW := hide (HW.out.later hl)
    replace HM := hide (HM.out.later hl)
    replace HB := hide (HB.out.later hl)
    have VO := hide hvo
    clear hl hvo HSl
    clear x_0 x_1 x_2 x_3 x_4 x_5 x_6 x_7 x_8 x_9
    clear y_0 y_1 y_2 y_3 y_4 y_5 y_6 y_7 y_8 y_9 y_10
    have HLen : Hid (checkS n D p r A 1 false = (0, 0, 0) → 64 ≤ (rdL n F D (checkS n D p r A 1 false) A 1).length) := fun h => rdL_64 HM.out A h
    generalize checkS n D p r A 1 false = S1 at *
    generalize hO : rdL n F D S1 A 1 = O at *
    have HO := hide hO
    clear hO
    go_wp2_with (refine wpList_newAS rfl rfl rfl rfl 12 11 rfl rfl (by simp) (by decide) (.tmp 45) (.tmp 46) (by simp) (by simp) (by simp) rfl rfl rfl _ S1 rfl rfl ?_)
    intro g12 w7 hB12 hl hg
    have hg12 : Hid (w.heap.size + 4 < g12) := by
      obtain ⟨_, _, _, b4⟩ := HW.out.2.2.2.2.2
      rw [Hid, hg.out]; exact b4.lt
    replace HW := hide (HW.out.later hl)
    replace HM := hide (HM.out.later hl)
    replace HB := hide (HB.out.later hl)
    replace VO := hide (VO.out.later hl)
    have B12 := hide hB12
    clear hl hg hB12
    have s0 := B12.out.cell 0
    have s1 := B12.out.cell 1
    have s2 := B12.out.cell 2
    go_wp2_with (refine wpList_storeU rfl 30 (.tmp 48) (.tmp 47) rfl (w.heap.size + 1) 8 rfl (sc S1) rfl Try.info_sense (sc_one _) _ _ HW.out.2.2.1 (by simp) ?_)
    intro w8 h8
    clear s0 s1 s2
    have HA := HW.out.setS S1
    have HM2 := HM.out.setNoB HA.2.choose_spec.2 HA.2.choose_spec.1 (sc S1) 8
    have HB2 := HB.out.setNoB HA.2.choose_spec.2 HA.2.choose_spec.1 (sc S1) 8
    have VO2 := VO.out.setNoB HA.2.choose_spec.2 HA.2.choose_spec.1 (sc S1) 8
    have B122 := B12.out.apart (w.heap.size + 1) (by have := hg12.out; omega) (sc S1) 8
    rw [← h8.out] at HA HM2 HB2 VO2 B122
    replace HW := hide HA.1
    replace HM := hide HM2
    replace HB := hide HB2
    replace VO := hide VO2
    replace B12 := hide B122
    clear HA HM2 HB2 VO2 B122 h8
    go_wp2_with fail
    have hc := fun r => ((Later.refl w8).drew.trans (later_rg w8.drew r))
    have s0 := fun r => (B12.out.later (hc r)).cell 0
    have s1 := fun r => (B12.out.later (hc r)).cell 1
    have s2 := fun r => (B12.out.later (hc r)).cell 2
    refine wp_region_sched ((List.range 9).map fun i => (i, false)) (by kernel_rfl) (by kernel_rfl) (by kernel_rfl) (by kernel_rfl) ?_
    simp only [List.range, List.range.loop, List.map, List.cons_append, List.nil_append]
    iterate 2 (refine wpS_mild rfl (fun K hK => ?_); go_simp; refine hK _ ?_; clear hK K)
    by_cases h1 : S1 = (0, 0, 0)
    case neg =>
      have eS1 : (S1 == (0, 0, 0)) = false := by simpa using h1
      have ES : Hid (blkS n F D p r cc c S i X = S1) := by rw [Hid, ES0.out, if_neg (fun h => h1 h.1)]
      clear ES0 h1 HLen
      refine wpS_eqG rfl (by kernel_rfl) 30 _ (.tmp 49) (.tmp 50) rfl _ _ rfl rfl Try.guard_sense false (fun w => by rw [← eS1]; exact sense_eq S1 (0, 0, 0) w) ?_
      iterate 6 (refine wpS_mild rfl (fun K hK => ?_); go_simp; refine hK _ ?_; clear hK K)
      refine wpS_nil (fun wx hwx => ?_)
      have hlx := (Later.refl w8).drew.trans hwx
      replace HW := hide (HW.out.later hlx)
      replace HM := hide (HM.out.later hlx)
      replace HB := hide (HB.out.later hlx)
      clear hwx hlx s0 s1 s2 hc B12 VO
      go_wp2_with fail
      refine wp_region_held (BlkW w ab n cb aD k cD p r l cc am m cm s c len took ar kr cr S1 X) (fun a b hl h => h.later hl) HW.out [(0, false), (1, false), (2, true), (3, true)] (by kernel_rfl) (by kernel_rfl) (by kernel_rfl) (by kernel_rfl) ?_
      haveI : Nonempty (Held (BlkW w ab n cb aD k cD p r l cc am m cm s c len took ar kr cr S1 X)) := ⟨⟨_, HW.out⟩⟩
      have x_0 := fun q : Held ((BlkW w ab n cb aD k cD p r l cc am m cm s c len took ar kr cr S1 X)) => q.h.2.1.cell 0
      have x_1 := fun q : Held ((BlkW w ab n cb aD k cD p r l cc am m cm s c len took ar kr cr S1 X)) => q.h.2.1.cell 1
      have x_2 := fun q : Held ((BlkW w ab n cb aD k cD p r l cc am m cm s c len took ar kr cr S1 X)) => q.h.2.1.cell 2
      have x_3 := fun q : Held ((BlkW w ab n cb aD k cD p r l cc am m cm s c len took ar kr cr S1 X)) => q.h.2.1.cell 3
      have x_4 := fun q : Held ((BlkW w ab n cb aD k cD p r l cc am m cm s c len took ar kr cr S1 X)) => q.h.2.1.cell 4
      have x_5 := fun q : Held ((BlkW w ab n cb aD k cD p r l cc am m cm s c len took ar kr cr S1 X)) => q.h.2.1.cell 5
      have x_6 := fun q : Held ((BlkW w ab n cb aD k cD p r l cc am m cm s c len took ar kr cr S1 X)) => q.h.2.1.cell 6
      have x_7 := fun q : Held ((BlkW w ab n cb aD k cD p r l cc am m cm s c len took ar kr cr S1 X)) => q.h.2.1.cell 7
      have x_8 := fun q : Held ((BlkW w ab n cb aD k cD p r l cc am m cm s c len took ar kr cr S1 X)) => q.h.2.1.cell 8
      have x_9 := fun q : Held ((BlkW w ab n cb aD k cD p r l cc am m cm s c len took ar kr cr S1 X)) => q.h.2.1.cell 9
      have y_0 := fun q : Held ((BlkW w ab n cb aD k cD p r l cc am m cm s c len took ar kr cr S1 X)) => q.h.2.2.1.cell 0
      have y_1 := fun q : Held ((BlkW w ab n cb aD k cD p r l cc am m cm s c len took ar kr cr S1 X)) => q.h.2.2.1.cell 1
      have y_2 := fun q : Held ((BlkW w ab n cb aD k cD p r l cc am m cm s c len took ar kr cr S1 X)) => q.h.2.2.1.cell 2
      have y_3 := fun q : Held ((BlkW w ab n cb aD k cD p r l cc am m cm s c len took ar kr cr S1 X)) => q.h.2.2.1.cell 3
      have y_4 := fun q : Held ((BlkW w ab n cb aD k cD p r l cc am m cm s c len took ar kr cr S1 X)) => q.h.2.2.1.cell 4
      have y_5 := fun q : Held ((BlkW w ab n cb aD k cD p r l cc am m cm s c len took ar kr cr S1 X)) => q.h.2.2.1.cell 5
      have y_6 := fun q : Held ((BlkW w ab n cb aD k cD p r l cc am m cm s c len took ar kr cr S1 X)) => q.h.2.2.1.cell 6
      have y_7 := fun q : Held ((BlkW w ab n cb aD k cD p r l cc am m cm s c len took ar kr cr S1 X)) => q.h.2.2.1.cell 7
      have y_8 := fun q : Held ((BlkW w ab n cb aD k cD p r l cc am m cm s c len took ar kr cr S1 X)) => q.h.2.2.1.cell 8
      have y_9 := fun q : Held ((BlkW w ab n cb aD k cD p r l cc am m cm s c len took ar kr cr S1 X)) => q.h.2.2.1.cell 9
      have y_10 := fun q : Held ((BlkW w ab n cb aD k cD p r l cc am m cm s c len took ar kr cr S1 X)) => q.h.2.2.1.cell 10
      replace HW := hide (HW.out.later (Later.refl _).drew)
      replace HM := hide (HM.out.later (Later.refl _).drew)
      replace HB := hide (HB.out.later (Later.refl _).drew)
      iterate 2 (refine wpJ_mild rfl (fun K hK => ?_); go_simp; refine hK _ ?_; clear hK K)
      obtain ⟨c3, n3, l3, b3⟩ := HW.out.2.2.2.2.1
      refine wpJ_store rfl rfl 32 (.tmp 8) (.tmp 60) rfl (w.heap.size + 3) (uc ab n cb aD k cD p r l cc am m cm s) rfl rfl Try.info_unit (uc_one _ _ _ _ _ _ _ _ _ _ _ _ _ _) _ c3 b3 (by simp [l3]) (fun W hW => ((HW.out.later hW).setU _ (uc_nob _ _ _ _ _ _ _ _ _ _ _ _ _ _) rfl).1) ?_
      intro wl hl wz hz
      have HA := (HW.out.later hl).setU (uc ab n cb aD k cD p r l cc am m cm s) (uc_nob _ _ _ _ _ _ _ _ _ _ _ _ _ _) rfl
      have HM2 := (HM.out.later hl).setNoB HA.2.2.choose_spec.2 HA.2.2.choose_spec.1 (uc ab n cb aD k cD p r l cc am m cm s) 0
      have HB2 := (HB.out.later hl).setNoB HA.2.2.choose_spec.2 HA.2.2.choose_spec.1 (uc ab n cb aD k cD p r l cc am m cm s) 0
      rw [← hz.out] at HA HM2 HB2
      replace HW := hide HA.1
      have B3 := hide HA.2.1
      replace HM := hide HM2
      replace HB := hide HB2
      clear HA HM2 HB2 hz hl b3 n3 l3
      obtain ⟨c4, n4, l4, b4⟩ := HW.out.2.2.2.2.2
      refine wpJ_store rfl rfl 38 (.tmp 9) (.tmp 61) rfl (w.heap.size + 4) (jc c len took ar kr cr S1) rfl rfl Try.info_job (jc_one _ _ _ _ _ _ _) _ c4 b4 (by simp [l4]) (fun W hW => ((HW.out.later hW).setJ _ (jc_nob _ _ _ _ _ _ _) rfl).1) ?_
      intro wl hl wy hy
      have HA := (HW.out.later hl).setJ (jc c len took ar kr cr S1) (jc_nob _ _ _ _ _ _ _) rfl
      have HM2 := (HM.out.later hl).setNoB HA.2.2.choose_spec.2 HA.2.2.choose_spec.1 (jc c len took ar kr cr S1) 0
      have HB2 := (HB.out.later hl).setNoB HA.2.2.choose_spec.2 HA.2.2.choose_spec.1 (jc c len took ar kr cr S1) 0
      have B32 := (B3.out.later hl).apart (w.heap.size + 4) (by omega) (jc c len took ar kr cr S1) 0
      rw [← hy.out] at HA HM2 HB2 B32
      replace HW := hide HA.1
      have B4 := hide HA.2.1
      replace B3 := hide B32
      replace HM := hide HM2
      replace HB := hide HB2
      clear HA HM2 HB2 B32 hy hl b4 n4 l4
      refine wpJ_nil (fun wn hn => ?_)
      replace HW := hide (HW.out.later hn)
      replace B3 := hide (B3.out.later hn)
      replace B4 := hide (B4.out.later hn)
      replace HM := hide (HM.out.later hn)
      replace HB := hide (HB.out.later hn)
      clear hn
      clear x_0 x_1 x_2 x_3 x_4 x_5 x_6 x_7 x_8 x_9
      clear y_0 y_1 y_2 y_3 y_4 y_5 y_6 y_7 y_8 y_9 y_10
      go_wp2
      refine bodyPost_ret (results_cell_cell' rfl _ _ _ (w.heap.size + 3) 0 (w.heap.size + 4) 0 rfl rfl _ _ (load_unit B3.out rfl) (load_job B4.out rfl)) rfl ⟨_, _, rfl, HW.out.1, ⟨_, _, _, _, _, rfl, by rw [EF.out, ED.out]; exact HM.out⟩, ⟨_, _, by rw [ES.out, HK.out], by rw [← HK.out]; exact HB.out⟩⟩
    have eS1 : (S1 == (0, 0, 0)) = true := by simp [h1]
    have HO64 := hide (HLen.out h1)
    have HS1 := hide h1
    clear h1 HLen
    refine wpS_eqG rfl (by kernel_rfl) 30 _ (.tmp 49) (.tmp 50) rfl _ _ rfl rfl Try.guard_sense true (fun w => by rw [← eS1]; exact sense_eq S1 (0, 0, 0) w) ?_
    iterate 2 (refine wpS_mild rfl (fun K hK => ?_); go_simp; refine hK _ ?_; clear hK K)
    refine wpS_call rfl (by kernel_rfl) 31 (Plain.of (by kernel_rfl)) [.tmp 53, .const (.int .i64 0)] _ rfl [vo, .int .i64 0] rfl (.agg (bv (seg O 0 64)).toArray) (fun wx hx => of_c 0 wx (VO.out.later ((Later.refl w8).drew.trans hx)) (by have := HO64.out; omega)) ?_
    refine wpS_loadG rfl (by kernel_rfl) 58 (.tmp 7) rfl (w.heap.size + 2) 0 rfl (bv X) _ ((World.rangeAt_drew _ _ _ _).2 HW.out.2.2.2.1.range) Try.underlying58 rfl (by rw [Try.info_block, bv_length, HX.out]) ?_
    have hso : (seg O 0 64).length = 64 := seg_length _ _ _ (by have := HO64.out; omega)
    refine wpS_neqG rfl (by kernel_rfl) 58 _ (.tmp 54) (.tmp 55) rfl _ _ rfl rfl Try.guard_block (seg O 0 64 == X) (fun w => block_eq _ _ hso HX.out w) ?_
    iterate 1 (refine wpS_mild rfl (fun K hK => ?_); go_simp; refine hK _ ?_; clear hK K)
    refine wpS_nil (fun wx hwx => ?_)
    have hlx := (Later.refl w8).drew.trans hwx
    replace HW := hide (HW.out.later hlx)
    replace HM := hide (HM.out.later hlx)
    replace HB := hide (HB.out.later hlx)
    clear hwx hlx s0 s1 s2 hc B12 VO hso
    have hto : seg O 0 64 = O.take 64 := by simp [seg]
    rw [hto]
    clear hto
    cases hq : (O.take 64 == X) with
    | true =>
      have ES : Hid (blkS n F D p r cc c S i X = S1) := by rw [Hid, ES0.out, if_neg (fun h => h.2 (by simpa using hq))]
      clear ES0 hq
      go_wp2_with fail
      refine wp_region_held (BlkW w ab n cb aD k cD p r l cc am m cm s c len took ar kr cr S1 X) (fun a b hl h => h.later hl) HW.out [(0, false), (1, false), (2, true), (3, true)] (by kernel_rfl) (by kernel_rfl) (by kernel_rfl) (by kernel_rfl) ?_
      haveI : Nonempty (Held (BlkW w ab n cb aD k cD p r l cc am m cm s c len took ar kr cr S1 X)) := ⟨⟨_, HW.out⟩⟩
      have x_0 := fun q : Held ((BlkW w ab n cb aD k cD p r l cc am m cm s c len took ar kr cr S1 X)) => q.h.2.1.cell 0
      have x_1 := fun q : Held ((BlkW w ab n cb aD k cD p r l cc am m cm s c len took ar kr cr S1 X)) => q.h.2.1.cell 1
      have x_2 := fun q : Held ((BlkW w ab n cb aD k cD p r l cc am m cm s c len took ar kr cr S1 X)) => q.h.2.1.cell 2
      have x_3 := fun q : Held ((BlkW w ab n cb aD k cD p r l cc am m cm s c len took ar kr cr S1 X)) => q.h.2.1.cell 3
      have x_4 := fun q : Held ((BlkW w ab n cb aD k cD p r l cc am m cm s c len took ar kr cr S1 X)) => q.h.2.1.cell 4
      have x_5 := fun q : Held ((BlkW w ab n cb aD k cD p r l cc am m cm s c len took ar kr cr S1 X)) => q.h.2.1.cell 5
      have x_6 := fun q : Held ((BlkW w ab n cb aD k cD p r l cc am m cm s c len took ar kr cr S1 X)) => q.h.2.1.cell 6
      have x_7 := fun q : Held ((BlkW w ab n cb aD k cD p r l cc am m cm s c len took ar kr cr S1 X)) => q.h.2.1.cell 7
      have x_8 := fun q : Held ((BlkW w ab n cb aD k cD p r l cc am m cm s c len took ar kr cr S1 X)) => q.h.2.1.cell 8
      have x_9 := fun q : Held ((BlkW w ab n cb aD k cD p r l cc am m cm s c len took ar kr cr S1 X)) => q.h.2.1.cell 9
      have y_0 := fun q : Held ((BlkW w ab n cb aD k cD p r l cc am m cm s c len took ar kr cr S1 X)) => q.h.2.2.1.cell 0
      have y_1 := fun q : Held ((BlkW w ab n cb aD k cD p r l cc am m cm s c len took ar kr cr S1 X)) => q.h.2.2.1.cell 1
      have y_2 := fun q : Held ((BlkW w ab n cb aD k cD p r l cc am m cm s c len took ar kr cr S1 X)) => q.h.2.2.1.cell 2
      have y_3 := fun q : Held ((BlkW w ab n cb aD k cD p r l cc am m cm s c len took ar kr cr S1 X)) => q.h.2.2.1.cell 3
      have y_4 := fun q : Held ((BlkW w ab n cb aD k cD p r l cc am m cm s c len took ar kr cr S1 X)) => q.h.2.2.1.cell 4
      have y_5 := fun q : Held ((BlkW w ab n cb aD k cD p r l cc am m cm s c len took ar kr cr S1 X)) => q.h.2.2.1.cell 5
      have y_6 := fun q : Held ((BlkW w ab n cb aD k cD p r l cc am m cm s c len took ar kr cr S1 X)) => q.h.2.2.1.cell 6
      have y_7 := fun q : Held ((BlkW w ab n cb aD k cD p r l cc am m cm s c len took ar kr cr S1 X)) => q.h.2.2.1.cell 7
      have y_8 := fun q : Held ((BlkW w ab n cb aD k cD p r l cc am m cm s c len took ar kr cr S1 X)) => q.h.2.2.1.cell 8
      have y_9 := fun q : Held ((BlkW w ab n cb aD k cD p r l cc am m cm s c len took ar kr cr S1 X)) => q.h.2.2.1.cell 9
      have y_10 := fun q : Held ((BlkW w ab n cb aD k cD p r l cc am m cm s c len took ar kr cr S1 X)) => q.h.2.2.1.cell 10
      replace HW := hide (HW.out.later (Later.refl _).drew)
      replace HM := hide (HM.out.later (Later.refl _).drew)
      replace HB := hide (HB.out.later (Later.refl _).drew)
      iterate 2 (refine wpJ_mild rfl (fun K hK => ?_); go_simp; refine hK _ ?_; clear hK K)
      obtain ⟨c3, n3, l3, b3⟩ := HW.out.2.2.2.2.1
      refine wpJ_store rfl rfl 32 (.tmp 8) (.tmp 60) rfl (w.heap.size + 3) (uc ab n cb aD k cD p r l cc am m cm s) rfl rfl Try.info_unit (uc_one _ _ _ _ _ _ _ _ _ _ _ _ _ _) _ c3 b3 (by simp [l3]) (fun W hW => ((HW.out.later hW).setU _ (uc_nob _ _ _ _ _ _ _ _ _ _ _ _ _ _) rfl).1) ?_
      intro wl hl wz hz
      have HA := (HW.out.later hl).setU (uc ab n cb aD k cD p r l cc am m cm s) (uc_nob _ _ _ _ _ _ _ _ _ _ _ _ _ _) rfl
      have HM2 := (HM.out.later hl).setNoB HA.2.2.choose_spec.2 HA.2.2.choose_spec.1 (uc ab n cb aD k cD p r l cc am m cm s) 0
      have HB2 := (HB.out.later hl).setNoB HA.2.2.choose_spec.2 HA.2.2.choose_spec.1 (uc ab n cb aD k cD p r l cc am m cm s) 0
      rw [← hz.out] at HA HM2 HB2
      replace HW := hide HA.1
      have B3 := hide HA.2.1
      replace HM := hide HM2
      replace HB := hide HB2
      clear HA HM2 HB2 hz hl b3 n3 l3
      obtain ⟨c4, n4, l4, b4⟩ := HW.out.2.2.2.2.2
      refine wpJ_store rfl rfl 38 (.tmp 9) (.tmp 61) rfl (w.heap.size + 4) (jc c len took ar kr cr S1) rfl rfl Try.info_job (jc_one _ _ _ _ _ _ _) _ c4 b4 (by simp [l4]) (fun W hW => ((HW.out.later hW).setJ _ (jc_nob _ _ _ _ _ _ _) rfl).1) ?_
      intro wl hl wy hy
      have HA := (HW.out.later hl).setJ (jc c len took ar kr cr S1) (jc_nob _ _ _ _ _ _ _) rfl
      have HM2 := (HM.out.later hl).setNoB HA.2.2.choose_spec.2 HA.2.2.choose_spec.1 (jc c len took ar kr cr S1) 0
      have HB2 := (HB.out.later hl).setNoB HA.2.2.choose_spec.2 HA.2.2.choose_spec.1 (jc c len took ar kr cr S1) 0
      have B32 := (B3.out.later hl).apart (w.heap.size + 4) (by omega) (jc c len took ar kr cr S1) 0
      rw [← hy.out] at HA HM2 HB2 B32
      replace HW := hide HA.1
      have B4 := hide HA.2.1
      replace B3 := hide B32
      replace HM := hide HM2
      replace HB := hide HB2
      clear HA HM2 HB2 B32 hy hl b4 n4 l4
      refine wpJ_nil (fun wn hn => ?_)
      replace HW := hide (HW.out.later hn)
      replace B3 := hide (B3.out.later hn)
      replace B4 := hide (B4.out.later hn)
      replace HM := hide (HM.out.later hn)
      replace HB := hide (HB.out.later hn)
      clear hn
      clear x_0 x_1 x_2 x_3 x_4 x_5 x_6 x_7 x_8 x_9
      clear y_0 y_1 y_2 y_3 y_4 y_5 y_6 y_7 y_8 y_9 y_10
      go_wp2
      refine bodyPost_ret (results_cell_cell' rfl _ _ _ (w.heap.size + 3) 0 (w.heap.size + 4) 0 rfl rfl _ _ (load_unit B3.out rfl) (load_job B4.out rfl)) rfl ⟨_, _, rfl, HW.out.1, ⟨_, _, _, _, _, rfl, by rw [EF.out, ED.out]; exact HM.out⟩, ⟨_, _, by rw [ES.out, HK.out], by rw [← HK.out]; exact HB.out⟩⟩
    | false =>
      have ES : Hid (blkS n F D p r cc c S i X = (14, 29, 0)) := by rw [Hid, ES0.out, if_pos ⟨HS1.out, by simpa using hq⟩]
      clear ES0 hq
      go_wp2_with fail
      refine (rof_c 14 29 0 _).mono ?_
      rintro e wv ⟨rfl, hl⟩
      replace HW := hide (HW.out.later hl)
      replace HM := hide (HM.out.later hl)
      replace HB := hide (HB.out.later hl)
      clear hl
      go_wp2_with (refine wpList_storeU rfl 30 (.tmp 59) (.tmp 58) rfl (w.heap.size + 1) 8 rfl (sc (14, 29, 0)) rfl Try.info_sense (sc_one _) _ _ HW.out.2.2.1 (by simp) ?_)
      intro wt ht
      have HA := HW.out.setS (14, 29, 0)
      have HM2 := HM.out.setNoB HA.2.choose_spec.2 HA.2.choose_spec.1 (sc (14, 29, 0)) 8
      have HB2 := HB.out.setNoB HA.2.choose_spec.2 HA.2.choose_spec.1 (sc (14, 29, 0)) 8
      rw [← ht.out] at HA HM2 HB2
      replace HW := hide HA.1
      replace HM := hide HM2
      replace HB := hide HB2
      clear HA HM2 HB2 ht
      go_wp2_with fail
      refine wp_region_held (BlkW w ab n cb aD k cD p r l cc am m cm s c len took ar kr cr (14, 29, 0) X) (fun a b hl h => h.later hl) HW.out [(0, false), (1, false), (2, true), (3, true)] (by kernel_rfl) (by kernel_rfl) (by kernel_rfl) (by kernel_rfl) ?_
      haveI : Nonempty (Held (BlkW w ab n cb aD k cD p r l cc am m cm s c len took ar kr cr (14, 29, 0) X)) := ⟨⟨_, HW.out⟩⟩
      have x_0 := fun q : Held ((BlkW w ab n cb aD k cD p r l cc am m cm s c len took ar kr cr (14, 29, 0) X)) => q.h.2.1.cell 0
      have x_1 := fun q : Held ((BlkW w ab n cb aD k cD p r l cc am m cm s c len took ar kr cr (14, 29, 0) X)) => q.h.2.1.cell 1
      have x_2 := fun q : Held ((BlkW w ab n cb aD k cD p r l cc am m cm s c len took ar kr cr (14, 29, 0) X)) => q.h.2.1.cell 2
      have x_3 := fun q : Held ((BlkW w ab n cb aD k cD p r l cc am m cm s c len took ar kr cr (14, 29, 0) X)) => q.h.2.1.cell 3
      have x_4 := fun q : Held ((BlkW w ab n cb aD k cD p r l cc am m cm s c len took ar kr cr (14, 29, 0) X)) => q.h.2.1.cell 4
      have x_5 := fun q : Held ((BlkW w ab n cb aD k cD p r l cc am m cm s c len took ar kr cr (14, 29, 0) X)) => q.h.2.1.cell 5
      have x_6 := fun q : Held ((BlkW w ab n cb aD k cD p r l cc am m cm s c len took ar kr cr (14, 29, 0) X)) => q.h.2.1.cell 6
      have x_7 := fun q : Held ((BlkW w ab n cb aD k cD p r l cc am m cm s c len took ar kr cr (14, 29, 0) X)) => q.h.2.1.cell 7
      have x_8 := fun q : Held ((BlkW w ab n cb aD k cD p r l cc am m cm s c len took ar kr cr (14, 29, 0) X)) => q.h.2.1.cell 8
      have x_9 := fun q : Held ((BlkW w ab n cb aD k cD p r l cc am m cm s c len took ar kr cr (14, 29, 0) X)) => q.h.2.1.cell 9
      have y_0 := fun q : Held ((BlkW w ab n cb aD k cD p r l cc am m cm s c len took ar kr cr (14, 29, 0) X)) => q.h.2.2.1.cell 0
      have y_1 := fun q : Held ((BlkW w ab n cb aD k cD p r l cc am m cm s c len took ar kr cr (14, 29, 0) X)) => q.h.2.2.1.cell 1
      have y_2 := fun q : Held ((BlkW w ab n cb aD k cD p r l cc am m cm s c len took ar kr cr (14, 29, 0) X)) => q.h.2.2.1.cell 2
      have y_3 := fun q : Held ((BlkW w ab n cb aD k cD p r l cc am m cm s c len took ar kr cr (14, 29, 0) X)) => q.h.2.2.1.cell 3
      have y_4 := fun q : Held ((BlkW w ab n cb aD k cD p r l cc am m cm s c len took ar kr cr (14, 29, 0) X)) => q.h.2.2.1.cell 4
      have y_5 := fun q : Held ((BlkW w ab n cb aD k cD p r l cc am m cm s c len took ar kr cr (14, 29, 0) X)) => q.h.2.2.1.cell 5
      have y_6 := fun q : Held ((BlkW w ab n cb aD k cD p r l cc am m cm s c len took ar kr cr (14, 29, 0) X)) => q.h.2.2.1.cell 6
      have y_7 := fun q : Held ((BlkW w ab n cb aD k cD p r l cc am m cm s c len took ar kr cr (14, 29, 0) X)) => q.h.2.2.1.cell 7
      have y_8 := fun q : Held ((BlkW w ab n cb aD k cD p r l cc am m cm s c len took ar kr cr (14, 29, 0) X)) => q.h.2.2.1.cell 8
      have y_9 := fun q : Held ((BlkW w ab n cb aD k cD p r l cc am m cm s c len took ar kr cr (14, 29, 0) X)) => q.h.2.2.1.cell 9
      have y_10 := fun q : Held ((BlkW w ab n cb aD k cD p r l cc am m cm s c len took ar kr cr (14, 29, 0) X)) => q.h.2.2.1.cell 10
      replace HW := hide (HW.out.later (Later.refl _).drew)
      replace HM := hide (HM.out.later (Later.refl _).drew)
      replace HB := hide (HB.out.later (Later.refl _).drew)
      iterate 2 (refine wpJ_mild rfl (fun K hK => ?_); go_simp; refine hK _ ?_; clear hK K)
      obtain ⟨c3, n3, l3, b3⟩ := HW.out.2.2.2.2.1
      refine wpJ_store rfl rfl 32 (.tmp 8) (.tmp 60) rfl (w.heap.size + 3) (uc ab n cb aD k cD p r l cc am m cm s) rfl rfl Try.info_unit (uc_one _ _ _ _ _ _ _ _ _ _ _ _ _ _) _ c3 b3 (by simp [l3]) (fun W hW => ((HW.out.later hW).setU _ (uc_nob _ _ _ _ _ _ _ _ _ _ _ _ _ _) rfl).1) ?_
      intro wl hl wz hz
      have HA := (HW.out.later hl).setU (uc ab n cb aD k cD p r l cc am m cm s) (uc_nob _ _ _ _ _ _ _ _ _ _ _ _ _ _) rfl
      have HM2 := (HM.out.later hl).setNoB HA.2.2.choose_spec.2 HA.2.2.choose_spec.1 (uc ab n cb aD k cD p r l cc am m cm s) 0
      have HB2 := (HB.out.later hl).setNoB HA.2.2.choose_spec.2 HA.2.2.choose_spec.1 (uc ab n cb aD k cD p r l cc am m cm s) 0
      rw [← hz.out] at HA HM2 HB2
      replace HW := hide HA.1
      have B3 := hide HA.2.1
      replace HM := hide HM2
      replace HB := hide HB2
      clear HA HM2 HB2 hz hl b3 n3 l3
      obtain ⟨c4, n4, l4, b4⟩ := HW.out.2.2.2.2.2
      refine wpJ_store rfl rfl 38 (.tmp 9) (.tmp 61) rfl (w.heap.size + 4) (jc c len took ar kr cr (14, 29, 0)) rfl rfl Try.info_job (jc_one _ _ _ _ _ _ _) _ c4 b4 (by simp [l4]) (fun W hW => ((HW.out.later hW).setJ _ (jc_nob _ _ _ _ _ _ _) rfl).1) ?_
      intro wl hl wy hy
      have HA := (HW.out.later hl).setJ (jc c len took ar kr cr (14, 29, 0)) (jc_nob _ _ _ _ _ _ _) rfl
      have HM2 := (HM.out.later hl).setNoB HA.2.2.choose_spec.2 HA.2.2.choose_spec.1 (jc c len took ar kr cr (14, 29, 0)) 0
      have HB2 := (HB.out.later hl).setNoB HA.2.2.choose_spec.2 HA.2.2.choose_spec.1 (jc c len took ar kr cr (14, 29, 0)) 0
      have B32 := (B3.out.later hl).apart (w.heap.size + 4) (by omega) (jc c len took ar kr cr (14, 29, 0)) 0
      rw [← hy.out] at HA HM2 HB2 B32
      replace HW := hide HA.1
      have B4 := hide HA.2.1
      replace B3 := hide B32
      replace HM := hide HM2
      replace HB := hide HB2
      clear HA HM2 HB2 B32 hy hl b4 n4 l4
      refine wpJ_nil (fun wn hn => ?_)
      replace HW := hide (HW.out.later hn)
      replace B3 := hide (B3.out.later hn)
      replace B4 := hide (B4.out.later hn)
      replace HM := hide (HM.out.later hn)
      replace HB := hide (HB.out.later hn)
      clear hn
      clear x_0 x_1 x_2 x_3 x_4 x_5 x_6 x_7 x_8 x_9
      clear y_0 y_1 y_2 y_3 y_4 y_5 y_6 y_7 y_8 y_9 y_10
      go_wp2
      refine bodyPost_ret (results_cell_cell' rfl _ _ _ (w.heap.size + 3) 0 (w.heap.size + 4) 0 rfl rfl _ _ (load_unit B3.out rfl) (load_job B4.out rfl)) rfl ⟨_, _, rfl, HW.out.1, ⟨_, _, _, _, _, rfl, by rw [EF.out, ED.out]; exact HM.out⟩, ⟨_, _, by rw [ES.out, HK.out], by rw [← HK.out]; exact HB.out⟩⟩
  have ek : (classI c.1 == 3) = false := by simp [hk]
  have EF0 : Hid (blkF n F D p r cc c S i X = ptF n F D (putS n D p r A) A X (thJ c cc)) := by rw [Hid, blkF, if_neg (by rw [HS.out]; simp [hk]), HE.out]
  have ED0 : Hid (blkD n F D p r cc c S i X = ptD n D (putS n D p r A) A X (thJ c cc)) := by rw [Hid, blkD, if_neg (by rw [HS.out]; simp [hk]), HE.out]
  have ES0 : Hid (blkS n F D p r cc c S i X = putS n D p r A) := by rw [Hid, blkS, if_neg (by rw [HS.out]; simp), if_neg hk, HE.out]
  clear hk
  have hwA : IntKind.i64.wrap (A : Int) = (A : Int) := by rw [IntKind.wrap_i64]; omega
  by_cases hb5 : c.2.2.2.2 = 1
  · have e5 : (c.2.2.2.2 == 1) = true := by simp [hb5]
    have ET : Hid (thJ c cc = true) := by rw [Hid, thJ, e5]; rfl
    clear hb5
    go_wp2_with (refine wpList_load_mid rfl 58 (.tmp 7) rfl (w.heap.size + 2) 0 rfl (bv X) _ HW.out.2.2.2.1.range Try.underlying58 rfl (by rw [Try.info_block, bv_length, HX.out]) ?_)
    refine (rput5_c (A : Int) X true _ HSl.out HX.out (by omega) (by omega)).mono ?_
    rintro e w6 ⟨vo, rfl, hl, hvo⟩
    replace HW := hide (HW.out.later hl)
    replace HB := hide (HB.out.later hl)
    clear hl HSl HM
    clear x_0 x_1 x_2 x_3 x_4 x_5 x_6 x_7 x_8 x_9
    clear y_0 y_1 y_2 y_3 y_4 y_5 y_6 y_7 y_8 y_9 y_10
    rw [← ET.out] at hvo
    generalize ptF n F D (putS n D p r A) A X (thJ c cc) = F2 at *
    generalize ptD n D (putS n D p r A) A X (thJ c cc) = D2 at *
    generalize putS n D p r A = S2 at *
    obtain ⟨a2, c2, b2, k2, d2, rfl, hm2⟩ := hvo
    have HM := hide hm2
    clear hm2
    go_wp2_with (refine wpList_newTS rfl rfl rfl rfl rfl rfl 13 14 rfl rfl (by simp) (by simp) (by decide) (.tmp 78) (.tmp 79) (by simp) (by simp) (by simp) (by simp) rfl rfl rfl rfl a2 b2 n c2 k2 d2 p r l S2 rfl rfl ?_)
    intro g1 g2 w7 hB hB2 hl hg
    have HI : Hid (BkI w g1 g2 a2 b2 n k2 c2 d2 p r l S2 w7) := ⟨HW.out.1.trans hl, hB, hB2, by obtain ⟨_, _, _, b4⟩ := HW.out.2.2.2.2.2; rw [hg.out.1]; exact b4.lt, by rw [hg.out.1, hg.out.2]; omega⟩
    replace HW := hide (HW.out.later hl)
    replace HM := hide (HM.out.later hl)
    replace HB := hide (HB.out.later hl)
    clear hl hg hB hB2
    go_wp2_with fail
    refine wp_region_held (BkI w g1 g2 a2 b2 n k2 c2 d2 p r l S2) (fun a b hl h => h.later hl) HI.out [(0, false), (1, false), (2, false), (3, true), (4, false), (5, true)] (by kernel_rfl) (by kernel_rfl) (by kernel_rfl) (by kernel_rfl) ?_
    haveI : Nonempty (Held (BkI w g1 g2 a2 b2 n k2 c2 d2 p r l S2)) := ⟨⟨_, HI.out⟩⟩
    have z0 := fun q : Held (BkI w g1 g2 a2 b2 n k2 c2 d2 p r l S2) => q.h.2.1.cell 0
    have z1 := fun q : Held (BkI w g1 g2 a2 b2 n k2 c2 d2 p r l S2) => q.h.2.1.cell 1
    have z2 := fun q : Held (BkI w g1 g2 a2 b2 n k2 c2 d2 p r l S2) => q.h.2.1.cell 2
    have z3 := fun q : Held (BkI w g1 g2 a2 b2 n k2 c2 d2 p r l S2) => q.h.2.1.cell 3
    have z4 := fun q : Held (BkI w g1 g2 a2 b2 n k2 c2 d2 p r l S2) => q.h.2.1.cell 4
    have t0 := fun q : Held (BkI w g1 g2 a2 b2 n k2 c2 d2 p r l S2) => q.h.2.2.1.cell 0
    have t1 := fun q : Held (BkI w g1 g2 a2 b2 n k2 c2 d2 p r l S2) => q.h.2.2.1.cell 1
    have t2 := fun q : Held (BkI w g1 g2 a2 b2 n k2 c2 d2 p r l S2) => q.h.2.2.1.cell 2
    replace HI := hide (HI.out.later (Later.refl _).drew)
    replace HW := hide (HW.out.later (Later.refl _).drew)
    replace HM := hide (HM.out.later (Later.refl _).drew)
    replace HB := hide (HB.out.later (Later.refl _).drew)
    iterate 3 (refine wpJ_mild rfl (fun K hK => ?_); go_simp; refine hK _ ?_; clear hK K)
    clear z0 z1 z2 z3 z4 t0 t1 t2
    refine wpJ_storeO rfl rfl 27 (.tmp 82) (.tmp 80) rfl w.heap.size 0 (tc (.slice a2 n c2) (.slice b2 k2 d2) p r l) rfl rfl Try.info_slot (tc_one _ _ _ _ _ _ _ _ _) _ _ HW.out.2.1 (by simp) (fun W hW => (HI.out.later hW).set _ (Nat.le_refl _) (by omega) _ _) ?_
    intro wl hl wz hz
    have HA := (HW.out.later hl).setT a2 c2 b2 k2 d2
    have HI2 := (HI.out.later hl).set w.heap.size (Nat.le_refl _) (by omega) (tc (.slice a2 n c2) (.slice b2 k2 d2) p r l) 0
    have HM2 := (HM.out.later hl).setNoB HA.2.choose_spec.2 HA.2.choose_spec.1 (tc (.slice a2 n c2) (.slice b2 k2 d2) p r l) 0
    have HB2 := (HB.out.later hl).setNoB HA.2.choose_spec.2 HA.2.choose_spec.1 (tc (.slice a2 n c2) (.slice b2 k2 d2) p r l) 0
    rw [← hz.out] at HA HI2 HM2 HB2
    replace HW := hide HA.1
    replace HI := hide HI2
    replace HM := hide HM2
    replace HB := hide HB2
    clear HA HI2 HM2 HB2 hz hl
    iterate 1 (refine wpJ_mild rfl (fun K hK => ?_); go_simp; refine hK _ ?_; clear hK K)
    refine wpJ_storeO rfl rfl 30 (.tmp 83) (.tmp 81) rfl (w.heap.size + 1) 8 (sc S2) rfl rfl Try.info_sense (sc_one _) _ _ HW.out.2.2.1 (by simp) (fun W hW => (HI.out.later hW).set _ (by omega) (by omega) _ _) ?_
    intro wl hl wy hy
    have HA := (HW.out.later hl).setS S2
    have HM2 := (HM.out.later hl).setNoB HA.2.choose_spec.2 HA.2.choose_spec.1 (sc S2) 8
    have HB2 := (HB.out.later hl).setNoB HA.2.choose_spec.2 HA.2.choose_spec.1 (sc S2) 8
    rw [← hy.out] at HA HM2 HB2
    replace HW := hide HA.1
    replace HM := hide HM2
    replace HB := hide HB2
    clear HA HM2 HB2 hy hl HI
    refine wpJ_nil (fun wn hn => ?_)
    replace HW := hide (HW.out.later hn)
    replace HM := hide (HM.out.later hn)
    replace HB := hide (HB.out.later hn)
    clear hn
    have EF := EF0
    have ED := ED0
    have ES := ES0
    clear EF0 ED0 ES0
    go_wp2_with fail
    refine wp_region_held (BlkW w a2 n c2 b2 k2 d2 p r l cc am m cm s c len took ar kr cr S2 X) (fun a b hl h => h.later hl) HW.out [(0, false), (1, false), (2, true), (3, true)] (by kernel_rfl) (by kernel_rfl) (by kernel_rfl) (by kernel_rfl) ?_
    haveI : Nonempty (Held (BlkW w a2 n c2 b2 k2 d2 p r l cc am m cm s c len took ar kr cr S2 X)) := ⟨⟨_, HW.out⟩⟩
    have x_0 := fun q : Held ((BlkW w a2 n c2 b2 k2 d2 p r l cc am m cm s c len took ar kr cr S2 X)) => q.h.2.1.cell 0
    have x_1 := fun q : Held ((BlkW w a2 n c2 b2 k2 d2 p r l cc am m cm s c len took ar kr cr S2 X)) => q.h.2.1.cell 1
    have x_2 := fun q : Held ((BlkW w a2 n c2 b2 k2 d2 p r l cc am m cm s c len took ar kr cr S2 X)) => q.h.2.1.cell 2
    have x_3 := fun q : Held ((BlkW w a2 n c2 b2 k2 d2 p r l cc am m cm s c len took ar kr cr S2 X)) => q.h.2.1.cell 3
    have x_4 := fun q : Held ((BlkW w a2 n c2 b2 k2 d2 p r l cc am m cm s c len took ar kr cr S2 X)) => q.h.2.1.cell 4
    have x_5 := fun q : Held ((BlkW w a2 n c2 b2 k2 d2 p r l cc am m cm s c len took ar kr cr S2 X)) => q.h.2.1.cell 5
    have x_6 := fun q : Held ((BlkW w a2 n c2 b2 k2 d2 p r l cc am m cm s c len took ar kr cr S2 X)) => q.h.2.1.cell 6
    have x_7 := fun q : Held ((BlkW w a2 n c2 b2 k2 d2 p r l cc am m cm s c len took ar kr cr S2 X)) => q.h.2.1.cell 7
    have x_8 := fun q : Held ((BlkW w a2 n c2 b2 k2 d2 p r l cc am m cm s c len took ar kr cr S2 X)) => q.h.2.1.cell 8
    have x_9 := fun q : Held ((BlkW w a2 n c2 b2 k2 d2 p r l cc am m cm s c len took ar kr cr S2 X)) => q.h.2.1.cell 9
    have y_0 := fun q : Held ((BlkW w a2 n c2 b2 k2 d2 p r l cc am m cm s c len took ar kr cr S2 X)) => q.h.2.2.1.cell 0
    have y_1 := fun q : Held ((BlkW w a2 n c2 b2 k2 d2 p r l cc am m cm s c len took ar kr cr S2 X)) => q.h.2.2.1.cell 1
    have y_2 := fun q : Held ((BlkW w a2 n c2 b2 k2 d2 p r l cc am m cm s c len took ar kr cr S2 X)) => q.h.2.2.1.cell 2
    have y_3 := fun q : Held ((BlkW w a2 n c2 b2 k2 d2 p r l cc am m cm s c len took ar kr cr S2 X)) => q.h.2.2.1.cell 3
    have y_4 := fun q : Held ((BlkW w a2 n c2 b2 k2 d2 p r l cc am m cm s c len took ar kr cr S2 X)) => q.h.2.2.1.cell 4
    have y_5 := fun q : Held ((BlkW w a2 n c2 b2 k2 d2 p r l cc am m cm s c len took ar kr cr S2 X)) => q.h.2.2.1.cell 5
    have y_6 := fun q : Held ((BlkW w a2 n c2 b2 k2 d2 p r l cc am m cm s c len took ar kr cr S2 X)) => q.h.2.2.1.cell 6
    have y_7 := fun q : Held ((BlkW w a2 n c2 b2 k2 d2 p r l cc am m cm s c len took ar kr cr S2 X)) => q.h.2.2.1.cell 7
    have y_8 := fun q : Held ((BlkW w a2 n c2 b2 k2 d2 p r l cc am m cm s c len took ar kr cr S2 X)) => q.h.2.2.1.cell 8
    have y_9 := fun q : Held ((BlkW w a2 n c2 b2 k2 d2 p r l cc am m cm s c len took ar kr cr S2 X)) => q.h.2.2.1.cell 9
    have y_10 := fun q : Held ((BlkW w a2 n c2 b2 k2 d2 p r l cc am m cm s c len took ar kr cr S2 X)) => q.h.2.2.1.cell 10
    replace HW := hide (HW.out.later (Later.refl _).drew)
    replace HM := hide (HM.out.later (Later.refl _).drew)
    replace HB := hide (HB.out.later (Later.refl _).drew)
    iterate 2 (refine wpJ_mild rfl (fun K hK => ?_); go_simp; refine hK _ ?_; clear hK K)
    obtain ⟨c3, n3, l3, b3⟩ := HW.out.2.2.2.2.1
    refine wpJ_store rfl rfl 32 (.tmp 8) (.tmp 84) rfl (w.heap.size + 3) (uc a2 n c2 b2 k2 d2 p r l cc am m cm s) rfl rfl Try.info_unit (uc_one _ _ _ _ _ _ _ _ _ _ _ _ _ _) _ c3 b3 (by simp [l3]) (fun W hW => ((HW.out.later hW).setU _ (uc_nob _ _ _ _ _ _ _ _ _ _ _ _ _ _) rfl).1) ?_
    intro wl hl wz hz
    have HA := (HW.out.later hl).setU (uc a2 n c2 b2 k2 d2 p r l cc am m cm s) (uc_nob _ _ _ _ _ _ _ _ _ _ _ _ _ _) rfl
    have HM2 := (HM.out.later hl).setNoB HA.2.2.choose_spec.2 HA.2.2.choose_spec.1 (uc a2 n c2 b2 k2 d2 p r l cc am m cm s) 0
    have HB2 := (HB.out.later hl).setNoB HA.2.2.choose_spec.2 HA.2.2.choose_spec.1 (uc a2 n c2 b2 k2 d2 p r l cc am m cm s) 0
    rw [← hz.out] at HA HM2 HB2
    replace HW := hide HA.1
    have B3 := hide HA.2.1
    replace HM := hide HM2
    replace HB := hide HB2
    clear HA HM2 HB2 hz hl b3 n3 l3
    obtain ⟨c4, n4, l4, b4⟩ := HW.out.2.2.2.2.2
    refine wpJ_store rfl rfl 38 (.tmp 9) (.tmp 85) rfl (w.heap.size + 4) (jc c len took ar kr cr S2) rfl rfl Try.info_job (jc_one _ _ _ _ _ _ _) _ c4 b4 (by simp [l4]) (fun W hW => ((HW.out.later hW).setJ _ (jc_nob _ _ _ _ _ _ _) rfl).1) ?_
    intro wl hl wy hy
    have HA := (HW.out.later hl).setJ (jc c len took ar kr cr S2) (jc_nob _ _ _ _ _ _ _) rfl
    have HM2 := (HM.out.later hl).setNoB HA.2.2.choose_spec.2 HA.2.2.choose_spec.1 (jc c len took ar kr cr S2) 0
    have HB2 := (HB.out.later hl).setNoB HA.2.2.choose_spec.2 HA.2.2.choose_spec.1 (jc c len took ar kr cr S2) 0
    have B32 := (B3.out.later hl).apart (w.heap.size + 4) (by omega) (jc c len took ar kr cr S2) 0
    rw [← hy.out] at HA HM2 HB2 B32
    replace HW := hide HA.1
    have B4 := hide HA.2.1
    replace B3 := hide B32
    replace HM := hide HM2
    replace HB := hide HB2
    clear HA HM2 HB2 B32 hy hl b4 n4 l4
    refine wpJ_nil (fun wn hn => ?_)
    replace HW := hide (HW.out.later hn)
    replace B3 := hide (B3.out.later hn)
    replace B4 := hide (B4.out.later hn)
    replace HM := hide (HM.out.later hn)
    replace HB := hide (HB.out.later hn)
    clear hn
    clear x_0 x_1 x_2 x_3 x_4 x_5 x_6 x_7 x_8 x_9
    clear y_0 y_1 y_2 y_3 y_4 y_5 y_6 y_7 y_8 y_9 y_10
    go_wp2
    refine bodyPost_ret (results_cell_cell' rfl _ _ _ (w.heap.size + 3) 0 (w.heap.size + 4) 0 rfl rfl _ _ (load_unit B3.out rfl) (load_job B4.out rfl)) rfl ⟨_, _, rfl, HW.out.1, ⟨_, _, _, _, _, rfl, by rw [EF.out, ED.out]; exact HM.out⟩, ⟨_, _, by rw [ES.out, HK.out], by rw [← HK.out]; exact HB.out⟩⟩
  · have e5 : (c.2.2.2.2 == 1) = false := by simp [hb5]
    have ET : Hid (thJ c cc = !cc) := by rw [Hid, thJ, e5]; rfl
    clear hb5
    go_wp2_with (refine wpList_load_mid rfl 58 (.tmp 7) rfl (w.heap.size + 2) 0 rfl (bv X) _ HW.out.2.2.2.1.range Try.underlying58 rfl (by rw [Try.info_block, bv_length, HX.out]) ?_)
    refine (rput5_c (A : Int) X (!cc) _ HSl.out HX.out (by omega) (by omega)).mono ?_
    rintro e w6 ⟨vo, rfl, hl, hvo⟩
    replace HW := hide (HW.out.later hl)
    replace HB := hide (HB.out.later hl)
    clear hl HSl HM
    clear x_0 x_1 x_2 x_3 x_4 x_5 x_6 x_7 x_8 x_9
    clear y_0 y_1 y_2 y_3 y_4 y_5 y_6 y_7 y_8 y_9 y_10
    rw [← ET.out] at hvo
    generalize ptF n F D (putS n D p r A) A X (thJ c cc) = F2 at *
    generalize ptD n D (putS n D p r A) A X (thJ c cc) = D2 at *
    generalize putS n D p r A = S2 at *
    obtain ⟨a2, c2, b2, k2, d2, rfl, hm2⟩ := hvo
    have HM := hide hm2
    clear hm2
    go_wp2_with (refine wpList_newTS rfl rfl rfl rfl rfl rfl 13 14 rfl rfl (by simp) (by simp) (by decide) (.tmp 78) (.tmp 79) (by simp) (by simp) (by simp) (by simp) rfl rfl rfl rfl a2 b2 n c2 k2 d2 p r l S2 rfl rfl ?_)
    intro g1 g2 w7 hB hB2 hl hg
    have HI : Hid (BkI w g1 g2 a2 b2 n k2 c2 d2 p r l S2 w7) := ⟨HW.out.1.trans hl, hB, hB2, by obtain ⟨_, _, _, b4⟩ := HW.out.2.2.2.2.2; rw [hg.out.1]; exact b4.lt, by rw [hg.out.1, hg.out.2]; omega⟩
    replace HW := hide (HW.out.later hl)
    replace HM := hide (HM.out.later hl)
    replace HB := hide (HB.out.later hl)
    clear hl hg hB hB2
    go_wp2_with fail
    refine wp_region_held (BkI w g1 g2 a2 b2 n k2 c2 d2 p r l S2) (fun a b hl h => h.later hl) HI.out [(0, false), (1, false), (2, false), (3, true), (4, false), (5, true)] (by kernel_rfl) (by kernel_rfl) (by kernel_rfl) (by kernel_rfl) ?_
    haveI : Nonempty (Held (BkI w g1 g2 a2 b2 n k2 c2 d2 p r l S2)) := ⟨⟨_, HI.out⟩⟩
    have z0 := fun q : Held (BkI w g1 g2 a2 b2 n k2 c2 d2 p r l S2) => q.h.2.1.cell 0
    have z1 := fun q : Held (BkI w g1 g2 a2 b2 n k2 c2 d2 p r l S2) => q.h.2.1.cell 1
    have z2 := fun q : Held (BkI w g1 g2 a2 b2 n k2 c2 d2 p r l S2) => q.h.2.1.cell 2
    have z3 := fun q : Held (BkI w g1 g2 a2 b2 n k2 c2 d2 p r l S2) => q.h.2.1.cell 3
    have z4 := fun q : Held (BkI w g1 g2 a2 b2 n k2 c2 d2 p r l S2) => q.h.2.1.cell 4
    have t0 := fun q : Held (BkI w g1 g2 a2 b2 n k2 c2 d2 p r l S2) => q.h.2.2.1.cell 0
    have t1 := fun q : Held (BkI w g1 g2 a2 b2 n k2 c2 d2 p r l S2) => q.h.2.2.1.cell 1
    have t2 := fun q : Held (BkI w g1 g2 a2 b2 n k2 c2 d2 p r l S2) => q.h.2.2.1.cell 2
    replace HI := hide (HI.out.later (Later.refl _).drew)
    replace HW := hide (HW.out.later (Later.refl _).drew)
    replace HM := hide (HM.out.later (Later.refl _).drew)
    replace HB := hide (HB.out.later (Later.refl _).drew)
    iterate 3 (refine wpJ_mild rfl (fun K hK => ?_); go_simp; refine hK _ ?_; clear hK K)
    clear z0 z1 z2 z3 z4 t0 t1 t2
    refine wpJ_storeO rfl rfl 27 (.tmp 82) (.tmp 80) rfl w.heap.size 0 (tc (.slice a2 n c2) (.slice b2 k2 d2) p r l) rfl rfl Try.info_slot (tc_one _ _ _ _ _ _ _ _ _) _ _ HW.out.2.1 (by simp) (fun W hW => (HI.out.later hW).set _ (Nat.le_refl _) (by omega) _ _) ?_
    intro wl hl wz hz
    have HA := (HW.out.later hl).setT a2 c2 b2 k2 d2
    have HI2 := (HI.out.later hl).set w.heap.size (Nat.le_refl _) (by omega) (tc (.slice a2 n c2) (.slice b2 k2 d2) p r l) 0
    have HM2 := (HM.out.later hl).setNoB HA.2.choose_spec.2 HA.2.choose_spec.1 (tc (.slice a2 n c2) (.slice b2 k2 d2) p r l) 0
    have HB2 := (HB.out.later hl).setNoB HA.2.choose_spec.2 HA.2.choose_spec.1 (tc (.slice a2 n c2) (.slice b2 k2 d2) p r l) 0
    rw [← hz.out] at HA HI2 HM2 HB2
    replace HW := hide HA.1
    replace HI := hide HI2
    replace HM := hide HM2
    replace HB := hide HB2
    clear HA HI2 HM2 HB2 hz hl
    iterate 1 (refine wpJ_mild rfl (fun K hK => ?_); go_simp; refine hK _ ?_; clear hK K)
    refine wpJ_storeO rfl rfl 30 (.tmp 83) (.tmp 81) rfl (w.heap.size + 1) 8 (sc S2) rfl rfl Try.info_sense (sc_one _) _ _ HW.out.2.2.1 (by simp) (fun W hW => (HI.out.later hW).set _ (by omega) (by omega) _ _) ?_
    intro wl hl wy hy
    have HA := (HW.out.later hl).setS S2
    have HM2 := (HM.out.later hl).setNoB HA.2.choose_spec.2 HA.2.choose_spec.1 (sc S2) 8
    have HB2 := (HB.out.later hl).setNoB HA.2.choose_spec.2 HA.2.choose_spec.1 (sc S2) 8
    rw [← hy.out] at HA HM2 HB2
    replace HW := hide HA.1
    replace HM := hide HM2
    replace HB := hide HB2
    clear HA HM2 HB2 hy hl HI
    refine wpJ_nil (fun wn hn => ?_)
    replace HW := hide (HW.out.later hn)
    replace HM := hide (HM.out.later hn)
    replace HB := hide (HB.out.later hn)
    clear hn
    have EF := EF0
    have ED := ED0
    have ES := ES0
    clear EF0 ED0 ES0
    go_wp2_with fail
    refine wp_region_held (BlkW w a2 n c2 b2 k2 d2 p r l cc am m cm s c len took ar kr cr S2 X) (fun a b hl h => h.later hl) HW.out [(0, false), (1, false), (2, true), (3, true)] (by kernel_rfl) (by kernel_rfl) (by kernel_rfl) (by kernel_rfl) ?_
    haveI : Nonempty (Held (BlkW w a2 n c2 b2 k2 d2 p r l cc am m cm s c len took ar kr cr S2 X)) := ⟨⟨_, HW.out⟩⟩
    have x_0 := fun q : Held ((BlkW w a2 n c2 b2 k2 d2 p r l cc am m cm s c len took ar kr cr S2 X)) => q.h.2.1.cell 0
    have x_1 := fun q : Held ((BlkW w a2 n c2 b2 k2 d2 p r l cc am m cm s c len took ar kr cr S2 X)) => q.h.2.1.cell 1
    have x_2 := fun q : Held ((BlkW w a2 n c2 b2 k2 d2 p r l cc am m cm s c len took ar kr cr S2 X)) => q.h.2.1.cell 2
    have x_3 := fun q : Held ((BlkW w a2 n c2 b2 k2 d2 p r l cc am m cm s c len took ar kr cr S2 X)) => q.h.2.1.cell 3
    have x_4 := fun q : Held ((BlkW w a2 n c2 b2 k2 d2 p r l cc am m cm s c len took ar kr cr S2 X)) => q.h.2.1.cell 4
    have x_5 := fun q : Held ((BlkW w a2 n c2 b2 k2 d2 p r l cc am m cm s c len took ar kr cr S2 X)) => q.h.2.1.cell 5
    have x_6 := fun q : Held ((BlkW w a2 n c2 b2 k2 d2 p r l cc am m cm s c len took ar kr cr S2 X)) => q.h.2.1.cell 6
    have x_7 := fun q : Held ((BlkW w a2 n c2 b2 k2 d2 p r l cc am m cm s c len took ar kr cr S2 X)) => q.h.2.1.cell 7
    have x_8 := fun q : Held ((BlkW w a2 n c2 b2 k2 d2 p r l cc am m cm s c len took ar kr cr S2 X)) => q.h.2.1.cell 8
    have x_9 := fun q : Held ((BlkW w a2 n c2 b2 k2 d2 p r l cc am m cm s c len took ar kr cr S2 X)) => q.h.2.1.cell 9
    have y_0 := fun q : Held ((BlkW w a2 n c2 b2 k2 d2 p r l cc am m cm s c len took ar kr cr S2 X)) => q.h.2.2.1.cell 0
    have y_1 := fun q : Held ((BlkW w a2 n c2 b2 k2 d2 p r l cc am m cm s c len took ar kr cr S2 X)) => q.h.2.2.1.cell 1
    have y_2 := fun q : Held ((BlkW w a2 n c2 b2 k2 d2 p r l cc am m cm s c len took ar kr cr S2 X)) => q.h.2.2.1.cell 2
    have y_3 := fun q : Held ((BlkW w a2 n c2 b2 k2 d2 p r l cc am m cm s c len took ar kr cr S2 X)) => q.h.2.2.1.cell 3
    have y_4 := fun q : Held ((BlkW w a2 n c2 b2 k2 d2 p r l cc am m cm s c len took ar kr cr S2 X)) => q.h.2.2.1.cell 4
    have y_5 := fun q : Held ((BlkW w a2 n c2 b2 k2 d2 p r l cc am m cm s c len took ar kr cr S2 X)) => q.h.2.2.1.cell 5
    have y_6 := fun q : Held ((BlkW w a2 n c2 b2 k2 d2 p r l cc am m cm s c len took ar kr cr S2 X)) => q.h.2.2.1.cell 6
    have y_7 := fun q : Held ((BlkW w a2 n c2 b2 k2 d2 p r l cc am m cm s c len took ar kr cr S2 X)) => q.h.2.2.1.cell 7
    have y_8 := fun q : Held ((BlkW w a2 n c2 b2 k2 d2 p r l cc am m cm s c len took ar kr cr S2 X)) => q.h.2.2.1.cell 8
    have y_9 := fun q : Held ((BlkW w a2 n c2 b2 k2 d2 p r l cc am m cm s c len took ar kr cr S2 X)) => q.h.2.2.1.cell 9
    have y_10 := fun q : Held ((BlkW w a2 n c2 b2 k2 d2 p r l cc am m cm s c len took ar kr cr S2 X)) => q.h.2.2.1.cell 10
    replace HW := hide (HW.out.later (Later.refl _).drew)
    replace HM := hide (HM.out.later (Later.refl _).drew)
    replace HB := hide (HB.out.later (Later.refl _).drew)
    iterate 2 (refine wpJ_mild rfl (fun K hK => ?_); go_simp; refine hK _ ?_; clear hK K)
    obtain ⟨c3, n3, l3, b3⟩ := HW.out.2.2.2.2.1
    refine wpJ_store rfl rfl 32 (.tmp 8) (.tmp 84) rfl (w.heap.size + 3) (uc a2 n c2 b2 k2 d2 p r l cc am m cm s) rfl rfl Try.info_unit (uc_one _ _ _ _ _ _ _ _ _ _ _ _ _ _) _ c3 b3 (by simp [l3]) (fun W hW => ((HW.out.later hW).setU _ (uc_nob _ _ _ _ _ _ _ _ _ _ _ _ _ _) rfl).1) ?_
    intro wl hl wz hz
    have HA := (HW.out.later hl).setU (uc a2 n c2 b2 k2 d2 p r l cc am m cm s) (uc_nob _ _ _ _ _ _ _ _ _ _ _ _ _ _) rfl
    have HM2 := (HM.out.later hl).setNoB HA.2.2.choose_spec.2 HA.2.2.choose_spec.1 (uc a2 n c2 b2 k2 d2 p r l cc am m cm s) 0
    have HB2 := (HB.out.later hl).setNoB HA.2.2.choose_spec.2 HA.2.2.choose_spec.1 (uc a2 n c2 b2 k2 d2 p r l cc am m cm s) 0
    rw [← hz.out] at HA HM2 HB2
    replace HW := hide HA.1
    have B3 := hide HA.2.1
    replace HM := hide HM2
    replace HB := hide HB2
    clear HA HM2 HB2 hz hl b3 n3 l3
    obtain ⟨c4, n4, l4, b4⟩ := HW.out.2.2.2.2.2
    refine wpJ_store rfl rfl 38 (.tmp 9) (.tmp 85) rfl (w.heap.size + 4) (jc c len took ar kr cr S2) rfl rfl Try.info_job (jc_one _ _ _ _ _ _ _) _ c4 b4 (by simp [l4]) (fun W hW => ((HW.out.later hW).setJ _ (jc_nob _ _ _ _ _ _ _) rfl).1) ?_
    intro wl hl wy hy
    have HA := (HW.out.later hl).setJ (jc c len took ar kr cr S2) (jc_nob _ _ _ _ _ _ _) rfl
    have HM2 := (HM.out.later hl).setNoB HA.2.2.choose_spec.2 HA.2.2.choose_spec.1 (jc c len took ar kr cr S2) 0
    have HB2 := (HB.out.later hl).setNoB HA.2.2.choose_spec.2 HA.2.2.choose_spec.1 (jc c len took ar kr cr S2) 0
    have B32 := (B3.out.later hl).apart (w.heap.size + 4) (by omega) (jc c len took ar kr cr S2) 0
    rw [← hy.out] at HA HM2 HB2 B32
    replace HW := hide HA.1
    have B4 := hide HA.2.1
    replace B3 := hide B32
    replace HM := hide HM2
    replace HB := hide HB2
    clear HA HM2 HB2 B32 hy hl b4 n4 l4
    refine wpJ_nil (fun wn hn => ?_)
    replace HW := hide (HW.out.later hn)
    replace B3 := hide (B3.out.later hn)
    replace B4 := hide (B4.out.later hn)
    replace HM := hide (HM.out.later hn)
    replace HB := hide (HB.out.later hn)
    clear hn
    clear x_0 x_1 x_2 x_3 x_4 x_5 x_6 x_7 x_8 x_9
    clear y_0 y_1 y_2 y_3 y_4 y_5 y_6 y_7 y_8 y_9 y_10
    go_wp2
    refine bodyPost_ret (results_cell_cell' rfl _ _ _ (w.heap.size + 3) 0 (w.heap.size + 4) 0 rfl rfl _ _ (load_unit B3.out rfl) (load_job B4.out rfl)) rfl ⟨_, _, rfl, HW.out.1, ⟨_, _, _, _, _, rfl, by rw [EF.out, ED.out]; exact HM.out⟩, ⟨_, _, by rw [ES.out, HK.out], by rw [← HK.out]; exact HB.out⟩⟩
end Go.Proofs.Ytbcikndebaeahaa
