import Derived.Test.YtbcikndebaeahaaWR10g
import Derived.Test.YtbcikndebaeahaaMAG
namespace Go.Proofs.Ytbcikndebaeahaa
open Go.ChangeShapes Go.WideShapes Go.ChangeAt Go.RowKit
set_option linter.unusedVariables false
set_option maxRecDepth 4000
set_option linter.unusedSimpArgs false
/-! The document's job: Copy. -/
theorem Try.info1_senses : (Try.prog.info? 28).map (·.size) = some 1 := by kernel_rfl
set_option maxHeartbeats 4000000 in
theorem rcopy10_c {u : Value} {n : Nat} {F : List UInt8} {D : List Drt} {p r l cc : Bool} {am : Option Addr} {m cm : Nat} {s : Sns} {M : List Sns} (w : World) (hU : Un w u n F D p r l cc am m cm s) (hA : Sl w (.slice am m cm) M) (hn : n ≤ 1000) (hD : D.length ≤ 1000) (hm : m ≤ 1000) :
    Calls Try.prog 9 #[u] w fun e w' => ∃ u' am' cm', e = .returned u' ∧ Later w w' ∧ Un w' u' n F D p r l cc am' m cm' s ∧ Sl w' (.slice am' m cm') M := by
  obtain ⟨ab, cb, aD, k, cD, rfl, hm1⟩ := hU
  have HM := hide hm1
  have HA := hide hA
  clear hm1 hA
  have BX := hide ((Box.new w 32 (uc ab n cb aD k cD p r l cc am m cm s).toArray).alloc (.cells #[.slice none 0 0, .slice none 0 0, .bool false, .bool false, .bool false, .bool false, .slice none 0 0, .int .i64 0, .int .i64 0, .int .i64 0] 32))
  have BR : Hid (Box _ (w.heap.size + 1) 32 (uc none 0 0 none 0 0 false false false false none 0 0 (0, 0, 0))) := Box.new' (w.alloc (.cells (uc ab n cb aD k cD p r l cc am m cm s).toArray 32)) 32 #[.slice none 0 0, .slice none 0 0, .bool false, .bool false, .bool false, .bool false, .slice none 0 0, .int .i64 0, .int .i64 0, .int .i64 0] _ rfl _ (by simp)
  have LL := hide (((Later.refl w).alloc (.cells (uc ab n cb aD k cD p r l cc am m cm s).toArray 32)).alloc (.cells #[.slice none 0 0, .slice none 0 0, .bool false, .bool false, .bool false, .bool false, .slice none 0 0, .int .i64 0, .int .i64 0, .int .i64 0] 32))
  have x_0 := BX.out.cell 0
  have x_1 := BX.out.cell 1
  have x_2 := BX.out.cell 2
  have x_3 := BX.out.cell 3
  have x_4 := BX.out.cell 4
  have x_5 := BX.out.cell 5
  have x_6 := BX.out.cell 6
  have x_7 := BX.out.cell 7
  have x_8 := BX.out.cell 8
  have x_9 := BX.out.cell 9
  go_enter Try.func9, Try.ntmps9
  go_wp2_with fail
  generalize (w.alloc (.cells (uc ab n cb aD k cD p r l cc am m cm s).toArray 32)).alloc (.cells #[.slice none 0 0, .slice none 0 0, .bool false, .bool false, .bool false, .bool false, .slice none 0 0, .int .i64 0, .int .i64 0, .int .i64 0] 32) = w1 at *
  refine (rcopy5_c _ (show Slt w1 (.agg #[.slice ab n cb, .slice aD k cD, .bool p, .bool r, .bool l]) n F D p r l from ⟨_, _, _, _, _, rfl, HM.out.later LL.out⟩) hn hD).mono ?_
  rintro e w2 ⟨v', rfl, hl, a2, c2, b2, k2, d2, rfl, hm2⟩
  replace HM := hide hm2
  have HA2 := hide (show Sl w2 (.slice am m cm) M from ⟨HA.out.1.later (LL.out.trans hl), HA.out.2⟩)
  have HOff := hide (HA.out.1.old (by decide) (Nat.le_refl w.heap.size))
  replace LL := hide (LL.out.trans hl)
  replace BX := hide (BX.out.later hl)
  replace BR := hide (BR.out.later hl)
  clear hl hm2 HA
  clear x_0 x_1 x_2 x_3 x_4 x_5 x_6 x_7 x_8 x_9
  go_wp2_with (refine wpList_storeU rfl 27 (.tmp 6) (.tmp 5) rfl w.heap.size 0 rfl (tc (.slice a2 n c2) (.slice b2 k2 d2) p r l) rfl Try.info_slot (tc_one _ _ _ _ _ _ _ _ _) _ _ BX.out (by simp) ?_)
  intro w3 h3
  have BXn : Hid (Box w3 w.heap.size 32 (uc a2 n c2 b2 k2 d2 p r l cc am m cm s)) := by rw [Hid, h3.out]; exact BX.out.setCells (tc (.slice a2 n c2) (.slice b2 k2 d2) p r l) 0 (by simp)
  have HM2 := HM.out.setNoB BX.out (uc_nob _ _ _ _ _ _ _ _ _ _ _ _ _ _) (tc (.slice a2 n c2) (.slice b2 k2 d2) p r l) 0
  have BR2 := BR.out.apart w.heap.size (by omega) (tc (.slice a2 n c2) (.slice b2 k2 d2) p r l) 0
  have LL2 := LL.out.setCells (Nat.le_refl _) (tc (.slice a2 n c2) (.slice b2 k2 d2) p r l) 0
  have HA3 := HA2.out.1.setOff HOff.out (tc (.slice a2 n c2) (.slice b2 k2 d2) p r l) 0
  rw [← h3.out] at HM2 BR2 LL2 HA3
  replace BX := BXn
  replace HM := hide HM2
  replace BR := hide BR2
  replace LL := hide LL2
  have HA := hide HA3
  have HOk := hide HA2.out.2
  clear BXn HM2 BR2 LL2 HA3 HA2 h3 HOff
  obtain ⟨LM, hLM⟩ : ∃ LM, LM = M.length := ⟨_, rfl⟩
  have hmm : m = LM := by obtain ⟨_, _, a, c, e, _⟩ := HA.out; simp at e; rw [hLM]; exact e.2.1
  subst hmm
  have x6 := BX.out.cell 6
  have O0 : Hid ((w3.alloc (.cells #[] 30)).ownsRow w3.heap.size 30 3 (.slice (some ⟨w3.heap.size, 0, none⟩) 0 0) 0 []) := World.ownsRow_lit w3 #[] 0 (Nat.le_refl _) (by simp [maxLen]) rfl
  have R0 : Hid (Rw 3 (w3.alloc (.cells #[] 30)) (.slice am m cm) m (sv M)) := by
    have := HA.out.later ((Later.refl w3).alloc (.cells #[] 30))
    rw [← hLM] at this
    exact this
  have HLM := hide hLM
  clear hLM
  have BX0 := hide (BX.out.alloc (.cells #[] 30))
  have y6 := BX0.out.cell 6
  go_wp2_with (at_builtin; refine wpList_append_rw Try.elem_sense Try.underlying28 rfl (by decide) rfl (.tmp 7) (.tmp 9) rfl w3.heap.size _ 0 [] rfl O0.out _ m (sv M) rfl R0.out (sv_one M) ?c1 ?c2 ?c3 w3 ((Later.refl w3).alloc (.cells #[] 30)) ?_)
  case c1 => omega
  case c2 => unfold maxLen; omega
  case c3 => simp
  intro vo w4 ho hb hg
  have hl : Later w3 w4 := hb
  have hs3 : Hid (w.heap.size + 1 < w3.heap.size) := BR.out.lt
  have OW : Hid (w4.ownsRow w3.heap.size 30 3 vo m (sv M)) := by simpa [Hid] using ho
  have RW := hide (Rw.of_owns OW.out)
  have off0 := hide (owns_off OW.out (g := w.heap.size) (by have := hs3.out; omega))
  have off1 := hide (owns_off OW.out (g := w.heap.size + 1) hs3.out)
  replace LL := hide (LL.out.trans hl)
  replace HM := hide (HM.out.later hl)
  replace BX := hide (BX.out.later hl)
  replace BR := hide (BR.out.later hl)
  clear ho hb hg hl O0 R0 BX0 x6 y6 HA hs3 OW
  obtain ⟨ao, co, rfl⟩ := RW.out.shape
  go_wp2_with (refine wpList_storeV rfl 28 (.tmp 11) (.tmp 10) rfl w.heap.size 6 rfl ao m co rfl Try.info1_senses _ _ BX.out (by simp) ?_)
  intro w5 h5
  have BXn : Hid (Box w5 w.heap.size 32 (uc a2 n c2 b2 k2 d2 p r l cc ao m co s)) := by rw [Hid, h5.out]; exact BX.out.setCells [.slice ao m co] 6 (by simp)
  have HM2 := HM.out.setNoB BX.out (uc_nob _ _ _ _ _ _ _ _ _ _ _ _ _ _) [.slice ao m co] 6
  have BR2 := BR.out.apart w.heap.size (by omega) [.slice ao m co] 6
  have LL2 := LL.out.setCells (Nat.le_refl _) [.slice ao m co] 6
  have RW2 := RW.out.setOff off0.out [.slice ao m co] 6
  rw [← h5.out] at HM2 BR2 LL2 RW2
  replace BX := BXn
  replace HM := hide HM2
  replace BR := hide BR2
  replace LL := hide LL2
  replace RW := hide RW2
  clear BXn HM2 BR2 LL2 RW2 h5 off0
  have x_0 := BX.out.cell 0
  have x_1 := BX.out.cell 1
  have x_2 := BX.out.cell 2
  have x_3 := BX.out.cell 3
  have x_4 := BX.out.cell 4
  have x_5 := BX.out.cell 5
  have x_6 := BX.out.cell 6
  have x_7 := BX.out.cell 7
  have x_8 := BX.out.cell 8
  have x_9 := BX.out.cell 9
  go_wp2_with (refine wpList_storeU rfl 32 (.tmp 2) (.tmp 12) rfl (w.heap.size + 1) 0 rfl (uc a2 n c2 b2 k2 d2 p r l cc ao m co s) rfl Try.info_unit (uc_one _ _ _ _ _ _ _ _ _ _ _ _ _ _) _ _ BR.out (by simp) ?_)
  intro w6 h6
  clear x_0 x_1 x_2 x_3 x_4 x_5 x_6 x_7 x_8 x_9
  have BZ : Hid (Box w6 (w.heap.size + 1) 32 (uc a2 n c2 b2 k2 d2 p r l cc ao m co s)) := by rw [Hid, h6.out]; exact BR.out.all _ rfl
  have HM2 := HM.out.setNoB BR.out (uc_nob _ _ _ _ _ _ _ _ _ _ _ _ _ _) (uc a2 n c2 b2 k2 d2 p r l cc ao m co s) 0
  have LL2 := LL.out.setCells (by omega : w.heap.size ≤ w.heap.size + 1) (uc a2 n c2 b2 k2 d2 p r l cc ao m co s) 0
  have RW2 := RW.out.setOff off1.out (uc a2 n c2 b2 k2 d2 p r l cc ao m co s) 0
  rw [← h6.out] at HM2 LL2 RW2
  have HMZ := hide HM2
  have LZ := hide LL2
  have RZ := hide RW2
  clear HM2 LL2 RW2 h6 off1 HM LL RW BX BR
  go_wp2
  refine bodyPost_ret (results_cell1 rfl _ _ _ (w.heap.size + 1) 0 rfl _ (load_unit BZ.out rfl)) rfl ⟨_, ao, co, rfl, LZ.out, ⟨_, _, _, _, _, rfl, HMZ.out⟩, by have := RZ.out; rw [HLM.out] at this ⊢; exact this, HOk.out⟩
end Go.Proofs.Ytbcikndebaeahaa

namespace Go.Proofs.Ytbcikndebaeahaa
open Go.ChangeShapes Go.WideShapes Go.ChangeAt Go.RowKit
set_option linter.unusedVariables false
set_option maxRecDepth 4000
set_option linter.unusedSimpArgs false
/-! What is asked of the landed job. -/
def startC (c : Cmd) : Cmd := if (startL c).isSome then c else (0, 0, 0, 0, 0)
def startN (c : Cmd) : Int := (startL c).getD 0
def startB (c : Cmd) : Bool := (startL c).isSome
theorem startJ_jb (c : Cmd) (w : World) : Jb w (startJ c).1 (startC c) (startN c) 0 [] (0, 0, 0) ∧ (startJ c).2 = startB c := by
  unfold startJ startC startN startB
  cases hs : startL c with
  | none => exact ⟨⟨none, 0, rfl, Bs.nil w⟩, rfl⟩
  | some z => exact ⟨⟨none, 0, rfl, Bs.nil w⟩, rfl⟩
theorem startN_in (c : Cmd) (hc : OkC7 c) : In64 (startN c) := by
  have hn : In64 c.2.2.1 := hc.2.2.1
  unfold startN startL In64 at *
  split
  · simp
  split
  · simpa using hn
  split
  · simp; omega
  · simp
theorem startC_ok (c : Cmd) (hc : OkC7 c) : OkC7 (startC c) := by
  unfold startC
  split
  · exact hc
  · exact ⟨by decide, by decide, by decide, by decide, by decide⟩
def IStart10 : Prop := ∀ (c : Cmd) (w : World), OkC7 c → Calls Try.prog 18 #[cval c] w fun e w' => ∃ v, e = .returned (.tuple #[v, .bool (startB c)]) ∧ Later w w' ∧ Jb w' v (startC c) (startN c) 0 [] (0, 0, 0)
def IRight10 : Prop := ∀ (v : Value) (c : Cmd) (len took : Int) (L : List UInt8) (s : Sns) (w : World), Jb w v c len took L s → OkC7 c → In64 len → In64 took →
  Calls Try.prog 14 #[v] w fun e w' => e = .returned (.bool (rightJ c len took L.length)) ∧ Later w w'
/-- a unit that came out: its attentions lie in new memory, or there are none -/
def UnA (w w' : World) (u' : Value) (n : Nat) (F : List UInt8) (D : List Drt) (p r l cc : Bool) (am : Option Addr) (m : Nat) (s : Sns) (M : List Sns) : Prop :=
  ∃ am' cm', Un w' u' n F D p r l cc am' m cm' s ∧ w'.ownsRow w.heap.size 30 3 (.slice am' m cm') M.length (sv M) ∧ (am = none → am' = none ∧ cm' = 0)
theorem Sl.of_owns10 {w : World} {B : Nat} {v : Value} {M : List Sns} (h : w.ownsRow B 30 3 v M.length (sv M)) (ho : ∀ s ∈ M, OkS s) : Sl w v M := ⟨Rw.of_owns h, ho⟩
theorem Sl.none10 (w : World) : Sl w (.slice none 0 0) [] := ⟨⟨rfl, by simp [maxLen], none, 0, rfl, by simp, .inl rfl⟩, by simp⟩
def ITake10 : Prop := ∀ (u v b : Value) (n : Nat) (F : List UInt8) (D : List Drt) (p r l cc : Bool) (am : Option Addr) (m cm : Nat) (s : Sns) (M : List Sns) (c : Cmd) (len took : Int) (R : List UInt8) (S : Sns) (B : List UInt8) (w : World), Un w u n F D p r l cc am m cm s → Sl w (.slice am m cm) M → Jb w v c len took R S → Bs w b B → OkC7 c → OkS S → In64 len → In64 took → n ≤ 70 → D.length ≤ 70 → m ≤ 20 → R.length ≤ 100000 → B.length ≤ 100000 →
  Calls Try.prog 10 #[u, v, b] w fun e w' => ∃ u' v', e = .returned (.tuple #[u', v']) ∧ Later w w' ∧ UnA w w' u' n (tkR n F D p r cc c len took R S B).1.1 (tkR n F D p r cc c len took R S B).1.2.1 p r l cc am m s M ∧ Jb w' v' c len (tkR n F D p r cc c len took R S B).2.1 (tkR n F D p r cc c len took R S B).2.2 (tkR n F D p r cc c len took R S B).1.2.2
def IFin10 : Prop := ∀ (u v : Value) (n : Nat) (F : List UInt8) (D : List Drt) (p r l cc : Bool) (am : Option Addr) (m cm : Nat) (s : Sns) (M : List Sns) (c : Cmd) (len took : Int) (R : List UInt8) (S : Sns) (w : World), Un w u n F D p r l cc am m cm s → Sl w (.slice am m cm) M → Jb w v c len took R S → OkC7 c → OkS S → In64 len → In64 took → n ≤ 70 → D.length ≤ 70 → m ≤ 20 → R.length ≤ 100000 →
  Calls Try.prog 12 #[u, v] w fun e w' => ∃ u', e = .returned (.tuple #[u', sval (finR cc c len took R S).2]) ∧ Later w w' ∧ UnA w w' u' n F D p r l (finR cc c len took R S).1 am m s M
def Alive10 : Prop := ∀ w : World, Calls Try.prog 7 #[] w fun e w' => e = .returned (.bool true) ∧ Later w w'
/-- 'x := v', v a job -/
theorem wpList_newJ {w : World} {ops : Array Oper} {rest : List Oper} {o1 o2 : Oper} {a : Act} {Q : Exit → Act → World → Prop} (hg1 : o1.guard = none) (hg2 : o2.guard = none) (h1 : o1.op = .alloc 38) (d : Tmp) (hd : o1.dst = some d) (hd' : d < a.tmps.size) (y : Operand) (hy' : y ≠ .tmp d) (h2 : o2.op = .store 38 (.tmp d) y)
    (c : Cmd) (len took : Int) (ar : Option Addr) (kr cr : Nat) (s : Sns) (hy : a.eval y = jval c len took ar kr cr s)
    (h : ∀ (g : Nat) (w' : World), Box w' g 38 (jc c len took ar kr cr s) → Later w w' → Hid (g = w.heap.size ∧ w' = w.alloc (.cells (jc c len took ar kr cr s).toArray 38)) → wpList Try.prog ops Q rest ((a.put (some d) (.pointer (some ⟨g, 0, none⟩))).put o2.dst undef) w') : wpList Try.prog ops Q (o1 :: o2 :: rest) a w :=
  wpList_new hg1 hg2 38 h1 d hd hd' y hy' h2 #[.int .i64 0, .int .u64 0, .int .i64 0, .int .i64 0, .int .i64 0, .int .i64 0, .int .i64 0, .slice none 0 0, .int .i64 0, .int .i64 0, .int .i64 0] (jc c len took ar kr cr s) Try.zero_job rfl hy (jc_one _ _ _ _ _ _ _) h
/-- 'x := v', v a unit -/
theorem wpList_newN {w : World} {ops : Array Oper} {rest : List Oper} {o1 o2 : Oper} {a : Act} {Q : Exit → Act → World → Prop} (hg1 : o1.guard = none) (hg2 : o2.guard = none) (h1 : o1.op = .alloc 32) (d : Tmp) (hd : o1.dst = some d) (hd' : d < a.tmps.size) (y : Operand) (hy' : y ≠ .tmp d) (h2 : o2.op = .store 32 (.tmp d) y)
    (ab : Option Addr) (n cb : Nat) (aD : Option Addr) (k cD : Nat) (p r l c : Bool) (am : Option Addr) (m cm : Nat) (s : Sns) (hy : a.eval y = uval ab n cb aD k cD p r l c am m cm s)
    (h : ∀ (g : Nat) (w' : World), Box w' g 32 (uc ab n cb aD k cD p r l c am m cm s) → Later w w' → Hid (g = w.heap.size ∧ w' = w.alloc (.cells (uc ab n cb aD k cD p r l c am m cm s).toArray 32)) → wpList Try.prog ops Q rest ((a.put (some d) (.pointer (some ⟨g, 0, none⟩))).put o2.dst undef) w') : wpList Try.prog ops Q (o1 :: o2 :: rest) a w :=
  wpList_new hg1 hg2 32 h1 d hd hd' y hy' h2 #[.slice none 0 0, .slice none 0 0, .bool false, .bool false, .bool false, .bool false, .slice none 0 0, .int .i64 0, .int .i64 0, .int .i64 0] (uc ab n cb aD k cD p r l c am m cm s) Try.zero_unit rfl hy (uc_one _ _ _ _ _ _ _ _ _ _ _ _ _ _) h
end Go.Proofs.Ytbcikndebaeahaa

namespace Go.Proofs.Ytbcikndebaeahaa
open Go.ChangeShapes Go.WideShapes Go.ChangeAt Go.RowKit
set_option linter.unusedVariables false
set_option maxRecDepth 4000
set_option linter.unusedSimpArgs false
/-! More than is looked at? -/
def great10 (n : Nat) (D : List Drt) (m k b : Nat) : Bool := greatB n D || (decide (20 < m) || (decide (3000 < k) || decide (3000 < b)))
set_option maxRecDepth 20000 in
set_option maxHeartbeats 2000000 in
theorem great10_c {ab : Option Addr} {n cb : Nat} {aD : Option Addr} {k cD : Nat} {F : List UInt8} {D : List Drt} {p r l cc : Bool} {am : Option Addr} {m cm : Nat} {s : Sns} {c : Cmd} {len took : Int} {ar : Option Addr} {kr cr : Nat} {S : Sns} {ax : Option Addr} {kx cx : Nat} (w : World) (hm : Med w (.agg #[.slice ab n cb, .slice aD k cD]) n F D) (h1 : m ≤ maxLen) (h2 : kr ≤ maxLen) (h3 : kx ≤ maxLen) :
    Calls Try.prog 8 #[uval ab n cb aD k cD p r l cc am m cm s, jval c len took ar kr cr S, .slice ax kx cx] w fun e w' => e = .returned (.bool (great10 n D m kr kx)) ∧ Later w w' := by
  unfold maxLen at h1 h2 h3
  have HM := hide hm
  clear hm
  have BX := hide ((Box.new w 32 (uc ab n cb aD k cD p r l cc am m cm s).toArray).alloc (.cells (jc c len took ar kr cr S).toArray 38))
  have BY : Hid (Box _ (w.heap.size + 1) 38 (jc c len took ar kr cr S)) := Box.new' (w.alloc (.cells (uc ab n cb aD k cD p r l cc am m cm s).toArray 32)) 38 (jc c len took ar kr cr S).toArray _ rfl _ (by simp)
  have LL := hide (((Later.refl w).alloc (.cells (uc ab n cb aD k cD p r l cc am m cm s).toArray 32)).alloc (.cells (jc c len took ar kr cr S).toArray 38))
  have x0 := BX.out.cell 0
  have x1 := BX.out.cell 1
  go_enter Try.func8, Try.ntmps8
  go_wp2_with fail
  generalize (w.alloc (.cells (uc ab n cb aD k cD p r l cc am m cm s).toArray 32)).alloc (.cells (jc c len took ar kr cr S).toArray 38) = w1 at *
  refine (rgreat_c _ (HM.out.later LL.out)).mono ?_
  rintro e w2 ⟨rfl, hl⟩
  replace LL := hide (LL.out.trans hl)
  replace BX := hide (BX.out.later hl)
  replace BY := hide (BY.out.later hl)
  clear hl x0 x1 HM
  have x6 := BX.out.cell 6
  have y7 := BY.out.cell 7
  have HG : Hid (great10 n D m kr kx = (greatB n D || (decide (20 < m) || (decide (3000 < kr) || decide (3000 < kx))))) := rfl
  generalize greatB n D = G at *
  cases G with
  | true =>
    go_wp2
    go_ret
    exact ⟨by rw [HG.out]; rfl, LL.out⟩
  | false =>
  by_cases q1 : 20 < m
  · go_wp2
    go_ret
    exact ⟨by rw [HG.out]; exact ret_bool (by first | (simp; done) | (simp; omega) | (rw [Bool.eq_iff_iff]; simp; omega)), LL.out⟩
  by_cases q2 : 3000 < kr
  · go_wp2
    go_ret
    exact ⟨by rw [HG.out]; exact ret_bool (by first | (simp; done) | (simp; omega) | (rw [Bool.eq_iff_iff]; simp; omega)), LL.out⟩
  · go_wp2
    go_ret
    exact ⟨by rw [HG.out]; exact ret_bool (by first | (simp; done) | (simp; omega) | (rw [Bool.eq_iff_iff]; simp; omega)), LL.out⟩
end Go.Proofs.Ytbcikndebaeahaa

namespace Go.Proofs.Ytbcikndebaeahaa
open Go.ChangeShapes Go.WideShapes Go.ChangeAt Go.RowKit
set_option linter.unusedVariables false
set_option maxRecDepth 4000
set_option linter.unusedSimpArgs false
/-! Pure facts of a job: what Take leaves is as right as what came; how long it is. -/
theorem tkN_le (len took : Int) (k : Nat) : tkN len took k ≤ k := by
  unfold tkN
  split <;> omega
theorem tkN_left (len took : Int) (k : Nat) (h : took ≤ len) : took + (tkN len took k : Int) ≤ len := by
  unfold tkN
  split <;> omega
theorem rightJ_some {c : Cmd} {len took : Int} {m : Nat} (h : ¬ rightJ c len took m = false) : ∃ k, startL c = some k ∧ k = len ∧ 0 ≤ took ∧ took ≤ len ∧ (if modeOp c.1 then (m : Int) == took else (m : Int) == took % 64) = true := by
  unfold rightJ at h
  cases hs : startL c with
  | none => rw [hs] at h; exact absurd rfl h
  | some k =>
    rw [hs] at h
    simp only at h
    by_cases hk : k = len ∧ 0 ≤ took ∧ took ≤ len
    · rw [if_pos hk] at h
      exact ⟨k, rfl, hk.1, hk.2.1, hk.2.2, Bool.of_not_eq_false h⟩
    · rw [if_neg hk] at h
      exact absurd rfl h
theorem rightJ_of {c : Cmd} {len took : Int} {m : Nat} (hs : startL c = some len) (h0 : 0 ≤ took) (h1 : took ≤ len) (h : (if modeOp c.1 then (m : Int) == took else (m : Int) == took % 64) = true) : rightJ c len took m = true := by
  have e : rightJ c len took m = if len = len ∧ 0 ≤ took ∧ took ≤ len then (if modeOp c.1 then (m : Int) == took else (m : Int) == took % 64) else false := by unfold rightJ; rw [hs]
  rw [e, if_pos ⟨rfl, h0, h1⟩]
  exact h
theorem right_take (n : Nat) (F : List UInt8) (D : List Drt) (p r cc : Bool) (c : Cmd) (len took : Int) (R : List UInt8) (S : Sns) (B : List UInt8) :
    rightJ c len (tkR n F D p r cc c len took R S B).2.1 (tkR n F D p r cc c len took R S B).2.2.length = rightJ c len took R.length := by
  unfold tkR
  by_cases h : rightJ c len took R.length = false
  · rw [if_pos h]
  · rw [if_neg h]
    obtain ⟨k, hs, rfl, h0, h1, hm⟩ := rightJ_some h
    have hr : rightJ c k took R.length = true := by simpa using h
    rw [hr]
    have hN := tkN_le k took B.length
    have hl := tkN_left k took B.length h1
    have hT : (B.take (tkN k took B.length)).length = tkN k took B.length := by rw [List.length_take]; omega
    by_cases hM : modeOp c.1 = true
    · rw [if_pos hM]
      rw [if_pos hM] at hm
      refine rightJ_of hs (by dsimp only; omega) hl ?_
      rw [if_pos hM]
      simp only [List.length_append, hT]
      simp at hm ⊢
      omega
    · rw [if_neg hM]
      rw [if_neg hM] at hm
      refine rightJ_of hs (by dsimp only; omega) hl ?_
      rw [if_neg hM]
      simp only [List.length_append, List.length_drop, hT]
      simp at hm ⊢
      omega
/-- what Take leaves behind is no longer than what came -/
theorem rest_take (n : Nat) (F : List UInt8) (D : List Drt) (p r cc : Bool) (c : Cmd) (len took : Int) (R : List UInt8) (S : Sns) (B : List UInt8) : (tkR n F D p r cc c len took R S B).2.2.length ≤ R.length + B.length := by
  have hN := tkN_le len took B.length
  unfold tkR
  split
  · simp
  split
  · simp; omega
  · simp only [List.length_append, List.length_drop, List.length_take]; omega
theorem took_take (n : Nat) (F : List UInt8) (D : List Drt) (p r cc : Bool) (c : Cmd) (len took : Int) (R : List UInt8) (S : Sns) (B : List UInt8) (hl : In64 len) (ht : In64 took) : In64 (tkR n F D p r cc c len took R S B).2.1 := by
  have hN := tkN_le len took B.length
  unfold tkR
  split
  · exact ht
  · rename_i h
    obtain ⟨k, hs, rfl, h0, h1, hm⟩ := rightJ_some h
    have hl2 := tkN_left k took B.length h1
    unfold In64 at *
    split <;> (dsimp only; omega)
end Go.Proofs.Ytbcikndebaeahaa

namespace Go.Proofs.Ytbcikndebaeahaa
open Go.ChangeShapes Go.WideShapes Go.ChangeAt Go.RowKit
set_option linter.unusedVariables false
set_option maxRecDepth 4000
set_option linter.unusedSimpArgs false
/-! Take of two parts, one behind the other, is Take of both at once. -/
theorem blksT_add (n : Nat) (p r cc : Bool) (c : Cmd) (q2 : Nat) : ∀ (q1 : Nat) (F : List UInt8) (D : List Drt) (S : Sns) (i : Nat) (L : List UInt8),
    blksT n p r cc c (q1 + q2) F D S i L = blksT n p r cc c q2 (blksT n p r cc c q1 F D S i L).1 (blksT n p r cc c q1 F D S i L).2.1 (blksT n p r cc c q1 F D S i L).2.2 (i + q1) (L.drop (64 * q1)) := by
  intro q1
  induction q1 with
  | zero => intro F D S i L; simp [blksT]
  | succ q ih =>
    intro F D S i L
    rw [show q + 1 + q2 = (q + q2) + 1 by omega]
    simp only [blksT]
    rw [ih, List.drop_drop]
    rw [show i + 1 + q = i + (q + 1) by omega, show 64 + 64 * q = 64 * (q + 1) by omega]
theorem blksT_app (n : Nat) (p r cc : Bool) (c : Cmd) : ∀ (q : Nat) (F : List UInt8) (D : List Drt) (S : Sns) (i : Nat) (L M : List UInt8), 64 * q ≤ L.length →
    blksT n p r cc c q F D S i (L ++ M) = blksT n p r cc c q F D S i L := by
  intro q
  induction q with
  | zero => intros; rfl
  | succ q ih =>
    intro F D S i L M h
    simp only [blksT]
    rw [List.take_append_of_le_length (by omega), List.drop_append_of_le_length (by omega)]
    exact ih _ _ _ _ _ _ (by rw [List.length_drop]; omega)
theorem tkN_add (len took : Int) (a b : Nat) (h : took ≤ len) : tkN len took (a + b) = tkN len took a + tkN len (took + tkN len took a) b := by
  unfold tkN
  split <;> split <;> split <;> omega
theorem take_tkN (len took : Int) (A B : List UInt8) (h : took ≤ len) :
    (A ++ B).take (tkN len took (A ++ B).length) = A.take (tkN len took A.length) ++ B.take (tkN len (took + tkN len took A.length) B.length) := by
  rw [List.length_append, tkN_add len took _ _ h]
  by_cases hA : tkN len took A.length = A.length
  · rw [hA, List.take_length, List.take_length_add_append]
  · have hs : tkN len (took + tkN len took A.length) B.length = 0 := by
      have := tkN_le len took A.length
      unfold tkN at *
      split <;> split <;> first | omega | (split at hA <;> omega)
    rw [hs, Nat.add_zero, List.take_zero, List.append_nil, List.take_append_of_le_length (tkN_le _ _ _)]
theorem tkR_wrong {n : Nat} {F : List UInt8} {D : List Drt} {p r cc : Bool} {c : Cmd} {len took : Int} {R : List UInt8} {S : Sns} {B : List UInt8} (h : rightJ c len took R.length = false) : tkR n F D p r cc c len took R S B = ((F, D, S), took, R) := by
  unfold tkR
  rw [if_pos h]
theorem tkR_mode {n : Nat} {F : List UInt8} {D : List Drt} {p r cc : Bool} {c : Cmd} {len took : Int} {R : List UInt8} {S : Sns} {B : List UInt8} (h : rightJ c len took R.length = true) (hM : modeOp c.1 = true) :
    tkR n F D p r cc c len took R S B = ((F, D, S), took + tkN len took B.length, R ++ B.take (tkN len took B.length)) := by
  unfold tkR
  rw [if_neg (by simp [h]), if_pos hM]
theorem tkR_blks {n : Nat} {F : List UInt8} {D : List Drt} {p r cc : Bool} {c : Cmd} {len took : Int} {R : List UInt8} {S : Sns} {B L : List UInt8} (h : rightJ c len took R.length = true) (hM : ¬ modeOp c.1 = true) (hL : R ++ B.take (tkN len took B.length) = L) :
    tkR n F D p r cc c len took R S B = (blksT n p r cc c (L.length / 64) F D S (took / 64).toNat L, took + tkN len took B.length, L.drop (64 * (L.length / 64))) := by
  subst hL
  unfold tkR
  rw [if_neg (by simp [h]), if_neg hM]
theorem take_take (n : Nat) (F : List UInt8) (D : List Drt) (p r cc : Bool) (c : Cmd) (len took : Int) (R : List UInt8) (S : Sns) (A B : List UInt8) :
    tkR n (tkR n F D p r cc c len took R S A).1.1 (tkR n F D p r cc c len took R S A).1.2.1 p r cc c len (tkR n F D p r cc c len took R S A).2.1 (tkR n F D p r cc c len took R S A).2.2 (tkR n F D p r cc c len took R S A).1.2.2 B
      = tkR n F D p r cc c len took R S (A ++ B) := by
  have hr2 := right_take n F D p r cc c len took R S A
  by_cases h : rightJ c len took R.length = false
  · simp only [tkR_wrong h]
  · obtain ⟨k, hs, rfl, h0, h1, hm⟩ := rightJ_some h
    have hr : rightJ c k took R.length = true := by simpa using h
    rw [hr] at hr2
    have hN := tkN_left k took A.length h1
    have hT := tkN_add k took A.length B.length h1
    have hA := take_tkN k took A B h1
    by_cases hM : modeOp c.1 = true
    · rw [tkR_mode (F := F) hr hM] at hr2 ⊢
      rw [tkR_mode hr2 hM, tkR_mode hr hM, hA, List.length_append, hT]
      simp only [List.append_assoc, Int.natCast_add, Int.add_assoc]
    · rw [if_neg hM] at hm
      have hm' : (R.length : Int) = took % 64 := by simpa using hm
      obtain ⟨a, ha⟩ : ∃ a, tkN k took A.length = a := ⟨_, rfl⟩
      obtain ⟨L, hL⟩ : ∃ L, R ++ A.take a = L := ⟨_, rfl⟩
      have hLl : L.length = R.length + a := by
        have := tkN_le k took A.length
        rw [← hL, List.length_append, List.length_take]; omega
      have hX := tkR_blks (n := n) (F := F) (D := D) (p := p) (r := r) (cc := cc) (S := S) (B := A) (L := L) hr hM (by rw [ha, hL])
      rw [hX] at hr2 ⊢
      dsimp only at hr2 ⊢
      rw [ha] at hr2 hN hT hA ⊢
      obtain ⟨b, hb⟩ : ∃ b, tkN k (took + a) B.length = b := ⟨_, rfl⟩
      rw [hb] at hT hA
      rw [tkR_blks (B := B) (L := L.drop (64 * (L.length / 64)) ++ B.take b) hr2 hM (by rw [hb])]
      rw [tkR_blks (F := F) (B := A ++ B) (L := L ++ B.take b) hr hM (by rw [hA, ← List.append_assoc, hL])]
      rw [hb, show (A ++ B).length = A.length + B.length from List.length_append, hT]
      have hbl : (B.take b).length = b := by
        have := tkN_le k (took + a) B.length
        rw [List.length_take]; omega
      have e1 : (L.drop (64 * (L.length / 64)) ++ B.take b).length = L.length % 64 + b := by
        rw [List.length_append, List.length_drop, hbl]; omega
      have e2 : (L ++ B.take b).length = L.length + b := by rw [List.length_append, hbl]
      have e3 : (L.length + b) / 64 = L.length / 64 + (L.length % 64 + b) / 64 := by omega
      have e4 : ((took + (a : Int)) / 64).toNat = (took / 64).toNat + L.length / 64 := by omega
      rw [e1, e2, e3, e4]
      have e5 : (L ++ B.take b).drop (64 * (L.length / 64)) = L.drop (64 * (L.length / 64)) ++ B.take b := List.drop_append_of_le_length (by omega)
      refine Prod.ext ?_ (Prod.ext ?_ ?_)
      · rw [blksT_add, blksT_app n p r cc c _ F D S _ L _ (by omega), e5]
      · dsimp only
        rw [Int.natCast_add, Int.add_assoc]
      · have e6 : 64 * (L.length / 64) + 64 * ((L.length % 64 + b) / 64) = 64 * (L.length / 64 + (L.length % 64 + b) / 64) := by omega
        dsimp only
        rw [← e5, List.drop_drop]
        rw [e6]
/-- nothing taken: nothing changed -/
theorem take_nil (n : Nat) (F : List UInt8) (D : List Drt) (p r cc : Bool) (c : Cmd) (len took : Int) (R : List UInt8) (S : Sns) : tkR n F D p r cc c len took R S [] = ((F, D, S), took, R) := by
  by_cases h : rightJ c len took R.length = false
  · exact tkR_wrong h
  · obtain ⟨k, hs, rfl, h0, h1, hm⟩ := rightJ_some h
    have hr : rightJ c k took R.length = true := by simpa using h
    have hz : tkN k took ([] : List UInt8).length = 0 := by have := tkN_le k took ([] : List UInt8).length; simpa using this
    by_cases hM : modeOp c.1 = true
    · rw [tkR_mode hr hM, hz]; simp
    · rw [if_neg hM] at hm
      have hm' : (R.length : Int) = took % 64 := by simpa using hm
      rw [tkR_blks hr hM (L := R) (by simp), hz]
      have : R.length / 64 = 0 := by omega
      simp [this, blksT]
end Go.Proofs.Ytbcikndebaeahaa

namespace Go.Proofs.Ytbcikndebaeahaa
open Go.ChangeShapes Go.WideShapes Go.ChangeAt Go.RowKit
set_option linter.unusedVariables false
set_option maxRecDepth 4000
set_option linter.unusedSimpArgs false
/-! How much stands dirty behind Take; its sense is a sense. -/
theorem wrD_len {n : Nat} {D : List Drt} {at_ : Int} {X : List UInt8} {th : Bool} (h : D.length ≤ 70) (hr : rightB n D = true → D.length ≤ 64) : (wrD n D at_ X th).length ≤ 70 := by
  unfold wrD
  by_cases he : wrE n D at_ = 0
  · rw [if_pos he]
    have hb : rightB n D = true := by
      cases hq : rightB n D with
      | true => rfl
      | false => exfalso; unfold wrE at he; simp [hq] at he
    have h64 := hr hb
    split
    · have := List.length_filter_le (fun d => !inR at_ (at_ + 1) d) D
      omega
    · split
      · have := List.length_filter_le (fun d => !inR 0 n d) D
        simp only [List.length_append, List.length_cons, List.length_nil]
        omega
      · simp only [List.length_append, List.length_cons, List.length_nil]
        omega
  · rw [if_neg he]; simp
theorem rightB_len {n : Nat} {D : List Drt} (h : rightB n D = true) : D.length ≤ 64 := by
  unfold rightB at h
  exact (of_decide_eq_true h).2.1
theorem blkD_len {n : Nat} {F : List UInt8} {D : List Drt} {p r cc : Bool} {c : Cmd} {S : Sns} {i : Nat} {X : List UInt8} (h : D.length ≤ 70) : (blkD n F D p r cc c S i X).length ≤ 70 := by
  unfold blkD
  split
  · exact h
  · unfold ptD
    split
    · exact wrD_len h rightB_len
    · exact h
theorem blksD_len (n : Nat) (p r cc : Bool) (c : Cmd) : ∀ (q : Nat) (F : List UInt8) (D : List Drt) (S : Sns) (i : Nat) (L : List UInt8), D.length ≤ 70 → (blksT n p r cc c q F D S i L).2.1.length ≤ 70 := by
  intro q
  induction q with
  | zero => intro F D S i L h; exact h
  | succ q ih => intro F D S i L h; exact ih _ _ _ _ _ (blkD_len h)
theorem tkD_len (n : Nat) (F : List UInt8) (D : List Drt) (p r cc : Bool) (c : Cmd) (len took : Int) (R : List UInt8) (S : Sns) (B : List UInt8) (h : D.length ≤ 70) : (tkR n F D p r cc c len took R S B).1.2.1.length ≤ 70 := by
  unfold tkR
  split
  · exact h
  split
  · exact h
  · exact blksD_len _ _ _ _ _ _ _ _ _ _ _ h
theorem checkS_ok10 (n : Nat) (D : List Drt) (p r : Bool) (at_ : Nat) (m : Int) (wr : Bool) : OkS (checkS n D p r at_ m wr) := by
  unfold checkS OkS
  split
  · simp
  split
  · simp
  split <;> simp
theorem blkS_ok (n : Nat) (F : List UInt8) (D : List Drt) (p r cc : Bool) (c : Cmd) (S : Sns) (i : Nat) (X : List UInt8) (h : OkS S) : OkS (blkS n F D p r cc c S i X) := by
  unfold blkS
  split
  · exact h
  split
  · dsimp only
    split
    · exact ⟨by simp, by simp, by simp⟩
    · exact checkS_ok10 _ _ _ _ _ _ _
  · unfold putS
    split <;> exact checkS_ok10 _ _ _ _ _ _ _
theorem blksT_ok (n : Nat) (p r cc : Bool) (c : Cmd) : ∀ (q : Nat) (F : List UInt8) (D : List Drt) (S : Sns) (i : Nat) (L : List UInt8), OkS S → OkS (blksT n p r cc c q F D S i L).2.2 := by
  intro q
  induction q with
  | zero => intro F D S i L h; exact h
  | succ q ih => intro F D S i L h; exact ih _ _ _ _ _ (blkS_ok _ _ _ _ _ _ _ _ _ _ h)
theorem tkR_ok (n : Nat) (F : List UInt8) (D : List Drt) (p r cc : Bool) (c : Cmd) (len took : Int) (R : List UInt8) (S : Sns) (B : List UInt8) (h : OkS S) : OkS (tkR n F D p r cc c len took R S B).1.2.2 := by
  unfold tkR
  split
  · exact h
  split
  · exact h
  · exact blksT_ok _ _ _ _ _ _ _ _ _ _ _ h
end Go.Proofs.Ytbcikndebaeahaa

namespace Go.Proofs.Ytbcikndebaeahaa
open Go.ChangeShapes Go.WideShapes Go.ChangeAt Go.RowKit
set_option linter.unusedVariables false
set_option maxRecDepth 4000
set_option linter.unusedSimpArgs false
/-! Variables of two results of a job; how much is looked at. -/
theorem great10_no {n : Nat} {D : List Drt} {m k b : Nat} (h : great10 n D m k b = false) : n ≤ 70 ∧ D.length ≤ 70 ∧ m ≤ 20 ∧ k ≤ 3000 ∧ b ≤ 3000 := by
  unfold great10 greatB at h
  simp at h
  omega
theorem Jb.mk' {w : World} {c : Cmd} {len took : Int} {ar : Option Addr} {kr cr : Nat} {R : List UInt8} {S : Sns} (h : Bs w (.slice ar kr cr) R) : Jb w (jval c len took ar kr cr S) c len took R S := by
  obtain ⟨h1, a, cap, e, h2, h3⟩ := h
  simp at e
  obtain ⟨rfl, rfl, rfl⟩ := e
  exact ⟨_, _, rfl, h1, _, _, rfl, h2, h3⟩
theorem Bs.len' {w : World} {a : Option Addr} {k c : Nat} {R : List UInt8} (h : Bs w (.slice a k c) R) : R.length = k := by
  obtain ⟨h1, a, cap, e, h2, h3⟩ := h
  simp at e
  exact e.2.1.symm
/-- 'x, y := f(..)', a unit and a job -/
theorem wpList_newUJ {w : World} {ops : Array Oper} {rest : List Oper} {o1 o2 o3 o4 : Oper} {a : Act} {Q : Exit → Act → World → Prop} (hg1 : o1.guard = none) (hg2 : o2.guard = none) (hg3 : o3.guard = none) (hg4 : o4.guard = none)
    (h1 : o1.op = .alloc 32) (h2 : o2.op = .alloc 38) (d1 d2 : Tmp) (hd1 : o1.dst = some d1) (hd2 : o2.dst = some d2) (hs1 : d1 < a.tmps.size) (hs2 : d2 < a.tmps.size) (hne : d1 ≠ d2) (y1 y2 : Operand) (hy1 : y1 ≠ .tmp d1) (hy1' : y1 ≠ .tmp d2) (hy2 : y2 ≠ .tmp d1) (hy2' : y2 ≠ .tmp d2)
    (h3 : o3.op = .store 32 (.tmp d1) y1) (h4 : o4.op = .store 38 (.tmp d2) y2) (hd3 : o3.dst = none) (hd4 : o4.dst = none)
    (ab : Option Addr) (n cb : Nat) (aD : Option Addr) (k cD : Nat) (p r l cc : Bool) (am : Option Addr) (m cm : Nat) (s : Sns) (e1 : a.eval y1 = uval ab n cb aD k cD p r l cc am m cm s)
    (c : Cmd) (len took : Int) (ar : Option Addr) (kr cr : Nat) (S : Sns) (e2 : a.eval y2 = jval c len took ar kr cr S)
    (h : ∀ (g1 g2 : Nat) (w' : World), Box w' g1 32 (uc ab n cb aD k cD p r l cc am m cm s) → Box w' g2 38 (jc c len took ar kr cr S) → Later w w' → Hid (g1 = w.heap.size ∧ g2 = w.heap.size + 1) → wpList Try.prog ops Q rest ((a.put (some d1) (.pointer (some ⟨g1, 0, none⟩))).put (some d2) (.pointer (some ⟨g2, 0, none⟩))) w') : wpList Try.prog ops Q (o1 :: o2 :: o3 :: o4 :: rest) a w :=
  wpList_new2 hg1 hg2 hg3 hg4 32 38 h1 h2 d1 d2 hd1 hd2 hs1 hs2 hne y1 y2 hy1 hy1' hy2 hy2' h3 h4 hd3 hd4 _ _ (uc ab n cb aD k cD p r l cc am m cm s) (jc c len took ar kr cr S) Try.zero_unit rfl Try.zero_job rfl e1 e2 (uc_one _ _ _ _ _ _ _ _ _ _ _ _ _ _) (jc_one _ _ _ _ _ _ _) h
/-- 'x, y := f(..)', a unit and a sense -/
theorem wpList_newUS {w : World} {ops : Array Oper} {rest : List Oper} {o1 o2 o3 o4 : Oper} {a : Act} {Q : Exit → Act → World → Prop} (hg1 : o1.guard = none) (hg2 : o2.guard = none) (hg3 : o3.guard = none) (hg4 : o4.guard = none)
    (h1 : o1.op = .alloc 32) (h2 : o2.op = .alloc 30) (d1 d2 : Tmp) (hd1 : o1.dst = some d1) (hd2 : o2.dst = some d2) (hs1 : d1 < a.tmps.size) (hs2 : d2 < a.tmps.size) (hne : d1 ≠ d2) (y1 y2 : Operand) (hy1 : y1 ≠ .tmp d1) (hy1' : y1 ≠ .tmp d2) (hy2 : y2 ≠ .tmp d1) (hy2' : y2 ≠ .tmp d2)
    (h3 : o3.op = .store 32 (.tmp d1) y1) (h4 : o4.op = .store 30 (.tmp d2) y2) (hd3 : o3.dst = none) (hd4 : o4.dst = none)
    (ab : Option Addr) (n cb : Nat) (aD : Option Addr) (k cD : Nat) (p r l cc : Bool) (am : Option Addr) (m cm : Nat) (s : Sns) (e1 : a.eval y1 = uval ab n cb aD k cD p r l cc am m cm s)
    (S : Sns) (e2 : a.eval y2 = sval S)
    (h : ∀ (g1 g2 : Nat) (w' : World), Box w' g1 32 (uc ab n cb aD k cD p r l cc am m cm s) → Box w' g2 30 (sc S) → Later w w' → Hid (g1 = w.heap.size ∧ g2 = w.heap.size + 1) → wpList Try.prog ops Q rest ((a.put (some d1) (.pointer (some ⟨g1, 0, none⟩))).put (some d2) (.pointer (some ⟨g2, 0, none⟩))) w') : wpList Try.prog ops Q (o1 :: o2 :: o3 :: o4 :: rest) a w :=
  wpList_new2 hg1 hg2 hg3 hg4 32 30 h1 h2 d1 d2 hd1 hd2 hs1 hs2 hne y1 y2 hy1 hy1' hy2 hy2' h3 h4 hd3 hd4 _ _ (uc ab n cb aD k cD p r l cc am m cm s) (sc S) Try.zero_unit rfl Try.zero_sense rfl e1 e2 (uc_one _ _ _ _ _ _ _ _ _ _ _ _ _ _) (sc_one _) h
end Go.Proofs.Ytbcikndebaeahaa
