import Derived.Deep.AppendSrc
import Derived.Deep.Cut
import Derived.Test.YtmelkgmbiiobgaaMAJ
import Derived.Test.YtmelkgmbiiobgaaMAC
import Derived.Test.YtmelkgmbiiobgaaMAI
import Derived.Test.YtmelkgmbiiobgaaMAF
namespace Go.Proofs.Ytmelkgmbiiobgaa
open Go.ChangeShapes Go.WideShapes Go.ChangeAt Go.RowKit
set_option linter.unusedVariables false
set_option maxRecDepth 4000
set_option linter.unusedSimpArgs false
/-! Answer: to a command. -/
/-- a call that makes memory, where it alone may come up -/
theorem wpJ_callL {P : Program} {ops : Array Oper} {I : World → Prop} (hI : ∀ w w', Later w w' → I w → I w') {Q : Act → World → Prop} {i : Nat} {o : Oper} {σ : List (Nat × Bool)} {a : Act} {b : World} (ho : ops[i]? = some o) (hw : Region.wanted o (yielded ops a.tmps) = true) (f : FuncId) (hp : Plain P f) (xs : List Operand) (ts : Array TypeId) (hop : o.op = .call { callee := .value (.func f), args := xs.toArray, argTypes := ts }) (us : List Value) (hx : xs.map a.eval = us)
    (R : Value → World → Prop) (hb : I b) (hc : ∀ w, Later b w → Calls P f us.toArray w fun e w' => ∃ v, e = .returned v ∧ Later w w' ∧ R v w')
    (h : ∀ v b', Later b b' → R v b' → wpJ P ops I Q σ (a.put o.dst v) b') : wpJ P ops I Q ((i, true) :: σ) a b := by
  intro w hl
  unfold jOp
  simp only [ho]
  rw [if_pos hw, run_call f hp xs ts hop us hx]
  exact ⟨rfl, (hc w hl).mono fun e w' ⟨v, e1, l1, r1⟩ => ⟨v, e1, hI _ _ (hl.trans l1) hb, h v w' (hl.trans l1) r1⟩⟩
def thereB (lun luns : Int) : Bool := decide (0 ≤ lun) && decide (lun < luns)
def ansR (c : Cmd) (lun luns : Int) : List UInt8 × Sns :=
  if c.1 ≠ 18 then ([], (5, 36, 0))
  else if c.2.2.2.2 ≠ 1 then (cutL (stdL (thereB lun luns)) c.2.2.1, (0, 0, 0))
  else (cutL (pageL c.2.2.2.1 lun (thereB lun luns)) c.2.2.1, pageS c.2.2.2.1)
theorem stdL_len (there : Bool) : (stdL there).length = 36 := rfl
end Go.Proofs.Ytmelkgmbiiobgaa

namespace Go.Proofs.Ytmelkgmbiiobgaa
open Go.ChangeShapes Go.WideShapes Go.ChangeAt Go.RowKit
set_option linter.unusedVariables false
set_option maxRecDepth 4000
set_option linter.unusedSimpArgs false
/-! 'append(a, x...)', a our own, in regions that draw their order. -/
attribute [go_sem] Oper.heldUpon
end Go.Proofs.Ytmelkgmbiiobgaa

namespace Go.Proofs.Ytmelkgmbiiobgaa
open Go.ChangeShapes Go.WideShapes Go.ChangeAt Go.RowKit
set_option linter.unusedVariables false
set_option maxRecDepth 4000
set_option linter.unusedSimpArgs false
/-! The document's mode: Page. -/
def vB (caching : Bool) (which : Int) : Bool := caching || which == 1 || which == 2
def vU (c : Bool) : UInt8 := if c then 4 else 0
def pg8 (c : Bool) : List UInt8 := [8, 18, vU c, 0, 0, 0, 0, 0, 0, 0, 0, 0, 0, 0, 0, 0, 0, 0, 0, 0]
def pg28 : List UInt8 := [28, 10, 0, 0, 0, 0, 0, 0, 0, 0, 0, 0]
def mpL (page which : Int) (caching : Bool) : List UInt8 := if page = 8 then pg8 (vB caching which) else if page = 28 then pg28 else if page = 63 then pg8 (vB caching which) ++ pg28 else []
def mpB (page : Int) : Bool := decide (page = 8 ∨ page = 28 ∨ page = 63)
/-- what is asked of a page's call -/
def MPag (f : FuncId) (page which : Int) (caching : Bool) : Prop := ∀ w : World, Calls Try.prog f #[.int .i64 page, .int .i64 which, .bool caching] w fun e w' => ∃ v, e = .returned (.tuple #[v, .bool (mpB page)]) ∧ Later w w' ∧ Bs w' v (mpL page which caching)
theorem mpL_len (page which : Int) (caching : Bool) : (mpL page which caching).length ≤ 32 := by
  unfold mpL
  split
  · simp [pg8]
  split
  · simp [pg28]
  split
  · simp [pg8, pg28]
  · simp
end Go.Proofs.Ytmelkgmbiiobgaa

namespace Go.Proofs.Ytmelkgmbiiobgaa
open Go.ChangeShapes Go.WideShapes Go.ChangeAt Go.RowKit
set_option linter.unusedVariables false
set_option maxRecDepth 4000
set_option linter.unusedSimpArgs false
/-! The document's mode: Answer. -/
def wpU (p : Bool) : UInt8 := if p then 128 else 0
def mhead (op : Int) (n : Nat) (protect : Bool) : List UInt8 := if op = 90 then [0, UInt8.ofNat (n + 6), 0, wpU protect, 0, 0, 0, 0] else [UInt8.ofNat (n + 3), 0, wpU protect, 0]
def mansR (c : Cmd) (caching protect : Bool) : List UInt8 × Sns :=
  if c.1 ≠ 26 ∧ c.1 ≠ 90 then ([], (5, 36, 0))
  else if c.2.2.2.2 = 3 then ([], (5, 57, 0))
  else if mpB c.2.2.2.1 = false then ([], (5, 36, 0))
  else (cutL (mhead c.1 (mpL c.2.2.2.1 c.2.2.2.2 caching).length protect ++ mpL c.2.2.2.1 c.2.2.2.2 caching) c.2.2.1, (0, 0, 0))
end Go.Proofs.Ytmelkgmbiiobgaa

namespace Go.Proofs.Ytmelkgmbiiobgaa
open Go.ChangeShapes Go.WideShapes Go.ChangeAt Go.RowKit
set_option linter.unusedVariables false
set_option maxRecDepth 4000
set_option linter.unusedSimpArgs false
/-! lay: a number into bytes. -/
theorem Try.info1_u8 : (Try.prog.info? 5).map (·.size) = some 1 := by kernel_rfl
theorem owns_of_box {w : World} {g n : Nat} {e : TypeId} {l : List UInt8} (h : Box w g e (bv l)) (hl : l.length = n) (hm : n ≤ 100) : w.ownsRow 0 e 1 (.slice (some ⟨g, 0, none⟩) n n) n (bv l) :=
  ⟨by rw [bv_length]; omega, .inr ⟨g, n, (bv l).toArray, rfl, Nat.zero_le _, h, Nat.le_refl _, by unfold maxLen; omega, by simp [bv_length]; omega, List.take_of_length_le (by simp [bv_length]; omega)⟩⟩
end Go.Proofs.Ytmelkgmbiiobgaa

namespace Go.Proofs.Ytmelkgmbiiobgaa
open Go.ChangeShapes Go.WideShapes Go.ChangeAt Go.RowKit
set_option linter.unusedVariables false
set_option maxRecDepth 4000
set_option linter.unusedSimpArgs false
/-! lay of a form: a command into bytes. -/
end Go.Proofs.Ytmelkgmbiiobgaa

namespace Go.Proofs.Ytmelkgmbiiobgaa
open Go.ChangeShapes Go.WideShapes Go.ChangeAt Go.RowKit
set_option linter.unusedVariables false
set_option maxRecDepth 4000
set_option linter.unusedSimpArgs false
/-! Bytes that are made, and one of them that is set: the world behind it stands by itself. -/
theorem wpList_makeB {w : World} {ops : Array Oper} {rest : List Oper} {o : Oper} {a : Act} {Q : Exit → Act → World → Prop} (hg : o.guard = none) (l c : Operand) (hop : o.op = Op.makeSlice 39 l c) (n : Nat) (hl : a.eval l = .int .i64 (n : Int)) (hc : a.eval c = .int .i64 (n : Int)) (hn : n ≤ 100000)
    (h : ∀ (g : Nat) (w' : World), Box w' g 5 (bv (List.replicate n 0)) → Later w w' → Hid (g = w.heap.size) → wpList Try.prog ops Q rest (a.put o.dst (.slice (some ⟨g, 0, none⟩) n n)) w') : wpList Try.prog ops Q (o :: rest) a w := by
  refine wpList_plain hg fun K hK => ?_
  have hrun := run_make_row' (P := Try.prog) 39 5 (.int .u8 0) 1 Try.underlying39 Try.info_u8 rfl .i64 .i64 n (by omega) (by omega) w
  unfold Go.Oper.wp
  simp [execOp, hop, hl, hc, hrun, Result.andThen]
  exact hK _ _ (h _ _ (Box.new' _ _ _ _ (made_zero n) _ rfl) ((Later.refl w).alloc _) rfl)
theorem wpList_storeB {P : Program} {w : World} {ops : Array Oper} {rest : List Oper} {op : Oper} {a : Act} {Q : Exit → Act → World → Prop} (hgd : op.guard = none) (ty : TypeId) (x y : Operand) (ho : op.op = .store ty x y) (g o : Nat) (hx : a.eval x = .pointer (some ⟨g, o, none⟩)) (z : Int) (hy : a.eval y = .int .u8 z)
    (hs : (P.info? ty).map (·.size) = some 1) (t : TypeId) (l : List UInt8) (hB : Box w g t (bv l)) (hl : o < l.length) (b : UInt8) (hb : z = (b.toNat : Int))
    (h : ∀ w', Box w' g t (bv (l.set o b)) → Hid (w' = w.setCells g o [.int .u8 z]) → wpList P ops Q rest (a.put op.dst undef) w') : wpList P ops Q (op :: rest) a w := by
  refine wpList_plain hgd fun K hK => ?_
  have hl' : o < (bv l).length := by rw [bv_length]; exact hl
  have hc : w.cell? ⟨g, o, none⟩ = some ((bv l)[o]'hl') := by rw [hB.cell o, List.getElem?_eq_getElem hl']
  have hf := hB.frozen o
  have hrun : (Instr.storeAt ty (.pointer (some ⟨g, o, none⟩)) (.int .u8 z)).run P w = .ok () (w.setCells g o [.int .u8 z]) := by
    simp [Instr.storeAt, Instr.sureAddr, storeVar, run_size hs, Value.cells, World.setCells]
    go_simp
  have hB2 : Box (w.setCells g o [.int .u8 z]) g t (bv (l.set o b)) := by
    rw [bv_set, ← hb]
    exact hB.set o _
  unfold Go.Oper.wp
  simp [execOp, ho, hx, hy, hrun, Result.andThen]
  exact hK _ _ (h _ hB2 rfl)
/-! Bytes. -/
end Go.Proofs.Ytmelkgmbiiobgaa

namespace Go.Proofs.Ytmelkgmbiiobgaa
open Go.ChangeShapes Go.WideShapes Go.ChangeAt Go.RowKit
set_option linter.unusedVariables false
set_option maxRecDepth 4000
set_option linter.unusedSimpArgs false
/-! The document's cdb: Known, Size, big. -/
end Go.Proofs.Ytmelkgmbiiobgaa

namespace Go.Proofs.Ytmelkgmbiiobgaa
open Go.ChangeShapes Go.WideShapes Go.ChangeAt Go.RowKit
set_option linter.unusedVariables false
set_option maxRecDepth 4000
set_option linter.unusedSimpArgs false
/-! rest: any other command. -/
end Go.Proofs.Ytmelkgmbiiobgaa

namespace Go.Proofs.Ytmelkgmbiiobgaa
open Go.ChangeShapes Go.WideShapes Go.ChangeAt Go.RowKit
set_option linter.unusedVariables false
set_option maxRecDepth 4000
set_option linter.unusedSimpArgs false
/-! What parameters select, as a function on lists. -/
end Go.Proofs.Ytmelkgmbiiobgaa

namespace Go.Proofs.Ytmelkgmbiiobgaa
open Go.ChangeShapes Go.WideShapes Go.ChangeAt Go.RowKit
set_option linter.unusedVariables false
set_option maxRecDepth 4000
set_option linter.unusedSimpArgs false
/-! The document's mode: Select. -/
end Go.Proofs.Ytmelkgmbiiobgaa

namespace Go.Proofs.Ytmelkgmbiiobgaa
open Go.ChangeShapes Go.WideShapes Go.ChangeAt Go.RowKit
set_option linter.unusedVariables false
set_option maxRecDepth 4000
set_option linter.unusedSimpArgs false
/-! Units and jobs in memory. A variable that holds no byte lies apart from rows of bytes and from media. -/
def NoB (cs : List Value) : Prop := ∀ z : Int, Value.int .u8 z ∉ cs
theorem Med.setNoB {w : World} {v : Value} {n : Nat} {F : List UInt8} {D : List Drt} {g : Nat} {ty : TypeId} {cs : List Value} (h : Med w v n F D) (hB : Box w g ty cs) (hc : NoB cs) (vs : List Value) (o : Nat) : Med (w.setCells g o vs) v n F D := by
  obtain ⟨vb, vd, rfl, hb, hd, ho⟩ := h
  refine ⟨vb, vd, rfl, hb.setApart 0 hB ?_ vs o, hd.setApart 1 hB ?_ vs o, ho⟩
  · intro hn
    have hl := hb.1
    rw [bv_length] at hl
    have h0 : 0 < F.length := by omega
    exact ⟨.int .u8 (F[0].toNat : Int), by simp [bv, h0], hc _⟩
  · intro hn
    cases D with
    | nil => simp at hn
    | cons d D =>
      have h64 := (ho d (by simp)).1
      have h0 : 0 < d.2.length := by omega
      refine ⟨.int .u8 (d.2[0].toNat : Int), ?_, hc _⟩
      rw [dv_cons]
      simp only [List.cons_append, List.getElem?_cons_succ]
      rw [List.getElem?_append_left (by rw [bv_length]; exact h0)]
      simp [bv, h0]
theorem Rw.setNoB {w : World} {v : Value} {n : Nat} {L : List UInt8} {g : Nat} {ty : TypeId} {cs : List Value} (h : Rw 1 w v n (bv L)) (hB : Box w g ty cs) (hc : NoB cs) (vs : List Value) (o : Nat) : Rw 1 (w.setCells g o vs) v n (bv L) := by
  refine h.setApart 0 hB ?_ vs o
  intro hn
  have hl := h.1
  rw [bv_length] at hl
  have h0 : 0 < L.length := by omega
  exact ⟨.int .u8 (L[0].toNat : Int), by simp [bv, h0], hc _⟩
theorem Bs.setNoB {w : World} {v : Value} {L : List UInt8} {g : Nat} {ty : TypeId} {cs : List Value} (h : Bs w v L) (hB : Box w g ty cs) (hc : NoB cs) (vs : List Value) (o : Nat) : Bs (w.setCells g o vs) v L := ((h.rw).setNoB hB hc vs o).bs.1
/-- a unit's cells -/
abbrev uc (ab : Option Addr) (n cb : Nat) (aD : Option Addr) (k cD : Nat) (p r l c : Bool) (am : Option Addr) (m cm : Nat) (s : Sns) : List Value :=
  [.slice ab n cb, .slice aD k cD, .bool p, .bool r, .bool l, .bool c, .slice am m cm, .int .i64 s.1, .int .i64 s.2.1, .int .i64 s.2.2]
/-- a job's cells -/
abbrev jc (c : Cmd) (len took : Int) (ar : Option Addr) (kr cr : Nat) (s : Sns) : List Value :=
  [.int .i64 c.1, .int .u64 (c.2.1 : Int), .int .i64 c.2.2.1, .int .i64 c.2.2.2.1, .int .i64 c.2.2.2.2, .int .i64 len, .int .i64 took, .slice ar kr cr, .int .i64 s.1, .int .i64 s.2.1, .int .i64 s.2.2]
theorem uc_nob (ab : Option Addr) (n cb : Nat) (aD : Option Addr) (k cD : Nat) (p r l c : Bool) (am : Option Addr) (m cm : Nat) (s : Sns) : NoB (uc ab n cb aD k cD p r l c am m cm s) := by intro z h; simp at h
theorem sc_nob (s : Sns) : NoB (sc s) := by intro z h; simp [sc] at h
theorem uc_one (ab : Option Addr) (n cb : Nat) (aD : Option Addr) (k cD : Nat) (p r l c : Bool) (am : Option Addr) (m cm : Nat) (s : Sns) : ∀ u ∈ uc ab n cb aD k cD p r l c am m cm s, u.oneCell' = true := by
  intro x hx
  simp at hx
  rcases hx with rfl | rfl | rfl | rfl | rfl | rfl | rfl | rfl | rfl | rfl <;> rfl
theorem jc_one (c : Cmd) (len took : Int) (ar : Option Addr) (kr cr : Nat) (s : Sns) : ∀ u ∈ jc c len took ar kr cr s, u.oneCell' = true := by
  intro x hx
  simp at hx
  rcases hx with rfl | rfl | rfl | rfl | rfl | rfl | rfl | rfl | rfl | rfl | rfl <;> rfl
abbrev uval (ab : Option Addr) (n cb : Nat) (aD : Option Addr) (k cD : Nat) (p r l c : Bool) (am : Option Addr) (m cm : Nat) (s : Sns) : Value := .agg (uc ab n cb aD k cD p r l c am m cm s).toArray
abbrev jval (c : Cmd) (len took : Int) (ar : Option Addr) (kr cr : Nat) (s : Sns) : Value := .agg (jc c len took ar kr cr s).toArray
theorem Try.info_unit : (Try.prog.info? 32).map (·.size) = some 10 := by kernel_rfl
theorem Try.info_job : (Try.prog.info? 41).map (·.size) = some 11 := by kernel_rfl
theorem Try.zero_unit : (Try.prog.info? 32).map (fun i => (i.zero, i.size)) = some (some (.agg #[.slice none 0 0, .slice none 0 0, .bool false, .bool false, .bool false, .bool false, .slice none 0 0, .int .i64 0, .int .i64 0, .int .i64 0]), 10) := by kernel_rfl
theorem Try.zero_job : (Try.prog.info? 41).map (fun i => (i.zero, i.size)) = some (some (.agg #[.int .i64 0, .int .u64 0, .int .i64 0, .int .i64 0, .int .i64 0, .int .i64 0, .int .i64 0, .slice none 0 0, .int .i64 0, .int .i64 0, .int .i64 0]), 11) := by kernel_rfl
theorem load_unit {w : World} {R : Nat} {cs : List Value} (h : Box w R 32 cs) (hl : cs.length = 10) : (loadVar 32 ⟨R, 0, none⟩).run Try.prog w = .ok (.agg cs.toArray) w :=
  run_loadVar_mid _ _ _ _ cs _ h.range Try.underlying32 rfl (by rw [Try.info_unit, hl])
theorem load_job {w : World} {R : Nat} {cs : List Value} (h : Box w R 41 cs) (hl : cs.length = 11) : (loadVar 41 ⟨R, 0, none⟩).run Try.prog w = .ok (.agg cs.toArray) w :=
  run_loadVar_mid _ _ _ _ cs _ h.range Try.underlying41 rfl (by rw [Try.info_job, hl])
/-- a unit: the medium's blocks and writes that are cached, its switches, its attentions' slice, the last sense -/
def Un (w : World) (v : Value) (n : Nat) (F : List UInt8) (D : List Drt) (p r l c : Bool) (am : Option Addr) (m cm : Nat) (s : Sns) : Prop :=
  ∃ ab cb aD k cD, v = uval ab n cb aD k cD p r l c am m cm s ∧ Med w (.agg #[.slice ab n cb, .slice aD k cD]) n F D
def Jb (w : World) (v : Value) (c : Cmd) (len took : Int) (L : List UInt8) (s : Sns) : Prop :=
  ∃ ar cr, v = jval c len took ar L.length cr s ∧ Bs w (.slice ar L.length cr) L
end Go.Proofs.Ytmelkgmbiiobgaa

namespace Go.Proofs.Ytmelkgmbiiobgaa
open Go.ChangeShapes Go.WideShapes Go.ChangeAt Go.RowKit
set_option linter.unusedVariables false
set_option maxRecDepth 4000
set_option linter.unusedSimpArgs false
/-! The document's Join. -/
end Go.Proofs.Ytmelkgmbiiobgaa

namespace Go.Proofs.Ytmelkgmbiiobgaa
open Go.ChangeShapes Go.WideShapes Go.ChangeAt Go.RowKit
set_option linter.unusedVariables false
set_option maxRecDepth 4000
set_option linter.unusedSimpArgs false
/-! What is asked of the landed inquiry. -/
abbrev In64 (x : Int) : Prop := -9223372036854775808 ≤ x ∧ x ≤ 9223372036854775807
def OkC7 (c : Cmd) : Prop := In64 c.1 ∧ c.2.1 ≤ 18446744073709551615 ∧ In64 c.2.2.1 ∧ In64 c.2.2.2.1 ∧ In64 c.2.2.2.2
def ISerial7 : Prop := ∀ (lun : Int) (w : World), In64 lun → Calls Try.prog 96 #[.int .i64 lun] w fun e w' => e = .returned (.string (strOf (serL lun))) ∧ Later w w'
def IStd7 : Prop := ∀ (there : Bool) (w : World), Calls Try.prog 54 #[.bool there] w fun e w' => ∃ v, e = .returned v ∧ Later w w' ∧ Bs w' v (stdL there)
def IPage7 : Prop := ∀ (page lun : Int) (there : Bool) (w : World), In64 page → In64 lun → Calls Try.prog 55 #[.int .i64 page, .int .i64 lun, .bool there] w fun e w' => ∃ v, e = .returned (.tuple #[v, sval (pageS page)]) ∧ Later w w' ∧ Bs w' v (pageL page lun there)
def IAns7 : Prop := ∀ (c : Cmd) (lun luns : Int) (w : World), OkC7 c → In64 lun → In64 luns → Calls Try.prog 28 #[cval c, .int .i64 lun, .int .i64 luns] w fun e w' => ∃ v, e = .returned (.tuple #[v, sval (ansR c lun luns).2]) ∧ Later w w' ∧ Bs w' v (ansR c lun luns).1
def ICut7 : Prop := ∀ (v : Value) (l : List UInt8) (n : Int) (w : World), Bs w v l → l.length ≤ 1000000 → In64 n → Calls Try.prog 51 #[v, .int .i64 n] w fun e w' => ∃ v, e = .returned v ∧ Later w w' ∧ Bs w' v (cutL l n)
end Go.Proofs.Ytmelkgmbiiobgaa

namespace Go.Proofs.Ytmelkgmbiiobgaa
open Go.ChangeShapes Go.WideShapes Go.ChangeAt Go.RowKit
set_option linter.unusedVariables false
set_option maxRecDepth 4000
set_option linter.unusedSimpArgs false
/-! The document's job: Start, Right. -/
def startL (c : Cmd) : Option Int :=
  if c.2.2.1 < 1 ∨ 4294967296 < c.2.2.1 then none
  else if c.1 = 21 ∨ c.1 = 85 then some c.2.2.1
  else if classI c.1 = 2 ∨ (classI c.1 = 3 ∧ c.2.2.2.2 = 1) then some (c.2.2.1 * 64)
  else none
def startJ (c : Cmd) : Value × Bool := match startL c with
  | none => (jval (0, 0, 0, 0, 0) 0 0 none 0 0 (0, 0, 0), false)
  | some n => (jval c n 0 none 0 0 (0, 0, 0), true)
end Go.Proofs.Ytmelkgmbiiobgaa

namespace Go.Proofs.Ytmelkgmbiiobgaa
open Go.ChangeShapes Go.WideShapes Go.ChangeAt Go.RowKit
set_option linter.unusedVariables false
set_option maxRecDepth 4000
set_option linter.unusedSimpArgs false
/-! The document's job: Right. -/
def modeOp (op : Int) : Bool := op == 21 || op == 85
end Go.Proofs.Ytmelkgmbiiobgaa

namespace Go.Proofs.Ytmelkgmbiiobgaa
open Go.ChangeShapes Go.WideShapes Go.ChangeAt Go.RowKit
set_option linter.unusedVariables false
set_option maxRecDepth 4000
set_option linter.unusedSimpArgs false
/-! The document's job: a block that came. -/
theorem wpList_neqS9 {w : World} {ops : Array Oper} {rest : List Oper} {o : Oper} {a : Act} {Q : Exit → Act → World → Prop} (hw : Region.wanted o (yielded ops a.tmps) = true) (x y : Operand) (hop : o.op = .binOp .neq 30 x y 30)
    (s t : Sns) (hx : a.eval x = sval s) (hy : a.eval y = sval t) (r : Bool) (hr : (!(s == t)) = r) (h : wpList Try.prog ops Q rest (a.put o.dst (.bool r)) w) : wpList Try.prog ops Q (o :: rest) a w := by
  subst hr
  exact wpList_neqS hw x y hop s t hx hy h
end Go.Proofs.Ytmelkgmbiiobgaa

namespace Go.Proofs.Ytmelkgmbiiobgaa
set_option linter.unusedVariables false
set_option maxRecDepth 4000
set_option linter.unusedSimpArgs false
/-! A bag whose operations are named one by one: no number is put for a variable in a great frame. -/
def AllOf (Q : Nat → Prop) : List Nat → Prop
  | [] => True
  | i :: l => Q i ∧ AllOf Q l
theorem AllOf.get {Q : Nat → Prop} : ∀ {l : List Nat}, AllOf Q l → ∀ i ∈ l, Q i
  | [], _, i, hi => by cases hi
  | j :: l, h, i, hi => by
    rcases List.mem_cons.1 hi with e | hi
    · rw [e]; exact h.1
    · exact AllOf.get h.2 i hi
theorem bag_of2 {P : Program} {ops : Array Oper} {Q : Exit → Act → World → Prop} {st σ : List Nat} {a : Act} {b : World} (gs : List Nat) (ds : Nat → List Nat) (L : World → Prop) (R : Nat → (Nat → Value) → World → Prop) (hd : (σ.all fun i => (σ.filter fun k => dep .any ops i k) == ds i) = true) (hsσ : (st.all fun i => σ.contains i) = true)
    (hgs : (σ.all fun i => st.contains i || gs.contains i) = true) (here : L b) (near : ∀ w w', Later w w' → L w → L w') (stays : ∀ i ∈ σ, ∀ vals w w', Later w w' → R i vals w → R i vals w')
    (alone : ∀ i ∈ σ, ∀ k ∈ σ, k ≠ i → k ∉ ds i → ∀ vals v w, R i vals w → R i (upd vals k v) w)
    (gives : AllOf (fun i => ∀ vals w, L w → (∀ k ∈ ds i, R k vals w) → lVal P ops i (fun v w' => R i (upd vals i v) w') (putAll ops (ds i) vals a) w) gs)
    (stores : AllOf (fun i => ∀ vals w, L w → (∀ k ∈ ds i, R k vals w) → sVal P ops i (fun v w' => L w' ∧ R i (upd vals i v) w' ∧ ∀ k ∈ ds i, R k vals w') (putAll ops (ds i) vals a) w) st)
    (still : ∀ i ∈ σ, i ∈ st → ∀ k ∈ σ, k ≠ i → k ∉ ds i → i ∉ ds k → ∀ vals w w', R k vals w → R k vals w')
    (all : ∀ vals w, L w → (∀ k ∈ σ, R k vals w) → Q .normal (putAll ops σ vals a) w) : ∃ L R, Bag2 P ops Q st σ a b L R := by
  refine bag_of ds L R hd hsσ here near stays alone (fun i hi hn vals w hL _ hR => ?_) (fun i hi hn vals w hL _ hR => AllOf.get stores i hn vals w hL hR) still all
  simp only [List.all_eq_true] at hgs
  have := hgs i hi
  simp only [Bool.or_eq_true, List.contains_iff_mem] at this
  rcases this with h | h
  · exact absurd h hn
  · exact AllOf.get gives i h vals w hL hR
end Go.Proofs.Ytmelkgmbiiobgaa

namespace Go.Proofs.Ytmelkgmbiiobgaa
open Go.ChangeShapes Go.WideShapes Go.ChangeAt Go.RowKit
set_option linter.unusedVariables false
set_option maxRecDepth 4000
set_option linter.unusedSimpArgs false
/-! Calls that give a slot and a sense, in regions that draw their order; the frame is a variable. -/
def OpAt (ops : Array Oper) (i : Nat) (d : Option Tmp) (op : Op) : Prop := ∃ o, ops[i]? = some o ∧ o.guard = none ∧ o.dst = d ∧ o.op = op
theorem OpAt.dst {ops : Array Oper} {i : Nat} {d : Option Tmp} {op : Op} (h : OpAt ops i d op) : dstOf ops i = d := by
  obtain ⟨o, h1, _, h3, _⟩ := h
  exact dstOf_of h1 h3
theorem lVal_callAt {P : Program} {ops : Array Oper} {i : Nat} {R : Value → World → Prop} {a : Act} {w : World} {d : Option Tmp} {f : FuncId} {xs : List Operand} {ts : Array TypeId} (h : OpAt ops i d (.call { callee := .value (.func f), args := xs.toArray, argTypes := ts })) (hp : Plain P f) (us : List Value) (hx : xs.map a.eval = us)
    (hc : Calls P f us.toArray w fun e w' => ∃ v, e = .returned v ∧ Later w w' ∧ R v w') : lVal P ops i R a w := by
  obtain ⟨o, h1, h2, h3, h4⟩ := h
  refine lVal_step h1 fun K hK => ?_
  rw [if_pos (by simp [Region.wanted, h2])]
  rw [run_call f hp xs ts h4 us hx]
  refine ⟨rfl, hc.mono ?_⟩
  rintro e w' ⟨v, q1, q2, q3⟩
  exact ⟨_, q1, q2, hK _ _ q3⟩
theorem lVal_moveAt {P : Program} {ops : Array Oper} {i : Nat} {R : Value → World → Prop} {a : Act} {w : World} {d : Option Tmp} {x : Operand} (h : OpAt ops i d (.move x)) (v : Value) (hx : a.eval x = v) (hR : R v w) : lVal P ops i R a w := by
  obtain ⟨o, h1, h2, h3, h4⟩ := h
  exact lVal_of_run h1 h2 v w (run_move _ h4 _ hx w) (Later.refl w) hR
theorem lVal_extractAt {P : Program} {ops : Array Oper} {i : Nat} {R : Value → World → Prop} {a : Act} {w : World} {d : Option Tmp} {x : Operand} {k : Nat} (h : OpAt ops i d (.extract x k)) (vs : Array Value) (v : Value) (hx : a.eval x = .tuple vs) (hv : vs[k]? = some v) (hR : R v w) : lVal P ops i R a w := by
  obtain ⟨o, h1, h2, h3, h4⟩ := h
  exact lVal_of_run h1 h2 v w (run_extract x k h4 vs v hx hv w) (Later.refl w) hR
theorem lVal_allocAt {P : Program} {ops : Array Oper} {i : Nat} {R : Value → World → Prop} {a : Act} {w : World} {d : Option Tmp} {ty : TypeId} (h : OpAt ops i d (.alloc ty)) (z : Array Value) (n : Nat) (hz : (P.info? ty).map (fun i => (i.zero, i.size)) = some (some (.agg z), n)) (hR : R (.pointer (some ⟨w.heap.size, 0, none⟩)) (w.alloc (.cells z ty))) : lVal P ops i R a w := by
  obtain ⟨o, h1, h2, h3, h4⟩ := h
  exact lVal_of_run h1 h2 _ _ (run_alloc ty h4 z n hz w) ((Later.refl w).alloc _) hR
theorem sVal_storeAt {P : Program} {ops : Array Oper} {i : Nat} {R : Value → World → Prop} {a : Act} {w : World} {d : Option Tmp} {ty : TypeId} {x y : Operand} (h : OpAt ops i d (.store ty x y)) (g : Nat) (cells : List Value) (hx : a.eval x = .pointer (some ⟨g, 0, none⟩)) (hy : a.eval y = .agg cells.toArray) (ht : w.there g 0 cells.length) (hi : (P.info? ty).map (·.size) = some cells.length) (h1 : ∀ u ∈ cells, u.oneCell' = true)
    (hR : ∀ u, R u (w.setCells g 0 cells)) : sVal P ops i R a w := by
  obtain ⟨o, q1, q2, q3, q4⟩ := h
  exact sVal_store q1 q2 ty x y q4 g cells hx hy ht hi h1 hR
theorem eval_same {a : Act} {d : Tmp} {v : Value} (h : d < a.tmps.size) : (a.put (some d) v).eval (.tmp d) = v := put_eval h
end Go.Proofs.Ytmelkgmbiiobgaa

namespace Go.Proofs.Ytmelkgmbiiobgaa
open Go.ChangeShapes Go.WideShapes Go.ChangeAt Go.RowKit
set_option linter.unusedVariables false
set_option maxRecDepth 4000
set_option linter.unusedSimpArgs false
/-! 'x, y := f(..)' of two structs, in a region that draws. -/
end Go.Proofs.Ytmelkgmbiiobgaa

namespace Go.Proofs.Ytmelkgmbiiobgaa
open Go.ChangeShapes Go.WideShapes Go.ChangeAt Go.RowKit
set_option linter.unusedVariables false
set_option maxRecDepth 4000
set_option linter.unusedSimpArgs false
/-! The document's job: Take. -/
/-- a slice goes into a variable's cell -/
theorem wpList_storeV {P : Program} {w : World} {ops : Array Oper} {rest : List Oper} {op : Oper} {a : Act} {Q : Exit → Act → World → Prop} (hgd : op.guard = none) (ty : TypeId) (x y : Operand) (ho : op.op = .store ty x y) (g o : Nat) (hx : a.eval x = .pointer (some ⟨g, o, none⟩)) (A : Option Addr) (n c : Nat) (hy : a.eval y = .slice A n c)
    (hs : (P.info? ty).map (·.size) = some 1) (t : TypeId) (cs : List Value) (hB : Box w g t cs) (hl : o < cs.length)
    (h : ∀ w', Hid (w' = w.setCells g o [.slice A n c]) → wpList P ops Q rest (a.put op.dst undef) w') : wpList P ops Q (op :: rest) a w := by
  refine wpList_plain hgd fun K hK => ?_
  have hc : w.cell? ⟨g, o, none⟩ = some (cs[o]'hl) := by rw [hB.cell o, List.getElem?_eq_getElem hl]
  have hf := hB.frozen o
  have hrun : (Instr.storeAt ty (.pointer (some ⟨g, o, none⟩)) (.slice A n c)).run P w = .ok () (w.setCells g o [.slice A n c]) := by
    simp [Instr.storeAt, Instr.sureAddr, storeVar, run_size hs, Value.cells, World.setCells]
    go_simp
  unfold Go.Oper.wp
  simp [execOp, ho, hx, hy, hrun, Result.andThen]
  exact hK _ _ (h _ rfl)
end Go.Proofs.Ytmelkgmbiiobgaa

namespace Go.Proofs.Ytmelkgmbiiobgaa
open Go.ChangeShapes Go.WideShapes Go.ChangeAt Go.RowKit
set_option linter.unusedVariables false
set_option maxRecDepth 4000
set_option linter.unusedSimpArgs false
/-! The document's job: Finish. -/
theorem wpList_eqS9 {w : World} {ops : Array Oper} {rest : List Oper} {o : Oper} {a : Act} {Q : Exit → Act → World → Prop} (hw : Region.wanted o (yielded ops a.tmps) = true) (x y : Operand) (hop : o.op = .binOp .eql 30 x y 30)
    (s t : Sns) (hx : a.eval x = sval s) (hy : a.eval y = sval t) (r : Bool) (hr : (s == t) = r) (h : wpList Try.prog ops Q rest (a.put o.dst (.bool r)) w) : wpList Try.prog ops Q (o :: rest) a w := by
  subst hr
  exact wpList_eqS hw x y hop s t hx hy h
end Go.Proofs.Ytmelkgmbiiobgaa
