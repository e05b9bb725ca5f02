import Derived.Deep.Cut
import Derived.Test.YtfakboehmcimpaaGreatMAP
import Derived.Test.YtfakboehmcimpaaGreatMAK
import Derived.Test.YtfakboehmcimpaaGreatMAM
import Derived.Test.YtfakboehmcimpaaGreatMAN
import Derived.Test.YtfakboehmcimpaaGreatMAL
import Derived.Test.YtfakboehmcimpaaGreatMAF
namespace Go.Proofs.YtfakboehmcimpaaGreat
open Go.ChangeShapes Go.WideShapes Go.ChangeAt Go.RowKit
set_option linter.unusedVariables false
set_option maxRecDepth 4000
set_option linter.unusedSimpArgs false
/-! rest: any other command. -/
end Go.Proofs.YtfakboehmcimpaaGreat

namespace Go.Proofs.YtfakboehmcimpaaGreat
open Go.ChangeShapes Go.WideShapes Go.ChangeAt Go.RowKit
set_option linter.unusedVariables false
set_option maxRecDepth 4000
set_option linter.unusedSimpArgs false
/-! What parameters select, as a function on lists. -/
end Go.Proofs.YtfakboehmcimpaaGreat

namespace Go.Proofs.YtfakboehmcimpaaGreat
open Go.ChangeShapes Go.WideShapes Go.ChangeAt Go.RowKit
set_option linter.unusedVariables false
set_option maxRecDepth 4000
set_option linter.unusedSimpArgs false
/-! The document's mode: Select. -/
end Go.Proofs.YtfakboehmcimpaaGreat

namespace Go.Proofs.YtfakboehmcimpaaGreat
open Go.ChangeShapes Go.WideShapes Go.ChangeAt Go.RowKit
set_option linter.unusedVariables false
set_option maxRecDepth 4000
set_option linter.unusedSimpArgs false
/-! Units and jobs in memory. A variable that holds no byte lies apart from rows of bytes and from media. -/
def NoB (cs : List Value) : Prop := ∀ z : Int, Value.int .u8 z ∉ cs
theorem Med.setNoB {w : World} {v : Value} {n : Nat} {F : List UInt8} {D : List Drt} {g : Nat} {ty : TypeId} {cs : List Value} (h : Med w v n F D) (hB : Box w g ty cs) (hc : NoB cs) (vs : List Value) (o : Nat) : Med (w.setCells g o vs) v n F D := by
  obtain ⟨vb, vd, rfl, hb, hd, ho⟩ := h
  refine ⟨vb, vd, rfl, hb.setApart 0 hB ?_ vs o, hd.setApart 1 hB ?_ vs o, ho⟩
  · intro hn
    have hl := hb.1
    rw [bv_length] at hl
    have h0 : 0 < F.length := by omega
    exact ⟨.int .u8 (F[0].toNat : Int), by simp [bv, h0], hc _⟩
  · intro hn
    cases D with
    | nil => simp at hn
    | cons d D =>
      have h64 := (ho d (by simp)).1
      have h0 : 0 < d.2.length := by omega
      refine ⟨.int .u8 (d.2[0].toNat : Int), ?_, hc _⟩
      rw [dv_cons]
      simp only [List.cons_append, List.getElem?_cons_succ]
      rw [List.getElem?_append_left (by rw [bv_length]; exact h0)]
      simp [bv, h0]
theorem Rw.setNoB {w : World} {v : Value} {n : Nat} {L : List UInt8} {g : Nat} {ty : TypeId} {cs : List Value} (h : Rw 1 w v n (bv L)) (hB : Box w g ty cs) (hc : NoB cs) (vs : List Value) (o : Nat) : Rw 1 (w.setCells g o vs) v n (bv L) := by
  refine h.setApart 0 hB ?_ vs o
  intro hn
  have hl := h.1
  rw [bv_length] at hl
  have h0 : 0 < L.length := by omega
  exact ⟨.int .u8 (L[0].toNat : Int), by simp [bv, h0], hc _⟩
theorem Bs.setNoB {w : World} {v : Value} {L : List UInt8} {g : Nat} {ty : TypeId} {cs : List Value} (h : Bs w v L) (hB : Box w g ty cs) (hc : NoB cs) (vs : List Value) (o : Nat) : Bs (w.setCells g o vs) v L := ((h.rw).setNoB hB hc vs o).bs.1
/-- a unit's cells -/
abbrev uc (ab : Option Addr) (n cb : Nat) (aD : Option Addr) (k cD : Nat) (p r l c : Bool) (am : Option Addr) (m cm : Nat) (s : Sns) : List Value :=
  [.slice ab n cb, .slice aD k cD, .bool p, .bool r, .bool l, .bool c, .slice am m cm, .int .i64 s.1, .int .i64 s.2.1, .int .i64 s.2.2]
/-- a job's cells -/
abbrev jc (c : Cmd) (len took : Int) (ar : Option Addr) (kr cr : Nat) (s : Sns) : List Value :=
  [.int .i64 c.1, .int .u64 (c.2.1 : Int), .int .i64 c.2.2.1, .int .i64 c.2.2.2.1, .int .i64 c.2.2.2.2, .int .i64 len, .int .i64 took, .slice ar kr cr, .int .i64 s.1, .int .i64 s.2.1, .int .i64 s.2.2]
theorem uc_nob (ab : Option Addr) (n cb : Nat) (aD : Option Addr) (k cD : Nat) (p r l c : Bool) (am : Option Addr) (m cm : Nat) (s : Sns) : NoB (uc ab n cb aD k cD p r l c am m cm s) := by intro z h; simp at h
theorem sc_nob (s : Sns) : NoB (sc s) := by intro z h; simp [sc] at h
theorem uc_one (ab : Option Addr) (n cb : Nat) (aD : Option Addr) (k cD : Nat) (p r l c : Bool) (am : Option Addr) (m cm : Nat) (s : Sns) : ∀ u ∈ uc ab n cb aD k cD p r l c am m cm s, u.oneCell' = true := by
  intro x hx
  simp at hx
  rcases hx with rfl | rfl | rfl | rfl | rfl | rfl | rfl | rfl | rfl | rfl <;> rfl
theorem jc_one (c : Cmd) (len took : Int) (ar : Option Addr) (kr cr : Nat) (s : Sns) : ∀ u ∈ jc c len took ar kr cr s, u.oneCell' = true := by
  intro x hx
  simp at hx
  rcases hx with rfl | rfl | rfl | rfl | rfl | rfl | rfl | rfl | rfl | rfl | rfl <;> rfl
abbrev uval (ab : Option Addr) (n cb : Nat) (aD : Option Addr) (k cD : Nat) (p r l c : Bool) (am : Option Addr) (m cm : Nat) (s : Sns) : Value := .agg (uc ab n cb aD k cD p r l c am m cm s).toArray
abbrev jval (c : Cmd) (len took : Int) (ar : Option Addr) (kr cr : Nat) (s : Sns) : Value := .agg (jc c len took ar kr cr s).toArray
theorem Tryz.info_unit : (Tryz.prog.info? 32).map (·.size) = some 10 := by kernel_rfl
theorem Tryz.info_job : (Tryz.prog.info? 42).map (·.size) = some 11 := by kernel_rfl
theorem Tryz.zero_unit : (Tryz.prog.info? 32).map (fun i => (i.zero, i.size)) = some (some (.agg #[.slice none 0 0, .slice none 0 0, .bool false, .bool false, .bool false, .bool false, .slice none 0 0, .int .i64 0, .int .i64 0, .int .i64 0]), 10) := by kernel_rfl
theorem Tryz.zero_job : (Tryz.prog.info? 42).map (fun i => (i.zero, i.size)) = some (some (.agg #[.int .i64 0, .int .u64 0, .int .i64 0, .int .i64 0, .int .i64 0, .int .i64 0, .int .i64 0, .slice none 0 0, .int .i64 0, .int .i64 0, .int .i64 0]), 11) := by kernel_rfl
theorem load_unit {w : World} {R : Nat} {cs : List Value} (h : Box w R 32 cs) (hl : cs.length = 10) : (loadVar 32 ⟨R, 0, none⟩).run Tryz.prog w = .ok (.agg cs.toArray) w :=
  run_loadVar_mid _ _ _ _ cs _ h.range Tryz.underlying32 rfl (by rw [Tryz.info_unit, hl])
theorem load_job {w : World} {R : Nat} {cs : List Value} (h : Box w R 42 cs) (hl : cs.length = 11) : (loadVar 42 ⟨R, 0, none⟩).run Tryz.prog w = .ok (.agg cs.toArray) w :=
  run_loadVar_mid _ _ _ _ cs _ h.range Tryz.underlying42 rfl (by rw [Tryz.info_job, hl])
/-- a unit: the medium's blocks and writes that are cached, its switches, its attentions' slice, the last sense -/
def Un (w : World) (v : Value) (n : Nat) (F : List UInt8) (D : List Drt) (p r l c : Bool) (am : Option Addr) (m cm : Nat) (s : Sns) : Prop :=
  ∃ ab cb aD k cD, v = uval ab n cb aD k cD p r l c am m cm s ∧ Med w (.agg #[.slice ab n cb, .slice aD k cD]) n F D
def Jb (w : World) (v : Value) (c : Cmd) (len took : Int) (L : List UInt8) (s : Sns) : Prop :=
  ∃ ar cr, v = jval c len took ar L.length cr s ∧ Bs w (.slice ar L.length cr) L
end Go.Proofs.YtfakboehmcimpaaGreat

namespace Go.Proofs.YtfakboehmcimpaaGreat
open Go.ChangeShapes Go.WideShapes Go.ChangeAt Go.RowKit
set_option linter.unusedVariables false
set_option maxRecDepth 4000
set_option linter.unusedSimpArgs false
/-! The document's Join. -/
end Go.Proofs.YtfakboehmcimpaaGreat

namespace Go.Proofs.YtfakboehmcimpaaGreat
open Go.ChangeShapes Go.WideShapes Go.ChangeAt Go.RowKit
set_option linter.unusedVariables false
set_option maxRecDepth 4000
set_option linter.unusedSimpArgs false
/-! What is asked of the landed inquiry. -/
abbrev In64 (x : Int) : Prop := -9223372036854775808 ≤ x ∧ x ≤ 9223372036854775807
def OkC7 (c : Cmd) : Prop := In64 c.1 ∧ c.2.1 ≤ 18446744073709551615 ∧ In64 c.2.2.1 ∧ In64 c.2.2.2.1 ∧ In64 c.2.2.2.2
def ISerial7 : Prop := ∀ (lun : Int) (w : World), In64 lun → Calls Tryz.prog 124 #[.int .i64 lun] w fun e w' => e = .returned (.string (strOf (serL lun))) ∧ Later w w'
def IStd7 : Prop := ∀ (there : Bool) (w : World), Calls Tryz.prog 62 #[.bool there] w fun e w' => ∃ v, e = .returned v ∧ Later w w' ∧ Bs w' v (stdL there)
def IPage7 : Prop := ∀ (page lun : Int) (there : Bool) (w : World), In64 page → In64 lun → Calls Tryz.prog 63 #[.int .i64 page, .int .i64 lun, .bool there] w fun e w' => ∃ v, e = .returned (.tuple #[v, sval (pageS page)]) ∧ Later w w' ∧ Bs w' v (pageL page lun there)
def IAns7 : Prop := ∀ (c : Cmd) (lun luns : Int) (w : World), OkC7 c → In64 lun → In64 luns → Calls Tryz.prog 22 #[cval c, .int .i64 lun, .int .i64 luns] w fun e w' => ∃ v, e = .returned (.tuple #[v, sval (ansR c lun luns).2]) ∧ Later w w' ∧ Bs w' v (ansR c lun luns).1
def ICut7 : Prop := ∀ (v : Value) (l : List UInt8) (n : Int) (w : World), Bs w v l → l.length ≤ 1000000 → In64 n → Calls Tryz.prog 58 #[v, .int .i64 n] w fun e w' => ∃ v, e = .returned v ∧ Later w w' ∧ Bs w' v (cutL l n)
end Go.Proofs.YtfakboehmcimpaaGreat

namespace Go.Proofs.YtfakboehmcimpaaGreat
open Go.ChangeShapes Go.WideShapes Go.ChangeAt Go.RowKit
set_option linter.unusedVariables false
set_option maxRecDepth 4000
set_option linter.unusedSimpArgs false
/-! The document's job: Start, Right. -/
def startL (c : Cmd) : Option Int :=
  if c.2.2.1 < 1 ∨ 4294967296 < c.2.2.1 then none
  else if c.1 = 21 ∨ c.1 = 85 then some c.2.2.1
  else if classI c.1 = 2 ∨ (classI c.1 = 3 ∧ c.2.2.2.2 = 1) then some (c.2.2.1 * 64)
  else none
def startJ (c : Cmd) : Value × Bool := match startL c with
  | none => (jval (0, 0, 0, 0, 0) 0 0 none 0 0 (0, 0, 0), false)
  | some n => (jval c n 0 none 0 0 (0, 0, 0), true)
set_option maxRecDepth 20000 in
set_option maxHeartbeats 4000000 in
theorem rstart_c (c : Cmd) (w : World) (hc : OkC7 c) : Calls Tryz.prog 82 #[cval c] w fun e w' => e = .returned (.tuple #[(startJ c).1, .bool (startJ c).2]) ∧ Later w w' := by
  obtain ⟨op, at_, n, pg, bt⟩ := c
  have HC := hide hc
  have hn : In64 n := hc.2.2.1
  unfold In64 at hn
  clear hc
  have BX := hide ((Box.new w 36 #[.int .i64 op, .int .u64 (at_ : Int), .int .i64 n, .int .i64 pg, .int .i64 bt]).alloc (.cells #[.int .i64 0, .int .u64 0, .int .i64 0, .int .i64 0, .int .i64 0, .int .i64 0, .int .i64 0, .slice none 0 0, .int .i64 0, .int .i64 0, .int .i64 0] 42))
  have BJ : Hid (Box _ (w.heap.size + 1) 42 (jc (0, 0, 0, 0, 0) 0 0 none 0 0 (0, 0, 0))) := Box.new' (w.alloc (.cells #[.int .i64 op, .int .u64 (at_ : Int), .int .i64 n, .int .i64 pg, .int .i64 bt] 36)) 42 #[.int .i64 0, .int .u64 0, .int .i64 0, .int .i64 0, .int .i64 0, .int .i64 0, .int .i64 0, .slice none 0 0, .int .i64 0, .int .i64 0, .int .i64 0] _ rfl _ (by simp)
  have LL := hide (((Later.refl w).alloc (.cells #[.int .i64 op, .int .u64 (at_ : Int), .int .i64 n, .int .i64 pg, .int .i64 bt] 36)).alloc (.cells #[.int .i64 0, .int .u64 0, .int .i64 0, .int .i64 0, .int .i64 0, .int .i64 0, .int .i64 0, .slice none 0 0, .int .i64 0, .int .i64 0, .int .i64 0] 42))
  have x0 := BX.out.cell 0
  have x1 := BX.out.cell 1
  have x2 := BX.out.cell 2
  have x3 := BX.out.cell 3
  have x4 := BX.out.cell 4
  by_cases h1 : n < 1
  · have HR : Hid (startJ (op, at_, n, pg, bt) = (jval (0, 0, 0, 0, 0) 0 0 none 0 0 (0, 0, 0), false)) := by
      have : startL (op, at_, n, pg, bt) = none := by rw [startL, if_pos (.inl h1)]
      rw [Hid, startJ, this]
    have e1 : decide (n < 1) = true := by simp; omega
    clear h1
    go_enter Tryz.func82, Tryz.ntmps82
    go_wp2_with fail
    refine (rclass_c _ _).mono ?_
    rintro e w1 ⟨rfl, hw⟩
    have hw2 := hw.symm
    subst hw2
    clear hw
    go_wp2_with (refine wpList_storeU rfl 42 (.tmp 2) (.tmp 16) rfl (w.heap.size + 1) 0 rfl (jc (0, 0, 0, 0, 0) 0 0 none 0 0 (0, 0, 0)) rfl Tryz.info_job (jc_one _ _ _ _ _ _ _) _ _ BJ.out (by simp) ?_)
    intro wz hz
    have BZ : Hid (Box wz (w.heap.size + 1) 42 (jc (0, 0, 0, 0, 0) 0 0 none 0 0 (0, 0, 0))) := by rw [hz.out]; exact BJ.out.all _ rfl
    have LZ : Hid (Later w wz) := by rw [hz.out]; exact LL.out.setCells (by omega) _ _
    clear hz
    go_wp2
    refine bodyPost_ret (results_cell_tmp rfl _ _ _ (w.heap.size + 1) 0 rfl _ _ (load_job BZ.out rfl) rfl) rfl ⟨by rw [HR.out]; rfl, LZ.out⟩
  have e1 : decide (n < 1) = false := by simp; omega
  by_cases h2 : 4294967296 < n
  · have HR : Hid (startJ (op, at_, n, pg, bt) = (jval (0, 0, 0, 0, 0) 0 0 none 0 0 (0, 0, 0), false)) := by
      have : startL (op, at_, n, pg, bt) = none := by rw [startL, if_pos (.inr h2)]
      rw [Hid, startJ, this]
    have e2 : decide (4294967296 < n) = true := by simp; omega
    clear h1 h2
    go_enter Tryz.func82, Tryz.ntmps82
    go_wp2_with fail
    refine (rclass_c _ _).mono ?_
    rintro e w1 ⟨rfl, hw⟩
    have hw2 := hw.symm
    subst hw2
    clear hw
    go_wp2_with (refine wpList_storeU rfl 42 (.tmp 2) (.tmp 16) rfl (w.heap.size + 1) 0 rfl (jc (0, 0, 0, 0, 0) 0 0 none 0 0 (0, 0, 0)) rfl Tryz.info_job (jc_one _ _ _ _ _ _ _) _ _ BJ.out (by simp) ?_)
    intro wz hz
    have BZ : Hid (Box wz (w.heap.size + 1) 42 (jc (0, 0, 0, 0, 0) 0 0 none 0 0 (0, 0, 0))) := by rw [hz.out]; exact BJ.out.all _ rfl
    have LZ : Hid (Later w wz) := by rw [hz.out]; exact LL.out.setCells (by omega) _ _
    clear hz
    go_wp2
    refine bodyPost_ret (results_cell_tmp rfl _ _ _ (w.heap.size + 1) 0 rfl _ _ (load_job BZ.out rfl) rfl) rfl ⟨by rw [HR.out]; rfl, LZ.out⟩
  have e2 : decide (4294967296 < n) = false := by simp; omega
  have HS : Hid (startL (op, at_, n, pg, bt) = if op = 21 ∨ op = 85 then some n else if classI op = 2 ∨ (classI op = 3 ∧ bt = 1) then some (n * 64) else none) := by rw [Hid, startL, if_neg (by simp only; omega)]
  by_cases h3 : op = 21 ∨ op = 85
  · have HR : Hid (startJ (op, at_, n, pg, bt) = (jval (op, at_, n, pg, bt) n 0 none 0 0 (0, 0, 0), true)) := by
      have : startL (op, at_, n, pg, bt) = some n := by rw [HS.out, if_pos h3]
      rw [Hid, startJ, this]
    clear h1 h2 HS
    rcases h3 with rfl | rfl
    · go_enter Tryz.func82, Tryz.ntmps82
      go_wp2_with fail
      refine (rclass_c _ _).mono ?_
      rintro e w1 ⟨rfl, hw⟩
      have hw2 := hw.symm
      subst hw2
      clear hw
      go_wp2_with (refine wpList_storeU rfl 42 (.tmp 2) (.tmp 28) rfl (w.heap.size + 1) 0 rfl (jc (21, at_, n, pg, bt) n 0 none 0 0 (0, 0, 0)) rfl Tryz.info_job (jc_one _ _ _ _ _ _ _) _ _ BJ.out (by simp) ?_)
      intro wz hz
      have BZ : Hid (Box wz (w.heap.size + 1) 42 (jc (21, at_, n, pg, bt) n 0 none 0 0 (0, 0, 0))) := by rw [hz.out]; exact BJ.out.all _ rfl
      have LZ : Hid (Later w wz) := by rw [hz.out]; exact LL.out.setCells (by omega) _ _
      clear hz
      go_wp2
      refine bodyPost_ret (results_cell_tmp rfl _ _ _ (w.heap.size + 1) 0 rfl _ _ (load_job BZ.out rfl) rfl) rfl ⟨by rw [HR.out]; rfl, LZ.out⟩
    · go_enter Tryz.func82, Tryz.ntmps82
      go_wp2_with fail
      refine (rclass_c _ _).mono ?_
      rintro e w1 ⟨rfl, hw⟩
      have hw2 := hw.symm
      subst hw2
      clear hw
      go_wp2_with (refine wpList_storeU rfl 42 (.tmp 2) (.tmp 28) rfl (w.heap.size + 1) 0 rfl (jc (85, at_, n, pg, bt) n 0 none 0 0 (0, 0, 0)) rfl Tryz.info_job (jc_one _ _ _ _ _ _ _) _ _ BJ.out (by simp) ?_)
      intro wz hz
      have BZ : Hid (Box wz (w.heap.size + 1) 42 (jc (85, at_, n, pg, bt) n 0 none 0 0 (0, 0, 0))) := by rw [hz.out]; exact BJ.out.all _ rfl
      have LZ : Hid (Later w wz) := by rw [hz.out]; exact LL.out.setCells (by omega) _ _
      clear hz
      go_wp2
      refine bodyPost_ret (results_cell_tmp rfl _ _ _ (w.heap.size + 1) 0 rfl _ _ (load_job BZ.out rfl) rfl) rfl ⟨by rw [HR.out]; rfl, LZ.out⟩
  have e3 : (op == 21) = false := by simp; omega
  have e4 : (op == 85) = false := by simp; omega
  have hw64 : IntKind.i64.wrap (n * 64) = n * 64 := by rw [IntKind.wrap_i64]; omega
  have HS2 : Hid (startL (op, at_, n, pg, bt) = if classI op = 2 ∨ (classI op = 3 ∧ bt = 1) then some (n * 64) else none) := by rw [Hid, HS.out, if_neg h3]
  clear HS h3 h1 h2
  generalize hk : classI op = k at *
  have HK := hide hk
  clear hk
  by_cases hk2 : k = 2
  · subst hk2
    have HR : Hid (startJ (op, at_, n, pg, bt) = (jval (op, at_, n, pg, bt) (n * 64) 0 none 0 0 (0, 0, 0), true)) := by
      have : startL (op, at_, n, pg, bt) = some (n * 64) := by rw [HS2.out, if_pos (.inl rfl)]
      rw [Hid, startJ, this]
    clear HS2
    go_enter Tryz.func82, Tryz.ntmps82
    go_wp2_with fail
    refine (rclass_c _ _).mono ?_
    rintro e w1 ⟨rfl, hw⟩
    have hw2 := hw.symm
    subst hw2
    clear hw
    rw [HK.out]
    go_wp2_with (refine wpList_storeU rfl 42 (.tmp 2) (.tmp 44) rfl (w.heap.size + 1) 0 rfl (jc (op, at_, n, pg, bt) (n * 64) 0 none 0 0 (0, 0, 0)) rfl Tryz.info_job (jc_one _ _ _ _ _ _ _) _ _ BJ.out (by simp) ?_)
    intro wz hz
    have BZ : Hid (Box wz (w.heap.size + 1) 42 (jc (op, at_, n, pg, bt) (n * 64) 0 none 0 0 (0, 0, 0))) := by rw [hz.out]; exact BJ.out.all _ rfl
    have LZ : Hid (Later w wz) := by rw [hz.out]; exact LL.out.setCells (by omega) _ _
    clear hz
    go_wp2
    refine bodyPost_ret (results_cell_tmp rfl _ _ _ (w.heap.size + 1) 0 rfl _ _ (load_job BZ.out rfl) rfl) rfl ⟨by rw [HR.out]; rfl, LZ.out⟩
  have ek2 : (k == 2) = false := by simp [hk2]
  by_cases hk3 : k = 3
  · subst hk3
    by_cases hb : bt = 1
    · subst hb
      have HR : Hid (startJ (op, at_, n, pg, 1) = (jval (op, at_, n, pg, 1) (n * 64) 0 none 0 0 (0, 0, 0), true)) := by
        have : startL (op, at_, n, pg, 1) = some (n * 64) := by rw [HS2.out, if_pos (.inr ⟨rfl, rfl⟩)]
        rw [Hid, startJ, this]
      clear HS2 hk2
      go_enter Tryz.func82, Tryz.ntmps82
      go_wp2_with fail
      refine (rclass_c _ _).mono ?_
      rintro e w1 ⟨rfl, hw⟩
      have hw2 := hw.symm
      subst hw2
      clear hw
      rw [HK.out]
      go_wp2_with (refine wpList_storeU rfl 42 (.tmp 2) (.tmp 44) rfl (w.heap.size + 1) 0 rfl (jc (op, at_, n, pg, 1) (n * 64) 0 none 0 0 (0, 0, 0)) rfl Tryz.info_job (jc_one _ _ _ _ _ _ _) _ _ BJ.out (by simp) ?_)
      intro wz hz
      have BZ : Hid (Box wz (w.heap.size + 1) 42 (jc (op, at_, n, pg, 1) (n * 64) 0 none 0 0 (0, 0, 0))) := by rw [hz.out]; exact BJ.out.all _ rfl
      have LZ : Hid (Later w wz) := by rw [hz.out]; exact LL.out.setCells (by omega) _ _
      clear hz
      go_wp2
      refine bodyPost_ret (results_cell_tmp rfl _ _ _ (w.heap.size + 1) 0 rfl _ _ (load_job BZ.out rfl) rfl) rfl ⟨by rw [HR.out]; rfl, LZ.out⟩
    · have HR : Hid (startJ (op, at_, n, pg, bt) = (jval (0, 0, 0, 0, 0) 0 0 none 0 0 (0, 0, 0), false)) := by
        have : startL (op, at_, n, pg, bt) = none := by rw [HS2.out, if_neg (by omega)]
        rw [Hid, startJ, this]
      have eb : (bt == 1) = false := by simp [hb]
      clear HS2 hb hk2
      go_enter Tryz.func82, Tryz.ntmps82
      go_wp2_with fail
      refine (rclass_c _ _).mono ?_
      rintro e w1 ⟨rfl, hw⟩
      have hw2 := hw.symm
      subst hw2
      clear hw
      rw [HK.out]
      go_wp2_with (refine wpList_storeU rfl 42 (.tmp 2) (.tmp 45) rfl (w.heap.size + 1) 0 rfl (jc (0, 0, 0, 0, 0) 0 0 none 0 0 (0, 0, 0)) rfl Tryz.info_job (jc_one _ _ _ _ _ _ _) _ _ BJ.out (by simp) ?_)
      intro wz hz
      have BZ : Hid (Box wz (w.heap.size + 1) 42 (jc (0, 0, 0, 0, 0) 0 0 none 0 0 (0, 0, 0))) := by rw [hz.out]; exact BJ.out.all _ rfl
      have LZ : Hid (Later w wz) := by rw [hz.out]; exact LL.out.setCells (by omega) _ _
      clear hz
      go_wp2
      refine bodyPost_ret (results_cell_tmp rfl _ _ _ (w.heap.size + 1) 0 rfl _ _ (load_job BZ.out rfl) rfl) rfl ⟨by rw [HR.out]; rfl, LZ.out⟩
  have ek3 : (k == 3) = false := by simp [hk3]
  have HR : Hid (startJ (op, at_, n, pg, bt) = (jval (0, 0, 0, 0, 0) 0 0 none 0 0 (0, 0, 0), false)) := by
    have : startL (op, at_, n, pg, bt) = none := by rw [HS2.out, if_neg (by omega)]
    rw [Hid, startJ, this]
  clear HS2 hk2 hk3
  go_enter Tryz.func82, Tryz.ntmps82
  go_wp2_with fail
  refine (rclass_c _ _).mono ?_
  rintro e w1 ⟨rfl, hw⟩
  have hw2 := hw.symm
  subst hw2
  clear hw
  rw [HK.out]
  go_wp2_with (refine wpList_storeU rfl 42 (.tmp 2) (.tmp 45) rfl (w.heap.size + 1) 0 rfl (jc (0, 0, 0, 0, 0) 0 0 none 0 0 (0, 0, 0)) rfl Tryz.info_job (jc_one _ _ _ _ _ _ _) _ _ BJ.out (by simp) ?_)
  intro wz hz
  have BZ : Hid (Box wz (w.heap.size + 1) 42 (jc (0, 0, 0, 0, 0) 0 0 none 0 0 (0, 0, 0))) := by rw [hz.out]; exact BJ.out.all _ rfl
  have LZ : Hid (Later w wz) := by rw [hz.out]; exact LL.out.setCells (by omega) _ _
  clear hz
  go_wp2
  refine bodyPost_ret (results_cell_tmp rfl _ _ _ (w.heap.size + 1) 0 rfl _ _ (load_job BZ.out rfl) rfl) rfl ⟨by rw [HR.out]; rfl, LZ.out⟩
end Go.Proofs.YtfakboehmcimpaaGreat

namespace Go.Proofs.YtfakboehmcimpaaGreat
open Go.ChangeShapes Go.WideShapes Go.ChangeAt Go.RowKit
set_option linter.unusedVariables false
set_option maxRecDepth 4000
set_option linter.unusedSimpArgs false
/-! The document's job: Right. -/
def modeOp (op : Int) : Bool := op == 21 || op == 85
end Go.Proofs.YtfakboehmcimpaaGreat

namespace Go.Proofs.YtfakboehmcimpaaGreat
open Go.ChangeShapes Go.WideShapes Go.ChangeAt Go.RowKit
set_option linter.unusedVariables false
set_option maxRecDepth 4000
set_option linter.unusedSimpArgs false
/-! The document's job: a block that came. -/
end Go.Proofs.YtfakboehmcimpaaGreat

namespace Go.Proofs.YtfakboehmcimpaaGreat
set_option linter.unusedVariables false
set_option maxRecDepth 4000
set_option linter.unusedSimpArgs false
/-! A bag whose operations are named one by one: no number is put for a variable in a great frame. -/
end Go.Proofs.YtfakboehmcimpaaGreat

namespace Go.Proofs.YtfakboehmcimpaaGreat
open Go.ChangeShapes Go.WideShapes Go.ChangeAt Go.RowKit
set_option linter.unusedVariables false
set_option maxRecDepth 4000
set_option linter.unusedSimpArgs false
/-! Calls that give a slot and a sense, in regions that draw their order; the frame is a variable. -/
def OpAt (ops : Array Oper) (i : Nat) (d : Option Tmp) (op : Op) : Prop := ∃ o, ops[i]? = some o ∧ o.guard = none ∧ o.dst = d ∧ o.op = op
theorem OpAt.dst {ops : Array Oper} {i : Nat} {d : Option Tmp} {op : Op} (h : OpAt ops i d op) : dstOf ops i = d := by
  obtain ⟨o, h1, _, h3, _⟩ := h
  exact dstOf_of h1 h3
theorem lVal_callAt {P : Program} {ops : Array Oper} {i : Nat} {R : Value → World → Prop} {a : Act} {w : World} {d : Option Tmp} {f : FuncId} {xs : List Operand} {ts : Array TypeId} (h : OpAt ops i d (.call { callee := .value (.func f), args := xs.toArray, argTypes := ts })) (hp : Plain P f) (us : List Value) (hx : xs.map a.eval = us)
    (hc : Calls P f us.toArray w fun e w' => ∃ v, e = .returned v ∧ Later w w' ∧ R v w') : lVal P ops i R a w := by
  obtain ⟨o, h1, h2, h3, h4⟩ := h
  refine lVal_step h1 fun K hK => ?_
  rw [if_pos (by simp [Region.wanted, h2])]
  rw [run_call f hp xs ts h4 us hx]
  refine ⟨rfl, hc.mono ?_⟩
  rintro e w' ⟨v, q1, q2, q3⟩
  exact ⟨_, q1, q2, hK _ _ q3⟩
theorem lVal_extractAt {P : Program} {ops : Array Oper} {i : Nat} {R : Value → World → Prop} {a : Act} {w : World} {d : Option Tmp} {x : Operand} {k : Nat} (h : OpAt ops i d (.extract x k)) (vs : Array Value) (v : Value) (hx : a.eval x = .tuple vs) (hv : vs[k]? = some v) (hR : R v w) : lVal P ops i R a w := by
  obtain ⟨o, h1, h2, h3, h4⟩ := h
  exact lVal_of_run h1 h2 v w (run_extract x k h4 vs v hx hv w) (Later.refl w) hR
theorem eval_same {a : Act} {d : Tmp} {v : Value} (h : d < a.tmps.size) : (a.put (some d) v).eval (.tmp d) = v := put_eval h
end Go.Proofs.YtfakboehmcimpaaGreat

namespace Go.Proofs.YtfakboehmcimpaaGreat
open Go.ChangeShapes Go.WideShapes Go.ChangeAt Go.RowKit
set_option linter.unusedVariables false
set_option maxRecDepth 4000
set_option linter.unusedSimpArgs false
/-! 'x, y := f(..)' of two structs, in a region that draws. -/
end Go.Proofs.YtfakboehmcimpaaGreat

namespace Go.Proofs.YtfakboehmcimpaaGreat
open Go.ChangeShapes Go.WideShapes Go.ChangeAt Go.RowKit
set_option linter.unusedVariables false
set_option maxRecDepth 4000
set_option linter.unusedSimpArgs false
/-! The document's job: Take. -/
/-- a slice goes into a variable's cell -/
theorem wpList_storeV {P : Program} {w : World} {ops : Array Oper} {rest : List Oper} {op : Oper} {a : Act} {Q : Exit → Act → World → Prop} (hgd : op.guard = none) (ty : TypeId) (x y : Operand) (ho : op.op = .store ty x y) (g o : Nat) (hx : a.eval x = .pointer (some ⟨g, o, none⟩)) (A : Option Addr) (n c : Nat) (hy : a.eval y = .slice A n c)
    (hs : (P.info? ty).map (·.size) = some 1) (t : TypeId) (cs : List Value) (hB : Box w g t cs) (hl : o < cs.length)
    (h : ∀ w', Hid (w' = w.setCells g o [.slice A n c]) → wpList P ops Q rest (a.put op.dst undef) w') : wpList P ops Q (op :: rest) a w := by
  refine wpList_plain hgd fun K hK => ?_
  have hc : w.cell? ⟨g, o, none⟩ = some (cs[o]'hl) := by rw [hB.cell o, List.getElem?_eq_getElem hl]
  have hf := hB.frozen o
  have hrun : (Instr.storeAt ty (.pointer (some ⟨g, o, none⟩)) (.slice A n c)).run P w = .ok () (w.setCells g o [.slice A n c]) := by
    simp [Instr.storeAt, Instr.sureAddr, storeVar, run_size hs, Value.cells, World.setCells]
    go_simp
  unfold Go.Oper.wp
  simp [execOp, ho, hx, hy, hrun, Result.andThen]
  exact hK _ _ (h _ rfl)
end Go.Proofs.YtfakboehmcimpaaGreat

namespace Go.Proofs.YtfakboehmcimpaaGreat
open Go.ChangeShapes Go.WideShapes Go.ChangeAt Go.RowKit
set_option linter.unusedVariables false
set_option maxRecDepth 4000
set_option linter.unusedSimpArgs false
/-! The document's job: Finish. -/
theorem wpList_eqS9 {w : World} {ops : Array Oper} {rest : List Oper} {o : Oper} {a : Act} {Q : Exit → Act → World → Prop} (hw : Region.wanted o (yielded ops a.tmps) = true) (x y : Operand) (hop : o.op = .binOp .eql 30 x y 30)
    (s t : Sns) (hx : a.eval x = sval s) (hy : a.eval y = sval t) (r : Bool) (hr : (s == t) = r) (h : wpList Tryz.prog ops Q rest (a.put o.dst (.bool r)) w) : wpList Tryz.prog ops Q (o :: rest) a w := by
  subst hr
  exact wpList_eqS hw x y hop s t hx hy h
end Go.Proofs.YtfakboehmcimpaaGreat
