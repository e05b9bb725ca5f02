import Derived.Test.YtbcikndebaeahaaMAL
import Derived.Test.YtbcikndebaeahaaWR8d
import Derived.Test.YtbcikndebaeahaaMAM
import Derived.Test.YtbcikndebaeahaaMAH
namespace Go.Proofs.Ytbcikndebaeahaa
open Go.ChangeShapes Go.WideShapes Go.ChangeAt Go.RowKit
set_option linter.unusedVariables false
set_option maxRecDepth 4000
set_option linter.unusedSimpArgs false
/-! Units and jobs in memory. A variable that holds no byte lies apart from rows of bytes and from media. -/
def NoB (cs : List Value) : Prop := ∀ z : Int, Value.int .u8 z ∉ cs
theorem Med.setNoB {w : World} {v : Value} {n : Nat} {F : List UInt8} {D : List Drt} {g : Nat} {ty : TypeId} {cs : List Value} (h : Med w v n F D) (hB : Box w g ty cs) (hc : NoB cs) (vs : List Value) (o : Nat) : Med (w.setCells g o vs) v n F D := by
  obtain ⟨vb, vd, rfl, hb, hd, ho⟩ := h
  refine ⟨vb, vd, rfl, hb.setApart 0 hB ?_ vs o, hd.setApart 1 hB ?_ vs o, ho⟩
  · intro hn
    have hl := hb.1
    rw [bv_length] at hl
    have h0 : 0 < F.length := by omega
    exact ⟨.int .u8 (F[0].toNat : Int), by simp [bv, h0], hc _⟩
  · intro hn
    cases D with
    | nil => simp at hn
    | cons d D =>
      have h64 := (ho d (by simp)).1
      have h0 : 0 < d.2.length := by omega
      refine ⟨.int .u8 (d.2[0].toNat : Int), ?_, hc _⟩
      rw [dv_cons]
      simp only [List.cons_append, List.getElem?_cons_succ]
      rw [List.getElem?_append_left (by rw [bv_length]; exact h0)]
      simp [bv, h0]
theorem Rw.setNoB {w : World} {v : Value} {n : Nat} {L : List UInt8} {g : Nat} {ty : TypeId} {cs : List Value} (h : Rw 1 w v n (bv L)) (hB : Box w g ty cs) (hc : NoB cs) (vs : List Value) (o : Nat) : Rw 1 (w.setCells g o vs) v n (bv L) := by
  refine h.setApart 0 hB ?_ vs o
  intro hn
  have hl := h.1
  rw [bv_length] at hl
  have h0 : 0 < L.length := by omega
  exact ⟨.int .u8 (L[0].toNat : Int), by simp [bv, h0], hc _⟩
theorem Bs.setNoB {w : World} {v : Value} {L : List UInt8} {g : Nat} {ty : TypeId} {cs : List Value} (h : Bs w v L) (hB : Box w g ty cs) (hc : NoB cs) (vs : List Value) (o : Nat) : Bs (w.setCells g o vs) v L := ((h.rw).setNoB hB hc vs o).bs.1
/-- a unit's cells -/
abbrev uc (ab : Option Addr) (n cb : Nat) (aD : Option Addr) (k cD : Nat) (p r l c : Bool) (am : Option Addr) (m cm : Nat) (s : Sns) : List Value :=
  [.slice ab n cb, .slice aD k cD, .bool p, .bool r, .bool l, .bool c, .slice am m cm, .int .i64 s.1, .int .i64 s.2.1, .int .i64 s.2.2]
/-- a job's cells -/
abbrev jc (c : Cmd) (len took : Int) (ar : Option Addr) (kr cr : Nat) (s : Sns) : List Value :=
  [.int .i64 c.1, .int .u64 (c.2.1 : Int), .int .i64 c.2.2.1, .int .i64 c.2.2.2.1, .int .i64 c.2.2.2.2, .int .i64 len, .int .i64 took, .slice ar kr cr, .int .i64 s.1, .int .i64 s.2.1, .int .i64 s.2.2]
theorem uc_nob (ab : Option Addr) (n cb : Nat) (aD : Option Addr) (k cD : Nat) (p r l c : Bool) (am : Option Addr) (m cm : Nat) (s : Sns) : NoB (uc ab n cb aD k cD p r l c am m cm s) := by intro z h; simp at h
theorem jc_nob (c : Cmd) (len took : Int) (ar : Option Addr) (kr cr : Nat) (s : Sns) : NoB (jc c len took ar kr cr s) := by intro z h; simp at h
theorem sc_nob (s : Sns) : NoB (sc s) := by intro z h; simp [sc] at h
theorem uc_one (ab : Option Addr) (n cb : Nat) (aD : Option Addr) (k cD : Nat) (p r l c : Bool) (am : Option Addr) (m cm : Nat) (s : Sns) : ∀ u ∈ uc ab n cb aD k cD p r l c am m cm s, u.oneCell' = true := by
  intro x hx
  simp at hx
  rcases hx with rfl | rfl | rfl | rfl | rfl | rfl | rfl | rfl | rfl | rfl <;> rfl
theorem jc_one (c : Cmd) (len took : Int) (ar : Option Addr) (kr cr : Nat) (s : Sns) : ∀ u ∈ jc c len took ar kr cr s, u.oneCell' = true := by
  intro x hx
  simp at hx
  rcases hx with rfl | rfl | rfl | rfl | rfl | rfl | rfl | rfl | rfl | rfl | rfl <;> rfl
abbrev uval (ab : Option Addr) (n cb : Nat) (aD : Option Addr) (k cD : Nat) (p r l c : Bool) (am : Option Addr) (m cm : Nat) (s : Sns) : Value := .agg (uc ab n cb aD k cD p r l c am m cm s).toArray
abbrev jval (c : Cmd) (len took : Int) (ar : Option Addr) (kr cr : Nat) (s : Sns) : Value := .agg (jc c len took ar kr cr s).toArray
theorem Try.info_unit : (Try.prog.info? 32).map (·.size) = some 10 := by kernel_rfl
theorem Try.info_job : (Try.prog.info? 38).map (·.size) = some 11 := by kernel_rfl
theorem Try.zero_unit : (Try.prog.info? 32).map (fun i => (i.zero, i.size)) = some (some (.agg #[.slice none 0 0, .slice none 0 0, .bool false, .bool false, .bool false, .bool false, .slice none 0 0, .int .i64 0, .int .i64 0, .int .i64 0]), 10) := by kernel_rfl
theorem Try.zero_job : (Try.prog.info? 38).map (fun i => (i.zero, i.size)) = some (some (.agg #[.int .i64 0, .int .u64 0, .int .i64 0, .int .i64 0, .int .i64 0, .int .i64 0, .int .i64 0, .slice none 0 0, .int .i64 0, .int .i64 0, .int .i64 0]), 11) := by kernel_rfl
theorem load_unit {w : World} {R : Nat} {cs : List Value} (h : Box w R 32 cs) (hl : cs.length = 10) : (loadVar 32 ⟨R, 0, none⟩).run Try.prog w = .ok (.agg cs.toArray) w :=
  run_loadVar_mid _ _ _ _ cs _ h.range Try.underlying32 rfl (by rw [Try.info_unit, hl])
theorem load_job {w : World} {R : Nat} {cs : List Value} (h : Box w R 38 cs) (hl : cs.length = 11) : (loadVar 38 ⟨R, 0, none⟩).run Try.prog w = .ok (.agg cs.toArray) w :=
  run_loadVar_mid _ _ _ _ cs _ h.range Try.underlying38 rfl (by rw [Try.info_job, hl])
/-- a unit: the medium's blocks and writes that are cached, its switches, its attentions' slice, the last sense -/
def Un (w : World) (v : Value) (n : Nat) (F : List UInt8) (D : List Drt) (p r l c : Bool) (am : Option Addr) (m cm : Nat) (s : Sns) : Prop :=
  ∃ ab cb aD k cD, v = uval ab n cb aD k cD p r l c am m cm s ∧ Med w (.agg #[.slice ab n cb, .slice aD k cD]) n F D
def Jb (w : World) (v : Value) (c : Cmd) (len took : Int) (L : List UInt8) (s : Sns) : Prop :=
  ∃ ar cr, v = jval c len took ar L.length cr s ∧ Bs w (.slice ar L.length cr) L
theorem Un.later {w w' : World} {v : Value} {n : Nat} {F : List UInt8} {D : List Drt} {p r l c : Bool} {am : Option Addr} {m cm : Nat} {s : Sns} (h : Un w v n F D p r l c am m cm s) (hl : Later w w') : Un w' v n F D p r l c am m cm s := by
  obtain ⟨ab, cb, aD, k, cD, rfl, hm⟩ := h
  exact ⟨ab, cb, aD, k, cD, rfl, hm.later hl⟩
theorem Jb.later {w w' : World} {v : Value} {c : Cmd} {len took : Int} {L : List UInt8} {s : Sns} (h : Jb w v c len took L s) (hl : Later w w') : Jb w' v c len took L s := by
  obtain ⟨ar, cr, rfl, hb⟩ := h
  exact ⟨ar, cr, rfl, hb.later hl⟩
/-- a store in a region that draws, at a place within a variable -/
theorem wpJ_storeO {P : Program} {ops : Array Oper} {I : World → Prop} {Q : Act → World → Prop} {i : Nat} {o : Oper} {σ : List (Nat × Bool)} {a : Act} {b : World} (ho : ops[i]? = some o) (hgd : o.guard = none) (ty : TypeId) (x y : Operand) (hop : o.op = .store ty x y) (g off : Nat) (cells : List Value) (hx : a.eval x = .pointer (some ⟨g, off, none⟩)) (hy : a.eval y = .agg cells.toArray)
    (hi : (P.info? ty).map (·.size) = some cells.length) (h1 : ∀ v ∈ cells, v.oneCell' = true) (t : TypeId) (cs : List Value) (hB : Box b g t cs) (hl : off + cells.length ≤ cs.length) (hI2 : ∀ w, Later b w → I (w.setCells g off cells))
    (h : ∀ wl, Later b wl → ∀ w', Hid (w' = wl.setCells g off cells) → wpJ P ops I Q σ (a.put o.dst undef) w') : wpJ P ops I Q ((i, true) :: σ) a b := by
  intro w hw
  unfold jOp
  simp only [ho]
  rw [if_pos (by simp [Region.wanted, hgd])]
  have hBw := hB.later hw
  have hrun := run_storeAt_mid (P := P) w g off ty cells.toArray (by simpa using hBw.there off cells.length hl) (by simpa using hi) (all_oneCell_toArray h1)
  have hl0 := hI2 w hw
  have h2 := h w hw _ rfl
  simp [execOp, hop, hx, hy, hrun, Result.andThen, Oper.heldUpon]
  exact ⟨hl0, h2⟩
end Go.Proofs.Ytbcikndebaeahaa

namespace Go.Proofs.Ytbcikndebaeahaa
open Go.ChangeShapes Go.WideShapes Go.ChangeAt Go.RowKit
set_option linter.unusedVariables false
set_option maxRecDepth 4000
set_option linter.unusedSimpArgs false
/-! What is asked of the landed inquiry. -/
abbrev In64 (x : Int) : Prop := -9223372036854775808 ≤ x ∧ x ≤ 9223372036854775807
def OkC7 (c : Cmd) : Prop := In64 c.1 ∧ c.2.1 ≤ 18446744073709551615 ∧ In64 c.2.2.1 ∧ In64 c.2.2.2.1 ∧ In64 c.2.2.2.2
end Go.Proofs.Ytbcikndebaeahaa

namespace Go.Proofs.Ytbcikndebaeahaa
open Go.ChangeShapes Go.WideShapes Go.ChangeAt Go.RowKit
set_option linter.unusedVariables false
set_option maxRecDepth 4000
set_option linter.unusedSimpArgs false
/-! The document's job: Start, Right. -/
def startL (c : Cmd) : Option Int :=
  if c.2.2.1 < 1 ∨ 4294967296 < c.2.2.1 then none
  else if c.1 = 21 ∨ c.1 = 85 then some c.2.2.1
  else if classI c.1 = 2 ∨ (classI c.1 = 3 ∧ c.2.2.2.2 = 1) then some (c.2.2.1 * 64)
  else none
def startJ (c : Cmd) : Value × Bool := match startL c with
  | none => (jval (0, 0, 0, 0, 0) 0 0 none 0 0 (0, 0, 0), false)
  | some n => (jval c n 0 none 0 0 (0, 0, 0), true)
set_option maxRecDepth 20000 in
set_option maxHeartbeats 4000000 in
theorem rstart_c (c : Cmd) (w : World) (hc : OkC7 c) : Calls Try.prog 19 #[cval c] w fun e w' => e = .returned (.tuple #[(startJ c).1, .bool (startJ c).2]) ∧ Later w w' := by
  obtain ⟨op, at_, n, pg, bt⟩ := c
  have HC := hide hc
  have hn : In64 n := hc.2.2.1
  unfold In64 at hn
  clear hc
  have BX := hide ((Box.new w 35 #[.int .i64 op, .int .u64 (at_ : Int), .int .i64 n, .int .i64 pg, .int .i64 bt]).alloc (.cells #[.int .i64 0, .int .u64 0, .int .i64 0, .int .i64 0, .int .i64 0, .int .i64 0, .int .i64 0, .slice none 0 0, .int .i64 0, .int .i64 0, .int .i64 0] 38))
  have BJ : Hid (Box _ (w.heap.size + 1) 38 (jc (0, 0, 0, 0, 0) 0 0 none 0 0 (0, 0, 0))) := Box.new' (w.alloc (.cells #[.int .i64 op, .int .u64 (at_ : Int), .int .i64 n, .int .i64 pg, .int .i64 bt] 35)) 38 #[.int .i64 0, .int .u64 0, .int .i64 0, .int .i64 0, .int .i64 0, .int .i64 0, .int .i64 0, .slice none 0 0, .int .i64 0, .int .i64 0, .int .i64 0] _ rfl _ (by simp)
  have LL := hide (((Later.refl w).alloc (.cells #[.int .i64 op, .int .u64 (at_ : Int), .int .i64 n, .int .i64 pg, .int .i64 bt] 35)).alloc (.cells #[.int .i64 0, .int .u64 0, .int .i64 0, .int .i64 0, .int .i64 0, .int .i64 0, .int .i64 0, .slice none 0 0, .int .i64 0, .int .i64 0, .int .i64 0] 38))
  have x0 := BX.out.cell 0
  have x1 := BX.out.cell 1
  have x2 := BX.out.cell 2
  have x3 := BX.out.cell 3
  have x4 := BX.out.cell 4
  by_cases h1 : n < 1
  · have HR : Hid (startJ (op, at_, n, pg, bt) = (jval (0, 0, 0, 0, 0) 0 0 none 0 0 (0, 0, 0), false)) := by
      have : startL (op, at_, n, pg, bt) = none := by rw [startL, if_pos (.inl h1)]
      rw [Hid, startJ, this]
    have e1 : decide (n < 1) = true := by simp; omega
    clear h1
    go_enter Try.func19, Try.ntmps19
    go_wp2_with fail
    refine (rclass_c _ _).mono ?_
    rintro e w1 ⟨rfl, hw⟩
    have hw2 := hw.symm
    subst hw2
    clear hw
    go_wp2_with (refine wpList_storeU rfl 38 (.tmp 2) (.tmp 16) rfl (w.heap.size + 1) 0 rfl (jc (0, 0, 0, 0, 0) 0 0 none 0 0 (0, 0, 0)) rfl Try.info_job (jc_one _ _ _ _ _ _ _) _ _ BJ.out (by simp) ?_)
    intro wz hz
    have BZ : Hid (Box wz (w.heap.size + 1) 38 (jc (0, 0, 0, 0, 0) 0 0 none 0 0 (0, 0, 0))) := by rw [hz.out]; exact BJ.out.all _ rfl
    have LZ : Hid (Later w wz) := by rw [hz.out]; exact LL.out.setCells (by omega) _ _
    clear hz
    go_wp2
    refine bodyPost_ret (results_cell_tmp rfl _ _ _ (w.heap.size + 1) 0 rfl _ _ (load_job BZ.out rfl) rfl) rfl ⟨by rw [HR.out]; rfl, LZ.out⟩
  have e1 : decide (n < 1) = false := by simp; omega
  by_cases h2 : 4294967296 < n
  · have HR : Hid (startJ (op, at_, n, pg, bt) = (jval (0, 0, 0, 0, 0) 0 0 none 0 0 (0, 0, 0), false)) := by
      have : startL (op, at_, n, pg, bt) = none := by rw [startL, if_pos (.inr h2)]
      rw [Hid, startJ, this]
    have e2 : decide (4294967296 < n) = true := by simp; omega
    clear h1 h2
    go_enter Try.func19, Try.ntmps19
    go_wp2_with fail
    refine (rclass_c _ _).mono ?_
    rintro e w1 ⟨rfl, hw⟩
    have hw2 := hw.symm
    subst hw2
    clear hw
    go_wp2_with (refine wpList_storeU rfl 38 (.tmp 2) (.tmp 16) rfl (w.heap.size + 1) 0 rfl (jc (0, 0, 0, 0, 0) 0 0 none 0 0 (0, 0, 0)) rfl Try.info_job (jc_one _ _ _ _ _ _ _) _ _ BJ.out (by simp) ?_)
    intro wz hz
    have BZ : Hid (Box wz (w.heap.size + 1) 38 (jc (0, 0, 0, 0, 0) 0 0 none 0 0 (0, 0, 0))) := by rw [hz.out]; exact BJ.out.all _ rfl
    have LZ : Hid (Later w wz) := by rw [hz.out]; exact LL.out.setCells (by omega) _ _
    clear hz
    go_wp2
    refine bodyPost_ret (results_cell_tmp rfl _ _ _ (w.heap.size + 1) 0 rfl _ _ (load_job BZ.out rfl) rfl) rfl ⟨by rw [HR.out]; rfl, LZ.out⟩
  have e2 : decide (4294967296 < n) = false := by simp; omega
  have HS : Hid (startL (op, at_, n, pg, bt) = if op = 21 ∨ op = 85 then some n else if classI op = 2 ∨ (classI op = 3 ∧ bt = 1) then some (n * 64) else none) := by rw [Hid, startL, if_neg (by simp only; omega)]
  by_cases h3 : op = 21 ∨ op = 85
  · have HR : Hid (startJ (op, at_, n, pg, bt) = (jval (op, at_, n, pg, bt) n 0 none 0 0 (0, 0, 0), true)) := by
      have : startL (op, at_, n, pg, bt) = some n := by rw [HS.out, if_pos h3]
      rw [Hid, startJ, this]
    clear h1 h2 HS
    rcases h3 with rfl | rfl
    · go_enter Try.func19, Try.ntmps19
      go_wp2_with fail
      refine (rclass_c _ _).mono ?_
      rintro e w1 ⟨rfl, hw⟩
      have hw2 := hw.symm
      subst hw2
      clear hw
      go_wp2_with (refine wpList_storeU rfl 38 (.tmp 2) (.tmp 28) rfl (w.heap.size + 1) 0 rfl (jc (21, at_, n, pg, bt) n 0 none 0 0 (0, 0, 0)) rfl Try.info_job (jc_one _ _ _ _ _ _ _) _ _ BJ.out (by simp) ?_)
      intro wz hz
      have BZ : Hid (Box wz (w.heap.size + 1) 38 (jc (21, at_, n, pg, bt) n 0 none 0 0 (0, 0, 0))) := by rw [hz.out]; exact BJ.out.all _ rfl
      have LZ : Hid (Later w wz) := by rw [hz.out]; exact LL.out.setCells (by omega) _ _
      clear hz
      go_wp2
      refine bodyPost_ret (results_cell_tmp rfl _ _ _ (w.heap.size + 1) 0 rfl _ _ (load_job BZ.out rfl) rfl) rfl ⟨by rw [HR.out]; rfl, LZ.out⟩
    · go_enter Try.func19, Try.ntmps19
      go_wp2_with fail
      refine (rclass_c _ _).mono ?_
      rintro e w1 ⟨rfl, hw⟩
      have hw2 := hw.symm
      subst hw2
      clear hw
      go_wp2_with (refine wpList_storeU rfl 38 (.tmp 2) (.tmp 28) rfl (w.heap.size + 1) 0 rfl (jc (85, at_, n, pg, bt) n 0 none 0 0 (0, 0, 0)) rfl Try.info_job (jc_one _ _ _ _ _ _ _) _ _ BJ.out (by simp) ?_)
      intro wz hz
      have BZ : Hid (Box wz (w.heap.size + 1) 38 (jc (85, at_, n, pg, bt) n 0 none 0 0 (0, 0, 0))) := by rw [hz.out]; exact BJ.out.all _ rfl
      have LZ : Hid (Later w wz) := by rw [hz.out]; exact LL.out.setCells (by omega) _ _
      clear hz
      go_wp2
      refine bodyPost_ret (results_cell_tmp rfl _ _ _ (w.heap.size + 1) 0 rfl _ _ (load_job BZ.out rfl) rfl) rfl ⟨by rw [HR.out]; rfl, LZ.out⟩
  have e3 : (op == 21) = false := by simp; omega
  have e4 : (op == 85) = false := by simp; omega
  have hw64 : IntKind.i64.wrap (n * 64) = n * 64 := by rw [IntKind.wrap_i64]; omega
  have HS2 : Hid (startL (op, at_, n, pg, bt) = if classI op = 2 ∨ (classI op = 3 ∧ bt = 1) then some (n * 64) else none) := by rw [Hid, HS.out, if_neg h3]
  clear HS h3 h1 h2
  generalize hk : classI op = k at *
  have HK := hide hk
  clear hk
  by_cases hk2 : k = 2
  · subst hk2
    have HR : Hid (startJ (op, at_, n, pg, bt) = (jval (op, at_, n, pg, bt) (n * 64) 0 none 0 0 (0, 0, 0), true)) := by
      have : startL (op, at_, n, pg, bt) = some (n * 64) := by rw [HS2.out, if_pos (.inl rfl)]
      rw [Hid, startJ, this]
    clear HS2
    go_enter Try.func19, Try.ntmps19
    go_wp2_with fail
    refine (rclass_c _ _).mono ?_
    rintro e w1 ⟨rfl, hw⟩
    have hw2 := hw.symm
    subst hw2
    clear hw
    rw [HK.out]
    go_wp2_with (refine wpList_storeU rfl 38 (.tmp 2) (.tmp 44) rfl (w.heap.size + 1) 0 rfl (jc (op, at_, n, pg, bt) (n * 64) 0 none 0 0 (0, 0, 0)) rfl Try.info_job (jc_one _ _ _ _ _ _ _) _ _ BJ.out (by simp) ?_)
    intro wz hz
    have BZ : Hid (Box wz (w.heap.size + 1) 38 (jc (op, at_, n, pg, bt) (n * 64) 0 none 0 0 (0, 0, 0))) := by rw [hz.out]; exact BJ.out.all _ rfl
    have LZ : Hid (Later w wz) := by rw [hz.out]; exact LL.out.setCells (by omega) _ _
    clear hz
    go_wp2
    refine bodyPost_ret (results_cell_tmp rfl _ _ _ (w.heap.size + 1) 0 rfl _ _ (load_job BZ.out rfl) rfl) rfl ⟨by rw [HR.out]; rfl, LZ.out⟩
  have ek2 : (k == 2) = false := by simp [hk2]
  by_cases hk3 : k = 3
  · subst hk3
    by_cases hb : bt = 1
    · subst hb
      have HR : Hid (startJ (op, at_, n, pg, 1) = (jval (op, at_, n, pg, 1) (n * 64) 0 none 0 0 (0, 0, 0), true)) := by
        have : startL (op, at_, n, pg, 1) = some (n * 64) := by rw [HS2.out, if_pos (.inr ⟨rfl, rfl⟩)]
        rw [Hid, startJ, this]
      clear HS2 hk2
      go_enter Try.func19, Try.ntmps19
      go_wp2_with fail
      refine (rclass_c _ _).mono ?_
      rintro e w1 ⟨rfl, hw⟩
      have hw2 := hw.symm
      subst hw2
      clear hw
      rw [HK.out]
      go_wp2_with (refine wpList_storeU rfl 38 (.tmp 2) (.tmp 44) rfl (w.heap.size + 1) 0 rfl (jc (op, at_, n, pg, 1) (n * 64) 0 none 0 0 (0, 0, 0)) rfl Try.info_job (jc_one _ _ _ _ _ _ _) _ _ BJ.out (by simp) ?_)
      intro wz hz
      have BZ : Hid (Box wz (w.heap.size + 1) 38 (jc (op, at_, n, pg, 1) (n * 64) 0 none 0 0 (0, 0, 0))) := by rw [hz.out]; exact BJ.out.all _ rfl
      have LZ : Hid (Later w wz) := by rw [hz.out]; exact LL.out.setCells (by omega) _ _
      clear hz
      go_wp2
      refine bodyPost_ret (results_cell_tmp rfl _ _ _ (w.heap.size + 1) 0 rfl _ _ (load_job BZ.out rfl) rfl) rfl ⟨by rw [HR.out]; rfl, LZ.out⟩
    · have HR : Hid (startJ (op, at_, n, pg, bt) = (jval (0, 0, 0, 0, 0) 0 0 none 0 0 (0, 0, 0), false)) := by
        have : startL (op, at_, n, pg, bt) = none := by rw [HS2.out, if_neg (by omega)]
        rw [Hid, startJ, this]
      have eb : (bt == 1) = false := by simp [hb]
      clear HS2 hb hk2
      go_enter Try.func19, Try.ntmps19
      go_wp2_with fail
      refine (rclass_c _ _).mono ?_
      rintro e w1 ⟨rfl, hw⟩
      have hw2 := hw.symm
      subst hw2
      clear hw
      rw [HK.out]
      go_wp2_with (refine wpList_storeU rfl 38 (.tmp 2) (.tmp 45) rfl (w.heap.size + 1) 0 rfl (jc (0, 0, 0, 0, 0) 0 0 none 0 0 (0, 0, 0)) rfl Try.info_job (jc_one _ _ _ _ _ _ _) _ _ BJ.out (by simp) ?_)
      intro wz hz
      have BZ : Hid (Box wz (w.heap.size + 1) 38 (jc (0, 0, 0, 0, 0) 0 0 none 0 0 (0, 0, 0))) := by rw [hz.out]; exact BJ.out.all _ rfl
      have LZ : Hid (Later w wz) := by rw [hz.out]; exact LL.out.setCells (by omega) _ _
      clear hz
      go_wp2
      refine bodyPost_ret (results_cell_tmp rfl _ _ _ (w.heap.size + 1) 0 rfl _ _ (load_job BZ.out rfl) rfl) rfl ⟨by rw [HR.out]; rfl, LZ.out⟩
  have ek3 : (k == 3) = false := by simp [hk3]
  have HR : Hid (startJ (op, at_, n, pg, bt) = (jval (0, 0, 0, 0, 0) 0 0 none 0 0 (0, 0, 0), false)) := by
    have : startL (op, at_, n, pg, bt) = none := by rw [HS2.out, if_neg (by omega)]
    rw [Hid, startJ, this]
  clear HS2 hk2 hk3
  go_enter Try.func19, Try.ntmps19
  go_wp2_with fail
  refine (rclass_c _ _).mono ?_
  rintro e w1 ⟨rfl, hw⟩
  have hw2 := hw.symm
  subst hw2
  clear hw
  rw [HK.out]
  go_wp2_with (refine wpList_storeU rfl 38 (.tmp 2) (.tmp 45) rfl (w.heap.size + 1) 0 rfl (jc (0, 0, 0, 0, 0) 0 0 none 0 0 (0, 0, 0)) rfl Try.info_job (jc_one _ _ _ _ _ _ _) _ _ BJ.out (by simp) ?_)
  intro wz hz
  have BZ : Hid (Box wz (w.heap.size + 1) 38 (jc (0, 0, 0, 0, 0) 0 0 none 0 0 (0, 0, 0))) := by rw [hz.out]; exact BJ.out.all _ rfl
  have LZ : Hid (Later w wz) := by rw [hz.out]; exact LL.out.setCells (by omega) _ _
  clear hz
  go_wp2
  refine bodyPost_ret (results_cell_tmp rfl _ _ _ (w.heap.size + 1) 0 rfl _ _ (load_job BZ.out rfl) rfl) rfl ⟨by rw [HR.out]; rfl, LZ.out⟩
end Go.Proofs.Ytbcikndebaeahaa
