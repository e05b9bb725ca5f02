import Derived.Test.YtccdgpadjfjoeaaMAQ
namespace Go.Proofs.Ytccdgpadjfjoeaa
open Go.ChangeShapes Go.WideShapes Go.ChangeAt Go.RowKit
set_option linter.unusedVariables false
set_option linter.unusedSimpArgs false

/-! Bytes of the document. -/
def rtB (c : Cmd) (l : List UInt8) : Bool := (parseR l).2 == ((0, 0, 0) : Sns) && (parseR l).1 == c
def rtL (c : Cmd) (l : List UInt8) : List UInt8 := if rtB c l then l else []
abbrev IRB (c : Cmd) (l : List UInt8) : Prop := ∀ w, Calls Try.prog 17 #[cval c] w fun e w' => ∃ v, e = .returned (.tuple #[v, .bool (rtB c l)]) ∧ Later w w' ∧ Bs w' v (rtL c l)
theorem wpList_neqS' {w : World} {ops : Array Oper} {rest : List Oper} {o : Oper} {a : Act} {Q : Exit → Act → World → Prop} (hw : Region.wanted o (yielded ops a.tmps) = true) (x y : Operand) (hop : o.op = .binOp .neq 28 x y 28)
    (s t : Sns) (hx : a.eval x = sval s) (hy : a.eval y = sval t) (r : Bool) (hr : (!(s == t)) = r) (h : wpList Try.prog ops Q rest (a.put o.dst (.bool r)) w) : wpList Try.prog ops Q (o :: rest) a w := by
  subst hr
  exact wpList_neqS hw x y hop s t hx hy h
theorem box_bn {w : World} {g i : Nat} {t : TypeId} {l : List UInt8} (h : Box w g t (bv l)) (hi : i < l.length) : w.cell? ⟨g, i, none⟩ = some (.int .u8 (Bn l i : Int)) := by
  rw [h.cell i, bv_get_lt l i hi, Bn, List.getD_eq_getElem?_getD, List.getElem?_eq_getElem hi]
  rfl
theorem byte_of {x : Nat} (h : x < 256) : (x : Int) = ((UInt8.ofNat x).toNat : Int) := by
  rw [← mod_byte]; omega
def bof (x : Nat) : UInt8 := UInt8.ofNat x
theorem bof_of {x : Nat} (h : x < 256) : (x : Int) = ((bof x).toNat : Int) := byte_of h
theorem bof_mod (n : Nat) : (n : Int) % 256 = ((bof n).toNat : Int) := mod_byte n
theorem len_set {l : List UInt8} {n : Nat} (i : Nat) (b : UInt8) (h : l.length = n) : (l.set i b).length = n := by rw [List.length_set]; exact h
/-- one byte, where it alone may come up -/
theorem wpJ_storeB {P : Program} {ops : Array Oper} {I : World → Prop} {Q : Act → World → Prop} {i : Nat} {o : Oper} {σ : List (Nat × Bool)} {a : Act} {b : World} (ho : ops[i]? = some o) (hgd : o.guard = none) (ty : TypeId) (x y : Operand) (hop : o.op = .store ty x y) (g off : Nat) (hx : a.eval x = .pointer (some ⟨g, off, none⟩)) (z : Int) (hy : a.eval y = .int .u8 z)
    (hs : (P.info? ty).map (·.size) = some 1) (t : TypeId) (l : List UInt8) (hB : Box b g t (bv l)) (hl : off < l.length) (c : UInt8) (hc : z = (c.toNat : Int)) (hI2 : ∀ w, Later b w → I (w.setCells g off [.int .u8 z]))
    (h : ∀ wl, Later b wl → ∀ w', Box w' g t (bv (l.set off c)) → Hid (w' = wl.setCells g off [.int .u8 z]) → wpJ P ops I Q σ (a.put o.dst undef) w') : wpJ P ops I Q ((i, true) :: σ) a b := by
  intro w hw
  unfold jOp
  simp only [ho]
  rw [if_pos (by simp [Region.wanted, hgd])]
  have hBw := hB.later hw
  have hl' : off < (bv l).length := by rw [bv_length]; exact hl
  have hcc : w.cell? ⟨g, off, none⟩ = some ((bv l)[off]'hl') := by rw [hBw.cell off, List.getElem?_eq_getElem hl']
  have hf := hBw.frozen off
  have hrun : (Instr.storeAt ty (.pointer (some ⟨g, off, none⟩)) (.int .u8 z)).run P w = .ok () (w.setCells g off [.int .u8 z]) := by
    simp [Instr.storeAt, Instr.sureAddr, storeVar, run_size hs, Value.cells, World.setCells]
    go_simp
  have hB2 : Box (w.setCells g off [.int .u8 z]) g t (bv (l.set off c)) := by
    rw [bv_set, ← hc]
    exact hBw.set off _
  have hl0 := hI2 w hw
  have h2 := h w hw _ hB2 rfl
  simp [execOp, hop, hx, hy, hrun, Result.andThen, Oper.heldUpon]
  exact ⟨hl0, h2⟩
end Go.Proofs.Ytccdgpadjfjoeaa
