import Derived.Test.YtcjdodkbnhkbiaaMAN
import Derived.Test.YtcjdodkbnhkbiaaMAL
import Derived.Test.YtcjdodkbnhkbiaaMAI
namespace Go.Proofs.Ytcjdodkbnhkbiaa
open Go.ChangeShapes Go.WideShapes Go.ChangeAt Go.RowKit
set_option linter.unusedVariables false
set_option linter.unusedSimpArgs false

/-! Bytes that are made, and one of them that is set: the world behind it stands by itself. -/
theorem wpList_makeB {w : World} {ops : Array Oper} {rest : List Oper} {o : Oper} {a : Act} {Q : Exit → Act → World → Prop} (hg : o.guard = none) (l c : Operand) (hop : o.op = Op.makeSlice 26 l c) (n : Nat) (hl : a.eval l = .int .i64 (n : Int)) (hc : a.eval c = .int .i64 (n : Int)) (hn : n ≤ 100000)
    (h : ∀ (g : Nat) (w' : World), Box w' g 5 (bv (List.replicate n 0)) → Later w w' → Hid (g = w.heap.size) → wpList Try.prog ops Q rest (a.put o.dst (.slice (some ⟨g, 0, none⟩) n n)) w') : wpList Try.prog ops Q (o :: rest) a w := by
  refine wpList_plain hg fun K hK => ?_
  have hrun := run_make_row' (P := Try.prog) 26 5 (.int .u8 0) 1 Try.underlying26 Try.info_u8 rfl .i64 .i64 n (by omega) (by omega) w
  unfold Go.Oper.wp
  simp [execOp, hop, hl, hc, hrun, Result.andThen]
  exact hK _ _ (h _ _ (Box.new' _ _ _ _ (made_zero n) _ rfl) ((Later.refl w).alloc _) rfl)
theorem wpList_storeB {P : Program} {w : World} {ops : Array Oper} {rest : List Oper} {op : Oper} {a : Act} {Q : Exit → Act → World → Prop} (hgd : op.guard = none) (ty : TypeId) (x y : Operand) (ho : op.op = .store ty x y) (g o : Nat) (hx : a.eval x = .pointer (some ⟨g, o, none⟩)) (z : Int) (hy : a.eval y = .int .u8 z)
    (hs : (P.info? ty).map (·.size) = some 1) (t : TypeId) (l : List UInt8) (hB : Box w g t (bv l)) (hl : o < l.length) (b : UInt8) (hb : z = (b.toNat : Int))
    (h : ∀ w', Box w' g t (bv (l.set o b)) → Hid (w' = w.setCells g o [.int .u8 z]) → wpList P ops Q rest (a.put op.dst undef) w') : wpList P ops Q (op :: rest) a w := by
  refine wpList_plain hgd fun K hK => ?_
  have hl' : o < (bv l).length := by rw [bv_length]; exact hl
  have hc : w.cell? ⟨g, o, none⟩ = some ((bv l)[o]'hl') := by rw [hB.cell o, List.getElem?_eq_getElem hl']
  have hf := hB.frozen o
  have hrun : (Instr.storeAt ty (.pointer (some ⟨g, o, none⟩)) (.int .u8 z)).run P w = .ok () (w.setCells g o [.int .u8 z]) := by
    simp [Instr.storeAt, Instr.sureAddr, storeVar, run_size hs, Value.cells, World.setCells]
    go_simp
  have hB2 : Box (w.setCells g o [.int .u8 z]) g t (bv (l.set o b)) := by
    rw [bv_set, ← hb]
    exact hB.set o _
  unfold Go.Oper.wp
  simp [execOp, ho, hx, hy, hrun, Result.andThen]
  exact hK _ _ (h _ hB2 rfl)

/-! Bytes. -/
def initB (op : Int) : List UInt8 := (List.replicate (sizeN op) 0).set 0 (b8 op)
def layC (c : Cmd) : List UInt8 := layF (formN c.1) (initB c.1) c
def bytesB (c : Cmd) : Bool := knownB c.1 && ((parseI (layC c)).1 == c && (parseI (layC c)).2 == ((0, 0, 0) : Sns))
def bytesI (c : Cmd) : List UInt8 := if bytesB c then layC c else []
def OkC (c : Cmd) : Prop := (-9223372036854775808 ≤ c.1 ∧ c.1 ≤ 9223372036854775807) ∧ c.2.1 ≤ 18446744073709551615 ∧ (-9223372036854775808 ≤ c.2.2.1 ∧ c.2.2.1 ≤ 9223372036854775807) ∧ (-9223372036854775808 ≤ c.2.2.2.1 ∧ c.2.2.2.1 ≤ 9223372036854775807) ∧ (-9223372036854775808 ≤ c.2.2.2.2 ∧ c.2.2.2.2 ≤ 9223372036854775807)
theorem initB_length (op : Int) : (initB op).length = sizeN op := by simp [initB]
theorem parseI_sns (l : List UInt8) : (parseI l).2 = (0, 0, 0) ∨ (parseI l).2 = (5, 32, 0) ∨ (parseI l).2 = (5, 36, 0) := by
  unfold parseI parseOp
  split
  · simp
  split
  · simp
  split
  · simp
  split <;> simp
theorem parseI_ok (l : List UInt8) : OkS (parseI l).2 := by
  rcases parseI_sns l with h | h | h <;> rw [h] <;> (unfold OkS; simp)
theorem okP6 (op : Int) (h : knownB op = true) : (∀ r ∈ (formN op).2.2.2.2.2, OkR r ∧ OkP r.1 (sizeN op)) ∧ OkP (formN op).1 (sizeN op) ∧ OkP (formN op).2.1 (sizeN op) ∧ OkP (formN op).2.2.1 (sizeN op) ∧ OkP (formN op).2.2.2.1 (sizeN op) := by
  rcases known_cases op with h1 | h1
  · rcases h1 with rfl | rfl | rfl | rfl | rfl | rfl | rfl | rfl | rfl | rfl | rfl | rfl | rfl | rfl | rfl | rfl | rfl | rfl | rfl | rfl | rfl | rfl | rfl | rfl | rfl <;>
    (unfold OkR OkP; decide)
  · rw [(known_other h1).1] at h; cases h
end Go.Proofs.Ytcjdodkbnhkbiaa

namespace Go.Proofs.Ytcjdodkbnhkbiaa
open Go.ChangeShapes Go.WideShapes Go.ChangeAt Go.RowKit
set_option linter.unusedVariables false
set_option linter.unusedSimpArgs false

/-! The document's cdb: Known, Size, big. -/
def iv (L : List Int) : List Value := L.map fun x => .int .i64 x
theorem iv_get (L : List Int) (j : Nat) (h : j < L.length) : (iv L)[j]? = some (.int .i64 L[j]) := by simp [iv, h]
theorem known_has (op : Int) (h : classI op = 0) : ([0, 3, 18, 21, 85, 26, 90, 27, 30, 37, 158, 160] : List Int).contains op = knownB op := by
  rcases known_cases op with h1 | h1
  · rcases h1 with rfl | rfl | rfl | rfl | rfl | rfl | rfl | rfl | rfl | rfl | rfl | rfl | rfl | rfl | rfl | rfl | rfl | rfl | rfl | rfl | rfl | rfl | rfl | rfl | rfl <;> first | rfl | (exact absurd h (by decide))
  · rw [(known_other h1).1]
    obtain ⟨h0, h3, h8, h10, h18, h21, h26, h27, h30, h37, h40, h42, h47, h53, h85, h90, h136, h138, h143, h145, h158, h160, h168, h170, h175⟩ := h1
    simp [h0, h3, h18, h21, h26, h27, h30, h37, h85, h90, h158, h160]
theorem class_known (op : Int) (h : 0 < classI op) : knownB op = true := by
  rcases class_cases op with h1 | h1
  · rcases h1 with rfl | rfl | rfl | rfl | rfl | rfl | rfl | rfl | rfl | rfl | rfl | rfl | rfl <;> rfl
  · rw [class_other h1] at h; omega
theorem class_range (op : Int) : 0 ≤ classI op ∧ classI op ≤ 4 := by
  unfold classI
  split
  · decide
  split
  · decide
  split
  · decide
  split <;> decide
theorem rw_of_boxI {w : World} {g n : Nat} {t : TypeId} {xs : List Value} {L : List Int} (h : Box w g t xs) (hx : xs = iv L) (hl : L.length = n) (hn : n ≤ 1000000) : Rw 1 w (.slice (some ⟨g, 0, none⟩) n n) L.length (iv L) := by
  subst hx hl
  exact ⟨by simp [iv], by unfold maxLen; omega, _, L.length, rfl, Nat.le_refl _, .inr ⟨g, 0, rfl, h.range⟩⟩
end Go.Proofs.Ytcjdodkbnhkbiaa

namespace Go.Proofs.Ytcjdodkbnhkbiaa
open Go.ChangeShapes Go.WideShapes Go.ChangeAt Go.RowKit
set_option linter.unusedVariables false
set_option linter.unusedSimpArgs false

/-! rest: any other command. -/
def Bn (l : List UInt8) (i : Nat) : Nat := (l.getD i 0).toNat
theorem Bn_lt (l : List UInt8) (i : Nat) : Bn l i < 256 := UInt8.toNat_lt _
theorem Bs.cells6 {w : World} {v : Value} {l : List UInt8} {n : Nat} (h : Bs w v l) (hn : l.length = n) (hp : 0 < n) : ∃ b off cap, v = .slice (some ⟨b, off, none⟩) n cap ∧ ∀ i, i < n → ∀ W, Later w W → W.cell? ⟨b, off + i, none⟩ = some (.int .u8 (Bn l i : Int)) := by
  obtain ⟨hl, ad, cap, rfl, hc, hd⟩ := h
  rcases hd with hd | ⟨b, off, rfl, hr⟩
  · subst hd; simp at hn; omega
  · refine ⟨b, off, cap, by rw [hn], fun i hi W hW => hW.cellOf ?_⟩
    have h1 := hr i (by omega)
    rw [h1, Bn, List.getD_eq_getElem?_getD, List.getElem?_eq_getElem (by omega)]
    rfl
theorem Try.info1_int : (Try.prog.info? 3).map (·.size) = some 1 := by kernel_rfl
theorem Try.info1_u64 : (Try.prog.info? 22).map (·.size) = some 1 := by kernel_rfl
theorem tm2 (n : Nat) : ((n : Int)).tmod 2 = (n : Int) % 2 := Int.tmod_eq_emod_of_nonneg (by omega)
theorem tm4 (n : Nat) : ((n : Int)).tmod 4 = (n : Int) % 4 := Int.tmod_eq_emod_of_nonneg (by omega)
theorem tm32 (n : Nat) : ((n : Int)).tmod 32 = (n : Int) % 32 := Int.tmod_eq_emod_of_nonneg (by omega)
theorem tm64 (n : Nat) : ((n : Int)).tmod 64 = (n : Int) % 64 := Int.tmod_eq_emod_of_nonneg (by omega)
theorem td2 (n : Nat) : ((n : Int)).tdiv 2 = (n : Int) / 2 := Int.tdiv_eq_ediv_of_nonneg (by omega)
theorem td4 (n : Nat) : ((n : Int)).tdiv 4 = (n : Int) / 4 := Int.tdiv_eq_ediv_of_nonneg (by omega)
theorem td8 (n : Nat) : ((n : Int)).tdiv 8 = (n : Int) / 8 := Int.tdiv_eq_ediv_of_nonneg (by omega)
theorem td16 (n : Nat) : ((n : Int)).tdiv 16 = (n : Int) / 16 := Int.tdiv_eq_ediv_of_nonneg (by omega)
theorem td64 (n : Nat) : ((n : Int)).tdiv 64 = (n : Int) / 64 := Int.tdiv_eq_ediv_of_nonneg (by omega)
theorem tdm2 (n : Nat) : ((n : Int) / 2).tmod 2 = (n : Int) / 2 % 2 := Int.tmod_eq_emod_of_nonneg (by omega)
theorem tdm4 (n : Nat) : ((n : Int) / 4).tmod 2 = (n : Int) / 4 % 2 := Int.tmod_eq_emod_of_nonneg (by omega)
theorem tdm8 (n : Nat) : ((n : Int) / 8).tmod 2 = (n : Int) / 8 % 2 := Int.tmod_eq_emod_of_nonneg (by omega)
theorem tdm16 (n : Nat) : ((n : Int) / 16).tmod 2 = (n : Int) / 16 % 2 := Int.tmod_eq_emod_of_nonneg (by omega)
theorem wr_of {x : Int} (h : 0 ≤ x ∧ x ≤ 9223372036854775807) : IntKind.i64.wrap x = x := by rw [IntKind.wrap_i64]; omega
theorem wr8_of {x : Int} (h : 0 ≤ x ∧ x ≤ 255) : IntKind.u8.wrap x = x := by rw [IntKind.wrap_u8]; omega
abbrev lb (b : Bool) (x : Cmd) : Cmd × Bool := (x, b)
theorem wpList_storeI {P : Program} {w : World} {ops : Array Oper} {rest : List Oper} {op : Oper} {a : Act} {Q : Exit → Act → World → Prop} (hgd : op.guard = none) (ty : TypeId) (x y : Operand) (ho : op.op = .store ty x y) (g o : Nat) (hx : a.eval x = .pointer (some ⟨g, o, none⟩)) (k : IntKind) (z : Int) (hy : a.eval y = .int k z)
    (hs : (P.info? ty).map (·.size) = some 1) (t : TypeId) (cs : List Value) (hB : Box w g t cs) (hl : o < cs.length)
    (h : ∀ w', Box w' g t (cs.set o (.int k z)) → Hid (w' = w.setCells g o [.int k z]) → wpList P ops Q rest (a.put op.dst undef) w') : wpList P ops Q (op :: rest) a w := by
  refine wpList_plain hgd fun K hK => ?_
  have hc : w.cell? ⟨g, o, none⟩ = some (cs[o]'hl) := by rw [hB.cell o, List.getElem?_eq_getElem hl]
  have hf := hB.frozen o
  have hrun : (Instr.storeAt ty (.pointer (some ⟨g, o, none⟩)) (.int k z)).run P w = .ok () (w.setCells g o [.int k z]) := by
    simp [Instr.storeAt, Instr.sureAddr, storeVar, run_size hs, Value.cells, World.setCells]
    go_simp
  unfold Go.Oper.wp
  simp [execOp, ho, hx, hy, hrun, Result.andThen]
  exact hK _ _ (h _ (hB.set o _) rfl)
def restS (op : Int) (l : List UInt8) : Cmd × Bool :=
  if op = 3 then lb ((Bn l 1 : Int) % 2 == 0) (3, 0, (Bn l 4 : Int), 0, 0)
  else if op = 18 then lb (((Bn l 2 : Int) == 0) || ((Bn l 1 : Int) % 2 == 1)) (18, 0, (bigAt l 3 2 : Int), (Bn l 2 : Int), (Bn l 1 : Int) % 2)
  else if op = 21 then lb (((Bn l 1 : Int) / 16 % 2 == 1) && ((Bn l 1 : Int) % 2 == 0)) (21, 0, (Bn l 4 : Int), 0, 0)
  else if op = 85 then lb (((Bn l 1 : Int) / 16 % 2 == 1) && ((Bn l 1 : Int) % 2 == 0)) (85, 0, (bigAt l 7 2 : Int), 0, 0)
  else if op = 26 then lb ((Bn l 3 : Int) == 0) (26, 0, (Bn l 4 : Int), (Bn l 2 : Int) % 64, (Bn l 2 : Int) / 64)
  else if op = 90 then lb ((Bn l 3 : Int) == 0) (90, 0, (bigAt l 7 2 : Int), (Bn l 2 : Int) % 64, (Bn l 2 : Int) / 64)
  else if op = 27 then lb (decide ((Bn l 4 : Int) < 16)) (27, 0, 0, 0, (Bn l 4 : Int) % 4)
  else if op = 30 then lb (decide ((Bn l 4 : Int) % 4 < 2)) (30, 0, 0, 0, (Bn l 4 : Int) % 4)
  else if op = 37 then lb (((bigAt l 2 4 : Int) == 0) && ((Bn l 8 : Int) % 2 == 0)) (37, 0, 0, 0, 0)
  else if op = 158 then lb ((Bn l 1 : Int) % 32 == 16) (158, 0, (bigAt l 10 4 : Int), 0, 0)
  else if op = 160 then lb ((decide ((Bn l 2 : Int) ≤ 2)) && (decide ((16 : Int) ≤ (bigAt l 6 4 : Int)))) (160, 0, (bigAt l 6 4 : Int), 0, 0)
  else lb true (op, 0, 0, 0, 0)
theorem bigAt_lt {l : List UInt8} {a n : Int} (k : Nat) (h : n.toNat ≤ 4) : bigAt l a n < 4294967296 := by
  unfold bigAt
  split
  · have h1 := bigOf_lt (seg l a.toNat n.toNat)
    have h2 : (seg l a.toNat n.toNat).length ≤ 4 := by simp [seg]; omega
    exact Nat.lt_of_lt_of_le h1 (by have := Nat.pow_le_pow_right (show 0 < 256 by omega) h2; simpa using this)
  · omega
end Go.Proofs.Ytcjdodkbnhkbiaa

namespace Go.Proofs.Ytcjdodkbnhkbiaa
open Go.ChangeShapes Go.WideShapes Go.ChangeAt Go.RowKit
set_option linter.unusedVariables false
set_option linter.unusedSimpArgs false

/-! What parameters select, as a function on lists. -/
def selP : Nat → List UInt8 → Bool → Bool × Sns
  | 0, _, c => (c, (0, 0, 0))
  | f + 1, l, c =>
    if l.length = 0 then (c, (0, 0, 0))
    else if l.length < 2 ∨ l.length < 2 + Bn l 1 then (false, (5, 26, 0))
    else if l.take (2 + Bn l 1) = pg8 true then selP f (l.drop (2 + Bn l 1)) true
    else if l.take (2 + Bn l 1) = pg8 false then selP f (l.drop (2 + Bn l 1)) false
    else if l.take (2 + Bn l 1) = pg28 then selP f (l.drop (2 + Bn l 1)) c
    else (false, (5, 38, 0))
def selF (l : List UInt8) (c : Bool) : Bool × Sns := selP l.length l c
theorem selP_nil (f : Nat) (l : List UInt8) (c : Bool) (h : l.length = 0) : selP f l c = (c, (0, 0, 0)) := by
  cases f with
  | zero => rfl
  | succ f => rw [selP, if_pos h]
theorem selP_fuel : ∀ (n f : Nat) (l : List UInt8) (c : Bool), l.length ≤ n → l.length ≤ f → selP f l c = selP n l c := by
  intro n
  induction n with
  | zero =>
    intro f l c h1 h2
    rw [selP_nil f l c (by omega), selP_nil 0 l c (by omega)]
  | succ n ih =>
    intro f l c h1 h2
    by_cases h0 : l.length = 0
    · rw [selP_nil f l c h0, selP_nil _ l c h0]
    cases f with
    | zero => omega
    | succ f =>
      have hd : (l.drop (2 + Bn l 1)).length ≤ n ∧ (l.drop (2 + Bn l 1)).length ≤ f := by simp only [List.length_drop]; omega
      rw [selP, selP, ih f _ true hd.1 hd.2, ih f _ false hd.1 hd.2, ih f _ c hd.1 hd.2]
theorem selF_nil (l : List UInt8) (c : Bool) (h : l.length = 0) : selF l c = (c, (0, 0, 0)) := selP_nil _ l c h
theorem selF_step (l : List UInt8) (c : Bool) (h : 0 < l.length) : selF l c =
    if l.length < 2 ∨ l.length < 2 + Bn l 1 then (false, (5, 26, 0))
    else if l.take (2 + Bn l 1) = pg8 true then selF (l.drop (2 + Bn l 1)) true
    else if l.take (2 + Bn l 1) = pg8 false then selF (l.drop (2 + Bn l 1)) false
    else if l.take (2 + Bn l 1) = pg28 then selF (l.drop (2 + Bn l 1)) c
    else (false, (5, 38, 0)) := by
  obtain ⟨f, hf⟩ : ∃ f, l.length = f + 1 := ⟨l.length - 1, by omega⟩
  have hd : (l.drop (2 + Bn l 1)).length ≤ f := by simp only [List.length_drop]; omega
  have e : selP l.length l c = selP (f + 1) l c := by rw [hf]
  unfold selF
  rw [e, selP, if_neg (by omega), selP_fuel _ f _ true (Nat.le_refl _) hd, selP_fuel _ f _ false (Nat.le_refl _) hd, selP_fuel _ f _ c (Nat.le_refl _) hd]
theorem pg8_ne : pg8 true ≠ pg8 false := by decide
theorem pg28_ne (b : Bool) : pg28 ≠ pg8 b := by cases b <;> decide
theorem selF_short (l : List UInt8) (c : Bool) (h : 0 < l.length) (hs : l.length < 2 ∨ l.length < 2 + Bn l 1) : selF l c = (false, (5, 26, 0)) := by
  rw [selF_step l c h, if_pos hs]
theorem selF_8 (l : List UInt8) (c b : Bool) (hs : ¬ (l.length < 2 ∨ l.length < 2 + Bn l 1)) (hp : l.take (2 + Bn l 1) = pg8 b) : selF l c = selF (l.drop (2 + Bn l 1)) b := by
  rw [selF_step l c (by omega), if_neg hs]
  cases b with
  | true => rw [if_pos hp]
  | false => rw [if_neg (by rw [hp]; exact fun e => pg8_ne e.symm), if_pos hp]
theorem selF_28 (l : List UInt8) (c : Bool) (hs : ¬ (l.length < 2 ∨ l.length < 2 + Bn l 1)) (hp : l.take (2 + Bn l 1) = pg28) : selF l c = selF (l.drop (2 + Bn l 1)) c := by
  rw [selF_step l c (by omega), if_neg hs, if_neg (by rw [hp]; exact pg28_ne true), if_neg (by rw [hp]; exact pg28_ne false), if_pos hp]
theorem selF_bad (l : List UInt8) (c : Bool) (hs : ¬ (l.length < 2 ∨ l.length < 2 + Bn l 1)) (h1 : l.take (2 + Bn l 1) ≠ pg8 true) (h2 : l.take (2 + Bn l 1) ≠ pg8 false) (h3 : l.take (2 + Bn l 1) ≠ pg28) : selF l c = (false, (5, 38, 0)) := by
  rw [selF_step l c (by omega), if_neg hs, if_neg h1, if_neg h2, if_neg h3]
def hdN (ten : Bool) : Nat := if ten then 8 else 4
def hdM (l : List UInt8) (ten : Bool) : Nat := if ten then Bn l 7 + 256 * Bn l 6 else Bn l 3
def selR (l : List UInt8) (ten caching : Bool) : Bool × Sns :=
  if l.length = 0 then (caching, (0, 0, 0))
  else if l.length < hdN ten then (false, (5, 26, 0))
  else if hdM l ten ≠ 0 ∧ hdM l ten ≠ 8 then (false, (5, 38, 0))
  else if l.length < hdN ten + hdM l ten then (false, (5, 26, 0))
  else selF (l.drop (hdN ten + hdM l ten)) caching
/-- are m bytes from a on all 0? -/
def zrB (l : List UInt8) (a m : Nat) : Bool := (seg l a m).all (· == 0)
theorem zrB_zero (l : List UInt8) (a : Nat) : zrB l a 0 = true := by simp [zrB, seg]
theorem Bn_get (l : List UInt8) (i : Nat) (h : i < l.length) : Bn l i = l[i].toNat := by
  rw [Bn, List.getD_eq_getElem?_getD, List.getElem?_eq_getElem h]; rfl
theorem u8_zero (x : UInt8) : (x == 0) = decide (x.toNat = 0) := by
  rw [Bool.eq_iff_iff, beq_iff_eq, decide_eq_true_eq]
  constructor
  · rintro rfl; rfl
  · intro h; exact UInt8.toNat_inj.1 h
theorem zrB_step (l : List UInt8) (a m : Nat) (h : a + m < l.length) : zrB l a (m + 1) = (zrB l a m && decide (Bn l (a + m) = 0)) := by
  rw [zrB, seg_snoc l a m h, List.all_append, Bn_get l _ h]
  simp only [List.all_cons, List.all_nil, Bool.and_true]
  rw [u8_zero]
  rfl
theorem zrB_iff (l : List UInt8) (a m : Nat) (h : a + m ≤ l.length) : zrB l a m = true ↔ seg l a m = List.replicate m 0 := by
  have hm := seg_length l a m h
  rw [zrB, List.all_eq_true]
  constructor
  · intro hh
    refine List.eq_replicate_iff.2 ⟨hm, fun b hb => ?_⟩
    simpa using hh b hb
  · intro e b hb
    rw [e] at hb
    simpa using List.eq_of_mem_replicate hb
theorem page_take (l : List UInt8) (n : Nat) (hn : 1 ≤ n) (h : 2 + n ≤ l.length) : l.take (2 + n) = (l[0]'(by omega)) :: (l[1]'(by omega)) :: (l[2]'(by omega)) :: seg l 3 (n - 1) := by
  obtain ⟨k, rfl⟩ : ∃ k, n = k + 1 := ⟨n - 1, by omega⟩
  have e : l.take (2 + (k + 1)) = seg l 0 (k + 3) := by simp only [seg, List.drop_zero]; congr 1; omega
  rw [e, seg_cons l 0 _ (by omega), seg_cons l 1 _ (by omega), seg_cons l 2 _ (by omega)]
  rfl
theorem bn_u8 (x : UInt8) (k : Nat) (hk : k < 256) (h : x.toNat = k) : x = UInt8.ofNat k := by
  apply UInt8.toNat_inj.1; rw [h, UInt8.toNat_ofNat']; omega
theorem page_8 (l : List UInt8) (b : Bool) (hs : ¬ (l.length < 2 ∨ l.length < 2 + Bn l 1)) : l.take (2 + Bn l 1) = pg8 b ↔ (Bn l 0 = 8 ∧ Bn l 1 = 18 ∧ zrB l 3 17 = true ∧ Bn l 2 = (if b then 4 else 0)) := by
  have e8 : pg8 b = 8 :: 18 :: vU b :: List.replicate 17 0 := rfl
  constructor
  · intro h
    have hl := congrArg List.length h
    rw [List.length_take, show (pg8 b).length = 20 from rfl] at hl
    have h1 : Bn l 1 = 18 := by omega
    rw [h1, page_take l 18 (by omega) (by omega), e8] at h
    simp only [List.cons.injEq] at h
    obtain ⟨g0, g1, g2, g3⟩ := h
    refine ⟨by rw [Bn_get l 0 (by omega), g0]; rfl, h1, (zrB_iff l 3 17 (by omega)).2 g3, ?_⟩
    rw [Bn_get l 2 (by omega), g2]
    cases b <;> rfl
  · rintro ⟨g0, g1, g3, g2⟩
    have hlen : 20 ≤ l.length := by omega
    rw [Bn_get l 0 (by omega)] at g0
    rw [g1, page_take l 18 (by omega) (by omega), e8, (zrB_iff l 3 17 (by omega)).1 g3, bn_u8 _ 8 (by omega) g0]
    rw [Bn_get l 1 (by omega)] at g1
    rw [bn_u8 _ 18 (by omega) g1]
    rw [Bn_get l 2 (by omega)] at g2
    have g4 : l[2] = vU b := by
      cases b with
      | true => exact bn_u8 _ 4 (by omega) g2
      | false => exact bn_u8 _ 0 (by omega) g2
    rw [g4]; rfl
theorem page_28 (l : List UInt8) (hs : ¬ (l.length < 2 ∨ l.length < 2 + Bn l 1)) : l.take (2 + Bn l 1) = pg28 ↔ (Bn l 0 = 28 ∧ Bn l 1 = 10 ∧ zrB l 3 9 = true ∧ Bn l 2 = 0) := by
  have e8 : pg28 = 28 :: 10 :: 0 :: List.replicate 9 0 := rfl
  constructor
  · intro h
    have hl := congrArg List.length h
    rw [List.length_take, show pg28.length = 12 from rfl] at hl
    have h1 : Bn l 1 = 10 := by omega
    rw [h1, page_take l 10 (by omega) (by omega), e8] at h
    simp only [List.cons.injEq] at h
    obtain ⟨g0, g1, g2, g3⟩ := h
    refine ⟨by rw [Bn_get l 0 (by omega), g0]; rfl, h1, (zrB_iff l 3 9 (by omega)).2 g3, ?_⟩
    rw [Bn_get l 2 (by omega), g2]; rfl
  · rintro ⟨g0, g1, g3, g2⟩
    have hlen : 12 ≤ l.length := by omega
    rw [Bn_get l 0 (by omega)] at g0
    rw [g1, page_take l 10 (by omega) (by omega), e8, (zrB_iff l 3 9 (by omega)).1 g3, bn_u8 _ 28 (by omega) g0]
    rw [Bn_get l 1 (by omega)] at g1
    rw [bn_u8 _ 10 (by omega) g1]
    rw [Bn_get l 2 (by omega)] at g2
    rw [bn_u8 _ 0 (by omega) g2]; rfl
theorem Bn_drop (l : List UInt8) (a i : Nat) : Bn (l.drop a) i = Bn l (a + i) := by
  rw [Bn, Bn, List.getD_eq_getElem?_getD, List.getD_eq_getElem?_getD, List.getElem?_drop]
theorem zrB_drop (l : List UInt8) (a b m : Nat) : zrB (l.drop a) b m = zrB l (a + b) m := by
  rw [zrB, zrB, seg, seg, List.drop_drop]
/-! the same, from a place on -/
def selA (l : List UInt8) (at_ : Nat) (c : Bool) : Bool × Sns := selF (l.drop at_) c
theorem selA_nil (l : List UInt8) (at_ : Nat) (c : Bool) (h : l.length ≤ at_) : selA l at_ c = (c, (0, 0, 0)) := selF_nil _ _ (by rw [List.length_drop]; omega)
theorem selA_short (l : List UInt8) (at_ : Nat) (c : Bool) (h : at_ < l.length) (hs : l.length ≤ at_ + 1 ∨ l.length < at_ + 2 + Bn l (at_ + 1)) : selA l at_ c = (false, (5, 26, 0)) := by
  refine selF_short _ _ (by rw [List.length_drop]; omega) ?_
  rw [List.length_drop, Bn_drop]; omega
theorem selA_8 (l : List UInt8) (at_ : Nat) (c b : Bool) (hs : at_ + 2 + Bn l (at_ + 1) ≤ l.length) (h0 : Bn l at_ = 8) (h1 : Bn l (at_ + 1) = 18) (h2 : Bn l (at_ + 2) = if b then 4 else 0) (h3 : zrB l (at_ + 3) 17 = true) : selA l at_ c = selA l (at_ + 20) b := by
  have hq : ¬ ((l.drop at_).length < 2 ∨ (l.drop at_).length < 2 + Bn (l.drop at_) 1) := by rw [List.length_drop, Bn_drop]; omega
  unfold selA
  rw [selF_8 (l.drop at_) c b hq ((page_8 _ b hq).2 ⟨by rw [Bn_drop]; exact h0, by rw [Bn_drop]; exact h1, by rw [zrB_drop]; exact h3, by rw [Bn_drop]; exact h2⟩), Bn_drop, h1, List.drop_drop]
theorem selA_28 (l : List UInt8) (at_ : Nat) (c : Bool) (hs : at_ + 2 + Bn l (at_ + 1) ≤ l.length) (h0 : Bn l at_ = 28) (h1 : Bn l (at_ + 1) = 10) (h2 : Bn l (at_ + 2) = 0) (h3 : zrB l (at_ + 3) 9 = true) : selA l at_ c = selA l (at_ + 12) c := by
  have hq : ¬ ((l.drop at_).length < 2 ∨ (l.drop at_).length < 2 + Bn (l.drop at_) 1) := by rw [List.length_drop, Bn_drop]; omega
  unfold selA
  rw [selF_28 (l.drop at_) c hq ((page_28 _ hq).2 ⟨by rw [Bn_drop]; exact h0, by rw [Bn_drop]; exact h1, by rw [zrB_drop]; exact h3, by rw [Bn_drop]; exact h2⟩), Bn_drop, h1, List.drop_drop]
theorem selA_bad (l : List UInt8) (at_ : Nat) (c : Bool) (hs : at_ + 2 + Bn l (at_ + 1) ≤ l.length)
    (h8 : ¬ (Bn l at_ = 8 ∧ Bn l (at_ + 1) = 18 ∧ zrB l (at_ + 3) (Bn l (at_ + 1) - 1) = true ∧ (Bn l (at_ + 2) = 0 ∨ Bn l (at_ + 2) = 4)))
    (h28 : ¬ (Bn l at_ = 28 ∧ Bn l (at_ + 1) = 10 ∧ zrB l (at_ + 3) (Bn l (at_ + 1) - 1) = true ∧ Bn l (at_ + 2) = 0)) : selA l at_ c = (false, (5, 38, 0)) := by
  have hq : ¬ ((l.drop at_).length < 2 ∨ (l.drop at_).length < 2 + Bn (l.drop at_) 1) := by rw [List.length_drop, Bn_drop]; omega
  unfold selA
  refine selF_bad (l.drop at_) c hq ?_ ?_ ?_
  · intro e
    have := (page_8 _ true hq).1 e
    rw [Bn_drop, Bn_drop, Bn_drop, zrB_drop] at this
    exact h8 ⟨this.1, this.2.1, by rw [this.2.1]; exact this.2.2.1, .inr this.2.2.2⟩
  · intro e
    have := (page_8 _ false hq).1 e
    rw [Bn_drop, Bn_drop, Bn_drop, zrB_drop] at this
    exact h8 ⟨this.1, this.2.1, by rw [this.2.1]; exact this.2.2.1, .inl this.2.2.2⟩
  · intro e
    have := (page_28 _ hq).1 e
    rw [Bn_drop, Bn_drop, Bn_drop, zrB_drop] at this
    exact h28 ⟨this.1, this.2.1, by rw [this.2.1]; exact this.2.2.1, this.2.2.2⟩
end Go.Proofs.Ytcjdodkbnhkbiaa
