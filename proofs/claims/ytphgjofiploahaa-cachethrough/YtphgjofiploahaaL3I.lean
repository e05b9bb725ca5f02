import Derived.Test.YtphgjofiploahaaR3j
import Derived.Test.YtphgjofiploahaaOpn3
import Derived.Test.YtphgjofiploahaaVar
namespace Go.Proofs.Ytphgjofiploahaa
open Go.ChangeShapes Go.WideShapes Go.ChangeAt Go.RowKit
set_option linter.unusedVariables false
set_option linter.unusedSimpArgs false

/-! What the landed cache does, said; proved in P3. -/
def IRight : Prop := ∀ (v : Value) (n : Nat) (F : List UInt8) (D : List Drt) (w : World), Med w v n F D → Calls Try.prog 16 #[v] w fun e w' => e = .returned (.bool (rightB n D)) ∧ Later w w'
def IShow : Prop := ∀ (v : Value) (n : Nat) (F : List UInt8) (D : List Drt) (at_ : Int) (w : World), Med w v n F D → -9223372036854775808 ≤ at_ → at_ ≤ 9223372036854775807 →
  Calls Try.prog 13 #[v, .int .i64 at_] w fun e w' => e = .returned (.tuple #[.agg (bv (showL n F D at_)).toArray, .int .i64 (showE n D at_)]) ∧ Later w w'
def IWrite : Prop := ∀ (v : Value) (n : Nat) (F : List UInt8) (D : List Drt) (at_ : Int) (X : List UInt8) (th : Bool) (w : World), Med w v n F D → X.length = 64 → -9223372036854775808 ≤ at_ → at_ ≤ 9223372036854775807 →
  Calls Try.prog 11 #[v, .int .i64 at_, .agg (bv X).toArray, .bool th] w fun e w' => ∃ v', e = .returned (.tuple #[v', .int .i64 (wrE n D at_)]) ∧ Later w w' ∧ Med w' v' (wrN n D at_) (wrF n F D at_ X th) (wrD n D at_ X th)
def IFlush : Prop := ∀ (v : Value) (n : Nat) (F : List UInt8) (D : List Drt) (at_ m : Int) (w : World), Med w v n F D → -9223372036854775808 ≤ at_ → at_ ≤ 9223372036854775807 → -9223372036854775808 ≤ m → m ≤ 9223372036854775807 →
  Calls Try.prog 21 #[v, .int .i64 at_, .int .i64 m] w fun e w' => ∃ v', e = .returned (.tuple #[v', .int .i64 (flushE n D at_ m)]) ∧ Later w w' ∧ Med w' v' (flushN n D at_ m) (flushF n F D at_ m) (flushD n D at_ m)
def ILose : Prop := ∀ (v : Value) (n : Nat) (F : List UInt8) (D : List Drt) (mask : Nat) (w : World), Med w v n F D → mask ≤ 18446744073709551615 →
  Calls Try.prog 23 #[v, .int .u64 mask] w fun e w' => ∃ v', e = .returned (.tuple #[v', .int .i64 (loseE n D)]) ∧ Later w w' ∧ Med w' v' (loseN n D) (loseF n F D mask) []
def IAll : Prop := ∀ (v : Value) (n : Nat) (F : List UInt8) (D : List Drt) (w : World), Med w v n F D →
  Calls Try.prog 19 #[v] w fun e w' => ∃ v', e = .returned v' ∧ Later w w' ∧ Rw 64 w' v' (allN n D) (bv (allF n F D))
def Alive3 : Prop := ∀ w : World, Calls Try.prog 8 #[] w fun e w' => e = .returned (.bool true) ∧ Later w w'

theorem Med.shape {w : World} {v : Value} {n : Nat} {F : List UInt8} {D : List Drt} (h : Med w v n F D) : ∃ a c a' k c', v = .agg #[.slice a n c, .slice a' k c'] ∧ Hid (k = D.length) ∧ n ≤ 9223372036854775807 ∧ k ≤ 9223372036854775807 := by
  obtain ⟨vb, vd, rfl, hb, hd, _⟩ := h
  obtain ⟨a, c, rfl⟩ := hb.shape
  obtain ⟨a', c', rfl⟩ := hd.shape
  have h1 := hb.2.1
  have h2 := hd.2.1
  unfold maxLen at h1 h2
  exact ⟨a, c, a', D.length, c', rfl, rfl, by omega, by omega⟩
theorem rall_b {v : Value} {n : Nat} {F : List UInt8} {D : List Drt} (w : World) (h : Med w v n F D) :
    Calls Try.prog 20 #[v] w fun e w' => ∃ v', e = .returned v' ∧ Later w w' ∧ Rw 64 w' v' (allN n D) (bv (allF n F D)) :=
  (rall_c w h).mono fun e w' ⟨v', he, hl, ho⟩ => ⟨v', he, hl, Rw.of_owns ho⟩
theorem Try.zero_medium : (Try.prog.info? 25).map (fun i => (i.zero, i.size)) = some (some (.agg #[.slice none 0 0, .slice none 0 0]), 2) := by kernel_rfl
theorem Try.zero_block : (Try.prog.info? 27).map (fun i => (i.zero, i.size)) = some (some (.agg (Array.replicate 64 (.int .u8 0))), 64) := by kernel_rfl
theorem Try.guard_block : Try.prog.eqGuardType Try.prog.depth 27 = false := by kernel_rfl
theorem block_eq (X Y : List UInt8) (hX : X.length = 64) (hY : Y.length = 64) (w : World) : (Op.equalIn 10000 27 (.agg (bv X).toArray) (.agg (bv Y).toArray)).run Try.prog w = .ok (X == Y) w :=
  bytes_eq 27 5 64 Try.underlying27 Try.underlying5 (by kernel_rfl) X Y hX hY w
/-- 'x := v', v a block -/
theorem wpList_newB {w : World} {ops : Array Oper} {rest : List Oper} {o1 o2 : Oper} {a : Act} {Q : Exit → Act → World → Prop} (hg1 : o1.guard = none) (hg2 : o2.guard = none) (h1 : o1.op = .alloc 27) (d : Tmp) (hd : o1.dst = some d) (hd' : d < a.tmps.size) (y : Operand) (hy' : y ≠ .tmp d) (h2 : o2.op = .store 27 (.tmp d) y)
    (X : List UInt8) (hX : X.length = 64) (hy : a.eval y = .agg (bv X).toArray)
    (h : ∀ (g : Nat) (w' : World), Box w' g 27 (bv X) → Later w w' → Hid (g = w.heap.size ∧ w' = w.alloc (.cells (bv X).toArray 27)) → wpList Try.prog ops Q rest ((a.put (some d) (.pointer (some ⟨g, 0, none⟩))).put o2.dst undef) w') : wpList Try.prog ops Q (o1 :: o2 :: rest) a w :=
  wpList_new hg1 hg2 27 h1 d hd hd' y hy' h2 (Array.replicate 64 (.int .u8 0)) (bv X) (by rw [bv_length, hX]; exact Try.zero_block) (by simp [bv_length, hX]) hy (bv_one X) h
/-- 'x := v', v a medium -/
theorem wpList_newM {w : World} {ops : Array Oper} {rest : List Oper} {o1 o2 : Oper} {a : Act} {Q : Exit → Act → World → Prop} (hg1 : o1.guard = none) (hg2 : o2.guard = none) (h1 : o1.op = .alloc 25) (d : Tmp) (hd : o1.dst = some d) (hd' : d < a.tmps.size) (y : Operand) (hy' : y ≠ .tmp d) (h2 : o2.op = .store 25 (.tmp d) y)
    (x1 x2 : Option Addr) (n1 c1 n2 c2 : Nat) (hy : a.eval y = .agg #[.slice x1 n1 c1, .slice x2 n2 c2])
    (h : ∀ (g : Nat) (w' : World), Box w' g 25 [.slice x1 n1 c1, .slice x2 n2 c2] → Later w w' → Hid (g = w.heap.size ∧ w' = w.alloc (.cells #[.slice x1 n1 c1, .slice x2 n2 c2] 25)) → wpList Try.prog ops Q rest ((a.put (some d) (.pointer (some ⟨g, 0, none⟩))).put o2.dst undef) w') : wpList Try.prog ops Q (o1 :: o2 :: rest) a w :=
  wpList_new hg1 hg2 25 h1 d hd hd' y hy' h2 #[.slice none 0 0, .slice none 0 0] [.slice x1 n1 c1, .slice x2 n2 c2] Try.zero_medium rfl hy (by simp [Value.oneCell']) h
theorem showL_length (n : Nat) (F : List UInt8) (D : List Drt) (at_ : Int) (hF : F.length = n * 64) (ho : Ok D) : (showL n F D at_).length = 64 := by
  unfold showL
  split
  · rename_i h
    rw [seg_length]
    rw [app_length n D F hF (fit_of_right h.1 ho)]
    omega
  · simp
theorem Med.flat {w : World} {v : Value} {n : Nat} {F : List UInt8} {D : List Drt} (h : Med w v n F D) : F.length = n * 64 ∧ Ok D := by
  obtain ⟨vb, vd, rfl, hb, hd, ho⟩ := h
  have := hb.1
  rw [bv_length] at this
  exact ⟨this, ho⟩
end Go.Proofs.Ytphgjofiploahaa
