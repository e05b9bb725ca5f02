import Derived.WalkKit
import Derived.Deep.QuietTactic
import Derived.BigQuiet
import Derived.Lib.QuietBelow
import Derived.Test.YtoflkbilkkfekaaMAA
namespace Go.Proofs.Ytoflkbilkkfekaa
open Go.ChangeShapes Go.WideShapes Go.ChangeAt Go.RowKit
set_option linter.unusedVariables false
set_option linter.unusedSimpArgs false

def isT (n : Int) : Bool := decide (0 ≤ n ∧ n ≤ 1024)
def textOf (l : List UInt8) (n : Nat) : List UInt8 := l.take n ++ List.replicate (n - l.length) 32
theorem textOf_length (l : List UInt8) (n : Nat) : (textOf l n).length = n := by simp [textOf]; omega

/-- the first k bytes laid -/
def partT (l : List UInt8) (n k : Nat) : List UInt8 := (textOf l n).take k ++ List.replicate (n - k) 0
theorem partT_set (l : List UInt8) (n k : Nat) (h : k < n) (hl : l.length ≤ k) : partT l n (k + 1) = (partT l n k).set k 32 := by
  unfold partT
  have h1 : ((textOf l n).take k).length = k := by rw [List.length_take, textOf_length]; omega
  rw [List.set_append_right _ _ (by omega), h1, Nat.sub_self]
  obtain ⟨m, hm⟩ : ∃ m, n - k = m + 1 := ⟨n - k - 1, by omega⟩
  rw [hm, show n - (k + 1) = m from by omega, List.replicate_succ, List.set_cons_zero]
  rw [List.take_succ_eq_append_getElem (by rw [textOf_length]; exact h)]
  simp [textOf, List.getElem_append, show min n l.length = l.length from by omega, show ¬ k < l.length from by omega]
theorem partT_start (l : List UInt8) (n : Nat) : l.take (Nat.min l.length n) ++ (List.replicate n (0 : UInt8)).drop (Nat.min l.length n) = partT l n (Nat.min l.length n) := by
  unfold partT textOf
  have h1 : Nat.min l.length n ≤ l.length := Nat.min_le_left _ _
  have h2 : Nat.min l.length n ≤ n := Nat.min_le_right _ _
  rw [List.take_append_of_le_length (by rw [List.length_take]; omega), List.take_take, List.drop_replicate]
  congr 2
  omega
theorem partT_all (l : List UInt8) (n : Nat) : partT l n n = textOf l n := by
  unfold partT
  rw [List.take_of_length_le (by rw [textOf_length]; exact Nat.le_refl _)]; simp

theorem textOf_snoc (l : List UInt8) (n k : Nat) (h : k < n) : (textOf l n).take (k + 1) = (textOf l n).take k ++ [if hk : k < l.length then l[k] else 32] := by
  rw [List.take_succ_eq_append_getElem (by rw [textOf_length]; exact h)]
  congr 2
  by_cases hk : k < l.length
  · simp [textOf, List.getElem_append, hk, show k < min n l.length from by omega]
  · simp [textOf, List.getElem_append, show min n l.length = l.length from by omega, hk]

end Go.Proofs.Ytoflkbilkkfekaa

namespace Go.Proofs.Ytoflkbilkkfekaa
open Go.ChangeShapes Go.WideShapes Go.ChangeAt Go.RowKit
set_option linter.unusedVariables false
set_option linter.unusedSimpArgs false

/-! The calls' answers, for all arguments. -/
def bigAt (l : List UInt8) (a n : Int) : Nat := if holdsB l.length a n then bigOf (seg l a.toNat n.toNat) else 0
def littleAt (l : List UInt8) (a n : Int) : Nat := if holdsB l.length a n then littleOf (seg l a.toNat n.toNat) else 0
def putBeI (x : Nat) (n : Int) : List UInt8 := if isW n then putBe x n.toNat else []
def putLeI (x : Nat) (n : Int) : List UInt8 := if isW n then putLe x n.toNat else []
def bitsI (x : Nat) (f n : Int) : Nat := if areB f n then bitsN x f.toNat n.toNat else 0
def setI (x : Nat) (f n : Int) (y : Nat) : Nat := if areB f n then setN x f.toNat n.toNat y else x
def textI (l : List UInt8) (n : Int) : List UInt8 := if isT n then textOf l n.toNat else []

theorem reads_c {k : Nat} {val : List UInt8 → Nat} (hno : ∀ (ad : Option Addr) (len cap : Nat) (a n : Int) (w : World) (hm : len ≤ maxLen) (hh : ¬ (1 ≤ n ∧ n ≤ 8 ∧ 0 ≤ a ∧ a ≤ len - n)), Calls Try.prog k #[.slice ad len cap, .int .i64 a, .int .i64 n] w fun e w' => e = .returned (.tuple #[.int .u64 0, .bool false]) ∧ w' = w)
    (hyes : ∀ (bk off len cap : Nat) (l : List UInt8) (a n : Nat) (w : World) (hn : 1 ≤ n) (hn8 : n ≤ 8) (hl : l.length = len) (hm : len ≤ maxLen) (ha : a + n ≤ len) (hc : ∀ i (h : i < l.length), w.cell? ⟨bk, off + i, none⟩ = some (.int .u8 (l[i].toNat : Int))),
      Calls Try.prog k #[.slice (some ⟨bk, off, none⟩) len cap, .int .i64 a, .int .i64 n] w fun e w' => e = .returned (.tuple #[.int .u64 (val (seg l a n)), .bool true]) ∧ w' = w)
    {v : Value} {l : List UInt8} (a n : Int) (w : World) (h : Bs w v l) :
    Calls Try.prog k #[v, .int .i64 a, .int .i64 n] w fun e w' => e = .returned (.tuple #[.int .u64 ((if holdsB l.length a n then val (seg l a.toNat n.toNat) else 0 : Nat) : Int), .bool (holdsB l.length a n)]) ∧ w' = w := by
  obtain ⟨hm, ad, cap, rfl, hcap, h⟩ := h
  by_cases hh : 1 ≤ n ∧ n ≤ 8 ∧ 0 ≤ a ∧ a ≤ (l.length : Int) - n
  · have hb : holdsB l.length a n = true := by simp [holdsB, hh]
    obtain ⟨a', rfl⟩ := Int.eq_ofNat_of_zero_le hh.2.2.1
    obtain ⟨n', rfl⟩ := Int.eq_ofNat_of_zero_le (show 0 ≤ n by omega)
    rcases h with rfl | ⟨b, off, rfl, hc⟩
    · simp at hh; omega
    · refine (hyes b off l.length cap l a' n' w (by omega) (by omega) rfl hm (by omega) hc).mono fun e w' he => ?_
      rw [hb]
      simpa using he
  · have hb : holdsB l.length a n = false := by simp only [holdsB]; exact decide_eq_false hh
    refine (hno ad l.length cap a n w hm hh).mono fun e w' he => ?_
    rw [hb]
    simpa using he
theorem rbig_c {v : Value} {l : List UInt8} (a n : Int) (w : World) (h : Bs w v l) :
    Calls Try.prog 13 #[v, .int .i64 a, .int .i64 n] w fun e w' => e = .returned (.tuple #[.int .u64 (bigAt l a n : Int), .bool (holdsB l.length a n)]) ∧ w' = w := reads_c rbig_no rbig_yes a n w h
theorem puts_c {k : Nat} {val : Nat → Nat → List UInt8} (hlen : ∀ x n, (val x n).length = n) (hno : ∀ (x n : Int) (w : World) (hn : isW n = false), Calls Try.prog k #[.int .u64 x, .int .i64 n] w fun e w' => e = .returned (.slice none 0 0) ∧ w' = w)
    (hyes : ∀ (x n : Nat) (w : World) (B : Nat) (hB : B ≤ w.heap.size) (hn1 : 1 ≤ n) (hn8 : n ≤ 8) (hx : x ≤ 18446744073709551615), Calls Try.prog k #[.int .u64 x, .int .i64 n] w fun e w' => ∃ v, e = .returned v ∧ Below B w w' ∧ w'.ownsRow B 5 1 v n (bv (val x n)))
    (x : Nat) (n : Int) (w : World) (B : Nat) (hB : B ≤ w.heap.size) (hx : x ≤ 18446744073709551615) :
    Calls Try.prog k #[.int .u64 x, .int .i64 n] w fun e w' => ∃ v, e = .returned v ∧ Below B w w' ∧ w'.ownsRow B 5 1 v (if isW n then val x n.toNat else []).length (bv (if isW n then val x n.toNat else [])) := by
  by_cases h : isW n = true
  · have h' := h
    simp [isW] at h'
    obtain ⟨n', rfl⟩ := Int.eq_ofNat_of_zero_le (show 0 ≤ n by omega)
    refine (hyes x n' w B hB (by omega) (by omega) hx).mono fun e w' he => ?_
    rw [h]
    simpa [hlen] using he
  · have h' : isW n = false := by simpa using h
    refine (hno x n w h').mono fun e w' he => ?_
    obtain ⟨rfl, rfl⟩ := he
    rw [h']
    exact ⟨_, rfl, Below.refl _ _, World.ownsRow_nil _ _ _ _⟩
theorem putBig_c (x : Nat) (n : Int) (w : World) (B : Nat) (hB : B ≤ w.heap.size) (hx : x ≤ 18446744073709551615) :
    Calls Try.prog 18 #[.int .u64 x, .int .i64 n] w fun e w' => ∃ v, e = .returned v ∧ Below B w w' ∧ w'.ownsRow B 5 1 v (putBeI x n).length (bv (putBeI x n)) := puts_c putBe_length putBig_no putBig_yes x n w B hB hx
theorem rputBig_c (x : Nat) (n : Int) (w : World) (B : Nat) (hB : B ≤ w.heap.size) (hx : x ≤ 18446744073709551615) :
    Calls Try.prog 15 #[.int .u64 x, .int .i64 n] w fun e w' => ∃ v, e = .returned v ∧ Below B w w' ∧ w'.ownsRow B 5 1 v (putBeI x n).length (bv (putBeI x n)) := puts_c putBe_length rputBig_no rputBig_yes x n w B hB hx
theorem texts_c {k : Nat} (hno : ∀ (s : ByteArray) (n : Int) (w : World) (hn : isT n = false), Calls Try.prog k #[.string s, .int .i64 n] w fun e w' => e = .returned (.slice none 0 0) ∧ w' = w)
    (hyes : ∀ (s : ByteArray) (n : Nat) (w : World) (B : Nat) (hB : B ≤ w.heap.size) (hn : n ≤ 1024) (hs : s.size ≤ maxLen), Calls Try.prog k #[.string s, .int .i64 n] w fun e w' => ∃ v, e = .returned v ∧ Below B w w' ∧ w'.ownsRow B 5 1 v n (bv (textOf s.data.toList n)))
    (s : ByteArray) (n : Int) (w : World) (B : Nat) (hB : B ≤ w.heap.size) (hs : s.size ≤ maxLen) :
    Calls Try.prog k #[.string s, .int .i64 n] w fun e w' => ∃ v, e = .returned v ∧ Below B w w' ∧ w'.ownsRow B 5 1 v (textI s.data.toList n).length (bv (textI s.data.toList n)) := by
  unfold textI
  by_cases h : isT n = true
  · have h' := h
    simp [isT] at h'
    obtain ⟨n', rfl⟩ := Int.eq_ofNat_of_zero_le (show 0 ≤ n by omega)
    refine (hyes s n' w B hB (by omega) hs).mono fun e w' he => ?_
    rw [h]
    simpa [textOf_length] using he
  · have h' : isT n = false := by simpa using h
    refine (hno s n w h').mono fun e w' he => ?_
    obtain ⟨rfl, rfl⟩ := he
    rw [h']
    exact ⟨_, rfl, Below.refl _ _, World.ownsRow_nil _ _ _ _⟩
theorem bitsI_le (x : Nat) (f n : Int) : bitsI x f n ≤ 18446744073709551615 := by
  unfold bitsI
  by_cases h : areB f n = true
  · obtain ⟨a, b, rfl, rfl, h1, h2⟩ := areB_nat h
    rw [h]; simpa using bitsN_le64 x a b h2
  · simp [h]
theorem setI_le (x : Nat) (f n : Int) (y : Nat) (hx : x ≤ 18446744073709551615) : setI x f n y ≤ 18446744073709551615 := by
  unfold setI
  by_cases h : areB f n = true
  · obtain ⟨a, b, rfl, rfl, h1, h2⟩ := areB_nat h
    rw [h]; simpa using setN_le64 x a b y h2 hx
  · simpa [h] using hx
end Go.Proofs.Ytoflkbilkkfekaa

namespace Go.Proofs.Ytoflkbilkkfekaa
open Go.ChangeShapes Go.WideShapes Go.ChangeAt Go.RowKit
set_option linter.unusedVariables false
set_option linter.unusedSimpArgs false

def fiveL : List UInt8 := [9, 0, 0, 1, 2]
theorem Bs.five (w : World) (t : TypeId) : Bs (w.alloc (.cells #[.int .u8 9, .int .u8 0, .int .u8 0, .int .u8 1, .int .u8 2] t)) (.slice (some ⟨w.heap.size, 0, none⟩) 5 5) fiveL := by
  refine ⟨by simp [maxLen, fiveL], _, 5, rfl, by simp [fiveL], .inr ⟨w.heap.size, 0, rfl, fun j hj => ?_⟩⟩
  rw [cell_of_row _ w.heap.size (0 + j) _ t (0, 0) (heap_alloc_new w _)]
  match j, hj with
  | 0, _ => rfl
  | 1, _ => rfl
  | 2, _ => rfl
  | 3, _ => rfl
  | 4, _ => rfl

theorem putBig_258 (w : World) (B : Nat) (hB : B ≤ w.heap.size) : Calls Try.prog 18 #[.int .u64 258, .int .i64 4] w fun e w' => ∃ v, e = .returned v ∧ Below B w w' ∧ (convert 23 9 v).run Try.prog w' = .ok (.string ⟨#[0, 0, 1, 2]⟩) w' := by
  refine (putBig_c 258 4 w B hB (by omega)).mono fun e w' => ?_
  rintro ⟨v, he, hb, ho⟩
  rw [show putBeI 258 4 = [0, 0, 1, 2] from by decide +kernel] at ho
  exact ⟨v, he, hb, (Bs.of_owns ho).1.str⟩
end Go.Proofs.Ytoflkbilkkfekaa

namespace Go.Proofs.Ytoflkbilkkfekaa
open Go Go.RowKit
set_option linter.unusedVariables false
set_option linter.unusedSimpArgs false

/-! A region that draws its order, some of whose operations make memory (calls above all). One walk serves every order: operations that give the same value in every later world are taken first; any other one is taken where it alone may come up.
    'Later b w': nothing that was there in b has turned in w. -/

def Later (b w : World) : Prop := Below b.heap.size b w
theorem Later.refl (b : World) : Later b b := Below.refl _ _
theorem Later.trans {a b c : World} (h : Later a b) (k : Later b c) : Later a c := Below.trans h (Below.mono k h.size)
theorem Later.drew {a b : World} (h : Later a b) : Later a b.drew := Below.drew h
theorem Later.drewN {a b : World} (h : Later a b) (n : Nat) : Later a (b.drewN n) := ⟨h.os, h.tape, h.output, h.size, h.block⟩

section
variable {P : Program} {ops : Array Oper} {md : Region.Mode}

/-- what is asked of an operation that is mild: one value in every later world; a call may make memory -/
def Oper.mildUpon (P : Program) (w : World) (v : Value) : Result Next → Prop
  | .ok (.value u) w' => w' = w ∧ u = v
  | .ok .skip w' => w' = w ∧ v = undef
  | .ok (.enter f args) w' => w' = w ∧ Calls P f args w (fun e w'' => e = .returned v ∧ Later w w'')
  | _ => False
def Oper.mild (P : Program) (o : Oper) (a : Act) (b : World) (next : Act → Prop) : Prop :=
  ∃ v, (∀ w, Later b w → Oper.mildUpon P w v ((execOp a.eval o).run P w)) ∧ next (a.put o.dst v)

/-- what is asked of an operation that is loud: whatever value, in a later world -/
def Oper.loudUpon (P : Program) (o : Oper) (a : Act) (w : World) (K : Act → World → Prop) : Result Next → Prop
  | .ok (.value u) w' => Later w w' ∧ K (a.put o.dst u) w'
  | .ok .skip w' => Later w w' ∧ K (a.put o.dst undef) w'
  | .ok (.enter f args) w' => w' = w ∧ Calls P f args w (fun e w'' => ∃ u, e = .returned u ∧ Later w w'' ∧ K (a.put o.dst u) w'')
  | _ => False
def Oper.loud (P : Program) (o : Oper) (a : Act) (w : World) (K : Act → World → Prop) : Prop := Oper.loudUpon P o a w K ((execOp a.eval o).run P w)

def lOp (P : Program) (ops : Array Oper) (i : Nat) (K : Act → World → Prop) (a : Act) (w : World) : Prop :=
  match ops[i]? with
  | none => False
  | some o => if Region.wanted o (yielded ops a.tmps) then Oper.loud P o a w K else K (a.put o.dst undef) w

theorem Oper.loudUpon_mono {o : Oper} {a : Act} {w : World} {K K' : Act → World → Prop} (h : ∀ a w', Later w w' → K a w' → K' a w') : ∀ r, Oper.loudUpon P o a w K r → Oper.loudUpon P o a w K' r
  | .ok (.value u) w', hh => ⟨hh.1, h _ _ hh.1 hh.2⟩
  | .ok .skip w', hh => ⟨hh.1, h _ _ hh.1 hh.2⟩
  | .ok (.enter f args) w', hh => ⟨hh.1, hh.2.mono fun e w'' ⟨u, he, hl, hk⟩ => ⟨u, he, hl, h _ _ hl hk⟩⟩
  | .ok (.defer _) _, hh => hh.elim
  | .ok (.row _ _) _, hh => hh.elim
  | .halt _ _, hh => hh.elim

theorem lOp_mono {i : Nat} {a : Act} {w : World} {K K' : Act → World → Prop} (h : ∀ a w', Later w w' → K a w' → K' a w') (hh : lOp P ops i K a w) : lOp P ops i K' a w := by
  unfold lOp at *
  split
  · rename_i ho; simp [ho] at hh
  · rename_i o ho
    simp only [ho] at hh
    split
    · rename_i hw; simp only [hw, if_true] at hh; exact Oper.loudUpon_mono h _ hh
    · rename_i hw; simp only [hw] at hh; exact h _ _ (Later.refl _) hh

/-- whatever order is picked from here on, in whatever later world -/
def wpE (P : Program) (md : Region.Mode) (ops : Array Oper) (Q : Act → World → Prop) : Nat → Array Bool → Act → World → Prop
  | 0, listed, a, b => Region.ready md ops listed = [] ∧ ∀ w, Later b w → Q a w
  | n + 1, listed, a, b => ∀ w, Later b w → (Region.ready md ops listed = [] → Q a w) ∧ ∀ i ∈ Region.ready md ops listed, lOp P ops i (fun a' w' => wpE P md ops Q n (listed.setIfInBounds i true) a' w') a w

theorem wpE_base {Q : Act → World → Prop} {b c : World} (hl : Later b c) : ∀ (n : Nat) (listed : Array Bool) (a : Act), wpE P md ops Q n listed a b → wpE P md ops Q n listed a c
  | 0, _, _, h => ⟨h.1, fun w hw => h.2 w (hl.trans hw)⟩
  | _ + 1, _, _, h => fun w hw => h w (hl.trans hw)

theorem wpOp_of_lOp {Q' : Exit → Act → World → Prop} {i : Nat} {a : Act} {w : World} {K : Act → World → Prop} (h : lOp P ops i K a w) : wpOp P ops Q' i K a w := by
  unfold lOp at h
  unfold wpOp
  split
  · rename_i ho; simp [ho] at h
  · rename_i o ho
    simp only [ho] at h
    split
    · rename_i hw
      simp only [hw, if_true] at h
      refine .inl ?_
      unfold Oper.loud at h
      unfold Go.Oper.wp
      generalize (execOp a.eval o).run P w = r at *
      cases r with
      | ok n w' =>
        cases n <;> simp only [Oper.loudUpon] at h <;> simp only [Go.Oper.upon]
        case value u => exact h.2
        case skip => exact h.2
        case enter f args =>
          obtain ⟨rfl, hc⟩ := h
          exact hc.mono fun e w'' ⟨u, he, _, hk⟩ => by subst he; exact hk
      | halt x w' => simp only [Oper.loudUpon] at h
    · rename_i hw; simp only [hw] at h; exact h

theorem wpAny_of_wpE {Q : Act → World → Prop} {Q' : Exit → Act → World → Prop} (hQ : ∀ a w, Q a w → Q' .normal a w) : ∀ (n : Nat) (listed : Array Bool) (a : Act) (w : World), wpE P md ops Q n listed a w → wpAny P md ops Q' n listed a w
  | 0, _, _, w, h => ⟨h.1, hQ _ _ (h.2 w (Later.refl _))⟩
  | n + 1, _, _, w, h => ⟨fun h0 => hQ _ _ ((h w (Later.refl _)).1 h0), fun i hi => wpOp_mono (fun a' w' h' => wpAny_of_wpE hQ n _ a' w' h') (wpOp_of_lOp ((h w (Later.refl _)).2 i hi))⟩

/-- in state a, in every world later than b, o gives v -/
def Gives (P : Program) (ops : Array Oper) (b : World) (o : Oper) (v : Value) (a : Act) : Prop :=
  (Region.wanted o (yielded ops a.tmps) = true ∧ ∀ w, Later b w → Oper.mildUpon P w v ((execOp a.eval o).run P w)) ∨
  (Region.wanted o (yielded ops a.tmps) = false ∧ v = undef)

theorem Gives.later {b c : World} {o : Oper} {v : Value} {a : Act} (h : Gives P ops b o v a) (hl : Later b c) : Gives P ops c o v a := by
  rcases h with ⟨h1, h2⟩ | h
  · exact .inl ⟨h1, fun w hw => h2 w (hl.trans hw)⟩
  · exact .inr h

theorem Gives.of_same {b : World} {o : Oper} {v : Value} {a a' : Act} (hy : Gives P ops b o v a) (he : execOp a'.eval o = execOp a.eval o)
    (hw : Region.wanted o (yielded ops a'.tmps) = Region.wanted o (yielded ops a.tmps)) : Gives P ops b o v a' := by
  unfold Gives at *
  rw [he, hw]
  exact hy

theorem Gives.lOp {b w : World} {i : Nat} {o : Oper} {v : Value} {a : Act} (hi : ops[i]? = some o) (hy : Gives P ops b o v a) (hw : Later b w) {K : Act → World → Prop} (h : ∀ w', Later w w' → K (a.put o.dst v) w') : lOp P ops i K a w := by
  unfold Go.Proofs.Ytoflkbilkkfekaa.lOp
  simp only [hi]
  rcases hy with ⟨hwt, hv⟩ | ⟨hwt, rfl⟩
  · simp only [hwt, if_true]
    have hv := hv w hw
    unfold Oper.loud
    generalize (execOp a.eval o).run P w = r at *
    cases r with
    | ok n w' =>
      cases n <;> simp only [Oper.mildUpon] at hv <;> simp only [Oper.loudUpon]
      case value u => obtain ⟨rfl, rfl⟩ := hv; exact ⟨Later.refl _, h _ (Later.refl _)⟩
      case skip => obtain ⟨rfl, rfl⟩ := hv; exact ⟨Later.refl _, h _ (Later.refl _)⟩
      case enter f args => exact ⟨hv.1, hv.2.mono fun e w'' ⟨he, hl⟩ => ⟨v, he, hl, h _ hl⟩⟩
    | halt x w' => simp only [Oper.mildUpon] at hv
  · simp only [hwt, Bool.false_eq_true, if_false]; exact h _ (Later.refl _)

theorem lOp_put {b w : World} {j : Nat} {oi oj : Oper} {v : Value} (hj : ops[j]? = some oj) (hap : oi.apart ops oj = true)
    (hsi : ∀ cs d, oi.op ≠ .select cs d) (hsj : ∀ cs d, oj.op ≠ .select cs d) {K : Act → World → Prop} {a : Act}
    (hy : Gives P ops b oi v a) (h : lOp P ops j K (a.put oi.dst v) w) :
    lOp P ops j (fun a' w' => Gives P ops b oi v a' ∧ K (a'.put oi.dst v) w') a w := by
  obtain ⟨h1, h2, h3⟩ := Oper.apart_spec hap
  have keep : ∀ u, Gives P ops b oi v (a.put oj.dst u) := fun u => hy.of_same (execOp_put oi hsi a oj.dst u h3) (wanted_put oi a oj.dst u h3)
  unfold Go.Proofs.Ytoflkbilkkfekaa.lOp at *
  simp only [hj] at *
  rw [wanted_put oj a oi.dst v h1] at h
  split
  · rename_i hw
    simp only [hw, if_true] at h
    unfold Oper.loud at *
    rw [execOp_put oj hsj a oi.dst v h1] at h
    generalize (execOp a.eval oj).run P w = r at *
    cases r with
    | ok n w' =>
      cases n <;> simp only [Oper.loudUpon] at h ⊢
      case value u => exact ⟨h.1, keep u, by rw [← Act.put_comm a v u h2]; exact h.2⟩
      case skip => exact ⟨h.1, keep _, by rw [← Act.put_comm a v undef h2]; exact h.2⟩
      case enter f args => exact ⟨h.1, h.2.mono fun e w'' ⟨u, he, hl, hk⟩ => ⟨u, he, hl, keep u, by rw [← Act.put_comm a v u h2]; exact hk⟩⟩
    | halt x w' => simp only [Oper.loudUpon] at h
  · rename_i hw
    simp only [hw] at h
    exact ⟨keep _, by rw [← Act.put_comm a v undef h2]; exact h⟩

theorem wpE_first {Q : Act → World → Prop} {i : Nat} {oi : Oper} {v : Value} (hi : ops[i]? = some oi) (hsel : ∀ (j : Nat) (o : Oper) cs d, ops[j]? = some o → o.op ≠ .select cs d) :
    ∀ (n : Nat) (listed : Array Bool) (a : Act) (b : World),
      (∀ j oj, ops[j]? = some oj → j ≠ i → listed.getD j true = false → (∀ e ∈ oj.after, Region.binds md e = true → e.on ≠ i) → oi.apart ops oj = true) →
      i ∈ Region.ready md ops listed → Gives P ops b oi v a →
      wpE P md ops Q n (listed.setIfInBounds i true) (a.put oi.dst v) b → wpE P md ops Q (n + 1) listed a b := by
  intro n
  induction n with
  | zero =>
    intro listed a b _ hr hy H w hw
    refine ⟨fun h => (by rw [h] at hr; cases hr), fun j hj => ?_⟩
    by_cases hji : j = i
    · subst hji; exact hy.lOp hi hw fun w' hw' => wpE_base (hw.trans hw') 0 _ _ H
    · have := ready_mono hj hji
      rw [H.1] at this
      cases this
  | succ n ih =>
    intro listed a b hfree hr hy H w hw
    refine ⟨fun h => (by rw [h] at hr; cases hr), fun j hj => ?_⟩
    by_cases hji : j = i
    · subst hji; exact hy.lOp hi hw fun w' hw' => wpE_base (hw.trans hw') (n + 1) _ _ H
    · have h1 := (H w hw).2 j (ready_mono hj hji)
      obtain ⟨hjun, oj, hoj, hall⟩ := mem_ready.1 hj
      have hnot : ∀ e ∈ oj.after, Region.binds md e = true → e.on ≠ i := fun e he hb heq => by
        have h1 := hall e he hb
        have h0 := (mem_ready.1 hr).1
        rw [heq] at h1
        rcases Nat.lt_or_ge i listed.size with h' | h'
        · simp [h'] at h0 h1; rw [h0] at h1; cases h1
        · simp [Array.getElem?_eq_none h'] at h1
      have h2 := lOp_put hoj (hfree j oj hoj hji hjun hnot) (fun cs d => hsel i oi cs d hi) (fun cs d => hsel j oj cs d hoj) hy h1
      have hfree' : ∀ k ok, ops[k]? = some ok → k ≠ i → (listed.setIfInBounds j true).getD k true = false →
          (∀ e ∈ ok.after, Region.binds md e = true → e.on ≠ i) → oi.apart ops ok = true := fun k ok hk hki hun hno => by
        refine hfree k ok hk hki ?_ hno
        by_cases hjk : j = k
        · subst hjk; exact hjun
        · rw [getD_set_ne true hjk] at hun; exact hun
      refine lOp_mono (fun a' w' hl h3 => ih (listed.setIfInBounds j true) a' w' hfree' (ready_mono hr (Ne.symm hji)) (h3.1.later (hw.trans hl)) ?_) h2
      rw [Array.setIfInBounds_comm _ _ hji]
      exact h3.2

/-- the walk along one order: false: mild; true: loud -/
def wpS (P : Program) (ops : Array Oper) (Q : Act → World → Prop) : List (Nat × Bool) → Act → World → Prop
  | [], a, b => ∀ w, Later b w → Q a w
  | (i, false) :: σ, a, b => ∃ o, ops[i]? = some o ∧ if Region.wanted o (yielded ops a.tmps) then Oper.mild P o a b (fun a' => wpS P ops Q σ a' b) else wpS P ops Q σ (a.put o.dst undef) b
  | (i, true) :: σ, a, b => ∀ w, Later b w → lOp P ops i (fun a' w' => wpS P ops Q σ a' w') a w

/-- may the order be walked so? -/
def schedB (md : Region.Mode) (ops : Array Oper) : List (Nat × Bool) → Array Bool → Bool
  | [], listed => (Region.ready md ops listed).isEmpty
  | (i, false) :: σ, listed => (Region.ready md ops listed).contains i && Region.free md ops listed i && schedB md ops σ (listed.setIfInBounds i true)
  | (i, true) :: σ, listed => (Region.ready md ops listed == [i]) && schedB md ops σ (listed.setIfInBounds i true)

theorem wpE_of_wpS {Q : Act → World → Prop} (hs : Region.noSelect ops = true) : ∀ (σ : List (Nat × Bool)) (listed : Array Bool) (a : Act) (b : World), schedB md ops σ listed = true → wpS P ops Q σ a b → wpE P md ops Q σ.length listed a b
  | [], listed, a, b, hB, h => ⟨by simpa [schedB] using hB, h⟩
  | (i, false) :: σ, listed, a, b, hB, h => by
    simp only [schedB, Bool.and_eq_true] at hB
    obtain ⟨o, ho, h⟩ := h
    by_cases hw : Region.wanted o (yielded ops a.tmps) = true
    · simp only [hw, if_true] at h
      obtain ⟨v, hv, hk⟩ := h
      exact wpE_first ho (Region.noSelect_spec hs) σ.length listed a b (Region.free_spec ho hB.1.2) (by simpa using hB.1.1) (.inl ⟨hw, hv⟩) (wpE_of_wpS hs σ _ _ _ hB.2 hk)
    · simp only [hw] at h
      exact wpE_first ho (Region.noSelect_spec hs) σ.length listed a b (Region.free_spec ho hB.1.2) (by simpa using hB.1.1) (.inr ⟨by simpa using hw, rfl⟩) (wpE_of_wpS hs σ _ _ _ hB.2 h)
  | (i, true) :: σ, listed, a, b, hB, h => by
    simp only [schedB, Bool.and_eq_true, beq_iff_eq] at hB
    intro w hw
    refine ⟨fun h0 => (by rw [hB.1] at h0; cases h0), fun j hj => ?_⟩
    rw [hB.1] at hj
    simp at hj
    subst hj
    exact lOp_mono (fun a' w' _ h' => wpE_of_wpS hs σ _ a' w' hB.2 h') (h w hw)

/-- ONE WALK SERVES EVERY ORDER. -/
theorem wp_region_sched {id : Nat} {Q : Exit → Act → World → Prop} {a : Act} {w : World} {l : List Oper} (σ : List (Nat × Bool)) (hm : P.follows .mixedOrders = true) (hs : Region.noSelect l.toArray = true) (hn : (σ.length == l.length) = true)
    (hB : schedB .any l.toArray σ (Array.replicate l.length false) = true)
    (h : wpS P l.toArray (fun a' w' => Q .normal a' w') σ a w.drew) : (Code.region id l.toArray true).wp P Q a w := by
  refine wp_region_any hm ?_
  have h1 := wpE_of_wpS (md := .any) hs σ _ a _ hB h
  have h2 := wpAny_of_wpE (Q' := Q) (fun _ _ h => h) _ _ _ _ h1
  have e : l.toArray.size = σ.length := by simp at hn; simp [hn]
  rw [e]
  have e2 : l.length = σ.length := by simp at hn; exact hn.symm
  rw [e2] at h2
  exact h2

/-- a world later than b -/
def rg (b : World) (p : Regrown) : World := Sort.grow (redrawn b p.d) p.os
theorem later_rg (b : World) (p : Regrown) : Later b (rg b p) := below_regrown b p.d p.os
theorem rg_of_later {b w : World} (h : Later b w) : ∃ p : Regrown, w = rg b p := regrown_of_below h

/-- one value in every later world -/
def Oper.mildG (P : Program) (o : Oper) (a : Act) (b : World) (next : Act → Prop) : Prop :=
  ∃ v, (∀ p : Regrown, Oper.mildUpon P (rg b p) v ((execOp a.eval o).run P (rg b p))) ∧ next (a.put o.dst v)
theorem Oper.mild_of_mildG {o : Oper} {a : Act} {b : World} {K : Act → Prop} (h : Oper.mildG P o a b K) : Oper.mild P o a b K := by
  obtain ⟨v, h1, h2⟩ := h
  exact ⟨v, fun w hw => by obtain ⟨p, rfl⟩ := rg_of_later hw; exact h1 p, h2⟩

theorem wpS_mild {Q : Act → World → Prop} {i : Nat} {o : Oper} {σ : List (Nat × Bool)} {a : Act} {b : World} (ho : ops[i]? = some o)
    (h : ∀ K : Act → Prop, (∀ a', wpS P ops Q σ a' b → K a') → if Region.wanted o (yielded ops a.tmps) then Oper.mildG P o a b K else K (a.put o.dst undef)) : wpS P ops Q ((i, false) :: σ) a b := by
  refine ⟨o, ho, ?_⟩
  have := h _ (fun _ h => h)
  split
  · rename_i hw; rw [if_pos hw] at this; exact Oper.mild_of_mildG this
  · rename_i hw; rw [if_neg hw] at this; exact this
theorem wpS_loud {Q : Act → World → Prop} {i : Nat} {o : Oper} {σ : List (Nat × Bool)} {a : Act} {b : World} (ho : ops[i]? = some o)
    (h : ∀ K : Act → World → Prop, (∀ a' w', wpS P ops Q σ a' w' → K a' w') → ∀ w, Later b w → if Region.wanted o (yielded ops a.tmps) then Oper.loud P o a w K else K (a.put o.dst undef) w) : wpS P ops Q ((i, true) :: σ) a b := by
  intro w hw
  unfold lOp
  simp only [ho]
  exact h _ (fun _ _ h => h) w hw
theorem wpS_nil {Q : Act → World → Prop} {a : Act} {b : World} (h : ∀ w, Later b w → Q a w) : wpS P ops Q [] a b := h
end
attribute [go_sem] Oper.mildG Oper.mildUpon Oper.loud Oper.loudUpon
end Go.Proofs.Ytoflkbilkkfekaa

namespace Go.Proofs.Ytoflkbilkkfekaa
open Go.ChangeShapes Go.WideShapes Go.ChangeAt Go.RowKit
set_option linter.unusedVariables false
set_option linter.unusedSimpArgs false

theorem RArr.two {k : IntKind} {v : Value} (h : RArr k 2 v) : ∃ f n : Int, v = .agg #[.int k f, .int k n] ∧ (Lit.int k f).wf = true ∧ (Lit.int k n).wf = true := by
  obtain ⟨zs, hl, rfl, hw⟩ := h
  match zs, hl with
  | [f, n], _ => exact ⟨f, n, rfl, hw f (by simp), hw n (by simp)⟩
theorem RInt.u64 {v : Value} (h : RInt .u64 v) : ∃ x : Nat, v = .int .u64 (x : Int) ∧ x ≤ 18446744073709551615 := by
  obtain ⟨a, rfl, w⟩ := h
  have hx := bounds_u64 w
  obtain ⟨x, rfl⟩ := Int.eq_ofNat_of_zero_le hx.1
  exact ⟨x, rfl, by omega⟩
theorem cell_rg {w b : World} {a : Addr} {v : Value} (h : w.cell? a = some v) (hb : Later w b) : ∀ p : Regrown, (rg b p).cell? a = some v := fun p => by
  have : a.block < w.heap.size := World.block_lt_of_cell? w a h
  rw [Below.cell (Later.trans hb (later_rg b p)) this]; exact h
theorem cell_later {w b : World} {a : Addr} {v : Value} (h : w.cell? a = some v) (hb : Later w b) : b.cell? a = some v := by
  have : a.block < w.heap.size := World.block_lt_of_cell? w a h
  rw [Below.cell hb this]; exact h

end Go.Proofs.Ytoflkbilkkfekaa
