import Derived.WalkKit
import Derived.Test.YtbcikndebaeahaaRows
import Derived.ProofKit
import Derived.OpenShut
import Derived.ShutString
import Derived.ChangeOld
import Derived.Below
import Derived.WalkLawsBesides
import Derived.WalkSpells
import Derived.Deep.QuietTactic
import Derived.BigQuiet
import Derived.Laws.IdiomStrings
import Derived.Laws.BytesArg
import Derived.Laws.CopyOwn
import Derived.Deep.AppendSrc
import Derived.Carry
import Derived.Lib.QuietBelow
namespace Go.Proofs.Ytbcikndebaeahaa
/-! Plain numbers: bytes, bits. -/
theorem hide {p : Prop} (h : p) : RowKit.Hid p := h
theorem ret_bool {a b : Bool} (h : a = b) : Ending.returned (.bool a) = .returned (.bool b) := by rw [h]
def holdsB (c a n : Int) : Bool := decide (1 ≤ n ∧ n ≤ 8 ∧ 0 ≤ a ∧ a ≤ c - n)
def bigOf (l : List UInt8) : Nat := l.foldl (fun x b => x * 256 + b.toNat) 0
def littleOf (l : List UInt8) : Nat := l.foldr (fun b x => x * 256 + b.toNat) 0
theorem bigOf_snoc (l : List UInt8) (b : UInt8) : bigOf (l ++ [b]) = bigOf l * 256 + b.toNat := by simp [bigOf]
theorem littleOf_cons (l : List UInt8) (b : UInt8) : littleOf (b :: l) = littleOf l * 256 + b.toNat := by simp [littleOf]
theorem littleOf_rev (l : List UInt8) : littleOf l.reverse = bigOf l := by simp [bigOf, littleOf]
theorem littleOf_lt (l : List UInt8) : littleOf l < 256 ^ l.length := by
  induction l with
  | nil => simp [littleOf]
  | cons b l ih =>
    rw [littleOf_cons, List.length_cons, Nat.pow_succ]
    have := b.toNat_lt
    omega
theorem bigOf_lt (l : List UInt8) : bigOf l < 256 ^ l.length := by
  have := littleOf_lt l.reverse
  rwa [littleOf_rev, List.length_reverse] at this
/-- so many bytes of some, from one on -/
def seg (l : List UInt8) (at_ n : Nat) : List UInt8 := (l.drop at_).take n
theorem seg_length (l : List UInt8) (a n : Nat) (h : a + n ≤ l.length) : (seg l a n).length = n := by simp [seg]; omega
theorem seg_snoc (l : List UInt8) (a k : Nat) (h : a + k < l.length) : seg l a (k + 1) = seg l a k ++ [l[a + k]] := by
  unfold seg
  rw [List.take_succ_eq_append_getElem (by simp; omega)]
  simp
theorem seg_cons (l : List UInt8) (a k : Nat) (h : a < l.length) : seg l a (k + 1) = l[a] :: seg l (a + 1) k := by
  unfold seg
  rw [List.drop_eq_getElem_cons h, List.take_succ_cons]
theorem seg_zero (l : List UInt8) (a : Nat) : seg l a 0 = [] := by simp [seg]
theorem pow256 {k : Nat} (h : k ≤ 8) : 256 ^ k ≤ 18446744073709551616 := by
  have : 256 ^ k ≤ 256 ^ 8 := Nat.pow_le_pow_right (by omega) h
  simpa using this
theorem or_low (z b : Nat) (hz : z * 256 + 255 < 18446744073709551616) (hb : b < 256) :
    bits .or .u64 (IntKind.u64.wrap ((z : Int) * 256)) (b : Int) = ((z * 256 + b : Nat) : Int) := by
  have hz2 : z * 256 < 18446744073709551616 := Nat.lt_of_le_of_lt (Nat.le_add_right _ _) hz
  have hb2 : b < 18446744073709551616 := by omega
  have e1 : IntKind.u64.wrap ((z : Int) * 256) = ((z * 256 : Nat) : Int) := by rw [IntKind.wrap_u64]; omega
  rw [e1, u64_or_nat (z * 256) b hz2 hb2]
  have := Nat.shiftLeft_add_eq_or_of_lt (i := 8) (b := b) (by omega) z
  rw [Nat.shiftLeft_eq] at this
  exact congrArg _ this.symm
end Go.Proofs.Ytbcikndebaeahaa

namespace Go.Proofs.Ytbcikndebaeahaa
/-! All that the texts behind this one stand on. -/
end Go.Proofs.Ytbcikndebaeahaa

namespace Go.Proofs.Ytbcikndebaeahaa
open Go.ChangeShapes Go.WideShapes Go.ChangeAt Go.RowKit
set_option linter.unusedVariables false
set_option maxRecDepth 4000
set_option linter.unusedSimpArgs false
/-! Bytes in memory. -/
def bv (l : List UInt8) : List Value := l.map fun b => Value.int .u8 (b.toNat : Int)
theorem bv_length (l : List UInt8) : (bv l).length = l.length := by simp [bv]
theorem bv_append (l m : List UInt8) : bv (l ++ m) = bv l ++ bv m := by simp [bv]
theorem bv_get (l : List UInt8) (j : Nat) : (bv l)[j]? = (l[j]?).map fun b => Value.int .u8 (b.toNat : Int) := by simp [bv]
theorem bv_get_lt (l : List UInt8) (j : Nat) (h : j < l.length) : (bv l)[j]? = some (.int .u8 (l[j].toNat : Int)) := by simp [bv, h]
theorem bv_one (l : List UInt8) : ∀ u ∈ bv l, u.oneCell' = true := by
  intro u hu
  obtain ⟨b, _, rfl⟩ := List.mem_map.1 hu
  rfl
theorem bv_set (l : List UInt8) (j : Nat) (b : UInt8) : bv (l.set j b) = (bv l).set j (.int .u8 (b.toNat : Int)) := by simp [bv]
theorem bv_replicate (n : Nat) : bv (List.replicate n 0) = List.replicate n (.int .u8 0) := by simp [bv]
/-- the slice v reads as the bytes l -/
def Bs (w : World) (v : Value) (l : List UInt8) : Prop :=
  l.length ≤ maxLen ∧ ∃ a cap, v = .slice a l.length cap ∧ l.length ≤ cap ∧ (l = [] ∨ ∃ b off, a = some ⟨b, off, none⟩ ∧ ∀ j (hj : j < l.length), w.cell? ⟨b, off + j, none⟩ = some (.int .u8 (l[j].toNat : Int)))
theorem Bs.nil (w : World) : Bs w (.slice none 0 0) [] := ⟨by simp, none, 0, rfl, Nat.le_refl _, .inl rfl⟩
theorem Bs.of_owns {w : World} {base : Nat} {e : TypeId} {v : Value} {n : Nat} {l : List UInt8} (h : w.ownsRow base e 1 v n (bv l)) : Bs w v l ∧ n = l.length := by
  have hn : n = l.length := by have := h.1; rw [bv_length] at this; omega
  subst hn
  refine ⟨?_, rfl⟩
  rcases h.2 with ⟨rfl, h0⟩ | ⟨g, cap, cur, rfl, hb, hg, hc, hm, hs, ht⟩
  · have : l = [] := List.eq_nil_of_length_eq_zero h0
    subst this
    exact Bs.nil w
  · refine ⟨Nat.le_trans hc hm, some ⟨g, 0, none⟩, cap, rfl, hc, .inr ⟨g, 0, rfl, fun j hj => ?_⟩⟩
    have := h.cellAt j (by omega)
    rw [Nat.zero_add, this, bv_get_lt l j hj]
theorem Bs.cellsOf {w : World} {v : Value} {l : List UInt8} (h : Bs w v l) {w' : World} (hc : ∀ a u, w.cell? a = some u → w'.cell? a = some u) : Bs w' v l := by
  obtain ⟨hm, a, cap, rfl, hcap, h⟩ := h
  refine ⟨hm, a, cap, rfl, hcap, ?_⟩
  rcases h with h | ⟨b, off, ha, h⟩
  · exact .inl h
  · exact .inr ⟨b, off, ha, fun j hj => hc _ _ (h j hj)⟩
theorem Bs.below {w w' : World} {B : Nat} {v : Value} {l : List UInt8} (h : Bs w v l) (hb : Below B w w') (hB : w.heap.size ≤ B) : Bs w' v l :=
  h.cellsOf fun a u hu => by
    have : a.block < w.heap.size := World.block_lt_of_cell? w a hu
    rw [hb.cell (by omega)]; exact hu
theorem Bs.str {w : World} {v : Value} {l : List UInt8} (h : Bs w v l) : (convert 36 9 v).run Try.prog w = .ok (.string ⟨l.toArray⟩) w := by
  obtain ⟨hm, a, cap, rfl, hcap, h⟩ := h
  rcases h with rfl | ⟨b, off, rfl, h⟩
  · cases a with
    | none => exact run_convert_bytes_nil w 36 5 Try.underlying36 Try.underlying5 0 cap _ Try.underlying9
    | some a => exact run_convert_bytes_back w 36 9 5 a cap [] Try.underlying36 Try.underlying5 Try.underlying9 (fun j hj => by simp at hj)
  · exact run_convert_bytes_back w 36 9 5 ⟨b, off, none⟩ cap l Try.underlying36 Try.underlying5 Try.underlying9 (fun j hj => by
      have : (⟨b, off, none⟩ : Addr).add j = ⟨b, off + j, none⟩ := by unfold Addr.add; split <;> simp_all
      rw [this]; exact h j hj)
theorem Try.info_u8 : (Try.prog.info? 5).map (fun i => (i.zero, i.size, i.bytes)) = some (some (.int .u8 0), 1, 1) := by kernel_rfl
theorem Below.grown0 {w w' : World} (hg : w.grownBy w' none) : Below w.heap.size w w' := (Below.refl _ _).grown hg (Nat.le_refl _) (fun k e => by cases e)
theorem Bs.one (w : World) (b : UInt8) (t : TypeId) : Bs (w.alloc (.cells #[.int .u8 (b.toNat : Int)] t)) (.slice (some ⟨w.heap.size, 0, none⟩) 1 1) [b] := by
  refine ⟨by simp [maxLen], _, 1, rfl, Nat.le_refl _, .inr ⟨w.heap.size, 0, rfl, fun j hj => ?_⟩⟩
  have : j = 0 := by simp at hj; omega
  subst this
  exact cell_of_row (w.alloc (.cells #[.int .u8 (b.toNat : Int)] t)) w.heap.size 0 _ t (0, 0) (heap_alloc_new w _)
/-- 'append(a, b...)': a our own, b whatever bytes. -/
theorem wpList_append_bs {w : World} {ops : Array Oper} {rest : List Oper} {o : Oper} {a : Act} {Q : Exit → Act → World → Prop} (hgd : o.guard = none) (s x : Operand)
    (ho : o.op = .call { callee := .builtin .append, args := #[s, x], argTypes := #[36, 36] }) (B : Nat)
    (v : Value) (n : Nat) (l : List UInt8) (hs : a.eval s = v) (hown : w.ownsRow B 5 1 v n (bv l)) (u : Value) (m : List UInt8) (hx : a.eval x = u) (hu : Bs w u m)
    (hbytes : n + m.length ≤ 140737488355328) (hbase : B ≤ w.heap.size) (w0 : World) (hb : Below B w0 w)
    (h : ∀ v' w', w'.ownsRow B 5 1 v' (n + m.length) (bv (l ++ m)) → Below B w0 w' → w.grownBy w' v.ownBlock → wpList Try.prog ops Q rest (a.put o.dst v') w') : wpList Try.prog ops Q (o :: rest) a w := by
  obtain ⟨i0, hi, hz0, hz1, hz2⟩ := info_parts Try.info_u8
  have hB : ∀ k, v.ownBlock = some k → B ≤ k := fun k hk => (hown.lt k hk).1
  obtain ⟨hm, ad, cap, rfl, hcap, hu⟩ := hu
  cases ad with
  | none =>
    have hm0 : m = [] := by
      rcases hu with h | ⟨_, _, h, _⟩
      · exact h
      · cases h
    subst hm0
    refine wpList_plain hgd fun K hK => ?_
    have hrun : (Builtin.append_ #[36, 36] o.type #[v, .slice none 0 cap]).run Try.prog w = .ok v w := by
      rcases hown.2 with ⟨rfl, h0⟩ | ⟨g, c, cur, rfl, hbg, hg, hc, hmm, hsz, ht⟩
      · simp [Builtin.append_, run_underlying Try.underlying36, sizeOf, typeInfo, hi, Builtin.lenOf, Builtin.firstCells]
      · simp [Builtin.append_, run_underlying Try.underlying36, sizeOf, typeInfo, hi, Builtin.lenOf, Builtin.firstCells, hc, storeCells]
    unfold Oper.wp
    simp [execOp, ho, resolve, invoke, builtin, hs, hx, hrun, Result.andThen]
    exact hK _ _ (h v w (by simpa using hown) hb (World.grownBy.refl _ _))
  | some ad =>
    refine wpList_append_own w hgd s x 36 ho B 5 i0 (.int .u8 0) 1 1 Try.underlying36 hi hz0 hz1 hz2 rfl (by decide) v n (bv l) hs hown ad m.length cap (bv m) hx (by rw [bv_length]; omega) ?_ (bv_one m) (by unfold maxLen; omega) (by omega) hbase ?_
    · intro j z hz
      rcases hu with rfl | ⟨b, off, e, hc⟩
      · simp [bv] at hz
      · cases e
        have hj : j < m.length := by
          have := (List.getElem?_eq_some_iff.1 hz).1
          rwa [bv_length] at this
        have he : (⟨b, off, none⟩ : Addr).add j = ⟨b, off + j, none⟩ := by unfold Addr.add; split <;> simp_all
        rw [he, hc j hj, ← hz, bv_get_lt m j hj]
    · intro v' w' ho' hg' _
      exact h v' w' (by rw [bv_append]; exact ho') (hb.grown hg' hbase hB) hg'
end Go.Proofs.Ytbcikndebaeahaa

namespace Go.Proofs.Ytbcikndebaeahaa
open Go.ChangeShapes Go.WideShapes Go.ChangeAt Go.RowKit
open Go.ChangeMaps (open_string shut_string)
set_option linter.unusedVariables false
set_option maxRecDepth 4000
set_option linter.unusedSimpArgs false
/-! What the arguments are that come in. -/
def RBytes (w : World) (v : Value) : Prop := ∃ l : List UInt8, Bs w v l
section
variable {H : Type} {enc : TypeId × Value → H} {P : Program} {w : World} {r : Reach} {base : Nat} {t : TypeId} {v : Value} {d : DataW H} {p : List MemPlace}
end
end Go.Proofs.Ytbcikndebaeahaa

namespace Go.Proofs.Ytbcikndebaeahaa
open Go.ChangeShapes Go.WideShapes Go.ChangeAt Go.RowKit
set_option linter.unusedVariables false
set_option maxRecDepth 4000
set_option linter.unusedSimpArgs false
theorem holds_yes (c a n : Int) (w : World) (h1 : 1 ≤ n) (h2 : n ≤ 8) (h3 : 0 ≤ a) (h4 : a ≤ c - n) (h5 : c ≤ 9223372036854775807) :
    Calls Try.prog 92 #[.int .i64 c, .int .i64 a, .int .i64 n] w fun e w' => e = .returned (.bool true) ∧ w' = w := by
  go_enter Try.func92, Try.ntmps92
  go_wp2
  go_ret
  exact ⟨rfl, rfl⟩
theorem holds_no (c a n : Int) (w : World) (hc0 : 0 ≤ c) (h5 : c ≤ 9223372036854775807) (hh : ¬ (1 ≤ n ∧ n ≤ 8 ∧ 0 ≤ a ∧ a ≤ c - n)) :
    Calls Try.prog 92 #[.int .i64 c, .int .i64 a, .int .i64 n] w fun e w' => e = .returned (.bool false) ∧ w' = w := by
  by_cases h1 : 1 ≤ n
  · by_cases h2 : n ≤ 8
    · by_cases h3 : 0 ≤ a
      · have h4 : decide (a ≤ c - n) = false := by simp; omega
        clear hh
        go_enter Try.func92, Try.ntmps92
        go_wp2
        go_ret
        exact ⟨rfl, rfl⟩
      · clear hh
        go_enter Try.func92, Try.ntmps92
        go_wp2
        go_ret
        exact ⟨rfl, rfl⟩
    · clear hh
      go_enter Try.func92, Try.ntmps92
      go_wp2
      go_ret
      exact ⟨rfl, rfl⟩
  · clear hh
    go_enter Try.func92, Try.ntmps92
    go_wp2
    go_ret
    exact ⟨rfl, rfl⟩
end Go.Proofs.Ytbcikndebaeahaa

namespace Go.Proofs.Ytbcikndebaeahaa
open Go.ChangeShapes Go.WideShapes Go.ChangeAt Go.RowKit
set_option linter.unusedVariables false
set_option maxRecDepth 4000
set_option linter.unusedSimpArgs false
theorem ret_pair {a b : Int} {c d : Bool} (h : a = b) (k : c = d) : Ending.returned (.tuple #[.int .u64 a, .bool c]) = .returned (.tuple #[.int .u64 b, .bool d]) := by rw [h, k]
theorem big_no (ad : Option Addr) (len cap : Nat) (a n : Int) (w : World) (hm : len ≤ maxLen) (hh : ¬ (1 ≤ n ∧ n ≤ 8 ∧ 0 ≤ a ∧ a ≤ len - n)) :
    Calls Try.prog 84 #[.slice ad len cap, .int .i64 a, .int .i64 n] w fun e w' => e = .returned (.tuple #[.int .u64 0, .bool false]) ∧ w' = w := by
  unfold maxLen at hm
  go_enter Try.func84, Try.ntmps84
  go_wp2_with (go_at_call 92; refine (holds_no _ _ _ _ (by omega) (by omega) hh).mono ?_; rintro e w' ⟨rfl, rfl⟩)
  go_ret2
  exact ⟨rfl, rfl⟩
theorem seg_big_step (l : List UInt8) (a k : Nat) (h : a + k < l.length) (hk : k < 8) : bigOf (seg l a (k + 1)) = bigOf (seg l a k) * 256 + l[a + k].toNat ∧ bigOf (seg l a k) * 256 + 255 < 18446744073709551616 := by
  refine ⟨by rw [seg_snoc l a k h, bigOf_snoc], ?_⟩
  have h1 := bigOf_lt (seg l a k)
  rw [seg_length l a k (by omega)] at h1
  have h2 := pow256 (k := k + 1) (by omega)
  rw [Nat.pow_succ] at h2
  omega
theorem big_yes (bk off len cap : Nat) (l : List UInt8) (a n : Nat) (w : World) (hn : 1 ≤ n) (hn8 : n ≤ 8) (hl : l.length = len) (hm : len ≤ maxLen) (ha : a + n ≤ len)
   (hc : ∀ i (h : i < l.length), w.cell? ⟨bk, off + i, none⟩ = some (.int .u8 (l[i].toNat : Int))) :
    Calls Try.prog 84 #[.slice (some ⟨bk, off, none⟩) len cap, .int .i64 a, .int .i64 n] w fun e w' => e = .returned (.tuple #[.int .u64 (bigOf (seg l a n)), .bool true]) ∧ w' = w := by
  unfold maxLen at hm
  go_enter Try.func84, Try.ntmps84
  go_wp2_with (go_at_call 92; refine (holds_yes _ _ _ _ (by omega) (by omega) (by omega) (by omega) (by omega)).mono ?_; rintro e w' ⟨rfl, rfl⟩)
  go_loop [8, 17] (fun x i => ∃ k : Nat, k ≤ n ∧ i = .int .i64 k ∧ ∃ z : Nat, Hid (z = bigOf (seg l a k)) ∧ z ≤ 18446744073709551615 ∧ x = .int .u64 z) (fun _ i => n - (intOf i).toNat)
  case atStart => exact ⟨0, Nat.zero_le _, rfl, 0, by simp [Hid, seg_zero, bigOf], by omega, rfl⟩
  case round =>
    obtain ⟨k, hk, rfl, z, hz, hz64, rfl⟩ := hrel
    by_cases hlt : k < n
    · have hcx := hc (a + k) (by omega)
      have hs := hide (seg_big_step l a k (by omega) (by omega))
      have hbb := l[a + k].toNat_lt
      generalize l[a + k].toNat = b at hcx hbb hs
      clear hc
      go_wp2
      go_round
      case rel =>
        obtain ⟨s1, s2⟩ := hs.out
        rw [← hz.out] at s1 s2
        refine ⟨k + 1, by omega, by go_num, z * 256 + b, s1.symm, by omega, ?_⟩
        rw [← or_low z b s2 (by omega)]
      case measure => simp [intOf]; omega
    · have hkn : Hid (k = n) := by unfold Hid; omega
      go_wp2
      go_ret2
      exact ⟨ret_pair (by rw [hz.out, hkn.out]) rfl, rfl⟩
end Go.Proofs.Ytbcikndebaeahaa

namespace Go.Proofs.Ytbcikndebaeahaa
open Go.ChangeShapes Go.WideShapes Go.ChangeAt Go.RowKit
set_option linter.unusedVariables false
set_option maxRecDepth 4000
set_option linter.unusedSimpArgs false
theorem made_zero (n : Nat) : (madeCells #[Value.int .u8 0] n).toList = bv (List.replicate n 0) := by
  rw [bv_replicate]; exact toList_madeCells_one _ _
end Go.Proofs.Ytbcikndebaeahaa

namespace Go.Proofs.Ytbcikndebaeahaa
open Go.ChangeShapes Go.WideShapes Go.ChangeAt Go.RowKit
set_option linter.unusedVariables false
set_option maxRecDepth 4000
set_option linter.unusedSimpArgs false
end Go.Proofs.Ytbcikndebaeahaa

namespace Go.Proofs.Ytbcikndebaeahaa
open Go.ChangeShapes Go.WideShapes Go.ChangeAt Go.RowKit
set_option linter.unusedVariables false
set_option maxRecDepth 4000
set_option linter.unusedSimpArgs false
/-! The calls' answers, for all arguments. -/
def bigAt (l : List UInt8) (a n : Int) : Nat := if holdsB l.length a n then bigOf (seg l a.toNat n.toNat) else 0
theorem reads_c {k : Nat} {val : List UInt8 → Nat} (hno : ∀ (ad : Option Addr) (len cap : Nat) (a n : Int) (w : World) (hm : len ≤ maxLen) (hh : ¬ (1 ≤ n ∧ n ≤ 8 ∧ 0 ≤ a ∧ a ≤ len - n)), Calls Try.prog k #[.slice ad len cap, .int .i64 a, .int .i64 n] w fun e w' => e = .returned (.tuple #[.int .u64 0, .bool false]) ∧ w' = w)
    (hyes : ∀ (bk off len cap : Nat) (l : List UInt8) (a n : Nat) (w : World) (hn : 1 ≤ n) (hn8 : n ≤ 8) (hl : l.length = len) (hm : len ≤ maxLen) (ha : a + n ≤ len) (hc : ∀ i (h : i < l.length), w.cell? ⟨bk, off + i, none⟩ = some (.int .u8 (l[i].toNat : Int))),
      Calls Try.prog k #[.slice (some ⟨bk, off, none⟩) len cap, .int .i64 a, .int .i64 n] w fun e w' => e = .returned (.tuple #[.int .u64 (val (seg l a n)), .bool true]) ∧ w' = w)
    {v : Value} {l : List UInt8} (a n : Int) (w : World) (h : Bs w v l) :
    Calls Try.prog k #[v, .int .i64 a, .int .i64 n] w fun e w' => e = .returned (.tuple #[.int .u64 ((if holdsB l.length a n then val (seg l a.toNat n.toNat) else 0 : Nat) : Int), .bool (holdsB l.length a n)]) ∧ w' = w := by
  obtain ⟨hm, ad, cap, rfl, hcap, h⟩ := h
  by_cases hh : 1 ≤ n ∧ n ≤ 8 ∧ 0 ≤ a ∧ a ≤ (l.length : Int) - n
  · have hb : holdsB l.length a n = true := by simp [holdsB, hh]
    obtain ⟨a', rfl⟩ := Int.eq_ofNat_of_zero_le hh.2.2.1
    obtain ⟨n', rfl⟩ := Int.eq_ofNat_of_zero_le (show 0 ≤ n by omega)
    rcases h with rfl | ⟨b, off, rfl, hc⟩
    · simp at hh; omega
    · refine (hyes b off l.length cap l a' n' w (by omega) (by omega) rfl hm (by omega) hc).mono fun e w' he => ?_
      rw [hb]
      simpa using he
  · have hb : holdsB l.length a n = false := by simp only [holdsB]; exact decide_eq_false hh
    refine (hno ad l.length cap a n w hm hh).mono fun e w' he => ?_
    rw [hb]
    simpa using he
theorem big_c {v : Value} {l : List UInt8} (a n : Int) (w : World) (h : Bs w v l) :
    Calls Try.prog 84 #[v, .int .i64 a, .int .i64 n] w fun e w' => e = .returned (.tuple #[.int .u64 (bigAt l a n : Int), .bool (holdsB l.length a n)]) ∧ w' = w := reads_c big_no big_yes a n w h
end Go.Proofs.Ytbcikndebaeahaa

namespace Go.Proofs.Ytbcikndebaeahaa
open Go.ChangeShapes Go.WideShapes Go.ChangeAt Go.RowKit
set_option linter.unusedVariables false
set_option maxRecDepth 4000
set_option linter.unusedSimpArgs false
end Go.Proofs.Ytbcikndebaeahaa

namespace Go.Proofs.Ytbcikndebaeahaa
open Go Go.RowKit
set_option linter.unusedVariables false
set_option maxRecDepth 4000
set_option linter.unusedSimpArgs false
/-! A region that draws its order, some of whose operations make memory (calls above all). One walk serves every order: operations that give the same value in every later world are taken first; any other one is taken where it alone may come up.
    'Later b w': nothing that was there in b has turned in w. -/
def Later (b w : World) : Prop := Below b.heap.size b w
theorem Later.refl (b : World) : Later b b := Below.refl _ _
theorem Later.trans {a b c : World} (h : Later a b) (k : Later b c) : Later a c := Below.trans h (Below.mono k h.size)
theorem Later.drew {a b : World} (h : Later a b) : Later a b.drew := Below.drew h
section
variable {P : Program} {ops : Array Oper} {md : Region.Mode}
/-- what is asked of an operation that is mild: one value in every later world; a call may make memory -/
def Oper.mildUpon (P : Program) (w : World) (v : Value) : Result Next → Prop
  | .ok (.value u) w' => w' = w ∧ u = v
  | .ok .skip w' => w' = w ∧ v = undef
  | .ok (.enter f args) w' => w' = w ∧ Calls P f args w (fun e w'' => e = .returned v ∧ Later w w'')
  | _ => False
def Oper.mild (P : Program) (o : Oper) (a : Act) (b : World) (next : Act → Prop) : Prop :=
  ∃ v, (∀ w, Later b w → Oper.mildUpon P w v ((execOp a.eval o).run P w)) ∧ next (a.put o.dst v)
/-- what is asked of an operation that is loud: whatever value, in a later world -/
def Oper.loudUpon (P : Program) (o : Oper) (a : Act) (w : World) (K : Act → World → Prop) : Result Next → Prop
  | .ok (.value u) w' => Later w w' ∧ K (a.put o.dst u) w'
  | .ok .skip w' => Later w w' ∧ K (a.put o.dst undef) w'
  | .ok (.enter f args) w' => w' = w ∧ Calls P f args w (fun e w'' => ∃ u, e = .returned u ∧ Later w w'' ∧ K (a.put o.dst u) w'')
  | _ => False
def Oper.loud (P : Program) (o : Oper) (a : Act) (w : World) (K : Act → World → Prop) : Prop := Oper.loudUpon P o a w K ((execOp a.eval o).run P w)
def lOp (P : Program) (ops : Array Oper) (i : Nat) (K : Act → World → Prop) (a : Act) (w : World) : Prop :=
  match ops[i]? with
  | none => False
  | some o => if Region.wanted o (yielded ops a.tmps) then Oper.loud P o a w K else K (a.put o.dst undef) w
theorem Oper.loudUpon_mono {o : Oper} {a : Act} {w : World} {K K' : Act → World → Prop} (h : ∀ a w', Later w w' → K a w' → K' a w') : ∀ r, Oper.loudUpon P o a w K r → Oper.loudUpon P o a w K' r
  | .ok (.value u) w', hh => ⟨hh.1, h _ _ hh.1 hh.2⟩
  | .ok .skip w', hh => ⟨hh.1, h _ _ hh.1 hh.2⟩
  | .ok (.enter f args) w', hh => ⟨hh.1, hh.2.mono fun e w'' ⟨u, he, hl, hk⟩ => ⟨u, he, hl, h _ _ hl hk⟩⟩
  | .ok (.defer _) _, hh => hh.elim
  | .ok (.row _ _) _, hh => hh.elim
  | .halt _ _, hh => hh.elim
theorem lOp_mono {i : Nat} {a : Act} {w : World} {K K' : Act → World → Prop} (h : ∀ a w', Later w w' → K a w' → K' a w') (hh : lOp P ops i K a w) : lOp P ops i K' a w := by
  unfold lOp at *
  split
  · rename_i ho; simp [ho] at hh
  · rename_i o ho
    simp only [ho] at hh
    split
    · rename_i hw; simp only [hw, if_true] at hh; exact Oper.loudUpon_mono h _ hh
    · rename_i hw; simp only [hw] at hh; exact h _ _ (Later.refl _) hh
/-- whatever order is picked from here on, in whatever later world -/
def wpE (P : Program) (md : Region.Mode) (ops : Array Oper) (Q : Act → World → Prop) : Nat → Array Bool → Act → World → Prop
  | 0, listed, a, b => Region.ready md ops listed = [] ∧ ∀ w, Later b w → Q a w
  | n + 1, listed, a, b => ∀ w, Later b w → (Region.ready md ops listed = [] → Q a w) ∧ ∀ i ∈ Region.ready md ops listed, lOp P ops i (fun a' w' => wpE P md ops Q n (listed.setIfInBounds i true) a' w') a w
theorem wpE_base {Q : Act → World → Prop} {b c : World} (hl : Later b c) : ∀ (n : Nat) (listed : Array Bool) (a : Act), wpE P md ops Q n listed a b → wpE P md ops Q n listed a c
  | 0, _, _, h => ⟨h.1, fun w hw => h.2 w (hl.trans hw)⟩
  | _ + 1, _, _, h => fun w hw => h w (hl.trans hw)
theorem wpOp_of_lOp {Q' : Exit → Act → World → Prop} {i : Nat} {a : Act} {w : World} {K : Act → World → Prop} (h : lOp P ops i K a w) : wpOp P ops Q' i K a w := by
  unfold lOp at h
  unfold wpOp
  split
  · rename_i ho; simp [ho] at h
  · rename_i o ho
    simp only [ho] at h
    split
    · rename_i hw
      simp only [hw, if_true] at h
      refine .inl ?_
      unfold Oper.loud at h
      unfold Go.Oper.wp
      generalize (execOp a.eval o).run P w = r at *
      cases r with
      | ok n w' =>
        cases n <;> simp only [Oper.loudUpon] at h <;> simp only [Go.Oper.upon]
        case value u => exact h.2
        case skip => exact h.2
        case enter f args =>
          obtain ⟨rfl, hc⟩ := h
          exact hc.mono fun e w'' ⟨u, he, _, hk⟩ => by subst he; exact hk
      | halt x w' => simp only [Oper.loudUpon] at h
    · rename_i hw; simp only [hw] at h; exact h
theorem wpAny_of_wpE {Q : Act → World → Prop} {Q' : Exit → Act → World → Prop} (hQ : ∀ a w, Q a w → Q' .normal a w) : ∀ (n : Nat) (listed : Array Bool) (a : Act) (w : World), wpE P md ops Q n listed a w → wpAny P md ops Q' n listed a w
  | 0, _, _, w, h => ⟨h.1, hQ _ _ (h.2 w (Later.refl _))⟩
  | n + 1, _, _, w, h => ⟨fun h0 => hQ _ _ ((h w (Later.refl _)).1 h0), fun i hi => wpOp_mono (fun a' w' h' => wpAny_of_wpE hQ n _ a' w' h') (wpOp_of_lOp ((h w (Later.refl _)).2 i hi))⟩
/-- in state a, in every world later than b, o gives v -/
def Gives (P : Program) (ops : Array Oper) (b : World) (o : Oper) (v : Value) (a : Act) : Prop :=
  (Region.wanted o (yielded ops a.tmps) = true ∧ ∀ w, Later b w → Oper.mildUpon P w v ((execOp a.eval o).run P w)) ∨
  (Region.wanted o (yielded ops a.tmps) = false ∧ v = undef)
theorem Gives.later {b c : World} {o : Oper} {v : Value} {a : Act} (h : Gives P ops b o v a) (hl : Later b c) : Gives P ops c o v a := by
  rcases h with ⟨h1, h2⟩ | h
  · exact .inl ⟨h1, fun w hw => h2 w (hl.trans hw)⟩
  · exact .inr h
theorem Gives.of_same {b : World} {o : Oper} {v : Value} {a a' : Act} (hy : Gives P ops b o v a) (he : execOp a'.eval o = execOp a.eval o)
    (hw : Region.wanted o (yielded ops a'.tmps) = Region.wanted o (yielded ops a.tmps)) : Gives P ops b o v a' := by
  unfold Gives at *
  rw [he, hw]
  exact hy
theorem Gives.lOp {b w : World} {i : Nat} {o : Oper} {v : Value} {a : Act} (hi : ops[i]? = some o) (hy : Gives P ops b o v a) (hw : Later b w) {K : Act → World → Prop} (h : ∀ w', Later w w' → K (a.put o.dst v) w') : lOp P ops i K a w := by
  unfold Go.Proofs.Ytbcikndebaeahaa.lOp
  simp only [hi]
  rcases hy with ⟨hwt, hv⟩ | ⟨hwt, rfl⟩
  · simp only [hwt, if_true]
    have hv := hv w hw
    unfold Oper.loud
    generalize (execOp a.eval o).run P w = r at *
    cases r with
    | ok n w' =>
      cases n <;> simp only [Oper.mildUpon] at hv <;> simp only [Oper.loudUpon]
      case value u => obtain ⟨rfl, rfl⟩ := hv; exact ⟨Later.refl _, h _ (Later.refl _)⟩
      case skip => obtain ⟨rfl, rfl⟩ := hv; exact ⟨Later.refl _, h _ (Later.refl _)⟩
      case enter f args => exact ⟨hv.1, hv.2.mono fun e w'' ⟨he, hl⟩ => ⟨v, he, hl, h _ hl⟩⟩
    | halt x w' => simp only [Oper.mildUpon] at hv
  · simp only [hwt, Bool.false_eq_true, if_false]; exact h _ (Later.refl _)
theorem lOp_put {b w : World} {j : Nat} {oi oj : Oper} {v : Value} (hj : ops[j]? = some oj) (hap : oi.apart ops oj = true)
    (hsi : ∀ cs d, oi.op ≠ .select cs d) (hsj : ∀ cs d, oj.op ≠ .select cs d) {K : Act → World → Prop} {a : Act}
    (hy : Gives P ops b oi v a) (h : lOp P ops j K (a.put oi.dst v) w) :
    lOp P ops j (fun a' w' => Gives P ops b oi v a' ∧ K (a'.put oi.dst v) w') a w := by
  obtain ⟨h1, h2, h3⟩ := Oper.apart_spec hap
  have keep : ∀ u, Gives P ops b oi v (a.put oj.dst u) := fun u => hy.of_same (execOp_put oi hsi a oj.dst u h3) (wanted_put oi a oj.dst u h3)
  unfold Go.Proofs.Ytbcikndebaeahaa.lOp at *
  simp only [hj] at *
  rw [wanted_put oj a oi.dst v h1] at h
  split
  · rename_i hw
    simp only [hw, if_true] at h
    unfold Oper.loud at *
    rw [execOp_put oj hsj a oi.dst v h1] at h
    generalize (execOp a.eval oj).run P w = r at *
    cases r with
    | ok n w' =>
      cases n <;> simp only [Oper.loudUpon] at h ⊢
      case value u => exact ⟨h.1, keep u, by rw [← Act.put_comm a v u h2]; exact h.2⟩
      case skip => exact ⟨h.1, keep _, by rw [← Act.put_comm a v undef h2]; exact h.2⟩
      case enter f args => exact ⟨h.1, h.2.mono fun e w'' ⟨u, he, hl, hk⟩ => ⟨u, he, hl, keep u, by rw [← Act.put_comm a v u h2]; exact hk⟩⟩
    | halt x w' => simp only [Oper.loudUpon] at h
  · rename_i hw
    simp only [hw] at h
    exact ⟨keep _, by rw [← Act.put_comm a v undef h2]; exact h⟩
theorem wpE_first {Q : Act → World → Prop} {i : Nat} {oi : Oper} {v : Value} (hi : ops[i]? = some oi) (hsel : ∀ (j : Nat) (o : Oper) cs d, ops[j]? = some o → o.op ≠ .select cs d) :
    ∀ (n : Nat) (listed : Array Bool) (a : Act) (b : World),
      (∀ j oj, ops[j]? = some oj → j ≠ i → listed.getD j true = false → (∀ e ∈ oj.after, Region.binds md e = true → e.on ≠ i) → oi.apart ops oj = true) →
      i ∈ Region.ready md ops listed → Gives P ops b oi v a →
      wpE P md ops Q n (listed.setIfInBounds i true) (a.put oi.dst v) b → wpE P md ops Q (n + 1) listed a b := by
  intro n
  induction n with
  | zero =>
    intro listed a b _ hr hy H w hw
    refine ⟨fun h => (by rw [h] at hr; cases hr), fun j hj => ?_⟩
    by_cases hji : j = i
    · subst hji; exact hy.lOp hi hw fun w' hw' => wpE_base (hw.trans hw') 0 _ _ H
    · have := ready_mono hj hji
      rw [H.1] at this
      cases this
  | succ n ih =>
    intro listed a b hfree hr hy H w hw
    refine ⟨fun h => (by rw [h] at hr; cases hr), fun j hj => ?_⟩
    by_cases hji : j = i
    · subst hji; exact hy.lOp hi hw fun w' hw' => wpE_base (hw.trans hw') (n + 1) _ _ H
    · have h1 := (H w hw).2 j (ready_mono hj hji)
      obtain ⟨hjun, oj, hoj, hall⟩ := mem_ready.1 hj
      have hnot : ∀ e ∈ oj.after, Region.binds md e = true → e.on ≠ i := fun e he hb heq => by
        have h1 := hall e he hb
        have h0 := (mem_ready.1 hr).1
        rw [heq] at h1
        rcases Nat.lt_or_ge i listed.size with h' | h'
        · simp [h'] at h0 h1; rw [h0] at h1; cases h1
        · simp [Array.getElem?_eq_none h'] at h1
      have h2 := lOp_put hoj (hfree j oj hoj hji hjun hnot) (fun cs d => hsel i oi cs d hi) (fun cs d => hsel j oj cs d hoj) hy h1
      have hfree' : ∀ k ok, ops[k]? = some ok → k ≠ i → (listed.setIfInBounds j true).getD k true = false →
          (∀ e ∈ ok.after, Region.binds md e = true → e.on ≠ i) → oi.apart ops ok = true := fun k ok hk hki hun hno => by
        refine hfree k ok hk hki ?_ hno
        by_cases hjk : j = k
        · subst hjk; exact hjun
        · rw [getD_set_ne true hjk] at hun; exact hun
      refine lOp_mono (fun a' w' hl h3 => ih (listed.setIfInBounds j true) a' w' hfree' (ready_mono hr (Ne.symm hji)) (h3.1.later (hw.trans hl)) ?_) h2
      rw [Array.setIfInBounds_comm _ _ hji]
      exact h3.2
/-- the walk along one order: false: mild; true: loud -/
def wpS (P : Program) (ops : Array Oper) (Q : Act → World → Prop) : List (Nat × Bool) → Act → World → Prop
  | [], a, b => ∀ w, Later b w → Q a w
  | (i, false) :: σ, a, b => ∃ o, ops[i]? = some o ∧ if Region.wanted o (yielded ops a.tmps) then Oper.mild P o a b (fun a' => wpS P ops Q σ a' b) else wpS P ops Q σ (a.put o.dst undef) b
  | (i, true) :: σ, a, b => ∀ w, Later b w → lOp P ops i (fun a' w' => wpS P ops Q σ a' w') a w
/-- may the order be walked so? -/
def schedB (md : Region.Mode) (ops : Array Oper) : List (Nat × Bool) → Array Bool → Bool
  | [], listed => (Region.ready md ops listed).isEmpty
  | (i, false) :: σ, listed => (Region.ready md ops listed).contains i && Region.free md ops listed i && schedB md ops σ (listed.setIfInBounds i true)
  | (i, true) :: σ, listed => (Region.ready md ops listed == [i]) && schedB md ops σ (listed.setIfInBounds i true)
theorem wpE_of_wpS {Q : Act → World → Prop} (hs : Region.noSelect ops = true) : ∀ (σ : List (Nat × Bool)) (listed : Array Bool) (a : Act) (b : World), schedB md ops σ listed = true → wpS P ops Q σ a b → wpE P md ops Q σ.length listed a b
  | [], listed, a, b, hB, h => ⟨by simpa [schedB] using hB, h⟩
  | (i, false) :: σ, listed, a, b, hB, h => by
    simp only [schedB, Bool.and_eq_true] at hB
    obtain ⟨o, ho, h⟩ := h
    by_cases hw : Region.wanted o (yielded ops a.tmps) = true
    · simp only [hw, if_true] at h
      obtain ⟨v, hv, hk⟩ := h
      exact wpE_first ho (Region.noSelect_spec hs) σ.length listed a b (Region.free_spec ho hB.1.2) (by simpa using hB.1.1) (.inl ⟨hw, hv⟩) (wpE_of_wpS hs σ _ _ _ hB.2 hk)
    · simp only [hw] at h
      exact wpE_first ho (Region.noSelect_spec hs) σ.length listed a b (Region.free_spec ho hB.1.2) (by simpa using hB.1.1) (.inr ⟨by simpa using hw, rfl⟩) (wpE_of_wpS hs σ _ _ _ hB.2 h)
  | (i, true) :: σ, listed, a, b, hB, h => by
    simp only [schedB, Bool.and_eq_true, beq_iff_eq] at hB
    intro w hw
    refine ⟨fun h0 => (by rw [hB.1] at h0; cases h0), fun j hj => ?_⟩
    rw [hB.1] at hj
    simp at hj
    subst hj
    exact lOp_mono (fun a' w' _ h' => wpE_of_wpS hs σ _ a' w' hB.2 h') (h w hw)
/-- ONE WALK SERVES EVERY ORDER. -/
theorem wp_region_sched {id : Nat} {Q : Exit → Act → World → Prop} {a : Act} {w : World} {l : List Oper} (σ : List (Nat × Bool)) (hm : P.follows .mixedOrders = true) (hs : Region.noSelect l.toArray = true) (hn : (σ.length == l.length) = true)
    (hB : schedB .any l.toArray σ (Array.replicate l.length false) = true)
    (h : wpS P l.toArray (fun a' w' => Q .normal a' w') σ a w.drew) : (Code.region id l.toArray true).wp P Q a w := by
  refine wp_region_any hm ?_
  have h1 := wpE_of_wpS (md := .any) hs σ _ a _ hB h
  have h2 := wpAny_of_wpE (Q' := Q) (fun _ _ h => h) _ _ _ _ h1
  have e : l.toArray.size = σ.length := by simp at hn; simp [hn]
  rw [e]
  have e2 : l.length = σ.length := by simp at hn; exact hn.symm
  rw [e2] at h2
  exact h2
/-- a world later than b -/
def rg (b : World) (p : Regrown) : World := Sort.grow (redrawn b p.d) p.os
theorem later_rg (b : World) (p : Regrown) : Later b (rg b p) := below_regrown b p.d p.os
theorem rg_of_later {b w : World} (h : Later b w) : ∃ p : Regrown, w = rg b p := regrown_of_below h
/-- one value in every later world -/
def Oper.mildG (P : Program) (o : Oper) (a : Act) (b : World) (next : Act → Prop) : Prop :=
  ∃ v, (∀ p : Regrown, Oper.mildUpon P (rg b p) v ((execOp a.eval o).run P (rg b p))) ∧ next (a.put o.dst v)
theorem Oper.mild_of_mildG {o : Oper} {a : Act} {b : World} {K : Act → Prop} (h : Oper.mildG P o a b K) : Oper.mild P o a b K := by
  obtain ⟨v, h1, h2⟩ := h
  exact ⟨v, fun w hw => by obtain ⟨p, rfl⟩ := rg_of_later hw; exact h1 p, h2⟩
theorem wpS_mild {Q : Act → World → Prop} {i : Nat} {o : Oper} {σ : List (Nat × Bool)} {a : Act} {b : World} (ho : ops[i]? = some o)
    (h : ∀ K : Act → Prop, (∀ a', wpS P ops Q σ a' b → K a') → if Region.wanted o (yielded ops a.tmps) then Oper.mildG P o a b K else K (a.put o.dst undef)) : wpS P ops Q ((i, false) :: σ) a b := by
  refine ⟨o, ho, ?_⟩
  have := h _ (fun _ h => h)
  split
  · rename_i hw; rw [if_pos hw] at this; exact Oper.mild_of_mildG this
  · rename_i hw; rw [if_neg hw] at this; exact this
theorem wpS_nil {Q : Act → World → Prop} {a : Act} {b : World} (h : ∀ w, Later b w → Q a w) : wpS P ops Q [] a b := h
end
attribute [go_sem] Oper.mildG Oper.mildUpon Oper.loud Oper.loudUpon
end Go.Proofs.Ytbcikndebaeahaa

namespace Go.Proofs.Ytbcikndebaeahaa
open Go.ChangeShapes Go.WideShapes Go.ChangeAt Go.RowKit
set_option linter.unusedVariables false
set_option maxRecDepth 4000
set_option linter.unusedSimpArgs false
end Go.Proofs.Ytbcikndebaeahaa
