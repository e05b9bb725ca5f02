import Derived.WalkKit
import Derived.Test.YtoflkbilkkfekaaRows
import Derived.ProofKit
import Derived.OpenShut
import Derived.ShutString
import Derived.ChangeOld
import Derived.Below
import Derived.WalkLawsBesides
import Derived.WalkSpells
import Derived.Deep.QuietTactic
import Derived.BigQuiet
import Derived.Laws.IdiomStrings
import Derived.Laws.BytesArg
import Derived.Laws.CopyOwn
import Derived.Deep.AppendSrc
import Derived.Carry
namespace Go.Proofs.Ytoflkbilkkfekaa
/-! Plain numbers: bytes, bits. -/
theorem hide {p : Prop} (h : p) : RowKit.Hid p := h
theorem unhide {p : Prop} (h : RowKit.Hid p) : p := h
theorem ret_int {k : IntKind} {a b : Int} (h : a = b) : Ending.returned (.int k a) = .returned (.int k b) := by rw [h]
theorem ret_bool {a b : Bool} (h : a = b) : Ending.returned (.bool a) = .returned (.bool b) := by rw [h]

def areB (f n : Int) : Bool := decide (1 ≤ n ∧ n ≤ 64 ∧ 0 ≤ f ∧ f ≤ 64 - n)
def isW (a : Int) : Bool := decide (1 ≤ a ∧ a ≤ 8)
def holdsB (c a n : Int) : Bool := decide (1 ≤ n ∧ n ≤ 8 ∧ 0 ≤ a ∧ a ≤ c - n)
def bitsN (x f n : Nat) : Nat := x / 2 ^ f % 2 ^ n
def setN (x f n y : Nat) : Nat := 2 ^ f * (2 ^ n * (x / 2 ^ (f + n)) + y % 2 ^ n) + x % 2 ^ f

theorem areB_nat {f n : Int} (h : areB f n = true) : ∃ a b : Nat, f = a ∧ n = b ∧ 1 ≤ b ∧ a + b ≤ 64 := by
  simp [areB] at h
  exact ⟨f.toNat, n.toNat, by omega, by omega, by omega, by omega⟩

theorem mask_eq (n : Nat) (h : n ≤ 64) : (18446744073709551615 : Int) / 2 ^ (64 - n) = ((2 ^ n - 1 : Nat) : Int) := by
  have hp : (0 : Nat) < 2 ^ (64 - n) := Nat.two_pow_pos _
  have hq : 2 ^ n * 2 ^ (64 - n) = 18446744073709551616 := by rw [← Nat.pow_add, show n + (64 - n) = 64 from by omega]
  have hn : (0 : Nat) < 2 ^ n := Nat.two_pow_pos _
  have e : (18446744073709551615 : Nat) / 2 ^ (64 - n) = 2 ^ n - 1 := by
    apply Nat.div_eq_of_lt_le
    · rw [Nat.sub_mul, hq]; omega
    · rw [show 2 ^ n - 1 + 1 = 2 ^ n from by omega, hq]; omega
  rw [← e]
  simp [Int.natCast_ediv, Int.natCast_pow]

theorem two_pow_lt64 {a : Nat} (h : a ≤ 64) : 2 ^ a ≤ 18446744073709551616 := by
  have : 2 ^ a ≤ 2 ^ 64 := Nat.pow_le_pow_right (by omega) h
  simpa using this

theorem bits_go (x f n : Nat) (h2 : f + n ≤ 64) (hx : x ≤ 18446744073709551615) :
    bits .and .u64 ((x : Int) / 2 ^ f) ((18446744073709551615 : Int) / 2 ^ (64 - n)) = (bitsN x f n : Int) := by
  rw [mask_eq n (by omega)]
  have e : (x : Int) / 2 ^ f = ((x / 2 ^ f : Nat) : Int) := by simp [Int.natCast_ediv, Int.natCast_pow]
  have h1 : x / 2 ^ f ≤ x := Nat.div_le_self _ _
  have h3 := two_pow_lt64 (a := n) (by omega)
  rw [e, u64_and_nat _ _ (by omega) (by omega), Nat.and_two_pow_sub_one_eq_mod]
  rfl

theorem bitsN_lt (x f n : Nat) : bitsN x f n < 2 ^ n := Nat.mod_lt _ (Nat.two_pow_pos _)
theorem bitsN_le64 (x f n : Nat) (h : f + n ≤ 64) : bitsN x f n ≤ 18446744073709551615 := by
  have := bitsN_lt x f n; have := two_pow_lt64 (a := n) (by omega); omega

theorem setN_bit (x f n y i : Nat) : (setN x f n y).testBit i = if f ≤ i ∧ i < f + n then y.testBit (i - f) else x.testBit i := by
  unfold setN
  rw [Nat.testBit_two_pow_mul_add _ (Nat.mod_lt _ (Nat.two_pow_pos _))]
  by_cases h1 : i < f
  · rw [if_pos h1, if_neg (by omega), Nat.testBit_mod_two_pow]; simp [h1]
  · rw [if_neg h1, Nat.testBit_two_pow_mul_add _ (Nat.mod_lt _ (Nat.two_pow_pos _))]
    by_cases h2 : i < f + n
    · rw [if_pos (by omega), if_pos (by omega), Nat.testBit_mod_two_pow]; simp; omega
    · rw [if_neg (by omega), if_neg (by omega), Nat.testBit_div_two_pow]; congr 1; omega

theorem bitsN_bit (x f n i : Nat) : (bitsN x f n).testBit i = (decide (i < n) && x.testBit (f + i)) := by
  unfold bitsN
  rw [Nat.testBit_mod_two_pow, Nat.testBit_div_two_pow, Nat.add_comm]

theorem lt_of_bits {x : Nat} (h : ∀ i, 64 ≤ i → x.testBit i = false) : x ≤ 18446744073709551615 := by
  have : x < 2 ^ 64 := Nat.lt_pow_two_of_testBit x (fun i hi => h i hi)
  omega
theorem bit_of_lt {x : Nat} (h : x ≤ 18446744073709551615) (i : Nat) (hi : 64 ≤ i) : x.testBit i = false := by
  apply Nat.testBit_lt_two_pow
  have : 2 ^ 64 ≤ 2 ^ i := Nat.pow_le_pow_right (by omega) hi
  omega

theorem setN_le64 (x f n y : Nat) (h : f + n ≤ 64) (hx : x ≤ 18446744073709551615) : setN x f n y ≤ 18446744073709551615 := by
  apply lt_of_bits
  intro i hi
  rw [setN_bit, if_neg (by omega)]
  exact bit_of_lt hx i hi

theorem set_go (x f n y : Nat) (h2 : f + n ≤ 64) (hx : x ≤ 18446744073709551615) (hy : y ≤ 18446744073709551615) :
    bits .or .u64 (bits .andNot .u64 (x : Int) (IntKind.u64.wrap ((18446744073709551615 : Int) / 2 ^ (64 - n) * 2 ^ f)))
      (IntKind.u64.wrap (bits .and .u64 (y : Int) ((18446744073709551615 : Int) / 2 ^ (64 - n)) * 2 ^ f)) = (setN x f n y : Int) := by
  rw [mask_eq n (by omega)]
  have hn := two_pow_lt64 (a := n) (by omega)
  have hn0 := Nat.two_pow_pos n
  have hf0 := Nat.two_pow_pos f
  have hfn := two_pow_lt64 (a := f + n) (by omega)
  rw [Nat.pow_add] at hfn
  rw [u64_and_nat y _ (by omega) (by omega), Nat.and_two_pow_sub_one_eq_mod]
  have m1 : (2 ^ n - 1) * 2 ^ f < 18446744073709551616 := by
    have : (2 ^ n - 1) * 2 ^ f < 2 ^ n * 2 ^ f := Nat.mul_lt_mul_of_pos_right (by omega) hf0
    rw [Nat.mul_comm (2 ^ n)] at this; omega
  have m2 : (y % 2 ^ n) * 2 ^ f < 18446744073709551616 := by
    have : (y % 2 ^ n) * 2 ^ f < 2 ^ n * 2 ^ f := Nat.mul_lt_mul_of_pos_right (Nat.mod_lt _ hn0) hf0
    rw [Nat.mul_comm (2 ^ n)] at this; omega
  have e1 : ((2 ^ n - 1 : Nat) : Int) * 2 ^ f = (((2 ^ n - 1) * 2 ^ f : Nat) : Int) := by rw [Int.natCast_mul, Int.natCast_pow]; rfl
  have e2 : ((y % 2 ^ n : Nat) : Int) * 2 ^ f = ((y % 2 ^ n * 2 ^ f : Nat) : Int) := by rw [Int.natCast_mul, Int.natCast_pow]; rfl
  rw [e1, e2, IntKind.wrap_u64, IntKind.wrap_u64]
  rw [show (((2 ^ n - 1) * 2 ^ f : Nat) : Int) % 18446744073709551616 = (((2 ^ n - 1) * 2 ^ f : Nat) : Int) from by omega,
    show ((y % 2 ^ n * 2 ^ f : Nat) : Int) % 18446744073709551616 = ((y % 2 ^ n * 2 ^ f : Nat) : Int) from by omega]
  rw [u64_andNot_nat x _ (by omega) m1]
  have ha : x &&& (18446744073709551615 - (2 ^ n - 1) * 2 ^ f) ≤ x := Nat.and_le_left
  rw [u64_or_nat _ _ (by omega) m2]
  congr 1
  apply Nat.eq_of_testBit_eq
  intro i
  rw [setN_bit, Nat.testBit_or, Nat.testBit_and]
  rw [show 18446744073709551615 - (2 ^ n - 1) * 2 ^ f = 2 ^ 64 - ((2 ^ n - 1) * 2 ^ f + 1) from by omega, Nat.testBit_two_pow_sub_succ (by omega)]
  rw [← Nat.shiftLeft_eq, ← Nat.shiftLeft_eq, Nat.testBit_shiftLeft, Nat.testBit_shiftLeft, Nat.testBit_two_pow_sub_one, Nat.testBit_mod_two_pow]
  by_cases h1 : f ≤ i
  · by_cases h3 : i < f + n
    · simp [h1, h3, show i - f < n from by omega, show i < 64 from by omega]
    · by_cases h4 : i < 64
      · simp [h1, h3, show ¬ i - f < n from by omega, h4]
      · simp [h1, h3, show ¬ i - f < n from by omega, h4, bit_of_lt hx i (by omega)]
  · simp [h1, show i < 64 from by omega]

/-- A number's lowest bits, one more. -/
theorem mod_succ (x i : Nat) : x % 2 ^ (i + 1) = x % 2 ^ i + x / 2 ^ i % 2 * 2 ^ i := by
  rw [Nat.pow_succ, Nat.mod_mul, Nat.mul_comm (2 ^ i)]
theorem bit_mod (x i : Nat) : x / 2 ^ i % 2 = (x.testBit i).toNat := by
  rw [Nat.testBit_eq_decide_div_mod_eq]
  rcases Nat.mod_two_eq_zero_or_one (x / 2 ^ i) with h | h <;> simp [h]
theorem div_succ (x i : Nat) : x / 2 ^ i / 2 = x / 2 ^ (i + 1) := by rw [Nat.div_div_eq_div_mul, Nat.pow_succ]

/-! Bytes. -/
def bigOf (l : List UInt8) : Nat := l.foldl (fun x b => x * 256 + b.toNat) 0
def littleOf (l : List UInt8) : Nat := l.foldr (fun b x => x * 256 + b.toNat) 0

theorem bigOf_snoc (l : List UInt8) (b : UInt8) : bigOf (l ++ [b]) = bigOf l * 256 + b.toNat := by simp [bigOf]
theorem littleOf_cons (l : List UInt8) (b : UInt8) : littleOf (b :: l) = littleOf l * 256 + b.toNat := by simp [littleOf]
theorem bigOf_rev (l : List UInt8) : bigOf l.reverse = littleOf l := by simp [bigOf, littleOf]
theorem littleOf_rev (l : List UInt8) : littleOf l.reverse = bigOf l := by simp [bigOf, littleOf]
theorem littleOf_lt (l : List UInt8) : littleOf l < 256 ^ l.length := by
  induction l with
  | nil => simp [littleOf]
  | cons b l ih =>
    rw [littleOf_cons, List.length_cons, Nat.pow_succ]
    have := b.toNat_lt
    omega
theorem bigOf_lt (l : List UInt8) : bigOf l < 256 ^ l.length := by
  have := littleOf_lt l.reverse
  rwa [littleOf_rev, List.length_reverse] at this
theorem littleOf_snoc (l : List UInt8) (b : UInt8) : littleOf (l ++ [b]) = littleOf l + b.toNat * 256 ^ l.length := by
  induction l with
  | nil => simp [littleOf]
  | cons c l ih =>
    rw [List.cons_append, littleOf_cons, ih, littleOf_cons, List.length_cons, Nat.pow_succ, Nat.add_mul, Nat.mul_assoc]
    omega
/-- so many bytes of some, from one on -/
def seg (l : List UInt8) (at_ n : Nat) : List UInt8 := (l.drop at_).take n
theorem seg_length (l : List UInt8) (a n : Nat) (h : a + n ≤ l.length) : (seg l a n).length = n := by simp [seg]; omega
theorem seg_snoc (l : List UInt8) (a k : Nat) (h : a + k < l.length) : seg l a (k + 1) = seg l a k ++ [l[a + k]] := by
  unfold seg
  rw [List.take_succ_eq_append_getElem (by simp; omega)]
  simp
theorem seg_cons (l : List UInt8) (a k : Nat) (h : a < l.length) : seg l a (k + 1) = l[a] :: seg l (a + 1) k := by
  unfold seg
  rw [List.drop_eq_getElem_cons h, List.take_succ_cons]
theorem seg_zero (l : List UInt8) (a : Nat) : seg l a 0 = [] := by simp [seg]

theorem pow256 {k : Nat} (h : k ≤ 8) : 256 ^ k ≤ 18446744073709551616 := by
  have : 256 ^ k ≤ 256 ^ 8 := Nat.pow_le_pow_right (by omega) h
  simpa using this
theorem seg_big_lt (l : List UInt8) (a k : Nat) (hk : k ≤ 8) : bigOf (seg l a k) < 18446744073709551616 := by
  have h1 := bigOf_lt (seg l a k)
  have h2 : (seg l a k).length ≤ k := by simp [seg]; omega
  have h3 : 256 ^ (seg l a k).length ≤ 256 ^ k := Nat.pow_le_pow_right (by omega) h2
  have := pow256 hk
  omega
theorem seg_little_lt (l : List UInt8) (a k : Nat) (hk : k ≤ 8) : littleOf (seg l a k) < 18446744073709551616 := by
  have h1 := littleOf_lt (seg l a k)
  have h2 : (seg l a k).length ≤ k := by simp [seg]; omega
  have h3 : 256 ^ (seg l a k).length ≤ 256 ^ k := Nat.pow_le_pow_right (by omega) h2
  have := pow256 hk
  omega
theorem or_low (z b : Nat) (hz : z * 256 + 255 < 18446744073709551616) (hb : b < 256) :
    bits .or .u64 (IntKind.u64.wrap ((z : Int) * 256)) (b : Int) = ((z * 256 + b : Nat) : Int) := by
  have hz2 : z * 256 < 18446744073709551616 := Nat.lt_of_le_of_lt (Nat.le_add_right _ _) hz
  have hb2 : b < 18446744073709551616 := by omega
  have e1 : IntKind.u64.wrap ((z : Int) * 256) = ((z * 256 : Nat) : Int) := by rw [IntKind.wrap_u64]; omega
  rw [e1, u64_or_nat (z * 256) b hz2 hb2]
  have := Nat.shiftLeft_add_eq_or_of_lt (i := 8) (b := b) (by omega) z
  rw [Nat.shiftLeft_eq] at this
  exact congrArg _ this.symm
theorem or_high (z b k : Nat) (hz : z < 256 ^ k) (hb : b < 256) (hk : k < 8) :
    bits .or .u64 (z : Int) (IntKind.u64.wrap ((b : Int) * 2 ^ (8 * k))) = ((z + b * 256 ^ k : Nat) : Int) := by
  have e : (2 : Nat) ^ (8 * k) = 256 ^ k := by rw [Nat.pow_mul]
  have hk1 := pow256 (k := k + 1) (by omega)
  have hk0 := Nat.pow_pos (n := k) (show 0 < 256 by omega)
  rw [Nat.pow_succ] at hk1
  have hm : b * 256 ^ k ≤ 255 * 256 ^ k := Nat.mul_le_mul_right _ (by omega)
  rw [IntKind.wrap_u64]
  rw [show (b : Int) * 2 ^ (8 * k) = ((b * 256 ^ k : Nat) : Int) from by rw [← e, Int.natCast_mul, Int.natCast_pow]; rfl]
  rw [show ((b * 256 ^ k : Nat) : Int) % 18446744073709551616 = ((b * 256 ^ k : Nat) : Int) from by omega, u64_or_nat _ _ (by omega) (by omega)]
  congr 1
  have := Nat.shiftLeft_add_eq_or_of_lt (i := 8 * k) (b := z) (by rw [e]; exact hz) b
  rw [Nat.shiftLeft_eq, e] at this
  rw [Nat.or_comm, ← this, Nat.add_comm]
end Go.Proofs.Ytoflkbilkkfekaa

namespace Go.Proofs.Ytoflkbilkkfekaa
/-! All that the texts behind this one stand on. -/
end Go.Proofs.Ytoflkbilkkfekaa

namespace Go.Proofs.Ytoflkbilkkfekaa
open Go.ChangeShapes Go.WideShapes Go.ChangeAt Go.RowKit
set_option linter.unusedVariables false
set_option linter.unusedSimpArgs false

/-! Bytes in memory. -/
def bv (l : List UInt8) : List Value := l.map fun b => Value.int .u8 (b.toNat : Int)
theorem bv_length (l : List UInt8) : (bv l).length = l.length := by simp [bv]
theorem bv_append (l m : List UInt8) : bv (l ++ m) = bv l ++ bv m := by simp [bv]
theorem bv_get (l : List UInt8) (j : Nat) : (bv l)[j]? = (l[j]?).map fun b => Value.int .u8 (b.toNat : Int) := by simp [bv]
theorem bv_get_lt (l : List UInt8) (j : Nat) (h : j < l.length) : (bv l)[j]? = some (.int .u8 (l[j].toNat : Int)) := by simp [bv, h]
theorem bv_one (l : List UInt8) : ∀ u ∈ bv l, u.oneCell' = true := by
  intro u hu
  obtain ⟨b, _, rfl⟩ := List.mem_map.1 hu
  rfl
theorem bv_set (l : List UInt8) (j : Nat) (b : UInt8) : bv (l.set j b) = (bv l).set j (.int .u8 (b.toNat : Int)) := by simp [bv]
theorem bv_replicate (n : Nat) : bv (List.replicate n 0) = List.replicate n (.int .u8 0) := by simp [bv]

/-- the slice v reads as the bytes l -/
def Bs (w : World) (v : Value) (l : List UInt8) : Prop :=
  l.length ≤ maxLen ∧ ∃ a cap, v = .slice a l.length cap ∧ l.length ≤ cap ∧ (l = [] ∨ ∃ b off, a = some ⟨b, off, none⟩ ∧ ∀ j (hj : j < l.length), w.cell? ⟨b, off + j, none⟩ = some (.int .u8 (l[j].toNat : Int)))

theorem Bs.nil (w : World) : Bs w (.slice none 0 0) [] := ⟨by simp, none, 0, rfl, Nat.le_refl _, .inl rfl⟩

theorem Bs.of_owns {w : World} {base : Nat} {e : TypeId} {v : Value} {n : Nat} {l : List UInt8} (h : w.ownsRow base e 1 v n (bv l)) : Bs w v l ∧ n = l.length := by
  have hn : n = l.length := by have := h.1; rw [bv_length] at this; omega
  subst hn
  refine ⟨?_, rfl⟩
  rcases h.2 with ⟨rfl, h0⟩ | ⟨g, cap, cur, rfl, hb, hg, hc, hm, hs, ht⟩
  · have : l = [] := List.eq_nil_of_length_eq_zero h0
    subst this
    exact Bs.nil w
  · refine ⟨Nat.le_trans hc hm, some ⟨g, 0, none⟩, cap, rfl, hc, .inr ⟨g, 0, rfl, fun j hj => ?_⟩⟩
    have := h.cellAt j (by omega)
    rw [Nat.zero_add, this, bv_get_lt l j hj]

theorem Bs.cellsOf {w : World} {v : Value} {l : List UInt8} (h : Bs w v l) {w' : World} (hc : ∀ a u, w.cell? a = some u → w'.cell? a = some u) : Bs w' v l := by
  obtain ⟨hm, a, cap, rfl, hcap, h⟩ := h
  refine ⟨hm, a, cap, rfl, hcap, ?_⟩
  rcases h with h | ⟨b, off, ha, h⟩
  · exact .inl h
  · exact .inr ⟨b, off, ha, fun j hj => hc _ _ (h j hj)⟩

theorem Bs.below {w w' : World} {B : Nat} {v : Value} {l : List UInt8} (h : Bs w v l) (hb : Below B w w') (hB : w.heap.size ≤ B) : Bs w' v l :=
  h.cellsOf fun a u hu => by
    have : a.block < w.heap.size := World.block_lt_of_cell? w a hu
    rw [hb.cell (by omega)]; exact hu

theorem Bs.drewN {w : World} {v : Value} {l : List UInt8} (h : Bs w v l) (n : Nat) : Bs (w.drewN n) v l := h.cellsOf fun a u hu => by simpa using hu

theorem Bs.str {w : World} {v : Value} {l : List UInt8} (h : Bs w v l) : (convert 23 9 v).run Try.prog w = .ok (.string ⟨l.toArray⟩) w := by
  obtain ⟨hm, a, cap, rfl, hcap, h⟩ := h
  rcases h with rfl | ⟨b, off, rfl, h⟩
  · cases a with
    | none => exact run_convert_bytes_nil w 23 5 Try.underlying23 Try.underlying5 0 cap _ Try.underlying9
    | some a => exact run_convert_bytes_back w 23 9 5 a cap [] Try.underlying23 Try.underlying5 Try.underlying9 (fun j hj => by simp at hj)
  · exact run_convert_bytes_back w 23 9 5 ⟨b, off, none⟩ cap l Try.underlying23 Try.underlying5 Try.underlying9 (fun j hj => by
      have : (⟨b, off, none⟩ : Addr).add j = ⟨b, off + j, none⟩ := by unfold Addr.add; split <;> simp_all
      rw [this]; exact h j hj)

theorem Try.info_u8 : (Try.prog.info? 5).map (fun i => (i.zero, i.size, i.bytes)) = some (some (.int .u8 0), 1, 1) := by kernel_rfl

theorem Below.grown0 {w w' : World} (hg : w.grownBy w' none) : Below w.heap.size w w' := (Below.refl _ _).grown hg (Nat.le_refl _) (fun k e => by cases e)

/-- 'copy(b, s)' of a string's bytes into a row of our own, from its head. -/
theorem run_copy_str (w : World) (ty : TypeId) (g dLen dCap : Nat) (s : ByteArray) (cur : Array Value) (t : TypeId) (hg : w.heap[g]? = some (.cells cur t (0, 0))) (hfit : dLen ≤ cur.size) :
    (Builtin.copy_ #[23, 9] ty #[.slice (some ⟨g, 0, none⟩) dLen dCap, .string s]).run Try.prog w =
      .ok (goInt (Nat.min s.size dLen)) (w.setRow g (bv (s.data.toList.take (Nat.min s.size dLen)) ++ cur.toList.drop (Nat.min s.size dLen)).toArray) := by
  obtain ⟨i0, hi, hz0, hz1, hz2⟩ := info_parts Try.info_u8
  have hsl : s.data.toList.length = s.size := by rw [Array.length_toList]; rfl
  have hcl : (bv (s.data.toList.take (Nat.min s.size dLen))).length = Nat.min s.size dLen := by
    rw [bv_length, List.length_take, hsl]; exact Nat.min_eq_left (Nat.min_le_left _ _)
  have hle : Nat.min s.size dLen ≤ dLen := Nat.min_le_right _ _
  have hst := run_storeCells_at Try.prog g 0 t (bv (s.data.toList.take (Nat.min s.size dLen))) 0 cur w hg (by rw [hcl]; omega) (bv_one _)
  rw [hcl] at hst
  have hfc : List.take (Nat.min s.size dLen) (List.map (fun b => Value.int .u8 (b.toNat : Int)) s.data.toList) = bv (s.data.toList.take (Nat.min s.size dLen)) := by simp [bv]
  simp [Builtin.copy_, run_underlying Try.underlying23, Builtin.lenOf, Builtin.firstCells, sizeOf, typeInfo, hi]
  rw [hfc, hst]
  simp

theorem run_copy_str_own {w : World} (ty : TypeId) (B g n : Nat) (s : ByteArray) (l : List UInt8) (hBg : B ≤ g)
    (hown : w.ownsRow B 5 1 (.slice (some ⟨g, 0, none⟩) n n) n (bv l)) (w0 : World) (hb : Below B w0 w) :
    ∃ w', (Builtin.copy_ #[23, 9] ty #[.slice (some ⟨g, 0, none⟩) n n, .string s]).run Try.prog w = .ok (.int .i64 ((Nat.min s.size n : Nat) : Int)) w' ∧
      w'.ownsRow B 5 1 (.slice (some ⟨g, 0, none⟩) n n) n (bv (s.data.toList.take (Nat.min s.size n) ++ l.drop (Nat.min s.size n))) ∧ Below B w0 w' := by
  have hn : n = l.length := by have := hown.1; rw [bv_length] at this; omega
  have hle : Nat.min s.size n ≤ n := Nat.min_le_right _ _
  have hls : Nat.min s.size n ≤ s.size := Nat.min_le_left _ _
  have hsl : s.data.toList.length = s.size := by rw [Array.length_toList]; rfl
  rcases hown.2 with ⟨h', _⟩ | ⟨g', cap', cur, h', hbg, hg, hc, hm, hs, ht⟩
  · simp at h'
  · simp only [Value.slice.injEq, Option.some.injEq, Addr.mk.injEq, and_true, true_and] at h'
    obtain ⟨rfl, rfl⟩ := h'
    refine ⟨_, run_copy_str w ty g n n s cur 5 hg (by omega), ?_, below_setRow hb hBg _⟩
    have hcur : cur.toList = bv l := by rw [← ht, List.take_of_length_le (by rw [Array.length_toList, hs]; exact Nat.le_refl _)]
    refine ⟨by rw [bv_length, List.length_append, List.length_take, List.length_drop, hsl]; omega, .inr ⟨g, n, _, rfl, hbg, setRow_heap w g _ _ 5 _ hg, Nat.le_refl _, hm, ?_, ?_⟩⟩
    · rw [hcur]
      simp only [List.size_toArray, List.length_append, bv_length, List.length_take, List.length_drop, hsl]
      omega
    · rw [hcur, bv_append, List.take_of_length_le (by simp only [List.length_append, bv_length, List.length_take, List.length_drop, hsl]; omega)]
      simp [bv, List.map_drop]

theorem Bs.one (w : World) (b : UInt8) (t : TypeId) : Bs (w.alloc (.cells #[.int .u8 (b.toNat : Int)] t)) (.slice (some ⟨w.heap.size, 0, none⟩) 1 1) [b] := by
  refine ⟨by simp [maxLen], _, 1, rfl, Nat.le_refl _, .inr ⟨w.heap.size, 0, rfl, fun j hj => ?_⟩⟩
  have : j = 0 := by simp at hj; omega
  subst this
  exact cell_of_row (w.alloc (.cells #[.int .u8 (b.toNat : Int)] t)) w.heap.size 0 _ t (0, 0) (heap_alloc_new w _)

/-- 'append(a, b...)': a our own, b whatever bytes. -/
theorem wpList_append_bs {w : World} {ops : Array Oper} {rest : List Oper} {o : Oper} {a : Act} {Q : Exit → Act → World → Prop} (hgd : o.guard = none) (s x : Operand)
    (ho : o.op = .call { callee := .builtin .append, args := #[s, x], argTypes := #[23, 23] }) (B : Nat)
    (v : Value) (n : Nat) (l : List UInt8) (hs : a.eval s = v) (hown : w.ownsRow B 5 1 v n (bv l)) (u : Value) (m : List UInt8) (hx : a.eval x = u) (hu : Bs w u m)
    (hbytes : n + m.length ≤ 140737488355328) (hbase : B ≤ w.heap.size) (w0 : World) (hb : Below B w0 w)
    (h : ∀ v' w', w'.ownsRow B 5 1 v' (n + m.length) (bv (l ++ m)) → Below B w0 w' → w.grownBy w' v.ownBlock → wpList Try.prog ops Q rest (a.put o.dst v') w') : wpList Try.prog ops Q (o :: rest) a w := by
  obtain ⟨i0, hi, hz0, hz1, hz2⟩ := info_parts Try.info_u8
  have hB : ∀ k, v.ownBlock = some k → B ≤ k := fun k hk => (hown.lt k hk).1
  obtain ⟨hm, ad, cap, rfl, hcap, hu⟩ := hu
  cases ad with
  | none =>
    have hm0 : m = [] := by
      rcases hu with h | ⟨_, _, h, _⟩
      · exact h
      · cases h
    subst hm0
    refine wpList_plain hgd fun K hK => ?_
    have hrun : (Builtin.append_ #[23, 23] o.type #[v, .slice none 0 cap]).run Try.prog w = .ok v w := by
      rcases hown.2 with ⟨rfl, h0⟩ | ⟨g, c, cur, rfl, hbg, hg, hc, hmm, hsz, ht⟩
      · simp [Builtin.append_, run_underlying Try.underlying23, sizeOf, typeInfo, hi, Builtin.lenOf, Builtin.firstCells]
      · simp [Builtin.append_, run_underlying Try.underlying23, sizeOf, typeInfo, hi, Builtin.lenOf, Builtin.firstCells, hc, storeCells]
    unfold Oper.wp
    simp [execOp, ho, resolve, invoke, builtin, hs, hx, hrun, Result.andThen]
    exact hK _ _ (h v w (by simpa using hown) hb (World.grownBy.refl _ _))
  | some ad =>
    refine wpList_append_own w hgd s x 23 ho B 5 i0 (.int .u8 0) 1 1 Try.underlying23 hi hz0 hz1 hz2 rfl (by decide) v n (bv l) hs hown ad m.length cap (bv m) hx (by rw [bv_length]; omega) ?_ (bv_one m) (by unfold maxLen; omega) (by omega) hbase ?_
    · intro j z hz
      rcases hu with rfl | ⟨b, off, e, hc⟩
      · simp [bv] at hz
      · cases e
        have hj : j < m.length := by
          have := (List.getElem?_eq_some_iff.1 hz).1
          rwa [bv_length] at this
        have he : (⟨b, off, none⟩ : Addr).add j = ⟨b, off + j, none⟩ := by unfold Addr.add; split <;> simp_all
        rw [he, hc j hj, ← hz, bv_get_lt m j hj]
    · intro v' w' ho' hg' _
      exact h v' w' (by rw [bv_append]; exact ho') (hb.grown hg' hbase hB) hg'

/-- WHAT THE WALK IS TOLD OF A SLICE OF INTEGERS THAT CAME IN. -/
def IsRow (k : IntKind) (w : World) (a : Option Addr) (len cap : Nat) (zs : List Int) : Prop :=
  (a = none ∧ len = 0 ∧ cap = 0 ∧ zs = []) ∨
  ∃ x, a = some x ∧ len ≤ cap ∧ cap ≤ maxLen ∧ zs.length = cap ∧ (∀ i, i < zs.length → w.cell? (x.add i) = some (.int k (zs.getD i 0))) ∧ ∀ n ∈ zs, (Lit.int k n).wf = true

theorem IsRow.bs {w : World} {a : Option Addr} {len cap : Nat} {zs : List Int} (h : IsRow .u8 w a len cap zs) : ∃ l : List UInt8, l.length = len ∧ Bs w (.slice a len cap) l := by
  rcases h with ⟨rfl, rfl, rfl, rfl⟩ | ⟨x, rfl, hl, hm, hz, hc, hw⟩
  · exact ⟨[], rfl, Bs.nil w⟩
  · have hlen : ((zs.take len).map fun n => UInt8.ofNat n.toNat).length = len := by simp; omega
    refine ⟨(zs.take len).map fun n => UInt8.ofNat n.toNat, hlen, by rw [hlen]; omega, some x, cap, by rw [hlen], by rw [hlen]; exact hl, ?_⟩
    by_cases h0 : len = 0
    · left; subst h0; simp
    · right
      obtain ⟨b, off, spot⟩ := x
      have hspot : spot = none := by simpa [Addr.add] using World.cell?_spot (hc 0 (by omega))
      subst hspot
      refine ⟨b, off, rfl, fun j hj => ?_⟩
      rw [hlen] at hj
      have hj' : j < zs.length := by omega
      have e := hc j hj'
      have ha : (⟨b, off, none⟩ : Addr).add j = ⟨b, off + j, none⟩ := by unfold Addr.add; split <;> simp_all
      rw [ha] at e
      rw [e]
      have hwf := bounds_u8 (hw zs[j] (List.getElem_mem hj'))
      simp [List.getD, List.getElem?_eq_getElem hj']
      omega
end Go.Proofs.Ytoflkbilkkfekaa

namespace Go.Proofs.Ytoflkbilkkfekaa
open Go.ChangeShapes Go.WideShapes Go.ChangeAt Go.RowKit
open Go.ChangeMaps (open_string shut_string)
set_option linter.unusedVariables false
set_option linter.unusedSimpArgs false

/-! What the arguments are that come in. -/
def RInt (k : IntKind) (v : Value) : Prop := ∃ n : Int, v = .int k n ∧ (Lit.int k n).wf = true
def RBool (v : Value) : Prop := ∃ b : Bool, v = .bool b
def RStr (v : Value) : Prop := ∃ s : ByteArray, v = .string s ∧ s.size ≤ maxLen
def RBytes (w : World) (v : Value) : Prop := ∃ l : List UInt8, Bs w v l
def RArr (k : IntKind) (n : Nat) (v : Value) : Prop := ∃ zs : List Int, zs.length = n ∧ v = .agg (zs.map (Value.int k)).toArray ∧ ∀ z ∈ zs, (Lit.int k z).wf = true

section
variable {H : Type} {enc : TypeId × Value → H} {P : Program} {w : World} {r : Reach} {base : Nat} {t : TypeId} {v : Value} {d : DataW H} {p : List MemPlace}
theorem rd_int {k : IntKind} (ht : P.underlying t = some (.int k)) (hv : Value.okWide P w r base t v) (h : DataW.Trod enc P w 0 (fun _ => true) true t v d p) : RInt k v := by
  obtain ⟨n, rfl, _, _, wf⟩ := open_int ht hv h
  exact ⟨n, rfl, wf⟩
theorem rd_bool (ht : P.underlying t = some .bool) (hv : Value.okWide P w r base t v) (h : DataW.Trod enc P w 0 (fun _ => true) true t v d p) : RBool v := okWide_bool ht hv
theorem rd_string (ht : P.underlying t = some .string) (hv : Value.okWide P w r base t v) (h : DataW.Trod enc P w 0 (fun _ => true) true t v d p) : RStr v := by
  obtain ⟨s, rfl, _, _, hs⟩ := open_string ht hv h
  exact ⟨s, rfl, hs⟩
theorem rd_bytes {e : TypeId} (ht : P.underlying t = some (.slice e)) (he : P.underlying e = some (.int .u8)) (hc : P.cellsOf e = 1) (hv : Value.okWide P w r base t v) (h : DataW.Trod enc P w 0 (fun _ => true) true t v d p) : RBytes w v := by
  obtain ⟨a, len, cap, rfl⟩ := okWide_slice ht hv
  obtain ⟨fuel, hf⟩ := h
  have hrow : ∃ zs, IsRow .u8 w a len cap zs := by
    rcases open_ints ht he hc hf with ⟨hcs, _⟩ | ⟨x, l, c, zs, hcs, _, hl, hm, hz, _, hcell, hwz⟩
    · simp [Value.cells] at hcs
      obtain ⟨rfl, rfl, rfl⟩ := hcs
      exact ⟨[], .inl ⟨rfl, rfl, rfl, rfl⟩⟩
    · simp [Value.cells] at hcs
      obtain ⟨rfl, rfl, rfl⟩ := hcs
      exact ⟨zs, .inr ⟨_, rfl, hl, hm, by simpa using hz, hcell, hwz⟩⟩
  obtain ⟨zs, hz⟩ := hrow
  obtain ⟨l, _, hb⟩ := hz.bs
  exact ⟨l, hb⟩
theorem rd_arr {n : Nat} {e : TypeId} {k : IntKind} (ht : P.underlying t = some (.array n e)) (he : P.underlying e = some (.int k)) (hc : P.cellsOf e = 1) (hct : P.cellsOf t = n) (hv : Value.okWide P w r base t v) (h : DataW.Trod enc P w 0 (fun _ => true) true t v d p) : RArr k n v := by
  unfold Value.okWide at hv
  rw [ht] at hv
  obtain ⟨cs, rfl, hsz, _⟩ := hv
  rw [hct] at hsz
  obtain ⟨fuel, hf⟩ := h
  obtain ⟨xs, m, _, _, hl, hxs, hall⟩ := DataW.trod_array ht hf
  have hget : ∀ i, i < n → ∃ z : Int, cs[i]? = some (.int k z) ∧ (Lit.int k z).wf = true := by
    intro i hi
    have h1 := hall i hi
    rw [hc, Nat.mul_one] at h1
    have hlt : i < cs.toList.length := by rw [Array.length_toList]; omega
    have h2 : (List.drop i (Value.agg cs).cells.toList).take 1 = [cs[i]'(by omega)] := by
      show (List.drop i cs.toList).take 1 = _
      rw [List.drop_eq_getElem_cons hlt]
      simp
    rw [h2, List.getElem?_eq_getElem (by omega)] at h1
    obtain ⟨z, e0, _, wz⟩ := DataW.trod_int he h1
    simp at e0
    exact ⟨z, by rw [Array.getElem?_eq_getElem (by omega), e0], wz⟩
  refine ⟨cs.toList.map (fun v => match v with | .int _ z => z | _ => 0), by simp [hsz], ?_, ?_⟩
  · congr 1
    apply Array.ext
    · simp
    · intro i h1 h2
      obtain ⟨z, hz, _⟩ := hget i (by omega)
      rw [Array.getElem?_eq_getElem h1] at hz
      simp at hz
      simp [hz]
  · intro z hz
    obtain ⟨v, hv, rfl⟩ := List.mem_map.1 hz
    obtain ⟨i, hi, rfl⟩ := List.mem_iff_getElem.1 hv
    rw [Array.length_toList] at hi
    obtain ⟨z, hz, wz⟩ := hget i (by omega)
    rw [Array.getElem?_eq_getElem hi] at hz
    simp at hz
    simpa [hz] using wz
end
end Go.Proofs.Ytoflkbilkkfekaa

namespace Go.Proofs.Ytoflkbilkkfekaa
open Go.ChangeShapes Go.WideShapes Go.ChangeAt Go.RowKit
set_option linter.unusedVariables false
set_option linter.unusedSimpArgs false

theorem isWidth_any (a : Int) (w : World) :
    Calls Try.prog 20 #[.int .i64 a] w fun e w' => e = .returned (.bool (isW a)) ∧ w' = w := by
  unfold isW
  by_cases h1 : 1 ≤ a
  · by_cases h2 : a ≤ 8
    all_goals
      go_enter Try.func20, Try.ntmps20
      go_wp2
      go_ret
      refine ⟨ret_bool (by first | (simp; done) | (simp; omega)), rfl⟩
  · go_enter Try.func20, Try.ntmps20
    go_wp2
    go_ret
    refine ⟨ret_bool (by first | (simp; done) | (simp; omega)), rfl⟩

/-- one bit more -/
theorem u64_step {r z k o : Nat} (hk : k < 64) (hr : r < 2 ^ k) (ho : o = 2 ^ k) :
    IntKind.u64.wrap ((r : Int) + IntKind.u64.wrap ((z : Int) % 2 * (o : Int))) = ((r + z % 2 * 2 ^ k : Nat) : Int) := by
  subst ho
  have h1 : 2 ^ k * 2 ≤ 18446744073709551616 := by rw [← Nat.pow_succ]; exact two_pow_lt64 (by omega)
  have h2 : z % 2 * 2 ^ k ≤ 1 * 2 ^ k := Nat.mul_le_mul_right _ (by omega)
  have e : (z : Int) % 2 * ((2 ^ k : Nat) : Int) = ((z % 2 * 2 ^ k : Nat) : Int) := by rw [Int.natCast_mul]; rfl
  rw [e, IntKind.wrap_u64, IntKind.wrap_u64]
  omega
theorem u64_two {k o : Nat} (hk : k < 64) (ho : o = 2 ^ k) : ∃ q : Nat, IntKind.u64.wrap ((o : Int) * 2) = (q : Int) ∧ q ≤ 18446744073709551615 ∧ (k + 1 < 64 → q = 2 ^ (k + 1)) := by
  refine ⟨(2 ^ (k + 1)) % 18446744073709551616, by rw [IntKind.wrap_u64, ho, Nat.pow_succ]; omega, by omega, fun h => Nat.mod_eq_of_lt ?_⟩
  have : 2 ^ (k + 1) < 2 ^ 64 := Nat.pow_lt_pow_right (by omega) h
  simpa using this

theorem setN_mod_y (x f n y k : Nat) (h1 : f ≤ k) (h2 : k < f + n) : setN x f n y % 2 ^ (k + 1) = setN x f n y % 2 ^ k + y / 2 ^ (k - f) % 2 * 2 ^ k := by
  rw [mod_succ, bit_mod, bit_mod, setN_bit, if_pos ⟨h1, h2⟩]
theorem setN_mod_x (x f n y k : Nat) (h : ¬ (f ≤ k ∧ k < f + n)) : setN x f n y % 2 ^ (k + 1) = setN x f n y % 2 ^ k + x / 2 ^ k % 2 * 2 ^ k := by
  rw [mod_succ, bit_mod, bit_mod, setN_bit, if_neg h]
end Go.Proofs.Ytoflkbilkkfekaa

namespace Go.Proofs.Ytoflkbilkkfekaa
open Go.ChangeShapes Go.WideShapes Go.ChangeAt Go.RowKit
set_option linter.unusedVariables false
set_option linter.unusedSimpArgs false

theorem ret_pair {a b : Int} {c d : Bool} (h : a = b) (k : c = d) : Ending.returned (.tuple #[.int .u64 a, .bool c]) = .returned (.tuple #[.int .u64 b, .bool d]) := by rw [h, k]

theorem seg_big_step (l : List UInt8) (a k : Nat) (h : a + k < l.length) (hk : k < 8) : bigOf (seg l a (k + 1)) = bigOf (seg l a k) * 256 + l[a + k].toNat ∧ bigOf (seg l a k) * 256 + 255 < 18446744073709551616 := by
  refine ⟨by rw [seg_snoc l a k h, bigOf_snoc], ?_⟩
  have h1 := bigOf_lt (seg l a k)
  rw [seg_length l a k (by omega)] at h1
  have h2 := pow256 (k := k + 1) (by omega)
  rw [Nat.pow_succ] at h2
  omega
theorem rbig_no (ad : Option Addr) (len cap : Nat) (a n : Int) (w : World) (hm : len ≤ maxLen) (hh : ¬ (1 ≤ n ∧ n ≤ 8 ∧ 0 ≤ a ∧ a ≤ len - n)) :
    Calls Try.prog 13 #[.slice ad len cap, .int .i64 a, .int .i64 n] w fun e w' => e = .returned (.tuple #[.int .u64 0, .bool false]) ∧ w' = w := by
  unfold maxLen at hm
  by_cases h1 : n < 1
  · clear hh; go_enter Try.func13, Try.ntmps13
    go_wp2
    go_ret2
    exact ⟨rfl, rfl⟩
  · by_cases h2 : 8 < n
    · clear hh; go_enter Try.func13, Try.ntmps13
      go_wp2
      go_ret2
      exact ⟨rfl, rfl⟩
    · by_cases h3 : a < 0
      · clear hh; go_enter Try.func13, Try.ntmps13
        go_wp2
        go_ret2
        exact ⟨rfl, rfl⟩
      · by_cases h4 : (len : Int) < n
        · clear hh; go_enter Try.func13, Try.ntmps13
          go_wp2
          go_ret2
          exact ⟨rfl, rfl⟩
        · have h5 : (len : Int) - n < a := by omega
          clear hh; go_enter Try.func13, Try.ntmps13
          go_wp2
          go_ret2
          exact ⟨rfl, rfl⟩
theorem rbig_yes (bk off len cap : Nat) (l : List UInt8) (a n : Nat) (w : World) (hn : 1 ≤ n) (hn8 : n ≤ 8) (hl : l.length = len) (hm : len ≤ maxLen) (ha : a + n ≤ len)
   (hc : ∀ i (h : i < l.length), w.cell? ⟨bk, off + i, none⟩ = some (.int .u8 (l[i].toNat : Int))) :
    Calls Try.prog 13 #[.slice (some ⟨bk, off, none⟩) len cap, .int .i64 a, .int .i64 n] w fun e w' => e = .returned (.tuple #[.int .u64 (bigOf (seg l a n)), .bool true]) ∧ w' = w := by
  unfold maxLen at hm
  have h5 : (a : Int) ≤ (len : Int) - n := by omega
  go_enter Try.func13, Try.ntmps13
  go_wp2
  go_loop [8, 9] (fun x i => ∃ k : Nat, k ≤ n ∧ i = .int .i64 k ∧ ∃ z : Nat, Hid (z = bigOf (seg l a k)) ∧ z ≤ 18446744073709551615 ∧ x = .int .u64 z) (fun _ i => n - (intOf i).toNat)
  case atStart => exact ⟨0, Nat.zero_le _, rfl, 0, by simp [Hid, seg_zero, bigOf], by omega, rfl⟩
  case round =>
    obtain ⟨k, hk, rfl, z, hz, hz64, rfl⟩ := hrel
    by_cases hlt : k < n
    · have hcx := hc (a + k) (by omega)
      have hs := seg_big_step l a k (by omega) (by omega)
      have hbb := l[a + k].toNat_lt
      rw [← hz.out] at hs
      generalize l[a + k].toNat = b at hcx hbb hs
      obtain ⟨s1, s2⟩ := hs
      have S1 := hide s1
      clear hc s1
      go_wp2
      go_round
      case rel => exact ⟨k + 1, by omega, by go_num, z * 256 + b, S1.out.symm, by omega, by go_num⟩
      case measure => simp [intOf]; omega
    · have hkn : Hid (k = n) := by unfold Hid; omega
      go_wp2
      go_ret2
      exact ⟨ret_pair (by rw [hz.out, hkn.out]) rfl, rfl⟩

theorem seg_little_up (l : List UInt8) (a k : Nat) (h : a + k < l.length) (hk : k < 8) : littleOf (seg l a (k + 1)) = littleOf (seg l a k) + l[a + k].toNat * 256 ^ k ∧ littleOf (seg l a k) < 256 ^ k := by
  have h1 := littleOf_lt (seg l a k)
  rw [seg_length l a k (by omega)] at h1
  exact ⟨by rw [seg_snoc l a k h, littleOf_snoc, seg_length l a k (by omega)], h1⟩
theorem seg_little_down (l : List UInt8) (a n j : Nat) (h : a + n ≤ l.length) (hn : n ≤ 8) (hj : j < n) : littleOf (seg l (a + j) (n - j)) = littleOf (seg l (a + (j + 1)) (n - (j + 1))) * 256 + (l[a + j]'(by omega)).toNat ∧ littleOf (seg l (a + j) (n - j)) < 18446744073709551616 := by
  refine ⟨?_, seg_little_lt _ _ _ (by omega)⟩
  obtain ⟨m, hm⟩ : ∃ m, n - j = m + 1 := ⟨n - j - 1, by omega⟩
  rw [hm, seg_cons l (a + j) m (by omega), littleOf_cons, show n - (j + 1) = m from by omega]
  rfl
end Go.Proofs.Ytoflkbilkkfekaa

namespace Go.Proofs.Ytoflkbilkkfekaa
open Go.ChangeShapes Go.WideShapes Go.ChangeAt Go.RowKit
set_option linter.unusedVariables false
set_option linter.unusedSimpArgs false

def putLe (x n : Nat) : List UInt8 := (List.range n).map fun i => UInt8.ofNat (x / 256 ^ i)
def putBe (x n : Nat) : List UInt8 := (putLe x n).reverse
theorem putLe_length (x n : Nat) : (putLe x n).length = n := by simp [putLe]
theorem putBe_length (x n : Nat) : (putBe x n).length = n := by simp [putBe, putLe]

/-- the first k bytes laid, zeros behind -/
def partLe (x n k : Nat) : List UInt8 := putLe x k ++ List.replicate (n - k) 0
theorem partLe_set (x n k : Nat) (h : k < n) : partLe x n (k + 1) = (partLe x n k).set k (UInt8.ofNat (x / 256 ^ k)) := by
  unfold partLe
  rw [List.set_append_right _ _ (by rw [putLe_length]; exact Nat.le_refl _), putLe_length, Nat.sub_self]
  obtain ⟨m, hm⟩ : ∃ m, n - k = m + 1 := ⟨n - k - 1, by omega⟩
  rw [hm, show n - (k + 1) = m from by omega, List.replicate_succ, List.set_cons_zero]
  simp [putLe, List.range_succ]
theorem shr_byte (x k : Nat) : (x : Int) / 2 ^ (8 * k) % 256 = ((UInt8.ofNat (x / 256 ^ k)).toNat : Int) := by
  rw [UInt8.toNat_ofNat']
  have e : ((x : Int) / 2 ^ (8 * k)) = ((x / 256 ^ k : Nat) : Int) := by
    rw [Int.natCast_ediv, Int.natCast_pow, Int.pow_mul]; rfl
  rw [e]; rfl
theorem mod_byte (z : Nat) : (z : Int) % 256 = ((UInt8.ofNat z).toNat : Int) := by
  rw [UInt8.toNat_ofNat']; rfl
theorem div_byte (x k : Nat) : x / 256 ^ k / 256 = x / 256 ^ (k + 1) := by rw [Nat.div_div_eq_div_mul, Nat.pow_succ]
/-- the last k bytes laid, zeros ahead -/
def partBe (x n k : Nat) : List UInt8 := (partLe x n k).reverse
theorem partLe_length (x n k : Nat) (h : k ≤ n) : (partLe x n k).length = n := by simp [partLe, putLe_length]; omega
theorem reverse_set' {α : Type} (l : List α) (k : Nat) (b : α) (h : k < l.length) : (l.set k b).reverse = l.reverse.set (l.length - 1 - k) b := by
  apply List.ext_getElem
  · simp
  · intro i h1 h2
    simp only [List.length_reverse, List.length_set] at h1 h2
    simp only [List.getElem_reverse, List.getElem_set, List.length_set]
    by_cases e : k = l.length - 1 - i
    · rw [if_pos e, if_pos (by omega)]
    · rw [if_neg e, if_neg (by omega)]
theorem partBe_set (x n k : Nat) (h : k < n) : partBe x n (k + 1) = (partBe x n k).set (n - 1 - k) (UInt8.ofNat (x / 256 ^ k)) := by
  unfold partBe
  rw [partLe_set x n k h, reverse_set' _ _ _ (by rw [partLe_length x n k (by omega)]; exact h), partLe_length x n k (by omega)]
theorem partBe_zero (x n : Nat) : partBe x n 0 = List.replicate n 0 := by simp [partBe, partLe, putLe]
theorem partLe_zero (x n : Nat) : partLe x n 0 = List.replicate n 0 := by simp [partLe, putLe]
theorem partBe_all (x n : Nat) : partBe x n n = putBe x n := by simp [partBe, partLe, putBe]
theorem partLe_all (x n : Nat) : partLe x n n = putLe x n := by simp [partLe]
theorem made_zero (n : Nat) : (madeCells #[Value.int .u8 0] n).toList = bv (List.replicate n 0) := by
  rw [bv_replicate]; exact toList_madeCells_one _ _

/-- one byte stored into a row of our own -/
theorem put_step {w w1 : World} {B g n k : Nat} {l : List UInt8} {b : UInt8} (hb : Below B w w1) (hBg : B ≤ g)
    (h : w1.ownsRow B 5 1 (.slice (some ⟨g, 0, none⟩) n n) n (bv l)) :
    (w1.setCell ⟨g, k, none⟩ (.int .u8 (b.toNat : Int))).ownsRow B 5 1 (.slice (some ⟨g, 0, none⟩) n n) n (bv (l.set k b)) ∧ Below B w (w1.setCell ⟨g, k, none⟩ (.int .u8 (b.toNat : Int))) := by
  refine ⟨?_, hb.setCell hBg _⟩
  rw [bv_set]
  exact (h.stored k _).1
theorem put_cell {w1 : World} {B g n k : Nat} {l : List UInt8} (hk : k < n)
    (h : w1.ownsRow B 5 1 (.slice (some ⟨g, 0, none⟩) n n) n (bv l)) : ∃ u : Value, w1.cell? ⟨g, k, none⟩ = some u := by
  rw [h.cellAt k (by omega)]
  have : k < (bv l).length := by rw [h.1]; omega
  exact ⟨(bv l)[k], by simp [this]⟩

theorem putBig_no (x n : Int) (w : World) (hn : isW n = false) :
    Calls Try.prog 18 #[.int .u64 x, .int .i64 n] w fun e w' => e = .returned (.slice none 0 0) ∧ w' = w := by
  go_enter Try.func18, Try.ntmps18
  go_wp2_with (go_at_call 20; refine (isWidth_any _ _).mono ?_; rintro e w' ⟨rfl, rfl⟩)
  go_ret
  exact ⟨rfl, rfl⟩
set_option maxHeartbeats 400000 in
theorem putBig_yes (x n : Nat) (w : World) (B : Nat) (hB : B ≤ w.heap.size) (hn1 : 1 ≤ n) (hn8 : n ≤ 8) (hx : x ≤ 18446744073709551615) :
    Calls Try.prog 18 #[.int .u64 x, .int .i64 n] w fun e w' => ∃ v, e = .returned v ∧ Below B w w' ∧ w'.ownsRow B 5 1 v n (bv (putBe x n)) := by
  have hw : isW n = true := by simp [isW]; omega
  obtain ⟨i0, hi, hz0, hz1, hz2⟩ := info_parts Try.info_u8
  have HZ := hide hz2
  clear hz2
  go_enter Try.func18, Try.ntmps18
  go_wp2_with (first
    | (go_at_call 20; refine (isWidth_any _ _).mono ?_; rintro e w' ⟨rfl, rfl⟩)
    | (at_make; refine wpList_make_full _ rfl _ _ 23 rfl B 5 i0 (.int .u8 0) 1 Try.underlying23 hi hz0 hz1 .i64 .i64 _ _ n rfl rfl rfl rfl ?c1 ?c2 ?c3 ?_))
  case c1 => rw [HZ.out]; omega
  case c2 => unfold maxLen; omega
  case c3 => exact hB
  rintro w1 hown hgrow
  have hb1 : Below B w' w1 := (Below.refl _ _).grown hgrow hB (fun k e => by cases e)
  rw [made_zero] at hown
  clear hgrow
  go_wp2
  go_loopw [13] (fun i wr => ∃ k : Nat, k ≤ n ∧ i = .int .i64 k ∧ wr.ownsRow B 5 1 (.slice (some ⟨w'.heap.size, 0, none⟩) n n) n (bv (partBe x n k)) ∧ Below B w' wr) (fun i _ => n - (intOf i).toNat)
  case atStart => exact ⟨0, Nat.zero_le _, rfl, by rw [partBe_zero]; exact hown, hb1⟩
  case round =>
    obtain ⟨k, hk, rfl, hownk, hbk⟩ := hrel
    by_cases hlt : k < n
    · obtain ⟨u, hcell⟩ := put_cell (k := (n - 1 - k)) (by omega) hownk
      have hfz := hownk.frozenAt (n - 1 - k)
      have hs := hide (put_step (k := (n - 1 - k)) (b := UInt8.ofNat (x / 256 ^ k)) hbk hB hownk)
      clear hownk hbk hown hb1
      go_wp2
      go_roundw
      case rel =>
        refine ⟨k + 1, by omega, by go_num, ?_⟩
        rw [partBe_set x n k hlt]
        simp only [shr_byte]
        exact hs.out
      case measure => simp [intOf] <;> omega
    · have hkn : Hid (k = n) := by unfold Hid; omega
      go_wp2
      go_ret
      refine ⟨_, rfl, hbk, ?_⟩
      have := hownk
      rw [hkn.out, partBe_all] at this
      exact this
theorem rputBig_no (x n : Int) (w : World) (hn : isW n = false) :
    Calls Try.prog 15 #[.int .u64 x, .int .i64 n] w fun e w' => e = .returned (.slice none 0 0) ∧ w' = w := by
  simp [isW] at hn
  by_cases h1 : n < 1
  all_goals
    go_enter Try.func15, Try.ntmps15
    go_wp2
    go_ret
    exact ⟨rfl, rfl⟩
set_option maxHeartbeats 400000 in
theorem rputBig_yes (x n : Nat) (w : World) (B : Nat) (hB : B ≤ w.heap.size) (hn1 : 1 ≤ n) (hn8 : n ≤ 8) (hx : x ≤ 18446744073709551615) :
    Calls Try.prog 15 #[.int .u64 x, .int .i64 n] w fun e w' => ∃ v, e = .returned v ∧ Below B w w' ∧ w'.ownsRow B 5 1 v n (bv (putBe x n)) := by
  have hw : isW n = true := by simp [isW]; omega
  obtain ⟨i0, hi, hz0, hz1, hz2⟩ := info_parts Try.info_u8
  have HZ := hide hz2
  clear hz2
  go_enter Try.func15, Try.ntmps15
  go_wp2_with (first
    | (go_at_call 20; refine (isWidth_any _ _).mono ?_; rintro e w' ⟨rfl, rfl⟩)
    | (at_make; refine wpList_make_full _ rfl _ _ 23 rfl B 5 i0 (.int .u8 0) 1 Try.underlying23 hi hz0 hz1 .i64 .i64 _ _ n rfl rfl rfl rfl ?c1 ?c2 ?c3 ?_))
  case c1 => rw [HZ.out]; omega
  case c2 => unfold maxLen; omega
  case c3 => exact hB
  rintro w1 hown hgrow
  have hb1 : Below B w w1 := (Below.refl _ _).grown hgrow hB (fun k e => by cases e)
  rw [made_zero] at hown
  clear hgrow
  go_wp2
  go_loopw [0, 6] (fun t i wr => ∃ k : Nat, k ≤ n ∧ i = .int .i64 ((n : Int) - 1 - (k : Int)) ∧ (∃ z : Nat, Hid (z = x / 256 ^ k) ∧ z ≤ 18446744073709551615 ∧ t = .int .u64 z) ∧ wr.ownsRow B 5 1 (.slice (some ⟨w.heap.size, 0, none⟩) n n) n (bv (partBe x n k)) ∧ Below B w wr) (fun _ i _ => (intOf i + 1).toNat)
  case atStart => exact ⟨0, Nat.zero_le _, by simp, ⟨x, by simp [Hid], hx, rfl⟩, by rw [partBe_zero]; exact hown, hb1⟩
  case round =>
    obtain ⟨k, hk, rfl, ⟨z, hz, hz64, rfl⟩, hownk, hbk⟩ := hrel
    by_cases hlt : k < n
    · obtain ⟨u, hcell⟩ := put_cell (k := (n - 1 - k)) (by omega) hownk
      have hfz := hownk.frozenAt (n - 1 - k)
      have hs := hide (put_step (k := (n - 1 - k)) (b := UInt8.ofNat z) hbk hB hownk)
      clear hownk hbk hown hb1
      go_wp2
      go_roundw
      case rel =>
        refine ⟨k + 1, by omega, by go_num, ⟨z / 256, by unfold Hid; rw [hz.out, div_byte], by omega, by go_num⟩, ?_⟩
        rw [partBe_set x n k hlt, ← hz.out]
        simp only [mod_byte]
        exact hs.out
      case measure => simp [intOf] <;> omega
    · have hkn : Hid (k = n) := by unfold Hid; omega
      go_wp2
      go_ret
      refine ⟨_, rfl, hbk, ?_⟩
      have := hownk
      rw [hkn.out, partBe_all] at this
      exact this
end Go.Proofs.Ytoflkbilkkfekaa
