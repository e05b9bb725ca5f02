import Derived.WalkKit
namespace Go.Proofs.Ytfefnkeognccpaa
/-! Plain numbers: bytes, bits. -/
theorem hide {p : Prop} (h : p) : RowKit.Hid p := h
theorem unhide {p : Prop} (h : RowKit.Hid p) : p := h
theorem ret_int {k : IntKind} {a b : Int} (h : a = b) : Ending.returned (.int k a) = .returned (.int k b) := by rw [h]
theorem ret_bool {a b : Bool} (h : a = b) : Ending.returned (.bool a) = .returned (.bool b) := by rw [h]

def areB (f n : Int) : Bool := decide (1 ≤ n ∧ n ≤ 64 ∧ 0 ≤ f ∧ f ≤ 64 - n)
def isW (a : Int) : Bool := decide (1 ≤ a ∧ a ≤ 8)
def holdsB (c a n : Int) : Bool := decide (1 ≤ n ∧ n ≤ 8 ∧ 0 ≤ a ∧ a ≤ c - n)
def bitsN (x f n : Nat) : Nat := x / 2 ^ f % 2 ^ n
def setN (x f n y : Nat) : Nat := 2 ^ f * (2 ^ n * (x / 2 ^ (f + n)) + y % 2 ^ n) + x % 2 ^ f

theorem areB_nat {f n : Int} (h : areB f n = true) : ∃ a b : Nat, f = a ∧ n = b ∧ 1 ≤ b ∧ a + b ≤ 64 := by
  simp [areB] at h
  exact ⟨f.toNat, n.toNat, by omega, by omega, by omega, by omega⟩

theorem mask_eq (n : Nat) (h : n ≤ 64) : (18446744073709551615 : Int) / 2 ^ (64 - n) = ((2 ^ n - 1 : Nat) : Int) := by
  have hp : (0 : Nat) < 2 ^ (64 - n) := Nat.two_pow_pos _
  have hq : 2 ^ n * 2 ^ (64 - n) = 18446744073709551616 := by rw [← Nat.pow_add, show n + (64 - n) = 64 from by omega]
  have hn : (0 : Nat) < 2 ^ n := Nat.two_pow_pos _
  have e : (18446744073709551615 : Nat) / 2 ^ (64 - n) = 2 ^ n - 1 := by
    apply Nat.div_eq_of_lt_le
    · rw [Nat.sub_mul, hq]; omega
    · rw [show 2 ^ n - 1 + 1 = 2 ^ n from by omega, hq]; omega
  rw [← e]
  simp [Int.natCast_ediv, Int.natCast_pow]

theorem two_pow_lt64 {a : Nat} (h : a ≤ 64) : 2 ^ a ≤ 18446744073709551616 := by
  have : 2 ^ a ≤ 2 ^ 64 := Nat.pow_le_pow_right (by omega) h
  simpa using this

theorem bits_go (x f n : Nat) (h2 : f + n ≤ 64) (hx : x ≤ 18446744073709551615) :
    bits .and .u64 ((x : Int) / 2 ^ f) ((18446744073709551615 : Int) / 2 ^ (64 - n)) = (bitsN x f n : Int) := by
  rw [mask_eq n (by omega)]
  have e : (x : Int) / 2 ^ f = ((x / 2 ^ f : Nat) : Int) := by simp [Int.natCast_ediv, Int.natCast_pow]
  have h1 : x / 2 ^ f ≤ x := Nat.div_le_self _ _
  have h3 := two_pow_lt64 (a := n) (by omega)
  rw [e, u64_and_nat _ _ (by omega) (by omega), Nat.and_two_pow_sub_one_eq_mod]
  rfl

theorem bitsN_lt (x f n : Nat) : bitsN x f n < 2 ^ n := Nat.mod_lt _ (Nat.two_pow_pos _)
theorem bitsN_le64 (x f n : Nat) (h : f + n ≤ 64) : bitsN x f n ≤ 18446744073709551615 := by
  have := bitsN_lt x f n; have := two_pow_lt64 (a := n) (by omega); omega

theorem setN_bit (x f n y i : Nat) : (setN x f n y).testBit i = if f ≤ i ∧ i < f + n then y.testBit (i - f) else x.testBit i := by
  unfold setN
  rw [Nat.testBit_two_pow_mul_add _ (Nat.mod_lt _ (Nat.two_pow_pos _))]
  by_cases h1 : i < f
  · rw [if_pos h1, if_neg (by omega), Nat.testBit_mod_two_pow]; simp [h1]
  · rw [if_neg h1, Nat.testBit_two_pow_mul_add _ (Nat.mod_lt _ (Nat.two_pow_pos _))]
    by_cases h2 : i < f + n
    · rw [if_pos (by omega), if_pos (by omega), Nat.testBit_mod_two_pow]; simp; omega
    · rw [if_neg (by omega), if_neg (by omega), Nat.testBit_div_two_pow]; congr 1; omega

theorem bitsN_bit (x f n i : Nat) : (bitsN x f n).testBit i = (decide (i < n) && x.testBit (f + i)) := by
  unfold bitsN
  rw [Nat.testBit_mod_two_pow, Nat.testBit_div_two_pow, Nat.add_comm]

theorem lt_of_bits {x : Nat} (h : ∀ i, 64 ≤ i → x.testBit i = false) : x ≤ 18446744073709551615 := by
  have : x < 2 ^ 64 := Nat.lt_pow_two_of_testBit x (fun i hi => h i hi)
  omega
theorem bit_of_lt {x : Nat} (h : x ≤ 18446744073709551615) (i : Nat) (hi : 64 ≤ i) : x.testBit i = false := by
  apply Nat.testBit_lt_two_pow
  have : 2 ^ 64 ≤ 2 ^ i := Nat.pow_le_pow_right (by omega) hi
  omega

theorem setN_le64 (x f n y : Nat) (h : f + n ≤ 64) (hx : x ≤ 18446744073709551615) : setN x f n y ≤ 18446744073709551615 := by
  apply lt_of_bits
  intro i hi
  rw [setN_bit, if_neg (by omega)]
  exact bit_of_lt hx i hi

theorem set_go (x f n y : Nat) (h2 : f + n ≤ 64) (hx : x ≤ 18446744073709551615) (hy : y ≤ 18446744073709551615) :
    bits .or .u64 (bits .andNot .u64 (x : Int) (IntKind.u64.wrap ((18446744073709551615 : Int) / 2 ^ (64 - n) * 2 ^ f)))
      (IntKind.u64.wrap (bits .and .u64 (y : Int) ((18446744073709551615 : Int) / 2 ^ (64 - n)) * 2 ^ f)) = (setN x f n y : Int) := by
  rw [mask_eq n (by omega)]
  have hn := two_pow_lt64 (a := n) (by omega)
  have hn0 := Nat.two_pow_pos n
  have hf0 := Nat.two_pow_pos f
  have hfn := two_pow_lt64 (a := f + n) (by omega)
  rw [Nat.pow_add] at hfn
  rw [u64_and_nat y _ (by omega) (by omega), Nat.and_two_pow_sub_one_eq_mod]
  have m1 : (2 ^ n - 1) * 2 ^ f < 18446744073709551616 := by
    have : (2 ^ n - 1) * 2 ^ f < 2 ^ n * 2 ^ f := Nat.mul_lt_mul_of_pos_right (by omega) hf0
    rw [Nat.mul_comm (2 ^ n)] at this; omega
  have m2 : (y % 2 ^ n) * 2 ^ f < 18446744073709551616 := by
    have : (y % 2 ^ n) * 2 ^ f < 2 ^ n * 2 ^ f := Nat.mul_lt_mul_of_pos_right (Nat.mod_lt _ hn0) hf0
    rw [Nat.mul_comm (2 ^ n)] at this; omega
  have e1 : ((2 ^ n - 1 : Nat) : Int) * 2 ^ f = (((2 ^ n - 1) * 2 ^ f : Nat) : Int) := by rw [Int.natCast_mul, Int.natCast_pow]; rfl
  have e2 : ((y % 2 ^ n : Nat) : Int) * 2 ^ f = ((y % 2 ^ n * 2 ^ f : Nat) : Int) := by rw [Int.natCast_mul, Int.natCast_pow]; rfl
  rw [e1, e2, IntKind.wrap_u64, IntKind.wrap_u64]
  rw [show (((2 ^ n - 1) * 2 ^ f : Nat) : Int) % 18446744073709551616 = (((2 ^ n - 1) * 2 ^ f : Nat) : Int) from by omega,
    show ((y % 2 ^ n * 2 ^ f : Nat) : Int) % 18446744073709551616 = ((y % 2 ^ n * 2 ^ f : Nat) : Int) from by omega]
  rw [u64_andNot_nat x _ (by omega) m1]
  have ha : x &&& (18446744073709551615 - (2 ^ n - 1) * 2 ^ f) ≤ x := Nat.and_le_left
  rw [u64_or_nat _ _ (by omega) m2]
  congr 1
  apply Nat.eq_of_testBit_eq
  intro i
  rw [setN_bit, Nat.testBit_or, Nat.testBit_and]
  rw [show 18446744073709551615 - (2 ^ n - 1) * 2 ^ f = 2 ^ 64 - ((2 ^ n - 1) * 2 ^ f + 1) from by omega, Nat.testBit_two_pow_sub_succ (by omega)]
  rw [← Nat.shiftLeft_eq, ← Nat.shiftLeft_eq, Nat.testBit_shiftLeft, Nat.testBit_shiftLeft, Nat.testBit_two_pow_sub_one, Nat.testBit_mod_two_pow]
  by_cases h1 : f ≤ i
  · by_cases h3 : i < f + n
    · simp [h1, h3, show i - f < n from by omega, show i < 64 from by omega]
    · by_cases h4 : i < 64
      · simp [h1, h3, show ¬ i - f < n from by omega, h4]
      · simp [h1, h3, show ¬ i - f < n from by omega, h4, bit_of_lt hx i (by omega)]
  · simp [h1, show i < 64 from by omega]

/-- A number's lowest bits, one more. -/
theorem mod_succ (x i : Nat) : x % 2 ^ (i + 1) = x % 2 ^ i + x / 2 ^ i % 2 * 2 ^ i := by
  rw [Nat.pow_succ, Nat.mod_mul, Nat.mul_comm (2 ^ i)]
theorem bit_mod (x i : Nat) : x / 2 ^ i % 2 = (x.testBit i).toNat := by
  rw [Nat.testBit_eq_decide_div_mod_eq]
  rcases Nat.mod_two_eq_zero_or_one (x / 2 ^ i) with h | h <;> simp [h]
theorem div_succ (x i : Nat) : x / 2 ^ i / 2 = x / 2 ^ (i + 1) := by rw [Nat.div_div_eq_div_mul, Nat.pow_succ]

/-! Bytes. -/
def bigOf (l : List UInt8) : Nat := l.foldl (fun x b => x * 256 + b.toNat) 0
def littleOf (l : List UInt8) : Nat := l.foldr (fun b x => x * 256 + b.toNat) 0

theorem bigOf_snoc (l : List UInt8) (b : UInt8) : bigOf (l ++ [b]) = bigOf l * 256 + b.toNat := by simp [bigOf]
theorem littleOf_cons (l : List UInt8) (b : UInt8) : littleOf (b :: l) = littleOf l * 256 + b.toNat := by simp [littleOf]
theorem bigOf_rev (l : List UInt8) : bigOf l.reverse = littleOf l := by simp [bigOf, littleOf]
theorem littleOf_rev (l : List UInt8) : littleOf l.reverse = bigOf l := by simp [bigOf, littleOf]
theorem littleOf_lt (l : List UInt8) : littleOf l < 256 ^ l.length := by
  induction l with
  | nil => simp [littleOf]
  | cons b l ih =>
    rw [littleOf_cons, List.length_cons, Nat.pow_succ]
    have := b.toNat_lt
    omega
theorem bigOf_lt (l : List UInt8) : bigOf l < 256 ^ l.length := by
  have := littleOf_lt l.reverse
  rwa [littleOf_rev, List.length_reverse] at this
theorem littleOf_snoc (l : List UInt8) (b : UInt8) : littleOf (l ++ [b]) = littleOf l + b.toNat * 256 ^ l.length := by
  induction l with
  | nil => simp [littleOf]
  | cons c l ih =>
    rw [List.cons_append, littleOf_cons, ih, littleOf_cons, List.length_cons, Nat.pow_succ, Nat.add_mul, Nat.mul_assoc]
    omega
/-- so many bytes of some, from one on -/
def seg (l : List UInt8) (at_ n : Nat) : List UInt8 := (l.drop at_).take n
theorem seg_length (l : List UInt8) (a n : Nat) (h : a + n ≤ l.length) : (seg l a n).length = n := by simp [seg]; omega
theorem seg_snoc (l : List UInt8) (a k : Nat) (h : a + k < l.length) : seg l a (k + 1) = seg l a k ++ [l[a + k]] := by
  unfold seg
  rw [List.take_succ_eq_append_getElem (by simp; omega)]
  simp
theorem seg_cons (l : List UInt8) (a k : Nat) (h : a < l.length) : seg l a (k + 1) = l[a] :: seg l (a + 1) k := by
  unfold seg
  rw [List.drop_eq_getElem_cons h, List.take_succ_cons]
theorem seg_zero (l : List UInt8) (a : Nat) : seg l a 0 = [] := by simp [seg]

theorem pow256 {k : Nat} (h : k ≤ 8) : 256 ^ k ≤ 18446744073709551616 := by
  have : 256 ^ k ≤ 256 ^ 8 := Nat.pow_le_pow_right (by omega) h
  simpa using this
theorem seg_big_lt (l : List UInt8) (a k : Nat) (hk : k ≤ 8) : bigOf (seg l a k) < 18446744073709551616 := by
  have h1 := bigOf_lt (seg l a k)
  have h2 : (seg l a k).length ≤ k := by simp [seg]; omega
  have h3 : 256 ^ (seg l a k).length ≤ 256 ^ k := Nat.pow_le_pow_right (by omega) h2
  have := pow256 hk
  omega
theorem seg_little_lt (l : List UInt8) (a k : Nat) (hk : k ≤ 8) : littleOf (seg l a k) < 18446744073709551616 := by
  have h1 := littleOf_lt (seg l a k)
  have h2 : (seg l a k).length ≤ k := by simp [seg]; omega
  have h3 : 256 ^ (seg l a k).length ≤ 256 ^ k := Nat.pow_le_pow_right (by omega) h2
  have := pow256 hk
  omega
theorem or_low (z b : Nat) (hz : z * 256 + 255 < 18446744073709551616) (hb : b < 256) :
    bits .or .u64 (IntKind.u64.wrap ((z : Int) * 256)) (b : Int) = ((z * 256 + b : Nat) : Int) := by
  have hz2 : z * 256 < 18446744073709551616 := Nat.lt_of_le_of_lt (Nat.le_add_right _ _) hz
  have hb2 : b < 18446744073709551616 := by omega
  have e1 : IntKind.u64.wrap ((z : Int) * 256) = ((z * 256 : Nat) : Int) := by rw [IntKind.wrap_u64]; omega
  rw [e1, u64_or_nat (z * 256) b hz2 hb2]
  have := Nat.shiftLeft_add_eq_or_of_lt (i := 8) (b := b) (by omega) z
  rw [Nat.shiftLeft_eq] at this
  exact congrArg _ this.symm
theorem or_high (z b k : Nat) (hz : z < 256 ^ k) (hb : b < 256) (hk : k < 8) :
    bits .or .u64 (z : Int) (IntKind.u64.wrap ((b : Int) * 2 ^ (8 * k))) = ((z + b * 256 ^ k : Nat) : Int) := by
  have e : (2 : Nat) ^ (8 * k) = 256 ^ k := by rw [Nat.pow_mul]
  have hk1 := pow256 (k := k + 1) (by omega)
  have hk0 := Nat.pow_pos (n := k) (show 0 < 256 by omega)
  rw [Nat.pow_succ] at hk1
  have hm : b * 256 ^ k ≤ 255 * 256 ^ k := Nat.mul_le_mul_right _ (by omega)
  rw [IntKind.wrap_u64]
  rw [show (b : Int) * 2 ^ (8 * k) = ((b * 256 ^ k : Nat) : Int) from by rw [← e, Int.natCast_mul, Int.natCast_pow]; rfl]
  rw [show ((b * 256 ^ k : Nat) : Int) % 18446744073709551616 = ((b * 256 ^ k : Nat) : Int) from by omega, u64_or_nat _ _ (by omega) (by omega)]
  congr 1
  have := Nat.shiftLeft_add_eq_or_of_lt (i := 8 * k) (b := z) (by rw [e]; exact hz) b
  rw [Nat.shiftLeft_eq, e] at this
  rw [Nat.or_comm, ← this, Nat.add_comm]
end Go.Proofs.Ytfefnkeognccpaa
