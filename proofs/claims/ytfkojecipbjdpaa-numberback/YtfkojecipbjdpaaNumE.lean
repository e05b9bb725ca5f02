import Derived.Test.YtfkojecipbjdpaaNumB
import Derived.Test.YtfkojecipbjdpaaNumD
namespace Go.Proofs.Ytfkojecipbjdpaa
open Go.ChangeShapes Go.WideShapes Go.ChangeAt Go.RowKit
set_option linter.unusedVariables false
set_option linter.unusedSimpArgs false

/-! The calls' answers, for all arguments. -/
def bigAt (l : List UInt8) (a n : Int) : Nat := if holdsB l.length a n then bigOf (seg l a.toNat n.toNat) else 0
def littleAt (l : List UInt8) (a n : Int) : Nat := if holdsB l.length a n then littleOf (seg l a.toNat n.toNat) else 0
def putBeI (x : Nat) (n : Int) : List UInt8 := if isW n then putBe x n.toNat else []
def putLeI (x : Nat) (n : Int) : List UInt8 := if isW n then putLe x n.toNat else []
def bitsI (x : Nat) (f n : Int) : Nat := if areB f n then bitsN x f.toNat n.toNat else 0
def setI (x : Nat) (f n : Int) (y : Nat) : Nat := if areB f n then setN x f.toNat n.toNat y else x
def textI (l : List UInt8) (n : Int) : List UInt8 := if isT n then textOf l n.toNat else []

theorem reads_c {k : Nat} {val : List UInt8 → Nat} (hno : ∀ (ad : Option Addr) (len cap : Nat) (a n : Int) (w : World) (hm : len ≤ maxLen) (hh : ¬ (1 ≤ n ∧ n ≤ 8 ∧ 0 ≤ a ∧ a ≤ len - n)), Calls Try.prog k #[.slice ad len cap, .int .i64 a, .int .i64 n] w fun e w' => e = .returned (.tuple #[.int .u64 0, .bool false]) ∧ w' = w)
    (hyes : ∀ (bk off len cap : Nat) (l : List UInt8) (a n : Nat) (w : World) (hn : 1 ≤ n) (hn8 : n ≤ 8) (hl : l.length = len) (hm : len ≤ maxLen) (ha : a + n ≤ len) (hc : ∀ i (h : i < l.length), w.cell? ⟨bk, off + i, none⟩ = some (.int .u8 (l[i].toNat : Int))),
      Calls Try.prog k #[.slice (some ⟨bk, off, none⟩) len cap, .int .i64 a, .int .i64 n] w fun e w' => e = .returned (.tuple #[.int .u64 (val (seg l a n)), .bool true]) ∧ w' = w)
    {v : Value} {l : List UInt8} (a n : Int) (w : World) (h : Bs w v l) :
    Calls Try.prog k #[v, .int .i64 a, .int .i64 n] w fun e w' => e = .returned (.tuple #[.int .u64 ((if holdsB l.length a n then val (seg l a.toNat n.toNat) else 0 : Nat) : Int), .bool (holdsB l.length a n)]) ∧ w' = w := by
  obtain ⟨hm, ad, cap, rfl, hcap, h⟩ := h
  by_cases hh : 1 ≤ n ∧ n ≤ 8 ∧ 0 ≤ a ∧ a ≤ (l.length : Int) - n
  · have hb : holdsB l.length a n = true := by simp [holdsB, hh]
    obtain ⟨a', rfl⟩ := Int.eq_ofNat_of_zero_le hh.2.2.1
    obtain ⟨n', rfl⟩ := Int.eq_ofNat_of_zero_le (show 0 ≤ n by omega)
    rcases h with rfl | ⟨b, off, rfl, hc⟩
    · simp at hh; omega
    · refine (hyes b off l.length cap l a' n' w (by omega) (by omega) rfl hm (by omega) hc).mono fun e w' he => ?_
      rw [hb]
      simpa using he
  · have hb : holdsB l.length a n = false := by simp only [holdsB]; exact decide_eq_false hh
    refine (hno ad l.length cap a n w hm hh).mono fun e w' he => ?_
    rw [hb]
    simpa using he
theorem big_c {v : Value} {l : List UInt8} (a n : Int) (w : World) (h : Bs w v l) :
    Calls Try.prog 10 #[v, .int .i64 a, .int .i64 n] w fun e w' => e = .returned (.tuple #[.int .u64 (bigAt l a n : Int), .bool (holdsB l.length a n)]) ∧ w' = w := reads_c big_no big_yes a n w h
theorem rbig_c {v : Value} {l : List UInt8} (a n : Int) (w : World) (h : Bs w v l) :
    Calls Try.prog 11 #[v, .int .i64 a, .int .i64 n] w fun e w' => e = .returned (.tuple #[.int .u64 (bigAt l a n : Int), .bool (holdsB l.length a n)]) ∧ w' = w := reads_c rbig_no rbig_yes a n w h
theorem little_c {v : Value} {l : List UInt8} (a n : Int) (w : World) (h : Bs w v l) :
    Calls Try.prog 12 #[v, .int .i64 a, .int .i64 n] w fun e w' => e = .returned (.tuple #[.int .u64 (littleAt l a n : Int), .bool (holdsB l.length a n)]) ∧ w' = w := reads_c little_no little_yes a n w h
theorem rlittle_c {v : Value} {l : List UInt8} (a n : Int) (w : World) (h : Bs w v l) :
    Calls Try.prog 13 #[v, .int .i64 a, .int .i64 n] w fun e w' => e = .returned (.tuple #[.int .u64 (littleAt l a n : Int), .bool (holdsB l.length a n)]) ∧ w' = w := reads_c rlittle_no rlittle_yes a n w h

theorem puts_c {k : Nat} {val : Nat → Nat → List UInt8} (hlen : ∀ x n, (val x n).length = n) (hno : ∀ (x n : Int) (w : World) (hn : isW n = false), Calls Try.prog k #[.int .u64 x, .int .i64 n] w fun e w' => e = .returned (.slice none 0 0) ∧ w' = w)
    (hyes : ∀ (x n : Nat) (w : World) (B : Nat) (hB : B ≤ w.heap.size) (hn1 : 1 ≤ n) (hn8 : n ≤ 8) (hx : x ≤ 18446744073709551615), Calls Try.prog k #[.int .u64 x, .int .i64 n] w fun e w' => ∃ v, e = .returned v ∧ Below B w w' ∧ w'.ownsRow B 5 1 v n (bv (val x n)))
    (x : Nat) (n : Int) (w : World) (B : Nat) (hB : B ≤ w.heap.size) (hx : x ≤ 18446744073709551615) :
    Calls Try.prog k #[.int .u64 x, .int .i64 n] w fun e w' => ∃ v, e = .returned v ∧ Below B w w' ∧ w'.ownsRow B 5 1 v (if isW n then val x n.toNat else []).length (bv (if isW n then val x n.toNat else [])) := by
  by_cases h : isW n = true
  · have h' := h
    simp [isW] at h'
    obtain ⟨n', rfl⟩ := Int.eq_ofNat_of_zero_le (show 0 ≤ n by omega)
    refine (hyes x n' w B hB (by omega) (by omega) hx).mono fun e w' he => ?_
    rw [h]
    simpa [hlen] using he
  · have h' : isW n = false := by simpa using h
    refine (hno x n w h').mono fun e w' he => ?_
    obtain ⟨rfl, rfl⟩ := he
    rw [h']
    exact ⟨_, rfl, Below.refl _ _, World.ownsRow_nil _ _ _ _⟩
theorem putBig_c (x : Nat) (n : Int) (w : World) (B : Nat) (hB : B ≤ w.heap.size) (hx : x ≤ 18446744073709551615) :
    Calls Try.prog 14 #[.int .u64 x, .int .i64 n] w fun e w' => ∃ v, e = .returned v ∧ Below B w w' ∧ w'.ownsRow B 5 1 v (putBeI x n).length (bv (putBeI x n)) := puts_c putBe_length putBig_no putBig_yes x n w B hB hx
theorem rputBig_c (x : Nat) (n : Int) (w : World) (B : Nat) (hB : B ≤ w.heap.size) (hx : x ≤ 18446744073709551615) :
    Calls Try.prog 15 #[.int .u64 x, .int .i64 n] w fun e w' => ∃ v, e = .returned v ∧ Below B w w' ∧ w'.ownsRow B 5 1 v (putBeI x n).length (bv (putBeI x n)) := puts_c putBe_length rputBig_no rputBig_yes x n w B hB hx
theorem putLittle_c (x : Nat) (n : Int) (w : World) (B : Nat) (hB : B ≤ w.heap.size) (hx : x ≤ 18446744073709551615) :
    Calls Try.prog 16 #[.int .u64 x, .int .i64 n] w fun e w' => ∃ v, e = .returned v ∧ Below B w w' ∧ w'.ownsRow B 5 1 v (putLeI x n).length (bv (putLeI x n)) := puts_c putLe_length putLittle_no putLittle_yes x n w B hB hx
theorem rputLittle_c (x : Nat) (n : Int) (w : World) (B : Nat) (hB : B ≤ w.heap.size) (hx : x ≤ 18446744073709551615) :
    Calls Try.prog 17 #[.int .u64 x, .int .i64 n] w fun e w' => ∃ v, e = .returned v ∧ Below B w w' ∧ w'.ownsRow B 5 1 v (putLeI x n).length (bv (putLeI x n)) := puts_c putLe_length rputLittle_no rputLittle_yes x n w B hB hx

theorem texts_c {k : Nat} (hno : ∀ (s : ByteArray) (n : Int) (w : World) (hn : isT n = false), Calls Try.prog k #[.string s, .int .i64 n] w fun e w' => e = .returned (.slice none 0 0) ∧ w' = w)
    (hyes : ∀ (s : ByteArray) (n : Nat) (w : World) (B : Nat) (hB : B ≤ w.heap.size) (hn : n ≤ 1024) (hs : s.size ≤ maxLen), Calls Try.prog k #[.string s, .int .i64 n] w fun e w' => ∃ v, e = .returned v ∧ Below B w w' ∧ w'.ownsRow B 5 1 v n (bv (textOf s.data.toList n)))
    (s : ByteArray) (n : Int) (w : World) (B : Nat) (hB : B ≤ w.heap.size) (hs : s.size ≤ maxLen) :
    Calls Try.prog k #[.string s, .int .i64 n] w fun e w' => ∃ v, e = .returned v ∧ Below B w w' ∧ w'.ownsRow B 5 1 v (textI s.data.toList n).length (bv (textI s.data.toList n)) := by
  unfold textI
  by_cases h : isT n = true
  · have h' := h
    simp [isT] at h'
    obtain ⟨n', rfl⟩ := Int.eq_ofNat_of_zero_le (show 0 ≤ n by omega)
    refine (hyes s n' w B hB (by omega) hs).mono fun e w' he => ?_
    rw [h]
    simpa [textOf_length] using he
  · have h' : isT n = false := by simpa using h
    refine (hno s n w h').mono fun e w' he => ?_
    obtain ⟨rfl, rfl⟩ := he
    rw [h']
    exact ⟨_, rfl, Below.refl _ _, World.ownsRow_nil _ _ _ _⟩
theorem text_c (s : ByteArray) (n : Int) (w : World) (B : Nat) (hB : B ≤ w.heap.size) (hs : s.size ≤ maxLen) :
    Calls Try.prog 22 #[.string s, .int .i64 n] w fun e w' => ∃ v, e = .returned v ∧ Below B w w' ∧ w'.ownsRow B 5 1 v (textI s.data.toList n).length (bv (textI s.data.toList n)) := texts_c text_no text_yes s n w B hB hs
theorem rtext_c (s : ByteArray) (n : Int) (w : World) (B : Nat) (hB : B ≤ w.heap.size) (hs : s.size ≤ maxLen) :
    Calls Try.prog 23 #[.string s, .int .i64 n] w fun e w' => ∃ v, e = .returned v ∧ Below B w w' ∧ w'.ownsRow B 5 1 v (textI s.data.toList n).length (bv (textI s.data.toList n)) := texts_c rtext_no rtext_yes s n w B hB hs

theorem bits_c (x : Nat) (f n : Int) (w : World) (hx : x ≤ 18446744073709551615) :
    Calls Try.prog 18 #[.int .u64 x, .int .i64 f, .int .i64 n] w fun e w' => e = .returned (.int .u64 (bitsI x f n : Int)) ∧ ∃ m, w' = w.drewN m := by
  unfold bitsI
  by_cases h : areB f n = true
  · obtain ⟨a, b, rfl, rfl, h1, h2⟩ := areB_nat h
    refine (bits_yes x a b w h1 h2 hx).mono fun e w' he => ?_
    rw [h]; simpa using he
  · have h' : areB f n = false := by simpa using h
    refine (bits_no x f n w h').mono fun e w' he => ?_
    rw [h']; exact ⟨by simpa using he.1, 0, he.2⟩
theorem rbits_c (x : Nat) (f n : Int) (w : World) (hx : x ≤ 18446744073709551615) :
    Calls Try.prog 19 #[.int .u64 x, .int .i64 f, .int .i64 n] w fun e w' => e = .returned (.int .u64 (bitsI x f n : Int)) ∧ w' = w := by
  unfold bitsI
  by_cases h : areB f n = true
  · obtain ⟨a, b, rfl, rfl, h1, h2⟩ := areB_nat h
    refine (rbits_yes x a b w h1 h2 hx).mono fun e w' he => ?_
    rw [h]; simpa using he
  · have h' : areB f n = false := by simpa using h
    refine (rbits_no x f n w h').mono fun e w' he => ?_
    rw [h']; simpa using he
theorem set_c (x : Nat) (f n : Int) (y : Nat) (w : World) (hx : x ≤ 18446744073709551615) (hy : y ≤ 18446744073709551615) :
    Calls Try.prog 20 #[.int .u64 x, .int .i64 f, .int .i64 n, .int .u64 y] w fun e w' => e = .returned (.int .u64 (setI x f n y : Int)) ∧ ∃ m, w' = w.drewN m := by
  unfold setI
  by_cases h : areB f n = true
  · obtain ⟨a, b, rfl, rfl, h1, h2⟩ := areB_nat h
    refine (set_yes x y a b w h1 h2 hx hy).mono fun e w' he => ?_
    rw [h]; simpa using he
  · have h' : areB f n = false := by simpa using h
    refine (set_no x y f n w h').mono fun e w' he => ?_
    rw [h']; exact ⟨by simpa using he.1, 0, he.2⟩
theorem rset_c (x : Nat) (f n : Int) (y : Nat) (w : World) (hx : x ≤ 18446744073709551615) (hy : y ≤ 18446744073709551615) :
    Calls Try.prog 21 #[.int .u64 x, .int .i64 f, .int .i64 n, .int .u64 y] w fun e w' => e = .returned (.int .u64 (setI x f n y : Int)) ∧ w' = w := by
  unfold setI
  by_cases h : areB f n = true
  · obtain ⟨a, b, rfl, rfl, h1, h2⟩ := areB_nat h
    refine (rset_yes x y a b w h1 h2 hx hy).mono fun e w' he => ?_
    rw [h]; simpa using he
  · have h' : areB f n = false := by simpa using h
    refine (rset_no x y f n w h').mono fun e w' he => ?_
    rw [h']; simpa using he
theorem bitsI_le (x : Nat) (f n : Int) : bitsI x f n ≤ 18446744073709551615 := by
  unfold bitsI
  by_cases h : areB f n = true
  · obtain ⟨a, b, rfl, rfl, h1, h2⟩ := areB_nat h
    rw [h]; simpa using bitsN_le64 x a b h2
  · simp [h]
theorem setI_le (x : Nat) (f n : Int) (y : Nat) (hx : x ≤ 18446744073709551615) : setI x f n y ≤ 18446744073709551615 := by
  unfold setI
  by_cases h : areB f n = true
  · obtain ⟨a, b, rfl, rfl, h1, h2⟩ := areB_nat h
    rw [h]; simpa using setN_le64 x a b y h2 hx
  · simpa [h] using hx
end Go.Proofs.Ytfkojecipbjdpaa
