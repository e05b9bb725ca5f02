import Derived.Test.YtccdgpadjfjoeaaMAT
namespace Go.Proofs.Ytccdgpadjfjoeaa
open Go.ChangeShapes Go.WideShapes Go.ChangeAt Go.RowKit
set_option linter.unusedVariables false
set_option linter.unusedSimpArgs false

/-! What is read fits. -/
theorem bigAt_lt' {l : List UInt8} {a n : Int} (k : Nat) (h : n.toNat ≤ k) : bigAt l a n < 256 ^ k := by
  unfold bigAt
  split
  · have h1 := bigOf_lt (seg l a.toNat n.toNat)
    have h2 : (seg l a.toNat n.toNat).length ≤ k := by simp [seg]; omega
    exact Nat.lt_of_lt_of_le h1 (Nat.pow_le_pow_right (by omega) h2)
  · exact Nat.pow_pos (by omega)
def FitS (op : Int) (l : List UInt8) : Prop := (readS op l).2 = true → ∃ a n2 n3 n4 : Nat, (readS op l).1 = (op, a, (n2 : Int), (n3 : Int), (n4 : Int)) ∧ fitsN op a n2 n3 n4
theorem fit_8 (l : List UInt8) (hl : l.length = 6) : FitS 8 l := by
  have b1 := Bn_lt l 1
  have b2 := Bn_lt l 2
  have b3 := Bn_lt l 3
  have b4 := Bn_lt l 4
  have hS : readS 8 l = blocksS 8 l := rfl
  intro hr
  refine ⟨Bn l 1 % 32 * 65536 + Bn l 2 * 256 + Bn l 3, if Bn l 4 = 0 then 256 else Bn l 4, 0, 0, ?_, ?_⟩
  · by_cases h0 : Bn l 4 = 0 <;> simp [hS, blocksS, hl, h0]
  · simp only [fitsN, show fitT 8 = (2097151, 1, 256, 0, 0) from rfl]
    by_cases h0 : Bn l 4 = 0 <;> simp only [h0, if_true, if_false] <;> omega
theorem fit_10 (l : List UInt8) (hl : l.length = 6) : FitS 10 l := by
  have b1 := Bn_lt l 1
  have b2 := Bn_lt l 2
  have b3 := Bn_lt l 3
  have b4 := Bn_lt l 4
  have hS : readS 10 l = blocksS 10 l := rfl
  intro hr
  refine ⟨Bn l 1 % 32 * 65536 + Bn l 2 * 256 + Bn l 3, if Bn l 4 = 0 then 256 else Bn l 4, 0, 0, ?_, ?_⟩
  · by_cases h0 : Bn l 4 = 0 <;> simp [hS, blocksS, hl, h0]
  · simp only [fitsN, show fitT 10 = (2097151, 1, 256, 0, 0) from rfl]
    by_cases h0 : Bn l 4 = 0 <;> simp only [h0, if_true, if_false] <;> omega
theorem fit_40 (l : List UInt8) (hl : l.length = 10) : FitS 40 l := by
  have b1 := Bn_lt l 1
  have b2 := Bn_lt l 2
  have b3 := Bn_lt l 3
  have b4 := Bn_lt l 4
  have c1 := bigAt_lt' (l := l) (a := 2) (n := 4) 4 (by decide)
  have c2 := bigAt_lt' (l := l) (a := 7) (n := 2) 2 (by decide)
  have hS : readS 40 l = blocksS 40 l := rfl
  intro hr
  refine ⟨(bigAt l 2 4), (bigAt l 7 2), 0, (Bn l 1 / 8 % 2), ?_, ?_⟩
  · simp [hS, blocksS, hl, bitsS, show classI 40 = 1 from rfl]
  · simp only [fitsN, show fitT 40 = (4294967295, 0, 65535, 0, 1) from rfl]
    omega
theorem fit_42 (l : List UInt8) (hl : l.length = 10) : FitS 42 l := by
  have b1 := Bn_lt l 1
  have b2 := Bn_lt l 2
  have b3 := Bn_lt l 3
  have b4 := Bn_lt l 4
  have c1 := bigAt_lt' (l := l) (a := 2) (n := 4) 4 (by decide)
  have c2 := bigAt_lt' (l := l) (a := 7) (n := 2) 2 (by decide)
  have hS : readS 42 l = blocksS 42 l := rfl
  intro hr
  refine ⟨(bigAt l 2 4), (bigAt l 7 2), 0, (Bn l 1 / 8 % 2), ?_, ?_⟩
  · simp [hS, blocksS, hl, bitsS, show classI 42 = 2 from rfl]
  · simp only [fitsN, show fitT 42 = (4294967295, 0, 65535, 0, 1) from rfl]
    omega
theorem fit_136 (l : List UInt8) (hl : l.length = 16) : FitS 136 l := by
  have b1 := Bn_lt l 1
  have b2 := Bn_lt l 2
  have b3 := Bn_lt l 3
  have b4 := Bn_lt l 4
  have c1 := bigAt_lt' (l := l) (a := 2) (n := 8) 8 (by decide)
  have c2 := bigAt_lt' (l := l) (a := 10) (n := 4) 4 (by decide)
  have hS : readS 136 l = blocksS 136 l := rfl
  intro hr
  refine ⟨(bigAt l 2 8), (bigAt l 10 4), 0, (Bn l 1 / 8 % 2), ?_, ?_⟩
  · simp [hS, blocksS, hl, bitsS, show classI 136 = 1 from rfl]
  · simp only [fitsN, show fitT 136 = (18446744073709551615, 0, 4294967295, 0, 1) from rfl]
    omega
theorem fit_138 (l : List UInt8) (hl : l.length = 16) : FitS 138 l := by
  have b1 := Bn_lt l 1
  have b2 := Bn_lt l 2
  have b3 := Bn_lt l 3
  have b4 := Bn_lt l 4
  have c1 := bigAt_lt' (l := l) (a := 2) (n := 8) 8 (by decide)
  have c2 := bigAt_lt' (l := l) (a := 10) (n := 4) 4 (by decide)
  have hS : readS 138 l = blocksS 138 l := rfl
  intro hr
  refine ⟨(bigAt l 2 8), (bigAt l 10 4), 0, (Bn l 1 / 8 % 2), ?_, ?_⟩
  · simp [hS, blocksS, hl, bitsS, show classI 138 = 2 from rfl]
  · simp only [fitsN, show fitT 138 = (18446744073709551615, 0, 4294967295, 0, 1) from rfl]
    omega
theorem fit_168 (l : List UInt8) (hl : l.length = 12) : FitS 168 l := by
  have b1 := Bn_lt l 1
  have b2 := Bn_lt l 2
  have b3 := Bn_lt l 3
  have b4 := Bn_lt l 4
  have c1 := bigAt_lt' (l := l) (a := 2) (n := 4) 4 (by decide)
  have c2 := bigAt_lt' (l := l) (a := 6) (n := 4) 4 (by decide)
  have hS : readS 168 l = blocksS 168 l := rfl
  intro hr
  refine ⟨(bigAt l 2 4), (bigAt l 6 4), 0, (Bn l 1 / 8 % 2), ?_, ?_⟩
  · simp [hS, blocksS, hl, bitsS, show classI 168 = 1 from rfl]
  · simp only [fitsN, show fitT 168 = (4294967295, 0, 4294967295, 0, 1) from rfl]
    omega
theorem fit_170 (l : List UInt8) (hl : l.length = 12) : FitS 170 l := by
  have b1 := Bn_lt l 1
  have b2 := Bn_lt l 2
  have b3 := Bn_lt l 3
  have b4 := Bn_lt l 4
  have c1 := bigAt_lt' (l := l) (a := 2) (n := 4) 4 (by decide)
  have c2 := bigAt_lt' (l := l) (a := 6) (n := 4) 4 (by decide)
  have hS : readS 170 l = blocksS 170 l := rfl
  intro hr
  refine ⟨(bigAt l 2 4), (bigAt l 6 4), 0, (Bn l 1 / 8 % 2), ?_, ?_⟩
  · simp [hS, blocksS, hl, bitsS, show classI 170 = 2 from rfl]
  · simp only [fitsN, show fitT 170 = (4294967295, 0, 4294967295, 0, 1) from rfl]
    omega
theorem fit_47 (l : List UInt8) (hl : l.length = 10) : FitS 47 l := by
  have b1 := Bn_lt l 1
  have b2 := Bn_lt l 2
  have b3 := Bn_lt l 3
  have b4 := Bn_lt l 4
  have c1 := bigAt_lt' (l := l) (a := 2) (n := 4) 4 (by decide)
  have c2 := bigAt_lt' (l := l) (a := 7) (n := 2) 2 (by decide)
  have hS : readS 47 l = blocksS 47 l := rfl
  intro hr
  refine ⟨(bigAt l 2 4), (bigAt l 7 2), 0, (Bn l 1 / 2 % 2), ?_, ?_⟩
  · simp [hS, blocksS, hl, bitsS, show classI 47 = 3 from rfl]
  · simp only [fitsN, show fitT 47 = (4294967295, 0, 65535, 0, 1) from rfl]
    omega
theorem fit_143 (l : List UInt8) (hl : l.length = 16) : FitS 143 l := by
  have b1 := Bn_lt l 1
  have b2 := Bn_lt l 2
  have b3 := Bn_lt l 3
  have b4 := Bn_lt l 4
  have c1 := bigAt_lt' (l := l) (a := 2) (n := 8) 8 (by decide)
  have c2 := bigAt_lt' (l := l) (a := 10) (n := 4) 4 (by decide)
  have hS : readS 143 l = blocksS 143 l := rfl
  intro hr
  refine ⟨(bigAt l 2 8), (bigAt l 10 4), 0, (Bn l 1 / 2 % 2), ?_, ?_⟩
  · simp [hS, blocksS, hl, bitsS, show classI 143 = 3 from rfl]
  · simp only [fitsN, show fitT 143 = (18446744073709551615, 0, 4294967295, 0, 1) from rfl]
    omega
theorem fit_175 (l : List UInt8) (hl : l.length = 12) : FitS 175 l := by
  have b1 := Bn_lt l 1
  have b2 := Bn_lt l 2
  have b3 := Bn_lt l 3
  have b4 := Bn_lt l 4
  have c1 := bigAt_lt' (l := l) (a := 2) (n := 4) 4 (by decide)
  have c2 := bigAt_lt' (l := l) (a := 6) (n := 4) 4 (by decide)
  have hS : readS 175 l = blocksS 175 l := rfl
  intro hr
  refine ⟨(bigAt l 2 4), (bigAt l 6 4), 0, (Bn l 1 / 2 % 2), ?_, ?_⟩
  · simp [hS, blocksS, hl, bitsS, show classI 175 = 3 from rfl]
  · simp only [fitsN, show fitT 175 = (4294967295, 0, 4294967295, 0, 1) from rfl]
    omega
theorem fit_53 (l : List UInt8) (hl : l.length = 10) : FitS 53 l := by
  have b1 := Bn_lt l 1
  have b2 := Bn_lt l 2
  have b3 := Bn_lt l 3
  have b4 := Bn_lt l 4
  have c1 := bigAt_lt' (l := l) (a := 2) (n := 4) 4 (by decide)
  have c2 := bigAt_lt' (l := l) (a := 7) (n := 2) 2 (by decide)
  have hS : readS 53 l = blocksS 53 l := rfl
  intro hr
  refine ⟨(bigAt l 2 4), (bigAt l 7 2), 0, 0, ?_, ?_⟩
  · simp [hS, blocksS, hl, bitsS, show classI 53 = 4 from rfl]
  · simp only [fitsN, show fitT 53 = (4294967295, 0, 65535, 0, 0) from rfl]
    omega
theorem fit_145 (l : List UInt8) (hl : l.length = 16) : FitS 145 l := by
  have b1 := Bn_lt l 1
  have b2 := Bn_lt l 2
  have b3 := Bn_lt l 3
  have b4 := Bn_lt l 4
  have c1 := bigAt_lt' (l := l) (a := 2) (n := 8) 8 (by decide)
  have c2 := bigAt_lt' (l := l) (a := 10) (n := 4) 4 (by decide)
  have hS : readS 145 l = blocksS 145 l := rfl
  intro hr
  refine ⟨(bigAt l 2 8), (bigAt l 10 4), 0, 0, ?_, ?_⟩
  · simp [hS, blocksS, hl, bitsS, show classI 145 = 4 from rfl]
  · simp only [fitsN, show fitT 145 = (18446744073709551615, 0, 4294967295, 0, 0) from rfl]
    omega
theorem fit_3 (l : List UInt8) (hl : l.length = 6) : FitS 3 l := by
  have b1 := Bn_lt l 1
  have b2 := Bn_lt l 2
  have b3 := Bn_lt l 3
  have b4 := Bn_lt l 4
  have hS : readS 3 l = restS 3 l := rfl
  intro hr
  simp [hS, restS] at hr
  refine ⟨0, (Bn l 4), 0, 0, ?_, ?_⟩
  · simp [hS, restS]
  · simp only [fitsN, show fitT 3 = (0, 0, 255, 0, 0) from rfl]
    omega
theorem fit_18 (l : List UInt8) (hl : l.length = 6) : FitS 18 l := by
  have b1 := Bn_lt l 1
  have b2 := Bn_lt l 2
  have b3 := Bn_lt l 3
  have b4 := Bn_lt l 4
  have c2 := bigAt_lt' (l := l) (a := 3) (n := 2) 2 (by decide)
  have hS : readS 18 l = restS 18 l := rfl
  intro hr
  simp [hS, restS] at hr
  refine ⟨0, (bigAt l 3 2), (Bn l 2), (Bn l 1 % 2), ?_, ?_⟩
  · simp [hS, restS]
  · simp only [fitsN, show fitT 18 = (0, 0, 65535, 255, 1) from rfl]
    omega
theorem fit_21 (l : List UInt8) (hl : l.length = 6) : FitS 21 l := by
  have b1 := Bn_lt l 1
  have b2 := Bn_lt l 2
  have b3 := Bn_lt l 3
  have b4 := Bn_lt l 4
  have hS : readS 21 l = restS 21 l := rfl
  intro hr
  simp [hS, restS] at hr
  refine ⟨0, (Bn l 4), 0, 0, ?_, ?_⟩
  · simp [hS, restS]
  · simp only [fitsN, show fitT 21 = (0, 0, 255, 0, 0) from rfl]
    omega
theorem fit_85 (l : List UInt8) (hl : l.length = 10) : FitS 85 l := by
  have b1 := Bn_lt l 1
  have b2 := Bn_lt l 2
  have b3 := Bn_lt l 3
  have b4 := Bn_lt l 4
  have c2 := bigAt_lt' (l := l) (a := 7) (n := 2) 2 (by decide)
  have hS : readS 85 l = restS 85 l := rfl
  intro hr
  simp [hS, restS] at hr
  refine ⟨0, (bigAt l 7 2), 0, 0, ?_, ?_⟩
  · simp [hS, restS]
  · simp only [fitsN, show fitT 85 = (0, 0, 65535, 0, 0) from rfl]
    omega
theorem fit_26 (l : List UInt8) (hl : l.length = 6) : FitS 26 l := by
  have b1 := Bn_lt l 1
  have b2 := Bn_lt l 2
  have b3 := Bn_lt l 3
  have b4 := Bn_lt l 4
  have hS : readS 26 l = restS 26 l := rfl
  intro hr
  simp [hS, restS] at hr
  refine ⟨0, (Bn l 4), (Bn l 2 % 64), (Bn l 2 / 64), ?_, ?_⟩
  · simp [hS, restS]
  · simp only [fitsN, show fitT 26 = (0, 0, 255, 63, 3) from rfl]
    omega
theorem fit_90 (l : List UInt8) (hl : l.length = 10) : FitS 90 l := by
  have b1 := Bn_lt l 1
  have b2 := Bn_lt l 2
  have b3 := Bn_lt l 3
  have b4 := Bn_lt l 4
  have c2 := bigAt_lt' (l := l) (a := 7) (n := 2) 2 (by decide)
  have hS : readS 90 l = restS 90 l := rfl
  intro hr
  simp [hS, restS] at hr
  refine ⟨0, (bigAt l 7 2), (Bn l 2 % 64), (Bn l 2 / 64), ?_, ?_⟩
  · simp [hS, restS]
  · simp only [fitsN, show fitT 90 = (0, 0, 65535, 63, 3) from rfl]
    omega
theorem fit_27 (l : List UInt8) (hl : l.length = 6) : FitS 27 l := by
  have b1 := Bn_lt l 1
  have b2 := Bn_lt l 2
  have b3 := Bn_lt l 3
  have b4 := Bn_lt l 4
  have hS : readS 27 l = restS 27 l := rfl
  intro hr
  simp [hS, restS] at hr
  refine ⟨0, 0, 0, (Bn l 4 % 4), ?_, ?_⟩
  · simp [hS, restS]
  · simp only [fitsN, show fitT 27 = (0, 0, 0, 0, 3) from rfl]
    omega
theorem fit_30 (l : List UInt8) (hl : l.length = 6) : FitS 30 l := by
  have b1 := Bn_lt l 1
  have b2 := Bn_lt l 2
  have b3 := Bn_lt l 3
  have b4 := Bn_lt l 4
  have hS : readS 30 l = restS 30 l := rfl
  intro hr
  simp [hS, restS] at hr
  refine ⟨0, 0, 0, (Bn l 4 % 4), ?_, ?_⟩
  · simp [hS, restS]
  · simp only [fitsN, show fitT 30 = (0, 0, 0, 0, 1) from rfl]
    omega
theorem fit_37 (l : List UInt8) (hl : l.length = 10) : FitS 37 l := by
  have b1 := Bn_lt l 1
  have b2 := Bn_lt l 2
  have b3 := Bn_lt l 3
  have b4 := Bn_lt l 4
  have hS : readS 37 l = restS 37 l := rfl
  intro hr
  simp [hS, restS] at hr
  refine ⟨0, 0, 0, 0, ?_, ?_⟩
  · simp [hS, restS]
  · simp only [fitsN, show fitT 37 = (0, 0, 0, 0, 0) from rfl]
    omega
theorem fit_158 (l : List UInt8) (hl : l.length = 16) : FitS 158 l := by
  have b1 := Bn_lt l 1
  have b2 := Bn_lt l 2
  have b3 := Bn_lt l 3
  have b4 := Bn_lt l 4
  have c2 := bigAt_lt' (l := l) (a := 10) (n := 4) 4 (by decide)
  have hS : readS 158 l = restS 158 l := rfl
  intro hr
  simp [hS, restS] at hr
  refine ⟨0, (bigAt l 10 4), 0, 0, ?_, ?_⟩
  · simp [hS, restS]
  · simp only [fitsN, show fitT 158 = (0, 0, 4294967295, 0, 0) from rfl]
    omega
theorem fit_160 (l : List UInt8) (hl : l.length = 12) : FitS 160 l := by
  have b1 := Bn_lt l 1
  have b2 := Bn_lt l 2
  have b3 := Bn_lt l 3
  have b4 := Bn_lt l 4
  have c2 := bigAt_lt' (l := l) (a := 6) (n := 4) 4 (by decide)
  have hS : readS 160 l = restS 160 l := rfl
  intro hr
  simp [hS, restS] at hr
  refine ⟨0, (bigAt l 6 4), 0, 0, ?_, ?_⟩
  · simp [hS, restS]
  · simp only [fitsN, show fitT 160 = (0, 16, 4294967295, 0, 0) from rfl]
    omega
theorem fit_0 (l : List UInt8) (hl : l.length = 6) : FitS 0 l := by
  have b1 := Bn_lt l 1
  have b2 := Bn_lt l 2
  have b3 := Bn_lt l 3
  have b4 := Bn_lt l 4
  have hS : readS 0 l = restS 0 l := rfl
  intro hr
  refine ⟨0, 0, 0, 0, ?_, ?_⟩
  · simp [hS, restS]
  · simp only [fitsN, show fitT 0 = (0, 0, 0, 0, 0) from rfl]
    omega
end Go.Proofs.Ytccdgpadjfjoeaa
