import Derived.Test.YtccdgpadjfjoeaaMAQ
namespace Go.Proofs.Ytccdgpadjfjoeaa
open Go.ChangeShapes Go.WideShapes Go.ChangeAt Go.RowKit
set_option linter.unusedVariables false
set_option linter.unusedSimpArgs false

/-! The code and the document read the same. -/
theorem readP_2691 {l : List UInt8} (h : 4 ≤ l.length) : readP 2691 l = (Bn l 1 * 65536 + Bn l 2 * 256 + Bn l 3) % 2097152 := by
  have h1 := bigAt_three (l := l) (i := 1) (by omega)
  show bitsI (bigAt l ((1 : Nat) : Int) ((3 : Nat) : Int)) (0 : Nat) (21 : Nat) = _
  rw [h1, bitsI, if_pos (by decide)]
  simp [bitsN]
theorem readN_none {f : Frm} {l : List UInt8} (h : f.2.2.2.2.1 = 0) : readN f l = readP f.2.1 l := by
  unfold readN
  rw [h]
  split
  · rename_i h0; rw [h0]
  · rfl
def bad18 (op : Int) (l : List UInt8) : Bool := decide (op = 18 ∧ (readC (formN op) l).2.2.2.1 ≠ 0 ∧ (readC (formN op) l).2.2.2.2 ≠ 1)
def Same (op : Int) (l : List UInt8) : Prop := (readS op l).2 = (allowsB (formN op).2.2.2.2.2 l && !bad18 op l) ∧ (readS op l).1 = (op, (readC (formN op) l).2)
theorem same_8 (l : List UInt8) (hl : l.length = 6) : Same 8 l := by
  have r2691 := readP_2691 (l := l) (by omega)
  have r1028 : readP 1028 l = Bn l 4 / 1 % 256 := readP_one 1028 4 0 8 (by decide) (by decide) (by decide) (by decide) (by decide) (by omega)
  have b1 := Bn_lt l 1
  have b2 := Bn_lt l 2
  have b3 := Bn_lt l 3
  have b4 := Bn_lt l 4
  have b8 := Bn_lt l 8
  have hf : formN 8 = (2691, 1028, 0, 0, 256, (formN 8).2.2.2.2.2) := rfl
  have hN : readN (formN 8) l = if readP 1028 l = 0 then 256 else readP 1028 l := rfl
  have hC : readC (formN 8) l = (0, readP 2691 l, ((readN (formN 8) l : Nat) : Int), ((readP 0 l : Nat) : Int), ((readP 0 l : Nat) : Int)) := rfl
  have hS : readS 8 l = blocksS 8 l := rfl
  refine ⟨?_, ?_⟩
  · rw [Bool.eq_iff_iff]
    simp [hS, blocksS, hl, okS6, bitsS, show classI 8 = 1 from rfl, allowsB, okRule, formN, bad18, hC, readP_zero, r2691, r1028]
    try omega
  · rw [hC, hN, hS]
    by_cases h0 : Bn l 4 = 0
    · simp [h0, blocksS, hl, readP_zero, r2691, r1028]
      omega
    · have h1 : ¬ (Bn l 4 % 256 = 0) := by omega
      simp [h0, h1, blocksS, hl, readP_zero, r2691, r1028]
      omega
theorem same_10 (l : List UInt8) (hl : l.length = 6) : Same 10 l := by
  have r2691 := readP_2691 (l := l) (by omega)
  have r1028 : readP 1028 l = Bn l 4 / 1 % 256 := readP_one 1028 4 0 8 (by decide) (by decide) (by decide) (by decide) (by decide) (by omega)
  have b1 := Bn_lt l 1
  have b2 := Bn_lt l 2
  have b3 := Bn_lt l 3
  have b4 := Bn_lt l 4
  have b8 := Bn_lt l 8
  have hf : formN 10 = (2691, 1028, 0, 0, 256, (formN 10).2.2.2.2.2) := rfl
  have hN : readN (formN 10) l = if readP 1028 l = 0 then 256 else readP 1028 l := rfl
  have hC : readC (formN 10) l = (0, readP 2691 l, ((readN (formN 10) l : Nat) : Int), ((readP 0 l : Nat) : Int), ((readP 0 l : Nat) : Int)) := rfl
  have hS : readS 10 l = blocksS 10 l := rfl
  refine ⟨?_, ?_⟩
  · rw [Bool.eq_iff_iff]
    simp [hS, blocksS, hl, okS6, bitsS, show classI 10 = 2 from rfl, allowsB, okRule, formN, bad18, hC, readP_zero, r2691, r1028]
    try omega
  · rw [hC, hN, hS]
    by_cases h0 : Bn l 4 = 0
    · simp [h0, blocksS, hl, readP_zero, r2691, r1028]
      omega
    · have h1 : ¬ (Bn l 4 % 256 = 0) := by omega
      simp [h0, h1, blocksS, hl, readP_zero, r2691, r1028]
      omega
theorem same_40 (l : List UInt8) (hl : l.length = 10) : Same 40 l := by
  have r4101 : readP 4101 l = bigAt l 2 4 := readP_big 4101 2 4 (by decide) (by decide) (by decide) (by decide) (by decide) (by omega)
  have r2056 : readP 2056 l = bigAt l 7 2 := readP_big 2056 7 2 (by decide) (by decide) (by decide) (by decide) (by decide) (by omega)
  have r177 : readP 177 l = Bn l 1 / 8 % 2 := readP_one 177 1 3 1 (by decide) (by decide) (by decide) (by decide) (by decide) (by omega)
  have b1 := Bn_lt l 1
  have b2 := Bn_lt l 2
  have b3 := Bn_lt l 3
  have b4 := Bn_lt l 4
  have b8 := Bn_lt l 8
  have c4101 := bigAt_lt (l := l) (a := 2) (n := 4) 0 (by decide)
  have c2056 := bigAt_lt (l := l) (a := 7) (n := 2) 0 (by decide)
  have hf : formN 40 = (4101, 2056, 0, 177, 0, (formN 40).2.2.2.2.2) := rfl
  have hN : readN (formN 40) l = readP 2056 l := readN_none rfl
  have hC : readC (formN 40) l = (0, readP 4101 l, ((readN (formN 40) l : Nat) : Int), ((readP 0 l : Nat) : Int), ((readP 177 l : Nat) : Int)) := rfl
  have hS : readS 40 l = blocksS 40 l := rfl
  refine ⟨?_, ?_⟩
  · rw [Bool.eq_iff_iff]
    simp [hS, blocksS, hl, okS6, bitsS, show classI 40 = 1 from rfl, allowsB, okRule, formN, bad18, hC, readP_zero, r4101, r2056, r177]
    try omega
  · rw [hC, hN, hS]
    simp [blocksS, hl, okS6, bitsS, show classI 40 = 1 from rfl, readP_zero, r4101, r2056, r177]
    try omega
theorem same_42 (l : List UInt8) (hl : l.length = 10) : Same 42 l := by
  have r4101 : readP 4101 l = bigAt l 2 4 := readP_big 4101 2 4 (by decide) (by decide) (by decide) (by decide) (by decide) (by omega)
  have r2056 : readP 2056 l = bigAt l 7 2 := readP_big 2056 7 2 (by decide) (by decide) (by decide) (by decide) (by decide) (by omega)
  have r177 : readP 177 l = Bn l 1 / 8 % 2 := readP_one 177 1 3 1 (by decide) (by decide) (by decide) (by decide) (by decide) (by omega)
  have b1 := Bn_lt l 1
  have b2 := Bn_lt l 2
  have b3 := Bn_lt l 3
  have b4 := Bn_lt l 4
  have b8 := Bn_lt l 8
  have c4101 := bigAt_lt (l := l) (a := 2) (n := 4) 0 (by decide)
  have c2056 := bigAt_lt (l := l) (a := 7) (n := 2) 0 (by decide)
  have hf : formN 42 = (4101, 2056, 0, 177, 0, (formN 42).2.2.2.2.2) := rfl
  have hN : readN (formN 42) l = readP 2056 l := readN_none rfl
  have hC : readC (formN 42) l = (0, readP 4101 l, ((readN (formN 42) l : Nat) : Int), ((readP 0 l : Nat) : Int), ((readP 177 l : Nat) : Int)) := rfl
  have hS : readS 42 l = blocksS 42 l := rfl
  refine ⟨?_, ?_⟩
  · rw [Bool.eq_iff_iff]
    simp [hS, blocksS, hl, okS6, bitsS, show classI 42 = 2 from rfl, allowsB, okRule, formN, bad18, hC, readP_zero, r4101, r2056, r177]
    try omega
  · rw [hC, hN, hS]
    simp [blocksS, hl, okS6, bitsS, show classI 42 = 2 from rfl, readP_zero, r4101, r2056, r177]
    try omega
theorem same_136 (l : List UInt8) (hl : l.length = 16) : Same 136 l := by
  have r8201 : readP 8201 l = bigAt l 2 8 := readP_big 8201 2 8 (by decide) (by decide) (by decide) (by decide) (by decide) (by omega)
  have r4109 : readP 4109 l = bigAt l 10 4 := readP_big 4109 10 4 (by decide) (by decide) (by decide) (by decide) (by decide) (by omega)
  have r177 : readP 177 l = Bn l 1 / 8 % 2 := readP_one 177 1 3 1 (by decide) (by decide) (by decide) (by decide) (by decide) (by omega)
  have b1 := Bn_lt l 1
  have b2 := Bn_lt l 2
  have b3 := Bn_lt l 3
  have b4 := Bn_lt l 4
  have b8 := Bn_lt l 8
  have c4109 := bigAt_lt (l := l) (a := 10) (n := 4) 0 (by decide)
  have hf : formN 136 = (8201, 4109, 0, 177, 0, (formN 136).2.2.2.2.2) := rfl
  have hN : readN (formN 136) l = readP 4109 l := readN_none rfl
  have hC : readC (formN 136) l = (0, readP 8201 l, ((readN (formN 136) l : Nat) : Int), ((readP 0 l : Nat) : Int), ((readP 177 l : Nat) : Int)) := rfl
  have hS : readS 136 l = blocksS 136 l := rfl
  refine ⟨?_, ?_⟩
  · rw [Bool.eq_iff_iff]
    simp [hS, blocksS, hl, okS6, bitsS, show classI 136 = 1 from rfl, allowsB, okRule, formN, bad18, hC, readP_zero, r8201, r4109, r177]
    try omega
  · rw [hC, hN, hS]
    simp [blocksS, hl, okS6, bitsS, show classI 136 = 1 from rfl, readP_zero, r8201, r4109, r177]
    try omega
theorem same_138 (l : List UInt8) (hl : l.length = 16) : Same 138 l := by
  have r8201 : readP 8201 l = bigAt l 2 8 := readP_big 8201 2 8 (by decide) (by decide) (by decide) (by decide) (by decide) (by omega)
  have r4109 : readP 4109 l = bigAt l 10 4 := readP_big 4109 10 4 (by decide) (by decide) (by decide) (by decide) (by decide) (by omega)
  have r177 : readP 177 l = Bn l 1 / 8 % 2 := readP_one 177 1 3 1 (by decide) (by decide) (by decide) (by decide) (by decide) (by omega)
  have b1 := Bn_lt l 1
  have b2 := Bn_lt l 2
  have b3 := Bn_lt l 3
  have b4 := Bn_lt l 4
  have b8 := Bn_lt l 8
  have c4109 := bigAt_lt (l := l) (a := 10) (n := 4) 0 (by decide)
  have hf : formN 138 = (8201, 4109, 0, 177, 0, (formN 138).2.2.2.2.2) := rfl
  have hN : readN (formN 138) l = readP 4109 l := readN_none rfl
  have hC : readC (formN 138) l = (0, readP 8201 l, ((readN (formN 138) l : Nat) : Int), ((readP 0 l : Nat) : Int), ((readP 177 l : Nat) : Int)) := rfl
  have hS : readS 138 l = blocksS 138 l := rfl
  refine ⟨?_, ?_⟩
  · rw [Bool.eq_iff_iff]
    simp [hS, blocksS, hl, okS6, bitsS, show classI 138 = 2 from rfl, allowsB, okRule, formN, bad18, hC, readP_zero, r8201, r4109, r177]
    try omega
  · rw [hC, hN, hS]
    simp [blocksS, hl, okS6, bitsS, show classI 138 = 2 from rfl, readP_zero, r8201, r4109, r177]
    try omega
theorem same_168 (l : List UInt8) (hl : l.length = 12) : Same 168 l := by
  have r4101 : readP 4101 l = bigAt l 2 4 := readP_big 4101 2 4 (by decide) (by decide) (by decide) (by decide) (by decide) (by omega)
  have r4105 : readP 4105 l = bigAt l 6 4 := readP_big 4105 6 4 (by decide) (by decide) (by decide) (by decide) (by decide) (by omega)
  have r177 : readP 177 l = Bn l 1 / 8 % 2 := readP_one 177 1 3 1 (by decide) (by decide) (by decide) (by decide) (by decide) (by omega)
  have b1 := Bn_lt l 1
  have b2 := Bn_lt l 2
  have b3 := Bn_lt l 3
  have b4 := Bn_lt l 4
  have b8 := Bn_lt l 8
  have c4101 := bigAt_lt (l := l) (a := 2) (n := 4) 0 (by decide)
  have c4105 := bigAt_lt (l := l) (a := 6) (n := 4) 0 (by decide)
  have hf : formN 168 = (4101, 4105, 0, 177, 0, (formN 168).2.2.2.2.2) := rfl
  have hN : readN (formN 168) l = readP 4105 l := readN_none rfl
  have hC : readC (formN 168) l = (0, readP 4101 l, ((readN (formN 168) l : Nat) : Int), ((readP 0 l : Nat) : Int), ((readP 177 l : Nat) : Int)) := rfl
  have hS : readS 168 l = blocksS 168 l := rfl
  refine ⟨?_, ?_⟩
  · rw [Bool.eq_iff_iff]
    simp [hS, blocksS, hl, okS6, bitsS, show classI 168 = 1 from rfl, allowsB, okRule, formN, bad18, hC, readP_zero, r4101, r4105, r177]
    try omega
  · rw [hC, hN, hS]
    simp [blocksS, hl, okS6, bitsS, show classI 168 = 1 from rfl, readP_zero, r4101, r4105, r177]
    try omega
theorem same_170 (l : List UInt8) (hl : l.length = 12) : Same 170 l := by
  have r4101 : readP 4101 l = bigAt l 2 4 := readP_big 4101 2 4 (by decide) (by decide) (by decide) (by decide) (by decide) (by omega)
  have r4105 : readP 4105 l = bigAt l 6 4 := readP_big 4105 6 4 (by decide) (by decide) (by decide) (by decide) (by decide) (by omega)
  have r177 : readP 177 l = Bn l 1 / 8 % 2 := readP_one 177 1 3 1 (by decide) (by decide) (by decide) (by decide) (by decide) (by omega)
  have b1 := Bn_lt l 1
  have b2 := Bn_lt l 2
  have b3 := Bn_lt l 3
  have b4 := Bn_lt l 4
  have b8 := Bn_lt l 8
  have c4101 := bigAt_lt (l := l) (a := 2) (n := 4) 0 (by decide)
  have c4105 := bigAt_lt (l := l) (a := 6) (n := 4) 0 (by decide)
  have hf : formN 170 = (4101, 4105, 0, 177, 0, (formN 170).2.2.2.2.2) := rfl
  have hN : readN (formN 170) l = readP 4105 l := readN_none rfl
  have hC : readC (formN 170) l = (0, readP 4101 l, ((readN (formN 170) l : Nat) : Int), ((readP 0 l : Nat) : Int), ((readP 177 l : Nat) : Int)) := rfl
  have hS : readS 170 l = blocksS 170 l := rfl
  refine ⟨?_, ?_⟩
  · rw [Bool.eq_iff_iff]
    simp [hS, blocksS, hl, okS6, bitsS, show classI 170 = 2 from rfl, allowsB, okRule, formN, bad18, hC, readP_zero, r4101, r4105, r177]
    try omega
  · rw [hC, hN, hS]
    simp [blocksS, hl, okS6, bitsS, show classI 170 = 2 from rfl, readP_zero, r4101, r4105, r177]
    try omega
theorem same_47 (l : List UInt8) (hl : l.length = 10) : Same 47 l := by
  have r4101 : readP 4101 l = bigAt l 2 4 := readP_big 4101 2 4 (by decide) (by decide) (by decide) (by decide) (by decide) (by omega)
  have r2056 : readP 2056 l = bigAt l 7 2 := readP_big 2056 7 2 (by decide) (by decide) (by decide) (by decide) (by decide) (by omega)
  have r145 : readP 145 l = Bn l 1 / 2 % 2 := readP_one 145 1 1 1 (by decide) (by decide) (by decide) (by decide) (by decide) (by omega)
  have r161 : readP 161 l = Bn l 1 / 4 % 2 := readP_one 161 1 2 1 (by decide) (by decide) (by decide) (by decide) (by decide) (by omega)
  have b1 := Bn_lt l 1
  have b2 := Bn_lt l 2
  have b3 := Bn_lt l 3
  have b4 := Bn_lt l 4
  have b8 := Bn_lt l 8
  have c4101 := bigAt_lt (l := l) (a := 2) (n := 4) 0 (by decide)
  have c2056 := bigAt_lt (l := l) (a := 7) (n := 2) 0 (by decide)
  have hf : formN 47 = (4101, 2056, 0, 145, 0, (formN 47).2.2.2.2.2) := rfl
  have hN : readN (formN 47) l = readP 2056 l := readN_none rfl
  have hC : readC (formN 47) l = (0, readP 4101 l, ((readN (formN 47) l : Nat) : Int), ((readP 0 l : Nat) : Int), ((readP 145 l : Nat) : Int)) := rfl
  have hS : readS 47 l = blocksS 47 l := rfl
  refine ⟨?_, ?_⟩
  · rw [Bool.eq_iff_iff]
    simp [hS, blocksS, hl, okS6, bitsS, show classI 47 = 3 from rfl, allowsB, okRule, formN, bad18, hC, readP_zero, r4101, r2056, r145, r161]
    try omega
  · rw [hC, hN, hS]
    simp [blocksS, hl, okS6, bitsS, show classI 47 = 3 from rfl, readP_zero, r4101, r2056, r145, r161]
    try omega
theorem same_143 (l : List UInt8) (hl : l.length = 16) : Same 143 l := by
  have r8201 : readP 8201 l = bigAt l 2 8 := readP_big 8201 2 8 (by decide) (by decide) (by decide) (by decide) (by decide) (by omega)
  have r4109 : readP 4109 l = bigAt l 10 4 := readP_big 4109 10 4 (by decide) (by decide) (by decide) (by decide) (by decide) (by omega)
  have r145 : readP 145 l = Bn l 1 / 2 % 2 := readP_one 145 1 1 1 (by decide) (by decide) (by decide) (by decide) (by decide) (by omega)
  have r161 : readP 161 l = Bn l 1 / 4 % 2 := readP_one 161 1 2 1 (by decide) (by decide) (by decide) (by decide) (by decide) (by omega)
  have b1 := Bn_lt l 1
  have b2 := Bn_lt l 2
  have b3 := Bn_lt l 3
  have b4 := Bn_lt l 4
  have b8 := Bn_lt l 8
  have c4109 := bigAt_lt (l := l) (a := 10) (n := 4) 0 (by decide)
  have hf : formN 143 = (8201, 4109, 0, 145, 0, (formN 143).2.2.2.2.2) := rfl
  have hN : readN (formN 143) l = readP 4109 l := readN_none rfl
  have hC : readC (formN 143) l = (0, readP 8201 l, ((readN (formN 143) l : Nat) : Int), ((readP 0 l : Nat) : Int), ((readP 145 l : Nat) : Int)) := rfl
  have hS : readS 143 l = blocksS 143 l := rfl
  refine ⟨?_, ?_⟩
  · rw [Bool.eq_iff_iff]
    simp [hS, blocksS, hl, okS6, bitsS, show classI 143 = 3 from rfl, allowsB, okRule, formN, bad18, hC, readP_zero, r8201, r4109, r145, r161]
    try omega
  · rw [hC, hN, hS]
    simp [blocksS, hl, okS6, bitsS, show classI 143 = 3 from rfl, readP_zero, r8201, r4109, r145, r161]
    try omega
theorem same_175 (l : List UInt8) (hl : l.length = 12) : Same 175 l := by
  have r4101 : readP 4101 l = bigAt l 2 4 := readP_big 4101 2 4 (by decide) (by decide) (by decide) (by decide) (by decide) (by omega)
  have r4105 : readP 4105 l = bigAt l 6 4 := readP_big 4105 6 4 (by decide) (by decide) (by decide) (by decide) (by decide) (by omega)
  have r145 : readP 145 l = Bn l 1 / 2 % 2 := readP_one 145 1 1 1 (by decide) (by decide) (by decide) (by decide) (by decide) (by omega)
  have r161 : readP 161 l = Bn l 1 / 4 % 2 := readP_one 161 1 2 1 (by decide) (by decide) (by decide) (by decide) (by decide) (by omega)
  have b1 := Bn_lt l 1
  have b2 := Bn_lt l 2
  have b3 := Bn_lt l 3
  have b4 := Bn_lt l 4
  have b8 := Bn_lt l 8
  have c4101 := bigAt_lt (l := l) (a := 2) (n := 4) 0 (by decide)
  have c4105 := bigAt_lt (l := l) (a := 6) (n := 4) 0 (by decide)
  have hf : formN 175 = (4101, 4105, 0, 145, 0, (formN 175).2.2.2.2.2) := rfl
  have hN : readN (formN 175) l = readP 4105 l := readN_none rfl
  have hC : readC (formN 175) l = (0, readP 4101 l, ((readN (formN 175) l : Nat) : Int), ((readP 0 l : Nat) : Int), ((readP 145 l : Nat) : Int)) := rfl
  have hS : readS 175 l = blocksS 175 l := rfl
  refine ⟨?_, ?_⟩
  · rw [Bool.eq_iff_iff]
    simp [hS, blocksS, hl, okS6, bitsS, show classI 175 = 3 from rfl, allowsB, okRule, formN, bad18, hC, readP_zero, r4101, r4105, r145, r161]
    try omega
  · rw [hC, hN, hS]
    simp [blocksS, hl, okS6, bitsS, show classI 175 = 3 from rfl, readP_zero, r4101, r4105, r145, r161]
    try omega
theorem same_53 (l : List UInt8) (hl : l.length = 10) : Same 53 l := by
  have r4101 : readP 4101 l = bigAt l 2 4 := readP_big 4101 2 4 (by decide) (by decide) (by decide) (by decide) (by decide) (by omega)
  have r2056 : readP 2056 l = bigAt l 7 2 := readP_big 2056 7 2 (by decide) (by decide) (by decide) (by decide) (by decide) (by omega)
  have b1 := Bn_lt l 1
  have b2 := Bn_lt l 2
  have b3 := Bn_lt l 3
  have b4 := Bn_lt l 4
  have b8 := Bn_lt l 8
  have c4101 := bigAt_lt (l := l) (a := 2) (n := 4) 0 (by decide)
  have c2056 := bigAt_lt (l := l) (a := 7) (n := 2) 0 (by decide)
  have hf : formN 53 = (4101, 2056, 0, 0, 0, (formN 53).2.2.2.2.2) := rfl
  have hN : readN (formN 53) l = readP 2056 l := readN_none rfl
  have hC : readC (formN 53) l = (0, readP 4101 l, ((readN (formN 53) l : Nat) : Int), ((readP 0 l : Nat) : Int), ((readP 0 l : Nat) : Int)) := rfl
  have hS : readS 53 l = blocksS 53 l := rfl
  refine ⟨?_, ?_⟩
  · rw [Bool.eq_iff_iff]
    simp [hS, blocksS, hl, okS6, bitsS, show classI 53 = 4 from rfl, allowsB, okRule, formN, bad18, hC, readP_zero, r4101, r2056]
    try omega
  · rw [hC, hN, hS]
    simp [blocksS, hl, okS6, bitsS, show classI 53 = 4 from rfl, readP_zero, r4101, r2056]
    try omega
theorem same_145 (l : List UInt8) (hl : l.length = 16) : Same 145 l := by
  have r8201 : readP 8201 l = bigAt l 2 8 := readP_big 8201 2 8 (by decide) (by decide) (by decide) (by decide) (by decide) (by omega)
  have r4109 : readP 4109 l = bigAt l 10 4 := readP_big 4109 10 4 (by decide) (by decide) (by decide) (by decide) (by decide) (by omega)
  have b1 := Bn_lt l 1
  have b2 := Bn_lt l 2
  have b3 := Bn_lt l 3
  have b4 := Bn_lt l 4
  have b8 := Bn_lt l 8
  have c4109 := bigAt_lt (l := l) (a := 10) (n := 4) 0 (by decide)
  have hf : formN 145 = (8201, 4109, 0, 0, 0, (formN 145).2.2.2.2.2) := rfl
  have hN : readN (formN 145) l = readP 4109 l := readN_none rfl
  have hC : readC (formN 145) l = (0, readP 8201 l, ((readN (formN 145) l : Nat) : Int), ((readP 0 l : Nat) : Int), ((readP 0 l : Nat) : Int)) := rfl
  have hS : readS 145 l = blocksS 145 l := rfl
  refine ⟨?_, ?_⟩
  · rw [Bool.eq_iff_iff]
    simp [hS, blocksS, hl, okS6, bitsS, show classI 145 = 4 from rfl, allowsB, okRule, formN, bad18, hC, readP_zero, r8201, r4109]
    try omega
  · rw [hC, hN, hS]
    simp [blocksS, hl, okS6, bitsS, show classI 145 = 4 from rfl, readP_zero, r8201, r4109]
    try omega
theorem same_3 (l : List UInt8) (hl : l.length = 6) : Same 3 l := by
  have r1028 : readP 1028 l = Bn l 4 / 1 % 256 := readP_one 1028 4 0 8 (by decide) (by decide) (by decide) (by decide) (by decide) (by omega)
  have r129 : readP 129 l = Bn l 1 / 1 % 2 := readP_one 129 1 0 1 (by decide) (by decide) (by decide) (by decide) (by decide) (by omega)
  have b1 := Bn_lt l 1
  have b2 := Bn_lt l 2
  have b3 := Bn_lt l 3
  have b4 := Bn_lt l 4
  have b8 := Bn_lt l 8
  have hf : formN 3 = (0, 1028, 0, 0, 0, (formN 3).2.2.2.2.2) := rfl
  have hN : readN (formN 3) l = readP 1028 l := readN_none rfl
  have hC : readC (formN 3) l = (0, readP 0 l, ((readN (formN 3) l : Nat) : Int), ((readP 0 l : Nat) : Int), ((readP 0 l : Nat) : Int)) := rfl
  have hS : readS 3 l = restS 3 l := rfl
  refine ⟨?_, ?_⟩
  · rw [Bool.eq_iff_iff]
    simp [hS, restS, allowsB, okRule, formN, bad18, hC, readP_zero, r1028, r129]
    try omega
  · rw [hC, hN, hS]
    simp [restS, readP_zero, r1028, r129]
    try omega
theorem same_18 (l : List UInt8) (hl : l.length = 6) : Same 18 l := by
  have r2052 : readP 2052 l = bigAt l 3 2 := readP_big 2052 3 2 (by decide) (by decide) (by decide) (by decide) (by decide) (by omega)
  have r1026 : readP 1026 l = Bn l 2 / 1 % 256 := readP_one 1026 2 0 8 (by decide) (by decide) (by decide) (by decide) (by decide) (by omega)
  have r129 : readP 129 l = Bn l 1 / 1 % 2 := readP_one 129 1 0 1 (by decide) (by decide) (by decide) (by decide) (by decide) (by omega)
  have b1 := Bn_lt l 1
  have b2 := Bn_lt l 2
  have b3 := Bn_lt l 3
  have b4 := Bn_lt l 4
  have b8 := Bn_lt l 8
  have c2052 := bigAt_lt (l := l) (a := 3) (n := 2) 0 (by decide)
  have hf : formN 18 = (0, 2052, 1026, 129, 0, (formN 18).2.2.2.2.2) := rfl
  have hN : readN (formN 18) l = readP 2052 l := readN_none rfl
  have hC : readC (formN 18) l = (0, readP 0 l, ((readN (formN 18) l : Nat) : Int), ((readP 1026 l : Nat) : Int), ((readP 129 l : Nat) : Int)) := rfl
  have hS : readS 18 l = restS 18 l := rfl
  have hB : bad18 18 l = decide ((Bn l 2 / 1 % 256 ≠ 0) ∧ (Bn l 1 / 1 % 2 ≠ 1)) := by
    unfold bad18
    rw [hC, r1026, r129]
    apply decide_eq_decide.2
    simp only [true_and]
    omega
  refine ⟨?_, ?_⟩
  · rw [Bool.eq_iff_iff, hB]
    simp [hS, restS, allowsB, okRule, formN, readP_zero, r2052, r1026, r129]
    try omega
  · rw [hC, hN, hS]
    simp [restS, readP_zero, r2052, r1026, r129]
    try omega
theorem same_21 (l : List UInt8) (hl : l.length = 6) : Same 21 l := by
  have r1028 : readP 1028 l = Bn l 4 / 1 % 256 := readP_one 1028 4 0 8 (by decide) (by decide) (by decide) (by decide) (by decide) (by omega)
  have r193 : readP 193 l = Bn l 1 / 16 % 2 := readP_one 193 1 4 1 (by decide) (by decide) (by decide) (by decide) (by decide) (by omega)
  have r129 : readP 129 l = Bn l 1 / 1 % 2 := readP_one 129 1 0 1 (by decide) (by decide) (by decide) (by decide) (by decide) (by omega)
  have b1 := Bn_lt l 1
  have b2 := Bn_lt l 2
  have b3 := Bn_lt l 3
  have b4 := Bn_lt l 4
  have b8 := Bn_lt l 8
  have hf : formN 21 = (0, 1028, 0, 0, 0, (formN 21).2.2.2.2.2) := rfl
  have hN : readN (formN 21) l = readP 1028 l := readN_none rfl
  have hC : readC (formN 21) l = (0, readP 0 l, ((readN (formN 21) l : Nat) : Int), ((readP 0 l : Nat) : Int), ((readP 0 l : Nat) : Int)) := rfl
  have hS : readS 21 l = restS 21 l := rfl
  refine ⟨?_, ?_⟩
  · rw [Bool.eq_iff_iff]
    simp [hS, restS, allowsB, okRule, formN, bad18, hC, readP_zero, r1028, r193, r129]
    try omega
  · rw [hC, hN, hS]
    simp [restS, readP_zero, r1028, r193, r129]
    try omega
theorem same_85 (l : List UInt8) (hl : l.length = 10) : Same 85 l := by
  have r2056 : readP 2056 l = bigAt l 7 2 := readP_big 2056 7 2 (by decide) (by decide) (by decide) (by decide) (by decide) (by omega)
  have r193 : readP 193 l = Bn l 1 / 16 % 2 := readP_one 193 1 4 1 (by decide) (by decide) (by decide) (by decide) (by decide) (by omega)
  have r129 : readP 129 l = Bn l 1 / 1 % 2 := readP_one 129 1 0 1 (by decide) (by decide) (by decide) (by decide) (by decide) (by omega)
  have b1 := Bn_lt l 1
  have b2 := Bn_lt l 2
  have b3 := Bn_lt l 3
  have b4 := Bn_lt l 4
  have b8 := Bn_lt l 8
  have c2056 := bigAt_lt (l := l) (a := 7) (n := 2) 0 (by decide)
  have hf : formN 85 = (0, 2056, 0, 0, 0, (formN 85).2.2.2.2.2) := rfl
  have hN : readN (formN 85) l = readP 2056 l := readN_none rfl
  have hC : readC (formN 85) l = (0, readP 0 l, ((readN (formN 85) l : Nat) : Int), ((readP 0 l : Nat) : Int), ((readP 0 l : Nat) : Int)) := rfl
  have hS : readS 85 l = restS 85 l := rfl
  refine ⟨?_, ?_⟩
  · rw [Bool.eq_iff_iff]
    simp [hS, restS, allowsB, okRule, formN, bad18, hC, readP_zero, r2056, r193, r129]
    try omega
  · rw [hC, hN, hS]
    simp [restS, readP_zero, r2056, r193, r129]
    try omega
theorem same_26 (l : List UInt8) (hl : l.length = 6) : Same 26 l := by
  have r1028 : readP 1028 l = Bn l 4 / 1 % 256 := readP_one 1028 4 0 8 (by decide) (by decide) (by decide) (by decide) (by decide) (by omega)
  have r770 : readP 770 l = Bn l 2 / 1 % 64 := readP_one 770 2 0 6 (by decide) (by decide) (by decide) (by decide) (by decide) (by omega)
  have r354 : readP 354 l = Bn l 2 / 64 % 4 := readP_one 354 2 6 2 (by decide) (by decide) (by decide) (by decide) (by decide) (by omega)
  have r1027 : readP 1027 l = Bn l 3 / 1 % 256 := readP_one 1027 3 0 8 (by decide) (by decide) (by decide) (by decide) (by decide) (by omega)
  have b1 := Bn_lt l 1
  have b2 := Bn_lt l 2
  have b3 := Bn_lt l 3
  have b4 := Bn_lt l 4
  have b8 := Bn_lt l 8
  have hf : formN 26 = (0, 1028, 770, 354, 0, (formN 26).2.2.2.2.2) := rfl
  have hN : readN (formN 26) l = readP 1028 l := readN_none rfl
  have hC : readC (formN 26) l = (0, readP 0 l, ((readN (formN 26) l : Nat) : Int), ((readP 770 l : Nat) : Int), ((readP 354 l : Nat) : Int)) := rfl
  have hS : readS 26 l = restS 26 l := rfl
  refine ⟨?_, ?_⟩
  · rw [Bool.eq_iff_iff]
    simp [hS, restS, allowsB, okRule, formN, bad18, hC, readP_zero, r1028, r770, r354, r1027]
    try omega
  · rw [hC, hN, hS]
    simp [restS, readP_zero, r1028, r770, r354, r1027]
    try omega
theorem same_90 (l : List UInt8) (hl : l.length = 10) : Same 90 l := by
  have r2056 : readP 2056 l = bigAt l 7 2 := readP_big 2056 7 2 (by decide) (by decide) (by decide) (by decide) (by decide) (by omega)
  have r770 : readP 770 l = Bn l 2 / 1 % 64 := readP_one 770 2 0 6 (by decide) (by decide) (by decide) (by decide) (by decide) (by omega)
  have r354 : readP 354 l = Bn l 2 / 64 % 4 := readP_one 354 2 6 2 (by decide) (by decide) (by decide) (by decide) (by decide) (by omega)
  have r1027 : readP 1027 l = Bn l 3 / 1 % 256 := readP_one 1027 3 0 8 (by decide) (by decide) (by decide) (by decide) (by decide) (by omega)
  have b1 := Bn_lt l 1
  have b2 := Bn_lt l 2
  have b3 := Bn_lt l 3
  have b4 := Bn_lt l 4
  have b8 := Bn_lt l 8
  have c2056 := bigAt_lt (l := l) (a := 7) (n := 2) 0 (by decide)
  have hf : formN 90 = (0, 2056, 770, 354, 0, (formN 90).2.2.2.2.2) := rfl
  have hN : readN (formN 90) l = readP 2056 l := readN_none rfl
  have hC : readC (formN 90) l = (0, readP 0 l, ((readN (formN 90) l : Nat) : Int), ((readP 770 l : Nat) : Int), ((readP 354 l : Nat) : Int)) := rfl
  have hS : readS 90 l = restS 90 l := rfl
  refine ⟨?_, ?_⟩
  · rw [Bool.eq_iff_iff]
    simp [hS, restS, allowsB, okRule, formN, bad18, hC, readP_zero, r2056, r770, r354, r1027]
    try omega
  · rw [hC, hN, hS]
    simp [restS, readP_zero, r2056, r770, r354, r1027]
    try omega
theorem same_27 (l : List UInt8) (hl : l.length = 6) : Same 27 l := by
  have r260 : readP 260 l = Bn l 4 / 1 % 4 := readP_one 260 4 0 2 (by decide) (by decide) (by decide) (by decide) (by decide) (by omega)
  have r580 : readP 580 l = Bn l 4 / 16 % 16 := readP_one 580 4 4 4 (by decide) (by decide) (by decide) (by decide) (by decide) (by omega)
  have b1 := Bn_lt l 1
  have b2 := Bn_lt l 2
  have b3 := Bn_lt l 3
  have b4 := Bn_lt l 4
  have b8 := Bn_lt l 8
  have hf : formN 27 = (0, 0, 0, 260, 0, (formN 27).2.2.2.2.2) := rfl
  have hN : readN (formN 27) l = readP 0 l := readN_none rfl
  have hC : readC (formN 27) l = (0, readP 0 l, ((readN (formN 27) l : Nat) : Int), ((readP 0 l : Nat) : Int), ((readP 260 l : Nat) : Int)) := rfl
  have hS : readS 27 l = restS 27 l := rfl
  refine ⟨?_, ?_⟩
  · rw [Bool.eq_iff_iff]
    simp [hS, restS, allowsB, okRule, formN, bad18, hC, readP_zero, r260, r580]
    try omega
  · rw [hC, hN, hS]
    simp [restS, readP_zero, r260, r580]
    try omega
theorem same_30 (l : List UInt8) (hl : l.length = 6) : Same 30 l := by
  have r260 : readP 260 l = Bn l 4 / 1 % 4 := readP_one 260 4 0 2 (by decide) (by decide) (by decide) (by decide) (by decide) (by omega)
  have b1 := Bn_lt l 1
  have b2 := Bn_lt l 2
  have b3 := Bn_lt l 3
  have b4 := Bn_lt l 4
  have b8 := Bn_lt l 8
  have hf : formN 30 = (0, 0, 0, 260, 0, (formN 30).2.2.2.2.2) := rfl
  have hN : readN (formN 30) l = readP 0 l := readN_none rfl
  have hC : readC (formN 30) l = (0, readP 0 l, ((readN (formN 30) l : Nat) : Int), ((readP 0 l : Nat) : Int), ((readP 260 l : Nat) : Int)) := rfl
  have hS : readS 30 l = restS 30 l := rfl
  refine ⟨?_, ?_⟩
  · rw [Bool.eq_iff_iff]
    simp [hS, restS, allowsB, okRule, formN, bad18, hC, readP_zero, r260]
    try omega
  · rw [hC, hN, hS]
    simp [restS, readP_zero, r260]
    try omega
theorem same_37 (l : List UInt8) (hl : l.length = 10) : Same 37 l := by
  have r4101 : readP 4101 l = bigAt l 2 4 := readP_big 4101 2 4 (by decide) (by decide) (by decide) (by decide) (by decide) (by omega)
  have r136 : readP 136 l = Bn l 8 / 1 % 2 := readP_one 136 8 0 1 (by decide) (by decide) (by decide) (by decide) (by decide) (by omega)
  have b1 := Bn_lt l 1
  have b2 := Bn_lt l 2
  have b3 := Bn_lt l 3
  have b4 := Bn_lt l 4
  have b8 := Bn_lt l 8
  have c4101 := bigAt_lt (l := l) (a := 2) (n := 4) 0 (by decide)
  have hf : formN 37 = (0, 0, 0, 0, 0, (formN 37).2.2.2.2.2) := rfl
  have hN : readN (formN 37) l = readP 0 l := readN_none rfl
  have hC : readC (formN 37) l = (0, readP 0 l, ((readN (formN 37) l : Nat) : Int), ((readP 0 l : Nat) : Int), ((readP 0 l : Nat) : Int)) := rfl
  have hS : readS 37 l = restS 37 l := rfl
  refine ⟨?_, ?_⟩
  · rw [Bool.eq_iff_iff]
    simp [hS, restS, allowsB, okRule, formN, bad18, hC, readP_zero, r4101, r136]
    try omega
  · rw [hC, hN, hS]
    simp [restS, readP_zero, r4101, r136]
    try omega
theorem same_158 (l : List UInt8) (hl : l.length = 16) : Same 158 l := by
  have r4109 : readP 4109 l = bigAt l 10 4 := readP_big 4109 10 4 (by decide) (by decide) (by decide) (by decide) (by decide) (by omega)
  have r641 : readP 641 l = Bn l 1 / 1 % 32 := readP_one 641 1 0 5 (by decide) (by decide) (by decide) (by decide) (by decide) (by omega)
  have b1 := Bn_lt l 1
  have b2 := Bn_lt l 2
  have b3 := Bn_lt l 3
  have b4 := Bn_lt l 4
  have b8 := Bn_lt l 8
  have c4109 := bigAt_lt (l := l) (a := 10) (n := 4) 0 (by decide)
  have hf : formN 158 = (0, 4109, 0, 0, 0, (formN 158).2.2.2.2.2) := rfl
  have hN : readN (formN 158) l = readP 4109 l := readN_none rfl
  have hC : readC (formN 158) l = (0, readP 0 l, ((readN (formN 158) l : Nat) : Int), ((readP 0 l : Nat) : Int), ((readP 0 l : Nat) : Int)) := rfl
  have hS : readS 158 l = restS 158 l := rfl
  refine ⟨?_, ?_⟩
  · rw [Bool.eq_iff_iff]
    simp [hS, restS, allowsB, okRule, formN, bad18, hC, readP_zero, r4109, r641]
    try omega
  · rw [hC, hN, hS]
    simp [restS, readP_zero, r4109, r641]
    try omega
theorem same_160 (l : List UInt8) (hl : l.length = 12) : Same 160 l := by
  have r4105 : readP 4105 l = bigAt l 6 4 := readP_big 4105 6 4 (by decide) (by decide) (by decide) (by decide) (by decide) (by omega)
  have r1026 : readP 1026 l = Bn l 2 / 1 % 256 := readP_one 1026 2 0 8 (by decide) (by decide) (by decide) (by decide) (by decide) (by omega)
  have b1 := Bn_lt l 1
  have b2 := Bn_lt l 2
  have b3 := Bn_lt l 3
  have b4 := Bn_lt l 4
  have b8 := Bn_lt l 8
  have c4105 := bigAt_lt (l := l) (a := 6) (n := 4) 0 (by decide)
  have hf : formN 160 = (0, 4105, 0, 0, 0, (formN 160).2.2.2.2.2) := rfl
  have hN : readN (formN 160) l = readP 4105 l := readN_none rfl
  have hC : readC (formN 160) l = (0, readP 0 l, ((readN (formN 160) l : Nat) : Int), ((readP 0 l : Nat) : Int), ((readP 0 l : Nat) : Int)) := rfl
  have hS : readS 160 l = restS 160 l := rfl
  refine ⟨?_, ?_⟩
  · rw [Bool.eq_iff_iff]
    simp [hS, restS, allowsB, okRule, formN, bad18, hC, readP_zero, r4105, r1026]
    try omega
  · rw [hC, hN, hS]
    simp [restS, readP_zero, r4105, r1026]
    try omega
theorem same_0 (l : List UInt8) (hl : l.length = 6) : Same 0 l := by
  have b1 := Bn_lt l 1
  have b2 := Bn_lt l 2
  have b3 := Bn_lt l 3
  have b4 := Bn_lt l 4
  have b8 := Bn_lt l 8
  have hf : formN 0 = (0, 0, 0, 0, 0, (formN 0).2.2.2.2.2) := rfl
  have hN : readN (formN 0) l = readP 0 l := readN_none rfl
  have hC : readC (formN 0) l = (0, readP 0 l, ((readN (formN 0) l : Nat) : Int), ((readP 0 l : Nat) : Int), ((readP 0 l : Nat) : Int)) := rfl
  have hS : readS 0 l = restS 0 l := rfl
  refine ⟨?_, ?_⟩
  · rw [Bool.eq_iff_iff]
    simp [hS, restS, allowsB, okRule, formN, bad18, hC, readP_zero, ]
    try omega
  · rw [hC, hN, hS]
    simp [restS, readP_zero, ]
    try omega
end Go.Proofs.Ytccdgpadjfjoeaa

namespace Go.Proofs.Ytccdgpadjfjoeaa
open Go.ChangeShapes Go.WideShapes Go.ChangeAt Go.RowKit
set_option linter.unusedVariables false
set_option linter.unusedSimpArgs false

/-! Parse: the code's and the document's are one. -/
theorem same_c (op : Int) (hk : knownB op = true) (l : List UInt8) (hl : l.length = sizeN op) : Same op l := by
  rcases known_cases op with h | h
  · rcases h with rfl | rfl | rfl | rfl | rfl | rfl | rfl | rfl | rfl | rfl | rfl | rfl | rfl | rfl | rfl | rfl | rfl | rfl | rfl | rfl | rfl | rfl | rfl | rfl | rfl
    · exact same_0 l hl
    · exact same_3 l hl
    · exact same_8 l hl
    · exact same_10 l hl
    · exact same_18 l hl
    · exact same_21 l hl
    · exact same_26 l hl
    · exact same_27 l hl
    · exact same_30 l hl
    · exact same_37 l hl
    · exact same_40 l hl
    · exact same_42 l hl
    · exact same_47 l hl
    · exact same_53 l hl
    · exact same_85 l hl
    · exact same_90 l hl
    · exact same_136 l hl
    · exact same_138 l hl
    · exact same_143 l hl
    · exact same_145 l hl
    · exact same_158 l hl
    · exact same_160 l hl
    · exact same_168 l hl
    · exact same_170 l hl
    · exact same_175 l hl
  · rw [(known_other h).1] at hk; cases hk
theorem allows_take (op : Int) (hk : knownB op = true) (l : List UInt8) (hn : sizeN op ≤ l.length) : allowsB (formN op).2.2.2.2.2 (l.take (sizeN op)) = allowsB (formN op).2.2.2.2.2 l := by
  unfold allowsB
  rw [Bool.eq_iff_iff, List.all_eq_true, List.all_eq_true]
  constructor <;> intro h r hr <;> have h1 := h r hr <;> unfold okRule at * <;> rw [readP_take ((okP6 op hk).1 r hr).2 hn] at *
  · exact h1
  · exact h1
theorem readC_take (op : Int) (hk : knownB op = true) (l : List UInt8) (hn : sizeN op ≤ l.length) : readC (formN op) (l.take (sizeN op)) = readC (formN op) l := by
  obtain ⟨_, h1, h2, h3, h4⟩ := okP6 op hk
  unfold readC readN
  rw [readP_take h1 hn, readP_take h2 hn, readP_take h3 hn, readP_take h4 hn]
/-- what is parsed, said by the code's places -/
theorem parseOp_eq (op : Int) (l : List UInt8) : parseOp op l = if knownB op = false then (czero, (5, 32, 0)) else if l.length < sizeN op ∨ Bn l (sizeN op - 1) ≠ 0 then (czero, (5, 36, 0)) else if (allowsB (formN op).2.2.2.2.2 l && !bad18 op l) = false then (czero, (5, 36, 0)) else ((op, (readC (formN op) l).2), (0, 0, 0)) := by
  unfold parseOp
  by_cases hk : knownB op = false
  · rw [if_pos hk, if_pos hk]
  rw [if_neg hk, if_neg hk]
  by_cases h1 : l.length < sizeN op ∨ Bn l (sizeN op - 1) ≠ 0
  · rw [if_pos h1, if_pos]
    rcases h1 with h1 | h1
    · exact .inl h1
    · exact .inr (.inl h1)
  rw [if_neg h1]
  have h2 : ¬ l.length < sizeN op := fun h => h1 (.inl h)
  have h3 : (l.getD (sizeN op - 1) 0).toNat = 0 := Classical.not_not.1 fun h => h1 (.inr h)
  cases ha : allowsB (formN op).2.2.2.2.2 l with
  | false => rw [if_pos (.inr (.inr rfl)), if_pos (by simp)]
  | true =>
    rw [if_neg (fun h => by
      rcases h with h | h | h
      · exact h2 h
      · exact h h3
      · cases h)]
    unfold bad18
    by_cases hb : op = 18 ∧ (readC (formN op) l).2.2.2.1 ≠ 0 ∧ (readC (formN op) l).2.2.2.2 ≠ 1
    · rw [if_pos hb, if_pos (by simp only [decide_eq_true hb]; rfl)]
    · rw [if_neg hb, if_neg (by simp only [decide_eq_false hb]; simp)]
theorem parse_same (l : List UInt8) : parseI l = parseR l := by
  unfold parseI parseR
  by_cases h0 : l.length = 0
  · rw [if_pos h0, if_pos h0]
  rw [if_neg h0, if_neg h0]
  show parseOp (Bn l 0 : Nat) l = _
  generalize ((Bn l 0 : Nat) : Int) = op
  rw [parseOp_eq, parseRo]
  by_cases hk : knownB op = false
  · rw [if_pos hk, if_pos hk]
  rw [if_neg hk, if_neg hk]
  have hk : knownB op = true := by simpa using hk
  by_cases h1 : l.length < sizeN op ∨ Bn l (sizeN op - 1) ≠ 0
  · rw [if_pos h1, if_pos h1]
  rw [if_neg h1, if_neg h1]
  have h2 : sizeN op ≤ l.length := by
    have : ¬ l.length < sizeN op := fun h => h1 (.inl h)
    omega
  obtain ⟨s1, s2⟩ := same_c op hk (l.take (sizeN op)) (by simp; omega)
  have s3 : bad18 op (l.take (sizeN op)) = bad18 op l := by unfold bad18; rw [readC_take op hk l h2]
  rw [allows_take op hk l h2, s3] at s1
  rw [readC_take op hk l h2] at s2
  rw [s1, s2]
/-- bytes behind the size say nothing -/
theorem parse_take {l : List UInt8} (m : List UInt8) (h1 : (parseI l).2 = (0, 0, 0)) : parseI (l ++ m) = parseI l ∧ sizeN (parseI l).1.1 ≤ l.length := by
  rw [parse_same, parse_same] at *
  unfold parseR at *
  by_cases h0 : l.length = 0
  · rw [if_pos h0] at h1; simp at h1
  rw [if_neg h0] at *
  rw [if_neg (by rw [List.length_append]; omega)]
  have e0 : Bn (l ++ m) 0 = Bn l 0 := by
    unfold Bn
    rw [List.getD_eq_getElem?_getD, List.getD_eq_getElem?_getD, List.getElem?_append_left (by omega)]
  rw [e0]
  generalize ((Bn l 0 : Nat) : Int) = op at *
  unfold parseRo at *
  by_cases hk : knownB op = false
  · rw [if_pos hk] at h1; simp at h1
  rw [if_neg hk] at h1
  have hk' : knownB op = true := by simpa using hk
  obtain ⟨k, hk1, hk2⟩ := size_pos hk'
  by_cases h2 : l.length < sizeN op ∨ Bn l (sizeN op - 1) ≠ 0
  · rw [if_pos h2] at h1; simp at h1
  rw [if_neg h2] at h1
  have h3 : sizeN op ≤ l.length := by
    have : ¬ l.length < sizeN op := fun h => h2 (.inl h)
    omega
  have e1 : Bn (l ++ m) (sizeN op - 1) = Bn l (sizeN op - 1) := by
    unfold Bn
    rw [List.getD_eq_getElem?_getD, List.getD_eq_getElem?_getD, List.getElem?_append_left (by omega)]
  have h2' : ¬ ((l ++ m).length < sizeN op ∨ Bn (l ++ m) (sizeN op - 1) ≠ 0) := by
    rw [e1]
    intro h
    rcases h with h | h
    · simp at h; omega
    · exact h2 (.inr h)
  by_cases h4 : (readS op (l.take (sizeN op))).2 = false
  · rw [if_pos h4] at h1; simp at h1
  rw [if_neg hk, if_neg h2', List.take_append_of_le_length h3, if_neg h4]
  simp only [if_neg hk, if_neg h2, if_neg h4, true_and]
  have := (same_c op hk' (l.take (sizeN op)) (by simp; omega)).2
  rw [this]
  exact h3
end Go.Proofs.Ytccdgpadjfjoeaa
