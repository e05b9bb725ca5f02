import Derived.Test.YtccdgpadjfjoeaaWL6D
namespace Go.Proofs.Ytccdgpadjfjoeaa
open Go.ChangeShapes Go.WideShapes Go.ChangeAt Go.RowKit
set_option linter.unusedVariables false
set_option linter.unusedSimpArgs false

/-! Commands that go by blocks. -/
def ops13 : List Int := [8, 10, 40, 42, 47, 53, 168, 170, 175, 136, 138, 143, 145]
def mostN (s : Nat) : Nat := if s = 6 then 2097151 else if s = 16 then 18446744073709551615 else 4294967295
def manyN (s : Nat) : Nat := if s = 6 then 256 else if s = 10 then 65535 else 4294967295
theorem ops13_mem {op : Int} (h : op ∈ ops13) : op = 8 ∨ op = 10 ∨ op = 40 ∨ op = 42 ∨ op = 47 ∨ op = 53 ∨ op = 168 ∨ op = 170 ∨ op = 175 ∨ op = 136 ∨ op = 138 ∨ op = 143 ∨ op = 145 := by
  simpa [ops13] using h
theorem ops13_size {op : Int} (h : op ∈ ops13) : sizeN op = 6 ∨ sizeN op = 10 ∨ sizeN op = 12 ∨ sizeN op = 16 := by
  rcases ops13_mem h with rfl | rfl | rfl | rfl | rfl | rfl | rfl | rfl | rfl | rfl | rfl | rfl | rfl <;> decide
theorem ops13_fits {op : Int} (h : op ∈ ops13) (a n b : Nat) (hb : b = 0 ∨ (b = 1 ∧ 6 < sizeN op ∧ classI op < 4)) : fitsC (op, a, (n : Int), 0, (b : Int)) ↔ a ≤ mostN (sizeN op) ∧ n ≤ manyN (sizeN op) ∧ (6 < sizeN op ∨ 0 < n) := by
  have key : knownB op = true → (fitsC (op, a, (n : Int), 0, (b : Int)) ↔ fitsN op a n 0 b) := fun hk => by
    constructor
    · rintro ⟨_, a', n2, n3, n4, e, hf⟩
      simp only [Prod.mk.injEq, true_and, Int.natCast_inj] at e
      obtain ⟨rfl, rfl, e3, rfl⟩ := e
      have e3 : n3 = 0 := by omega
      subst e3
      exact hf
    · intro hf
      exact ⟨hk, a, n, 0, b, rfl, hf⟩
  rcases ops13_mem h with rfl | rfl | rfl | rfl | rfl | rfl | rfl | rfl | rfl | rfl | rfl | rfl | rfl <;> rw [key rfl]
  · rw [show sizeN 8 = 6 from rfl, show classI 8 = 1 from rfl] at hb
    simp only [fitsN, show fitT 8 = (2097151, 1, 256, 0, 0) from rfl, show sizeN 8 = 6 from rfl, show mostN 6 = 2097151 from rfl, show manyN 6 = 256 from rfl]
    omega
  · rw [show sizeN 10 = 6 from rfl, show classI 10 = 2 from rfl] at hb
    simp only [fitsN, show fitT 10 = (2097151, 1, 256, 0, 0) from rfl, show sizeN 10 = 6 from rfl, show mostN 6 = 2097151 from rfl, show manyN 6 = 256 from rfl]
    omega
  · rw [show sizeN 40 = 10 from rfl, show classI 40 = 1 from rfl] at hb
    simp only [fitsN, show fitT 40 = (4294967295, 0, 65535, 0, 1) from rfl, show sizeN 40 = 10 from rfl, show mostN 10 = 4294967295 from rfl, show manyN 10 = 65535 from rfl]
    omega
  · rw [show sizeN 42 = 10 from rfl, show classI 42 = 2 from rfl] at hb
    simp only [fitsN, show fitT 42 = (4294967295, 0, 65535, 0, 1) from rfl, show sizeN 42 = 10 from rfl, show mostN 10 = 4294967295 from rfl, show manyN 10 = 65535 from rfl]
    omega
  · rw [show sizeN 47 = 10 from rfl, show classI 47 = 3 from rfl] at hb
    simp only [fitsN, show fitT 47 = (4294967295, 0, 65535, 0, 1) from rfl, show sizeN 47 = 10 from rfl, show mostN 10 = 4294967295 from rfl, show manyN 10 = 65535 from rfl]
    omega
  · rw [show sizeN 53 = 10 from rfl, show classI 53 = 4 from rfl] at hb
    simp only [fitsN, show fitT 53 = (4294967295, 0, 65535, 0, 0) from rfl, show sizeN 53 = 10 from rfl, show mostN 10 = 4294967295 from rfl, show manyN 10 = 65535 from rfl]
    omega
  · rw [show sizeN 168 = 12 from rfl, show classI 168 = 1 from rfl] at hb
    simp only [fitsN, show fitT 168 = (4294967295, 0, 4294967295, 0, 1) from rfl, show sizeN 168 = 12 from rfl, show mostN 12 = 4294967295 from rfl, show manyN 12 = 4294967295 from rfl]
    omega
  · rw [show sizeN 170 = 12 from rfl, show classI 170 = 2 from rfl] at hb
    simp only [fitsN, show fitT 170 = (4294967295, 0, 4294967295, 0, 1) from rfl, show sizeN 170 = 12 from rfl, show mostN 12 = 4294967295 from rfl, show manyN 12 = 4294967295 from rfl]
    omega
  · rw [show sizeN 175 = 12 from rfl, show classI 175 = 3 from rfl] at hb
    simp only [fitsN, show fitT 175 = (4294967295, 0, 4294967295, 0, 1) from rfl, show sizeN 175 = 12 from rfl, show mostN 12 = 4294967295 from rfl, show manyN 12 = 4294967295 from rfl]
    omega
  · rw [show sizeN 136 = 16 from rfl, show classI 136 = 1 from rfl] at hb
    simp only [fitsN, show fitT 136 = (18446744073709551615, 0, 4294967295, 0, 1) from rfl, show sizeN 136 = 16 from rfl, show mostN 16 = 18446744073709551615 from rfl, show manyN 16 = 4294967295 from rfl]
    omega
  · rw [show sizeN 138 = 16 from rfl, show classI 138 = 2 from rfl] at hb
    simp only [fitsN, show fitT 138 = (18446744073709551615, 0, 4294967295, 0, 1) from rfl, show sizeN 138 = 16 from rfl, show mostN 16 = 18446744073709551615 from rfl, show manyN 16 = 4294967295 from rfl]
    omega
  · rw [show sizeN 143 = 16 from rfl, show classI 143 = 3 from rfl] at hb
    simp only [fitsN, show fitT 143 = (18446744073709551615, 0, 4294967295, 0, 1) from rfl, show sizeN 143 = 16 from rfl, show mostN 16 = 18446744073709551615 from rfl, show manyN 16 = 4294967295 from rfl]
    omega
  · rw [show sizeN 145 = 16 from rfl, show classI 145 = 4 from rfl] at hb
    simp only [fitsN, show fitT 145 = (18446744073709551615, 0, 4294967295, 0, 0) from rfl, show sizeN 145 = 16 from rfl, show mostN 16 = 18446744073709551615 from rfl, show manyN 16 = 4294967295 from rfl]
    omega
theorem ops13_class {op : Int} (h : op ∈ ops13) : 1 ≤ classI op ∧ classI op ≤ 4 := by
  rcases ops13_mem h with rfl | rfl | rfl | rfl | rfl | rfl | rfl | rfl | rfl | rfl | rfl | rfl | rfl <;> decide
theorem ops13_known {op : Int} (h : op ∈ ops13) : knownB op = true := by
  rcases ops13_mem h with rfl | rfl | rfl | rfl | rfl | rfl | rfl | rfl | rfl | rfl | rfl | rfl | rfl <;> rfl
/-- what Bytes answers, said by the fields' sizes -/
theorem ops13_yes {op : Int} (h : op ∈ ops13) {a n b : Nat} (hb : b = 0 ∨ (b = 1 ∧ 6 < sizeN op ∧ classI op < 4)) (hf : a ≤ mostN (sizeN op) ∧ n ≤ manyN (sizeN op) ∧ (6 < sizeN op ∨ 0 < n)) : bytesB (op, a, (n : Int), 0, (b : Int)) = true ∧ (bytesI (op, a, (n : Int), 0, (b : Int))).length = sizeN op := by
  obtain ⟨h1, _, h3, _⟩ := bytes_fit ((ops13_fits h a n b hb).2 hf)
  exact ⟨h1, h3⟩
theorem ops13_no {op : Int} (h : op ∈ ops13) {a n b : Nat} (hb : b = 0 ∨ (b = 1 ∧ 6 < sizeN op ∧ classI op < 4)) (hf : ¬ (a ≤ mostN (sizeN op) ∧ n ≤ manyN (sizeN op) ∧ (6 < sizeN op ∨ 0 < n))) : bytesB (op, a, (n : Int), 0, (b : Int)) = false :=
  (bytes_no fun hc => hf ((ops13_fits h a n b hb).1 hc)).1
theorem ops13_ok {op : Int} (h : op ∈ ops13) {a n b : Nat} (ha : a ≤ 18446744073709551615) (hn : n ≤ 4294967295) (hb : b ≤ 1) : OkC (op, a, (n : Int), 0, (b : Int)) := by
  have := known_range (ops13_known h)
  unfold OkC
  simp only
  omega
theorem Try.zero_ops : (Try.prog.info? 39).map (fun i => (i.zero, i.size)) = some (some (.agg #[.int .i64 0, .int .i64 0, .int .i64 0, .int .i64 0, .int .i64 0, .int .i64 0, .int .i64 0, .int .i64 0, .int .i64 0, .int .i64 0, .int .i64 0, .int .i64 0, .int .i64 0]), 13) := by kernel_rfl
theorem iv_one (L : List Int) : ∀ u ∈ iv L, u.oneCell' = true := by
  intro u hu
  simp only [iv, List.mem_map] at hu
  obtain ⟨x, _, rfl⟩ := hu
  rfl
end Go.Proofs.Ytccdgpadjfjoeaa
