import Derived.Test.YtfefnkeognccpaaOpn2
import Derived.Test.YtfefnkeognccpaaR3c
namespace Go.Proofs.Ytfefnkeognccpaa
open Go.ChangeShapes Go.WideShapes Go.ChangeAt Go.RowKit
set_option linter.unusedVariables false
set_option linter.unusedSimpArgs false

/-! Structs that come in, whatever is in them. -/
section
variable {H : Type} {enc : TypeId × Value → H} {P : Program} {w : World} {t : TypeId}

/-- A slice of whatever elements, as cells. -/
theorem shape_rows {e : TypeId} {sz : Nat} (ht : P.underlying t = some (.slice e)) (hce : P.cellsOf e = sz) (hsz : 0 < sz) (S : List Value → Prop)
    (hS : ∀ fuel cs x, DataW.trod enc P w 0 (fun _ => true) true fuel e cs = some x → S cs) (fuel : Nat) (cs : List Value) (x : DataW H × List MemPlace) (hf : DataW.trod enc P w 0 (fun _ => true) true fuel t cs = some x) :
    ∃ (v : Value) (css : List (List Value)), cs = [v] ∧ (∀ c ∈ css, S c ∧ c.length = sz) ∧ Rw sz w v css.length css.flatten := by
  rcases Deep.open_slice ht hf with ⟨rfl, _⟩ | ⟨x, len, cap, m, n, D, Pl, rfl, _, hl, hm, hmm, _, hel⟩
  · exact ⟨_, [], rfl, by simp, Rw.nil _ _⟩
  · by_cases h0 : len = 0
    · subst h0
      exact ⟨_, [], rfl, by simp, by simp, by simp, some x, cap, rfl, by omega, .inl rfl⟩
    · have hmc : m = cap := by simpa using hmm
      subst hmc
      have hspot : x.spot = none := by
        obtain ⟨cs, h1, h2⟩ := hel 0 (by omega)
        rw [hce] at h1
        have hc := World.cells?_some h1
        have h3 := hc.2.2 0 hsz
        rw [List.getElem?_eq_getElem (by rw [hc.2.1]; exact hsz)] at h3
        have h4 := World.cell?_spot h3
        clear h3 hc h1 h2 hel hf
        obtain ⟨b, off, spot⟩ := x
        cases spot with
        | none => rfl
        | some q => simp [Addr.add] at h4
      obtain ⟨b, off, spot⟩ := x
      simp at hspot
      subst hspot
      have hch : ∀ i, ∃ cs : List Value, cs.length = sz ∧ (i < len → S cs ∧ ∀ j, j < sz → w.cell? ⟨b, off + (i * sz + j), none⟩ = cs[j]?) := by
        intro i
        by_cases hi : i < len
        · obtain ⟨cs, h1, h2⟩ := hel i (by omega)
          rw [hce] at h1
          have hc := World.cells?_some h1
          refine ⟨cs, hc.2.1, fun _ => ⟨hS _ _ _ h2, fun j hj => ?_⟩⟩
          rw [← hc.2.2 j hj, Addr.add_mid, Addr.add_mid, Nat.add_assoc]
        · exact ⟨List.replicate sz undef, by simp, fun h => absurd h hi⟩
      obtain ⟨f, hf'⟩ := Classical.axiomOfChoice hch
      have hfl := flatten_len f (fun i => (hf' i).1) len
      refine ⟨_, (List.range len).map f, rfl, ?_, ?_⟩
      · intro cs hcs
        obtain ⟨i, hi, rfl⟩ := List.mem_map.1 hcs
        exact ⟨((hf' i).2 (by simpa using hi)).1, (hf' i).1⟩
      · rw [show ((List.range len).map f).length = len from by simp]
        refine ⟨hfl, by omega, some ⟨b, off, none⟩, m, rfl, hl, .inr ⟨b, off, rfl, fun j u hu => ?_⟩⟩
        have hj : j < len * sz := by have := (List.getElem?_eq_some_iff.1 hu).1; omega
        rw [flatten_get f (fun i => (hf' i).1) hsz len j hj] at hu
        have hd : j / sz < len := Nat.div_lt_of_lt_mul (by rw [Nat.mul_comm]; exact hj)
        have := ((hf' (j / sz)).2 hd).2 (j % sz) (Nat.mod_lt _ hsz)
        rw [← hu, ← this]
        congr 3
        have := Nat.div_add_mod j sz
        rw [Nat.mul_comm] at this
        omega
/-- A field of a struct, as cells. -/
theorem shape_field {fs : Array Field} {L : List (TypeId × Nat)} (ht : P.underlying t = some (.struct fs)) (hL : fs.toList.map (fun f => (f.type, f.offset)) = L) (i : Nat) (ty : TypeId) (off : Nat) (hi : L[i]? = some (ty, off))
    {fuel : Nat} {cs : List Value} {x : DataW H × List MemPlace} (h : DataW.trod enc P w 0 (fun _ => true) true fuel t cs = some x) : cs.length = P.cellsOf t ∧ ∃ m y, DataW.trod enc P w 0 (fun _ => true) true m ty ((cs.drop off).take (P.cellsOf ty)) = some y := by
  obtain ⟨xs, n, _, _, hl, hxs, hall⟩ := DataW.trod_struct ht h
  rw [← hL, List.getElem?_map, Option.map_eq_some_iff] at hi
  obtain ⟨f, hf, he⟩ := hi
  simp only [Prod.mk.injEq] at he
  obtain ⟨rfl, rfl⟩ := he
  have hlt : i < fs.size := by have := (List.getElem?_eq_some_iff.1 hf).1; simpa using this
  have := hall i f (by simpa using hf)
  rw [List.getElem?_eq_getElem (by omega)] at this
  exact ⟨hl, n, _, this⟩
theorem shape_int {k : IntKind} (ht : P.underlying t = some (.int k)) {fuel : Nat} {cs : List Value} {x : DataW H × List MemPlace} (h : DataW.trod enc P w 0 (fun _ => true) true fuel t cs = some x) : ∃ n : Int, cs = [.int k n] ∧ (Lit.int k n).wf = true := by
  obtain ⟨n, h1, _, h2⟩ := DataW.trod_int ht h
  exact ⟨n, h1, h2⟩
theorem shape_u8 (ht : P.underlying t = some (.int .u8)) {fuel : Nat} {cs : List Value} {x : DataW H × List MemPlace} (h : DataW.trod enc P w 0 (fun _ => true) true fuel t cs = some x) : ∃ c : UInt8, cs = [.int .u8 (c.toNat : Int)] := by
  obtain ⟨n, h1, h2⟩ := shape_int ht h
  have hx := bounds_u8 h2
  obtain ⟨y, rfl⟩ := Int.eq_ofNat_of_zero_le hx.1
  refine ⟨UInt8.ofNat y, ?_⟩
  rw [h1, UInt8.toNat_ofNat']
  congr 3
  omega
theorem shape_bool (ht : P.underlying t = some .bool) {fuel : Nat} {cs : List Value} {x : DataW H × List MemPlace} (h : DataW.trod enc P w 0 (fun _ => true) true fuel t cs = some x) : ∃ b : Bool, cs = [.bool b] := by
  obtain ⟨b, h1, _⟩ := DataW.trod_bool ht h
  exact ⟨b, h1⟩
end
theorem agg_of {cs : Array Value} {l : List Value} (h : cs.toList = l) : Value.agg cs = .agg l.toArray := by rw [← h]
theorem two_cells {cs : List Value} {a b : Value} (h : cs.length = 2) (h0 : (cs.drop 0).take 1 = [a]) (h1 : (cs.drop 1).take 1 = [b]) : cs = [a, b] := by
  match cs, h with
  | [x, y], _ => simp at h0 h1; rw [h0, h1]

section
variable {H : Type} {enc : TypeId × Value → H} {w : World} {r : Reach} {base : Nat} {v : Value} {d : DataW H} {p : List MemPlace}
theorem dv_flatten : ∀ css : List (List Value), (∀ cs ∈ css, ∃ D : Drt, (D.2.length = 64 ∧ -9223372036854775808 ≤ D.1 ∧ D.1 ≤ 9223372036854775807) ∧ cs = .int .i64 D.1 :: bv D.2) → ∃ D : List Drt, D.length = css.length ∧ Ok D ∧ css.flatten = dv D
  | [], _ => ⟨[], rfl, (fun d hd => by cases hd), rfl⟩
  | c :: css, h => by
    obtain ⟨X, hX, rfl⟩ := h c (by simp)
    obtain ⟨D, h1, h2, h3⟩ := dv_flatten css (fun cs hcs => h cs (by simp [hcs]))
    refine ⟨X :: D, by simp [h1], fun d hd => ?_, by rw [List.flatten_cons, h3, dv_cons]⟩
    rcases List.mem_cons.1 hd with rfl | hd
    · exact hX
    · exact h2 d hd
def RMed (w : World) (v : Value) : Prop := ∃ n F D, Med w v n F D
def RWrite3 (v : Value) : Prop := ∃ (X : List UInt8) (b : Bool), X.length = 64 ∧ v = .agg (bv X ++ [Value.bool b]).toArray
def RLoss (v : Value) : Prop := ∃ (c : UInt8) (m : Nat), m ≤ 18446744073709551615 ∧ v = .agg #[.int .u8 (c.toNat : Int), .int .u64 (m : Int)]
end
end Go.Proofs.Ytfefnkeognccpaa
