import Derived.Test.YtfefnkeognccpaaRow
import Derived.Deep.Slices
namespace Go.Proofs.Ytfefnkeognccpaa
open Go.ChangeShapes Go.WideShapes Go.ChangeAt Go.RowKit
set_option linter.unusedVariables false
set_option linter.unusedSimpArgs false

section
variable {H : Type} {enc : TypeId × Value → H} {P : Program} {w : World} {r : Reach} {base : Nat} {t : TypeId} {v : Value} {d : DataW H} {p : List MemPlace}

theorem flatten_len {sz : Nat} (f : Nat → List Value) (hf : ∀ i, (f i).length = sz) : ∀ n : Nat, (((List.range n).map f).flatten).length = n * sz := by
  intro n
  induction n with
  | zero => simp
  | succ n ih => rw [List.range_succ, List.map_append, List.flatten_append, List.length_append, ih]; simp [hf, Nat.add_mul]
theorem flatten_get {sz : Nat} (f : Nat → List Value) (hf : ∀ i, (f i).length = sz) (hsz : 0 < sz) : ∀ (n j : Nat), j < n * sz → (((List.range n).map f).flatten)[j]? = (f (j / sz))[j % sz]? := by
  intro n
  induction n with
  | zero => intro j hj; simp at hj
  | succ n ih =>
    intro j hj
    rw [List.range_succ, List.map_append, List.flatten_append]
    have hl := flatten_len f hf n
    by_cases h : j < n * sz
    · rw [List.getElem?_append_left (by omega)]; exact ih j h
    · rw [List.getElem?_append_right (by omega), hl]
      have h1 : j < n * sz + sz := by rw [Nat.add_mul] at hj; omega
      have e1 : j / sz = n := by
        apply Nat.div_eq_of_lt_le
        · omega
        · rw [Nat.add_mul]; omega
      have e2 : j % sz = j - n * sz := by rw [Nat.mod_eq_sub_mul_div, e1, Nat.mul_comm]
      simp [e1, e2]

/-- A slice of whatever elements, S what the cells of one of them are. -/
theorem rd_rows {e : TypeId} {sz : Nat} (ht : P.underlying t = some (.slice e)) (hce : P.cellsOf e = sz) (hsz : 0 < sz) (S : List Value → Prop)
    (hS : ∀ fuel cs x, DataW.trod enc P w 0 (fun _ => true) true fuel e cs = some x → S cs) (hv : Value.okWide P w r base t v) (h : DataW.Trod enc P w 0 (fun _ => true) true t v d p) :
    ∃ css : List (List Value), (∀ cs ∈ css, S cs ∧ cs.length = sz) ∧ Rw sz w v css.length css.flatten := by
  obtain ⟨a, len, cap, rfl⟩ := okWide_slice ht hv
  obtain ⟨fuel, hf⟩ := h
  rcases Deep.open_slice ht hf with ⟨hcs, _⟩ | ⟨x, l, c, m, n, D, Pl, hcs, _, hl, hm, hmm, _, hel⟩
  · simp [Value.cells] at hcs
    obtain ⟨rfl, rfl, rfl⟩ := hcs
    exact ⟨[], by simp, Rw.nil _ _⟩
  · simp [Value.cells] at hcs
    obtain ⟨e1, e2, e3⟩ := hcs
    subst e1 e2 e3
    by_cases h0 : len = 0
    · subst h0
      exact ⟨[], by simp, by simp, by simp, some x, cap, rfl, by omega, .inl rfl⟩
    · have hmc : m = cap := by simpa using hmm
      subst hmc
      have hspot : x.spot = none := by
        obtain ⟨cs, h1, h2⟩ := hel 0 (by omega)
        rw [hce] at h1
        have hc := World.cells?_some h1
        have h3 := hc.2.2 0 hsz
        rw [List.getElem?_eq_getElem (by rw [hc.2.1]; exact hsz)] at h3
        have h4 := World.cell?_spot h3
        clear h3 hc h1 h2 hel hf
        obtain ⟨b, off, spot⟩ := x
        cases spot with
        | none => rfl
        | some q => simp [Addr.add] at h4
      obtain ⟨b, off, spot⟩ := x
      simp at hspot
      subst hspot
      have hch : ∀ i, ∃ cs : List Value, cs.length = sz ∧ (i < len → S cs ∧ ∀ j, j < sz → w.cell? ⟨b, off + (i * sz + j), none⟩ = cs[j]?) := by
        intro i
        by_cases hi : i < len
        · obtain ⟨cs, h1, h2⟩ := hel i (by omega)
          rw [hce] at h1
          have hc := World.cells?_some h1
          refine ⟨cs, hc.2.1, fun _ => ⟨hS _ _ _ h2, fun j hj => ?_⟩⟩
          rw [← hc.2.2 j hj, Addr.add_mid, Addr.add_mid, Nat.add_assoc]
        · exact ⟨List.replicate sz undef, by simp, fun h => absurd h hi⟩
      obtain ⟨f, hf'⟩ := Classical.axiomOfChoice hch
      have hfl := flatten_len f (fun i => (hf' i).1) len
      refine ⟨(List.range len).map f, ?_, ?_⟩
      · intro cs hcs
        obtain ⟨i, hi, rfl⟩ := List.mem_map.1 hcs
        exact ⟨((hf' i).2 (by simpa using hi)).1, (hf' i).1⟩
      · rw [show ((List.range len).map f).length = len from by simp]
        refine ⟨hfl, by omega, some ⟨b, off, none⟩, m, rfl, hl, .inr ⟨b, off, rfl, fun j u hu => ?_⟩⟩
        have hj : j < len * sz := by have := (List.getElem?_eq_some_iff.1 hu).1; omega
        rw [flatten_get f (fun i => (hf' i).1) hsz len j hj] at hu
        have hd : j / sz < len := Nat.div_lt_of_lt_mul (by rw [Nat.mul_comm]; exact hj)
        have := ((hf' (j / sz)).2 hd).2 (j % sz) (Nat.mod_lt _ hsz)
        rw [← hu, ← this]
        congr 3
        have := Nat.div_add_mod j sz
        rw [Nat.mul_comm] at this
        omega

/-- An array of bytes, as cells. -/
theorem shape_bytes {n : Nat} {e : TypeId} (ht : P.underlying t = some (.array n e)) (he : P.underlying e = some (.int .u8)) (hc : P.cellsOf e = 1) (hct : P.cellsOf t = n) (fuel : Nat) (cs : List Value) (x : DataW H × List MemPlace)
    (h : DataW.trod enc P w 0 (fun _ => true) true fuel t cs = some x) : ∃ X : List UInt8, X.length = n ∧ cs = bv X := by
  obtain ⟨xs, m, _, _, hl, hxs, hall⟩ := DataW.trod_array ht h
  rw [hct] at hl
  have hget : ∀ i, i < n → ∃ b : UInt8, cs[i]? = some (.int .u8 (b.toNat : Int)) := by
    intro i hi
    have h1 := hall i hi
    rw [hc, Nat.mul_one] at h1
    have h2 : (List.drop i cs).take 1 = [cs[i]'(by omega)] := by
      rw [List.drop_eq_getElem_cons (by omega), List.take_succ_cons, List.take_zero]
    rw [h2, List.getElem?_eq_getElem (by omega)] at h1
    obtain ⟨z, e0, _, wz⟩ := DataW.trod_int he h1
    simp at e0
    have hb := bounds_u8 wz
    obtain ⟨y, rfl⟩ := Int.eq_ofNat_of_zero_le hb.1
    refine ⟨UInt8.ofNat y, ?_⟩
    rw [List.getElem?_eq_getElem (by omega), e0, UInt8.toNat_ofNat']
    congr 3
    omega
  have hch : ∀ i, ∃ b : UInt8, i < n → cs[i]? = some (.int .u8 (b.toNat : Int)) := fun i => by
    by_cases hi : i < n
    · obtain ⟨b, hb⟩ := hget i hi; exact ⟨b, fun _ => hb⟩
    · exact ⟨0, fun h => absurd h hi⟩
  obtain ⟨f, hf⟩ := Classical.axiomOfChoice hch
  refine ⟨(List.range n).map f, by simp, ?_⟩
  apply List.ext_getElem?
  intro i
  by_cases hi : i < n
  · rw [hf i hi]; simp [bv, hi]
  · rw [List.getElem?_eq_none (by omega), List.getElem?_eq_none (by simp [bv]; omega)]
end

theorem bv_flatten : ∀ css : List (List Value), (∀ cs ∈ css, ∃ X : List UInt8, X.length = 64 ∧ cs = bv X) → ∃ F : List UInt8, css.flatten = bv F
  | [], _ => ⟨[], rfl⟩
  | c :: css, h => by
    obtain ⟨X, _, rfl⟩ := h c (by simp)
    obtain ⟨F, hF⟩ := bv_flatten css (fun cs hcs => h cs (by simp [hcs]))
    exact ⟨X ++ F, by rw [List.flatten_cons, hF, bv_append]⟩

/-- A store that comes in. -/
def RBlocks (w : World) (v : Value) : Prop := ∃ n F, Rw 64 w v n (bv F)
end Go.Proofs.Ytfefnkeognccpaa
