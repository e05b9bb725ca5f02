import Derived.Test.YtphgjofiploahaaOpn2
import Derived.Test.YtphgjofiploahaaR3c
namespace Go.Proofs.Ytphgjofiploahaa
open Go.ChangeShapes Go.WideShapes Go.ChangeAt Go.RowKit
set_option linter.unusedVariables false
set_option linter.unusedSimpArgs false

/-! Structs that come in, whatever is in them. -/
section
variable {H : Type} {enc : TypeId × Value → H} {P : Program} {w : World} {t : TypeId}

/-- A slice of whatever elements, as cells. -/
theorem shape_rows {e : TypeId} {sz : Nat} (ht : P.underlying t = some (.slice e)) (hce : P.cellsOf e = sz) (hsz : 0 < sz) (S : List Value → Prop)
    (hS : ∀ fuel cs x, DataW.trod enc P w 0 (fun _ => true) true fuel e cs = some x → S cs) (fuel : Nat) (cs : List Value) (x : DataW H × List MemPlace) (hf : DataW.trod enc P w 0 (fun _ => true) true fuel t cs = some x) :
    ∃ (v : Value) (css : List (List Value)), cs = [v] ∧ (∀ c ∈ css, S c ∧ c.length = sz) ∧ Rw sz w v css.length css.flatten := by
  rcases Deep.open_slice ht hf with ⟨rfl, _⟩ | ⟨x, len, cap, m, n, D, Pl, rfl, _, hl, hm, hmm, _, hel⟩
  · exact ⟨_, [], rfl, by simp, Rw.nil _ _⟩
  · by_cases h0 : len = 0
    · subst h0
      exact ⟨_, [], rfl, by simp, by simp, by simp, some x, cap, rfl, by omega, .inl rfl⟩
    · have hmc : m = cap := by simpa using hmm
      subst hmc
      have hspot : x.spot = none := by
        obtain ⟨cs, h1, h2⟩ := hel 0 (by omega)
        rw [hce] at h1
        have hc := World.cells?_some h1
        have h3 := hc.2.2 0 hsz
        rw [List.getElem?_eq_getElem (by rw [hc.2.1]; exact hsz)] at h3
        have h4 := World.cell?_spot h3
        clear h3 hc h1 h2 hel hf
        obtain ⟨b, off, spot⟩ := x
        cases spot with
        | none => rfl
        | some q => simp [Addr.add] at h4
      obtain ⟨b, off, spot⟩ := x
      simp at hspot
      subst hspot
      have hch : ∀ i, ∃ cs : List Value, cs.length = sz ∧ (i < len → S cs ∧ ∀ j, j < sz → w.cell? ⟨b, off + (i * sz + j), none⟩ = cs[j]?) := by
        intro i
        by_cases hi : i < len
        · obtain ⟨cs, h1, h2⟩ := hel i (by omega)
          rw [hce] at h1
          have hc := World.cells?_some h1
          refine ⟨cs, hc.2.1, fun _ => ⟨hS _ _ _ h2, fun j hj => ?_⟩⟩
          rw [← hc.2.2 j hj, Addr.add_mid, Addr.add_mid, Nat.add_assoc]
        · exact ⟨List.replicate sz undef, by simp, fun h => absurd h hi⟩
      obtain ⟨f, hf'⟩ := Classical.axiomOfChoice hch
      have hfl := flatten_len f (fun i => (hf' i).1) len
      refine ⟨_, (List.range len).map f, rfl, ?_, ?_⟩
      · intro cs hcs
        obtain ⟨i, hi, rfl⟩ := List.mem_map.1 hcs
        exact ⟨((hf' i).2 (by simpa using hi)).1, (hf' i).1⟩
      · rw [show ((List.range len).map f).length = len from by simp]
        refine ⟨hfl, by omega, some ⟨b, off, none⟩, m, rfl, hl, .inr ⟨b, off, rfl, fun j u hu => ?_⟩⟩
        have hj : j < len * sz := by have := (List.getElem?_eq_some_iff.1 hu).1; omega
        rw [flatten_get f (fun i => (hf' i).1) hsz len j hj] at hu
        have hd : j / sz < len := Nat.div_lt_of_lt_mul (by rw [Nat.mul_comm]; exact hj)
        have := ((hf' (j / sz)).2 hd).2 (j % sz) (Nat.mod_lt _ hsz)
        rw [← hu, ← this]
        congr 3
        have := Nat.div_add_mod j sz
        rw [Nat.mul_comm] at this
        omega
/-- A field of a struct, as cells. -/
theorem shape_field {fs : Array Field} {L : List (TypeId × Nat)} (ht : P.underlying t = some (.struct fs)) (hL : fs.toList.map (fun f => (f.type, f.offset)) = L) (i : Nat) (ty : TypeId) (off : Nat) (hi : L[i]? = some (ty, off))
    {fuel : Nat} {cs : List Value} {x : DataW H × List MemPlace} (h : DataW.trod enc P w 0 (fun _ => true) true fuel t cs = some x) : cs.length = P.cellsOf t ∧ ∃ m y, DataW.trod enc P w 0 (fun _ => true) true m ty ((cs.drop off).take (P.cellsOf ty)) = some y := by
  obtain ⟨xs, n, _, _, hl, hxs, hall⟩ := DataW.trod_struct ht h
  rw [← hL, List.getElem?_map, Option.map_eq_some_iff] at hi
  obtain ⟨f, hf, he⟩ := hi
  simp only [Prod.mk.injEq] at he
  obtain ⟨rfl, rfl⟩ := he
  have hlt : i < fs.size := by have := (List.getElem?_eq_some_iff.1 hf).1; simpa using this
  have := hall i f (by simpa using hf)
  rw [List.getElem?_eq_getElem (by omega)] at this
  exact ⟨hl, n, _, this⟩
theorem shape_int {k : IntKind} (ht : P.underlying t = some (.int k)) {fuel : Nat} {cs : List Value} {x : DataW H × List MemPlace} (h : DataW.trod enc P w 0 (fun _ => true) true fuel t cs = some x) : ∃ n : Int, cs = [.int k n] ∧ (Lit.int k n).wf = true := by
  obtain ⟨n, h1, _, h2⟩ := DataW.trod_int ht h
  exact ⟨n, h1, h2⟩
theorem shape_u8 (ht : P.underlying t = some (.int .u8)) {fuel : Nat} {cs : List Value} {x : DataW H × List MemPlace} (h : DataW.trod enc P w 0 (fun _ => true) true fuel t cs = some x) : ∃ c : UInt8, cs = [.int .u8 (c.toNat : Int)] := by
  obtain ⟨n, h1, h2⟩ := shape_int ht h
  have hx := bounds_u8 h2
  obtain ⟨y, rfl⟩ := Int.eq_ofNat_of_zero_le hx.1
  refine ⟨UInt8.ofNat y, ?_⟩
  rw [h1, UInt8.toNat_ofNat']
  congr 3
  omega
theorem shape_bool (ht : P.underlying t = some .bool) {fuel : Nat} {cs : List Value} {x : DataW H × List MemPlace} (h : DataW.trod enc P w 0 (fun _ => true) true fuel t cs = some x) : ∃ b : Bool, cs = [.bool b] := by
  obtain ⟨b, h1, _⟩ := DataW.trod_bool ht h
  exact ⟨b, h1⟩
end
theorem agg_of {cs : Array Value} {l : List Value} (h : cs.toList = l) : Value.agg cs = .agg l.toArray := by rw [← h]
theorem two_cells {cs : List Value} {a b : Value} (h : cs.length = 2) (h0 : (cs.drop 0).take 1 = [a]) (h1 : (cs.drop 1).take 1 = [b]) : cs = [a, b] := by
  match cs, h with
  | [x, y], _ => simp at h0 h1; rw [h0, h1]

section
variable {H : Type} {enc : TypeId × Value → H} {w : World} {r : Reach} {base : Nat} {v : Value} {d : DataW H} {p : List MemPlace}
theorem Try.is_medium : Try.prog.underlying 25 = some (.struct (Try.prog.fieldsOf 25)) := by kernel_rfl
theorem Try.fields_medium : (Try.prog.fieldsOf 25).toList.map (fun f => (f.type, f.offset)) = [(22, 0), (23, 1)] := by kernel_rfl
theorem Try.offs_dirty : (Try.prog.fieldsOf 53).toList.map (fun f => (f.type, f.offset)) = [(3, 0), (27, 1)] := by kernel_rfl
theorem shape_dirty (fuel : Nat) (cs : List Value) (x : DataW H × List MemPlace) (h : DataW.trod enc Try.prog w 0 (fun _ => true) true fuel 53 cs = some x) : ∃ D : Drt, (D.2.length = 64 ∧ -9223372036854775808 ≤ D.1 ∧ D.1 ≤ 9223372036854775807) ∧ cs = .int .i64 D.1 :: bv D.2 := by
  obtain ⟨hl, m0, y0, h0⟩ := shape_field Try.is_dirty Try.offs_dirty 0 _ _ rfl h
  obtain ⟨_, m1, y1, h1⟩ := shape_field Try.is_dirty Try.offs_dirty 1 _ _ rfl h
  rw [show Try.prog.cellsOf 53 = 65 from by kernel_rfl] at hl
  rw [show Try.prog.cellsOf 3 = 1 from by kernel_rfl] at h0
  rw [show Try.prog.cellsOf 27 = 64 from by kernel_rfl] at h1
  obtain ⟨n, hn, wn⟩ := shape_int Try.underlying3 h0
  obtain ⟨X, hX, hx⟩ := shape_bytes Try.underlying27 Try.underlying5 (by kernel_rfl) (by kernel_rfl) _ _ _ h1
  refine ⟨(n, X), ⟨hX, bounds_i64 wn⟩, ?_⟩
  have e2 : (cs.drop 1).take 64 = cs.drop 1 := List.take_of_length_le (by simp; omega)
  rw [e2] at hx
  match cs, hl with
  | c :: cs, _ =>
    simp at hn hx
    rw [hn, hx]
theorem dv_flatten : ∀ css : List (List Value), (∀ cs ∈ css, ∃ D : Drt, (D.2.length = 64 ∧ -9223372036854775808 ≤ D.1 ∧ D.1 ≤ 9223372036854775807) ∧ cs = .int .i64 D.1 :: bv D.2) → ∃ D : List Drt, D.length = css.length ∧ Ok D ∧ css.flatten = dv D
  | [], _ => ⟨[], rfl, (fun d hd => by cases hd), rfl⟩
  | c :: css, h => by
    obtain ⟨X, hX, rfl⟩ := h c (by simp)
    obtain ⟨D, h1, h2, h3⟩ := dv_flatten css (fun cs hcs => h cs (by simp [hcs]))
    refine ⟨X :: D, by simp [h1], fun d hd => ?_, by rw [List.flatten_cons, h3, dv_cons]⟩
    rcases List.mem_cons.1 hd with rfl | hd
    · exact hX
    · exact h2 d hd
/-- the cells of a medium -/
theorem shape_medium (fuel : Nat) (cs : List Value) (x : DataW H × List MemPlace) (h : DataW.trod enc Try.prog w 0 (fun _ => true) true fuel 25 cs = some x) : ∃ vb vd n F D, cs = [vb, vd] ∧ Rw 64 w vb n (bv F) ∧ Rw 65 w vd D.length (dv D) ∧ Ok D := by
  obtain ⟨hl, m0, y0, h0⟩ := shape_field Try.is_medium Try.fields_medium 0 _ _ rfl h
  obtain ⟨_, m1, y1, h1⟩ := shape_field Try.is_medium Try.fields_medium 1 _ _ rfl h
  rw [show Try.prog.cellsOf 25 = 2 from by kernel_rfl] at hl
  rw [show Try.prog.cellsOf 22 = 1 from by kernel_rfl] at h0
  rw [show Try.prog.cellsOf 23 = 1 from by kernel_rfl] at h1
  obtain ⟨vb, css, e0, k0, r0⟩ := shape_rows Try.underlying22 (sz := 64) (by kernel_rfl) (by decide) (fun cs => ∃ X : List UInt8, X.length = 64 ∧ cs = bv X) (fun fuel cs x hx => shape_bytes Try.underlying27 Try.underlying5 (by kernel_rfl) (by kernel_rfl) fuel cs x hx) _ _ _ h0
  obtain ⟨vd, dss, e1, k1, r1⟩ := shape_rows Try.underlying23 (sz := 65) (by kernel_rfl) (by decide) (fun cs => ∃ D : Drt, (D.2.length = 64 ∧ -9223372036854775808 ≤ D.1 ∧ D.1 ≤ 9223372036854775807) ∧ cs = .int .i64 D.1 :: bv D.2) (fun fuel cs x hx => shape_dirty fuel cs x hx) _ _ _ h1
  obtain ⟨F, hF⟩ := bv_flatten css (fun cs hcs => (k0 cs hcs).1)
  obtain ⟨D, hD, hok, hDf⟩ := dv_flatten dss (fun cs hcs => (k1 cs hcs).1)
  rw [hF] at r0
  rw [hDf, ← hD] at r1
  exact ⟨vb, vd, css.length, F, D, two_cells hl e0 e1, r0, r1, hok⟩
def RMed (w : World) (v : Value) : Prop := ∃ n F D, Med w v n F D
theorem rd_medium (hv : Value.okWide Try.prog w r base 25 v) (h : DataW.Trod enc Try.prog w 0 (fun _ => true) true 25 v d p) : RMed w v := by
  obtain ⟨cs, rfl, _⟩ := okWide_struct Try.is_medium hv
  obtain ⟨fuel, hf⟩ := h
  obtain ⟨vb, vd, n, F, D, e, h1, h2, h3⟩ := shape_medium _ _ _ hf
  refine ⟨n, F, D, vb, vd, ?_, h1, h2, h3⟩
  rw [agg_of (show cs.toList = [vb, vd] from e)]

/-- a block's data, and whether it goes through -/
theorem Try.is_write3 : Try.prog.underlying 29 = some (.struct (Try.prog.fieldsOf 29)) := by kernel_rfl
theorem Try.fields_write3 : (Try.prog.fieldsOf 29).toList.map (fun f => (f.type, f.offset)) = [(27, 0), (4, 64)] := by kernel_rfl
def RWrite3 (v : Value) : Prop := ∃ (X : List UInt8) (b : Bool), X.length = 64 ∧ v = .agg (bv X ++ [Value.bool b]).toArray
theorem rd_write3 (hv : Value.okWide Try.prog w r base 29 v) (h : DataW.Trod enc Try.prog w 0 (fun _ => true) true 29 v d p) : RWrite3 v := by
  obtain ⟨cs, rfl, _⟩ := okWide_struct Try.is_write3 hv
  obtain ⟨fuel, hf⟩ := h
  obtain ⟨hl, m0, y0, h0⟩ := shape_field Try.is_write3 Try.fields_write3 0 _ _ rfl hf
  obtain ⟨_, m1, y1, h1⟩ := shape_field Try.is_write3 Try.fields_write3 1 _ _ rfl hf
  rw [show Try.prog.cellsOf 29 = 65 from by kernel_rfl] at hl
  rw [show Try.prog.cellsOf 27 = 64 from by kernel_rfl] at h0
  rw [show Try.prog.cellsOf 4 = 1 from by kernel_rfl] at h1
  obtain ⟨X, hX, hx⟩ := shape_bytes Try.underlying27 Try.underlying5 (by kernel_rfl) (by kernel_rfl) _ _ _ h0
  obtain ⟨b, hb⟩ := shape_bool Try.underlying4 h1
  refine ⟨X, b, hX, ?_⟩
  have hl' : cs.toList.length = 65 := hl
  have e1 : cs.toList.take 64 = bv X := hx
  have e2 : cs.toList.drop 64 = [Value.bool b] := by
    have : (cs.toList.drop 64).take 1 = cs.toList.drop 64 := List.take_of_length_le (by simp at hl' ⊢; omega)
    rw [← this]; exact hb
  rw [agg_of (show cs.toList = bv X ++ [Value.bool b] from by rw [← e1, ← e2, List.take_append_drop])]
theorem Try.is_loss : Try.prog.underlying 56 = some (.struct (Try.prog.fieldsOf 56)) := by kernel_rfl
theorem Try.fields_loss : (Try.prog.fieldsOf 56).toList.map (fun f => (f.type, f.offset)) = [(5, 0), (43, 1)] := by kernel_rfl
def RLoss (v : Value) : Prop := ∃ (c : UInt8) (m : Nat), m ≤ 18446744073709551615 ∧ v = .agg #[.int .u8 (c.toNat : Int), .int .u64 (m : Int)]
theorem rd_loss (hv : Value.okWide Try.prog w r base 56 v) (h : DataW.Trod enc Try.prog w 0 (fun _ => true) true 56 v d p) : RLoss v := by
  obtain ⟨cs, rfl, _⟩ := okWide_struct Try.is_loss hv
  obtain ⟨fuel, hf⟩ := h
  obtain ⟨hl, m0, y0, h0⟩ := shape_field Try.is_loss Try.fields_loss 0 _ _ rfl hf
  obtain ⟨_, m1, y1, h1⟩ := shape_field Try.is_loss Try.fields_loss 1 _ _ rfl hf
  rw [show Try.prog.cellsOf 56 = 2 from by kernel_rfl] at hl
  rw [show Try.prog.cellsOf 5 = 1 from by kernel_rfl] at h0
  rw [show Try.prog.cellsOf 43 = 1 from by kernel_rfl] at h1
  obtain ⟨c, hc⟩ := shape_u8 Try.underlying5 h0
  obtain ⟨m, hm, wm⟩ := shape_int Try.underlying43 h1
  have hb := bounds_u64 wm
  obtain ⟨y, rfl⟩ := Int.eq_ofNat_of_zero_le hb.1
  exact ⟨c, y, by omega, by rw [agg_of (show cs.toList = _ from two_cells hl hc hm)]⟩
end
end Go.Proofs.Ytphgjofiploahaa
