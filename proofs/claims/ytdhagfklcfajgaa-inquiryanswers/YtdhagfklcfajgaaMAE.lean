import Derived.Deep.WholeRow
import Derived.Test.YtdhagfklcfajgaaMAC
import Derived.Test.YtdhagfklcfajgaaMAD
import Derived.Test.YtdhagfklcfajgaaMAB
import Derived.Test.YtdhagfklcfajgaaMAA
namespace Go.Proofs.Ytdhagfklcfajgaa
open Go.ChangeShapes Go.WideShapes Go.ChangeAt Go.RowKit
set_option linter.unusedVariables false
set_option linter.unusedSimpArgs false

def z65 : Value := .agg (#[.int .i64 0] ++ Array.replicate 64 (.int .u8 0))
theorem z65_size : z65.cells.size = 65 := rfl
theorem Med.later {w w' : World} {v : Value} {n : Nat} {F : List UInt8} {D : List Drt} (h : Med w v n F D) (hl : Later w w') : Med w' v n F D := by
  obtain ⟨vb, vd, rfl, hb, hd, hok⟩ := h
  exact ⟨vb, vd, rfl, hb.later hl, hd.later hl, hok⟩

theorem Rw.setCell_apart {sz : Nat} {w : World} {v : Value} {n : Nat} {xs : List Value} {a : Addr} {u u' : Value} (h : Rw sz w v n xs) (hc : w.cell? a = some u) (hu : u ∉ xs) : Rw sz (w.setCell a u') v n xs := by
  obtain ⟨h1, h2, a', cap, rfl, hcap, h3⟩ := h
  refine ⟨h1, h2, a', cap, rfl, hcap, ?_⟩
  rcases h3 with h3 | ⟨b, off, ha, hr⟩
  · exact .inl h3
  · refine .inr ⟨b, off, ha, fun j x hx => ?_⟩
    have hne : a ≠ ⟨b, off + j, none⟩ := fun e => by
      have := hr j x hx
      rw [← e, hc] at this
      cases this
      exact hu (List.mem_of_getElem? hx)
    rw [World.cell?_setCell_other _ _ _ _ hne]; exact hr j x hx
theorem bv_noslice (l : List UInt8) {a : Option Addr} {n c : Nat} : Value.slice a n c ∉ bv l := fun h => by
  obtain ⟨b, _, e⟩ := List.mem_map.1 h
  cases e
theorem dv_noslice (D : List Drt) {a : Option Addr} {n c : Nat} : Value.slice a n c ∉ dv D := fun h => by
  simp only [dv, List.mem_flatMap] at h
  obtain ⟨d, _, hd⟩ := h
  rcases List.mem_cons.1 hd with e | h
  · cases e
  · exact bv_noslice _ h

def greatB (n : Nat) (D : List Drt) : Bool := decide (70 < n ∨ 70 < D.length)
end Go.Proofs.Ytdhagfklcfajgaa

namespace Go.Proofs.Ytdhagfklcfajgaa
open Go.ChangeShapes Go.WideShapes Go.ChangeAt Go.RowKit
set_option linter.unusedVariables false
set_option linter.unusedSimpArgs false

theorem map_two {α β : Type} {f : α → β} {l : List α} {x y : β} (h : l.map f = [x, y]) : ∃ a b, l = [a, b] ∧ f a = x ∧ f b = y := by
  match l, h with
  | [a, b], h => simp at h; exact ⟨a, b, rfl, h.1, h.2⟩
  | [_], h => simp at h
  | _ :: _ :: _ :: _, h => simp at h
theorem part_int {P : Program} {t : TypeId} (w : World) (ht : P.underlying t = some (.int .i64)) (a : Int) (X : List UInt8) : (part t (Value.int .i64 a :: bv X).toArray 0).run P w = .ok (.int .i64 a) w := by
  simp [part, isAgg, run_underlying ht]
theorem part_arr {P : Program} {t e : TypeId} (w : World) (ht : P.underlying t = some (.array 64 e)) (hs : (P.info? t).map (·.size) = some 64) (a : Int) (X : List UInt8) (hX : X.length = 64) : (part t (Value.int .i64 a :: bv X).toArray 1).run P w = .ok (.agg (bv X).toArray) w := by
  have : (bv X).take 64 = bv X := List.take_of_length_le (by rw [bv_length]; omega)
  simp [part, isAgg, run_underlying ht, run_size hs, this]
theorem eqFields_two {P : Program} (w : World) (d : Nat) (xs ys : Array Value) (f g : Field) (hf : f.name ≠ "_") (hg : g.name ≠ "_") (a b a' b' : Value) (r r' : Bool)
    (p1 : (part f.type xs f.offset).run P w = .ok a w) (p2 : (part f.type ys f.offset).run P w = .ok b w) (p3 : (Op.equalIn d f.type a b).run P w = .ok r w)
    (q1 : (part g.type xs g.offset).run P w = .ok a' w) (q2 : (part g.type ys g.offset).run P w = .ok b' w) (q3 : (Op.equalIn d g.type a' b').run P w = .ok r' w) :
    (Op.eqFields d xs ys [f, g]).run P w = .ok (r && r') w := by
  simp only [Op.eqFields, hf, hg, ne_eq, not_false_eq_true, if_true, Sem.run_bind, p1, p2, p3, q1, q2, q3, Result.andThen_ok]
  cases r <;> cases r' <;> simp [Sem.run_bind, q1, q2, q3, Result.andThen_ok]
/-- '!=' of two structs or arrays, in a region that draws its order -/
theorem wpS_neqG {P : Program} {ops : Array Oper} {Q : Act → World → Prop} {i : Nat} {o : Oper} {σ : List (Nat × Bool)} {a : Act} {b : World} (ho : ops[i]? = some o) (hw : Region.wanted o (yielded ops a.tmps) = true) (ty tt : TypeId) (x y : Operand) (hop : o.op = .binOp .neq ty x y tt)
    (xs ys : Array Value) (hx : a.eval x = .agg xs) (hy : a.eval y = .agg ys) (hgt : P.eqGuardType P.depth ty = false) (r : Bool) (heq : ∀ w, (Op.equalIn 10000 ty (.agg xs) (.agg ys)).run P w = .ok r w)
    (h : wpS P ops Q σ (a.put o.dst (.bool (!r))) b) : wpS P ops Q ((i, false) :: σ) a b := by
  refine ⟨o, ho, ?_⟩
  rw [if_pos hw]
  refine ⟨.bool (!r), fun w hl => ?_, h⟩
  unfold execOp
  simp [hop, hx, hy, run_eqGuard_agg w .neq ty x y xs ys hgt, run_neq_struct, heq, Result.andThen, Oper.mildUpon]

end Go.Proofs.Ytdhagfklcfajgaa

namespace Go.Proofs.Ytdhagfklcfajgaa
open Go.ChangeShapes Go.WideShapes Go.ChangeAt Go.RowKit
set_option linter.unusedVariables false
set_option linter.unusedSimpArgs false

/-! Structs that come in, whatever is in them. -/
section
variable {H : Type} {enc : TypeId × Value → H} {P : Program} {w : World} {t : TypeId}

/-- A slice of whatever elements, as cells. -/
theorem shape_rows {e : TypeId} {sz : Nat} (ht : P.underlying t = some (.slice e)) (hce : P.cellsOf e = sz) (hsz : 0 < sz) (S : List Value → Prop)
    (hS : ∀ fuel cs x, DataW.trod enc P w 0 (fun _ => true) true fuel e cs = some x → S cs) (fuel : Nat) (cs : List Value) (x : DataW H × List MemPlace) (hf : DataW.trod enc P w 0 (fun _ => true) true fuel t cs = some x) :
    ∃ (v : Value) (css : List (List Value)), cs = [v] ∧ (∀ c ∈ css, S c ∧ c.length = sz) ∧ Rw sz w v css.length css.flatten := by
  rcases Deep.open_slice ht hf with ⟨rfl, _⟩ | ⟨x, len, cap, m, n, D, Pl, rfl, _, hl, hm, hmm, _, hel⟩
  · exact ⟨_, [], rfl, by simp, Rw.nil _ _⟩
  · by_cases h0 : len = 0
    · subst h0
      exact ⟨_, [], rfl, by simp, by simp, by simp, some x, cap, rfl, by omega, .inl rfl⟩
    · have hmc : m = cap := by simpa using hmm
      subst hmc
      have hspot : x.spot = none := by
        obtain ⟨cs, h1, h2⟩ := hel 0 (by omega)
        rw [hce] at h1
        have hc := World.cells?_some h1
        have h3 := hc.2.2 0 hsz
        rw [List.getElem?_eq_getElem (by rw [hc.2.1]; exact hsz)] at h3
        have h4 := World.cell?_spot h3
        clear h3 hc h1 h2 hel hf
        obtain ⟨b, off, spot⟩ := x
        cases spot with
        | none => rfl
        | some q => simp [Addr.add] at h4
      obtain ⟨b, off, spot⟩ := x
      simp at hspot
      subst hspot
      have hch : ∀ i, ∃ cs : List Value, cs.length = sz ∧ (i < len → S cs ∧ ∀ j, j < sz → w.cell? ⟨b, off + (i * sz + j), none⟩ = cs[j]?) := by
        intro i
        by_cases hi : i < len
        · obtain ⟨cs, h1, h2⟩ := hel i (by omega)
          rw [hce] at h1
          have hc := World.cells?_some h1
          refine ⟨cs, hc.2.1, fun _ => ⟨hS _ _ _ h2, fun j hj => ?_⟩⟩
          rw [← hc.2.2 j hj, Addr.add_mid, Addr.add_mid, Nat.add_assoc]
        · exact ⟨List.replicate sz undef, by simp, fun h => absurd h hi⟩
      obtain ⟨f, hf'⟩ := Classical.axiomOfChoice hch
      have hfl := flatten_len f (fun i => (hf' i).1) len
      refine ⟨_, (List.range len).map f, rfl, ?_, ?_⟩
      · intro cs hcs
        obtain ⟨i, hi, rfl⟩ := List.mem_map.1 hcs
        exact ⟨((hf' i).2 (by simpa using hi)).1, (hf' i).1⟩
      · rw [show ((List.range len).map f).length = len from by simp]
        refine ⟨hfl, by omega, some ⟨b, off, none⟩, m, rfl, hl, .inr ⟨b, off, rfl, fun j u hu => ?_⟩⟩
        have hj : j < len * sz := by have := (List.getElem?_eq_some_iff.1 hu).1; omega
        rw [flatten_get f (fun i => (hf' i).1) hsz len j hj] at hu
        have hd : j / sz < len := Nat.div_lt_of_lt_mul (by rw [Nat.mul_comm]; exact hj)
        have := ((hf' (j / sz)).2 hd).2 (j % sz) (Nat.mod_lt _ hsz)
        rw [← hu, ← this]
        congr 3
        have := Nat.div_add_mod j sz
        rw [Nat.mul_comm] at this
        omega
/-- A field of a struct, as cells. -/
theorem shape_field {fs : Array Field} {L : List (TypeId × Nat)} (ht : P.underlying t = some (.struct fs)) (hL : fs.toList.map (fun f => (f.type, f.offset)) = L) (i : Nat) (ty : TypeId) (off : Nat) (hi : L[i]? = some (ty, off))
    {fuel : Nat} {cs : List Value} {x : DataW H × List MemPlace} (h : DataW.trod enc P w 0 (fun _ => true) true fuel t cs = some x) : cs.length = P.cellsOf t ∧ ∃ m y, DataW.trod enc P w 0 (fun _ => true) true m ty ((cs.drop off).take (P.cellsOf ty)) = some y := by
  obtain ⟨xs, n, _, _, hl, hxs, hall⟩ := DataW.trod_struct ht h
  rw [← hL, List.getElem?_map, Option.map_eq_some_iff] at hi
  obtain ⟨f, hf, he⟩ := hi
  simp only [Prod.mk.injEq] at he
  obtain ⟨rfl, rfl⟩ := he
  have hlt : i < fs.size := by have := (List.getElem?_eq_some_iff.1 hf).1; simpa using this
  have := hall i f (by simpa using hf)
  rw [List.getElem?_eq_getElem (by omega)] at this
  exact ⟨hl, n, _, this⟩
theorem shape_int {k : IntKind} (ht : P.underlying t = some (.int k)) {fuel : Nat} {cs : List Value} {x : DataW H × List MemPlace} (h : DataW.trod enc P w 0 (fun _ => true) true fuel t cs = some x) : ∃ n : Int, cs = [.int k n] ∧ (Lit.int k n).wf = true := by
  obtain ⟨n, h1, _, h2⟩ := DataW.trod_int ht h
  exact ⟨n, h1, h2⟩
theorem shape_u8 (ht : P.underlying t = some (.int .u8)) {fuel : Nat} {cs : List Value} {x : DataW H × List MemPlace} (h : DataW.trod enc P w 0 (fun _ => true) true fuel t cs = some x) : ∃ c : UInt8, cs = [.int .u8 (c.toNat : Int)] := by
  obtain ⟨n, h1, h2⟩ := shape_int ht h
  have hx := bounds_u8 h2
  obtain ⟨y, rfl⟩ := Int.eq_ofNat_of_zero_le hx.1
  refine ⟨UInt8.ofNat y, ?_⟩
  rw [h1, UInt8.toNat_ofNat']
  congr 3
  omega
theorem shape_bool (ht : P.underlying t = some .bool) {fuel : Nat} {cs : List Value} {x : DataW H × List MemPlace} (h : DataW.trod enc P w 0 (fun _ => true) true fuel t cs = some x) : ∃ b : Bool, cs = [.bool b] := by
  obtain ⟨b, h1, _⟩ := DataW.trod_bool ht h
  exact ⟨b, h1⟩
end
theorem agg_of {cs : Array Value} {l : List Value} (h : cs.toList = l) : Value.agg cs = .agg l.toArray := by rw [← h]
theorem two_cells {cs : List Value} {a b : Value} (h : cs.length = 2) (h0 : (cs.drop 0).take 1 = [a]) (h1 : (cs.drop 1).take 1 = [b]) : cs = [a, b] := by
  match cs, h with
  | [x, y], _ => simp at h0 h1; rw [h0, h1]

section
variable {H : Type} {enc : TypeId × Value → H} {w : World} {r : Reach} {base : Nat} {v : Value} {d : DataW H} {p : List MemPlace}
theorem dv_flatten : ∀ css : List (List Value), (∀ cs ∈ css, ∃ D : Drt, (D.2.length = 64 ∧ -9223372036854775808 ≤ D.1 ∧ D.1 ≤ 9223372036854775807) ∧ cs = .int .i64 D.1 :: bv D.2) → ∃ D : List Drt, D.length = css.length ∧ Ok D ∧ css.flatten = dv D
  | [], _ => ⟨[], rfl, (fun d hd => by cases hd), rfl⟩
  | c :: css, h => by
    obtain ⟨X, hX, rfl⟩ := h c (by simp)
    obtain ⟨D, h1, h2, h3⟩ := dv_flatten css (fun cs hcs => h cs (by simp [hcs]))
    refine ⟨X :: D, by simp [h1], fun d hd => ?_, by rw [List.flatten_cons, h3, dv_cons]⟩
    rcases List.mem_cons.1 hd with rfl | hd
    · exact hX
    · exact h2 d hd
def RMed (w : World) (v : Value) : Prop := ∃ n F D, Med w v n F D
def RWrite3 (v : Value) : Prop := ∃ (X : List UInt8) (b : Bool), X.length = 64 ∧ v = .agg (bv X ++ [Value.bool b]).toArray
def RLoss (v : Value) : Prop := ∃ (c : UInt8) (m : Nat), m ≤ 18446744073709551615 ∧ v = .agg #[.int .u8 (c.toNat : Int), .int .u64 (m : Int)]
end
end Go.Proofs.Ytdhagfklcfajgaa

namespace Go.Proofs.Ytdhagfklcfajgaa
open Go.ChangeShapes Go.WideShapes Go.ChangeAt Go.RowKit
set_option linter.unusedVariables false
set_option linter.unusedSimpArgs false

theorem isWidth_any (a : Int) (w : World) :
    Calls Try.prog 28 #[.int .i64 a] w fun e w' => e = .returned (.bool (isW a)) ∧ w' = w := by
  unfold isW
  by_cases h1 : 1 ≤ a
  · by_cases h2 : a ≤ 8
    all_goals
      go_enter Try.func28, Try.ntmps28
      go_wp2
      go_ret
      refine ⟨ret_bool (by first | (simp; done) | (simp; omega)), rfl⟩
  · go_enter Try.func28, Try.ntmps28
    go_wp2
    go_ret
    refine ⟨ret_bool (by first | (simp; done) | (simp; omega)), rfl⟩

theorem right_any (f n : Int) (w : World) :
    Calls Try.prog 27 #[.int .i64 f, .int .i64 n] w fun e w' => e = .returned (.bool (areB f n)) ∧ w' = w := by
  unfold areB
  by_cases h3 : 0 ≤ f
  · by_cases h1 : 1 ≤ n
    · by_cases h2 : n ≤ 64
      · by_cases h4 : f ≤ 64 - n
        · go_enter Try.func27, Try.ntmps27
          go_wp2
          go_ret
          refine ⟨ret_bool (by simp [h1, h2, h3, h4]), rfl⟩
        · have h4' : decide (f ≤ 64 - n) = false := by simp; omega
          go_enter Try.func27, Try.ntmps27
          go_wp2
          go_ret
          refine ⟨ret_bool (by first | (simp; done) | (simp; omega)), rfl⟩
      · go_enter Try.func27, Try.ntmps27
        go_wp2
        go_ret
        refine ⟨ret_bool (by first | (simp; done) | (simp; omega)), rfl⟩
    · go_enter Try.func27, Try.ntmps27
      go_wp2
      go_ret
      refine ⟨ret_bool (by first | (simp; done) | (simp; omega)), rfl⟩
  · go_enter Try.func27, Try.ntmps27
    go_wp2
    go_ret
    refine ⟨ret_bool (by first | (simp; done) | (simp; omega)), rfl⟩

theorem rbits_no (x : Int) (f n : Int) (w : World) (hb : areB f n = false) :
    Calls Try.prog 21 #[.int .u64 x, .int .i64 f, .int .i64 n] w fun e w' => e = .returned (.int .u64 0) ∧ w' = w := by
  go_enter Try.func21, Try.ntmps21
  go_wp2_with (go_at_call 27; refine (right_any _ _ _).mono ?_; rintro e w' ⟨rfl, rfl⟩)
  go_ret
  exact ⟨rfl, rfl⟩

/-- one bit more -/
theorem u64_step {r z k o : Nat} (hk : k < 64) (hr : r < 2 ^ k) (ho : o = 2 ^ k) :
    IntKind.u64.wrap ((r : Int) + IntKind.u64.wrap ((z : Int) % 2 * (o : Int))) = ((r + z % 2 * 2 ^ k : Nat) : Int) := by
  subst ho
  have h1 : 2 ^ k * 2 ≤ 18446744073709551616 := by rw [← Nat.pow_succ]; exact two_pow_lt64 (by omega)
  have h2 : z % 2 * 2 ^ k ≤ 1 * 2 ^ k := Nat.mul_le_mul_right _ (by omega)
  have e : (z : Int) % 2 * ((2 ^ k : Nat) : Int) = ((z % 2 * 2 ^ k : Nat) : Int) := by rw [Int.natCast_mul]; rfl
  rw [e, IntKind.wrap_u64, IntKind.wrap_u64]
  omega
theorem u64_two {k o : Nat} (hk : k < 64) (ho : o = 2 ^ k) : ∃ q : Nat, IntKind.u64.wrap ((o : Int) * 2) = (q : Int) ∧ q ≤ 18446744073709551615 ∧ (k + 1 < 64 → q = 2 ^ (k + 1)) := by
  refine ⟨(2 ^ (k + 1)) % 18446744073709551616, by rw [IntKind.wrap_u64, ho, Nat.pow_succ]; omega, by omega, fun h => Nat.mod_eq_of_lt ?_⟩
  have : 2 ^ (k + 1) < 2 ^ 64 := Nat.pow_lt_pow_right (by omega) h
  simpa using this

theorem rbits_yes (x f n : Nat) (w : World) (h1 : 1 ≤ n) (h2 : f + n ≤ 64) (hx : x ≤ 18446744073709551615) :
    Calls Try.prog 21 #[.int .u64 x, .int .i64 f, .int .i64 n] w fun e w' => e = .returned (.int .u64 (bitsN x f n)) ∧ w' = w := by
  have hb : areB f n = true := by simp [areB]; omega
  go_enter Try.func21, Try.ntmps21
  go_wp2_with (go_at_call 27; refine (right_any _ _ _).mono ?_; rintro e w' ⟨rfl, rfl⟩)
  go_loop [0, 7] (fun t i => ∃ k : Nat, k ≤ f ∧ i = .int .i64 k ∧ ∃ z : Nat, Hid (z = x / 2 ^ k) ∧ z ≤ 18446744073709551615 ∧ t = .int .u64 z) (fun _ i => f - (intOf i).toNat)
  case atStart => exact ⟨0, Nat.zero_le _, rfl, x, by simp [Hid], hx, rfl⟩
  case round =>
    obtain ⟨k, hk, rfl, z, hz, hz64, rfl⟩ := hrel
    by_cases hlt : k < f
    · go_wp2
      go_round
      case rel => exact ⟨k + 1, by omega, by go_num, z / 2, by unfold Hid; rw [hz.out, div_succ], by omega, by go_num⟩
      case measure => simp [intOf]; omega
    · have hkf : k = f := by omega
      have hz' : Hid (z = x / 2 ^ f) := by unfold Hid; rw [hz.out, hkf]
      clear hz hkf
      go_wp2
      go_loop [0, 8, 9, 10] (fun t o p i => ∃ k : Nat, k ≤ n ∧ i = .int .i64 k ∧ ∃ y r q : Nat, Hid (y = z / 2 ^ k) ∧ y ≤ 18446744073709551615 ∧ t = .int .u64 y ∧ Hid (r = z % 2 ^ k) ∧ r ≤ 18446744073709551615 ∧ o = .int .u64 r ∧ Hid (k < 64 → q = 2 ^ k) ∧ q ≤ 18446744073709551615 ∧ p = .int .u64 q) (fun _ _ _ i => n - (intOf i).toNat)
      case atStart => exact ⟨0, Nat.zero_le _, rfl, z, 0, 1, by simp [Hid], hz64, rfl, by simp [Hid, Nat.mod_one], by omega, rfl, by simp [Hid], by omega, rfl⟩
      case round =>
        obtain ⟨k, hk, rfl, y, r, q, hy, hy64, rfl, hr, hr64, rfl, hq, hq64, rfl⟩ := hrel
        by_cases hlt : k < n
        · go_wp2
          go_round
          case rel =>
            have hqq := hq.out (by omega)
            have hrl : r < 2 ^ k := by rw [hr.out]; exact Nat.mod_lt _ (Nat.two_pow_pos _)
            obtain ⟨q', e', hq', hq2⟩ := u64_two (show k < 64 by omega) hqq
            have e := u64_step (z := y) (show k < 64 by omega) hrl hqq
            have hm := mod_succ z k
            rw [← hr.out, ← hy.out] at hm
            have hb2 : r + y % 2 * 2 ^ k < 18446744073709551616 := by
              rw [← hm]; exact Nat.lt_of_lt_of_le (Nat.mod_lt _ (Nat.two_pow_pos _)) (two_pow_lt64 (by omega))
            refine ⟨k + 1, by omega, by go_num, y / 2, r + y % 2 * 2 ^ k, q', by unfold Hid; rw [hy.out, div_succ], by omega, by go_num, hm.symm, by omega, ?_, hq2, hq', ?_⟩
            · rw [← e]
            · rw [← e']
          case measure => simp [intOf]; omega
        · go_wp2
          go_ret
          have hkn : k = n := by omega
          exact ⟨ret_int (by rw [hr.out, hkn, hz'.out]; rfl), rfl⟩

theorem setN_mod_y (x f n y k : Nat) (h1 : f ≤ k) (h2 : k < f + n) : setN x f n y % 2 ^ (k + 1) = setN x f n y % 2 ^ k + y / 2 ^ (k - f) % 2 * 2 ^ k := by
  rw [mod_succ, bit_mod, bit_mod, setN_bit, if_pos ⟨h1, h2⟩]
theorem setN_mod_x (x f n y k : Nat) (h : ¬ (f ≤ k ∧ k < f + n)) : setN x f n y % 2 ^ (k + 1) = setN x f n y % 2 ^ k + x / 2 ^ k % 2 * 2 ^ k := by
  rw [mod_succ, bit_mod, bit_mod, setN_bit, if_neg h]
end Go.Proofs.Ytdhagfklcfajgaa

namespace Go.Proofs.Ytdhagfklcfajgaa
open Go.ChangeShapes Go.WideShapes Go.ChangeAt Go.RowKit
set_option linter.unusedVariables false
set_option linter.unusedSimpArgs false

theorem ret_pair {a b : Int} {c d : Bool} (h : a = b) (k : c = d) : Ending.returned (.tuple #[.int .u64 a, .bool c]) = .returned (.tuple #[.int .u64 b, .bool d]) := by rw [h, k]

theorem seg_big_step (l : List UInt8) (a k : Nat) (h : a + k < l.length) (hk : k < 8) : bigOf (seg l a (k + 1)) = bigOf (seg l a k) * 256 + l[a + k].toNat ∧ bigOf (seg l a k) * 256 + 255 < 18446744073709551616 := by
  refine ⟨by rw [seg_snoc l a k h, bigOf_snoc], ?_⟩
  have h1 := bigOf_lt (seg l a k)
  rw [seg_length l a k (by omega)] at h1
  have h2 := pow256 (k := k + 1) (by omega)
  rw [Nat.pow_succ] at h2
  omega
theorem rbig_no (ad : Option Addr) (len cap : Nat) (a n : Int) (w : World) (hm : len ≤ maxLen) (hh : ¬ (1 ≤ n ∧ n ≤ 8 ∧ 0 ≤ a ∧ a ≤ len - n)) :
    Calls Try.prog 16 #[.slice ad len cap, .int .i64 a, .int .i64 n] w fun e w' => e = .returned (.tuple #[.int .u64 0, .bool false]) ∧ w' = w := by
  unfold maxLen at hm
  by_cases h1 : n < 1
  · clear hh; go_enter Try.func16, Try.ntmps16
    go_wp2
    go_ret2
    exact ⟨rfl, rfl⟩
  · by_cases h2 : 8 < n
    · clear hh; go_enter Try.func16, Try.ntmps16
      go_wp2
      go_ret2
      exact ⟨rfl, rfl⟩
    · by_cases h3 : a < 0
      · clear hh; go_enter Try.func16, Try.ntmps16
        go_wp2
        go_ret2
        exact ⟨rfl, rfl⟩
      · by_cases h4 : (len : Int) < n
        · clear hh; go_enter Try.func16, Try.ntmps16
          go_wp2
          go_ret2
          exact ⟨rfl, rfl⟩
        · have h5 : (len : Int) - n < a := by omega
          clear hh; go_enter Try.func16, Try.ntmps16
          go_wp2
          go_ret2
          exact ⟨rfl, rfl⟩
theorem rbig_yes (bk off len cap : Nat) (l : List UInt8) (a n : Nat) (w : World) (hn : 1 ≤ n) (hn8 : n ≤ 8) (hl : l.length = len) (hm : len ≤ maxLen) (ha : a + n ≤ len)
   (hc : ∀ i (h : i < l.length), w.cell? ⟨bk, off + i, none⟩ = some (.int .u8 (l[i].toNat : Int))) :
    Calls Try.prog 16 #[.slice (some ⟨bk, off, none⟩) len cap, .int .i64 a, .int .i64 n] w fun e w' => e = .returned (.tuple #[.int .u64 (bigOf (seg l a n)), .bool true]) ∧ w' = w := by
  unfold maxLen at hm
  have h5 : (a : Int) ≤ (len : Int) - n := by omega
  go_enter Try.func16, Try.ntmps16
  go_wp2
  go_loop [8, 9] (fun x i => ∃ k : Nat, k ≤ n ∧ i = .int .i64 k ∧ ∃ z : Nat, Hid (z = bigOf (seg l a k)) ∧ z ≤ 18446744073709551615 ∧ x = .int .u64 z) (fun _ i => n - (intOf i).toNat)
  case atStart => exact ⟨0, Nat.zero_le _, rfl, 0, by simp [Hid, seg_zero, bigOf], by omega, rfl⟩
  case round =>
    obtain ⟨k, hk, rfl, z, hz, hz64, rfl⟩ := hrel
    by_cases hlt : k < n
    · have hcx := hc (a + k) (by omega)
      have hs := seg_big_step l a k (by omega) (by omega)
      have hbb := l[a + k].toNat_lt
      rw [← hz.out] at hs
      generalize l[a + k].toNat = b at hcx hbb hs
      obtain ⟨s1, s2⟩ := hs
      have S1 := hide s1
      clear hc s1
      go_wp2
      go_round
      case rel => exact ⟨k + 1, by omega, by go_num, z * 256 + b, S1.out.symm, by omega, by go_num⟩
      case measure => simp [intOf]; omega
    · have hkn : Hid (k = n) := by unfold Hid; omega
      go_wp2
      go_ret2
      exact ⟨ret_pair (by rw [hz.out, hkn.out]) rfl, rfl⟩

theorem seg_little_up (l : List UInt8) (a k : Nat) (h : a + k < l.length) (hk : k < 8) : littleOf (seg l a (k + 1)) = littleOf (seg l a k) + l[a + k].toNat * 256 ^ k ∧ littleOf (seg l a k) < 256 ^ k := by
  have h1 := littleOf_lt (seg l a k)
  rw [seg_length l a k (by omega)] at h1
  exact ⟨by rw [seg_snoc l a k h, littleOf_snoc, seg_length l a k (by omega)], h1⟩
theorem seg_little_down (l : List UInt8) (a n j : Nat) (h : a + n ≤ l.length) (hn : n ≤ 8) (hj : j < n) : littleOf (seg l (a + j) (n - j)) = littleOf (seg l (a + (j + 1)) (n - (j + 1))) * 256 + (l[a + j]'(by omega)).toNat ∧ littleOf (seg l (a + j) (n - j)) < 18446744073709551616 := by
  refine ⟨?_, seg_little_lt _ _ _ (by omega)⟩
  obtain ⟨m, hm⟩ : ∃ m, n - j = m + 1 := ⟨n - j - 1, by omega⟩
  rw [hm, seg_cons l (a + j) m (by omega), littleOf_cons, show n - (j + 1) = m from by omega]
  rfl
end Go.Proofs.Ytdhagfklcfajgaa

namespace Go.Proofs.Ytdhagfklcfajgaa
open Go.ChangeShapes Go.WideShapes Go.ChangeAt Go.RowKit
set_option linter.unusedVariables false
set_option linter.unusedSimpArgs false

def putLe (x n : Nat) : List UInt8 := (List.range n).map fun i => UInt8.ofNat (x / 256 ^ i)
def putBe (x n : Nat) : List UInt8 := (putLe x n).reverse
theorem putLe_length (x n : Nat) : (putLe x n).length = n := by simp [putLe]
theorem putBe_length (x n : Nat) : (putBe x n).length = n := by simp [putBe, putLe]

/-- the first k bytes laid, zeros behind -/
def partLe (x n k : Nat) : List UInt8 := putLe x k ++ List.replicate (n - k) 0
theorem partLe_set (x n k : Nat) (h : k < n) : partLe x n (k + 1) = (partLe x n k).set k (UInt8.ofNat (x / 256 ^ k)) := by
  unfold partLe
  rw [List.set_append_right _ _ (by rw [putLe_length]; exact Nat.le_refl _), putLe_length, Nat.sub_self]
  obtain ⟨m, hm⟩ : ∃ m, n - k = m + 1 := ⟨n - k - 1, by omega⟩
  rw [hm, show n - (k + 1) = m from by omega, List.replicate_succ, List.set_cons_zero]
  simp [putLe, List.range_succ]
theorem shr_byte (x k : Nat) : (x : Int) / 2 ^ (8 * k) % 256 = ((UInt8.ofNat (x / 256 ^ k)).toNat : Int) := by
  rw [UInt8.toNat_ofNat']
  have e : ((x : Int) / 2 ^ (8 * k)) = ((x / 256 ^ k : Nat) : Int) := by
    rw [Int.natCast_ediv, Int.natCast_pow, Int.pow_mul]; rfl
  rw [e]; rfl
theorem mod_byte (z : Nat) : (z : Int) % 256 = ((UInt8.ofNat z).toNat : Int) := by
  rw [UInt8.toNat_ofNat']; rfl
theorem div_byte (x k : Nat) : x / 256 ^ k / 256 = x / 256 ^ (k + 1) := by rw [Nat.div_div_eq_div_mul, Nat.pow_succ]
/-- the last k bytes laid, zeros ahead -/
def partBe (x n k : Nat) : List UInt8 := (partLe x n k).reverse
theorem partLe_length (x n k : Nat) (h : k ≤ n) : (partLe x n k).length = n := by simp [partLe, putLe_length]; omega
theorem reverse_set' {α : Type} (l : List α) (k : Nat) (b : α) (h : k < l.length) : (l.set k b).reverse = l.reverse.set (l.length - 1 - k) b := by
  apply List.ext_getElem
  · simp
  · intro i h1 h2
    simp only [List.length_reverse, List.length_set] at h1 h2
    simp only [List.getElem_reverse, List.getElem_set, List.length_set]
    by_cases e : k = l.length - 1 - i
    · rw [if_pos e, if_pos (by omega)]
    · rw [if_neg e, if_neg (by omega)]
theorem partBe_set (x n k : Nat) (h : k < n) : partBe x n (k + 1) = (partBe x n k).set (n - 1 - k) (UInt8.ofNat (x / 256 ^ k)) := by
  unfold partBe
  rw [partLe_set x n k h, reverse_set' _ _ _ (by rw [partLe_length x n k (by omega)]; exact h), partLe_length x n k (by omega)]
theorem partBe_zero (x n : Nat) : partBe x n 0 = List.replicate n 0 := by simp [partBe, partLe, putLe]
theorem partLe_zero (x n : Nat) : partLe x n 0 = List.replicate n 0 := by simp [partLe, putLe]
theorem partBe_all (x n : Nat) : partBe x n n = putBe x n := by simp [partBe, partLe, putBe]
theorem partLe_all (x n : Nat) : partLe x n n = putLe x n := by simp [partLe]
theorem made_zero (n : Nat) : (madeCells #[Value.int .u8 0] n).toList = bv (List.replicate n 0) := by
  rw [bv_replicate]; exact toList_madeCells_one _ _

/-- one byte stored into a row of our own -/
theorem put_step {w w1 : World} {B g n k : Nat} {l : List UInt8} {b : UInt8} (hb : Below B w w1) (hBg : B ≤ g)
    (h : w1.ownsRow B 5 1 (.slice (some ⟨g, 0, none⟩) n n) n (bv l)) :
    (w1.setCell ⟨g, k, none⟩ (.int .u8 (b.toNat : Int))).ownsRow B 5 1 (.slice (some ⟨g, 0, none⟩) n n) n (bv (l.set k b)) ∧ Below B w (w1.setCell ⟨g, k, none⟩ (.int .u8 (b.toNat : Int))) := by
  refine ⟨?_, hb.setCell hBg _⟩
  rw [bv_set]
  exact (h.stored k _).1
theorem put_cell {w1 : World} {B g n k : Nat} {l : List UInt8} (hk : k < n)
    (h : w1.ownsRow B 5 1 (.slice (some ⟨g, 0, none⟩) n n) n (bv l)) : ∃ u : Value, w1.cell? ⟨g, k, none⟩ = some u := by
  rw [h.cellAt k (by omega)]
  have : k < (bv l).length := by rw [h.1]; omega
  exact ⟨(bv l)[k], by simp [this]⟩

theorem putBig_no (x n : Int) (w : World) (hn : isW n = false) :
    Calls Try.prog 24 #[.int .u64 x, .int .i64 n] w fun e w' => e = .returned (.slice none 0 0) ∧ w' = w := by
  go_enter Try.func24, Try.ntmps24
  go_wp2_with (go_at_call 28; refine (isWidth_any _ _).mono ?_; rintro e w' ⟨rfl, rfl⟩)
  go_ret
  exact ⟨rfl, rfl⟩
set_option maxHeartbeats 400000 in
theorem putBig_yes (x n : Nat) (w : World) (B : Nat) (hB : B ≤ w.heap.size) (hn1 : 1 ≤ n) (hn8 : n ≤ 8) (hx : x ≤ 18446744073709551615) :
    Calls Try.prog 24 #[.int .u64 x, .int .i64 n] w fun e w' => ∃ v, e = .returned v ∧ Below B w w' ∧ w'.ownsRow B 5 1 v n (bv (putBe x n)) := by
  have hw : isW n = true := by simp [isW]; omega
  obtain ⟨i0, hi, hz0, hz1, hz2⟩ := info_parts Try.info_u8
  have HZ := hide hz2
  clear hz2
  go_enter Try.func24, Try.ntmps24
  go_wp2_with (first
    | (go_at_call 28; refine (isWidth_any _ _).mono ?_; rintro e w' ⟨rfl, rfl⟩)
    | (at_make; refine wpList_make_full _ rfl _ _ 26 rfl B 5 i0 (.int .u8 0) 1 Try.underlying26 hi hz0 hz1 .i64 .i64 _ _ n rfl rfl rfl rfl ?c1 ?c2 ?c3 ?_))
  case c1 => rw [HZ.out]; omega
  case c2 => unfold maxLen; omega
  case c3 => exact hB
  rintro w1 hown hgrow
  have hb1 : Below B w' w1 := (Below.refl _ _).grown hgrow hB (fun k e => by cases e)
  rw [made_zero] at hown
  clear hgrow
  go_wp2
  go_loopw [13] (fun i wr => ∃ k : Nat, k ≤ n ∧ i = .int .i64 k ∧ wr.ownsRow B 5 1 (.slice (some ⟨w'.heap.size, 0, none⟩) n n) n (bv (partBe x n k)) ∧ Below B w' wr) (fun i _ => n - (intOf i).toNat)
  case atStart => exact ⟨0, Nat.zero_le _, rfl, by rw [partBe_zero]; exact hown, hb1⟩
  case round =>
    obtain ⟨k, hk, rfl, hownk, hbk⟩ := hrel
    by_cases hlt : k < n
    · obtain ⟨u, hcell⟩ := put_cell (k := (n - 1 - k)) (by omega) hownk
      have hfz := hownk.frozenAt (n - 1 - k)
      have hs := hide (put_step (k := (n - 1 - k)) (b := UInt8.ofNat (x / 256 ^ k)) hbk hB hownk)
      clear hownk hbk hown hb1
      go_wp2
      go_roundw
      case rel =>
        refine ⟨k + 1, by omega, by go_num, ?_⟩
        rw [partBe_set x n k hlt]
        simp only [shr_byte]
        exact hs.out
      case measure => simp [intOf] <;> omega
    · have hkn : Hid (k = n) := by unfold Hid; omega
      go_wp2
      go_ret
      refine ⟨_, rfl, hbk, ?_⟩
      have := hownk
      rw [hkn.out, partBe_all] at this
      exact this
end Go.Proofs.Ytdhagfklcfajgaa

namespace Go.Proofs.Ytdhagfklcfajgaa
open Go.ChangeShapes Go.WideShapes Go.ChangeAt Go.RowKit
set_option linter.unusedVariables false
set_option linter.unusedSimpArgs false

def isT (n : Int) : Bool := decide (0 ≤ n ∧ n ≤ 1024)
def textOf (l : List UInt8) (n : Nat) : List UInt8 := l.take n ++ List.replicate (n - l.length) 32
theorem textOf_length (l : List UInt8) (n : Nat) : (textOf l n).length = n := by simp [textOf]; omega

theorem text_no (s : ByteArray) (n : Int) (w : World) (hn : isT n = false) :
    Calls Try.prog 26 #[.string s, .int .i64 n] w fun e w' => e = .returned (.slice none 0 0) ∧ w' = w := by
  simp [isT] at hn
  by_cases h1 : n < 0
  all_goals
    go_enter Try.func26, Try.ntmps26
    go_wp2
    go_ret
    exact ⟨rfl, rfl⟩
/-- the first k bytes laid -/
def partT (l : List UInt8) (n k : Nat) : List UInt8 := (textOf l n).take k ++ List.replicate (n - k) 0
theorem partT_set (l : List UInt8) (n k : Nat) (h : k < n) (hl : l.length ≤ k) : partT l n (k + 1) = (partT l n k).set k 32 := by
  unfold partT
  have h1 : ((textOf l n).take k).length = k := by rw [List.length_take, textOf_length]; omega
  rw [List.set_append_right _ _ (by omega), h1, Nat.sub_self]
  obtain ⟨m, hm⟩ : ∃ m, n - k = m + 1 := ⟨n - k - 1, by omega⟩
  rw [hm, show n - (k + 1) = m from by omega, List.replicate_succ, List.set_cons_zero]
  rw [List.take_succ_eq_append_getElem (by rw [textOf_length]; exact h)]
  simp [textOf, List.getElem_append, show min n l.length = l.length from by omega, show ¬ k < l.length from by omega]
theorem partT_start (l : List UInt8) (n : Nat) : l.take (Nat.min l.length n) ++ (List.replicate n (0 : UInt8)).drop (Nat.min l.length n) = partT l n (Nat.min l.length n) := by
  unfold partT textOf
  have h1 : Nat.min l.length n ≤ l.length := Nat.min_le_left _ _
  have h2 : Nat.min l.length n ≤ n := Nat.min_le_right _ _
  rw [List.take_append_of_le_length (by rw [List.length_take]; omega), List.take_take, List.drop_replicate]
  congr 2
  omega
theorem partT_all (l : List UInt8) (n : Nat) : partT l n n = textOf l n := by
  unfold partT
  rw [List.take_of_length_le (by rw [textOf_length]; exact Nat.le_refl _)]; simp

set_option maxHeartbeats 400000 in
theorem text_yes (s : ByteArray) (n : Nat) (w : World) (B : Nat) (hB : B ≤ w.heap.size) (hn : n ≤ 1024) (hs : s.size ≤ maxLen) :
    Calls Try.prog 26 #[.string s, .int .i64 n] w fun e w' => ∃ v, e = .returned v ∧ Below B w w' ∧ w'.ownsRow B 5 1 v n (bv (textOf s.data.toList n)) := by
  obtain ⟨i0, hi, hz0, hz1, hz2⟩ := info_parts Try.info_u8
  have HZ := hide hz2
  clear hz2
  have hsl : Hid (s.data.toList.length = s.size) := by unfold Hid; rw [Array.length_toList]; rfl
  unfold maxLen at hs
  have hd0 : decide ((n : Int) < 0) = false := by simp
  have hd1 : decide (1024 < (n : Int)) = false := by simp; omega
  go_enter Try.func26, Try.ntmps26
  go_wp2_with (at_make; refine wpList_make_full _ rfl _ _ 26 rfl B 5 i0 (.int .u8 0) 1 Try.underlying26 hi hz0 hz1 .i64 .i64 _ _ n rfl rfl rfl rfl ?c1 ?c2 ?c3 ?_)
  case c1 => rw [HZ.out]; omega
  case c2 => unfold maxLen; omega
  case c3 => exact hB
  rintro w1 hown hgrow
  have hb1 : Below B w w1 := (Below.refl _ _).grown hgrow hB (fun k e => by cases e)
  rw [made_zero] at hown
  clear hgrow
  obtain ⟨w2, hcopy, hown2, hb2⟩ := run_copy_str_own 3 B w.heap.size n s _ hB hown w hb1
  rw [← hsl.out, partT_start] at hown2
  have hm : Nat.min s.size n ≤ n := Nat.min_le_right _ _
  have hms : Hid (Nat.min s.size n < n → s.data.toList.length ≤ Nat.min s.size n) := by
    unfold Hid; intro h; rw [hsl.out]
    rcases Nat.le_total s.size n with hh | hh
    · rw [show Nat.min s.size n = s.size from Nat.min_eq_left hh]; exact Nat.le_refl _
    · rw [show Nat.min s.size n = n from Nat.min_eq_right hh] at h; omega
  rw [hsl.out] at hown2
  generalize Nat.min s.size n = m at hcopy hown2 hm hms
  have Hown2 := hide hown2
  have Hb2 := hide hb2
  clear hown hb1 hown2 hb2
  go_wp2
  go_loopw [6] (fun i wr => ∃ k : Nat, k ≤ n ∧ i = .int .i64 k ∧ Hid (k < n → s.data.toList.length ≤ k) ∧ wr.ownsRow B 5 1 (.slice (some ⟨w.heap.size, 0, none⟩) n n) n (bv (partT s.data.toList n k)) ∧ Below B w wr) (fun i _ => n - (intOf i).toNat)
  case atStart =>
    exact ⟨m, hm, rfl, hms, Hown2.out, Hb2.out⟩
  case round =>
    obtain ⟨k, hk, rfl, hsk, hownk, hbk⟩ := hrel
    by_cases hlt : k < n
    · obtain ⟨u, hcell⟩ := put_cell (k := k) (by omega) hownk
      have hfz := hownk.frozenAt k
      have hs2 := hide (put_step (k := k) (b := 32) hbk hB hownk)
      clear hownk hbk Hown2 Hb2 hcopy
      go_wp2
      go_roundw
      case rel =>
        refine ⟨k + 1, by omega, by go_num, by unfold Hid; intro h; have := hsk.out hlt; omega, ?_⟩
        rw [partT_set _ n k hlt (hsk.out hlt)]
        exact hs2.out
      case measure => simp [intOf] <;> omega
    · have hkn : Hid (k = n) := by unfold Hid; omega
      go_wp2
      go_ret
      refine ⟨_, rfl, hbk, ?_⟩
      have := hownk
      rw [hkn.out, partT_all] at this
      exact this

theorem textOf_snoc (l : List UInt8) (n k : Nat) (h : k < n) : (textOf l n).take (k + 1) = (textOf l n).take k ++ [if hk : k < l.length then l[k] else 32] := by
  rw [List.take_succ_eq_append_getElem (by rw [textOf_length]; exact h)]
  congr 2
  by_cases hk : k < l.length
  · simp [textOf, List.getElem_append, hk, show k < min n l.length from by omega]
  · simp [textOf, List.getElem_append, show min n l.length = l.length from by omega, hk]

end Go.Proofs.Ytdhagfklcfajgaa

namespace Go.Proofs.Ytdhagfklcfajgaa
open Go.ChangeShapes Go.WideShapes Go.ChangeAt Go.RowKit
set_option linter.unusedVariables false
set_option linter.unusedSimpArgs false

/-! The calls' answers, for all arguments. -/
def bigAt (l : List UInt8) (a n : Int) : Nat := if holdsB l.length a n then bigOf (seg l a.toNat n.toNat) else 0
def littleAt (l : List UInt8) (a n : Int) : Nat := if holdsB l.length a n then littleOf (seg l a.toNat n.toNat) else 0
def putBeI (x : Nat) (n : Int) : List UInt8 := if isW n then putBe x n.toNat else []
def putLeI (x : Nat) (n : Int) : List UInt8 := if isW n then putLe x n.toNat else []
def bitsI (x : Nat) (f n : Int) : Nat := if areB f n then bitsN x f.toNat n.toNat else 0
def setI (x : Nat) (f n : Int) (y : Nat) : Nat := if areB f n then setN x f.toNat n.toNat y else x
def textI (l : List UInt8) (n : Int) : List UInt8 := if isT n then textOf l n.toNat else []

theorem reads_c {k : Nat} {val : List UInt8 → Nat} (hno : ∀ (ad : Option Addr) (len cap : Nat) (a n : Int) (w : World) (hm : len ≤ maxLen) (hh : ¬ (1 ≤ n ∧ n ≤ 8 ∧ 0 ≤ a ∧ a ≤ len - n)), Calls Try.prog k #[.slice ad len cap, .int .i64 a, .int .i64 n] w fun e w' => e = .returned (.tuple #[.int .u64 0, .bool false]) ∧ w' = w)
    (hyes : ∀ (bk off len cap : Nat) (l : List UInt8) (a n : Nat) (w : World) (hn : 1 ≤ n) (hn8 : n ≤ 8) (hl : l.length = len) (hm : len ≤ maxLen) (ha : a + n ≤ len) (hc : ∀ i (h : i < l.length), w.cell? ⟨bk, off + i, none⟩ = some (.int .u8 (l[i].toNat : Int))),
      Calls Try.prog k #[.slice (some ⟨bk, off, none⟩) len cap, .int .i64 a, .int .i64 n] w fun e w' => e = .returned (.tuple #[.int .u64 (val (seg l a n)), .bool true]) ∧ w' = w)
    {v : Value} {l : List UInt8} (a n : Int) (w : World) (h : Bs w v l) :
    Calls Try.prog k #[v, .int .i64 a, .int .i64 n] w fun e w' => e = .returned (.tuple #[.int .u64 ((if holdsB l.length a n then val (seg l a.toNat n.toNat) else 0 : Nat) : Int), .bool (holdsB l.length a n)]) ∧ w' = w := by
  obtain ⟨hm, ad, cap, rfl, hcap, h⟩ := h
  by_cases hh : 1 ≤ n ∧ n ≤ 8 ∧ 0 ≤ a ∧ a ≤ (l.length : Int) - n
  · have hb : holdsB l.length a n = true := by simp [holdsB, hh]
    obtain ⟨a', rfl⟩ := Int.eq_ofNat_of_zero_le hh.2.2.1
    obtain ⟨n', rfl⟩ := Int.eq_ofNat_of_zero_le (show 0 ≤ n by omega)
    rcases h with rfl | ⟨b, off, rfl, hc⟩
    · simp at hh; omega
    · refine (hyes b off l.length cap l a' n' w (by omega) (by omega) rfl hm (by omega) hc).mono fun e w' he => ?_
      rw [hb]
      simpa using he
  · have hb : holdsB l.length a n = false := by simp only [holdsB]; exact decide_eq_false hh
    refine (hno ad l.length cap a n w hm hh).mono fun e w' he => ?_
    rw [hb]
    simpa using he
theorem rbig_c {v : Value} {l : List UInt8} (a n : Int) (w : World) (h : Bs w v l) :
    Calls Try.prog 16 #[v, .int .i64 a, .int .i64 n] w fun e w' => e = .returned (.tuple #[.int .u64 (bigAt l a n : Int), .bool (holdsB l.length a n)]) ∧ w' = w := reads_c rbig_no rbig_yes a n w h
theorem puts_c {k : Nat} {val : Nat → Nat → List UInt8} (hlen : ∀ x n, (val x n).length = n) (hno : ∀ (x n : Int) (w : World) (hn : isW n = false), Calls Try.prog k #[.int .u64 x, .int .i64 n] w fun e w' => e = .returned (.slice none 0 0) ∧ w' = w)
    (hyes : ∀ (x n : Nat) (w : World) (B : Nat) (hB : B ≤ w.heap.size) (hn1 : 1 ≤ n) (hn8 : n ≤ 8) (hx : x ≤ 18446744073709551615), Calls Try.prog k #[.int .u64 x, .int .i64 n] w fun e w' => ∃ v, e = .returned v ∧ Below B w w' ∧ w'.ownsRow B 5 1 v n (bv (val x n)))
    (x : Nat) (n : Int) (w : World) (B : Nat) (hB : B ≤ w.heap.size) (hx : x ≤ 18446744073709551615) :
    Calls Try.prog k #[.int .u64 x, .int .i64 n] w fun e w' => ∃ v, e = .returned v ∧ Below B w w' ∧ w'.ownsRow B 5 1 v (if isW n then val x n.toNat else []).length (bv (if isW n then val x n.toNat else [])) := by
  by_cases h : isW n = true
  · have h' := h
    simp [isW] at h'
    obtain ⟨n', rfl⟩ := Int.eq_ofNat_of_zero_le (show 0 ≤ n by omega)
    refine (hyes x n' w B hB (by omega) (by omega) hx).mono fun e w' he => ?_
    rw [h]
    simpa [hlen] using he
  · have h' : isW n = false := by simpa using h
    refine (hno x n w h').mono fun e w' he => ?_
    obtain ⟨rfl, rfl⟩ := he
    rw [h']
    exact ⟨_, rfl, Below.refl _ _, World.ownsRow_nil _ _ _ _⟩
theorem putBig_c (x : Nat) (n : Int) (w : World) (B : Nat) (hB : B ≤ w.heap.size) (hx : x ≤ 18446744073709551615) :
    Calls Try.prog 24 #[.int .u64 x, .int .i64 n] w fun e w' => ∃ v, e = .returned v ∧ Below B w w' ∧ w'.ownsRow B 5 1 v (putBeI x n).length (bv (putBeI x n)) := puts_c putBe_length putBig_no putBig_yes x n w B hB hx
theorem texts_c {k : Nat} (hno : ∀ (s : ByteArray) (n : Int) (w : World) (hn : isT n = false), Calls Try.prog k #[.string s, .int .i64 n] w fun e w' => e = .returned (.slice none 0 0) ∧ w' = w)
    (hyes : ∀ (s : ByteArray) (n : Nat) (w : World) (B : Nat) (hB : B ≤ w.heap.size) (hn : n ≤ 1024) (hs : s.size ≤ maxLen), Calls Try.prog k #[.string s, .int .i64 n] w fun e w' => ∃ v, e = .returned v ∧ Below B w w' ∧ w'.ownsRow B 5 1 v n (bv (textOf s.data.toList n)))
    (s : ByteArray) (n : Int) (w : World) (B : Nat) (hB : B ≤ w.heap.size) (hs : s.size ≤ maxLen) :
    Calls Try.prog k #[.string s, .int .i64 n] w fun e w' => ∃ v, e = .returned v ∧ Below B w w' ∧ w'.ownsRow B 5 1 v (textI s.data.toList n).length (bv (textI s.data.toList n)) := by
  unfold textI
  by_cases h : isT n = true
  · have h' := h
    simp [isT] at h'
    obtain ⟨n', rfl⟩ := Int.eq_ofNat_of_zero_le (show 0 ≤ n by omega)
    refine (hyes s n' w B hB (by omega) hs).mono fun e w' he => ?_
    rw [h]
    simpa [textOf_length] using he
  · have h' : isT n = false := by simpa using h
    refine (hno s n w h').mono fun e w' he => ?_
    obtain ⟨rfl, rfl⟩ := he
    rw [h']
    exact ⟨_, rfl, Below.refl _ _, World.ownsRow_nil _ _ _ _⟩
theorem text_c (s : ByteArray) (n : Int) (w : World) (B : Nat) (hB : B ≤ w.heap.size) (hs : s.size ≤ maxLen) :
    Calls Try.prog 26 #[.string s, .int .i64 n] w fun e w' => ∃ v, e = .returned v ∧ Below B w w' ∧ w'.ownsRow B 5 1 v (textI s.data.toList n).length (bv (textI s.data.toList n)) := texts_c text_no text_yes s n w B hB hs
theorem rbits_c (x : Nat) (f n : Int) (w : World) (hx : x ≤ 18446744073709551615) :
    Calls Try.prog 21 #[.int .u64 x, .int .i64 f, .int .i64 n] w fun e w' => e = .returned (.int .u64 (bitsI x f n : Int)) ∧ w' = w := by
  unfold bitsI
  by_cases h : areB f n = true
  · obtain ⟨a, b, rfl, rfl, h1, h2⟩ := areB_nat h
    refine (rbits_yes x a b w h1 h2 hx).mono fun e w' he => ?_
    rw [h]; simpa using he
  · have h' : areB f n = false := by simpa using h
    refine (rbits_no x f n w h').mono fun e w' he => ?_
    rw [h']; simpa using he
theorem bitsI_le (x : Nat) (f n : Int) : bitsI x f n ≤ 18446744073709551615 := by
  unfold bitsI
  by_cases h : areB f n = true
  · obtain ⟨a, b, rfl, rfl, h1, h2⟩ := areB_nat h
    rw [h]; simpa using bitsN_le64 x a b h2
  · simp [h]
theorem setI_le (x : Nat) (f n : Int) (y : Nat) (hx : x ≤ 18446744073709551615) : setI x f n y ≤ 18446744073709551615 := by
  unfold setI
  by_cases h : areB f n = true
  · obtain ⟨a, b, rfl, rfl, h1, h2⟩ := areB_nat h
    rw [h]; simpa using setN_le64 x a b y h2 hx
  · simpa [h] using hx
end Go.Proofs.Ytdhagfklcfajgaa

namespace Go.Proofs.Ytdhagfklcfajgaa
open Go.ChangeShapes Go.WideShapes Go.ChangeAt Go.RowKit
set_option linter.unusedVariables false
set_option linter.unusedSimpArgs false

def fiveL : List UInt8 := [9, 0, 0, 1, 2]
theorem Bs.five (w : World) (t : TypeId) : Bs (w.alloc (.cells #[.int .u8 9, .int .u8 0, .int .u8 0, .int .u8 1, .int .u8 2] t)) (.slice (some ⟨w.heap.size, 0, none⟩) 5 5) fiveL := by
  refine ⟨by simp [maxLen, fiveL], _, 5, rfl, by simp [fiveL], .inr ⟨w.heap.size, 0, rfl, fun j hj => ?_⟩⟩
  rw [cell_of_row _ w.heap.size (0 + j) _ t (0, 0) (heap_alloc_new w _)]
  match j, hj with
  | 0, _ => rfl
  | 1, _ => rfl
  | 2, _ => rfl
  | 3, _ => rfl
  | 4, _ => rfl

theorem putBig_258 (w : World) (B : Nat) (hB : B ≤ w.heap.size) : Calls Try.prog 24 #[.int .u64 258, .int .i64 4] w fun e w' => ∃ v, e = .returned v ∧ Below B w w' ∧ (convert 26 9 v).run Try.prog w' = .ok (.string ⟨#[0, 0, 1, 2]⟩) w' := by
  refine (putBig_c 258 4 w B hB (by omega)).mono fun e w' => ?_
  rintro ⟨v, he, hb, ho⟩
  rw [show putBeI 258 4 = [0, 0, 1, 2] from by decide +kernel] at ho
  exact ⟨v, he, hb, (Bs.of_owns ho).1.str⟩
theorem text_ab (w : World) (B : Nat) (hB : B ≤ w.heap.size) : Calls Try.prog 26 #[.string ⟨#[97, 98]⟩, .int .i64 3] w fun e w' => ∃ v, e = .returned v ∧ Below B w w' ∧ (convert 26 9 v).run Try.prog w' = .ok (.string ⟨#[97, 98, 32]⟩) w' := by
  refine (text_c ⟨#[97, 98]⟩ 3 w B hB (by decide)).mono fun e w' => ?_
  rintro ⟨v, he, hb, ho⟩
  rw [show textI [97, 98] 3 = [97, 98, 32] from by decide +kernel] at ho
  exact ⟨v, he, hb, (Bs.of_owns ho).1.str⟩

end Go.Proofs.Ytdhagfklcfajgaa

namespace Go.Proofs.Ytdhagfklcfajgaa
open Go.ChangeShapes Go.WideShapes Go.ChangeAt Go.RowKit
set_option linter.unusedVariables false
set_option linter.unusedSimpArgs false

theorem rbits_l (x : Nat) (f n : Int) (w : World) (hx : x ≤ 18446744073709551615) :
    Calls Try.prog 21 #[.int .u64 x, .int .i64 f, .int .i64 n] w fun e w' => e = .returned (.int .u64 (bitsI x f n : Int)) ∧ Later w w' :=
  (rbits_c x f n w hx).mono fun e w' ⟨he, hm⟩ => ⟨he, by rw [hm]; exact Later.refl w⟩
theorem RArr.two {k : IntKind} {v : Value} (h : RArr k 2 v) : ∃ f n : Int, v = .agg #[.int k f, .int k n] ∧ (Lit.int k f).wf = true ∧ (Lit.int k n).wf = true := by
  obtain ⟨zs, hl, rfl, hw⟩ := h
  match zs, hl with
  | [f, n], _ => exact ⟨f, n, rfl, hw f (by simp), hw n (by simp)⟩
theorem RInt.u64 {v : Value} (h : RInt .u64 v) : ∃ x : Nat, v = .int .u64 (x : Int) ∧ x ≤ 18446744073709551615 := by
  obtain ⟨a, rfl, w⟩ := h
  have hx := bounds_u64 w
  obtain ⟨x, rfl⟩ := Int.eq_ofNat_of_zero_le hx.1
  exact ⟨x, rfl, by omega⟩
theorem cell_rg {w b : World} {a : Addr} {v : Value} (h : w.cell? a = some v) (hb : Later w b) : ∀ p : Regrown, (rg b p).cell? a = some v := fun p => by
  have : a.block < w.heap.size := World.block_lt_of_cell? w a h
  rw [Below.cell (Later.trans hb (later_rg b p)) this]; exact h
theorem cell_later {w b : World} {a : Addr} {v : Value} (h : w.cell? a = some v) (hb : Later w b) : b.cell? a = some v := by
  have : a.block < w.heap.size := World.block_lt_of_cell? w a h
  rw [Below.cell hb this]; exact h

end Go.Proofs.Ytdhagfklcfajgaa
