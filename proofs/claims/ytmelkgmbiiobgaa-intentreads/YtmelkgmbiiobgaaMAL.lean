import Derived.Laws.Runes
import Derived.Deep.AppendSrc
import Derived.Test.YtmelkgmbiiobgaaWR10g
import Derived.Test.YtmelkgmbiiobgaaMAI
import Derived.Test.YtmelkgmbiiobgaaMAK
import Derived.Test.YtmelkgmbiiobgaaMAJ
import Derived.Test.YtmelkgmbiiobgaaMAG
namespace Go.Proofs.Ytmelkgmbiiobgaa
open Go.ChangeShapes Go.WideShapes Go.ChangeAt Go.RowKit
set_option linter.unusedVariables false
set_option maxRecDepth 4000
set_option linter.unusedSimpArgs false
/-! The document's job: Copy. -/
end Go.Proofs.Ytmelkgmbiiobgaa

namespace Go.Proofs.Ytmelkgmbiiobgaa
open Go.ChangeShapes Go.WideShapes Go.ChangeAt Go.RowKit
set_option linter.unusedVariables false
set_option maxRecDepth 4000
set_option linter.unusedSimpArgs false
/-! 'append(a, make([]byte, k)...)', a our own. -/
def zs (k : Nat) : List UInt8 := List.replicate k 0
theorem zs_len (k : Nat) : (zs k).length = k := by simp [zs]
theorem zerosK (k : Nat) : (Builtin.zeroCells (Value.int .u8 0).cells k).toList = bv (zs k) := zerosN k
theorem zerosK' (k : Nat) : Builtin.zeroCells (Value.int .u8 0).cells k = (bv (zs k)).toArray := by rw [← zerosK]
set_option maxHeartbeats 1000000 in
theorem run_append_zk (k : Nat) (hk0 : 0 < k) (hk : k ≤ 1000) {w : World} {B g n cap : Nat} {l : List UInt8} (ty : TypeId) (hown : w.ownsRow B 5 1 (.slice (some ⟨g, 0, none⟩) n cap) n (bv l)) (hn : n ≤ 1000000) (hbase : B ≤ w.heap.size) :
    ∃ v' w', (Builtin.append_ #[39, 3] ty #[.slice (some ⟨g, 0, none⟩) n cap, .int .i64 (k : Int)]).run Try.prog w = .ok v' w' ∧ w'.ownsRow B 5 1 v' (n + k) (bv (l ++ (zs k))) ∧ w.grownBy w' (some g) := by
  obtain ⟨i0, hi, hz0, hz1, hz2⟩ := info_parts Try.info_u8
  have h52 : IntKind.i64.wrap (k : Int) = k := by rw [IntKind.wrap_i64]; omega
  have hkn : ¬ ((k : Int) < 0) := by omega
  have hkz : ¬ (k = 0) := by omega
  have hkb : ¬ (281474976710656 < (k : Int)) := by omega
  have hai : ∀ w : World, (asInt (.int .i64 (k : Int))).run Try.prog w = .ok (k : Int) w := fun w => rfl
  obtain ⟨hlen, h | ⟨g', cap', cur, e, hbg, hg, hnc, hcm, hcs, htake⟩⟩ := hown
  · obtain ⟨h, _⟩ := h; cases h
  simp at e
  obtain ⟨rfl, rfl⟩ := e
  rw [Nat.mul_one] at hlen hcs htake
  have hL : (bv (l ++ (zs k))).length = n + k := by rw [bv_append, List.length_append, hlen, bv_length, zs_len]
  by_cases hroom : n + k ≤ cap
  · have hB : Box w g 5 cur.toList := by unfold Box; rw [hg]
    have hst := run_storeCells_cells (P := Try.prog) g n (bv ((zs k))) 0 w (fun j hj => by rw [hB.cell]; rw [bv_length, zs_len] at hj; simp; omega) (fun j hj => hB.frozen _) (bv_one _)
    simp only [Nat.add_zero] at hst
    have hB2 := hB.setCells (bv ((zs k))) n (by rw [bv_length, zs_len]; simp; omega)
    refine ⟨.slice (some ⟨g, 0, none⟩) (n + k) cap, w.setCells g n (bv ((zs k))), ?_, ?_, ?_⟩
    · simp [Builtin.append_, run_underlying Try.underlying39, run_underlying Try.underlying3, sizeOf, typeInfo, hi, hz0, hz1, hz2, zeroValue, hroom, Addr.add_lit, zerosK, hst, hai, h52, hkn, hkz, hkb]
    · refine ⟨by rw [hL, Nat.mul_one], .inr ⟨g, cap, _, rfl, hbg, hB2, hroom, hcm, ?_, ?_⟩⟩
      · simp [bv_length, zs_len]; omega
      · rw [Nat.mul_one, htake, ← bv_append, ← hL]
        exact List.take_left
    · have hlt := hB.lt
      exact ⟨(below_setCells (Below.refl g w) (Nat.le_refl _) _ _).os, (below_setCells (Below.refl g w) (Nat.le_refl _) _ _).tape, (below_setCells (Below.refl g w) (Nat.le_refl _) _ _).output, (below_setCells (Below.refl g w) (Nat.le_refl _) _ _).size, fun k' hk' hne => heap_setCells_other w g k' (fun e => hne (by rw [e])) _ _⟩
  · have hn63 : ¬ (9223372036854775807 < (n : Int) + k) := by omega
    have hfit : ¬ (281474976710656 < Builtin.nextslicecap (n + k) cap) := by
      have := growslice_fits (need := n + k) (old := cap) (bytes := 1) (by omega) (by omega)
      omega
    have holds : (Builtin.firstCells 1 n (.slice (some ⟨g, 0, none⟩) n cap)).run Try.prog w.drew = .ok (bv l).toArray w.drew := by
      refine run_firstCells_some w.drew 1 n ⟨g, 0, none⟩ n cap (bv l) (by rw [hlen]; omega) ?_
      intro j u hu
      have hj : j < n := by rw [← hlen]; exact (List.getElem?_eq_some_iff.1 hu).1
      have hB : Box w.drew g 5 cur.toList := by unfold Box; exact hg
      rw [show (⟨g, 0, none⟩ : Addr).add j = ⟨g, j, none⟩ from by unfold Addr.add; split <;> simp_all, hB.cell j, ← hu, ← htake, List.getElem?_take_of_lt hj]
    have hge := grownCap_ge w (n + k) cap 5
    have hcm2 : grownCap w (n + k) cap 5 ≤ maxLen := grownCap_le_maxLen w (n + k) cap 5 (by unfold maxLen; omega)
    refine ⟨.slice (some ⟨w.heap.size, 0, none⟩) (n + k) (grownCap w (n + k) cap 5), w.drew.alloc (.cells ((bv l).toArray ++ ((bv (zs k)).toArray ++ Builtin.zeroCells (Value.int .u8 0).cells (grownCap w (n + k) cap 5 - (n + k)))) 5), ?_, ?_, ?_⟩
    · simp [Builtin.append_, run_underlying Try.underlying39, run_underlying Try.underlying3, sizeOf, typeInfo, hi, hz0, hz1, hz2, zeroValue, hroom, Addr.add_lit, zerosK', hai, h52, hkn, hkz, hkb, hn63, hfit, Question.forced, holds, newRow, grownCap]
    · refine ⟨by rw [hL, Nat.mul_one], .inr ⟨w.heap.size, _, _, rfl, hbase, heap_alloc_new w.drew _, hge, hcm2, ?_, ?_⟩⟩
      · simp only [Array.size_append, List.size_toArray, size_zeroCells, hlen, bv_length, zs_len]
        simp [Value.cells]
        omega
      · simp only [Array.toList_append, List.toList_toArray]
        rw [Nat.mul_one, ← List.append_assoc, ← bv_append, ← hL]
        exact List.take_left
    · exact ⟨rfl, rfl, rfl, by simp, fun k' hk' _ => heap_alloc_old w.drew _ hk'⟩
theorem wpList_append_zk (k : Nat) (hk0 : 0 < k) (hk9 : k ≤ 1000) {w : World} {ops : Array Oper} {rest : List Oper} {o : Oper} {a : Act} {Q : Exit → Act → World → Prop} (hgd : o.guard = none) (s : Operand) (ho : o.op = .call { callee := .builtin .append, args := #[s, .const (.int .i64 (k : Int))], argTypes := #[39, 3] }) (B g n cap : Nat) (l : List UInt8) (hs : a.eval s = .slice (some ⟨g, 0, none⟩) n cap) (hown : w.ownsRow B 5 1 (.slice (some ⟨g, 0, none⟩) n cap) n (bv l)) (hn : n ≤ 1000000) (hbase : B ≤ w.heap.size) (w0 : World) (hb : Below B w0 w)
    (h : ∀ v' w', w'.ownsRow B 5 1 v' (n + k) (bv (l ++ (zs k))) → Below B w0 w' → wpList Try.prog ops Q rest (a.put o.dst v') w') : wpList Try.prog ops Q (o :: rest) a w := by
  refine wpList_plain hgd fun K hK => ?_
  obtain ⟨v', w', hrun, h1, h2⟩ := run_append_zk k hk0 hk9 o.type hown hn hbase
  have hbg : B ≤ g := (hown.lt g rfl).1
  unfold Go.Oper.wp execOp
  have hc : a.eval (.const (.int .i64 (k : Int))) = .int .i64 (k : Int) := rfl
  simp only [ho, resolve, invoke, builtin, Sem.run_bind, Sem.run_pure, Result.andThen_ok, List.map_toArray, List.map_cons, List.map_nil, hs, hc, hrun]
  exact hK _ _ (h v' w' h1 (hb.grown h2 hbase fun k' hk => by cases hk; exact hbg))
end Go.Proofs.Ytmelkgmbiiobgaa

namespace Go.Proofs.Ytmelkgmbiiobgaa
open Go.ChangeShapes Go.WideShapes Go.ChangeAt Go.RowKit
set_option linter.unusedVariables false
set_option maxRecDepth 4000
set_option linter.unusedSimpArgs false
/-! 'append(a, s...)', a our own, s a text. -/
theorem byteCells_str (m : List UInt8) : byteCells (strOf m) = bv m := by simp [byteCells, strOf, bv]
theorem strOf_size (m : List UInt8) : (strOf m).size = m.length := by simp [strOf, ByteArray.size]
set_option maxHeartbeats 1000000 in
theorem run_append_text {w : World} {B g n cap : Nat} {l : List UInt8} (ty : TypeId) (m : List UInt8) (hown : w.ownsRow B 5 1 (.slice (some ⟨g, 0, none⟩) n cap) n (bv l)) (hn : n + m.length ≤ 1000000) (hbase : B ≤ w.heap.size) :
    ∃ v' w', (Builtin.append_ #[39, 9] ty #[.slice (some ⟨g, 0, none⟩) n cap, .string (strOf m)]).run Try.prog w = .ok v' w' ∧ w'.ownsRow B 5 1 v' (n + m.length) (bv (l ++ m)) ∧ w.grownBy w' (some g) := by
  obtain ⟨i0, hi, hz0, hz1, hz2⟩ := info_parts Try.info_u8
  have hsrc : Src Try.prog i0.size 9 (.string (strOf m)) m.length (bv m) w := by
    have := Src.ofString (P := Try.prog) w (tx := 9) Try.underlying9 (strOf m)
    rw [strOf_size, byteCells_str] at this
    rw [hz1]
    exact this
  obtain ⟨hlen, h | ⟨g', cap', cur, e, hbg, hg, hnc, hcm, hcs, htake⟩⟩ := hown
  · obtain ⟨h, _⟩ := h; cases h
  simp at e
  obtain ⟨rfl, rfl⟩ := e
  rw [Nat.mul_one] at hlen hcs htake
  have hL : (bv (l ++ m)).length = n + m.length := by rw [bv_append, List.length_append, hlen, bv_length]
  have hB : Box w g 5 cur.toList := by unfold Box; rw [hg]
  by_cases hroom : n + m.length ≤ cap
  · have hrun := run_append_room_src (P := Try.prog) w 39 9 ty 5 i0 Try.underlying39 hi g 0 n cap (.string (strOf m)) m.length (bv m) hsrc hroom (fun j hj => by rw [hz1, hB.cell]; rw [bv_length] at hj; simp; omega) (fun j hj => hB.frozen _)
    rw [hz1, Nat.mul_one, Nat.zero_add] at hrun
    have hB2 := hB.setCells (bv m) n (by rw [bv_length]; simp; omega)
    refine ⟨.slice (some ⟨g, 0, none⟩) (n + m.length) cap, w.setCells g n (bv m), hrun, ?_, ?_⟩
    · refine ⟨by rw [hL, Nat.mul_one], .inr ⟨g, cap, _, rfl, hbg, hB2, hroom, hcm, ?_, ?_⟩⟩
      · simp [bv_length]; omega
      · rw [Nat.mul_one, htake, ← bv_append, ← hL]
        exact List.take_left
    · have hlt := hB.lt
      exact ⟨(below_setCells (Below.refl g w) (Nat.le_refl _) _ _).os, (below_setCells (Below.refl g w) (Nat.le_refl _) _ _).tape, (below_setCells (Below.refl g w) (Nat.le_refl _) _ _).output, (below_setCells (Below.refl g w) (Nat.le_refl _) _ _).size, fun k hk hne => heap_setCells_other w g k (fun e => hne (by rw [e])) _ _⟩
  · have hfit : Builtin.nextslicecap (n + m.length) cap * i0.bytes ≤ 281474976710656 := by
      rw [hz2]
      have := growslice_fits (need := n + m.length) (old := cap) (bytes := 1) (by omega) (by omega)
      omega
    have holds : (Builtin.firstCells i0.size n (.slice (some ⟨g, 0, none⟩) n cap)).run Try.prog w.drew = .ok (bv l).toArray w.drew := by
      rw [hz1]
      refine run_firstCells_some w.drew 1 n ⟨g, 0, none⟩ n cap (bv l) (by rw [hlen]; omega) ?_
      intro j u hu
      have hj : j < n := by rw [← hlen]; exact (List.getElem?_eq_some_iff.1 hu).1
      have hB : Box w.drew g 5 cur.toList := by unfold Box; exact hg
      rw [show (⟨g, 0, none⟩ : Addr).add j = ⟨g, j, none⟩ from by unfold Addr.add; split <;> simp_all, hB.cell j, ← hu, ← htake, List.getElem?_take_of_lt hj]
    have hrun := run_append_grow_src (P := Try.prog) w 39 9 ty 5 i0 (.int .u8 0) Try.underlying39 hi hz0 (some ⟨g, 0, none⟩) n cap (bv l) holds (.string (strOf m)) m.length (bv m) hsrc (by omega) (by omega) hfit
    have hge := grownCap_ge w (n + m.length) cap 5
    have hcm2 : grownCap w (n + m.length) cap 5 ≤ maxLen := grownCap_le_maxLen w (n + m.length) cap 5 (by unfold maxLen; omega)
    refine ⟨_, _, hrun, ?_, ?_⟩
    · refine ⟨by rw [hL, Nat.mul_one], .inr ⟨w.heap.size, _, _, rfl, hbase, heap_alloc_new w.drew _, hge, hcm2, ?_, ?_⟩⟩
      · simp only [Array.size_append, List.size_toArray, size_zeroCells, List.length_append, hlen, bv_length]
        simp [Value.cells]
        omega
      · simp only [Array.toList_append, List.toList_toArray]
        rw [Nat.mul_one, ← bv_append, ← hL]
        exact List.take_left
    · exact ⟨rfl, rfl, rfl, by simp, fun k hk _ => heap_alloc_old w.drew _ hk⟩
theorem owns_slice {w : World} {B n : Nat} {v : Value} {l : List UInt8} (hown : w.ownsRow B 5 1 v n (bv l)) (hp : 0 < n) : ∃ g cap, v = .slice (some ⟨g, 0, none⟩) n cap := by
  obtain ⟨_, h | ⟨g, cap, cur, e, _⟩⟩ := hown
  · obtain ⟨_, h⟩ := h; omega
  · exact ⟨g, cap, e⟩
theorem wpList_append_text {w : World} {ops : Array Oper} {rest : List Oper} {o : Oper} {a : Act} {Q : Exit → Act → World → Prop} (hgd : o.guard = none) (s x : Operand) (ho : o.op = .call { callee := .builtin .append, args := #[s, x], argTypes := #[39, 9] }) (B n : Nat) (v : Value) (l m : List UInt8) (hs : a.eval s = v) (hx : a.eval x = .string (strOf m)) (hown : w.ownsRow B 5 1 v n (bv l)) (hp : 0 < n) (hn : n + m.length ≤ 1000000) (hbase : B ≤ w.heap.size) (w0 : World) (hb : Below B w0 w)
    (h : ∀ v' w', w'.ownsRow B 5 1 v' (n + m.length) (bv (l ++ m)) → Below B w0 w' → wpList Try.prog ops Q rest (a.put o.dst v') w') : wpList Try.prog ops Q (o :: rest) a w := by
  obtain ⟨g, cap, rfl⟩ := owns_slice hown hp
  refine wpList_plain hgd fun K hK => ?_
  obtain ⟨v', w', hrun, h1, h2⟩ := run_append_text o.type m hown hn hbase
  have hbg : B ≤ g := (hown.lt g rfl).1
  unfold Go.Oper.wp execOp
  simp only [ho, resolve, invoke, builtin, Sem.run_bind, Sem.run_pure, Result.andThen_ok, List.map_toArray, List.map_cons, List.map_nil, hs, hx, hrun]
  exact hK _ _ (h v' w' h1 (hb.grown h2 hbase fun k hk => by cases hk; exact hbg))
/-! The landed inquiry: first, Serial, Standard. -/
theorem first7_c (there : Bool) (w : World) : Calls Try.prog 77 #[.bool there] w fun e w' => e = .returned (.int .u8 ((firstB there).toNat : Int)) ∧ w' = w := by
  cases there with
  | true =>
    go_enter Try.func77, Try.ntmps77
    go_wp2
    go_ret
    exact ⟨rfl, rfl⟩
  | false =>
    go_enter Try.func77, Try.ntmps77
    go_wp2
    go_ret
    exact ⟨rfl, rfl⟩
end Go.Proofs.Ytmelkgmbiiobgaa

namespace Go.Proofs.Ytmelkgmbiiobgaa
open Go.ChangeShapes Go.WideShapes Go.ChangeAt Go.RowKit
set_option linter.unusedVariables false
set_option maxRecDepth 4000
set_option linter.unusedSimpArgs false
theorem i64_and7 (n : Int) : bits .and .i64 n 7 = n % 8 := by
  have h7 : (BitVec.ofInt 64 7).toNat = 2 ^ 3 - 1 := by decide
  have key : (BitVec.ofInt 64 n &&& BitVec.ofInt 64 7).toNat = (n % ((2 ^ 64 : Nat) : Int)).toNat % 2 ^ 3 := by
    rw [BitVec.toNat_and, BitVec.toNat_ofInt, h7, Nat.and_two_pow_sub_one_eq_mod]
  show IntKind.i64.wrap ((BitVec.ofInt 64 n &&& BitVec.ofInt 64 7).toNat : Nat) = n % 8
  rw [key, IntKind.wrap_i64]
  omega
theorem serial7_c : ISerial7 := by
  intro lun w h
  rcases (show lun % 8 = 0 ∨ lun % 8 = 1 ∨ lun % 8 = 2 ∨ lun % 8 = 3 ∨ lun % 8 = 4 ∨ lun % 8 = 5 ∨ lun % 8 = 6 ∨ lun % 8 = 7 by omega) with h8 | h8 | h8 | h8 | h8 | h8 | h8 | h8
  · have hb : bits BinOp.and IntKind.i64 lun 7 = 0 := by rw [i64_and7]; omega
    have he : Utf8.encode 48 = ⟨#[48]⟩ := by decide
    have HS : Hid (strOf (serL lun) = ⟨#[82, 84, 48, 48, 48, 48, 48, 48]⟩) := by rw [Hid, serL, show (lun % 8).toNat = 0 by omega]; rfl
    clear h h8
    go_enter Try.func96, Try.ntmps96
    go_wp2
    go_ret
    exact ⟨by rw [HS.out]; rfl, Later.refl _⟩
  · have hb : bits BinOp.and IntKind.i64 lun 7 = 1 := by rw [i64_and7]; omega
    have he : Utf8.encode 49 = ⟨#[49]⟩ := by decide
    have HS : Hid (strOf (serL lun) = ⟨#[82, 84, 48, 48, 48, 48, 48, 49]⟩) := by rw [Hid, serL, show (lun % 8).toNat = 1 by omega]; rfl
    clear h h8
    go_enter Try.func96, Try.ntmps96
    go_wp2
    go_ret
    exact ⟨by rw [HS.out]; rfl, Later.refl _⟩
  · have hb : bits BinOp.and IntKind.i64 lun 7 = 2 := by rw [i64_and7]; omega
    have he : Utf8.encode 50 = ⟨#[50]⟩ := by decide
    have HS : Hid (strOf (serL lun) = ⟨#[82, 84, 48, 48, 48, 48, 48, 50]⟩) := by rw [Hid, serL, show (lun % 8).toNat = 2 by omega]; rfl
    clear h h8
    go_enter Try.func96, Try.ntmps96
    go_wp2
    go_ret
    exact ⟨by rw [HS.out]; rfl, Later.refl _⟩
  · have hb : bits BinOp.and IntKind.i64 lun 7 = 3 := by rw [i64_and7]; omega
    have he : Utf8.encode 51 = ⟨#[51]⟩ := by decide
    have HS : Hid (strOf (serL lun) = ⟨#[82, 84, 48, 48, 48, 48, 48, 51]⟩) := by rw [Hid, serL, show (lun % 8).toNat = 3 by omega]; rfl
    clear h h8
    go_enter Try.func96, Try.ntmps96
    go_wp2
    go_ret
    exact ⟨by rw [HS.out]; rfl, Later.refl _⟩
  · have hb : bits BinOp.and IntKind.i64 lun 7 = 4 := by rw [i64_and7]; omega
    have he : Utf8.encode 52 = ⟨#[52]⟩ := by decide
    have HS : Hid (strOf (serL lun) = ⟨#[82, 84, 48, 48, 48, 48, 48, 52]⟩) := by rw [Hid, serL, show (lun % 8).toNat = 4 by omega]; rfl
    clear h h8
    go_enter Try.func96, Try.ntmps96
    go_wp2
    go_ret
    exact ⟨by rw [HS.out]; rfl, Later.refl _⟩
  · have hb : bits BinOp.and IntKind.i64 lun 7 = 5 := by rw [i64_and7]; omega
    have he : Utf8.encode 53 = ⟨#[53]⟩ := by decide
    have HS : Hid (strOf (serL lun) = ⟨#[82, 84, 48, 48, 48, 48, 48, 53]⟩) := by rw [Hid, serL, show (lun % 8).toNat = 5 by omega]; rfl
    clear h h8
    go_enter Try.func96, Try.ntmps96
    go_wp2
    go_ret
    exact ⟨by rw [HS.out]; rfl, Later.refl _⟩
  · have hb : bits BinOp.and IntKind.i64 lun 7 = 6 := by rw [i64_and7]; omega
    have he : Utf8.encode 54 = ⟨#[54]⟩ := by decide
    have HS : Hid (strOf (serL lun) = ⟨#[82, 84, 48, 48, 48, 48, 48, 54]⟩) := by rw [Hid, serL, show (lun % 8).toNat = 6 by omega]; rfl
    clear h h8
    go_enter Try.func96, Try.ntmps96
    go_wp2
    go_ret
    exact ⟨by rw [HS.out]; rfl, Later.refl _⟩
  · have hb : bits BinOp.and IntKind.i64 lun 7 = 7 := by rw [i64_and7]; omega
    have he : Utf8.encode 55 = ⟨#[55]⟩ := by decide
    have HS : Hid (strOf (serL lun) = ⟨#[82, 84, 48, 48, 48, 48, 48, 55]⟩) := by rw [Hid, serL, show (lun % 8).toNat = 7 by omega]; rfl
    clear h h8
    go_enter Try.func96, Try.ntmps96
    go_wp2
    go_ret
    exact ⟨by rw [HS.out]; rfl, Later.refl _⟩
set_option maxHeartbeats 1000000 in
theorem std7_c : IStd7 := by
  intro there w
  have HS : Hid (stdL there = (([firstB there, 128, 6, 2, 31, 0, 0, 2] ++ [82, 69, 84, 73, 67, 85, 76, 69]) ++ textI [71, 65, 68, 71, 69, 84, 32, 68, 73, 83, 75] 16) ++ [48, 48, 48, 49]) := rfl
  go_enter Try.func54, Try.ntmps54
  go_wp2_with fail
  refine (first7_c there _).mono ?_
  rintro e w' ⟨rfl, hw⟩
  have hw2 := hw.symm
  subst hw2
  clear hw
  generalize firstB there = f at *
  go_wp2_with (at_builtin; refine wpList_append_text rfl (.tmp 7) (.const (.string ⟨#[82, 69, 84, 73, 67, 85, 76, 69]⟩)) rfl w.heap.size 8 _ [f, 128, 6, 2, 31, 0, 0, 2] [82, 69, 84, 73, 67, 85, 76, 69] rfl rfl (owns_box (Box.new w 5 #[.int .u8 (f.toNat : Int), .int .u8 128, .int .u8 6, .int .u8 2, .int .u8 31, .int .u8 0, .int .u8 0, .int .u8 2]) rfl (by decide) (Nat.le_refl _)) (by decide) (by decide) (by simp) w ((Later.refl w).alloc _) ?_)
  intro v2 w2 ho hb
  have O2 := hide ho
  have L2 : Hid (Later w w2) := hb
  clear ho hb
  go_wp2_with fail
  refine (text_c ⟨#[71, 65, 68, 71, 69, 84, 32, 68, 73, 83, 75]⟩ 16 _ _ (Nat.le_refl _) (by decide)).mono ?_
  rintro e w3 ⟨v3, rfl, hl, ho⟩
  replace O2 := hide (owns_later O2.out hl)
  replace L2 := hide (L2.out.trans hl)
  have V3 := hide (Bs.of_owns ho).1
  clear ho hl
  go_wp2_with (at_builtin; refine wpList_append_bs rfl (.tmp 9) (.tmp 10) rfl w.heap.size v2 16 _ rfl O2.out v3 _ rfl V3.out (by decide) L2.out.size w L2.out ?_)
  intro v4 w4 ho hb hg
  have O4 := hide ho
  have L4 : Hid (Later w w4) := hb
  clear ho hb hg
  go_wp2_with (at_builtin; refine wpList_append_text rfl (.tmp 12) (.const (.string ⟨#[48, 48, 48, 49]⟩)) rfl w.heap.size 32 v4 _ [48, 48, 48, 49] rfl rfl O4.out (by decide) (by decide) L4.out.size w L4.out ?_)
  intro v5 w5 ho hb
  have V5 := hide (Bs.of_owns ho).1
  have L5 : Hid (Later w w5) := hb
  clear ho hb
  go_wp2
  go_ret
  exact ⟨_, rfl, L5.out, by rw [HS.out]; exact V5.out⟩
end Go.Proofs.Ytmelkgmbiiobgaa

namespace Go.Proofs.Ytmelkgmbiiobgaa
open Go.ChangeShapes Go.WideShapes Go.ChangeAt Go.RowKit
set_option linter.unusedVariables false
set_option maxRecDepth 4000
set_option linter.unusedSimpArgs false
/-! The landed inquiry: Cut. -/
set_option maxHeartbeats 1000000 in
theorem cut7_c : ICut7 := by
  intro v l n w h hs hn64
  have HB := hide h
  obtain ⟨hlm, ad, cap, rfl, hcap, _⟩ := h
  clear hlm
  obtain ⟨k, hk⟩ : ∃ k, k = l.length := ⟨_, rfl⟩
  rw [← hk] at HB hcap hs ⊢
  have HK := hide hk
  clear hk
  by_cases h0 : n < 0
  · have HC : Hid (cutL l n = []) := by rw [Hid, cutL, if_pos h0]
    clear hn64
    go_enter Try.func51, Try.ntmps51
    go_wp2
    go_ret
    exact ⟨_, rfl, Later.refl _, by rw [HC.out]; exact Bs.nil _⟩
  have hb0 : decide (n < 0) = false := by simp; omega
  obtain ⟨m, hm⟩ : ∃ m : Nat, m = min n.toNat k := ⟨_, rfl⟩
  have hmin : (if (k : Int) < n then (k : Int) else n) = (m : Int) := by split <;> omega
  have hmk : m ≤ k := by omega
  have HC : Hid (cutL l n = l.take m) := by
    rw [Hid, cutL, if_neg h0]
    by_cases hh : n.toNat ≤ k
    · rw [show m = n.toNat by omega]
    · rw [List.take_of_length_le (by have := HK.out; omega), List.take_of_length_le (by have := HK.out; omega)]
  have s1 : (m : Int) ≤ (cap : Int) := by omega
  have HM := hide hm
  clear hm h0 hn64
  go_enter Try.func51, Try.ntmps51
  have Ex : Hid ((w.alloc (.cells #[] 5)).ownsRow w.heap.size 5 1 (.slice (some ⟨w.heap.size, 0, none⟩) 0 0) 0 (bv [])) := World.ownsRow_lit w #[] 0 (Nat.le_refl _) (by simp [maxLen]) rfl
  have LEx : Hid (Below w.heap.size w (w.alloc (.cells #[] 5))) := (Below.refl _ _).alloc (Nat.le_refl _) _
  have Ax : Hid (Bs (w.alloc (.cells #[] 5)) (.slice ad m cap) (l.take m)) := (HB.out.cut7 m hmk).later LEx.out
  go_wp2_with (at_builtin; refine wpList_append_bs rfl (.tmp 7) (.tmp 13) rfl w.heap.size _ 0 [] rfl Ex.out _ (l.take m) rfl Ax.out (by simp; omega) (by simp) w LEx.out ?_)
  intro v3 w3 ho hb hg
  have V3 := hide (Bs.of_owns ho).1
  have L3 : Hid (Later w w3) := hb
  clear ho hb hg Ex LEx Ax
  go_wp2
  go_ret
  exact ⟨_, rfl, L3.out, by rw [HC.out]; exact V3.out⟩
end Go.Proofs.Ytmelkgmbiiobgaa

namespace Go.Proofs.Ytmelkgmbiiobgaa
open Go.ChangeShapes Go.WideShapes Go.ChangeAt Go.RowKit
set_option linter.unusedVariables false
set_option maxRecDepth 4000
set_option linter.unusedSimpArgs false
/-! The document's capacity: Ten, Sixteen. -/
def lastN (b : Int) : Nat := ((b - 1) % 18446744073709551616).toNat
theorem lastN_eq (b : Int) : IntKind.u64.wrap (IntKind.u64.wrap b - 1) = (lastN b : Int) := by
  rw [IntKind.wrap_u64, IntKind.wrap_u64]; unfold lastN; omega
theorem lastN_le (b : Int) : lastN b ≤ 18446744073709551615 := by unfold lastN; omega
def sz64 : List UInt8 := [0, 0, 0, 64]
def tenL (b : Int) : List UInt8 := putBeI (lastN b) 4 ++ sz64
def sixL (b : Int) : List UInt8 := putBeI (lastN b) 8 ++ (sz64 ++ zs 20)
theorem putBeI4_len (x : Nat) : (putBeI x 4).length = 4 := by rw [putBeI, if_pos (by decide), putBe_length]; rfl
theorem putBeI8_len (x : Nat) : (putBeI x 8).length = 8 := by rw [putBeI, if_pos (by decide), putBe_length]; rfl
theorem sixL_len (b : Int) : (sixL b).length = 32 := by rw [sixL, List.length_append, List.length_append, putBeI8_len, zs_len]; rfl
end Go.Proofs.Ytmelkgmbiiobgaa

namespace Go.Proofs.Ytmelkgmbiiobgaa
open Go.ChangeShapes Go.WideShapes Go.ChangeAt Go.RowKit
set_option linter.unusedVariables false
set_option maxRecDepth 4000
set_option linter.unusedSimpArgs false
/-! The document's capacity: Luns. -/
def cntN (k : Int) : Nat := if k > 4 then 4 else if k < 0 then 0 else k.toNat
def entL (i : Nat) : List UInt8 := [0, UInt8.ofNat i, 0, 0, 0, 0, 0, 0]
def entsL : Nat → List UInt8
  | 0 => []
  | k + 1 => entsL k ++ entL k
theorem entsL_len (k : Nat) : (entsL k).length = 8 * k := by
  induction k with
  | zero => rfl
  | succ k ih => rw [entsL, List.length_append, ih]; simp [entL]; omega
def headL (c : Nat) : List UInt8 := [0, 0, 0, UInt8.ofNat (c * 8), 0, 0, 0, 0]
def lunsL (c : Nat) : List UInt8 := headL c ++ entsL c
theorem lunsL_len (c : Nat) : (lunsL c).length = 8 + 8 * c := by rw [lunsL, List.length_append, entsL_len]; rfl
end Go.Proofs.Ytmelkgmbiiobgaa

namespace Go.Proofs.Ytmelkgmbiiobgaa
open Go.ChangeShapes Go.WideShapes Go.ChangeAt Go.RowKit
set_option linter.unusedVariables false
set_option maxRecDepth 4000
set_option linter.unusedSimpArgs false
/-! Intents in memory, and what the document's Begin comes to. -/
/-- an intent's cells -/
abbrev ic (dir len : Int) (ax : Option Addr) (kx cx : Nat) (c : Cmd) (jl jt : Int) (ar : Option Addr) (kr cr : Nat) (S s : Sns) : List Value :=
  [.int .i64 dir, .int .i64 len, .slice ax kx cx, .int .i64 c.1, .int .u64 (c.2.1 : Int), .int .i64 c.2.2.1, .int .i64 c.2.2.2.1, .int .i64 c.2.2.2.2, .int .i64 jl, .int .i64 jt, .slice ar kr cr, .int .i64 S.1, .int .i64 S.2.1, .int .i64 S.2.2, .int .i64 s.1, .int .i64 s.2.1, .int .i64 s.2.2]
theorem ic_one (dir len : Int) (ax : Option Addr) (kx cx : Nat) (c : Cmd) (jl jt : Int) (ar : Option Addr) (kr cr : Nat) (S s : Sns) : ∀ u ∈ ic dir len ax kx cx c jl jt ar kr cr S s, u.oneCell' = true := by
  intro x hx
  simp only [List.mem_cons, List.not_mem_nil, or_false] at hx
  rcases hx with rfl | rfl | rfl | rfl | rfl | rfl | rfl | rfl | rfl | rfl | rfl | rfl | rfl | rfl | rfl | rfl | rfl <;> rfl
theorem ic_nob (dir len : Int) (ax : Option Addr) (kx cx : Nat) (c : Cmd) (jl jt : Int) (ar : Option Addr) (kr cr : Nat) (S s : Sns) : NoB (ic dir len ax kx cx c jl jt ar kr cr S s) := by intro z h; simp at h
abbrev ival (dir len : Int) (ax : Option Addr) (kx cx : Nat) (c : Cmd) (jl jt : Int) (ar : Option Addr) (kr cr : Nat) (S s : Sns) : Value := .agg (ic dir len ax kx cx c jl jt ar kr cr S s).toArray
theorem Try.info_intent : (Try.prog.info? 43).map (·.size) = some 17 := by kernel_rfl
theorem Try.zero_intent : (Try.prog.info? 43).map (fun i => (i.zero, i.size)) = some (some (.agg #[.int .i64 0, .int .i64 0, .slice none 0 0, .int .i64 0, .int .u64 0, .int .i64 0, .int .i64 0, .int .i64 0, .int .i64 0, .int .i64 0, .slice none 0 0, .int .i64 0, .int .i64 0, .int .i64 0, .int .i64 0, .int .i64 0, .int .i64 0]), 17) := by kernel_rfl
theorem load_intent {w : World} {R : Nat} {cs : List Value} (h : Box w R 43 cs) (hl : cs.length = 17) : (loadVar 43 ⟨R, 0, none⟩).run Try.prog w = .ok (.agg cs.toArray) w :=
  run_loadVar_mid _ _ _ _ cs _ h.range Try.underlying43 rfl (by rw [Try.info_intent, hl])
/-- an intent, told: the direction, how many, the bytes, the job's command and length, the sense -/
abbrev Itt := Int × Int × List UInt8 × Cmd × Int × Sns
def IV (w : World) (v : Value) (T : Itt) : Prop :=
  ∃ ax cx ar cr, v = ival T.1 T.2.1 ax T.2.2.1.length cx T.2.2.2.1 T.2.2.2.2.1 0 ar 0 cr (0, 0, 0) T.2.2.2.2.2 ∧ Bs w (.slice ax T.2.2.1.length cx) T.2.2.1
theorem IV.later {w w' : World} {v : Value} {T : Itt} (h : IV w v T) (hl : Later w w') : IV w' v T := by
  obtain ⟨ax, cx, ar, cr, rfl, hb⟩ := h
  exact ⟨ax, cx, ar, cr, rfl, hb.later hl⟩
abbrev c00 : Cmd := (0, 0, 0, 0, 0)
def noneI (s : Sns) : Itt := (0, 0, [], c00, 0, s)
def inI (L : List UInt8) (s : Sns) : Itt := if s = (0, 0, 0) ∧ L.length ≠ 0 then (1, (L.length : Int), L, c00, 0, (0, 0, 0)) else noneI s
def outI (c : Cmd) (s : Sns) : Itt := match startL c with
  | some z => if s = (0, 0, 0) then (2, z, [], c, z, (0, 0, 0)) else noneI s
  | none => noneI s
/-- a unit, told: the medium's blocks and writes that are cached, whether it is there, its latch, its attentions, the last sense -/
abbrev Utt := List UInt8 × List Drt × Bool × Bool × List Sns × Sns
/-- StartStop -/
def stI (n : Nat) (F : List UInt8) (D : List Drt) (p l : Bool) (M : List Sns) (s : Sns) (bits : Int) : Utt × Itt :=
  if bits = 3 then ((F, D, true, l, if p then M else addL M (6, 40, 0), s), noneI (0, 0, 0))
  else if bits = 2 then ((btF p l n F D, btD p l n D, p && l, l, M, s), noneI (ulS p l))
  else if readyS p = (0, 0, 0) ∧ bits = 0 then ((syncF n F D, syncD n D, p, l, M, s), noneI (readyS p))
  else ((F, D, p, l, M, s), noneI (readyS p))
/-- the commands with blocks -/
def blI (n : Nat) (F : List UInt8) (D : List Drt) (p r l : Bool) (M : List Sns) (s : Sns) (c : Cmd) : Utt × Itt :=
  if classI c.1 = 1 then ((F, D, p, l, M, s), inI (rdL n F D (checkS n D p r c.2.1 c.2.2.1 false) c.2.1 c.2.2.1) (checkS n D p r c.2.1 c.2.2.1 false))
  else if classI c.1 = 2 then ((F, D, p, l, M, s), outI c (checkS n D p r c.2.1 c.2.2.1 true))
  else if classI c.1 = 3 then ((F, D, p, l, M, s), outI c (checkS n D p r c.2.1 c.2.2.1 false))
  else if checkS n D p r c.2.1 c.2.2.1 false = (0, 0, 0) ∧ rightB n D = true then ((flushF n F D c.2.1 c.2.2.1, flushD n D c.2.1 c.2.2.1, p, l, M, s), noneI (0, 0, 0))
  else ((F, D, p, l, M, s), noneI (checkS n D p r c.2.1 c.2.2.1 false))
def begI (n : Nat) (F : List UInt8) (D : List Drt) (p r l cc : Bool) (M : List Sns) (s : Sns) (lun luns : Int) (c : Cmd) : Utt × Itt :=
  if c.1 = 0 then ((F, D, p, l, M, s), noneI (readyS p))
  else if c.1 = 3 then ((F, D, p, l, M, (0, 0, 0)), inI (cutL (bytesL s) c.2.2.1) (0, 0, 0))
  else if c.1 = 18 then ((F, D, p, l, M, s), inI (ansR c lun luns).1 (ansR c lun luns).2)
  else if c.1 = 26 ∨ c.1 = 90 then ((F, D, p, l, M, s), inI (mansR c cc r).1 (mansR c cc r).2)
  else if c.1 = 21 ∨ c.1 = 85 then ((F, D, p, l, M, s), outI c (0, 0, 0))
  else if c.1 = 27 then stI n F D p l M s c.2.2.2.2
  else if c.1 = 30 then ((F, D, p, if p then c.2.2.2.2 == 1 else l, M, s), noneI (readyS p))
  else if c.1 = 37 then ((F, D, p, l, M, s), inI (tenL (allN n D : Int)) (readyS p))
  else if c.1 = 158 then ((F, D, p, l, M, s), inI (cutL (sixL (allN n D : Int)) c.2.2.1) (readyS p))
  else if c.1 = 160 then ((F, D, p, l, M, s), inI (cutL (lunsL (cntN luns)) c.2.2.1) (0, 0, 0))
  else if classI c.1 = 0 then ((F, D, p, l, M, s), noneI (5, 32, 0))
  else blI n F D p r l M s c
end Go.Proofs.Ytmelkgmbiiobgaa

namespace Go.Proofs.Ytmelkgmbiiobgaa
open Go.ChangeShapes Go.WideShapes Go.ChangeAt Go.RowKit
set_option linter.unusedVariables false
set_option maxRecDepth 4000
set_option linter.unusedSimpArgs false
/-! The document's intents: None, In, Same. -/
abbrev zI : List Value := ic 0 0 none 0 0 (0, 0, 0, 0, 0) 0 0 none 0 0 (0, 0, 0) (0, 0, 0)
set_option maxHeartbeats 1000000 in
theorem rnone11_c (s : Sns) (w : World) : Calls Try.prog 19 #[sval s] w fun e w' => e = .returned (ival 0 0 none 0 0 (0, 0, 0, 0, 0) 0 0 none 0 0 (0, 0, 0) s) ∧ Later w w' := by
  have BX := hide ((Box.new w 30 #[.int .i64 s.1, .int .i64 s.2.1, .int .i64 s.2.2]).alloc (.cells zI.toArray 43))
  have BI : Hid (Box _ (w.heap.size + 1) 43 zI) := Box.new' (w.alloc (.cells #[.int .i64 s.1, .int .i64 s.2.1, .int .i64 s.2.2] 30)) 43 zI.toArray _ rfl _ (by simp)
  have LL := hide (((Later.refl w).alloc (.cells #[.int .i64 s.1, .int .i64 s.2.1, .int .i64 s.2.2] 30)).alloc (.cells zI.toArray 43))
  have x0 := BX.out.cell 0
  have x1 := BX.out.cell 1
  have x2 := BX.out.cell 2
  go_enter Try.func19, Try.ntmps19
  go_wp2_with (refine wpList_storeU rfl 43 (.tmp 2) (.tmp 4) rfl (w.heap.size + 1) 0 rfl (ic 0 0 none 0 0 (0, 0, 0, 0, 0) 0 0 none 0 0 (0, 0, 0) s) rfl Try.info_intent (ic_one _ _ _ _ _ _ _ _ _ _ _ _ _) _ _ BI.out (by simp) ?_)
  intro wz hz
  have BZ : Hid (Box wz (w.heap.size + 1) 43 (ic 0 0 none 0 0 (0, 0, 0, 0, 0) 0 0 none 0 0 (0, 0, 0) s)) := by rw [hz.out]; exact BI.out.all _ rfl
  have LZ : Hid (Later w wz) := by rw [hz.out]; exact LL.out.setCells (by omega) _ _
  clear hz
  go_wp2
  exact bodyPost_ret (results_cell1 rfl _ _ _ (w.heap.size + 1) 0 rfl (ival 0 0 none 0 0 (0, 0, 0, 0, 0) 0 0 none 0 0 (0, 0, 0) s) (load_intent BZ.out rfl)) rfl ⟨rfl, LZ.out⟩
theorem IV.nil11 (w : World) (s : Sns) : IV w (ival 0 0 none 0 0 (0, 0, 0, 0, 0) 0 0 none 0 0 (0, 0, 0) s) (noneI s) := ⟨none, 0, none, 0, rfl, Bs.nil w⟩
set_option maxRecDepth 20000 in
set_option maxHeartbeats 2000000 in
theorem rin11_c {v : Value} {L : List UInt8} (s : Sns) (w : World) (h : Bs w v L) : Calls Try.prog 17 #[v, sval s] w fun e w' => ∃ i', e = .returned i' ∧ Later w w' ∧ IV w' i' (inI L s) := by
  have h2 := h
  obtain ⟨hm, ax, cx, rfl, hc, -⟩ := h2
  have HB := hide h
  have HI : Hid (inI L s = if s = (0, 0, 0) ∧ L.length ≠ 0 then (1, (L.length : Int), L, (0, 0, 0, 0, 0), 0, (0, 0, 0)) else noneI s) := rfl
  obtain ⟨k, hk⟩ : ∃ k, k = L.length := ⟨_, rfl⟩
  have HK := hide hk
  rw [← hk] at HB HI hm ⊢
  have hk2 : k ≤ 9223372036854775807 := by unfold maxLen at hm; omega
  clear h hm hc hk
  have BX := hide ((Box.new w 30 #[.int .i64 s.1, .int .i64 s.2.1, .int .i64 s.2.2]).alloc (.cells zI.toArray 43))
  have BI : Hid (Box _ (w.heap.size + 1) 43 zI) := Box.new' (w.alloc (.cells #[.int .i64 s.1, .int .i64 s.2.1, .int .i64 s.2.2] 30)) 43 zI.toArray _ rfl _ (by simp)
  have LL := hide (((Later.refl w).alloc (.cells #[.int .i64 s.1, .int .i64 s.2.1, .int .i64 s.2.2] 30)).alloc (.cells zI.toArray 43))
  have x0 := BX.out.cell 0
  have x1 := BX.out.cell 1
  have x2 := BX.out.cell 2
  go_enter Try.func17, Try.ntmps17
  by_cases hs : s = (0, 0, 0)
  · have es : (s == (0, 0, 0)) = true := by simp [hs]
    by_cases h0 : k = 0
    · have e0 : decide ((0 : Int) < (k : Int)) = false := by simp; omega
      replace HI : Hid (inI L s = noneI s) := by rw [Hid, HI.out, if_neg (fun h => h.2 h0)]
      clear hs
      go_wp2_with (refine wpList_eqS9 (by kernel_rfl) (.tmp 5) (.tmp 6) rfl s (0, 0, 0) rfl rfl true es ?_)
      refine (rnone11_c s _).mono ?_
      rintro e w2 ⟨rfl, hl⟩
      replace BI := hide (BI.out.later hl)
      replace LL := hide (LL.out.trans hl)
      clear hl x0 x1 x2
      go_wp2_with (refine wpList_storeU rfl 43 (.tmp 4) (.tmp 18) rfl (w.heap.size + 1) 0 rfl (ic 0 0 none 0 0 (0, 0, 0, 0, 0) 0 0 none 0 0 (0, 0, 0) s) rfl Try.info_intent (ic_one _ _ _ _ _ _ _ _ _ _ _ _ _) _ _ BI.out (by simp) ?_)
      intro wz hz
      have BZ : Hid (Box wz (w.heap.size + 1) 43 (ic 0 0 none 0 0 (0, 0, 0, 0, 0) 0 0 none 0 0 (0, 0, 0) s)) := by rw [hz.out]; exact BI.out.all _ rfl
      have LZ : Hid (Later w wz) := by rw [hz.out]; exact LL.out.setCells (by omega) _ _
      clear hz
      go_wp2
      refine bodyPost_ret (results_cell1 rfl _ _ _ (w.heap.size + 1) 0 rfl (ival 0 0 none 0 0 (0, 0, 0, 0, 0) 0 0 none 0 0 (0, 0, 0) s) (load_intent BZ.out rfl)) rfl ⟨_, rfl, LZ.out, ?_⟩
      rw [HI.out]
      exact IV.nil11 _ s
    · have e0 : decide ((0 : Int) < (k : Int)) = true := by simp; omega
      replace HI : Hid (inI L s = (1, (k : Int), L, (0, 0, 0, 0, 0), 0, (0, 0, 0))) := by rw [Hid, HI.out, if_pos ⟨hs, h0⟩]
      clear hs
      go_wp2_with (first | refine wpList_eqS9 (by kernel_rfl) (.tmp 5) (.tmp 6) rfl s (0, 0, 0) rfl rfl true es ?_ | refine wpList_storeU rfl 43 (.tmp 4) (.tmp 16) rfl (w.heap.size + 1) 0 rfl (ic 1 (k : Int) ax k cx (0, 0, 0, 0, 0) 0 0 none 0 0 (0, 0, 0) (0, 0, 0)) rfl Try.info_intent (ic_one _ _ _ _ _ _ _ _ _ _ _ _ _) _ _ BI.out (by simp) ?_)
      intro wz hz
      have BZ : Hid (Box wz (w.heap.size + 1) 43 (ic 1 (k : Int) ax k cx (0, 0, 0, 0, 0) 0 0 none 0 0 (0, 0, 0) (0, 0, 0))) := by rw [hz.out]; exact BI.out.all _ rfl
      have LZ : Hid (Later w wz) := by rw [hz.out]; exact LL.out.setCells (by omega) _ _
      clear hz
      go_wp2
      refine bodyPost_ret (results_cell1 rfl _ _ _ (w.heap.size + 1) 0 rfl (ival 1 (k : Int) ax k cx (0, 0, 0, 0, 0) 0 0 none 0 0 (0, 0, 0) (0, 0, 0)) (load_intent BZ.out rfl)) rfl ⟨_, rfl, LZ.out, ?_⟩
      rw [HI.out]
      refine ⟨ax, cx, none, 0, by rw [HK.out], ?_⟩
      have := HB.out.later LZ.out
      rwa [HK.out] at this
  · have es : (s == (0, 0, 0)) = false := by simpa using hs
    replace HI : Hid (inI L s = noneI s) := by rw [Hid, HI.out, if_neg (fun h => hs h.1)]
    clear hs
    go_wp2_with (refine wpList_eqS9 (by kernel_rfl) (.tmp 5) (.tmp 6) rfl s (0, 0, 0) rfl rfl false es ?_)
    refine (rnone11_c s _).mono ?_
    rintro e w2 ⟨rfl, hl⟩
    replace BI := hide (BI.out.later hl)
    replace LL := hide (LL.out.trans hl)
    clear hl x0 x1 x2
    go_wp2_with (refine wpList_storeU rfl 43 (.tmp 4) (.tmp 18) rfl (w.heap.size + 1) 0 rfl (ic 0 0 none 0 0 (0, 0, 0, 0, 0) 0 0 none 0 0 (0, 0, 0) s) rfl Try.info_intent (ic_one _ _ _ _ _ _ _ _ _ _ _ _ _) _ _ BI.out (by simp) ?_)
    intro wz hz
    have BZ : Hid (Box wz (w.heap.size + 1) 43 (ic 0 0 none 0 0 (0, 0, 0, 0, 0) 0 0 none 0 0 (0, 0, 0) s)) := by rw [hz.out]; exact BI.out.all _ rfl
    have LZ : Hid (Later w wz) := by rw [hz.out]; exact LL.out.setCells (by omega) _ _
    clear hz
    go_wp2
    refine bodyPost_ret (results_cell1 rfl _ _ _ (w.heap.size + 1) 0 rfl (ival 0 0 none 0 0 (0, 0, 0, 0, 0) 0 0 none 0 0 (0, 0, 0) s) (load_intent BZ.out rfl)) rfl ⟨_, rfl, LZ.out, ?_⟩
    rw [HI.out]
    exact IV.nil11 _ s
theorem Jb.nil11 (w : World) (c : Cmd) (len : Int) (ar : Option Addr) (cr : Nat) : Jb w (jval c len 0 ar 0 cr (0, 0, 0)) c len 0 [] (0, 0, 0) := ⟨ar, cr, rfl, by simp, ar, cr, rfl, by simp, .inl rfl⟩
set_option maxRecDepth 20000 in
set_option maxHeartbeats 4000000 in
/-- alike are alike -/
theorem rsame11_c {u v : Value} {T : Itt} (w : World) (hU : IV w u T) (hV : IV w v T) : Calls Try.prog 15 #[u, v] w fun e w' => e = .returned (.bool true) ∧ Later w w' := by
  obtain ⟨dir, len, L, c, jl, s⟩ := T
  obtain ⟨ax, cx, ar, cr, rfl, hb⟩ := hU
  obtain ⟨ax', cx', ar', cr', rfl, hb'⟩ := hV
  simp only at hb hb' ⊢
  have HB := hide hb
  have HB' := hide hb'
  clear hb hb'
  obtain ⟨k, hk⟩ : ∃ k, k = L.length := ⟨_, rfl⟩
  rw [← hk] at HB HB' ⊢
  clear hk
  have BX := hide ((Box.new w 43 (ic dir len ax k cx c jl 0 ar 0 cr (0, 0, 0) s).toArray).alloc (.cells (ic dir len ax' k cx' c jl 0 ar' 0 cr' (0, 0, 0) s).toArray 43))
  have BY : Hid (Box _ (w.heap.size + 1) 43 (ic dir len ax' k cx' c jl 0 ar' 0 cr' (0, 0, 0) s)) := Box.new' (w.alloc (.cells (ic dir len ax k cx c jl 0 ar 0 cr (0, 0, 0) s).toArray 43)) 43 (ic dir len ax' k cx' c jl 0 ar' 0 cr' (0, 0, 0) s).toArray _ rfl _ (by simp)
  have LL := hide (((Later.refl w).alloc (.cells (ic dir len ax k cx c jl 0 ar 0 cr (0, 0, 0) s).toArray 43)).alloc (.cells (ic dir len ax' k cx' c jl 0 ar' 0 cr' (0, 0, 0) s).toArray 43))
  have g1 := (HB.out.later LL.out).strOf
  have g2 := (HB'.out.later LL.out).strOf
  have x_0 := BX.out.cell 0
  have x_1 := BX.out.cell 1
  have x_2 := BX.out.cell 2
  have x_3 := BX.out.cell 3
  have x_4 := BX.out.cell 4
  have x_5 := BX.out.cell 5
  have x_6 := BX.out.cell 6
  have x_7 := BX.out.cell 7
  have x_8 := BX.out.cell 8
  have x_9 := BX.out.cell 9
  have x_10 := BX.out.cell 10
  have x_11 := BX.out.cell 11
  have x_12 := BX.out.cell 12
  have x_13 := BX.out.cell 13
  have x_14 := BX.out.cell 14
  have x_15 := BX.out.cell 15
  have x_16 := BX.out.cell 16
  have y_0 := BY.out.cell 0
  have y_1 := BY.out.cell 1
  have y_2 := BY.out.cell 2
  have y_3 := BY.out.cell 3
  have y_4 := BY.out.cell 4
  have y_5 := BY.out.cell 5
  have y_6 := BY.out.cell 6
  have y_7 := BY.out.cell 7
  have y_8 := BY.out.cell 8
  have y_9 := BY.out.cell 9
  have y_10 := BY.out.cell 10
  have y_11 := BY.out.cell 11
  have y_12 := BY.out.cell 12
  have y_13 := BY.out.cell 13
  have y_14 := BY.out.cell 14
  have y_15 := BY.out.cell 15
  have y_16 := BY.out.cell 16
  go_enter Try.func15, Try.ntmps15
  go_wp2_with fail
  refine (rsame10_c _ (Jb.nil11 _ c jl ar cr) (Jb.nil11 _ c jl ar' cr')).mono ?_
  rintro e w2 ⟨rfl, hl⟩
  rw [show (c == c && (jl == jl && ((0 : Int) == 0 && (([] : List UInt8) == [] && ((0, 0, 0) : Sns) == (0, 0, 0))))) = true by simp]
  replace LL := hide (LL.out.trans hl)
  replace BX := hide (BX.out.later hl)
  replace BY := hide (BY.out.later hl)
  clear hl x_0 x_1 x_2 x_3 x_4 x_5 x_6 x_7 x_8 x_9 x_10 x_11 x_12 x_13 x_14 x_15 x_16 y_0 y_1 y_2 y_3 y_4 y_5 y_6 y_7 y_8 y_9 y_10 y_11 y_12 y_13 y_14 y_15 y_16 g1 g2
  have x14 := BX.out.cell 14
  have x15 := BX.out.cell 15
  have x16 := BX.out.cell 16
  have y14 := BY.out.cell 14
  have y15 := BY.out.cell 15
  have y16 := BY.out.cell 16
  go_wp2_with (refine wpList_eqS9 (by kernel_rfl) (.tmp 35) (.tmp 37) rfl s s rfl rfl true (by simp) ?_)
  go_ret
  exact ⟨rfl, LL.out⟩
end Go.Proofs.Ytmelkgmbiiobgaa
