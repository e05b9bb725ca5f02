import Derived.Laws.Runes
import Derived.Deep.AppendSrc
import Derived.Test.YtbcikndebaeahaaMAG
import Derived.Test.YtbcikndebaeahaaMAN
import Derived.Test.YtbcikndebaeahaaMAH
import Derived.Test.YtbcikndebaeahaaWB10d
import Derived.Test.YtbcikndebaeahaaMAM
import Derived.Test.YtbcikndebaeahaaMAP
import Derived.Test.YtbcikndebaeahaaMAC
namespace Go.Proofs.Ytbcikndebaeahaa
open Go.ChangeShapes Go.WideShapes Go.ChangeAt Go.RowKit
set_option linter.unusedVariables false
set_option maxRecDepth 4000
set_option linter.unusedSimpArgs false
/-! 'append(a, make([]byte, k)...)', a our own. -/
def zs (k : Nat) : List UInt8 := List.replicate k 0
theorem zs_len (k : Nat) : (zs k).length = k := by simp [zs]
theorem zerosK (k : Nat) : (Builtin.zeroCells (Value.int .u8 0).cells k).toList = bv (zs k) := zerosN k
theorem zerosK' (k : Nat) : Builtin.zeroCells (Value.int .u8 0).cells k = (bv (zs k)).toArray := by rw [← zerosK]
set_option maxHeartbeats 1000000 in
theorem run_append_zk (k : Nat) (hk0 : 0 < k) (hk : k ≤ 1000) {w : World} {B g n cap : Nat} {l : List UInt8} (ty : TypeId) (hown : w.ownsRow B 5 1 (.slice (some ⟨g, 0, none⟩) n cap) n (bv l)) (hn : n ≤ 1000000) (hbase : B ≤ w.heap.size) :
    ∃ v' w', (Builtin.append_ #[36, 3] ty #[.slice (some ⟨g, 0, none⟩) n cap, .int .i64 (k : Int)]).run Try.prog w = .ok v' w' ∧ w'.ownsRow B 5 1 v' (n + k) (bv (l ++ (zs k))) ∧ w.grownBy w' (some g) := by
  obtain ⟨i0, hi, hz0, hz1, hz2⟩ := info_parts Try.info_u8
  have h52 : IntKind.i64.wrap (k : Int) = k := by rw [IntKind.wrap_i64]; omega
  have hkn : ¬ ((k : Int) < 0) := by omega
  have hkz : ¬ (k = 0) := by omega
  have hkb : ¬ (281474976710656 < (k : Int)) := by omega
  have hai : ∀ w : World, (asInt (.int .i64 (k : Int))).run Try.prog w = .ok (k : Int) w := fun w => rfl
  obtain ⟨hlen, h | ⟨g', cap', cur, e, hbg, hg, hnc, hcm, hcs, htake⟩⟩ := hown
  · obtain ⟨h, _⟩ := h; cases h
  simp at e
  obtain ⟨rfl, rfl⟩ := e
  rw [Nat.mul_one] at hlen hcs htake
  have hL : (bv (l ++ (zs k))).length = n + k := by rw [bv_append, List.length_append, hlen, bv_length, zs_len]
  by_cases hroom : n + k ≤ cap
  · have hB : Box w g 5 cur.toList := by unfold Box; rw [hg]
    have hst := run_storeCells_cells (P := Try.prog) g n (bv ((zs k))) 0 w (fun j hj => by rw [hB.cell]; rw [bv_length, zs_len] at hj; simp; omega) (fun j hj => hB.frozen _) (bv_one _)
    simp only [Nat.add_zero] at hst
    have hB2 := hB.setCells (bv ((zs k))) n (by rw [bv_length, zs_len]; simp; omega)
    refine ⟨.slice (some ⟨g, 0, none⟩) (n + k) cap, w.setCells g n (bv ((zs k))), ?_, ?_, ?_⟩
    · simp [Builtin.append_, run_underlying Try.underlying36, run_underlying Try.underlying3, sizeOf, typeInfo, hi, hz0, hz1, hz2, zeroValue, hroom, Addr.add_lit, zerosK, hst, hai, h52, hkn, hkz, hkb]
    · refine ⟨by rw [hL, Nat.mul_one], .inr ⟨g, cap, _, rfl, hbg, hB2, hroom, hcm, ?_, ?_⟩⟩
      · simp [bv_length, zs_len]; omega
      · rw [Nat.mul_one, htake, ← bv_append, ← hL]
        exact List.take_left
    · have hlt := hB.lt
      exact ⟨(below_setCells (Below.refl g w) (Nat.le_refl _) _ _).os, (below_setCells (Below.refl g w) (Nat.le_refl _) _ _).tape, (below_setCells (Below.refl g w) (Nat.le_refl _) _ _).output, (below_setCells (Below.refl g w) (Nat.le_refl _) _ _).size, fun k' hk' hne => heap_setCells_other w g k' (fun e => hne (by rw [e])) _ _⟩
  · have hn63 : ¬ (9223372036854775807 < (n : Int) + k) := by omega
    have hfit : ¬ (281474976710656 < Builtin.nextslicecap (n + k) cap) := by
      have := growslice_fits (need := n + k) (old := cap) (bytes := 1) (by omega) (by omega)
      omega
    have holds : (Builtin.firstCells 1 n (.slice (some ⟨g, 0, none⟩) n cap)).run Try.prog w.drew = .ok (bv l).toArray w.drew := by
      refine run_firstCells_some w.drew 1 n ⟨g, 0, none⟩ n cap (bv l) (by rw [hlen]; omega) ?_
      intro j u hu
      have hj : j < n := by rw [← hlen]; exact (List.getElem?_eq_some_iff.1 hu).1
      have hB : Box w.drew g 5 cur.toList := by unfold Box; exact hg
      rw [show (⟨g, 0, none⟩ : Addr).add j = ⟨g, j, none⟩ from by unfold Addr.add; split <;> simp_all, hB.cell j, ← hu, ← htake, List.getElem?_take_of_lt hj]
    have hge := grownCap_ge w (n + k) cap 5
    have hcm2 : grownCap w (n + k) cap 5 ≤ maxLen := grownCap_le_maxLen w (n + k) cap 5 (by unfold maxLen; omega)
    refine ⟨.slice (some ⟨w.heap.size, 0, none⟩) (n + k) (grownCap w (n + k) cap 5), w.drew.alloc (.cells ((bv l).toArray ++ ((bv (zs k)).toArray ++ Builtin.zeroCells (Value.int .u8 0).cells (grownCap w (n + k) cap 5 - (n + k)))) 5), ?_, ?_, ?_⟩
    · simp [Builtin.append_, run_underlying Try.underlying36, run_underlying Try.underlying3, sizeOf, typeInfo, hi, hz0, hz1, hz2, zeroValue, hroom, Addr.add_lit, zerosK', hai, h52, hkn, hkz, hkb, hn63, hfit, Question.forced, holds, newRow, grownCap]
    · refine ⟨by rw [hL, Nat.mul_one], .inr ⟨w.heap.size, _, _, rfl, hbase, heap_alloc_new w.drew _, hge, hcm2, ?_, ?_⟩⟩
      · simp only [Array.size_append, List.size_toArray, size_zeroCells, hlen, bv_length, zs_len]
        simp [Value.cells]
        omega
      · simp only [Array.toList_append, List.toList_toArray]
        rw [Nat.mul_one, ← List.append_assoc, ← bv_append, ← hL]
        exact List.take_left
    · exact ⟨rfl, rfl, rfl, by simp, fun k' hk' _ => heap_alloc_old w.drew _ hk'⟩
set_option maxHeartbeats 1000000 in
theorem run_append_zk_full (k : Nat) (hk0 : 0 < k) (hk : k ≤ 1000) {w : World} {B g n cap : Nat} {l : List UInt8} (ty : TypeId) (hown : w.ownsRow B 5 1 (.slice (some ⟨g, 0, none⟩) n cap) n (bv l)) (hn : n ≤ 1000000) (hbase : B ≤ w.heap.size) (hroom : ¬ n + k ≤ cap) :
    ∃ v' w', (Builtin.append_ #[36, 3] ty #[.slice (some ⟨g, 0, none⟩) n cap, .int .i64 (k : Int)]).run Try.prog w = .ok v' w' ∧ w'.ownsRow B 5 1 v' (n + k) (bv (l ++ (zs k))) ∧ Later w w' := by
  obtain ⟨i0, hi, hz0, hz1, hz2⟩ := info_parts Try.info_u8
  have h52 : IntKind.i64.wrap (k : Int) = k := by rw [IntKind.wrap_i64]; omega
  have hkn : ¬ ((k : Int) < 0) := by omega
  have hkz : ¬ (k = 0) := by omega
  have hkb : ¬ (281474976710656 < (k : Int)) := by omega
  have hai : ∀ w : World, (asInt (.int .i64 (k : Int))).run Try.prog w = .ok (k : Int) w := fun w => rfl
  obtain ⟨hlen, h | ⟨g', cap', cur, e, hbg, hg, hnc, hcm, hcs, htake⟩⟩ := hown
  · obtain ⟨h, _⟩ := h; cases h
  simp at e
  obtain ⟨rfl, rfl⟩ := e
  rw [Nat.mul_one] at hlen hcs htake
  have hL : (bv (l ++ (zs k))).length = n + k := by rw [bv_append, List.length_append, hlen, bv_length, zs_len]
  · have hn63 : ¬ (9223372036854775807 < (n : Int) + k) := by omega
    have hfit : ¬ (281474976710656 < Builtin.nextslicecap (n + k) cap) := by
      have := growslice_fits (need := n + k) (old := cap) (bytes := 1) (by omega) (by omega)
      omega
    have holds : (Builtin.firstCells 1 n (.slice (some ⟨g, 0, none⟩) n cap)).run Try.prog w.drew = .ok (bv l).toArray w.drew := by
      refine run_firstCells_some w.drew 1 n ⟨g, 0, none⟩ n cap (bv l) (by rw [hlen]; omega) ?_
      intro j u hu
      have hj : j < n := by rw [← hlen]; exact (List.getElem?_eq_some_iff.1 hu).1
      have hB : Box w.drew g 5 cur.toList := by unfold Box; exact hg
      rw [show (⟨g, 0, none⟩ : Addr).add j = ⟨g, j, none⟩ from by unfold Addr.add; split <;> simp_all, hB.cell j, ← hu, ← htake, List.getElem?_take_of_lt hj]
    have hge := grownCap_ge w (n + k) cap 5
    have hcm2 : grownCap w (n + k) cap 5 ≤ maxLen := grownCap_le_maxLen w (n + k) cap 5 (by unfold maxLen; omega)
    refine ⟨.slice (some ⟨w.heap.size, 0, none⟩) (n + k) (grownCap w (n + k) cap 5), w.drew.alloc (.cells ((bv l).toArray ++ ((bv (zs k)).toArray ++ Builtin.zeroCells (Value.int .u8 0).cells (grownCap w (n + k) cap 5 - (n + k)))) 5), ?_, ?_, ?_⟩
    · simp [Builtin.append_, run_underlying Try.underlying36, run_underlying Try.underlying3, sizeOf, typeInfo, hi, hz0, hz1, hz2, zeroValue, hroom, Addr.add_lit, zerosK', hai, h52, hkn, hkz, hkb, hn63, hfit, Question.forced, holds, newRow, grownCap]
    · refine ⟨by rw [hL, Nat.mul_one], .inr ⟨w.heap.size, _, _, rfl, hbase, heap_alloc_new w.drew _, hge, hcm2, ?_, ?_⟩⟩
      · simp only [Array.size_append, List.size_toArray, size_zeroCells, hlen, bv_length, zs_len]
        simp [Value.cells]
        omega
      · simp only [Array.toList_append, List.toList_toArray]
        rw [Nat.mul_one, ← List.append_assoc, ← bv_append, ← hL]
        exact List.take_left
    · exact ((Later.refl w).drew).alloc _
end Go.Proofs.Ytbcikndebaeahaa

namespace Go.Proofs.Ytbcikndebaeahaa
open Go.ChangeShapes Go.WideShapes Go.ChangeAt Go.RowKit
set_option linter.unusedVariables false
set_option maxRecDepth 4000
set_option linter.unusedSimpArgs false
/-! 'append(a, s...)', a our own, s a text. -/
theorem owns_slice {w : World} {B n : Nat} {v : Value} {l : List UInt8} (hown : w.ownsRow B 5 1 v n (bv l)) (hp : 0 < n) : ∃ g cap, v = .slice (some ⟨g, 0, none⟩) n cap := by
  obtain ⟨_, h | ⟨g, cap, cur, e, _⟩⟩ := hown
  · obtain ⟨_, h⟩ := h; omega
  · exact ⟨g, cap, e⟩
end Go.Proofs.Ytbcikndebaeahaa

namespace Go.Proofs.Ytbcikndebaeahaa
open Go.ChangeShapes Go.WideShapes Go.ChangeAt Go.RowKit
set_option linter.unusedVariables false
set_option maxRecDepth 4000
set_option linter.unusedSimpArgs false
/-! Bytes that are made in a region that draws. -/
/-- bytes written out: a block of their own, just as long -/
def LitB (b : World) (W : World) (v : Value) (l : List UInt8) : Prop := ∃ g, v = .slice (some ⟨g, 0, none⟩) l.length l.length ∧ Box W g 5 (bv l) ∧ b.heap.size ≤ g
theorem LitB.later {b W W' : World} {v : Value} {l : List UInt8} (h : LitB b W v l) (hl : Later W W') : LitB b W' v l := by
  obtain ⟨g, e, h1, h2⟩ := h
  exact ⟨g, e, h1.later hl, h2⟩
theorem LitB.set {b W : World} {v : Value} {l : List UInt8} (h : LitB b W v l) {g : Nat} {t : TypeId} {cs : List Value} (ht : t ≠ 5) (hB : Box W g t cs) (vs : List Value) (o : Nat) : LitB b (W.setCells g o vs) v l := by
  obtain ⟨k, e, h1, h2⟩ := h
  exact ⟨k, e, h1.kept (heap_setCells_other W g k (box_ne h1 hB (fun e => ht e.symm)) _ _), h2⟩
theorem LitB.owns {b W : World} {v : Value} {l : List UInt8} (h : LitB b W v l) (hl : l.length ≤ 1000000) : W.ownsRow b.heap.size 5 1 v l.length (bv l) := by
  obtain ⟨g, rfl, h1, h2⟩ := h
  exact owns_box h1 rfl hl h2
theorem LitB.bs {b W : World} {v : Value} {l : List UInt8} (h : LitB b W v l) (hl : l.length ≤ 1000000) : Bs W v l := (Bs.of_owns (h.owns hl)).1
theorem owns_set8 {W : World} {B n : Nat} {v : Value} {xs : List Value} (h : W.ownsRow B 5 1 v n xs) {g : Nat} {t : TypeId} {cs : List Value} (ht : t ≠ 5) (hB : Box W g t cs) (vs : List Value) (o : Nat) : (W.setCells g o vs).ownsRow B 5 1 v n xs := by
  refine owns_kept h fun k hk => ?_
  refine heap_setCells_other W g k (fun e => ?_) _ _
  subst e
  obtain ⟨_, h | ⟨g', cap, cur, rfl, hb, hg, _⟩⟩ := h
  · rw [h.1] at hk; cases hk
  · have : g' = k := by cases hk; rfl
    subst this
    unfold Box at hB
    rw [hg] at hB
    simp at hB
    exact ht hB.2.symm
/-- in a bag: bytes written out -/
theorem lVal_litB {ops : Array Oper} {i : Nat} {R : Value → World → Prop} {a : Act} {w : World} {d : Option Tmp} (n : Nat) (parts : Array (Nat × Operand)) (h : OpAt ops i d (.buildSlice 36 n parts)) (l : List UInt8) (b : World) (hb : b.heap.size ≤ w.heap.size) (hl : l.length = n)
    (hrun : ∀ o : Oper, o.op = .buildSlice 36 n parts → (execOp a.eval o).run Try.prog w = .ok (.value (.slice (some ⟨w.heap.size, 0, none⟩) n n)) (w.alloc (.cells (bv l).toArray 5))) (hR : ∀ v W, LitB b W v l → R v W) : lVal Try.prog ops i R a w := by
  obtain ⟨o, h1, h2, h3, h4⟩ := h
  subst hl
  exact lVal_of_run h1 h2 _ _ (hrun o h4) ((Later.refl w).alloc _) (hR _ _ ⟨w.heap.size, rfl, by have := Box.new w 5 (bv l).toArray; simpa using this, hb⟩)
/-- in a bag: bytes that are made -/
theorem lVal_makeB {ops : Array Oper} {i : Nat} {R : Value → World → Prop} {a : Act} {w : World} {d : Option Tmp} (l c : Operand) (h : OpAt ops i d (.makeSlice 36 l c)) (n : Nat) (hl : a.eval l = .int .i64 (n : Int)) (hc : a.eval c = .int .i64 (n : Int)) (hn : n ≤ 100000) (b : World) (hb : b.heap.size ≤ w.heap.size)
    (hR : ∀ v W, LitB b W v (List.replicate n 0) → R v W) : lVal Try.prog ops i R a w := by
  obtain ⟨o, h1, h2, h3, h4⟩ := h
  have hrun := run_make_row' (P := Try.prog) 36 5 (.int .u8 0) 1 Try.underlying36 Try.info_u8 rfl .i64 .i64 n (by omega) (by omega) w
  refine lVal_of_run h1 h2 (.slice (some ⟨w.heap.size, 0, none⟩) n n) _ ?_ ((Later.refl w).alloc _) (hR _ _ ⟨w.heap.size, by simp, Box.new' _ _ _ _ (made_zero n) _ rfl, hb⟩)
  simp [execOp, h4, hl, hc, hrun, Result.andThen]
/-- in a bag: 'append(a, make([]byte, k)...)', a written out -/
theorem lVal_zerosB {ops : Array Oper} {i : Nat} {R : Value → World → Prop} {a : Act} {w : World} {d : Option Tmp} (k : Nat) (hk0 : 0 < k) (hk9 : k ≤ 1000) (s : Operand) (h : OpAt ops i d (.call { callee := .builtin .append, args := #[s, .const (.int .i64 (k : Int))], argTypes := #[36, 3] })) (b : World) (hb : b.heap.size ≤ w.heap.size)
    (l : List UInt8) (v : Value) (hs : a.eval s = v) (hv : LitB b w v l) (hl : l.length ≤ 1000) (hR : ∀ v W, Bs W v (l ++ zs k) → R v W) : lVal Try.prog ops i R a w := by
  obtain ⟨o, h1, h2, h3, h4⟩ := h
  have hown := hv.owns (by omega)
  obtain ⟨g, e, hB, hg⟩ := hv
  subst e
  obtain ⟨v', w', hrun, q1, q2⟩ := run_append_zk_full k hk0 hk9 o.type hown (by omega) hb (by omega)
  refine lVal_of_run h1 h2 v' w' ?_ q2 (hR _ _ (Bs.of_owns q1).1)
  have hc : a.eval (.const (.int .i64 (k : Int))) = .int .i64 (k : Int) := rfl
  simp [execOp, h4, resolve, invoke, builtin, hs, hc, hrun, Result.andThen]
theorem box_size_ne {w : World} {g k : Nat} {t t' : TypeId} {xs ys : List Value} (h : Box w g t xs) (h' : Box w k t' ys) (hne : xs.length ≠ ys.length) : g ≠ k := by
  intro e
  subst e
  unfold Box at h h'
  rw [h] at h'
  simp at h'
  exact hne (congrArg List.length h'.1)
set_option maxHeartbeats 1000000 in
/-- 'append(a, b...)', a our own, b written out: it goes into a's room, or into new memory -/
theorem run_append_keep {w : World} {B g n cap gu : Nat} {l m : List UInt8} (ty : TypeId) (hown : w.ownsRow B 5 1 (.slice (some ⟨g, 0, none⟩) n cap) n (bv l)) (hu : Box w gu 5 (bv m)) (hn : n + m.length ≤ 1000000) (hbase : B ≤ w.heap.size) :
    ∃ v' w', (Builtin.append_ #[36, 36] ty #[.slice (some ⟨g, 0, none⟩) n cap, .slice (some ⟨gu, 0, none⟩) m.length m.length]).run Try.prog w = .ok v' w' ∧ w'.ownsRow B 5 1 v' (n + m.length) (bv (l ++ m)) ∧
      (Later w w' ∨ (w' = w.setCells g n (bv m) ∧ n + m.length ≤ cap ∧ (∃ cur : List Value, Box w g 5 cur ∧ cur.length = cap ∧ cur.take n = bv l) ∧ B ≤ g ∧ cap ≤ maxLen)) := by
  obtain ⟨i0, hi, hz0, hz1, hz2⟩ := info_parts Try.info_u8
  have hsrc : Src Try.prog i0.size 36 (.slice (some ⟨gu, 0, none⟩) m.length m.length) m.length (bv m) w := by
    refine Src.ofSlice (size := i0.size) w Try.underlying36 ⟨gu, 0, none⟩ m.length m.length (bv m) (by rw [hz1, bv_length, Nat.mul_one]) (fun j u hj => ?_) (bv_one m)
    rw [show (⟨gu, 0, none⟩ : Addr).add j = ⟨gu, j, none⟩ from by unfold Addr.add; split <;> simp_all, hu.cell j]
    exact hj
  obtain ⟨hlen, h | ⟨g', cap', cur, e, hbg, hg, hnc, hcm, hcs, htake⟩⟩ := hown
  · obtain ⟨h, _⟩ := h; cases h
  simp at e
  obtain ⟨rfl, rfl⟩ := e
  rw [Nat.mul_one] at hlen hcs htake
  have hL : (bv (l ++ m)).length = n + m.length := by rw [bv_append, List.length_append, hlen, bv_length]
  have hB : Box w g 5 cur.toList := by unfold Box; rw [hg]
  by_cases hroom : n + m.length ≤ cap
  · have hrun := run_append_room_src (P := Try.prog) w 36 36 ty 5 i0 Try.underlying36 hi g 0 n cap (.slice (some ⟨gu, 0, none⟩) m.length m.length) m.length (bv m) hsrc hroom (fun j hj => by rw [hz1, hB.cell]; rw [bv_length] at hj; simp; omega) (fun j hj => hB.frozen _)
    rw [hz1, Nat.mul_one, Nat.zero_add] at hrun
    have hB2 := hB.setCells (bv m) n (by rw [bv_length]; simp; omega)
    refine ⟨.slice (some ⟨g, 0, none⟩) (n + m.length) cap, w.setCells g n (bv m), hrun, ?_, .inr ⟨rfl, hroom, ⟨cur.toList, hB, by simp [hcs], htake⟩, hbg, hcm⟩⟩
    refine ⟨by rw [hL, Nat.mul_one], .inr ⟨g, cap, _, rfl, hbg, hB2, hroom, hcm, ?_, ?_⟩⟩
    · simp [bv_length]; omega
    · rw [Nat.mul_one, htake, ← bv_append, ← hL]
      exact List.take_left
  · have hfit : Builtin.nextslicecap (n + m.length) cap * i0.bytes ≤ 281474976710656 := by
      rw [hz2]
      have := growslice_fits (need := n + m.length) (old := cap) (bytes := 1) (by omega) (by omega)
      omega
    have holds : (Builtin.firstCells i0.size n (.slice (some ⟨g, 0, none⟩) n cap)).run Try.prog w.drew = .ok (bv l).toArray w.drew := by
      rw [hz1]
      refine run_firstCells_some w.drew 1 n ⟨g, 0, none⟩ n cap (bv l) (by rw [hlen]; omega) ?_
      intro j u hu
      have hj : j < n := by rw [← hlen]; exact (List.getElem?_eq_some_iff.1 hu).1
      have hB : Box w.drew g 5 cur.toList := by unfold Box; exact hg
      rw [show (⟨g, 0, none⟩ : Addr).add j = ⟨g, j, none⟩ from by unfold Addr.add; split <;> simp_all, hB.cell j, ← hu, ← htake, List.getElem?_take_of_lt hj]
    have hrun := run_append_grow_src (P := Try.prog) w 36 36 ty 5 i0 (.int .u8 0) Try.underlying36 hi hz0 (some ⟨g, 0, none⟩) n cap (bv l) holds (.slice (some ⟨gu, 0, none⟩) m.length m.length) m.length (bv m) hsrc (by omega) (by omega) hfit
    have hge := grownCap_ge w (n + m.length) cap 5
    have hcm2 : grownCap w (n + m.length) cap 5 ≤ maxLen := grownCap_le_maxLen w (n + m.length) cap 5 (by unfold maxLen; omega)
    refine ⟨_, _, hrun, ?_, .inl (((Later.refl w).drew).alloc _)⟩
    refine ⟨by rw [hL, Nat.mul_one], .inr ⟨w.heap.size, _, _, rfl, hbase, heap_alloc_new w.drew _, hge, hcm2, ?_, ?_⟩⟩
    · simp only [Array.size_append, List.size_toArray, size_zeroCells, List.length_append, hlen, bv_length]
      simp [Value.cells]
      omega
    · simp only [Array.toList_append, List.toList_toArray]
      rw [Nat.mul_one, ← bv_append, ← hL]
      exact List.take_left
/-- in a bag: 'append(a, b...)', a our own, b written out -/
theorem sVal_appB {ops : Array Oper} {i : Nat} {a : Act} {w b : World} {d : Option Tmp} (s x : Operand) (h : OpAt ops i d (.call { callee := .builtin .append, args := #[s, x], argTypes := #[36, 36] })) (hL : Later b w)
    (v2 v5 v6 : Value) (l m : List UInt8) (hs : a.eval s = v5) (hx : a.eval x = v6) (h2 : LitB b w v2 []) (h5 : w.ownsRow b.heap.size 5 1 v5 l.length (bv l)) (h6 : LitB b w v6 m) (hl : 0 < l.length) (hm : l.length + m.length ≤ 1000000) (hm0 : 0 < m.length) :
    sVal Try.prog ops i (fun v W' => Later b W' ∧ Bs W' v (l ++ m) ∧ Keep8 w W' ∧ LitB b W' v2 [] ∧ W'.ownsRow b.heap.size 5 1 v5 l.length (bv l) ∧ LitB b W' v6 m) a w := by
  obtain ⟨o, q1, q2, q3, q4⟩ := h
  obtain ⟨g, cap, rfl⟩ := owns_slice h5 hl
  obtain ⟨g6, rfl, hB6, hg6⟩ := h6
  obtain ⟨v', w', hrun, ho, hc⟩ := run_append_keep o.type h5 hB6 hm hL.size
  refine sVal_of_run q1 q2 v' w' (by simp [execOp, q4, resolve, invoke, builtin, hs, hx, hrun, Result.andThen]) ?_
  have hbs := (Bs.of_owns ho).1
  rcases hc with hc | ⟨rfl, hroom, ⟨cur, hB, hcl, htk⟩, hbg, hcm⟩
  · exact ⟨hL.trans hc, hbs, fun g t cs _ hB => hB.later hc, h2.later hc, owns_later h5 hc, ⟨g6, rfl, hB6.later hc, hg6⟩⟩
  · obtain ⟨g2, rfl, hB2, hg2⟩ := h2
    refine ⟨hL.setCells hbg _ _, hbs, fun k t cs ht hk => hk.kept (heap_setCells_other w g k (box_ne hk hB ht) _ _), ⟨g2, rfl, hB2.kept (heap_setCells_other w g g2 (box_size_ne hB2 hB (by simp [bv]; omega)) _ _), hg2⟩, ?_, ⟨g6, rfl, hB6.kept (heap_setCells_other w g g6 (box_size_ne hB6 hB (by rw [bv_length]; omega)) _ _), hg6⟩⟩
    have hB3 := hB.setCells (bv m) l.length (by rw [bv_length]; omega)
    refine ⟨by rw [bv_length, Nat.mul_one], .inr ⟨g, cap, _, rfl, hbg, hB3, by omega, hcm, ?_, ?_⟩⟩
    · simp [bv_length]; omega
    · rw [Nat.mul_one, htk]
      simp only [List.toList_toArray, List.append_assoc]
      rw [← bv_length l]
      exact List.take_left
end Go.Proofs.Ytbcikndebaeahaa

namespace Go.Proofs.Ytbcikndebaeahaa
open Go.ChangeShapes Go.WideShapes Go.ChangeAt Go.RowKit
set_option linter.unusedVariables false
set_option maxRecDepth 4000
set_option linter.unusedSimpArgs false
/-! The fixed fact of layer 10: what it stands on. -/
def z192 : List UInt8 := List.replicate 192 0
set_option maxHeartbeats 1000000 in
theorem unit10_c (w : World) : Calls Try.prog 23 #[] w fun e w' => ∃ v, e = .returned v ∧ Later w w' ∧ Un w' v 3 z192 [] true false false true none 0 0 (0, 0, 0) := by
  have BX : Hid (Box (w.alloc (.cells #[.slice none 0 0, .slice none 0 0, .bool false, .bool false, .bool false, .bool false, .slice none 0 0, .int .i64 0, .int .i64 0, .int .i64 0] 32)) w.heap.size 32 (uc none 0 0 none 0 0 false false false false none 0 0 (0, 0, 0))) := Box.new w 32 #[.slice none 0 0, .slice none 0 0, .bool false, .bool false, .bool false, .bool false, .slice none 0 0, .int .i64 0, .int .i64 0, .int .i64 0]
  have LL := hide ((Later.refl w).alloc (.cells #[.slice none 0 0, .slice none 0 0, .bool false, .bool false, .bool false, .bool false, .slice none 0 0, .int .i64 0, .int .i64 0, .int .i64 0] 32))
  go_enter Try.func23, Try.ntmps23
  go_wp2_with (at_make; refine wpList_make_of Try.elem_z64 rfl _ _ 22 rfl Try.underlying22 _ _ 3 rfl rfl rfl rfl (by decide) (by decide) (bv z192) (made64 3) ?_)
  intro w2 hown hl
  replace BX := hide (BX.out.later hl)
  replace LL := hide (LL.out.trans hl)
  have HM : Hid (Med w2 (.agg #[.slice (some ⟨w.heap.size + 1, 0, none⟩) 3 3, .slice none 0 0]) 3 z192 []) :=
    ⟨_, _, rfl, Rw.of_owns hown, Rw.nil 65 _, fun d hd => by cases hd⟩
  clear hown hl
  go_wp2_with (refine wpList_storeU rfl 32 (.tmp 0) (.tmp 4) rfl w.heap.size 0 rfl (uc (some ⟨w.heap.size + 1, 0, none⟩) 3 3 none 0 0 true false false true none 0 0 (0, 0, 0)) rfl Try.info_unit (uc_one _ _ _ _ _ _ _ _ _ _ _ _ _ _) _ _ BX.out (by simp) ?_)
  intro wz hz
  have BZ := BX.out.all (uc (some ⟨w.heap.size + 1, 0, none⟩) 3 3 none 0 0 true false false true none 0 0 (0, 0, 0)) rfl
  have LZ := LL.out.setCells (g := w.heap.size) (Nat.le_refl _) (uc (some ⟨w.heap.size + 1, 0, none⟩) 3 3 none 0 0 true false false true none 0 0 (0, 0, 0)) 0
  have MZ := HM.out.setNoB BX.out (uc_nob _ _ _ _ _ _ _ _ _ _ _ _ _ _) (uc (some ⟨w.heap.size + 1, 0, none⟩) 3 3 none 0 0 true false false true none 0 0 (0, 0, 0)) 0
  rw [← hz.out] at BZ LZ MZ
  go_wp2
  refine bodyPost_ret (results_cell1 rfl _ _ _ w.heap.size 0 rfl _ (load_unit BZ rfl)) rfl ⟨_, rfl, LZ, ⟨_, _, _, _, _, rfl, MZ⟩⟩
def bA : List UInt8 := ((List.replicate 128 0).set 3 7).set 70 8
def bB : List UInt8 := bA.drop 100 ++ [1, 2]
def cW : Cmd := (42, 1, 2, 0, 0)
def cV : Cmd := (47, 1, 2, 0, 1)
def cM : Cmd := (21, 0, 24, 0, 0)
def mM : List UInt8 := [0, 0, 0, 0, 8, 18] ++ List.replicate 18 0
def tA : (List UInt8 × List Drt × Sns) × Int × List UInt8 := tkR 3 z192 [] true false true cW 128 0 [] (0, 0, 0) (bA.take 100)
def tB : (List UInt8 × List Drt × Sns) × Int × List UInt8 := tkR 3 z192 [] true false true cW 128 0 [] (0, 0, 0) (bA.take 100 ++ bB)
def tC : (List UInt8 × List Drt × Sns) × Int × List UInt8 := tkR 3 (swF true false 3 z192 []) (swD true false 3 []) true true false cW 128 0 [] (0, 0, 0) bA
def tD : (List UInt8 × List Drt × Sns) × Int × List UInt8 := tkR 3 tB.1.1 tB.1.2.1 true false true cV 128 0 [] (0, 0, 0) (List.replicate 64 0)
def tE : (List UInt8 × List Drt × Sns) × Int × List UInt8 := tkR 3 tB.1.1 tB.1.2.1 true false true cM 24 0 [] (0, 0, 0) mM
theorem start_w : startC cW = cW ∧ startN cW = 128 ∧ startB cW = true := by decide +kernel
theorem start_v : startC cV = cV ∧ startN cV = 128 ∧ startB cV = true := by decide +kernel
theorem start_m : startC cM = cM ∧ startN cM = 24 ∧ startB cM = true := by decide +kernel
theorem start_no : startB (47, 1, 2, 0, 0) = false ∧ startB (42, 0, 0, 0, 0) = false := by decide +kernel
theorem tA_f : tA.1.2.2 = (0, 0, 0) ∧ tA.2.1 = 100 ∧ tA.2.2.length = 36 ∧ tA.1.2.1.length = 1 := by decide +kernel
theorem tB_f : tB.1.2.2 = (0, 0, 0) ∧ tB.2.1 = 128 ∧ tB.2.2.length = 0 ∧ tB.1.2.1.length = 2 := by decide +kernel
theorem tC_f : tC.1.2.2 = (7, 39, 0) := by decide +kernel
theorem tD_f : tD.1.2.2 = (14, 29, 0) := by decide +kernel
theorem tE_f : tE.1.2.2 = (0, 0, 0) ∧ tE.2.1 = 24 ∧ tE.2.2 = mM := by decide +kernel
theorem fA_f : finR true cW 128 100 tA.2.2 (0, 0, 0) = (true, (5, 26, 0)) := by decide +kernel
theorem fB_f : finR true cW 128 128 tB.2.2 (0, 0, 0) = (true, (0, 0, 0)) := by decide +kernel
theorem fE_f : finR true cM 24 24 mM (0, 0, 0) = (false, (0, 0, 0)) := by decide +kernel
theorem tB_t : tkR 3 tA.1.1 tA.1.2.1 true false true cW 128 tA.2.1 tA.2.2 tA.1.2.2 bB = tB := take_take 3 z192 [] true false true cW 128 0 [] (0, 0, 0) (bA.take 100) bB
end Go.Proofs.Ytbcikndebaeahaa
