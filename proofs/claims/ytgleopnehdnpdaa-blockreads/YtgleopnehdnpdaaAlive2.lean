import Derived.Test.YtgleopnehdnpdaaL2A
namespace Go.Proofs.Ytgleopnehdnpdaa
open Go.ChangeShapes Go.WideShapes Go.ChangeAt Go.RowKit
set_option linter.unusedVariables false
set_option linter.unusedSimpArgs false

def aF : List UInt8 := List.replicate 192 7
def aZ : List UInt8 := List.replicate 64 0
def aB : List UInt8 := aZ.set 5 9
def aM : List UInt8 := writeL 3 aF 1 aB
def aC : List UInt8 := readL 3 aM 1 2

theorem Rw.at_cells {sz : Nat} {w : World} {v : Value} {n : Nat} {xs : List Value} (h : Rw sz w v n xs) (hn : 0 < n) : ∃ b off cap, v = .slice (some ⟨b, off, none⟩) n cap ∧ w.rangeAt b off xs := by
  obtain ⟨_, _, a, cap, rfl, _, h⟩ := h
  rcases h with h | ⟨b, off, rfl, h⟩
  · omega
  · exact ⟨b, off, cap, rfl, h⟩

theorem make_a (w : World) : Calls Try.prog 20 #[.int .i64 3, .int .u8 7] w fun e w' => ∃ v, e = .returned (.tuple #[v, .int .i64 0]) ∧ Later w w' ∧ Rw 64 w' v 3 (bv aF) := by
  have := bmake_c 3 7 w (by omega) (by omega)
  rwa [show makeE 3 = 0 from by decide +kernel, show makeN 3 = 3 from by decide +kernel] at this
theorem write_a {v vb : Value} (w : World) (h : Rw 64 w v 3 (bv aF)) (hb : Bs w vb aB) : Calls Try.prog 14 #[v, .int .u64 1, vb] w fun e w' => ∃ v', e = .returned (.tuple #[v', .int .i64 0]) ∧ Later w w' ∧ Rw 64 w' v' 3 (bv aM) := by
  have := bwrite_c 1 w h hb (by omega) (by decide +kernel)
  rwa [show writeE 3 1 aB.length = 0 from by decide +kernel, show writeN 3 1 aB.length = 3 from by decide +kernel] at this
theorem read_a {v : Value} (w : World) (h : Rw 64 w v 3 (bv aM)) : Calls Try.prog 9 #[v, .int .u64 1, .int .i64 2] w fun e w' => ∃ v', e = .returned (.tuple #[v', .int .i64 0]) ∧ Later w w' ∧ Bs w' v' aC := by
  have := bread_c 1 2 w h (by omega) (by omega) (by omega)
  rwa [show readE 3 1 2 = 0 from by decide +kernel] at this
theorem read_x {v : Value} (w : World) (h : Rw 64 w v 3 (bv aM)) : Calls Try.prog 9 #[v, .int .u64 2, .int .i64 2] w fun e w' => ∃ v', e = .returned (.tuple #[v', .int .i64 5]) ∧ Later w w' := by
  have := bread_c 2 2 w h (by omega) (by omega) (by omega)
  rw [show readE 3 2 2 = 5 from by decide +kernel] at this
  exact this.mono fun e w' ⟨v', he, hl, _⟩ => ⟨v', he, hl⟩
theorem write_x {v vb : Value} (w : World) (h : Rw 64 w v 3 (bv aF)) (hb : Bs w vb (aB.take 63)) : Calls Try.prog 14 #[v, .int .u64 0, vb] w fun e w' => ∃ v', e = .returned (.tuple #[v', .int .i64 3]) ∧ Later w w' := by
  have := bwrite_c 0 w h hb (by omega) (by decide +kernel)
  rw [show writeE 3 0 (aB.take 63).length = 3 from by decide +kernel] at this
  exact this.mono fun e w' ⟨v', he, hl, _⟩ => ⟨v', he, hl⟩
theorem split_a {v : Value} (w : World) (h : Bs w v (aB ++ [1, 2])) : Calls Try.prog 16 #[v] w fun e w' => ∃ v1 v2, e = .returned (.tuple #[v1, v2]) ∧ Later w w' ∧ Rw 64 w' v1 1 (bv aB) ∧ (convert 25 9 v2).run Try.prog w' = .ok (.string ⟨#[1, 2]⟩) w' := by
  have := bsplit_c w h (by decide +kernel)
  rw [show (aB ++ ([1, 2] : List UInt8)).length / 64 = 1 from by decide +kernel, show (aB ++ ([1, 2] : List UInt8)).take (1 * 64) = aB from by decide +kernel, show (aB ++ ([1, 2] : List UInt8)).drop (1 * 64) = [1, 2] from by decide +kernel] at this
  exact this.mono fun e w' ⟨v1, v2, he, hl, h1, h2⟩ => ⟨v1, v2, he, hl, h1, h2.str⟩
theorem within_0 (w : World) : Calls Try.prog 11 #[.int .i64 3, .int .u64 3, .int .i64 0] w fun e w' => e = .returned (.bool true) ∧ Later w w' := by
  have := bwithin_c 3 3 0 w (by omega) (by omega) (by omega) (by omega) (by omega)
  rwa [show withinB 3 3 0 = true from by decide +kernel] at this
theorem within_1 (w : World) : Calls Try.prog 11 #[.int .i64 3, .int .u64 3, .int .i64 1] w fun e w' => e = .returned (.bool false) ∧ Later w w' := by
  have := bwithin_c 3 3 1 w (by omega) (by omega) (by omega) (by omega) (by omega)
  rwa [show withinB 3 3 1 = false from by decide +kernel] at this
theorem same_0 {va vb : Value} (w : World) (ha : Rw 64 w va 3 (bv aF)) (hb : Rw 64 w vb 3 (bv aF)) : Calls Try.prog 18 #[va, vb] w fun e w' => e = .returned (.bool true) ∧ Later w w' := by
  have := bsame_c w ha hb
  rwa [show (aF == aF) = true from by decide +kernel] at this
theorem same_1 {va vb : Value} (w : World) (ha : Rw 64 w va 3 (bv aF)) (hb : Rw 64 w vb 3 (bv aM)) : Calls Try.prog 18 #[va, vb] w fun e w' => e = .returned (.bool false) ∧ Later w w' := by
  have := bsame_c w ha hb
  rwa [show (aF == aM) = false from by decide +kernel] at this
theorem at_F (j : Nat) (x : UInt8) (l : List UInt8) (h : l[j]? = some x) {w : World} {b off : Nat} (hr : w.rangeAt b off (bv l)) : w.cell? ⟨b, off + j, none⟩ = some (.int .u8 (x.toNat : Int)) := by
  refine hr j _ ?_
  rw [bv_get, h]; rfl
theorem zeros64b : (madeCells (Value.int .u8 0).cells (64 * 1)).toList = bv aZ := by
  rw [aZ, bv_replicate]; exact madeCells_rep (.int .u8 0) 1 64 (by decide)

theorem Bs.cut {w : World} {a : Addr} {n cap : Nat} {l : List UInt8} (h : Bs w (.slice (some a) n cap) l) (k : Nat) (hk : k ≤ n) : Bs w (.slice (some a) k cap) (l.take k) := by
  obtain ⟨hm, a', cap', e, hc, h⟩ := h
  simp only [Value.slice.injEq] at e
  obtain ⟨rfl, rfl, rfl⟩ := e
  have hl : (l.take k).length = k := by simp; omega
  refine ⟨by omega, some a, cap, by rw [hl], by omega, ?_⟩
  rcases h with rfl | ⟨b, off, ha, hc⟩
  · left; simp
  · refine .inr ⟨b, off, ha, fun j hj => ?_⟩
    rw [hl] at hj
    rw [hc j (by omega)]
    simp

theorem Bs.two (w : World) (t : TypeId) : Rw 1 (w.alloc (.cells #[.int .u8 1, .int .u8 2] t)) (.slice (some ⟨w.heap.size, 0, none⟩) 2 2) 2 (bv [1, 2]) := by
  refine ⟨rfl, by simp [maxLen], _, 2, rfl, Nat.le_refl _, .inr ⟨w.heap.size, 0, rfl, ?_⟩⟩
  exact (Box.new w t #[.int .u8 1, .int .u8 2]).range

set_option maxHeartbeats 2000000 in
theorem alive_c (w : World) : Calls Try.prog 8 #[] w fun e w' => e = .returned (.bool true) ∧ Later w w' := by
  go_enter Try.func8, Try.ntmps8
  go_wp2_with fail
  refine (make_a w).mono ?_
  rintro e w1 ⟨v1, rfl, hl1, hb1⟩
  have L1 := hide hl1
  have F1 := hide hb1
  clear hl1 hb1
  go_wp2_with (at_make; refine wpList_make_of Try.elem_u8 rfl _ _ 25 rfl Try.underlying25 _ _ 64 rfl rfl rfl rfl ?c1 ?c2 _ zeros64b ?_)
  case c1 => decide
  case c2 => decide
  intro w2 ho hl2
  have hcell : w2.cell? ⟨w1.heap.size, 5, none⟩ = some (.int .u8 0) := by rw [ho.cellAt 5 (by decide)]; rfl
  have hfz := ho.frozenAt 5
  have ho3 := (ho.stored 5 (.int .u8 9)).1
  have B3 : Hid (Bs (w2.setCell ⟨w1.heap.size, 5, none⟩ (.int .u8 9)) (.slice (some ⟨w1.heap.size, 0, none⟩) 64 64) aB) := by
    have e : (bv aZ).set 5 (.int .u8 9) = bv aB := by rw [aB, bv_set]; rfl
    rw [e] at ho3
    exact (Bs.of_owns ho3).1
  have Z := hide (hl2.setCell (a := ⟨w1.heap.size, 5, none⟩) (Nat.le_refl _) (.int .u8 9))
  have L3 := hide (L1.out.trans Z.out)
  have F3 := hide (F1.out.later Z.out)
  clear ho hl2 ho3 L1 F1 Z
  go_wp2_with fail
  refine (write_a _ F3.out B3.out).mono ?_
  clear hcell hfz
  rintro e w4 ⟨v4, rfl, hl4, hb4⟩
  have L4 := hide (L3.out.trans hl4)
  have F4 := hide (F3.out.later hl4)
  have B4 := hide (B3.out.below hl4 (Nat.le_refl _))
  have M4 := hide hb4
  clear hl4 hb4 L3 F3 B3
  go_wp2_with fail
  refine (read_a _ M4.out).mono ?_
  rintro e w5 ⟨v5, rfl, hl5, hb5⟩
  have L5 := hide (L4.out.trans hl5)
  have F5 := hide (F4.out.later hl5)
  have B5 := hide (B4.out.below hl5 (Nat.le_refl _))
  have M5 := hide (M4.out.later hl5)
  have C5 := hide hb5
  clear hl5 hb5 L4 F4 B4 M4
  go_wp2_with fail
  refine (read_x _ M5.out).mono ?_
  rintro e w6 ⟨v6, rfl, hl6⟩
  have L6 := hide (L5.out.trans hl6)
  have F6 := hide (F5.out.later hl6)
  have B6 := hide (B5.out.below hl6 (Nat.le_refl _))
  have M6 := hide (M5.out.later hl6)
  have C6 := hide (C5.out.below hl6 (Nat.le_refl _))
  clear hl6 L5 F5 B5 M5 C5
  go_wp2_with fail
  refine (write_x _ F6.out (B6.out.cut 63 (by omega))).mono ?_
  rintro e w7 ⟨v7, rfl, hl7⟩
  have L7 := hide (L6.out.trans hl7)
  have F7 := hide (F6.out.later hl7)
  have B7 := hide (B6.out.below hl7 (Nat.le_refl _))
  have M7 := hide (M6.out.later hl7)
  have C7 := hide (C6.out.below hl7 (Nat.le_refl _))
  clear hl7 L6 F6 B6 M6 C6
  go_wp2_with (at_builtin; refine wpList_append_full Try.elem_u8 Try.underlying25 rfl (by decide) rfl _ _ rfl ⟨w1.heap.size, 0, none⟩ 64 64 (bv aB) rfl (B7.out.rw.later ((Later.refl w7).alloc _)) ⟨w7.heap.size, 0, none⟩ 2 2 (bv [1, 2]) rfl (Bs.two w7 _) (bv_one _) ?d0 ?d1 ?d2 ?_)
  case d0 => omega
  case d1 => decide
  case d2 => omega
  intro v8 w8 ho8 hl8
  have hl8' := ((Later.refl w7).alloc (.cells #[.int .u8 1, .int .u8 2] 5)).trans hl8
  have L8 := hide (L7.out.trans hl8')
  have F8 := hide (F7.out.later hl8')
  have M8 := hide (M7.out.later hl8')
  have C8 := hide (C7.out.below hl8' (Nat.le_refl _))
  have S8 : Hid (Bs w8 v8 (aB ++ [1, 2])) := (Bs.of_owns (by rw [bv_append]; exact ho8)).1
  clear ho8 hl8 hl8' L7 F7 B7 M7 C7
  go_wp2_with fail
  refine (split_a _ S8.out).mono ?_
  rintro e w9 ⟨v9, r9, rfl, hl9, hb9, hs9⟩
  have L9 := hide (L8.out.trans hl9)
  have F9 := hide (F8.out.later hl9)
  have M9 := hide (M8.out.later hl9)
  have C9 := hide (C8.out.below hl9 (Nat.le_refl _))
  obtain ⟨b1, o1, k1, rfl, R1⟩ := F9.out.at_cells (by omega)
  obtain ⟨b4, o4, k4, rfl, R4⟩ := M9.out.at_cells (by omega)
  obtain ⟨b9, o9, k9, rfl, R9⟩ := hb9.at_cells (by omega)
  obtain ⟨b5, o5, k5, rfl, R5⟩ := (show Rw 1 w9 v5 128 (bv aC) from by have := C9.out.rw; rwa [show aC.length = 128 from by decide +kernel] at this).at_cells (by omega)
  have q1 := at_F 69 7 aF (by decide +kernel) R1
  have q2 := at_F 69 9 aM (by decide +kernel) R4
  have q3 := at_F 70 0 aM (by decide +kernel) R4
  have q4 := at_F 5 9 aC (by decide +kernel) R5
  have q5 := at_F 64 7 aC (by decide +kernel) R5
  have q6 := at_F 5 9 aB (by decide +kernel) R9
  clear hl9 hb9 R1 R4 R9 R5 L8 F8 M8 C8 C9 S8
  go_wp2_with fail
  refine (within_0 _).mono ?_
  clear q1 q2 q3 q4 q5 q6 hs9
  rintro e wa ⟨rfl, hla⟩
  have La := hide (L9.out.trans hla)
  have Fa := hide (F9.out.later hla)
  have Ma := hide (M9.out.later hla)
  clear hla L9 F9 M9
  go_wp2_with fail
  refine (within_1 _).mono ?_
  rintro e wb ⟨rfl, hlb⟩
  have Lb := hide (La.out.trans hlb)
  have Fb := hide (Fa.out.later hlb)
  have Mb := hide (Ma.out.later hlb)
  clear hlb La Fa Ma
  go_wp2_with fail
  refine (same_0 _ Fb.out Fb.out).mono ?_
  rintro e wc ⟨rfl, hlc⟩
  have Lc := hide (Lb.out.trans hlc)
  have Fc := hide (Fb.out.later hlc)
  have Mc := hide (Mb.out.later hlc)
  clear hlc Lb Fb Mb
  go_wp2_with fail
  refine (same_1 _ Fc.out Mc.out).mono ?_
  rintro e wd ⟨rfl, hld⟩
  have Ld := hide (Lc.out.trans hld)
  clear hld Lc Fc Mc
  go_wp2_with fail
  go_ret
  exact ⟨rfl, Ld.out⟩
end Go.Proofs.Ytgleopnehdnpdaa
