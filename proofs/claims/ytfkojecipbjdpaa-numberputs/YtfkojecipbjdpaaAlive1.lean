import Derived.Test.YtfkojecipbjdpaaNumE
namespace Go.Proofs.Ytfkojecipbjdpaa
open Go.ChangeShapes Go.WideShapes Go.ChangeAt Go.RowKit
set_option linter.unusedVariables false
set_option linter.unusedSimpArgs false

def fiveL : List UInt8 := [9, 0, 0, 1, 2]
theorem Bs.five (w : World) (t : TypeId) : Bs (w.alloc (.cells #[.int .u8 9, .int .u8 0, .int .u8 0, .int .u8 1, .int .u8 2] t)) (.slice (some ⟨w.heap.size, 0, none⟩) 5 5) fiveL := by
  refine ⟨by simp [maxLen, fiveL], _, 5, rfl, by simp [fiveL], .inr ⟨w.heap.size, 0, rfl, fun j hj => ?_⟩⟩
  rw [cell_of_row _ w.heap.size (0 + j) _ t (0, 0) (heap_alloc_new w _)]
  match j, hj with
  | 0, _ => rfl
  | 1, _ => rfl
  | 2, _ => rfl
  | 3, _ => rfl
  | 4, _ => rfl

theorem big_five1 (w : World) (v : Value) (h : Bs w v fiveL) : Calls Try.prog 10 #[v, .int .i64 1, .int .i64 4] w fun e w' => e = .returned (.tuple #[.int .u64 258, .bool true]) ∧ w' = w := by
  have := big_c 1 4 w h
  rwa [show bigAt fiveL 1 4 = 258 from by decide +kernel, show holdsB fiveL.length 1 4 = true from by decide] at this
theorem big_five2 (w : World) (v : Value) (h : Bs w v fiveL) : Calls Try.prog 10 #[v, .int .i64 2, .int .i64 4] w fun e w' => e = .returned (.tuple #[.int .u64 0, .bool false]) ∧ w' = w := by
  have := big_c 2 4 w h
  rwa [show bigAt fiveL 2 4 = 0 from by decide +kernel, show holdsB fiveL.length 2 4 = false from by decide] at this
theorem little_five (w : World) (v : Value) (h : Bs w v fiveL) : Calls Try.prog 12 #[v, .int .i64 3, .int .i64 2] w fun e w' => e = .returned (.tuple #[.int .u64 513, .bool true]) ∧ w' = w := by
  have := little_c 3 2 w h
  rwa [show littleAt fiveL 3 2 = 513 from by decide +kernel, show holdsB fiveL.length 3 2 = true from by decide] at this
theorem bits_b6 (w : World) : Calls Try.prog 18 #[.int .u64 182, .int .i64 1, .int .i64 3] w fun e w' => e = .returned (.int .u64 3) ∧ ∃ m, w' = w.drewN m := by
  have := bits_c 182 1 3 w (by omega)
  rwa [show bitsI 182 1 3 = 3 from by decide +kernel] at this
theorem set_ff (w : World) : Calls Try.prog 20 #[.int .u64 255, .int .i64 4, .int .i64 4, .int .u64 5] w fun e w' => e = .returned (.int .u64 95) ∧ ∃ m, w' = w.drewN m := by
  have := set_c 255 4 4 5 w (by omega) (by omega)
  rwa [show setI 255 4 4 5 = 95 from by decide +kernel] at this
theorem putBig_258 (w : World) (B : Nat) (hB : B ≤ w.heap.size) : Calls Try.prog 14 #[.int .u64 258, .int .i64 4] w fun e w' => ∃ v, e = .returned v ∧ Below B w w' ∧ (convert 22 9 v).run Try.prog w' = .ok (.string ⟨#[0, 0, 1, 2]⟩) w' := by
  refine (putBig_c 258 4 w B hB (by omega)).mono fun e w' => ?_
  rintro ⟨v, he, hb, ho⟩
  rw [show putBeI 258 4 = [0, 0, 1, 2] from by decide +kernel] at ho
  exact ⟨v, he, hb, (Bs.of_owns ho).1.str⟩
theorem putLittle_258 (w : World) (B : Nat) (hB : B ≤ w.heap.size) : Calls Try.prog 16 #[.int .u64 258, .int .i64 3] w fun e w' => ∃ v, e = .returned v ∧ Below B w w' ∧ (convert 22 9 v).run Try.prog w' = .ok (.string ⟨#[2, 1, 0]⟩) w' := by
  refine (putLittle_c 258 3 w B hB (by omega)).mono fun e w' => ?_
  rintro ⟨v, he, hb, ho⟩
  rw [show putLeI 258 3 = [2, 1, 0] from by decide +kernel] at ho
  exact ⟨v, he, hb, (Bs.of_owns ho).1.str⟩
theorem text_ab (w : World) (B : Nat) (hB : B ≤ w.heap.size) : Calls Try.prog 22 #[.string ⟨#[97, 98]⟩, .int .i64 3] w fun e w' => ∃ v, e = .returned v ∧ Below B w w' ∧ (convert 22 9 v).run Try.prog w' = .ok (.string ⟨#[97, 98, 32]⟩) w' := by
  refine (text_c ⟨#[97, 98]⟩ 3 w B hB (by decide)).mono fun e w' => ?_
  rintro ⟨v, he, hb, ho⟩
  rw [show textI [97, 98] 3 = [97, 98, 32] from by decide +kernel] at ho
  exact ⟨v, he, hb, (Bs.of_owns ho).1.str⟩

set_option maxHeartbeats 1000000 in
theorem alive_c (w : World) (B : Nat) (hB : B ≤ w.heap.size) : Calls Try.prog 9 #[] w fun e w' => e = .returned (.bool true) ∧ Below B w w' := by
  have h5 := Bs.five w 5
  have hb0 := (Below.refl B w).alloc hB (.cells #[.int .u8 9, .int .u8 0, .int .u8 0, .int .u8 1, .int .u8 2] 5)
  have hs0 : B ≤ (w.alloc (.cells #[.int .u8 9, .int .u8 0, .int .u8 0, .int .u8 1, .int .u8 2] 5)).heap.size := by simp; omega
  go_enter Try.func9, Try.ntmps9
  go_wp2_with fail
  refine (big_five1 _ _ h5).mono ?_
  rintro e w1 ⟨rfl, rfl⟩
  go_wp2_with fail
  refine (little_five _ _ h5).mono ?_
  rintro e w1 ⟨rfl, rfl⟩
  go_wp2_with fail
  refine (big_five2 _ _ h5).mono ?_
  rintro e w1 ⟨rfl, rfl⟩
  go_wp2_with fail
  refine (putBig_258 _ B hs0).mono ?_
  rintro e w1 ⟨v1, rfl, hb1, hc1⟩
  have hB1 : B ≤ w1.heap.size := Nat.le_trans hs0 hb1.size
  go_wp2_with fail
  refine (putLittle_258 _ B hB1).mono ?_
  rintro e w2 ⟨v2, rfl, hb2, hc2⟩
  have hB2 : B ≤ w2.heap.size := Nat.le_trans hB1 hb2.size
  go_wp2_with fail
  refine (bits_b6 _).mono ?_
  rintro e w3 ⟨rfl, m3, rfl⟩
  go_wp2_with fail
  refine (set_ff _).mono ?_
  rintro e w4 ⟨rfl, m4, rfl⟩
  go_wp2_with fail
  refine (text_ab _ B (by simpa using hB2)).mono ?_
  rintro e w5 ⟨v5, rfl, hb5, hc5⟩
  go_wp2_with fail
  go_ret
  refine ⟨rfl, hb0.trans (hb1.trans (hb2.trans ?_))⟩
  exact ⟨hb5.os, hb5.tape, hb5.output, hb5.size, hb5.block⟩
end Go.Proofs.Ytfkojecipbjdpaa
