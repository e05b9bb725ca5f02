import Derived.Test.YtgleopnehdnpdaaR2b
namespace Go.Proofs.Ytgleopnehdnpdaa
open Go.ChangeShapes Go.WideShapes Go.ChangeAt Go.RowKit
set_option linter.unusedVariables false
set_option linter.unusedSimpArgs false

def z64 : Value := .agg (Array.replicate 64 (.int .u8 0))
theorem Try.elem_z64 : Elem Try.prog 41 64 64 z64 := Try.elem_block
theorem made64 (n : Nat) : (madeCells z64.cells (n * 64)).toList = bv (List.replicate (n * 64) 0) := by
  rw [bv_replicate]; exact madeCells_rep _ 64 _ (by omega)

/-- so many bytes laid, zeros behind -/
def fillP (c : UInt8) (all k : Nat) : List UInt8 := List.replicate k c ++ List.replicate (all - k) 0
theorem fillP_set (c : UInt8) (all k : Nat) (h : k < all) : fillP c all (k + 1) = (fillP c all k).set k c := by
  unfold fillP
  rw [List.set_append_right _ _ (by simp), List.length_replicate, Nat.sub_self]
  obtain ⟨m, hm⟩ : ∃ m, all - k = m + 1 := ⟨all - k - 1, by omega⟩
  rw [hm, show all - (k + 1) = m from by omega, List.replicate_succ (n := m), List.set_cons_zero, List.replicate_succ']
  simp
theorem fillP_zero (c : UInt8) (all : Nat) : fillP c all 0 = List.replicate all 0 := by simp [fillP]
theorem fillP_all (c : UInt8) (all : Nat) : fillP c all all = List.replicate all c := by simp [fillP]
theorem fillP_length (c : UInt8) (all k : Nat) (h : k ≤ all) : (fillP c all k).length = all := by simp [fillP]; omega

theorem rmake_no (n f : Int) (w : World) (hn : n < 0 ∨ 64 < n) :
    Calls Try.prog 21 #[.int .i64 n, .int .u8 f] w fun e w' => e = .returned (.tuple #[.slice none 0 0, .int .i64 1]) ∧ w' = w := by
  by_cases h1 : n < 0
  · have hd : decide (n < 0) = true := by simpa using h1
    go_enter Try.func21, Try.ntmps21
    go_wp2
    go_ret2
    exact ⟨rfl, rfl⟩
  · have hd : decide (n < 0) = false := by simpa using h1
    have hn' : 64 < n := by omega
    clear hn
    go_enter Try.func21, Try.ntmps21
    go_wp2
    go_ret2
    exact ⟨rfl, rfl⟩

set_option maxHeartbeats 2000000 in
theorem rmake_yes (n : Nat) (c : UInt8) (w : World) (hn : n ≤ 64) :
    Calls Try.prog 21 #[.int .i64 n, .int .u8 (c.toNat : Int)] w fun e w' => ∃ v, e = .returned (.tuple #[v, .int .i64 0]) ∧ Later w w' ∧ w'.ownsRow w.heap.size 41 64 v n (bv (List.replicate (n * 64) c)) := by
  have hd0 : decide ((n : Int) < 0) = false := by simp
  have hd1 : decide (64 < (n : Int)) = false := by simp; omega
  go_enter Try.func21, Try.ntmps21
  go_wp2_with (at_make; refine wpList_make_of Try.elem_z64 rfl _ _ 22 rfl Try.underlying22 _ _ n rfl rfl rfl rfl ?c1 ?c2 _ (made64 n) ?_)
  case c1 => omega
  case c2 => unfold maxLen; omega
  rintro w1 hown hl1
  have hb1 := hide hl1
  have Hown := hide hown
  clear hown hl1
  go_wp2
  go_loopw [7] (fun i wr => ∃ k : Nat, k ≤ n ∧ i = .int .i64 k ∧ Hid (wr.ownsRow w.heap.size 41 64 (.slice (some ⟨w.heap.size, 0, none⟩) n n) n (bv (fillP c (n * 64) (k * 64)))) ∧ Hid (Later w wr)) (fun i _ => n - (intOf i).toNat)
  case atStart => exact ⟨0, Nat.zero_le _, rfl, by rw [Nat.zero_mul, fillP_zero]; exact Hown, hb1⟩
  case round =>
    obtain ⟨k, hk, rfl, hownk, hlk⟩ := hrel
    by_cases hlt : k < n
    · go_wp2
      go_loopw [8] (fun i wr => ∃ j : Nat, j ≤ 64 ∧ i = .int .i64 j ∧ Hid (wr.ownsRow w.heap.size 41 64 (.slice (some ⟨w.heap.size, 0, none⟩) n n) n (bv (fillP c (n * 64) (k * 64 + j)))) ∧ Hid (Later w wr)) (fun i _ => 64 - (intOf i).toNat)
      case atStart => exact ⟨0, Nat.zero_le _, rfl, hownk, hlk⟩
      case round =>
        obtain ⟨j, hj, rfl, hownj, hlj⟩ := hrel
        by_cases hltj : j < 64
        · have hxl : (bv (fillP c (n * 64) (k * 64 + j))).length = n * 64 := by rw [bv_length, fillP_length _ _ _ (by omega)]
          obtain ⟨u, hcell⟩ : ∃ u : Value, wr.cell? ⟨w.heap.size, k * 64 + j, none⟩ = some u := by
            rw [hownj.out.cellAt _ (by omega)]
            exact ⟨_, List.getElem?_eq_getElem (by omega)⟩
          have hfz := hownj.out.frozenAt (k * 64 + j)
          have hst := hide (hownj.out.stored (k * 64 + j) (.int .u8 (c.toNat : Int)))
          have hl2 := hide (hlj.out.setCell (a := ⟨w.heap.size, k * 64 + j, none⟩) (Nat.le_refl _) (.int .u8 (c.toNat : Int)))
          clear hownj hlj hxl hownk hlk Hown hb1
          go_wp2
          go_roundw
          case rel =>
            refine ⟨j + 1, by omega, by go_num, ?_, hl2⟩
            unfold Hid
            rw [← Nat.add_assoc, fillP_set _ _ _ (by omega), bv_set]
            exact hst.out.1
          case measure => simp [intOf]; omega
        · have hj64 : Hid (j = 64) := by unfold Hid; omega
          go_wp2
          go_roundw
          case rel =>
            refine ⟨k + 1, by omega, by go_num, ?_, hlj⟩
            have := hownj.out
            rw [hj64.out] at this
            unfold Hid
            rw [show (k + 1) * 64 = k * 64 + 64 from by omega]
            exact this
          case measure => simp [intOf]; omega
    · have hkn : Hid (k = n) := by unfold Hid; omega
      go_wp2
      go_ret2
      refine ⟨_, rfl, hlk.out, ?_⟩
      have := hownk.out
      rwa [hkn.out, fillP_all] at this
end Go.Proofs.Ytgleopnehdnpdaa
