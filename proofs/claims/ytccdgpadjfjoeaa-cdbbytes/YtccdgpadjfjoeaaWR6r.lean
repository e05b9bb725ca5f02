import Derived.Test.YtccdgpadjfjoeaaWR6j
import Derived.Test.YtccdgpadjfjoeaaWR6k
import Derived.Test.YtccdgpadjfjoeaaWR6l
import Derived.Test.YtccdgpadjfjoeaaWR6m
import Derived.Test.YtccdgpadjfjoeaaWR6n
import Derived.Test.YtccdgpadjfjoeaaWR6o
import Derived.Test.YtccdgpadjfjoeaaWR6p
import Derived.Test.YtccdgpadjfjoeaaWR6q
import Derived.Test.YtccdgpadjfjoeaaMAU
namespace Go.Proofs.Ytccdgpadjfjoeaa
open Go.ChangeShapes Go.WideShapes Go.ChangeAt Go.RowKit
set_option linter.unusedVariables false
set_option linter.unusedSimpArgs false

/-! Bytes of the document, whatever the command. -/
set_option maxRecDepth 20000 in
set_option maxHeartbeats 2000000 in
theorem rbytes_no (op : Int) (a : Nat) (c2 c3 c4 : Int) (w : World) (h : knownB op = false ∨ c2 < 0 ∨ c3 < 0 ∨ c4 < 0 ∨ 3 < c4 ∨ 255 < c3) : Calls Try.prog 17 #[cval (op, a, c2, c3, c4)] w fun e w' => e = .returned (.tuple #[.slice none 0 0, .bool false]) ∧ Later w w' := by
  have BX := hide (Box.new w 26 #[.int .i64 op, .int .u64 (a : Int), .int .i64 c2, .int .i64 c3, .int .i64 c4])
  have LL := hide ((Later.refl w).alloc (.cells #[.int .i64 op, .int .u64 (a : Int), .int .i64 c2, .int .i64 c3, .int .i64 c4] 26))
  have HH := hide h
  clear h
  go_enter Try.func17, Try.ntmps17
  go_wp2_with fail
  generalize (w.alloc (.cells #[.int .i64 op, .int .u64 (a : Int), .int .i64 c2, .int .i64 c3, .int .i64 c4] 26)) = w1 at *
  refine (rknown_c op _).mono ?_
  rintro e w2 ⟨rfl, hl⟩
  replace BX := hide (BX.out.later hl)
  replace LL := hide (LL.out.trans hl)
  clear hl
  have xx0 := BX.out.cell 0
  have xx1 := BX.out.cell 1
  have xx2 := BX.out.cell 2
  have xx3 := BX.out.cell 3
  have xx4 := BX.out.cell 4
  generalize hk : knownB op = kb at *
  clear hk
  cases kb with
  | false =>
    go_wp2
    go_ret2
    exact ⟨rfl, LL.out⟩
  | true =>
  by_cases h2 : c2 < 0
  · have q2 : decide (c2 < 0) = true := by simp [h2]
    go_wp2
    go_ret2
    exact ⟨rfl, LL.out⟩
  have q2 : decide (c2 < 0) = false := by simp; omega
  by_cases h3 : c3 < 0
  · have q3 : decide (c3 < 0) = true := by simp [h3]
    go_wp2
    go_ret2
    exact ⟨rfl, LL.out⟩
  have q3 : decide (c3 < 0) = false := by simp; omega
  by_cases h4 : c4 < 0
  · have q4 : decide (c4 < 0) = true := by simp [h4]
    go_wp2
    go_ret2
    exact ⟨rfl, LL.out⟩
  have q4 : decide (c4 < 0) = false := by simp; omega
  by_cases h5 : 3 < c4
  · have q5 : decide (3 < c4) = true := by simp [h5]
    go_wp2
    go_ret2
    exact ⟨rfl, LL.out⟩
  have q5 : decide (3 < c4) = false := by simp; omega
  have h6 : 255 < c3 := by
    rcases HH.out with h | h | h | h | h | h
    · cases h
    · exact absurd h h2
    · exact absurd h h3
    · exact absurd h h4
    · exact absurd h h5
    · exact h
  have q6 : decide (255 < c3) = true := by simp [h6]
  go_wp2
  go_ret2
  exact ⟨rfl, LL.out⟩
end Go.Proofs.Ytccdgpadjfjoeaa
