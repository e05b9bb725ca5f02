import Derived.Test.YtfkojecipbjdpaaAlive1
import Derived.Test.YtfkojecipbjdpaaOpn
namespace Go.Proofs.Ytfkojecipbjdpaa
open Go.ChangeShapes Go.WideShapes Go.ChangeAt Go.RowKit
set_option linter.unusedVariables false
set_option linter.unusedSimpArgs false

set_option maxHeartbeats 1000000 in
theorem numberReads_walk (v0 v1 v2 : Value) (w : World) (h0 : RBytes w v0) (h1 : RInt .i64 v1) (h2 : RInt .i64 v2) :
    Calls Try.prog 3 #[v0, v1, v2] w fun e w' => e = .returned (.bool true) ∧ Below w.heap.size w w' := by
  obtain ⟨l, hbs⟩ := h0
  obtain ⟨a1, rfl, _⟩ := h1
  obtain ⟨a2, rfl, _⟩ := h2
  have hbs' := hbs
  obtain ⟨hm, a0, cap0, rfl, hd1, hd2⟩ := hbs'
  clear hd1 hd2
  generalize hlen0 : l.length = len0 at *
  have Hlen := hide hlen0
  clear hlen0
  unfold maxLen at hm
  go_enter Try.func3, Try.ntmps3
  go_wp2_with fail
  refine (alive_c _ w.heap.size (Nat.le_refl _)).mono ?_
  rintro e w1 ⟨rfl, hb1⟩
  have hbs1 := hide (hbs.below hb1 (Nat.le_refl _))
  clear hbs
  by_cases hlen : 2000 < len0
  · go_wp2
    go_ret
    exact ⟨rfl, hb1⟩
  · go_wp2_with fail
    refine (big_c a1 a2 _ hbs1.out).mono ?_
    rintro e w2 ⟨rfl, rfl⟩
    go_wp2_with fail
    refine (rbig_c a1 a2 _ hbs1.out).mono ?_
    rintro e w3 ⟨rfl, rfl⟩
    go_wp2_with fail
    refine (little_c a1 a2 _ hbs1.out).mono ?_
    rintro e w4 ⟨rfl, rfl⟩
    go_wp2_with fail
    refine (rlittle_c a1 a2 _ hbs1.out).mono ?_
    rintro e w5 ⟨rfl, rfl⟩
    go_wp2_with fail
    go_ret
    exact ⟨rfl, hb1⟩
end Go.Proofs.Ytfkojecipbjdpaa
