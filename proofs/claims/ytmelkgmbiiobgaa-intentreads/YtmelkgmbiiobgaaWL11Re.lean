import Derived.Test.YtmelkgmbiiobgaaMBB
import Derived.Test.YtmelkgmbiiobgaaWL11C
import Derived.Test.YtmelkgmbiiobgaaWL11E
import Derived.Test.YtmelkgmbiiobgaaWP11m
import Derived.Test.YtmelkgmbiiobgaaWOpnB
namespace Go.Proofs.Ytmelkgmbiiobgaa
open Go.ChangeShapes Go.WideShapes Go.ChangeAt Go.RowKit
set_option linter.unusedVariables false
set_option maxRecDepth 4000
/-! IntentReads, over the landed intent. -/
theorem intentReads_ok (v0 v1 v2 : Value) (w : World) (h0 : RUnit10 w v0) (h1 : RInt .u64 v1) (h2 : RInt .u8 v2) :
    Calls Try.prog 5 #[v0, v1, v2] w fun e w' => e = .returned (.bool true) ∧ Below w.heap.size w w' := by
  obtain ⟨ab, n, cb, aD, k, cD, F, D, p, r, l, cc, am, m, cm, s, M, rfl, hm, hA, hmm, hs⟩ := h0
  obtain ⟨x, rfl, hx⟩ := h1
  obtain ⟨y, rfl, hy⟩ := h2
  have hx := bounds_u64 hx
  have hy := bounds_u8 hy
  obtain ⟨x, rfl⟩ := Int.eq_ofNat_of_zero_le hx.1
  obtain ⟨y, rfl⟩ := Int.eq_ofNat_of_zero_le hy.1
  exact intentReads_walk (alive11_c ibegin11) ibegin11 w hm hA hs (by omega) (by omega) hmm
end Go.Proofs.Ytmelkgmbiiobgaa
