import Derived.Test.YtmelkgmbiiobgaaMBB
import Derived.Test.YtmelkgmbiiobgaaWL11A
import Derived.Test.YtmelkgmbiiobgaaWL11E
import Derived.Test.YtmelkgmbiiobgaaWP11m
import Derived.Test.YtmelkgmbiiobgaaWOpnB
namespace Go.Proofs.Ytmelkgmbiiobgaa
open Go.ChangeShapes Go.WideShapes Go.ChangeAt Go.RowKit
set_option linter.unusedVariables false
set_option maxRecDepth 4000
/-! IntentKinds, over the landed intent. -/
theorem intentKinds_ok (v0 v1 : Value) (w : World) (h0 : RBytes w v0) (h1 : RSense v1) :
    Calls Try.prog 6 #[v0, v1] w fun e w' => e = .returned (.bool true) ∧ Below w.heap.size w w' := by
  obtain ⟨B, hB⟩ := h0
  obtain ⟨s, hs, rfl⟩ := h1
  have hB2 := hB
  obtain ⟨hl, ax, cx, rfl, _, _⟩ := hB2
  exact intentKinds_walk (alive11_c ibegin11) iin11 inone11 w hB hs hl
end Go.Proofs.Ytmelkgmbiiobgaa
