import Derived.Test.YtbcikndebaeahaaMBA
import Derived.Test.YtbcikndebaeahaaMBE
import Derived.Test.YtbcikndebaeahaaWL10J
import Derived.Test.YtbcikndebaeahaaMBD
namespace Go.Proofs.Ytbcikndebaeahaa
open Go.ChangeShapes Go.WideShapes Go.ChangeAt Go.RowKit
set_option linter.unusedVariables false
set_option maxRecDepth 4000
/-! JobStarts, over the landed job. -/
theorem jobStarts_ok (v0 : Value) (w : World) (h0 : RCmd7 v0) :
    Calls Try.prog 4 #[v0] w fun e w' => e = .returned (.bool true) ∧ Below w.heap.size w w' := by
  obtain ⟨c, hc, rfl⟩ := h0
  exact jobStarts_walk (alive10_c istart10 itake10 ifin10) istart10 c w hc
end Go.Proofs.Ytbcikndebaeahaa
