import Derived.Test.YtcjdodkbnhkbiaaMAQ
import Derived.Test.YtcjdodkbnhkbiaaMAS
import Derived.Test.YtcjdodkbnhkbiaaWL8C
import Derived.Test.YtcjdodkbnhkbiaaWL8D
namespace Go.Proofs.Ytcjdodkbnhkbiaa
open Go.ChangeShapes Go.WideShapes Go.ChangeAt Go.RowKit
set_option linter.unusedVariables false
theorem modeBack_ok (v0 v1 v2 : Value) (w : World) (h0 : RInt .i64 v0) (h1 : RBool v1) (h2 : RB3 v2) :
    Calls Try.prog 5 #[v0, v1, v2] w fun e w' => e = .returned (.bool true) ∧ Below w.heap.size w w' := by
  obtain ⟨z, rfl, hz⟩ := h0
  obtain ⟨a, rfl⟩ := h1
  obtain ⟨b, c, d, rfl⟩ := h2
  exact modeBack_walk (alive8_c mpage_c manswer_c mselect_c) manswer_c mselect_c z a b c d w (bounds_i64 hz)
end Go.Proofs.Ytcjdodkbnhkbiaa
