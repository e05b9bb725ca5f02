import Derived.Test.YtcjdodkbnhkbiaaMAQ
import Derived.Test.YtcjdodkbnhkbiaaMAS
import Derived.Test.YtcjdodkbnhkbiaaWL8C
import Derived.Test.YtcjdodkbnhkbiaaWL8B
namespace Go.Proofs.Ytcjdodkbnhkbiaa
open Go.ChangeShapes Go.WideShapes Go.ChangeAt Go.RowKit
set_option linter.unusedVariables false
theorem modeSelects_ok (v0 v1 v2 : Value) (w : World) (h0 : RBytes w v0) (h1 : RBool v1) (h2 : RBool v2) :
    Calls Try.prog 4 #[v0, v1, v2] w fun e w' => e = .returned (.bool true) ∧ Below w.heap.size w w' := by
  obtain ⟨l, hb⟩ := h0
  obtain ⟨a, rfl⟩ := h1
  obtain ⟨b, rfl⟩ := h2
  exact modeSelects_walk (alive8_c mpage_c manswer_c mselect_c) mselect_c v0 l a b w hb
end Go.Proofs.Ytcjdodkbnhkbiaa
