import Derived.Test.YtoflkbilkkfekaaMAA
import Derived.Test.YtoflkbilkkfekaaWL9C
namespace Go.Proofs.Ytoflkbilkkfekaa
open Go.ChangeShapes Go.WideShapes Go.ChangeAt Go.RowKit
set_option linter.unusedVariables false
theorem capacityCuts_ok (v0 v1 v2 : Value) (w : World) (h0 : RInt .i64 v0) (h1 : RInt .i64 v1) (h2 : RInt .i64 v2) :
    Calls Try.prog 5 #[v0, v1, v2] w fun e w' => e = .returned (.bool true) ∧ Below w.heap.size w w' := by
  obtain ⟨a, rfl, ha⟩ := h0
  obtain ⟨b, rfl, hb⟩ := h1
  obtain ⟨c, rfl, hc⟩ := h2
  exact capacityCuts_walk a b c w (bounds_i64 hc)
end Go.Proofs.Ytoflkbilkkfekaa
