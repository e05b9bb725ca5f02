import Derived.Test.YtdhagfklcfajgaaMAL
import Derived.Test.YtdhagfklcfajgaaMAM
import Derived.Test.YtdhagfklcfajgaaMAN
import Derived.Test.YtdhagfklcfajgaaWL7C
namespace Go.Proofs.Ytdhagfklcfajgaa
open Go.ChangeShapes Go.WideShapes Go.ChangeAt Go.RowKit
set_option linter.unusedVariables false
theorem inquiryCuts_ok (v0 v1 v2 : Value) (w : World) (h0 : RBytes w v0) (h1 : RInt .i64 v1) (h2 : RInt .i64 v2) :
    Calls Try.prog 5 #[v0, v1, v2] w fun e w' => e = .returned (.bool true) ∧ Below w.heap.size w w' := by
  obtain ⟨a, rfl, ha⟩ := h1
  obtain ⟨b, rfl, hb⟩ := h2
  exact inquiryCuts_walk (alive7_c page7_c ans7_c serial7_c std7_c cut7_c) cut7_c v0 a b w h0 (bounds_i64 ha) (bounds_i64 hb)
end Go.Proofs.Ytdhagfklcfajgaa
