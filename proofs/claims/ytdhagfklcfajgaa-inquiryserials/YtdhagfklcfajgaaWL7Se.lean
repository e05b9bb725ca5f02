import Derived.Test.YtdhagfklcfajgaaMAL
import Derived.Test.YtdhagfklcfajgaaMAM
import Derived.Test.YtdhagfklcfajgaaMAN
import Derived.Test.YtdhagfklcfajgaaWL7D
namespace Go.Proofs.Ytdhagfklcfajgaa
open Go.ChangeShapes Go.WideShapes Go.ChangeAt Go.RowKit
set_option linter.unusedVariables false
theorem inquirySerials_ok (v0 v1 : Value) (w : World) (h0 : RInt .i64 v0) (h1 : RInt .i64 v1) :
    Calls Try.prog 6 #[v0, v1] w fun e w' => e = .returned (.bool true) ∧ Below w.heap.size w w' := by
  obtain ⟨a, rfl, ha⟩ := h0
  obtain ⟨b, rfl, hb⟩ := h1
  exact inquirySerials_walk (alive7_c page7_c ans7_c serial7_c std7_c cut7_c) page7_c serial7_c a b w (bounds_i64 ha) (bounds_i64 hb)
end Go.Proofs.Ytdhagfklcfajgaa
