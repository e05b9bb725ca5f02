import Derived.Test.YtdhagfklcfajgaaMAL
import Derived.Test.YtdhagfklcfajgaaMAM
import Derived.Test.YtdhagfklcfajgaaMAN
import Derived.Test.YtdhagfklcfajgaaWL7E
namespace Go.Proofs.Ytdhagfklcfajgaa
open Go.ChangeShapes Go.WideShapes Go.ChangeAt Go.RowKit
set_option linter.unusedVariables false
theorem inquiryPages_ok (v0 v1 v2 : Value) (w : World) (h0 : RInt .i64 v0) (h1 : RInt .i64 v1) (h2 : RBool v2) :
    Calls Try.prog 4 #[v0, v1, v2] w fun e w' => e = .returned (.bool true) ∧ Below w.heap.size w w' := by
  obtain ⟨a, rfl, ha⟩ := h0
  obtain ⟨b, rfl, hb⟩ := h1
  obtain ⟨t, rfl⟩ := h2
  exact inquiryPages_walk (alive7_c page7_c ans7_c serial7_c std7_c cut7_c) page7_c std7_c a b t w (bounds_i64 ha) (bounds_i64 hb)
end Go.Proofs.Ytdhagfklcfajgaa
