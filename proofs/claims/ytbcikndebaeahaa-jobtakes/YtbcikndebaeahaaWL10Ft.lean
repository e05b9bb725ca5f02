import Derived.Test.YtbcikndebaeahaaMBA
import Derived.Test.YtbcikndebaeahaaWL10C
import Derived.Test.YtbcikndebaeahaaWL10J
import Derived.Test.YtbcikndebaeahaaMBD
import Derived.Test.YtbcikndebaeahaaWOpnB
namespace Go.Proofs.Ytbcikndebaeahaa
open Go.ChangeShapes Go.WideShapes Go.ChangeAt Go.RowKit
set_option linter.unusedVariables false
set_option maxRecDepth 4000
/-! JobTakes, over the landed job. -/
theorem jobTakes_ok (v0 v1 v2 : Value) (w : World) (h0 : RUnit10 w v0) (h1 : RJob10 w v1) (h2 : RBytes w v2) :
    Calls Try.prog 3 #[v0, v1, v2] w fun e w' => e = .returned (.bool true) ∧ Below w.heap.size w w' := by
  obtain ⟨ab, n, cb, aD, k, cD, F, D, p, r, l, cc, am, m, cm, s, M, rfl, hm, hA, hmm, hs⟩ := h0
  obtain ⟨c, len, took, ar, kr, cr, S, R, rfl, hR, hc, hS, q1, q2, hk⟩ := h1
  obtain ⟨B, hB⟩ := h2
  have hB2 := hB
  obtain ⟨hl, ax, cx, rfl, _, _⟩ := hB2
  exact jobTakes_walk (alive10_c istart10 itake10 ifin10) iright10 itake10 ifin10 w hm hA hR hB hc hS q1 q2 hmm hk hl
end Go.Proofs.Ytbcikndebaeahaa
