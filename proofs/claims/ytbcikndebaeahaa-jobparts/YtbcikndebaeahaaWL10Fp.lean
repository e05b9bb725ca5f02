import Derived.Test.YtbcikndebaeahaaMBA
import Derived.Test.YtbcikndebaeahaaWL10D
import Derived.Test.YtbcikndebaeahaaWL10J
import Derived.Test.YtbcikndebaeahaaMBD
namespace Go.Proofs.Ytbcikndebaeahaa
open Go.ChangeShapes Go.WideShapes Go.ChangeAt Go.RowKit
set_option linter.unusedVariables false
set_option maxRecDepth 4000
/-! JobParts, over the landed job. -/
theorem jobParts_ok (v0 v1 v2 : Value) (w : World) (h0 : RUnit10 w v0) (h1 : RCmd7 v1) (h2 : RParts10 w v2) :
    Calls Try.prog 5 #[v0, v1, v2] w fun e w' => e = .returned (.bool true) ∧ Below w.heap.size w w' := by
  obtain ⟨ab, n, cb, aD, k, cD, F, D, p, r, l, cc, am, m, cm, s, M, rfl, hm, hA, hmm, hs⟩ := h0
  obtain ⟨c, hc, rfl⟩ := h1
  obtain ⟨P, hP⟩ := h2
  have hP2 := hP
  obtain ⟨aP, cP, rfl, _, _, _⟩ := hP2
  exact jobParts_walk (alive10_c istart10 itake10 ifin10) istart10 itake10 ifin10 w hm hA hc hP hmm
end Go.Proofs.Ytbcikndebaeahaa
