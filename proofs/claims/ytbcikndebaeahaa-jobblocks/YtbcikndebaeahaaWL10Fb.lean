import Derived.Test.YtbcikndebaeahaaMBA
import Derived.Test.YtbcikndebaeahaaWL10E
import Derived.Test.YtbcikndebaeahaaWL10J
import Derived.Test.YtbcikndebaeahaaMBD
import Derived.Test.YtbcikndebaeahaaWOpnB
namespace Go.Proofs.Ytbcikndebaeahaa
open Go.ChangeShapes Go.WideShapes Go.ChangeAt Go.RowKit
set_option linter.unusedVariables false
set_option maxRecDepth 4000
/-! JobBlocks, over the landed job. -/
theorem jobBlocks_ok (v0 v1 v2 : Value) (w : World) (h0 : RUnit10 w v0) (h1 : RCmd7 v1) (h2 : RBytes w v2) :
    Calls Try.prog 6 #[v0, v1, v2] w fun e w' => e = .returned (.bool true) ∧ Below w.heap.size w w' := by
  obtain ⟨ab, n, cb, aD, k, cD, F, D, p, r, l, cc, am, m, cm, s, M, rfl, hm, hA, hmm, hs⟩ := h0
  obtain ⟨c, hc, rfl⟩ := h1
  obtain ⟨B, hB⟩ := h2
  have hB2 := hB
  obtain ⟨hl, ax, cx, rfl, _, _⟩ := hB2
  exact jobBlocks_walk (alive10_c istart10 itake10 ifin10) istart10 itake10 ifin10 w hm hA hB hc hmm hl
end Go.Proofs.Ytbcikndebaeahaa
