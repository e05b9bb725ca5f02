import Derived.Test.YtfakboehmcimpaaGreatMBG
import Derived.Test.YtfakboehmcimpaaGreatWL11F
import Derived.Test.YtfakboehmcimpaaGreatWL11E
import Derived.Test.YtfakboehmcimpaaGreatWP11m
namespace Go.Proofs.YtfakboehmcimpaaGreat
open Go.ChangeShapes Go.WideShapes Go.ChangeAt Go.RowKit
set_option linter.unusedVariables false
set_option maxRecDepth 4000
/-! IntentBegins, over the landed intent. -/
theorem intentBegins_ok (v0 v1 v2 : Value) (w : World) (h0 : RUnit10 w v0) (h1 : RArr .i64 2 v1) (h2 : RCmd7 v2) :
    Calls Tryz.prog 3 #[v0, v1, v2] w fun e w' => e = .returned (.bool true) ∧ Below w.heap.size w w' := by
  obtain ⟨ab, n, cb, aD, k, cD, F, D, p, r, l, cc, am, m, cm, s, M, rfl, hm, hA, hmm, hs⟩ := h0
  obtain ⟨c, hc, rfl⟩ := h2
  obtain ⟨zs, hl, rfl, hw⟩ := h1
  match zs, hl with
  | [a, b], _ =>
    exact intentBegins_walk (alive11_c ibegin11) ibegin11 (a := a) (b := b) w hm hA hs hc (bounds_i64 (hw a (by simp))) (bounds_i64 (hw b (by simp))) hmm
end Go.Proofs.YtfakboehmcimpaaGreat
