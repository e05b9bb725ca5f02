import Derived.Test.YtfefnkeognccpaaP4c
import Derived.Test.YtfefnkeognccpaaL4A
namespace Go.Proofs.Ytfefnkeognccpaa
open Go.ChangeShapes Go.WideShapes Go.ChangeAt Go.RowKit

theorem senseAdds_ok (v0 v1 : Value) (w : World) (h0 : RSenses w v0) (h1 : RSense v1) :
    Calls Try.prog 5 #[v0, v1] w fun e w' => e = .returned (.bool true) ∧ Below w.heap.size w w' := senseAdds_walk alive4_ok sadd_c sfirst_c v0 v1 w h0 h1
end Go.Proofs.Ytfefnkeognccpaa
