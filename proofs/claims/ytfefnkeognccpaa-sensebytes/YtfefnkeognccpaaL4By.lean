import Derived.Test.YtfefnkeognccpaaP4c
import Derived.Test.YtfefnkeognccpaaL4B
namespace Go.Proofs.Ytfefnkeognccpaa
open Go.ChangeShapes Go.WideShapes Go.ChangeAt Go.RowKit

theorem senseBytes_ok (v0 v1 : Value) (w : World) (h0 : RSense v0) (h1 : RBytes w v1) :
    Calls Try.prog 3 #[v0, v1] w fun e w' => e = .returned (.bool true) ∧ Below w.heap.size w w' := senseBytes_walk alive4_ok sbytes_c sparse_c sgood_c v0 v1 w h0 h1
end Go.Proofs.Ytfefnkeognccpaa
