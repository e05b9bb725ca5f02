import Derived.Test.YtkbpecbpfajkfaaWL5F
import Derived.Test.YtkbpecbpfajkfaaWL5E
namespace Go.Proofs.Ytkbpecbpfajkfaa
open Go.ChangeShapes Go.WideShapes Go.ChangeAt Go.RowKit
theorem slotProtects_law (v0 v1 : Value) (w : World) (h0 : RSlot w v0) (h1 : RActs5 w v1) :
    Calls Try.prog 6 #[v0, v1] w fun e w' => e = .returned (.bool true) ∧ Below w.heap.size w w' := slotProtects_walk alive5_c v0 v1 w h0 h1
end Go.Proofs.Ytkbpecbpfajkfaa
