import Derived.Test.YtkbpecbpfajkfaaWL5B
import Derived.Test.YtkbpecbpfajkfaaWL5E
namespace Go.Proofs.Ytkbpecbpfajkfaa
open Go.ChangeShapes Go.WideShapes Go.ChangeAt Go.RowKit
theorem slotInside_law (v0 v1 : Value) (w : World) (h0 : RSlot w v0) (h1 : RBool v1) :
    Calls Try.prog 7 #[v0, v1] w fun e w' => e = .returned (.bool true) ∧ Below w.heap.size w w' := slotInside_walk alive5_c v0 v1 w h0 h1
end Go.Proofs.Ytkbpecbpfajkfaa
