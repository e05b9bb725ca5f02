import Derived.Test.YtkbpecbpfajkfaaWL5D
import Derived.Test.YtkbpecbpfajkfaaWL5E
namespace Go.Proofs.Ytkbpecbpfajkfaa
open Go.ChangeShapes Go.WideShapes Go.ChangeAt Go.RowKit
theorem slotTurns_law (v0 v1 v2 : Value) (w : World) (h0 : RSlot w v0) (h1 : RBool v1) (h2 : RInt .u64 v2) :
    Calls Try.prog 3 #[v0, v1, v2] w fun e w' => e = .returned (.bool true) ∧ Below w.heap.size w w' := slotTurns_walk alive5_c v0 v1 v2 w h0 h1 h2
end Go.Proofs.Ytkbpecbpfajkfaa
