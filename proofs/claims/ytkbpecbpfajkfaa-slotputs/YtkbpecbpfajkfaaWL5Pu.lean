import Derived.Test.YtkbpecbpfajkfaaWL5C
import Derived.Test.YtkbpecbpfajkfaaWL5E
namespace Go.Proofs.Ytkbpecbpfajkfaa
open Go.ChangeShapes Go.WideShapes Go.ChangeAt Go.RowKit
theorem slotPuts_law (v0 v1 v2 : Value) (w : World) (h0 : RSlot w v0) (h1 : RInt .i64 v1) (h2 : RWrite3 v2) :
    Calls Try.prog 5 #[v0, v1, v2] w fun e w' => e = .returned (.bool true) ∧ Below w.heap.size w w' := slotPuts_walk alive5_c v0 v1 v2 w h0 h1 h2
end Go.Proofs.Ytkbpecbpfajkfaa
