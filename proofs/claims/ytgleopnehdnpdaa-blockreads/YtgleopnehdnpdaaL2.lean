import Derived.Test.YtgleopnehdnpdaaL2D
import Derived.Test.YtgleopnehdnpdaaAlive2
namespace Go.Proofs.Ytgleopnehdnpdaa
open Go.ChangeShapes Go.WideShapes Go.ChangeAt Go.RowKit

theorem blockReads_ok (v0 v1 v2 : Value) (w : World) (h0 : RBlocks w v0) (h1 : RInt .u64 v1) (h2 : RInt .i64 v2) :
    Calls Try.prog 3 #[v0, v1, v2] w fun e w' => e = .returned (.bool true) ∧ Below w.heap.size w w' := blockReads_walk alive_c v0 v1 v2 w h0 h1 h2
theorem blockWrites_ok (v0 v1 v2 : Value) (w : World) (h0 : RBlocks w v0) (h1 : RInt .u64 v1) (h2 : RBytes w v2) :
    Calls Try.prog 4 #[v0, v1, v2] w fun e w' => e = .returned (.bool true) ∧ Below w.heap.size w w' := blockWrites_walk alive_c v0 v1 v2 w h0 h1 h2
theorem blockMakes_ok (v0 v1 : Value) (w : World) (h0 : RInt .i64 v0) (h1 : RInt .u8 v1) :
    Calls Try.prog 5 #[v0, v1] w fun e w' => e = .returned (.bool true) ∧ Below w.heap.size w w' := blockMakes_walk alive_c v0 v1 w h0 h1
theorem blockBack_ok (v0 v1 v2 : Value) (w : World) (h0 : RBlocks w v0) (h1 : RInt .u64 v1) (h2 : RBlocks w v2) :
    Calls Try.prog 6 #[v0, v1, v2] w fun e w' => e = .returned (.bool true) ∧ Below w.heap.size w w' := blockBack_walk alive_c v0 v1 v2 w h0 h1 h2
theorem blockApart_ok (v0 v1 v2 : Value) (w : World) (h0 : RBlocks w v0) (h1 : RArr .u8 2 v1) (h2 : RArr .u8 2 v2) :
    Calls Try.prog 7 #[v0, v1, v2] w fun e w' => e = .returned (.bool true) ∧ Below w.heap.size w w' := blockApart_walk alive_c v0 v1 v2 w h0 h1 h2
end Go.Proofs.Ytgleopnehdnpdaa
