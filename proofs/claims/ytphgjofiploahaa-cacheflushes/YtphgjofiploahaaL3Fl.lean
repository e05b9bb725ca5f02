import Derived.Test.YtphgjofiploahaaL3H
import Derived.Test.YtphgjofiploahaaL3B
namespace Go.Proofs.Ytphgjofiploahaa
open Go.ChangeShapes Go.WideShapes Go.ChangeAt Go.RowKit

theorem cacheFlushes_ok (v0 v1 v2 : Value) (w : World) (h0 : RMed w v0) (h1 : RArr .i64 2 v1) (h2 : RInt .u64 v2) :
    Calls Try.prog 4 #[v0, v1, v2] w fun e w' => e = .returned (.bool true) ∧ Below w.heap.size w w' := cacheFlushes_walk alive3_ok cflush3_c close3_c v0 v1 v2 w h0 h1 h2
end Go.Proofs.Ytphgjofiploahaa
