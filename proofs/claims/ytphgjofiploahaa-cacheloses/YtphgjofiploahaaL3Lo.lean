import Derived.Test.YtphgjofiploahaaL3H
import Derived.Test.YtphgjofiploahaaL3G
namespace Go.Proofs.Ytphgjofiploahaa
open Go.ChangeShapes Go.WideShapes Go.ChangeAt Go.RowKit

theorem cacheLoses_ok (v0 v1 v2 : Value) (w : World) (h0 : RMed w v0) (h1 : RInt .u64 v1) (h2 : RActs w v2) :
    Calls Try.prog 6 #[v0, v1, v2] w fun e w' => e = .returned (.bool true) ∧ Below w.heap.size w w' := cacheLoses_walk alive3_ok cwrite_x cflush3_c close3_c call3_c v0 v1 v2 w h0 h1 h2
end Go.Proofs.Ytphgjofiploahaa
