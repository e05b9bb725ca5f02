import Derived.Test.YtphgjofiploahaaL3H
import Derived.Test.YtphgjofiploahaaL3C
namespace Go.Proofs.Ytphgjofiploahaa
open Go.ChangeShapes Go.WideShapes Go.ChangeAt Go.RowKit

theorem cacheShows_ok (v0 v1 v2 : Value) (w : World) (h0 : RMed w v0) (h1 : RInt .i64 v1) (h2 : RInt .i64 v2) :
    Calls Try.prog 5 #[v0, v1, v2] w fun e w' => e = .returned (.bool true) ∧ Below w.heap.size w w' := cacheShows_walk alive3_ok cright_i cflush3_c close3_c call3_c v0 v1 v2 w h0 h1 h2
end Go.Proofs.Ytphgjofiploahaa
