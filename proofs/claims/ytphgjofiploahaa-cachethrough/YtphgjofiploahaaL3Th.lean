import Derived.Test.YtphgjofiploahaaL3H
import Derived.Test.YtphgjofiploahaaL3D
namespace Go.Proofs.Ytphgjofiploahaa
open Go.ChangeShapes Go.WideShapes Go.ChangeAt Go.RowKit

theorem cacheThrough_ok (v0 v1 v2 : Value) (w : World) (h0 : RMed w v0) (h1 : RInt .u8 v1) (h2 : RLoss v2) :
    Calls Try.prog 7 #[v0, v1, v2] w fun e w' => e = .returned (.bool true) ∧ Below w.heap.size w w' := cacheThrough_walk alive3_ok cshow_c cwrite_i close3_c v0 v1 v2 w h0 h1 h2
end Go.Proofs.Ytphgjofiploahaa
