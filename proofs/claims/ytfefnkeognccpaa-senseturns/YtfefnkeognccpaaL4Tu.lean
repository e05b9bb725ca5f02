import Derived.Test.YtfefnkeognccpaaP4c
import Derived.Test.YtfefnkeognccpaaL4D
namespace Go.Proofs.Ytfefnkeognccpaa
open Go.ChangeShapes Go.WideShapes Go.ChangeAt Go.RowKit

theorem senseTurns_ok (v0 : Value) (w : World) (h0 : RBytes w v0) :
    Calls Try.prog 6 #[v0] w fun e w' => e = .returned (.bool true) ∧ Below w.heap.size w w' := senseTurns_walk alive4_ok sadd_c sfirst_c sgood_c con_PowerOn con_BusReset con_UnitReset con_NexusLoss con_NewMedium v0 w h0
end Go.Proofs.Ytfefnkeognccpaa
