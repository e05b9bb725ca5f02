import Derived.Test.YtccdgpadjfjoeaaWL6F
import Derived.Test.YtccdgpadjfjoeaaWL6G
import Derived.Test.YtccdgpadjfjoeaaMAA
namespace Go.Proofs.Ytccdgpadjfjoeaa
open Go.ChangeShapes Go.WideShapes Go.ChangeAt Go.RowKit

theorem cdbBlocks_ok (v0 v1 v2 : Value) (w : World) (h0 : RInt .u64 v0) (h1 : RInt .u32 v1) (h2 : RBool v2) :
    Calls Try.prog 6 #[v0, v1, v2] w fun e w' => e = .returned (.bool true) ∧ Below w.heap.size w w' := by
  obtain ⟨x, rfl, hx⟩ := h0
  obtain ⟨y, rfl, hy⟩ := h1
  obtain ⟨b, rfl⟩ := h2
  have bx := bounds_u64 hx
  have by_ := bounds_u32 hy
  obtain ⟨a, rfl⟩ : ∃ a : Nat, x = a := ⟨x.toNat, by omega⟩
  obtain ⟨n, rfl⟩ : ∃ n : Nat, y = n := ⟨y.toNat, by omega⟩
  cases b with
  | false => exact cdbBlocks_false a n (by omega) (by omega) w
  | true => exact cdbBlocks_true a n (by omega) (by omega) w
end Go.Proofs.Ytccdgpadjfjoeaa
