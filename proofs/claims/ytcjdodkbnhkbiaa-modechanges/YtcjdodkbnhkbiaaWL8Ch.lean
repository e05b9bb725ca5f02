import Derived.Test.YtcjdodkbnhkbiaaMAQ
import Derived.Test.YtcjdodkbnhkbiaaMAS
import Derived.Test.YtcjdodkbnhkbiaaWL8C
import Derived.Test.YtcjdodkbnhkbiaaWL8E
namespace Go.Proofs.Ytcjdodkbnhkbiaa
open Go.ChangeShapes Go.WideShapes Go.ChangeAt Go.RowKit
set_option linter.unusedVariables false
theorem modeChanges_ok (v0 v1 v2 : Value) (w : World) (h0 : RInt .u8 v0) (h1 : RInt .u8 v1) (h2 : RBool v2) :
    Calls Try.prog 6 #[v0, v1, v2] w fun e w' => e = .returned (.bool true) ∧ Below w.heap.size w w' := by
  obtain ⟨y, rfl, hy⟩ := h0
  obtain ⟨z, rfl, hz⟩ := h1
  obtain ⟨a, rfl⟩ := h2
  have b1 := bounds_u8 hy
  have b2 := bounds_u8 hz
  obtain ⟨m, rfl⟩ : ∃ m : Nat, y = m := ⟨y.toNat, by omega⟩
  obtain ⟨k, rfl⟩ : ∃ k : Nat, z = k := ⟨z.toNat, by omega⟩
  exact modeChanges_walk (alive8_c mpage_c manswer_c mselect_c) mpage_c mselect_c m k (by omega) (by omega) a w
end Go.Proofs.Ytcjdodkbnhkbiaa
