import Derived.Test.YtoflkbilkkfekaaMAA
import Derived.Test.YtoflkbilkkfekaaWL9D
namespace Go.Proofs.Ytoflkbilkkfekaa
open Go.ChangeShapes Go.WideShapes Go.ChangeAt Go.RowKit
set_option linter.unusedVariables false
theorem capacityBack_ok (v0 v1 : Value) (w : World) (h0 : RInt .u16 v0) (h1 : RInt .u8 v1) :
    Calls Try.prog 4 #[v0, v1] w fun e w' => e = .returned (.bool true) ∧ Below w.heap.size w w' := by
  obtain ⟨a, rfl, ha⟩ := h0
  obtain ⟨b, rfl, hb⟩ := h1
  have h16 := bounds_u16 ha
  have h8 := bounds_u8 hb
  obtain ⟨x, rfl⟩ : ∃ x : Nat, a = x := ⟨a.toNat, by omega⟩
  obtain ⟨y, rfl⟩ : ∃ y : Nat, b = y := ⟨b.toNat, by omega⟩
  exact capacityBack_walk x y w (by omega) (by omega)
end Go.Proofs.Ytoflkbilkkfekaa
