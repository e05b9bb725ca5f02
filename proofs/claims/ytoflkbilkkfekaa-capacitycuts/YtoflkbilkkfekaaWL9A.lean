import Derived.Test.YtoflkbilkkfekaaMAM
namespace Go.Proofs.Ytoflkbilkkfekaa
open Go.ChangeShapes Go.WideShapes Go.ChangeAt Go.RowKit
set_option linter.unusedVariables false
set_option linter.unusedSimpArgs false

/-! The fixed fact of layer 9. -/
theorem al9_1 : tenL 16 = [0, 0, 0, 15, 0, 0, 0, 64] := by decide +kernel
theorem al9_2 : cutL (sixL 258) 13 = [0, 0, 0, 0, 0, 0, 1, 1, 0, 0, 0, 64, 0] := by decide +kernel
theorem al9_3 : cutL (lunsL (cntN 2)) 100 = [0, 0, 0, 16, 0, 0, 0, 0, 0, 0, 0, 0, 0, 0, 0, 0, 0, 1, 0, 0, 0, 0, 0, 0] := by decide +kernel
set_option maxRecDepth 20000 in
set_option maxHeartbeats 4000000 in
theorem alive9_c (w : World) : Calls Try.prog 6 #[] w fun e w' => e = .returned (.bool true) ∧ Later w w' := by
  go_enter Try.func6, Try.ntmps6
  go_wp2_with fail
  refine (ten9_c 16 _).mono ?_
  rintro e w1 ⟨v1, rfl, hl, hv⟩
  rw [al9_1] at hv
  have g1 := hv.str
  have L1 := hide hl
  clear hl hv
  go_wp2_with fail
  refine (six9_c 258 13 (by decide) _).mono ?_
  rintro e w2 ⟨v2, rfl, hl, hv⟩
  rw [al9_2] at hv
  have g2 := hv.str
  have L2 := hide (L1.out.trans hl)
  clear hl hv g1 L1
  go_wp2_with fail
  refine (luns9_c 2 100 (by decide) _).mono ?_
  rintro e w3 ⟨v3, rfl, hl, hv⟩
  rw [al9_3] at hv
  have g3 := hv.str
  have L3 := hide (L2.out.trans hl)
  clear hl hv g2 L2
  go_wp2
  go_ret
  exact ⟨rfl, L3.out⟩
end Go.Proofs.Ytoflkbilkkfekaa
