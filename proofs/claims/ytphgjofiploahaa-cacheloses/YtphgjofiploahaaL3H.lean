import Derived.Test.YtphgjofiploahaaP3g
import Derived.Test.YtphgjofiploahaaL3E
namespace Go.Proofs.Ytphgjofiploahaa
open Go.ChangeShapes Go.WideShapes Go.ChangeAt Go.RowKit

/-! The landed cache keeps the interface. -/
theorem cright_i : IRight := fun _ _ _ _ w h => cright_c w h
theorem cwrite_i : IWrite := fun v n F D at_ X th w h hX ha ha' => (cwrite_x v n F D at_ X th w h hX ha ha').mono fun _ _ ⟨v1, he, hl, hm, _⟩ => ⟨v1, he, hl, hm⟩
theorem alive3_ok : Alive3 := alive3_c cright_i cshow_c cwrite_i cflush3_c close3_c call3_c
end Go.Proofs.Ytphgjofiploahaa
