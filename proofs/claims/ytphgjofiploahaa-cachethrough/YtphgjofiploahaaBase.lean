import Derived.Test.YtphgjofiploahaaRows
import Derived.WalkKit
import Derived.ProofKit
import Derived.OpenShut
import Derived.ShutString
import Derived.ChangeOld
import Derived.Below
import Derived.WalkLawsBesides
import Derived.WalkSpells
import Derived.Deep.QuietTactic
import Derived.BigQuiet
import Derived.Test.YtphgjofiploahaaNum
namespace Go.Proofs.Ytphgjofiploahaa
/-! All that the texts behind this one stand on. -/
end Go.Proofs.Ytphgjofiploahaa
