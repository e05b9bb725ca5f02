import Derived.Test.YtfefnkeognccpaaRows
import Derived.WalkKit
import Derived.ProofKit
import Derived.OpenShut
import Derived.ShutString
import Derived.ChangeOld
import Derived.Below
import Derived.WalkLawsBesides
import Derived.WalkSpells
import Derived.Deep.QuietTactic
import Derived.BigQuiet
import Derived.Test.YtfefnkeognccpaaNum
namespace Go.Proofs.Ytfefnkeognccpaa
/-! All that the texts behind this one stand on. -/
end Go.Proofs.Ytfefnkeognccpaa
