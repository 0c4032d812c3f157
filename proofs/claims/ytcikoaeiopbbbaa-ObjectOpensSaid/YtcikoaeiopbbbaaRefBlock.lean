/- Contracts of layer 2's reference: Why, Ones. -/
import Derived.Test.YtcikoaeiopbbbaaBlock4
import Derived.Test.YtcikoaeiopbbbaaWords2
namespace Go.Proofs.Ytcikoaeiopbbbaa
set_option linter.unusedVariables false
set_option linter.unusedSimpArgs false
open Go.RowKit
def whyE (b : Bool) : Int := if b then 0 else 2
end Go.Proofs.Ytcikoaeiopbbbaa
