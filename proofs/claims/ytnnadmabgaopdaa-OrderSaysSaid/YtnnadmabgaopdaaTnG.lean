/- Package term: Items, walked. -/
import Derived.Test.YtnnadmabgaopdaaTnF
namespace Go.Proofs.Ytnnadmabgaopdaa
open Go.RowKit
set_option linter.unusedVariables false

end Go.Proofs.Ytnnadmabgaopdaa
