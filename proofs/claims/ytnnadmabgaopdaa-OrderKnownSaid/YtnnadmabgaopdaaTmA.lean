/- Terms: how deep one is asked of. -/
import Derived.Test.YtnnadmabgaopdaaTmZ
namespace Go.Proofs.Ytnnadmabgaopdaa
open Go.RowKit
set_option linter.unusedVariables false

mutual
def deepT : Tm → Int → Bool
  | .mk _ _ _ ts, left => if left < 1 ∨ 12 < ts.length then true else deepsT ts (left - 1)
def deepsT : List Tm → Int → Bool
  | [], _ => false
  | x :: r, left => deepT x left || deepsT r left
end
end Go.Proofs.Ytnnadmabgaopdaa
