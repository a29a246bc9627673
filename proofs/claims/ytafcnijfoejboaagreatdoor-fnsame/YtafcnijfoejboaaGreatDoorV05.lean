import Derived.Test.YtafcnijfoejboaaGreatDoorV04
set_option linter.unusedVariables false
namespace Go.Proofs.YtafcnijfoejboaaGreatDoor.W
open Go.RowKit
end Go.Proofs.YtafcnijfoejboaaGreatDoor.W
