import Derived.Test.YtdplfflkmphpbaaGreatDoorV22
set_option linter.unusedVariables false
set_option linter.unusedSimpArgs false
namespace Go.Proofs.YtdplfflkmphpbaaGreatDoor.W
open Go.RowKit
end Go.Proofs.YtdplfflkmphpbaaGreatDoor.W
