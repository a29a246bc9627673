import Derived.Test.YtklakdjkepfdmaaGreatDoorP04
set_option linter.unusedVariables false
namespace Go.Proofs.YtklakdjkepfdmaaGreatDoor.W
open Go.RowKit
end Go.Proofs.YtklakdjkepfdmaaGreatDoor.W
