import Derived.Test.YtlbomnnldkeocaaGreatI25
import Derived.Test.YtlbomnnldkeocaaGreatI00
set_option linter.unusedVariables false
set_option linter.unusedSimpArgs false
set_option maxHeartbeats 16000000
namespace Go.Proofs.YtlbomnnldkeocaaGreat.W
open Go.RowKit
end Go.Proofs.YtlbomnnldkeocaaGreat.W
