/- The comparison of two lists that are one, by its contract. -/
import Derived.Test.YtceboejhdgjgoaaBase
namespace Go.Proofs.Ytceboejhdgjgoaa
open Go.RowKit
set_option linter.unusedVariables false

end Go.Proofs.Ytceboejhdgjgoaa

