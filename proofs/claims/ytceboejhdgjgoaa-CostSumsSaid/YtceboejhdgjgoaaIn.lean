/- Whether a number is in a list, by its contract. -/
import Derived.Test.YtceboejhdgjgoaaBase
import Derived.Test.YtceboejhdgjgoaaPlain
namespace Go.Proofs.Ytceboejhdgjgoaa
open Go.RowKit
set_option linter.unusedVariables false

end Go.Proofs.Ytceboejhdgjgoaa

