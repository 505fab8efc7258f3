/- The comparison of two lists that are one, by its contract. -/
import Derived.Test.YtncmliojndgoiaaBase
namespace Go.Proofs.Ytncmliojndgoiaa
open Go.RowKit
set_option linter.unusedVariables false

end Go.Proofs.Ytncmliojndgoiaa

