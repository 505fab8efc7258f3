/- Whether a number is in a list, by its contract. -/
import Derived.Test.YtldehegoaofjnaaBase
import Derived.Test.YtldehegoaofjnaaPlain
namespace Go.Proofs.Ytldehegoaofjnaa
open Go.RowKit
set_option linter.unusedVariables false

end Go.Proofs.Ytldehegoaofjnaa

