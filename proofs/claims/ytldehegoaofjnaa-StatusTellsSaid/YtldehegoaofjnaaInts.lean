/- The comparison of two lists that are one, by its contract. -/
import Derived.Test.YtldehegoaofjnaaBase
namespace Go.Proofs.Ytldehegoaofjnaa
open Go.RowKit
set_option linter.unusedVariables false

end Go.Proofs.Ytldehegoaofjnaa

