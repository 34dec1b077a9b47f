/- The contract of leb's ToText. -/
import Derived.Test.YtmobcabkaodjoaaY
namespace Go.Proofs.Ytmobcabkaodjoaa
set_option linter.unusedVariables false
open Go.RowKit

end Go.Proofs.Ytmobcabkaodjoaa
