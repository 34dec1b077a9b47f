/- The contract of leb's toText. -/
import Derived.Test.YtmobcabkaodjoaaE5
import Derived.Deep.RegionWith
namespace Go.Proofs.Ytmobcabkaodjoaa
set_option linter.unusedVariables false
open Go.RowKit

end Go.Proofs.Ytmobcabkaodjoaa
