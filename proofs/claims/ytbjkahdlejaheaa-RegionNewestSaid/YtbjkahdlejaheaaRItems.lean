/- 'items': two rows of the same items. -/
import Derived.Test.YtbjkahdlejaheaaREq
import Derived.Deep.RegionHeld
set_option linter.unusedVariables false
set_option linter.unusedSimpArgs false
set_option maxRecDepth 100000
namespace Go.Proofs.Ytbjkahdlejaheaa
open Go.RowKit Go.Deep Math

end Go.Proofs.Ytbjkahdlejaheaa
