/- The negative of a Wide of the reference of layer 2. Conditions: the cells stand for a number. -/
import Derived.Test.YtjmigglibidbdaaMag1
import Derived.Deep.RegionWith
import Derived.Deep.DeepCutAuto
namespace Go.Proofs.Ytjmigglibidbdaa
set_option linter.unusedVariables false
set_option linter.unusedSimpArgs false
open Go Go.RowKit
end Go.Proofs.Ytjmigglibidbdaa
