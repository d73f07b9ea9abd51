/- The negative of a Wide of the reference of layer 2. Conditions: the cells stand for a number. -/
import Derived.Test.YtnmkmjfehgmlkaaMag1
import Derived.Deep.RegionWith
import Derived.Deep.DeepCutAuto
namespace Go.Proofs.Ytnmkmjfehgmlkaa
set_option linter.unusedVariables false
set_option linter.unusedSimpArgs false
open Go Go.RowKit
end Go.Proofs.Ytnmkmjfehgmlkaa
