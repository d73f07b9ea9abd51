/- The difference of two Wides of the reference of layer 2. Conditions: the cells stand for numbers. -/
import Derived.Test.YthlficnmpgkceaaMagH
import Derived.Test.YthlficnmpgkceaaMagG
namespace Go.Proofs.Ythlficnmpgkceaa
set_option linter.unusedVariables false
set_option linter.unusedSimpArgs false
open Go Go.RowKit
end Go.Proofs.Ythlficnmpgkceaa
