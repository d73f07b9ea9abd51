/- Int64 of the reference of layer 2. Conditions: the cells stand for a number. -/
import Derived.Test.YthlficnmpgkceaaMagK
namespace Go.Proofs.Ythlficnmpgkceaa
set_option linter.unusedVariables false
set_option linter.unusedSimpArgs false
open Go Go.RowKit


end Go.Proofs.Ythlficnmpgkceaa
