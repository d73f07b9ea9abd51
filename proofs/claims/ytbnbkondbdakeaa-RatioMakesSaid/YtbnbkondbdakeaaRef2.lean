/- Ceil of the reference of layer 3. Conditions: the cells stand for numbers. -/
import Derived.Test.YtbnbkondbdakeaaRef1
import Derived.Test.YtbnbkondbdakeaaRat3
import Derived.Test.YtbnbkondbdakeaaMagG
namespace Go.Proofs.Ytbnbkondbdakeaa
set_option linter.unusedVariables false
set_option linter.unusedSimpArgs false
open Go Go.RowKit
end Go.Proofs.Ytbnbkondbdakeaa
/- At of the reference of layer 3. Conditions: the cells stand for numbers; the factor is of 64 bits. -/
namespace Go.Proofs.Ytbnbkondbdakeaa
set_option linter.unusedVariables false
set_option linter.unusedSimpArgs false
open Go Go.RowKit
end Go.Proofs.Ytbnbkondbdakeaa
