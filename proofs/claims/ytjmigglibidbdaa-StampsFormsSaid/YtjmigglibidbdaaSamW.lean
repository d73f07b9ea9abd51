/- The reference's comparison of lists of numbers. Conditions: the slices read as numbers of 64 bits. -/
import Derived.Test.YtjmigglibidbdaaWdA
import Derived.Test.YtjmigglibidbdaaSamA
namespace Go.Proofs.Ytjmigglibidbdaa
set_option linter.unusedVariables false
set_option linter.unusedSimpArgs false
open Go Go.RowKit
end Go.Proofs.Ytjmigglibidbdaa
