/- Layer 6: the laws' sanity check; CrcParts. Conditions: the slices read as bytes. -/
import Derived.Test.YtjmigglibidbdaaCrc1
import Derived.Test.YtjmigglibidbdaaConA
import Derived.Test.YtjmigglibidbdaaTapS
import Derived.Test.YtjmigglibidbdaaBase
namespace Go.Proofs.Ytjmigglibidbdaa
set_option linter.unusedVariables false
set_option linter.unusedSimpArgs false
open Go Go.RowKit Go.Sort
theorem known_sum : (crcB 0#32 [49, 50, 51, 52, 53, 54, 55, 56, 57]).toNat = 3808858755 := by decide +kernel
end Go.Proofs.Ytjmigglibidbdaa
