/- Layer 6: the laws' sanity check; CrcParts. Conditions: the slices read as bytes. -/
import Derived.Test.YtnmkmjfehgmlkaaCrc1
import Derived.Test.YtnmkmjfehgmlkaaConA
import Derived.Test.YtnmkmjfehgmlkaaTapS
import Derived.Test.YtnmkmjfehgmlkaaBase
namespace Go.Proofs.Ytnmkmjfehgmlkaa
set_option linter.unusedVariables false
set_option linter.unusedSimpArgs false
open Go Go.RowKit Go.Sort
theorem known_sum : (crcB 0#32 [49, 50, 51, 52, 53, 54, 55, 56, 57]).toNat = 3808858755 := by decide +kernel
end Go.Proofs.Ytnmkmjfehgmlkaa
