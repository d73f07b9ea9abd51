/- Int64 of the reference of layer 2. Conditions: the cells stand for a number. -/
import Derived.Test.YtdboaogdanahkaaMagK
namespace Go.Proofs.Ytdboaogdanahkaa
set_option linter.unusedVariables false
set_option linter.unusedSimpArgs false
open Go Go.RowKit


end Go.Proofs.Ytdboaogdanahkaa
