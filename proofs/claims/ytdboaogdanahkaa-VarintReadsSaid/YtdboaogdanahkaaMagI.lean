/- The difference of two Wides of the reference of layer 2. Conditions: the cells stand for numbers. -/
import Derived.Test.YtdboaogdanahkaaMagH
import Derived.Test.YtdboaogdanahkaaMagG
namespace Go.Proofs.Ytdboaogdanahkaa
set_option linter.unusedVariables false
set_option linter.unusedSimpArgs false
open Go Go.RowKit
end Go.Proofs.Ytdboaogdanahkaa
