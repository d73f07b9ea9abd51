/- The tape's Int. Conditions: the numbers of the tape lie in memory that was there. -/
import Derived.Test.YtnmkmjfehgmlkaaTapeB
namespace Go.Proofs.Ytnmkmjfehgmlkaa
set_option linter.unusedVariables false
set_option linter.unusedSimpArgs false
open Go Go.RowKit
theorem i64_wrap (x : Int) : I64 (wrap64 x) := by unfold I64; simp only [wrap64]; omega
end Go.Proofs.Ytnmkmjfehgmlkaa
