/- What the program and the reference say about fractions is the same: the laws' 'alike', and their sanity check. Conditions: the cells stand for numbers. -/
import Derived.Test.YtbnbkondbdakeaaFixR
namespace Go.Proofs.Ytbnbkondbdakeaa
set_option linter.unusedVariables false
set_option linter.unusedSimpArgs false
open Go Go.RowKit Go.Sort
theorem cellR {w : World} {a : Addr} {v : Value} (h : w.cell? a = some v) : ∀ (d : Nat) (os : Array Obj), (grow (redrawn w d) os).cell? a = some v := fun d os => cell_regrown h d os
end Go.Proofs.Ytbnbkondbdakeaa
