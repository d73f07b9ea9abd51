/- Unsigned of the reference of layer 2. Conditions: the cells stand for a number. -/
import Derived.Test.YtjmigglibidbdaaMag1
namespace Go.Proofs.Ytjmigglibidbdaa
set_option linter.unusedVariables false
set_option linter.unusedSimpArgs false
open Go Go.RowKit
theorem rb2' {k : IntKind} {a a' : Int} {b b' : Bool} (h1 : a = a') (h2 : b = b') : Ending.returned (Value.tuple #[.int k a, .bool b]) = .returned (.tuple #[.int k a', .bool b']) := by rw [h1, h2]
def PairRet (k : IntKind) (x : Int) (b : Bool) (w : World) (e : Ending) (w' : World) : Prop := e = .returned (.tuple #[.int k x, .bool b]) ∧ Ext w w'
end Go.Proofs.Ytjmigglibidbdaa
