/- Contracts and plain facts; each states its conditions. -/
import Derived.Test.YtojbopibfflnoaaGreatPrW29
import Derived.Laws.Tables
import Derived.Great.BuildSlice
namespace Go.Proofs.YtojbopibfflnoaaGreat
set_option linter.unusedVariables false
set_option linter.unusedSimpArgs false
set_option maxHeartbeats 16000000
section
open Go Go.RowKit Go.Sort
theorem TI:(Tryz.prog.info? 55).map (·.size)=some 12:=by kernel_rfl
end
end Go.Proofs.YtojbopibfflnoaaGreat
