/- Contracts and plain facts; each states its conditions. -/
import Derived.Test.YtojbopibfflnoaaGreatPrW46
import Derived.Shelf.Strconv.Itoa0
namespace Go.Proofs.YtojbopibfflnoaaGreat
set_option linter.unusedVariables false
set_option linter.unusedSimpArgs false
set_option maxHeartbeats 16000000
section
open Go Go.RowKit Go.Sort
theorem atU.end_ {eps:Int}{cs:List Sa}{ls:List wI}{k a:Nat} (h:atU eps cs ls k a) (aE:k=ls.length):a=cs.length:=by
 obtain⟨h1,h2,h3⟩:=h;rw[aE,List.drop_length] at h3;cases hd:cs.drop a with
 | nil=>have:=List.drop_eq_nil_iff.1 hd;omega
 | cons x l=>rw[hd] at h3;exact absurd h3 (by simp[atZ])
end
end Go.Proofs.YtojbopibfflnoaaGreat
