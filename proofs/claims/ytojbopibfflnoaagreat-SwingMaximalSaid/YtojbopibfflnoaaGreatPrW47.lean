/- Contracts and plain facts; each states its conditions. -/
import Derived.Test.YtojbopibfflnoaaGreatPrW39
import Derived.Test.YtojbopibfflnoaaGreatPrW44
import Derived.Test.YtojbopibfflnoaaGreatPrW46
import Derived.Shelf.Strconv.Itoa0
namespace Go.Proofs.YtojbopibfflnoaaGreat
set_option linter.unusedVariables false
set_option linter.unusedSimpArgs false
set_option maxHeartbeats 16000000
section
open Go Go.RowKit Go.Sort
theorem av1:c9.size=21:=rfl
end
section
open Go Go.RowKit Go.Sort
theorem au' {eps:Int}{x:Sa}:∀ {l:List Sa}{bt c:jH}{n:Nat},atS eps x bt (l.take n)=some c→∀ i,i≤n→∃ c',atS eps x bt (l.take i)=some c'
 | _,bt,_,_,_,0,_=>⟨bt,by simp[atS]⟩
 | [],bt,_,_,_,_+1,_=>⟨bt,by simp[atS]⟩
 | y :: l,bt,c,0,_,i+1,h=>by omega
 | y :: l,bt,c,n+1,e,i+1,h=>by
  simp only[List.take_succ_cons,atS] at e ⊢;cases hm:kB bt (mX eps x y) with
  | none=>rw[hm] at e;cases e
  | some q=>rw[hm] at e;exact au' (l:=l) e i (by omega)
theorem avD {eps:Int}{x y:Sa}{l:List Sa}{i:Nat}{bt c:jH} (hy:l[i]?=some y) (h:atS eps x bt (l.take i)=some c):atS eps x bt (l.take (i+1))=kB c (mX eps x y):=by
 rw[List.take_add_one,hy,avb eps x _ _ _ _ h];simp only[Option.toList,atS];cases kB c (mX eps x y)<;>rfl
theorem awC {eps:Int} (he:o5 eps) {x:Sa}{l:List Sa}{c:jH} (hx:pU x) (aL:∀ y∈l,pU y) (hi:∀ y∈l,x.1<y.1) (h:atS eps x .op l=some c):nU c:=(avY he hx aL hi h).1
theorem atU.avq {eps:Int} (he:o5 eps) {cs:List Sa} (hi:jb cs) (aL:∀ x∈cs,pU x) {a n:Nat}{x:Sa}{c:jH} (hx:cs[a]?=some x) (h:atS eps x .op ((cs.drop (a+1)).take n)=some c):nU c:=
 awC he (aL x (List.mem_of_getElem? hx)) (fun y hy=>aL y (List.mem_of_mem_drop (List.mem_of_mem_take hy))) (fun y hy=>avi hi hx y (List.mem_of_mem_take hy)) h
end
end Go.Proofs.YtojbopibfflnoaaGreat
