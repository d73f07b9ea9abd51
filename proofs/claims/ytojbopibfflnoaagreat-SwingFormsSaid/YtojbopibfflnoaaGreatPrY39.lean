/- Facts. -/
import Derived.Test.YtojbopibfflnoaaGreatPrY35
import Derived.Test.YtojbopibfflnoaaGreatPrY37
import Derived.Shelf.Strconv.Itoa0
namespace Go.Proofs.YtojbopibfflnoaaGreat
set_option linter.unusedVariables false
set_option linter.unusedSimpArgs false
set_option maxHeartbeats 16000000
section
theorem Mp:∀ l:List Sa,jb l↔jx (l.map Prod.fst)=true
 | []=>by simp[jb,jx]
 | [x]=>by simp[jb,jx]
 | x :: y :: l=>by
  have ih:=Mp (y :: l);unfold jb;rw[ih];unfold jx;simp only[decide_eq_true_eq,List.length_map,List.length_cons,List.map_cons];constructor
  ·rintro⟨h1,h2⟩ i hi;cases i with
   | zero=>simpa using h1
   | succ i=>simpa using h2 i (by omega)
  ·intro h;exact⟨by simpa using h 0 (by omega),fun i hi=>by simpa using h (i+1) (by omega)⟩
theorem CY(eps:Int):∀ (l:List Sa) (s:Option jc),(jl eps s l).length<=l.length
 | [],_=>Nat.le_refl _
 | x :: l,s=>by
  have h1:(gZ eps s x).2.length<=1:=by
   cases s with
   | none=>simp[gZ]
   | some s=>simp only[gZ];split<;>simp
  have:=CY eps l (gZ eps s x).1;simp only[jl,List.length_append,List.length_cons];omega
theorem abX{x:Sa}{l:List Sa}(h:jb (x :: l)){j:Nat}{y:Sa}(hy:l[j]?=some y):((((l.take j).getLast?).map (·.1)).getD x.1)<y.1:=by
 induction l generalizing x j with
 | nil=>simp at hy
 | cons z l ih =>
  cases j with
  | zero =>
   simp at hy;subst hy;simpa using h.1
  | succ j =>
   simp only[List.getElem?_cons_succ] at hy;have:=ih h.2 hy;simp only[List.take_succ_cons];have e:(z :: l.take j).getLast?.map (·.1)=some ((((l.take j).getLast?).map (·.1)).getD z.1):=by
    cases af:(l.take j).getLast? with
    | none =>
     have:l.take j=[]:=List.getLast?_eq_none_iff.1 af;rw[this];rfl
    | some w =>
     have:(z :: l.take j).getLast?=(l.take j).getLast?:=by
      cases hl:l.take j with
      | nil=>rw[hl] at af;simp at af
      | cons a b=>exact List.getLast?_cons_cons
     rw[this,af];rfl
   rw[e];exact this
theorem V2{eps:Int}(he:o5 eps){l:List Sa}(hi:jb l)(aL:∀ x∈l,pU x)(hn:l.length<=1073741824)(j:Nat)(aN:j<=l.length):mF (gS eps none (l.take j))/\∀ y,l[j]?=some y->∀ s',gS eps none (l.take j)=some s'->s'.last<y.1/\s'.count<1073741824:=by
 cases l with
 | nil =>
  simp only[List.take_nil];exact⟨trivial,fun y h=>by simp at h⟩
 | cons x l =>
  cases j with
  | zero=>exact⟨trivial,fun y _ s' h=>by simp[gS] at h⟩
  | succ j =>
   have hlen:(l.take j).length=j:=by simp at aN |-;omega
   have hit:∀ (m:List Sa),jb (x :: m)->∀ k,jb (m.take k):=by
    intro m hm k;have hb:jb m:=hm.tail;clear hm;induction m generalizing k with
    | nil=>simp[jb]
    | cons a m ih =>
     cases k with
     | zero=>simp[jb]
     | succ k =>
      cases m with
      | nil=>simp[jb]
      | cons b m =>
       cases k with
       | zero=>simp[jb]
       | succ k=>exact⟨hb.1,ih (k+1) hb.2⟩
   have cl:=jb.lt hi;simp at hn aN;obtain⟨s',bk,e2,fL,j4⟩:=V3 he (l.take j) (CG x) (Jz (aL x (by simp))) (hit l hi j) (fun y hy=>aL y (by simp[List.mem_of_mem_take hy])) (fun y hy=>cl y (List.mem_of_mem_take hy)) (by rw[hlen];show 1+j<=_;omega);have e:gS eps none ((x :: l).take (j+1))=some s':=bk;rw[e];refine⟨e2,fun y hy s h=>?_⟩;cases h
   simp only[List.getElem?_cons_succ] at hy;have jf:=(List.getElem?_eq_some_iff.1 hy).1;refine⟨?_,?_⟩
   ·rw[j4];exact abX hi hy
   ·rw[hlen] at fL;have:(CG x).count=1:=rfl;omega
def mJ(eps:Int)(l:List Sa):Int:=if 0<=eps/\eps<=4611686018427387904 then (if lV l=0 then (if 1073741824<l.length then 3 else 0) else 7) else 9
noncomputable def o7 (eps:Int) (l:List Sa):List gD:=if mJ eps l=0 then (uS eps l).map gp else []
theorem Rm(eps:Int)(l:List Sa):(uS eps l).map gp=(jl eps none l).map gp++(tP (gS eps none l)).map gp:=by
 unfold uS;rw[VM,List.map_append]
theorem RO(eps:Int){l:List Sa}{j:Nat}{y:Sa}(h:l[j]?=some y):(jl eps none (l.take (j+1))).map gp=(jl eps none (l.take j)).map gp++(gZ eps (gS eps none (l.take j)) y).2.map gp/\gS eps none (l.take (j+1))=(gZ eps (gS eps none (l.take j)) y).1:=by
 have e:l.take (j+1)=l.take j++[y]:=by
  rw[List.take_add_one,h];rfl
 obtain⟨h1,h2⟩:=RN eps (l.take j) none y;rw[e,h1,h2,List.map_append];exact⟨rfl,rfl⟩
def pZ:List Sa:=[(0,0),(1,10),(2,20),(3,31)]
theorem R4:lV pZ=0:=by
 unfold lV;rw[if_pos];unfold jx pZ;rw[decide_eq_true_iff];intro i hi;simp at hi;match i,hi with
 | 0,_=>decide
 | 1,_=>decide
 | 2,_=>decide
theorem abg:uS 0 pZ=[(3,0,.dU (10,1) (10,1)),(1,31,.op)]:=by kernel_rfl
theorem abh:(uS 1 pZ).map (·.1)=[4]:=by kernel_rfl
theorem Nu:okF (10,1):=by unfold okF iW;decide
theorem abl:qQ (.dU (10,1) (10,1))=(10,1):=by
 have hc:nU (.dU (10,1) (10,1)):=⟨Nu,Nu,by unfold jQ;decide⟩;obtain⟨h1,h2⟩:=Zm hc (V0 hc);exact(afX Nu h2 h1.1 h1.2).symm
theorem R2:mJ 0 pZ=0:=by unfold mJ;rw[if_pos (by omega),if_pos R4,if_neg (by decide)]
theorem R3:mJ 1 pZ=0:=by unfold mJ;rw[if_pos (by omega),if_pos R4,if_neg (by decide)]
theorem abe:o7 0 pZ=[(3,0,(10,1)),(1,31,qQ .op)]:=by
 unfold o7;rw[if_pos R2,abg];simp only[List.map_cons,List.map_nil,gp,abl];rfl
theorem abf:∃ v f,o7 1 pZ=[(4,v,f)]:=by
 unfold o7;rw[if_pos R3];have h:=abh;cases h1:uS 1 pZ with
 | nil=>rw[h1] at h;cases h
 | cons a r =>
  rw[h1] at h;simp only[List.map_cons,List.cons.injEq,List.map_eq_nil_iff] at h;obtain⟨h2,rfl⟩:=h;obtain⟨n,v,c⟩:=a;simp only at h2;subst h2;exact⟨v,qQ c,rfl⟩
end
end Go.Proofs.YtojbopibfflnoaaGreat
