/- Contracts and plain facts; each states its conditions. -/
import Derived.Test.YtojbopibfflnoaaGreatPrW39
import Derived.Test.YtojbopibfflnoaaGreatPrW44
import Derived.Test.YtojbopibfflnoaaGreatPrW45
import Derived.Shelf.Strconv.Itoa0
import Derived.Deep.RegionLaw
namespace Go.Proofs.YtojbopibfflnoaaGreat
set_option linter.unusedVariables false
set_option linter.unusedSimpArgs false
set_option maxHeartbeats 16000000
section
open Go Go.RowKit Go.Sort
theorem avv (eps:Int) (cs:List Sa):atU eps cs (uS eps cs) 0 0:=⟨Nat.zero_le _,Nat.zero_le _,awb eps cs⟩
theorem atU.next {eps:Int}{cs:List Sa}{ls:List wI}{k a:Nat} (h:atU eps cs ls k a) (aE:k<ls.length) :
 ∃ (n:Nat) (c:jH) (x:Sa),ls[k]?=some (n,x.2,c)∧cs[a]?=some x∧1≤n∧a+n≤cs.length∧atS eps x .op ((cs.drop (a+1)).take (n-1))=some c∧(k+1=ls.length→a+n=cs.length)∧(∀ y,cs[a+n]?=some y→kB c (mX eps x y)=none)∧atU eps cs ls (k+1) (a+n):=by
 obtain⟨h1,h2,h3⟩:=h;obtain⟨q,aO⟩:∃ q,ls[k]?=some q:=⟨ls[k],by simp[aE]⟩;obtain⟨n,v,c⟩:=q;have bk:ls.drop k=(n,v,c) :: ls.drop (k+1):=by
  rw[List.drop_eq_getElem_cons aE];rw[List.getElem?_eq_getElem aE] at aO;rw[Option.some.inj aO]
 rw[bk] at h3;cases hd:cs.drop a with
 | nil=>rw[hd] at h3;exact absurd h3 (by simp[atZ])
 | cons x l =>
  rw[hd] at h3;have ha:a<cs.length:=by
   rcases Nat.lt_or_ge a cs.length with h|h
   ·exact h
   ·rw[List.drop_eq_nil_of_le h] at hd;cases hd
  have auY:cs[a]?=some x∧cs.drop (a+1)=l:=by
   rw[List.drop_eq_getElem_cons ha] at hd;injection hd with p q
   exact⟨by rw[List.getElem?_eq_getElem ha,p],q⟩
  have zg:l.length=cs.length-a-1:=by rw[←auY.2,List.length_drop];omega
  simp only[atZ] at h3;obtain⟨g1,g2,g3,g4,g5,g6,g7⟩:=h3;subst g1;have qD:l.drop (n-1)=cs.drop (a+n):=by rw[←auY.2,List.drop_drop];congr 1;omega
  refine⟨n,c,x,aO,auY.1,g2,by omega,by rw[auY.2];exact g4,fun e=>?_,fun y hy=>?_,by omega,by omega,by rw[←qD];exact g7⟩
  ·have:=g5 (by rw[e];exact List.drop_length);omega
  ·have hn:a+n<cs.length:=by
    rcases Nat.lt_or_ge (a+n) cs.length with h|h
    ·exact h
    ·rw[List.getElem?_eq_none h] at hy;cases hy
   refine g6 y (cs.drop (a+n+1)) ?_;rw[qD,List.drop_eq_getElem_cons hn];rw[List.getElem?_eq_getElem hn] at hy;rw[Option.some.inj hy]
theorem avi {cs:List Sa} (h:jb cs) {a:Nat}{x:Sa} (hx:cs[a]?=some x):∀ y∈cs.drop (a+1),x.1<y.1:=by
 have hl:a<cs.length:=(List.getElem?_eq_some_iff.1 hx).1;have h2:=h.drop a;rw[List.drop_eq_getElem_cons hl] at h2;rw[List.getElem?_eq_getElem hl] at hx;rw[Option.some.inj hx] at h2;exact h2.lt
theorem atU.avo {cs:List Sa} (h:jb cs) {a j:Nat}{x q:Sa} (hx:cs[a]?=some x) (aO:cs[a+j]?=some q) (aN:1≤j):x.1<q.1:=by
 refine avi h hx q (List.mem_of_getElem? (i:=j-1) ?_);rw[List.getElem?_drop,show a+1+(j-1)=a+j by omega];exact aO
theorem avp {eps:Int}{x y:Sa}{c:jH} (he:o5 eps) (hx:pU x) (hy:pU y) (hl:x.1<y.1) (hc:nU c) {fo fd ft fm:Nat}
 (aL:∀ z,de z→∀ w,Calls Tryz.prog fo #[.int .i64 z] w (aP (.agg (dC z)) w)) (hd:∀ a b w,de a→de b→Calls Tryz.prog fd #[.int .i64 a,.int .i64 b] w (Cu (.int .u64 ((a-b).natAbs:Nat)) w)) (bd:I_ ft) (hm:I9 fm) :
 ∃ dt:Nat,(∀ w,Calls Tryz.prog fo #[.int .i64 x.2] w (aP (.agg (dC x.2)) w))∧(∀ w,Calls Tryz.prog fd #[.int .i64 y.1,.int .i64 x.1] w (aP (.int .u64 (dt:Int)) w))∧(∀ w,Calls Tryz.prog ft #[.agg (dC x.2),.int .i64 y.2,.int .i64 eps,.int .u64 (dt:Int)] w (aP (.tuple #[.agg (e4 (mX eps x y)),true]) w))∧(∀ w,Calls Tryz.prog fm #[.agg (e4 c),.agg (e4 (mX eps x y))] w (aP (.tuple #[.agg (xH (kB c (mX eps x y))),.bool (kB c (mX eps x y)).isSome]) w))∧(dt:Int)=y.1-x.1∧0<dt∧dt<18446744073709551616:=by
 obtain⟨⟨a,b⟩,az,d⟩:=hx;obtain⟨⟨e,f⟩,g1,g2⟩:=hy;have h2:=he.1;have h3:=he.2;have g:pV x.2 eps (y.1-x.1).natAbs:=⟨by omega,h2,h3,by omega⟩;have ee:((y.1-x.1).natAbs:Int)=y.1-x.1:=by omega
 refine⟨(y.1-x.1).natAbs,aL _ ⟨az,d⟩,akh fun w=>hd _ _ w ⟨e,f⟩ ⟨a,b⟩,fun w=>?_,hm _ _ hc (Wc he ⟨⟨a,b⟩,az,d⟩ ⟨⟨e,f⟩,g1,g2⟩ hl),ee,by omega,by omega⟩;have hF:b4 x.2:=by unfold b4;omega
 have:=bd x.2 y.2 eps (y.1-x.1).natAbs hF g1 g2 (by omega) (by omega) (by omega) w;have bd:rR x.2 y.2 eps (y.1-x.1).natAbs=e4 (mX eps x y):=by
  rw[show rR x.2 y.2 eps (y.1-x.1).natAbs=e4 (B1 x.2 y.2 eps ((y.1-x.1).natAbs:Int)) from if_pos g,ee];rfl
 rw[decide_eq_true g,bd] at this
 exact this
end
section
open Go Go.RowKit Go.Sort
theorem auH {aub:World}{b o:Nat}{cs:List Sa} (h:fK aub (some ⟨b,o,none⟩) cs) {j:Nat}{x:Sa} (aN:cs[j]?=some x) {zX:Nat} (hs:o+2*j=zX):(∀ w,Ext aub w→w.cell? ⟨b,zX,none⟩=some (.int .i64 x.1))∧(∀ w,Ext aub w→w.cell? ⟨b,zX+1,none⟩=some (.int .i64 x.2)):=by
 have hl:j<cs.length:=(List.getElem?_eq_some_iff.1 aN).1;have hd:cs.getD j (0,0)=x:=by rw[List.getD_eq_getElem?_getD,aN];rfl
 subst hs;have key:∀ w,Ext aub w→w.cell? ⟨b,o+2*j,none⟩=some (.int .i64 x.1)∧w.cell? ⟨b,o+(2*j+1),none⟩=some (.int .i64 x.2):=fun w hw=>by
  obtain⟨b',o',e,_,Bj⟩:=(h.ext hw).2.2 (by omega);cases e
  have:=Bj j hl;rw[hd] at this
  exact this
 exact⟨fun w hw=>(key w hw).1,fun w hw=>by rw[Nat.add_assoc];exact(key w hw).2⟩
theorem auG (b o n c:Nat) {j zX:Nat} (aN:j<n) (hs:o+2*j=zX) (w:World):(Instr.indexAt 46 (.slice (some ⟨b,o,none⟩) n c) (.int .i64 (j:Int))).run Tryz.prog w=.ok (.pointer (some ⟨b,zX,none⟩)) w:=by subst hs;exact G8 b o n c j aN w
theorem avm {aub:World}{b o:Nat}{ls:List gD} (h:eA.At aub (some ⟨b,o,none⟩) ls) {k:Nat}{x:gD} (aE:ls[k]?=some x) {nS:Nat} (hs:o+k*12=nS):(∀ w,Ext aub w→w.cell? ⟨b,nS,none⟩=some (.int .i64 x.1))∧(∀ w,Ext aub w→w.cell? ⟨b,nS+1,none⟩=some (.int .i64 x.2.1))∧(∀ w,Ext aub w→(Instr.loadAt 29 (.pointer (some ⟨b,nS+2,none⟩))).run Tryz.prog w=.ok (.agg (cJ x.2.2)) w)∧(∀ w,Ext aub w→(Instr.loadAt 55 (.pointer (some ⟨b,nS,none⟩))).run Tryz.prog w=.ok (.agg (fU x)) w):=by
 subst hs;have e:eA.enc x=[.int .i64 x.1,.int .i64 x.2.1]++(cJ x.2.2).toList:=by simp[eA,j_]
 refine⟨fun w hw=>?_,fun w hw=>?_,fun w hw=>?_,fun w hw=>?_⟩
 ·have:=(h.ext hw).row (E:=eA) aE 0 (.int .i64 x.1) (by rw[e];rfl);rw[Nat.add_zero] at this
  exact this
 ·have:=(h.ext hw).row (E:=eA) aE 1 (.int .i64 x.2.1) (by rw[e];rfl);rw[←Nat.add_assoc] at this
  exact this
 ·have:=(h.ext hw).part aE 29 tt rfl 2 (cJ x.2.2).toList (by rw[oP];rfl) (by rw[e];rfl);exact this
 ·have:=(h.ext hw).load aE HZ rfl;simpa [eA,fU] using this
theorem avl (b o n c:Nat) {k nS:Nat} (aE:k<n) (hs:o+k*12=nS) (w:World):(Instr.indexAt 49 (.slice (some ⟨b,o,none⟩) n c) (.int .i64 (k:Int))).run Tryz.prog w=.ok (.pointer (some ⟨b,nS,none⟩)) w:=by subst hs;exact eA.idx b o n c k aE w
theorem avw {A:Option Addr}{n c:Nat}{cs:List Sa}{eps:Int}{w:World} (hs:fK w A cs) (hl:cs.length=n) (hn:n≤30) (hi:jx (cs.map Prod.fst)=true) (he:o5 eps) :
 Calls Tryz.prog 17 #[.slice A n c,.int .i64 eps] w fun e w'=>∃ (B:Option Addr) (aC az:Nat),e=.returned (.tuple #[.slice B aC az,.int .i64 0])∧((uS eps cs).map gp).length=aC∧eA.At w' B ((uS eps cs).map gp)∧Ext w w':=by
 have h:=UR A n c cs eps w hs hl (by omega);have h0:mJ eps cs=0:=by
  unfold mJ;rw[if_pos ⟨he.1,he.2⟩,if_pos (by unfold lV;rw[if_pos hi]),if_neg (by omega)]
 have h1:o7 eps cs=(uS eps cs).map gp:=by unfold o7;rw[if_pos h0]
 rw[h0,h1] at h;exact h.mono fun e w' ⟨B,aC,az,a,_,b,o,x⟩=>⟨B,aC,az,b,a.symm,o.tp,x⟩
end
end Go.Proofs.YtojbopibfflnoaaGreat
