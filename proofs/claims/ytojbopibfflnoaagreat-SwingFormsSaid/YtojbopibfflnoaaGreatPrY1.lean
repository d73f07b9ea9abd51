/- Contracts and plain facts; each states its conditions. -/
import Derived.Test.YtojbopibfflnoaaGreatPrY0
import Derived.WalkKit
import Derived.Test.YtojbopibfflnoaaGreatProg
import Derived.WalkSmall
import Derived.Shelf.Spec.BitsCarry
import Derived.Laws.AppendOwnNone
import Derived.Deep.QuietTactic
import Derived.BigQuiet
import Derived.Deep.RegionWith
import Derived.Deep.RegionHeld3
import Derived.Deep.DeepCutAuto
namespace Go.Proofs.YtojbopibfflnoaaGreat
open Go renaming World → w1, Value → Ax, Calls → AA, bodyPost_ret → B7, heap_setCell_other → axd, heap_alloc_new → axe, TypeId → aw7, Operand → axb, Oper → aw4, Ending → axa, Addr → aw6
open _root_.Go.Proofs.Tryz renaming prog → CW
set_option linter.unusedVariables false
set_option linter.unusedSimpArgs false
set_option maxHeartbeats 16000000
section
open Go Go.RowKit
def val:List Nat->Nat
 | []=>0
 | x :: r=>x+18446744073709551616*val r
def cp(l:List Nat):Prop:=∀ x∈l,x<18446744073709551616
theorem wj(a b:List Nat):val (a++b)=val a+18446744073709551616 ^ a.length*val b:=by
 induction a with
 | nil=>simp[val]
 | cons x r ih=>simp only[List.cons_append,val,ih,List.length_cons,Nat.pow_succ];grind
theorem xS(a:List Nat)(x:Nat):val (a++[x])=val a+18446744073709551616 ^ a.length*x:=by rw[wj];simp[val]
theorem wk(a:List Nat)(h:cp a):val a<18446744073709551616 ^ a.length:=by
 induction a with
 | nil=>simp[val]
 | cons x r ih =>
  have h1:=ih (fun y hy=>h y (by simp[hy]));have h2:=h x (by simp);simp only[val,List.length_cons,Nat.pow_succ];omega
def bg(n:Nat):List Nat:=if h:n=0 then [] else n%18446744073709551616 :: bg (n / 18446744073709551616)
termination_by n
decreasing_by omega
theorem oh:bg 0=[]:=by rw[bg];simp
theorem tZ{n:Nat}(h:n≠0):bg n=n%18446744073709551616 :: bg (n / 18446744073709551616):=by rw[bg];simp[h]
theorem Hf{n:Nat}:bg n=[]↔n=0:=by
 constructor
 ·intro h;false_or_by_contra;rename_i h0;rw[tZ h0] at h;simp at h
 ·rintro rfl;exact oh
theorem jD(n:Nat):val (bg n)=n:=by
 induction n using Nat.strongRecOn with
 | ind n ih =>
  by_cases h:n=0
  ·subst h;rw[oh];rfl
  ·rw[tZ h,val,ih _ (by omega)];omega
theorem mS(n:Nat):cp (bg n):=by
 induction n using Nat.strongRecOn with
 | ind n ih =>
  by_cases h:n=0
  ·subst h;rw[oh];intro x hx;simp at hx
  ·rw[tZ h];intro x hx;rcases List.mem_cons.1 hx with rfl|hx
   ·omega
   ·exact ih _ (by omega) x hx
theorem MT(l:List Nat)(h:cp l)(bd:l.getLast?≠some 0):bg (val l)=l:=by
 induction l with
 | nil=>exact oh
 | cons x r ih =>
  have hx:=h x (by simp);have aD:r=[]\/r.getLast?≠some 0:=by
   cases r with
   | nil=>exact Or.inl rfl
   | cons y s=>right;simpa [List.getLast?_cons_cons] using bd
  have pv:val (x :: r)≠0:=by
   rcases aD with rfl|aD
   ·simp[val] at *;exact bd
   ·by_cases iz:r=[]
    ·subst iz;simp[val] at *;exact bd
    ·have h1:=ih (fun y hy=>h y (by simp[hy])) aD;have:val r≠0:=fun e=>iz (by rw[<-h1,e,oh])
     simp only[val];omega
  have hi:bg (val r)=r:=by
   rcases aD with rfl|aD
   ·exact oh
   ·exact ih (fun y hy=>h y (by simp[hy])) aD
  rw[tZ pv];simp only[val];rw[show (x+18446744073709551616*val r) / 18446744073709551616=val r by omega,hi,show (x+18446744073709551616*val r)%18446744073709551616=x by omega]
theorem af1(n:Nat):(bg n).getLast?≠some 0:=by
 induction n using Nat.strongRecOn with
 | ind n ih =>
  by_cases h:n=0
  ·subst h;rw[oh];simp
  ·rw[tZ h];by_cases h2:n / 18446744073709551616=0
   ·rw[h2,oh];simp;omega
   ·have:=ih (n / 18446744073709551616) (by omega);rw[tZ h2] at this |-
    rw[List.getLast?_cons_cons];exact this
theorem ka{n k:Nat}:(bg n).length<=k↔n<18446744073709551616 ^ k:=by
 induction k generalizing n with
 | zero=>simp[Hf]
 | succ k ih =>
  by_cases h:n=0
  ·subst h;simp[oh];exact Nat.pos_of_ne_zero (by simp[Nat.pow_eq_zero])
  ·rw[tZ h,List.length_cons,Nat.pow_succ,Nat.add_le_add_iff_right,ih];constructor
   ·intro h1;have:=Nat.div_add_mod n 18446744073709551616;omega
   ·intro h1;rw[Nat.div_lt_iff_lt_mul (by omega)];exact h1
theorem rT(l:List Nat)(k:Nat)(h:k<=l.length):val l=val (l.take k)+18446744073709551616 ^ k*val (l.drop k):=by
 have:=wj (l.take k) (l.drop k);rw[List.take_append_drop] at this
 rw[this,List.length_take,Nat.min_eq_left h]
theorem nD(l:List Nat)(k:Nat)(h:k<l.length):val (l.take (k+1))=val (l.take k)+18446744073709551616 ^ k*l[k]:=by
 rw[List.take_succ_eq_append_getElem h,xS,List.length_take,Nat.min_eq_left (by omega)]
theorem tu(l:List Nat)(k:Nat)(h:k<l.length):val (l.drop k)=l[k]+18446744073709551616*val (l.drop (k+1)):=by
 rw[List.drop_eq_getElem_cons h,val]
theorem um{l:List Nat}(h:cp l)(k:Nat):cp (l.take k):=fun x hx=>h x (List.mem_of_mem_take hx)
theorem Pv{l:List Nat}(h:cp l)(k:Nat):cp (l.drop k):=fun x hx=>h x (List.mem_of_mem_drop hx)
theorem jg{l:List Nat}(h:cp l)(k:Nat)(aE:k<l.length):l[k]<18446744073709551616:=h _ (List.getElem_mem _)
theorem Wf(a b:Int)(hb:b≠0):b*a.tdiv b+a.tmod b=a/\(a.tmod b).natAbs<b.natAbs/\(0<=a->0<=a.tmod b)/\(a<=0->a.tmod b<=0)/\(a.tdiv b).natAbs<=a.natAbs/\(2<=b.natAbs->2*(a.tdiv b).natAbs<=a.natAbs)/\(b=1->a.tdiv b=a)/\(b=-1->a.tdiv b=-a):=by
 have h1:=Int.mul_tdiv_add_tmod a b;have h2:=Int.natAbs_tmod a b;have h3:=Int.natAbs_tdiv a b;have h4:a.natAbs%b.natAbs<b.natAbs:=Nat.mod_lt _ (by omega);have h5:a.natAbs.div b.natAbs=a.natAbs / b.natAbs:=rfl;have h6:a.natAbs / b.natAbs<=a.natAbs:=Nat.div_le_self _ _;refine⟨h1,by omega,fun h=>Int.tmod_nonneg _ h,fun h=>?_,by omega,fun h=>?_,fun h=>by subst h;simp,fun h=>by subst h;simp[Int.tdiv_neg]⟩
 ·have:=Int.tmod_nonneg (a:=-a) b (by omega);rw[Int.neg_tmod] at this;omega
 ·have h7:b.natAbs*(a.natAbs / b.natAbs)<=a.natAbs:=Nat.mul_div_le _ _;have h8:2*(a.natAbs / b.natAbs)<=b.natAbs*(a.natAbs / b.natAbs):=Nat.mul_le_mul_right _ h;omega
theorem Er:(Tryz.prog.info? 24).map (fun i=>(i.zero,i.size,i.bytes))=some (some (.int .u64 0),1,8):=by kernel_rfl
def wd(l:List Nat):List Ax:=l.map fun x:Nat=>Value.int .u64 (x:Int)
def Words(B:Nat)(w:w1)(v:Ax)(l:List Nat):Prop:=w.ownsRow B 24 1 v l.length (wd l)/\cp l
def lenOf:Ax->Nat|.slice _ n _=>n|_=>0
theorem kD{k:IntKind}{a a':Int}(h1:a=a'):Ending.returned (Value.int k a)=.returned (.int k a'):=by rw[h1]
theorem hide{p:Prop}(h:p):Hid p:=h
theorem Nr{α:Type}(l:List α):l=[]\/∃ r x,l=r++[x]:=by
 rcases List.eq_nil_or_concat l with h|⟨r,x,h⟩
 ·exact Or.inl h
 ·exact Or.inr ⟨r,x,by rw[h,List.concat_eq_append]⟩
theorem Words.nil{B:Nat}{w:w1}{v:Ax}(h:Words B w v []):∃ a cap,v=.slice a 0 cap/\cap<=9223372036854775807:=by
 obtain⟨⟨_,h1|⟨g,cap,cur,e,h1⟩⟩,_⟩:=h
 ·exact⟨_,_,h1.1,by omega⟩
 ·refine⟨_,_,e,?_⟩;have:=h1.2.2.2.1;unfold maxLen at this;omega
theorem Words.pos{B:Nat}{w:w1}{v:Ax}{l:List Nat}(h:Words B w v l)(n:Nat)(hl:l.length=n)(h0:0<n):∃ g cap,v=.slice (some ⟨g,0,none⟩) n cap/\n<=cap/\cap<=9223372036854775807/\B<=g/\g<w.heap.size /\
 (∀ i (hi:i<l.length),w.cell? ⟨g,i,none⟩=some (.int .u64 (l[i]:Int)))/\∀ i,w.frozen? ⟨g,i,none⟩=false:=by
 subst hl;obtain⟨h,_⟩:=h;have hc:=h;obtain⟨_,h1|⟨g,cap,cur,rfl,hb,hh,hn,hm,_⟩⟩:=h
 ·omega
 ·refine⟨g,cap,rfl,hn,by unfold maxLen at hm;omega,hb,?_,fun i hi=>?_,fun i=>hc.frozenAt i⟩
  ·exact(hc.lt g rfl).2
  ·rw[hc.cellAt i (by omega)];simp[wd,hi]
theorem Words.pop{B:Nat}{w:w1}{g cap:Nat}{l:List Nat}{x:Nat}(h:Words B w (.slice (some ⟨g,0,none⟩) (l.length+1) cap) (l++[x])):Words B w (.slice (some ⟨g,0,none⟩) l.length cap) l:=by
 refine⟨ownsRow_pop (last:=[.int .u64 (x:Int)]) (by simp[wd]) ?_,fun y hy=>h.2 y (by simp[hy])⟩;have:=h.1;simpa [wd] using this
theorem Words.ext{B:Nat}{w w':w1}{v:Ax}{l:List Nat}(h:Words B w v l)(k:Below w.heap.size w w'):Words B w' v l:=by
 refine⟨?_,h.2⟩;obtain⟨h1,h2|⟨g,cap,cur,aF,af,hh,r⟩⟩:=h.1
 ·exact⟨h1,Or.inl h2⟩
 ·have cl:=(h.1.lt g (by rw[aF];rfl)).2;exact⟨h1,Or.inr ⟨g,cap,cur,aF,af,by rw[k.block g cl];exact hh,r⟩⟩
theorem Words.base{B fc:Nat}{w:w1}{v:Ax}{l:List Nat}(h:Words B w v l)(k:fc<=B):Words fc w v l:=by
 refine⟨?_,h.2⟩;obtain⟨h1,h2|⟨g,cap,cur,aF,af,r⟩⟩:=h.1
 ·exact⟨h1,Or.inl h2⟩
 ·exact⟨h1,Or.inr ⟨g,cap,cur,aF,by omega,r⟩⟩
def Ext(w w':w1):Prop:=Below w.heap.size w w'
theorem Ext.refl(w:w1):Ext w w:=Below.refl _ _
theorem Ext.trans{a b c:w1}(h:Ext a b)(k:Ext b c):Ext a c:=Below.trans h (Below.mono k h.size)
theorem nR(w:w1)(n:Nat):Ext w (w.drewN n):=⟨rfl,rfl,rfl,Nat.le_refl _,fun _ _=>rfl⟩
theorem b5(w:w1):Ext w w.drew:=⟨rfl,rfl,rfl,Nat.le_refl _,fun _ _=>rfl⟩
theorem aA(w:w1)(o:Obj):Ext w (w.alloc o):=(Below.refl _ _).alloc (Nat.le_refl _) o
def XG(B:Nat)(l:List Nat)(w:w1)(e:axa)(w':w1):Prop:=∃ v,e=.returned v/\Words B w' v l/\w=w'
theorem pI(B:Nat)(v:Ax)(l:List Nat)(w:w1)(h:Words B w v l):AA CW 84 #[v] w (XG B (bg (val l)) w):=by
 go_enter Tryz.func84,Tryz.ntmps84
 go_wp2_with fail
 go_loop [0] (fun v=>∃ m,Words B w v m/\val m=val l) (fun v=>lenOf v)
 case atStart=>exact⟨l,h,rfl⟩
 case round =>
  obtain⟨m,hm,e⟩:=hrel;rcases Nr m with rfl|⟨r,x,rfl⟩
  ·obtain⟨a,cap,rfl,_⟩:=hm.nil;go_wp2
   go_ret;exact⟨_,rfl,by rw[<-e];simpa [val,oh] using hm,rfl⟩
  ·obtain⟨g,cap,rfl,h1,h2,h3,h4,hc,hf⟩:=hm.pos (r.length+1) (by simp) (by omega);have hx:=hc r.length (by simp);rw[show (r++[x])[r.length]'(by simp)=x by simp] at hx;have L8:=hm.pop;clear hc hf;by_cases hz:x=0
   ·subst hz;have e2:val r=val l:=by rw[<-e,xS];simp
    have dc:=(show Hid _ from e2);clear e e2;go_wp2
    exact⟨⟨r,L8,dc.out⟩,by simp[lenOf]⟩
   ·have Ek:((x:Int)==0)=false:=by simp;omega
    have e2:bg (val (r++[x]))=r++[x]:=MT _ hm.2 (by simp[hz]);have dc:Hid (bg (val l)=r++[x]):=by rw[<-e];exact e2
    clear e e2;go_wp2
    go_ret;exact⟨_,rfl,by rw[dc.out];exact hm,rfl⟩
theorem Gj(l m:List Nat)(k:Nat)(h1:k<l.length)(h2:k<m.length)(hl:cp l)(he:l.drop (k+1)=m.drop (k+1))(hx:l[k]<m[k]):val l<val m:=by
 rw[rT l k (by omega),rT m k (by omega),tu l k h1,tu m k h2,he];have h3:=wk (l.take k) (um hl k);rw[List.length_take,Nat.min_eq_left (by omega)] at h3;have h4:18446744073709551616 ^ k*(l[k]+18446744073709551616*val (m.drop (k+1))+1)<=18446744073709551616 ^ k*(m[k]+18446744073709551616*val (m.drop (k+1))):=Nat.mul_le_mul_left _ (by omega);rw[Nat.mul_add _ _ 1] at h4;omega
theorem MS{n m:Nat}(h:(bg n).length<(bg m).length):n<m:=by
 have h1:=(ka (n:=n) (k:=(bg n).length)).1 (Nat.le_refl _);have h2:¬ m<18446744073709551616 ^ (bg n).length:=fun e=>by have:=ka.2 e;omega
 omega
def fM(n m:Nat):Int:=if n<m then -1 else if m<n then 1 else 0
def XF(k:Int)(w:w1)(e:axa)(w':w1):Prop:=e=.returned (.int .i64 k)/\Ext w w'
theorem Words.shape{B:Nat}{w:w1}{v:Ax}{l:List Nat}(h:Words B w v l)(n:Nat)(hl:l.length=n):∃ a cap,v=.slice a n cap/\n<=cap/\cap<=9223372036854775807 /\
 ∀ i (hi:i<l.length),∃ g,a=some ⟨g,0,none⟩/\B<=g/\g<w.heap.size/\w.cell? ⟨g,i,none⟩=some (.int .u64 (l[i]:Int)):=by
 subst hl;by_cases h0:0<l.length
 ·obtain⟨g,cap,rfl,h1,h2,h3,h4,hc,hf⟩:=h.pos _ rfl h0;exact⟨_,_,rfl,h1,h2,fun i hi=>⟨g,rfl,h3,h4,hc i hi⟩⟩
 ·have:l=[]:=List.eq_nil_of_length_eq_zero (by omega);subst this
  obtain⟨a,cap,rfl,h1⟩:=h.nil;exact⟨_,_,rfl,by simp,h1,fun i hi=>by simp at hi⟩
theorem CS(B C:Nat)(u v:Ax)(n m:Nat)(w:w1)(h:Words B w u (bg n))(k:Words C w v (bg m)) :
 AA CW 63 #[u,v] w (XF (fM n m) w):=by
 obtain⟨b9,gl⟩:=aM ((bg n).length);obtain⟨lb,iP⟩:=aM ((bg m).length);obtain⟨a,ca,rfl,a1,a2,p3⟩:=h.shape b9 gl;obtain⟨b,cb,rfl,bA,bX,mL⟩:=k.shape lb iP;have hd:b9<lb\/lb<b9\/b9=lb:=by omega
 rcases hd with hd|hd|rfl
 ·have H:fM n m=-1:=if_pos (MS (by omega));have bz:Hid (fM n m=-1):=H;clear H gl iP p3 mL h k;go_enter Tryz.func63,Tryz.ntmps63
  go_wp2
  go_ret;exact⟨kD bz.out.symm,Ext.refl _⟩
 ·have cl:m<n:=MS (by omega);have bz:Hid (fM n m=1):=by unfold Hid fM;rw[if_neg (by omega),if_pos cl]
  clear cl gl iP p3 mL h k;go_enter Tryz.func63,Tryz.ntmps63
  go_wp2
  go_ret;exact⟨kD bz.out.symm,Ext.refl _⟩
 ·have H1:Hid ((bg n).length=b9):=gl;have bz:Hid ((bg m).length=b9):=iP;have Qb:Hid (∀ i (hi:i<(bg n).length),∃ g,a=some ⟨g,0,none⟩/\B<=g/\g<w.heap.size/\w.cell? ⟨g,i,none⟩=some (.int .u64 ((bg n)[i]:Int))):=p3;have Qc:Hid (∀ i (hi:i<(bg m).length),∃ g,b=some ⟨g,0,none⟩/\C<=g/\g<w.heap.size/\w.cell? ⟨g,i,none⟩=some (.int .u64 ((bg m)[i]:Int))):=mL;clear gl iP p3 mL h k;go_enter Tryz.func63,Tryz.ntmps63
  go_wp2_with fail
  go_loopw [5] (fun i wr=>∃ k:Nat,i=.int .i64 ((k:Int)-1)/\k<=b9/\Hid ((bg n).drop k=(bg m).drop k)/\Ext w wr) (fun i _=>(intOf i+1).toNat)
  case atStart=>exact⟨b9,rfl,Nat.le_refl _,by unfold Hid;rw[List.drop_of_length_le (by rw[H1.out];omega),List.drop_of_length_le (by rw[bz.out];omega)],Ext.refl _⟩
  case round =>
   obtain⟨k,rfl,aE,eU,ad⟩:=hrel;by_cases qE:k=0
   ·subst qE;go_wp2
    go_ret;exact⟨kD (by have e:=eU.out;simp only[List.drop_zero] at e;have e2:=congrArg val e;rw[jD,jD] at e2;subst e2;simp[fM]),ad⟩
   ·obtain⟨j,rfl⟩:∃ j,k=j+1:=⟨k-1,by omega⟩;obtain⟨g,rfl,_,af,fZ⟩:=Qb.out j (by rw[H1.out];omega);obtain⟨g',rfl,_,G1,Gh⟩:=Qc.out j (by rw[bz.out];omega);have CP:wr.cell? ⟨g,j,none⟩=_:=(ad.cell (p:=⟨g,j,none⟩) af).trans fZ;have Zh:wr.cell? ⟨g',j,none⟩=_:=(ad.cell (p:=⟨g',j,none⟩) G1).trans Gh;obtain⟨x,hx⟩:=aM ((bg n)[j]'(by rw[H1.out];omega));obtain⟨y,hy⟩:=aM ((bg m)[j]'(by rw[bz.out];omega));rw[hx] at CP;rw[hy] at Zh;have bN:=show Hid ((bg n)[j]'(by rw[H1.out];omega)=x) from hx
    have gB:=show Hid ((bg m)[j]'(by rw[bz.out];omega)=y) from hy
    clear hx hy fZ Gh Qb Qc;have py:j<(bg n).length:=by rw[H1.out];omega
    have hK:j<(bg m).length:=by rw[bz.out];omega
    have gj:∀ q,Ext w (wr.drewN q):=fun q=>ad.trans (nR _ _)
    rcases(by omega:x<y\/y<x\/x=y) with j7|j7|j7
    ·have cz:Hid (fM n m=-1):=by
      have:=Gj (bg n) (bg m) j py hK (mS n) eU.out (by rw[bN.out,gB.out];exact j7);rw[jD,jD] at this
      exact if_pos this
     clear bN gB;go_wp2
     go_quiet (fail)
     go_wp2
     go_ret;exact⟨kD cz.out.symm,gj _⟩
    ·have cz:Hid (fM n m=1):=by
      have:=Gj (bg m) (bg n) j hK py (mS m) eU.out.symm (by rw[bN.out,gB.out];exact j7);rw[jD,jD] at this
      unfold Hid fM;rw[if_neg (by omega),if_pos this]
     clear bN gB;go_wp2
     go_quiet (fail)
     go_wp2
     go_quiet (fail)
     go_wp2
     go_ret;exact⟨kD cz.out.symm,(gj _).trans (nR _ _)⟩
    ·subst j7;have wC:Hid ((bg n).drop j=(bg m).drop j):=by
      unfold Hid;rw[List.drop_eq_getElem_cons py,List.drop_eq_getElem_cons hK,eU.out,bN.out,gB.out]
     clear bN gB;go_wp2
     go_quiet (fail)
     go_wp2
     go_quiet (fail)
     go_wp2
     go_roundw
     case rel=>exact⟨j,by go_num,by omega,wC,by first|exact gj _|exact(gj _).trans (nR _ _)⟩
     case measure=>first|(simp[intOf];done)|(simp[intOf];omega)
def b0(a b c d:Nat):Nat:=val [a,b,c,d]
def r6(B:Nat)(n:Nat)(w:w1)(e:axa)(w':w1):Prop:=∃ v,e=.returned v/\Words B w' v (bg n)/\Ext w w'
theorem Pw(B:Nat)(w:w1)(cur:Array Ax)(g n cap:Nat)(l:List Nat)(hn:l.length=n)(hl:cp l)(bF:B<=w.heap.size)(af:g=w.heap.size)(hc:n<=cap)(hm:cap<=maxLen)(hs:cur.size=cap)(bd:cur.toList.take l.length=wd l) :
 Words B (w.alloc (.cells cur 24)) (.slice (some ⟨g,0,none⟩) n cap) l:=by
 subst af;subst hn;exact⟨⟨by simp[wd],Or.inr ⟨w.heap.size,cap,cur,rfl,bF,axe w _,hc,hm,by omega,by simpa using bd⟩⟩,hl⟩
theorem Words.drew{B:Nat}{w:w1}{v:Ax}{l:List Nat}(h:Words B w v l):Words B w.drew v l:=h
theorem oR(B:Nat)(s:Bool)(a b c d:Nat)(w:w1)(bF:B<=w.heap.size)(ha:a<18446744073709551616)(hb:b<18446744073709551616)(hc:c<18446744073709551616)(hd:d<18446744073709551616) :
 AA CW 60 #[.agg #[.bool s,.int .u64 a,.int .u64 b,.int .u64 c,.int .u64 d]] w (r6 B (b0 a b c d) w):=by
 have apq:¬281474976710656<Builtin.nextslicecap 4 0*Tryz.t24.bytes:=by decide
 have hw:cp [a,b,c,d]:=by intro x hx;simp at hx;omega
 have g1:=grownCap_ge w 4 0 24;have g2:=grownCap_le_maxLen w 4 0 24 (by unfold maxLen;omega);have bk:((w.alloc (.cells #[.bool s,.int .u64 a,.int .u64 b,.int .u64 c,.int .u64 d] 27)).alloc (.cells #[] 24)).heap.size=w.heap.size+1+1:=by simp
 have hf:=Pw B ((w.alloc (.cells #[.bool s,.int .u64 a,.int .u64 b,.int .u64 c,.int .u64 d] 27)).alloc (.cells #[] 24))
  (#[.int .u64 a,.int .u64 b,.int .u64 c,.int .u64 d]++Builtin.zeroCells #[.int .u64 0] (grownCap w 4 0 24-4)) (w.heap.size+1+1) 4 (grownCap w 4 0 24) [a,b,c,d] rfl hw (by omega) bk.symm (by simpa using g1) g2 (by simp[size_zeroCells];omega) (by simp[wd])
 unfold grownCap at hf;have fg:=hide hf;clear hf bk g1 g2;go_enter Tryz.func60,Tryz.ntmps60
 go_wp2_with (go_at_call 84;refine(pI B _ [a,b,c,d] _ (Words.drew fg.out)).mono ?_;rintro e w' ⟨v,rfl,aF,rfl⟩)
 go_ret;exact⟨_,rfl,aF,(((aA _ _).trans (aA _ _)).trans (aA _ _)).trans (b5 _)⟩
theorem CA(x y c:Nat)(hc:c<=1)(w:w1):(callFunc 85 #[.int .u64 x,.int .u64 y,.int .u64 c]).run CW w =
 .ok (.value (.tuple #[.int .u64 (((x+y+c)%18446744073709551616:Nat):Int),.int .u64 (((x+y+c) / 18446744073709551616:Nat):Int)])) w:=by
 rw[run_callFunc_extern Tryz.func85 (by kernel_rfl) (by kernel_rfl) (by kernel_rfl) (e:=add64Entry) (by kernel_rfl),run_add64 x y c (by omega) (by omega) (by omega) (by omega)];simp only[Result.andThen];congr 5<;>omega
theorem HS(x y b:Nat)(hb:b<=1)(w:w1):(callFunc 86 #[.int .u64 x,.int .u64 y,.int .u64 b]).run CW w =
 .ok (.value (.tuple #[.int .u64 (((x+18446744073709551616-y-b)%18446744073709551616:Nat):Int),.int .u64 ((if x<y+b then 1 else 0:Nat):Int)])) w:=by
 rw[run_callFunc_extern Tryz.func86 (by kernel_rfl) (by kernel_rfl) (by kernel_rfl) (e:=sub64Entry) (by kernel_rfl),run_sub64 x y b hb];rfl
open Go Go.RowKit
theorem anm(a b:List Nat):wd (a++b)=wd a++wd b:=by simp[wd]
theorem anh{a b:List Nat}(h:cp a)(k:cp b):cp (a++b):=fun x hx=>by rcases List.mem_append.1 hx with h1|h1;exact h x h1;exact k x h1
theorem Gu{w w':w1}{row:Option Nat}(h:w.grownBy w' row)(aD:∀ k,row=some k->w.heap.size<=k):Ext w w':=(Below.refl _ _).grown h (Nat.le_refl _) aD
theorem AX{w:w1}{ops:Array aw4}{rest:List aw4}{o:aw4}{a:Act}{Q:Exit->Act->w1->Prop}(ky:o.guard=none)(s x:axb)
 (aL:o.op=.call { callee:=.builtin .append,args:=#[s,x],argTypes:=#[97,97] })
 (B C:Nat) (v u:Ax) (l m:List Nat) (hs:a.eval s=v) (hx:a.eval x=u) (h:Words B w v l) (k:Words C w u m) (bF:B<=w.heap.size) (hl:l.length+m.length<=1000000) (W:w1) (aK:Ext W w) (adN:W.heap.size<=B)
 (cQ:∀ v' w',Words B w' v' (l++m)->Ext W w'->wpList CW ops Q rest (a.put o.dst v') w'):wpList CW ops Q (o :: rest) a w:=by
 obtain⟨i0,hi,bf,l3,lz⟩:=info_parts Er;have hlen:(l++m).length=l.length+m.length:=by simp
 rcases k.1.2 with ⟨rfl,h0⟩|⟨g,cap,cur,rfl,af,hh,r⟩
 ·have hm:m=[]:=List.eq_nil_of_length_eq_zero (by omega);subst hm;exact wpList_append_own_none ky s x 97 aL B 24 i0 1 Tryz.underlying97 hi v l.length (wd l) hs h.1 hx (cQ _ _ (by simpa using h) aK)
 ·have hc:=k.1;refine wpList_append_own w ky s x 97 aL B 24 i0 (.int .u64 0) 1 8 Tryz.underlying97 hi bf l3 lz rfl (by decide) v l.length (wd l) hs h.1 ⟨g,0,none⟩ m.length cap (wd m) hx (by simp[wd]) ?_ ?_ (by unfold maxLen;omega) (by omega) bF ?_
  ·intro j y aN;have apA:j<m.length:=by
    have:=(List.getElem?_eq_some_iff.1 aN).1;simpa [wd] using this
   rw[<-aN];rw[<-hc.cellAt j (by omega)];by_cases rA:j=0
   ·subst rA;simp[Addr.add]
   ·simp[Addr.add,rA]
  ·intro y hy;simp only[wd,List.mem_map] at hy;obtain⟨z,_,rfl⟩:=hy;rfl
  ·intro v' w' h1 h2 _;exact cQ v' w' ⟨by rw[hlen,anm];exact h1,anh h.2 k.2⟩ (aK.grown h2 aK.size fun b hb=>Nat.le_trans adN (h.1.lt b hb).1)
theorem Ia(B:Nat)(w:w1)(g:Nat)(af:g=w.heap.size)(bF:B<=w.heap.size):Words B (w.alloc (.cells #[] 24)) (.slice (some ⟨g,0,none⟩) 0 0) []:=
 Pw B w #[] g 0 0 [] rfl (by intro x hx;simp at hx) bF af (by simp) (by unfold maxLen;omega) (by simp) (by simp[wd])
theorem Words.at{B:Nat}{w:w1}{a:Option aw6}{n cap:Nat}{l:List Nat}(h:Words B w (.slice a n cap) l)(i:Nat)(hi:i<l.length) :
 ∃ g,a=some ⟨g,0,none⟩/\B<=g/\g<w.heap.size/\w.cell? ⟨g,i,none⟩=some (.int .u64 (l[i]:Int))/\w.frozen? ⟨g,i,none⟩=false:=by
 obtain⟨g,Gf,e,_,_,h3,h4,hc,hf⟩:=h.pos _ rfl (by omega);injection e with bk e2 fL
 exact⟨g,bk,h3,h4,hc i hi,hf i⟩
theorem Words.set{B:Nat}{w:w1}{g n cap:Nat}{l:List Nat}(h:Words B w (.slice (some ⟨g,0,none⟩) n cap) l)(hn:l.length=n)(k x:Nat)(hx:x<18446744073709551616):Words B (w.setCell ⟨g,k,none⟩ (.int .u64 (x:Int))) (.slice (some ⟨g,0,none⟩) n cap) (l.set k x):=by
 subst hn;have h1:=(h.1.stored k (.int .u64 (x:Int))).1;refine⟨?_,?_⟩
 ·rw[List.length_set,show wd (l.set k x)=(wd l).set k (.int .u64 (x:Int)) by simp[wd,List.map_set]];exact h1
 ·intro y hy;rcases List.mem_or_eq_of_mem_set hy with h2|h2
  ·exact h.2 y h2
  ·omega
theorem ey{W w:w1}(h:Ext W w){g:Nat}(af:W.heap.size<=g)(k:Nat)(u:Ax):Ext W (w.setCell ⟨g,k,none⟩ u):=Below.setCell (p:=⟨g,k,none⟩) h af u
theorem Ad(l:List Nat)(k x:Nat)(h:k<l.length):val ((l.set k x).take (k+1))=val (l.take k)+18446744073709551616 ^ k*x:=by
 rw[nD _ k (by simpa using h),List.getElem_set_self,List.take_set_of_le (Nat.le_refl _)]
theorem drop_set(l:List Nat)(k x:Nat):(l.set k x).drop (k+1)=l.drop (k+1):=by rw[List.drop_set_of_lt (by omega)]
theorem Wm(l:List Nat)(k:Nat):val (l.take (k+1))=val (l.take k)+18446744073709551616 ^ k*l.getD k 0:=by
 by_cases h:k<l.length
 ·rw[nD l k h];simp[List.getD,h]
 ·rw[List.take_of_length_le (by omega),List.take_of_length_le (by omega)];simp[List.getD,show l.length<=k by omega]
theorem n4{l m:List Nat}{k:Nat}(h:l.drop k=m.drop k)(h1:k<l.length)(h2:k<m.length):l[k]=m[k]/\l.drop (k+1)=m.drop (k+1):=by
 rw[List.drop_eq_getElem_cons h1,List.drop_eq_getElem_cons h2] at h;injection h with h3 h4
 exact⟨h3,h4⟩
def oY(p q os:List Nat)(k c:Nat):Prop:=os.length=p.length/\os.drop k=p.drop k/\c<=1/\val (os.take k)+18446744073709551616 ^ k*c=val (p.take k)+val (q.take k)
theorem oY.step{p q os:List Nat}{k c:Nat}(h:oY p q os k c)(aE:k<p.length)(hp:cp p)(aO:cp q) :
 oY p q (os.set k ((p[k]+q.getD k 0+c)%18446744073709551616)) (k+1) ((p[k]+q.getD k 0+c) / 18446744073709551616):=by
 obtain⟨h1,h2,h3,h4⟩:=h;have hx:=jg hp k aE;have hy:q.getD k 0<18446744073709551616:=by
  by_cases qF:k<q.length
  ·have:=jg aO k qF;simp[List.getD,qF];exact this
  ·simp[List.getD,show q.length<=k by omega]
 refine⟨by simpa using h1,by rw[drop_set];exact(n4 h2 (by omega) aE).2,by omega,?_⟩;rw[Ad _ _ _ (by omega),nD p k aE,Wm q k,Nat.pow_succ];generalize p[k]=x at *;generalize q.getD k 0=y at *;have e:=Nat.div_add_mod (x+y+c) 18446744073709551616;generalize (x+y+c) / 18446744073709551616=d at *;generalize (x+y+c)%18446744073709551616=r at *;grind
theorem oY.done{p q os:List Nat}{c:Nat}(h:oY p q os p.length c)(aO:q.length<=p.length):val (os++[c])=val p+val q:=by
 obtain⟨h1,_,_,h4⟩:=h;rw[List.take_of_length_le (by omega),List.take_length,List.take_of_length_le aO] at h4;rw[xS,h1];exact h4
theorem Jp(x c:Nat)(hc:c<=1)(w:w1):(callFunc 85 #[.int .u64 x,.int .u64 0,.int .u64 c]).run CW w =
 .ok (.value (.tuple #[.int .u64 (((x+c)%18446744073709551616:Nat):Int),.int .u64 (((x+c) / 18446744073709551616:Nat):Int)])) w:=CA x 0 c hc w
theorem Ic(B:Nat)(w:w1)(c g:Nat)(af:g=w.heap.size)(bF:B<=w.heap.size)(hc:c<18446744073709551616):Words B (w.alloc (.cells #[c] 24)) (.slice (some ⟨g,0,none⟩) 1 1) [c]:=
 Pw B w #[.int .u64 (c:Int)] g 1 1 [c] rfl (by intro x hx;simp at hx;omega) bF af (by simp) (by unfold maxLen;omega) (by simp) (by simp[wd])
theorem X_(B C D:Nat)(u v:Ax)(n m:Nat)(w:w1)(h:Words C w u (bg n))(k:Words D w v (bg m))(bF:B<=w.heap.size)(hn:(bg n).length<=1000)(hm:(bg m).length<=1000)(cl:¬ (bg n).length<(bg m).length) :
 AA CW 62 #[u,v] w (r6 B (n+m) w):=by
 obtain⟨b9,gl⟩:=aM ((bg n).length);obtain⟨lb,iP⟩:=aM ((bg m).length);obtain⟨a,ca,rfl,a1,a2,_⟩:=h.shape b9 gl;obtain⟨b,cb,rfl,bA,bX,_⟩:=k.shape lb iP;rw[gl] at hn cl;rw[iP] at hm cl;have c0:=hide gl;have dx:=hide iP;have j0:=hide h;have ij:=hide k;have dc:=hide (Ia w.heap.size w w.heap.size rfl (Nat.le_refl _));clear gl iP h k;have pe:=hide (aA w (.cells #[] 24));have hS:=hide (Nat.le_succ w.heap.size);go_enter Tryz.func62,Tryz.ntmps62
 go_wp2_with (at_builtin;refine AX rfl (.tmp 16) (.tmp 17) rfl w.heap.size C _ _ [] (bg n) rfl rfl dc.out (j0.out.ext pe.out) (by simp) (by rw[c0.out];simp;omega) w pe.out (Nat.le_refl _) ?_;intro v1 aT l2 sE)
 have bV:=hide l2;obtain⟨CB,CN,rfl,_,aU,_⟩:=l2.shape b9 (by simpa using c0.out);clear l2;go_loopw [6,7] (fun t i wr=>∃ (k c:Nat) (os:List Nat),i=.int .i64 k/\t=.int .u64 c/\k<=b9/\c<=1/\Hid (oY (bg n) (bg m) os k c)/\Words w.heap.size wr (.slice CB b9 CN) os/\Ext w wr) (fun _ i _=>b9-(intOf i).toNat)
 case atStart=>exact⟨0,0,bg n,rfl,rfl,by omega,by omega,⟨rfl,rfl,by omega,by simp[val]⟩,by simpa using bV.out,sE⟩
 case round =>
  obtain⟨k,c,os,rfl,rfl,aE,hc,bq,aK,ad⟩:=hrel;have rF:os.length=b9:=by rw[bq.out.1];exact c0.out
  have bM:=hide rF;clear rF;by_cases dP:k<b9
  ·obtain⟨g,rfl,ga,af,fZ,lq⟩:=aK.at k (by rw[bM.out];exact dP);obtain⟨x,hx⟩:=aM (os[k]'(by rw[bM.out];exact dP));rw[hx] at fZ;have bN:Hid (x=(bg n)[k]'(by rw[c0.out];exact dP)):=by rw[<-hx];exact(n4 bq.out.2.1 (by rw[bM.out];exact dP) (by rw[c0.out];exact dP)).1
   clear hx;by_cases sK:k<lb
   ·obtain⟨gX,rfl,_,pj,cb,_⟩:=ij.out.at k (by rw[dx.out];exact sK);have CO:wr.cell? ⟨gX,k,none⟩=_:=(ad.cell (p:=⟨gX,k,none⟩) pj).trans cb;obtain⟨y,hy⟩:=aM ((bg m)[k]'(by rw[dx.out];exact sK));rw[hy] at CO;clear cb;have gB:Hid ((bg m).getD k 0=y):=by rw[<-hy];simp[Hid,List.getD,show k<(bg m).length by rw[dx.out];exact sK]
    clear hy;have p4:=CA x y c hc;have cG:Hid (oY (bg n) (bg m) (os.set k ((x+y+c)%18446744073709551616)) (k+1) ((x+y+c) / 18446744073709551616)):=by
     have:=bq.out.step (by rw[c0.out];exact dP) (mS n) (mS m);rw[<-bN.out,gB.out] at this
     exact this
    have iX:=aK.set bM.out k ((x+y+c)%18446744073709551616) (by omega);rw[show (((x+y+c)%18446744073709551616:Nat):Int)=((x:Int)+y+c)%18446744073709551616 by omega] at iX;have aB:=hide iX;clear iX;go_wp2
    exact⟨⟨k+1,_,_,by go_num,by go_num,by omega,cG.out.2.2.1,cG,aB.out,ey ad ga _ _⟩,by simp[intOf];omega⟩
   ·have gB:Hid ((bg m).getD k 0=0):=by simp[Hid,List.getD,show (bg m).length<=k by rw[dx.out];omega]
    have p4:=Jp x c hc;have cG:Hid (oY (bg n) (bg m) (os.set k ((x+0+c)%18446744073709551616)) (k+1) ((x+0+c) / 18446744073709551616)):=by
     have:=bq.out.step (by rw[c0.out];exact dP) (mS n) (mS m);rw[<-bN.out,gB.out] at this
     exact this
    have iX:=aK.set bM.out k ((x+0+c)%18446744073709551616) (by omega);rw[show (((x+0+c)%18446744073709551616:Nat):Int)=((x:Int)+c)%18446744073709551616 by omega] at iX;have aB:=hide iX;clear iX;go_wp2
    exact⟨⟨k+1,_,_,by go_num,by go_num,by omega,cG.out.2.2.1,cG,aB.out,ey ad ga _ _⟩,by simp[intOf];omega⟩
  ·obtain rfl:k=b9:=by omega
   have H1:Hid (val (os++[c])=n+m):=by
    have h1:=bq.out;rw[show k=(bg n).length from c0.out.symm] at h1;have:=h1.done (by rw[c0.out,dx.out];omega);rwa [jD,jD] at this
   have bz:=hide (Ic wr.heap.size wr c wr.heap.size rfl (Nat.le_refl _) (by omega));have gj:=hide (aA wr (.cells #[c] 24));go_wp2_with (first
    | (at_builtin;refine AX rfl (.tmp 46) (.tmp 48) rfl w.heap.size wr.heap.size _ _ os [c] rfl rfl (aK.ext gj.out) bz.out (Nat.le_trans ad.size gj.out.size) (by rw[bM.out];simp;omega) w (ad.trans gj.out) (Nat.le_refl _) ?_;intro v2 bp ly qA)
    | (go_at_call 84;refine(pI _ _ _ _ ly).mono ?_;rintro e w' ⟨v3,rfl,hM,rfl⟩))
   go_ret;exact⟨_,rfl,by rw[<-H1.out];exact hM.base bF,qA⟩
theorem X'(B C D:Nat)(u v:Ax)(n m:Nat)(w:w1)(h:Words C w u (bg n))(k:Words D w v (bg m))(bF:B<=w.heap.size)(hn:(bg n).length<=1000)(hm:(bg m).length<=1000)(cl:(bg m).length<(bg n).length) :
 AA CW 62 #[v,u] w (r6 B (n+m) w):=by
 obtain⟨b9,gl⟩:=aM ((bg n).length);obtain⟨lb,iP⟩:=aM ((bg m).length);obtain⟨a,ca,rfl,a1,a2,_⟩:=h.shape b9 gl;obtain⟨b,cb,rfl,bA,bX,_⟩:=k.shape lb iP;rw[gl] at hn cl;rw[iP] at hm cl;have c0:=hide gl;have dx:=hide iP;have j0:=hide h;have ij:=hide k;have dc:=hide (Ia w.heap.size w w.heap.size rfl (Nat.le_refl _));clear gl iP h k;have pe:=hide (aA w (.cells #[] 24));have hS:=hide (Nat.le_succ w.heap.size);go_enter Tryz.func62,Tryz.ntmps62
 go_wp2_with (at_builtin;refine AX rfl (.tmp 16) (.tmp 17) rfl w.heap.size C _ _ [] (bg n) rfl rfl dc.out (j0.out.ext pe.out) (by simp) (by rw[c0.out];simp;omega) w pe.out (Nat.le_refl _) ?_;intro v1 aT l2 sE)
 have bV:=hide l2;obtain⟨CB,CN,rfl,_,aU,_⟩:=l2.shape b9 (by simpa using c0.out);clear l2;go_loopw [6,7] (fun t i wr=>∃ (k c:Nat) (os:List Nat),i=.int .i64 k/\t=.int .u64 c/\k<=b9/\c<=1/\Hid (oY (bg n) (bg m) os k c)/\Words w.heap.size wr (.slice CB b9 CN) os/\Ext w wr) (fun _ i _=>b9-(intOf i).toNat)
 case atStart=>exact⟨0,0,bg n,rfl,rfl,by omega,by omega,⟨rfl,rfl,by omega,by simp[val]⟩,by simpa using bV.out,sE⟩
 case round =>
  obtain⟨k,c,os,rfl,rfl,aE,hc,bq,aK,ad⟩:=hrel;have rF:os.length=b9:=by rw[bq.out.1];exact c0.out
  have bM:=hide rF;clear rF;by_cases dP:k<b9
  ·obtain⟨g,rfl,ga,af,fZ,lq⟩:=aK.at k (by rw[bM.out];exact dP);obtain⟨x,hx⟩:=aM (os[k]'(by rw[bM.out];exact dP));rw[hx] at fZ;have bN:Hid (x=(bg n)[k]'(by rw[c0.out];exact dP)):=by rw[<-hx];exact(n4 bq.out.2.1 (by rw[bM.out];exact dP) (by rw[c0.out];exact dP)).1
   clear hx;by_cases sK:k<lb
   ·obtain⟨gX,rfl,_,pj,cb,_⟩:=ij.out.at k (by rw[dx.out];exact sK);have CO:wr.cell? ⟨gX,k,none⟩=_:=(ad.cell (p:=⟨gX,k,none⟩) pj).trans cb;obtain⟨y,hy⟩:=aM ((bg m)[k]'(by rw[dx.out];exact sK));rw[hy] at CO;clear cb;have gB:Hid ((bg m).getD k 0=y):=by rw[<-hy];simp[Hid,List.getD,show k<(bg m).length by rw[dx.out];exact sK]
    clear hy;have p4:=CA x y c hc;have cG:Hid (oY (bg n) (bg m) (os.set k ((x+y+c)%18446744073709551616)) (k+1) ((x+y+c) / 18446744073709551616)):=by
     have:=bq.out.step (by rw[c0.out];exact dP) (mS n) (mS m);rw[<-bN.out,gB.out] at this
     exact this
    have iX:=aK.set bM.out k ((x+y+c)%18446744073709551616) (by omega);rw[show (((x+y+c)%18446744073709551616:Nat):Int)=((x:Int)+y+c)%18446744073709551616 by omega] at iX;have aB:=hide iX;clear iX;go_wp2
    exact⟨⟨k+1,_,_,by go_num,by go_num,by omega,cG.out.2.2.1,cG,aB.out,ey ad ga _ _⟩,by simp[intOf];omega⟩
   ·have gB:Hid ((bg m).getD k 0=0):=by simp[Hid,List.getD,show (bg m).length<=k by rw[dx.out];omega]
    have p4:=Jp x c hc;have cG:Hid (oY (bg n) (bg m) (os.set k ((x+0+c)%18446744073709551616)) (k+1) ((x+0+c) / 18446744073709551616)):=by
     have:=bq.out.step (by rw[c0.out];exact dP) (mS n) (mS m);rw[<-bN.out,gB.out] at this
     exact this
    have iX:=aK.set bM.out k ((x+0+c)%18446744073709551616) (by omega);rw[show (((x+0+c)%18446744073709551616:Nat):Int)=((x:Int)+c)%18446744073709551616 by omega] at iX;have aB:=hide iX;clear iX;go_wp2
    exact⟨⟨k+1,_,_,by go_num,by go_num,by omega,cG.out.2.2.1,cG,aB.out,ey ad ga _ _⟩,by simp[intOf];omega⟩
  ·obtain rfl:k=b9:=by omega
   have H1:Hid (val (os++[c])=n+m):=by
    have h1:=bq.out;rw[show k=(bg n).length from c0.out.symm] at h1;have:=h1.done (by rw[c0.out,dx.out];omega);rwa [jD,jD] at this
   have bz:=hide (Ic wr.heap.size wr c wr.heap.size rfl (Nat.le_refl _) (by omega));have gj:=hide (aA wr (.cells #[c] 24));go_wp2_with (first
    | (at_builtin;refine AX rfl (.tmp 46) (.tmp 48) rfl w.heap.size wr.heap.size _ _ os [c] rfl rfl (aK.ext gj.out) bz.out (Nat.le_trans ad.size gj.out.size) (by rw[bM.out];simp;omega) w (ad.trans gj.out) (Nat.le_refl _) ?_;intro v2 bp ly qA)
    | (go_at_call 84;refine(pI _ _ _ _ ly).mono ?_;rintro e w' ⟨v3,rfl,hM,rfl⟩))
   go_ret;exact⟨_,rfl,by rw[<-H1.out];exact hM.base bF,qA⟩
theorem Vx(B C D:Nat)(u v:Ax)(n m:Nat)(w:w1)(h:Words C w u (bg n))(k:Words D w v (bg m))(bF:B<=w.heap.size)(hn:(bg n).length<=1000)(hm:(bg m).length<=1000) :
 AA CW 62 #[u,v] w (r6 B (n+m) w):=by
 by_cases hl:(bg n).length<(bg m).length
 ·rw[Nat.add_comm];exact X' B D C v u m n w k h bF hm hn hl
 ·exact X_ B C D u v n m w h k bF hn hm hl
open Go Go.RowKit
def tI(p q os:List Nat)(k c:Nat):Prop:=os.length=p.length/\os.drop k=p.drop k/\c<=1/\val (os.take k)+val (q.take k)=val (p.take k)+18446744073709551616 ^ k*c
theorem tI.step{p q os:List Nat}{k c:Nat}(h:tI p q os k c)(aE:k<p.length)(hp:cp p)(aO:cp q) :
 tI p q (os.set k ((p[k]+18446744073709551616-q.getD k 0-c)%18446744073709551616)) (k+1) (if p[k]<q.getD k 0+c then 1 else 0):=by
 obtain⟨h1,h2,h3,h4⟩:=h;have hx:=jg hp k aE;have hy:q.getD k 0<18446744073709551616:=by
  by_cases qF:k<q.length
  ·have:=jg aO k qF;simp[List.getD,qF];exact this
  ·simp[List.getD,show q.length<=k by omega]
 refine⟨by simpa using h1,by rw[drop_set];exact(n4 h2 (by omega) aE).2,by split<;>omega,?_⟩;rw[Ad _ _ _ (by omega),nD p k aE,Wm q k,Nat.pow_succ];generalize p[k]=x at *;generalize q.getD k 0=y at *;obtain⟨r,aD⟩:=aM ((x+18446744073709551616-y-c)%18446744073709551616);rw[aD];split
 ·have e:r+y+c=x+18446744073709551616:=by omega
  grind
 ·have e:r+y+c=x:=by omega
  grind
theorem tI.done{p q os:List Nat}{c:Nat}(h:tI p q os p.length c)(aO:q.length<=p.length)(aL:cp os)(hle:val q<=val p):val os=val p-val q:=by
 obtain⟨h1,_,h3,h4⟩:=h;rw[List.take_of_length_le (by omega),List.take_length,List.take_of_length_le aO] at h4;have h5:=wk os aL;rw[h1] at h5;have:c=0\/c=1:=by omega
 rcases this with rfl|rfl
 ·simp at h4;omega
 ·simp at h4;omega
theorem akV(x c:Nat)(hc:c<=1)(w:w1):(callFunc 86 #[.int .u64 x,.int .u64 0,.int .u64 c]).run CW w =
 .ok (.value (.tuple #[.int .u64 (((x+18446744073709551616-0-c)%18446744073709551616:Nat):Int),.int .u64 ((if x<0+c then 1 else 0:Nat):Int)])) w:=HS x 0 c hc w
theorem HM(B C D:Nat)(u v:Ax)(n m:Nat)(w:w1)(h:Words C w u (bg n))(k:Words D w v (bg m))(bF:B<=w.heap.size)(hn:(bg n).length<=1000)(hm:(bg m).length<=1000)(SW:m<=n) :
 AA CW 64 #[u,v] w (r6 B (n-m) w):=by
 obtain⟨b9,gl⟩:=aM ((bg n).length);obtain⟨lb,iP⟩:=aM ((bg m).length);obtain⟨a,ca,rfl,a1,a2,_⟩:=h.shape b9 gl;obtain⟨b,cb,rfl,bA,bX,_⟩:=k.shape lb iP;have cl:¬ b9<lb:=fun e=>by have:=MS (n:=n) (m:=m) (by omega);omega
 rw[gl] at hn;rw[iP] at hm;have c0:=hide gl;have dx:=hide iP;have j0:=hide h;have ij:=hide k;have dc:=hide (Ia w.heap.size w w.heap.size rfl (Nat.le_refl _));clear gl iP h k;have pe:=hide (aA w (.cells #[] 24));have hS:=hide (Nat.le_succ w.heap.size);go_enter Tryz.func64,Tryz.ntmps64
 go_wp2_with (at_builtin;refine AX rfl (.tmp 9) (.tmp 10) rfl w.heap.size C _ _ [] (bg n) rfl rfl dc.out (j0.out.ext pe.out) (by simp) (by rw[c0.out];simp;omega) w pe.out (Nat.le_refl _) ?_;intro v1 aT l2 sE)
 have bV:=hide l2;obtain⟨CB,CN,rfl,_,aU,_⟩:=l2.shape b9 (by simpa using c0.out);clear l2;go_loopw [6,7] (fun t i wr=>∃ (k c:Nat) (os:List Nat),i=.int .i64 k/\t=.int .u64 c/\k<=b9/\c<=1/\Hid (tI (bg n) (bg m) os k c)/\Words w.heap.size wr (.slice CB b9 CN) os/\Ext w wr) (fun _ i _=>b9-(intOf i).toNat)
 case atStart=>exact⟨0,0,bg n,rfl,rfl,by omega,by omega,⟨rfl,rfl,by omega,by simp[val]⟩,by simpa using bV.out,sE⟩
 case round =>
  obtain⟨k,c,os,rfl,rfl,aE,hc,bq,aK,ad⟩:=hrel;have rF:os.length=b9:=by rw[bq.out.1];exact c0.out
  have bM:=hide rF;clear rF;by_cases dP:k<b9
  ·obtain⟨g,rfl,ga,af,fZ,lq⟩:=aK.at k (by rw[bM.out];exact dP);obtain⟨x,hx⟩:=aM (os[k]'(by rw[bM.out];exact dP));rw[hx] at fZ;have bN:Hid (x=(bg n)[k]'(by rw[c0.out];exact dP)):=by rw[<-hx];exact(n4 bq.out.2.1 (by rw[bM.out];exact dP) (by rw[c0.out];exact dP)).1
   clear hx;by_cases sK:k<lb
   ·obtain⟨gX,rfl,_,pj,cb,_⟩:=ij.out.at k (by rw[dx.out];exact sK);have CO:wr.cell? ⟨gX,k,none⟩=_:=(ad.cell (p:=⟨gX,k,none⟩) pj).trans cb;obtain⟨y,hy⟩:=aM ((bg m)[k]'(by rw[dx.out];exact sK));rw[hy] at CO;clear cb;have gB:Hid ((bg m).getD k 0=y):=by rw[<-hy];simp[Hid,List.getD,show k<(bg m).length by rw[dx.out];exact sK]
    clear hy;have p4:=HS x y c hc;have cG:Hid (tI (bg n) (bg m) (os.set k ((x+18446744073709551616-y-c)%18446744073709551616)) (k+1) (if x<y+c then 1 else 0)):=by
     have:=bq.out.step (by rw[c0.out];exact dP) (mS n) (mS m);rw[<-bN.out,gB.out] at this
     exact this
    have iX:=aK.set bM.out k ((x+18446744073709551616-y-c)%18446744073709551616) (by omega);have aB:=hide iX;clear iX;go_wp2
    exact⟨⟨k+1,_,_,by go_num,by(first|rfl|go_num|simp),by omega,cG.out.2.2.1,cG,aB.out,ey ad ga _ _⟩,by first|(simp[intOf];done)|(simp[intOf];omega)⟩
   ·have gB:Hid ((bg m).getD k 0=0):=by simp[Hid,List.getD,show (bg m).length<=k by rw[dx.out];omega]
    have p4:=akV x c hc;have cG:Hid (tI (bg n) (bg m) (os.set k ((x+18446744073709551616-0-c)%18446744073709551616)) (k+1) (if x<0+c then 1 else 0)):=by
     have:=bq.out.step (by rw[c0.out];exact dP) (mS n) (mS m);rw[<-bN.out,gB.out] at this
     exact this
    have iX:=aK.set bM.out k ((x+18446744073709551616-0-c)%18446744073709551616) (by omega);have aB:=hide iX;clear iX;go_wp2
    exact⟨⟨k+1,_,_,by go_num,by(first|rfl|go_num|simp),by omega,cG.out.2.2.1,cG,aB.out,ey ad ga _ _⟩,by first|(simp[intOf];done)|(simp[intOf];omega)⟩
  ·obtain rfl:k=b9:=by omega
   have H1:Hid (val os=n-m):=by
    have h1:=bq.out;rw[show k=(bg n).length from c0.out.symm] at h1;have:=h1.done (by rw[c0.out,dx.out];omega) aK.2 (by rw[jD,jD];exact SW);rwa [jD,jD] at this
   go_wp2_with (go_at_call 84;refine(pI _ _ _ _ aK).mono ?_;rintro e w' ⟨v3,rfl,hM,rfl⟩)
   go_ret;exact⟨_,rfl,by rw[<-H1.out];exact hM.base bF,ad⟩
open Go Go.RowKit
def H_(s:Bool)(a b c d:Nat):Ax:=.agg #[.bool s,a,b,c,d]
def oQ(s:Bool)(n:Nat):Ax:=H_ s (n%18446744073709551616) (n / 18446744073709551616%18446744073709551616) (n / 340282366920938463463374607431768211456%18446744073709551616) (n / 6277101735386680763835789423207666416102355444464034512896%18446744073709551616)
theorem cell_of_block{w:w1}{b:Nat}{cur:Array Ax}{e:aw7}(h:w.heap[b]?=some (.cells cur e (0,0)))(i:Nat):w.cell? ⟨b,i,none⟩=cur[i]?:=by simp[World.cell?,h]
theorem gw{w:w1}{b:Nat}{cur:Array Ax}{e:aw7}(h:w.heap[b]?=some (.cells cur e (0,0)))(i:Nat):w.frozen? ⟨b,i,none⟩=false:=by simp[World.frozen?,h]
theorem Words.V7{B:Nat}{w:w1}{v:Ax}{l:List Nat}(h:Words B w v l){b:Nat}{cur:Array Ax}(hb:w.heap[b]?=some (.cells cur 27 (0,0)))(j:Nat)(u:Ax):Words B (w.setCell ⟨b,j,none⟩ u) v l:=by
 refine⟨?_,h.2⟩;obtain⟨h1,h2|⟨g,cap,c,aF,af,hh,r⟩⟩:=h.1
 ·exact⟨h1,Or.inl h2⟩
 ·have dB:g≠b:=by rintro rfl;rw[hh] at hb;simp at hb
  exact⟨h1,Or.inr ⟨g,cap,c,aF,af,by rw[axd w ⟨b,j,none⟩ g u dB];exact hh,r⟩⟩
theorem T3(n i:Nat):(bg n).getD i 0=n / 18446744073709551616 ^ i%18446744073709551616:=by
 induction i generalizing n with
 | zero =>
  by_cases h:n=0
  ·subst h;simp[oh]
  ·rw[tZ h];simp
 | succ i ih =>
  by_cases h:n=0
  ·subst h;simp[oh]
  ·rw[tZ h,List.getD_cons_succ,ih,Nat.div_div_eq_div_mul,Nat.pow_succ,Nat.mul_comm]
def g4(l:List Nat)(k i:Nat):Int:=if i<k then ((l.getD i 0:Nat):Int) else 0
def dJ(s:Bool)(l:List Nat)(k:Nat):Array Ax:=#[.bool s,.int .u64 (g4 l k 0),.int .u64 (g4 l k 1),.int .u64 (g4 l k 2),.int .u64 (g4 l k 3)]
theorem H8(s:Bool)(n:Nat):(Value.agg (dJ s (bg n) (bg n).length))=oQ s n:=by
 have af:∀ i,g4 (bg n) (bg n).length i=((n / 18446744073709551616 ^ i%18446744073709551616:Nat):Int):=by
  intro i;unfold g4;split
  ·rw[T3]
  ·rename_i h;rw[<-T3];simp[List.getD,show (bg n).length<=i by omega]
 unfold dJ oQ H_;rw[af 0,af 1,af 2,af 3];simp
theorem Wp(s:Bool)(l:List Nat)(k:Nat)(aE:k<4)(hl:k<l.length):(dJ s l k).setIfInBounds (k+1) (.int .u64 ((l[k]:Nat):Int))=dJ s l (k+1):=by
 have hd:l.getD k 0=l[k]:=by simp[List.getD,hl]
 have:k=0\/k=1\/k=2\/k=3:=by omega
 rcases this with rfl|rfl|rfl|rfl<;>simp[dJ,g4,<-hd,Array.setIfInBounds]
theorem Wq(s:Bool)(l:List Nat)(k:Nat)(aE:k<4):(dJ s l k)[k+1]?=some (.int .u64 0):=by
 have:k=0\/k=1\/k=2\/k=3:=by omega
 rcases this with rfl|rfl|rfl|rfl<;>simp[dJ,g4]
theorem kE{w:w1}{b:Nat}{cur:Array Ax}{e:aw7}(h:w.heap[b]?=some (.cells cur e (0,0)))(j:Nat)(u:Ax):(w.setCell ⟨b,j,none⟩ u).heap[b]?=some (.cells (cur.setIfInBounds j u) e (0,0)):=heap_setCell_same w b j cur e u h
theorem e1(w:w1)(o p:Obj):((w.alloc o).alloc p).heap[w.heap.size]?=some o/\((w.alloc o).alloc p).heap[w.heap.size+1]?=some p:=by
 have h1:=axe w o;have h2:=axe (w.alloc o) p;have h3:(w.alloc o).heap.size=w.heap.size+1:=by simp
 rw[h3] at h2;exact⟨(Below.heap_alloc (w.alloc o) p w.heap.size (by omega)).trans h1,h2⟩
def Rd(v:Ax)(o:Bool)(w:w1)(e:axa)(w':w1):Prop:=e=.returned (.tuple #[v,.bool o])/\Ext w w'
theorem anp(C:Nat)(s:Bool)(v:Ax)(l:List Nat)(n:Nat)(w:w1)(h:Words C w v l)(hn:val l=n)(hf:(bg n).length<=4) :
 AA CW 61 #[.bool s,v] w (Rd (oQ (s&&decide (n≠0)) n) true w):=by
 obtain⟨m,hm⟩:=aM (bg n);obtain⟨L,br⟩:=aM m.length;rw[hm,br] at hf;have dO:Hid (bg (val l)=m):=by rw[hn];exact hm
 have hW:=hide hm;have cz:=hide br;have hz:n=0↔L=0:=by rw[<-br,<-hm,List.length_eq_zero_iff,Hf]
 clear hm hn;have adJ:L=0\/0<L:=by omega
 cases s<;>rcases adJ with Be|Be
 ·subst Be;have hd:decide (n≠0)=false:=by simp;omega
  have eQ:Hid (oQ (false&&decide (n≠0)) n=oQ false n):=by rw[hd];exact rfl
  clear hd hz br;have sG:=hide (show ((w.alloc (.cells (dJ false [] 0) 27)).alloc (.cells (dJ false m 0) 27)).heap[w.heap.size]?=some (.cells (dJ false [] 0) 27 (0,0)) from(e1 _ _ _).1);have sH:=hide (show ((w.alloc (.cells (dJ false [] 0) 27)).alloc (.cells (dJ false m 0) 27)).heap[w.heap.size+1]?=some (.cells (dJ false m 0) 27 (0,0)) from(e1 _ _ _).2);have j6:=hide ((aA w (.cells (dJ false [] 0) 27)).trans (aA _ (.cells (dJ false m 0) 27)));have kI:Hid (bg n=m/\m.length=0):=⟨hW.out,cz.out⟩;go_enter Tryz.func61,Tryz.ntmps61
  go_wp2_with (go_at_call 84;refine(pI _ _ _ _ (h.ext (aA w _))).mono ?_;rintro e w' ⟨v3,rfl,hM,rfl⟩;rw[dO.out] at hM;obtain⟨a3,a_,rfl,xe,xg,_⟩:=hM.shape 0 cz.out)
  go_loopw [7] (fun i wr=>∃ k:Nat,i=.int .i64 k/\k<=0/\Hid (wr.heap[w.heap.size]?=some (.cells (dJ false [] 0) 27 (0,0)))/\Hid (wr.heap[w.heap.size+1]?=some (.cells (dJ false m k) 27 (0,0)))/\Words C wr (.slice a3 0 a_) m/\Ext w wr) (fun i _=>0-(intOf i).toNat)
  case atStart=>exact⟨0,rfl,by omega,sG,sH,hM.ext (aA _ _),j6.out⟩
  case round =>
   obtain⟨k,rfl,aE,eR,eS,aK,ad⟩:=hrel
   ·obtain rfl:k=0:=by omega
    have d0:=cell_of_block eR.out 0;have d1:=cell_of_block eR.out 1;have d2:=cell_of_block eR.out 2;have d3:=cell_of_block eR.out 3;have d4:=cell_of_block eR.out 4;have f0:=gw eR.out 0;have f1:=gw eR.out 1;have f2:=gw eR.out 2;have f3:=gw eR.out 3;have f4:=gw eR.out 4;have iJ:=cell_of_block eS.out 0;have bk:=cell_of_block eS.out 1;have e2:=cell_of_block eS.out 2;have fL:=cell_of_block eS.out 3;have j4:=cell_of_block eS.out 4;simp only[dJ] at d0 d1 d2 d3 d4 iJ bk e2 fL j4;go_wp2
    refine B7 (v:=.tuple #[.agg (dJ false m 0),true]) (by simp[results,Tryz.results61,go_sem,d0,d1,d2,d3,d4,dJ]) rfl ⟨?_,?_⟩
    ·have e:=kI.out;rw[eQ.out,<-H8,e.1,e.2]
    ·exact ey (ey (ey (ey (ey ad (Nat.le_refl _) _ _) (Nat.le_refl _) _ _) (Nat.le_refl _) _ _) (Nat.le_refl _) _ _) (Nat.le_refl _) _ _
 ·have hd:decide (n≠0)=true:=by simp;omega
  have eQ:Hid (oQ (false&&decide (n≠0)) n=oQ false n):=by rw[hd];exact rfl
  clear hd hz br;have sG:=hide (show ((w.alloc (.cells (dJ false [] 0) 27)).alloc (.cells (dJ false m 0) 27)).heap[w.heap.size]?=some (.cells (dJ false [] 0) 27 (0,0)) from(e1 _ _ _).1);have sH:=hide (show ((w.alloc (.cells (dJ false [] 0) 27)).alloc (.cells (dJ false m 0) 27)).heap[w.heap.size+1]?=some (.cells (dJ false m 0) 27 (0,0)) from(e1 _ _ _).2);have j6:=hide ((aA w (.cells (dJ false [] 0) 27)).trans (aA _ (.cells (dJ false m 0) 27)));have kI:Hid (bg n=m/\m.length=L):=⟨hW.out,cz.out⟩;go_enter Tryz.func61,Tryz.ntmps61
  go_wp2_with (go_at_call 84;refine(pI _ _ _ _ (h.ext (aA w _))).mono ?_;rintro e w' ⟨v3,rfl,hM,rfl⟩;rw[dO.out] at hM;obtain⟨a3,a_,rfl,xe,xg,_⟩:=hM.shape L cz.out)
  go_loopw [7] (fun i wr=>∃ k:Nat,i=.int .i64 k/\k<=L/\Hid (wr.heap[w.heap.size]?=some (.cells (dJ false [] 0) 27 (0,0)))/\Hid (wr.heap[w.heap.size+1]?=some (.cells (dJ false m k) 27 (0,0)))/\Words C wr (.slice a3 L a_) m/\Ext w wr) (fun i _=>L-(intOf i).toNat)
  case atStart=>exact⟨0,rfl,by omega,sG,sH,hM.ext (aA _ _),j6.out⟩
  case round =>
   obtain⟨k,rfl,aE,eR,eS,aK,ad⟩:=hrel;by_cases dP:k<L
   ·obtain⟨g,rfl,ga,af,fZ,lq⟩:=aK.at k (by rw[kI.out.2];exact dP);have cG:Hid ((dJ false m k).setIfInBounds (k+1) (.int .u64 ((m[k]'(by rw[kI.out.2];exact dP):Nat):Int))=dJ false m (k+1)):=Wp false m k (by omega) (by rw[kI.out.2];exact dP);obtain⟨x,hx⟩:=aM (m[k]'(by rw[kI.out.2];exact dP));rw[hx] at fZ cG;clear hx;have ad4:=gw eS.out (k+1);have e5:1+k=k+1:=by omega
    have vC:(k:Int)<4:=by omega
    have adT:wr.cell? ⟨w.heap.size+1,k+1,none⟩=some (.int .u64 0):=by rw[cell_of_block eS.out,Wq _ _ _ (by omega)]
    have cK:=hide (show (wr.setCell ⟨w.heap.size+1,k+1,none⟩ (.int .u64 (x:Int))).heap[w.heap.size]?=some (.cells (dJ false [] 0) 27 (0,0)) from(axd wr ⟨w.heap.size+1,k+1,none⟩ w.heap.size _ (by simp)).trans eR.out);have H1:Hid ((wr.setCell ⟨w.heap.size+1,k+1,none⟩ (.int .u64 (x:Int))).heap[w.heap.size+1]?=some (.cells (dJ false m (k+1)) 27 (0,0))):=by rw[<-cG.out];exact kE eS.out _ _
    have aB:=hide (aK.V7 eS.out (k+1) (.int .u64 (x:Int)));have dc:=hide (ey ad (g:=w.heap.size+1) (by omega) (k+1) (.int .u64 (x:Int)));go_wp2
    exact⟨⟨k+1,by go_num,by omega,cK,H1,aB.out,dc.out⟩,by simp[intOf];omega⟩
   ·obtain rfl:k=L:=by omega
    have d0:=cell_of_block eR.out 0;have d1:=cell_of_block eR.out 1;have d2:=cell_of_block eR.out 2;have d3:=cell_of_block eR.out 3;have d4:=cell_of_block eR.out 4;have f0:=gw eR.out 0;have f1:=gw eR.out 1;have f2:=gw eR.out 2;have f3:=gw eR.out 3;have f4:=gw eR.out 4;have iJ:=cell_of_block eS.out 0;have bk:=cell_of_block eS.out 1;have e2:=cell_of_block eS.out 2;have fL:=cell_of_block eS.out 3;have j4:=cell_of_block eS.out 4;simp only[dJ] at d0 d1 d2 d3 d4 iJ bk e2 fL j4;go_wp2
    refine B7 (v:=.tuple #[.agg (dJ false m k),true]) (by simp[results,Tryz.results61,go_sem,d0,d1,d2,d3,d4,dJ]) rfl ⟨?_,?_⟩
    ·have e:=kI.out;rw[eQ.out,<-H8,e.1,e.2]
    ·exact ey (ey (ey (ey (ey ad (Nat.le_refl _) _ _) (Nat.le_refl _) _ _) (Nat.le_refl _) _ _) (Nat.le_refl _) _ _) (Nat.le_refl _) _ _
 ·subst Be;have hd:decide (n≠0)=false:=by simp;omega
  have eQ:Hid (oQ (true&&decide (n≠0)) n=oQ false n):=by rw[hd];exact rfl
  clear hd hz br;have sG:=hide (show ((w.alloc (.cells (dJ false [] 0) 27)).alloc (.cells (dJ false m 0) 27)).heap[w.heap.size]?=some (.cells (dJ false [] 0) 27 (0,0)) from(e1 _ _ _).1);have sH:=hide (show ((w.alloc (.cells (dJ false [] 0) 27)).alloc (.cells (dJ false m 0) 27)).heap[w.heap.size+1]?=some (.cells (dJ false m 0) 27 (0,0)) from(e1 _ _ _).2);have j6:=hide ((aA w (.cells (dJ false [] 0) 27)).trans (aA _ (.cells (dJ false m 0) 27)));have kI:Hid (bg n=m/\m.length=0):=⟨hW.out,cz.out⟩;go_enter Tryz.func61,Tryz.ntmps61
  go_wp2_with (go_at_call 84;refine(pI _ _ _ _ (h.ext (aA w _))).mono ?_;rintro e w' ⟨v3,rfl,hM,rfl⟩;rw[dO.out] at hM;obtain⟨a3,a_,rfl,xe,xg,_⟩:=hM.shape 0 cz.out)
  go_loopw [7] (fun i wr=>∃ k:Nat,i=.int .i64 k/\k<=0/\Hid (wr.heap[w.heap.size]?=some (.cells (dJ false [] 0) 27 (0,0)))/\Hid (wr.heap[w.heap.size+1]?=some (.cells (dJ false m k) 27 (0,0)))/\Words C wr (.slice a3 0 a_) m/\Ext w wr) (fun i _=>0-(intOf i).toNat)
  case atStart=>exact⟨0,rfl,by omega,sG,sH,hM.ext (aA _ _),j6.out⟩
  case round =>
   obtain⟨k,rfl,aE,eR,eS,aK,ad⟩:=hrel
   ·obtain rfl:k=0:=by omega
    have d0:=cell_of_block eR.out 0;have d1:=cell_of_block eR.out 1;have d2:=cell_of_block eR.out 2;have d3:=cell_of_block eR.out 3;have d4:=cell_of_block eR.out 4;have f0:=gw eR.out 0;have f1:=gw eR.out 1;have f2:=gw eR.out 2;have f3:=gw eR.out 3;have f4:=gw eR.out 4;have iJ:=cell_of_block eS.out 0;have bk:=cell_of_block eS.out 1;have e2:=cell_of_block eS.out 2;have fL:=cell_of_block eS.out 3;have j4:=cell_of_block eS.out 4;simp only[dJ] at d0 d1 d2 d3 d4 iJ bk e2 fL j4;go_wp2
    refine B7 (v:=.tuple #[.agg (dJ false m 0),true]) (by simp[results,Tryz.results61,go_sem,d0,d1,d2,d3,d4,dJ]) rfl ⟨?_,?_⟩
    ·have e:=kI.out;rw[eQ.out,<-H8,e.1,e.2]
    ·exact ey (ey (ey (ey (ey ad (Nat.le_refl _) _ _) (Nat.le_refl _) _ _) (Nat.le_refl _) _ _) (Nat.le_refl _) _ _) (Nat.le_refl _) _ _
 ·have hd:decide (n≠0)=true:=by simp;omega
  have eQ:Hid (oQ (true&&decide (n≠0)) n=oQ true n):=by rw[hd];exact rfl
  clear hd hz br;have sG:=hide (show ((w.alloc (.cells (dJ false [] 0) 27)).alloc (.cells (dJ true m 0) 27)).heap[w.heap.size]?=some (.cells (dJ false [] 0) 27 (0,0)) from(e1 _ _ _).1);have sH:=hide (show ((w.alloc (.cells (dJ false [] 0) 27)).alloc (.cells (dJ true m 0) 27)).heap[w.heap.size+1]?=some (.cells (dJ true m 0) 27 (0,0)) from(e1 _ _ _).2);have j6:=hide ((aA w (.cells (dJ false [] 0) 27)).trans (aA _ (.cells (dJ true m 0) 27)));have kI:Hid (bg n=m/\m.length=L):=⟨hW.out,cz.out⟩;go_enter Tryz.func61,Tryz.ntmps61
  go_wp2_with (go_at_call 84;refine(pI _ _ _ _ (h.ext (aA w _))).mono ?_;rintro e w' ⟨v3,rfl,hM,rfl⟩;rw[dO.out] at hM;obtain⟨a3,a_,rfl,xe,xg,_⟩:=hM.shape L cz.out)
  go_loopw [7] (fun i wr=>∃ k:Nat,i=.int .i64 k/\k<=L/\Hid (wr.heap[w.heap.size]?=some (.cells (dJ false [] 0) 27 (0,0)))/\Hid (wr.heap[w.heap.size+1]?=some (.cells (dJ true m k) 27 (0,0)))/\Words C wr (.slice a3 L a_) m/\Ext w wr) (fun i _=>L-(intOf i).toNat)
  case atStart=>exact⟨0,rfl,by omega,sG,sH,hM.ext (aA _ _),j6.out⟩
  case round =>
   obtain⟨k,rfl,aE,eR,eS,aK,ad⟩:=hrel;by_cases dP:k<L
   ·obtain⟨g,rfl,ga,af,fZ,lq⟩:=aK.at k (by rw[kI.out.2];exact dP);have cG:Hid ((dJ true m k).setIfInBounds (k+1) (.int .u64 ((m[k]'(by rw[kI.out.2];exact dP):Nat):Int))=dJ true m (k+1)):=Wp true m k (by omega) (by rw[kI.out.2];exact dP);obtain⟨x,hx⟩:=aM (m[k]'(by rw[kI.out.2];exact dP));rw[hx] at fZ cG;clear hx;have ad4:=gw eS.out (k+1);have e5:1+k=k+1:=by omega
    have vC:(k:Int)<4:=by omega
    have adT:wr.cell? ⟨w.heap.size+1,k+1,none⟩=some (.int .u64 0):=by rw[cell_of_block eS.out,Wq _ _ _ (by omega)]
    have cK:=hide (show (wr.setCell ⟨w.heap.size+1,k+1,none⟩ (.int .u64 (x:Int))).heap[w.heap.size]?=some (.cells (dJ false [] 0) 27 (0,0)) from(axd wr ⟨w.heap.size+1,k+1,none⟩ w.heap.size _ (by simp)).trans eR.out);have H1:Hid ((wr.setCell ⟨w.heap.size+1,k+1,none⟩ (.int .u64 (x:Int))).heap[w.heap.size+1]?=some (.cells (dJ true m (k+1)) 27 (0,0))):=by rw[<-cG.out];exact kE eS.out _ _
    have aB:=hide (aK.V7 eS.out (k+1) (.int .u64 (x:Int)));have dc:=hide (ey ad (g:=w.heap.size+1) (by omega) (k+1) (.int .u64 (x:Int)));go_wp2
    exact⟨⟨k+1,by go_num,by omega,cK,H1,aB.out,dc.out⟩,by simp[intOf];omega⟩
   ·obtain rfl:k=L:=by omega
    have d0:=cell_of_block eR.out 0;have d1:=cell_of_block eR.out 1;have d2:=cell_of_block eR.out 2;have d3:=cell_of_block eR.out 3;have d4:=cell_of_block eR.out 4;have f0:=gw eR.out 0;have f1:=gw eR.out 1;have f2:=gw eR.out 2;have f3:=gw eR.out 3;have f4:=gw eR.out 4;have iJ:=cell_of_block eS.out 0;have bk:=cell_of_block eS.out 1;have e2:=cell_of_block eS.out 2;have fL:=cell_of_block eS.out 3;have j4:=cell_of_block eS.out 4;simp only[dJ] at d0 d1 d2 d3 d4 iJ bk e2 fL j4;go_wp2
    refine B7 (v:=.tuple #[.agg (dJ true m k),true]) (by simp[results,Tryz.results61,go_sem,d0,d1,d2,d3,d4,dJ]) rfl ⟨?_,?_⟩
    ·have e:=kI.out;rw[eQ.out,<-H8,e.1,e.2]
    ·exact ey (ey (ey (ey (ey ad (Nat.le_refl _) _ _) (Nat.le_refl _) _ _) (Nat.le_refl _) _ _) (Nat.le_refl _) _ _) (Nat.le_refl _) _ _
theorem anq(C:Nat)(s:Bool)(v:Ax)(l:List Nat)(n:Nat)(w:w1)(h:Words C w v l)(hn:val l=n)(hf:4<(bg n).length) :
 AA CW 61 #[.bool s,v] w (Rd (oQ false 0) false w):=by
 obtain⟨m,hm⟩:=aM (bg n);obtain⟨L,br⟩:=aM m.length;rw[hm,br] at hf;have dO:Hid (bg (val l)=m):=by rw[hn];exact hm
 have cz:=hide br;have bN:=hide (aA w (.cells #[false,(),(),(),()] 27));clear hm hn br;go_enter Tryz.func61,Tryz.ntmps61
 go_wp2_with (go_at_call 84;refine(pI _ _ _ _ (h.ext (aA w _))).mono ?_;rintro e w' ⟨v3,rfl,hM,rfl⟩;rw[dO.out] at hM;obtain⟨a3,a_,rfl,xe,xg,_⟩:=hM.shape L cz.out)
 exact B7 (v:=.tuple #[oQ false 0,false]) (by simp[results,Tryz.results61,go_sem,oQ,H_]) rfl ⟨rfl,bN.out⟩
def dg(s:Bool)(a b c d:Nat)(z:Int):Prop:=a<18446744073709551616/\b<18446744073709551616/\c<18446744073709551616/\d<18446744073709551616/\z=if s then -(b0 a b c d:Int) else (b0 a b c d:Int)
def cw(s:Bool)(a b c d:Nat)(z:Int):Prop:=dg s a b c d z/\(s=true->z≠0)
theorem cw.uniq{s s':Bool}{a b c d a' b' c' d':Nat}{z:Int}(h:cw s a b c d z)(k:cw s' a' b' c' d' z):s=s'/\a=a'/\b=b'/\c=c'/\d=d':=by
 obtain⟨⟨h1,h2,h3,h4,h5⟩,h6⟩:=h;obtain⟨⟨bQ,bY,cX,ev,vM⟩,Bz⟩:=k;simp only[b0,val] at h5 vM;cases s<;>cases s'<;>simp at *<;>omega
theorem Uh(s:Bool)(n:Nat)(h:(bg n).length<=4):∃ a b c d:Nat,oQ (s&&decide (n≠0)) n=.agg #[.bool (s&&decide (n≠0)),a,b,c,d]/\cw (s&&decide (n≠0)) a b c d (if s then -(n:Int) else n):=by
 have h4:=ka.1 h;refine⟨_,_,_,_,rfl,⟨Nat.mod_lt _ (by omega),Nat.mod_lt _ (by omega),Nat.mod_lt _ (by omega),Nat.mod_lt _ (by omega),?_⟩,?_⟩
 ·simp only[b0,val];by_cases hn:n=0
  ·subst hn;simp
  ·cases s<;>simp[hn]<;>omega
 ·cases s<;>simp
def oG(z:Int)(w:w1)(e:axa)(w':w1):Prop:=∃ (s:Bool) (a b c d:Nat) (o:Bool),e=.returned (.tuple #[.agg #[.bool s,a,b,c,d],.bool o]) /\
 o=decide (z.natAbs<115792089237316195423570985008687907853269984665640564039457584007913129639936)/\cw s a b c d (if z.natAbs<115792089237316195423570985008687907853269984665640564039457584007913129639936 then z else 0)/\Ext w w'
theorem BP(C:Nat)(s:Bool)(v:Ax)(l:List Nat)(w:w1)(h:Words C w v l) :
 AA CW 61 #[.bool s,v] w (oG (if s then -(val l:Int) else (val l:Int)) w):=by
 have hz:(if s then -(val l:Int) else (val l:Int)).natAbs=val l:=by cases s<;>simp
 by_cases hf:(bg (val l)).length<=4
 ·have h4:val l<115792089237316195423570985008687907853269984665640564039457584007913129639936:=ka.1 hf;obtain⟨a,b,c,d,e,hc⟩:=Uh s (val l) hf;refine(anp C s v l (val l) w h rfl hf).mono ?_;rintro e' w' ⟨rfl,ad⟩;refine⟨_,a,b,c,d,true,by rw[e],by rw[hz];simp[h4],?_,ad⟩;rw[hz,if_pos h4];exact hc
 ·have h4:¬ val l<115792089237316195423570985008687907853269984665640564039457584007913129639936:=fun e=>hf (ka.2 e)
  refine(anq C s v l (val l) w h rfl (by omega)).mono ?_;rintro e' w' ⟨rfl,ad⟩;refine⟨false,0,0,0,0,false,by simp[oQ,H_],by rw[hz];simp[h4],?_,ad⟩;rw[hz,if_neg h4];exact⟨⟨by omega,by omega,by omega,by omega,by simp[b0,val]⟩,by simp⟩
open Go Go.RowKit
theorem rN{b b':Bool}(h2:b=b'):Ending.returned (Value.bool b)=.returned (.bool b'):=by rw[h2]
def lN(b:Bool)(w:w1)(e:axa)(w':w1):Prop:=e=.returned (.bool b)/\Ext w w'
theorem qM{a b c d:Nat}(ha:a<18446744073709551616)(hb:b<18446744073709551616)(hc:c<18446744073709551616)(hd:d<18446744073709551616):b0 a b c d<115792089237316195423570985008687907853269984665640564039457584007913129639936:=by
 simp only[b0,val];omega
theorem Hc(n:Nat):0<(bg n).length↔n≠0:=by
 have:=@Hf n;rw[<-List.length_eq_zero_iff] at this;omega
theorem zS(s:Bool)(a b c d:Nat)(z:Int)(w:w1)(h:dg s a b c d z) :
 AA CW 51 #[.agg #[.bool s,a,b,c,d]] w (lN (!s||decide (z≠0)) w):=by
 obtain⟨ha,hb,hc,hd,hz⟩:=h;obtain⟨n,hn⟩:=aM (b0 a b c d);have bN:=hide (aA w (.cells #[.bool s,a,b,c,d] 27));have dO:=hide hn;obtain⟨L,br⟩:=aM ((bg n).length);have cz:=hide br;have hp:=Hc n;rw[br] at hp;rw[hn] at hz;cases s
 ·have dx:Hid ((!false||decide (z≠0))=true):=by simp[Hid]
  clear hp hz hn br;go_enter Tryz.func51,Tryz.ntmps51
  go_wp2
  go_ret;exact⟨rN dx.out.symm,bN.out⟩
 ·have dx:Hid ((!true||decide (z≠0))=decide (0<L)):=by
   simp only[if_true] at hz;have e:decide (z≠0)=decide (0<L):=by rw[decide_eq_decide];omega
   rw[e];exact rfl
  clear hp hz hn br;go_enter Tryz.func51,Tryz.ntmps51
  go_wp2_with (go_at_call 60;refine(oR w.heap.size true a b c d _ (Nat.le_trans (Nat.le_refl _) bN.out.size) ha hb hc hd).mono ?_;rintro e w' ⟨v,rfl,aF,ad⟩;rw[dO.out] at aF;obtain⟨a3,a_,rfl,xe,xg,_⟩:=aF.shape L cz.out)
  go_ret;exact⟨rN (by first|exact dx.out.symm|(rw[dx.out];simp)),bN.out.trans ad⟩
theorem HY{w w':w1}{o p:Obj}(h:Ext ((w.alloc o).alloc p) w'):w'.heap[w.heap.size]?=some o/\w'.heap[w.heap.size+1]?=some p:=by
 obtain⟨h1,h2⟩:=e1 w o p;have hs:((w.alloc o).alloc p).heap.size=w.heap.size+1+1:=by simp
 exact⟨(h.block _ (by omega)).trans h1,(h.block _ (by omega)).trans h2⟩
theorem av{w:w1}{b:Nat}{v0 v1 v2 v3 v4:Ax}{e:aw7}(h:w.heap[b]?=some (.cells #[v0,v1,v2,v3,v4] e (0,0))) :
 w.cell? ⟨b,0,none⟩=some v0/\w.cell? ⟨b,1,none⟩=some v1/\w.cell? ⟨b,2,none⟩=some v2/\w.cell? ⟨b,3,none⟩=some v3/\w.cell? ⟨b,4,none⟩=some v4 /\
 w.frozen? ⟨b,0,none⟩=false/\w.frozen? ⟨b,1,none⟩=false/\w.frozen? ⟨b,2,none⟩=false/\w.frozen? ⟨b,3,none⟩=false/\w.frozen? ⟨b,4,none⟩=false:=by
 refine⟨?_,?_,?_,?_,?_,gw h 0,gw h 1,gw h 2,gw h 3,gw h 4⟩<;>(rw[cell_of_block h];rfl)
theorem cx{w:w1}{b:Nat}{v0 v1 v2 v3 v4:Ax}{e:aw7}(h:w.heap[b]?=some (.cells #[v0,v1,v2,v3,v4] e (0,0))):w.cell? ⟨b,0,none⟩=some v0/\w.cell? ⟨b,1,none⟩=some v1/\w.cell? ⟨b,2,none⟩=some v2/\w.cell? ⟨b,3,none⟩=some v3/\w.cell? ⟨b,4,none⟩=some v4:=(av h).imp id fun h=>h.imp id fun h=>h.imp id fun h=>h.imp id And.left
theorem dr{W w:w1}(h:Ext W w){b:Nat}(hb:W.heap.size<=b)(u0 u1 u2 u3 u4:Ax):Ext W (((((w.setCell ⟨b,0,none⟩ u0).setCell ⟨b,1,none⟩ u1).setCell ⟨b,2,none⟩ u2).setCell ⟨b,3,none⟩ u3).setCell ⟨b,4,none⟩ u4):=
 ey (ey (ey (ey (ey h hb _ _) hb _ _) hb _ _) hb _ _) hb _ _
def lR(z:Int)(w:w1)(e:axa)(w':w1):Prop:=∃ (s:Bool) (a b c d:Nat),e=.returned (.agg #[.bool s,a,b,c,d])/\cw s a b c d z/\Ext w w'
theorem HL(s:Bool)(a b c d:Nat)(z:Int)(w:w1)(h:dg s a b c d z) :
 AA CW 59 #[.agg #[.bool s,a,b,c,d]] w (lR z w):=by
 have bN:=hide (aA w (.cells #[.bool s,a,b,c,d] 27));have Qs:=hide ((aA w (.cells #[.bool s,a,b,c,d] 27)).trans (aA _ (.cells #[false,(),(),(),()] 27)));by_cases aF:(!s||decide (z≠0))=true
 ·have bV:=hide aF;have qX:Hid (cw s a b c d z):=⟨h,fun e=>by subst e;simpa using aF⟩;clear aF;have HH:=hide h;clear h;go_enter Tryz.func59,Tryz.ntmps59
  go_wp2_with (go_at_call 51;refine(zS s a b c d z _ HH.out).mono ?_;rintro e w' ⟨rfl,ad⟩;rw[bV.out];obtain⟨k7,q1⟩:=HY ad;have dY:=av k7;obtain⟨d0,d1,d2,d3,d4,g0,g1,g2,g3,g4⟩:=av q1;have dc:=hide ad;clear k7 q1 ad)
  exact B7 (v:=.agg #[.bool s,a,b,c,d]) (by simp[results,Tryz.results59,go_sem,d0,d1,d2,d3,d4]) rfl ⟨s,a,b,c,d,rfl,qX.out,dr (Qs.out.trans dc.out) (by simp) _ _ _ _ _⟩
 ·have bV:Hid ((!s||decide (z≠0))=false):=by unfold Hid;simpa using aF
  have qX:Hid (cw false 0 0 0 0 z):=by
   have:z=0:=by simp at aF;exact aF.2
   subst this
   exact⟨⟨by omega,by omega,by omega,by omega,by simp[b0,val]⟩,by simp⟩
  clear aF;have HH:=hide h;clear h;go_enter Tryz.func59,Tryz.ntmps59
  go_wp2_with (go_at_call 51;refine(zS s a b c d z _ HH.out).mono ?_;rintro e w' ⟨rfl,ad⟩;rw[bV.out];obtain⟨k7,q1⟩:=HY ad;obtain⟨d0,d1,d2,d3,d4,g0,g1,g2,g3,g4⟩:=av q1;have dc:=hide ad;clear k7 q1 ad)
  exact B7 (v:=.agg #[false,.int .u64 ((0:Nat):Int),.int .u64 ((0:Nat):Int),.int .u64 ((0:Nat):Int),.int .u64 ((0:Nat):Int)]) (by simp[results,Tryz.results59,go_sem,d0,d1,d2,d3,d4]) rfl ⟨false,0,0,0,0,rfl,qX.out,dr (Qs.out.trans dc.out) (by simp) _ _ _ _ _⟩
open Go Go.RowKit
def nc(k:IntKind)(x:Int)(w:w1)(e:axa)(w':w1):Prop:=e=.returned (.int k x)/\Ext w w'
theorem zJ{w w':w1}{o:Obj}(h:Ext (w.alloc o) w'):w'.heap[w.heap.size]?=some o:=by
 have hs:(w.alloc o).heap.size=w.heap.size+1:=by simp
 exact(h.block _ (by omega)).trans (axe w o)
theorem xP(s:Bool)(a b c d:Nat)(z:Int)(w:w1)(h:dg s a b c d z) :
 AA CW 52 #[.agg #[.bool s,a,b,c,d]] w (nc .i64 z.sign w):=by
 obtain⟨ha,hb,hc,hd,hz⟩:=h;obtain⟨n,hn⟩:=aM (b0 a b c d);have bN:=hide (aA w (.cells #[.bool s,a,b,c,d] 27));have dO:=hide hn;obtain⟨L,br⟩:=aM ((bg n).length);have cz:=hide br;have hp:=Hc n;rw[br] at hp;rw[hn] at hz;have hS:L=0/\z=0\/0<L/\s=true/\z<0\/0<L/\s=false/\0<z:=by cases s<;>simp at hz<;>simp<;>omega
 clear hz hp br hn;rcases hS with ⟨rfl,h1⟩|⟨h0,rfl,h1⟩|⟨h0,rfl,h1⟩
 ·have cG:Hid (z.sign=0):=by subst h1;rfl
  clear h1;go_enter Tryz.func52,Tryz.ntmps52
  go_wp2_with (go_at_call 60;refine(oR w.heap.size s a b c d _ (Nat.le_trans (Nat.le_refl _) bN.out.size) ha hb hc hd).mono ?_;rintro e w' ⟨v,rfl,aF,ad⟩;rw[dO.out] at aF;obtain⟨a3,a_,rfl,xe,xg,_⟩:=aF.shape 0 cz.out)
  go_ret;exact⟨kD cG.out.symm,bN.out.trans ad⟩
 ·have cG:Hid (z.sign=-1):=Int.sign_eq_neg_one_of_neg h1;clear h1;go_enter Tryz.func52,Tryz.ntmps52
  go_wp2_with (go_at_call 60;refine(oR w.heap.size true a b c d _ (Nat.le_trans (Nat.le_refl _) bN.out.size) ha hb hc hd).mono ?_;rintro e w' ⟨v,rfl,aF,ad⟩;rw[dO.out] at aF;obtain⟨a3,a_,rfl,xe,xg,_⟩:=aF.shape L cz.out;obtain⟨d0,_⟩:=av (zJ ad))
  go_ret;exact⟨kD cG.out.symm,bN.out.trans ad⟩
 ·have cG:Hid (z.sign=1):=Int.sign_eq_one_of_pos h1;clear h1;go_enter Tryz.func52,Tryz.ntmps52
  go_wp2_with (go_at_call 60;refine(oR w.heap.size false a b c d _ (Nat.le_trans (Nat.le_refl _) bN.out.size) ha hb hc hd).mono ?_;rintro e w' ⟨v,rfl,aF,ad⟩;rw[dO.out] at aF;obtain⟨a3,a_,rfl,xe,xg,_⟩:=aF.shape L cz.out;obtain⟨d0,_⟩:=av (zJ ad))
  go_ret;exact⟨kD cG.out.symm,bN.out.trans ad⟩
theorem VA(n:Nat)(w:w1)(hn:n<18446744073709551616):AA CW 58 #[.int .u64 (n:Int)] w (lR n w):=by
 have hc:cw false n 0 0 0 n:=⟨⟨hn,by omega,by omega,by omega,by simp[b0,val]⟩,by simp⟩;have bN:=hide (aA w (.cells #[false,n,(),(),()] 27));go_enter Tryz.func58,Tryz.ntmps58
 go_wp2
 exact B7 (v:=.agg #[false,n,.int .u64 ((0:Nat):Int),.int .u64 ((0:Nat):Int),.int .u64 ((0:Nat):Int)]) (by simp[results,Tryz.results58,go_sem]) rfl ⟨false,n,0,0,0,rfl,hc,bN.out⟩
theorem Oh(z:Int)(w:w1)(h1:-9223372036854775808<=z)(h2:z<=9223372036854775807):AA CW 23 #[.int .i64 z] w (lR z w):=by
 obtain⟨n,hn⟩:=aM z.natAbs;have hc:cw (decide (z<0)) n 0 0 0 z:=⟨⟨by omega,by omega,by omega,by omega,by simp[b0,val];split<;>omega⟩,by simp;omega⟩;have pq:z<0->IntKind.u64.wrap (-IntKind.u64.wrap z)=(n:Int):=by intro h;simp only[IntKind.wrap_u64];omega
 have pv:0<=z->IntKind.u64.wrap z=(n:Int):=by intro h;simp only[IntKind.wrap_u64];omega
 by_cases h:z<0
 ·have e:=pq h;have bN:=hide (aA w (.cells #[true,n,(),(),()] 27));have qX:Hid (cw true n 0 0 0 z):=by have h2:=hc;simp only[h,decide_true] at h2;exact h2
  clear pq pv hn hc;go_enter Tryz.func23,Tryz.ntmps23
  go_wp2
  exact B7 (v:=.agg #[true,n,.int .u64 ((0:Nat):Int),.int .u64 ((0:Nat):Int),.int .u64 ((0:Nat):Int)]) (by simp[results,Tryz.results23,go_sem]) rfl ⟨true,n,0,0,0,rfl,qX.out,bN.out⟩
 ·have e:=pv (by omega);have bN:=hide (aA w (.cells #[false,n,(),(),()] 27));have qX:Hid (cw false n 0 0 0 z):=by have h2:=hc;simp only[h,decide_false] at h2;exact h2
  clear pq pv hn hc;go_enter Tryz.func23,Tryz.ntmps23
  go_wp2
  exact B7 (v:=.agg #[false,n,.int .u64 ((0:Nat):Int),.int .u64 ((0:Nat):Int),.int .u64 ((0:Nat):Int)]) (by simp[results,Tryz.results23,go_sem]) rfl ⟨false,n,0,0,0,rfl,qX.out,bN.out⟩
open Go Go.RowKit
theorem p8{w w':w1}(h:Ext w w'){b:Nat}{o:Obj}(k:w.heap[b]?=some o):w'.heap[b]?=some o:=by
 have hb:b<w.heap.size:=(Array.getElem?_eq_some_iff.1 k).1;exact(h.block b hb).trans k
def Box(W:w1)(g:Nat)(s:Bool)(a b c d:Nat):Prop:=W.heap[g]?=some (.cells #[.bool s,a,b,c,d] 27 (0,0))
theorem Box.ext{w w':w1}{g:Nat}{s:Bool}{a b c d:Nat}(k:Box w g s a b c d)(h:Ext w w'):Box w' g s a b c d:=p8 h k
theorem Box.drew{w:w1}{g:Nat}{s:Bool}{a b c d:Nat}(k:Box w g s a b c d):Box w.drew g s a b c d:=k
theorem Box.put{w:w1}{g:Nat}{s t:Bool}{a b c d a' b' c' d':Nat}(k:Box w g s a b c d):Box (((((w.setCell ⟨g,0,none⟩ (.bool t)).setCell ⟨g,1,none⟩ (.int .u64 (a':Int))).setCell ⟨g,2,none⟩ (.int .u64 (b':Int))).setCell ⟨g,3,none⟩ (.int .u64 (c':Int))).setCell ⟨g,4,none⟩ (.int .u64 (d':Int))) g t a' b' c' d':=by
 have h:=kE (kE (kE (kE (kE k 0 (.bool t)) 1 (.int .u64 (a':Int))) 2 (.int .u64 (b':Int))) 3 (.int .u64 (c':Int))) 4 (.int .u64 (d':Int));exact h
theorem Box.cI{w:w1}{g b':Nat}{s:Bool}{a b c d:Nat}(k:Box w g s a b c d)(h:g≠b')(u0 u1 u2 u3 u4:Ax):Box (((((w.setCell ⟨b',0,none⟩ u0).setCell ⟨b',1,none⟩ u1).setCell ⟨b',2,none⟩ u2).setCell ⟨b',3,none⟩ u3).setCell ⟨b',4,none⟩ u4) g s a b c d:=by
 unfold Box at *;rw[axd _ _ _ _ (by simpa using h),axd _ _ _ _ (by simpa using h),axd _ _ _ _ (by simpa using h),axd _ _ _ _ (by simpa using h),axd _ _ _ _ (by simpa using h)];exact k
theorem kF(w:w1)(o p q:Obj):(((w.alloc o).alloc p).alloc q).heap[w.heap.size]?=some o/\(((w.alloc o).alloc p).alloc q).heap[w.heap.size+1]?=some p/\(((w.alloc o).alloc p).alloc q).heap[w.heap.size+1+1]?=some q:=by
 obtain⟨h1,h2⟩:=e1 w o p;have h3:=axe ((w.alloc o).alloc p) q;have hs:((w.alloc o).alloc p).heap.size=w.heap.size+1+1:=by simp
 rw[hs] at h3;exact⟨p8 (aA _ _) h1,p8 (aA _ _) h2,h3⟩
def Two(w:w1)(x y:Int)(bP:w1):Prop:=∃ (s:Bool) (a b c d:Nat) (t:Bool) (e f g h:Nat),cw s a b c d x/\cw t e f g h y/\Box bP w.heap.size s a b c d/\Box bP (w.heap.size+1) t e f g h/\Box bP (w.heap.size+1+1) false 0 0 0 0/\Ext w bP
theorem Box.lt{w:w1}{g:Nat}{s:Bool}{a b c d:Nat}(k:Box w g s a b c d):g<w.heap.size:=(Array.getElem?_eq_some_iff.1 k).1
theorem Box.new(w:w1)(s:Bool)(a b c d:Nat):Box (w.alloc (.cells #[.bool s,a,b,c,d] 27)) w.heap.size s a b c d:=axe w _
theorem Box.nA(w:w1):Box (w.alloc (.cells #[false,(),(),(),()] 27)) w.heap.size false 0 0 0 0:=axe w _
theorem Ext.al{w W:w1}(h:Ext w W)(o:Obj):Ext w (W.alloc o):=h.trans (aA _ _)
theorem Ext.CZ{w W:w1}(h:Ext w W):Ext w W.drew:=h.trans (b5 _)
end
end Go.Proofs.YtojbopibfflnoaaGreat
