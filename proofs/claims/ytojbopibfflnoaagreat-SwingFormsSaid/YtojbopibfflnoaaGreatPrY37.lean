/- Facts. -/
import Derived.Test.YtojbopibfflnoaaGreatPrY25
import Derived.Test.YtojbopibfflnoaaGreatPrY31
import Derived.Test.YtojbopibfflnoaaGreatPrY34
import Derived.Test.YtojbopibfflnoaaGreatPrY35
import Derived.Test.YtojbopibfflnoaaGreatPrY36
import Derived.Shelf.Strconv.Itoa0
namespace Go.Proofs.YtojbopibfflnoaaGreat
open Go renaming World → p, Value → i, Calls → q
open _root_.Go.Proofs.Tryz renaming prog → j
set_option linter.unusedVariables false
set_option linter.unusedSimpArgs false
set_option maxHeartbeats 16000000
section
open Go Go.RowKit Go.Sort
def mW(eps:Int):Option jc->Array i
 | none=>aI eps 0 0 0 0 z21
 | some s=>aI eps (s.count:Int) s.first.1 s.first.2 s.last (e4 s.eG)
def FU(X:Array i):Prop:=∃ eps s,o5 eps/\mF s/\X=mW eps s
def Ct(X:Array i):Prop:=∃ e n t v l K,de e/\de n/\de t/\de v/\de l/\sh K/\X=aI e n t v l K
theorem aj4{K:Array i}(h:sh K):K.size=21:=by
 rcases h with ⟨c,_,rfl⟩|⟨o,L,H,rfl,br,dh,_⟩
 ·exact tN c
 ·exact lW o br.rc.size dh.rc.size
theorem Vr{K:Array i}(h:sh K):∃ o L H,K=bT o L H/\RC L/\RC H:=by
 rcases h with ⟨c,_,rfl⟩|⟨o,L,H,rfl,br,dh,_⟩
 ·exact JJ c
 ·exact⟨o,L,H,rfl,br.rc,dh.rc⟩
theorem aj3{K:Array i}(h:sh K):K.all (·.oneCell')=true:=by
 obtain⟨o,L,H,rfl,br,dh⟩:=Vr h;exact su o br.one dh.one
theorem RJ(o:Bool)(L H:Array i):(bT o L H)[0]?=some (.bool o):=by rw[bT,Array.append_assoc,Array.getElem?_append_left (by simp)];rfl
theorem TM:dg false 0 0 0 0 0:=by unfold dg;simp[b0,val]
theorem Vt:wM dq:=aj5 (s:=false) (a:=0) (b:=0) (c:=0) (d:=0) (t:=false) (e:=0) (f:=0) (g:=0) (h:=0) TM TM
theorem Vs:sh z21:=aj2 false Vt Vt
theorem aa7(o o':Bool){L H M N:Array i}(br:RC L)(dh:RC H)(hI:RC M)(jO:RC N)(w:p):(binOp .eql 31 (.agg (bT o L H)) (.agg (bT o' M N))).run j w=.ok (.bool ((o==o')&&(mV L M&&mV H N))) w:=by
 rw[run_eql_struct,show (10000:Nat)=9994+6 from rfl,RX 9994 o o' br dh hI jO w];rfl
theorem V1:sh c9:=Or.inl ⟨.op,trivial,rfl⟩
def Q9(f:Nat):Prop:=(∀ X,FU X->∀ w,q j f #[.agg X] w (aP (.bool true) w))/\(∀ X,Ct X->¬ FU X->∀ w,q j f #[.agg X] w (aP (.bool false) w))
def Ag(e n t l:Int)(z0 fb gd BK:Bool):Bool:=(decide (0<=e)&&decide (e<=4611686018427387904))&&(if n=0 then z0 else if n=1 then (decide (l=t)&&fb) else (decide (1<n)&&(decide (n<=1073741824)&&(decide (t<l)&&(gd&&!BK)))))
def Q_(f jL:Nat):Prop:=∀ (e n t v l:Int) (K:Array i),sh K->∀ (o:Bool) (L H:Array i),K=bT o L H->RC L->RC H->∀ gd,(∀ w,q j jL #[.agg K] w (aP (.bool gd) w))->∀ w,q j f #[.agg (aI e n t v l K)] w (aP (.bool (Ag e n t l ((n==0)&&(((t==0)&&(v==0))&&((l==0)&&((o==false)&&(mV L dq&&mV H dq))))) ((o==true)&&(mV L dq&&mV H dq)) gd o)) w)
theorem aj0:Q_ 42 69:=fun e n t v l K cQ o L H A2 br dh gd kv w=>by
 subst A2;exact aj1 e n t v l _ (lW o br.size dh.size) (su o br.one dh.one) w _ _ _ gd o (hide (fun w=>HI e w)) (hide (fun w=>HG w)) (hide kv) (hide (fun _ w=>(by rw[WH];exact aa_ e n t v l e 0 0 0 0 o false br dh RC.zero RC.zero w))) (hide (fun w=>(by rw[Oz];exact aa7 o true br dh RC.zero RC.zero w))) (RJ o L H) _ (by unfold Ag;simp)
theorem av2:Q_ 41 76:=fun e n t v l K cQ o L H A2 br dh gd kv w=>by
 subst A2;exact av3 e n t v l _ (lW o br.size dh.size) (su o br.one dh.one) w _ _ _ gd o (hide (fun w=>ajb e w)) (hide (fun w=>U3 w)) (hide kv) (hide (fun _ w=>(by rw[WH];exact aa_ e n t v l e 0 0 0 0 o false br dh RC.zero RC.zero w))) (hide (fun w=>(by rw[Oz];exact aa7 o true br dh RC.zero RC.zero w))) (RJ o L H) _ (by
  unfold Ag;rw[show decide (2<=n)=decide (1<n) from by congr 1];simp[Bool.and_comm])
theorem amL{f jL:Nat}(vz:Q_ f jL)(aF:Ja jL)(hb:QW jL):Q9 f:=by
 have Mf:∀ {K:Array i},sh K->∃ gd,(gd=true->QP K)/\∀ w,q j jL #[.agg K] w (aP (.bool gd) w):=fun {K} h=>by
  rcases h with ⟨c,hc,rfl⟩|h
  ·exact⟨true,fun _=>⟨c,hc,rfl⟩,aF c hc⟩
  ·exact⟨false,(fun e=>by cases e),hb K h⟩
 constructor
 ·rintro X ⟨eps,s,he,hs,rfl⟩ w;have t1:(decide (0<=eps)&&decide (eps<=4611686018427387904))=true:=by rw[decide_eq_true he.1,decide_eq_true he.2];rfl
  cases s with
  | none =>
   obtain⟨gd,_,kv⟩:=Mf Vs;have:=vz eps 0 0 0 0 z21 Vs false dq dq WH RC.zero RC.zero gd kv w;unfold Ag at this
   rw[t1] at this
   simpa [Od,mW] using this
  | some s =>
   obtain⟨h1,h2,h3⟩:=hs;rcases h3 with ⟨az,aU,a_⟩|⟨az,aU,a_,bK,a,b,cy⟩
   ·obtain⟨gd,_,kv⟩:=Mf V1;have:=vz eps s.count s.first.1 s.first.2 s.last c9 V1 true dq dq Oz RC.zero RC.zero gd kv w
    unfold Ag at this
    rw[t1] at this
    have e:mW eps (some s)=aI eps (s.count:Int) s.first.1 s.first.2 s.last c9:=by simp only[mW,a_];rfl
    rw[e];simpa [Od,az,aU] using this
   ·have hc:sh (e4 s.eG):=Or.inl ⟨_,bK,rfl⟩;have bk:e4 s.eG=bT false (cJ a) (cJ b):=by rw[cy];rfl
    have:=vz eps s.count s.first.1 s.first.2 s.last (e4 s.eG) hc false (cJ a) (cJ b) bk (gP a) (gP b) true (aF _ bK) w
    unfold Ag at this
    rw[t1] at this
    have g0:¬ (s.count:Int)=0:=by omega
    have g1:¬ (s.count:Int)=1:=by omega
    rw[if_neg g0,if_neg g1,decide_eq_true (show (1:Int)<s.count by omega),decide_eq_true (show (s.count:Int)<=1073741824 by omega),decide_eq_true a_] at this
    exact this
 ·rintro X ⟨e,n,t,v,l,K,he,hn,bd,Tc,hl,cQ,rfl⟩ iK w;obtain⟨o,L,H,A2,br,dh⟩:=Vr cQ;obtain⟨gd,zk,kv⟩:=Mf cQ;have:=vz e n t v l K cQ o L H A2 br dh gd kv w;generalize aD:Ag _ _ _ _ _ _ _ _=r at this
  cases r with
  | false=>exact this
  | true =>
   exfalso
   apply iK
   unfold Ag at aD;simp only[Bool.and_eq_true,decide_eq_true_eq] at aD;obtain⟨⟨t0,t1⟩,aD⟩:=aD;by_cases g0:n=0
   ·rw[if_pos g0] at aD;simp only[Bool.and_eq_true,beq_iff_eq,HE] at aD;obtain⟨_,⟨rfl,rfl⟩,rfl,rfl,rfl,rfl⟩:=aD;exact⟨e,none,⟨t0,t1⟩,trivial,by rw[g0,A2];rfl⟩
   ·rw[if_neg g0] at aD;by_cases g1:n=1
    ·rw[if_pos g1] at aD;simp only[Bool.and_eq_true,decide_eq_true_eq,beq_iff_eq,HE] at aD;obtain⟨rfl,rfl,rfl,rfl⟩:=aD;exact⟨e,some ⟨(l,v),l,1,.op⟩,⟨t0,t1⟩,⟨⟨bd,Tc⟩,hl,Or.inl ⟨rfl,rfl,rfl⟩⟩,by rw[g1,A2];rfl⟩
    ·rw[if_neg g1] at aD;simp only[Bool.and_eq_true,decide_eq_true_eq,Bool.not_eq_true'] at aD;obtain⟨aC,aW,EG,v1,b7⟩:=aD;obtain⟨c,hc,RP⟩:=zk v1;cases c with
     | op =>
      exfalso
      have:=congrArg (fun X:Array i=>X[0]?) (A2.symm.trans RP);simp only[RJ] at this
      rw[b7] at this
      simp[e4,c9] at this
     | dU a b =>
      refine⟨e,some ⟨(t,v),l,n.toNat,.dU a b⟩,⟨t0,t1⟩,⟨⟨bd,Tc⟩,hl,Or.inr ⟨by show 2<=n.toNat;omega,by show n.toNat<=_;omega,EG,hc,a,b,rfl⟩⟩,?_⟩;simp only[mW];rw[show ((n.toNat:Nat):Int)=n by omega,<-RP]
theorem HD:Q9 42:=amL aj0 EU ajZ
theorem QJ:Q9 41:=amL av2 Hw av1
noncomputable def gp (x:wI):gD:=((x.1:Int),x.2.1,qQ x.2.2)
def Hj(X:Array i)(oI:Int):i->i:=fun z=>.tuple #[.agg X,z,.int .i64 oI]
def mk2(oI:Int):i->i:=fun z=>.tuple #[z,.int .i64 oI]
def uh(s:Option jc)(x:Sa):Int:=match s with
 | none=>0
 | some s=>if x.1<=s.last then 7 else if s.count=1073741824 then 3 else 0
def E5(eps:Int)(s:Option jc)(x:Sa):Array i:=if uh s x=0 then mW eps (gZ eps s x).1 else bL
noncomputable def E4 (eps:Int) (s:Option jc) (x:Sa):List gD:=if uh s x=0 then (gZ eps s x).2.map gp else []
def XH(f:Nat):Prop:=(∀ X (x:Sa),Ct X->¬ FU X->∀ W,q j f #[.agg X,.agg (bO x.1 x.2)] W (gi W (Hj bL 1) []))/\(∀ eps s (x:Sa),o5 eps->mF s->pU x->∀ W,q j f #[.agg (mW eps s),.agg (bO x.1 x.2)] W (gi W (Hj (E5 eps s x) (uh s x)) (E4 eps s x)))
theorem akh{f:Nat}{a:Array i}{v:i}(h:∀ w,q j f a w (Cu v w))(w:p):q j f a w (aP v w):=(h w).mono fun _ _ k=>⟨k.1,by rw[k.2];exact Ext.refl _⟩
theorem Ct.size{X:Array i}(h:Ct X):∃ e n t v l K,X=aI e n t v l K/\K.size=21/\K.all (·.oneCell')=true:=by
 obtain⟨e,n,t,v,l,K,_,_,_,_,_,cQ,rfl⟩:=h;exact⟨e,n,t,v,l,K,rfl,aj4 cQ,aj3 cQ⟩
structure Xp (eps:Int) (s:jc) (x:Sa) (dt:Nat) (cb:Bool) (fo fd ft fm:Nat):Prop where
 bQ:∀ w,q j fo #[.int .i64 s.first.2] w (aP (.agg (dC s.first.2)) w)
 bY:∀ w,q j fd #[.int .i64 x.1,.int .i64 s.first.1] w (aP (.int .u64 (dt:Int)) w)
 cX:∀ w,q j ft #[.agg (dC s.first.2),.int .i64 x.2,.int .i64 eps,.int .u64 (dt:Int)] w (aP (.tuple #[.agg (e4 (mX eps s.first x)),.bool cb]) w)
 ev:∀ w,q j fm #[.agg (e4 s.eG),.agg (e4 (mX eps s.first x))] w (aP (.tuple #[.agg (xH (kB s.eG (mX eps s.first x))),.bool (kB s.eG (mX eps s.first x)).isSome]) w)
theorem alm{eps:Int}{s:jc}{x:Sa}(he:o5 eps)(hs:mF (some s))(hx:pU x)(hl:s.last<x.1):pV s.first.2 eps (x.1-s.first.1).natAbs/\((x.1-s.first.1).natAbs:Int)=x.1-s.first.1/\(x.1-s.first.1).natAbs<18446744073709551616:=by
 have h1:=hs.le;obtain⟨⟨a,b⟩,c,d⟩:=hs.1;obtain⟨e,f⟩:=hx.1;have h2:=he.1;have h3:=he.2;refine⟨⟨by omega,h2,h3,by omega⟩,by omega,by omega⟩
theorem Ud{eps:Int}{s:jc}{x:Sa}(he:o5 eps)(hs:mF (some s))(hx:pU x)(hl:s.last<x.1){fo fd ft fm:Nat}
 (aL:∀ z,de z->∀ w,q j fo #[.int .i64 z] w (aP (.agg (dC z)) w)) (hd:∀ a b w,de a->de b->q j fd #[.int .i64 a,.int .i64 b] w (Cu (.int .u64 ((a-b).natAbs:Nat)) w)) (bd:I_ ft) (hm:I9 fm) :
 ∃ dt cb,Xp eps s x dt cb fo fd ft fm:=by
 obtain⟨g,e,cl⟩:=alm he hs hx hl;have h1:=hs.1;refine⟨(x.1-s.first.1).natAbs,true,⟨aL _ h1.2,akh fun w=>hd _ _ w hx.1 h1.1,fun w=>?_,hm _ _ hs.eG (Wc he h1 hx (by have:=hs.le;omega))⟩⟩;have hF:b4 s.first.2:=by have:=h1.2;unfold b4;obtain⟨a,b⟩:=this;omega
 have:=bd s.first.2 x.2 eps (x.1-s.first.1).natAbs hF hx.2.1 hx.2.2 (by have:=he.1;omega) (by have:=he.2;omega) cl w
 have bd:rR s.first.2 x.2 eps (x.1-s.first.1).natAbs=e4 (mX eps s.first x):=by
  rw[show rR s.first.2 x.2 eps (x.1-s.first.1).natAbs=e4 (B1 s.first.2 x.2 eps ((x.1-s.first.1).natAbs:Int)) from if_pos g,e];rfl
 rw[decide_eq_true g,bd] at this
 exact this
theorem TH{n:Nat}(h:n<1073741824):IntKind.i64.wrap ((n:Int)+1)=(n:Int)+1:=by rw[IntKind.wrap_i64];omega
theorem ZT{z:Int}(h:de z)(w:p):q j 23 #[.int .i64 z] w (aP (.agg (dC z)) w):=CV h.1 h.2 w
theorem Zb{z:Int}(h:de z)(w:p):q j 95 #[.int .i64 z] w (aP (.agg (dC z)) w):=CM h.1 h.2 w
theorem ajU:XH 33:=by
 constructor
 ·intro X x dk iK W;have kv:=HD.2 X dk iK;obtain⟨e,n,t,v,l,K,rfl,cS,eI⟩:=dk.size;exact(ajQ e n t v l K cS eI x.1 x.2 W (hide kv)).mono fun _ _ h=>gi.jT h
 ·intro eps s x he hs hx W;have kv:=HD.1 _ ⟨eps,s,he,hs,rfl⟩;cases s with
  | none =>
   have eM:=fun w=>Vi eps x.1 x.2 w (hide (fun w=>HG w))
   have:=ajS eps 0 0 0 0 z21 rfl iV x.1 x.2 W (hide kv) (hide eM) rfl;exact this.mono fun _ _ h=>gi.jT h
  | some s =>
   have cS:=tN s.eG;have eI:=uU s.eG;have hle:=hs.le;have d0:((s.count:Int)==0)=false:=by rw[beq_eq_false_iff_ne];omega
   by_cases h1:x.1<=s.last
   ·have bk:uh (some s) x=7:=if_pos h1;unfold E5 E4;rw[bk];exact(ajT eps s.count s.first.1 s.first.2 s.last (e4 s.eG) cS eI x.1 x.2 W (hide kv) d0 (decide_eq_true h1)).mono fun _ _ h=>gi.jT h
   ·by_cases h2:s.count=1073741824
    ·have bk:uh (some s) x=3:=by simp only[uh,if_neg h1,if_pos h2]
     unfold E5 E4;rw[bk];exact(ajR eps s.count s.first.1 s.first.2 s.last (e4 s.eG) cS eI x.1 x.2 W (hide kv) d0 (decide_eq_false h1) (by rw[h2];rfl)).mono fun _ _ h=>gi.jT h
    ·have bk:uh (some s) x=0:=by simp only[uh,if_neg h1,if_neg h2]
     unfold E5 E4;rw[bk,if_pos rfl,if_pos rfl];have d2:((s.count:Int)==1073741824)=false:=by rw[beq_eq_false_iff_ne];omega
     obtain⟨dt,cb,M⟩:=Ud (fo:=23) (fd:=21) (ft:=22) (fm:=30) he hs hx (by omega) (fun z h w=>ZT h w) (fun a b w ha hb=>ajE a b w ha hb) ajW ajN;have hc:=tN (mX eps s.first x);have EL:=uU (mX eps s.first x);have ev:=M.ev;simp only[gZ];cases hm:kB s.eG (mX eps s.first x) with
     | some m =>
      rw[hm] at ev;have:=ajV eps s.count s.first.1 s.first.2 s.last (e4 s.eG) cS eI x.1 x.2 W (TH (by omega)) (hide kv) d0 (decide_eq_false h1) d2 dt (e4 (mX eps s.first x)) (e4 m) cb hc EL (tN m) (uU m) (hide M.bQ) (hide M.bY) (hide M.cX) (hide ev)
      exact this.mono fun _ _ h=>gi.jT h
     | none =>
      rw[hm] at ev;have eM:=fun w=>Vi eps x.1 x.2 w (hide (fun w=>HG w))
      have og:=fun w=>Vm eps s.count s.first.1 s.first.2 s.last (e4 s.eG) cS eI (cJ (qQ s.eG)) rfl (gP _).one w (hide (fun w=>Gi Vj hs.eG w))
      exact ajP eps s.count s.first.1 s.first.2 s.last (e4 s.eG) cS eI x.1 x.2 W (qQ s.eG) (hide kv) d0 (decide_eq_false h1) d2 dt (e4 (mX eps s.first x)) z21 cb hc EL rfl iV (hide M.bQ) (hide M.bY) (hide M.cX) (hide ev) (hide eM) (hide og)
end
end Go.Proofs.YtojbopibfflnoaaGreat
