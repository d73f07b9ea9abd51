/- Contracts and plain facts; each states its conditions. -/
import Derived.Test.YtojbopibfflnoaaGreatPrW35
import Derived.Test.YtojbopibfflnoaaGreatPrW36
import Derived.Test.YtojbopibfflnoaaGreatPrW44
import Derived.Test.YtojbopibfflnoaaGreatPrW51
import Derived.Test.YtojbopibfflnoaaGreatPrW52
import Derived.Test.YtojbopibfflnoaaGreatPrW53
import Derived.Shelf.Strconv.Itoa0
namespace Go.Proofs.YtojbopibfflnoaaGreat
set_option linter.unusedVariables false
set_option linter.unusedSimpArgs false
set_option maxHeartbeats 16000000
section
open Go Go.RowKit Go.Sort
section
open Classical in
theorem RX (k:Nat) (o o':Bool) {L H M N:Array Value} (br:RC L) (dh:RC H) (hI:RC M) (jO:RC N) (w:World):(Op.equalIn (k+6) 31 (.agg (bT o L H)) (.agg (bT o' M N))).run Tryz.prog w=.ok ((o==o')&&(mV L M&&mV H N)) w:=by
 have hS:Tryz.prog.underlying 31=some (.struct (Tryz.prog.fieldsOf 31)):=by kernel_rfl
 have hp:Tryz.prog.stoodInHeld 31=false:=by kernel_rfl
 have u4:=Tryz.underlying4;have z25:=Tryz.sizeOf29;have h5:=Ke k br hI;have h6:=Ke k dh jO;have lo:=JL o br.size dh.size;have hi:=JK o br.size dh.size;have agm:=JL o' hI.size jO.size;have ad5:=JK o' hI.size jO.size;have iJ:(bT o L H)[0]?=some (.bool o):=by rw[bT,Array.append_assoc,Array.getElem?_append_left (by simp)];rfl
 have aaf:(bT o' M N)[0]?=some (.bool o'):=by rw[bT,Array.append_assoc,Array.getElem?_append_left (by simp)];rfl
 rw[run_equalIn_agg w (k+5) 31 _ _ hS hp];simp only[Program.fieldsOf,Tryz.underlying31];simp[Op.eqFields,Go.part,isAgg,run_underlying u4,run_equalIn_bool',u4,h5,h6,z25,lo,hi,agm,ad5,iJ,aaf];generalize mV L M=p;generalize mV H N=q;cases o<;>cases o'<;>cases p<;>cases q<;>rfl
theorem aa1 (k:Nat) (t v t' v':Int) (w:World):(Op.equalIn (k+2) 23 (.agg #[.int .i64 t,.int .i64 v]) (.agg #[.int .i64 t',.int .i64 v'])).run Tryz.prog w=.ok ((t==t')&&(v==v')) w:=by
 have hS:Tryz.prog.underlying 23=some (.struct (Tryz.prog.fieldsOf 23)):=by kernel_rfl
 have hp:Tryz.prog.stoodInHeld 23=false:=by kernel_rfl
 have u:=Tryz.underlying2;have he:∀ (x y:Int) (w:World),(Op.equalIn (k+1) 2 (.int .i64 x) (.int .i64 y)).run Tryz.prog w=.ok (x==y) w:=fun x y w=>run_equalIn_int w k 2 .i64 .i64 x y u
 have z:=Tryz.sizeOf2;rw[run_equalIn_agg w (k+1) 23 _ _ hS hp];simp only[Program.fieldsOf,Tryz.underlying23];simp[Op.eqFields,Go.part,isAgg,run_underlying u,u,z,he];by_cases h0:t=t'<;>by_cases h1:v=v'<;>simp[h0,h1]
theorem aa_ (e n t v l e' n' t' v' l':Int) (o o':Bool) {L H M N:Array Value} (br:RC L) (dh:RC H) (hI:RC M) (jO:RC N) (w:World):(binOp .eql 33 (.agg (aI e n t v l (bT o L H))) (.agg (aI e' n' t' v' l' (bT o' M N)))).run Tryz.prog w=.ok (.bool ((e==e')&&((n==n')&&(((t==t')&&(v==v'))&&((l==l')&&((o==o')&&(mV L M&&mV H N))))))) w:=by
 have hS:Tryz.prog.underlying 33=some (.struct (Tryz.prog.fieldsOf 33)):=by kernel_rfl
 have hp:Tryz.prog.stoodInHeld 33=false:=by kernel_rfl
 have u:=Tryz.underlying2;have u2:=Tryz.underlying3;have he:∀ (x y:Int) (w:World),(Op.equalIn 9999 2 (.int .i64 x) (.int .i64 y)).run Tryz.prog w=.ok (x==y) w:=fun x y w=>run_equalIn_int w 9998 2 .i64 .i64 x y u
 have ze:∀ (x y:Int) (w:World),(Op.equalIn 9999 3 (.int .i64 x) (.int .i64 y)).run Tryz.prog w=.ok (x==y) w:=fun x y w=>run_equalIn_int w 9998 3 .i64 .i64 x y u2
 have hs:∀ w,(Op.equalIn 9999 23 (.agg #[.int .i64 t,.int .i64 v]) (.agg #[.int .i64 t',.int .i64 v'])).run Tryz.prog w=.ok ((t==t')&&(v==v')) w:=fun w=>aa1 9997 t v t' v' w
 have hc:∀ w,(Op.equalIn 9999 31 (.agg (bT o L H)) (.agg (bT o' M N))).run Tryz.prog w=.ok ((o==o')&&(mV L M&&mV H N)) w:=fun w=>RX 9993 o o' br dh hI jO w
 have fb:=Tryz.sizeOf23;have z2:=Tryz.sizeOf31;have s1:=lW o br.size dh.size;have s2:=lW o' hI.size jO.size;obtain⟨a0,a1,_,_,a4,a5,a6⟩:=nX (e:=e) (n:=n) (t:=t) (v:=v) (l:=l) s1;obtain⟨kM,bA,_,_,eZ,c1,cH⟩:=nX (e:=e') (n:=n') (t:=t') (v:=v') (l:=l') s2;unfold bO at a5 c1;generalize mV L M=p at hc ⊢;generalize mV H N=q at hc ⊢;generalize aI e n t v l (bT o L H)=X at a0 a1 a4 a5 a6 ⊢;generalize aI e' n' t' v' l' (bT o' M N)=Y at kM bA eZ c1 cH ⊢;generalize bT o L H=C at a6 hc;generalize bT o' M N=D at cH hc;rw[run_eql_struct,show (10000:Nat)=9999+1 from rfl,run_equalIn_agg w 9999 33 _ _ hS hp];simp only[Program.fieldsOf,Tryz.underlying33];simp[Op.eqFields,Go.part,isAgg,run_underlying u,run_underlying u2,he,ze,hs,hc,fb,z2,a0,a1,a4,a5,a6,kM,bA,eZ,c1,cH];by_cases h0:e=e'<;>by_cases h1:n=n'<;>by_cases h2:t=t'<;>by_cases h3:v=v'<;>by_cases h4:l=l'<;>by_cases h5:o=o'<;>cases p<;>cases q<;>simp[h0,h1,h2,h3,h4,h5]
end
end
section
open Go Go.RowKit Go.Sort
def FU (X:Array Value):Prop:=∃ eps s,o5 eps∧mF s∧X=mW eps s
theorem RJ (o:Bool) (L H:Array Value):(bT o L H)[0]?=some (.bool o):=by rw[bT,Array.append_assoc,Array.getElem?_append_left (by simp)];rfl
theorem TM:dg false 0 0 0 0 0:=by unfold dg;simp[b0,val]
theorem Vt:wM dq:=aj5 (s:=false) (a:=0) (b:=0) (c:=0) (d:=0) (t:=false) (e:=0) (f:=0) (g:=0) (h:=0) TM TM
theorem Vs:sh z21:=aj2 false Vt Vt
theorem aa7 (o o':Bool) {L H M N:Array Value} (br:RC L) (dh:RC H) (hI:RC M) (jO:RC N) (w:World):(binOp .eql 31 (.agg (bT o L H)) (.agg (bT o' M N))).run Tryz.prog w=.ok (.bool ((o==o')&&(mV L M&&mV H N))) w:=by
 rw[run_eql_struct,show (10000:Nat)=9994+6 from rfl,RX 9994 o o' br dh hI jO w];rfl
theorem V1:sh c9:=Or.inl ⟨.op,trivial,rfl⟩
def Q9 (f:Nat):Prop:=(∀ X,FU X→∀ w,Calls Tryz.prog f #[.agg X] w (aP (.bool true) w))∧(∀ X,Ct X→¬ FU X→∀ w,Calls Tryz.prog f #[.agg X] w (aP (.bool false) w))
def Ag (e n t l:Int) (z0 fb gd BK:Bool):Bool:=(decide (0≤e)&&decide (e≤4611686018427387904))&&(if n=0 then z0 else if n=1 then (decide (l=t)&&fb) else (decide (1<n)&&(decide (n≤1073741824)&&(decide (t<l)&&(gd&&!BK)))))
def Q_ (f jL:Nat):Prop:=∀ (e n t v l:Int) (K:Array Value),sh K→∀ (o:Bool) (L H:Array Value),K=bT o L H→RC L→RC H→∀ gd,(∀ w,Calls Tryz.prog jL #[.agg K] w (aP (.bool gd) w))→∀ w,Calls Tryz.prog f #[.agg (aI e n t v l K)] w (aP (.bool (Ag e n t l ((n==0)&&(((t==0)&&(v==0))&&((l==0)&&((o==false)&&(mV L dq&&mV H dq))))) ((o==true)&&(mV L dq&&mV H dq)) gd o)) w)
theorem aj0:Q_ 42 69:=fun e n t v l K cQ o L H A2 br dh gd kv w=>by
 subst A2;exact aj1 e n t v l _ (lW o br.size dh.size) (su o br.one dh.one) w _ _ _ gd o (hide (fun w=>HI e w)) (hide (fun w=>HG w)) (hide kv) (hide (fun _ w=>(by rw[WH];exact aa_ e n t v l e 0 0 0 0 o false br dh RC.zero RC.zero w))) (hide (fun w=>(by rw[Oz];exact aa7 o true br dh RC.zero RC.zero w))) (RJ o L H) _ (by unfold Ag;simp)
theorem amL {f jL:Nat} (vz:Q_ f jL) (aF:Ja jL) (hb:QW jL):Q9 f:=by
 have Mf:∀ {K:Array Value},sh K→∃ gd,(gd=true→QP K)∧∀ w,Calls Tryz.prog jL #[.agg K] w (aP (.bool gd) w):=fun {K} h=>by
  rcases h with ⟨c,hc,rfl⟩|h
  ·exact⟨true,fun _=>⟨c,hc,rfl⟩,aF c hc⟩
  ·exact⟨false,(fun e=>by cases e),hb K h⟩
 constructor
 ·rintro X ⟨eps,s,he,hs,rfl⟩ w;have t1:(decide (0≤eps)&&decide (eps≤4611686018427387904))=true:=by rw[decide_eq_true he.1,decide_eq_true he.2];rfl
  cases s with
  | none =>
   obtain⟨gd,_,kv⟩:=Mf Vs;have:=vz eps 0 0 0 0 z21 Vs false dq dq WH RC.zero RC.zero gd kv w;unfold Ag at this
   rw[t1] at this
   simpa [Od,mW] using this
  | some s =>
   obtain⟨h1,h2,h3⟩:=hs;rcases h3 with ⟨az,aU,a_⟩|⟨az,aU,a_,bK,a,b,cy⟩
   ·obtain⟨gd,_,kv⟩:=Mf V1;have:=vz eps s.count s.first.1 s.first.2 s.last c9 V1 true dq dq Oz RC.zero RC.zero gd kv w
    unfold Ag at this
    rw[t1] at this
    have e:mW eps (some s)=aI eps (s.count:Int) s.first.1 s.first.2 s.last c9:=by simp only[mW,a_];rfl
    rw[e];simpa [Od,az,aU] using this
   ·have hc:sh (e4 s.eG):=Or.inl ⟨_,bK,rfl⟩;have bk:e4 s.eG=bT false (cJ a) (cJ b):=by rw[cy];rfl
    have:=vz eps s.count s.first.1 s.first.2 s.last (e4 s.eG) hc false (cJ a) (cJ b) bk (gP a) (gP b) true (aF _ bK) w
    unfold Ag at this
    rw[t1] at this
    have g0:¬ (s.count:Int)=0:=by omega
    have g1:¬ (s.count:Int)=1:=by omega
    rw[if_neg g0,if_neg g1,decide_eq_true (show (1:Int)<s.count by omega),decide_eq_true (show (s.count:Int)≤1073741824 by omega),decide_eq_true a_] at this
    exact this
 ·rintro X ⟨e,n,t,v,l,K,he,hn,bd,Tc,hl,cQ,rfl⟩ iK w;obtain⟨o,L,H,A2,br,dh⟩:=Vr cQ;obtain⟨gd,zk,kv⟩:=Mf cQ;have:=vz e n t v l K cQ o L H A2 br dh gd kv w;generalize aD:Ag _ _ _ _ _ _ _ _=r at this
  cases r with
  | false=>exact this
  | true =>
   exfalso
   apply iK
   unfold Ag at aD;simp only[Bool.and_eq_true,decide_eq_true_eq] at aD;obtain⟨⟨t0,t1⟩,aD⟩:=aD;by_cases g0:n=0
   ·rw[if_pos g0] at aD;simp only[Bool.and_eq_true,beq_iff_eq,HE] at aD;obtain⟨_,⟨rfl,rfl⟩,rfl,rfl,rfl,rfl⟩:=aD;exact⟨e,none,⟨t0,t1⟩,trivial,by rw[g0,A2];rfl⟩
   ·rw[if_neg g0] at aD;by_cases g1:n=1
    ·rw[if_pos g1] at aD;simp only[Bool.and_eq_true,decide_eq_true_eq,beq_iff_eq,HE] at aD;obtain⟨rfl,rfl,rfl,rfl⟩:=aD;exact⟨e,some ⟨(l,v),l,1,.op⟩,⟨t0,t1⟩,⟨⟨bd,Tc⟩,hl,Or.inl ⟨rfl,rfl,rfl⟩⟩,by rw[g1,A2];rfl⟩
    ·rw[if_neg g1] at aD;simp only[Bool.and_eq_true,decide_eq_true_eq,Bool.not_eq_true'] at aD;obtain⟨aC,aW,EG,v1,b7⟩:=aD;obtain⟨c,hc,RP⟩:=zk v1;cases c with
     | op =>
      exfalso
      have:=congrArg (fun X:Array Value=>X[0]?) (A2.symm.trans RP);simp only[RJ] at this
      rw[b7] at this
      simp[e4,c9] at this
     | dU a b =>
      refine⟨e,some ⟨(t,v),l,n.toNat,.dU a b⟩,⟨t0,t1⟩,⟨⟨bd,Tc⟩,hl,Or.inr ⟨by show 2≤n.toNat;omega,by show n.toNat≤_;omega,EG,hc,a,b,rfl⟩⟩,?_⟩;simp only[mW];rw[show ((n.toNat:Nat):Int)=n by omega,←RP]
theorem HD:Q9 42:=amL aj0 EU ajZ
end
section
open Go Go.RowKit Go.Sort
def Hj (X:Array Value) (oI:Int):Value→Value:=fun z=>.tuple #[.agg X,z,.int .i64 oI]
def uh (s:Option jc) (x:Sa):Int:=match s with
 | none=>0
 | some s=>if x.1≤s.last then 7 else if s.count=1073741824 then 3 else 0
def E5 (eps:Int) (s:Option jc) (x:Sa):Array Value:=if uh s x=0 then mW eps (gZ eps s x).1 else bL
noncomputable def E4 (eps:Int) (s:Option jc) (x:Sa):List gD:=if uh s x=0 then (gZ eps s x).2.map gp else []
def XH (f:Nat):Prop:=(∀ X (x:Sa),Ct X→¬ FU X→∀ W,Calls Tryz.prog f #[.agg X,.agg (bO x.1 x.2)] W (gi W (Hj bL 1) []))∧(∀ eps s (x:Sa),o5 eps→mF s→pU x→∀ W,Calls Tryz.prog f #[.agg (mW eps s),.agg (bO x.1 x.2)] W (gi W (Hj (E5 eps s x) (uh s x)) (E4 eps s x)))
theorem ajU:XH 33:=by
 constructor
 ·intro X x dk iK W;have kv:=HD.2 X dk iK;obtain⟨e,n,t,v,l,K,rfl,cS,eI⟩:=dk.size;exact(ajQ e n t v l K cS eI x.1 x.2 W (hide kv)).mono fun _ _ h=>gi.jT h
 ·intro eps s x he hs hx W;have kv:=HD.1 _ ⟨eps,s,he,hs,rfl⟩;cases s with
  | none =>
   have eM:=fun w=>Vi eps x.1 x.2 w (hide (fun w=>HG w))
   have:=ajS eps 0 0 0 0 z21 rfl iV x.1 x.2 W (hide kv) (hide eM) rfl;exact this.mono fun _ _ h=>gi.jT h
  | some s =>
   have cS:=tN s.eG;have eI:=uU s.eG;have hle:=hs.le;have d0:((s.count:Int)==0)=false:=by rw[beq_eq_false_iff_ne];omega
   by_cases h1:x.1≤s.last
   ·have bk:uh (some s) x=7:=if_pos h1;unfold E5 E4;rw[bk];exact(ajT eps s.count s.first.1 s.first.2 s.last (e4 s.eG) cS eI x.1 x.2 W (hide kv) d0 (decide_eq_true h1)).mono fun _ _ h=>gi.jT h
   ·by_cases h2:s.count=1073741824
    ·have bk:uh (some s) x=3:=by simp only[uh,if_neg h1,if_pos h2]
     unfold E5 E4;rw[bk];exact(ajR eps s.count s.first.1 s.first.2 s.last (e4 s.eG) cS eI x.1 x.2 W (hide kv) d0 (decide_eq_false h1) (by rw[h2];rfl)).mono fun _ _ h=>gi.jT h
    ·have bk:uh (some s) x=0:=by simp only[uh,if_neg h1,if_neg h2]
     unfold E5 E4;rw[bk,if_pos rfl,if_pos rfl];have d2:((s.count:Int)==1073741824)=false:=by rw[beq_eq_false_iff_ne];omega
     obtain⟨dt,cb,M⟩:=Ud (fo:=23) (fd:=21) (ft:=22) (fm:=30) he hs hx (by omega) (fun z h w=>ZT h w) (fun a b w ha hb=>ajE a b w ha hb) ajW ajN;have hc:=tN (mX eps s.first x);have EL:=uU (mX eps s.first x);have ev:=M.ev;simp only[gZ];cases hm:kB s.eG (mX eps s.first x) with
     | some m =>
      rw[hm] at ev;have:=ajV eps s.count s.first.1 s.first.2 s.last (e4 s.eG) cS eI x.1 x.2 W (TH (by omega)) (hide kv) d0 (decide_eq_false h1) d2 dt (e4 (mX eps s.first x)) (e4 m) cb hc EL (tN m) (uU m) (hide M.bQ) (hide M.bY) (hide M.cX) (hide ev)
      exact this.mono fun _ _ h=>gi.jT h
     | none =>
      rw[hm] at ev;have eM:=fun w=>Vi eps x.1 x.2 w (hide (fun w=>HG w))
      have og:=fun w=>Vm eps s.count s.first.1 s.first.2 s.last (e4 s.eG) cS eI (cJ (qQ s.eG)) rfl (gP _).one w (hide (fun w=>Gi Vj hs.eG w))
      exact ajP eps s.count s.first.1 s.first.2 s.last (e4 s.eG) cS eI x.1 x.2 W (qQ s.eG) (hide kv) d0 (decide_eq_false h1) d2 dt (e4 (mX eps s.first x)) z21 cb hc EL rfl iV (hide M.bQ) (hide M.bY) (hide M.cX) (hide ev) (hide eM) (hide og)
end
section
open Go Go.RowKit Go.Sort
theorem akU {eps:Int}{s:Option jc}{x:Sa} (he:o5 eps) (hs:mF s) (hx:pU x) (hl:∀ s',s=some s'→s'.last<x.1∧s'.count<1073741824):mF (gZ eps s x).1:=by
 cases s with
 | none=>exact Jz hx
 | some s=>exact V5 he hs hx (hl s rfl).1 (hl s rfl).2
end
section
open Go Go.RowKit Go.Sort
attribute [local go_sem] mg A3 bB BX
def WU (f:Nat):Prop:=(∀ X,Ct X→¬ FU X→∀ W,Calls Tryz.prog f #[.agg X] W (gi W (mk2 1) []))∧(∀ eps s,o5 eps→mF s→∀ W,Calls Tryz.prog f #[.agg (mW eps s)] W (gi W (mk2 0) ((tP s).map gp)))
theorem ajH:WU 40:=by
 constructor
 ·intro X dk iK W;have kv:=HD.2 X dk iK;obtain⟨e,n,t,v,l,K,rfl,cS,eI⟩:=dk.size;exact(ajF e n t v l K cS eI W (hide kv)).mono fun _ _ h=>gi.jT h
 ·intro eps s he hs W;have kv:=HD.1 _ ⟨eps,s,he,hs,rfl⟩;cases s with
  | none=>exact(ajG eps 0 0 0 0 z21 rfl iV W (hide kv) rfl).mono fun _ _ h=>gi.jT h
  | some s =>
   have hle:=hs.le;have d0:((s.count:Int)==0)=false:=by rw[beq_eq_false_iff_ne];omega
   have cS:=tN s.eG;have eI:=uU s.eG;have og:=fun w=>Vm eps s.count s.first.1 s.first.2 s.last (e4 s.eG) cS eI (cJ (qQ s.eG)) rfl (gP _).one w (hide (fun w=>Gi Vj hs.eG w))
   exact ajI eps s.count s.first.1 s.first.2 s.last (e4 s.eG) cS eI (qQ s.eG) W (hide kv) d0 (hide og)
end
section
open Go Go.RowKit Go.Sort
set_option maxRecDepth 100000 in
theorem ajX (A:Option Addr) (n c:Nat) (l:List (Int × Int)) (W:World) (hl:fK W A l) (hn:l.length=n) (fT:n≤8796093022000) :
 Calls Tryz.prog 82 #[.slice A n c] W (Xv (l.map Prod.fst) W):=by
 have Ci:=hide hl.1;have AH:=hide hl;have r0:=hide hn;have bS:Hid (Ext W W):=Ext.refl _;clear hl hn;go_enter Tryz.func82,Tryz.ntmps82
 go_wp2_with fail
 go_loopw [3,4] (fun lv iv wr=>∃ i:Nat,i≤n∧iv=.int .i64 (i:Int)∧Hid (fJ W.heap.size wr lv ((l.map Prod.fst).take i))∧Hid (Ext W wr)) (fun _ iv _=>n-(intOf iv).toNat)
 case atStart=>exact⟨0,by omega,rfl,hide (fJ.jT _ _),bS⟩
 case round =>
  clear bS;obtain⟨i,hi,rfl,bM,dc⟩:=hrel;by_cases cl:i<n
  ·have d0:decide ((i:Int)<(n:Int))=true:=decide_eq_true (by omega);have k3:i<l.length:=by rw[r0.out];exact cl
   obtain⟨j3,lG,rfl,_,hc⟩:=(AH.out.ext dc.out).2.2 (by omega);have nQ:=(hc i k3).1;have Bx:=fun w=>G8 j3 lG n c i cl w
   have hL:=V' (l:=l.map Prod.fst) (k:=i) (by rw[List.length_map];exact k3);have DP:(l.map Prod.fst).getD i 0=(l.getD i (0,0)).1:=by simp[List.getD_eq_getElem?_getD,k3]
   have hx:=(Ci.out.get i).1;obtain⟨x,Tl⟩:=aM ((l.getD i (0,0)).1);rw[Tl] at nQ hx DP;rw[DP] at hL;have hle:((l.map Prod.fst).take i).length+[x].length≤17592186044416:=by rw[List.length_take,List.length_map,r0.out];simp;omega
   have Qu:=hide hL;have O3:=hide (bM.out.alloc (.cells #[Value.int .i64 x] 2));have mN:=hide (UL wr x hx _ rfl);have dw:=hide (Ext.trans dc.out (aA wr (.cells #[Value.int .i64 x] 2)));obtain⟨T,aw⟩:=aM ((l.map Prod.fst).take i);rw[aw] at O3 Qu hle;clear hc k3 hL DP Tl aw bM dc;go_wp2_with (at_builtin;refine Wt rfl (.tmp 11) (.tmp 17) rfl W.heap.size _ T [x] rfl O3.out _ 1 1 rfl mN.out rfl hle dw.out.size ?_;intro v6 cg DB Bd hA6)
   have oz:Hid (fJ W.heap.size cg v6 ((l.map Prod.fst).take (i+1))):=by show fJ _ _ _ _;rw[Qu.out];exact DB
   have mZ:=hide (YF dw.out (Nat.le_refl _) O3.out Bd);clear DB Bd hA6 O3 dw;go_roundw
   case rel=>exact⟨i+1,by omega,by go_num,oz,mZ⟩
   case measure=>simp[intOf];omega
  ·obtain rfl:i=n:=by omega
   have d0:decide ((i:Int)<(i:Int))=false:=decide_eq_false (by omega);have eD:=bM.out;rw[List.take_of_length_le (by rw[List.length_map,r0.out];omega)] at eD;have eD:=hide eD;go_wp2_with fail
   go_ret;exact⟨_,rfl,eD.out,dc.out⟩
theorem N' (A:Option Addr) (n c:Nat) (l:List (Int × Int)) (W:World) (hl:fK W A l) (hn:l.length=n) (fT:n≤8796093022000) (v:Nat) (aF:lV l=v) :
 Calls Tryz.prog 50 #[.slice A n c] W (aP (.int .i64 (v:Int)) W):=by
 have wF:Hid (Calls Tryz.prog 82 #[.slice A n c] W fun e w'=>∃ cU az,e=.returned (.slice cU n az)∧hE w' cU (l.map Prod.fst)∧Ext W w'):=hide ((ajX A n c l W hl hn fT).mono fun e w' h=>by
  obtain⟨v,rfl,aL,ad⟩:=h;obtain⟨cU,az,rfl,_,_,hw⟩:=aL.at_;exact⟨cU,az,by rw[List.length_map,hn],hw,ad⟩)
 have pQ:Hid (∀ cU az w,hE w cU (l.map Prod.fst)→Calls Tryz.prog 81 #[.slice cU n az] w (aP (.bool (jx (l.map Prod.fst))) w)):=hide (fun cU az w h=>ajL cU n az (l.map Prod.fst) w h (by rw[List.length_map];exact hn) _ rfl);unfold lV at aF;obtain⟨i,hi⟩:=aM (jx (l.map Prod.fst));rw[hi] at aF pQ;clear hl hn hi;cases i with
 | true =>
  rw[if_pos rfl] at aF;subst aF;go_enter Tryz.func50,Tryz.ntmps50
  go_wp2_with (first
   | (go_at_call 82;(with_reducible refine(wF.out).mono ?_);rintro e aT ⟨cU,az,rfl,hw,ad⟩;have bS:=hide ad;have ki:=hide (pQ.out cU az aT hw);clear hw ad)
   | (go_at_call 81;(with_reducible refine(ki.out).mono ?_);rintro e bp ⟨rfl,ad⟩;have da:=hide (Ext.trans bS.out ad);clear ad))
  go_ret;exact⟨rfl,da.out⟩
 | false =>
  rw[if_neg (by decide)] at aF;subst aF;go_enter Tryz.func50,Tryz.ntmps50
  go_wp2_with (first
   | (go_at_call 82;(with_reducible refine(wF.out).mono ?_);rintro e aT ⟨cU,az,rfl,hw,ad⟩;have bS:=hide ad;have ki:=hide (pQ.out cU az aT hw);clear hw ad)
   | (go_at_call 81;(with_reducible refine(ki.out).mono ?_);rintro e bp ⟨rfl,ad⟩;have da:=hide (Ext.trans bS.out ad);clear ad))
  go_ret;exact⟨rfl,da.out⟩
end
end Go.Proofs.YtojbopibfflnoaaGreat
