/- Facts. -/
import Derived.Test.YtojbopibfflnoaaGreatPrY37
import Derived.Shelf.Strconv.Itoa0
namespace Go.Proofs.YtojbopibfflnoaaGreat
open Go renaming undef → c, World → r, Value → i, Calls → u, wpQuiet_nil → B', redrawn → aw5, Addr → aw6
open _root_.Go.Proofs.Tryz renaming prog → o
set_option linter.unusedVariables false
set_option linter.unusedSimpArgs false
set_option maxHeartbeats 16000000
set_option maxRecDepth 100000
section
open Go Go.RowKit Go.Sort
theorem aiH{eps:Int}{s:Option jc}{x:Sa}(he:o5 eps)(hs:mF s)(hx:pU x)(hl:∀ s',s=some s'->s'.last<x.1/\s'.count<1073741824)(g:Nat)(di:Option aw6)(cM c6 B:Nat)(ls:List gD)(W:r)(bJ:aG W g 86 (cV (mW eps s) (.slice di cM c6)))(fY:eA.Own B W (.slice di cM c6) ls)(od:cM=ls.length)(oM:cM<=c6)(aO:(Value.slice di cM c6).ownBlock≠some g)(bF:B<=W.heap.size)(hlen:ls.length<=1099511627776) :
 u o 48 #[yj g 0,.agg (bO x.1 x.2)] W (wy g B W (mW eps (gZ eps s x).1) (.slice di cM c6) (ls++(gZ eps s x).2.map gp)):=by
 have ks:=hide (fun w=>U3 w);cases s with
 | none =>
  have:=aiG eps 0 0 0 0 z21 rfl iV g di cM c6 x.1 x.2 B ls W bJ fY od oM aO bF ks (decide_eq_false (by omega));rw[show (gZ eps none x).2.map gp=[] from rfl,List.append_nil];exact this
 | some s =>
  obtain⟨h1,h2⟩:=hl s rfl;have hle:=hs.le;have cS:=tN s.eG;have eI:=uU s.eG;have d0:decide ((0:Int)<(s.count:Int))=true:=decide_eq_true (by omega);obtain⟨dt,cb,M⟩:=Ud (fo:=95) (fd:=96) (ft:=94) (fm:=97) he hs hx h1 (fun z h w=>Zb h w) (fun a b w ha hb=>aiR a b w ha hb) ai_ ai5;have hc:=tN (mX eps s.first x);have EL:=uU (mX eps s.first x);have ev:=M.ev;simp only[gZ];cases hm:kB s.eG (mX eps s.first x) with
  | some m =>
   rw[hm] at ev;have nS:=hide (fun w (P:aG w g 86 (cV (aI eps (s.count:Int) s.first.1 s.first.2 s.last (e4 s.eG)) (.slice di cM c6)))=>ai2 eps s.count s.first.1 s.first.2 s.last (e4 s.eG) cS eI g (.slice di cM c6) x.1 x.2 (TH h2) dt (e4 (mX eps s.first x)) (e4 m) cb hc EL (tN m) (uU m) (hide M.bQ) (hide M.bY) (hide M.cX) (hide ev) w P);have:=aiJ eps s.count s.first.1 s.first.2 s.last (e4 s.eG) cS eI g di cM c6 x.1 x.2 B ls (e4 m) W bJ fY od oM aO bF d0 nS
   rw[show ([]:List wI).map gp=[] from rfl,List.append_nil];exact this
  | none =>
   rw[hm] at ev;have nS:=hide (fun w (P:aG w g 86 (cV (aI eps (s.count:Int) s.first.1 s.first.2 s.last (e4 s.eG)) (.slice di cM c6)))=>ai1 eps s.count s.first.1 s.first.2 s.last (e4 s.eG) cS eI g (.slice di cM c6) x.1 x.2 dt (e4 (mX eps s.first x)) z21 cb hc EL rfl iV (hide M.bQ) (hide M.bY) (hide M.cX) (hide ev) w P);exact aiF eps s.count s.first.1 s.first.2 s.last (e4 s.eG) cS eI g di cM c6 x.1 x.2 B ls (qQ s.eG) W bJ fY od oM aO bF ks hlen d0 nS (hide (fun w=>Gi US hs.eG w))
theorem HT{eps:Int}{s:Option jc}(h:mF s):∃ n t v l K,mW eps s=aI eps n t v l K/\K.size=21/\K.all (·.oneCell')=true:=by
 cases s with
 | none=>exact⟨0,0,0,0,z21,rfl,rfl,iV⟩
 | some s=>exact⟨_,_,_,_,_,rfl,tN _,uU _⟩
theorem akU{eps:Int}{s:Option jc}{x:Sa}(he:o5 eps)(hs:mF s)(hx:pU x)(hl:∀ s',s=some s'->s'.last<x.1/\s'.count<1073741824):mF (gZ eps s x).1:=by
 cases s with
 | none=>exact Jz hx
 | some s=>exact V5 he hs hx (hl s rfl).1 (hl s rfl).2
theorem aug:XH 38:=by
 constructor
 ·intro X x dk iK W;have kv:=QJ.2 X dk iK;obtain⟨e,n,t,v,l,K,rfl,cS,eI⟩:=dk.size;exact(avX e n t v l K cS eI x.1 x.2 W (hide kv)).mono fun _ _ h=>gi.jT h
 ·intro eps s x he hs hx W;have kv:=QJ.1 _ ⟨eps,s,he,hs,rfl⟩;have hN:(∀ s',s=some s'->s'.last<x.1/\s'.count<1073741824)->∀ w g B,aG w g 86 (cV (mW eps s) (.slice none 0 0))->B<=w.heap.size->u o 48 #[yj g 0,.agg (bO x.1 x.2)] w (wy g B w (mW eps (gZ eps s x).1) (.slice none 0 0) ((gZ eps s x).2.map gp)):=fun hl w g B bJ bF =>
   aiH he hs hx hl g none 0 0 B [] w bJ (El.Own.jT eA B w) rfl (Nat.le_refl _) (by intro h;cases h) bF (by simp)
  cases s with
  | none =>
   obtain⟨aW,t2,v2,aj,eC,e2,Ot,UI⟩:=HT (eps:=eps) (Jz hx);have hN:=hN (fun _ h=>by cases h);have h1:E5 eps none x=aI eps aW t2 v2 aj eC:=e2;have h2:E4 eps none x=[]:=rfl;rw[h1,h2];have avv:∀ w g B,aG w g 86 (cV (aI eps 0 0 0 0 z21) (.slice none 0 0))->B<=w.heap.size->u o 48 #[yj g 0,.agg (bO x.1 x.2)] w (wy g B w (aI eps aW t2 v2 aj eC) (.slice none 0 0) []):=fun w g B P bF=>by
    have:=hN w g B P bF;rw[show mW eps (gZ eps none x).1=aI eps aW t2 v2 aj eC from e2] at this
    exact this
   exact avV eps 0 0 0 0 z21 rfl iV x.1 x.2 W eps aW t2 v2 aj eC Ot UI [] (hide kv) rfl rfl (hide avv)
  | some s =>
   have cS:=tN s.eG;have eI:=uU s.eG;have hle:=hs.le;have d0:((s.count:Int) != 0)=true:=by rw[bne_iff_ne];omega
   by_cases h1:x.1<=s.last
   ·have bk:uh (some s) x=7:=if_pos h1;unfold E5 E4;rw[bk];exact(avZ eps s.count s.first.1 s.first.2 s.last (e4 s.eG) cS eI x.1 x.2 W (hide kv) d0 (decide_eq_true h1)).mono fun _ _ h=>gi.jT h
   ·by_cases h2:s.count=1073741824
    ·have bk:uh (some s) x=3:=by simp only[uh,if_neg h1,if_pos h2]
     unfold E5 E4;rw[bk];exact(avY eps s.count s.first.1 s.first.2 s.last (e4 s.eG) cS eI x.1 x.2 W (hide kv) d0 (decide_eq_false h1) (by rw[h2];rfl)).mono fun _ _ h=>gi.jT h
    ·have bk:uh (some s) x=0:=by simp only[uh,if_neg h1,if_neg h2]
     unfold E5 E4;rw[bk,if_pos rfl,if_pos rfl];have d2:((s.count:Int)==1073741824)=false:=by rw[beq_eq_false_iff_ne];omega
     have hl:∀ s',some s=some s'->s'.last<x.1/\s'.count<1073741824:=fun s' e=>by cases e;exact⟨by omega,by omega⟩
     obtain⟨aW,t2,v2,aj,eC,e2,Ot,UI⟩:=HT (eps:=eps) (akU he hs hx hl);have hN:=hN hl;rw[e2] at hN |-;exact avW eps s.count s.first.1 s.first.2 s.last (e4 s.eG) cS eI x.1 x.2 W eps aW t2 v2 aj eC Ot UI _ (hide kv) d0 (decide_eq_false h1) d2 (hide hN)
end
section
open Go Go.RowKit Go.Sort
attribute [local go_sem] mg A3 bB BX
theorem avU(e n t v l:Int)(K:Array i)(cS:K.size=21)(eI:K.all (·.oneCell')=true)(W:r)(kv:Hid (∀ w,u o 41 #[.agg (aI e n t v l K)] w (aP (.bool false) w))):u o 39 #[.agg (aI e n t v l K)] W (aP (.tuple #[.slice none 0 0,.int .i64 1]) W):=by
 have eX:=hR (e:=e) (n:=n) (t:=t) (v:=v) (l:=l) cS;have kf:=jU (e:=e) (n:=n) (t:=t) (v:=v) (l:=l) eI;obtain⟨f0,f1,f2,f3,f4,fs,fk⟩:=nX (e:=e) (n:=n) (t:=t) (v:=v) (l:=l) cS;obtain⟨X,dk⟩:=aM (aI e n t v l K);rw[dk] at eX kf f0 f1 f2 f3 f4 fs fk kv |-;clear dk;have aS:=aG.new W 33 X;have EE:=hide (aA W (.cells X 33));obtain⟨bG,bD⟩:=aM ((W.alloc (.cells X 33)));obtain⟨g0,af⟩:∃ g,W.heap.size=g:=⟨_,rfl⟩;rw[bD] at aS EE;rw[af] at aS;have wK:W.heap.size<=g0:=by omega
 have aB:=hide bD;have bW:=hide af;clear bD af;go_enter Tryz.func39,Tryz.ntmps39
 go_upto_region 1 with fail
 rw[aB.out,bW.out];clear aB bW;refine eK ?_;repeat (first|go_big_quiet_step (first|with_reducible exact dK (kv.out _))|(refine iE (by kernel_rfl) rfl rfl (fun w hw=>by obtain⟨⟨d,os⟩,rfl⟩:=hw;exact dF ((aS).ext (aX bG d os)) jC rfl eW eX) ?_)|quiet_step (first|with_reducible exact dK (kv.out _)))
 refine B' ?_;intro _ bj;obtain⟨⟨aQ,osq⟩,cq⟩:=bj;subst cq;replace aS:=(aS).ext (aX bG aQ osq);replace EE:=hide (EE.out.trans (aX bG aQ osq));obtain⟨bp,eF⟩:∃ w,grow (aw5 bG aQ) osq=w:=⟨_,rfl⟩;rw[eF] at EE aS |-;clear eF;go_wp2_with fail
 go_ret2
 exact⟨rfl,EE.out⟩
theorem avT(e n t v l:Int)(K:Array i)(cS:K.size=21)(eI:K.all (·.oneCell')=true)(ls:List gD)(W:r)(kv:Hid (∀ w,u o 41 #[.agg (aI e n t v l K)] w (aP (.bool true) w)))(tW:Hid (∀ w g B,aG w g 86 (cV (aI e n t v l K) (.slice none 0 0))->B<=w.heap.size->u o 49 #[yj g 0] w (wy g B w (aI e n t v l K) (.slice none 0 0) ls))) :
 u o 39 #[.agg (aI e n t v l K)] W (gi W (mk2 0) ls):=by
 have eX:=hR (e:=e) (n:=n) (t:=t) (v:=v) (l:=l) cS;have kf:=jU (e:=e) (n:=n) (t:=t) (v:=v) (l:=l) eI;obtain⟨f0,f1,f2,f3,f4,fs,fk⟩:=nX (e:=e) (n:=n) (t:=t) (v:=v) (l:=l) cS;obtain⟨X,dk⟩:=aM (aI e n t v l K);rw[dk] at eX kf f0 f1 f2 f3 f4 fs fk kv |-;have SF:=hide dk;clear dk;have aS:=aG.new W 33 X;have EE:=hide (aA W (.cells X 33));obtain⟨bG,bD⟩:=aM ((W.alloc (.cells X 33)));obtain⟨g0,af⟩:∃ g,W.heap.size=g:=⟨_,rfl⟩;rw[bD] at aS EE;rw[af] at aS;have wK:W.heap.size<=g0:=by omega
 have aB:=hide bD;have bW:=hide af;clear bD af;go_enter Tryz.func39,Tryz.ntmps39
 go_upto_region 1 with fail
 rw[aB.out,bW.out];clear aB bW;refine eK ?_;repeat (first|go_big_quiet_step (first|with_reducible exact dK (kv.out _))|(refine iE (by kernel_rfl) rfl rfl (fun w hw=>by obtain⟨⟨d,os⟩,rfl⟩:=hw;exact dF ((aS).ext (aX bG d os)) jC rfl eW eX) ?_)|quiet_step (first|with_reducible exact dK (kv.out _)))
 refine B' ?_;intro _ bj;obtain⟨⟨aQ,osq⟩,cq⟩:=bj;subst cq;replace aS:=(aS).ext (aX bG aQ osq);replace EE:=hide (EE.out.trans (aX bG aQ osq));obtain⟨bp,eF⟩:∃ w,grow (aw5 bG aQ) osq=w:=⟨_,rfl⟩;rw[eF] at EE aS |-;clear eF;go_upto_region 3 with fail
 have dk:=SF.out;clear SF;subst dk;replace aS:aG _ _ _ (aI e n t v l K):=aS;have uG:=aS.lt;refine eB [.q,.q,.al,.st 2] [0,0,0,0] (fun R=>[.agg (aI e n t v l K),.agg (cV (aI e n t v l K) (.slice none 0 0)),c,c]) (fun _=>(.cells z27 86 (0,0))) (fun R _=>(.cells (cV (aI e n t v l K) (.slice none 0 0)) 86 (0,0))) (fun _=>0) (dA W) (fun _=>False) (by kernel_rfl) (by kernel_rfl) (by kernel_rfl) rfl (fun _=>rfl) (fun _ h=>h.elim) (fun _ _ h=>h) (by simp) (by simp) (fun R b1=>⟨fun _=>rfl,fun _=>rfl,fun _=>rfl,fun _=>rfl,trivial⟩) (fun _ _ _ _=>rfl) dH EE.out ?ah8 ?aaV;case ah8 =>
  refine⟨?_,?_,?_,?_,trivial⟩
  ·refine cj fun R s w' aw hs hw ha=>?_
   have L:=dF (aS.aY hw (fun h=>h) (by simp)) jC rfl eW (hR cS);generalize hA:bB _ _ _ _ _ _ _=c3;refine e7 rfl ?_ L;subst hA;kernel_rfl
  ·refine cj fun R s w' aw hs hw ha=>?_
   generalize hA:bB _ _ _ _ _ _ _=c3;refine pD (vs:=#[(0,.agg (aI e n t v l K))]) rfl ?_ (YE e n t v l cS);subst hA;kernel_rfl
  ·refine ia ?ayc ?rE ?zy ?vj ?_;case ayc=>exact(.cells z27 86 (0,0))
   case rE=>exact rfl
   case zy=>exact rfl
   case vj=>exact cu rfl
   intro ρ w';go_simp;exact⟨rfl,rfl⟩
  ·refine ib (j:=2) (Ty:=?XT) (p:=?aju) (x:=?anW) ?Kn ?pM ?wo ?iR ?NC ?j9 ?M0 ?jo ?J7 ?_;case iR=>exact rfl
   case NC=>exact rfl
   case Kn=>exact(fun R=>(.cells (cV (aI e n t v l K) (.slice none 0 0)) 86 (0,0)))
   case pM=>exact(.cells z27 86 (0,0))
   case wo=>exact(fun R=>.agg (cV (aI e n t v l K) (.slice none 0 0)))
   case j9=>exact(fun R=>rfl)
   case M0=>exact rfl
   case jo=>exact cu rfl
   case J7 =>
    intro R;kernel_rfl
   intro R s ρ w g aw hs hp hx af hz;exact⟨hQ rfl hp hx hz afa ((qP cS)) ((akM eI rfl)),fun aT hF=>dM aw hF (Nat.le_trans EE.out.size af)⟩
 case aaV =>
  intro cY R G b6 ae;have hS:=ae.same;have aZ:=ae.holds;have bf:=EE.out.size;replace aS:=aS.aY hS (fun h=>h) (by simp);have ag:aG b6 (G 2) 86 (cV (aI e n t v l K) (.slice none 0 0)):=(ae.eV 3 (List.mem_range.2 (show 3<4 by decide)) 2 rfl).2.2;have avl:=(ae.made 2 (List.mem_range.2 (show 2<4 by decide)) rfl).1;have lj:W.heap.size<=G 2:=Nat.le_trans bf avl;have awS:g0≠G 2:=by omega
  replace EE:=hide (show Ext _ _ from aZ);clear hS bf aZ ae uG;generalize hF:bB _ _ _ _ _ _ _=bH;have bI:bH={ tmps:=#[.agg (aI e n t v l K),(yj g0 0:i),.slice none 0 0,.int .i64 0,(yj (G 2) 0:i),.agg (aI e n t v l K),.bool true,.bool false,.agg (aI e n t v l K),.agg (cV (aI e n t v l K) (.slice none 0 0)),c,c,c],defers:=[] }:=by subst hF;kernel_rfl
  clear hF;subst bI;generalize G 2=g4 at *;obtain⟨ay,y7⟩:∃ B,B=b6.heap.size:=⟨_,rfl⟩;have Bm:W.heap.size<=ay:=by rw[y7];exact EE.out.size
  go_upto_region 5 with (go_at_call 49;(with_reducible refine(tW.out _ _ ay ag (Nat.le_of_eq y7)).mono ?_);rintro oI cN ⟨rfl,cU,aC,az,hJ,eS,bJ,r7,xt,uA⟩)
  have aE:∀ k,k<W.heap.size->cN.heap[k]?=b6.heap[k]?:=fun k h1=>uA.2.2.2.2 k (Nat.lt_of_lt_of_le h1 EE.out.size) (fun h=>h.elim (by omega) (fun h=>by cases h))
  have WT:Ext W cN:=⟨uA.1.trans EE.out.os,uA.2.1.trans EE.out.tape,uA.2.2.1.trans EE.out.output,Nat.le_trans EE.out.size uA.2.2.2.1,fun k Jm=>(aE k Jm).trans (EE.out.block k Jm)⟩;have WT:=hide WT;have r7:=hide r7;have Az:=hide hJ;clear hJ;clear EE aS ag aE;have Zq:=(bJ.cell 26).trans (qe (q:=.slice cU aC az) cS).2.2.2.2.2.1;go_wp2_with fail
  go_ret2
  exact⟨cU,aC,az,Az.out,eS,by kernel_rfl,r7.out.less Bm,WT.out⟩
def WU(f:Nat):Prop:=(∀ X,Ct X->¬ FU X->∀ W,u o f #[.agg X] W (gi W (mk2 1) []))/\(∀ eps s,o5 eps->mF s->∀ W,u o f #[.agg (mW eps s)] W (gi W (mk2 0) ((tP s).map gp)))
theorem ajH:WU 40:=by
 constructor
 ·intro X dk iK W;have kv:=HD.2 X dk iK;obtain⟨e,n,t,v,l,K,rfl,cS,eI⟩:=dk.size;exact(ajF e n t v l K cS eI W (hide kv)).mono fun _ _ h=>gi.jT h
 ·intro eps s he hs W;have kv:=HD.1 _ ⟨eps,s,he,hs,rfl⟩;cases s with
  | none=>exact(ajG eps 0 0 0 0 z21 rfl iV W (hide kv) rfl).mono fun _ _ h=>gi.jT h
  | some s =>
   have hle:=hs.le;have d0:((s.count:Int)==0)=false:=by rw[beq_eq_false_iff_ne];omega
   have cS:=tN s.eG;have eI:=uU s.eG;have og:=fun w=>Vm eps s.count s.first.1 s.first.2 s.last (e4 s.eG) cS eI (cJ (qQ s.eG)) rfl (gP _).one w (hide (fun w=>Gi Vj hs.eG w))
   exact ajI eps s.count s.first.1 s.first.2 s.last (e4 s.eG) cS eI (qQ s.eG) W (hide kv) d0 (hide og)
theorem ai0{eps:Int}{s:Option jc}(hs:mF s)(g:Nat)(di:Option aw6)(cM c6 B:Nat)(ls:List gD)(W:r)(bJ:aG W g 86 (cV (mW eps s) (.slice di cM c6)))(fY:eA.Own B W (.slice di cM c6) ls)(od:cM=ls.length)(oM:cM<=c6)(aO:(Value.slice di cM c6).ownBlock≠some g)(bF:B<=W.heap.size)(hlen:ls.length<=1099511627776) :
 u o 49 #[yj g 0] W (wy g B W (mW eps s) (.slice di cM c6) (ls++(tP s).map gp)):=by
 cases s with
 | none =>
  have:=UU eps 0 0 0 0 z21 rfl iV g (.slice di cM c6) W bJ (decide_eq_false (by omega));rw[show (tP none).map gp=[] from rfl,List.append_nil];exact this.mono fun e w' h=>⟨h.1,di,cM,c6,od,oM,bJ.ext h.2,fY.ext h.2,aO,Below.vk h.2⟩
 | some s =>
  have hle:=hs.le;exact UW eps s.count s.first.1 s.first.2 s.last (e4 s.eG) (tN _) (uU _) g (.slice di cM c6) B ls (qQ s.eG) W bJ fY aO bF hlen (decide_eq_true (by omega)) (hide (fun w=>Gi US hs.eG w))
theorem aue:WU 39:=by
 constructor
 ·intro X dk iK W;have kv:=QJ.2 X dk iK;obtain⟨e,n,t,v,l,K,rfl,cS,eI⟩:=dk.size;exact(avU e n t v l K cS eI W (hide kv)).mono fun _ _ h=>gi.jT h
 ·intro eps s he hs W;have kv:=QJ.1 _ ⟨eps,s,he,hs,rfl⟩;obtain⟨aW,t2,v2,aj,eC,e2,Ot,UI⟩:=HT (eps:=eps) hs;have tW:∀ w g B,aG w g 86 (cV (mW eps s) (.slice none 0 0))->B<=w.heap.size->u o 49 #[yj g 0] w (wy g B w (mW eps s) (.slice none 0 0) ((tP s).map gp)):=fun w g B bJ bF =>
   ai0 hs g none 0 0 B [] w bJ (El.Own.jT eA B w) rfl (Nat.le_refl _) (by intro h;cases h) bF (by simp)
  rw[e2] at tW kv |-;exact avT eps aW t2 v2 aj eC Ot UI _ W (hide kv) (hide tW)
end
end Go.Proofs.YtojbopibfflnoaaGreat
