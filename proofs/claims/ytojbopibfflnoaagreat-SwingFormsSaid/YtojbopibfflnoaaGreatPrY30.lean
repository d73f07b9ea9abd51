/- Facts. -/
import Derived.Test.YtojbopibfflnoaaGreatPrY27
import Derived.Test.YtojbopibfflnoaaGreatPrY28
namespace Go.Proofs.YtojbopibfflnoaaGreat
open Go renaming undef → b, World → y, Value → k, Calls → B, bodyPost_ret → B7, wpQuiet_nil → B', redrawn → aw5, Ending → axa, wpAny_take → axg
open _root_.Go.Proofs.Tryz renaming prog → r
set_option linter.unusedVariables false
set_option linter.unusedSimpArgs false
set_option maxHeartbeats 16000000
set_option maxRecDepth 100000
section
open Go Go.RowKit Go.Sort
attribute [local go_sem] mg A3 bB BX
theorem ajQ(e n t v l:Int)(K:Array k)(cS:K.size=21)(eI:K.all (·.oneCell')=true)(t' v':Int)(W:y)(kv:Hid (∀ w,B r 42 #[.agg (aI e n t v l K)] w (aP (.bool false) w))) :
 B r 33 #[.agg (aI e n t v l K),.agg (bO t' v')] W (aP (.tuple #[.agg (bL),.slice none 0 0,.int .i64 1]) W):=by
 have eX:=hR (e:=e) (n:=n) (t:=t) (v:=v) (l:=l) cS;have kf:=jU (e:=e) (n:=n) (t:=t) (v:=v) (l:=l) eI;obtain⟨f0,f1,f2,f3,f4,fs,fk⟩:=nX (e:=e) (n:=n) (t:=t) (v:=v) (l:=l) cS;obtain⟨X,dk⟩:=aM (aI e n t v l K);rw[dk] at eX kf f0 f1 f2 f3 f4 fs fk kv |-;clear dk;have ak:=((aG.new W 33 X).alloc (.cells (bO t' v') 23)).alloc (.cells bL 33);have aq:=(aG.new (W.alloc (.cells X 33)) 23 (bO t' v')).alloc (.cells bL 33);rw[iY] at aq;have ag:=aG.new ((W.alloc (.cells X 33)).alloc (.cells (bO t' v') 23)) 33 bL;simp only[iY] at ag;have EE:=hide (((aA W (.cells X 33)).trans (aA _ (.cells (bO t' v') 23))).trans (aA _ (.cells bL 33)));obtain⟨bG,bD⟩:=aM ((((W.alloc (.cells X 33)).alloc (.cells (bO t' v') 23)).alloc (.cells bL 33)));obtain⟨g0,af⟩:∃ g,W.heap.size=g:=⟨_,rfl⟩;rw[bD] at ak aq ag EE;rw[af] at ak aq ag;have lh:W.heap.size<=g0:=by omega
 have r9:W.heap.size<=g0+1:=by omega
 have lj:W.heap.size<=g0+1+1:=by omega
 have aB:=hide bD;have bW:=hide af;clear bD af;go_enter Tryz.func33,Tryz.ntmps33
 go_upto_region 1 with fail
 unfold bL at aB;rw[aB.out,bW.out];clear aB bW;refine eK ?_;repeat (first|go_big_quiet_step (first|with_reducible exact dK (kv.out _))|(refine iE (by kernel_rfl) rfl rfl (fun w hw=>by obtain⟨⟨d,os⟩,rfl⟩:=hw;exact dF ((ak).ext (aX bG d os)) jC rfl eW eX) ?_)|quiet_step (first|with_reducible exact dK (kv.out _)))
 refine B' ?_;intro _ bj;obtain⟨⟨aQ,osq⟩,cq⟩:=bj;subst cq;replace ak:=(ak).ext (aX bG aQ osq);replace aq:=(aq).ext (aX bG aQ osq);replace ag:=(ag).ext (aX bG aQ osq);replace EE:=hide (EE.out.trans (aX bG aQ osq));obtain⟨bp,eF⟩:∃ w,grow (aw5 bG aQ) osq=w:=⟨_,rfl⟩;rw[eF] at EE ak aq ag |-;clear eF;go_upto_region 2 with fail
 have gu:=ak.lt;have gM:=aq.lt;have cP:=ag.lt;refine eB [.q,.so 0,.q,.q] [0,0,0,0] (fun R=>[.agg bL,b,.slice none 0 0,.int .i64 1]) (fun _=>(.cells #[] 0 (0,0))) (fun R _=>(.cells bL 33 (0,0))) (fun _=>g0+1+1) (dA W) (fun _=>False) (by kernel_rfl) (by kernel_rfl) (by kernel_rfl) rfl (fun _=>rfl) (fun _ h=>h.elim) (fun _ _ h=>h) (by intro c hc;simp at hc;(try subst hc);(try simp only);omega) (by intro c c' h1 h2 _;simp at h1 h2;omega) (fun R b1=>⟨fun _=>rfl,fun _=>rfl,fun _=>rfl,fun _=>rfl,trivial⟩) (fun _ _ _ _=>rfl) dH EE.out ?ah8 ?aaV;case ah8 =>
  refine⟨?_,?_,aH,aH,trivial⟩
  ·refine cj fun R s w' aw hs hw ha=>?_
   generalize hA:bB _ _ _ _ _ _ _=c3;refine pD (vs:=#[]) rfl ?_ (CF);subst hA;kernel_rfl
  ·refine il (c:=0) (Ty:=?w4) (p:=?xL) (x:=?xZ) (g0+1+1) ?n6 ?v7 ?kj ?iQ ?om ?j8 ?oi ?jn ?uW ?n5 ?_;case iQ=>exact rfl
   case om=>exact rfl
   case n6=>exact(fun R=>(.cells bL 33 (0,0)))
   case v7=>exact(fun R=>.pointer (some ⟨g0+1+1,0,none⟩))
   case kj=>exact(fun R=>.agg bL)
   case j8=>exact(fun R=>rfl)
   case oi=>exact rfl
   case jn=>exact cu rfl
   case uW =>
    intro R;kernel_rfl
   case n5 =>
    intro R;kernel_rfl
   intro R s ρ w aw hs hp hx hz;refine⟨lI (g:=(g0+1+1)) rfl hp hx (hz.trans ag) eW (rfl) (rfl) (Al),fun aT hF=>dM aw hF lj⟩
 case aaV =>
  intro cY R G b6 ae;have hS:=ae.same;have aZ:=ae.holds;have bf:=EE.out.size;replace ak:=ak.aY hS (fun h=>h) (by intro c hc;simp at hc;(try subst hc);(try simp only);omega);replace aq:=aq.aY hS (fun h=>h) (by intro c hc;simp at hc;(try subst hc);(try simp only);omega);replace ag:aG b6 (g0+1+1) 33 bL:=ae.ep 1 (List.mem_range.2 (show 1<4 by decide)) 0 rfl;replace EE:=hide (show Ext _ _ from aZ);clear hS bf aZ ae gu gM cP;generalize hF:bB _ _ _ _ _ _ _=bH;have bI:bH={ tmps:=#[.agg X,.agg (bO t' v'),(yj g0 0:k),(yj (g0+1) 0:k),(yj (g0+1+1) 0:k),.slice none 0 0,.int .i64 1,b,b,b,b,.agg X,.bool false,.bool true,.agg bL,b,b,b,b,b,b,b,b,b,b,b,b,b,b,b,b,b,b,b,b,b,b,b,b,b,b,b,b,b,b,b,b,b,b,b,b,b,b,b,b,b,b,b,b,b,b,b,b,b,b,b,b,b,b,b,b,b,b,b,b,b],defers:=[] }:=by subst hF;kernel_rfl
  clear hF;subst bI;go_wp2_with fail
  exact B7 (BR (p:=4) (u:=5) (u2:=6) (ty:=33) rfl _ _ _ 33 (bL) _ rfl ag jC rfl (by rw[eW,show bL.size=26 from rfl])) rfl ⟨by kernel_rfl,EE.out⟩
theorem ajS(e n t v l:Int)(K:Array k)(cS:K.size=21)(eI:K.all (·.oneCell')=true)(t' v':Int)(W:y)(kv:Hid (∀ w,B r 42 #[.agg (aI e n t v l K)] w (aP (.bool true) w)))(eM:Hid (∀ w,B r 72 #[.int .i64 e,.agg (bO t' v')] w (aP (.agg (aI e 1 t' v' t' c9)) w)))(d0:(n==0)=true) :
 B r 33 #[.agg (aI e n t v l K),.agg (bO t' v')] W (aP (.tuple #[.agg (aI e 1 t' v' t' c9),.slice none 0 0,.int .i64 0]) W):=by
 have eX:=hR (e:=e) (n:=n) (t:=t) (v:=v) (l:=l) cS;have kf:=jU (e:=e) (n:=n) (t:=t) (v:=v) (l:=l) eI;obtain⟨f0,f1,f2,f3,f4,fs,fk⟩:=nX (e:=e) (n:=n) (t:=t) (v:=v) (l:=l) cS;obtain⟨X,dk⟩:=aM (aI e n t v l K);rw[dk] at eX kf f0 f1 f2 f3 f4 fs fk kv |-;clear dk;have ak:=((aG.new W 33 X).alloc (.cells (bO t' v') 23)).alloc (.cells bL 33);have aq:=(aG.new (W.alloc (.cells X 33)) 23 (bO t' v')).alloc (.cells bL 33);rw[iY] at aq;have ag:=aG.new ((W.alloc (.cells X 33)).alloc (.cells (bO t' v') 23)) 33 bL;simp only[iY] at ag;have EE:=hide (((aA W (.cells X 33)).trans (aA _ (.cells (bO t' v') 23))).trans (aA _ (.cells bL 33)));obtain⟨bG,bD⟩:=aM ((((W.alloc (.cells X 33)).alloc (.cells (bO t' v') 23)).alloc (.cells bL 33)));obtain⟨g0,af⟩:∃ g,W.heap.size=g:=⟨_,rfl⟩;rw[bD] at ak aq ag EE;rw[af] at ak aq ag;have lh:W.heap.size<=g0:=by omega
 have r9:W.heap.size<=g0+1:=by omega
 have lj:W.heap.size<=g0+1+1:=by omega
 have aB:=hide bD;have bW:=hide af;clear bD af;go_enter Tryz.func33,Tryz.ntmps33
 go_upto_region 1 with fail
 unfold bL at aB;rw[aB.out,bW.out];clear aB bW;refine eK ?_;repeat (first|go_big_quiet_step (first|with_reducible exact dK (kv.out _))|(refine iE (by kernel_rfl) rfl rfl (fun w hw=>by obtain⟨⟨d,os⟩,rfl⟩:=hw;exact dF ((ak).ext (aX bG d os)) jC rfl eW eX) ?_)|quiet_step (first|with_reducible exact dK (kv.out _)))
 refine B' ?_;intro _ bj;obtain⟨⟨aQ,osq⟩,cq⟩:=bj;subst cq;replace ak:=(ak).ext (aX bG aQ osq);replace aq:=(aq).ext (aX bG aQ osq);replace ag:=(ag).ext (aX bG aQ osq);replace EE:=hide (EE.out.trans (aX bG aQ osq));obtain⟨bp,eF⟩:∃ w,grow (aw5 bG aQ) osq=w:=⟨_,rfl⟩;rw[eF] at EE ak aq ag |-;clear eF;go_upto_region 3 with fail
 have qx:=fun d os=>(((ak).ext (aX bp d os)).cell 1).trans (f1)
 refine eK ?_;repeat (first|go_big_quiet_step (fail)|quiet_step (fail))
 refine B' ?_;intro _ bj;obtain⟨⟨aQ,osq⟩,cq⟩:=bj;subst cq;replace ak:=(ak).ext (aX bp aQ osq);replace aq:=(aq).ext (aX bp aQ osq);replace ag:=(ag).ext (aX bp aQ osq);replace EE:=hide (EE.out.trans (aX bp aQ osq));obtain⟨bZ,mQ⟩:∃ w,grow (aw5 bp aQ) osq=w:=⟨_,rfl⟩;rw[mQ] at EE ak aq ag |-;clear mQ qx;go_upto_region 4 with fail
 have gu:=ak.lt;have gM:=aq.lt;have cP:=ag.lt;refine eB [.q,.q,.q,.q,.so 0,.q,.q] [0,0,0,0,0,0,0] (fun R=>[yj g0 0,.int .i64 e,.agg (bO t' v'),.agg (aI e 1 t' v' t' c9),b,.slice none 0 0,.int .i64 0]) (fun _=>(.cells #[] 0 (0,0))) (fun R _=>(.cells (aI e 1 t' v' t' c9) 33 (0,0))) (fun _=>g0+1+1) (dA W) (fun _=>False) (by kernel_rfl) (by kernel_rfl) (by kernel_rfl) rfl (fun _=>rfl) (fun _ h=>h.elim) (fun _ _ h=>h) (by intro c hc;simp at hc;(try subst hc);(try simp only);omega) (by intro c c' h1 h2 _;simp at h1 h2;omega) (fun R b1=>⟨fun _=>rfl,fun _=>rfl,fun _=>rfl,fun _=>rfl,fun _=>rfl,fun _=>rfl,fun _=>rfl,trivial⟩) (fun _ _ _ _=>rfl) dH EE.out ?vT ?u_;case vT =>
  refine⟨aH,?_,?_,d_ eM,?_,aH,aH,trivial⟩
  ·refine cj fun R s w' aw hs hw ha=>?_
   have cc:=((show aG w' g0 _ X from ak.aY hw (fun h=>h) (by intro c hc;simp at hc;(try subst hc);(try simp only);omega)).cell 0).trans (f0);go_simp
  ·refine cj fun R s w' aw hs hw ha=>?_
   have L:=dF (aq.aY hw (fun h=>h) (by intro c hc;simp at hc;(try subst hc);(try simp only);omega)) xQ rfl xB rfl;generalize hA:bB _ _ _ _ _ _ _=c3;refine e7 rfl ?_ L;subst hA;kernel_rfl
  ·refine il (c:=0) (Ty:=?aoK) (p:=?asg) (x:=?atJ) (g0+1+1) ?abO ?amq ?Pp ?L3 ?ahP ?MP ?agk ?KF ?aae ?aaF ?_;case L3=>exact rfl
   case ahP=>exact rfl
   case abO=>exact(fun R=>(.cells (aI e 1 t' v' t' c9) 33 (0,0)))
   case amq=>exact(fun R=>.pointer (some ⟨g0+1+1,0,none⟩))
   case Pp=>exact(fun R=>.agg (aI e 1 t' v' t' c9))
   case MP=>exact(fun R=>rfl)
   case agk=>exact rfl
   case KF=>exact cu rfl
   case aae =>
    intro R;kernel_rfl
   case aaF =>
    intro R;kernel_rfl
   intro R s ρ w aw hs hp hx hz;refine⟨lI (g:=(g0+1+1)) rfl hp hx (hz.trans ag) eW (rfl) (hR rfl) (jU E2),fun aT hF=>dM aw hF lj⟩
 case u_ =>
  intro cY R G e9 ae;have hS:=ae.same;have aZ:=ae.holds;have bf:=EE.out.size;replace ak:=ak.aY hS (fun h=>h) (by intro c hc;simp at hc;(try subst hc);(try simp only);omega);replace aq:=aq.aY hS (fun h=>h) (by intro c hc;simp at hc;(try subst hc);(try simp only);omega);replace ag:aG e9 (g0+1+1) 33 (aI e 1 t' v' t' c9):=ae.ep 4 (List.mem_range.2 (show 4<7 by decide)) 0 rfl;replace EE:=hide (show Ext _ _ from aZ);clear hS bf aZ ae gu gM cP;generalize hF:bB _ _ _ _ _ _ _=bH;have bI:bH={ tmps:=#[.agg X,.agg (bO t' v'),(yj g0 0:k),(yj (g0+1) 0:k),(yj (g0+1+1) 0:k),.slice none 0 0,.int .i64 0,b,b,b,b,.agg X,.bool true,.bool false,b,(yj g0 1:k),.int .i64 n,.bool true,(yj g0 0:k),.int .i64 e,.agg (bO t' v'),.agg (aI e 1 t' v' t' c9),b,b,b,b,b,b,b,b,b,b,b,b,b,b,b,b,b,b,b,b,b,b,b,b,b,b,b,b,b,b,b,b,b,b,b,b,b,b,b,b,b,b,b,b,b,b,b,b,b,b,b,b,b,b],defers:=[] }:=by subst hF;kernel_rfl
  clear hF;subst bI;go_wp2_with fail
  exact B7 (BR (p:=4) (u:=5) (u2:=6) (ty:=33) rfl _ _ _ 33 (aI e 1 t' v' t' c9) _ rfl ag jC rfl (by rw[eW,hR rfl])) rfl ⟨by kernel_rfl,EE.out⟩
theorem ajT(e n t v l:Int)(K:Array k)(cS:K.size=21)(eI:K.all (·.oneCell')=true)(t' v':Int)(W:y)(kv:Hid (∀ w,B r 42 #[.agg (aI e n t v l K)] w (aP (.bool true) w)))(d0:(n==0)=false)(d1:decide (t'<=l)=true) :
 B r 33 #[.agg (aI e n t v l K),.agg (bO t' v')] W (aP (.tuple #[.agg (bL),.slice none 0 0,.int .i64 7]) W):=by
 have eX:=hR (e:=e) (n:=n) (t:=t) (v:=v) (l:=l) cS;have kf:=jU (e:=e) (n:=n) (t:=t) (v:=v) (l:=l) eI;obtain⟨f0,f1,f2,f3,f4,fs,fk⟩:=nX (e:=e) (n:=n) (t:=t) (v:=v) (l:=l) cS;obtain⟨X,dk⟩:=aM (aI e n t v l K);rw[dk] at eX kf f0 f1 f2 f3 f4 fs fk kv |-;clear dk;have ak:=((aG.new W 33 X).alloc (.cells (bO t' v') 23)).alloc (.cells bL 33);have aq:=(aG.new (W.alloc (.cells X 33)) 23 (bO t' v')).alloc (.cells bL 33);rw[iY] at aq;have ag:=aG.new ((W.alloc (.cells X 33)).alloc (.cells (bO t' v') 23)) 33 bL;simp only[iY] at ag;have EE:=hide (((aA W (.cells X 33)).trans (aA _ (.cells (bO t' v') 23))).trans (aA _ (.cells bL 33)));obtain⟨bG,bD⟩:=aM ((((W.alloc (.cells X 33)).alloc (.cells (bO t' v') 23)).alloc (.cells bL 33)));obtain⟨g0,af⟩:∃ g,W.heap.size=g:=⟨_,rfl⟩;rw[bD] at ak aq ag EE;rw[af] at ak aq ag;have lh:W.heap.size<=g0:=by omega
 have r9:W.heap.size<=g0+1:=by omega
 have lj:W.heap.size<=g0+1+1:=by omega
 have aB:=hide bD;have bW:=hide af;clear bD af;go_enter Tryz.func33,Tryz.ntmps33
 go_upto_region 1 with fail
 unfold bL at aB;rw[aB.out,bW.out];clear aB bW;refine eK ?_;repeat (first|go_big_quiet_step (first|with_reducible exact dK (kv.out _))|(refine iE (by kernel_rfl) rfl rfl (fun w hw=>by obtain⟨⟨d,os⟩,rfl⟩:=hw;exact dF ((ak).ext (aX bG d os)) jC rfl eW eX) ?_)|quiet_step (first|with_reducible exact dK (kv.out _)))
 refine B' ?_;intro _ bj;obtain⟨⟨aQ,osq⟩,cq⟩:=bj;subst cq;replace ak:=(ak).ext (aX bG aQ osq);replace aq:=(aq).ext (aX bG aQ osq);replace ag:=(ag).ext (aX bG aQ osq);replace EE:=hide (EE.out.trans (aX bG aQ osq));obtain⟨bp,eF⟩:∃ w,grow (aw5 bG aQ) osq=w:=⟨_,rfl⟩;rw[eF] at EE ak aq ag |-;clear eF;go_upto_region 3 with fail
 have qx:=fun d os=>(((ak).ext (aX bp d os)).cell 1).trans (f1)
 refine eK ?_;repeat (first|go_big_quiet_step (fail)|quiet_step (fail))
 refine B' ?_;intro _ bj;obtain⟨⟨aQ,osq⟩,cq⟩:=bj;subst cq;replace ak:=(ak).ext (aX bp aQ osq);replace aq:=(aq).ext (aX bp aQ osq);replace ag:=(ag).ext (aX bp aQ osq);replace EE:=hide (EE.out.trans (aX bp aQ osq));obtain⟨bZ,mQ⟩:∃ w,grow (aw5 bp aQ) osq=w:=⟨_,rfl⟩;rw[mQ] at EE ak aq ag |-;clear mQ qx;go_upto_region 5 with fail
 have yO:=fun d os=>(((aq).ext (aX bZ d os)).cell 0).trans (show (bO t' v')[0]?=some (.int .i64 t') from rfl)
 have yP:=fun d os=>(((ak).ext (aX bZ d os)).cell 4).trans (f4)
 refine eK ?_;repeat (first|go_big_quiet_step (fail)|quiet_step (fail))
 refine B' ?_;intro _ bj;obtain⟨⟨aQ,osq⟩,cq⟩:=bj;subst cq;replace ak:=(ak).ext (aX bZ aQ osq);replace aq:=(aq).ext (aX bZ aQ osq);replace ag:=(ag).ext (aX bZ aQ osq);replace EE:=hide (EE.out.trans (aX bZ aQ osq));obtain⟨cg,sS⟩:∃ w,grow (aw5 bZ aQ) osq=w:=⟨_,rfl⟩;rw[sS] at EE ak aq ag |-;clear sS yO yP;go_upto_region 6 with fail
 have gu:=ak.lt;have gM:=aq.lt;have cP:=ag.lt;refine eB [.q,.so 0,.q,.q] [0,0,0,0] (fun R=>[.agg bL,b,.slice none 0 0,.int .i64 7]) (fun _=>(.cells #[] 0 (0,0))) (fun R _=>(.cells bL 33 (0,0))) (fun _=>g0+1+1) (dA W) (fun _=>False) (by kernel_rfl) (by kernel_rfl) (by kernel_rfl) rfl (fun _=>rfl) (fun _ h=>h.elim) (fun _ _ h=>h) (by intro c hc;simp at hc;(try subst hc);(try simp only);omega) (by intro c c' h1 h2 _;simp at h1 h2;omega) (fun R b1=>⟨fun _=>rfl,fun _=>rfl,fun _=>rfl,fun _=>rfl,trivial⟩) (fun _ _ _ _=>rfl) dH EE.out ?NG ?J8;case NG =>
  refine⟨?_,?_,aH,aH,trivial⟩
  ·refine cj fun R s w' aw hs hw ha=>?_
   generalize hA:bB _ _ _ _ _ _ _=c3;refine pD (vs:=#[]) rfl ?_ (CF);subst hA;kernel_rfl
  ·refine il (c:=0) (Ty:=?F2) (p:=?HA) (x:=?Ij) (g0+1+1) ?fn8 ?amo ?tw ?sO ?vS ?kn8 ?vQ ?sC ?aad ?uZ ?_;case sO=>exact rfl
   case vS=>exact rfl
   case fn8=>exact(fun R=>(.cells bL 33 (0,0)))
   case amo=>exact(fun R=>.pointer (some ⟨g0+1+1,0,none⟩))
   case tw=>exact(fun R=>.agg bL)
   case kn8=>exact(fun R=>rfl)
   case vQ=>exact rfl
   case sC=>exact cu rfl
   case aad =>
    intro R;kernel_rfl
   case uZ =>
    intro R;kernel_rfl
   intro R s ρ w aw hs hp hx hz;refine⟨lI (g:=(g0+1+1)) rfl hp hx (hz.trans ag) eW (rfl) (rfl) (Al),fun aT hF=>dM aw hF lj⟩
 case J8 =>
  intro cY R G xT ae;have hS:=ae.same;have aZ:=ae.holds;have bf:=EE.out.size;replace ak:=ak.aY hS (fun h=>h) (by intro c hc;simp at hc;(try subst hc);(try simp only);omega);replace aq:=aq.aY hS (fun h=>h) (by intro c hc;simp at hc;(try subst hc);(try simp only);omega);replace ag:aG xT (g0+1+1) 33 bL:=ae.ep 1 (List.mem_range.2 (show 1<4 by decide)) 0 rfl;replace EE:=hide (show Ext _ _ from aZ);clear hS bf aZ ae gu gM cP;generalize hF:bB _ _ _ _ _ _ _=bH;have bI:bH={ tmps:=#[.agg X,.agg (bO t' v'),(yj g0 0:k),(yj (g0+1) 0:k),(yj (g0+1+1) 0:k),.slice none 0 0,.int .i64 7,b,b,b,b,.agg X,.bool true,.bool false,b,(yj g0 1:k),.int .i64 n,.bool false,b,b,b,b,(yj (g0+1) 0:k),.int .i64 t',(yj g0 4:k),.int .i64 l,.bool true,.agg bL,b,b,b,b,b,b,b,b,b,b,b,b,b,b,b,b,b,b,b,b,b,b,b,b,b,b,b,b,b,b,b,b,b,b,b,b,b,b,b,b,b,b,b,b,b,b,b,b],defers:=[] }:=by subst hF;kernel_rfl
  clear hF;subst bI;go_wp2_with fail
  exact B7 (BR (p:=4) (u:=5) (u2:=6) (ty:=33) rfl _ _ _ 33 (bL) _ rfl ag jC rfl (by rw[eW,show bL.size=26 from rfl])) rfl ⟨by kernel_rfl,EE.out⟩
theorem ajR(e n t v l:Int)(K:Array k)(cS:K.size=21)(eI:K.all (·.oneCell')=true)(t' v':Int)(W:y)(kv:Hid (∀ w,B r 42 #[.agg (aI e n t v l K)] w (aP (.bool true) w)))(d0:(n==0)=false)(d1:decide (t'<=l)=false)(d2:(n==1073741824)=true) :
 B r 33 #[.agg (aI e n t v l K),.agg (bO t' v')] W (aP (.tuple #[.agg (bL),.slice none 0 0,.int .i64 3]) W):=by
 have eX:=hR (e:=e) (n:=n) (t:=t) (v:=v) (l:=l) cS;have kf:=jU (e:=e) (n:=n) (t:=t) (v:=v) (l:=l) eI;obtain⟨f0,f1,f2,f3,f4,fs,fk⟩:=nX (e:=e) (n:=n) (t:=t) (v:=v) (l:=l) cS;obtain⟨X,dk⟩:=aM (aI e n t v l K);rw[dk] at eX kf f0 f1 f2 f3 f4 fs fk kv |-;clear dk;have ak:=((aG.new W 33 X).alloc (.cells (bO t' v') 23)).alloc (.cells bL 33);have aq:=(aG.new (W.alloc (.cells X 33)) 23 (bO t' v')).alloc (.cells bL 33);rw[iY] at aq;have ag:=aG.new ((W.alloc (.cells X 33)).alloc (.cells (bO t' v') 23)) 33 bL;simp only[iY] at ag;have EE:=hide (((aA W (.cells X 33)).trans (aA _ (.cells (bO t' v') 23))).trans (aA _ (.cells bL 33)));obtain⟨bG,bD⟩:=aM ((((W.alloc (.cells X 33)).alloc (.cells (bO t' v') 23)).alloc (.cells bL 33)));obtain⟨g0,af⟩:∃ g,W.heap.size=g:=⟨_,rfl⟩;rw[bD] at ak aq ag EE;rw[af] at ak aq ag;have lh:W.heap.size<=g0:=by omega
 have r9:W.heap.size<=g0+1:=by omega
 have lj:W.heap.size<=g0+1+1:=by omega
 have aB:=hide bD;have bW:=hide af;clear bD af;go_enter Tryz.func33,Tryz.ntmps33
 go_upto_region 1 with fail
 unfold bL at aB;rw[aB.out,bW.out];clear aB bW;refine eK ?_;repeat (first|go_big_quiet_step (first|with_reducible exact dK (kv.out _))|(refine iE (by kernel_rfl) rfl rfl (fun w hw=>by obtain⟨⟨d,os⟩,rfl⟩:=hw;exact dF ((ak).ext (aX bG d os)) jC rfl eW eX) ?_)|quiet_step (first|with_reducible exact dK (kv.out _)))
 refine B' ?_;intro _ bj;obtain⟨⟨aQ,osq⟩,cq⟩:=bj;subst cq;replace ak:=(ak).ext (aX bG aQ osq);replace aq:=(aq).ext (aX bG aQ osq);replace ag:=(ag).ext (aX bG aQ osq);replace EE:=hide (EE.out.trans (aX bG aQ osq));obtain⟨bp,eF⟩:∃ w,grow (aw5 bG aQ) osq=w:=⟨_,rfl⟩;rw[eF] at EE ak aq ag |-;clear eF;go_upto_region 3 with fail
 have qx:=fun d os=>(((ak).ext (aX bp d os)).cell 1).trans (f1)
 refine eK ?_;repeat (first|go_big_quiet_step (fail)|quiet_step (fail))
 refine B' ?_;intro _ bj;obtain⟨⟨aQ,osq⟩,cq⟩:=bj;subst cq;replace ak:=(ak).ext (aX bp aQ osq);replace aq:=(aq).ext (aX bp aQ osq);replace ag:=(ag).ext (aX bp aQ osq);replace EE:=hide (EE.out.trans (aX bp aQ osq));obtain⟨bZ,mQ⟩:∃ w,grow (aw5 bp aQ) osq=w:=⟨_,rfl⟩;rw[mQ] at EE ak aq ag |-;clear mQ qx;go_upto_region 5 with fail
 have yO:=fun d os=>(((aq).ext (aX bZ d os)).cell 0).trans (show (bO t' v')[0]?=some (.int .i64 t') from rfl)
 have yP:=fun d os=>(((ak).ext (aX bZ d os)).cell 4).trans (f4)
 refine eK ?_;repeat (first|go_big_quiet_step (fail)|quiet_step (fail))
 refine B' ?_;intro _ bj;obtain⟨⟨aQ,osq⟩,cq⟩:=bj;subst cq;replace ak:=(ak).ext (aX bZ aQ osq);replace aq:=(aq).ext (aX bZ aQ osq);replace ag:=(ag).ext (aX bZ aQ osq);replace EE:=hide (EE.out.trans (aX bZ aQ osq));obtain⟨cg,sS⟩:∃ w,grow (aw5 bZ aQ) osq=w:=⟨_,rfl⟩;rw[sS] at EE ak aq ag |-;clear sS yO yP;go_upto_region 7 with fail
 have CT:=fun d os=>(((ak).ext (aX cg d os)).cell 1).trans (f1)
 refine eK ?_;repeat (first|go_big_quiet_step (fail)|quiet_step (fail))
 refine B' ?_;intro _ bj;obtain⟨⟨aQ,osq⟩,cq⟩:=bj;subst cq;replace ak:=(ak).ext (aX cg aQ osq);replace aq:=(aq).ext (aX cg aQ osq);replace ag:=(ag).ext (aX cg aQ osq);replace EE:=hide (EE.out.trans (aX cg aQ osq));obtain⟨c8,xA⟩:∃ w,grow (aw5 cg aQ) osq=w:=⟨_,rfl⟩;rw[xA] at EE ak aq ag |-;clear xA CT;go_upto_region 8 with fail
 have gu:=ak.lt;have gM:=aq.lt;have cP:=ag.lt;refine eB [.q,.so 0,.q,.q] [0,0,0,0] (fun R=>[.agg bL,b,.slice none 0 0,.int .i64 3]) (fun _=>(.cells #[] 0 (0,0))) (fun R _=>(.cells bL 33 (0,0))) (fun _=>g0+1+1) (dA W) (fun _=>False) (by kernel_rfl) (by kernel_rfl) (by kernel_rfl) rfl (fun _=>rfl) (fun _ h=>h.elim) (fun _ _ h=>h) (by intro c hc;simp at hc;(try subst hc);(try simp only);omega) (by intro c c' h1 h2 _;simp at h1 h2;omega) (fun R b1=>⟨fun _=>rfl,fun _=>rfl,fun _=>rfl,fun _=>rfl,trivial⟩) (fun _ _ _ _=>rfl) dH EE.out ?NH ?J9;case NH =>
  refine⟨?_,?_,aH,aH,trivial⟩
  ·refine cj fun R s w' aw hs hw ha=>?_
   generalize hA:bB _ _ _ _ _ _ _=c3;refine pD (vs:=#[]) rfl ?_ (CF);subst hA;kernel_rfl
  ·refine il (c:=0) (Ty:=?XM) (p:=?ajo) (x:=?anQ) (g0+1+1) ?Kh ?OY ?wm ?po ?Nw ?sW ?MU ?o_ ?JU ?J1 ?_;case po=>exact rfl
   case Nw=>exact rfl
   case Kh=>exact(fun R=>(.cells bL 33 (0,0)))
   case OY=>exact(fun R=>.pointer (some ⟨g0+1+1,0,none⟩))
   case wm=>exact(fun R=>.agg bL)
   case sW=>exact(fun R=>rfl)
   case MU=>exact rfl
   case o_=>exact cu rfl
   case JU =>
    intro R;kernel_rfl
   case J1 =>
    intro R;kernel_rfl
   intro R s ρ w aw hs hp hx hz;refine⟨lI (g:=(g0+1+1)) rfl hp hx (hz.trans ag) eW (rfl) (rfl) (Al),fun aT hF=>dM aw hF lj⟩
 case J9 =>
  intro cY R G xU ae;have hS:=ae.same;have aZ:=ae.holds;have bf:=EE.out.size;replace ak:=ak.aY hS (fun h=>h) (by intro c hc;simp at hc;(try subst hc);(try simp only);omega);replace aq:=aq.aY hS (fun h=>h) (by intro c hc;simp at hc;(try subst hc);(try simp only);omega);replace ag:aG xU (g0+1+1) 33 bL:=ae.ep 1 (List.mem_range.2 (show 1<4 by decide)) 0 rfl;replace EE:=hide (show Ext _ _ from aZ);clear hS bf aZ ae gu gM cP;generalize hF:bB _ _ _ _ _ _ _=bH;have bI:bH={ tmps:=#[.agg X,.agg (bO t' v'),(yj g0 0:k),(yj (g0+1) 0:k),(yj (g0+1+1) 0:k),.slice none 0 0,.int .i64 3,b,b,b,b,.agg X,.bool true,.bool false,b,(yj g0 1:k),.int .i64 n,.bool false,b,b,b,b,(yj (g0+1) 0:k),.int .i64 t',(yj g0 4:k),.int .i64 l,.bool false,b,(yj g0 1:k),.int .i64 n,.bool true,.agg bL,b,b,b,b,b,b,b,b,b,b,b,b,b,b,b,b,b,b,b,b,b,b,b,b,b,b,b,b,b,b,b,b,b,b,b,b,b,b,b,b,b,b,b,b],defers:=[] }:=by subst hF;kernel_rfl
  clear hF;subst bI;go_wp2_with fail
  exact B7 (BR (p:=4) (u:=5) (u2:=6) (ty:=33) rfl _ _ _ 33 (bL) _ rfl ag jC rfl (by rw[eW,show bL.size=26 from rfl])) rfl ⟨by kernel_rfl,EE.out⟩
theorem ajV(e n t v l:Int)(K:Array k)(cS:K.size=21)(eI:K.all (·.oneCell')=true)(t' v':Int)(W:y)(wr:IntKind.i64.wrap (n+1)=n+1)(kv:Hid (∀ w,B r 42 #[.agg (aI e n t v l K)] w (aP (.bool true) w)))(d0:(n==0)=false)(d1:decide (t'<=l)=false)(d2:(n==1073741824)=false)(dt:Nat)(C M:Array k)(cb:Bool)(nW:C.size=21)(s6:C.all (·.oneCell')=true)(gJ:M.size=21)(qb:M.all (·.oneCell')=true)
 (bQ:Hid (∀ w,B r 23 #[.int .i64 v] w (aP (.agg (dC v)) w))) (bY:Hid (∀ w,B r 21 #[.int .i64 t',.int .i64 t] w (aP (.int .u64 (dt:Int)) w))) (cX:Hid (∀ w,B r 22 #[.agg (dC v),.int .i64 v',.int .i64 e,.int .u64 (dt:Int)] w (aP (.tuple #[.agg C,.bool cb]) w))) (ev:Hid (∀ w,B r 30 #[.agg K,.agg C] w (aP (.tuple #[.agg M,true]) w))) :
 B r 33 #[.agg (aI e n t v l K),.agg (bO t' v')] W (aP (.tuple #[.agg (aI e (n+1) t v t' M),.slice none 0 0,.int .i64 0]) W):=by
 have eX:=hR (e:=e) (n:=n) (t:=t) (v:=v) (l:=l) cS;have kf:=jU (e:=e) (n:=n) (t:=t) (v:=v) (l:=l) eI;obtain⟨f0,f1,f2,f3,f4,fs,fk⟩:=nX (e:=e) (n:=n) (t:=t) (v:=v) (l:=l) cS;obtain⟨X,dk⟩:=aM (aI e n t v l K);rw[dk] at eX kf f0 f1 f2 f3 f4 fs fk kv |-;have SF:=hide dk;clear dk;have ak:=((aG.new W 33 X).alloc (.cells (bO t' v') 23)).alloc (.cells bL 33);have aq:=(aG.new (W.alloc (.cells X 33)) 23 (bO t' v')).alloc (.cells bL 33);rw[iY] at aq;have ag:=aG.new ((W.alloc (.cells X 33)).alloc (.cells (bO t' v') 23)) 33 bL;simp only[iY] at ag;have EE:=hide (((aA W (.cells X 33)).trans (aA _ (.cells (bO t' v') 23))).trans (aA _ (.cells bL 33)));obtain⟨bG,bD⟩:=aM ((((W.alloc (.cells X 33)).alloc (.cells (bO t' v') 23)).alloc (.cells bL 33)));obtain⟨g0,af⟩:∃ g,W.heap.size=g:=⟨_,rfl⟩;rw[bD] at ak aq ag EE;rw[af] at ak aq ag;have lh:W.heap.size<=g0:=by omega
 have r9:W.heap.size<=g0+1:=by omega
 have lj:W.heap.size<=g0+1+1:=by omega
 have aB:=hide bD;have bW:=hide af;clear bD af;go_enter Tryz.func33,Tryz.ntmps33
 go_upto_region 1 with fail
 unfold bL at aB;rw[aB.out,bW.out];clear aB bW;refine eK ?_;repeat (first|go_big_quiet_step (first|with_reducible exact dK (kv.out _))|(refine iE (by kernel_rfl) rfl rfl (fun w hw=>by obtain⟨⟨d,os⟩,rfl⟩:=hw;exact dF ((ak).ext (aX bG d os)) jC rfl eW eX) ?_)|quiet_step (first|with_reducible exact dK (kv.out _)))
 refine B' ?_;intro _ bj;obtain⟨⟨aQ,osq⟩,cq⟩:=bj;subst cq;replace ak:=(ak).ext (aX bG aQ osq);replace aq:=(aq).ext (aX bG aQ osq);replace ag:=(ag).ext (aX bG aQ osq);replace EE:=hide (EE.out.trans (aX bG aQ osq));obtain⟨bp,eF⟩:∃ w,grow (aw5 bG aQ) osq=w:=⟨_,rfl⟩;rw[eF] at EE ak aq ag |-;clear eF;go_upto_region 3 with fail
 have qx:=fun d os=>(((ak).ext (aX bp d os)).cell 1).trans (f1)
 refine eK ?_;repeat (first|go_big_quiet_step (fail)|quiet_step (fail))
 refine B' ?_;intro _ bj;obtain⟨⟨aQ,osq⟩,cq⟩:=bj;subst cq;replace ak:=(ak).ext (aX bp aQ osq);replace aq:=(aq).ext (aX bp aQ osq);replace ag:=(ag).ext (aX bp aQ osq);replace EE:=hide (EE.out.trans (aX bp aQ osq));obtain⟨bZ,mQ⟩:∃ w,grow (aw5 bp aQ) osq=w:=⟨_,rfl⟩;rw[mQ] at EE ak aq ag |-;clear mQ qx;go_upto_region 5 with fail
 have yO:=fun d os=>(((aq).ext (aX bZ d os)).cell 0).trans (show (bO t' v')[0]?=some (.int .i64 t') from rfl)
 have yP:=fun d os=>(((ak).ext (aX bZ d os)).cell 4).trans (f4)
 refine eK ?_;repeat (first|go_big_quiet_step (fail)|quiet_step (fail))
 refine B' ?_;intro _ bj;obtain⟨⟨aQ,osq⟩,cq⟩:=bj;subst cq;replace ak:=(ak).ext (aX bZ aQ osq);replace aq:=(aq).ext (aX bZ aQ osq);replace ag:=(ag).ext (aX bZ aQ osq);replace EE:=hide (EE.out.trans (aX bZ aQ osq));obtain⟨cg,sS⟩:∃ w,grow (aw5 bZ aQ) osq=w:=⟨_,rfl⟩;rw[sS] at EE ak aq ag |-;clear sS yO yP;go_upto_region 7 with fail
 have CT:=fun d os=>(((ak).ext (aX cg d os)).cell 1).trans (f1)
 refine eK ?_;repeat (first|go_big_quiet_step (fail)|quiet_step (fail))
 refine B' ?_;intro _ bj;obtain⟨⟨aQ,osq⟩,cq⟩:=bj;subst cq;replace ak:=(ak).ext (aX cg aQ osq);replace aq:=(aq).ext (aX cg aQ osq);replace ag:=(ag).ext (aX cg aQ osq);replace EE:=hide (EE.out.trans (aX cg aQ osq));obtain⟨c8,xA⟩:∃ w,grow (aw5 cg aQ) osq=w:=⟨_,rfl⟩;rw[xA] at EE ak aq ag |-;clear xA CT;go_upto_region 9 with fail
 have gu:=ak.lt;have gM:=aq.lt;have cP:=ag.lt;refine kl [.q,.q,.q,.q,.q,.q,.q,.q,.q,.q,.q,.q,.q,.q,.q,.q,.q,.q,.al,.st 18,.q] [0,0,0,0,0,0,0,0,0,0,0,0,0,0,0,0,0,0,0,0,0] (fun R=>[yj g0 2,yj g0 3,.int .i64 v,.agg (dC v),yj (g0+1) 1,.int .i64 v',yj g0 0,.int .i64 e,yj (g0+1) 0,.int .i64 t',yj g0 2,yj g0 2,.int .i64 t,.int .u64 (dt:Int),.tuple #[.agg C,.bool cb],.tuple #[.agg C,.bool cb],.agg C,.bool cb,b,b,.bool cb]) (fun _=>(.cells z21 31 (0,0))) (fun R _=>(.cells C 31 (0,0))) (fun _=>0) (dA W) (fun _=>False) (by kernel_rfl) (by kernel_rfl) (by kernel_rfl) (by kernel_rfl) rfl (fun _=>rfl) (fun _ h=>h.elim) (fun _ _ h=>h) (by simp) (by simp) (fun R b1=>⟨fun _=>rfl,fun _=>rfl,fun _=>rfl,fun _=>rfl,fun _=>rfl,fun _=>rfl,fun _=>rfl,fun _=>rfl,fun _=>rfl,fun _=>rfl,fun _=>rfl,fun _=>rfl,fun _=>rfl,fun _=>rfl,fun _=>rfl,fun _=>rfl,fun _=>rfl,fun _=>rfl,fun _=>rfl,fun _=>rfl,fun _=>rfl,trivial⟩) (fun _ _ _ _=>rfl) dH (EE.out.trans (b5 _)) ?NI ?J_;case NI =>
  refine⟨aH,aH,?_,d_ bQ,aH,?_,aH,?_,aH,?_,aH,aH,?_,d_ bY,d_ cX,aH,aH,aH,?_,?_,aH,trivial⟩
  ·refine cj fun R s w' aw hs hw ha=>?_
   have cc:=((show aG w' g0 _ X from ak.aY hw (fun h=>h) (by simp)).cell 3).trans (f3);go_simp
  ·refine cj fun R s w' aw hs hw ha=>?_
   have cc:=((show aG w' (g0+1) _ (bO t' v') from aq.aY hw (fun h=>h) (by simp)).cell 1).trans (show (bO t' v')[1]?=some (.int .i64 v') from rfl);go_simp
  ·refine cj fun R s w' aw hs hw ha=>?_
   have cc:=((show aG w' g0 _ X from ak.aY hw (fun h=>h) (by simp)).cell 0).trans (f0);go_simp
  ·refine cj fun R s w' aw hs hw ha=>?_
   have cc:=((show aG w' (g0+1) _ (bO t' v') from aq.aY hw (fun h=>h) (by simp)).cell 0).trans (show (bO t' v')[0]?=some (.int .i64 t') from rfl);go_simp
  ·refine cj fun R s w' aw hs hw ha=>?_
   have cc:=((show aG w' g0 _ X from ak.aY hw (fun h=>h) (by simp)).cell 2).trans (f2);go_simp
  ·refine ia ?PW ?D0 ?MG ?Dh ?_;case PW=>exact(.cells z21 31 (0,0))
   case D0=>exact rfl
   case MG=>exact rfl
   case Dh=>exact cu rfl
   intro ρ w';go_simp;exact⟨rfl,rfl⟩
  ·refine ib (j:=18) (Ty:=?XO) (p:=?ajp) (x:=?anR) ?Ki ?Am ?Fh ?vH ?Nx ?vN ?MV ?vi ?J2 ?_;case vH=>exact rfl
   case Nx=>exact rfl
   case Ki=>exact(fun R=>(.cells C 31 (0,0)))
   case Am=>exact(.cells z21 31 (0,0))
   case Fh=>exact(fun R=>.agg C)
   case vN=>exact(fun R=>rfl)
   case MV=>exact rfl
   case vi=>exact cu rfl
   case J2 =>
    intro R;kernel_rfl
   intro R s ρ w g aw hs hp hx af hz;exact⟨hQ rfl hp hx hz ei (nW) (s6),fun aT hF=>dM aw hF (Nat.le_trans EE.out.size af)⟩
 case J_ =>
  intro cY R G Ps ae;have hS:=ae.same;have aZ:=ae.holds;have bf:=EE.out.size;replace ak:=ak.aY hS (fun h=>h) (by simp);replace aq:=aq.aY hS (fun h=>h) (by simp);replace ag:=ag.aY hS (fun h=>h) (by simp);have bl:aG Ps (G 18) 31 C:=(ae.eV 19 (List.mem_range.2 (show 19<21 by decide)) 18 rfl).2.2;have xq:=(ae.made 18 (List.mem_range.2 (show 18<21 by decide)) rfl).1;have I6:W.heap.size<=G 18:=Nat.le_trans bf xq;have ag2:g0≠G 18:=by omega
  have Na:g0+1≠G 18:=by omega
  have aha:g0+1+1≠G 18:=by omega
  replace EE:=hide (show Ext _ _ from aZ);clear hS bf aZ ae gu gM cP;generalize hF:bB _ _ _ _ _ _ _=bH;have bI:bH={ tmps:=#[.agg X,.agg (bO t' v'),(yj g0 0:k),(yj (g0+1) 0:k),(yj (g0+1+1) 0:k),.slice none 0 0,.int .i64 0,(yj (G 18) 0:k),.bool cb,b,b,.agg X,.bool true,.bool false,b,(yj g0 1:k),.int .i64 n,.bool false,b,b,b,b,(yj (g0+1) 0:k),.int .i64 t',(yj g0 4:k),.int .i64 l,.bool false,b,(yj g0 1:k),.int .i64 n,.bool false,b,.tuple #[.agg C,.bool cb],(yj g0 2:k),(yj g0 3:k),.int .i64 v,.agg (dC v),(yj (g0+1) 1:k),.int .i64 v',(yj g0 0:k),.int .i64 e,(yj (g0+1) 0:k),.int .i64 t',(yj g0 2:k),(yj g0 2:k),.int .i64 t,.int .u64 (dt:Int),.tuple #[.agg C,.bool cb],.agg C,.bool cb,b,b,b,b,b,b,b,b,b,b,b,b,b,b,b,b,b,b,b,b,b,b,b,b,b,b],defers:=[] }:=by subst hF;kernel_rfl
  clear hF;subst bI;generalize G 18=g7 at *;go_upto_region 10 with fail
  have gu:=ak.lt;have gM:=aq.lt;have cP:=ag.lt;have r_:=bl.lt;refine eB [.q,.q,.q,.q,.q,.q,.q,.al,.st 7,.q] [0,0,0,0,0,0,0,0,0,0] (fun R=>[yj g0 5,.agg K,.agg C,.tuple #[.agg M,true],.tuple #[.agg M,true],.agg M,.bool true,b,b,.bool true]) (fun _=>(.cells z21 31 (0,0))) (fun R _=>(.cells M 31 (0,0))) (fun _=>0) (dA W) (fun _=>False) (by kernel_rfl) (by kernel_rfl) (by kernel_rfl) rfl (fun _=>rfl) (fun _ h=>h.elim) (fun _ _ h=>h) (by simp) (by simp) (fun R b1=>⟨fun _=>rfl,fun _=>rfl,fun _=>rfl,fun _=>rfl,fun _=>rfl,fun _=>rfl,fun _=>rfl,fun _=>rfl,fun _=>rfl,fun _=>rfl,trivial⟩) (fun _ _ _ _=>rfl) dH EE.out ?NJ ?J';case NJ =>
   refine⟨aH,?_,?_,d_ ev,aH,aH,aH,?_,?_,aH,trivial⟩
   ·refine cj fun R s w' aw hs hw ha=>?_
    have L:=pH (ak.aY hw (fun h=>h) (by simp)) _ _ fV rfl 5 21 ei (by rw[eX];first|decide|omega) _ (fk);generalize hA:bB _ _ _ _ _ _ _=c3;refine e7 rfl ?_ L;subst hA;kernel_rfl
   ·refine cj fun R s w' aw hs hw ha=>?_
    have L:=dF (bl.aY hw (fun h=>h) (by simp)) fV rfl ei nW;generalize hA:bB _ _ _ _ _ _ _=c3;refine e7 rfl ?_ L;subst hA;kernel_rfl
   ·refine ia ?PZ ?LZ ?MJ ?KB ?_;case PZ=>exact(.cells z21 31 (0,0))
    case LZ=>exact rfl
    case MJ=>exact rfl
    case KB=>exact cu rfl
    intro ρ w';go_simp;exact⟨rfl,rfl⟩
   ·refine ib (j:=7) (Ty:=?XQ) (p:=?ajr) (x:=?anT) ?Kk ?P0 ?Pm ?L0 ?Nz ?MK ?MX ?KC ?J4 ?_;case L0=>exact rfl
    case Nz=>exact rfl
    case Kk=>exact(fun R=>(.cells M 31 (0,0)))
    case P0=>exact(.cells z21 31 (0,0))
    case Pm=>exact(fun R=>.agg M)
    case MK=>exact(fun R=>rfl)
    case MX=>exact rfl
    case KC=>exact cu rfl
    case J4 =>
     intro R;kernel_rfl
    intro R s ρ w g aw hs hp hx af hz;exact⟨hQ rfl hp hx hz ei (gJ) (qb),fun aT hF=>dM aw hF (Nat.le_trans EE.out.size af)⟩
  case J' =>
   intro cY R G oo ae;have hS:=ae.same;have aZ:=ae.holds;have bf:=EE.out.size;replace ak:=ak.aY hS (fun h=>h) (by simp);replace aq:=aq.aY hS (fun h=>h) (by simp);replace ag:=ag.aY hS (fun h=>h) (by simp);replace bl:=bl.aY hS (fun h=>h) (by simp);have bx:aG oo (G 7) 31 M:=(ae.eV 8 (List.mem_range.2 (show 8<10 by decide)) 7 rfl).2.2;have DW:=(ae.made 7 (List.mem_range.2 (show 7<10 by decide)) rfl).1;have I7:W.heap.size<=G 7:=Nat.le_trans bf DW;have ag3:g0≠G 7:=by omega
   have ag6:g0+1≠G 7:=by omega
   have ahb:g0+1+1≠G 7:=by omega
   have ahh:g7≠G 7:=by omega
   replace EE:=hide (show Ext _ _ from aZ);clear hS bf aZ ae gu gM cP r_;generalize hF:bB _ _ _ _ _ _ _=bH;have bI:bH={ tmps:=#[.agg X,.agg (bO t' v'),(yj g0 0:k),(yj (g0+1) 0:k),(yj (g0+1+1) 0:k),.slice none 0 0,.int .i64 0,(yj g7 0:k),.bool cb,(yj (G 7) 0:k),.bool true,.agg X,.bool true,.bool false,b,(yj g0 1:k),.int .i64 n,.bool false,b,b,b,b,(yj (g0+1) 0:k),.int .i64 t',(yj g0 4:k),.int .i64 l,.bool false,b,(yj g0 1:k),.int .i64 n,.bool false,b,.tuple #[.agg C,.bool cb],(yj g0 2:k),(yj g0 3:k),.int .i64 v,.agg (dC v),(yj (g0+1) 1:k),.int .i64 v',(yj g0 0:k),.int .i64 e,(yj (g0+1) 0:k),.int .i64 t',(yj g0 2:k),(yj g0 2:k),.int .i64 t,.int .u64 (dt:Int),.tuple #[.agg C,.bool cb],.agg C,.bool cb,.tuple #[.agg M,true],(yj g0 5:k),.agg K,.agg C,.tuple #[.agg M,true],.agg M,.bool true,b,b,b,b,b,b,b,b,b,b,b,b,b,b,b,b,b,b,b],defers:=[] }:=by subst hF;kernel_rfl
   clear hF;subst bI;generalize G 7=g9 at *;go_upto_region 11 with fail
   refine eK ?_;repeat (first|go_big_quiet_step (fail)|quiet_step (fail))
   refine B' ?_;intro _ bj;obtain⟨⟨aQ,osq⟩,cq⟩:=bj;subst cq;replace ak:=(ak).ext (aX oo aQ osq);replace aq:=(aq).ext (aX oo aQ osq);replace ag:=(ag).ext (aX oo aQ osq);replace bl:=(bl).ext (aX oo aQ osq);replace bx:=(bx).ext (aX oo aQ osq);replace EE:=hide (EE.out.trans (aX oo aQ osq));obtain⟨Wn,En⟩:∃ w,grow (aw5 oo aQ) osq=w:=⟨_,rfl⟩;rw[En] at EE ak aq ag bl bx |-;clear En;go_upto_region 13 with fail
   have dk:=SF.out;clear SF;subst dk;replace ak:aG _ _ _ (aI e n t v l K):=ak;refine Wg (f:={ tmps:=#[.agg (aI e n t v l K),.agg (bO t' v'),(yj g0 0:k),(yj (g0+1) 0:k),(yj (g0+1+1) 0:k),.slice none 0 0,.int .i64 0,(yj g7 0:k),.bool cb,(yj g9 0:k),.bool true,.agg (aI e n t v l K),.bool true,.bool false,b,(yj g0 1:k),.int .i64 n,.bool false,b,b,b,b,(yj (g0+1) 0:k),.int .i64 t',(yj g0 4:k),.int .i64 l,.bool false,b,(yj g0 1:k),.int .i64 n,.bool false,b,.tuple #[.agg C,.bool cb],(yj g0 2:k),(yj g0 3:k),.int .i64 v,.agg (dC v),(yj (g0+1) 1:k),.int .i64 v',(yj g0 0:k),.int .i64 e,(yj (g0+1) 0:k),.int .i64 t',(yj g0 2:k),(yj g0 2:k),.int .i64 t,.int .u64 (dt:Int),.tuple #[.agg C,.bool cb],.agg C,.bool cb,.tuple #[.agg M,true],(yj g0 5:k),.agg K,.agg C,.tuple #[.agg M,true],.agg M,.bool true,.bool true,.bool false,b,b,b,b,b,b,b,.agg M,(yj (g0+1) 0:k),.int .i64 t',(yj g0 5:k),(yj g0 4:k),b,b,b,b,b],defers:=[] }) (fun w'=>aG w' g0 33 (aI e n t v t' M)/\aG w' (g0+1) 23 (bO t' v')/\aG w' (g0+1+1) 33 bL/\aG w' g7 31 C/\aG w' g9 31 M/\Ext W w') (fun _ _ d _ _ h=>by cases d<;>exact h) (fun Q' dL dQ=>?akl) (fun oT aeQ=>?akn);case akl =>
    refine wp_region_any (by kernel_rfl) ?_;change wpAny _ _ _ _ _ _ _ (World.drew _);replace ak:=(ak).ext (b5 _);replace aq:=(aq).ext (b5 _);replace ag:=(ag).ext (b5 _);replace bl:=(bl).ext (b5 _);replace bx:=(bx).ext (b5 _);replace EE:=hide (EE.out.trans (b5 _));refine axg (i:=1) (v:=.pointer (some ⟨g0 + 1,0,none⟩)) rfl (by kernel_rfl) (by kernel_rfl) (by kernel_rfl) (fun c a w h=>dL c _ _ _ w h) (Or.inl ⟨by rfl,by intro w;go_simp⟩) ?_;refine wpAny_ready (rs:=[0,2]) (by kernel_rfl) (by simp) ?_;with_reducible refine lH (i := 0) (rs := [2]) (o := { dst := some 66, op := Go.Op.load 31 (Go.Operand.tmp 9), type := 31, pos := "ref.go:63", after := #[], guard := none }) ?aih ?Yf ?YL
    case aih=>exact rfl
    case Yf =>
     with_reducible refine ui (ty:=31) (x:=.tmp 9) (u:=.pointer (some ⟨g9,0,none⟩)) (v:=.agg M) ?ach ?aeX ?anX ?akv ?alx
     case ach=>exact rfl
     case aeX=>exact rfl
     case anX=>kernel_rfl
     case akv=>exact dF bx fV rfl ei gJ
     case alx =>
     refine axg (i:=3) (v:=.pointer (some ⟨g0,5,none⟩)) rfl (by kernel_rfl) (by kernel_rfl) (by kernel_rfl) (fun c a w h=>dL c _ _ _ w h) (Or.inl ⟨by rfl,by intro w;go_simp⟩) ?_;refine wpAny_ready (rs:=[2,4]) (by kernel_rfl) (by simp) ?_;with_reducible refine lH (i := 2) (rs := [4]) (o := { dst := some 68, op := Go.Op.load 2 (Go.Operand.tmp 67), type := 2, pos := "ref.go:63", after := #[{ on := 1, ground := Go.Ground.data }, { on := 4, ground := Go.Ground.gcOnly Go.Departure.lateStores }], guard := none }) ?aik ?Yi ?YO
     case aik=>exact rfl
     case Yi =>
      with_reducible refine ui (ty:=2) (x:=.tmp 67) (u:=.pointer (some ⟨g0+1,0,none⟩)) (v:=.int .i64 t') ?acm ?aeY ?anY ?akw ?alA
      case acm=>exact rfl
      case aeY=>exact rfl
      case anY=>kernel_rfl
      case akw=>exact(by have cc:=((aq).cell 0).trans (show (bO t' v')[0]?=some (.int .i64 t') from rfl);go_simp)
      case alA =>
      refine wpAny_ready (rs:=[4]) (by kernel_rfl) (by simp) ?_;with_reducible refine lH (i := 4) (rs := []) (o := { dst := none, op := Go.Op.store 31 (Go.Operand.tmp 69) (Go.Operand.tmp 66), type := 0, pos := "ref.go:63", after := #[{ on := 3, ground := Go.Ground.data }, { on := 0, ground := Go.Ground.data }, { on := 0, ground := Go.Ground.phase }, { on := 1, ground := Go.Ground.textOnly Go.Departure.lateStores }, { on := 2, ground := Go.Ground.textOnly Go.Departure.lateStores }], guard := none }) ?ail ?Yj ?YP
      case ail=>exact rfl
      case Yj =>
       with_reducible refine rQ (g:=g0) (f:=(.cells (aI e n t v l M) 33 (0,0))) ?acn ?ak0 ?alB
       case acn=>exact rfl
       case ak0 =>
        have aD:=OA ak cS gJ qb;refine uj (g:=g0) (u:=.pointer (some ⟨g0,5,none⟩)) (v:=.agg M) rfl ?_ ?_ ak aD
        ·kernel_rfl
        ·kernel_rfl
       case alB =>
        intro b6 hF;replace ak:aG b6 g0 33 (aI e n t v l M):=hF.1;replace aq:=hF.fR aq (by omega);replace ag:=hF.fR ag (by omega);replace bl:=hF.fR bl (by omega);replace bx:=hF.fR bx (by omega);replace EE:=hide (dM EE.out hF lh);clear hF;refine axg (i:=5) (v:=.pointer (some ⟨g0,4,none⟩)) rfl (by kernel_rfl) (by kernel_rfl) (by kernel_rfl) (fun c a w h=>dL c _ _ _ w h) (Or.inl ⟨by rfl,by intro w;go_simp⟩) ?_;refine wpAny_ready (rs:=[6]) (by kernel_rfl) (by simp) ?_;with_reducible refine lH (i := 6) (rs := []) (o := { dst := none, op := Go.Op.store 2 (Go.Operand.tmp 70) (Go.Operand.tmp 68), type := 0, pos := "ref.go:63", after := #[{ on := 5, ground := Go.Ground.data }, { on := 2, ground := Go.Ground.data }, { on := 4, ground := Go.Ground.chain }, { on := 0, ground := Go.Ground.phase }, { on := 1, ground := Go.Ground.phase }, { on := 2, ground := Go.Ground.phase }, { on := 3, ground := Go.Ground.phase }, { on := 4, ground := Go.Ground.phase }], guard := none }) ?aim ?Yk ?YQ
        case aim=>exact rfl
        case Yk =>
         have hc:=((ak).cell 4).trans ((nX (e:=e) (n:=n) (t:=t) (v:=v) (l:=l) gJ).2.2.2.2.1);have hf:=(ak).frozen 4;with_reducible refine rQ (g:=g0) (f:=(.cells (aI e n t v t' M) 33 (0,0))) ?aco ?ak1 ?alC
         case aco=>exact rfl
         case ak1 =>
          refine qR (g:=g0) (off:=4) (v:=.int .i64 t') (Ty:=2) rfl ?_ ?_ ak ((HU gJ _).2.1) ?_
          ·kernel_rfl
          ·kernel_rfl
          ·go_simp
         case alC =>
          intro b6 hF;replace ak:aG b6 g0 33 (aI e n t v t' M):=hF.1;replace aq:=hF.fR aq (by omega);replace ag:=hF.fR ag (by omega);replace bl:=hF.fR bl (by omega);replace bx:=hF.fR bx (by omega);replace EE:=hide (dM EE.out hF lh);clear hF;refine wpAny_done (by kernel_rfl) ?_ _;exact BI (dQ _ ⟨ak,aq,ag,bl,bx,EE.out⟩) (by kernel_rfl)
        case YQ =>
         exact AllReady.nil
      case YP =>
       exact AllReady.nil
     case YO =>
      with_reducible refine lH (i := 4) (rs := []) (o := { dst := none, op := Go.Op.store 31 (Go.Operand.tmp 69) (Go.Operand.tmp 66), type := 0, pos := "ref.go:63", after := #[{ on := 3, ground := Go.Ground.data }, { on := 0, ground := Go.Ground.data }, { on := 0, ground := Go.Ground.phase }, { on := 1, ground := Go.Ground.textOnly Go.Departure.lateStores }, { on := 2, ground := Go.Ground.textOnly Go.Departure.lateStores }], guard := none }) ?ain ?Yl ?YR
      case ain=>exact rfl
      case Yl =>
       with_reducible refine rQ (g:=g0) (f:=(.cells (aI e n t v l M) 33 (0,0))) ?acp ?ak2 ?alD
       case acp=>exact rfl
       case ak2 =>
        have aD:=OA ak cS gJ qb;refine uj (g:=g0) (u:=.pointer (some ⟨g0,5,none⟩)) (v:=.agg M) rfl ?_ ?_ ak aD
        ·kernel_rfl
        ·kernel_rfl
       case alD =>
        intro b6 hF;replace ak:aG b6 g0 33 (aI e n t v l M):=hF.1;replace aq:=hF.fR aq (by omega);replace ag:=hF.fR ag (by omega);replace bl:=hF.fR bl (by omega);replace bx:=hF.fR bx (by omega);replace EE:=hide (dM EE.out hF lh);clear hF;refine wpAny_ready (rs:=[2]) (by kernel_rfl) (by simp) ?_;with_reducible refine lH (i := 2) (rs := []) (o := { dst := some 68, op := Go.Op.load 2 (Go.Operand.tmp 67), type := 2, pos := "ref.go:63", after := #[{ on := 1, ground := Go.Ground.data }, { on := 4, ground := Go.Ground.gcOnly Go.Departure.lateStores }], guard := none }) ?aio ?Ym ?YS
        case aio=>exact rfl
        case Ym =>
         with_reducible refine ui (ty:=2) (x:=.tmp 67) (u:=.pointer (some ⟨g0+1,0,none⟩)) (v:=.int .i64 t') ?acq ?aeZ ?anZ ?akx ?alE
         case acq=>exact rfl
         case aeZ=>exact rfl
         case anZ=>kernel_rfl
         case akx=>exact(by have cc:=((aq).cell 0).trans (show (bO t' v')[0]?=some (.int .i64 t') from rfl);go_simp)
         case alE =>
         refine axg (i:=5) (v:=.pointer (some ⟨g0,4,none⟩)) rfl (by kernel_rfl) (by kernel_rfl) (by kernel_rfl) (fun c a w h=>dL c _ _ _ w h) (Or.inl ⟨by rfl,by intro w;go_simp⟩) ?_;refine wpAny_ready (rs:=[6]) (by kernel_rfl) (by simp) ?_;with_reducible refine lH (i := 6) (rs := []) (o := { dst := none, op := Go.Op.store 2 (Go.Operand.tmp 70) (Go.Operand.tmp 68), type := 0, pos := "ref.go:63", after := #[{ on := 5, ground := Go.Ground.data }, { on := 2, ground := Go.Ground.data }, { on := 4, ground := Go.Ground.chain }, { on := 0, ground := Go.Ground.phase }, { on := 1, ground := Go.Ground.phase }, { on := 2, ground := Go.Ground.phase }, { on := 3, ground := Go.Ground.phase }, { on := 4, ground := Go.Ground.phase }], guard := none }) ?aip ?Yn ?YT
         case aip=>exact rfl
         case Yn =>
          have hc:=((ak).cell 4).trans ((nX (e:=e) (n:=n) (t:=t) (v:=v) (l:=l) gJ).2.2.2.2.1);have hf:=(ak).frozen 4;with_reducible refine rQ (g:=g0) (f:=(.cells (aI e n t v t' M) 33 (0,0))) ?acr ?ak3 ?alF
          case acr=>exact rfl
          case ak3 =>
           refine qR (g:=g0) (off:=4) (v:=.int .i64 t') (Ty:=2) rfl ?_ ?_ ak ((HU gJ _).2.1) ?_
           ·kernel_rfl
           ·kernel_rfl
           ·go_simp
          case alF =>
           intro b6 hF;replace ak:aG b6 g0 33 (aI e n t v t' M):=hF.1;replace aq:=hF.fR aq (by omega);replace ag:=hF.fR ag (by omega);replace bl:=hF.fR bl (by omega);replace bx:=hF.fR bx (by omega);replace EE:=hide (dM EE.out hF lh);clear hF;refine wpAny_done (by kernel_rfl) ?_ _;exact BI (dQ _ ⟨ak,aq,ag,bl,bx,EE.out⟩) (by kernel_rfl)
         case YT =>
          exact AllReady.nil
        case YS =>
         exact AllReady.nil
      case YR =>
       exact AllReady.nil
    case YL =>
     with_reducible refine lH (i := 2) (rs := []) (o := { dst := some 68, op := Go.Op.load 2 (Go.Operand.tmp 67), type := 2, pos := "ref.go:63", after := #[{ on := 1, ground := Go.Ground.data }, { on := 4, ground := Go.Ground.gcOnly Go.Departure.lateStores }], guard := none }) ?aiq ?Yo ?YU
     case aiq=>exact rfl
     case Yo =>
      with_reducible refine ui (ty:=2) (x:=.tmp 67) (u:=.pointer (some ⟨g0+1,0,none⟩)) (v:=.int .i64 t') ?acs ?ae0 ?an0 ?aky ?alG
      case acs=>exact rfl
      case ae0=>exact rfl
      case an0=>kernel_rfl
      case aky=>exact(by have cc:=((aq).cell 0).trans (show (bO t' v')[0]?=some (.int .i64 t') from rfl);go_simp)
      case alG =>
      refine wpAny_ready (rs:=[0]) (by kernel_rfl) (by simp) ?_;with_reducible refine lH (i := 0) (rs := []) (o := { dst := some 66, op := Go.Op.load 31 (Go.Operand.tmp 9), type := 31, pos := "ref.go:63", after := #[], guard := none }) ?air ?Yp ?YV
      case air=>exact rfl
      case Yp =>
       with_reducible refine ui (ty:=31) (x:=.tmp 9) (u:=.pointer (some ⟨g9,0,none⟩)) (v:=.agg M) ?acu ?ae1 ?an1 ?akz ?alH
       case acu=>exact rfl
       case ae1=>exact rfl
       case an1=>kernel_rfl
       case akz=>exact dF bx fV rfl ei gJ
       case alH =>
       refine axg (i:=3) (v:=.pointer (some ⟨g0,5,none⟩)) rfl (by kernel_rfl) (by kernel_rfl) (by kernel_rfl) (fun c a w h=>dL c _ _ _ w h) (Or.inl ⟨by rfl,by intro w;go_simp⟩) ?_;refine wpAny_ready (rs:=[4]) (by kernel_rfl) (by simp) ?_;with_reducible refine lH (i := 4) (rs := []) (o := { dst := none, op := Go.Op.store 31 (Go.Operand.tmp 69) (Go.Operand.tmp 66), type := 0, pos := "ref.go:63", after := #[{ on := 3, ground := Go.Ground.data }, { on := 0, ground := Go.Ground.data }, { on := 0, ground := Go.Ground.phase }, { on := 1, ground := Go.Ground.textOnly Go.Departure.lateStores }, { on := 2, ground := Go.Ground.textOnly Go.Departure.lateStores }], guard := none }) ?aii ?Yg ?YM
       case aii=>exact rfl
       case Yg =>
        with_reducible refine rQ (g:=g0) (f:=(.cells (aI e n t v l M) 33 (0,0))) ?aci ?akY ?aly
        case aci=>exact rfl
        case akY =>
         have aD:=OA ak cS gJ qb;refine uj (g:=g0) (u:=.pointer (some ⟨g0,5,none⟩)) (v:=.agg M) rfl ?_ ?_ ak aD
         ·kernel_rfl
         ·kernel_rfl
        case aly =>
         intro b6 hF;replace ak:aG b6 g0 33 (aI e n t v l M):=hF.1;replace aq:=hF.fR aq (by omega);replace ag:=hF.fR ag (by omega);replace bl:=hF.fR bl (by omega);replace bx:=hF.fR bx (by omega);replace EE:=hide (dM EE.out hF lh);clear hF;refine axg (i:=5) (v:=.pointer (some ⟨g0,4,none⟩)) rfl (by kernel_rfl) (by kernel_rfl) (by kernel_rfl) (fun c a w h=>dL c _ _ _ w h) (Or.inl ⟨by rfl,by intro w;go_simp⟩) ?_;refine wpAny_ready (rs:=[6]) (by kernel_rfl) (by simp) ?_;with_reducible refine lH (i := 6) (rs := []) (o := { dst := none, op := Go.Op.store 2 (Go.Operand.tmp 70) (Go.Operand.tmp 68), type := 0, pos := "ref.go:63", after := #[{ on := 5, ground := Go.Ground.data }, { on := 2, ground := Go.Ground.data }, { on := 4, ground := Go.Ground.chain }, { on := 0, ground := Go.Ground.phase }, { on := 1, ground := Go.Ground.phase }, { on := 2, ground := Go.Ground.phase }, { on := 3, ground := Go.Ground.phase }, { on := 4, ground := Go.Ground.phase }], guard := none }) ?aij ?Yh ?YN
         case aij=>exact rfl
         case Yh =>
          have hc:=((ak).cell 4).trans ((nX (e:=e) (n:=n) (t:=t) (v:=v) (l:=l) gJ).2.2.2.2.1);have hf:=(ak).frozen 4;with_reducible refine rQ (g:=g0) (f:=(.cells (aI e n t v t' M) 33 (0,0))) ?acj ?akZ ?alz
          case acj=>exact rfl
          case akZ =>
           refine qR (g:=g0) (off:=4) (v:=.int .i64 t') (Ty:=2) rfl ?_ ?_ ak ((HU gJ _).2.1) ?_
           ·kernel_rfl
           ·kernel_rfl
           ·go_simp
          case alz =>
           intro b6 hF;replace ak:aG b6 g0 33 (aI e n t v t' M):=hF.1;replace aq:=hF.fR aq (by omega);replace ag:=hF.fR ag (by omega);replace bl:=hF.fR bl (by omega);replace bx:=hF.fR bx (by omega);replace EE:=hide (dM EE.out hF lh);clear hF;refine wpAny_done (by kernel_rfl) ?_ _;exact BI (dQ _ ⟨ak,aq,ag,bl,bx,EE.out⟩) (by kernel_rfl)
         case YN =>
          exact AllReady.nil
       case YM =>
        exact AllReady.nil
      case YV =>
       exact AllReady.nil
     case YU =>
      exact AllReady.nil
   case akn =>
    obtain⟨ak,aq,ag,bl,bx,C1⟩:=aeQ;replace EE:=hide C1;clear C1;go_upto_region 14 with fail
    have gu:=ak.lt;have gM:=aq.lt;have cP:=ag.lt;have r_:=bl.lt;have Cm:=bx.lt;refine eB [.q,.q,.q,.q,.so 0] [0,0,0,0,0] (fun R=>[yj g0 1,.int .i64 n,.int .i64 (n+1),yj g0 1,b]) (fun _=>(.cells #[] 0 (0,0))) (fun R _=>(.cells (aI e (n+1) t v t' M) 33 (0,0))) (fun _=>g0) (dA W) (fun _=>False) (by kernel_rfl) (by kernel_rfl) (by kernel_rfl) rfl (fun _=>rfl) (fun _ h=>h.elim) (fun _ _ h=>h) (by intro c hc;simp at hc;(try subst hc);(try simp only);omega) (by intro c c' h1 h2 _;simp at h1 h2;omega) (fun R b1=>⟨fun _=>rfl,fun _=>rfl,fun _=>rfl,fun _=>rfl,fun _=>rfl,trivial⟩) (fun _ _ _ _=>rfl) dH EE.out ?NL ?Kc;case NL =>
     refine⟨aH,?_,aH,aH,?_,trivial⟩
     ·refine cj fun R s w' aw hs hw ha=>?_
      have cc:=((show aG w' g0 _ (aI e n t v t' M) from(ha 4 0 rfl (by kernel_rfl)).trans ak).cell 1).trans ((nX gJ).2.1);go_simp
     ·refine il (c:=0) (Ty:=?XS) (p:=?ajt) (x:=?anV) g0 ?Km ?amg ?Po ?D4 ?NB ?MO ?MZ ?Dl ?Z4 ?J6 ?_;case D4=>exact rfl
      case NB=>exact rfl
      case Km=>exact(fun R=>(.cells (aI e (n+1) t v t' M) 33 (0,0)))
      case amg=>exact(fun R=>.pointer (some ⟨g0,1,none⟩))
      case Po=>exact(fun R=>.int .i64 (n+1))
      case MO=>exact(fun R=>rfl)
      case MZ=>exact rfl
      case Dl=>exact cu rfl
      case Z4 =>
       intro R;kernel_rfl
      case J6 =>
       intro R;kernel_rfl
      intro R s ρ w aw hs hp hx hz;have bF:=(show aG w g0 _ (aI e n t v t' M) from hz.trans ak);have hc:=(bF.cell 1).trans ((nX (e:=e) (n:=n) (t:=t) (v:=v) (l:=t') gJ).2.1);have hf:=bF.frozen 1;refine⟨qR (g:=g0) (Ty:=3) rfl hp hx (hz.trans ak) ((HU gJ _).1) ?_,fun aT hF=>dM aw hF lh⟩;go_simp
    case Kc =>
     intro cY R G Pu ae;have hS:=ae.same;have aZ:=ae.holds;have bf:=EE.out.size;replace aq:=aq.aY hS (fun h=>h) (by intro c hc;simp at hc;(try subst hc);(try simp only);omega);replace ag:=ag.aY hS (fun h=>h) (by intro c hc;simp at hc;(try subst hc);(try simp only);omega);replace bl:=bl.aY hS (fun h=>h) (by intro c hc;simp at hc;(try subst hc);(try simp only);omega);replace bx:=bx.aY hS (fun h=>h) (by intro c hc;simp at hc;(try subst hc);(try simp only);omega);replace ak:aG Pu g0 33 (aI e (n+1) t v t' M):=ae.ep 4 (List.mem_range.2 (show 4<5 by decide)) 0 rfl;replace EE:=hide (show Ext _ _ from aZ);clear hS bf aZ ae gu gM cP r_ Cm;generalize hF:bB _ _ _ _ _ _ _=bH;have bI:bH={ tmps:=#[.agg (aI e n t v l K),.agg (bO t' v'),(yj g0 0:k),(yj (g0+1) 0:k),(yj (g0+1+1) 0:k),.slice none 0 0,.int .i64 0,(yj g7 0:k),.bool cb,(yj g9 0:k),.bool true,.agg (aI e n t v l K),.bool true,.bool false,b,(yj g0 1:k),.int .i64 n,.bool false,b,b,b,b,(yj (g0+1) 0:k),.int .i64 t',(yj g0 4:k),.int .i64 l,.bool false,b,(yj g0 1:k),.int .i64 n,.bool false,b,.tuple #[.agg C,.bool cb],(yj g0 2:k),(yj g0 3:k),.int .i64 v,.agg (dC v),(yj (g0+1) 1:k),.int .i64 v',(yj g0 0:k),.int .i64 e,(yj (g0+1) 0:k),.int .i64 t',(yj g0 2:k),(yj g0 2:k),.int .i64 t,.int .u64 (dt:Int),.tuple #[.agg C,.bool cb],.agg C,.bool cb,.tuple #[.agg M,true],(yj g0 5:k),.agg K,.agg C,.tuple #[.agg M,true],.agg M,.bool true,.bool true,.bool false,b,b,b,b,b,b,b,.agg M,(yj (g0+1) 0:k),.int .i64 t',(yj g0 5:k),(yj g0 4:k),(yj g0 1:k),.int .i64 n,.int .i64 (n+1),(yj g0 1:k),b],defers:=[] }:=by subst hF;kernel_rfl
     clear hF;subst bI;go_upto_region 15 with fail
     have gu:=ak.lt;have gM:=aq.lt;have cP:=ag.lt;have r_:=bl.lt;have Cm:=bx.lt;refine eB [.q,.so 0,.q,.q] [0,0,0,0] (fun R=>[.agg (aI e (n+1) t v t' M),b,.slice none 0 0,.int .i64 0]) (fun _=>(.cells #[] 0 (0,0))) (fun R _=>(.cells (aI e (n+1) t v t' M) 33 (0,0))) (fun _=>g0+1+1) (dA W) (fun _=>False) (by kernel_rfl) (by kernel_rfl) (by kernel_rfl) rfl (fun _=>rfl) (fun _ h=>h.elim) (fun _ _ h=>h) (by intro c hc;simp at hc;(try subst hc);(try simp only);omega) (by intro c c' h1 h2 _;simp at h1 h2;omega) (fun R b1=>⟨fun _=>rfl,fun _=>rfl,fun _=>rfl,fun _=>rfl,trivial⟩) (fun _ _ _ _=>rfl) dH EE.out ?ah5 ?aaS;case ah5 =>
      refine⟨?_,?_,aH,aH,trivial⟩
      ·refine cj fun R s w' aw hs hw ha=>?_
       have L:=dF (ak.aY hw (fun h=>h) (by intro c hc;simp at hc;(try subst hc);(try simp only);omega)) jC rfl eW (hR gJ);generalize hA:bB _ _ _ _ _ _ _=c3;refine e7 rfl ?_ L;subst hA;kernel_rfl
      ·refine il (c:=0) (Ty:=?aoD) (p:=?ar') (x:=?atC) (g0+1+1) ?abH ?ami ?amZ ?aeq ?ahI ?afJ ?agc ?ab9 ?Z6 ?aay ?_;case aeq=>exact rfl
       case ahI=>exact rfl
       case abH=>exact(fun R=>(.cells (aI e (n+1) t v t' M) 33 (0,0)))
       case ami=>exact(fun R=>.pointer (some ⟨g0+1+1,0,none⟩))
       case amZ=>exact(fun R=>.agg (aI e (n+1) t v t' M))
       case afJ=>exact(fun R=>rfl)
       case agc=>exact rfl
       case ab9=>exact cu rfl
       case Z6 =>
        intro R;kernel_rfl
       case aay =>
        intro R;kernel_rfl
       intro R s ρ w aw hs hp hx hz;refine⟨lI (g:=(g0+1+1)) rfl hp hx (hz.trans ag) eW (rfl) ((hR gJ)) ((jU qb)),fun aT hF=>dM aw hF lj⟩
     case aaS =>
      intro cY R G anb ae;have hS:=ae.same;have aZ:=ae.holds;have bf:=EE.out.size;replace ak:=ak.aY hS (fun h=>h) (by intro c hc;simp at hc;(try subst hc);(try simp only);omega);replace aq:=aq.aY hS (fun h=>h) (by intro c hc;simp at hc;(try subst hc);(try simp only);omega);replace bl:=bl.aY hS (fun h=>h) (by intro c hc;simp at hc;(try subst hc);(try simp only);omega);replace bx:=bx.aY hS (fun h=>h) (by intro c hc;simp at hc;(try subst hc);(try simp only);omega);replace ag:aG anb (g0+1+1) 33 (aI e (n+1) t v t' M):=ae.ep 1 (List.mem_range.2 (show 1<4 by decide)) 0 rfl;replace EE:=hide (show Ext _ _ from aZ);clear hS bf aZ ae gu gM cP r_ Cm;generalize hF:bB _ _ _ _ _ _ _=bH;have bI:bH={ tmps:=#[.agg (aI e n t v l K),.agg (bO t' v'),(yj g0 0:k),(yj (g0+1) 0:k),(yj (g0+1+1) 0:k),.slice none 0 0,.int .i64 0,(yj g7 0:k),.bool cb,(yj g9 0:k),.bool true,.agg (aI e n t v l K),.bool true,.bool false,b,(yj g0 1:k),.int .i64 n,.bool false,b,b,b,b,(yj (g0+1) 0:k),.int .i64 t',(yj g0 4:k),.int .i64 l,.bool false,b,(yj g0 1:k),.int .i64 n,.bool false,b,.tuple #[.agg C,.bool cb],(yj g0 2:k),(yj g0 3:k),.int .i64 v,.agg (dC v),(yj (g0+1) 1:k),.int .i64 v',(yj g0 0:k),.int .i64 e,(yj (g0+1) 0:k),.int .i64 t',(yj g0 2:k),(yj g0 2:k),.int .i64 t,.int .u64 (dt:Int),.tuple #[.agg C,.bool cb],.agg C,.bool cb,.tuple #[.agg M,true],(yj g0 5:k),.agg K,.agg C,.tuple #[.agg M,true],.agg M,.bool true,.bool true,.bool false,b,b,b,b,b,b,b,.agg M,(yj (g0+1) 0:k),.int .i64 t',(yj g0 5:k),(yj g0 4:k),(yj g0 1:k),.int .i64 n,.int .i64 (n+1),(yj g0 1:k),.agg (aI e (n+1) t v t' M)],defers:=[] }:=by subst hF;kernel_rfl
      clear hF;subst bI;go_wp2_with fail
      exact B7 (BR (p:=4) (u:=5) (u2:=6) (ty:=33) rfl _ _ _ 33 ((aI e (n+1) t v t' M)) _ rfl ag jC rfl (by rw[eW,hR gJ])) rfl ⟨by kernel_rfl,EE.out⟩
def gi(W:y)(mk:k->k)(ls:List gD)(e:axa)(w':y):Prop:=∃ A n c,n=ls.length/\n<=c/\e=.returned (mk (.slice A n c))/\eA.Own W.heap.size w' (.slice A n c) ls/\Ext W w'
theorem gi.jT{W:y}{mk:k->k}{e:axa}{w':y}(h:aP (mk (.slice none 0 0)) W e w'):gi W mk [] e w':=⟨Option.none,0,0,rfl,Nat.le_refl _,h.1,El.Own.jT eA _ _,h.2⟩
theorem ajP(e n t v l:Int)(K:Array k)(cS:K.size=21)(eI:K.all (·.oneCell')=true)(t' v':Int)(W:y)(f:Fr)(kv:Hid (∀ w,B r 42 #[.agg (aI e n t v l K)] w (aP (.bool true) w)))(d0:(n==0)=false)(d1:decide (t'<=l)=false)(d2:(n==1073741824)=false)(dt:Nat)(C M:Array k)(cb:Bool)(nW:C.size=21)(s6:C.all (·.oneCell')=true)(gJ:M.size=21)(qb:M.all (·.oneCell')=true)
 (bQ:Hid (∀ w,B r 23 #[.int .i64 v] w (aP (.agg (dC v)) w))) (bY:Hid (∀ w,B r 21 #[.int .i64 t',.int .i64 t] w (aP (.int .u64 (dt:Int)) w))) (cX:Hid (∀ w,B r 22 #[.agg (dC v),.int .i64 v',.int .i64 e,.int .u64 (dt:Int)] w (aP (.tuple #[.agg C,.bool cb]) w))) (ev:Hid (∀ w,B r 30 #[.agg K,.agg C] w (aP (.tuple #[.agg M,false]) w))) (eM:Hid (∀ w,B r 72 #[.int .i64 e,.agg (bO t' v')] w (aP (.agg (aI e 1 t' v' t' c9)) w))) (og:Hid (∀ w,B r 73 #[.agg (aI e n t v l K)] w (aP (.agg (fU (n,v,f))) w))) :
 B r 33 #[.agg (aI e n t v l K),.agg (bO t' v')] W (gi W (fun z=>.tuple #[.agg (aI e 1 t' v' t' c9),z,.int .i64 0]) [(n,v,f)]):=by
 have eX:=hR (e:=e) (n:=n) (t:=t) (v:=v) (l:=l) cS;have kf:=jU (e:=e) (n:=n) (t:=t) (v:=v) (l:=l) eI;obtain⟨f0,f1,f2,f3,f4,fs,fk⟩:=nX (e:=e) (n:=n) (t:=t) (v:=v) (l:=l) cS;obtain⟨X,dk⟩:=aM (aI e n t v l K);rw[dk] at eX kf f0 f1 f2 f3 f4 fs fk kv og |-;clear dk;have ak:=((aG.new W 33 X).alloc (.cells (bO t' v') 23)).alloc (.cells bL 33);have aq:=(aG.new (W.alloc (.cells X 33)) 23 (bO t' v')).alloc (.cells bL 33);rw[iY] at aq;have ag:=aG.new ((W.alloc (.cells X 33)).alloc (.cells (bO t' v') 23)) 33 bL;simp only[iY] at ag;have EE:=hide (((aA W (.cells X 33)).trans (aA _ (.cells (bO t' v') 23))).trans (aA _ (.cells bL 33)));obtain⟨bG,bD⟩:=aM ((((W.alloc (.cells X 33)).alloc (.cells (bO t' v') 23)).alloc (.cells bL 33)));obtain⟨g0,af⟩:∃ g,W.heap.size=g:=⟨_,rfl⟩;rw[bD] at ak aq ag EE;rw[af] at ak aq ag;have lh:W.heap.size<=g0:=by omega
 have r9:W.heap.size<=g0+1:=by omega
 have lj:W.heap.size<=g0+1+1:=by omega
 have aB:=hide bD;have bW:=hide af;clear bD af;go_enter Tryz.func33,Tryz.ntmps33
 go_upto_region 1 with fail
 unfold bL at aB;rw[aB.out,bW.out];clear aB bW;refine eK ?_;repeat (first|go_big_quiet_step (first|with_reducible exact dK (kv.out _))|(refine iE (by kernel_rfl) rfl rfl (fun w hw=>by obtain⟨⟨d,os⟩,rfl⟩:=hw;exact dF ((ak).ext (aX bG d os)) jC rfl eW eX) ?_)|quiet_step (first|with_reducible exact dK (kv.out _)))
 refine B' ?_;intro _ bj;obtain⟨⟨aQ,osq⟩,cq⟩:=bj;subst cq;replace ak:=(ak).ext (aX bG aQ osq);replace aq:=(aq).ext (aX bG aQ osq);replace ag:=(ag).ext (aX bG aQ osq);replace EE:=hide (EE.out.trans (aX bG aQ osq));obtain⟨bp,eF⟩:∃ w,grow (aw5 bG aQ) osq=w:=⟨_,rfl⟩;rw[eF] at EE ak aq ag |-;clear eF;go_upto_region 3 with fail
 have qx:=fun d os=>(((ak).ext (aX bp d os)).cell 1).trans (f1)
 refine eK ?_;repeat (first|go_big_quiet_step (fail)|quiet_step (fail))
 refine B' ?_;intro _ bj;obtain⟨⟨aQ,osq⟩,cq⟩:=bj;subst cq;replace ak:=(ak).ext (aX bp aQ osq);replace aq:=(aq).ext (aX bp aQ osq);replace ag:=(ag).ext (aX bp aQ osq);replace EE:=hide (EE.out.trans (aX bp aQ osq));obtain⟨bZ,mQ⟩:∃ w,grow (aw5 bp aQ) osq=w:=⟨_,rfl⟩;rw[mQ] at EE ak aq ag |-;clear mQ qx;go_upto_region 5 with fail
 have yO:=fun d os=>(((aq).ext (aX bZ d os)).cell 0).trans (show (bO t' v')[0]?=some (.int .i64 t') from rfl)
 have yP:=fun d os=>(((ak).ext (aX bZ d os)).cell 4).trans (f4)
 refine eK ?_;repeat (first|go_big_quiet_step (fail)|quiet_step (fail))
 refine B' ?_;intro _ bj;obtain⟨⟨aQ,osq⟩,cq⟩:=bj;subst cq;replace ak:=(ak).ext (aX bZ aQ osq);replace aq:=(aq).ext (aX bZ aQ osq);replace ag:=(ag).ext (aX bZ aQ osq);replace EE:=hide (EE.out.trans (aX bZ aQ osq));obtain⟨cg,sS⟩:∃ w,grow (aw5 bZ aQ) osq=w:=⟨_,rfl⟩;rw[sS] at EE ak aq ag |-;clear sS yO yP;go_upto_region 7 with fail
 have CT:=fun d os=>(((ak).ext (aX cg d os)).cell 1).trans (f1)
 refine eK ?_;repeat (first|go_big_quiet_step (fail)|quiet_step (fail))
 refine B' ?_;intro _ bj;obtain⟨⟨aQ,osq⟩,cq⟩:=bj;subst cq;replace ak:=(ak).ext (aX cg aQ osq);replace aq:=(aq).ext (aX cg aQ osq);replace ag:=(ag).ext (aX cg aQ osq);replace EE:=hide (EE.out.trans (aX cg aQ osq));obtain⟨c8,xA⟩:∃ w,grow (aw5 cg aQ) osq=w:=⟨_,rfl⟩;rw[xA] at EE ak aq ag |-;clear xA CT;go_upto_region 9 with fail
 have gu:=ak.lt;have gM:=aq.lt;have cP:=ag.lt;refine kl [.q,.q,.q,.q,.q,.q,.q,.q,.q,.q,.q,.q,.q,.q,.q,.q,.q,.q,.al,.st 18,.q] [0,0,0,0,0,0,0,0,0,0,0,0,0,0,0,0,0,0,0,0,0] (fun R=>[yj g0 2,yj g0 3,.int .i64 v,.agg (dC v),yj (g0+1) 1,.int .i64 v',yj g0 0,.int .i64 e,yj (g0+1) 0,.int .i64 t',yj g0 2,yj g0 2,.int .i64 t,.int .u64 (dt:Int),.tuple #[.agg C,.bool cb],.tuple #[.agg C,.bool cb],.agg C,.bool cb,b,b,.bool cb]) (fun _=>(.cells z21 31 (0,0))) (fun R _=>(.cells C 31 (0,0))) (fun _=>0) (dA W) (fun _=>False) (by kernel_rfl) (by kernel_rfl) (by kernel_rfl) (by kernel_rfl) rfl (fun _=>rfl) (fun _ h=>h.elim) (fun _ _ h=>h) (by simp) (by simp) (fun R b1=>⟨fun _=>rfl,fun _=>rfl,fun _=>rfl,fun _=>rfl,fun _=>rfl,fun _=>rfl,fun _=>rfl,fun _=>rfl,fun _=>rfl,fun _=>rfl,fun _=>rfl,fun _=>rfl,fun _=>rfl,fun _=>rfl,fun _=>rfl,fun _=>rfl,fun _=>rfl,fun _=>rfl,fun _=>rfl,fun _=>rfl,fun _=>rfl,trivial⟩) (fun _ _ _ _=>rfl) dH (EE.out.trans (b5 _)) ?NI ?J_;case NI =>
  refine⟨aH,aH,?_,d_ bQ,aH,?_,aH,?_,aH,?_,aH,aH,?_,d_ bY,d_ cX,aH,aH,aH,?_,?_,aH,trivial⟩
  ·refine cj fun R s w' aw hs hw ha=>?_
   have cc:=((show aG w' g0 _ X from ak.aY hw (fun h=>h) (by simp)).cell 3).trans (f3);go_simp
  ·refine cj fun R s w' aw hs hw ha=>?_
   have cc:=((show aG w' (g0+1) _ (bO t' v') from aq.aY hw (fun h=>h) (by simp)).cell 1).trans (show (bO t' v')[1]?=some (.int .i64 v') from rfl);go_simp
  ·refine cj fun R s w' aw hs hw ha=>?_
   have cc:=((show aG w' g0 _ X from ak.aY hw (fun h=>h) (by simp)).cell 0).trans (f0);go_simp
  ·refine cj fun R s w' aw hs hw ha=>?_
   have cc:=((show aG w' (g0+1) _ (bO t' v') from aq.aY hw (fun h=>h) (by simp)).cell 0).trans (show (bO t' v')[0]?=some (.int .i64 t') from rfl);go_simp
  ·refine cj fun R s w' aw hs hw ha=>?_
   have cc:=((show aG w' g0 _ X from ak.aY hw (fun h=>h) (by simp)).cell 2).trans (f2);go_simp
  ·refine ia ?PW ?D0 ?MG ?Dh ?_;case PW=>exact(.cells z21 31 (0,0))
   case D0=>exact rfl
   case MG=>exact rfl
   case Dh=>exact cu rfl
   intro ρ w';go_simp;exact⟨rfl,rfl⟩
  ·refine ib (j:=18) (Ty:=?XO) (p:=?ajp) (x:=?anR) ?Ki ?Am ?Fh ?vH ?Nx ?vN ?MV ?vi ?J2 ?_;case vH=>exact rfl
   case Nx=>exact rfl
   case Ki=>exact(fun R=>(.cells C 31 (0,0)))
   case Am=>exact(.cells z21 31 (0,0))
   case Fh=>exact(fun R=>.agg C)
   case vN=>exact(fun R=>rfl)
   case MV=>exact rfl
   case vi=>exact cu rfl
   case J2 =>
    intro R;kernel_rfl
   intro R s ρ w g aw hs hp hx af hz;exact⟨hQ rfl hp hx hz ei (nW) (s6),fun aT hF=>dM aw hF (Nat.le_trans EE.out.size af)⟩
 case J_ =>
  intro cY R G Ps ae;have hS:=ae.same;have aZ:=ae.holds;have bf:=EE.out.size;replace ak:=ak.aY hS (fun h=>h) (by simp);replace aq:=aq.aY hS (fun h=>h) (by simp);replace ag:=ag.aY hS (fun h=>h) (by simp);have bl:aG Ps (G 18) 31 C:=(ae.eV 19 (List.mem_range.2 (show 19<21 by decide)) 18 rfl).2.2;have xq:=(ae.made 18 (List.mem_range.2 (show 18<21 by decide)) rfl).1;have I6:W.heap.size<=G 18:=Nat.le_trans bf xq;have ag2:g0≠G 18:=by omega
  have Na:g0+1≠G 18:=by omega
  have aha:g0+1+1≠G 18:=by omega
  replace EE:=hide (show Ext _ _ from aZ);clear hS bf aZ ae gu gM cP;generalize hF:bB _ _ _ _ _ _ _=bH;have bI:bH={ tmps:=#[.agg X,.agg (bO t' v'),(yj g0 0:k),(yj (g0+1) 0:k),(yj (g0+1+1) 0:k),.slice none 0 0,.int .i64 0,(yj (G 18) 0:k),.bool cb,b,b,.agg X,.bool true,.bool false,b,(yj g0 1:k),.int .i64 n,.bool false,b,b,b,b,(yj (g0+1) 0:k),.int .i64 t',(yj g0 4:k),.int .i64 l,.bool false,b,(yj g0 1:k),.int .i64 n,.bool false,b,.tuple #[.agg C,.bool cb],(yj g0 2:k),(yj g0 3:k),.int .i64 v,.agg (dC v),(yj (g0+1) 1:k),.int .i64 v',(yj g0 0:k),.int .i64 e,(yj (g0+1) 0:k),.int .i64 t',(yj g0 2:k),(yj g0 2:k),.int .i64 t,.int .u64 (dt:Int),.tuple #[.agg C,.bool cb],.agg C,.bool cb,b,b,b,b,b,b,b,b,b,b,b,b,b,b,b,b,b,b,b,b,b,b,b,b,b,b],defers:=[] }:=by subst hF;kernel_rfl
  clear hF;subst bI;generalize G 18=g7 at *;go_upto_region 10 with fail
  have gu:=ak.lt;have gM:=aq.lt;have cP:=ag.lt;have r_:=bl.lt;refine eB [.q,.q,.q,.q,.q,.q,.q,.al,.st 7,.q] [0,0,0,0,0,0,0,0,0,0] (fun R=>[yj g0 5,.agg K,.agg C,.tuple #[.agg M,false],.tuple #[.agg M,false],.agg M,.bool false,b,b,.bool false]) (fun _=>(.cells z21 31 (0,0))) (fun R _=>(.cells M 31 (0,0))) (fun _=>0) (dA W) (fun _=>False) (by kernel_rfl) (by kernel_rfl) (by kernel_rfl) rfl (fun _=>rfl) (fun _ h=>h.elim) (fun _ _ h=>h) (by simp) (by simp) (fun R b1=>⟨fun _=>rfl,fun _=>rfl,fun _=>rfl,fun _=>rfl,fun _=>rfl,fun _=>rfl,fun _=>rfl,fun _=>rfl,fun _=>rfl,fun _=>rfl,trivial⟩) (fun _ _ _ _=>rfl) dH EE.out ?NJ ?J';case NJ =>
   refine⟨aH,?_,?_,d_ ev,aH,aH,aH,?_,?_,aH,trivial⟩
   ·refine cj fun R s w' aw hs hw ha=>?_
    have L:=pH (ak.aY hw (fun h=>h) (by simp)) _ _ fV rfl 5 21 ei (by rw[eX];first|decide|omega) _ (fk);generalize hA:bB _ _ _ _ _ _ _=c3;refine e7 rfl ?_ L;subst hA;kernel_rfl
   ·refine cj fun R s w' aw hs hw ha=>?_
    have L:=dF (bl.aY hw (fun h=>h) (by simp)) fV rfl ei nW;generalize hA:bB _ _ _ _ _ _ _=c3;refine e7 rfl ?_ L;subst hA;kernel_rfl
   ·refine ia ?PZ ?LZ ?MJ ?KB ?_;case PZ=>exact(.cells z21 31 (0,0))
    case LZ=>exact rfl
    case MJ=>exact rfl
    case KB=>exact cu rfl
    intro ρ w';go_simp;exact⟨rfl,rfl⟩
   ·refine ib (j:=7) (Ty:=?XQ) (p:=?ajr) (x:=?anT) ?Kk ?P0 ?Pm ?L0 ?Nz ?MK ?MX ?KC ?J4 ?_;case L0=>exact rfl
    case Nz=>exact rfl
    case Kk=>exact(fun R=>(.cells M 31 (0,0)))
    case P0=>exact(.cells z21 31 (0,0))
    case Pm=>exact(fun R=>.agg M)
    case MK=>exact(fun R=>rfl)
    case MX=>exact rfl
    case KC=>exact cu rfl
    case J4 =>
     intro R;kernel_rfl
    intro R s ρ w g aw hs hp hx af hz;exact⟨hQ rfl hp hx hz ei (gJ) (qb),fun aT hF=>dM aw hF (Nat.le_trans EE.out.size af)⟩
  case J' =>
   intro cY R G oo ae;have hS:=ae.same;have aZ:=ae.holds;have bf:=EE.out.size;replace ak:=ak.aY hS (fun h=>h) (by simp);replace aq:=aq.aY hS (fun h=>h) (by simp);replace ag:=ag.aY hS (fun h=>h) (by simp);replace bl:=bl.aY hS (fun h=>h) (by simp);have bx:aG oo (G 7) 31 M:=(ae.eV 8 (List.mem_range.2 (show 8<10 by decide)) 7 rfl).2.2;have DW:=(ae.made 7 (List.mem_range.2 (show 7<10 by decide)) rfl).1;have I7:W.heap.size<=G 7:=Nat.le_trans bf DW;have ag3:g0≠G 7:=by omega
   have ag6:g0+1≠G 7:=by omega
   have ahb:g0+1+1≠G 7:=by omega
   have ahh:g7≠G 7:=by omega
   replace EE:=hide (show Ext _ _ from aZ);clear hS bf aZ ae gu gM cP r_;generalize hF:bB _ _ _ _ _ _ _=bH;have bI:bH={ tmps:=#[.agg X,.agg (bO t' v'),(yj g0 0:k),(yj (g0+1) 0:k),(yj (g0+1+1) 0:k),.slice none 0 0,.int .i64 0,(yj g7 0:k),.bool cb,(yj (G 7) 0:k),.bool false,.agg X,.bool true,.bool false,b,(yj g0 1:k),.int .i64 n,.bool false,b,b,b,b,(yj (g0+1) 0:k),.int .i64 t',(yj g0 4:k),.int .i64 l,.bool false,b,(yj g0 1:k),.int .i64 n,.bool false,b,.tuple #[.agg C,.bool cb],(yj g0 2:k),(yj g0 3:k),.int .i64 v,.agg (dC v),(yj (g0+1) 1:k),.int .i64 v',(yj g0 0:k),.int .i64 e,(yj (g0+1) 0:k),.int .i64 t',(yj g0 2:k),(yj g0 2:k),.int .i64 t,.int .u64 (dt:Int),.tuple #[.agg C,.bool cb],.agg C,.bool cb,.tuple #[.agg M,false],(yj g0 5:k),.agg K,.agg C,.tuple #[.agg M,false],.agg M,.bool false,b,b,b,b,b,b,b,b,b,b,b,b,b,b,b,b,b,b,b],defers:=[] }:=by subst hF;kernel_rfl
   clear hF;subst bI;generalize G 7=g9 at *;go_upto_region 11 with fail
   refine eK ?_;repeat (first|go_big_quiet_step (fail)|quiet_step (fail))
   refine B' ?_;intro _ bj;obtain⟨⟨aQ,osq⟩,cq⟩:=bj;subst cq;replace ak:=(ak).ext (aX oo aQ osq);replace aq:=(aq).ext (aX oo aQ osq);replace ag:=(ag).ext (aX oo aQ osq);replace bl:=(bl).ext (aX oo aQ osq);replace bx:=(bx).ext (aX oo aQ osq);replace EE:=hide (EE.out.trans (aX oo aQ osq));obtain⟨Wn,En⟩:∃ w,grow (aw5 oo aQ) osq=w:=⟨_,rfl⟩;rw[En] at EE ak aq ag bl bx |-;clear En;go_upto_region 12 with fail
   have gu:=ak.lt;have gM:=aq.lt;have cP:=ag.lt;have r_:=bl.lt;have Cm:=bx.lt;have fe:=EE.out.size;refine kl [.q,.q,.q,.q,.q,.q,.gO 0,.so 0,.q,.q] [0,0,0,0,0,0,0,0,1,0] (fun R=>[yj g0 0,.int .i64 e,.agg (bO t' v'),.agg (aI e 1 t' v' t' c9),.agg X,.agg (fU (n,v,f)),b,b,(R 0),.int .i64 0]) (fun _=>(.cells #[] 0 (0,0))) (fun R _=>(.cells (aI e 1 t' v' t' c9) 33 (0,0))) (fun _=>g0+1+1) (w2 W Wn (n,v,f)) (fun _=>False) (by kernel_rfl) (by kernel_rfl) (by kernel_rfl) (by kernel_rfl) rfl (fun _=>rfl) (fun _ h=>h.elim) (fun _ _ h=>h) (by intro c hc;simp at hc;(try subst hc);(try simp only);omega) (by intro c c' h1 h2 _;simp at h1 h2;omega) (fun R b1=>⟨fun _=>rfl,fun _=>rfl,fun _=>rfl,fun _=>rfl,fun _=>rfl,fun _=>rfl,fun _=>rfl,fun _=>rfl,fun h=>by simp only[h 0 (by decide)],fun _=>rfl,trivial⟩) (fun _ _ _ _=>rfl) Wa ⟨EE.out.trans (b5 _),fun h=>absurd h (by decide)⟩ ?ah4 ?aaR;case ah4 =>
    refine⟨aH,?_,?_,d_ eM,?_,d_ og,?_,?_,aH,aH,trivial⟩
    ·refine cj fun R s w' aw hs hw ha=>?_
     have cc:=((show aG w' g0 _ X from ak.aY hw (fun h=>h) (by intro c hc;simp at hc;(try subst hc);(try simp only);omega)).cell 0).trans (f0);go_simp
    ·refine cj fun R s w' aw hs hw ha=>?_
     have L:=dF (aq.aY hw (fun h=>h) (by intro c hc;simp at hc;(try subst hc);(try simp only);omega)) xQ rfl xB rfl;generalize hA:bB _ _ _ _ _ _ _=c3;refine e7 rfl ?_ L;subst hA;kernel_rfl
    ·refine cj fun R s w' aw hs hw ha=>?_
     have L:=dF (ak.aY hw (fun h=>h) (by intro c hc;simp at hc;(try subst hc);(try simp only);omega)) jC rfl eW eX;generalize hA:bB _ _ _ _ _ _ _=c3;refine e7 rfl ?_ L;subst hA;kernel_rfl
    ·refine C6 (m:=0) ?D4 ?Dl ?_;case D4=>exact rfl
     case Dl=>exact cu rfl
     intro R w' aw hw;have hz:=hw.2.2.2.1;generalize hA:bB _ _ _ _ _ _ _=c3;refine Kg (n,v,f) rfl ?_ (Wb aw hz);subst hA;kernel_rfl
    ·refine il (c:=0) (Ty:=?aoC) (p:=?ar_) (x:=?atB) (g0+1+1) ?abG ?amh ?amY ?aep ?ahH ?afI ?agb ?ab8 ?Z5 ?aax ?_;case aep=>exact rfl
     case ahH=>exact rfl
     case abG=>exact(fun R=>(.cells (aI e 1 t' v' t' c9) 33 (0,0)))
     case amh=>exact(fun R=>.pointer (some ⟨g0+1+1,0,none⟩))
     case amY=>exact(fun R=>.agg (aI e 1 t' v' t' c9))
     case afI=>exact(fun R=>rfl)
     case agb=>exact rfl
     case ab8=>exact cu rfl
     case Z5 =>
      intro R;kernel_rfl
     case aax =>
      intro R;kernel_rfl
     intro R s ρ w aw hs hp hx hz;refine⟨lI (g:=(g0+1+1)) rfl hp hx (hz.trans ag) eW (rfl) (hR rfl) (jU E2),fun aT hF=>alk aw hF lj cP⟩
   case aaR =>
    intro cY R G ana ae;have hS:=ae.same;have aZ:=ae.holds;have bf:=EE.out.size;have sP:0<cY:=(ae.stage 6 (show 6<10 by decide) 0 rfl).1 (List.mem_range.2 (show 6<10 by decide));obtain⟨q,iJ,aO,yz⟩:=aZ.2 sP;replace ak:=ak.aY hS (fun h=>h) (by intro c hc;simp at hc;(try subst hc);(try simp only);omega);replace aq:=aq.aY hS (fun h=>h) (by intro c hc;simp at hc;(try subst hc);(try simp only);omega);replace bl:=bl.aY hS (fun h=>h) (by intro c hc;simp at hc;(try subst hc);(try simp only);omega);replace bx:=bx.aY hS (fun h=>h) (by intro c hc;simp at hc;(try subst hc);(try simp only);omega);replace ag:aG ana (g0+1+1) 33 (aI e 1 t' v' t' c9):=ae.ep 7 (List.mem_range.2 (show 7<10 by decide)) 0 rfl;replace EE:=hide (show Ext _ _ from aZ.1);clear hS bf aZ ae gu gM cP r_ Cm;generalize hF:bB _ _ _ _ _ _ _=bH;have bI:bH={ tmps:=#[.agg X,.agg (bO t' v'),(yj g0 0:k),(yj (g0+1) 0:k),(yj (g0+1+1) 0:k),(R 0),.int .i64 0,(yj g7 0:k),.bool cb,(yj g9 0:k),.bool false,.agg X,.bool true,.bool false,b,(yj g0 1:k),.int .i64 n,.bool false,b,b,b,b,(yj (g0+1) 0:k),.int .i64 t',(yj g0 4:k),.int .i64 l,.bool false,b,(yj g0 1:k),.int .i64 n,.bool false,b,.tuple #[.agg C,.bool cb],(yj g0 2:k),(yj g0 3:k),.int .i64 v,.agg (dC v),(yj (g0+1) 1:k),.int .i64 v',(yj g0 0:k),.int .i64 e,(yj (g0+1) 0:k),.int .i64 t',(yj g0 2:k),(yj g0 2:k),.int .i64 t,.int .u64 (dt:Int),.tuple #[.agg C,.bool cb],.agg C,.bool cb,.tuple #[.agg M,false],(yj g0 5:k),.agg K,.agg C,.tuple #[.agg M,false],.agg M,.bool false,.bool false,.bool true,(yj g0 0:k),.int .i64 e,.agg (bO t' v'),.agg (aI e 1 t' v' t' c9),.agg X,.agg (fU (n,v,f)),(R 0),b,b,b,b,b,b,b,b,b,b],defers:=[] }:=by subst hF;kernel_rfl
    clear hF;subst bI;(try simp only[iJ])
    go_wp2_with fail
    exact B7 (BR (p:=4) (u:=5) (u2:=6) (ty:=33) rfl _ _ _ 33 (aI e 1 t' v' t' c9) _ rfl ag jC rfl (by rw[eW,hR rfl])) rfl ⟨_,1,1,rfl,Nat.le_refl _,by kernel_rfl,NS _ yz (Nat.le_trans fe aO),EE.out⟩
theorem ajF(e n t v l:Int)(K:Array k)(cS:K.size=21)(eI:K.all (·.oneCell')=true)(W:y)(kv:Hid (∀ w,B r 42 #[.agg (aI e n t v l K)] w (aP (.bool false) w))):B r 40 #[.agg (aI e n t v l K)] W (aP (.tuple #[.slice none 0 0,.int .i64 1]) W):=by
 have eX:=hR (e:=e) (n:=n) (t:=t) (v:=v) (l:=l) cS;have kf:=jU (e:=e) (n:=n) (t:=t) (v:=v) (l:=l) eI;obtain⟨f0,f1,f2,f3,f4,fs,fk⟩:=nX (e:=e) (n:=n) (t:=t) (v:=v) (l:=l) cS;obtain⟨X,dk⟩:=aM (aI e n t v l K);rw[dk] at eX kf f0 f1 f2 f3 f4 fs fk kv |-;clear dk;have aS:=aG.new W 33 X;have EE:=hide (aA W (.cells X 33));obtain⟨bG,bD⟩:=aM ((W.alloc (.cells X 33)));obtain⟨g0,af⟩:∃ g,W.heap.size=g:=⟨_,rfl⟩;rw[bD] at aS EE;rw[af] at aS;have wK:W.heap.size<=g0:=by omega
 have aB:=hide bD;have bW:=hide af;clear bD af;go_enter Tryz.func40,Tryz.ntmps40
 go_upto_region 1 with fail
 rw[aB.out,bW.out];clear aB bW;refine eK ?_;repeat (first|go_big_quiet_step (first|with_reducible exact dK (kv.out _))|(refine iE (by kernel_rfl) rfl rfl (fun w hw=>by obtain⟨⟨d,os⟩,rfl⟩:=hw;exact dF ((aS).ext (aX bG d os)) jC rfl eW eX) ?_)|quiet_step (first|with_reducible exact dK (kv.out _)))
 refine B' ?_;intro _ bj;obtain⟨⟨aQ,osq⟩,cq⟩:=bj;subst cq;replace aS:=(aS).ext (aX bG aQ osq);replace EE:=hide (EE.out.trans (aX bG aQ osq));obtain⟨bp,eF⟩:∃ w,grow (aw5 bG aQ) osq=w:=⟨_,rfl⟩;rw[eF] at EE aS |-;clear eF;go_wp2_with fail
 go_ret2
 exact⟨rfl,EE.out⟩
theorem ajG(e n t v l:Int)(K:Array k)(cS:K.size=21)(eI:K.all (·.oneCell')=true)(W:y)(kv:Hid (∀ w,B r 42 #[.agg (aI e n t v l K)] w (aP (.bool true) w)))(d0:(n==0)=true):B r 40 #[.agg (aI e n t v l K)] W (aP (.tuple #[.slice none 0 0,.int .i64 0]) W):=by
 have eX:=hR (e:=e) (n:=n) (t:=t) (v:=v) (l:=l) cS;have kf:=jU (e:=e) (n:=n) (t:=t) (v:=v) (l:=l) eI;obtain⟨f0,f1,f2,f3,f4,fs,fk⟩:=nX (e:=e) (n:=n) (t:=t) (v:=v) (l:=l) cS;obtain⟨X,dk⟩:=aM (aI e n t v l K);rw[dk] at eX kf f0 f1 f2 f3 f4 fs fk kv |-;clear dk;have aS:=aG.new W 33 X;have EE:=hide (aA W (.cells X 33));obtain⟨bG,bD⟩:=aM ((W.alloc (.cells X 33)));obtain⟨g0,af⟩:∃ g,W.heap.size=g:=⟨_,rfl⟩;rw[bD] at aS EE;rw[af] at aS;have wK:W.heap.size<=g0:=by omega
 have aB:=hide bD;have bW:=hide af;clear bD af;go_enter Tryz.func40,Tryz.ntmps40
 go_upto_region 1 with fail
 rw[aB.out,bW.out];clear aB bW;refine eK ?_;repeat (first|go_big_quiet_step (first|with_reducible exact dK (kv.out _))|(refine iE (by kernel_rfl) rfl rfl (fun w hw=>by obtain⟨⟨d,os⟩,rfl⟩:=hw;exact dF ((aS).ext (aX bG d os)) jC rfl eW eX) ?_)|quiet_step (first|with_reducible exact dK (kv.out _)))
 refine B' ?_;intro _ bj;obtain⟨⟨aQ,osq⟩,cq⟩:=bj;subst cq;replace aS:=(aS).ext (aX bG aQ osq);replace EE:=hide (EE.out.trans (aX bG aQ osq));obtain⟨bp,eF⟩:∃ w,grow (aw5 bG aQ) osq=w:=⟨_,rfl⟩;rw[eF] at EE aS |-;clear eF;go_upto_region 3 with fail
 have qx:=fun d os=>(((aS).ext (aX bp d os)).cell 1).trans (f1)
 refine eK ?_;repeat (first|go_big_quiet_step (fail)|quiet_step (fail))
 refine B' ?_;intro _ bj;obtain⟨⟨aQ,osq⟩,cq⟩:=bj;subst cq;replace aS:=(aS).ext (aX bp aQ osq);replace EE:=hide (EE.out.trans (aX bp aQ osq));obtain⟨bZ,mQ⟩:∃ w,grow (aw5 bp aQ) osq=w:=⟨_,rfl⟩;rw[mQ] at EE aS |-;clear mQ qx;go_wp2_with fail
 go_ret2
 exact⟨rfl,EE.out⟩
theorem ajI(e n t v l:Int)(K:Array k)(cS:K.size=21)(eI:K.all (·.oneCell')=true)(f:Fr)(W:y)(kv:Hid (∀ w,B r 42 #[.agg (aI e n t v l K)] w (aP (.bool true) w)))(d0:(n==0)=false)(og:Hid (∀ w,B r 73 #[.agg (aI e n t v l K)] w (aP (.agg (fU (n,v,f))) w))) :
 B r 40 #[.agg (aI e n t v l K)] W (gi W (fun z=>.tuple #[z,.int .i64 0]) [(n,v,f)]):=by
 have eX:=hR (e:=e) (n:=n) (t:=t) (v:=v) (l:=l) cS;have kf:=jU (e:=e) (n:=n) (t:=t) (v:=v) (l:=l) eI;obtain⟨f0,f1,f2,f3,f4,fs,fk⟩:=nX (e:=e) (n:=n) (t:=t) (v:=v) (l:=l) cS;obtain⟨X,dk⟩:=aM (aI e n t v l K);rw[dk] at eX kf f0 f1 f2 f3 f4 fs fk kv og |-;clear dk;have aS:=aG.new W 33 X;have EE:=hide (aA W (.cells X 33));obtain⟨bG,bD⟩:=aM ((W.alloc (.cells X 33)));obtain⟨g0,af⟩:∃ g,W.heap.size=g:=⟨_,rfl⟩;rw[bD] at aS EE;rw[af] at aS;have wK:W.heap.size<=g0:=by omega
 have aB:=hide bD;have bW:=hide af;clear bD af;go_enter Tryz.func40,Tryz.ntmps40
 go_upto_region 1 with fail
 rw[aB.out,bW.out];clear aB bW;refine eK ?_;repeat (first|go_big_quiet_step (first|with_reducible exact dK (kv.out _))|(refine iE (by kernel_rfl) rfl rfl (fun w hw=>by obtain⟨⟨d,os⟩,rfl⟩:=hw;exact dF ((aS).ext (aX bG d os)) jC rfl eW eX) ?_)|quiet_step (first|with_reducible exact dK (kv.out _)))
 refine B' ?_;intro _ bj;obtain⟨⟨aQ,osq⟩,cq⟩:=bj;subst cq;replace aS:=(aS).ext (aX bG aQ osq);replace EE:=hide (EE.out.trans (aX bG aQ osq));obtain⟨bp,eF⟩:∃ w,grow (aw5 bG aQ) osq=w:=⟨_,rfl⟩;rw[eF] at EE aS |-;clear eF;go_upto_region 3 with fail
 have qx:=fun d os=>(((aS).ext (aX bp d os)).cell 1).trans (f1)
 refine eK ?_;repeat (first|go_big_quiet_step (fail)|quiet_step (fail))
 refine B' ?_;intro _ bj;obtain⟨⟨aQ,osq⟩,cq⟩:=bj;subst cq;replace aS:=(aS).ext (aX bp aQ osq);replace EE:=hide (EE.out.trans (aX bp aQ osq));obtain⟨bZ,mQ⟩:∃ w,grow (aw5 bp aQ) osq=w:=⟨_,rfl⟩;rw[mQ] at EE aS |-;clear mQ qx;go_upto_region 5 with fail
 have fe:=EE.out.size;have uG:=aS.lt;refine eB [.q,.q,.gO 0,.q,.q] [0,0,0,1,0] (fun R=>[.agg X,.agg (fU (n,v,f)),b,(R 0),.int .i64 0]) (fun _=>(.cells #[] 0 (0,0))) (fun R _=>(.cells #[] 0 (0,0))) (fun _=>0) (w2 W bZ (n,v,f)) (fun _=>False) (by kernel_rfl) (by kernel_rfl) (by kernel_rfl) rfl (fun _=>rfl) (fun _ h=>h.elim) (fun _ _ h=>h) (by simp) (by simp) (fun R b1=>⟨fun _=>rfl,fun _=>rfl,fun _=>rfl,fun h=>by simp only[h 0 (by decide)],fun _=>rfl,trivial⟩) (fun _ _ _ _=>rfl) Wa ⟨EE.out,fun h=>absurd h (by decide)⟩ ?NM ?Kd;case NM =>
  refine⟨?_,d_ og,?_,aH,aH,trivial⟩
  ·refine cj fun R s w' aw hs hw ha=>?_
   have L:=dF (aS.aY hw (fun h=>h) (by simp)) jC rfl eW eX;generalize hA:bB _ _ _ _ _ _ _=c3;refine e7 rfl ?_ L;subst hA;kernel_rfl
  ·refine C6 (m:=0) ?gA ?gx ?_;case gA=>exact rfl
   case gx=>exact cu rfl
   intro R w' aw hw;have hz:=hw.2.2.2.1;generalize hA:bB _ _ _ _ _ _ _=c3;refine Kg (n,v,f) rfl ?_ (Wb aw hz);subst hA;kernel_rfl
 case Kd =>
  intro cY R G B4 ae;have hS:=ae.same;have aZ:=ae.holds;have bf:=EE.out.size;have sP:0<cY:=(ae.stage 2 (show 2<5 by decide) 0 rfl).1 (List.mem_range.2 (show 2<5 by decide));obtain⟨q,iJ,aO,yz⟩:=aZ.2 sP;replace aS:=aS.aY hS (fun h=>h) (by simp);replace EE:=hide (show Ext _ _ from aZ.1);clear hS bf aZ ae uG;generalize hF:bB _ _ _ _ _ _ _=bH;have bI:bH={ tmps:=#[.agg X,(yj g0 0:k),(R 0),.int .i64 0,.agg X,.bool true,.bool false,(yj g0 1:k),.int .i64 n,.bool false,.agg X,.agg (fU (n,v,f)),(R 0)],defers:=[] }:=by subst hF;kernel_rfl
  clear hF;subst bI;(try simp only[iJ])
  go_wp2_with fail
  go_ret2
  exact⟨_,1,1,rfl,Nat.le_refl _,by kernel_rfl,NS _ yz (Nat.le_trans fe aO),EE.out⟩
end
end Go.Proofs.YtojbopibfflnoaaGreat
