/- Facts. -/
import Derived.Test.YtojbopibfflnoaaGreatPrY29
import Derived.Test.YtojbopibfflnoaaGreatPrY30
namespace Go.Proofs.YtojbopibfflnoaaGreat
open Go renaming undef → a, World → i, Value → b, Calls → m, bodyPost_ret → B7, wpQuiet_nil → B', redrawn → aw5
open _root_.Go.Proofs.Tryz renaming prog → f
set_option linter.unusedVariables false
set_option linter.unusedSimpArgs false
set_option maxHeartbeats 16000000
set_option maxRecDepth 100000
section
open Go Go.RowKit Go.Sort
attribute [local go_sem] mg A3 bB BX
theorem R5{g:Nat}{W w aT:i}(h:Ext W w)(k:b3 g w aT)(af:W.heap.size<=g):Ext W aT:=⟨k.1.trans h.os,k.2.1.trans h.tape,k.2.2.1.trans h.output,Nat.le_trans h.size k.2.2.2.1,fun j aN=>(k.2.2.2.2 j (Nat.lt_of_lt_of_le aN h.size) (by omega)).trans (h.block j aN)⟩
theorem ajb(e:Int)(W:i):m f 34 #[.int .i64 e] W (aP (.bool (decide (0<=e)&&decide (e<=4611686018427387904))) W):=by
 by_cases h0:0<=e
 ·by_cases h1:e<=4611686018427387904
  ·have bt:decide (0<=e)=true:=decide_eq_true h0;have az:decide (e<=4611686018427387904)=true:=decide_eq_true h1;rw[bt,az];go_enter Tryz.func34,Tryz.ntmps34
   go_wp2_with fail
   go_ret;exact⟨rfl,Ext.refl _⟩
  ·have bt:decide (0<=e)=true:=decide_eq_true h0;have az:decide (e<=4611686018427387904)=false:=decide_eq_false h1;rw[bt,az];go_enter Tryz.func34,Tryz.ntmps34
   go_wp2_with fail
   go_ret;exact⟨rfl,Ext.refl _⟩
 ·have bt:decide (0<=e)=false:=decide_eq_false h0;rw[bt];go_enter Tryz.func34,Tryz.ntmps34
  go_wp2_with fail
  go_ret;exact⟨rfl,Ext.refl _⟩
theorem avX(e n t v l:Int)(K:Array b)(cS:K.size=21)(eI:K.all (·.oneCell')=true)(t' v':Int)(W:i)(kv:Hid (∀ w,m f 41 #[.agg (aI e n t v l K)] w (aP (.bool false) w))) :
 m f 38 #[.agg (aI e n t v l K),.agg (bO t' v')] W (aP (.tuple #[.agg (bL),.slice none 0 0,.int .i64 1]) W):=by
 have eX:=hR (e:=e) (n:=n) (t:=t) (v:=v) (l:=l) cS;have kf:=jU (e:=e) (n:=n) (t:=t) (v:=v) (l:=l) eI;obtain⟨f0,f1,f2,f3,f4,fs,fk⟩:=nX (e:=e) (n:=n) (t:=t) (v:=v) (l:=l) cS;obtain⟨X,dk⟩:=aM (aI e n t v l K);rw[dk] at eX kf f0 f1 f2 f3 f4 fs fk kv |-;clear dk;have ak:=((aG.new W 33 X).alloc (.cells (bO t' v') 23)).alloc (.cells bL 33);have aq:=(aG.new (W.alloc (.cells X 33)) 23 (bO t' v')).alloc (.cells bL 33);rw[iY] at aq;have ag:=aG.new ((W.alloc (.cells X 33)).alloc (.cells (bO t' v') 23)) 33 bL;simp only[iY] at ag;have EE:=hide (((aA W (.cells X 33)).trans (aA _ (.cells (bO t' v') 23))).trans (aA _ (.cells bL 33)));obtain⟨bG,bD⟩:=aM ((((W.alloc (.cells X 33)).alloc (.cells (bO t' v') 23)).alloc (.cells bL 33)));obtain⟨g0,af⟩:∃ g,W.heap.size=g:=⟨_,rfl⟩;rw[bD] at ak aq ag EE;rw[af] at ak aq ag;have lh:W.heap.size<=g0:=by omega
 have r9:W.heap.size<=g0+1:=by omega
 have lj:W.heap.size<=g0+1+1:=by omega
 have aB:=hide bD;have bW:=hide af;clear bD af;go_enter Tryz.func38,Tryz.ntmps38
 go_upto_region 1 with fail
 unfold bL at aB;rw[aB.out,bW.out];clear aB bW;refine eK ?_;repeat (first|go_big_quiet_step (first|with_reducible exact dK (kv.out _))|(refine iE (by kernel_rfl) rfl rfl (fun w hw=>by obtain⟨⟨d,os⟩,rfl⟩:=hw;exact dF ((ak).ext (aX bG d os)) jC rfl eW eX) ?_)|quiet_step (first|with_reducible exact dK (kv.out _)))
 refine B' ?_;intro _ bj;obtain⟨⟨aQ,osq⟩,cq⟩:=bj;subst cq;replace ak:=(ak).ext (aX bG aQ osq);replace aq:=(aq).ext (aX bG aQ osq);replace ag:=(ag).ext (aX bG aQ osq);replace EE:=hide (EE.out.trans (aX bG aQ osq));obtain⟨bp,eF⟩:∃ w,grow (aw5 bG aQ) osq=w:=⟨_,rfl⟩;rw[eF] at EE ak aq ag |-;clear eF;go_upto_region 2 with fail
 have gu:=ak.lt;have gM:=aq.lt;have cP:=ag.lt;refine eB [.q,.so 0,.q,.q] [0,0,0,0] (fun R=>[.agg bL,a,.slice none 0 0,.int .i64 1]) (fun _=>(.cells #[] 0 (0,0))) (fun R _=>(.cells bL 33 (0,0))) (fun _=>g0+1+1) (dA W) (fun _=>False) (by kernel_rfl) (by kernel_rfl) (by kernel_rfl) rfl (fun _=>rfl) (fun _ h=>h.elim) (fun _ _ h=>h) (by intro c hc;simp at hc;(try subst hc);(try simp only);omega) (by intro c c' h1 h2 _;simp at h1 h2;omega) (fun R b1=>⟨fun _=>rfl,fun _=>rfl,fun _=>rfl,fun _=>rfl,trivial⟩) (fun _ _ _ _=>rfl) dH EE.out ?ah8 ?aaV;case ah8 =>
  refine⟨?_,?_,aH,aH,trivial⟩
  ·refine cj fun R s w' aw hs hw ha=>?_
   generalize hA:bB _ _ _ _ _ _ _=c3;refine pD (vs:=#[]) rfl ?_ (CF);subst hA;kernel_rfl
  ·refine il (c:=0) (Ty:=?w4) (p:=?xL) (x:=?xZ) (g0+1+1) ?n6 ?v7 ?kj ?iQ ?om ?j8 ?oi ?jn ?uW ?n5 ?_;case iQ=>exact rfl
   case om=>exact rfl
   case n6=>exact(fun R=>(.cells bL 33 (0,0)))
   case v7=>exact(fun R=>.pointer (some ⟨g0+1+1,0,none⟩))
   case kj=>exact(fun R=>.agg bL)
   case j8=>exact(fun R=>rfl)
   case oi=>exact rfl
   case jn=>exact cu rfl
   case uW =>
    intro R;kernel_rfl
   case n5 =>
    intro R;kernel_rfl
   intro R s ρ w aw hs hp hx hz;refine⟨lI (g:=(g0+1+1)) rfl hp hx (hz.trans ag) eW (rfl) (rfl) (Al),fun aT hF=>dM aw hF lj⟩
 case aaV =>
  intro cY R G b6 ae;have hS:=ae.same;have aZ:=ae.holds;have bf:=EE.out.size;replace ak:=ak.aY hS (fun h=>h) (by intro c hc;simp at hc;(try subst hc);(try simp only);omega);replace aq:=aq.aY hS (fun h=>h) (by intro c hc;simp at hc;(try subst hc);(try simp only);omega);replace ag:aG b6 (g0+1+1) 33 bL:=ae.ep 1 (List.mem_range.2 (show 1<4 by decide)) 0 rfl;replace EE:=hide (show Ext _ _ from aZ);clear hS bf aZ ae gu gM cP;generalize hF:bB _ _ _ _ _ _ _=bH;have bI:bH={ tmps:=#[.agg X,.agg (bO t' v'),(yj g0 0:b),(yj (g0+1) 0:b),(yj (g0+1+1) 0:b),.slice none 0 0,.int .i64 1,a,.bool true,.agg X,.bool false,.bool true,.agg bL,a,a,a,a,a,a,a,a,a,a,a,a,a,a,a,a,a,a,a,a,a,a,a,a,a],defers:=[] }:=by subst hF;kernel_rfl
  clear hF;subst bI;go_wp2_with fail
  exact B7 (BR (p:=4) (u:=5) (u2:=6) (ty:=33) rfl _ _ _ 33 (bL) _ rfl ag jC rfl (by rw[eW,show bL.size=26 from rfl])) rfl ⟨by kernel_rfl,EE.out⟩
theorem avZ(e n t v l:Int)(K:Array b)(cS:K.size=21)(eI:K.all (·.oneCell')=true)(t' v':Int)(W:i)(kv:Hid (∀ w,m f 41 #[.agg (aI e n t v l K)] w (aP (.bool true) w)))(d0:(n != 0)=true)(d1:decide (t'<=l)=true) :
 m f 38 #[.agg (aI e n t v l K),.agg (bO t' v')] W (aP (.tuple #[.agg (bL),.slice none 0 0,.int .i64 7]) W):=by
 have eX:=hR (e:=e) (n:=n) (t:=t) (v:=v) (l:=l) cS;have kf:=jU (e:=e) (n:=n) (t:=t) (v:=v) (l:=l) eI;obtain⟨f0,f1,f2,f3,f4,fs,fk⟩:=nX (e:=e) (n:=n) (t:=t) (v:=v) (l:=l) cS;obtain⟨X,dk⟩:=aM (aI e n t v l K);rw[dk] at eX kf f0 f1 f2 f3 f4 fs fk kv |-;clear dk;have ak:=((aG.new W 33 X).alloc (.cells (bO t' v') 23)).alloc (.cells bL 33);have aq:=(aG.new (W.alloc (.cells X 33)) 23 (bO t' v')).alloc (.cells bL 33);rw[iY] at aq;have ag:=aG.new ((W.alloc (.cells X 33)).alloc (.cells (bO t' v') 23)) 33 bL;simp only[iY] at ag;have EE:=hide (((aA W (.cells X 33)).trans (aA _ (.cells (bO t' v') 23))).trans (aA _ (.cells bL 33)));obtain⟨bG,bD⟩:=aM ((((W.alloc (.cells X 33)).alloc (.cells (bO t' v') 23)).alloc (.cells bL 33)));obtain⟨g0,af⟩:∃ g,W.heap.size=g:=⟨_,rfl⟩;rw[bD] at ak aq ag EE;rw[af] at ak aq ag;have lh:W.heap.size<=g0:=by omega
 have r9:W.heap.size<=g0+1:=by omega
 have lj:W.heap.size<=g0+1+1:=by omega
 have aB:=hide bD;have bW:=hide af;clear bD af;go_enter Tryz.func38,Tryz.ntmps38
 go_upto_region 1 with fail
 unfold bL at aB;rw[aB.out,bW.out];clear aB bW;refine eK ?_;repeat (first|go_big_quiet_step (first|with_reducible exact dK (kv.out _))|(refine iE (by kernel_rfl) rfl rfl (fun w hw=>by obtain⟨⟨d,os⟩,rfl⟩:=hw;exact dF ((ak).ext (aX bG d os)) jC rfl eW eX) ?_)|quiet_step (first|with_reducible exact dK (kv.out _)))
 refine B' ?_;intro _ bj;obtain⟨⟨aQ,osq⟩,cq⟩:=bj;subst cq;replace ak:=(ak).ext (aX bG aQ osq);replace aq:=(aq).ext (aX bG aQ osq);replace ag:=(ag).ext (aX bG aQ osq);replace EE:=hide (EE.out.trans (aX bG aQ osq));obtain⟨bp,eF⟩:∃ w,grow (aw5 bG aQ) osq=w:=⟨_,rfl⟩;rw[eF] at EE ak aq ag |-;clear eF;go_upto_region 3 with fail
 have qx:=fun d os=>(((ak).ext (aX bp d os)).cell 1).trans (f1)
 have RE:=fun d os=>(((aq).ext (aX bp d os)).cell 0).trans (show (bO t' v')[0]?=some (.int .i64 t') from rfl)
 have RR:=fun d os=>(((ak).ext (aX bp d os)).cell 4).trans (f4)
 refine eK ?_;repeat (first|go_big_quiet_step (fail)|quiet_step (fail))
 refine B' ?_;intro _ bj;obtain⟨⟨aQ,osq⟩,cq⟩:=bj;subst cq;replace ak:=(ak).ext (aX bp aQ osq);replace aq:=(aq).ext (aX bp aQ osq);replace ag:=(ag).ext (aX bp aQ osq);replace EE:=hide (EE.out.trans (aX bp aQ osq));obtain⟨bZ,mQ⟩:∃ w,grow (aw5 bp aQ) osq=w:=⟨_,rfl⟩;rw[mQ] at EE ak aq ag |-;clear mQ qx RE RR;go_upto_region 4 with fail
 have gu:=ak.lt;have gM:=aq.lt;have cP:=ag.lt;refine eB [.q,.so 0,.q,.q] [0,0,0,0] (fun R=>[.agg bL,a,.slice none 0 0,.int .i64 7]) (fun _=>(.cells #[] 0 (0,0))) (fun R _=>(.cells bL 33 (0,0))) (fun _=>g0+1+1) (dA W) (fun _=>False) (by kernel_rfl) (by kernel_rfl) (by kernel_rfl) rfl (fun _=>rfl) (fun _ h=>h.elim) (fun _ _ h=>h) (by intro c hc;simp at hc;(try subst hc);(try simp only);omega) (by intro c c' h1 h2 _;simp at h1 h2;omega) (fun R b1=>⟨fun _=>rfl,fun _=>rfl,fun _=>rfl,fun _=>rfl,trivial⟩) (fun _ _ _ _=>rfl) dH EE.out ?jA ?jm;case jA =>
  refine⟨?_,?_,aH,aH,trivial⟩
  ·refine cj fun R s w' aw hs hw ha=>?_
   generalize hA:bB _ _ _ _ _ _ _=c3;refine pD (vs:=#[]) rfl ?_ (CF);subst hA;kernel_rfl
  ·refine il (c:=0) (Ty:=?XT) (p:=?aju) (x:=?anW) (g0+1+1) ?Kn ?OZ ?wo ?iR ?NC ?j9 ?M0 ?jo ?JV ?J7 ?_;case iR=>exact rfl
   case NC=>exact rfl
   case Kn=>exact(fun R=>(.cells bL 33 (0,0)))
   case OZ=>exact(fun R=>.pointer (some ⟨g0+1+1,0,none⟩))
   case wo=>exact(fun R=>.agg bL)
   case j9=>exact(fun R=>rfl)
   case M0=>exact rfl
   case jo=>exact cu rfl
   case JV =>
    intro R;kernel_rfl
   case J7 =>
    intro R;kernel_rfl
   intro R s ρ w aw hs hp hx hz;refine⟨lI (g:=(g0+1+1)) rfl hp hx (hz.trans ag) eW (rfl) (rfl) (Al),fun aT hF=>dM aw hF lj⟩
 case jm =>
  intro cY R G cN ae;have hS:=ae.same;have aZ:=ae.holds;have bf:=EE.out.size;replace ak:=ak.aY hS (fun h=>h) (by intro c hc;simp at hc;(try subst hc);(try simp only);omega);replace aq:=aq.aY hS (fun h=>h) (by intro c hc;simp at hc;(try subst hc);(try simp only);omega);replace ag:aG cN (g0+1+1) 33 bL:=ae.ep 1 (List.mem_range.2 (show 1<4 by decide)) 0 rfl;replace EE:=hide (show Ext _ _ from aZ);clear hS bf aZ ae gu gM cP;generalize hF:bB _ _ _ _ _ _ _=bH;have bI:bH={ tmps:=#[.agg X,.agg (bO t' v'),(yj g0 0:b),(yj (g0+1) 0:b),(yj (g0+1+1) 0:b),.slice none 0 0,.int .i64 7,a,.bool false,.agg X,.bool true,.bool false,a,.bool true,(yj g0 1:b),.int .i64 n,.bool true,.bool true,(yj (g0+1) 0:b),.int .i64 t',(yj g0 4:b),.int .i64 l,.bool true,.bool true,.agg bL,a,a,a,a,a,a,a,a,a,a,a,a,a],defers:=[] }:=by subst hF;kernel_rfl
  clear hF;subst bI;go_wp2_with fail
  exact B7 (BR (p:=4) (u:=5) (u2:=6) (ty:=33) rfl _ _ _ 33 (bL) _ rfl ag jC rfl (by rw[eW,show bL.size=26 from rfl])) rfl ⟨by kernel_rfl,EE.out⟩
theorem avY(e n t v l:Int)(K:Array b)(cS:K.size=21)(eI:K.all (·.oneCell')=true)(t' v':Int)(W:i)(kv:Hid (∀ w,m f 41 #[.agg (aI e n t v l K)] w (aP (.bool true) w)))(d0:(n != 0)=true)(d1:decide (t'<=l)=false)(d2:(n==1073741824)=true) :
 m f 38 #[.agg (aI e n t v l K),.agg (bO t' v')] W (aP (.tuple #[.agg (bL),.slice none 0 0,.int .i64 3]) W):=by
 have eX:=hR (e:=e) (n:=n) (t:=t) (v:=v) (l:=l) cS;have kf:=jU (e:=e) (n:=n) (t:=t) (v:=v) (l:=l) eI;obtain⟨f0,f1,f2,f3,f4,fs,fk⟩:=nX (e:=e) (n:=n) (t:=t) (v:=v) (l:=l) cS;obtain⟨X,dk⟩:=aM (aI e n t v l K);rw[dk] at eX kf f0 f1 f2 f3 f4 fs fk kv |-;clear dk;have ak:=((aG.new W 33 X).alloc (.cells (bO t' v') 23)).alloc (.cells bL 33);have aq:=(aG.new (W.alloc (.cells X 33)) 23 (bO t' v')).alloc (.cells bL 33);rw[iY] at aq;have ag:=aG.new ((W.alloc (.cells X 33)).alloc (.cells (bO t' v') 23)) 33 bL;simp only[iY] at ag;have EE:=hide (((aA W (.cells X 33)).trans (aA _ (.cells (bO t' v') 23))).trans (aA _ (.cells bL 33)));obtain⟨bG,bD⟩:=aM ((((W.alloc (.cells X 33)).alloc (.cells (bO t' v') 23)).alloc (.cells bL 33)));obtain⟨g0,af⟩:∃ g,W.heap.size=g:=⟨_,rfl⟩;rw[bD] at ak aq ag EE;rw[af] at ak aq ag;have lh:W.heap.size<=g0:=by omega
 have r9:W.heap.size<=g0+1:=by omega
 have lj:W.heap.size<=g0+1+1:=by omega
 have aB:=hide bD;have bW:=hide af;clear bD af;go_enter Tryz.func38,Tryz.ntmps38
 go_upto_region 1 with fail
 unfold bL at aB;rw[aB.out,bW.out];clear aB bW;refine eK ?_;repeat (first|go_big_quiet_step (first|with_reducible exact dK (kv.out _))|(refine iE (by kernel_rfl) rfl rfl (fun w hw=>by obtain⟨⟨d,os⟩,rfl⟩:=hw;exact dF ((ak).ext (aX bG d os)) jC rfl eW eX) ?_)|quiet_step (first|with_reducible exact dK (kv.out _)))
 refine B' ?_;intro _ bj;obtain⟨⟨aQ,osq⟩,cq⟩:=bj;subst cq;replace ak:=(ak).ext (aX bG aQ osq);replace aq:=(aq).ext (aX bG aQ osq);replace ag:=(ag).ext (aX bG aQ osq);replace EE:=hide (EE.out.trans (aX bG aQ osq));obtain⟨bp,eF⟩:∃ w,grow (aw5 bG aQ) osq=w:=⟨_,rfl⟩;rw[eF] at EE ak aq ag |-;clear eF;go_upto_region 3 with fail
 have qx:=fun d os=>(((ak).ext (aX bp d os)).cell 1).trans (f1)
 have RE:=fun d os=>(((aq).ext (aX bp d os)).cell 0).trans (show (bO t' v')[0]?=some (.int .i64 t') from rfl)
 have RR:=fun d os=>(((ak).ext (aX bp d os)).cell 4).trans (f4)
 refine eK ?_;repeat (first|go_big_quiet_step (fail)|quiet_step (fail))
 refine B' ?_;intro _ bj;obtain⟨⟨aQ,osq⟩,cq⟩:=bj;subst cq;replace ak:=(ak).ext (aX bp aQ osq);replace aq:=(aq).ext (aX bp aQ osq);replace ag:=(ag).ext (aX bp aQ osq);replace EE:=hide (EE.out.trans (aX bp aQ osq));obtain⟨bZ,mQ⟩:∃ w,grow (aw5 bp aQ) osq=w:=⟨_,rfl⟩;rw[mQ] at EE ak aq ag |-;clear mQ qx RE RR;go_upto_region 5 with fail
 have yO:=fun d os=>(((ak).ext (aX bZ d os)).cell 1).trans (f1)
 refine eK ?_;repeat (first|go_big_quiet_step (fail)|quiet_step (fail))
 refine B' ?_;intro _ bj;obtain⟨⟨aQ,osq⟩,cq⟩:=bj;subst cq;replace ak:=(ak).ext (aX bZ aQ osq);replace aq:=(aq).ext (aX bZ aQ osq);replace ag:=(ag).ext (aX bZ aQ osq);replace EE:=hide (EE.out.trans (aX bZ aQ osq));obtain⟨cg,sS⟩:∃ w,grow (aw5 bZ aQ) osq=w:=⟨_,rfl⟩;rw[sS] at EE ak aq ag |-;clear sS yO;go_upto_region 6 with fail
 have gu:=ak.lt;have gM:=aq.lt;have cP:=ag.lt;refine eB [.q,.so 0,.q,.q] [0,0,0,0] (fun R=>[.agg bL,a,.slice none 0 0,.int .i64 3]) (fun _=>(.cells #[] 0 (0,0))) (fun R _=>(.cells bL 33 (0,0))) (fun _=>g0+1+1) (dA W) (fun _=>False) (by kernel_rfl) (by kernel_rfl) (by kernel_rfl) rfl (fun _=>rfl) (fun _ h=>h.elim) (fun _ _ h=>h) (by intro c hc;simp at hc;(try subst hc);(try simp only);omega) (by intro c c' h1 h2 _;simp at h1 h2;omega) (fun R b1=>⟨fun _=>rfl,fun _=>rfl,fun _=>rfl,fun _=>rfl,trivial⟩) (fun _ _ _ _=>rfl) dH EE.out ?NG ?J8;case NG =>
  refine⟨?_,?_,aH,aH,trivial⟩
  ·refine cj fun R s w' aw hs hw ha=>?_
   generalize hA:bB _ _ _ _ _ _ _=c3;refine pD (vs:=#[]) rfl ?_ (CF);subst hA;kernel_rfl
  ·refine il (c:=0) (Ty:=?F2) (p:=?HA) (x:=?Ij) (g0+1+1) ?fn8 ?amo ?tw ?sO ?vS ?kn8 ?vQ ?sC ?aad ?uZ ?_;case sO=>exact rfl
   case vS=>exact rfl
   case fn8=>exact(fun R=>(.cells bL 33 (0,0)))
   case amo=>exact(fun R=>.pointer (some ⟨g0+1+1,0,none⟩))
   case tw=>exact(fun R=>.agg bL)
   case kn8=>exact(fun R=>rfl)
   case vQ=>exact rfl
   case sC=>exact cu rfl
   case aad =>
    intro R;kernel_rfl
   case uZ =>
    intro R;kernel_rfl
   intro R s ρ w aw hs hp hx hz;refine⟨lI (g:=(g0+1+1)) rfl hp hx (hz.trans ag) eW (rfl) (rfl) (Al),fun aT hF=>dM aw hF lj⟩
 case J8 =>
  intro cY R G xT ae;have hS:=ae.same;have aZ:=ae.holds;have bf:=EE.out.size;replace ak:=ak.aY hS (fun h=>h) (by intro c hc;simp at hc;(try subst hc);(try simp only);omega);replace aq:=aq.aY hS (fun h=>h) (by intro c hc;simp at hc;(try subst hc);(try simp only);omega);replace ag:aG xT (g0+1+1) 33 bL:=ae.ep 1 (List.mem_range.2 (show 1<4 by decide)) 0 rfl;replace EE:=hide (show Ext _ _ from aZ);clear hS bf aZ ae gu gM cP;generalize hF:bB _ _ _ _ _ _ _=bH;have bI:bH={ tmps:=#[.agg X,.agg (bO t' v'),(yj g0 0:b),(yj (g0+1) 0:b),(yj (g0+1+1) 0:b),.slice none 0 0,.int .i64 3,a,.bool false,.agg X,.bool true,.bool false,a,.bool false,(yj g0 1:b),.int .i64 n,.bool true,.bool true,(yj (g0+1) 0:b),.int .i64 t',(yj g0 4:b),.int .i64 l,.bool false,.bool false,a,.bool true,(yj g0 1:b),.int .i64 n,.bool true,.agg bL,a,a,a,a,a,a,a,a],defers:=[] }:=by subst hF;kernel_rfl
  clear hF;subst bI;go_wp2_with fail
  exact B7 (BR (p:=4) (u:=5) (u2:=6) (ty:=33) rfl _ _ _ 33 (bL) _ rfl ag jC rfl (by rw[eW,show bL.size=26 from rfl])) rfl ⟨by kernel_rfl,EE.out⟩
theorem avV(e n t v l:Int)(K:Array b)(cS:K.size=21)(eI:K.all (·.oneCell')=true)(t' v':Int)(W:i)(e2 aW t2 v2 aj:Int)(eC:Array b)(Ot:eC.size=21)(UI:eC.all (·.oneCell')=true)(ls:List gD)(kv:Hid (∀ w,m f 41 #[.agg (aI e n t v l K)] w (aP (.bool true) w)))(d0:(n != 0)=false)(d2:(n==1073741824)=false)(hN:Hid (∀ w g B,aG w g 86 (cV (aI e n t v l K) (.slice none 0 0))->B<=w.heap.size->m f 48 #[yj g 0,.agg (bO t' v')] w (wy g B w (aI e2 aW t2 v2 aj eC) (.slice none 0 0) ls))) :
 m f 38 #[.agg (aI e n t v l K),.agg (bO t' v')] W (gi W (fun z=>.tuple #[.agg (aI e2 aW t2 v2 aj eC),z,.int .i64 0]) ls):=by
 have eX:=hR (e:=e) (n:=n) (t:=t) (v:=v) (l:=l) cS;have kf:=jU (e:=e) (n:=n) (t:=t) (v:=v) (l:=l) eI;obtain⟨f0,f1,f2,f3,f4,fs,fk⟩:=nX (e:=e) (n:=n) (t:=t) (v:=v) (l:=l) cS;obtain⟨X,dk⟩:=aM (aI e n t v l K);rw[dk] at eX kf f0 f1 f2 f3 f4 fs fk kv |-;have SF:=hide dk;clear dk;have ak:=((aG.new W 33 X).alloc (.cells (bO t' v') 23)).alloc (.cells bL 33);have aq:=(aG.new (W.alloc (.cells X 33)) 23 (bO t' v')).alloc (.cells bL 33);rw[iY] at aq;have ag:=aG.new ((W.alloc (.cells X 33)).alloc (.cells (bO t' v') 23)) 33 bL;simp only[iY] at ag;have EE:=hide (((aA W (.cells X 33)).trans (aA _ (.cells (bO t' v') 23))).trans (aA _ (.cells bL 33)));obtain⟨bG,bD⟩:=aM ((((W.alloc (.cells X 33)).alloc (.cells (bO t' v') 23)).alloc (.cells bL 33)));obtain⟨g0,af⟩:∃ g,W.heap.size=g:=⟨_,rfl⟩;rw[bD] at ak aq ag EE;rw[af] at ak aq ag;have lh:W.heap.size<=g0:=by omega
 have r9:W.heap.size<=g0+1:=by omega
 have lj:W.heap.size<=g0+1+1:=by omega
 have aB:=hide bD;have bW:=hide af;clear bD af;go_enter Tryz.func38,Tryz.ntmps38
 go_upto_region 1 with fail
 unfold bL at aB;rw[aB.out,bW.out];clear aB bW;refine eK ?_;repeat (first|go_big_quiet_step (first|with_reducible exact dK (kv.out _))|(refine iE (by kernel_rfl) rfl rfl (fun w hw=>by obtain⟨⟨d,os⟩,rfl⟩:=hw;exact dF ((ak).ext (aX bG d os)) jC rfl eW eX) ?_)|quiet_step (first|with_reducible exact dK (kv.out _)))
 refine B' ?_;intro _ bj;obtain⟨⟨aQ,osq⟩,cq⟩:=bj;subst cq;replace ak:=(ak).ext (aX bG aQ osq);replace aq:=(aq).ext (aX bG aQ osq);replace ag:=(ag).ext (aX bG aQ osq);replace EE:=hide (EE.out.trans (aX bG aQ osq));obtain⟨bp,eF⟩:∃ w,grow (aw5 bG aQ) osq=w:=⟨_,rfl⟩;rw[eF] at EE ak aq ag |-;clear eF;go_upto_region 3 with fail
 have qx:=fun d os=>(((ak).ext (aX bp d os)).cell 1).trans (f1)
 refine eK ?_;repeat (first|go_big_quiet_step (fail)|quiet_step (fail))
 refine B' ?_;intro _ bj;obtain⟨⟨aQ,osq⟩,cq⟩:=bj;subst cq;replace ak:=(ak).ext (aX bp aQ osq);replace aq:=(aq).ext (aX bp aQ osq);replace ag:=(ag).ext (aX bp aQ osq);replace EE:=hide (EE.out.trans (aX bp aQ osq));obtain⟨bZ,mQ⟩:∃ w,grow (aw5 bp aQ) osq=w:=⟨_,rfl⟩;rw[mQ] at EE ak aq ag |-;clear mQ qx;go_upto_region 5 with fail
 have yO:=fun d os=>(((ak).ext (aX bZ d os)).cell 1).trans (f1)
 refine eK ?_;repeat (first|go_big_quiet_step (fail)|quiet_step (fail))
 refine B' ?_;intro _ bj;obtain⟨⟨aQ,osq⟩,cq⟩:=bj;subst cq;replace ak:=(ak).ext (aX bZ aQ osq);replace aq:=(aq).ext (aX bZ aQ osq);replace ag:=(ag).ext (aX bZ aQ osq);replace EE:=hide (EE.out.trans (aX bZ aQ osq));obtain⟨cg,sS⟩:∃ w,grow (aw5 bZ aQ) osq=w:=⟨_,rfl⟩;rw[sS] at EE ak aq ag |-;clear sS yO;go_upto_region 7 with fail
 have dk:=SF.out;clear SF;subst dk;replace ak:aG _ _ _ (aI e n t v l K):=ak;have gu:=ak.lt;have gM:=aq.lt;have cP:=ag.lt;refine eB [.q,.q,.al,.st 2] [0,0,0,0] (fun R=>[.agg (aI e n t v l K),.agg (cV (aI e n t v l K) (.slice none 0 0)),a,a]) (fun _=>(.cells z27 86 (0,0))) (fun R _=>(.cells (cV (aI e n t v l K) (.slice none 0 0)) 86 (0,0))) (fun _=>0) (dA W) (fun _=>False) (by kernel_rfl) (by kernel_rfl) (by kernel_rfl) rfl (fun _=>rfl) (fun _ h=>h.elim) (fun _ _ h=>h) (by simp) (by simp) (fun R b1=>⟨fun _=>rfl,fun _=>rfl,fun _=>rfl,fun _=>rfl,trivial⟩) (fun _ _ _ _=>rfl) dH EE.out ?NG ?J8;case NG =>
  refine⟨?_,?_,?_,?_,trivial⟩
  ·refine cj fun R s w' aw hs hw ha=>?_
   have L:=dF (ak.aY hw (fun h=>h) (by simp)) jC rfl eW (hR cS);generalize hA:bB _ _ _ _ _ _ _=c3;refine e7 rfl ?_ L;subst hA;kernel_rfl
  ·refine cj fun R s w' aw hs hw ha=>?_
   generalize hA:bB _ _ _ _ _ _ _=c3;refine pD (vs:=#[(0,.agg (aI e n t v l K))]) rfl ?_ (YE e n t v l cS);subst hA;kernel_rfl
  ·refine ia ?aom ?L3 ?MP ?KF ?_;case aom=>exact(.cells z27 86 (0,0))
   case L3=>exact rfl
   case MP=>exact rfl
   case KF=>exact cu rfl
   intro ρ w';go_simp;exact⟨rfl,rfl⟩
  ·refine ib (j:=2) (Ty:=?XM) (p:=?ajo) (x:=?anQ) ?Kh ?an9 ?wm ?po ?Nw ?sW ?MU ?o_ ?J1 ?_;case po=>exact rfl
   case Nw=>exact rfl
   case Kh=>exact(fun R=>(.cells (cV (aI e n t v l K) (.slice none 0 0)) 86 (0,0)))
   case an9=>exact(.cells z27 86 (0,0))
   case wm=>exact(fun R=>.agg (cV (aI e n t v l K) (.slice none 0 0)))
   case sW=>exact(fun R=>rfl)
   case MU=>exact rfl
   case o_=>exact cu rfl
   case J1 =>
    intro R;kernel_rfl
   intro R s ρ w g aw hs hp hx af hz;exact⟨hQ rfl hp hx hz afa ((qP cS)) ((akM eI rfl)),fun aT hF=>dM aw hF (Nat.le_trans EE.out.size af)⟩
 case J8 =>
  intro cY R G xT ae;have hS:=ae.same;have aZ:=ae.holds;have bf:=EE.out.size;replace ak:=ak.aY hS (fun h=>h) (by simp);replace aq:=aq.aY hS (fun h=>h) (by simp);replace ag:=ag.aY hS (fun h=>h) (by simp);have bl:aG xT (G 2) 86 (cV (aI e n t v l K) (.slice none 0 0)):=(ae.eV 3 (List.mem_range.2 (show 3<4 by decide)) 2 rfl).2.2;have xq:=(ae.made 2 (List.mem_range.2 (show 2<4 by decide)) rfl).1;have I6:W.heap.size<=G 2:=Nat.le_trans bf xq;have ag2:g0≠G 2:=by omega
  have Na:g0+1≠G 2:=by omega
  have aha:g0+1+1≠G 2:=by omega
  replace EE:=hide (show Ext _ _ from aZ);clear hS bf aZ ae gu gM cP;generalize hF:bB _ _ _ _ _ _ _=bH;have bI:bH={ tmps:=#[.agg (aI e n t v l K),.agg (bO t' v'),(yj g0 0:b),(yj (g0+1) 0:b),(yj (g0+1+1) 0:b),.slice none 0 0,.int .i64 0,(yj (G 2) 0:b),.bool false,.agg (aI e n t v l K),.bool true,.bool false,a,.bool false,(yj g0 1:b),.int .i64 n,.bool false,.bool false,a,a,a,a,a,.bool false,a,.bool false,(yj g0 1:b),.int .i64 n,.bool false,a,.agg (aI e n t v l K),.agg (cV (aI e n t v l K) (.slice none 0 0)),a,a,a,a,a,a],defers:=[] }:=by subst hF;kernel_rfl
  clear hF;subst bI;generalize G 2=g7 at *;obtain⟨ay,y7⟩:∃ B,B=xT.heap.size:=⟨_,rfl⟩;have Bm:W.heap.size<=ay:=by rw[y7];exact EE.out.size
  have T8:=ak.lt;have QI:=aq.lt;have ajL:=ag.lt;have xE:=dF aq xQ rfl xB rfl;go_upto_region 9 with (first
   | (refine dp (by kernel_rfl) rfl rfl xE ?_)
   | (go_at_call 48;(with_reducible refine(hN.out _ _ ay bl (Nat.le_of_eq y7)).mono ?_);rintro oI cN ⟨rfl,cU,aC,az,hJ,eS,bJ,r7,xt,uA⟩;clear xE))
  have avP:(Value.slice none 0 0).ownBlock=none:=rfl;have aE:∀ k,k<xT.heap.size->k≠g7->cN.heap[k]?=xT.heap[k]?:=fun k h1 h2=>uA.2.2.2.2 k h1 (fun h=>h.elim h2 (fun h=>by cases h))
  have Q5:aG cN (g0) _ _:=(aE _ T8 (by omega)).trans ak;have Q7:aG cN (g0+1) _ _:=(aE _ QI (by omega)).trans aq;have Rj:aG cN (g0+1+1) _ _:=(aE _ ajL (by omega)).trans ag;have afz:Ext xT cN\/True:=Or.inr trivial;have Iv:Ext W cN:=⟨uA.1.trans EE.out.os,uA.2.1.trans EE.out.tape,uA.2.2.1.trans EE.out.output,Nat.le_trans EE.out.size uA.2.2.2.1,fun k Jm=>(aE k (Nat.lt_of_lt_of_le Jm EE.out.size) (by omega)).trans (EE.out.block k Jm)⟩;have WT:=hide Iv;clear ak aq ag bl afz Iv EE;have EE:Hid (b3 (g0+1+1) cN cN):=b3.refl _ _;have r7:=hide r7;have ak:=Q5;have aq:=Q7;have ag:=Rj;clear Q5 Q7 Rj;have gu:=ak.lt;have gM:=aq.lt;have cP:=ag.lt;have oB:=bJ.lt;refine kl [.q,.q,.q,.q,.so 0,.q,.q] [0,0,0,0,0,0,0] (fun R=>[yj g7 0,.agg (aI e2 aW t2 v2 aj eC),yj g7 26,.slice cU aC az,a,.slice cU aC az,.int .i64 0]) (fun _=>(.cells #[] 0 (0,0))) (fun R _=>(.cells (aI e2 aW t2 v2 aj eC) 33 (0,0))) (fun _=>g0+1+1) (uQ (g0+1+1) cN) (fun _=>False) (by kernel_rfl) (by kernel_rfl) (by kernel_rfl) (by kernel_rfl) rfl (fun _=>rfl) (fun _ h=>h.elim) (fun _ _ h=>h) (by intro c hc;simp at hc;(try subst hc);(try simp only);omega) (by intro c c' h1 h2 _;simp at h1 h2;omega) (fun R b1=>⟨fun _=>rfl,fun _=>rfl,fun _=>rfl,fun _=>rfl,fun _=>rfl,fun _=>rfl,fun _=>rfl,trivial⟩) (fun _ _ _ _=>rfl) z8 EE.out.drew ?akH ?aif;case akH =>
   refine⟨aH,?_,aH,?_,?_,aH,aH,trivial⟩
   ·refine cj fun R s w' aw hs hw ha=>?_
    have L:=pH (bJ.aY hw (fun h=>h) (by intro c hc;simp at hc;(try subst hc);(try simp only);omega)) _ _ jC rfl 0 26 eW (by rw[(qP Ot)];first|decide|omega) _ ((qe (q:=.slice cU aC az) Ot).2.2.2.2.2.2.1);generalize hA:bB _ _ _ _ _ _ _=c3;refine e7 rfl ?_ L;subst hA;kernel_rfl
   ·refine cj fun R s w' aw hs hw ha=>?_
    have cc:=((show aG w' g7 _ (cV (aI e2 aW t2 v2 aj eC) (.slice cU aC az)) from bJ.aY hw (fun h=>h) (by intro c hc;simp at hc;(try subst hc);(try simp only);omega)).cell 26).trans ((qe (q:=.slice cU aC az) Ot).2.2.2.2.2.1);go_simp
   ·refine il (c:=0) (Ty:=?Jg) (p:=?N5) (x:=?PT) (g0+1+1) ?yY ?z' ?tv ?ob ?zI ?sX ?zD ?n9 ?yS ?yU ?_;case ob=>exact rfl
    case zI=>exact rfl
    case yY=>exact(fun R=>(.cells (aI e2 aW t2 v2 aj eC) 33 (0,0)))
    case z'=>exact(fun R=>.pointer (some ⟨g0+1+1,0,none⟩))
    case tv=>exact(fun R=>.agg (aI e2 aW t2 v2 aj eC))
    case sX=>exact(fun R=>rfl)
    case zD=>exact rfl
    case n9=>exact cu rfl
    case yS =>
     intro R;kernel_rfl
    case yU =>
     intro R;kernel_rfl
    intro R s ρ w aw hs hp hx hz;refine⟨lI (g:=(g0+1+1)) rfl hp hx (hz.trans ag) eW (rfl) ((hR Ot)) ((jU UI)),fun aT hF=>vZ aw hF⟩
  case aif =>
   intro cY R G H3 ae;have hS:=ae.same;have aZ:=ae.holds;have bf:=EE.out.2.2.2.1;replace ak:=ak.aY hS (fun h=>h) (by intro c hc;simp at hc;(try subst hc);(try simp only);omega);replace aq:=aq.aY hS (fun h=>h) (by intro c hc;simp at hc;(try subst hc);(try simp only);omega);replace bJ:=bJ.aY hS (fun h=>h) (by intro c hc;simp at hc;(try subst hc);(try simp only);omega);replace ag:aG H3 (g0+1+1) 33 (aI e2 aW t2 v2 aj eC):=ae.ep 4 (List.mem_range.2 (show 4<7 by decide)) 0 rfl;replace EE:=hide (show b3 (g0+1+1) _ _ from aZ);clear hS bf aZ ae gu gM cP oB;generalize hF:bB _ _ _ _ _ _ _=bH;have bI:bH={ tmps:=#[.agg (aI e n t v l K),.agg (bO t' v'),(yj g0 0:b),(yj (g0+1) 0:b),(yj (g0+1+1) 0:b),.slice cU aC az,.int .i64 0,(yj g7 0:b),.bool false,.agg (aI e n t v l K),.bool true,.bool false,a,.bool false,(yj g0 1:b),.int .i64 n,.bool false,.bool false,a,a,a,a,a,.bool false,a,.bool false,(yj g0 1:b),.int .i64 n,.bool false,a,.agg (aI e n t v l K),.agg (cV (aI e n t v l K) (.slice none 0 0)),.agg (bO t' v'),.tuple #[],(yj g7 0:b),.agg (aI e2 aW t2 v2 aj eC),(yj g7 26:b),.slice cU aC az],defers:=[] }:=by subst hF;kernel_rfl
   clear hF;subst bI;go_wp2_with fail
   exact B7 (BR (p:=4) (u:=5) (u2:=6) (ty:=33) rfl _ _ _ 33 ((aI e2 aW t2 v2 aj eC)) _ rfl ag jC rfl (by rw[eW,hR Ot])) rfl ⟨cU,aC,az,hJ,eS,by kernel_rfl,((Hs r7.out (xR EE.out) (fun j aN e=>by have:=(r7.out.1.lt j aN).1;omega)).less Bm),R5 WT.out EE.out (by omega)⟩
theorem avW(e n t v l:Int)(K:Array b)(cS:K.size=21)(eI:K.all (·.oneCell')=true)(t' v':Int)(W:i)(e2 aW t2 v2 aj:Int)(eC:Array b)(Ot:eC.size=21)(UI:eC.all (·.oneCell')=true)(ls:List gD)(kv:Hid (∀ w,m f 41 #[.agg (aI e n t v l K)] w (aP (.bool true) w)))(d0:(n != 0)=true)(d1:decide (t'<=l)=false)(d2:(n==1073741824)=false)(hN:Hid (∀ w g B,aG w g 86 (cV (aI e n t v l K) (.slice none 0 0))->B<=w.heap.size->m f 48 #[yj g 0,.agg (bO t' v')] w (wy g B w (aI e2 aW t2 v2 aj eC) (.slice none 0 0) ls))) :
 m f 38 #[.agg (aI e n t v l K),.agg (bO t' v')] W (gi W (fun z=>.tuple #[.agg (aI e2 aW t2 v2 aj eC),z,.int .i64 0]) ls):=by
 have eX:=hR (e:=e) (n:=n) (t:=t) (v:=v) (l:=l) cS;have kf:=jU (e:=e) (n:=n) (t:=t) (v:=v) (l:=l) eI;obtain⟨f0,f1,f2,f3,f4,fs,fk⟩:=nX (e:=e) (n:=n) (t:=t) (v:=v) (l:=l) cS;obtain⟨X,dk⟩:=aM (aI e n t v l K);rw[dk] at eX kf f0 f1 f2 f3 f4 fs fk kv |-;have SF:=hide dk;clear dk;have ak:=((aG.new W 33 X).alloc (.cells (bO t' v') 23)).alloc (.cells bL 33);have aq:=(aG.new (W.alloc (.cells X 33)) 23 (bO t' v')).alloc (.cells bL 33);rw[iY] at aq;have ag:=aG.new ((W.alloc (.cells X 33)).alloc (.cells (bO t' v') 23)) 33 bL;simp only[iY] at ag;have EE:=hide (((aA W (.cells X 33)).trans (aA _ (.cells (bO t' v') 23))).trans (aA _ (.cells bL 33)));obtain⟨bG,bD⟩:=aM ((((W.alloc (.cells X 33)).alloc (.cells (bO t' v') 23)).alloc (.cells bL 33)));obtain⟨g0,af⟩:∃ g,W.heap.size=g:=⟨_,rfl⟩;rw[bD] at ak aq ag EE;rw[af] at ak aq ag;have lh:W.heap.size<=g0:=by omega
 have r9:W.heap.size<=g0+1:=by omega
 have lj:W.heap.size<=g0+1+1:=by omega
 have aB:=hide bD;have bW:=hide af;clear bD af;go_enter Tryz.func38,Tryz.ntmps38
 go_upto_region 1 with fail
 unfold bL at aB;rw[aB.out,bW.out];clear aB bW;refine eK ?_;repeat (first|go_big_quiet_step (first|with_reducible exact dK (kv.out _))|(refine iE (by kernel_rfl) rfl rfl (fun w hw=>by obtain⟨⟨d,os⟩,rfl⟩:=hw;exact dF ((ak).ext (aX bG d os)) jC rfl eW eX) ?_)|quiet_step (first|with_reducible exact dK (kv.out _)))
 refine B' ?_;intro _ bj;obtain⟨⟨aQ,osq⟩,cq⟩:=bj;subst cq;replace ak:=(ak).ext (aX bG aQ osq);replace aq:=(aq).ext (aX bG aQ osq);replace ag:=(ag).ext (aX bG aQ osq);replace EE:=hide (EE.out.trans (aX bG aQ osq));obtain⟨bp,eF⟩:∃ w,grow (aw5 bG aQ) osq=w:=⟨_,rfl⟩;rw[eF] at EE ak aq ag |-;clear eF;go_upto_region 3 with fail
 have qx:=fun d os=>(((ak).ext (aX bp d os)).cell 1).trans (f1)
 have RE:=fun d os=>(((aq).ext (aX bp d os)).cell 0).trans (show (bO t' v')[0]?=some (.int .i64 t') from rfl)
 have RR:=fun d os=>(((ak).ext (aX bp d os)).cell 4).trans (f4)
 refine eK ?_;repeat (first|go_big_quiet_step (fail)|quiet_step (fail))
 refine B' ?_;intro _ bj;obtain⟨⟨aQ,osq⟩,cq⟩:=bj;subst cq;replace ak:=(ak).ext (aX bp aQ osq);replace aq:=(aq).ext (aX bp aQ osq);replace ag:=(ag).ext (aX bp aQ osq);replace EE:=hide (EE.out.trans (aX bp aQ osq));obtain⟨bZ,mQ⟩:∃ w,grow (aw5 bp aQ) osq=w:=⟨_,rfl⟩;rw[mQ] at EE ak aq ag |-;clear mQ qx RE RR;go_upto_region 5 with fail
 have yO:=fun d os=>(((ak).ext (aX bZ d os)).cell 1).trans (f1)
 refine eK ?_;repeat (first|go_big_quiet_step (fail)|quiet_step (fail))
 refine B' ?_;intro _ bj;obtain⟨⟨aQ,osq⟩,cq⟩:=bj;subst cq;replace ak:=(ak).ext (aX bZ aQ osq);replace aq:=(aq).ext (aX bZ aQ osq);replace ag:=(ag).ext (aX bZ aQ osq);replace EE:=hide (EE.out.trans (aX bZ aQ osq));obtain⟨cg,sS⟩:∃ w,grow (aw5 bZ aQ) osq=w:=⟨_,rfl⟩;rw[sS] at EE ak aq ag |-;clear sS yO;go_upto_region 7 with fail
 have dk:=SF.out;clear SF;subst dk;replace ak:aG _ _ _ (aI e n t v l K):=ak;have gu:=ak.lt;have gM:=aq.lt;have cP:=ag.lt;refine eB [.q,.q,.al,.st 2] [0,0,0,0] (fun R=>[.agg (aI e n t v l K),.agg (cV (aI e n t v l K) (.slice none 0 0)),a,a]) (fun _=>(.cells z27 86 (0,0))) (fun R _=>(.cells (cV (aI e n t v l K) (.slice none 0 0)) 86 (0,0))) (fun _=>0) (dA W) (fun _=>False) (by kernel_rfl) (by kernel_rfl) (by kernel_rfl) rfl (fun _=>rfl) (fun _ h=>h.elim) (fun _ _ h=>h) (by simp) (by simp) (fun R b1=>⟨fun _=>rfl,fun _=>rfl,fun _=>rfl,fun _=>rfl,trivial⟩) (fun _ _ _ _=>rfl) dH EE.out ?NG ?J8;case NG =>
  refine⟨?_,?_,?_,?_,trivial⟩
  ·refine cj fun R s w' aw hs hw ha=>?_
   have L:=dF (ak.aY hw (fun h=>h) (by simp)) jC rfl eW (hR cS);generalize hA:bB _ _ _ _ _ _ _=c3;refine e7 rfl ?_ L;subst hA;kernel_rfl
  ·refine cj fun R s w' aw hs hw ha=>?_
   generalize hA:bB _ _ _ _ _ _ _=c3;refine pD (vs:=#[(0,.agg (aI e n t v l K))]) rfl ?_ (YE e n t v l cS);subst hA;kernel_rfl
  ·refine ia ?aom ?L3 ?MP ?KF ?_;case aom=>exact(.cells z27 86 (0,0))
   case L3=>exact rfl
   case MP=>exact rfl
   case KF=>exact cu rfl
   intro ρ w';go_simp;exact⟨rfl,rfl⟩
  ·refine ib (j:=2) (Ty:=?XM) (p:=?ajo) (x:=?anQ) ?Kh ?an9 ?wm ?po ?Nw ?sW ?MU ?o_ ?J1 ?_;case po=>exact rfl
   case Nw=>exact rfl
   case Kh=>exact(fun R=>(.cells (cV (aI e n t v l K) (.slice none 0 0)) 86 (0,0)))
   case an9=>exact(.cells z27 86 (0,0))
   case wm=>exact(fun R=>.agg (cV (aI e n t v l K) (.slice none 0 0)))
   case sW=>exact(fun R=>rfl)
   case MU=>exact rfl
   case o_=>exact cu rfl
   case J1 =>
    intro R;kernel_rfl
   intro R s ρ w g aw hs hp hx af hz;exact⟨hQ rfl hp hx hz afa ((qP cS)) ((akM eI rfl)),fun aT hF=>dM aw hF (Nat.le_trans EE.out.size af)⟩
 case J8 =>
  intro cY R G xT ae;have hS:=ae.same;have aZ:=ae.holds;have bf:=EE.out.size;replace ak:=ak.aY hS (fun h=>h) (by simp);replace aq:=aq.aY hS (fun h=>h) (by simp);replace ag:=ag.aY hS (fun h=>h) (by simp);have bl:aG xT (G 2) 86 (cV (aI e n t v l K) (.slice none 0 0)):=(ae.eV 3 (List.mem_range.2 (show 3<4 by decide)) 2 rfl).2.2;have xq:=(ae.made 2 (List.mem_range.2 (show 2<4 by decide)) rfl).1;have I6:W.heap.size<=G 2:=Nat.le_trans bf xq;have ag2:g0≠G 2:=by omega
  have Na:g0+1≠G 2:=by omega
  have aha:g0+1+1≠G 2:=by omega
  replace EE:=hide (show Ext _ _ from aZ);clear hS bf aZ ae gu gM cP;generalize hF:bB _ _ _ _ _ _ _=bH;have bI:bH={ tmps:=#[.agg (aI e n t v l K),.agg (bO t' v'),(yj g0 0:b),(yj (g0+1) 0:b),(yj (g0+1+1) 0:b),.slice none 0 0,.int .i64 0,(yj (G 2) 0:b),.bool false,.agg (aI e n t v l K),.bool true,.bool false,a,.bool false,(yj g0 1:b),.int .i64 n,.bool true,.bool true,(yj (g0+1) 0:b),.int .i64 t',(yj g0 4:b),.int .i64 l,.bool false,.bool false,a,.bool false,(yj g0 1:b),.int .i64 n,.bool false,a,.agg (aI e n t v l K),.agg (cV (aI e n t v l K) (.slice none 0 0)),a,a,a,a,a,a],defers:=[] }:=by subst hF;kernel_rfl
  clear hF;subst bI;generalize G 2=g7 at *;obtain⟨ay,y7⟩:∃ B,B=xT.heap.size:=⟨_,rfl⟩;have Bm:W.heap.size<=ay:=by rw[y7];exact EE.out.size
  have T8:=ak.lt;have QI:=aq.lt;have ajL:=ag.lt;have xE:=dF aq xQ rfl xB rfl;go_upto_region 9 with (first
   | (refine dp (by kernel_rfl) rfl rfl xE ?_)
   | (go_at_call 48;(with_reducible refine(hN.out _ _ ay bl (Nat.le_of_eq y7)).mono ?_);rintro oI cN ⟨rfl,cU,aC,az,hJ,eS,bJ,r7,xt,uA⟩;clear xE))
  have avP:(Value.slice none 0 0).ownBlock=none:=rfl;have aE:∀ k,k<xT.heap.size->k≠g7->cN.heap[k]?=xT.heap[k]?:=fun k h1 h2=>uA.2.2.2.2 k h1 (fun h=>h.elim h2 (fun h=>by cases h))
  have Q5:aG cN (g0) _ _:=(aE _ T8 (by omega)).trans ak;have Q7:aG cN (g0+1) _ _:=(aE _ QI (by omega)).trans aq;have Rj:aG cN (g0+1+1) _ _:=(aE _ ajL (by omega)).trans ag;have afz:Ext xT cN\/True:=Or.inr trivial;have Iv:Ext W cN:=⟨uA.1.trans EE.out.os,uA.2.1.trans EE.out.tape,uA.2.2.1.trans EE.out.output,Nat.le_trans EE.out.size uA.2.2.2.1,fun k Jm=>(aE k (Nat.lt_of_lt_of_le Jm EE.out.size) (by omega)).trans (EE.out.block k Jm)⟩;have WT:=hide Iv;clear ak aq ag bl afz Iv EE;have EE:Hid (b3 (g0+1+1) cN cN):=b3.refl _ _;have r7:=hide r7;have ak:=Q5;have aq:=Q7;have ag:=Rj;clear Q5 Q7 Rj;have gu:=ak.lt;have gM:=aq.lt;have cP:=ag.lt;have oB:=bJ.lt;refine kl [.q,.q,.q,.q,.so 0,.q,.q] [0,0,0,0,0,0,0] (fun R=>[yj g7 0,.agg (aI e2 aW t2 v2 aj eC),yj g7 26,.slice cU aC az,a,.slice cU aC az,.int .i64 0]) (fun _=>(.cells #[] 0 (0,0))) (fun R _=>(.cells (aI e2 aW t2 v2 aj eC) 33 (0,0))) (fun _=>g0+1+1) (uQ (g0+1+1) cN) (fun _=>False) (by kernel_rfl) (by kernel_rfl) (by kernel_rfl) (by kernel_rfl) rfl (fun _=>rfl) (fun _ h=>h.elim) (fun _ _ h=>h) (by intro c hc;simp at hc;(try subst hc);(try simp only);omega) (by intro c c' h1 h2 _;simp at h1 h2;omega) (fun R b1=>⟨fun _=>rfl,fun _=>rfl,fun _=>rfl,fun _=>rfl,fun _=>rfl,fun _=>rfl,fun _=>rfl,trivial⟩) (fun _ _ _ _=>rfl) z8 EE.out.drew ?akH ?aif;case akH =>
   refine⟨aH,?_,aH,?_,?_,aH,aH,trivial⟩
   ·refine cj fun R s w' aw hs hw ha=>?_
    have L:=pH (bJ.aY hw (fun h=>h) (by intro c hc;simp at hc;(try subst hc);(try simp only);omega)) _ _ jC rfl 0 26 eW (by rw[(qP Ot)];first|decide|omega) _ ((qe (q:=.slice cU aC az) Ot).2.2.2.2.2.2.1);generalize hA:bB _ _ _ _ _ _ _=c3;refine e7 rfl ?_ L;subst hA;kernel_rfl
   ·refine cj fun R s w' aw hs hw ha=>?_
    have cc:=((show aG w' g7 _ (cV (aI e2 aW t2 v2 aj eC) (.slice cU aC az)) from bJ.aY hw (fun h=>h) (by intro c hc;simp at hc;(try subst hc);(try simp only);omega)).cell 26).trans ((qe (q:=.slice cU aC az) Ot).2.2.2.2.2.1);go_simp
   ·refine il (c:=0) (Ty:=?Jg) (p:=?N5) (x:=?PT) (g0+1+1) ?yY ?z' ?tv ?ob ?zI ?sX ?zD ?n9 ?yS ?yU ?_;case ob=>exact rfl
    case zI=>exact rfl
    case yY=>exact(fun R=>(.cells (aI e2 aW t2 v2 aj eC) 33 (0,0)))
    case z'=>exact(fun R=>.pointer (some ⟨g0+1+1,0,none⟩))
    case tv=>exact(fun R=>.agg (aI e2 aW t2 v2 aj eC))
    case sX=>exact(fun R=>rfl)
    case zD=>exact rfl
    case n9=>exact cu rfl
    case yS =>
     intro R;kernel_rfl
    case yU =>
     intro R;kernel_rfl
    intro R s ρ w aw hs hp hx hz;refine⟨lI (g:=(g0+1+1)) rfl hp hx (hz.trans ag) eW (rfl) ((hR Ot)) ((jU UI)),fun aT hF=>vZ aw hF⟩
  case aif =>
   intro cY R G H3 ae;have hS:=ae.same;have aZ:=ae.holds;have bf:=EE.out.2.2.2.1;replace ak:=ak.aY hS (fun h=>h) (by intro c hc;simp at hc;(try subst hc);(try simp only);omega);replace aq:=aq.aY hS (fun h=>h) (by intro c hc;simp at hc;(try subst hc);(try simp only);omega);replace bJ:=bJ.aY hS (fun h=>h) (by intro c hc;simp at hc;(try subst hc);(try simp only);omega);replace ag:aG H3 (g0+1+1) 33 (aI e2 aW t2 v2 aj eC):=ae.ep 4 (List.mem_range.2 (show 4<7 by decide)) 0 rfl;replace EE:=hide (show b3 (g0+1+1) _ _ from aZ);clear hS bf aZ ae gu gM cP oB;generalize hF:bB _ _ _ _ _ _ _=bH;have bI:bH={ tmps:=#[.agg (aI e n t v l K),.agg (bO t' v'),(yj g0 0:b),(yj (g0+1) 0:b),(yj (g0+1+1) 0:b),.slice cU aC az,.int .i64 0,(yj g7 0:b),.bool false,.agg (aI e n t v l K),.bool true,.bool false,a,.bool false,(yj g0 1:b),.int .i64 n,.bool true,.bool true,(yj (g0+1) 0:b),.int .i64 t',(yj g0 4:b),.int .i64 l,.bool false,.bool false,a,.bool false,(yj g0 1:b),.int .i64 n,.bool false,a,.agg (aI e n t v l K),.agg (cV (aI e n t v l K) (.slice none 0 0)),.agg (bO t' v'),.tuple #[],(yj g7 0:b),.agg (aI e2 aW t2 v2 aj eC),(yj g7 26:b),.slice cU aC az],defers:=[] }:=by subst hF;kernel_rfl
   clear hF;subst bI;go_wp2_with fail
   exact B7 (BR (p:=4) (u:=5) (u2:=6) (ty:=33) rfl _ _ _ 33 ((aI e2 aW t2 v2 aj eC)) _ rfl ag jC rfl (by rw[eW,hR Ot])) rfl ⟨cU,aC,az,hJ,eS,by kernel_rfl,((Hs r7.out (xR EE.out) (fun j aN e=>by have:=(r7.out.1.lt j aN).1;omega)).less Bm),R5 WT.out EE.out (by omega)⟩
end
end Go.Proofs.YtojbopibfflnoaaGreat
