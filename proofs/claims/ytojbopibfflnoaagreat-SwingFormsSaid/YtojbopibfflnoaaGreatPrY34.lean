/- Facts. -/
import Derived.Test.YtojbopibfflnoaaGreatPrY25
import Derived.Test.YtojbopibfflnoaaGreatPrY27
import Derived.Test.YtojbopibfflnoaaGreatPrY28
import Derived.Test.YtojbopibfflnoaaGreatPrY33
import Derived.Shelf.Strconv.Itoa0
namespace Go.Proofs.YtojbopibfflnoaaGreat
open Go renaming undef → y, World → E, Value → C, Calls → F, bodyPost_ret → B7, wpQuiet_nil → B', redrawn → aw5, Addr → aw6
open _root_.Go.Proofs.Tryz renaming prog → D
set_option linter.unusedVariables false
set_option linter.unusedSimpArgs false
set_option maxHeartbeats 16000000
set_option maxRecDepth 100000
section
open Go Go.RowKit Go.Sort
attribute [local go_sem] mg A3 bB BX
theorem N0(e:Int)(W:E)(fl:Hid (∀ w,F D 34 #[.int .i64 e] w (aP (.bool true) w))):F D 10 #[.int .i64 e] W (aP (.tuple #[.agg (aI e 0 0 0 0 z21),.int .i64 0]) W):=by
 have ak:=aG.new W 33 bL;have EE:=hide (aA W (.cells bL 33));obtain⟨bG,bD⟩:=aM ((W.alloc (.cells bL 33)));obtain⟨g0,af⟩:∃ g,W.heap.size=g:=⟨_,rfl⟩;rw[bD] at ak EE;rw[af] at ak;have lh:W.heap.size<=g0:=by omega
 have aB:=hide bD;have bW:=hide af;clear bD af;go_enter Tryz.func10,Tryz.ntmps10
 go_upto_region 1 with fail
 unfold bL at aB;rw[aB.out,bW.out];clear aB bW;have gu:=ak.lt;refine eB [.q,.q,.q] [0,0,0] (fun R=>[.int .i64 e,.bool true,.bool false]) (fun _=>(.cells #[] 0 (0,0))) (fun R _=>(.cells #[] 0 (0,0))) (fun _=>0) (dA W) (fun _=>False) (by kernel_rfl) (by kernel_rfl) (by kernel_rfl) rfl (fun _=>rfl) (fun _ h=>h.elim) (fun _ _ h=>h) (by simp) (by simp) (fun R b1=>⟨fun _=>rfl,fun _=>rfl,fun _=>rfl,trivial⟩) (fun _ _ _ _=>rfl) dH EE.out ?zK ?yV;case zK =>
  refine⟨aH,d_ fl,aH,trivial⟩
 case yV =>
  intro cY R G bZ ae;have hS:=ae.same;have aZ:=ae.holds;have bf:=EE.out.size;replace ak:=ak.aY hS (fun h=>h) (by simp);replace EE:=hide (show Ext _ _ from aZ);clear hS bf aZ ae gu;generalize hF:bB _ _ _ _ _ _ _=bH;have bI:bH={ tmps:=#[.int .i64 e,y,(yj g0 0:C),.int .i64 0,.int .i64 e,.bool true,.bool false,y,y,y],defers:=[] }:=by subst hF;kernel_rfl
  clear hF;subst bI;go_upto_region 3 with fail
  have gu:=ak.lt;refine eB [.q,.q,.so 0,.q] [0,0,0,0] (fun R=>[.int .i64 e,.agg (aI e 0 0 0 0 z21),y,.int .i64 0]) (fun _=>(.cells #[] 0 (0,0))) (fun R _=>(.cells (aI e 0 0 0 0 z21) 33 (0,0))) (fun _=>g0) (dA W) (fun _=>False) (by kernel_rfl) (by kernel_rfl) (by kernel_rfl) rfl (fun _=>rfl) (fun _ h=>h.elim) (fun _ _ h=>h) (by intro c hc;simp at hc;(try subst hc);(try simp only);omega) (by intro c c' h1 h2 _;simp at h1 h2;omega) (fun R b1=>⟨fun _=>rfl,fun _=>rfl,fun _=>rfl,fun _=>rfl,trivial⟩) (fun _ _ _ _=>rfl) dH EE.out ?jA ?jm;case jA =>
   refine⟨aH,?_,?_,aH,trivial⟩
   ·refine cj fun R s w' aw hs hw ha=>?_
    generalize hA:bB _ _ _ _ _ _ _=c3;refine pD (vs:=#[(0,.int .i64 e)]) rfl ?_ (Jy e);subst hA;kernel_rfl
   ·refine il (c:=0) (Ty:=?tK) (p:=?ud) (x:=?ur) g0 ?lZ ?E9 ?jE ?gA ?me ?hO ?mb ?gx ?CX ?lX ?_;case gA=>exact rfl
    case me=>exact rfl
    case lZ=>exact(fun R=>(.cells (aI e 0 0 0 0 z21) 33 (0,0)))
    case E9=>exact(fun R=>.pointer (some ⟨g0,0,none⟩))
    case jE=>exact(fun R=>.agg (aI e 0 0 0 0 z21))
    case hO=>exact(fun R=>rfl)
    case mb=>exact rfl
    case gx=>exact cu rfl
    case CX =>
     intro R;kernel_rfl
    case lX =>
     intro R;kernel_rfl
    intro R s ρ w aw hs hp hx hz;refine⟨lI (g:=g0) rfl hp hx (hz.trans ak) eW (rfl) (hR rfl) (jU iV),fun aT hF=>dM aw hF lh⟩
  case jm =>
   intro cY R G cN ae;have hS:=ae.same;have aZ:=ae.holds;have bf:=EE.out.size;replace ak:aG cN g0 33 (aI e 0 0 0 0 z21):=ae.ep 2 (List.mem_range.2 (show 2<4 by decide)) 0 rfl;replace EE:=hide (show Ext _ _ from aZ);clear hS bf aZ ae gu;generalize hF:bB _ _ _ _ _ _ _=bH;have bI:bH={ tmps:=#[.int .i64 e,y,(yj g0 0:C),.int .i64 0,.int .i64 e,.bool true,.bool false,y,.int .i64 e,.agg (aI e 0 0 0 0 z21)],defers:=[] }:=by subst hF;kernel_rfl
   clear hF;subst bI;go_wp2_with fail
   exact B7 (kg (p:=2) (u:=3) (ty:=33) rfl _ _ _ 33 (aI e 0 0 0 0 z21) _ rfl ak jC rfl (by rw[eW];kernel_rfl)) rfl ⟨by kernel_rfl,EE.out⟩
theorem ai7(e:Int)(W:E)(fl:Hid (∀ w,F D 34 #[.int .i64 e] w (aP (.bool false) w))):F D 10 #[.int .i64 e] W (aP (.tuple #[.agg (bL),.int .i64 9]) W):=by
 have ak:=aG.new W 33 bL;have EE:=hide (aA W (.cells bL 33));obtain⟨bG,bD⟩:=aM ((W.alloc (.cells bL 33)));obtain⟨g0,af⟩:∃ g,W.heap.size=g:=⟨_,rfl⟩;rw[bD] at ak EE;rw[af] at ak;have lh:W.heap.size<=g0:=by omega
 have aB:=hide bD;have bW:=hide af;clear bD af;go_enter Tryz.func10,Tryz.ntmps10
 go_upto_region 1 with fail
 unfold bL at aB;rw[aB.out,bW.out];clear aB bW;have gu:=ak.lt;refine eB [.q,.q,.q] [0,0,0] (fun R=>[.int .i64 e,.bool false,.bool true]) (fun _=>(.cells #[] 0 (0,0))) (fun R _=>(.cells #[] 0 (0,0))) (fun _=>0) (dA W) (fun _=>False) (by kernel_rfl) (by kernel_rfl) (by kernel_rfl) rfl (fun _=>rfl) (fun _ h=>h.elim) (fun _ _ h=>h) (by simp) (by simp) (fun R b1=>⟨fun _=>rfl,fun _=>rfl,fun _=>rfl,trivial⟩) (fun _ _ _ _=>rfl) dH EE.out ?zK ?yV;case zK =>
  refine⟨aH,d_ fl,aH,trivial⟩
 case yV =>
  intro cY R G bZ ae;have hS:=ae.same;have aZ:=ae.holds;have bf:=EE.out.size;replace ak:=ak.aY hS (fun h=>h) (by simp);replace EE:=hide (show Ext _ _ from aZ);clear hS bf aZ ae gu;generalize hF:bB _ _ _ _ _ _ _=bH;have bI:bH={ tmps:=#[.int .i64 e,y,(yj g0 0:C),.int .i64 0,.int .i64 e,.bool false,.bool true,y,y,y],defers:=[] }:=by subst hF;kernel_rfl
  clear hF;subst bI;go_upto_region 2 with fail
  have gu:=ak.lt;refine eB [.q,.so 0,.q] [0,0,0] (fun R=>[.agg bL,y,.int .i64 9]) (fun _=>(.cells #[] 0 (0,0))) (fun R _=>(.cells bL 33 (0,0))) (fun _=>g0) (dA W) (fun _=>False) (by kernel_rfl) (by kernel_rfl) (by kernel_rfl) rfl (fun _=>rfl) (fun _ h=>h.elim) (fun _ _ h=>h) (by intro c hc;simp at hc;(try subst hc);(try simp only);omega) (by intro c c' h1 h2 _;simp at h1 h2;omega) (fun R b1=>⟨fun _=>rfl,fun _=>rfl,fun _=>rfl,trivial⟩) (fun _ _ _ _=>rfl) dH EE.out ?ER ?C5;case ER =>
   refine⟨?_,?_,aH,trivial⟩
   ·refine cj fun R s w' aw hs hw ha=>?_
    generalize hA:bB _ _ _ _ _ _ _=c3;refine pD (vs:=#[]) rfl ?_ (CF);subst hA;kernel_rfl
   ·refine il (c:=0) (Ty:=?XT) (p:=?aju) (x:=?anW) g0 ?Kn ?OZ ?wo ?iR ?NC ?j9 ?M0 ?jo ?JV ?J7 ?_;case iR=>exact rfl
    case NC=>exact rfl
    case Kn=>exact(fun R=>(.cells bL 33 (0,0)))
    case OZ=>exact(fun R=>.pointer (some ⟨g0,0,none⟩))
    case wo=>exact(fun R=>.agg bL)
    case j9=>exact(fun R=>rfl)
    case M0=>exact rfl
    case jo=>exact cu rfl
    case JV =>
     intro R;kernel_rfl
    case J7 =>
     intro R;kernel_rfl
    intro R s ρ w aw hs hp hx hz;refine⟨lI (g:=g0) rfl hp hx (hz.trans ak) eW (rfl) (rfl) (Al),fun aT hF=>dM aw hF lh⟩
  case C5 =>
   intro cY R G c8 ae;have hS:=ae.same;have aZ:=ae.holds;have bf:=EE.out.size;replace ak:aG c8 g0 33 bL:=ae.ep 1 (List.mem_range.2 (show 1<3 by decide)) 0 rfl;replace EE:=hide (show Ext _ _ from aZ);clear hS bf aZ ae gu;generalize hF:bB _ _ _ _ _ _ _=bH;have bI:bH={ tmps:=#[.int .i64 e,y,(yj g0 0:C),.int .i64 9,.int .i64 e,.bool false,.bool true,.agg bL,y,y],defers:=[] }:=by subst hF;kernel_rfl
   clear hF;subst bI;go_wp2_with fail
   exact B7 (kg (p:=2) (u:=3) (ty:=33) rfl _ _ _ 33 (bL) _ rfl ak jC rfl (by rw[eW];kernel_rfl)) rfl ⟨by kernel_rfl,EE.out⟩
theorem av3(e n t v l:Int)(K:Array C)(cS:K.size=21)(eI:K.all (·.oneCell')=true)(W:E)(w7 kM bA gd BK:Bool)(fl:Hid (∀ w,F D 34 #[.int .i64 e] w (aP (.bool w7) w)))(ks:Hid (∀ w,F D 75 #[] w (aP (.agg c9) w)))(kv:Hid (∀ w,F D 76 #[.agg K] w (aP (.bool gd) w)))
 (tW:Hid (n=0->∀ w,(binOp .eql 33 (.agg (aI e n t v l K)) (.agg (aI e 0 0 0 0 z21))).run D w=.ok (.bool kM) w)) (sY:Hid (∀ w,(binOp .eql 31 (.agg K) (.agg c9)).run D w=.ok (.bool bA) w)) (fo:K[0]?=some (.bool BK)) (r:Bool) (aD:(w7&&(if n=0 then kM else if n=1 then (decide (l=t)&&bA) else (decide (2<=n)&&(decide (n<=1073741824)&&(decide (t<l)&&(!BK&&gd))))))=r) :
 F D 41 #[.agg (aI e n t v l K)] W (aP (.bool r) W):=by
 have eX:=hR (e:=e) (n:=n) (t:=t) (v:=v) (l:=l) cS;have kf:=jU (e:=e) (n:=n) (t:=t) (v:=v) (l:=l) eI;obtain⟨f0,f1,f2,f3,f4,fs,fk⟩:=nX (e:=e) (n:=n) (t:=t) (v:=v) (l:=l) cS;have Ko:(aI e n t v l K)[5]?=some (.bool BK):=(akX cS).trans fo;clear fo;obtain⟨X,dk⟩:=aM (aI e n t v l K);rw[dk] at eX kf f0 f1 f2 f3 f4 fs fk Ko tW |-;clear dk;have aS:=aG.new W 33 X;have EE:=hide (aA W (.cells X 33));obtain⟨bG,bD⟩:=aM ((W.alloc (.cells X 33)));obtain⟨g0,af⟩:∃ g,W.heap.size=g:=⟨_,rfl⟩;rw[bD] at aS EE;rw[af] at aS;have wK:W.heap.size<=g0:=by omega
 have aB:=hide bD;have bW:=hide af;clear bD af;go_enter Tryz.func41,Tryz.ntmps41
 go_upto_region 1 with fail
 rw[aB.out,bW.out];clear aB bW;cases w7 with
 | false =>
  obtain rfl:false=r:=aD;clear ks kv tW sY;have yN:=fun d os=>(((aS).ext (aX bG d os)).cell 0).trans (f0)
  refine eK ?_;repeat (first|go_big_quiet_step (first|with_reducible exact dK (fl.out _))|quiet_step (first|with_reducible exact dK (fl.out _)))
  refine B' ?_;intro _ bj;obtain⟨⟨aQ,osq⟩,cq⟩:=bj;subst cq;replace aS:=(aS).ext (aX bG aQ osq);replace EE:=hide (EE.out.trans (aX bG aQ osq));obtain⟨bp,eF⟩:∃ w,grow (aw5 bG aQ) osq=w:=⟨_,rfl⟩;rw[eF] at EE aS |-;clear eF yN;go_wp2_with fail
  go_ret;exact⟨rfl,EE.out⟩
 | true =>
  rw[Bool.true_and] at aD;have ZI:=fun d os=>(((aS).ext (aX bG d os)).cell 0).trans (f0)
  refine eK ?_;repeat (first|go_big_quiet_step (first|with_reducible exact dK (fl.out _))|quiet_step (first|with_reducible exact dK (fl.out _)))
  refine B' ?_;intro _ bj;obtain⟨⟨aQ,osq⟩,cq⟩:=bj;subst cq;replace aS:=(aS).ext (aX bG aQ osq);replace EE:=hide (EE.out.trans (aX bG aQ osq));obtain⟨xV,Tw⟩:∃ w,grow (aw5 bG aQ) osq=w:=⟨_,rfl⟩;rw[Tw] at EE aS |-;clear Tw ZI;go_upto_region 3 with fail
  by_cases h0:n=0
  ·have d0:(n==0)=true:=by rw[beq_iff_eq];exact h0
   obtain rfl:kM=r:=by rw[if_pos h0] at aD;exact aD
   replace tW:=hide (tW.out h0);clear aD h0 kv sY ks;have ZJ:=fun d os=>(((aS).ext (aX xV d os)).cell 1).trans (f1)
   refine eK ?_;repeat (first|go_big_quiet_step (fail)|quiet_step (fail))
   refine B' ?_;intro _ bj;obtain⟨⟨aQ,osq⟩,cq⟩:=bj;subst cq;replace aS:=(aS).ext (aX xV aQ osq);replace EE:=hide (EE.out.trans (aX xV aQ osq));obtain⟨atc,Tx⟩:∃ w,grow (aw5 xV aQ) osq=w:=⟨_,rfl⟩;rw[Tx] at EE aS |-;clear Tx ZJ;go_upto_region 4 with fail
   have uG:=aS.lt;refine eB [.q,.q,.q,.q,.q,.q] [0,0,0,0,0,0] (fun R=>[.agg X,yj g0 0,.int .i64 e,.agg (aI e 0 0 0 0 z21),.bool kM,.bool kM]) (fun _=>(.cells #[] 0 (0,0))) (fun R _=>(.cells #[] 0 (0,0))) (fun _=>0) (dA W) (fun _=>False) (by kernel_rfl) (by kernel_rfl) (by kernel_rfl) rfl (fun _=>rfl) (fun _ h=>h.elim) (fun _ _ h=>h) (by simp) (by simp) (fun R b1=>⟨fun _=>rfl,fun _=>rfl,fun _=>rfl,fun _=>rfl,fun _=>rfl,fun _=>rfl,trivial⟩) (fun _ _ _ _=>rfl) dH EE.out ?ahY ?aaL;case ahY =>
    refine⟨?_,aH,?_,?_,?_,aH,trivial⟩
    ·refine cj fun R s w' aw hs hw ha=>?_
     have L:=dF (aS.aY hw (fun h=>h) (by simp)) jC rfl eW eX;generalize hA:bB _ _ _ _ _ _ _=c3;refine e7 rfl ?_ L;subst hA;kernel_rfl
    ·refine cj fun R s w' aw hs hw ha=>?_
     have cc:=((show aG w' g0 _ X from aS.aY hw (fun h=>h) (by simp)).cell 0).trans (f0);go_simp
    ·refine cj fun R s w' aw hs hw ha=>?_
     generalize hA:bB _ _ _ _ _ _ _=c3;refine pD (vs:=#[(0,.int .i64 e)]) rfl ?_ (Jy e);subst hA;kernel_rfl
    ·refine cj fun R s w' aw hs hw ha=>?_
     have L:=tW.out w';generalize hA:bB _ _ _ _ _ _ _=c3;refine N7 rfl ?_ ?_ (Kf _ _ (by kernel_rfl) _ _ _ _ w') L
     ·subst hA;kernel_rfl
     ·subst hA;kernel_rfl
   case aaL =>
    intro cY R G atd ae;have hS:=ae.same;have aZ:=ae.holds;have bf:=EE.out.size;replace aS:=aS.aY hS (fun h=>h) (by simp);replace EE:=hide (show Ext _ _ from aZ);clear hS bf aZ ae uG;generalize hF:bB _ _ _ _ _ _ _=bH;have bI:bH={ tmps:=#[.agg X,(yj g0 0:C),.bool kM,.bool false,(yj g0 0:C),.int .i64 e,.bool true,.bool false,.bool true,(yj g0 1:C),.int .i64 n,.bool true,.agg X,(yj g0 0:C),.int .i64 e,.agg (aI e 0 0 0 0 z21),.bool kM,y,y,y,y,y,y,y,y,y,y,y,y,y,y,y,y,y,y,y,y,y,y,y,y,y,y,y,y,y,y,y,y,y,y,y,y,y,y,y,y,y,y,y],defers:=[] }:=by subst hF;kernel_rfl
    clear hF;subst bI;go_wp2_with fail
    go_ret;exact⟨rfl,EE.out⟩
  have d0:(n==0)=false:=by rw[beq_eq_false_iff_ne];exact h0
  rw[if_neg h0] at aD;clear tW;have ZK:=fun d os=>(((aS).ext (aX xV d os)).cell 1).trans (f1)
  refine eK ?_;repeat (first|go_big_quiet_step (fail)|quiet_step (fail))
  refine B' ?_;intro _ bj;obtain⟨⟨aQ,osq⟩,cq⟩:=bj;subst cq;replace aS:=(aS).ext (aX xV aQ osq);replace EE:=hide (EE.out.trans (aX xV aQ osq));obtain⟨rU,Tz⟩:∃ w,grow (aw5 xV aQ) osq=w:=⟨_,rfl⟩;rw[Tz] at EE aS |-;clear Tz ZK;go_upto_region 5 with fail
  by_cases h1:n=1
  ·have d1:(n==1)=true:=by rw[beq_iff_eq];exact h1
   rw[if_pos h1] at aD;clear h0 h1 kv;by_cases h2:l=t
   ·have d2:(l==t)=true:=by rw[beq_iff_eq];exact h2
    obtain rfl:bA=r:=by rw[decide_eq_true h2] at aD;exact aD
    clear aD h2;have ZL:=fun d os=>(((aS).ext (aX rU d os)).cell 1).trans (f1)
    refine eK ?_;repeat (first|go_big_quiet_step (fail)|quiet_step (fail))
    refine B' ?_;intro _ bj;obtain⟨⟨aQ,osq⟩,cq⟩:=bj;subst cq;replace aS:=(aS).ext (aX rU aQ osq);replace EE:=hide (EE.out.trans (aX rU aQ osq));obtain⟨B6,TA⟩:∃ w,grow (aw5 rU aQ) osq=w:=⟨_,rfl⟩;rw[TA] at EE aS |-;clear TA ZL;go_upto_region 6 with fail
    have ZM:=fun d os=>(((aS).ext (aX B6 d os)).cell 4).trans (f4)
    have ZN:=fun d os=>(((aS).ext (aX B6 d os)).cell 2).trans (f2)
    have ZO:=sY.out;refine wp_region_quiet_below (by kernel_rfl) (by kernel_rfl) ?_;repeat (first|go_big_quiet_step (first|with_reducible exact dK (ks.out _))|(refine iE (by kernel_rfl) rfl rfl (fun w hw=>by obtain⟨⟨d,os⟩,rfl⟩:=hw;exact pH ((aS).ext (aX B6 d os)) _ _ fV rfl 5 21 ei (by rw[eX];first|decide|omega) _ (fk)) ?_)|quiet_step (first|with_reducible exact dK (ks.out _)))
    refine B' ?_;intro _ bj;obtain⟨⟨aQ,osq⟩,cq⟩:=bj;subst cq;replace aS:=(aS).ext (aX B6 aQ osq);replace EE:=hide (EE.out.trans (aX B6 aQ osq));obtain⟨atg,TB⟩:∃ w,grow (aw5 B6 aQ) osq=w:=⟨_,rfl⟩;rw[TB] at EE aS |-;clear TB ZM ZN ZO;go_wp2_with fail
    go_ret;exact⟨rfl,EE.out⟩
   ·have d2:(l==t)=false:=by rw[beq_eq_false_iff_ne];exact h2
    obtain rfl:false=r:=by rw[decide_eq_false h2] at aD;exact aD
    clear aD h2 sY ks;have ZP:=fun d os=>(((aS).ext (aX rU d os)).cell 1).trans (f1)
    refine eK ?_;repeat (first|go_big_quiet_step (fail)|quiet_step (fail))
    refine B' ?_;intro _ bj;obtain⟨⟨aQ,osq⟩,cq⟩:=bj;subst cq;replace aS:=(aS).ext (aX rU aQ osq);replace EE:=hide (EE.out.trans (aX rU aQ osq));obtain⟨Fl,TC⟩:∃ w,grow (aw5 rU aQ) osq=w:=⟨_,rfl⟩;rw[TC] at EE aS |-;clear TC ZP;go_upto_region 6 with fail
    have ZQ:=fun d os=>(((aS).ext (aX Fl d os)).cell 4).trans (f4)
    have ZR:=fun d os=>(((aS).ext (aX Fl d os)).cell 2).trans (f2)
    refine wp_region_quiet_below (by kernel_rfl) (by kernel_rfl) ?_;repeat (first|go_big_quiet_step (fail)|quiet_step (fail))
    refine B' ?_;intro _ bj;obtain⟨⟨aQ,osq⟩,cq⟩:=bj;subst cq;replace aS:=(aS).ext (aX Fl aQ osq);replace EE:=hide (EE.out.trans (aX Fl aQ osq));obtain⟨ath,TD⟩:∃ w,grow (aw5 Fl aQ) osq=w:=⟨_,rfl⟩;rw[TD] at EE aS |-;clear TD ZQ ZR;go_wp2_with fail
    go_ret;exact⟨rfl,EE.out⟩
  have d1:(n==1)=false:=by rw[beq_eq_false_iff_ne];exact h1
  rw[if_neg h1] at aD;clear sY ks h0 h1;have Zr:=fun d os=>(((aS).ext (aX rU d os)).cell 1).trans (f1)
  refine eK ?_;repeat (first|go_big_quiet_step (fail)|quiet_step (fail))
  refine B' ?_;intro _ bj;obtain⟨⟨aQ,osq⟩,cq⟩:=bj;subst cq;replace aS:=(aS).ext (aX rU aQ osq);replace EE:=hide (EE.out.trans (aX rU aQ osq));obtain⟨gT,Tn⟩:∃ w,grow (aw5 rU aQ) osq=w:=⟨_,rfl⟩;rw[Tn] at EE aS |-;clear Tn Zr;go_upto_region 7 with fail
  by_cases p0:2<=n
  rotate_left
  ·have k7:decide (2<=n)=false:=decide_eq_false p0;obtain rfl:false=r:=by rw[k7] at aD;exact aD
   clear aD p0 kv;have Zs:=fun d os=>(((aS).ext (aX gT d os)).cell 1).trans (f1)
   refine eK ?_;repeat (first|go_big_quiet_step (fail)|quiet_step (fail))
   refine B' ?_;intro _ bj;obtain⟨⟨aQ,osq⟩,cq⟩:=bj;subst cq;replace aS:=(aS).ext (aX gT aQ osq);replace EE:=hide (EE.out.trans (aX gT aQ osq));obtain⟨as7,Tp⟩:∃ w,grow (aw5 gT aQ) osq=w:=⟨_,rfl⟩;rw[Tp] at EE aS |-;clear Tp Zs;go_wp2_with fail
   go_ret;exact⟨rfl,EE.out⟩
  have k7:decide (2<=n)=true:=decide_eq_true p0;rw[k7,Bool.true_and] at aD;clear p0;by_cases p1:n<=1073741824
  rotate_left
  ·have q1:decide (n<=1073741824)=false:=decide_eq_false p1;obtain rfl:false=r:=by rw[q1] at aD;exact aD
   clear aD p1 kv;have Zt:=fun d os=>(((aS).ext (aX gT d os)).cell 1).trans (f1)
   refine eK ?_;repeat (first|go_big_quiet_step (fail)|quiet_step (fail))
   refine B' ?_;intro _ bj;obtain⟨⟨aQ,osq⟩,cq⟩:=bj;subst cq;replace aS:=(aS).ext (aX gT aQ osq);replace EE:=hide (EE.out.trans (aX gT aQ osq));obtain⟨as8,Tq⟩:∃ w,grow (aw5 gT aQ) osq=w:=⟨_,rfl⟩;rw[Tq] at EE aS |-;clear Tq Zt;go_wp2_with fail
   go_ret;exact⟨rfl,EE.out⟩
  have q1:decide (n<=1073741824)=true:=decide_eq_true p1;rw[q1,Bool.true_and] at aD;clear p1;by_cases p2:t<l
  rotate_left
  ·have k8:decide (t<l)=false:=decide_eq_false p2;obtain rfl:false=r:=by rw[k8] at aD;exact aD
   clear aD p2 kv;have Zu:=fun d os=>(((aS).ext (aX gT d os)).cell 1).trans (f1)
   have Zv:=fun d os=>(((aS).ext (aX gT d os)).cell 4).trans (f4)
   have Zw:=fun d os=>(((aS).ext (aX gT d os)).cell 2).trans (f2)
   refine eK ?_;repeat (first|go_big_quiet_step (fail)|quiet_step (fail))
   refine B' ?_;intro _ bj;obtain⟨⟨aQ,osq⟩,cq⟩:=bj;subst cq;replace aS:=(aS).ext (aX gT aQ osq);replace EE:=hide (EE.out.trans (aX gT aQ osq));obtain⟨as9,Tr⟩:∃ w,grow (aw5 gT aQ) osq=w:=⟨_,rfl⟩;rw[Tr] at EE aS |-;clear Tr Zu Zv Zw;go_wp2_with fail
   go_ret;exact⟨rfl,EE.out⟩
  have k8:decide (t<l)=true:=decide_eq_true p2;rw[k8,Bool.true_and] at aD;clear p2;cases BK with
  | true =>
   obtain rfl:false=r:=aD;clear kv;have Zx:=fun d os=>(((aS).ext (aX gT d os)).cell 1).trans (f1)
   have Zy:=fun d os=>(((aS).ext (aX gT d os)).cell 4).trans (f4)
   have Zz:=fun d os=>(((aS).ext (aX gT d os)).cell 2).trans (f2)
   have auQ:=fun d os=>(((aS).ext (aX gT d os)).cell 5).trans (Ko)
   refine eK ?_;repeat (first|go_big_quiet_step (fail)|quiet_step (fail))
   refine B' ?_;intro _ bj;obtain⟨⟨aQ,osq⟩,cq⟩:=bj;subst cq;replace aS:=(aS).ext (aX gT aQ osq);replace EE:=hide (EE.out.trans (aX gT aQ osq));obtain⟨as_,Ts⟩:∃ w,grow (aw5 gT aQ) osq=w:=⟨_,rfl⟩;rw[Ts] at EE aS |-;clear Ts Zx Zy Zz auQ;go_wp2_with fail
   go_ret;exact⟨rfl,EE.out⟩
  | false =>
   obtain rfl:gd=r:=aD;have ZA:=fun d os=>(((aS).ext (aX gT d os)).cell 1).trans (f1)
   have ZB:=fun d os=>(((aS).ext (aX gT d os)).cell 4).trans (f4)
   have ZC:=fun d os=>(((aS).ext (aX gT d os)).cell 2).trans (f2)
   have ZD:=fun d os=>(((aS).ext (aX gT d os)).cell 5).trans (Ko)
   refine eK ?_;repeat (first|go_big_quiet_step (first|with_reducible exact dK (kv.out _))|(refine iE (by kernel_rfl) rfl rfl (fun w hw=>by obtain⟨⟨d,os⟩,rfl⟩:=hw;exact pH ((aS).ext (aX gT d os)) _ _ fV rfl 5 21 ei (by rw[eX];first|decide|omega) _ (fk)) ?_)|quiet_step (first|with_reducible exact dK (kv.out _)))
   refine B' ?_;intro _ bj;obtain⟨⟨aQ,osq⟩,cq⟩:=bj;subst cq;replace aS:=(aS).ext (aX gT aQ osq);replace EE:=hide (EE.out.trans (aX gT aQ osq));obtain⟨ata,Tt⟩:∃ w,grow (aw5 gT aQ) osq=w:=⟨_,rfl⟩;rw[Tt] at EE aS |-;clear Tt ZA ZB ZC ZD;go_wp2_with fail
   go_ret;exact⟨rfl,EE.out⟩
theorem ajf(X:Array C)(b c d:Nat)(W:E)(eX:X.size=5)(kf:X.all (·.oneCell')=true)(f2:X[2]?=some (.int .u64 (b:Int)))(f3:X[3]?=some (.int .u64 (c:Int)))(f4:X[4]?=some (.int .u64 (d:Int)))(kv:Hid (∀ w,F D 120 #[.agg X] w (aP (.bool false) w))) :
 F D 109 #[.agg X] W (aP (.bool false) W):=by
 have aS:=aG.new W 27 X;have EE:=hide (aA W (.cells X 27));obtain⟨bG,bD⟩:=aM ((W.alloc (.cells X 27)));obtain⟨g0,af⟩:∃ g,W.heap.size=g:=⟨_,rfl⟩;rw[bD] at aS EE;rw[af] at aS;have wK:W.heap.size<=g0:=by omega
 have aB:=hide bD;have bW:=hide af;clear bD af;go_enter Tryz.func109,Tryz.ntmps109
 go_upto_region 1 with fail
 rw[aB.out,bW.out];clear aB bW;have uG:=aS.lt;refine eB [.q,.q,.q,.hP,.hP,.hP,.hP,.q,.q,.hP,.hP,.hP,.hP,.q,.q,.hP,.hP,.hP,.hP,.q,.q] [0,0,0,0,0,0,0,0,0,0,0,0,0,0,0,0,0,0,0,0,0] (fun R=>[.agg X,.bool false,.bool false,y,y,y,y,.bool false,.bool false,y,y,y,y,.bool false,.bool false,y,y,y,y,.bool false,.bool false]) (fun _=>(.cells #[] 0 (0,0))) (fun R _=>(.cells #[] 0 (0,0))) (fun _=>0) (dA W) (fun _=>False) (by kernel_rfl) (by kernel_rfl) (by kernel_rfl) rfl (fun _=>rfl) (fun _ h=>h.elim) (fun _ _ h=>h) (by simp) (by simp) (fun R b1=>⟨fun _=>rfl,fun _=>rfl,fun _=>rfl,fun _=>rfl,fun _=>rfl,fun _=>rfl,fun _=>rfl,fun _=>rfl,fun _=>rfl,fun _=>rfl,fun _=>rfl,fun _=>rfl,fun _=>rfl,fun _=>rfl,fun _=>rfl,fun _=>rfl,fun _=>rfl,fun _=>rfl,fun _=>rfl,fun _=>rfl,fun _=>rfl,trivial⟩) (fun _ _ _ _=>rfl) dH EE.out ?vU ?va;case vU =>
  refine⟨?_,d_ kv,aH,?_,?_,?_,?_,aH,aH,?_,?_,?_,?_,aH,aH,?_,?_,?_,?_,aH,aH,trivial⟩
  ·refine cj fun R s w' aw hs hw ha=>?_
   have L:=dF (aS.aY hw (fun h=>h) (by simp)) hU rfl eT eX;generalize hA:bB _ _ _ _ _ _ _=c3;refine e7 rfl ?_ L;subst hA;kernel_rfl
  ·refine kt ?iQ ?jn;case iQ=>exact rfl
   case jn=>(refine du rfl ?_;intro R;kernel_rfl)
  ·refine kt ?rE ?vj;case rE=>exact rfl
   case vj=>(refine du rfl ?_;intro R;kernel_rfl)
  ·refine kt ?iR ?jo;case iR=>exact rfl
   case jo=>(refine du rfl ?_;intro R;kernel_rfl)
  ·refine kt ?gA ?gx;case gA=>exact rfl
   case gx=>(refine du rfl ?_;intro R;kernel_rfl)
  ·refine kt ?po ?o_;case po=>exact rfl
   case o_=>(refine du rfl ?_;intro R;kernel_rfl)
  ·refine kt ?oa ?n8;case oa=>exact rfl
   case n8=>(refine du rfl ?_;intro R;kernel_rfl)
  ·refine kt ?vE ?vf;case vE=>exact rfl
   case vf=>(refine du rfl ?_;intro R;kernel_rfl)
  ·refine kt ?sN ?sB;case sN=>exact rfl
   case sB=>(refine du rfl ?_;intro R;kernel_rfl)
  ·refine kt ?ob ?n9;case ob=>exact rfl
   case n9=>(refine du rfl ?_;intro R;kernel_rfl)
  ·refine kt ?vF ?vg;case vF=>exact rfl
   case vg=>(refine du rfl ?_;intro R;kernel_rfl)
  ·refine kt ?vG ?vh;case vG=>exact rfl
   case vh=>(refine du rfl ?_;intro R;kernel_rfl)
  ·refine kt ?zj ?yZ;case zj=>exact rfl
   case yZ=>(refine du rfl ?_;intro R;kernel_rfl)
 case va =>
  intro cY R G tA ae;have hS:=ae.same;have aZ:=ae.holds;have bf:=EE.out.size;have aS:=aS.aY hS (fun h=>h) (by simp);have EE:=hide (show Ext _ _ from aZ);clear hS bf aZ ae;generalize hF:bB _ _ _ _ _ _ _=bH;have bI:bH={ tmps:=#[.agg X,(yj g0 0:C),.bool false,.agg X,.bool false,.bool false,y,y,y,y,.bool false,.bool false,y,y,y,y,.bool false,.bool false,y,y,y,y,.bool false],defers:=[] }:=by subst hF;kernel_rfl
  clear hF;subst bI;go_wp2_with fail
  go_ret;exact⟨rfl,EE.out⟩
theorem ajg(X:Array C)(b c d:Nat)(W:E)(eX:X.size=5)(kf:X.all (·.oneCell')=true)(f2:X[2]?=some (.int .u64 (b:Int)))(f3:X[3]?=some (.int .u64 (c:Int)))(f4:X[4]?=some (.int .u64 (d:Int)))(kv:Hid (∀ w,F D 120 #[.agg X] w (aP (.bool true) w)))(hd:d≠0) :
 F D 109 #[.agg X] W (aP (.bool false) W):=by
 have ed:(((d:Nat):Int)==0)=false:=by rw[beq_eq_false_iff_ne];omega
 have RQ:decide (d=0)=false:=decide_eq_false hd;clear hd;have aS:=aG.new W 27 X;have EE:=hide (aA W (.cells X 27));obtain⟨bG,bD⟩:=aM ((W.alloc (.cells X 27)));obtain⟨g0,af⟩:∃ g,W.heap.size=g:=⟨_,rfl⟩;rw[bD] at aS EE;rw[af] at aS;have wK:W.heap.size<=g0:=by omega
 have aB:=hide bD;have bW:=hide af;clear bD af;go_enter Tryz.func109,Tryz.ntmps109
 go_upto_region 1 with fail
 rw[aB.out,bW.out];clear aB bW;have uG:=aS.lt;refine eB [.q,.q,.q,.q,.q,.q,.q,.q,.q,.hP,.hP,.hP,.hP,.q,.q,.hP,.hP,.hP,.hP,.q,.q] [0,0,0,0,0,0,0,0,0,0,0,0,0,0,0,0,0,0,0,0,0] (fun R=>[.agg X,.bool true,.bool true,yj g0 1,yj g0 4,.int .u64 (d:Int),.bool false,.bool false,.bool false,y,y,y,y,.bool false,.bool false,y,y,y,y,.bool false,.bool false]) (fun _=>(.cells #[] 0 (0,0))) (fun R _=>(.cells #[] 0 (0,0))) (fun _=>0) (dA W) (fun _=>False) (by kernel_rfl) (by kernel_rfl) (by kernel_rfl) rfl (fun _=>rfl) (fun _ h=>h.elim) (fun _ _ h=>h) (by simp) (by simp) (fun R b1=>⟨fun _=>rfl,fun _=>rfl,fun _=>rfl,fun _=>rfl,fun _=>rfl,fun _=>rfl,fun _=>rfl,fun _=>rfl,fun _=>rfl,fun _=>rfl,fun _=>rfl,fun _=>rfl,fun _=>rfl,fun _=>rfl,fun _=>rfl,fun _=>rfl,fun _=>rfl,fun _=>rfl,fun _=>rfl,fun _=>rfl,fun _=>rfl,trivial⟩) (fun _ _ _ _=>rfl) dH EE.out ?vU ?va;case vU =>
  refine⟨?_,d_ kv,aH,?_,?_,?_,?_,aH,aH,?_,?_,?_,?_,aH,aH,?_,?_,?_,?_,aH,aH,trivial⟩
  ·refine cj fun R s w' aw hs hw ha=>?_
   have L:=dF (aS.aY hw (fun h=>h) (by simp)) hU rfl eT eX;generalize hA:bB _ _ _ _ _ _ _=c3;refine e7 rfl ?_ L;subst hA;kernel_rfl
  ·refine eL ?kj ?iQ ?j8 ?jn ?_;case iQ=>exact rfl
   case kj=>exact(fun R=>.pointer (some ⟨g0,1,none⟩))
   case j8=>exact(fun R=>rfl)
   case jn=>(refine du rfl ?_;intro R;kernel_rfl)
   intro R s w' aw hs hw ha;go_simp
  ·refine eL ?Af ?rE ?zy ?vj ?_;case rE=>exact rfl
   case Af=>exact(fun R=>.pointer (some ⟨g0,4,none⟩))
   case zy=>exact(fun R=>rfl)
   case vj=>(refine du rfl ?_;intro R;kernel_rfl)
   intro R s w' aw hs hw ha;go_simp
  ·refine eL ?wo ?iR ?j9 ?jo ?_;case iR=>exact rfl
   case wo=>exact(fun R=>.int .u64 (d:Int))
   case j9=>exact(fun R=>rfl)
   case jo=>(refine du rfl ?_;intro R;kernel_rfl)
   intro R s w' aw hs hw ha;have cc:=((aS.aY hw (fun h=>h) (by simp):aG w' g0 _ X).cell 4).trans (f4);go_simp
  ·refine eL ?jE ?gA ?hO ?gx ?_;case gA=>exact rfl
   case jE=>exact(fun R=>.bool false)
   case hO=>exact(fun R=>rfl)
   case gx=>(refine du rfl ?_;intro R;kernel_rfl)
   intro R s w' aw hs hw ha;go_simp
  ·refine kt ?po ?o_;case po=>exact rfl
   case o_=>(refine du rfl ?_;intro R;kernel_rfl)
  ·refine kt ?oa ?n8;case oa=>exact rfl
   case n8=>(refine du rfl ?_;intro R;kernel_rfl)
  ·refine kt ?vE ?vf;case vE=>exact rfl
   case vf=>(refine du rfl ?_;intro R;kernel_rfl)
  ·refine kt ?sN ?sB;case sN=>exact rfl
   case sB=>(refine du rfl ?_;intro R;kernel_rfl)
  ·refine kt ?ob ?n9;case ob=>exact rfl
   case n9=>(refine du rfl ?_;intro R;kernel_rfl)
  ·refine kt ?vF ?vg;case vF=>exact rfl
   case vg=>(refine du rfl ?_;intro R;kernel_rfl)
  ·refine kt ?vG ?vh;case vG=>exact rfl
   case vh=>(refine du rfl ?_;intro R;kernel_rfl)
  ·refine kt ?zj ?yZ;case zj=>exact rfl
   case yZ=>(refine du rfl ?_;intro R;kernel_rfl)
 case va =>
  intro cY R G tA ae;have hS:=ae.same;have aZ:=ae.holds;have bf:=EE.out.size;have aS:=aS.aY hS (fun h=>h) (by simp);have EE:=hide (show Ext _ _ from aZ);clear hS bf aZ ae;generalize hF:bB _ _ _ _ _ _ _=bH;have bI:bH={ tmps:=#[.agg X,(yj g0 0:C),.bool false,.agg X,.bool true,.bool true,(yj g0 1:C),(yj g0 4:C),.int .u64 (d:Int),.bool false,.bool false,.bool false,y,y,y,y,.bool false,.bool false,y,y,y,y,.bool false],defers:=[] }:=by subst hF;kernel_rfl
  clear hF;subst bI;go_wp2_with fail
  go_ret;exact⟨rfl,EE.out⟩
theorem ajh(X:Array C)(b c d:Nat)(W:E)(eX:X.size=5)(kf:X.all (·.oneCell')=true)(f2:X[2]?=some (.int .u64 (b:Int)))(f3:X[3]?=some (.int .u64 (c:Int)))(f4:X[4]?=some (.int .u64 (d:Int)))(kv:Hid (∀ w,F D 120 #[.agg X] w (aP (.bool true) w)))(hd:d=0)(hc:c≠0) :
 F D 109 #[.agg X] W (aP (.bool false) W):=by
 have ed:(((d:Nat):Int)==0)=true:=by rw[beq_iff_eq];omega
 have RQ:decide (d=0)=true:=decide_eq_true hd;clear hd;have Gs:(((c:Nat):Int)==0)=false:=by rw[beq_eq_false_iff_ne];omega
 have aak:decide (c=0)=false:=decide_eq_false hc;clear hc;have aS:=aG.new W 27 X;have EE:=hide (aA W (.cells X 27));obtain⟨bG,bD⟩:=aM ((W.alloc (.cells X 27)));obtain⟨g0,af⟩:∃ g,W.heap.size=g:=⟨_,rfl⟩;rw[bD] at aS EE;rw[af] at aS;have wK:W.heap.size<=g0:=by omega
 have aB:=hide bD;have bW:=hide af;clear bD af;go_enter Tryz.func109,Tryz.ntmps109
 go_upto_region 1 with fail
 rw[aB.out,bW.out];clear aB bW;have uG:=aS.lt;refine eB [.q,.q,.q,.q,.q,.q,.q,.q,.q,.q,.q,.q,.q,.q,.q,.hP,.hP,.hP,.hP,.q,.q] [0,0,0,0,0,0,0,0,0,0,0,0,0,0,0,0,0,0,0,0,0] (fun R=>[.agg X,.bool true,.bool true,yj g0 1,yj g0 4,.int .u64 (d:Int),.bool true,.bool true,.bool true,yj g0 1,yj g0 3,.int .u64 (c:Int),.bool false,.bool false,.bool false,y,y,y,y,.bool false,.bool false]) (fun _=>(.cells #[] 0 (0,0))) (fun R _=>(.cells #[] 0 (0,0))) (fun _=>0) (dA W) (fun _=>False) (by kernel_rfl) (by kernel_rfl) (by kernel_rfl) rfl (fun _=>rfl) (fun _ h=>h.elim) (fun _ _ h=>h) (by simp) (by simp) (fun R b1=>⟨fun _=>rfl,fun _=>rfl,fun _=>rfl,fun _=>rfl,fun _=>rfl,fun _=>rfl,fun _=>rfl,fun _=>rfl,fun _=>rfl,fun _=>rfl,fun _=>rfl,fun _=>rfl,fun _=>rfl,fun _=>rfl,fun _=>rfl,fun _=>rfl,fun _=>rfl,fun _=>rfl,fun _=>rfl,fun _=>rfl,fun _=>rfl,trivial⟩) (fun _ _ _ _=>rfl) dH EE.out ?vU ?va;case vU =>
  refine⟨?_,d_ kv,aH,?_,?_,?_,?_,aH,aH,?_,?_,?_,?_,aH,aH,?_,?_,?_,?_,aH,aH,trivial⟩
  ·refine cj fun R s w' aw hs hw ha=>?_
   have L:=dF (aS.aY hw (fun h=>h) (by simp)) hU rfl eT eX;generalize hA:bB _ _ _ _ _ _ _=c3;refine e7 rfl ?_ L;subst hA;kernel_rfl
  ·refine eL ?kj ?iQ ?j8 ?jn ?_;case iQ=>exact rfl
   case kj=>exact(fun R=>.pointer (some ⟨g0,1,none⟩))
   case j8=>exact(fun R=>rfl)
   case jn=>(refine du rfl ?_;intro R;kernel_rfl)
   intro R s w' aw hs hw ha;go_simp
  ·refine eL ?Af ?rE ?zy ?vj ?_;case rE=>exact rfl
   case Af=>exact(fun R=>.pointer (some ⟨g0,4,none⟩))
   case zy=>exact(fun R=>rfl)
   case vj=>(refine du rfl ?_;intro R;kernel_rfl)
   intro R s w' aw hs hw ha;go_simp
  ·refine eL ?wo ?iR ?j9 ?jo ?_;case iR=>exact rfl
   case wo=>exact(fun R=>.int .u64 (d:Int))
   case j9=>exact(fun R=>rfl)
   case jo=>(refine du rfl ?_;intro R;kernel_rfl)
   intro R s w' aw hs hw ha;have cc:=((aS.aY hw (fun h=>h) (by simp):aG w' g0 _ X).cell 4).trans (f4);go_simp
  ·refine eL ?jE ?gA ?hO ?gx ?_;case gA=>exact rfl
   case jE=>exact(fun R=>.bool true)
   case hO=>exact(fun R=>rfl)
   case gx=>(refine du rfl ?_;intro R;kernel_rfl)
   intro R s w' aw hs hw ha;go_simp
  ·refine eL ?wm ?po ?sW ?o_ ?_;case po=>exact rfl
   case wm=>exact(fun R=>.pointer (some ⟨g0,1,none⟩))
   case sW=>exact(fun R=>rfl)
   case o_=>(refine du rfl ?_;intro R;kernel_rfl)
   intro R s w' aw hs hw ha;go_simp
  ·refine eL ?qS ?oa ?qK ?n8 ?_;case oa=>exact rfl
   case qS=>exact(fun R=>.pointer (some ⟨g0,3,none⟩))
   case qK=>exact(fun R=>rfl)
   case n8=>(refine du rfl ?_;intro R;kernel_rfl)
   intro R s w' aw hs hw ha;go_simp
  ·refine eL ?Pc ?vE ?Eu ?vf ?_;case vE=>exact rfl
   case Pc=>exact(fun R=>.int .u64 (c:Int))
   case Eu=>exact(fun R=>rfl)
   case vf=>(refine du rfl ?_;intro R;kernel_rfl)
   intro R s w' aw hs hw ha;have cc:=((aS.aY hw (fun h=>h) (by simp):aG w' g0 _ X).cell 3).trans (f3);go_simp
  ·refine eL ?Ae ?sN ?zw ?sB ?_;case sN=>exact rfl
   case Ae=>exact(fun R=>.bool false)
   case zw=>exact(fun R=>rfl)
   case sB=>(refine du rfl ?_;intro R;kernel_rfl)
   intro R s w' aw hs hw ha;go_simp
  ·refine kt ?ob ?n9;case ob=>exact rfl
   case n9=>(refine du rfl ?_;intro R;kernel_rfl)
  ·refine kt ?vF ?vg;case vF=>exact rfl
   case vg=>(refine du rfl ?_;intro R;kernel_rfl)
  ·refine kt ?vG ?vh;case vG=>exact rfl
   case vh=>(refine du rfl ?_;intro R;kernel_rfl)
  ·refine kt ?zj ?yZ;case zj=>exact rfl
   case yZ=>(refine du rfl ?_;intro R;kernel_rfl)
 case va =>
  intro cY R G tA ae;have hS:=ae.same;have aZ:=ae.holds;have bf:=EE.out.size;have aS:=aS.aY hS (fun h=>h) (by simp);have EE:=hide (show Ext _ _ from aZ);clear hS bf aZ ae;generalize hF:bB _ _ _ _ _ _ _=bH;have bI:bH={ tmps:=#[.agg X,(yj g0 0:C),.bool false,.agg X,.bool true,.bool true,(yj g0 1:C),(yj g0 4:C),.int .u64 (d:Int),.bool true,.bool true,.bool true,(yj g0 1:C),(yj g0 3:C),.int .u64 (c:Int),.bool false,.bool false,.bool false,y,y,y,y,.bool false],defers:=[] }:=by subst hF;kernel_rfl
  clear hF;subst bI;go_wp2_with fail
  go_ret;exact⟨rfl,EE.out⟩
theorem aji(X:Array C)(b c d:Nat)(W:E)(eX:X.size=5)(kf:X.all (·.oneCell')=true)(f2:X[2]?=some (.int .u64 (b:Int)))(f3:X[3]?=some (.int .u64 (c:Int)))(f4:X[4]?=some (.int .u64 (d:Int)))(kv:Hid (∀ w,F D 120 #[.agg X] w (aP (.bool true) w)))(hd:d=0)(hc:c=0) :
 F D 109 #[.agg X] W (aP (.bool (decide ((b:Int)<4))) W):=by
 have ed:(((d:Nat):Int)==0)=true:=by rw[beq_iff_eq];omega
 have RQ:decide (d=0)=true:=decide_eq_true hd;clear hd;have Gs:(((c:Nat):Int)==0)=true:=by rw[beq_iff_eq];omega
 have aak:decide (c=0)=true:=decide_eq_true hc;clear hc;have aS:=aG.new W 27 X;have EE:=hide (aA W (.cells X 27));obtain⟨bG,bD⟩:=aM ((W.alloc (.cells X 27)));obtain⟨g0,af⟩:∃ g,W.heap.size=g:=⟨_,rfl⟩;rw[bD] at aS EE;rw[af] at aS;have wK:W.heap.size<=g0:=by omega
 have aB:=hide bD;have bW:=hide af;clear bD af;go_enter Tryz.func109,Tryz.ntmps109
 go_upto_region 1 with fail
 rw[aB.out,bW.out];clear aB bW;have uG:=aS.lt;refine eB [.q,.q,.q,.q,.q,.q,.q,.q,.q,.q,.q,.q,.q,.q,.q,.q,.q,.q,.q,.q,.q] [0,0,0,0,0,0,0,0,0,0,0,0,0,0,0,0,0,0,0,0,0] (fun R=>[.agg X,.bool true,.bool true,yj g0 1,yj g0 4,.int .u64 (d:Int),.bool true,.bool true,.bool true,yj g0 1,yj g0 3,.int .u64 (c:Int),.bool true,.bool true,.bool true,yj g0 1,yj g0 2,.int .u64 (b:Int),.bool (decide ((b:Int)<4)),.bool (decide ((b:Int)<4)),.bool (decide ((b:Int)<4))]) (fun _=>(.cells #[] 0 (0,0))) (fun R _=>(.cells #[] 0 (0,0))) (fun _=>0) (dA W) (fun _=>False) (by kernel_rfl) (by kernel_rfl) (by kernel_rfl) rfl (fun _=>rfl) (fun _ h=>h.elim) (fun _ _ h=>h) (by simp) (by simp) (fun R b1=>⟨fun _=>rfl,fun _=>rfl,fun _=>rfl,fun _=>rfl,fun _=>rfl,fun _=>rfl,fun _=>rfl,fun _=>rfl,fun _=>rfl,fun _=>rfl,fun _=>rfl,fun _=>rfl,fun _=>rfl,fun _=>rfl,fun _=>rfl,fun _=>rfl,fun _=>rfl,fun _=>rfl,fun _=>rfl,fun _=>rfl,fun _=>rfl,trivial⟩) (fun _ _ _ _=>rfl) dH EE.out ?vU ?va;case vU =>
  refine⟨?_,d_ kv,aH,?_,?_,?_,?_,aH,aH,?_,?_,?_,?_,aH,aH,?_,?_,?_,?_,aH,aH,trivial⟩
  ·refine cj fun R s w' aw hs hw ha=>?_
   have L:=dF (aS.aY hw (fun h=>h) (by simp)) hU rfl eT eX;generalize hA:bB _ _ _ _ _ _ _=c3;refine e7 rfl ?_ L;subst hA;kernel_rfl
  ·refine eL ?kj ?iQ ?j8 ?jn ?_;case iQ=>exact rfl
   case kj=>exact(fun R=>.pointer (some ⟨g0,1,none⟩))
   case j8=>exact(fun R=>rfl)
   case jn=>(refine du rfl ?_;intro R;kernel_rfl)
   intro R s w' aw hs hw ha;go_simp
  ·refine eL ?Af ?rE ?zy ?vj ?_;case rE=>exact rfl
   case Af=>exact(fun R=>.pointer (some ⟨g0,4,none⟩))
   case zy=>exact(fun R=>rfl)
   case vj=>(refine du rfl ?_;intro R;kernel_rfl)
   intro R s w' aw hs hw ha;go_simp
  ·refine eL ?wo ?iR ?j9 ?jo ?_;case iR=>exact rfl
   case wo=>exact(fun R=>.int .u64 (d:Int))
   case j9=>exact(fun R=>rfl)
   case jo=>(refine du rfl ?_;intro R;kernel_rfl)
   intro R s w' aw hs hw ha;have cc:=((aS.aY hw (fun h=>h) (by simp):aG w' g0 _ X).cell 4).trans (f4);go_simp
  ·refine eL ?jE ?gA ?hO ?gx ?_;case gA=>exact rfl
   case jE=>exact(fun R=>.bool true)
   case hO=>exact(fun R=>rfl)
   case gx=>(refine du rfl ?_;intro R;kernel_rfl)
   intro R s w' aw hs hw ha;go_simp
  ·refine eL ?wm ?po ?sW ?o_ ?_;case po=>exact rfl
   case wm=>exact(fun R=>.pointer (some ⟨g0,1,none⟩))
   case sW=>exact(fun R=>rfl)
   case o_=>(refine du rfl ?_;intro R;kernel_rfl)
   intro R s w' aw hs hw ha;go_simp
  ·refine eL ?qS ?oa ?qK ?n8 ?_;case oa=>exact rfl
   case qS=>exact(fun R=>.pointer (some ⟨g0,3,none⟩))
   case qK=>exact(fun R=>rfl)
   case n8=>(refine du rfl ?_;intro R;kernel_rfl)
   intro R s w' aw hs hw ha;go_simp
  ·refine eL ?Pc ?vE ?Eu ?vf ?_;case vE=>exact rfl
   case Pc=>exact(fun R=>.int .u64 (c:Int))
   case Eu=>exact(fun R=>rfl)
   case vf=>(refine du rfl ?_;intro R;kernel_rfl)
   intro R s w' aw hs hw ha;have cc:=((aS.aY hw (fun h=>h) (by simp):aG w' g0 _ X).cell 3).trans (f3);go_simp
  ·refine eL ?Ae ?sN ?zw ?sB ?_;case sN=>exact rfl
   case Ae=>exact(fun R=>.bool true)
   case zw=>exact(fun R=>rfl)
   case sB=>(refine du rfl ?_;intro R;kernel_rfl)
   intro R s w' aw hs hw ha;go_simp
  ·refine eL ?tv ?ob ?sX ?n9 ?_;case ob=>exact rfl
   case tv=>exact(fun R=>.pointer (some ⟨g0,1,none⟩))
   case sX=>exact(fun R=>rfl)
   case n9=>(refine du rfl ?_;intro R;kernel_rfl)
   intro R s w' aw hs hw ha;go_simp
  ·refine eL ?Pe ?vF ?MC ?vg ?_;case vF=>exact rfl
   case Pe=>exact(fun R=>.pointer (some ⟨g0,2,none⟩))
   case MC=>exact(fun R=>rfl)
   case vg=>(refine du rfl ?_;intro R;kernel_rfl)
   intro R s w' aw hs hw ha;go_simp
  ·refine eL ?Pf ?vG ?MD ?vh ?_;case vG=>exact rfl
   case Pf=>exact(fun R=>.int .u64 (b:Int))
   case MD=>exact(fun R=>rfl)
   case vh=>(refine du rfl ?_;intro R;kernel_rfl)
   intro R s w' aw hs hw ha;have cc:=((aS.aY hw (fun h=>h) (by simp):aG w' g0 _ X).cell 2).trans (f2);go_simp
  ·refine eL ?amO ?zj ?afy ?yZ ?_;case zj=>exact rfl
   case amO=>exact(fun R=>.bool (decide ((b:Int)<4)))
   case afy=>exact(fun R=>rfl)
   case yZ=>(refine du rfl ?_;intro R;kernel_rfl)
   intro R s w' aw hs hw ha;go_simp
 case va =>
  intro cY R G tA ae;have hS:=ae.same;have aZ:=ae.holds;have bf:=EE.out.size;have aS:=aS.aY hS (fun h=>h) (by simp);have EE:=hide (show Ext _ _ from aZ);clear hS bf aZ ae;generalize hF:bB _ _ _ _ _ _ _=bH;have bI:bH={ tmps:=#[.agg X,(yj g0 0:C),.bool (decide ((b:Int)<4)),.agg X,.bool true,.bool true,(yj g0 1:C),(yj g0 4:C),.int .u64 (d:Int),.bool true,.bool true,.bool true,(yj g0 1:C),(yj g0 3:C),.int .u64 (c:Int),.bool true,.bool true,.bool true,(yj g0 1:C),(yj g0 2:C),.int .u64 (b:Int),.bool (decide ((b:Int)<4)),.bool (decide ((b:Int)<4))],defers:=[] }:=by subst hF;kernel_rfl
  clear hF;subst bI;go_wp2_with fail
  go_ret;exact⟨rfl,EE.out⟩
theorem afp{s:Bool}{a b c d:Nat}{x:Int}(h:dg s a b c d x):(d=0/\c=0/\b<4)↔x.natAbs<73786976294838206464:=by
 have e:=h.abs;have h0:=h.1;have h1:=h.2.1;have h2:=h.2.2.1;have h3:=h.2.2.2.1;simp only[b0,val] at e;constructor
 ·rintro⟨rfl,rfl,hb⟩;omega
 ·intro hx;refine⟨?_,?_,?_⟩<;>omega
theorem aiO{s:Bool}{a b c d:Nat}{x:Int}(h:dg s a b c d x)(v:Bool)(kv:∀ w,F D 120 #[.agg #[.bool s,a,b,c,d]] w (aP (.bool v) w))(w:E) :
 F D 109 #[.agg #[.bool s,a,b,c,d]] w (aP (.bool (v&&decide (x.natAbs<73786976294838206464))) w):=by
 have hb:=afp h;cases v with
 | false=>exact ajf _ b c d w rfl (by kernel_rfl) rfl rfl rfl (hide kv)
 | true =>
  by_cases hd:d=0
  ·by_cases hc:c=0
   ·have:=aji _ b c d w rfl (by kernel_rfl) rfl rfl rfl (hide kv) hd hc;have e:decide ((b:Int)<4)=(true&&decide (x.natAbs<73786976294838206464)):=by
     rw[Bool.true_and];by_cases q:b<4
     ·rw[decide_eq_true (hb.1 ⟨hd,hc,q⟩),decide_eq_true (by omega)]
     ·rw[decide_eq_false (fun z=>q (hb.2 z).2.2),decide_eq_false (by omega)]
    rw[e] at this
    exact this
   ·rw[decide_eq_false (fun z=>hc (hb.2 z).2.1)];exact ajh _ b c d w rfl (by kernel_rfl) rfl rfl rfl (hide kv) hd hc
  ·rw[decide_eq_false (fun z=>hd (hb.2 z).1)];exact ajg _ b c d w rfl (by kernel_rfl) rfl rfl rfl (hide kv) hd
end
section
open Go Go.RowKit Go.Sort
theorem GF{r s:Fr}(aD:okF r)(hs:okF s){k:Int}(aE:f_ (r.1*s.2) (s.1*r.2)=k)(w:E):F D 91 #[.agg (cJ r),.agg (cJ s)] w (aP (.int .i64 k) w):=Sh aD hs aE w
theorem Hw:Ja 76:=fun c hc w=>by
 cases c with
 | op=>exact U4 true dq dq rfl rfl w true false false 0 (fun _ w=>RZ true RC.zero RC.zero w) (fun h=>by cases h) (fun h=>by cases h) (fun h=>by cases h) true rfl
 | dU a b =>
  obtain⟨r,aD⟩:=aM (f_ (a.1*b.2) (b.1*a.2));exact U4 false (cJ a) (cJ b) rfl rfl w true true true r (fun h=>by cases h) (fun _ w=>GH hc.1 w) (fun _ w=>GH hc.2.1 w) (fun _ _ _ w=>GF hc.1 hc.2.1 aD w) true (by rw[JH aD,decide_eq_true hc.2.2];rfl)
theorem US:I8 80:=fun c hc=>by
 cases c with
 | op=>exact⟨(0,1),rfl,fun w=>U2 true dq dq (cJ (0,1)) dq rfl rfl rfl (gP _).one rfl lL w true false (fun w=>Hw .op trivial w) (fun _ _ w=>Si (by omega) (by omega) w) (fun _ h=>by cases h)⟩
 | dU a b =>
  obtain⟨n,m,B⟩:=CH hc.1.1 hc.2.1.1 hc.2.2;exact⟨(n,m),B,fun w=>U2 false (cJ a) (cJ b) dq (cJ (n,m)) rfl rfl rfl lL rfl (gP _).one w true true (fun w=>Hw (.dU a b) hc w) (fun _ h=>by cases h) (fun _ _ w=>akG hc.1 hc.2.1 hc.2.2 B w)⟩
theorem ai5:I9 97:=fun a b ha hb w=>by
 have hN:=fun w=>Hw a ha w
 have eM:=fun w=>Hw b hb w
 cases a with
 | op =>
  cases b with
  | op=>exact Hy true true dq dq dq dq rfl rfl rfl rfl lL lL lL lL w true true 0 0 0 hN (fun _=>eM) (fun _ _ h=>by cases h) (fun _ _ h=>by cases h) (fun _ _ h=>by cases h)
  | dU lb iy=>exact Hy true false dq dq (cJ lb) (cJ iy) rfl rfl rfl rfl lL lL (gP _).one (gP _).one w true true 0 0 0 hN (fun _=>eM) (fun _ _ h=>by cases h) (fun _ _ h=>by cases h) (fun _ _ h=>by cases h)
 | dU b9 jq =>
  cases b with
  | op=>exact Hy false true (cJ b9) (cJ jq) dq dq rfl rfl rfl rfl (gP _).one (gP _).one lL lL w true true 0 0 0 hN (fun _=>eM) (fun _ _ _ h=>by cases h) (fun _ _ _ h=>by cases h) (fun _ _ _ h=>by cases h)
  | dU lb iy =>
   obtain⟨az,h1⟩:∃ r,f_ (b9.1*lb.2) (lb.1*b9.2)=r:=⟨_,rfl⟩;obtain⟨aU,h2⟩:∃ r,f_ (jq.1*iy.2) (iy.1*jq.2)=r:=⟨_,rfl⟩;have bk:(if az<0 then cJ lb else cJ b9)=cJ (p_ b9 lb):=by
    unfold p_;by_cases p:jQ lb b9
    ·rw[if_pos p,if_neg (fun q=>(rq h1).2.1 q p)]
    ·rw[if_neg p,if_pos ((rq h1).2.2 p)]
   have e2:(if 0<aU then cJ iy else cJ jq)=cJ (qa jq iy):=by
    unfold qa;by_cases p:jQ jq iy
    ·rw[if_pos p,if_neg (fun q=>(rq h2).1.1 q p)]
    ·rw[if_neg p,if_pos ((rq h2).1.2 p)]
   obtain⟨a_,h3⟩:∃ r,f_ ((p_ b9 lb).1*(qa jq iy).2) ((qa jq iy).1*(p_ b9 lb).2)=r:=⟨_,rfl⟩;have hm:=M4 ha.1 hb.1;have hn:=M5 ha.2.1 hb.2.1;have:=Hy false false (cJ b9) (cJ jq) (cJ lb) (cJ iy) rfl rfl rfl rfl (gP _).one (gP _).one (gP _).one (gP _).one w true true az aU a_ hN (fun _=>eM) (fun _ _ _ _ w=>GF ha.1 hb.1 h1 w) (fun _ _ _ _ w=>GF ha.2.1 hb.2.1 h2 w) (fun _ _ _ _ w=>by rw[bk,e2];exact GF hm hn h3 w);have em:xG true true false false (cJ b9) (cJ jq) (cJ lb) (cJ iy) az aU a_=(xH (kB (.dU b9 jq) (.dU lb iy)),(kB (.dU b9 jq) (.dU lb iy)).isSome):=by
    unfold xG;rw[bk,e2];simp only[kB];by_cases p:jQ (p_ b9 lb) (qa jq iy)
    ·rw[if_pos p];have:¬ 0<a_:=fun q=>(rq h3).1.1 q p
     simp[this,xH,e4]
    ·rw[if_neg p];have:0<a_:=(rq h3).1.2 p;simp[this,xH]
   rw[em] at this
   exact this
theorem aby{S:Array C}(h:Ar S)(w:E):F D 90 #[.agg S] w (aP (.bool false) w):=by
 obtain⟨s,a,b,c,d,t,e,f,g,i,n,m,rfl,hx,hy,aD⟩:=h;exact Vp s t a b c d e f g i n m w hx hy false (decide_eq_false aD)
theorem auf{S:Array C}(h:FT S)(w:E):F D 90 #[.agg S] w (aP (.bool true) w):=by
 obtain⟨f,hf,rfl⟩:=h;exact GH hf w
theorem av0{X:Array C}(h:Ir X)(w:E):F D 76 #[.agg X] w (aP (.bool false) w):=by
 obtain⟨o,L,H,rfl,br,dh,hb⟩:=h;have rP:=br.rc.size;have td:=dh.rc.size;rcases hb with ⟨rfl,hb⟩|⟨rfl,hb⟩
 ·exact U4 true L H rP td w false false false 0 (fun _ w=>aa8 br.rc dh.rc false (by simp[hb]) w) (fun h=>by cases h) (fun h=>by cases h) (fun h=>by cases h) false rfl
 ·rcases hb with hb|⟨aL,hb⟩|⟨f,g,hf,af,rfl,rfl,hl⟩
  ·rcases dh with y9|y9
   ·exact U4 false L H rP td w false false true 0 (fun h=>by cases h) (fun _ w=>aby hb w) (fun _ w=>auf y9 w) (fun _ h=>by cases h) false rfl
   ·exact U4 false L H rP td w false false false 0 (fun h=>by cases h) (fun _ w=>aby hb w) (fun _ w=>aby y9 w) (fun _ h=>by cases h) false rfl
  ·exact U4 false L H rP td w false true false 0 (fun h=>by cases h) (fun _ w=>auf aL w) (fun _ w=>aby hb w) (fun _ _ h=>by cases h) false rfl
  ·obtain⟨r,aD⟩:=aM (f_ (f.1*g.2) (g.1*f.2));exact U4 false (cJ f) (cJ g) rfl rfl w false true true r (fun h=>by cases h) (fun _ w=>GH hf w) (fun _ w=>GH af w) (fun _ _ _ w=>GF hf af aD w) false (by rw[JH aD,decide_eq_false hl];rfl)
theorem av1:QW 76:=fun _ h w=>av0 h w
end
section
open Go Go.RowKit
def j2(B:Nat)(w:E)(v:C)(l:List Int):Prop:=w.ownsRow B 3 1 v l.length (hT l)/\ko l
theorem j2.at_{B:Nat}{w:E}{v:C}{l:List Int}(h:j2 B w v l):∃ A cap,v=.slice A l.length cap/\l.length<=cap/\cap<=9223372036854775807/\hE w A l:=by
 rcases h.1.2 with ⟨rfl,h0⟩|⟨g,cap,cur,rfl,af,hh,nr,jP,hcs,Bp⟩
 ·obtain rfl:l=[]:=List.length_eq_zero_iff.1 h0;exact⟨none,0,rfl,Nat.le_refl _,by omega,hE.nil _ _⟩
 ·unfold maxLen at jP;refine⟨_,cap,rfl,nr,jP,h.2,by omega,fun _=>⟨g,0,rfl,(Array.getElem?_eq_some_iff.1 hh).1,fun j aN=>?_⟩⟩;have:=h.1.cells (g:=g) rfl j (Value.int .i64 (l.getD j 0)) (by rw[GI aN];simp[hT,aN]);have e:(⟨g,0,none⟩:aw6).add j=⟨g,0+j,none⟩:=by unfold Addr.add;split<;>simp_all
  rw[e] at this
  exact this
theorem j2.alloc{B:Nat}{w:E}{v:C}{l:List Int}(h:j2 B w v l)(o:Obj):j2 B (w.alloc o) v l:=⟨h.1.alloc o,h.2⟩
theorem j2.drew{B:Nat}{w:E}{v:C}{l:List Int}(h:j2 B w v l):j2 B w.drew v l:=h
theorem j2.jT(B:Nat)(w:E):j2 B w (.slice none 0 0) []:=⟨World.ownsRow_nil _ _ _ _,ko.nil⟩
theorem j2.ext{B:Nat}{w w':E}{v:C}{l:List Int}(h:j2 B w v l)(e:Ext w w'):j2 B w' v l:=by
 refine⟨?_,h.2⟩;obtain⟨h1,h2|⟨g,cap,cur,aF,af,hh,r⟩⟩:=h.1
 ·exact⟨h1,Or.inl h2⟩
 ·exact⟨h1,Or.inr ⟨g,cap,cur,aF,af,by rw[e.block g (Array.getElem?_eq_some_iff.1 hh).1];exact hh,r⟩⟩
theorem j2.less{B fc:Nat}{w:E}{v:C}{l:List Int}(h:j2 B w v l)(bF:fc<=B):j2 fc w v l:=by
 refine⟨?_,h.2⟩;obtain⟨h1,h2|⟨g,cap,cur,aF,af,r⟩⟩:=h.1
 ·exact⟨h1,Or.inl h2⟩
 ·exact⟨h1,Or.inr ⟨g,cap,cur,aF,by omega,r⟩⟩
theorem j2.c7{B b:Nat}{w w':E}{v:C}{l:List Int}(h:j2 B w v l)(u:b3 b w w')(hb:b<B):j2 B w' v l:=by
 refine⟨?_,h.2⟩;obtain⟨h1,h2|⟨g,cap,cur,aF,af,hh,r⟩⟩:=h.1
 ·exact⟨h1,Or.inl h2⟩
 ·exact⟨h1,Or.inr ⟨g,cap,cur,aF,af,by rw[u.2.2.2.2 g (Array.getElem?_eq_some_iff.1 hh).1 (by omega)];exact hh,r⟩⟩
end
end Go.Proofs.YtojbopibfflnoaaGreat
