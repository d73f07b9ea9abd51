/- Contracts and plain facts; each states its conditions. -/
import Derived.Test.YtojbopibfflnoaaGreatPrW32
import Derived.Test.YtojbopibfflnoaaGreatPrW51
import Derived.Test.YtojbopibfflnoaaGreatPrW52
namespace Go.Proofs.YtojbopibfflnoaaGreat
set_option linter.unusedVariables false
set_option linter.unusedSimpArgs false
set_option maxHeartbeats 16000000
section
open Go Go.RowKit Go.Sort
attribute [local go_sem] mg A3 bB BX
set_option maxRecDepth 100000 in
theorem ajP (e n t v l:Int) (K:Array Value) (cS:K.size=21) (eI:K.all (·.oneCell')=true) (t' v':Int) (W:World) (f:Fr) (kv:Hid (∀ w,Calls Tryz.prog 42 #[.agg (aI e n t v l K)] w (aP (.bool true) w))) (d0:(n==0)=false) (d1:decide (t'≤l)=false) (d2:(n==1073741824)=false) (dt:Nat) (C M:Array Value) (cb:Bool) (nW:C.size=21) (s6:C.all (·.oneCell')=true) (gJ:M.size=21) (qb:M.all (·.oneCell')=true)
 (bQ:Hid (∀ w,Calls Tryz.prog 23 #[.int .i64 v] w (aP (.agg (dC v)) w))) (bY:Hid (∀ w,Calls Tryz.prog 21 #[.int .i64 t',.int .i64 t] w (aP (.int .u64 (dt:Int)) w))) (cX:Hid (∀ w,Calls Tryz.prog 22 #[.agg (dC v),.int .i64 v',.int .i64 e,.int .u64 (dt:Int)] w (aP (.tuple #[.agg C,.bool cb]) w))) (ev:Hid (∀ w,Calls Tryz.prog 30 #[.agg K,.agg C] w (aP (.tuple #[.agg M,false]) w))) (eM:Hid (∀ w,Calls Tryz.prog 72 #[.int .i64 e,.agg (bO t' v')] w (aP (.agg (aI e 1 t' v' t' c9)) w))) (og:Hid (∀ w,Calls Tryz.prog 73 #[.agg (aI e n t v l K)] w (aP (.agg (fU (n,v,f))) w))) :
 Calls Tryz.prog 33 #[.agg (aI e n t v l K),.agg (bO t' v')] W (gi W (fun z=>.tuple #[.agg (aI e 1 t' v' t' c9),z,.int .i64 0]) [(n,v,f)]):=by
 have eX:=hR (e:=e) (n:=n) (t:=t) (v:=v) (l:=l) cS;have kf:=jU (e:=e) (n:=n) (t:=t) (v:=v) (l:=l) eI;obtain⟨f0,f1,f2,f3,f4,fs,fk⟩:=nX (e:=e) (n:=n) (t:=t) (v:=v) (l:=l) cS;obtain⟨X,dk⟩:=aM (aI e n t v l K);rw[dk] at eX kf f0 f1 f2 f3 f4 fs fk kv og ⊢;clear dk;have ak:=((aG.new W 33 X).alloc (.cells (bO t' v') 23)).alloc (.cells bL 33);have aq:=(aG.new (W.alloc (.cells X 33)) 23 (bO t' v')).alloc (.cells bL 33);rw[iY] at aq;have ag:=aG.new ((W.alloc (.cells X 33)).alloc (.cells (bO t' v') 23)) 33 bL;simp only[iY] at ag;have EE:=hide (((aA W (.cells X 33)).trans (aA _ (.cells (bO t' v') 23))).trans (aA _ (.cells bL 33)));obtain⟨bG,bD⟩:=aM ((((W.alloc (.cells X 33)).alloc (.cells (bO t' v') 23)).alloc (.cells bL 33)));obtain⟨g0,af⟩:∃ g,W.heap.size=g:=⟨_,rfl⟩;rw[bD] at ak aq ag EE;rw[af] at ak aq ag;have lh:W.heap.size≤g0:=by omega
 have r9:W.heap.size≤g0+1:=by omega
 have lj:W.heap.size≤g0+1+1:=by omega
 have aB:=hide bD;have bW:=hide af;clear bD af;go_enter Tryz.func33,Tryz.ntmps33
 go_upto_region 1 with fail
 unfold bL at aB;rw[aB.out,bW.out];clear aB bW;refine eK ?_;repeat (first|go_big_quiet_step (first|with_reducible exact dK (kv.out _))|(refine iE (by kernel_rfl) rfl rfl (fun w hw=>by obtain⟨⟨d,os⟩,rfl⟩:=hw;exact dF ((ak).ext (aX bG d os)) jC rfl eW eX) ?_)|quiet_step (first|with_reducible exact dK (kv.out _)))
 refine wpQuiet_nil ?_;intro _ bj;obtain⟨⟨aQ,osq⟩,cq⟩:=bj;subst cq;replace ak:=(ak).ext (aX bG aQ osq);replace aq:=(aq).ext (aX bG aQ osq);replace ag:=(ag).ext (aX bG aQ osq);replace EE:=hide (EE.out.trans (aX bG aQ osq));obtain⟨bp,eF⟩:∃ w,grow (redrawn bG aQ) osq=w:=⟨_,rfl⟩;rw[eF] at EE ak aq ag ⊢;clear eF;go_upto_region 3 with fail
 have qx:=fun d os=>(((ak).ext (aX bp d os)).cell 1).trans (f1)
 refine eK ?_;repeat (first|go_big_quiet_step (fail)|quiet_step (fail))
 refine wpQuiet_nil ?_;intro _ bj;obtain⟨⟨aQ,osq⟩,cq⟩:=bj;subst cq;replace ak:=(ak).ext (aX bp aQ osq);replace aq:=(aq).ext (aX bp aQ osq);replace ag:=(ag).ext (aX bp aQ osq);replace EE:=hide (EE.out.trans (aX bp aQ osq));obtain⟨bZ,mQ⟩:∃ w,grow (redrawn bp aQ) osq=w:=⟨_,rfl⟩;rw[mQ] at EE ak aq ag ⊢;clear mQ qx;go_upto_region 5 with fail
 have yO:=fun d os=>(((aq).ext (aX bZ d os)).cell 0).trans (show (bO t' v')[0]?=some (.int .i64 t') from rfl)
 have yP:=fun d os=>(((ak).ext (aX bZ d os)).cell 4).trans (f4)
 refine eK ?_;repeat (first|go_big_quiet_step (fail)|quiet_step (fail))
 refine wpQuiet_nil ?_;intro _ bj;obtain⟨⟨aQ,osq⟩,cq⟩:=bj;subst cq;replace ak:=(ak).ext (aX bZ aQ osq);replace aq:=(aq).ext (aX bZ aQ osq);replace ag:=(ag).ext (aX bZ aQ osq);replace EE:=hide (EE.out.trans (aX bZ aQ osq));obtain⟨cg,sS⟩:∃ w,grow (redrawn bZ aQ) osq=w:=⟨_,rfl⟩;rw[sS] at EE ak aq ag ⊢;clear sS yO yP;go_upto_region 7 with fail
 have CT:=fun d os=>(((ak).ext (aX cg d os)).cell 1).trans (f1)
 refine eK ?_;repeat (first|go_big_quiet_step (fail)|quiet_step (fail))
 refine wpQuiet_nil ?_;intro _ bj;obtain⟨⟨aQ,osq⟩,cq⟩:=bj;subst cq;replace ak:=(ak).ext (aX cg aQ osq);replace aq:=(aq).ext (aX cg aQ osq);replace ag:=(ag).ext (aX cg aQ osq);replace EE:=hide (EE.out.trans (aX cg aQ osq));obtain⟨c8,xA⟩:∃ w,grow (redrawn cg aQ) osq=w:=⟨_,rfl⟩;rw[xA] at EE ak aq ag ⊢;clear xA CT;go_upto_region 9 with fail
 have gu:=ak.lt;have gM:=aq.lt;have cP:=ag.lt;refine kl [.q,.q,.q,.q,.q,.q,.q,.q,.q,.q,.q,.q,.q,.q,.q,.q,.q,.q,.al,.st 18,.q] [0,0,0,0,0,0,0,0,0,0,0,0,0,0,0,0,0,0,0,0,0] (fun R=>[.pointer (some ⟨g0,2,none⟩),.pointer (some ⟨g0,3,none⟩),.int .i64 v,.agg (dC v),.pointer (some ⟨g0+1,1,none⟩),.int .i64 v',.pointer (some ⟨g0,0,none⟩),.int .i64 e,.pointer (some ⟨g0+1,0,none⟩),.int .i64 t',.pointer (some ⟨g0,2,none⟩),.pointer (some ⟨g0,2,none⟩),.int .i64 t,.int .u64 (dt:Int),.tuple #[.agg C,.bool cb],.tuple #[.agg C,.bool cb],.agg C,.bool cb,undef,undef,.bool cb]) (fun _=>(.cells z21 31 (0,0))) (fun R _=>(.cells C 31 (0,0))) (fun _=>0) (dA W) (fun _=>False) (by kernel_rfl) (by kernel_rfl) (by kernel_rfl) (by kernel_rfl) rfl (fun _=>rfl) (fun _ h=>h.elim) (fun _ _ h=>h) (by simp) (by simp) (fun R b1=>⟨fun _=>rfl,fun _=>rfl,fun _=>rfl,fun _=>rfl,fun _=>rfl,fun _=>rfl,fun _=>rfl,fun _=>rfl,fun _=>rfl,fun _=>rfl,fun _=>rfl,fun _=>rfl,fun _=>rfl,fun _=>rfl,fun _=>rfl,fun _=>rfl,fun _=>rfl,fun _=>rfl,fun _=>rfl,fun _=>rfl,fun _=>rfl,trivial⟩) (fun _ _ _ _=>rfl) dH (EE.out.trans (b5 _)) ?NI ?J_;case NI =>
  refine⟨aH,aH,?_,d_ bQ,aH,?_,aH,?_,aH,?_,aH,aH,?_,d_ bY,d_ cX,aH,aH,aH,?_,?_,aH,trivial⟩
  ·refine cj fun R s w' aw hs hw ha=>?_
   have cc:=((show aG w' g0 _ X from ak.aY hw (fun h=>h) (by simp)).cell 3).trans (f3);go_simp
  ·refine cj fun R s w' aw hs hw ha=>?_
   have cc:=((show aG w' (g0+1) _ (bO t' v') from aq.aY hw (fun h=>h) (by simp)).cell 1).trans (show (bO t' v')[1]?=some (.int .i64 v') from rfl);go_simp
  ·refine cj fun R s w' aw hs hw ha=>?_
   have cc:=((show aG w' g0 _ X from ak.aY hw (fun h=>h) (by simp)).cell 0).trans (f0);go_simp
  ·refine cj fun R s w' aw hs hw ha=>?_
   have cc:=((show aG w' (g0+1) _ (bO t' v') from aq.aY hw (fun h=>h) (by simp)).cell 0).trans (show (bO t' v')[0]?=some (.int .i64 t') from rfl);go_simp
  ·refine cj fun R s w' aw hs hw ha=>?_
   have cc:=((show aG w' g0 _ X from ak.aY hw (fun h=>h) (by simp)).cell 2).trans (f2);go_simp
  ·refine ia ?PW ?D0 ?MG ?Dh ?_;case PW=>exact(.cells z21 31 (0,0))
   case D0=>exact rfl
   case MG=>exact rfl
   case Dh=>exact cu rfl
   intro ρ w';go_simp;exact⟨rfl,rfl⟩
  ·refine ib (j:=18) (Ty:=?XO) (p:=?ajp) (x:=?anR) ?Ki ?Am ?Fh ?vH ?Nx ?vN ?MV ?vi ?J2 ?_;case vH=>exact rfl
   case Nx=>exact rfl
   case Ki=>exact(fun R=>(.cells C 31 (0,0)))
   case Am=>exact(.cells z21 31 (0,0))
   case Fh=>exact(fun R=>.agg C)
   case vN=>exact(fun R=>rfl)
   case MV=>exact rfl
   case vi=>exact cu rfl
   case J2 =>
    intro R;kernel_rfl
   intro R s ρ w g aw hs hp hx af hz;exact⟨hQ rfl hp hx hz ei (nW) (s6),fun aT hF=>dM aw hF (Nat.le_trans EE.out.size af)⟩
 case J_ =>
  intro cY R G Ps ae;have hS:=ae.same;have aZ:=ae.holds;have bf:=EE.out.size;replace ak:=ak.aY hS (fun h=>h) (by simp);replace aq:=aq.aY hS (fun h=>h) (by simp);replace ag:=ag.aY hS (fun h=>h) (by simp);have bl:aG Ps (G 18) 31 C:=(ae.eV 19 (List.mem_range.2 (show 19<21 by decide)) 18 rfl).2.2;have xq:=(ae.made 18 (List.mem_range.2 (show 18<21 by decide)) rfl).1;have I6:W.heap.size≤G 18:=Nat.le_trans bf xq;have ag2:g0≠G 18:=by omega
  have Na:g0+1≠G 18:=by omega
  have aha:g0+1+1≠G 18:=by omega
  replace EE:=hide (show Ext _ _ from aZ);clear hS bf aZ ae gu gM cP;generalize hF:bB _ _ _ _ _ _ _=bH;have bI:bH={ tmps:=#[.agg X,.agg (bO t' v'),.pointer (some ⟨g0,0,none⟩),.pointer (some ⟨g0+1,0,none⟩),.pointer (some ⟨g0+1+1,0,none⟩),.slice none 0 0,.int .i64 0,.pointer (some ⟨G 18,0,none⟩),.bool cb,undef,undef,.agg X,.bool true,.bool false,undef,.pointer (some ⟨g0,1,none⟩),.int .i64 n,.bool false,undef,undef,undef,undef,.pointer (some ⟨g0+1,0,none⟩),.int .i64 t',.pointer (some ⟨g0,4,none⟩),.int .i64 l,.bool false,undef,.pointer (some ⟨g0,1,none⟩),.int .i64 n,.bool false,undef,.tuple #[.agg C,.bool cb],.pointer (some ⟨g0,2,none⟩),.pointer (some ⟨g0,3,none⟩),.int .i64 v,.agg (dC v),.pointer (some ⟨g0+1,1,none⟩),.int .i64 v',.pointer (some ⟨g0,0,none⟩),.int .i64 e,.pointer (some ⟨g0+1,0,none⟩),.int .i64 t',.pointer (some ⟨g0,2,none⟩),.pointer (some ⟨g0,2,none⟩),.int .i64 t,.int .u64 (dt:Int),.tuple #[.agg C,.bool cb],.agg C,.bool cb,undef,undef,undef,undef,undef,undef,undef,undef,undef,undef,undef,undef,undef,undef,undef,undef,undef,undef,undef,undef,undef,undef,undef,undef,undef,undef],defers:=[] }:=by subst hF;kernel_rfl
  clear hF;subst bI;generalize G 18=g7 at *;go_upto_region 10 with fail
  have gu:=ak.lt;have gM:=aq.lt;have cP:=ag.lt;have r_:=bl.lt;refine eB [.q,.q,.q,.q,.q,.q,.q,.al,.st 7,.q] [0,0,0,0,0,0,0,0,0,0] (fun R=>[.pointer (some ⟨g0,5,none⟩),.agg K,.agg C,.tuple #[.agg M,false],.tuple #[.agg M,false],.agg M,.bool false,undef,undef,.bool false]) (fun _=>(.cells z21 31 (0,0))) (fun R _=>(.cells M 31 (0,0))) (fun _=>0) (dA W) (fun _=>False) (by kernel_rfl) (by kernel_rfl) (by kernel_rfl) rfl (fun _=>rfl) (fun _ h=>h.elim) (fun _ _ h=>h) (by simp) (by simp) (fun R b1=>⟨fun _=>rfl,fun _=>rfl,fun _=>rfl,fun _=>rfl,fun _=>rfl,fun _=>rfl,fun _=>rfl,fun _=>rfl,fun _=>rfl,fun _=>rfl,trivial⟩) (fun _ _ _ _=>rfl) dH EE.out ?NJ ?J';case NJ =>
   refine⟨aH,?_,?_,d_ ev,aH,aH,aH,?_,?_,aH,trivial⟩
   ·refine cj fun R s w' aw hs hw ha=>?_
    have L:=pH (ak.aY hw (fun h=>h) (by simp)) _ _ fV rfl 5 21 ei (by rw[eX];first|decide|omega) _ (fk);generalize hA:bB _ _ _ _ _ _ _=c3;refine e7 rfl ?_ L;subst hA;kernel_rfl
   ·refine cj fun R s w' aw hs hw ha=>?_
    have L:=dF (bl.aY hw (fun h=>h) (by simp)) fV rfl ei nW;generalize hA:bB _ _ _ _ _ _ _=c3;refine e7 rfl ?_ L;subst hA;kernel_rfl
   ·refine ia ?PZ ?LZ ?MJ ?KB ?_;case PZ=>exact(.cells z21 31 (0,0))
    case LZ=>exact rfl
    case MJ=>exact rfl
    case KB=>exact cu rfl
    intro ρ w';go_simp;exact⟨rfl,rfl⟩
   ·refine ib (j:=7) (Ty:=?XQ) (p:=?ajr) (x:=?anT) ?Kk ?P0 ?Pm ?L0 ?Nz ?MK ?MX ?KC ?J4 ?_;case L0=>exact rfl
    case Nz=>exact rfl
    case Kk=>exact(fun R=>(.cells M 31 (0,0)))
    case P0=>exact(.cells z21 31 (0,0))
    case Pm=>exact(fun R=>.agg M)
    case MK=>exact(fun R=>rfl)
    case MX=>exact rfl
    case KC=>exact cu rfl
    case J4 =>
     intro R;kernel_rfl
    intro R s ρ w g aw hs hp hx af hz;exact⟨hQ rfl hp hx hz ei (gJ) (qb),fun aT hF=>dM aw hF (Nat.le_trans EE.out.size af)⟩
  case J' =>
   intro cY R G oo ae;have hS:=ae.same;have aZ:=ae.holds;have bf:=EE.out.size;replace ak:=ak.aY hS (fun h=>h) (by simp);replace aq:=aq.aY hS (fun h=>h) (by simp);replace ag:=ag.aY hS (fun h=>h) (by simp);replace bl:=bl.aY hS (fun h=>h) (by simp);have bx:aG oo (G 7) 31 M:=(ae.eV 8 (List.mem_range.2 (show 8<10 by decide)) 7 rfl).2.2;have DW:=(ae.made 7 (List.mem_range.2 (show 7<10 by decide)) rfl).1;have I7:W.heap.size≤G 7:=Nat.le_trans bf DW;have ag3:g0≠G 7:=by omega
   have ag6:g0+1≠G 7:=by omega
   have ahb:g0+1+1≠G 7:=by omega
   have ahh:g7≠G 7:=by omega
   replace EE:=hide (show Ext _ _ from aZ);clear hS bf aZ ae gu gM cP r_;generalize hF:bB _ _ _ _ _ _ _=bH;have bI:bH={ tmps:=#[.agg X,.agg (bO t' v'),.pointer (some ⟨g0,0,none⟩),.pointer (some ⟨g0+1,0,none⟩),.pointer (some ⟨g0+1+1,0,none⟩),.slice none 0 0,.int .i64 0,.pointer (some ⟨g7,0,none⟩),.bool cb,.pointer (some ⟨G 7,0,none⟩),.bool false,.agg X,.bool true,.bool false,undef,.pointer (some ⟨g0,1,none⟩),.int .i64 n,.bool false,undef,undef,undef,undef,.pointer (some ⟨g0+1,0,none⟩),.int .i64 t',.pointer (some ⟨g0,4,none⟩),.int .i64 l,.bool false,undef,.pointer (some ⟨g0,1,none⟩),.int .i64 n,.bool false,undef,.tuple #[.agg C,.bool cb],.pointer (some ⟨g0,2,none⟩),.pointer (some ⟨g0,3,none⟩),.int .i64 v,.agg (dC v),.pointer (some ⟨g0+1,1,none⟩),.int .i64 v',.pointer (some ⟨g0,0,none⟩),.int .i64 e,.pointer (some ⟨g0+1,0,none⟩),.int .i64 t',.pointer (some ⟨g0,2,none⟩),.pointer (some ⟨g0,2,none⟩),.int .i64 t,.int .u64 (dt:Int),.tuple #[.agg C,.bool cb],.agg C,.bool cb,.tuple #[.agg M,false],.pointer (some ⟨g0,5,none⟩),.agg K,.agg C,.tuple #[.agg M,false],.agg M,.bool false,undef,undef,undef,undef,undef,undef,undef,undef,undef,undef,undef,undef,undef,undef,undef,undef,undef,undef,undef],defers:=[] }:=by subst hF;kernel_rfl
   clear hF;subst bI;generalize G 7=g9 at *;go_upto_region 11 with fail
   refine eK ?_;repeat (first|go_big_quiet_step (fail)|quiet_step (fail))
   refine wpQuiet_nil ?_;intro _ bj;obtain⟨⟨aQ,osq⟩,cq⟩:=bj;subst cq;replace ak:=(ak).ext (aX oo aQ osq);replace aq:=(aq).ext (aX oo aQ osq);replace ag:=(ag).ext (aX oo aQ osq);replace bl:=(bl).ext (aX oo aQ osq);replace bx:=(bx).ext (aX oo aQ osq);replace EE:=hide (EE.out.trans (aX oo aQ osq));obtain⟨Wn,En⟩:∃ w,grow (redrawn oo aQ) osq=w:=⟨_,rfl⟩;rw[En] at EE ak aq ag bl bx ⊢;clear En;go_upto_region 12 with fail
   have gu:=ak.lt;have gM:=aq.lt;have cP:=ag.lt;have r_:=bl.lt;have Cm:=bx.lt;have fe:=EE.out.size;refine kl [.q,.q,.q,.q,.q,.q,.gO 0,.so 0,.q,.q] [0,0,0,0,0,0,0,0,1,0] (fun R=>[.pointer (some ⟨g0,0,none⟩),.int .i64 e,.agg (bO t' v'),.agg (aI e 1 t' v' t' c9),.agg X,.agg (fU (n,v,f)),undef,undef,(R 0),.int .i64 0]) (fun _=>(.cells #[] 0 (0,0))) (fun R _=>(.cells (aI e 1 t' v' t' c9) 33 (0,0))) (fun _=>g0+1+1) (w2 W Wn (n,v,f)) (fun _=>False) (by kernel_rfl) (by kernel_rfl) (by kernel_rfl) (by kernel_rfl) rfl (fun _=>rfl) (fun _ h=>h.elim) (fun _ _ h=>h) (by intro c hc;simp at hc;(try subst hc);(try simp only);omega) (by intro c c' h1 h2 _;simp at h1 h2;omega) (fun R b1=>⟨fun _=>rfl,fun _=>rfl,fun _=>rfl,fun _=>rfl,fun _=>rfl,fun _=>rfl,fun _=>rfl,fun _=>rfl,fun h=>by simp only[h 0 (by decide)],fun _=>rfl,trivial⟩) (fun _ _ _ _=>rfl) Wa ⟨EE.out.trans (b5 _),fun h=>absurd h (by decide)⟩ ?ah4 ?aaR;case ah4 =>
    refine⟨aH,?_,?_,d_ eM,?_,d_ og,?_,?_,aH,aH,trivial⟩
    ·refine cj fun R s w' aw hs hw ha=>?_
     have cc:=((show aG w' g0 _ X from ak.aY hw (fun h=>h) (by intro c hc;simp at hc;(try subst hc);(try simp only);omega)).cell 0).trans (f0);go_simp
    ·refine cj fun R s w' aw hs hw ha=>?_
     have L:=dF (aq.aY hw (fun h=>h) (by intro c hc;simp at hc;(try subst hc);(try simp only);omega)) xQ rfl xB rfl;generalize hA:bB _ _ _ _ _ _ _=c3;refine e7 rfl ?_ L;subst hA;kernel_rfl
    ·refine cj fun R s w' aw hs hw ha=>?_
     have L:=dF (ak.aY hw (fun h=>h) (by intro c hc;simp at hc;(try subst hc);(try simp only);omega)) jC rfl eW eX;generalize hA:bB _ _ _ _ _ _ _=c3;refine e7 rfl ?_ L;subst hA;kernel_rfl
    ·refine C6 (m:=0) ?D4 ?Dl ?_;case D4=>exact rfl
     case Dl=>exact cu rfl
     intro R w' aw hw;have hz:=hw.2.2.2.1;generalize hA:bB _ _ _ _ _ _ _=c3;refine Kg (n,v,f) rfl ?_ (Wb aw hz);subst hA;kernel_rfl
    ·refine il (c:=0) (Ty:=?aoC) (p:=?ar_) (x:=?atB) (g0+1+1) ?abG ?amh ?amY ?aep ?ahH ?afI ?agb ?ab8 ?Z5 ?aax ?_;case aep=>exact rfl
     case ahH=>exact rfl
     case abG=>exact(fun R=>(.cells (aI e 1 t' v' t' c9) 33 (0,0)))
     case amh=>exact(fun R=>.pointer (some ⟨g0+1+1,0,none⟩))
     case amY=>exact(fun R=>.agg (aI e 1 t' v' t' c9))
     case afI=>exact(fun R=>rfl)
     case agb=>exact rfl
     case ab8=>exact cu rfl
     case Z5 =>
      intro R;kernel_rfl
     case aax =>
      intro R;kernel_rfl
     intro R s ρ w aw hs hp hx hz;refine⟨lI (g:=(g0+1+1)) rfl hp hx (hz.trans ag) eW (rfl) (hR rfl) (jU E2),fun aT hF=>alk aw hF lj cP⟩
   case aaR =>
    intro cY R G ana ae;have hS:=ae.same;have aZ:=ae.holds;have bf:=EE.out.size;have sP:0<cY:=(ae.stage 6 (show 6<10 by decide) 0 rfl).1 (List.mem_range.2 (show 6<10 by decide));obtain⟨q,iJ,aO,yz⟩:=aZ.2 sP;replace ak:=ak.aY hS (fun h=>h) (by intro c hc;simp at hc;(try subst hc);(try simp only);omega);replace aq:=aq.aY hS (fun h=>h) (by intro c hc;simp at hc;(try subst hc);(try simp only);omega);replace bl:=bl.aY hS (fun h=>h) (by intro c hc;simp at hc;(try subst hc);(try simp only);omega);replace bx:=bx.aY hS (fun h=>h) (by intro c hc;simp at hc;(try subst hc);(try simp only);omega);replace ag:aG ana (g0+1+1) 33 (aI e 1 t' v' t' c9):=ae.ep 7 (List.mem_range.2 (show 7<10 by decide)) 0 rfl;replace EE:=hide (show Ext _ _ from aZ.1);clear hS bf aZ ae gu gM cP r_ Cm;generalize hF:bB _ _ _ _ _ _ _=bH;have bI:bH={ tmps:=#[.agg X,.agg (bO t' v'),.pointer (some ⟨g0,0,none⟩),.pointer (some ⟨g0+1,0,none⟩),.pointer (some ⟨g0+1+1,0,none⟩),(R 0),.int .i64 0,.pointer (some ⟨g7,0,none⟩),.bool cb,.pointer (some ⟨g9,0,none⟩),.bool false,.agg X,.bool true,.bool false,undef,.pointer (some ⟨g0,1,none⟩),.int .i64 n,.bool false,undef,undef,undef,undef,.pointer (some ⟨g0+1,0,none⟩),.int .i64 t',.pointer (some ⟨g0,4,none⟩),.int .i64 l,.bool false,undef,.pointer (some ⟨g0,1,none⟩),.int .i64 n,.bool false,undef,.tuple #[.agg C,.bool cb],.pointer (some ⟨g0,2,none⟩),.pointer (some ⟨g0,3,none⟩),.int .i64 v,.agg (dC v),.pointer (some ⟨g0+1,1,none⟩),.int .i64 v',.pointer (some ⟨g0,0,none⟩),.int .i64 e,.pointer (some ⟨g0+1,0,none⟩),.int .i64 t',.pointer (some ⟨g0,2,none⟩),.pointer (some ⟨g0,2,none⟩),.int .i64 t,.int .u64 (dt:Int),.tuple #[.agg C,.bool cb],.agg C,.bool cb,.tuple #[.agg M,false],.pointer (some ⟨g0,5,none⟩),.agg K,.agg C,.tuple #[.agg M,false],.agg M,.bool false,.bool false,.bool true,.pointer (some ⟨g0,0,none⟩),.int .i64 e,.agg (bO t' v'),.agg (aI e 1 t' v' t' c9),.agg X,.agg (fU (n,v,f)),(R 0),undef,undef,undef,undef,undef,undef,undef,undef,undef,undef],defers:=[] }:=by subst hF;kernel_rfl
    clear hF;subst bI;(try simp only[iJ])
    go_wp2_with fail
    exact bodyPost_ret (BR (p:=4) (u:=5) (u2:=6) (ty:=33) rfl _ _ _ 33 (aI e 1 t' v' t' c9) _ rfl ag jC rfl (by rw[eW,hR rfl])) rfl ⟨_,1,1,rfl,Nat.le_refl _,by kernel_rfl,NS _ yz (Nat.le_trans fe aO),EE.out⟩
set_option maxRecDepth 100000 in
theorem ajF (e n t v l:Int) (K:Array Value) (cS:K.size=21) (eI:K.all (·.oneCell')=true) (W:World) (kv:Hid (∀ w,Calls Tryz.prog 42 #[.agg (aI e n t v l K)] w (aP (.bool false) w))):Calls Tryz.prog 40 #[.agg (aI e n t v l K)] W (aP (.tuple #[.slice none 0 0,.int .i64 1]) W):=by
 have eX:=hR (e:=e) (n:=n) (t:=t) (v:=v) (l:=l) cS;have kf:=jU (e:=e) (n:=n) (t:=t) (v:=v) (l:=l) eI;obtain⟨f0,f1,f2,f3,f4,fs,fk⟩:=nX (e:=e) (n:=n) (t:=t) (v:=v) (l:=l) cS;obtain⟨X,dk⟩:=aM (aI e n t v l K);rw[dk] at eX kf f0 f1 f2 f3 f4 fs fk kv ⊢;clear dk;have aS:=aG.new W 33 X;have EE:=hide (aA W (.cells X 33));obtain⟨bG,bD⟩:=aM ((W.alloc (.cells X 33)));obtain⟨g0,af⟩:∃ g,W.heap.size=g:=⟨_,rfl⟩;rw[bD] at aS EE;rw[af] at aS;have wK:W.heap.size≤g0:=by omega
 have aB:=hide bD;have bW:=hide af;clear bD af;go_enter Tryz.func40,Tryz.ntmps40
 go_upto_region 1 with fail
 rw[aB.out,bW.out];clear aB bW;refine eK ?_;repeat (first|go_big_quiet_step (first|with_reducible exact dK (kv.out _))|(refine iE (by kernel_rfl) rfl rfl (fun w hw=>by obtain⟨⟨d,os⟩,rfl⟩:=hw;exact dF ((aS).ext (aX bG d os)) jC rfl eW eX) ?_)|quiet_step (first|with_reducible exact dK (kv.out _)))
 refine wpQuiet_nil ?_;intro _ bj;obtain⟨⟨aQ,osq⟩,cq⟩:=bj;subst cq;replace aS:=(aS).ext (aX bG aQ osq);replace EE:=hide (EE.out.trans (aX bG aQ osq));obtain⟨bp,eF⟩:∃ w,grow (redrawn bG aQ) osq=w:=⟨_,rfl⟩;rw[eF] at EE aS ⊢;clear eF;go_wp2_with fail
 go_ret2
 exact⟨rfl,EE.out⟩
set_option maxRecDepth 100000 in
theorem ajG (e n t v l:Int) (K:Array Value) (cS:K.size=21) (eI:K.all (·.oneCell')=true) (W:World) (kv:Hid (∀ w,Calls Tryz.prog 42 #[.agg (aI e n t v l K)] w (aP (.bool true) w))) (d0:(n==0)=true):Calls Tryz.prog 40 #[.agg (aI e n t v l K)] W (aP (.tuple #[.slice none 0 0,.int .i64 0]) W):=by
 have eX:=hR (e:=e) (n:=n) (t:=t) (v:=v) (l:=l) cS;have kf:=jU (e:=e) (n:=n) (t:=t) (v:=v) (l:=l) eI;obtain⟨f0,f1,f2,f3,f4,fs,fk⟩:=nX (e:=e) (n:=n) (t:=t) (v:=v) (l:=l) cS;obtain⟨X,dk⟩:=aM (aI e n t v l K);rw[dk] at eX kf f0 f1 f2 f3 f4 fs fk kv ⊢;clear dk;have aS:=aG.new W 33 X;have EE:=hide (aA W (.cells X 33));obtain⟨bG,bD⟩:=aM ((W.alloc (.cells X 33)));obtain⟨g0,af⟩:∃ g,W.heap.size=g:=⟨_,rfl⟩;rw[bD] at aS EE;rw[af] at aS;have wK:W.heap.size≤g0:=by omega
 have aB:=hide bD;have bW:=hide af;clear bD af;go_enter Tryz.func40,Tryz.ntmps40
 go_upto_region 1 with fail
 rw[aB.out,bW.out];clear aB bW;refine eK ?_;repeat (first|go_big_quiet_step (first|with_reducible exact dK (kv.out _))|(refine iE (by kernel_rfl) rfl rfl (fun w hw=>by obtain⟨⟨d,os⟩,rfl⟩:=hw;exact dF ((aS).ext (aX bG d os)) jC rfl eW eX) ?_)|quiet_step (first|with_reducible exact dK (kv.out _)))
 refine wpQuiet_nil ?_;intro _ bj;obtain⟨⟨aQ,osq⟩,cq⟩:=bj;subst cq;replace aS:=(aS).ext (aX bG aQ osq);replace EE:=hide (EE.out.trans (aX bG aQ osq));obtain⟨bp,eF⟩:∃ w,grow (redrawn bG aQ) osq=w:=⟨_,rfl⟩;rw[eF] at EE aS ⊢;clear eF;go_upto_region 3 with fail
 have qx:=fun d os=>(((aS).ext (aX bp d os)).cell 1).trans (f1)
 refine eK ?_;repeat (first|go_big_quiet_step (fail)|quiet_step (fail))
 refine wpQuiet_nil ?_;intro _ bj;obtain⟨⟨aQ,osq⟩,cq⟩:=bj;subst cq;replace aS:=(aS).ext (aX bp aQ osq);replace EE:=hide (EE.out.trans (aX bp aQ osq));obtain⟨bZ,mQ⟩:∃ w,grow (redrawn bp aQ) osq=w:=⟨_,rfl⟩;rw[mQ] at EE aS ⊢;clear mQ qx;go_wp2_with fail
 go_ret2
 exact⟨rfl,EE.out⟩
set_option maxRecDepth 100000 in
theorem ajI (e n t v l:Int) (K:Array Value) (cS:K.size=21) (eI:K.all (·.oneCell')=true) (f:Fr) (W:World) (kv:Hid (∀ w,Calls Tryz.prog 42 #[.agg (aI e n t v l K)] w (aP (.bool true) w))) (d0:(n==0)=false) (og:Hid (∀ w,Calls Tryz.prog 73 #[.agg (aI e n t v l K)] w (aP (.agg (fU (n,v,f))) w))) :
 Calls Tryz.prog 40 #[.agg (aI e n t v l K)] W (gi W (fun z=>.tuple #[z,.int .i64 0]) [(n,v,f)]):=by
 have eX:=hR (e:=e) (n:=n) (t:=t) (v:=v) (l:=l) cS;have kf:=jU (e:=e) (n:=n) (t:=t) (v:=v) (l:=l) eI;obtain⟨f0,f1,f2,f3,f4,fs,fk⟩:=nX (e:=e) (n:=n) (t:=t) (v:=v) (l:=l) cS;obtain⟨X,dk⟩:=aM (aI e n t v l K);rw[dk] at eX kf f0 f1 f2 f3 f4 fs fk kv og ⊢;clear dk;have aS:=aG.new W 33 X;have EE:=hide (aA W (.cells X 33));obtain⟨bG,bD⟩:=aM ((W.alloc (.cells X 33)));obtain⟨g0,af⟩:∃ g,W.heap.size=g:=⟨_,rfl⟩;rw[bD] at aS EE;rw[af] at aS;have wK:W.heap.size≤g0:=by omega
 have aB:=hide bD;have bW:=hide af;clear bD af;go_enter Tryz.func40,Tryz.ntmps40
 go_upto_region 1 with fail
 rw[aB.out,bW.out];clear aB bW;refine eK ?_;repeat (first|go_big_quiet_step (first|with_reducible exact dK (kv.out _))|(refine iE (by kernel_rfl) rfl rfl (fun w hw=>by obtain⟨⟨d,os⟩,rfl⟩:=hw;exact dF ((aS).ext (aX bG d os)) jC rfl eW eX) ?_)|quiet_step (first|with_reducible exact dK (kv.out _)))
 refine wpQuiet_nil ?_;intro _ bj;obtain⟨⟨aQ,osq⟩,cq⟩:=bj;subst cq;replace aS:=(aS).ext (aX bG aQ osq);replace EE:=hide (EE.out.trans (aX bG aQ osq));obtain⟨bp,eF⟩:∃ w,grow (redrawn bG aQ) osq=w:=⟨_,rfl⟩;rw[eF] at EE aS ⊢;clear eF;go_upto_region 3 with fail
 have qx:=fun d os=>(((aS).ext (aX bp d os)).cell 1).trans (f1)
 refine eK ?_;repeat (first|go_big_quiet_step (fail)|quiet_step (fail))
 refine wpQuiet_nil ?_;intro _ bj;obtain⟨⟨aQ,osq⟩,cq⟩:=bj;subst cq;replace aS:=(aS).ext (aX bp aQ osq);replace EE:=hide (EE.out.trans (aX bp aQ osq));obtain⟨bZ,mQ⟩:∃ w,grow (redrawn bp aQ) osq=w:=⟨_,rfl⟩;rw[mQ] at EE aS ⊢;clear mQ qx;go_upto_region 5 with fail
 have fe:=EE.out.size;have uG:=aS.lt;refine eB [.q,.q,.gO 0,.q,.q] [0,0,0,1,0] (fun R=>[.agg X,.agg (fU (n,v,f)),undef,(R 0),.int .i64 0]) (fun _=>(.cells #[] 0 (0,0))) (fun R _=>(.cells #[] 0 (0,0))) (fun _=>0) (w2 W bZ (n,v,f)) (fun _=>False) (by kernel_rfl) (by kernel_rfl) (by kernel_rfl) rfl (fun _=>rfl) (fun _ h=>h.elim) (fun _ _ h=>h) (by simp) (by simp) (fun R b1=>⟨fun _=>rfl,fun _=>rfl,fun _=>rfl,fun h=>by simp only[h 0 (by decide)],fun _=>rfl,trivial⟩) (fun _ _ _ _=>rfl) Wa ⟨EE.out,fun h=>absurd h (by decide)⟩ ?NM ?Kd;case NM =>
  refine⟨?_,d_ og,?_,aH,aH,trivial⟩
  ·refine cj fun R s w' aw hs hw ha=>?_
   have L:=dF (aS.aY hw (fun h=>h) (by simp)) jC rfl eW eX;generalize hA:bB _ _ _ _ _ _ _=c3;refine e7 rfl ?_ L;subst hA;kernel_rfl
  ·refine C6 (m:=0) ?gA ?gx ?_;case gA=>exact rfl
   case gx=>exact cu rfl
   intro R w' aw hw;have hz:=hw.2.2.2.1;generalize hA:bB _ _ _ _ _ _ _=c3;refine Kg (n,v,f) rfl ?_ (Wb aw hz);subst hA;kernel_rfl
 case Kd =>
  intro cY R G B4 ae;have hS:=ae.same;have aZ:=ae.holds;have bf:=EE.out.size;have sP:0<cY:=(ae.stage 2 (show 2<5 by decide) 0 rfl).1 (List.mem_range.2 (show 2<5 by decide));obtain⟨q,iJ,aO,yz⟩:=aZ.2 sP;replace aS:=aS.aY hS (fun h=>h) (by simp);replace EE:=hide (show Ext _ _ from aZ.1);clear hS bf aZ ae uG;generalize hF:bB _ _ _ _ _ _ _=bH;have bI:bH={ tmps:=#[.agg X,.pointer (some ⟨g0,0,none⟩),(R 0),.int .i64 0,.agg X,.bool true,.bool false,.pointer (some ⟨g0,1,none⟩),.int .i64 n,.bool false,.agg X,.agg (fU (n,v,f)),(R 0)],defers:=[] }:=by subst hF;kernel_rfl
  clear hF;subst bI;(try simp only[iJ])
  go_wp2_with fail
  go_ret2
  exact⟨_,1,1,rfl,Nat.le_refl _,by kernel_rfl,NS _ yz (Nat.le_trans fe aO),EE.out⟩
end
end Go.Proofs.YtojbopibfflnoaaGreat
