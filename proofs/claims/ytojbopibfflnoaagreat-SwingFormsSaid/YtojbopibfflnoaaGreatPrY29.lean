/- Facts. -/
import Derived.Test.YtojbopibfflnoaaGreatPrY27
import Derived.Test.YtojbopibfflnoaaGreatPrY28
namespace Go.Proofs.YtojbopibfflnoaaGreat
open Go renaming undef → k, World → y, Value → m, Calls → z, bodyPost_ret → B7, wpQuiet_nil → B', redrawn → aw5, Ending → axa, Addr → aw6, wpAny_take → axg
open _root_.Go.Proofs.Tryz renaming prog → r
set_option linter.unusedVariables false
set_option linter.unusedSimpArgs false
set_option maxHeartbeats 16000000
set_option maxRecDepth 100000
section
open Go Go.RowKit Go.Sort
attribute [local go_sem] mg A3 bB BX
def FG(g:Nat)(W:y)(X:Array m)(Q:m)(b:Bool)(e:axa)(w':y):Prop:=e=.returned (.bool b)/\aG w' g 86 (cV X Q)/\b3 g W w'
theorem ai2(e n t v l:Int)(K:Array m)(cS:K.size=21)(eI:K.all (·.oneCell')=true)(g:Nat)(Q:m)(t' v':Int)(wr:IntKind.i64.wrap (n+1)=n+1)(dt:Nat)(C M:Array m)(cb:Bool)(nW:C.size=21)(s6:C.all (·.oneCell')=true)(gJ:M.size=21)(qb:M.all (·.oneCell')=true)
 (bQ:Hid (∀ w,z r 95 #[.int .i64 v] w (aP (.agg (dC v)) w))) (bY:Hid (∀ w,z r 96 #[.int .i64 t',.int .i64 t] w (aP (.int .u64 (dt:Int)) w))) (cX:Hid (∀ w,z r 94 #[.agg (dC v),.int .i64 v',.int .i64 e,.int .u64 (dt:Int)] w (aP (.tuple #[.agg C,.bool cb]) w))) (ev:Hid (∀ w,z r 97 #[.agg K,.agg C] w (aP (.tuple #[.agg M,true]) w))) (W:y) (bJ:aG W g 86 (cV (aI e n t v l K) Q)) :
 z r 79 #[yj g 0,.agg (bO t' v')] W (FG g W (aI e (n+1) t v t' M) Q true):=by
 obtain⟨f0,f1,f2,f3,f4,f26,A6,fk⟩:=qe (e:=e) (n:=n) (t:=t) (v:=v) (l:=l) (q:=Q) cS;have BW:=qP (e:=e) (n:=n) (t:=t) (v:=v) (l:=l) (q:=Q) cS;have DM:=bJ.lt;have aq:=aG.new W 23 (bO t' v');have EE:=hide (aA W (.cells (bO t' v') 23));obtain⟨bG,bD⟩:=aM ((W.alloc (.cells (bO t' v') 23)));obtain⟨g0,af⟩:∃ g,W.heap.size=g:=⟨_,rfl⟩;rw[bD] at aq EE;rw[af] at aq;have r9:W.heap.size<=g0:=by omega
 have aB:=hide bD;have bW:=hide af;clear bD af;go_enter Tryz.func79,Tryz.ntmps79
 go_upto_region 1 with fail
 rw[aB.out,bW.out];clear aB bW;replace bJ:=bJ.ext EE.out;replace EE:=hide (Ext.c7 EE.out g);have gM:=aq.lt;have oB:=bJ.lt;refine kl [.q,.q,.q,.q,.q,.q,.q,.q,.q,.q,.q,.q,.q,.q,.q,.q,.q,.q,.q,.q,.q,.q,.q,.q,.q,.q,.q,.al,.st 27,.q] [0,0,0,0,0,0,0,0,0,0,0,0,0,0,0,0,0,0,0,0,0,0,0,0,0,0,0,0,0,0] (fun R=>[yj g 0,yj g 0,yj g 0,yj g 2,yj g 3,.int .i64 v,.agg (dC v),yj g0 1,.int .i64 v',yj g 0,yj g 0,yj g 0,yj g 0,.int .i64 e,yj g0 0,.int .i64 t',yj g 0,yj g 0,yj g 0,yj g 2,yj g 2,.int .i64 t,.int .u64 (dt:Int),.tuple #[.agg C,.bool cb],.tuple #[.agg C,.bool cb],.agg C,.bool cb,k,k,.bool cb]) (fun _=>(.cells z21 31 (0,0))) (fun R _=>(.cells C 31 (0,0))) (fun _=>0) (uQ g W) (fun _=>False) (by kernel_rfl) (by kernel_rfl) (by kernel_rfl) (by kernel_rfl) rfl (fun _=>rfl) (fun _ h=>h.elim) (fun _ _ h=>h) (by simp) (by simp) (fun R b1=>⟨fun _=>rfl,fun _=>rfl,fun _=>rfl,fun _=>rfl,fun _=>rfl,fun _=>rfl,fun _=>rfl,fun _=>rfl,fun _=>rfl,fun _=>rfl,fun _=>rfl,fun _=>rfl,fun _=>rfl,fun _=>rfl,fun _=>rfl,fun _=>rfl,fun _=>rfl,fun _=>rfl,fun _=>rfl,fun _=>rfl,fun _=>rfl,fun _=>rfl,fun _=>rfl,fun _=>rfl,fun _=>rfl,fun _=>rfl,fun _=>rfl,fun _=>rfl,fun _=>rfl,fun _=>rfl,trivial⟩) (fun _ _ _ _=>rfl) z8 EE.out.drew ?EQ ?C4;case EQ =>
  refine⟨aH,aH,aH,aH,aH,?_,d_ bQ,aH,?_,aH,aH,aH,aH,?_,aH,?_,aH,aH,aH,aH,aH,?_,d_ bY,d_ cX,aH,aH,aH,?_,?_,aH,trivial⟩
  ·refine cj fun R s w' aw hs hw ha=>?_
   have cc:=((show aG w' g _ (cV (aI e n t v l K) Q) from bJ.aY hw (fun h=>h) (by simp)).cell 3).trans (f3);go_simp
  ·refine cj fun R s w' aw hs hw ha=>?_
   have cc:=((show aG w' g0 _ (bO t' v') from aq.aY hw (fun h=>h) (by simp)).cell 1).trans (show (bO t' v')[1]?=some (.int .i64 v') from rfl);go_simp
  ·refine cj fun R s w' aw hs hw ha=>?_
   have cc:=((show aG w' g _ (cV (aI e n t v l K) Q) from bJ.aY hw (fun h=>h) (by simp)).cell 0).trans (f0);go_simp
  ·refine cj fun R s w' aw hs hw ha=>?_
   have cc:=((show aG w' g0 _ (bO t' v') from aq.aY hw (fun h=>h) (by simp)).cell 0).trans (show (bO t' v')[0]?=some (.int .i64 t') from rfl);go_simp
  ·refine cj fun R s w' aw hs hw ha=>?_
   have cc:=((show aG w' g _ (cV (aI e n t v l K) Q) from bJ.aY hw (fun h=>h) (by simp)).cell 2).trans (f2);go_simp
  ·refine ia ?Am ?vH ?vN ?vi ?_;case Am=>exact(.cells z21 31 (0,0))
   case vH=>exact rfl
   case vN=>exact rfl
   case vi=>exact cu rfl
   intro ρ w';go_simp;exact⟨rfl,rfl⟩
  ·refine ib (j:=27) (Ty:=?XP) (p:=?ajq) (x:=?anS) ?Kj ?PX ?Fi ?D1 ?Ny ?Ew ?MW ?Di ?J3 ?_;case D1=>exact rfl
   case Ny=>exact rfl
   case Kj=>exact(fun R=>(.cells C 31 (0,0)))
   case PX=>exact(.cells z21 31 (0,0))
   case Fi=>exact(fun R=>.agg C)
   case Ew=>exact(fun R=>rfl)
   case MW=>exact rfl
   case Di=>exact cu rfl
   case J3 =>
    intro R;kernel_rfl
   intro R s ρ w g aw hs hp hx af hz;exact⟨hQ rfl hp hx hz ei (nW) (s6),fun aT hF=>H0 aw hF (Nat.le_trans EE.out.2.2.2.1 af)⟩
 case C4 =>
  intro cY R G Fk ae;have hS:=ae.same;have aZ:=ae.holds;have bf:=EE.out.2.2.2.1;replace aq:=aq.aY hS (fun h=>h) (by simp);replace bJ:=bJ.aY hS (fun h=>h) (by simp);have bn:aG Fk (G 27) 31 C:=(ae.eV 28 (List.mem_range.2 (show 28<30 by decide)) 27 rfl).2.2;have LR:=(ae.made 27 (List.mem_range.2 (show 27<30 by decide)) rfl).1;have Xz:W.heap.size<=G 27:=Nat.le_trans bf LR;have ag5:g0≠G 27:=by omega
  have aho:g≠G 27:=by omega
  replace EE:=hide (show b3 g _ _ from aZ);clear hS bf aZ ae gM oB;generalize hF:bB _ _ _ _ _ _ _=bH;have bI:bH={ tmps:=#[(yj g 0:m),.agg (bO t' v'),k,(yj g0 0:m),.bool false,(yj (G 27) 0:m),.bool cb,k,k,.tuple #[.agg C,.bool cb],(yj g 0:m),(yj g 0:m),(yj g 0:m),(yj g 2:m),(yj g 3:m),.int .i64 v,.agg (dC v),(yj g0 1:m),.int .i64 v',(yj g 0:m),(yj g 0:m),(yj g 0:m),(yj g 0:m),.int .i64 e,(yj g0 0:m),.int .i64 t',(yj g 0:m),(yj g 0:m),(yj g 0:m),(yj g 2:m),(yj g 2:m),.int .i64 t,.int .u64 (dt:Int),.tuple #[.agg C,.bool cb],.agg C,.bool cb,k,k,k,k,k,k,k,k,k,k,k,k,k,k,k,k,k,k,k,k,k,k,k,k,k,k,k,k,k,k,k,k],defers:=[] }:=by subst hF;kernel_rfl
  clear hF;subst bI;generalize G 27=g5 at *;go_upto_region 2 with fail
  have gM:=aq.lt;have oB:=bJ.lt;have Cl:=bn.lt;refine kl [.q,.q,.q,.q,.q,.q,.q,.q,.q,.q,.al,.st 10,.q] [0,0,0,0,0,0,0,0,0,0,0,0,0] (fun R=>[yj g 0,yj g 0,yj g 0,yj g 5,.agg K,.agg C,.tuple #[.agg M,true],.tuple #[.agg M,true],.agg M,.bool true,k,k,.bool true]) (fun _=>(.cells z21 31 (0,0))) (fun R _=>(.cells M 31 (0,0))) (fun _=>0) (uQ g W) (fun _=>False) (by kernel_rfl) (by kernel_rfl) (by kernel_rfl) (by kernel_rfl) rfl (fun _=>rfl) (fun _ h=>h.elim) (fun _ _ h=>h) (by simp) (by simp) (fun R b1=>⟨fun _=>rfl,fun _=>rfl,fun _=>rfl,fun _=>rfl,fun _=>rfl,fun _=>rfl,fun _=>rfl,fun _=>rfl,fun _=>rfl,fun _=>rfl,fun _=>rfl,fun _=>rfl,fun _=>rfl,trivial⟩) (fun _ _ _ _=>rfl) z8 EE.out.drew ?NK ?Ka;case NK =>
   refine⟨aH,aH,aH,aH,?_,?_,d_ ev,aH,aH,aH,?_,?_,aH,trivial⟩
   ·refine cj fun R s w' aw hs hw ha=>?_
    have L:=pH (bJ.aY hw (fun h=>h) (by simp)) _ _ fV rfl 5 21 ei (by rw[(qP cS)];first|decide|omega) _ (fk);generalize hA:bB _ _ _ _ _ _ _=c3;refine e7 rfl ?_ L;subst hA;kernel_rfl
   ·refine cj fun R s w' aw hs hw ha=>?_
    have L:=dF (bn.aY hw (fun h=>h) (by simp)) fV rfl ei nW;generalize hA:bB _ _ _ _ _ _ _=c3;refine e7 rfl ?_ L;subst hA;kernel_rfl
   ·refine ia ?P1 ?L1 ?ML ?KD ?_;case P1=>exact(.cells z21 31 (0,0))
    case L1=>exact rfl
    case ML=>exact rfl
    case KD=>exact cu rfl
    intro ρ w';go_simp;exact⟨rfl,rfl⟩
   ·refine ib (j:=10) (Ty:=?XR) (p:=?ajs) (x:=?anU) ?Kl ?FB ?Pn ?D3 ?NA ?Ey ?MY ?Dk ?J5 ?_;case D3=>exact rfl
    case NA=>exact rfl
    case Kl=>exact(fun R=>(.cells M 31 (0,0)))
    case FB=>exact(.cells z21 31 (0,0))
    case Pn=>exact(fun R=>.agg M)
    case Ey=>exact(fun R=>rfl)
    case MY=>exact rfl
    case Dk=>exact cu rfl
    case J5 =>
     intro R;kernel_rfl
    intro R s ρ w g aw hs hp hx af hz;exact⟨hQ rfl hp hx hz ei (gJ) (qb),fun aT hF=>H0 aw hF (Nat.le_trans EE.out.2.2.2.1 af)⟩
  case Ka =>
   intro cY R G oT ae;have hS:=ae.same;have aZ:=ae.holds;have bf:=EE.out.2.2.2.1;replace aq:=aq.aY hS (fun h=>h) (by simp);replace bJ:=bJ.aY hS (fun h=>h) (by simp);replace bn:=bn.aY hS (fun h=>h) (by simp);have bl:aG oT (G 10) 31 M:=(ae.eV 11 (List.mem_range.2 (show 11<13 by decide)) 10 rfl).2.2;have xq:=(ae.made 10 (List.mem_range.2 (show 10<13 by decide)) rfl).1;have I6:W.heap.size<=G 10:=Nat.le_trans bf xq;have Na:g0≠G 10:=by omega
   have ahp:g≠G 10:=by omega
   have ahf:g5≠G 10:=by omega
   replace EE:=hide (show b3 g _ _ from aZ);clear hS bf aZ ae gM oB Cl;generalize hF:bB _ _ _ _ _ _ _=bH;have bI:bH={ tmps:=#[(yj g 0:m),.agg (bO t' v'),k,(yj g0 0:m),.bool false,(yj g5 0:m),.bool cb,(yj (G 10) 0:m),.bool true,.tuple #[.agg C,.bool cb],(yj g 0:m),(yj g 0:m),(yj g 0:m),(yj g 2:m),(yj g 3:m),.int .i64 v,.agg (dC v),(yj g0 1:m),.int .i64 v',(yj g 0:m),(yj g 0:m),(yj g 0:m),(yj g 0:m),.int .i64 e,(yj g0 0:m),.int .i64 t',(yj g 0:m),(yj g 0:m),(yj g 0:m),(yj g 2:m),(yj g 2:m),.int .i64 t,.int .u64 (dt:Int),.tuple #[.agg C,.bool cb],.agg C,.bool cb,.tuple #[.agg M,true],(yj g 0:m),(yj g 0:m),(yj g 0:m),(yj g 5:m),.agg K,.agg C,.tuple #[.agg M,true],.agg M,.bool true,k,k,k,k,k,k,k,k,k,k,k,k,k,k,k,k,k,k,k,k,k,k],defers:=[] }:=by subst hF;kernel_rfl
   clear hF;subst bI;generalize G 10=g7 at *;go_upto_region 3 with fail
   refine eK ?_;repeat (first|go_big_quiet_step (fail)|quiet_step (fail))
   refine B' ?_;intro _ bj;obtain⟨⟨aQ,osq⟩,cq⟩:=bj;subst cq;replace aq:=(aq).ext (aX oT aQ osq);replace bJ:=(bJ).ext (aX oT aQ osq);replace bn:=(bn).ext (aX oT aQ osq);replace bl:=(bl).ext (aX oT aQ osq);replace EE:=hide (EE.out.more (aX oT aQ osq));obtain⟨Pt,Eo⟩:∃ w,grow (aw5 oT aQ) osq=w:=⟨_,rfl⟩;rw[Eo] at EE aq bJ bn bl |-;clear Eo;go_upto_region 4 with fail
   refine Wg (f:={ tmps:=#[(yj g 0:m),.agg (bO t' v'),k,(yj g0 0:m),.bool false,(yj g5 0:m),.bool cb,(yj g7 0:m),.bool true,.tuple #[.agg C,.bool cb],(yj g 0:m),(yj g 0:m),(yj g 0:m),(yj g 2:m),(yj g 3:m),.int .i64 v,.agg (dC v),(yj g0 1:m),.int .i64 v',(yj g 0:m),(yj g 0:m),(yj g 0:m),(yj g 0:m),.int .i64 e,(yj g0 0:m),.int .i64 t',(yj g 0:m),(yj g 0:m),(yj g 0:m),(yj g 2:m),(yj g 2:m),.int .i64 t,.int .u64 (dt:Int),.tuple #[.agg C,.bool cb],.agg C,.bool cb,.tuple #[.agg M,true],(yj g 0:m),(yj g 0:m),(yj g 0:m),(yj g 5:m),.agg K,.agg C,.tuple #[.agg M,true],.agg M,.bool true,.bool true,(yj g 0:m),(yj g 0:m),.agg M,(yj g0 0:m),.int .i64 t',(yj g 0:m),(yj g 0:m),(yj g 5:m),(yj g 0:m),(yj g 0:m),(yj g 4:m),k,k,k,k,k,k,k,k,k,k],defers:=[] }) (fun w'=>aG w' g0 23 (bO t' v')/\aG w' g 86 (cV (aI e n t v t' M) Q)/\aG w' g5 31 C/\aG w' g7 31 M/\b3 g W w') (fun _ _ d _ _ h=>by cases d<;>exact h) (fun Q' dL dQ=>?akm) (fun atf aeR=>?ako);case akm =>
    refine wp_region_any (by kernel_rfl) ?_;change wpAny _ _ _ _ _ _ _ (World.drew _);replace aq:=(aq).ext (b5 _);replace bJ:=(bJ).ext (b5 _);replace bn:=(bn).ext (b5 _);replace bl:=(bl).ext (b5 _);replace EE:=hide EE.out.drew;refine axg (i:=0) (v:=.pointer (some ⟨g,0,none⟩)) rfl (by kernel_rfl) (by kernel_rfl) (by kernel_rfl) (fun c a w h=>dL c _ _ _ w h) (Or.inl ⟨by rfl,by intro w;go_simp⟩) ?_;refine axg (i:=1) (v:=.pointer (some ⟨g,0,none⟩)) rfl (by kernel_rfl) (by kernel_rfl) (by kernel_rfl) (fun c a w h=>dL c _ _ _ w h) (Or.inl ⟨by rfl,by intro w;go_simp⟩) ?_;refine axg (i:=3) (v:=.pointer (some ⟨g0,0,none⟩)) rfl (by kernel_rfl) (by kernel_rfl) (by kernel_rfl) (fun c a w h=>dL c _ _ _ w h) (Or.inl ⟨by rfl,by intro w;go_simp⟩) ?_;refine wpAny_ready (rs:=[2,4]) (by kernel_rfl) (by simp) ?_;with_reducible refine lH (i := 2) (rs := [4]) (o := { dst := some 49, op := Go.Op.load 31 (Go.Operand.tmp 7), type := 31, pos := "swing.go:100", after := #[], guard := none }) ?ais ?Yq ?YW
    case ais=>exact rfl
    case Yq =>
     with_reducible refine ui (ty:=31) (x:=.tmp 7) (u:=.pointer (some ⟨g7,0,none⟩)) (v:=.agg M) ?acv ?ae2 ?an2 ?akA ?alI
     case acv=>exact rfl
     case ae2=>exact rfl
     case an2=>kernel_rfl
     case akA=>exact dF bl fV rfl ei gJ
     case alI =>
     refine axg (i:=5) (v:=.pointer (some ⟨g,0,none⟩)) rfl (by kernel_rfl) (by kernel_rfl) (by kernel_rfl) (fun c a w h=>dL c _ _ _ w h) (Or.inl ⟨by rfl,by intro w;go_simp⟩) ?_;refine axg (i:=6) (v:=.pointer (some ⟨g,0,none⟩)) rfl (by kernel_rfl) (by kernel_rfl) (by kernel_rfl) (fun c a w h=>dL c _ _ _ w h) (Or.inl ⟨by rfl,by intro w;go_simp⟩) ?_;refine axg (i:=7) (v:=.pointer (some ⟨g,5,none⟩)) rfl (by kernel_rfl) (by kernel_rfl) (by kernel_rfl) (fun c a w h=>dL c _ _ _ w h) (Or.inl ⟨by rfl,by intro w;go_simp⟩) ?_;refine wpAny_ready (rs:=[4,8]) (by kernel_rfl) (by simp) ?_;with_reducible refine lH (i := 4) (rs := [8]) (o := { dst := some 51, op := Go.Op.load 2 (Go.Operand.tmp 50), type := 2, pos := "swing.go:100", after := #[{ on := 3, ground := Go.Ground.data }, { on := 8, ground := Go.Ground.gcOnly Go.Departure.lateStores }], guard := none }) ?aiv ?Yt ?Y0
     case aiv=>exact rfl
     case Yt =>
      with_reducible refine ui (ty:=2) (x:=.tmp 50) (u:=.pointer (some ⟨g0,0,none⟩)) (v:=.int .i64 t') ?acy ?ae3 ?an3 ?akB ?alL
      case acy=>exact rfl
      case ae3=>exact rfl
      case an3=>kernel_rfl
      case akB=>exact(by have cc:=((aq).cell 0).trans (show (bO t' v')[0]?=some (.int .i64 t') from rfl);go_simp)
      case alL =>
      refine wpAny_ready (rs:=[8]) (by kernel_rfl) (by simp) ?_;with_reducible refine lH (i := 8) (rs := []) (o := { dst := none, op := Go.Op.store 31 (Go.Operand.tmp 54) (Go.Operand.tmp 49), type := 0, pos := "swing.go:100", after := #[{ on := 7, ground := Go.Ground.data }, { on := 2, ground := Go.Ground.data }, { on := 0, ground := Go.Ground.phase }, { on := 1, ground := Go.Ground.textOnly Go.Departure.lateStores }, { on := 2, ground := Go.Ground.phase }, { on := 3, ground := Go.Ground.textOnly Go.Departure.lateStores }, { on := 4, ground := Go.Ground.textOnly Go.Departure.lateStores }], guard := none }) ?aiw ?Yu ?Y1
      case aiw=>exact rfl
      case Yu =>
       with_reducible refine rQ (g:=g) (f:=(.cells (cV (aI e n t v l M) Q) 86 (0,0))) ?acz ?ak6 ?alM
       case acz=>exact rfl
       case ak6 =>
        have aD:=Ox bJ cS gJ qb;refine uj (g:=g) (u:=.pointer (some ⟨g,5,none⟩)) (v:=.agg M) rfl ?_ ?_ bJ aD
        ·kernel_rfl
        ·kernel_rfl
       case alM =>
        intro b6 hF;replace bJ:aG b6 g 86 (cV (aI e n t v l M) Q):=hF.1;replace aq:=hF.fR aq (by omega);replace bn:=hF.fR bn (by omega);replace bl:=hF.fR bl (by omega);replace EE:=hide (vZ EE.out hF);clear hF;refine axg (i:=9) (v:=.pointer (some ⟨g,0,none⟩)) rfl (by kernel_rfl) (by kernel_rfl) (by kernel_rfl) (fun c a w h=>dL c _ _ _ w h) (Or.inl ⟨by rfl,by intro w;go_simp⟩) ?_;refine axg (i:=10) (v:=.pointer (some ⟨g,0,none⟩)) rfl (by kernel_rfl) (by kernel_rfl) (by kernel_rfl) (fun c a w h=>dL c _ _ _ w h) (Or.inl ⟨by rfl,by intro w;go_simp⟩) ?_;refine axg (i:=11) (v:=.pointer (some ⟨g,4,none⟩)) rfl (by kernel_rfl) (by kernel_rfl) (by kernel_rfl) (fun c a w h=>dL c _ _ _ w h) (Or.inl ⟨by rfl,by intro w;go_simp⟩) ?_;refine wpAny_ready (rs:=[12]) (by kernel_rfl) (by simp) ?_;with_reducible refine lH (i := 12) (rs := []) (o := { dst := none, op := Go.Op.store 2 (Go.Operand.tmp 57) (Go.Operand.tmp 51), type := 0, pos := "swing.go:100", after := #[{ on := 11, ground := Go.Ground.data }, { on := 4, ground := Go.Ground.data }, { on := 8, ground := Go.Ground.chain }, { on := 0, ground := Go.Ground.phase }, { on := 1, ground := Go.Ground.phase }, { on := 2, ground := Go.Ground.phase }, { on := 3, ground := Go.Ground.phase }, { on := 4, ground := Go.Ground.phase }, { on := 5, ground := Go.Ground.phase }, { on := 6, ground := Go.Ground.phase }, { on := 7, ground := Go.Ground.phase }, { on := 8, ground := Go.Ground.phase }], guard := none }) ?aix ?Yv ?Y2
        case aix=>exact rfl
        case Yv =>
         have hc:=((bJ).cell 4).trans ((qe (e:=e) (n:=n) (t:=t) (v:=v) (l:=l) (q:=Q) gJ).2.2.2.2.1);have hf:=(bJ).frozen 4;with_reducible refine rQ (g:=g) (f:=(.cells (cV (aI e n t v t' M) Q) 86 (0,0))) ?acA ?ak7 ?alN
         case acA=>exact rfl
         case ak7 =>
          refine qR (g:=g) (off:=4) (v:=.int .i64 t') (Ty:=2) rfl ?_ ?_ bJ ((EZ gJ _ Q).2.1) ?_
          ·kernel_rfl
          ·kernel_rfl
          ·go_simp
         case alN =>
          intro b6 hF;replace bJ:aG b6 g 86 (cV (aI e n t v t' M) Q):=hF.1;replace aq:=hF.fR aq (by omega);replace bn:=hF.fR bn (by omega);replace bl:=hF.fR bl (by omega);replace EE:=hide (vZ EE.out hF);clear hF;refine wpAny_done (by kernel_rfl) ?_ _;exact BI (dQ _ ⟨aq,bJ,bn,bl,EE.out⟩) (by kernel_rfl)
        case Y2 =>
         exact AllReady.nil
      case Y1 =>
       exact AllReady.nil
     case Y0 =>
      with_reducible refine lH (i := 8) (rs := []) (o := { dst := none, op := Go.Op.store 31 (Go.Operand.tmp 54) (Go.Operand.tmp 49), type := 0, pos := "swing.go:100", after := #[{ on := 7, ground := Go.Ground.data }, { on := 2, ground := Go.Ground.data }, { on := 0, ground := Go.Ground.phase }, { on := 1, ground := Go.Ground.textOnly Go.Departure.lateStores }, { on := 2, ground := Go.Ground.phase }, { on := 3, ground := Go.Ground.textOnly Go.Departure.lateStores }, { on := 4, ground := Go.Ground.textOnly Go.Departure.lateStores }], guard := none }) ?aiy ?Yw ?Y3
      case aiy=>exact rfl
      case Yw =>
       with_reducible refine rQ (g:=g) (f:=(.cells (cV (aI e n t v l M) Q) 86 (0,0))) ?acB ?ak8 ?alO
       case acB=>exact rfl
       case ak8 =>
        have aD:=Ox bJ cS gJ qb;refine uj (g:=g) (u:=.pointer (some ⟨g,5,none⟩)) (v:=.agg M) rfl ?_ ?_ bJ aD
        ·kernel_rfl
        ·kernel_rfl
       case alO =>
        intro b6 hF;replace bJ:aG b6 g 86 (cV (aI e n t v l M) Q):=hF.1;replace aq:=hF.fR aq (by omega);replace bn:=hF.fR bn (by omega);replace bl:=hF.fR bl (by omega);replace EE:=hide (vZ EE.out hF);clear hF;refine wpAny_ready (rs:=[4]) (by kernel_rfl) (by simp) ?_;with_reducible refine lH (i := 4) (rs := []) (o := { dst := some 51, op := Go.Op.load 2 (Go.Operand.tmp 50), type := 2, pos := "swing.go:100", after := #[{ on := 3, ground := Go.Ground.data }, { on := 8, ground := Go.Ground.gcOnly Go.Departure.lateStores }], guard := none }) ?aiz ?Yx ?Y4
        case aiz=>exact rfl
        case Yx =>
         with_reducible refine ui (ty:=2) (x:=.tmp 50) (u:=.pointer (some ⟨g0,0,none⟩)) (v:=.int .i64 t') ?acC ?ae4 ?an4 ?akC ?alP
         case acC=>exact rfl
         case ae4=>exact rfl
         case an4=>kernel_rfl
         case akC=>exact(by have cc:=((aq).cell 0).trans (show (bO t' v')[0]?=some (.int .i64 t') from rfl);go_simp)
         case alP =>
         refine axg (i:=9) (v:=.pointer (some ⟨g,0,none⟩)) rfl (by kernel_rfl) (by kernel_rfl) (by kernel_rfl) (fun c a w h=>dL c _ _ _ w h) (Or.inl ⟨by rfl,by intro w;go_simp⟩) ?_;refine axg (i:=10) (v:=.pointer (some ⟨g,0,none⟩)) rfl (by kernel_rfl) (by kernel_rfl) (by kernel_rfl) (fun c a w h=>dL c _ _ _ w h) (Or.inl ⟨by rfl,by intro w;go_simp⟩) ?_;refine axg (i:=11) (v:=.pointer (some ⟨g,4,none⟩)) rfl (by kernel_rfl) (by kernel_rfl) (by kernel_rfl) (fun c a w h=>dL c _ _ _ w h) (Or.inl ⟨by rfl,by intro w;go_simp⟩) ?_;refine wpAny_ready (rs:=[12]) (by kernel_rfl) (by simp) ?_;with_reducible refine lH (i := 12) (rs := []) (o := { dst := none, op := Go.Op.store 2 (Go.Operand.tmp 57) (Go.Operand.tmp 51), type := 0, pos := "swing.go:100", after := #[{ on := 11, ground := Go.Ground.data }, { on := 4, ground := Go.Ground.data }, { on := 8, ground := Go.Ground.chain }, { on := 0, ground := Go.Ground.phase }, { on := 1, ground := Go.Ground.phase }, { on := 2, ground := Go.Ground.phase }, { on := 3, ground := Go.Ground.phase }, { on := 4, ground := Go.Ground.phase }, { on := 5, ground := Go.Ground.phase }, { on := 6, ground := Go.Ground.phase }, { on := 7, ground := Go.Ground.phase }, { on := 8, ground := Go.Ground.phase }], guard := none }) ?aiA ?Yy ?Y5
         case aiA=>exact rfl
         case Yy =>
          have hc:=((bJ).cell 4).trans ((qe (e:=e) (n:=n) (t:=t) (v:=v) (l:=l) (q:=Q) gJ).2.2.2.2.1);have hf:=(bJ).frozen 4;with_reducible refine rQ (g:=g) (f:=(.cells (cV (aI e n t v t' M) Q) 86 (0,0))) ?acD ?ak9 ?alQ
          case acD=>exact rfl
          case ak9 =>
           refine qR (g:=g) (off:=4) (v:=.int .i64 t') (Ty:=2) rfl ?_ ?_ bJ ((EZ gJ _ Q).2.1) ?_
           ·kernel_rfl
           ·kernel_rfl
           ·go_simp
          case alQ =>
           intro b6 hF;replace bJ:aG b6 g 86 (cV (aI e n t v t' M) Q):=hF.1;replace aq:=hF.fR aq (by omega);replace bn:=hF.fR bn (by omega);replace bl:=hF.fR bl (by omega);replace EE:=hide (vZ EE.out hF);clear hF;refine wpAny_done (by kernel_rfl) ?_ _;exact BI (dQ _ ⟨aq,bJ,bn,bl,EE.out⟩) (by kernel_rfl)
         case Y5 =>
          exact AllReady.nil
        case Y4 =>
         exact AllReady.nil
      case Y3 =>
       exact AllReady.nil
    case YW =>
     with_reducible refine lH (i := 4) (rs := []) (o := { dst := some 51, op := Go.Op.load 2 (Go.Operand.tmp 50), type := 2, pos := "swing.go:100", after := #[{ on := 3, ground := Go.Ground.data }, { on := 8, ground := Go.Ground.gcOnly Go.Departure.lateStores }], guard := none }) ?aiB ?Yz ?Y6
     case aiB=>exact rfl
     case Yz =>
      with_reducible refine ui (ty:=2) (x:=.tmp 50) (u:=.pointer (some ⟨g0,0,none⟩)) (v:=.int .i64 t') ?acE ?ae5 ?an5 ?akD ?alR
      case acE=>exact rfl
      case ae5=>exact rfl
      case an5=>kernel_rfl
      case akD=>exact(by have cc:=((aq).cell 0).trans (show (bO t' v')[0]?=some (.int .i64 t') from rfl);go_simp)
      case alR =>
      refine wpAny_ready (rs:=[2]) (by kernel_rfl) (by simp) ?_;with_reducible refine lH (i := 2) (rs := []) (o := { dst := some 49, op := Go.Op.load 31 (Go.Operand.tmp 7), type := 31, pos := "swing.go:100", after := #[], guard := none }) ?aiC ?YA ?Y7
      case aiC=>exact rfl
      case YA =>
       with_reducible refine ui (ty:=31) (x:=.tmp 7) (u:=.pointer (some ⟨g7,0,none⟩)) (v:=.agg M) ?acF ?ae6 ?an6 ?akE ?alS
       case acF=>exact rfl
       case ae6=>exact rfl
       case an6=>kernel_rfl
       case akE=>exact dF bl fV rfl ei gJ
       case alS =>
       refine axg (i:=5) (v:=.pointer (some ⟨g,0,none⟩)) rfl (by kernel_rfl) (by kernel_rfl) (by kernel_rfl) (fun c a w h=>dL c _ _ _ w h) (Or.inl ⟨by rfl,by intro w;go_simp⟩) ?_;refine axg (i:=6) (v:=.pointer (some ⟨g,0,none⟩)) rfl (by kernel_rfl) (by kernel_rfl) (by kernel_rfl) (fun c a w h=>dL c _ _ _ w h) (Or.inl ⟨by rfl,by intro w;go_simp⟩) ?_;refine axg (i:=7) (v:=.pointer (some ⟨g,5,none⟩)) rfl (by kernel_rfl) (by kernel_rfl) (by kernel_rfl) (fun c a w h=>dL c _ _ _ w h) (Or.inl ⟨by rfl,by intro w;go_simp⟩) ?_;refine wpAny_ready (rs:=[8]) (by kernel_rfl) (by simp) ?_;with_reducible refine lH (i := 8) (rs := []) (o := { dst := none, op := Go.Op.store 31 (Go.Operand.tmp 54) (Go.Operand.tmp 49), type := 0, pos := "swing.go:100", after := #[{ on := 7, ground := Go.Ground.data }, { on := 2, ground := Go.Ground.data }, { on := 0, ground := Go.Ground.phase }, { on := 1, ground := Go.Ground.textOnly Go.Departure.lateStores }, { on := 2, ground := Go.Ground.phase }, { on := 3, ground := Go.Ground.textOnly Go.Departure.lateStores }, { on := 4, ground := Go.Ground.textOnly Go.Departure.lateStores }], guard := none }) ?ait ?Yr ?YX
       case ait=>exact rfl
       case Yr =>
        with_reducible refine rQ (g:=g) (f:=(.cells (cV (aI e n t v l M) Q) 86 (0,0))) ?acw ?ak4 ?alJ
        case acw=>exact rfl
        case ak4 =>
         have aD:=Ox bJ cS gJ qb;refine uj (g:=g) (u:=.pointer (some ⟨g,5,none⟩)) (v:=.agg M) rfl ?_ ?_ bJ aD
         ·kernel_rfl
         ·kernel_rfl
        case alJ =>
         intro b6 hF;replace bJ:aG b6 g 86 (cV (aI e n t v l M) Q):=hF.1;replace aq:=hF.fR aq (by omega);replace bn:=hF.fR bn (by omega);replace bl:=hF.fR bl (by omega);replace EE:=hide (vZ EE.out hF);clear hF;refine axg (i:=9) (v:=.pointer (some ⟨g,0,none⟩)) rfl (by kernel_rfl) (by kernel_rfl) (by kernel_rfl) (fun c a w h=>dL c _ _ _ w h) (Or.inl ⟨by rfl,by intro w;go_simp⟩) ?_;refine axg (i:=10) (v:=.pointer (some ⟨g,0,none⟩)) rfl (by kernel_rfl) (by kernel_rfl) (by kernel_rfl) (fun c a w h=>dL c _ _ _ w h) (Or.inl ⟨by rfl,by intro w;go_simp⟩) ?_;refine axg (i:=11) (v:=.pointer (some ⟨g,4,none⟩)) rfl (by kernel_rfl) (by kernel_rfl) (by kernel_rfl) (fun c a w h=>dL c _ _ _ w h) (Or.inl ⟨by rfl,by intro w;go_simp⟩) ?_;refine wpAny_ready (rs:=[12]) (by kernel_rfl) (by simp) ?_;with_reducible refine lH (i := 12) (rs := []) (o := { dst := none, op := Go.Op.store 2 (Go.Operand.tmp 57) (Go.Operand.tmp 51), type := 0, pos := "swing.go:100", after := #[{ on := 11, ground := Go.Ground.data }, { on := 4, ground := Go.Ground.data }, { on := 8, ground := Go.Ground.chain }, { on := 0, ground := Go.Ground.phase }, { on := 1, ground := Go.Ground.phase }, { on := 2, ground := Go.Ground.phase }, { on := 3, ground := Go.Ground.phase }, { on := 4, ground := Go.Ground.phase }, { on := 5, ground := Go.Ground.phase }, { on := 6, ground := Go.Ground.phase }, { on := 7, ground := Go.Ground.phase }, { on := 8, ground := Go.Ground.phase }], guard := none }) ?aiu ?Ys ?YZ
         case aiu=>exact rfl
         case Ys =>
          have hc:=((bJ).cell 4).trans ((qe (e:=e) (n:=n) (t:=t) (v:=v) (l:=l) (q:=Q) gJ).2.2.2.2.1);have hf:=(bJ).frozen 4;with_reducible refine rQ (g:=g) (f:=(.cells (cV (aI e n t v t' M) Q) 86 (0,0))) ?acx ?ak5 ?alK
          case acx=>exact rfl
          case ak5 =>
           refine qR (g:=g) (off:=4) (v:=.int .i64 t') (Ty:=2) rfl ?_ ?_ bJ ((EZ gJ _ Q).2.1) ?_
           ·kernel_rfl
           ·kernel_rfl
           ·go_simp
          case alK =>
           intro b6 hF;replace bJ:aG b6 g 86 (cV (aI e n t v t' M) Q):=hF.1;replace aq:=hF.fR aq (by omega);replace bn:=hF.fR bn (by omega);replace bl:=hF.fR bl (by omega);replace EE:=hide (vZ EE.out hF);clear hF;refine wpAny_done (by kernel_rfl) ?_ _;exact BI (dQ _ ⟨aq,bJ,bn,bl,EE.out⟩) (by kernel_rfl)
         case YZ =>
          exact AllReady.nil
       case YX =>
        exact AllReady.nil
      case Y7 =>
       exact AllReady.nil
     case Y6 =>
      exact AllReady.nil
   case ako =>
    obtain⟨aq,bJ,bn,bl,C1⟩:=aeR;replace EE:=hide C1;clear C1;go_upto_region 5 with fail
    have gM:=aq.lt;have oB:=bJ.lt;have Cl:=bn.lt;have r_:=bl.lt;refine eB [.q,.q,.q,.q,.q,.q,.q,.q,.q,.so 0] [0,0,0,0,0,0,0,0,0,0] (fun R=>[yj g 0,yj g 0,yj g 0,yj g 1,.int .i64 n,.int .i64 (n+1),yj g 0,yj g 0,yj g 1,k]) (fun _=>(.cells #[] 0 (0,0))) (fun R _=>(.cells (cV (aI e (n+1) t v t' M) Q) 86 (0,0))) (fun _=>g) (uQ g W) (fun _=>False) (by kernel_rfl) (by kernel_rfl) (by kernel_rfl) rfl (fun _=>rfl) (fun _ h=>h.elim) (fun _ _ h=>h) (by intro c hc;simp at hc;(try subst hc);(try simp only);omega) (by intro c c' h1 h2 _;simp at h1 h2;omega) (fun R b1=>⟨fun _=>rfl,fun _=>rfl,fun _=>rfl,fun _=>rfl,fun _=>rfl,fun _=>rfl,fun _=>rfl,fun _=>rfl,fun _=>rfl,fun _=>rfl,trivial⟩) (fun _ _ _ _=>rfl) z8 EE.out ?ah7 ?aaU;case ah7 =>
     refine⟨aH,aH,aH,aH,?_,aH,aH,aH,aH,?_,trivial⟩
     ·refine cj fun R s w' aw hs hw ha=>?_
      have cc:=((show aG w' g _ (cV (aI e n t v t' M) Q) from(ha 9 0 rfl (by kernel_rfl)).trans bJ).cell 1).trans ((qe gJ).2.1);go_simp
     ·refine il (c:=0) (Ty:=?aoF) (p:=?asb) (x:=?atE) g ?abJ ?amj ?am1 ?aet ?ahK ?afM ?age ?aca ?Z7 ?aaA ?_;case aet=>exact rfl
      case ahK=>exact rfl
      case abJ=>exact(fun R=>(.cells (cV (aI e (n+1) t v t' M) Q) 86 (0,0)))
      case amj=>exact(fun R=>.pointer (some ⟨g,1,none⟩))
      case am1=>exact(fun R=>.int .i64 (n+1))
      case afM=>exact(fun R=>rfl)
      case age=>exact rfl
      case aca=>exact cu rfl
      case Z7 =>
       intro R;kernel_rfl
      case aaA =>
       intro R;kernel_rfl
      intro R s ρ w aw hs hp hx hz;have bF:=(show aG w g _ (cV (aI e n t v t' M) Q) from hz.trans bJ);have hc:=(bF.cell 1).trans ((qe (e:=e) (n:=n) (t:=t) (v:=v) (l:=t') (q:=Q) gJ).2.1);have hf:=bF.frozen 1;refine⟨qR (g:=g) (Ty:=3) rfl hp hx (hz.trans bJ) ((EZ gJ _ Q).1) ?_,fun aT hF=>vZ aw hF⟩;go_simp
    case aaU =>
     intro cY R G ane ae;have hS:=ae.same;have aZ:=ae.holds;have bf:=EE.out.2.2.2.1;replace aq:=aq.aY hS (fun h=>h) (by intro c hc;simp at hc;(try subst hc);(try simp only);omega);replace bn:=bn.aY hS (fun h=>h) (by intro c hc;simp at hc;(try subst hc);(try simp only);omega);replace bl:=bl.aY hS (fun h=>h) (by intro c hc;simp at hc;(try subst hc);(try simp only);omega);replace bJ:aG ane g 86 (cV (aI e (n+1) t v t' M) Q):=ae.ep 9 (List.mem_range.2 (show 9<10 by decide)) 0 rfl;replace EE:=hide (show b3 g _ _ from aZ);clear hS bf aZ ae gM oB Cl r_;generalize hF:bB _ _ _ _ _ _ _=bH;have bI:bH={ tmps:=#[(yj g 0:m),.agg (bO t' v'),k,(yj g0 0:m),.bool false,(yj g5 0:m),.bool cb,(yj g7 0:m),.bool true,.tuple #[.agg C,.bool cb],(yj g 0:m),(yj g 0:m),(yj g 0:m),(yj g 2:m),(yj g 3:m),.int .i64 v,.agg (dC v),(yj g0 1:m),.int .i64 v',(yj g 0:m),(yj g 0:m),(yj g 0:m),(yj g 0:m),.int .i64 e,(yj g0 0:m),.int .i64 t',(yj g 0:m),(yj g 0:m),(yj g 0:m),(yj g 2:m),(yj g 2:m),.int .i64 t,.int .u64 (dt:Int),.tuple #[.agg C,.bool cb],.agg C,.bool cb,.tuple #[.agg M,true],(yj g 0:m),(yj g 0:m),(yj g 0:m),(yj g 5:m),.agg K,.agg C,.tuple #[.agg M,true],.agg M,.bool true,.bool true,(yj g 0:m),(yj g 0:m),.agg M,(yj g0 0:m),.int .i64 t',(yj g 0:m),(yj g 0:m),(yj g 5:m),(yj g 0:m),(yj g 0:m),(yj g 4:m),(yj g 0:m),(yj g 0:m),(yj g 0:m),(yj g 1:m),.int .i64 n,.int .i64 (n+1),(yj g 0:m),(yj g 0:m),(yj g 1:m),k],defers:=[] }:=by subst hF;kernel_rfl
     clear hF;subst bI;go_wp2_with fail
     go_ret;exact⟨rfl,bJ,EE.out⟩
theorem ai1(e n t v l:Int)(K:Array m)(cS:K.size=21)(eI:K.all (·.oneCell')=true)(g:Nat)(Q:m)(t' v':Int)(dt:Nat)(C M:Array m)(cb:Bool)(nW:C.size=21)(s6:C.all (·.oneCell')=true)(gJ:M.size=21)(qb:M.all (·.oneCell')=true)
 (bQ:Hid (∀ w,z r 95 #[.int .i64 v] w (aP (.agg (dC v)) w))) (bY:Hid (∀ w,z r 96 #[.int .i64 t',.int .i64 t] w (aP (.int .u64 (dt:Int)) w))) (cX:Hid (∀ w,z r 94 #[.agg (dC v),.int .i64 v',.int .i64 e,.int .u64 (dt:Int)] w (aP (.tuple #[.agg C,.bool cb]) w))) (ev:Hid (∀ w,z r 97 #[.agg K,.agg C] w (aP (.tuple #[.agg M,false]) w))) (W:y) (bJ:aG W g 86 (cV (aI e n t v l K) Q)) :
 z r 79 #[yj g 0,.agg (bO t' v')] W (FG g W (aI e n t v l K) Q false):=by
 obtain⟨f0,f1,f2,f3,f4,f26,A6,fk⟩:=qe (e:=e) (n:=n) (t:=t) (v:=v) (l:=l) (q:=Q) cS;have BW:=qP (e:=e) (n:=n) (t:=t) (v:=v) (l:=l) (q:=Q) cS;have DM:=bJ.lt;have aq:=aG.new W 23 (bO t' v');have EE:=hide (aA W (.cells (bO t' v') 23));obtain⟨bG,bD⟩:=aM ((W.alloc (.cells (bO t' v') 23)));obtain⟨g0,af⟩:∃ g,W.heap.size=g:=⟨_,rfl⟩;rw[bD] at aq EE;rw[af] at aq;have r9:W.heap.size<=g0:=by omega
 have aB:=hide bD;have bW:=hide af;clear bD af;go_enter Tryz.func79,Tryz.ntmps79
 go_upto_region 1 with fail
 rw[aB.out,bW.out];clear aB bW;replace bJ:=bJ.ext EE.out;replace EE:=hide (Ext.c7 EE.out g);have gM:=aq.lt;have oB:=bJ.lt;refine kl [.q,.q,.q,.q,.q,.q,.q,.q,.q,.q,.q,.q,.q,.q,.q,.q,.q,.q,.q,.q,.q,.q,.q,.q,.q,.q,.q,.al,.st 27,.q] [0,0,0,0,0,0,0,0,0,0,0,0,0,0,0,0,0,0,0,0,0,0,0,0,0,0,0,0,0,0] (fun R=>[yj g 0,yj g 0,yj g 0,yj g 2,yj g 3,.int .i64 v,.agg (dC v),yj g0 1,.int .i64 v',yj g 0,yj g 0,yj g 0,yj g 0,.int .i64 e,yj g0 0,.int .i64 t',yj g 0,yj g 0,yj g 0,yj g 2,yj g 2,.int .i64 t,.int .u64 (dt:Int),.tuple #[.agg C,.bool cb],.tuple #[.agg C,.bool cb],.agg C,.bool cb,k,k,.bool cb]) (fun _=>(.cells z21 31 (0,0))) (fun R _=>(.cells C 31 (0,0))) (fun _=>0) (uQ g W) (fun _=>False) (by kernel_rfl) (by kernel_rfl) (by kernel_rfl) (by kernel_rfl) rfl (fun _=>rfl) (fun _ h=>h.elim) (fun _ _ h=>h) (by simp) (by simp) (fun R b1=>⟨fun _=>rfl,fun _=>rfl,fun _=>rfl,fun _=>rfl,fun _=>rfl,fun _=>rfl,fun _=>rfl,fun _=>rfl,fun _=>rfl,fun _=>rfl,fun _=>rfl,fun _=>rfl,fun _=>rfl,fun _=>rfl,fun _=>rfl,fun _=>rfl,fun _=>rfl,fun _=>rfl,fun _=>rfl,fun _=>rfl,fun _=>rfl,fun _=>rfl,fun _=>rfl,fun _=>rfl,fun _=>rfl,fun _=>rfl,fun _=>rfl,fun _=>rfl,fun _=>rfl,fun _=>rfl,trivial⟩) (fun _ _ _ _=>rfl) z8 EE.out.drew ?EQ ?C4;case EQ =>
  refine⟨aH,aH,aH,aH,aH,?_,d_ bQ,aH,?_,aH,aH,aH,aH,?_,aH,?_,aH,aH,aH,aH,aH,?_,d_ bY,d_ cX,aH,aH,aH,?_,?_,aH,trivial⟩
  ·refine cj fun R s w' aw hs hw ha=>?_
   have cc:=((show aG w' g _ (cV (aI e n t v l K) Q) from bJ.aY hw (fun h=>h) (by simp)).cell 3).trans (f3);go_simp
  ·refine cj fun R s w' aw hs hw ha=>?_
   have cc:=((show aG w' g0 _ (bO t' v') from aq.aY hw (fun h=>h) (by simp)).cell 1).trans (show (bO t' v')[1]?=some (.int .i64 v') from rfl);go_simp
  ·refine cj fun R s w' aw hs hw ha=>?_
   have cc:=((show aG w' g _ (cV (aI e n t v l K) Q) from bJ.aY hw (fun h=>h) (by simp)).cell 0).trans (f0);go_simp
  ·refine cj fun R s w' aw hs hw ha=>?_
   have cc:=((show aG w' g0 _ (bO t' v') from aq.aY hw (fun h=>h) (by simp)).cell 0).trans (show (bO t' v')[0]?=some (.int .i64 t') from rfl);go_simp
  ·refine cj fun R s w' aw hs hw ha=>?_
   have cc:=((show aG w' g _ (cV (aI e n t v l K) Q) from bJ.aY hw (fun h=>h) (by simp)).cell 2).trans (f2);go_simp
  ·refine ia ?Am ?vH ?vN ?vi ?_;case Am=>exact(.cells z21 31 (0,0))
   case vH=>exact rfl
   case vN=>exact rfl
   case vi=>exact cu rfl
   intro ρ w';go_simp;exact⟨rfl,rfl⟩
  ·refine ib (j:=27) (Ty:=?XP) (p:=?ajq) (x:=?anS) ?Kj ?PX ?Fi ?D1 ?Ny ?Ew ?MW ?Di ?J3 ?_;case D1=>exact rfl
   case Ny=>exact rfl
   case Kj=>exact(fun R=>(.cells C 31 (0,0)))
   case PX=>exact(.cells z21 31 (0,0))
   case Fi=>exact(fun R=>.agg C)
   case Ew=>exact(fun R=>rfl)
   case MW=>exact rfl
   case Di=>exact cu rfl
   case J3 =>
    intro R;kernel_rfl
   intro R s ρ w g aw hs hp hx af hz;exact⟨hQ rfl hp hx hz ei (nW) (s6),fun aT hF=>H0 aw hF (Nat.le_trans EE.out.2.2.2.1 af)⟩
 case C4 =>
  intro cY R G Fk ae;have hS:=ae.same;have aZ:=ae.holds;have bf:=EE.out.2.2.2.1;replace aq:=aq.aY hS (fun h=>h) (by simp);replace bJ:=bJ.aY hS (fun h=>h) (by simp);have bn:aG Fk (G 27) 31 C:=(ae.eV 28 (List.mem_range.2 (show 28<30 by decide)) 27 rfl).2.2;have LR:=(ae.made 27 (List.mem_range.2 (show 27<30 by decide)) rfl).1;have Xz:W.heap.size<=G 27:=Nat.le_trans bf LR;have ag5:g0≠G 27:=by omega
  have aho:g≠G 27:=by omega
  replace EE:=hide (show b3 g _ _ from aZ);clear hS bf aZ ae gM oB;generalize hF:bB _ _ _ _ _ _ _=bH;have bI:bH={ tmps:=#[(yj g 0:m),.agg (bO t' v'),k,(yj g0 0:m),.bool false,(yj (G 27) 0:m),.bool cb,k,k,.tuple #[.agg C,.bool cb],(yj g 0:m),(yj g 0:m),(yj g 0:m),(yj g 2:m),(yj g 3:m),.int .i64 v,.agg (dC v),(yj g0 1:m),.int .i64 v',(yj g 0:m),(yj g 0:m),(yj g 0:m),(yj g 0:m),.int .i64 e,(yj g0 0:m),.int .i64 t',(yj g 0:m),(yj g 0:m),(yj g 0:m),(yj g 2:m),(yj g 2:m),.int .i64 t,.int .u64 (dt:Int),.tuple #[.agg C,.bool cb],.agg C,.bool cb,k,k,k,k,k,k,k,k,k,k,k,k,k,k,k,k,k,k,k,k,k,k,k,k,k,k,k,k,k,k,k,k],defers:=[] }:=by subst hF;kernel_rfl
  clear hF;subst bI;generalize G 27=g5 at *;go_upto_region 2 with fail
  have gM:=aq.lt;have oB:=bJ.lt;have Cl:=bn.lt;refine kl [.q,.q,.q,.q,.q,.q,.q,.q,.q,.q,.al,.st 10,.q] [0,0,0,0,0,0,0,0,0,0,0,0,0] (fun R=>[yj g 0,yj g 0,yj g 0,yj g 5,.agg K,.agg C,.tuple #[.agg M,false],.tuple #[.agg M,false],.agg M,.bool false,k,k,.bool false]) (fun _=>(.cells z21 31 (0,0))) (fun R _=>(.cells M 31 (0,0))) (fun _=>0) (uQ g W) (fun _=>False) (by kernel_rfl) (by kernel_rfl) (by kernel_rfl) (by kernel_rfl) rfl (fun _=>rfl) (fun _ h=>h.elim) (fun _ _ h=>h) (by simp) (by simp) (fun R b1=>⟨fun _=>rfl,fun _=>rfl,fun _=>rfl,fun _=>rfl,fun _=>rfl,fun _=>rfl,fun _=>rfl,fun _=>rfl,fun _=>rfl,fun _=>rfl,fun _=>rfl,fun _=>rfl,fun _=>rfl,trivial⟩) (fun _ _ _ _=>rfl) z8 EE.out.drew ?NK ?Ka;case NK =>
   refine⟨aH,aH,aH,aH,?_,?_,d_ ev,aH,aH,aH,?_,?_,aH,trivial⟩
   ·refine cj fun R s w' aw hs hw ha=>?_
    have L:=pH (bJ.aY hw (fun h=>h) (by simp)) _ _ fV rfl 5 21 ei (by rw[(qP cS)];first|decide|omega) _ (fk);generalize hA:bB _ _ _ _ _ _ _=c3;refine e7 rfl ?_ L;subst hA;kernel_rfl
   ·refine cj fun R s w' aw hs hw ha=>?_
    have L:=dF (bn.aY hw (fun h=>h) (by simp)) fV rfl ei nW;generalize hA:bB _ _ _ _ _ _ _=c3;refine e7 rfl ?_ L;subst hA;kernel_rfl
   ·refine ia ?P1 ?L1 ?ML ?KD ?_;case P1=>exact(.cells z21 31 (0,0))
    case L1=>exact rfl
    case ML=>exact rfl
    case KD=>exact cu rfl
    intro ρ w';go_simp;exact⟨rfl,rfl⟩
   ·refine ib (j:=10) (Ty:=?XR) (p:=?ajs) (x:=?anU) ?Kl ?FB ?Pn ?D3 ?NA ?Ey ?MY ?Dk ?J5 ?_;case D3=>exact rfl
    case NA=>exact rfl
    case Kl=>exact(fun R=>(.cells M 31 (0,0)))
    case FB=>exact(.cells z21 31 (0,0))
    case Pn=>exact(fun R=>.agg M)
    case Ey=>exact(fun R=>rfl)
    case MY=>exact rfl
    case Dk=>exact cu rfl
    case J5 =>
     intro R;kernel_rfl
    intro R s ρ w g aw hs hp hx af hz;exact⟨hQ rfl hp hx hz ei (gJ) (qb),fun aT hF=>H0 aw hF (Nat.le_trans EE.out.2.2.2.1 af)⟩
  case Ka =>
   intro cY R G oT ae;have hS:=ae.same;have aZ:=ae.holds;have bf:=EE.out.2.2.2.1;replace aq:=aq.aY hS (fun h=>h) (by simp);replace bJ:=bJ.aY hS (fun h=>h) (by simp);replace bn:=bn.aY hS (fun h=>h) (by simp);have bl:aG oT (G 10) 31 M:=(ae.eV 11 (List.mem_range.2 (show 11<13 by decide)) 10 rfl).2.2;have xq:=(ae.made 10 (List.mem_range.2 (show 10<13 by decide)) rfl).1;have I6:W.heap.size<=G 10:=Nat.le_trans bf xq;have Na:g0≠G 10:=by omega
   have ahp:g≠G 10:=by omega
   have ahf:g5≠G 10:=by omega
   replace EE:=hide (show b3 g _ _ from aZ);clear hS bf aZ ae gM oB Cl;generalize hF:bB _ _ _ _ _ _ _=bH;have bI:bH={ tmps:=#[(yj g 0:m),.agg (bO t' v'),k,(yj g0 0:m),.bool false,(yj g5 0:m),.bool cb,(yj (G 10) 0:m),.bool false,.tuple #[.agg C,.bool cb],(yj g 0:m),(yj g 0:m),(yj g 0:m),(yj g 2:m),(yj g 3:m),.int .i64 v,.agg (dC v),(yj g0 1:m),.int .i64 v',(yj g 0:m),(yj g 0:m),(yj g 0:m),(yj g 0:m),.int .i64 e,(yj g0 0:m),.int .i64 t',(yj g 0:m),(yj g 0:m),(yj g 0:m),(yj g 2:m),(yj g 2:m),.int .i64 t,.int .u64 (dt:Int),.tuple #[.agg C,.bool cb],.agg C,.bool cb,.tuple #[.agg M,false],(yj g 0:m),(yj g 0:m),(yj g 0:m),(yj g 5:m),.agg K,.agg C,.tuple #[.agg M,false],.agg M,.bool false,k,k,k,k,k,k,k,k,k,k,k,k,k,k,k,k,k,k,k,k,k,k],defers:=[] }:=by subst hF;kernel_rfl
   clear hF;subst bI;generalize G 10=g7 at *;go_upto_region 3 with fail
   refine eK ?_;repeat (first|go_big_quiet_step (fail)|quiet_step (fail))
   refine B' ?_;intro _ bj;obtain⟨⟨aQ,osq⟩,cq⟩:=bj;subst cq;replace aq:=(aq).ext (aX oT aQ osq);replace bJ:=(bJ).ext (aX oT aQ osq);replace bn:=(bn).ext (aX oT aQ osq);replace bl:=(bl).ext (aX oT aQ osq);replace EE:=hide (EE.out.more (aX oT aQ osq));obtain⟨Pt,Eo⟩:∃ w,grow (aw5 oT aQ) osq=w:=⟨_,rfl⟩;rw[Eo] at EE aq bJ bn bl |-;clear Eo;go_wp2_with fail
   go_ret;exact⟨rfl,bJ,EE.out⟩
theorem aiG(e n t v l:Int)(K:Array m)(cS:K.size=21)(eI:K.all (·.oneCell')=true)(g:Nat)(di:Option aw6)(cM c6:Nat)(t' v':Int)(B:Nat)(ls:List gD)(W:y)(bJ:aG W g 86 (cV (aI e n t v l K) (.slice di cM c6)))(fY:eA.Own B W (.slice di cM c6) ls)(od:cM=ls.length)(oM:cM<=c6)(aO:(Value.slice di cM c6).ownBlock≠some g)(bF:B<=W.heap.size)(ks:Hid (∀ w,z r 75 #[] w (aP (.agg c9) w)))(d0:decide (0<n)=false) :
 z r 48 #[yj g 0,.agg (bO t' v')] W (wy g B W (aI e 1 t' v' t' c9) (.slice di cM c6) ls):=by
 obtain⟨f0,f1,f2,f3,f4,f26,A6,fk⟩:=qe (e:=e) (n:=n) (t:=t) (v:=v) (l:=l) (q:=(.slice di cM c6)) cS;have BW:=qP (e:=e) (n:=n) (t:=t) (v:=v) (l:=l) (q:=(.slice di cM c6)) cS;have DM:=bJ.lt;have fY:=hide fY;have aq:=aG.new W 23 (bO t' v');have EE:=hide (aA W (.cells (bO t' v') 23));obtain⟨bG,bD⟩:=aM ((W.alloc (.cells (bO t' v') 23)));obtain⟨g0,af⟩:∃ g,W.heap.size=g:=⟨_,rfl⟩;rw[bD] at aq EE;rw[af] at aq;have r9:W.heap.size<=g0:=by omega
 have aB:=hide bD;have bW:=hide af;clear bD af;go_enter Tryz.func48,Tryz.ntmps48
 go_upto_region 1 with fail
 rw[aB.out,bW.out];clear aB bW;replace bJ:=bJ.ext EE.out;replace EE:=hide (Ext.c7 EE.out g);have yN:=fun d os=>(((bJ).ext (aX bG d os)).cell 1).trans (f1)
 refine eK ?_;repeat (first|go_big_quiet_step (fail)|quiet_step (fail))
 refine B' ?_;intro _ bj;obtain⟨⟨aQ,osq⟩,cq⟩:=bj;subst cq;replace aq:=(aq).ext (aX bG aQ osq);replace bJ:=(bJ).ext (aX bG aQ osq);replace EE:=hide (EE.out.more (aX bG aQ osq));obtain⟨bp,eF⟩:∃ w,grow (aw5 bG aQ) osq=w:=⟨_,rfl⟩;rw[eF] at EE aq bJ |-;clear eF yN;go_upto_region 2 with fail
 have tW:=hide (fun w bJ=>UU e n t v l K cS eI g (.slice di cM c6) w bJ d0);go_upto_region 3 with (go_at_call 49;(with_reducible refine(tW.out _ bJ).mono ?_);rintro e2 cN ⟨rfl,vy⟩;replace bJ:=bJ.ext vy;replace aq:=aq.ext vy;replace EE:=hide (EE.out.more vy);clear vy)
 have gM:=aq.lt;have oB:=bJ.lt;refine kl [.q,.q,.q,.q,.q,.q,.q,.q,.q,.q,.q,.q,.q,.so 0] [0,0,0,0,0,0,0,0,0,0,0,0,0,0] (fun R=>[yj g 0,yj g 0,yj g 0,yj g 0,yj g 0,.int .i64 e,.agg (bO t' v'),yj g0 0,.int .i64 t',.agg c9,.agg (aI e 1 t' v' t' c9),yj g 0,yj g 0,k]) (fun _=>(.cells #[] 0 (0,0))) (fun R _=>(.cells (cV (aI e 1 t' v' t' c9) (.slice di cM c6)) 86 (0,0))) (fun _=>g) (uQ g W) (fun _=>False) (by kernel_rfl) (by kernel_rfl) (by kernel_rfl) (by kernel_rfl) rfl (fun _=>rfl) (fun _ h=>h.elim) (fun _ _ h=>h) (by intro c hc;simp at hc;(try subst hc);(try simp only);omega) (by intro c c' h1 h2 _;simp at h1 h2;omega) (fun R b1=>⟨fun _=>rfl,fun _=>rfl,fun _=>rfl,fun _=>rfl,fun _=>rfl,fun _=>rfl,fun _=>rfl,fun _=>rfl,fun _=>rfl,fun _=>rfl,fun _=>rfl,fun _=>rfl,fun _=>rfl,fun _=>rfl,trivial⟩) (fun _ _ _ _=>rfl) z8 EE.out.drew ?ahV ?aaI;case ahV =>
  refine⟨aH,aH,aH,aH,aH,?_,?_,aH,?_,d_ ks,?_,aH,aH,?_,trivial⟩
  ·refine cj fun R s w' aw hs hw ha=>?_
   have cc:=((show aG w' g _ (cV (aI e n t v l K) (.slice di cM c6)) from(ha 13 0 rfl (by kernel_rfl)).trans bJ).cell 0).trans (f0);go_simp
  ·refine cj fun R s w' aw hs hw ha=>?_
   have L:=dF (aq.aY hw (fun h=>h) (by intro c hc;simp at hc;(try subst hc);(try simp only);omega)) xQ rfl xB rfl;generalize hA:bB _ _ _ _ _ _ _=c3;refine e7 rfl ?_ L;subst hA;kernel_rfl
  ·refine cj fun R s w' aw hs hw ha=>?_
   have cc:=((show aG w' g0 _ (bO t' v') from aq.aY hw (fun h=>h) (by intro c hc;simp at hc;(try subst hc);(try simp only);omega)).cell 0).trans (show (bO t' v')[0]?=some (.int .i64 t') from rfl);go_simp
  ·refine cj fun R s w' aw hs hw ha=>?_
   generalize hA:bB _ _ _ _ _ _ _=c3;refine pD (vs:=#[(0,.int .i64 e),(1,.int .i64 1),(2,.agg (bO t' v')),(3,.int .i64 t'),(4,.agg c9)]) rfl ?_ (Jw e t' v');subst hA;kernel_rfl
  ·refine il (c:=0) (Ty:=?Jg) (p:=?N5) (x:=?PT) g ?yY ?z' ?tv ?ob ?zI ?sX ?zD ?n9 ?yS ?yU ?_;case ob=>exact rfl
   case zI=>exact rfl
   case yY=>exact(fun R=>(.cells (cV (aI e 1 t' v' t' c9) (.slice di cM c6)) 86 (0,0)))
   case z'=>exact(fun R=>.pointer (some ⟨g,0,none⟩))
   case tv=>exact(fun R=>.agg (aI e 1 t' v' t' c9))
   case sX=>exact(fun R=>rfl)
   case zD=>exact rfl
   case n9=>exact cu rfl
   case yS =>
    intro R;kernel_rfl
   case yU =>
    intro R;kernel_rfl
   intro R s ρ w aw hs hp hx hz;refine⟨uj (g:=g) rfl hp hx (hz.trans bJ) (VT (show aG w g _ (cV (aI e n t v l K) (.slice di cM c6)) from hz.trans bJ) cS rfl E2),fun aT hF=>vZ aw hF⟩
 case aaI =>
  intro cY R G am7 ae;have hS:=ae.same;have aZ:=ae.holds;have bf:=EE.out.2.2.2.1;replace aq:=aq.aY hS (fun h=>h) (by intro c hc;simp at hc;(try subst hc);(try simp only);omega);replace bJ:aG am7 g 86 (cV (aI e 1 t' v' t' c9) (.slice di cM c6)):=ae.ep 13 (List.mem_range.2 (show 13<14 by decide)) 0 rfl;replace EE:=hide (show b3 g _ _ from aZ);clear hS bf aZ ae gM oB;generalize hF:bB _ _ _ _ _ _ _=bH;have bI:bH={ tmps:=#[(yj g 0:m),.agg (bO t' v'),k,(yj g0 0:m),(yj g 0:m),(yj g 0:m),(yj g 0:m),(yj g 1:m),.int .i64 n,.bool false,.bool false,k,k,k,.bool false,(yj g 0:m),.tuple #[],(yj g 0:m),(yj g 0:m),(yj g 0:m),(yj g 0:m),(yj g 0:m),.int .i64 e,.agg (bO t' v'),(yj g0 0:m),.int .i64 t',.agg c9,.agg (aI e 1 t' v' t' c9),(yj g 0:m),(yj g 0:m)],defers:=[] }:=by subst hF;kernel_rfl
  clear hF;subst bI;go_wp2_with fail
  refine bodyPost_end (results_none rfl _ _ _) rfl ?_;exact⟨rfl,di,cM,c6,od,oM,bJ,Hs fY.out (xR EE.out) (fun j aN e=>aO (by rw[aN,e])),aO,(xR EE.out).mono fun j e=>Or.inl e⟩
theorem aiJ(e n t v l:Int)(K:Array m)(cS:K.size=21)(eI:K.all (·.oneCell')=true)(g:Nat)(di:Option aw6)(cM c6:Nat)(t' v':Int)(B:Nat)(ls:List gD)(M:Array m)(W:y)(bJ:aG W g 86 (cV (aI e n t v l K) (.slice di cM c6)))(fY:eA.Own B W (.slice di cM c6) ls)(od:cM=ls.length)(oM:cM<=c6)(aO:(Value.slice di cM c6).ownBlock≠some g)(bF:B<=W.heap.size)(d0:decide (0<n)=true)(nS:Hid (∀ w,aG w g 86 (cV (aI e n t v l K) (.slice di cM c6))->z r 79 #[yj g 0,.agg (bO t' v')] w (FG g w (aI e (n+1) t v t' M) (.slice di cM c6) true))) :
 z r 48 #[yj g 0,.agg (bO t' v')] W (wy g B W (aI e (n+1) t v t' M) (.slice di cM c6) ls):=by
 obtain⟨f0,f1,f2,f3,f4,f26,A6,fk⟩:=qe (e:=e) (n:=n) (t:=t) (v:=v) (l:=l) (q:=(.slice di cM c6)) cS;have BW:=qP (e:=e) (n:=n) (t:=t) (v:=v) (l:=l) (q:=(.slice di cM c6)) cS;have DM:=bJ.lt;have fY:=hide fY;have aq:=aG.new W 23 (bO t' v');have EE:=hide (aA W (.cells (bO t' v') 23));obtain⟨bG,bD⟩:=aM ((W.alloc (.cells (bO t' v') 23)));obtain⟨g0,af⟩:∃ g,W.heap.size=g:=⟨_,rfl⟩;rw[bD] at aq EE;rw[af] at aq;have r9:W.heap.size<=g0:=by omega
 have aB:=hide bD;have bW:=hide af;clear bD af;go_enter Tryz.func48,Tryz.ntmps48
 go_upto_region 1 with fail
 rw[aB.out,bW.out];clear aB bW;replace bJ:=bJ.ext EE.out;replace EE:=hide (Ext.c7 EE.out g);have JI:=(bJ.cell 1).trans f1;have xE:=dF aq xQ rfl xB rfl;go_wp2_with (first
  | (refine dp (by kernel_rfl) rfl rfl xE ?_)
  | (go_at_call 79;(with_reducible refine(nS.out _ bJ).mono ?_);rintro e2 c8 ⟨rfl,Co,u8⟩;have aJ:aG c8 g0 _ _:=(u8.2.2.2.2 g0 aq.lt (by omega)).trans aq;have B9:=hide (EE.out.trans u8);clear bJ u8 aq EE JI xE))
 have bJ:=Co;have aq:=aJ;have EE:=B9;clear Co aJ B9;refine B7 (results_none rfl _ _ _) rfl ?_;exact⟨rfl,di,cM,c6,od,oM,bJ,Hs fY.out (xR EE.out) (fun j aN e=>aO (by rw[aN,e])),aO,(xR EE.out).mono fun j e=>Or.inl e⟩
theorem aiF(e n t v l:Int)(K:Array m)(cS:K.size=21)(eI:K.all (·.oneCell')=true)(g:Nat)(di:Option aw6)(cM c6:Nat)(t' v':Int)(B:Nat)(ls:List gD)(f:Fr)(W:y)(bJ:aG W g 86 (cV (aI e n t v l K) (.slice di cM c6)))(fY:eA.Own B W (.slice di cM c6) ls)(od:cM=ls.length)(oM:cM<=c6)(aO:(Value.slice di cM c6).ownBlock≠some g)(bF:B<=W.heap.size)(ks:Hid (∀ w,z r 75 #[] w (aP (.agg c9) w)))(hlen:ls.length<=1099511627776)(d0:decide (0<n)=true)(nS:Hid (∀ w,aG w g 86 (cV (aI e n t v l K) (.slice di cM c6))->z r 79 #[yj g 0,.agg (bO t' v')] w (FG g w (aI e n t v l K) (.slice di cM c6) false)))(gR:Hid (∀ w,z r 80 #[.agg K] w (aP (.agg (cJ f)) w))) :
 z r 48 #[yj g 0,.agg (bO t' v')] W (wy g B W (aI e 1 t' v' t' c9) (.slice di cM c6) (ls++[(n,v,f)])):=by
 obtain⟨f0,f1,f2,f3,f4,f26,A6,fk⟩:=qe (e:=e) (n:=n) (t:=t) (v:=v) (l:=l) (q:=(.slice di cM c6)) cS;have BW:=qP (e:=e) (n:=n) (t:=t) (v:=v) (l:=l) (q:=(.slice di cM c6)) cS;have DM:=bJ.lt;have fY:=hide fY;have aq:=aG.new W 23 (bO t' v');have EE:=hide (aA W (.cells (bO t' v') 23));obtain⟨bG,bD⟩:=aM ((W.alloc (.cells (bO t' v') 23)));obtain⟨g0,af⟩:∃ g,W.heap.size=g:=⟨_,rfl⟩;rw[bD] at aq EE;rw[af] at aq;have r9:W.heap.size<=g0:=by omega
 have aB:=hide bD;have bW:=hide af;clear bD af;go_enter Tryz.func48,Tryz.ntmps48
 go_upto_region 1 with fail
 rw[aB.out,bW.out];clear aB bW;replace bJ:=bJ.ext EE.out;replace EE:=hide (Ext.c7 EE.out g);have JI:=(bJ.cell 1).trans f1;have xE:=dF aq xQ rfl xB rfl;go_upto_region 2 with (first
  | (refine dp (by kernel_rfl) rfl rfl xE ?_)
  | (go_at_call 79;(with_reducible refine(nS.out _ bJ).mono ?_);rintro e2 c8 ⟨rfl,Co,u8⟩;have aJ:aG c8 g0 _ _:=(u8.2.2.2.2 g0 aq.lt (by omega)).trans aq;have B9:=hide (EE.out.trans u8);clear bJ u8 aq EE JI xE))
 have bJ:=Co;have aq:=aJ;have EE:=B9;clear Co aJ B9;have Xq:=hide (Hs fY.out (xR EE.out) (fun j aN e=>aO (by rw[aN,e])));have adE:B<=c8.heap.size:=Nat.le_trans bF EE.out.2.2.2.1;have Ma:(Value.slice di cM c6).ownBlock≠some g0:=fun h=>by have:=(fY.out.1.lt g0 h).2;omega
 have tW:=hide (fun w bJ Xr hw=>UW e n t v l K cS eI g (.slice di cM c6) B ls f w bJ Xr aO hw hlen d0 gR);go_upto_region 3 with (go_at_call 49;(with_reducible refine(tW.out _ bJ Xq.out adE).mono ?_);rintro e2 cN ⟨rfl,cU,aC,az,hJ,eS,QT,r7,xt,uA⟩;have bx:aG cN g0 _ _:=(uA.2.2.2.2 g0 aq.lt (fun e=>e.elim (fun e=>by omega) Ma)).trans aq;have r7:=hide r7;clear bJ aq)
 have bJ:=QT;have aq:=bx;have WT:=EE;clear EE QT bx;have EE:Hid (b3 g cN cN):=b3.refl _ _;have gM:=aq.lt;have oB:=bJ.lt;refine kl [.q,.q,.q,.q,.q,.q,.q,.q,.q,.q,.q,.q,.q,.so 0] [0,0,0,0,0,0,0,0,0,0,0,0,0,0] (fun R=>[yj g 0,yj g 0,yj g 0,yj g 0,yj g 0,.int .i64 e,.agg (bO t' v'),yj g0 0,.int .i64 t',.agg c9,.agg (aI e 1 t' v' t' c9),yj g 0,yj g 0,k]) (fun _=>(.cells #[] 0 (0,0))) (fun R _=>(.cells (cV (aI e 1 t' v' t' c9) (.slice cU aC az)) 86 (0,0))) (fun _=>g) (uQ g cN) (fun _=>False) (by kernel_rfl) (by kernel_rfl) (by kernel_rfl) (by kernel_rfl) rfl (fun _=>rfl) (fun _ h=>h.elim) (fun _ _ h=>h) (by intro c hc;simp at hc;(try subst hc);(try simp only);omega) (by intro c c' h1 h2 _;simp at h1 h2;omega) (fun R b1=>⟨fun _=>rfl,fun _=>rfl,fun _=>rfl,fun _=>rfl,fun _=>rfl,fun _=>rfl,fun _=>rfl,fun _=>rfl,fun _=>rfl,fun _=>rfl,fun _=>rfl,fun _=>rfl,fun _=>rfl,fun _=>rfl,trivial⟩) (fun _ _ _ _=>rfl) z8 EE.out.drew ?ahU ?aaH;case ahU =>
  refine⟨aH,aH,aH,aH,aH,?_,?_,aH,?_,d_ ks,?_,aH,aH,?_,trivial⟩
  ·refine cj fun R s w' aw hs hw ha=>?_
   have cc:=((show aG w' g _ (cV (aI e n t v l K) (.slice cU aC az)) from(ha 13 0 rfl (by kernel_rfl)).trans bJ).cell 0).trans ((qe cS).1);go_simp
  ·refine cj fun R s w' aw hs hw ha=>?_
   have L:=dF (aq.aY hw (fun h=>h) (by intro c hc;simp at hc;(try subst hc);(try simp only);omega)) xQ rfl xB rfl;generalize hA:bB _ _ _ _ _ _ _=c3;refine e7 rfl ?_ L;subst hA;kernel_rfl
  ·refine cj fun R s w' aw hs hw ha=>?_
   have cc:=((show aG w' g0 _ (bO t' v') from aq.aY hw (fun h=>h) (by intro c hc;simp at hc;(try subst hc);(try simp only);omega)).cell 0).trans (show (bO t' v')[0]?=some (.int .i64 t') from rfl);go_simp
  ·refine cj fun R s w' aw hs hw ha=>?_
   generalize hA:bB _ _ _ _ _ _ _=c3;refine pD (vs:=#[(0,.int .i64 e),(1,.int .i64 1),(2,.agg (bO t' v')),(3,.int .i64 t'),(4,.agg c9)]) rfl ?_ (Jw e t' v');subst hA;kernel_rfl
  ·refine il (c:=0) (Ty:=?aot) (p:=?ar1) (x:=?ats) g ?abx ?amd ?Pd ?LS ?ahy ?MB ?af4 ?Kv ?Z1 ?aao ?_;case LS=>exact rfl
   case ahy=>exact rfl
   case abx=>exact(fun R=>(.cells (cV (aI e 1 t' v' t' c9) (.slice cU aC az)) 86 (0,0)))
   case amd=>exact(fun R=>.pointer (some ⟨g,0,none⟩))
   case Pd=>exact(fun R=>.agg (aI e 1 t' v' t' c9))
   case MB=>exact(fun R=>rfl)
   case af4=>exact rfl
   case Kv=>exact cu rfl
   case Z1 =>
    intro R;kernel_rfl
   case aao =>
    intro R;kernel_rfl
   intro R s ρ w aw hs hp hx hz;refine⟨uj (g:=g) rfl hp hx (hz.trans bJ) (VT (show aG w g _ (cV (aI e n t v l K) (.slice cU aC az)) from hz.trans bJ) cS rfl E2),fun aT hF=>vZ aw hF⟩
 case aaH =>
  intro cY R G am6 ae;have hS:=ae.same;have aZ:=ae.holds;have bf:=EE.out.2.2.2.1;replace aq:=aq.aY hS (fun h=>h) (by intro c hc;simp at hc;(try subst hc);(try simp only);omega);replace bJ:aG am6 g 86 (cV (aI e 1 t' v' t' c9) (.slice cU aC az)):=ae.ep 13 (List.mem_range.2 (show 13<14 by decide)) 0 rfl;replace EE:=hide (show b3 g _ _ from aZ);clear hS bf aZ ae gM oB;generalize hF:bB _ _ _ _ _ _ _=bH;have bI:bH={ tmps:=#[(yj g 0:m),.agg (bO t' v'),k,(yj g0 0:m),(yj g 0:m),(yj g 0:m),(yj g 0:m),(yj g 1:m),.int .i64 n,.bool true,.bool true,(yj g 0:m),.agg (bO t' v'),.bool false,.bool false,(yj g 0:m),.tuple #[],(yj g 0:m),(yj g 0:m),(yj g 0:m),(yj g 0:m),(yj g 0:m),.int .i64 e,.agg (bO t' v'),(yj g0 0:m),.int .i64 t',.agg c9,.agg (aI e 1 t' v' t' c9),(yj g 0:m),(yj g 0:m)],defers:=[] }:=by subst hF;kernel_rfl
  clear hF;subst bI;go_wp2_with fail
  refine bodyPost_end (results_none rfl _ _ _) rfl ?_;exact⟨rfl,cU,aC,az,hJ,eS,bJ,Hs r7.out (xR EE.out) (fun j aN e=>xt (by rw[aN,e])),xt,(((xR WT.out).mono fun j e=>Or.inl e).trans uA).trans ((xR EE.out).mono fun j e=>Or.inl e)⟩
end
end Go.Proofs.YtojbopibfflnoaaGreat
