/- Facts. -/
import Derived.Test.YtojbopibfflnoaaGreatPrY24
import Derived.Test.YtojbopibfflnoaaGreatPrY25
import Derived.Shelf.Strconv.Itoa0
namespace Go.Proofs.YtojbopibfflnoaaGreat
open Go renaming undef → f, World → F, Value → C, Calls → I, bodyPost_ret → B7, wpQuiet_nil → B', redrawn → aw5, Ending → axa, Addr → aw6
open _root_.Go.Proofs.Tryz renaming prog → E
set_option linter.unusedVariables false
set_option linter.unusedSimpArgs false
set_option maxHeartbeats 16000000
set_option maxRecDepth 100000
section
open Go Go.RowKit Go.Sort
attribute [local go_sem] mg A3 bB BX
def dV:Array C:=#[.bool false,.int .u64 0,.int .u64 4,.int .u64 0,.int .u64 0]
theorem He:dV.all (·.oneCell')=true:=by kernel_rfl
theorem aj6(B S V D iG Lo er U L H:Array C)(v b_:Int)(dt:Nat)(r:Int)(b7 cr cR p1 p2:Bool)(W:F)(jB:B.size=5)(rK:B.all (·.oneCell')=true)(tn:S.size=5)(zH:S.all (·.oneCell')=true)(nb:Bool)(y7:B[0]?=some (.bool nb))(hS:B.setIfInBounds 0 (.bool false)=S)
 (zU:D.size=5) (rL:D.all (·.oneCell')=true) (EX:Lo.size=5) (Nt:Lo.all (·.oneCell')=true) (EW:er.size=5) (Ns:er.all (·.oneCell')=true) (zQ:RC L) (zP:RC H) (aD:r<0) (Ly:0<dt) (ad1:dt<18446744073709551616)
 (bQ:Hid (∀ w,I E 51 #[.agg B] w (aP (.bool true) w))) (bY:Hid (∀ w,I E 28 #[.agg S,.agg dV] w (aP (.int .i64 r) w))) (cX:Hid (∀ w,I E 35 #[.int .i64 b_] w (aP (.bool true) w)))
 (ev:Hid (∀ w,I E 23 #[.int .i64 v] w (aP (.agg V) w))) (vM:Hid (∀ w,I E 26 #[.agg V,.agg B] w (aP (.tuple #[.agg D,.bool b7]) w)))
 (Bz:Hid (∀ w,I E 23 #[.int .i64 b_] w (aP (.agg iG) w))) (Mv:Hid (∀ w,I E 26 #[.agg D,.agg iG] w (aP (.tuple #[.agg Lo,.bool cr]) w))) (rH:Hid (∀ w,I E 24 #[.agg D,.agg iG] w (aP (.tuple #[.agg er,.bool cR]) w)))
 (zq:Hid (∀ w,I E 58 #[.int .u64 (dt:Int)] w (aP (.agg U) w))) (Mt:Hid (∀ w,I E 57 #[.agg Lo,.agg U] w (aP (.tuple #[.agg L,.bool p1]) w))) (Mu:Hid (∀ w,I E 57 #[.agg er,.agg U] w (aP (.tuple #[.agg H,.bool p2]) w))) :
 I E 22 #[.agg B,.int .i64 v,.int .i64 b_,.int .u64 (dt:Int)] W (aP (.tuple #[.agg (bT false L H),true]) W):=by
 have d1:decide (0<=r)=false:=decide_eq_false (by omega);have d2:((dt:Int)==0)=false:=by rw[beq_eq_false_iff_ne];omega
 have d3:decide (dt=0)=false:=decide_eq_false (by omega);have rP:=zQ.size;have EK:=zQ.one;have td:=zP.size;have EJ:=zP.one;have nW:=lW false rP td;have s6:=su false EK EJ;clear zQ zP aD Ly;have ag:=(aG.new W 27 B).alloc (.cells z21 31);have aJ:=aG.new (W.alloc (.cells B 27)) 31 z21;rw[iY] at aJ;have EE:=hide ((aA W (.cells B 27)).trans (aA _ (.cells z21 31)));obtain⟨bG,bD⟩:=aM (((W.alloc (.cells B 27)).alloc (.cells z21 31)));obtain⟨g0,af⟩:∃ g,W.heap.size=g:=⟨_,rfl⟩;rw[bD] at ag aJ EE;rw[af] at ag aJ;have lj:W.heap.size<=g0:=by omega
 have n2:W.heap.size<=g0+1:=by omega
 have aB:=hide bD;have bW:=hide af;clear bD af;go_enter Tryz.func22,Tryz.ntmps22
 go_upto_region 1 with fail
 unfold z21 at aB;rw[aB.out,bW.out];clear aB bW;have cP:=ag.lt;have dT:=aJ.lt;refine eB [.q,.q,.al,.st 2] [0,0,0,0] (fun R=>[.agg (#[.int .u64 0,.int .u64 4,.int .u64 0,.int .u64 0]),.agg dV,f,f]) (fun _=>(.cells z5 27 (0,0))) (fun R _=>(.cells dV 27 (0,0))) (fun _=>0) (dA W) (fun _=>False) (by kernel_rfl) (by kernel_rfl) (by kernel_rfl) rfl (fun _=>rfl) (fun _ h=>h.elim) (fun _ _ h=>h) (by simp) (by simp) (fun R b1=>⟨fun _=>rfl,fun _=>rfl,fun _=>rfl,fun _=>rfl,trivial⟩) (fun _ _ _ _=>rfl) dH EE.out ?zL ?yW;case zL =>
  refine⟨aH,?_,?_,?_,trivial⟩
  ·refine cj fun R s w' aw hs hw ha=>?_
   unfold dV;go_simp
  ·refine ia ?An ?tT ?zx ?y0 ?_;case An=>exact(.cells z5 27 (0,0))
   case tT=>exact rfl
   case zx=>exact rfl
   case y0=>exact cu rfl
   intro ρ w';go_simp;exact⟨rfl,rfl⟩
  ·refine ib (j:=2) (Ty:=?w4) (p:=?xL) (x:=?xZ) ?n6 ?Ao ?kj ?iQ ?om ?j8 ?oi ?jn ?n5 ?_;case iQ=>exact rfl
   case om=>exact rfl
   case n6=>exact(fun R=>(.cells dV 27 (0,0)))
   case Ao=>exact(.cells z5 27 (0,0))
   case kj=>exact(fun R=>.agg dV)
   case j8=>exact(fun R=>rfl)
   case oi=>exact rfl
   case jn=>exact cu rfl
   case n5 =>
    intro R;kernel_rfl
   intro R s ρ w g aw hs hp hx af hz;exact⟨hQ rfl hp hx hz eT (rfl) (He),fun aT hF=>dM aw hF (Nat.le_trans EE.out.size af)⟩
 case yW =>
  intro cY R G bm ae;have hS:=ae.same;have aZ:=ae.holds;have bf:=EE.out.size;replace ag:=ag.aY hS (fun h=>h) (by simp);replace aJ:=aJ.aY hS (fun h=>h) (by simp);have bu:aG bm (G 2) 27 dV:=(ae.eV 3 (List.mem_range.2 (show 3<4 by decide)) 2 rfl).2.2;have vD:=(ae.made 2 (List.mem_range.2 (show 2<4 by decide)) rfl).1;have FW:W.heap.size<=G 2:=Nat.le_trans bf vD;have Hn:g0≠G 2:=by omega
  have Ho:g0+1≠G 2:=by omega
  replace EE:=hide (show Ext _ _ from aZ);clear hS bf aZ ae cP dT;generalize hF:bB _ _ _ _ _ _ _=bH;have bI:bH={ tmps:=#[.agg B,.int .i64 v,.int .i64 b_,.int .u64 (dt:Int),(yj g0 0:C),f,f,f,(yj (g0+1) 0:C),.bool false,(yj (G 2) 0:C),f,f,f,f,f,f,f,f,.agg (#[.int .u64 0,.int .u64 4,.int .u64 0,.int .u64 0]),.agg dV,f,f,f,f,f,f,f,f,f,f,f,f,f,f,f,f,f,f,f,f,f,f,f,f,f,f,f,f,f,f,f,f,f,f,f,f,f,f,f,f,f,f,f,f,f,f,f,f,f,f,f,f,f,f,f,f,f,f,f,f],defers:=[] }:=by subst hF;kernel_rfl
  clear hF;subst bI;generalize G 2=g10 at *;go_upto_region 2 with fail
  have cP:=ag.lt;have dT:=aJ.lt;have fj:=bu.lt;refine eB [.q,.al,.st 1] [0,0,0] (fun R=>[.agg B,f,f]) (fun _=>(.cells z5 27 (0,0))) (fun R _=>(.cells B 27 (0,0))) (fun _=>0) (dA W) (fun _=>False) (by kernel_rfl) (by kernel_rfl) (by kernel_rfl) rfl (fun _=>rfl) (fun _ h=>h.elim) (fun _ _ h=>h) (by simp) (by simp) (fun R b1=>⟨fun _=>rfl,fun _=>rfl,fun _=>rfl,trivial⟩) (fun _ _ _ _=>rfl) dH EE.out ?jA ?jm;case jA =>
   refine⟨?_,?_,?_,trivial⟩
   ·refine cj fun R s w' aw hs hw ha=>?_
    have L:=dF (ag.aY hw (fun h=>h) (by simp)) hU rfl eT jB;generalize hA:bB _ _ _ _ _ _ _=c3;refine e7 rfl ?_ L;subst hA;kernel_rfl
   ·refine ia ?ld ?gA ?hO ?gx ?_;case ld=>exact(.cells z5 27 (0,0))
    case gA=>exact rfl
    case hO=>exact rfl
    case gx=>exact cu rfl
    intro ρ w';go_simp;exact⟨rfl,rfl⟩
   ·refine ib (j:=1) (Ty:=?F2) (p:=?HA) (x:=?Ij) ?fn8 ?Ap ?tw ?sO ?vS ?kn8 ?vQ ?sC ?uZ ?_;case sO=>exact rfl
    case vS=>exact rfl
    case fn8=>exact(fun R=>(.cells B 27 (0,0)))
    case Ap=>exact(.cells z5 27 (0,0))
    case tw=>exact(fun R=>.agg B)
    case kn8=>exact(fun R=>rfl)
    case vQ=>exact rfl
    case sC=>exact cu rfl
    case uZ =>
     intro R;kernel_rfl
    intro R s ρ w g aw hs hp hx af hz;exact⟨hQ rfl hp hx hz eT (jB) (rK),fun aT hF=>dM aw hF (Nat.le_trans EE.out.size af)⟩
  case jm =>
   intro cY R G cN ae;have hS:=ae.same;have aZ:=ae.holds;have bf:=EE.out.size;replace ag:=ag.aY hS (fun h=>h) (by simp);replace aJ:=aJ.aY hS (fun h=>h) (by simp);replace bu:=bu.aY hS (fun h=>h) (by simp);have bE:aG cN (G 1) 27 B:=(ae.eV 2 (List.mem_range.2 (show 2<3 by decide)) 1 rfl).2.2;have xp:=(ae.made 1 (List.mem_range.2 (show 1<3 by decide)) rfl).1;have yv:W.heap.size<=G 1:=Nat.le_trans bf xp;have Nf:g0≠G 1:=by omega
   have Nn:g0+1≠G 1:=by omega
   have M9:g10≠G 1:=by omega
   replace EE:=hide (show Ext _ _ from aZ);clear hS bf aZ ae cP dT fj;generalize hF:bB _ _ _ _ _ _ _=bH;have bI:bH={ tmps:=#[.agg B,.int .i64 v,.int .i64 b_,.int .u64 (dt:Int),(yj g0 0:C),f,f,f,(yj (g0+1) 0:C),.bool false,(yj g10 0:C),(yj (G 1) 0:C),f,f,f,f,f,f,f,.agg (#[.int .u64 0,.int .u64 4,.int .u64 0,.int .u64 0]),.agg dV,.agg B,f,f,f,f,f,f,f,f,f,f,f,f,f,f,f,f,f,f,f,f,f,f,f,f,f,f,f,f,f,f,f,f,f,f,f,f,f,f,f,f,f,f,f,f,f,f,f,f,f,f,f,f,f,f,f,f,f,f,f],defers:=[] }:=by subst hF;kernel_rfl
   clear hF;subst bI;generalize G 1=g11 at *;go_upto_region 3 with fail
   have cP:=ag.lt;have dT:=aJ.lt;have fj:=bu.lt;have ji:=bE.lt;refine eB [.q,.so 0] [0,0] (fun R=>[yj g11 0,f]) (fun _=>(.cells #[] 0 (0,0))) (fun R _=>(.cells S 27 (0,0))) (fun _=>g11) (dA W) (fun _=>False) (by kernel_rfl) (by kernel_rfl) (by kernel_rfl) rfl (fun _=>rfl) (fun _ h=>h.elim) (fun _ _ h=>h) (by intro c hc;simp at hc;(try subst hc);(try simp only);omega) (by intro c c' h1 h2 _;simp at h1 h2;omega) (fun R b1=>⟨fun _=>rfl,fun _=>rfl,trivial⟩) (fun _ _ _ _=>rfl) dH EE.out ?vT ?u_;case vT =>
    refine⟨aH,?_,trivial⟩
    ·refine il (c:=0) (Ty:=?F1) (p:=?Hz) (x:=?Ii) g11 ?vb ?z_ ?qS ?oa ?vR ?qK ?vP ?n8 ?yR ?uY ?_;case oa=>exact rfl
     case vR=>exact rfl
     case vb=>exact(fun R=>(.cells S 27 (0,0)))
     case z_=>exact(fun R=>.pointer (some ⟨g11,0,none⟩))
     case qS=>exact(fun R=>.bool false)
     case qK=>exact(fun R=>rfl)
     case vP=>exact rfl
     case n8=>exact cu rfl
     case yR =>
      intro R;kernel_rfl
     case uY =>
      intro R;kernel_rfl
     intro R s ρ w aw hs hp hx hz;have bF:=(show aG w g11 _ B from hz.trans bE);have hc:=(bF.cell 0).trans (y7);have hf:=bF.frozen 0;refine⟨qR (g:=g11) (Ty:=4) rfl hp hx (hz.trans bE) (hS) ?_,fun aT hF=>dM aw hF yv⟩;go_simp
   case u_ =>
    intro cY R G e9 ae;have hS:=ae.same;have aZ:=ae.holds;have bf:=EE.out.size;replace ag:=ag.aY hS (fun h=>h) (by intro c hc;simp at hc;(try subst hc);(try simp only);omega);replace aJ:=aJ.aY hS (fun h=>h) (by intro c hc;simp at hc;(try subst hc);(try simp only);omega);replace bu:=bu.aY hS (fun h=>h) (by intro c hc;simp at hc;(try subst hc);(try simp only);omega);replace bE:aG e9 g11 27 S:=ae.ep 1 (List.mem_range.2 (show 1<2 by decide)) 0 rfl;replace EE:=hide (show Ext _ _ from aZ);clear hS bf aZ ae cP dT fj ji;generalize hF:bB _ _ _ _ _ _ _=bH;have bI:bH={ tmps:=#[.agg B,.int .i64 v,.int .i64 b_,.int .u64 (dt:Int),(yj g0 0:C),f,f,f,(yj (g0+1) 0:C),.bool false,(yj g10 0:C),(yj g11 0:C),f,f,f,f,f,f,f,.agg (#[.int .u64 0,.int .u64 4,.int .u64 0,.int .u64 0]),.agg dV,.agg B,(yj g11 0:C),f,f,f,f,f,f,f,f,f,f,f,f,f,f,f,f,f,f,f,f,f,f,f,f,f,f,f,f,f,f,f,f,f,f,f,f,f,f,f,f,f,f,f,f,f,f,f,f,f,f,f,f,f,f,f,f,f,f],defers:=[] }:=by subst hF;kernel_rfl
    clear hF;subst bI;go_upto_region 4 with fail
    refine eK ?_;repeat (first|go_big_quiet_step (first|with_reducible exact dK (bQ.out _)|with_reducible exact dK (bY.out _)|with_reducible exact dK (cX.out _))|(refine iE (by kernel_rfl) rfl rfl (fun w hw=>by obtain⟨⟨d,os⟩,rfl⟩:=hw;exact dF ((ag).ext (aX e9 d os)) hU rfl eT jB) ?_)|(refine iE (by kernel_rfl) rfl rfl (fun w hw=>by obtain⟨⟨d,os⟩,rfl⟩:=hw;exact dF ((bE).ext (aX e9 d os)) hU rfl eT tn) ?_)|(refine iE (by kernel_rfl) rfl rfl (fun w hw=>by obtain⟨⟨d,os⟩,rfl⟩:=hw;exact dF ((bu).ext (aX e9 d os)) hU rfl eT rfl) ?_)|quiet_step (first|with_reducible exact dK (bQ.out _)|with_reducible exact dK (bY.out _)|with_reducible exact dK (cX.out _)))
    refine B' ?_;intro _ bj;obtain⟨⟨aQ,osq⟩,cq⟩:=bj;subst cq;replace ag:=(ag).ext (aX e9 aQ osq);replace aJ:=(aJ).ext (aX e9 aQ osq);replace bu:=(bu).ext (aX e9 aQ osq);replace bE:=(bE).ext (aX e9 aQ osq);replace EE:=hide (EE.out.trans (aX e9 aQ osq));obtain⟨qT,sR⟩:∃ w,grow (aw5 e9 aQ) osq=w:=⟨_,rfl⟩;rw[sR] at EE ag aJ bu bE |-;clear sR;go_upto_region 6 with fail
    have cP:=ag.lt;have dT:=aJ.lt;have fj:=bu.lt;have ji:=bE.lt;refine kl [.q,.q,.q,.q,.q,.q,.q,.al,.st 7,.q] [0,0,0,0,0,0,0,0,0,0] (fun R=>[.int .i64 v,.agg V,.agg B,.tuple #[.agg D,.bool b7],.tuple #[.agg D,.bool b7],.agg D,.bool b7,f,f,.bool b7]) (fun _=>(.cells z5 27 (0,0))) (fun R _=>(.cells D 27 (0,0))) (fun _=>0) (dA W) (fun _=>False) (by kernel_rfl) (by kernel_rfl) (by kernel_rfl) (by kernel_rfl) rfl (fun _=>rfl) (fun _ h=>h.elim) (fun _ _ h=>h) (by simp) (by simp) (fun R b1=>⟨fun _=>rfl,fun _=>rfl,fun _=>rfl,fun _=>rfl,fun _=>rfl,fun _=>rfl,fun _=>rfl,fun _=>rfl,fun _=>rfl,fun _=>rfl,trivial⟩) (fun _ _ _ _=>rfl) dH (EE.out.trans (b5 _)) ?ahX ?aaK;case ahX =>
     refine⟨aH,d_ ev,?_,d_ vM,aH,aH,aH,?_,?_,aH,trivial⟩
     ·refine cj fun R s w' aw hs hw ha=>?_
      have L:=dF (ag.aY hw (fun h=>h) (by simp)) hU rfl eT jB;generalize hA:bB _ _ _ _ _ _ _=c3;refine e7 rfl ?_ L;subst hA;kernel_rfl
     ·refine ia ?PV ?DZ ?Ev ?Dg ?_;case PV=>exact(.cells z5 27 (0,0))
      case DZ=>exact rfl
      case Ev=>exact rfl
      case Dg=>exact cu rfl
      intro ρ w';go_simp;exact⟨rfl,rfl⟩
     ·refine ib (j:=7) (Ty:=?aow) (p:=?ar4) (x:=?atv) ?abA ?aoc ?Ph ?LW ?ahB ?MF ?af7 ?Ky ?aar ?_;case LW=>exact rfl
      case ahB=>exact rfl
      case abA=>exact(fun R=>(.cells D 27 (0,0)))
      case aoc=>exact(.cells z5 27 (0,0))
      case Ph=>exact(fun R=>.agg D)
      case MF=>exact(fun R=>rfl)
      case af7=>exact rfl
      case Ky=>exact cu rfl
      case aar =>
       intro R;kernel_rfl
      intro R s ρ w g aw hs hp hx af hz;exact⟨hQ rfl hp hx hz eT (zU) (rL),fun aT hF=>dM aw hF (Nat.le_trans EE.out.size af)⟩
    case aaK =>
     intro cY R G Pr ae;have hS:=ae.same;have aZ:=ae.holds;have bf:=EE.out.size;replace ag:=ag.aY hS (fun h=>h) (by simp);replace aJ:=aJ.aY hS (fun h=>h) (by simp);replace bu:=bu.aY hS (fun h=>h) (by simp);replace bE:=bE.aY hS (fun h=>h) (by simp);have h_:aG Pr (G 7) 27 D:=(ae.eV 8 (List.mem_range.2 (show 8<10 by decide)) 7 rfl).2.2;have LN:=(ae.made 7 (List.mem_range.2 (show 7<10 by decide)) rfl).1;have Xw:W.heap.size<=G 7:=Nat.le_trans bf LN;have ag8:g0≠G 7:=by omega
     have ahj:g0+1≠G 7:=by omega
     have agQ:g10≠G 7:=by omega
     have aqv:g11≠G 7:=by omega
     replace EE:=hide (show Ext _ _ from aZ);clear hS bf aZ ae cP dT fj ji;generalize hF:bB _ _ _ _ _ _ _=bH;have bI:bH={ tmps:=#[.agg B,.int .i64 v,.int .i64 b_,.int .u64 (dt:Int),(yj g0 0:C),f,f,f,(yj (g0+1) 0:C),.bool false,(yj g10 0:C),(yj g11 0:C),(yj (G 7) 0:C),.bool b7,f,f,f,f,f,.agg (#[.int .u64 0,.int .u64 4,.int .u64 0,.int .u64 0]),.agg dV,.agg B,(yj g11 0:C),.agg B,.bool true,.bool false,.bool false,.agg S,.agg dV,.int .i64 r,.bool false,.bool false,.bool false,.int .i64 b_,.bool true,.bool false,.bool false,.bool false,.int .u64 (dt:Int),.bool false,.bool false,f,.tuple #[.agg D,.bool b7],.int .i64 v,.agg V,.agg B,.tuple #[.agg D,.bool b7],.agg D,.bool b7,f,f,f,f,f,f,f,f,f,f,f,f,f,f,f,f,f,f,f,f,f,f,f,f,f,f,f,f,f,f,f,f],defers:=[] }:=by subst hF;kernel_rfl
     clear hF;subst bI;generalize G 7=g12 at *;go_upto_region 7 with fail
     have cP:=ag.lt;have dT:=aJ.lt;have fj:=bu.lt;have ji:=bE.lt;have ni:=h_.lt;refine kl [.q,.q,.q,.q,.q,.q,.q,.al,.st 7,.q] [0,0,0,0,0,0,0,0,0,0] (fun R=>[.agg D,.int .i64 b_,.agg iG,.tuple #[.agg Lo,.bool cr],.tuple #[.agg Lo,.bool cr],.agg Lo,.bool cr,f,f,.bool cr]) (fun _=>(.cells z5 27 (0,0))) (fun R _=>(.cells Lo 27 (0,0))) (fun _=>0) (dA W) (fun _=>False) (by kernel_rfl) (by kernel_rfl) (by kernel_rfl) (by kernel_rfl) rfl (fun _=>rfl) (fun _ h=>h.elim) (fun _ _ h=>h) (by simp) (by simp) (fun R b1=>⟨fun _=>rfl,fun _=>rfl,fun _=>rfl,fun _=>rfl,fun _=>rfl,fun _=>rfl,fun _=>rfl,fun _=>rfl,fun _=>rfl,fun _=>rfl,trivial⟩) (fun _ _ _ _=>rfl) dH (EE.out.trans (b5 _)) ?ah0 ?aaN;case ah0 =>
      refine⟨?_,aH,d_ Bz,d_ Mv,aH,aH,aH,?_,?_,aH,trivial⟩
      ·refine cj fun R s w' aw hs hw ha=>?_
       have L:=dF (h_.aY hw (fun h=>h) (by simp)) hU rfl eT zU;generalize hA:bB _ _ _ _ _ _ _=c3;refine e7 rfl ?_ L;subst hA;kernel_rfl
      ·refine ia ?PY ?D2 ?Ex ?Dj ?_;case PY=>exact(.cells z5 27 (0,0))
       case D2=>exact rfl
       case Ex=>exact rfl
       case Dj=>exact cu rfl
       intro ρ w';go_simp;exact⟨rfl,rfl⟩
      ·refine ib (j:=7) (Ty:=?aoz) (p:=?ar7) (x:=?aty) ?abD ?aoe ?Pl ?LY ?ahE ?MI ?af_ ?KA ?aau ?_;case LY=>exact rfl
       case ahE=>exact rfl
       case abD=>exact(fun R=>(.cells Lo 27 (0,0)))
       case aoe=>exact(.cells z5 27 (0,0))
       case Pl=>exact(fun R=>.agg Lo)
       case MI=>exact(fun R=>rfl)
       case af_=>exact rfl
       case KA=>exact cu rfl
       case aau =>
        intro R;kernel_rfl
       intro R s ρ w g aw hs hp hx af hz;exact⟨hQ rfl hp hx hz eT (EX) (Nt),fun aT hF=>dM aw hF (Nat.le_trans EE.out.size af)⟩
     case aaN =>
      intro cY R G am_ ae;have hS:=ae.same;have aZ:=ae.holds;have bf:=EE.out.size;replace ag:=ag.aY hS (fun h=>h) (by simp);replace aJ:=aJ.aY hS (fun h=>h) (by simp);replace bu:=bu.aY hS (fun h=>h) (by simp);replace bE:=bE.aY hS (fun h=>h) (by simp);replace h_:=h_.aY hS (fun h=>h) (by simp);have gV:aG am_ (G 7) 27 Lo:=(ae.eV 8 (List.mem_range.2 (show 8<10 by decide)) 7 rfl).2.2;have LO:=(ae.made 7 (List.mem_range.2 (show 7<10 by decide)) rfl).1;have Xx:W.heap.size<=G 7:=Nat.le_trans bf LO;have ag9:g0≠G 7:=by omega
      have ahk:g0+1≠G 7:=by omega
      have agR:g10≠G 7:=by omega
      have aqw:g11≠G 7:=by omega
      have agU:g12≠G 7:=by omega
      replace EE:=hide (show Ext _ _ from aZ);clear hS bf aZ ae cP dT fj ji ni;generalize hF:bB _ _ _ _ _ _ _=bH;have bI:bH={ tmps:=#[.agg B,.int .i64 v,.int .i64 b_,.int .u64 (dt:Int),(yj g0 0:C),f,f,f,(yj (g0+1) 0:C),.bool false,(yj g10 0:C),(yj g11 0:C),(yj g12 0:C),.bool b7,(yj (G 7) 0:C),.bool cr,f,f,f,.agg (#[.int .u64 0,.int .u64 4,.int .u64 0,.int .u64 0]),.agg dV,.agg B,(yj g11 0:C),.agg B,.bool true,.bool false,.bool false,.agg S,.agg dV,.int .i64 r,.bool false,.bool false,.bool false,.int .i64 b_,.bool true,.bool false,.bool false,.bool false,.int .u64 (dt:Int),.bool false,.bool false,f,.tuple #[.agg D,.bool b7],.int .i64 v,.agg V,.agg B,.tuple #[.agg D,.bool b7],.agg D,.bool b7,.tuple #[.agg Lo,.bool cr],.agg D,.int .i64 b_,.agg iG,.tuple #[.agg Lo,.bool cr],.agg Lo,.bool cr,f,f,f,f,f,f,f,f,f,f,f,f,f,f,f,f,f,f,f,f,f,f,f,f,f],defers:=[] }:=by subst hF;kernel_rfl
      clear hF;subst bI;generalize G 7=g14 at *;go_upto_region 8 with fail
      have cP:=ag.lt;have dT:=aJ.lt;have fj:=bu.lt;have ji:=bE.lt;have ni:=h_.lt;have o1:=gV.lt;refine kl [.q,.q,.q,.q,.q,.q,.q,.al,.st 7,.q] [0,0,0,0,0,0,0,0,0,0] (fun R=>[.agg D,.int .i64 b_,.agg iG,.tuple #[.agg er,.bool cR],.tuple #[.agg er,.bool cR],.agg er,.bool cR,f,f,.bool cR]) (fun _=>(.cells z5 27 (0,0))) (fun R _=>(.cells er 27 (0,0))) (fun _=>0) (dA W) (fun _=>False) (by kernel_rfl) (by kernel_rfl) (by kernel_rfl) (by kernel_rfl) rfl (fun _=>rfl) (fun _ h=>h.elim) (fun _ _ h=>h) (by simp) (by simp) (fun R b1=>⟨fun _=>rfl,fun _=>rfl,fun _=>rfl,fun _=>rfl,fun _=>rfl,fun _=>rfl,fun _=>rfl,fun _=>rfl,fun _=>rfl,fun _=>rfl,trivial⟩) (fun _ _ _ _=>rfl) dH (EE.out.trans (b5 _)) ?ah3 ?aaQ;case ah3 =>
       refine⟨?_,aH,d_ Bz,d_ rH,aH,aH,aH,?_,?_,aH,trivial⟩
       ·refine cj fun R s w' aw hs hw ha=>?_
        have L:=dF (h_.aY hw (fun h=>h) (by simp)) hU rfl eT zU;generalize hA:bB _ _ _ _ _ _ _=c3;refine e7 rfl ?_ L;subst hA;kernel_rfl
       ·refine ia ?P2 ?L2 ?MN ?KE ?_;case P2=>exact(.cells z5 27 (0,0))
        case L2=>exact rfl
        case MN=>exact rfl
        case KE=>exact cu rfl
        intro ρ w';go_simp;exact⟨rfl,rfl⟩
       ·refine ib (j:=7) (Ty:=?aoB) (p:=?ar9) (x:=?atA) ?abF ?aof ?amX ?aen ?ahG ?afG ?aga ?ab6 ?aaw ?_;case aen=>exact rfl
        case ahG=>exact rfl
        case abF=>exact(fun R=>(.cells er 27 (0,0)))
        case aof=>exact(.cells z5 27 (0,0))
        case amX=>exact(fun R=>.agg er)
        case afG=>exact(fun R=>rfl)
        case aga=>exact rfl
        case ab6=>exact cu rfl
        case aaw =>
         intro R;kernel_rfl
        intro R s ρ w g aw hs hp hx af hz;exact⟨hQ rfl hp hx hz eT (EW) (Ns),fun aT hF=>dM aw hF (Nat.le_trans EE.out.size af)⟩
      case aaQ =>
       intro cY R G Pt ae;have hS:=ae.same;have aZ:=ae.holds;have bf:=EE.out.size;replace ag:=ag.aY hS (fun h=>h) (by simp);replace aJ:=aJ.aY hS (fun h=>h) (by simp);replace bu:=bu.aY hS (fun h=>h) (by simp);replace bE:=bE.aY hS (fun h=>h) (by simp);replace h_:=h_.aY hS (fun h=>h) (by simp);replace gV:=gV.aY hS (fun h=>h) (by simp);have ek:aG Pt (G 7) 27 er:=(ae.eV 8 (List.mem_range.2 (show 8<10 by decide)) 7 rfl).2.2;have LP:=(ae.made 7 (List.mem_range.2 (show 7<10 by decide)) rfl).1;have Xy:W.heap.size<=G 7:=Nat.le_trans bf LP;have ag_:g0≠G 7:=by omega
       have ahl:g0+1≠G 7:=by omega
       have agS:g10≠G 7:=by omega
       have aqx:g11≠G 7:=by omega
       have agV:g12≠G 7:=by omega
       have agY:g14≠G 7:=by omega
       replace EE:=hide (show Ext _ _ from aZ);clear hS bf aZ ae cP dT fj ji ni o1;generalize hF:bB _ _ _ _ _ _ _=bH;have bI:bH={ tmps:=#[.agg B,.int .i64 v,.int .i64 b_,.int .u64 (dt:Int),(yj g0 0:C),f,f,f,(yj (g0+1) 0:C),.bool false,(yj g10 0:C),(yj g11 0:C),(yj g12 0:C),.bool b7,(yj g14 0:C),.bool cr,(yj (G 7) 0:C),.bool cR,f,.agg (#[.int .u64 0,.int .u64 4,.int .u64 0,.int .u64 0]),.agg dV,.agg B,(yj g11 0:C),.agg B,.bool true,.bool false,.bool false,.agg S,.agg dV,.int .i64 r,.bool false,.bool false,.bool false,.int .i64 b_,.bool true,.bool false,.bool false,.bool false,.int .u64 (dt:Int),.bool false,.bool false,f,.tuple #[.agg D,.bool b7],.int .i64 v,.agg V,.agg B,.tuple #[.agg D,.bool b7],.agg D,.bool b7,.tuple #[.agg Lo,.bool cr],.agg D,.int .i64 b_,.agg iG,.tuple #[.agg Lo,.bool cr],.agg Lo,.bool cr,.tuple #[.agg er,.bool cR],.agg D,.int .i64 b_,.agg iG,.tuple #[.agg er,.bool cR],.agg er,.bool cR,f,f,f,f,f,f,f,f,f,f,f,f,f,f,f,f,f,f],defers:=[] }:=by subst hF;kernel_rfl
       clear hF;subst bI;generalize G 7=g16 at *;go_upto_region 9 with fail
       have cP:=ag.lt;have dT:=aJ.lt;have fj:=bu.lt;have ji:=bE.lt;have ni:=h_.lt;have o1:=gV.lt;have r8:=ek.lt;refine eB [.q,.al,.st 1] [0,0,0] (fun R=>[.agg z21,f,f]) (fun _=>(.cells z21 31 (0,0))) (fun R _=>(.cells z21 31 (0,0))) (fun _=>0) (dA W) (fun _=>False) (by kernel_rfl) (by kernel_rfl) (by kernel_rfl) rfl (fun _=>rfl) (fun _ h=>h.elim) (fun _ _ h=>h) (by simp) (by simp) (fun R b1=>⟨fun _=>rfl,fun _=>rfl,fun _=>rfl,trivial⟩) (fun _ _ _ _=>rfl) dH EE.out ?NL ?Kc;case NL =>
        refine⟨?_,?_,?_,trivial⟩
        ·refine cj fun R s w' aw hs hw ha=>?_
         unfold z21;go_simp
        ·refine ia ?aog ?aeo ?afH ?ab7 ?_;case aog=>exact(.cells z21 31 (0,0))
         case aeo=>exact rfl
         case afH=>exact rfl
         case ab7=>exact cu rfl
         intro ρ w';go_simp;exact⟨rfl,rfl⟩
        ·refine ib (j:=1) (Ty:=?XS) (p:=?ajt) (x:=?anV) ?Km ?aoh ?Po ?D4 ?NB ?MO ?MZ ?Dl ?J6 ?_;case D4=>exact rfl
         case NB=>exact rfl
         case Km=>exact(fun R=>(.cells z21 31 (0,0)))
         case aoh=>exact(.cells z21 31 (0,0))
         case Po=>exact(fun R=>.agg z21)
         case MO=>exact(fun R=>rfl)
         case MZ=>exact rfl
         case Dl=>exact cu rfl
         case J6 =>
          intro R;kernel_rfl
         intro R s ρ w g aw hs hp hx af hz;exact⟨hQ rfl hp hx hz ei (rfl) (iV),fun aT hF=>dM aw hF (Nat.le_trans EE.out.size af)⟩
       case Kc =>
        intro cY R G Pu ae;have hS:=ae.same;have aZ:=ae.holds;have bf:=EE.out.size;replace ag:=ag.aY hS (fun h=>h) (by simp);replace aJ:=aJ.aY hS (fun h=>h) (by simp);replace bu:=bu.aY hS (fun h=>h) (by simp);replace bE:=bE.aY hS (fun h=>h) (by simp);replace h_:=h_.aY hS (fun h=>h) (by simp);replace gV:=gV.aY hS (fun h=>h) (by simp);replace ek:=ek.aY hS (fun h=>h) (by simp);have e3:aG Pu (G 1) 31 z21:=(ae.eV 2 (List.mem_range.2 (show 2<3 by decide)) 1 rfl).2.2;have LQ:=(ae.made 1 (List.mem_range.2 (show 1<3 by decide)) rfl).1;have I5:W.heap.size<=G 1:=Nat.le_trans bf LQ;have ag':g0≠G 1:=by omega
        have ahm:g0+1≠G 1:=by omega
        have agT:g10≠G 1:=by omega
        have aqy:g11≠G 1:=by omega
        have agW:g12≠G 1:=by omega
        have agZ:g14≠G 1:=by omega
        have ag0:g16≠G 1:=by omega
        replace EE:=hide (show Ext _ _ from aZ);clear hS bf aZ ae cP dT fj ji ni o1 r8;generalize hF:bB _ _ _ _ _ _ _=bH;have bI:bH={ tmps:=#[.agg B,.int .i64 v,.int .i64 b_,.int .u64 (dt:Int),(yj g0 0:C),f,f,f,(yj (g0+1) 0:C),.bool false,(yj g10 0:C),(yj g11 0:C),(yj g12 0:C),.bool b7,(yj g14 0:C),.bool cr,(yj g16 0:C),.bool cR,(yj (G 1) 0:C),.agg (#[.int .u64 0,.int .u64 4,.int .u64 0,.int .u64 0]),.agg dV,.agg B,(yj g11 0:C),.agg B,.bool true,.bool false,.bool false,.agg S,.agg dV,.int .i64 r,.bool false,.bool false,.bool false,.int .i64 b_,.bool true,.bool false,.bool false,.bool false,.int .u64 (dt:Int),.bool false,.bool false,f,.tuple #[.agg D,.bool b7],.int .i64 v,.agg V,.agg B,.tuple #[.agg D,.bool b7],.agg D,.bool b7,.tuple #[.agg Lo,.bool cr],.agg D,.int .i64 b_,.agg iG,.tuple #[.agg Lo,.bool cr],.agg Lo,.bool cr,.tuple #[.agg er,.bool cR],.agg D,.int .i64 b_,.agg iG,.tuple #[.agg er,.bool cR],.agg er,.bool cR,.agg z21,f,f,f,f,f,f,f,f,f,f,f,f,f,f,f,f,f],defers:=[] }:=by subst hF;kernel_rfl
        clear hF;subst bI;generalize G 1=g18 at *;go_upto_region 10 with fail
        have cP:=ag.lt;have dT:=aJ.lt;have fj:=bu.lt;have ji:=bE.lt;have ni:=h_.lt;have o1:=gV.lt;have r8:=ek.lt;have yw:=e3.lt;refine kl [.q,.q,.q,.q,.q,.q,.q,.q,.so 0] [0,0,0,0,0,0,0,0,0] (fun R=>[.agg Lo,.int .u64 (dt:Int),.agg U,.tuple #[.agg L,.bool p1],.tuple #[.agg L,.bool p1],.agg L,.bool p1,yj g18 1,f]) (fun _=>(.cells #[] 0 (0,0))) (fun R _=>(.cells (bT false L dq) 31 (0,0))) (fun _=>g18) (dA W) (fun _=>False) (by kernel_rfl) (by kernel_rfl) (by kernel_rfl) (by kernel_rfl) rfl (fun _=>rfl) (fun _ h=>h.elim) (fun _ _ h=>h) (by intro c hc;simp at hc;(try subst hc);(try simp only);omega) (by intro c c' h1 h2 _;simp at h1 h2;omega) (fun R b1=>⟨fun _=>rfl,fun _=>rfl,fun _=>rfl,fun _=>rfl,fun _=>rfl,fun _=>rfl,fun _=>rfl,fun _=>rfl,fun _=>rfl,trivial⟩) (fun _ _ _ _=>rfl) dH (EE.out.trans (b5 _)) ?ah9 ?aaW;case ah9 =>
         refine⟨?_,aH,d_ zq,d_ Mt,aH,aH,aH,aH,?_,trivial⟩
         ·refine cj fun R s w' aw hs hw ha=>?_
          have L:=dF (gV.aY hw (fun h=>h) (by intro c hc;simp at hc;(try subst hc);(try simp only);omega)) hU rfl eT EX;generalize hA:bB _ _ _ _ _ _ _=c3;refine e7 rfl ?_ L;subst hA;kernel_rfl
         ·refine il (c:=0) (Ty:=?aoG) (p:=?asc) (x:=?atF) g18 ?abK ?amk ?am2 ?aeu ?ahL ?afN ?agf ?acb ?Z8 ?aaB ?_;case aeu=>exact rfl
          case ahL=>exact rfl
          case abK=>exact(fun R=>(.cells (bT false L dq) 31 (0,0)))
          case amk=>exact(fun R=>.pointer (some ⟨g18,1,none⟩))
          case am2=>exact(fun R=>.agg L)
          case afN=>exact(fun R=>rfl)
          case agf=>exact rfl
          case acb=>exact cu rfl
          case Z8 =>
           intro R;kernel_rfl
          case aaB =>
           intro R;kernel_rfl
          intro R s ρ w aw hs hp hx hz;refine⟨uj (g:=g18) rfl hp hx (hz.trans e3) (JN (show aG w g18 _ (bT false dq dq) from hz.trans e3) rfl rfl rP EK),fun aT hF=>dM aw hF I5⟩
        case aaW =>
         intro cY R G anf ae;have hS:=ae.same;have aZ:=ae.holds;have bf:=EE.out.size;replace ag:=ag.aY hS (fun h=>h) (by intro c hc;simp at hc;(try subst hc);(try simp only);omega);replace aJ:=aJ.aY hS (fun h=>h) (by intro c hc;simp at hc;(try subst hc);(try simp only);omega);replace bu:=bu.aY hS (fun h=>h) (by intro c hc;simp at hc;(try subst hc);(try simp only);omega);replace bE:=bE.aY hS (fun h=>h) (by intro c hc;simp at hc;(try subst hc);(try simp only);omega);replace h_:=h_.aY hS (fun h=>h) (by intro c hc;simp at hc;(try subst hc);(try simp only);omega);replace gV:=gV.aY hS (fun h=>h) (by intro c hc;simp at hc;(try subst hc);(try simp only);omega);replace ek:=ek.aY hS (fun h=>h) (by intro c hc;simp at hc;(try subst hc);(try simp only);omega);replace e3:aG anf g18 31 (bT false L dq):=ae.ep 8 (List.mem_range.2 (show 8<9 by decide)) 0 rfl;replace EE:=hide (show Ext _ _ from aZ);clear hS bf aZ ae cP dT fj ji ni o1 r8 yw;generalize hF:bB _ _ _ _ _ _ _=bH;have bI:bH={ tmps:=#[.agg B,.int .i64 v,.int .i64 b_,.int .u64 (dt:Int),(yj g0 0:C),f,f,f,(yj (g0+1) 0:C),.bool false,(yj g10 0:C),(yj g11 0:C),(yj g12 0:C),.bool b7,(yj g14 0:C),.bool cr,(yj g16 0:C),.bool cR,(yj g18 0:C),.agg (#[.int .u64 0,.int .u64 4,.int .u64 0,.int .u64 0]),.agg dV,.agg B,(yj g11 0:C),.agg B,.bool true,.bool false,.bool false,.agg S,.agg dV,.int .i64 r,.bool false,.bool false,.bool false,.int .i64 b_,.bool true,.bool false,.bool false,.bool false,.int .u64 (dt:Int),.bool false,.bool false,f,.tuple #[.agg D,.bool b7],.int .i64 v,.agg V,.agg B,.tuple #[.agg D,.bool b7],.agg D,.bool b7,.tuple #[.agg Lo,.bool cr],.agg D,.int .i64 b_,.agg iG,.tuple #[.agg Lo,.bool cr],.agg Lo,.bool cr,.tuple #[.agg er,.bool cR],.agg D,.int .i64 b_,.agg iG,.tuple #[.agg er,.bool cR],.agg er,.bool cR,.agg z21,.tuple #[.agg L,.bool p1],.agg Lo,.int .u64 (dt:Int),.agg U,.tuple #[.agg L,.bool p1],.agg L,.bool p1,(yj g18 1:C),f,f,f,f,f,f,f,f,f],defers:=[] }:=by subst hF;kernel_rfl
         clear hF;subst bI;go_upto_region 11 with fail
         have cP:=ag.lt;have dT:=aJ.lt;have fj:=bu.lt;have ji:=bE.lt;have ni:=h_.lt;have o1:=gV.lt;have r8:=ek.lt;have yw:=e3.lt;refine kl [.q,.q,.q,.q,.q,.q,.q,.q,.so 0] [0,0,0,0,0,0,0,0,0] (fun R=>[.agg er,.int .u64 (dt:Int),.agg U,.tuple #[.agg H,.bool p2],.tuple #[.agg H,.bool p2],.agg H,.bool p2,yj g18 11,f]) (fun _=>(.cells #[] 0 (0,0))) (fun R _=>(.cells (bT false L H) 31 (0,0))) (fun _=>g18) (dA W) (fun _=>False) (by kernel_rfl) (by kernel_rfl) (by kernel_rfl) (by kernel_rfl) rfl (fun _=>rfl) (fun _ h=>h.elim) (fun _ _ h=>h) (by intro c hc;simp at hc;(try subst hc);(try simp only);omega) (by intro c c' h1 h2 _;simp at h1 h2;omega) (fun R b1=>⟨fun _=>rfl,fun _=>rfl,fun _=>rfl,fun _=>rfl,fun _=>rfl,fun _=>rfl,fun _=>rfl,fun _=>rfl,fun _=>rfl,trivial⟩) (fun _ _ _ _=>rfl) dH (EE.out.trans (b5 _)) ?ah' ?aaY;case ah' =>
          refine⟨?_,aH,d_ zq,d_ Mu,aH,aH,aH,aH,?_,trivial⟩
          ·refine cj fun R s w' aw hs hw ha=>?_
           have L:=dF (ek.aY hw (fun h=>h) (by intro c hc;simp at hc;(try subst hc);(try simp only);omega)) hU rfl eT EW;generalize hA:bB _ _ _ _ _ _ _=c3;refine e7 rfl ?_ L;subst hA;kernel_rfl
          ·refine il (c:=0) (Ty:=?aoI) (p:=?ase) (x:=?atH) g18 ?abM ?amm ?am4 ?aew ?ahN ?afP ?agi ?ace ?Z_ ?aaD ?_;case aew=>exact rfl
           case ahN=>exact rfl
           case abM=>exact(fun R=>(.cells (bT false L H) 31 (0,0)))
           case amm=>exact(fun R=>.pointer (some ⟨g18,11,none⟩))
           case am4=>exact(fun R=>.agg H)
           case afP=>exact(fun R=>rfl)
           case agi=>exact rfl
           case ace=>exact cu rfl
           case Z_ =>
            intro R;kernel_rfl
           case aaD =>
            intro R;kernel_rfl
           intro R s ρ w aw hs hp hx hz;refine⟨uj (g:=g18) rfl hp hx (hz.trans e3) (JM (show aG w g18 _ (bT false L dq) from hz.trans e3) rP rfl td EJ),fun aT hF=>dM aw hF I5⟩
         case aaY =>
          intro cY R G ani ae;have hS:=ae.same;have aZ:=ae.holds;have bf:=EE.out.size;replace ag:=ag.aY hS (fun h=>h) (by intro c hc;simp at hc;(try subst hc);(try simp only);omega);replace aJ:=aJ.aY hS (fun h=>h) (by intro c hc;simp at hc;(try subst hc);(try simp only);omega);replace bu:=bu.aY hS (fun h=>h) (by intro c hc;simp at hc;(try subst hc);(try simp only);omega);replace bE:=bE.aY hS (fun h=>h) (by intro c hc;simp at hc;(try subst hc);(try simp only);omega);replace h_:=h_.aY hS (fun h=>h) (by intro c hc;simp at hc;(try subst hc);(try simp only);omega);replace gV:=gV.aY hS (fun h=>h) (by intro c hc;simp at hc;(try subst hc);(try simp only);omega);replace ek:=ek.aY hS (fun h=>h) (by intro c hc;simp at hc;(try subst hc);(try simp only);omega);replace e3:aG ani g18 31 (bT false L H):=ae.ep 8 (List.mem_range.2 (show 8<9 by decide)) 0 rfl;replace EE:=hide (show Ext _ _ from aZ);clear hS bf aZ ae cP dT fj ji ni o1 r8 yw;generalize hF:bB _ _ _ _ _ _ _=bH;have bI:bH={ tmps:=#[.agg B,.int .i64 v,.int .i64 b_,.int .u64 (dt:Int),(yj g0 0:C),f,f,f,(yj (g0+1) 0:C),.bool false,(yj g10 0:C),(yj g11 0:C),(yj g12 0:C),.bool b7,(yj g14 0:C),.bool cr,(yj g16 0:C),.bool cR,(yj g18 0:C),.agg (#[.int .u64 0,.int .u64 4,.int .u64 0,.int .u64 0]),.agg dV,.agg B,(yj g11 0:C),.agg B,.bool true,.bool false,.bool false,.agg S,.agg dV,.int .i64 r,.bool false,.bool false,.bool false,.int .i64 b_,.bool true,.bool false,.bool false,.bool false,.int .u64 (dt:Int),.bool false,.bool false,f,.tuple #[.agg D,.bool b7],.int .i64 v,.agg V,.agg B,.tuple #[.agg D,.bool b7],.agg D,.bool b7,.tuple #[.agg Lo,.bool cr],.agg D,.int .i64 b_,.agg iG,.tuple #[.agg Lo,.bool cr],.agg Lo,.bool cr,.tuple #[.agg er,.bool cR],.agg D,.int .i64 b_,.agg iG,.tuple #[.agg er,.bool cR],.agg er,.bool cR,.agg z21,.tuple #[.agg L,.bool p1],.agg Lo,.int .u64 (dt:Int),.agg U,.tuple #[.agg L,.bool p1],.agg L,.bool p1,(yj g18 1:C),.tuple #[.agg H,.bool p2],.agg er,.int .u64 (dt:Int),.agg U,.tuple #[.agg H,.bool p2],.agg H,.bool p2,(yj g18 11:C),f],defers:=[] }:=by subst hF;kernel_rfl
          clear hF;subst bI;go_upto_region 12 with fail
          have cP:=ag.lt;have dT:=aJ.lt;have fj:=bu.lt;have ji:=bE.lt;have ni:=h_.lt;have o1:=gV.lt;have r8:=ek.lt;have yw:=e3.lt;refine eB [.q,.so 0,.q] [0,0,0] (fun R=>[.agg (bT false L H),f,.bool true]) (fun _=>(.cells #[] 0 (0,0))) (fun R _=>(.cells (bT false L H) 31 (0,0))) (fun _=>g0+1) (dA W) (fun _=>False) (by kernel_rfl) (by kernel_rfl) (by kernel_rfl) rfl (fun _=>rfl) (fun _ h=>h.elim) (fun _ _ h=>h) (by intro c hc;simp at hc;(try subst hc);(try simp only);omega) (by intro c c' h1 h2 _;simp at h1 h2;omega) (fun R b1=>⟨fun _=>rfl,fun _=>rfl,fun _=>rfl,trivial⟩) (fun _ _ _ _=>rfl) dH EE.out ?aia ?aaZ;case aia =>
           refine⟨?_,?_,aH,trivial⟩
           ·refine cj fun R s w' aw hs hw ha=>?_
            have L:=dF (e3.aY hw (fun h=>h) (by intro c hc;simp at hc;(try subst hc);(try simp only);omega)) fV rfl ei nW;generalize hA:bB _ _ _ _ _ _ _=c3;refine e7 rfl ?_ L;subst hA;kernel_rfl
           ·refine il (c:=0) (Ty:=?aoJ) (p:=?asf) (x:=?atI) (g0+1) ?abN ?amn ?am5 ?aex ?ahO ?afQ ?agj ?acf ?aac ?aaE ?_;case aex=>exact rfl
            case ahO=>exact rfl
            case abN=>exact(fun R=>(.cells (bT false L H) 31 (0,0)))
            case amn=>exact(fun R=>.pointer (some ⟨g0+1,0,none⟩))
            case am5=>exact(fun R=>.agg (bT false L H))
            case afQ=>exact(fun R=>rfl)
            case agj=>exact rfl
            case acf=>exact cu rfl
            case aac =>
             intro R;kernel_rfl
            case aaE =>
             intro R;kernel_rfl
            intro R s ρ w aw hs hp hx hz;refine⟨lI (g:=(g0+1)) rfl hp hx (hz.trans aJ) ei (rfl) (nW) (s6),fun aT hF=>dM aw hF n2⟩
          case aaZ =>
           intro cY R G anj ae;have hS:=ae.same;have aZ:=ae.holds;have bf:=EE.out.size;replace ag:=ag.aY hS (fun h=>h) (by intro c hc;simp at hc;(try subst hc);(try simp only);omega);replace bu:=bu.aY hS (fun h=>h) (by intro c hc;simp at hc;(try subst hc);(try simp only);omega);replace bE:=bE.aY hS (fun h=>h) (by intro c hc;simp at hc;(try subst hc);(try simp only);omega);replace h_:=h_.aY hS (fun h=>h) (by intro c hc;simp at hc;(try subst hc);(try simp only);omega);replace gV:=gV.aY hS (fun h=>h) (by intro c hc;simp at hc;(try subst hc);(try simp only);omega);replace ek:=ek.aY hS (fun h=>h) (by intro c hc;simp at hc;(try subst hc);(try simp only);omega);replace e3:=e3.aY hS (fun h=>h) (by intro c hc;simp at hc;(try subst hc);(try simp only);omega);replace aJ:aG anj (g0+1) 31 (bT false L H):=ae.ep 1 (List.mem_range.2 (show 1<3 by decide)) 0 rfl;replace EE:=hide (show Ext _ _ from aZ);clear hS bf aZ ae cP dT fj ji ni o1 r8 yw;generalize hF:bB _ _ _ _ _ _ _=bH;have bI:bH={ tmps:=#[.agg B,.int .i64 v,.int .i64 b_,.int .u64 (dt:Int),(yj g0 0:C),f,f,f,(yj (g0+1) 0:C),.bool true,(yj g10 0:C),(yj g11 0:C),(yj g12 0:C),.bool b7,(yj g14 0:C),.bool cr,(yj g16 0:C),.bool cR,(yj g18 0:C),.agg (#[.int .u64 0,.int .u64 4,.int .u64 0,.int .u64 0]),.agg dV,.agg B,(yj g11 0:C),.agg B,.bool true,.bool false,.bool false,.agg S,.agg dV,.int .i64 r,.bool false,.bool false,.bool false,.int .i64 b_,.bool true,.bool false,.bool false,.bool false,.int .u64 (dt:Int),.bool false,.bool false,f,.tuple #[.agg D,.bool b7],.int .i64 v,.agg V,.agg B,.tuple #[.agg D,.bool b7],.agg D,.bool b7,.tuple #[.agg Lo,.bool cr],.agg D,.int .i64 b_,.agg iG,.tuple #[.agg Lo,.bool cr],.agg Lo,.bool cr,.tuple #[.agg er,.bool cR],.agg D,.int .i64 b_,.agg iG,.tuple #[.agg er,.bool cR],.agg er,.bool cR,.agg z21,.tuple #[.agg L,.bool p1],.agg Lo,.int .u64 (dt:Int),.agg U,.tuple #[.agg L,.bool p1],.agg L,.bool p1,(yj g18 1:C),.tuple #[.agg H,.bool p2],.agg er,.int .u64 (dt:Int),.agg U,.tuple #[.agg H,.bool p2],.agg H,.bool p2,(yj g18 11:C),.agg (bT false L H)],defers:=[] }:=by subst hF;kernel_rfl
           clear hF;subst bI;go_wp2_with fail
           exact B7 (kg (p:=8) (u:=9) (ty:=31) rfl _ _ _ 31 (bT false L H) _ rfl aJ fV rfl (by rw[ei,nW])) rfl ⟨by kernel_rfl,EE.out⟩
theorem aj7(B S:Array C)(v b_:Int)(dt:Nat)(r:Int)(W:F)(jB:B.size=5)(rK:B.all (·.oneCell')=true)(tn:S.size=5)(zH:S.all (·.oneCell')=true)(nb:Bool)(y7:B[0]?=some (.bool nb))(hS:B.setIfInBounds 0 (.bool false)=S)
 (bQ:Hid (∀ w,I E 51 #[.agg B] w (aP (.bool true) w))) (bY:Hid (∀ w,I E 28 #[.agg S,.agg dV] w (aP (.int .i64 r) w))) (aD:0<=r) :
 I E 22 #[.agg B,.int .i64 v,.int .i64 b_,.int .u64 (dt:Int)] W (aP (.tuple #[.agg z21,false]) W):=by
 have d1:decide (0<=r)=true:=decide_eq_true aD;have ag:=(aG.new W 27 B).alloc (.cells z21 31);have aJ:=aG.new (W.alloc (.cells B 27)) 31 z21;rw[iY] at aJ;have EE:=hide ((aA W (.cells B 27)).trans (aA _ (.cells z21 31)));obtain⟨bG,bD⟩:=aM (((W.alloc (.cells B 27)).alloc (.cells z21 31)));obtain⟨g0,af⟩:∃ g,W.heap.size=g:=⟨_,rfl⟩;rw[bD] at ag aJ EE;rw[af] at ag aJ;have lj:W.heap.size<=g0:=by omega
 have n2:W.heap.size<=g0+1:=by omega
 have aB:=hide bD;have bW:=hide af;clear bD af;go_enter Tryz.func22,Tryz.ntmps22
 go_upto_region 1 with fail
 unfold z21 at aB;rw[aB.out,bW.out];clear aB bW;have cP:=ag.lt;have dT:=aJ.lt;refine eB [.q,.q,.al,.st 2] [0,0,0,0] (fun R=>[.agg (#[.int .u64 0,.int .u64 4,.int .u64 0,.int .u64 0]),.agg dV,f,f]) (fun _=>(.cells z5 27 (0,0))) (fun R _=>(.cells dV 27 (0,0))) (fun _=>0) (dA W) (fun _=>False) (by kernel_rfl) (by kernel_rfl) (by kernel_rfl) rfl (fun _=>rfl) (fun _ h=>h.elim) (fun _ _ h=>h) (by simp) (by simp) (fun R b1=>⟨fun _=>rfl,fun _=>rfl,fun _=>rfl,fun _=>rfl,trivial⟩) (fun _ _ _ _=>rfl) dH EE.out ?zL ?yW;case zL =>
  refine⟨aH,?_,?_,?_,trivial⟩
  ·refine cj fun R s w' aw hs hw ha=>?_
   unfold dV;go_simp
  ·refine ia ?An ?tT ?zx ?y0 ?_;case An=>exact(.cells z5 27 (0,0))
   case tT=>exact rfl
   case zx=>exact rfl
   case y0=>exact cu rfl
   intro ρ w';go_simp;exact⟨rfl,rfl⟩
  ·refine ib (j:=2) (Ty:=?w4) (p:=?xL) (x:=?xZ) ?n6 ?Ao ?kj ?iQ ?om ?j8 ?oi ?jn ?n5 ?_;case iQ=>exact rfl
   case om=>exact rfl
   case n6=>exact(fun R=>(.cells dV 27 (0,0)))
   case Ao=>exact(.cells z5 27 (0,0))
   case kj=>exact(fun R=>.agg dV)
   case j8=>exact(fun R=>rfl)
   case oi=>exact rfl
   case jn=>exact cu rfl
   case n5 =>
    intro R;kernel_rfl
   intro R s ρ w g aw hs hp hx af hz;exact⟨hQ rfl hp hx hz eT (rfl) (He),fun aT hF=>dM aw hF (Nat.le_trans EE.out.size af)⟩
 case yW =>
  intro cY R G bm ae;have hS:=ae.same;have aZ:=ae.holds;have bf:=EE.out.size;replace ag:=ag.aY hS (fun h=>h) (by simp);replace aJ:=aJ.aY hS (fun h=>h) (by simp);have bu:aG bm (G 2) 27 dV:=(ae.eV 3 (List.mem_range.2 (show 3<4 by decide)) 2 rfl).2.2;have vD:=(ae.made 2 (List.mem_range.2 (show 2<4 by decide)) rfl).1;have FW:W.heap.size<=G 2:=Nat.le_trans bf vD;have Hn:g0≠G 2:=by omega
  have Ho:g0+1≠G 2:=by omega
  replace EE:=hide (show Ext _ _ from aZ);clear hS bf aZ ae cP dT;generalize hF:bB _ _ _ _ _ _ _=bH;have bI:bH={ tmps:=#[.agg B,.int .i64 v,.int .i64 b_,.int .u64 (dt:Int),(yj g0 0:C),f,f,f,(yj (g0+1) 0:C),.bool false,(yj (G 2) 0:C),f,f,f,f,f,f,f,f,.agg (#[.int .u64 0,.int .u64 4,.int .u64 0,.int .u64 0]),.agg dV,f,f,f,f,f,f,f,f,f,f,f,f,f,f,f,f,f,f,f,f,f,f,f,f,f,f,f,f,f,f,f,f,f,f,f,f,f,f,f,f,f,f,f,f,f,f,f,f,f,f,f,f,f,f,f,f,f,f,f,f],defers:=[] }:=by subst hF;kernel_rfl
  clear hF;subst bI;generalize G 2=g10 at *;go_upto_region 2 with fail
  have cP:=ag.lt;have dT:=aJ.lt;have fj:=bu.lt;refine eB [.q,.al,.st 1] [0,0,0] (fun R=>[.agg B,f,f]) (fun _=>(.cells z5 27 (0,0))) (fun R _=>(.cells B 27 (0,0))) (fun _=>0) (dA W) (fun _=>False) (by kernel_rfl) (by kernel_rfl) (by kernel_rfl) rfl (fun _=>rfl) (fun _ h=>h.elim) (fun _ _ h=>h) (by simp) (by simp) (fun R b1=>⟨fun _=>rfl,fun _=>rfl,fun _=>rfl,trivial⟩) (fun _ _ _ _=>rfl) dH EE.out ?jA ?jm;case jA =>
   refine⟨?_,?_,?_,trivial⟩
   ·refine cj fun R s w' aw hs hw ha=>?_
    have L:=dF (ag.aY hw (fun h=>h) (by simp)) hU rfl eT jB;generalize hA:bB _ _ _ _ _ _ _=c3;refine e7 rfl ?_ L;subst hA;kernel_rfl
   ·refine ia ?ld ?gA ?hO ?gx ?_;case ld=>exact(.cells z5 27 (0,0))
    case gA=>exact rfl
    case hO=>exact rfl
    case gx=>exact cu rfl
    intro ρ w';go_simp;exact⟨rfl,rfl⟩
   ·refine ib (j:=1) (Ty:=?F2) (p:=?HA) (x:=?Ij) ?fn8 ?Ap ?tw ?sO ?vS ?kn8 ?vQ ?sC ?uZ ?_;case sO=>exact rfl
    case vS=>exact rfl
    case fn8=>exact(fun R=>(.cells B 27 (0,0)))
    case Ap=>exact(.cells z5 27 (0,0))
    case tw=>exact(fun R=>.agg B)
    case kn8=>exact(fun R=>rfl)
    case vQ=>exact rfl
    case sC=>exact cu rfl
    case uZ =>
     intro R;kernel_rfl
    intro R s ρ w g aw hs hp hx af hz;exact⟨hQ rfl hp hx hz eT (jB) (rK),fun aT hF=>dM aw hF (Nat.le_trans EE.out.size af)⟩
  case jm =>
   intro cY R G cN ae;have hS:=ae.same;have aZ:=ae.holds;have bf:=EE.out.size;replace ag:=ag.aY hS (fun h=>h) (by simp);replace aJ:=aJ.aY hS (fun h=>h) (by simp);replace bu:=bu.aY hS (fun h=>h) (by simp);have bE:aG cN (G 1) 27 B:=(ae.eV 2 (List.mem_range.2 (show 2<3 by decide)) 1 rfl).2.2;have xp:=(ae.made 1 (List.mem_range.2 (show 1<3 by decide)) rfl).1;have yv:W.heap.size<=G 1:=Nat.le_trans bf xp;have Nf:g0≠G 1:=by omega
   have Nn:g0+1≠G 1:=by omega
   have M9:g10≠G 1:=by omega
   replace EE:=hide (show Ext _ _ from aZ);clear hS bf aZ ae cP dT fj;generalize hF:bB _ _ _ _ _ _ _=bH;have bI:bH={ tmps:=#[.agg B,.int .i64 v,.int .i64 b_,.int .u64 (dt:Int),(yj g0 0:C),f,f,f,(yj (g0+1) 0:C),.bool false,(yj g10 0:C),(yj (G 1) 0:C),f,f,f,f,f,f,f,.agg (#[.int .u64 0,.int .u64 4,.int .u64 0,.int .u64 0]),.agg dV,.agg B,f,f,f,f,f,f,f,f,f,f,f,f,f,f,f,f,f,f,f,f,f,f,f,f,f,f,f,f,f,f,f,f,f,f,f,f,f,f,f,f,f,f,f,f,f,f,f,f,f,f,f,f,f,f,f,f,f,f,f],defers:=[] }:=by subst hF;kernel_rfl
   clear hF;subst bI;generalize G 1=g11 at *;go_upto_region 3 with fail
   have cP:=ag.lt;have dT:=aJ.lt;have fj:=bu.lt;have ji:=bE.lt;refine eB [.q,.so 0] [0,0] (fun R=>[yj g11 0,f]) (fun _=>(.cells #[] 0 (0,0))) (fun R _=>(.cells S 27 (0,0))) (fun _=>g11) (dA W) (fun _=>False) (by kernel_rfl) (by kernel_rfl) (by kernel_rfl) rfl (fun _=>rfl) (fun _ h=>h.elim) (fun _ _ h=>h) (by intro c hc;simp at hc;(try subst hc);(try simp only);omega) (by intro c c' h1 h2 _;simp at h1 h2;omega) (fun R b1=>⟨fun _=>rfl,fun _=>rfl,trivial⟩) (fun _ _ _ _=>rfl) dH EE.out ?vT ?u_;case vT =>
    refine⟨aH,?_,trivial⟩
    ·refine il (c:=0) (Ty:=?F1) (p:=?Hz) (x:=?Ii) g11 ?vb ?z_ ?qS ?oa ?vR ?qK ?vP ?n8 ?yR ?uY ?_;case oa=>exact rfl
     case vR=>exact rfl
     case vb=>exact(fun R=>(.cells S 27 (0,0)))
     case z_=>exact(fun R=>.pointer (some ⟨g11,0,none⟩))
     case qS=>exact(fun R=>.bool false)
     case qK=>exact(fun R=>rfl)
     case vP=>exact rfl
     case n8=>exact cu rfl
     case yR =>
      intro R;kernel_rfl
     case uY =>
      intro R;kernel_rfl
     intro R s ρ w aw hs hp hx hz;have bF:=(show aG w g11 _ B from hz.trans bE);have hc:=(bF.cell 0).trans (y7);have hf:=bF.frozen 0;refine⟨qR (g:=g11) (Ty:=4) rfl hp hx (hz.trans bE) (hS) ?_,fun aT hF=>dM aw hF yv⟩;go_simp
   case u_ =>
    intro cY R G e9 ae;have hS:=ae.same;have aZ:=ae.holds;have bf:=EE.out.size;replace ag:=ag.aY hS (fun h=>h) (by intro c hc;simp at hc;(try subst hc);(try simp only);omega);replace aJ:=aJ.aY hS (fun h=>h) (by intro c hc;simp at hc;(try subst hc);(try simp only);omega);replace bu:=bu.aY hS (fun h=>h) (by intro c hc;simp at hc;(try subst hc);(try simp only);omega);replace bE:aG e9 g11 27 S:=ae.ep 1 (List.mem_range.2 (show 1<2 by decide)) 0 rfl;replace EE:=hide (show Ext _ _ from aZ);clear hS bf aZ ae cP dT fj ji;generalize hF:bB _ _ _ _ _ _ _=bH;have bI:bH={ tmps:=#[.agg B,.int .i64 v,.int .i64 b_,.int .u64 (dt:Int),(yj g0 0:C),f,f,f,(yj (g0+1) 0:C),.bool false,(yj g10 0:C),(yj g11 0:C),f,f,f,f,f,f,f,.agg (#[.int .u64 0,.int .u64 4,.int .u64 0,.int .u64 0]),.agg dV,.agg B,(yj g11 0:C),f,f,f,f,f,f,f,f,f,f,f,f,f,f,f,f,f,f,f,f,f,f,f,f,f,f,f,f,f,f,f,f,f,f,f,f,f,f,f,f,f,f,f,f,f,f,f,f,f,f,f,f,f,f,f,f,f,f],defers:=[] }:=by subst hF;kernel_rfl
    clear hF;subst bI;go_upto_region 4 with fail
    refine eK ?_;repeat (first|go_big_quiet_step (first|with_reducible exact dK (bQ.out _)|with_reducible exact dK (bY.out _))|(refine iE (by kernel_rfl) rfl rfl (fun w hw=>by obtain⟨⟨d,os⟩,rfl⟩:=hw;exact dF ((ag).ext (aX e9 d os)) hU rfl eT jB) ?_)|(refine iE (by kernel_rfl) rfl rfl (fun w hw=>by obtain⟨⟨d,os⟩,rfl⟩:=hw;exact dF ((bE).ext (aX e9 d os)) hU rfl eT tn) ?_)|(refine iE (by kernel_rfl) rfl rfl (fun w hw=>by obtain⟨⟨d,os⟩,rfl⟩:=hw;exact dF ((bu).ext (aX e9 d os)) hU rfl eT rfl) ?_)|quiet_step (first|with_reducible exact dK (bQ.out _)|with_reducible exact dK (bY.out _)))
    refine B' ?_;intro _ bj;obtain⟨⟨aQ,osq⟩,cq⟩:=bj;subst cq;replace ag:=(ag).ext (aX e9 aQ osq);replace aJ:=(aJ).ext (aX e9 aQ osq);replace bu:=(bu).ext (aX e9 aQ osq);replace bE:=(bE).ext (aX e9 aQ osq);replace EE:=hide (EE.out.trans (aX e9 aQ osq));obtain⟨qT,sR⟩:∃ w,grow (aw5 e9 aQ) osq=w:=⟨_,rfl⟩;rw[sR] at EE ag aJ bu bE |-;clear sR;go_upto_region 5 with fail
    have cP:=ag.lt;have dT:=aJ.lt;have fj:=bu.lt;have ji:=bE.lt;refine eB [.q,.so 0,.q] [0,0,0] (fun R=>[.agg z21,f,.bool false]) (fun _=>(.cells #[] 0 (0,0))) (fun R _=>(.cells z21 31 (0,0))) (fun _=>g0+1) (dA W) (fun _=>False) (by kernel_rfl) (by kernel_rfl) (by kernel_rfl) rfl (fun _=>rfl) (fun _ h=>h.elim) (fun _ _ h=>h) (by intro c hc;simp at hc;(try subst hc);(try simp only);omega) (by intro c c' h1 h2 _;simp at h1 h2;omega) (fun R b1=>⟨fun _=>rfl,fun _=>rfl,fun _=>rfl,trivial⟩) (fun _ _ _ _=>rfl) dH EE.out ?EP ?C2;case EP =>
     refine⟨?_,?_,aH,trivial⟩
     ·refine cj fun R s w' aw hs hw ha=>?_
      unfold z21;go_simp
     ·refine il (c:=0) (Ty:=?Jg) (p:=?N5) (x:=?PT) (g0+1) ?yY ?z' ?tv ?ob ?zI ?sX ?zD ?n9 ?yS ?yU ?_;case ob=>exact rfl
      case zI=>exact rfl
      case yY=>exact(fun R=>(.cells z21 31 (0,0)))
      case z'=>exact(fun R=>.pointer (some ⟨g0+1,0,none⟩))
      case tv=>exact(fun R=>.agg z21)
      case sX=>exact(fun R=>rfl)
      case zD=>exact rfl
      case n9=>exact cu rfl
      case yS =>
       intro R;kernel_rfl
      case yU =>
       intro R;kernel_rfl
      intro R s ρ w aw hs hp hx hz;refine⟨lI (g:=(g0+1)) rfl hp hx (hz.trans aJ) ei (rfl) (rfl) (iV),fun aT hF=>dM aw hF n2⟩
    case C2 =>
     intro cY R G Fj ae;have hS:=ae.same;have aZ:=ae.holds;have bf:=EE.out.size;replace ag:=ag.aY hS (fun h=>h) (by intro c hc;simp at hc;(try subst hc);(try simp only);omega);replace bu:=bu.aY hS (fun h=>h) (by intro c hc;simp at hc;(try subst hc);(try simp only);omega);replace bE:=bE.aY hS (fun h=>h) (by intro c hc;simp at hc;(try subst hc);(try simp only);omega);replace aJ:aG Fj (g0+1) 31 z21:=ae.ep 1 (List.mem_range.2 (show 1<3 by decide)) 0 rfl;replace EE:=hide (show Ext _ _ from aZ);clear hS bf aZ ae cP dT fj ji;generalize hF:bB _ _ _ _ _ _ _=bH;have bI:bH={ tmps:=#[.agg B,.int .i64 v,.int .i64 b_,.int .u64 (dt:Int),(yj g0 0:C),f,f,f,(yj (g0+1) 0:C),.bool false,(yj g10 0:C),(yj g11 0:C),f,f,f,f,f,f,f,.agg (#[.int .u64 0,.int .u64 4,.int .u64 0,.int .u64 0]),.agg dV,.agg B,(yj g11 0:C),.agg B,.bool true,.bool false,.bool false,.agg S,.agg dV,.int .i64 r,.bool true,.bool true,.bool true,f,f,f,.bool true,.bool true,f,f,.bool true,.agg z21,f,f,f,f,f,f,f,f,f,f,f,f,f,f,f,f,f,f,f,f,f,f,f,f,f,f,f,f,f,f,f,f,f,f,f,f,f,f,f],defers:=[] }:=by subst hF;kernel_rfl
     clear hF;subst bI;go_wp2_with fail
     exact B7 (kg (p:=8) (u:=9) (ty:=31) rfl _ _ _ 31 z21 _ rfl aJ fV rfl rfl) rfl ⟨by kernel_rfl,EE.out⟩
theorem aj8(B S:Array C)(v b_:Int)(dt:Nat)(r:Int)(W:F)(jB:B.size=5)(rK:B.all (·.oneCell')=true)(tn:S.size=5)(zH:S.all (·.oneCell')=true)(nb:Bool)(y7:B[0]?=some (.bool nb))(hS:B.setIfInBounds 0 (.bool false)=S)
 (bQ:Hid (∀ w,I E 51 #[.agg B] w (aP (.bool true) w))) (bY:Hid (∀ w,I E 28 #[.agg S,.agg dV] w (aP (.int .i64 r) w))) (aD:r<0) (cX:Hid (∀ w,I E 35 #[.int .i64 b_] w (aP (.bool false) w))) :
 I E 22 #[.agg B,.int .i64 v,.int .i64 b_,.int .u64 (dt:Int)] W (aP (.tuple #[.agg z21,false]) W):=by
 have d1:decide (0<=r)=false:=decide_eq_false (by omega);have ag:=(aG.new W 27 B).alloc (.cells z21 31);have aJ:=aG.new (W.alloc (.cells B 27)) 31 z21;rw[iY] at aJ;have EE:=hide ((aA W (.cells B 27)).trans (aA _ (.cells z21 31)));obtain⟨bG,bD⟩:=aM (((W.alloc (.cells B 27)).alloc (.cells z21 31)));obtain⟨g0,af⟩:∃ g,W.heap.size=g:=⟨_,rfl⟩;rw[bD] at ag aJ EE;rw[af] at ag aJ;have lj:W.heap.size<=g0:=by omega
 have n2:W.heap.size<=g0+1:=by omega
 have aB:=hide bD;have bW:=hide af;clear bD af;go_enter Tryz.func22,Tryz.ntmps22
 go_upto_region 1 with fail
 unfold z21 at aB;rw[aB.out,bW.out];clear aB bW;have cP:=ag.lt;have dT:=aJ.lt;refine eB [.q,.q,.al,.st 2] [0,0,0,0] (fun R=>[.agg (#[.int .u64 0,.int .u64 4,.int .u64 0,.int .u64 0]),.agg dV,f,f]) (fun _=>(.cells z5 27 (0,0))) (fun R _=>(.cells dV 27 (0,0))) (fun _=>0) (dA W) (fun _=>False) (by kernel_rfl) (by kernel_rfl) (by kernel_rfl) rfl (fun _=>rfl) (fun _ h=>h.elim) (fun _ _ h=>h) (by simp) (by simp) (fun R b1=>⟨fun _=>rfl,fun _=>rfl,fun _=>rfl,fun _=>rfl,trivial⟩) (fun _ _ _ _=>rfl) dH EE.out ?zL ?yW;case zL =>
  refine⟨aH,?_,?_,?_,trivial⟩
  ·refine cj fun R s w' aw hs hw ha=>?_
   unfold dV;go_simp
  ·refine ia ?An ?tT ?zx ?y0 ?_;case An=>exact(.cells z5 27 (0,0))
   case tT=>exact rfl
   case zx=>exact rfl
   case y0=>exact cu rfl
   intro ρ w';go_simp;exact⟨rfl,rfl⟩
  ·refine ib (j:=2) (Ty:=?w4) (p:=?xL) (x:=?xZ) ?n6 ?Ao ?kj ?iQ ?om ?j8 ?oi ?jn ?n5 ?_;case iQ=>exact rfl
   case om=>exact rfl
   case n6=>exact(fun R=>(.cells dV 27 (0,0)))
   case Ao=>exact(.cells z5 27 (0,0))
   case kj=>exact(fun R=>.agg dV)
   case j8=>exact(fun R=>rfl)
   case oi=>exact rfl
   case jn=>exact cu rfl
   case n5 =>
    intro R;kernel_rfl
   intro R s ρ w g aw hs hp hx af hz;exact⟨hQ rfl hp hx hz eT (rfl) (He),fun aT hF=>dM aw hF (Nat.le_trans EE.out.size af)⟩
 case yW =>
  intro cY R G bm ae;have hS:=ae.same;have aZ:=ae.holds;have bf:=EE.out.size;replace ag:=ag.aY hS (fun h=>h) (by simp);replace aJ:=aJ.aY hS (fun h=>h) (by simp);have bu:aG bm (G 2) 27 dV:=(ae.eV 3 (List.mem_range.2 (show 3<4 by decide)) 2 rfl).2.2;have vD:=(ae.made 2 (List.mem_range.2 (show 2<4 by decide)) rfl).1;have FW:W.heap.size<=G 2:=Nat.le_trans bf vD;have Hn:g0≠G 2:=by omega
  have Ho:g0+1≠G 2:=by omega
  replace EE:=hide (show Ext _ _ from aZ);clear hS bf aZ ae cP dT;generalize hF:bB _ _ _ _ _ _ _=bH;have bI:bH={ tmps:=#[.agg B,.int .i64 v,.int .i64 b_,.int .u64 (dt:Int),(yj g0 0:C),f,f,f,(yj (g0+1) 0:C),.bool false,(yj (G 2) 0:C),f,f,f,f,f,f,f,f,.agg (#[.int .u64 0,.int .u64 4,.int .u64 0,.int .u64 0]),.agg dV,f,f,f,f,f,f,f,f,f,f,f,f,f,f,f,f,f,f,f,f,f,f,f,f,f,f,f,f,f,f,f,f,f,f,f,f,f,f,f,f,f,f,f,f,f,f,f,f,f,f,f,f,f,f,f,f,f,f,f,f],defers:=[] }:=by subst hF;kernel_rfl
  clear hF;subst bI;generalize G 2=g10 at *;go_upto_region 2 with fail
  have cP:=ag.lt;have dT:=aJ.lt;have fj:=bu.lt;refine eB [.q,.al,.st 1] [0,0,0] (fun R=>[.agg B,f,f]) (fun _=>(.cells z5 27 (0,0))) (fun R _=>(.cells B 27 (0,0))) (fun _=>0) (dA W) (fun _=>False) (by kernel_rfl) (by kernel_rfl) (by kernel_rfl) rfl (fun _=>rfl) (fun _ h=>h.elim) (fun _ _ h=>h) (by simp) (by simp) (fun R b1=>⟨fun _=>rfl,fun _=>rfl,fun _=>rfl,trivial⟩) (fun _ _ _ _=>rfl) dH EE.out ?jA ?jm;case jA =>
   refine⟨?_,?_,?_,trivial⟩
   ·refine cj fun R s w' aw hs hw ha=>?_
    have L:=dF (ag.aY hw (fun h=>h) (by simp)) hU rfl eT jB;generalize hA:bB _ _ _ _ _ _ _=c3;refine e7 rfl ?_ L;subst hA;kernel_rfl
   ·refine ia ?ld ?gA ?hO ?gx ?_;case ld=>exact(.cells z5 27 (0,0))
    case gA=>exact rfl
    case hO=>exact rfl
    case gx=>exact cu rfl
    intro ρ w';go_simp;exact⟨rfl,rfl⟩
   ·refine ib (j:=1) (Ty:=?F2) (p:=?HA) (x:=?Ij) ?fn8 ?Ap ?tw ?sO ?vS ?kn8 ?vQ ?sC ?uZ ?_;case sO=>exact rfl
    case vS=>exact rfl
    case fn8=>exact(fun R=>(.cells B 27 (0,0)))
    case Ap=>exact(.cells z5 27 (0,0))
    case tw=>exact(fun R=>.agg B)
    case kn8=>exact(fun R=>rfl)
    case vQ=>exact rfl
    case sC=>exact cu rfl
    case uZ =>
     intro R;kernel_rfl
    intro R s ρ w g aw hs hp hx af hz;exact⟨hQ rfl hp hx hz eT (jB) (rK),fun aT hF=>dM aw hF (Nat.le_trans EE.out.size af)⟩
  case jm =>
   intro cY R G cN ae;have hS:=ae.same;have aZ:=ae.holds;have bf:=EE.out.size;replace ag:=ag.aY hS (fun h=>h) (by simp);replace aJ:=aJ.aY hS (fun h=>h) (by simp);replace bu:=bu.aY hS (fun h=>h) (by simp);have bE:aG cN (G 1) 27 B:=(ae.eV 2 (List.mem_range.2 (show 2<3 by decide)) 1 rfl).2.2;have xp:=(ae.made 1 (List.mem_range.2 (show 1<3 by decide)) rfl).1;have yv:W.heap.size<=G 1:=Nat.le_trans bf xp;have Nf:g0≠G 1:=by omega
   have Nn:g0+1≠G 1:=by omega
   have M9:g10≠G 1:=by omega
   replace EE:=hide (show Ext _ _ from aZ);clear hS bf aZ ae cP dT fj;generalize hF:bB _ _ _ _ _ _ _=bH;have bI:bH={ tmps:=#[.agg B,.int .i64 v,.int .i64 b_,.int .u64 (dt:Int),(yj g0 0:C),f,f,f,(yj (g0+1) 0:C),.bool false,(yj g10 0:C),(yj (G 1) 0:C),f,f,f,f,f,f,f,.agg (#[.int .u64 0,.int .u64 4,.int .u64 0,.int .u64 0]),.agg dV,.agg B,f,f,f,f,f,f,f,f,f,f,f,f,f,f,f,f,f,f,f,f,f,f,f,f,f,f,f,f,f,f,f,f,f,f,f,f,f,f,f,f,f,f,f,f,f,f,f,f,f,f,f,f,f,f,f,f,f,f,f],defers:=[] }:=by subst hF;kernel_rfl
   clear hF;subst bI;generalize G 1=g11 at *;go_upto_region 3 with fail
   have cP:=ag.lt;have dT:=aJ.lt;have fj:=bu.lt;have ji:=bE.lt;refine eB [.q,.so 0] [0,0] (fun R=>[yj g11 0,f]) (fun _=>(.cells #[] 0 (0,0))) (fun R _=>(.cells S 27 (0,0))) (fun _=>g11) (dA W) (fun _=>False) (by kernel_rfl) (by kernel_rfl) (by kernel_rfl) rfl (fun _=>rfl) (fun _ h=>h.elim) (fun _ _ h=>h) (by intro c hc;simp at hc;(try subst hc);(try simp only);omega) (by intro c c' h1 h2 _;simp at h1 h2;omega) (fun R b1=>⟨fun _=>rfl,fun _=>rfl,trivial⟩) (fun _ _ _ _=>rfl) dH EE.out ?vT ?u_;case vT =>
    refine⟨aH,?_,trivial⟩
    ·refine il (c:=0) (Ty:=?F1) (p:=?Hz) (x:=?Ii) g11 ?vb ?z_ ?qS ?oa ?vR ?qK ?vP ?n8 ?yR ?uY ?_;case oa=>exact rfl
     case vR=>exact rfl
     case vb=>exact(fun R=>(.cells S 27 (0,0)))
     case z_=>exact(fun R=>.pointer (some ⟨g11,0,none⟩))
     case qS=>exact(fun R=>.bool false)
     case qK=>exact(fun R=>rfl)
     case vP=>exact rfl
     case n8=>exact cu rfl
     case yR =>
      intro R;kernel_rfl
     case uY =>
      intro R;kernel_rfl
     intro R s ρ w aw hs hp hx hz;have bF:=(show aG w g11 _ B from hz.trans bE);have hc:=(bF.cell 0).trans (y7);have hf:=bF.frozen 0;refine⟨qR (g:=g11) (Ty:=4) rfl hp hx (hz.trans bE) (hS) ?_,fun aT hF=>dM aw hF yv⟩;go_simp
   case u_ =>
    intro cY R G e9 ae;have hS:=ae.same;have aZ:=ae.holds;have bf:=EE.out.size;replace ag:=ag.aY hS (fun h=>h) (by intro c hc;simp at hc;(try subst hc);(try simp only);omega);replace aJ:=aJ.aY hS (fun h=>h) (by intro c hc;simp at hc;(try subst hc);(try simp only);omega);replace bu:=bu.aY hS (fun h=>h) (by intro c hc;simp at hc;(try subst hc);(try simp only);omega);replace bE:aG e9 g11 27 S:=ae.ep 1 (List.mem_range.2 (show 1<2 by decide)) 0 rfl;replace EE:=hide (show Ext _ _ from aZ);clear hS bf aZ ae cP dT fj ji;generalize hF:bB _ _ _ _ _ _ _=bH;have bI:bH={ tmps:=#[.agg B,.int .i64 v,.int .i64 b_,.int .u64 (dt:Int),(yj g0 0:C),f,f,f,(yj (g0+1) 0:C),.bool false,(yj g10 0:C),(yj g11 0:C),f,f,f,f,f,f,f,.agg (#[.int .u64 0,.int .u64 4,.int .u64 0,.int .u64 0]),.agg dV,.agg B,(yj g11 0:C),f,f,f,f,f,f,f,f,f,f,f,f,f,f,f,f,f,f,f,f,f,f,f,f,f,f,f,f,f,f,f,f,f,f,f,f,f,f,f,f,f,f,f,f,f,f,f,f,f,f,f,f,f,f,f,f,f,f],defers:=[] }:=by subst hF;kernel_rfl
    clear hF;subst bI;go_upto_region 4 with fail
    refine eK ?_;repeat (first|go_big_quiet_step (first|with_reducible exact dK (bQ.out _)|with_reducible exact dK (bY.out _)|with_reducible exact dK (cX.out _))|(refine iE (by kernel_rfl) rfl rfl (fun w hw=>by obtain⟨⟨d,os⟩,rfl⟩:=hw;exact dF ((ag).ext (aX e9 d os)) hU rfl eT jB) ?_)|(refine iE (by kernel_rfl) rfl rfl (fun w hw=>by obtain⟨⟨d,os⟩,rfl⟩:=hw;exact dF ((bE).ext (aX e9 d os)) hU rfl eT tn) ?_)|(refine iE (by kernel_rfl) rfl rfl (fun w hw=>by obtain⟨⟨d,os⟩,rfl⟩:=hw;exact dF ((bu).ext (aX e9 d os)) hU rfl eT rfl) ?_)|quiet_step (first|with_reducible exact dK (bQ.out _)|with_reducible exact dK (bY.out _)|with_reducible exact dK (cX.out _)))
    refine B' ?_;intro _ bj;obtain⟨⟨aQ,osq⟩,cq⟩:=bj;subst cq;replace ag:=(ag).ext (aX e9 aQ osq);replace aJ:=(aJ).ext (aX e9 aQ osq);replace bu:=(bu).ext (aX e9 aQ osq);replace bE:=(bE).ext (aX e9 aQ osq);replace EE:=hide (EE.out.trans (aX e9 aQ osq));obtain⟨qT,sR⟩:∃ w,grow (aw5 e9 aQ) osq=w:=⟨_,rfl⟩;rw[sR] at EE ag aJ bu bE |-;clear sR;go_upto_region 5 with fail
    have cP:=ag.lt;have dT:=aJ.lt;have fj:=bu.lt;have ji:=bE.lt;refine eB [.q,.so 0,.q] [0,0,0] (fun R=>[.agg z21,f,.bool false]) (fun _=>(.cells #[] 0 (0,0))) (fun R _=>(.cells z21 31 (0,0))) (fun _=>g0+1) (dA W) (fun _=>False) (by kernel_rfl) (by kernel_rfl) (by kernel_rfl) rfl (fun _=>rfl) (fun _ h=>h.elim) (fun _ _ h=>h) (by intro c hc;simp at hc;(try subst hc);(try simp only);omega) (by intro c c' h1 h2 _;simp at h1 h2;omega) (fun R b1=>⟨fun _=>rfl,fun _=>rfl,fun _=>rfl,trivial⟩) (fun _ _ _ _=>rfl) dH EE.out ?EP ?C2;case EP =>
     refine⟨?_,?_,aH,trivial⟩
     ·refine cj fun R s w' aw hs hw ha=>?_
      unfold z21;go_simp
     ·refine il (c:=0) (Ty:=?Jg) (p:=?N5) (x:=?PT) (g0+1) ?yY ?z' ?tv ?ob ?zI ?sX ?zD ?n9 ?yS ?yU ?_;case ob=>exact rfl
      case zI=>exact rfl
      case yY=>exact(fun R=>(.cells z21 31 (0,0)))
      case z'=>exact(fun R=>.pointer (some ⟨g0+1,0,none⟩))
      case tv=>exact(fun R=>.agg z21)
      case sX=>exact(fun R=>rfl)
      case zD=>exact rfl
      case n9=>exact cu rfl
      case yS =>
       intro R;kernel_rfl
      case yU =>
       intro R;kernel_rfl
      intro R s ρ w aw hs hp hx hz;refine⟨lI (g:=(g0+1)) rfl hp hx (hz.trans aJ) ei (rfl) (rfl) (iV),fun aT hF=>dM aw hF n2⟩
    case C2 =>
     intro cY R G Fj ae;have hS:=ae.same;have aZ:=ae.holds;have bf:=EE.out.size;replace ag:=ag.aY hS (fun h=>h) (by intro c hc;simp at hc;(try subst hc);(try simp only);omega);replace bu:=bu.aY hS (fun h=>h) (by intro c hc;simp at hc;(try subst hc);(try simp only);omega);replace bE:=bE.aY hS (fun h=>h) (by intro c hc;simp at hc;(try subst hc);(try simp only);omega);replace aJ:aG Fj (g0+1) 31 z21:=ae.ep 1 (List.mem_range.2 (show 1<3 by decide)) 0 rfl;replace EE:=hide (show Ext _ _ from aZ);clear hS bf aZ ae cP dT fj ji;generalize hF:bB _ _ _ _ _ _ _=bH;have bI:bH={ tmps:=#[.agg B,.int .i64 v,.int .i64 b_,.int .u64 (dt:Int),(yj g0 0:C),f,f,f,(yj (g0+1) 0:C),.bool false,(yj g10 0:C),(yj g11 0:C),f,f,f,f,f,f,f,.agg (#[.int .u64 0,.int .u64 4,.int .u64 0,.int .u64 0]),.agg dV,.agg B,(yj g11 0:C),.agg B,.bool true,.bool false,.bool false,.agg S,.agg dV,.int .i64 r,.bool false,.bool false,.bool false,.int .i64 b_,.bool false,.bool true,.bool true,.bool true,f,f,.bool true,.agg z21,f,f,f,f,f,f,f,f,f,f,f,f,f,f,f,f,f,f,f,f,f,f,f,f,f,f,f,f,f,f,f,f,f,f,f,f,f,f,f],defers:=[] }:=by subst hF;kernel_rfl
     clear hF;subst bI;go_wp2_with fail
     exact B7 (kg (p:=8) (u:=9) (ty:=31) rfl _ _ _ 31 z21 _ rfl aJ fV rfl rfl) rfl ⟨by kernel_rfl,EE.out⟩
theorem aj9(B S:Array C)(v b_:Int)(dt:Nat)(r:Int)(W:F)(jB:B.size=5)(rK:B.all (·.oneCell')=true)(tn:S.size=5)(zH:S.all (·.oneCell')=true)(nb:Bool)(y7:B[0]?=some (.bool nb))(hS:B.setIfInBounds 0 (.bool false)=S)
 (bQ:Hid (∀ w,I E 51 #[.agg B] w (aP (.bool true) w))) (bY:Hid (∀ w,I E 28 #[.agg S,.agg dV] w (aP (.int .i64 r) w))) (aD:r<0) (cX:Hid (∀ w,I E 35 #[.int .i64 b_] w (aP (.bool true) w))) :
 I E 22 #[.agg B,.int .i64 v,.int .i64 b_,.int .u64 0] W (aP (.tuple #[.agg z21,false]) W):=by
 have d1:decide (0<=r)=false:=decide_eq_false (by omega);have ag:=(aG.new W 27 B).alloc (.cells z21 31);have aJ:=aG.new (W.alloc (.cells B 27)) 31 z21;rw[iY] at aJ;have EE:=hide ((aA W (.cells B 27)).trans (aA _ (.cells z21 31)));obtain⟨bG,bD⟩:=aM (((W.alloc (.cells B 27)).alloc (.cells z21 31)));obtain⟨g0,af⟩:∃ g,W.heap.size=g:=⟨_,rfl⟩;rw[bD] at ag aJ EE;rw[af] at ag aJ;have lj:W.heap.size<=g0:=by omega
 have n2:W.heap.size<=g0+1:=by omega
 have aB:=hide bD;have bW:=hide af;clear bD af;go_enter Tryz.func22,Tryz.ntmps22
 go_upto_region 1 with fail
 unfold z21 at aB;rw[aB.out,bW.out];clear aB bW;have cP:=ag.lt;have dT:=aJ.lt;refine eB [.q,.q,.al,.st 2] [0,0,0,0] (fun R=>[.agg (#[.int .u64 0,.int .u64 4,.int .u64 0,.int .u64 0]),.agg dV,f,f]) (fun _=>(.cells z5 27 (0,0))) (fun R _=>(.cells dV 27 (0,0))) (fun _=>0) (dA W) (fun _=>False) (by kernel_rfl) (by kernel_rfl) (by kernel_rfl) rfl (fun _=>rfl) (fun _ h=>h.elim) (fun _ _ h=>h) (by simp) (by simp) (fun R b1=>⟨fun _=>rfl,fun _=>rfl,fun _=>rfl,fun _=>rfl,trivial⟩) (fun _ _ _ _=>rfl) dH EE.out ?zL ?yW;case zL =>
  refine⟨aH,?_,?_,?_,trivial⟩
  ·refine cj fun R s w' aw hs hw ha=>?_
   unfold dV;go_simp
  ·refine ia ?An ?tT ?zx ?y0 ?_;case An=>exact(.cells z5 27 (0,0))
   case tT=>exact rfl
   case zx=>exact rfl
   case y0=>exact cu rfl
   intro ρ w';go_simp;exact⟨rfl,rfl⟩
  ·refine ib (j:=2) (Ty:=?w4) (p:=?xL) (x:=?xZ) ?n6 ?Ao ?kj ?iQ ?om ?j8 ?oi ?jn ?n5 ?_;case iQ=>exact rfl
   case om=>exact rfl
   case n6=>exact(fun R=>(.cells dV 27 (0,0)))
   case Ao=>exact(.cells z5 27 (0,0))
   case kj=>exact(fun R=>.agg dV)
   case j8=>exact(fun R=>rfl)
   case oi=>exact rfl
   case jn=>exact cu rfl
   case n5 =>
    intro R;kernel_rfl
   intro R s ρ w g aw hs hp hx af hz;exact⟨hQ rfl hp hx hz eT (rfl) (He),fun aT hF=>dM aw hF (Nat.le_trans EE.out.size af)⟩
 case yW =>
  intro cY R G bm ae;have hS:=ae.same;have aZ:=ae.holds;have bf:=EE.out.size;replace ag:=ag.aY hS (fun h=>h) (by simp);replace aJ:=aJ.aY hS (fun h=>h) (by simp);have bu:aG bm (G 2) 27 dV:=(ae.eV 3 (List.mem_range.2 (show 3<4 by decide)) 2 rfl).2.2;have vD:=(ae.made 2 (List.mem_range.2 (show 2<4 by decide)) rfl).1;have FW:W.heap.size<=G 2:=Nat.le_trans bf vD;have Hn:g0≠G 2:=by omega
  have Ho:g0+1≠G 2:=by omega
  replace EE:=hide (show Ext _ _ from aZ);clear hS bf aZ ae cP dT;generalize hF:bB _ _ _ _ _ _ _=bH;have bI:bH={ tmps:=#[.agg B,.int .i64 v,.int .i64 b_,.int .u64 0,(yj g0 0:C),f,f,f,(yj (g0+1) 0:C),.bool false,(yj (G 2) 0:C),f,f,f,f,f,f,f,f,.agg (#[.int .u64 0,.int .u64 4,.int .u64 0,.int .u64 0]),.agg dV,f,f,f,f,f,f,f,f,f,f,f,f,f,f,f,f,f,f,f,f,f,f,f,f,f,f,f,f,f,f,f,f,f,f,f,f,f,f,f,f,f,f,f,f,f,f,f,f,f,f,f,f,f,f,f,f,f,f,f,f],defers:=[] }:=by subst hF;kernel_rfl
  clear hF;subst bI;generalize G 2=g10 at *;go_upto_region 2 with fail
  have cP:=ag.lt;have dT:=aJ.lt;have fj:=bu.lt;refine eB [.q,.al,.st 1] [0,0,0] (fun R=>[.agg B,f,f]) (fun _=>(.cells z5 27 (0,0))) (fun R _=>(.cells B 27 (0,0))) (fun _=>0) (dA W) (fun _=>False) (by kernel_rfl) (by kernel_rfl) (by kernel_rfl) rfl (fun _=>rfl) (fun _ h=>h.elim) (fun _ _ h=>h) (by simp) (by simp) (fun R b1=>⟨fun _=>rfl,fun _=>rfl,fun _=>rfl,trivial⟩) (fun _ _ _ _=>rfl) dH EE.out ?jA ?jm;case jA =>
   refine⟨?_,?_,?_,trivial⟩
   ·refine cj fun R s w' aw hs hw ha=>?_
    have L:=dF (ag.aY hw (fun h=>h) (by simp)) hU rfl eT jB;generalize hA:bB _ _ _ _ _ _ _=c3;refine e7 rfl ?_ L;subst hA;kernel_rfl
   ·refine ia ?ld ?gA ?hO ?gx ?_;case ld=>exact(.cells z5 27 (0,0))
    case gA=>exact rfl
    case hO=>exact rfl
    case gx=>exact cu rfl
    intro ρ w';go_simp;exact⟨rfl,rfl⟩
   ·refine ib (j:=1) (Ty:=?F2) (p:=?HA) (x:=?Ij) ?fn8 ?Ap ?tw ?sO ?vS ?kn8 ?vQ ?sC ?uZ ?_;case sO=>exact rfl
    case vS=>exact rfl
    case fn8=>exact(fun R=>(.cells B 27 (0,0)))
    case Ap=>exact(.cells z5 27 (0,0))
    case tw=>exact(fun R=>.agg B)
    case kn8=>exact(fun R=>rfl)
    case vQ=>exact rfl
    case sC=>exact cu rfl
    case uZ =>
     intro R;kernel_rfl
    intro R s ρ w g aw hs hp hx af hz;exact⟨hQ rfl hp hx hz eT (jB) (rK),fun aT hF=>dM aw hF (Nat.le_trans EE.out.size af)⟩
  case jm =>
   intro cY R G cN ae;have hS:=ae.same;have aZ:=ae.holds;have bf:=EE.out.size;replace ag:=ag.aY hS (fun h=>h) (by simp);replace aJ:=aJ.aY hS (fun h=>h) (by simp);replace bu:=bu.aY hS (fun h=>h) (by simp);have bE:aG cN (G 1) 27 B:=(ae.eV 2 (List.mem_range.2 (show 2<3 by decide)) 1 rfl).2.2;have xp:=(ae.made 1 (List.mem_range.2 (show 1<3 by decide)) rfl).1;have yv:W.heap.size<=G 1:=Nat.le_trans bf xp;have Nf:g0≠G 1:=by omega
   have Nn:g0+1≠G 1:=by omega
   have M9:g10≠G 1:=by omega
   replace EE:=hide (show Ext _ _ from aZ);clear hS bf aZ ae cP dT fj;generalize hF:bB _ _ _ _ _ _ _=bH;have bI:bH={ tmps:=#[.agg B,.int .i64 v,.int .i64 b_,.int .u64 0,(yj g0 0:C),f,f,f,(yj (g0+1) 0:C),.bool false,(yj g10 0:C),(yj (G 1) 0:C),f,f,f,f,f,f,f,.agg (#[.int .u64 0,.int .u64 4,.int .u64 0,.int .u64 0]),.agg dV,.agg B,f,f,f,f,f,f,f,f,f,f,f,f,f,f,f,f,f,f,f,f,f,f,f,f,f,f,f,f,f,f,f,f,f,f,f,f,f,f,f,f,f,f,f,f,f,f,f,f,f,f,f,f,f,f,f,f,f,f,f],defers:=[] }:=by subst hF;kernel_rfl
   clear hF;subst bI;generalize G 1=g11 at *;go_upto_region 3 with fail
   have cP:=ag.lt;have dT:=aJ.lt;have fj:=bu.lt;have ji:=bE.lt;refine eB [.q,.so 0] [0,0] (fun R=>[yj g11 0,f]) (fun _=>(.cells #[] 0 (0,0))) (fun R _=>(.cells S 27 (0,0))) (fun _=>g11) (dA W) (fun _=>False) (by kernel_rfl) (by kernel_rfl) (by kernel_rfl) rfl (fun _=>rfl) (fun _ h=>h.elim) (fun _ _ h=>h) (by intro c hc;simp at hc;(try subst hc);(try simp only);omega) (by intro c c' h1 h2 _;simp at h1 h2;omega) (fun R b1=>⟨fun _=>rfl,fun _=>rfl,trivial⟩) (fun _ _ _ _=>rfl) dH EE.out ?vT ?u_;case vT =>
    refine⟨aH,?_,trivial⟩
    ·refine il (c:=0) (Ty:=?F1) (p:=?Hz) (x:=?Ii) g11 ?vb ?z_ ?qS ?oa ?vR ?qK ?vP ?n8 ?yR ?uY ?_;case oa=>exact rfl
     case vR=>exact rfl
     case vb=>exact(fun R=>(.cells S 27 (0,0)))
     case z_=>exact(fun R=>.pointer (some ⟨g11,0,none⟩))
     case qS=>exact(fun R=>.bool false)
     case qK=>exact(fun R=>rfl)
     case vP=>exact rfl
     case n8=>exact cu rfl
     case yR =>
      intro R;kernel_rfl
     case uY =>
      intro R;kernel_rfl
     intro R s ρ w aw hs hp hx hz;have bF:=(show aG w g11 _ B from hz.trans bE);have hc:=(bF.cell 0).trans (y7);have hf:=bF.frozen 0;refine⟨qR (g:=g11) (Ty:=4) rfl hp hx (hz.trans bE) (hS) ?_,fun aT hF=>dM aw hF yv⟩;go_simp
   case u_ =>
    intro cY R G e9 ae;have hS:=ae.same;have aZ:=ae.holds;have bf:=EE.out.size;replace ag:=ag.aY hS (fun h=>h) (by intro c hc;simp at hc;(try subst hc);(try simp only);omega);replace aJ:=aJ.aY hS (fun h=>h) (by intro c hc;simp at hc;(try subst hc);(try simp only);omega);replace bu:=bu.aY hS (fun h=>h) (by intro c hc;simp at hc;(try subst hc);(try simp only);omega);replace bE:aG e9 g11 27 S:=ae.ep 1 (List.mem_range.2 (show 1<2 by decide)) 0 rfl;replace EE:=hide (show Ext _ _ from aZ);clear hS bf aZ ae cP dT fj ji;generalize hF:bB _ _ _ _ _ _ _=bH;have bI:bH={ tmps:=#[.agg B,.int .i64 v,.int .i64 b_,.int .u64 0,(yj g0 0:C),f,f,f,(yj (g0+1) 0:C),.bool false,(yj g10 0:C),(yj g11 0:C),f,f,f,f,f,f,f,.agg (#[.int .u64 0,.int .u64 4,.int .u64 0,.int .u64 0]),.agg dV,.agg B,(yj g11 0:C),f,f,f,f,f,f,f,f,f,f,f,f,f,f,f,f,f,f,f,f,f,f,f,f,f,f,f,f,f,f,f,f,f,f,f,f,f,f,f,f,f,f,f,f,f,f,f,f,f,f,f,f,f,f,f,f,f,f],defers:=[] }:=by subst hF;kernel_rfl
    clear hF;subst bI;go_upto_region 4 with fail
    refine eK ?_;repeat (first|go_big_quiet_step (first|with_reducible exact dK (bQ.out _)|with_reducible exact dK (bY.out _)|with_reducible exact dK (cX.out _))|(refine iE (by kernel_rfl) rfl rfl (fun w hw=>by obtain⟨⟨d,os⟩,rfl⟩:=hw;exact dF ((ag).ext (aX e9 d os)) hU rfl eT jB) ?_)|(refine iE (by kernel_rfl) rfl rfl (fun w hw=>by obtain⟨⟨d,os⟩,rfl⟩:=hw;exact dF ((bE).ext (aX e9 d os)) hU rfl eT tn) ?_)|(refine iE (by kernel_rfl) rfl rfl (fun w hw=>by obtain⟨⟨d,os⟩,rfl⟩:=hw;exact dF ((bu).ext (aX e9 d os)) hU rfl eT rfl) ?_)|quiet_step (first|with_reducible exact dK (bQ.out _)|with_reducible exact dK (bY.out _)|with_reducible exact dK (cX.out _)))
    refine B' ?_;intro _ bj;obtain⟨⟨aQ,osq⟩,cq⟩:=bj;subst cq;replace ag:=(ag).ext (aX e9 aQ osq);replace aJ:=(aJ).ext (aX e9 aQ osq);replace bu:=(bu).ext (aX e9 aQ osq);replace bE:=(bE).ext (aX e9 aQ osq);replace EE:=hide (EE.out.trans (aX e9 aQ osq));obtain⟨qT,sR⟩:∃ w,grow (aw5 e9 aQ) osq=w:=⟨_,rfl⟩;rw[sR] at EE ag aJ bu bE |-;clear sR;go_upto_region 5 with fail
    have cP:=ag.lt;have dT:=aJ.lt;have fj:=bu.lt;have ji:=bE.lt;refine eB [.q,.so 0,.q] [0,0,0] (fun R=>[.agg z21,f,.bool false]) (fun _=>(.cells #[] 0 (0,0))) (fun R _=>(.cells z21 31 (0,0))) (fun _=>g0+1) (dA W) (fun _=>False) (by kernel_rfl) (by kernel_rfl) (by kernel_rfl) rfl (fun _=>rfl) (fun _ h=>h.elim) (fun _ _ h=>h) (by intro c hc;simp at hc;(try subst hc);(try simp only);omega) (by intro c c' h1 h2 _;simp at h1 h2;omega) (fun R b1=>⟨fun _=>rfl,fun _=>rfl,fun _=>rfl,trivial⟩) (fun _ _ _ _=>rfl) dH EE.out ?EP ?C2;case EP =>
     refine⟨?_,?_,aH,trivial⟩
     ·refine cj fun R s w' aw hs hw ha=>?_
      unfold z21;go_simp
     ·refine il (c:=0) (Ty:=?Jg) (p:=?N5) (x:=?PT) (g0+1) ?yY ?z' ?tv ?ob ?zI ?sX ?zD ?n9 ?yS ?yU ?_;case ob=>exact rfl
      case zI=>exact rfl
      case yY=>exact(fun R=>(.cells z21 31 (0,0)))
      case z'=>exact(fun R=>.pointer (some ⟨g0+1,0,none⟩))
      case tv=>exact(fun R=>.agg z21)
      case sX=>exact(fun R=>rfl)
      case zD=>exact rfl
      case n9=>exact cu rfl
      case yS =>
       intro R;kernel_rfl
      case yU =>
       intro R;kernel_rfl
      intro R s ρ w aw hs hp hx hz;refine⟨lI (g:=(g0+1)) rfl hp hx (hz.trans aJ) ei (rfl) (rfl) (iV),fun aT hF=>dM aw hF n2⟩
    case C2 =>
     intro cY R G Fj ae;have hS:=ae.same;have aZ:=ae.holds;have bf:=EE.out.size;replace ag:=ag.aY hS (fun h=>h) (by intro c hc;simp at hc;(try subst hc);(try simp only);omega);replace bu:=bu.aY hS (fun h=>h) (by intro c hc;simp at hc;(try subst hc);(try simp only);omega);replace bE:=bE.aY hS (fun h=>h) (by intro c hc;simp at hc;(try subst hc);(try simp only);omega);replace aJ:aG Fj (g0+1) 31 z21:=ae.ep 1 (List.mem_range.2 (show 1<3 by decide)) 0 rfl;replace EE:=hide (show Ext _ _ from aZ);clear hS bf aZ ae cP dT fj ji;generalize hF:bB _ _ _ _ _ _ _=bH;have bI:bH={ tmps:=#[.agg B,.int .i64 v,.int .i64 b_,.int .u64 0,(yj g0 0:C),f,f,f,(yj (g0+1) 0:C),.bool false,(yj g10 0:C),(yj g11 0:C),f,f,f,f,f,f,f,.agg (#[.int .u64 0,.int .u64 4,.int .u64 0,.int .u64 0]),.agg dV,.agg B,(yj g11 0:C),.agg B,.bool true,.bool false,.bool false,.agg S,.agg dV,.int .i64 r,.bool false,.bool false,.bool false,.int .i64 b_,.bool true,.bool false,.bool false,.bool false,.int .u64 0,.bool true,.bool true,.agg z21,f,f,f,f,f,f,f,f,f,f,f,f,f,f,f,f,f,f,f,f,f,f,f,f,f,f,f,f,f,f,f,f,f,f,f,f,f,f,f],defers:=[] }:=by subst hF;kernel_rfl
     clear hF;subst bI;go_wp2_with fail
     exact B7 (kg (p:=8) (u:=9) (ty:=31) rfl _ _ _ 31 z21 _ rfl aJ fV rfl rfl) rfl ⟨by kernel_rfl,EE.out⟩
end
section
open Go Go.RowKit
theorem tB(x:Int):∃ p,wrap64 x=p/\IntKind.i64.wrap x=p/\de p:=⟨wrap64 x,rfl,by rw[IntKind.wrap_i64];simp only[wrap64],TG x⟩
theorem hE.cell{w:F}{b off:Nat}{l:List Int}(h:hE w (some ⟨b,off,none⟩) l){j:Nat}(aN:j<l.length):w.cell? ⟨b,off+j,none⟩=some (.int .i64 (l.getD j 0)):=by
 obtain⟨b',UJ,he,_,hc⟩:=h.2.2 (by omega);cases he
 exact hc j aN
def QX(N B b:Nat)(W:F)(e:axa)(w':F):Prop:=∃ A n cap l,e=.returned (.slice A n cap)/\l.length=n/\n<=N/\n<=cap/\cap<=9223372036854775807/\jx (l.map Prod.fst)=true/\hZ W.heap.size w' (.slice A n cap) l/\fP B w' b/\b3 b W w'
structure q0 (W:F) (B b au:Nat) (oq:Option aw6) (n cap:Nat) (m:List Int) (lv:C) (ej:List (Int × Int)) (w:F):Prop where
 t:fP B w b
 u:b3 b W w
 s:hZ au w lv ej
 o:fJ W.heap.size w (.slice oq n cap) m
 o8:au<=w.heap.size
section
variable {W:F}{B b au:Nat}{oq:Option aw6}{n cap:Nat}{m:List Int}{lv:C}{ej:List (Int × Int)}{w w':F}
theorem q0.c7(h:q0 W B b au oq n cap m lv ej w)(hb:b<W.heap.size)(bF:W.heap.size<=au)(u:b3 b w w')(t:fP B w' b):q0 W B b au oq n cap m lv ej w':=
 ⟨t,h.u.trans u,h.s.c7 u (Nat.lt_of_lt_of_le hb bF),h.o.c7 u hb,Nat.le_trans h.o8 u.2.2.2.1⟩
theorem q0.alloc(h:q0 W B b au oq n cap m lv ej w)(o:Obj):q0 W B b au oq n cap m lv ej (w.alloc o):=
 ⟨h.t.alloc o,h.u.trans (Ext.c7 (aA w o) b),h.s.alloc o,h.o.alloc o,Nat.le_trans h.o8 (by simp)⟩
theorem q0.grow(h:q0 W B b au oq n cap m lv ej w)(hb:b<W.heap.size)(bF:W.heap.size<=au)(aO:(Value.slice oq n cap).ownBlock=none\/(Value.slice oq n cap).ownBlock≠lv.ownBlock){v':C}{l':List (Int × Int)}(eD:hZ au w' v' l')(aV:w.grownBy w' lv.ownBlock):q0 W B b au oq n cap m v' l' w':=
 ⟨h.t.below (GL aV (b+1) (Nat.lt_of_lt_of_le hb h.u.2.2.2.1) (fun k aE=>by have:=(h.s.1.lt k aE).1;omega)),Wj h.u aV (fun k aE=>Nat.le_trans bF (h.s.1.lt k aE).1),eD,h.o.kept aV aO,Nat.le_trans h.o8 (GL aV 0 (Nat.zero_le _) (fun _ _=>Nat.zero_le _)).size⟩
end
theorem ald(N B b:Nat)(jO:N<=1000)(W:F)(aw:fP B W b):I E 15 #[yj b 0,.int .i64 (N:Int)] W (QX N B b W):=by
 have je:=aw.2.1;have i7:de 7:=⟨by omega,by omega⟩;have i41:de 41:=⟨by omega,by omega⟩;have i9:de 9:=⟨by omega,by omega⟩;have i3:de 3:=⟨by omega,by omega⟩;have ae9:de 400:=⟨by omega,by omega⟩;have i50:de 50:=⟨by omega,by omega⟩;have wF:=hide (ale N B b jO W aw);clear aw;go_enter Tryz.func15,Tryz.ntmps15
 go_upto_region 2 with (go_at_call 43;(with_reducible refine(wF.out).mono ?_);rintro e aT ⟨oq,n,cap,m,rfl,hm,apK,apL,apM,G2,eD,T1,u1⟩;have T1:=hide T1;have oE:=hide u1;have ox:=hide eD;have r0:=hide hm;have Xi:=hide G2;clear eD hm G2 u1)
 have kx:W.heap.size<=aT.heap.size:=oE.out.2.2.2.1;obtain⟨au,SA⟩:=aM aT.heap.size;have dQ:Hid (∀ w lv ej,hZ au w lv ej->(Value.slice oq n cap).ownBlock=none\/(Value.slice oq n cap).ownBlock≠lv.ownBlock):=hide (fun w lv ej aL=>by
  cases oq with
  | none=>exact Or.inl rfl
  | some a =>
   right
   intro e;have h1:=ox.out.1.lt a.block rfl;have h2:=aL.1.lt a.block (by rw[<-e];rfl);omega)
 have jj:Hid (q0 W B b au oq n cap m (.slice none 0 0) [] aT):=hide ⟨T1.out,oE.out,hZ.jT _ _,ox.out,by omega⟩;rw[SA] at kx;clear SA T1 oE ox wF;go_upto_region 4 with (go_at_call 36;(with_reducible refine(lJ B b 7 _ i7 jj.out.t).mono ?_);rintro e bp ⟨s,rfl,hs,kr,u2⟩;obtain⟨kd,rfl⟩:=Int.eq_ofNat_of_zero_le hs.1;have ad':kd<7:=(by have:=hs.2.1 (by omega);omega);have iO:=hide (jj.out.c7 je kx u2 kr);clear hs u2 kr jj)
 go_upto_region 5 with (first
  | (go_at_call 44;(with_reducible refine(OE B b _ _ iO.out.t (b3.refl _ _)).mono ?_);rintro e w3 ⟨v0,rfl,oN,oD,u3⟩;have pS:=hide (iO.out.c7 je kx u3 oD);have Qv:=hide oN;clear u3 oD iO oN)
  | (go_at_call 36;(with_reducible refine(lJ B b 41 _ i41 pS.out.t).mono ?_);rintro e bZ ⟨s,rfl,hs,si,u4⟩;have sP:=hs.1;have py:=hs.2.1 (by omega);have Cv:=hide (pS.out.c7 je kx u4 si);obtain⟨sl,hsl⟩:=aM (s-20);clear hs u4 si pS))
 clear sP py hsl;go_wp2_with fail
 go_loopw [6,8,10] (fun lv Jv iv wr=>∃ (i:Nat) (gd:Int) (ej:List (Int × Int)),i<=n/\iv=.int .i64 (i:Int)/\Jv=.int .i64 gd/\Hid (de gd)/\Hid (ej.map Prod.fst=m.take i)/\Hid (q0 W B b au oq n cap m lv ej wr)) (fun _ _ iv _=>n-(intOf iv).toNat)
 case atStart=>exact⟨0,v0,[],by omega,rfl,rfl,Qv,hide (by simp),Cv⟩
 case round =>
  clear Cv Qv;obtain⟨i,gd,ej,hi,rfl,rfl,bV,cz,jk⟩:=hrel;by_cases h0:i<n
  ·have d0:decide ((i:Int)<(n:Int))=true:=decide_eq_true (by omega);have k3:i<m.length:=by rw[r0.out];exact h0
   obtain⟨j3,lG,rfl,_,_⟩:=(UO jk.out.o).2.2 (by omega);obtain⟨g_,G6⟩:=aM (m.getD i 0);have xC:de g_:=by rw[<-G6];exact jk.out.o.2.get i
   have iI:Hid (∀ w v l',q0 W B b au (some ⟨j3,lG,none⟩) n cap m v l' w->w.cell? ⟨j3,lG+i,none⟩=some (.int .i64 g_)):=hide (fun w v l' s=>by rw[<-G6];exact(UO s.o).cell k3);have Bx:=fun w=>Bv j3 lG n cap i h0 w
   have tE:Hid (∀ X,(ej++[(g_,X)]).map Prod.fst=m.take (i+1)):=hide (fun X=>by rw[List.map_append,cz.out,V' k3,G6];rfl);have zg:ej.length=i:=by
    have:=congrArg List.length cz.out;rw[List.length_map,List.length_take] at this
    omega
   have sL:Hid (∀ X:Int,ej.length+[(g_,X)].length<=8796093022208):=hide (fun X=>by simp;omega);have iv:=bV.out;clear G6 k3 zg cz;obtain rfl|rfl|rfl|rfl|rfl|rfl|rfl:kd=0\/kd=1\/kd=2\/kd=3\/kd=4\/kd=5\/kd=6:=by omega
   ·go_upto_region 24 with fail
    have afr:=iv;have qp:=hide iv;have eY:=hide (jk.out.alloc (.cells #[.int .i64 g_,.int .i64 gd] 23));have yQ:=iI.out _ _ _ jk.out;have nQ:=iI.out _ _ _ eY.out;have mN:=hide (xJ wr g_ gd xC afr);have e5:=eY.out.o8;clear jk;go_wp2_with (at_builtin;refine xY rfl (.tmp 81) (.tmp 88) rfl au _ ej [(g_,gd)] rfl eY.out.s _ 1 1 rfl mN.out rfl (sL.out gd) e5 ?_;intro v21 Ah k1 k0 hA21;have o4:=hide (eY.out.grow je kx (dQ.out _ _ _ eY.out.s) k1 k0);clear k1 k0 hA21)
    go_roundw
    case rel=>(repeat apply Exists.intro);exact⟨⟨i+1,gd,ej++[(g_,gd)],by omega,by go_num,by go_num,qp,tE.out gd,o4⟩,rfl⟩
    case measure=>simp[intOf];omega
   ·have qp:=hide iv;obtain⟨p,p1,p2,ip⟩:=tB ((i:Int)*sl);obtain⟨X,X1,kK,qH⟩:=tB (gd+p);go_upto_region 24 with fail
    have eY:=hide (jk.out.alloc (.cells #[.int .i64 g_,.int .i64 X] 23));have yQ:=iI.out _ _ _ jk.out;have nQ:=iI.out _ _ _ eY.out;have mN:=hide (xJ wr g_ X xC qH);have e5:=eY.out.o8;clear jk;go_wp2_with (at_builtin;refine xY rfl (.tmp 81) (.tmp 88) rfl au _ ej [(g_,X)] rfl eY.out.s _ 1 1 rfl mN.out rfl (sL.out X) e5 ?_;intro v21 Ah k1 k0 hA21;have o4:=hide (eY.out.grow je kx (dQ.out _ _ _ eY.out.s) k1 k0);clear k1 k0 hA21)
    go_roundw
    case rel=>(repeat apply Exists.intro);exact⟨⟨i+1,gd,ej++[(g_,X)],by omega,by go_num,by go_num,qp,tE.out X,o4⟩,rfl⟩
    case measure=>simp[intOf];omega
   ·have qp:=hide iv;obtain⟨p,p1,p2,ip⟩:=tB ((i:Int)*sl);obtain⟨q,q1,k8,ap3⟩:=tB (gd+p);go_upto_region 24 with (go_at_call 36;(with_reducible refine(lJ B b 7 _ i7 jk.out.t).mono ?_);rintro e cg ⟨s,rfl,hs,T,u⟩;obtain⟨y,rfl⟩:=Int.eq_ofNat_of_zero_le hs.1;have hy:y<7:=(by have:=hs.2.1 (by omega);omega);have lk:=hide (jk.out.c7 je kx u T);obtain⟨X,X1,kK,qH⟩:=tB (q+((y:Int)-3));clear hs u T jk)
    have eY:=hide (lk.out.alloc (.cells #[.int .i64 g_,.int .i64 X] 23));have yQ:=iI.out _ _ _ lk.out;have nQ:=iI.out _ _ _ eY.out;have mN:=hide (xJ cg g_ X xC qH);have e5:=eY.out.o8;clear lk;go_wp2_with (at_builtin;refine xY rfl (.tmp 81) (.tmp 88) rfl au _ ej [(g_,X)] rfl eY.out.s _ 1 1 rfl mN.out rfl (sL.out X) e5 ?_;intro v21 Ah k1 k0 hA21;have o4:=hide (eY.out.grow je kx (dQ.out _ _ _ eY.out.s) k1 k0);clear k1 k0 hA21)
    go_roundw
    case rel=>(repeat apply Exists.intro);exact⟨⟨i+1,gd,ej++[(g_,X)],by omega,by go_num,by go_num,qp,tE.out X,o4⟩,rfl⟩
    case measure=>simp[intOf];omega
   ·have qp:=hide iv;go_upto_region 24 with (go_at_call 36;(with_reducible refine(lJ B b 9 _ i9 jk.out.t).mono ?_);rintro e cg ⟨s,rfl,hs,T,u⟩;obtain⟨y,rfl⟩:=Int.eq_ofNat_of_zero_le hs.1;have hy:y<9:=(by have:=hs.2.1 (by omega);omega);have lk:=hide (jk.out.c7 je kx u T);obtain⟨X,X1,kK,qH⟩:=tB (gd+((y:Int)-4));clear hs u T jk)
    have eY:=hide (lk.out.alloc (.cells #[.int .i64 g_,.int .i64 X] 23));have yQ:=iI.out _ _ _ lk.out;have nQ:=iI.out _ _ _ eY.out;have mN:=hide (xJ cg g_ X xC qH);have e5:=eY.out.o8;clear lk;go_wp2_with (at_builtin;refine xY rfl (.tmp 81) (.tmp 88) rfl au _ ej [(g_,X)] rfl eY.out.s _ 1 1 rfl mN.out rfl (sL.out X) e5 ?_;intro v21 Ah k1 k0 hA21;have o4:=hide (eY.out.grow je kx (dQ.out _ _ _ eY.out.s) k1 k0);clear k1 k0 hA21)
    go_roundw
    case rel=>(repeat apply Exists.intro);exact⟨⟨i+1,gd,ej++[(g_,X)],by omega,by go_num,by go_num,qp,tE.out X,o4⟩,rfl⟩
    case measure=>simp[intOf];omega
   ·have qp:=hide iv;go_upto_region 24 with (go_at_call 44;(with_reducible refine(OE B b _ _ jk.out.t (b3.refl _ _)).mono ?_);rintro e cg ⟨X,rfl,qH,T,u⟩;have lk:=hide (jk.out.c7 je kx u T);clear u T jk)
    have eY:=hide (lk.out.alloc (.cells #[.int .i64 g_,.int .i64 X] 23));have yQ:=iI.out _ _ _ lk.out;have nQ:=iI.out _ _ _ eY.out;have mN:=hide (xJ cg g_ X xC qH);have e5:=eY.out.o8;clear lk;go_wp2_with (at_builtin;refine xY rfl (.tmp 81) (.tmp 88) rfl au _ ej [(g_,X)] rfl eY.out.s _ 1 1 rfl mN.out rfl (sL.out X) e5 ?_;intro v21 Ah k1 k0 hA21;have o4:=hide (eY.out.grow je kx (dQ.out _ _ _ eY.out.s) k1 k0);clear k1 k0 hA21)
    go_roundw
    case rel=>(repeat apply Exists.intro);exact⟨⟨i+1,gd,ej++[(g_,X)],by omega,by go_num,by go_num,qp,tE.out X,o4⟩,rfl⟩
    case measure=>simp[intOf];omega
   ·go_upto_if 62 with (go_at_call 45;(with_reducible refine(ala B b 5 _ _ (by omega) (by omega) jk.out.t (b3.refl _ _)).mono ?_);rintro e cg ⟨v,rfl,T,u⟩;have lk:=hide (jk.out.c7 je kx u T);clear u T jk)
    cases v with
    | false =>
     have qp:=hide iv;go_upto_region 24 with (go_at_call 36;(with_reducible refine(lJ B b 3 _ i3 lk.out.t).mono ?_);rintro e b6 ⟨s,rfl,hs,T,u⟩;obtain⟨z,rfl⟩:=Int.eq_ofNat_of_zero_le hs.1;have hz:z<3:=(by have:=hs.2.1 (by omega);omega);have pT:=hide (lk.out.c7 je kx u T);obtain⟨X,X1,kK,qH⟩:=tB (gd+(z:Int));clear hs u T lk)
     have eY:=hide (pT.out.alloc (.cells #[.int .i64 g_,.int .i64 X] 23));have yQ:=iI.out _ _ _ pT.out;have nQ:=iI.out _ _ _ eY.out;have mN:=hide (xJ b6 g_ X xC qH);have e5:=eY.out.o8;clear pT;go_wp2_with (at_builtin;refine xY rfl (.tmp 81) (.tmp 88) rfl au _ ej [(g_,X)] rfl eY.out.s _ 1 1 rfl mN.out rfl (sL.out X) e5 ?_;intro v21 Ah k1 k0 hA21;have o4:=hide (eY.out.grow je kx (dQ.out _ _ _ eY.out.s) k1 k0);clear k1 k0 hA21)
     go_roundw
     case rel=>(repeat apply Exists.intro);exact⟨⟨i+1,gd,ej++[(g_,X)],by omega,by go_num,by go_num,qp,tE.out X,o4⟩,rfl⟩
     case measure=>simp[intOf];omega
    | true =>
     go_upto_region 24 with (first|(go_at_call 36;(with_reducible refine(lJ B b 400 _ ae9 lk.out.t).mono ?_);rintro e b6 ⟨s,rfl,hs,T,u⟩;obtain⟨y,rfl⟩:=Int.eq_ofNat_of_zero_le hs.1;have hy:y<400:=(by have:=hs.2.1 (by omega);omega);have pT:=hide (lk.out.c7 je kx u T);obtain⟨Q8,XV,mG,afb⟩:=tB (gd+((y:Int)-200));have Xf:=hide afb;clear hs u T lk)|(go_at_call 36;(with_reducible refine(lJ B b 3 _ i3 pT.out.t).mono ?_);rintro e c8 ⟨s,rfl,hs,T,u⟩;obtain⟨z,rfl⟩:=Int.eq_ofNat_of_zero_le hs.1;have hz:z<3:=(by have:=hs.2.1 (by omega);omega);have AP:=hide (pT.out.c7 je kx u T);obtain⟨X,X1,kK,qH⟩:=tB (Q8+(z:Int));clear hs u T pT))
     have eY:=hide (AP.out.alloc (.cells #[.int .i64 g_,.int .i64 X] 23));have yQ:=iI.out _ _ _ AP.out;have nQ:=iI.out _ _ _ eY.out;have mN:=hide (xJ c8 g_ X xC qH);have e5:=eY.out.o8;clear AP;go_wp2_with (at_builtin;refine xY rfl (.tmp 81) (.tmp 88) rfl au _ ej [(g_,X)] rfl eY.out.s _ 1 1 rfl mN.out rfl (sL.out X) e5 ?_;intro v21 Ah k1 k0 hA21;have o4:=hide (eY.out.grow je kx (dQ.out _ _ _ eY.out.s) k1 k0);clear k1 k0 hA21)
     go_roundw
     case rel=>(repeat apply Exists.intro);exact⟨⟨i+1,Q8,ej++[(g_,X)],by omega,by go_num,by go_num,Xf,tE.out X,o4⟩,rfl⟩
     case measure=>simp[intOf];omega
   ·have qp:=hide iv;go_upto_region 24 with (first|(go_at_call 36;(with_reducible refine(lJ B b 50 _ i50 jk.out.t).mono ?_);rintro e cg ⟨s,rfl,hs,T,u⟩;obtain⟨y,rfl⟩:=Int.eq_ofNat_of_zero_le hs.1;have hy:y<50:=(by have:=hs.2.1 (by omega);omega);have lk:=hide (jk.out.c7 je kx u T);clear hs u T jk)|(go_at_call 36;(with_reducible refine(lJ B b 50 _ i50 lk.out.t).mono ?_);rintro e b6 ⟨s,rfl,hs,T,u⟩;obtain⟨z,rfl⟩:=Int.eq_ofNat_of_zero_le hs.1;have hz:z<50:=(by have:=hs.2.1 (by omega);omega);have pT:=hide (lk.out.c7 je kx u T);obtain⟨P,aS,ak,ap2⟩:=tB ((y:Int)*(z:Int));obtain⟨X,X1,kK,qH⟩:=tB (P*sl);clear hs u T lk))
    have eY:=hide (pT.out.alloc (.cells #[.int .i64 g_,.int .i64 X] 23));have yQ:=iI.out _ _ _ pT.out;have nQ:=iI.out _ _ _ eY.out;have mN:=hide (xJ b6 g_ X xC qH);have e5:=eY.out.o8;clear pT;go_wp2_with (at_builtin;refine xY rfl (.tmp 81) (.tmp 88) rfl au _ ej [(g_,X)] rfl eY.out.s _ 1 1 rfl mN.out rfl (sL.out X) e5 ?_;intro v21 Ah k1 k0 hA21;have o4:=hide (eY.out.grow je kx (dQ.out _ _ _ eY.out.s) k1 k0);clear k1 k0 hA21)
    go_roundw
    case rel=>(repeat apply Exists.intro);exact⟨⟨i+1,gd,ej++[(g_,X)],by omega,by go_num,by go_num,qp,tE.out X,o4⟩,rfl⟩
    case measure=>simp[intOf];omega
  ·obtain rfl:i=n:=by omega
   have d0:decide ((i:Int)<(i:Int))=false:=decide_eq_false (by omega);go_wp2_with fail
   go_ret;have br:=cz.out;rw[List.take_of_length_le (by have:=r0.out;omega)] at br;obtain⟨A,c,aF,h1,h2,h3⟩:=jk.out.s.at_;have eD:=jk.out.s;subst aF;have zg:ej.length=i:=by rw[<-r0.out,<-br,List.length_map]
   exact⟨A,_,c,ej,rfl,rfl,by omega,h1,h2,by rw[br];exact Xi.out,eD.less kx,jk.out.t,jk.out.u⟩
end
end Go.Proofs.YtojbopibfflnoaaGreat
