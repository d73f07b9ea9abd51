/- Facts. -/
import Derived.Test.YtojbopibfflnoaaGreatPrY7
import Derived.Test.YtojbopibfflnoaaGreatPrY24
import Derived.Test.YtojbopibfflnoaaGreatPrY25
import Derived.Test.YtojbopibfflnoaaGreatPrY32
import Derived.Test.YtojbopibfflnoaaGreatPrY34
import Derived.Test.YtojbopibfflnoaaGreatPrY35
import Derived.Deep.RegionLaw
import Derived.Shelf.Strconv.Itoa0
import Derived.Great.BuildSlice
namespace Go.Proofs.YtojbopibfflnoaaGreat
open Go renaming undef → r, World → F, Value → C, Calls → I, bodyPost_ret → B7, wpQuiet_nil → B', redrawn → aw5, TypeId → aw7, Operand → axb, Oper → aw4, Addr → aw6, execOp → axc
open _root_.Go.Proofs.Tryz renaming prog → E
set_option linter.unusedVariables false
set_option linter.unusedSimpArgs false
set_option maxHeartbeats 16000000
set_option maxRecDepth 100000
section
open Go Go.RowKit Go.Sort
theorem Zl{c:jH}(hc:nU c):∃ s,yg c s:=by
 cases c with
 | op=>exact⟨(0,1),rfl⟩
 | dU a b =>
  obtain⟨n,m,B⟩:=CH hc.1.1 hc.2.1.1 hc.2.2;exact⟨(n,m),B⟩
open Classical in
noncomputable def qQ (c:jH):Fr:=if h:∃ s,yg c s then Classical.choose h else (0,1)
theorem V0{c:jH}(hc:nU c):yg c (qQ c):=by
 have h:=Zl hc;unfold qQ;rw[dif_pos h];exact Classical.choose_spec h
theorem Gi{f:Nat}(h:I8 f){c:jH}(hc:nU c)(w:F):I E f #[.agg (e4 c)] w (aP (.agg (cJ (qQ c))) w):=by
 obtain⟨s,hs,k⟩:=h c hc;rw[Zn hc (V0 hc) hs];exact k w
end
section
open Go Go.RowKit Go.Sort
attribute [local go_sem] mg A3 bB BX
theorem YK{L H:Array C}(br:RC L)(dh:RC H){a:Act}{o:aw4}{w:F}{x y:axb}(aL:o.op=.build 31 #[(1,x),(2,y)])(hx:a.eval x=.agg L)(hy:a.eval y=.agg H):mg E w (.agg (bT false L H)) ((axc a.eval o).run E w):=by
 obtain⟨s,a1,b,c,d,t,e,f,g,h,rfl⟩:=br;obtain⟨s',a',b',c',d',t',e',f',g',h',rfl⟩:=dh;obtain⟨ρ,TE⟩:=aM a.eval;rw[TE] at hx hy |-;clear TE;unfold axc;rw[aL];simp only[bT];go_simp
theorem ajj(B V D iG Lo er U L H:Array C)(v b_:Int)(dt:Nat)(b7 cr cR p1 p2:Bool)(W:F)(jB:B.size=5)(rK:B.all (·.oneCell')=true)
 (zU:D.size=5) (rL:D.all (·.oneCell')=true) (EX:Lo.size=5) (Nt:Lo.all (·.oneCell')=true) (EW:er.size=5) (Ns:er.all (·.oneCell')=true) (zQ:RC L) (zP:RC H) (he:0<=b_) (ze:b_<=4611686018427387904) (Ly:0<dt) (ad1:dt<18446744073709551616)
 (bQ:Hid (∀ w,I E 109 #[.agg B] w (aP (.bool true) w)))
 (ev:Hid (∀ w,I E 95 #[.int .i64 v] w (aP (.agg V) w))) (vM:Hid (∀ w,I E 110 #[.agg V,.agg B] w (aP (.tuple #[.agg D,.bool b7]) w)))
 (Bz:Hid (∀ w,I E 95 #[.int .i64 b_] w (aP (.agg iG) w))) (Mv:Hid (∀ w,I E 110 #[.agg D,.agg iG] w (aP (.tuple #[.agg Lo,.bool cr]) w))) (rH:Hid (∀ w,I E 111 #[.agg D,.agg iG] w (aP (.tuple #[.agg er,.bool cR]) w)))
 (zq:Hid (∀ w,I E 112 #[.int .u64 (dt:Int)] w (aP (.agg U) w))) (Mt:Hid (∀ w,I E 105 #[.agg Lo,.agg U] w (aP (.tuple #[.agg L,.bool p1]) w))) (Mu:Hid (∀ w,I E 105 #[.agg er,.agg U] w (aP (.tuple #[.agg H,.bool p2]) w))) :
 I E 94 #[.agg B,.int .i64 v,.int .i64 b_,.int .u64 (dt:Int)] W (aP (.tuple #[.agg (bT false L H),true]) W):=by
 have d1:decide (b_<0)=false:=decide_eq_false (by omega);have d2:decide (4611686018427387904<b_)=false:=decide_eq_false (by omega);have d3:((dt:Int)==0)=false:=by rw[beq_eq_false_iff_ne];omega
 have d4:decide (dt=0)=false:=decide_eq_false (by omega);have rP:=zQ.size;have EK:=zQ.one;have td:=zP.size;have EJ:=zP.one;have nW:=lW false rP td;have s6:=su false EK EJ;clear he ze Ly;have ag:=(aG.new W 27 B).alloc (.cells z21 31);have aJ:=aG.new (W.alloc (.cells B 27)) 31 z21;rw[iY] at aJ;have EE:=hide ((aA W (.cells B 27)).trans (aA _ (.cells z21 31)));obtain⟨bG,bD⟩:=aM (((W.alloc (.cells B 27)).alloc (.cells z21 31)));obtain⟨g0,af⟩:∃ g,W.heap.size=g:=⟨_,rfl⟩;rw[bD] at ag aJ EE;rw[af] at ag aJ;have lj:W.heap.size<=g0:=by omega
 have n2:W.heap.size<=g0+1:=by omega
 have aB:=hide bD;have bW:=hide af;clear bD af;go_enter Tryz.func94,Tryz.ntmps94
 go_upto_region 1 with fail
 unfold z21 at aB;rw[aB.out,bW.out];clear aB bW;refine eK ?_;repeat (first|go_big_quiet_step (first|with_reducible exact dK (bQ.out _))|(refine iE (by kernel_rfl) rfl rfl (fun w hw=>by obtain⟨⟨d,os⟩,rfl⟩:=hw;exact dF ((ag).ext (aX bG d os)) hU rfl eT jB) ?_)|quiet_step (first|with_reducible exact dK (bQ.out _)))
 refine B' ?_;intro _ bj;obtain⟨⟨aQ,osq⟩,cq⟩:=bj;subst cq;replace ag:=(ag).ext (aX bG aQ osq);replace aJ:=(aJ).ext (aX bG aQ osq);replace EE:=hide (EE.out.trans (aX bG aQ osq));obtain⟨bp,eF⟩:∃ w,grow (aw5 bG aQ) osq=w:=⟨_,rfl⟩;rw[eF] at EE ag aJ |-;clear eF;go_upto_region 3 with fail
 have cP:=ag.lt;have dT:=aJ.lt;refine kl [.q,.q,.q,.q,.q,.q,.q,.al,.st 7,.q] [0,0,0,0,0,0,0,0,0,0] (fun R=>[.int .i64 v,.agg V,.agg B,.tuple #[.agg D,.bool b7],.tuple #[.agg D,.bool b7],.agg D,.bool b7,r,r,.bool b7]) (fun _=>(.cells z5 27 (0,0))) (fun R _=>(.cells D 27 (0,0))) (fun _=>0) (dA W) (fun _=>False) (by kernel_rfl) (by kernel_rfl) (by kernel_rfl) (by kernel_rfl) rfl (fun _=>rfl) (fun _ h=>h.elim) (fun _ _ h=>h) (by simp) (by simp) (fun R b1=>⟨fun _=>rfl,fun _=>rfl,fun _=>rfl,fun _=>rfl,fun _=>rfl,fun _=>rfl,fun _=>rfl,fun _=>rfl,fun _=>rfl,fun _=>rfl,trivial⟩) (fun _ _ _ _=>rfl) dH (EE.out.trans (b5 _)) ?NH ?J9;case NH =>
  refine⟨aH,d_ ev,?_,d_ vM,aH,aH,aH,?_,?_,aH,trivial⟩
  ·refine cj fun R s w' aw hs hw ha=>?_
   have L:=dF (ag.aY hw (fun h=>h) (by simp)) hU rfl eT jB;generalize hA:bB _ _ _ _ _ _ _=c3;refine e7 rfl ?_ L;subst hA;kernel_rfl
  ·refine ia ?an9 ?po ?sW ?o_ ?_;case an9=>exact(.cells z5 27 (0,0))
   case po=>exact rfl
   case sW=>exact rfl
   case o_=>exact cu rfl
   intro ρ w';go_simp;exact⟨rfl,rfl⟩
  ·refine ib (j:=7) (Ty:=?F1) (p:=?Hz) (x:=?Ii) ?vb ?an_ ?qS ?oa ?vR ?qK ?vP ?n8 ?uY ?_;case oa=>exact rfl
   case vR=>exact rfl
   case vb=>exact(fun R=>(.cells D 27 (0,0)))
   case an_=>exact(.cells z5 27 (0,0))
   case qS=>exact(fun R=>.agg D)
   case qK=>exact(fun R=>rfl)
   case vP=>exact rfl
   case n8=>exact cu rfl
   case uY =>
    intro R;kernel_rfl
   intro R s ρ w g aw hs hp hx af hz;exact⟨hQ rfl hp hx hz eT (zU) (rL),fun aT hF=>dM aw hF (Nat.le_trans EE.out.size af)⟩
 case J9 =>
  intro cY R G xU ae;have hS:=ae.same;have aZ:=ae.holds;have bf:=EE.out.size;replace ag:=ag.aY hS (fun h=>h) (by simp);replace aJ:=aJ.aY hS (fun h=>h) (by simp);have bu:aG xU (G 7) 27 D:=(ae.eV 8 (List.mem_range.2 (show 8<10 by decide)) 7 rfl).2.2;have vD:=(ae.made 7 (List.mem_range.2 (show 7<10 by decide)) rfl).1;have FW:W.heap.size<=G 7:=Nat.le_trans bf vD;have Hn:g0≠G 7:=by omega
  have Ho:g0+1≠G 7:=by omega
  replace EE:=hide (show Ext _ _ from aZ);clear hS bf aZ ae cP dT;generalize hF:bB _ _ _ _ _ _ _=bH;have bI:bH={ tmps:=#[.agg B,.int .i64 v,.int .i64 b_,.int .u64 (dt:Int),(yj g0 0:C),r,r,r,(yj (g0+1) 0:C),.bool false,(yj (G 7) 0:C),.bool b7,r,r,r,r,r,r,r,r,.agg B,.bool true,.bool false,.bool false,.int .i64 b_,.bool false,.bool false,.bool false,.int .i64 b_,.bool false,.bool false,.bool false,.int .u64 (dt:Int),.bool false,.bool false,r,.tuple #[.agg D,.bool b7],.int .i64 v,.agg V,.agg B,.tuple #[.agg D,.bool b7],.agg D,.bool b7,r,r,r,r,r,r,r,r,r,r,r,r,r,r,r,r,r,r,r,r,r,r,r,r,r,r,r,r,r,r,r],defers:=[] }:=by subst hF;kernel_rfl
  clear hF;subst bI;generalize G 7=g10 at *;go_upto_region 4 with fail
  have cP:=ag.lt;have dT:=aJ.lt;have fj:=bu.lt;refine kl [.q,.q,.q,.q,.q,.q,.q,.al,.st 7,.q] [0,0,0,0,0,0,0,0,0,0] (fun R=>[.agg D,.int .i64 b_,.agg iG,.tuple #[.agg Lo,.bool cr],.tuple #[.agg Lo,.bool cr],.agg Lo,.bool cr,r,r,.bool cr]) (fun _=>(.cells z5 27 (0,0))) (fun R _=>(.cells Lo 27 (0,0))) (fun _=>0) (dA W) (fun _=>False) (by kernel_rfl) (by kernel_rfl) (by kernel_rfl) (by kernel_rfl) rfl (fun _=>rfl) (fun _ h=>h.elim) (fun _ _ h=>h) (by simp) (by simp) (fun R b1=>⟨fun _=>rfl,fun _=>rfl,fun _=>rfl,fun _=>rfl,fun _=>rfl,fun _=>rfl,fun _=>rfl,fun _=>rfl,fun _=>rfl,fun _=>rfl,trivial⟩) (fun _ _ _ _=>rfl) dH (EE.out.trans (b5 _)) ?ahW ?aaJ;case ahW =>
   refine⟨?_,aH,d_ Bz,d_ Mv,aH,aH,aH,?_,?_,aH,trivial⟩
   ·refine cj fun R s w' aw hs hw ha=>?_
    have L:=dF (bu.aY hw (fun h=>h) (by simp)) hU rfl eT zU;generalize hA:bB _ _ _ _ _ _ _=c3;refine e7 rfl ?_ L;subst hA;kernel_rfl
   ·refine ia ?aob ?LV ?ME ?Kx ?_;case aob=>exact(.cells z5 27 (0,0))
    case LV=>exact rfl
    case ME=>exact rfl
    case Kx=>exact cu rfl
    intro ρ w';go_simp;exact⟨rfl,rfl⟩
   ·refine ib (j:=7) (Ty:=?aov) (p:=?ar3) (x:=?atu) ?abz ?PV ?Pg ?DZ ?ahA ?Ev ?af6 ?Dg ?aaq ?_;case DZ=>exact rfl
    case ahA=>exact rfl
    case abz=>exact(fun R=>(.cells Lo 27 (0,0)))
    case PV=>exact(.cells z5 27 (0,0))
    case Pg=>exact(fun R=>.agg Lo)
    case Ev=>exact(fun R=>rfl)
    case af6=>exact rfl
    case Dg=>exact cu rfl
    case aaq =>
     intro R;kernel_rfl
    intro R s ρ w g aw hs hp hx af hz;exact⟨hQ rfl hp hx hz eT (EX) (Nt),fun aT hF=>dM aw hF (Nat.le_trans EE.out.size af)⟩
  case aaJ =>
   intro cY R G am8 ae;have hS:=ae.same;have aZ:=ae.holds;have bf:=EE.out.size;replace ag:=ag.aY hS (fun h=>h) (by simp);replace aJ:=aJ.aY hS (fun h=>h) (by simp);replace bu:=bu.aY hS (fun h=>h) (by simp);have h_:aG am8 (G 7) 27 Lo:=(ae.eV 8 (List.mem_range.2 (show 8<10 by decide)) 7 rfl).2.2;have LN:=(ae.made 7 (List.mem_range.2 (show 7<10 by decide)) rfl).1;have Xw:W.heap.size<=G 7:=Nat.le_trans bf LN;have ag8:g0≠G 7:=by omega
   have ahj:g0+1≠G 7:=by omega
   have agQ:g10≠G 7:=by omega
   replace EE:=hide (show Ext _ _ from aZ);clear hS bf aZ ae cP dT fj;generalize hF:bB _ _ _ _ _ _ _=bH;have bI:bH={ tmps:=#[.agg B,.int .i64 v,.int .i64 b_,.int .u64 (dt:Int),(yj g0 0:C),r,r,r,(yj (g0+1) 0:C),.bool false,(yj g10 0:C),.bool b7,(yj (G 7) 0:C),.bool cr,r,r,r,r,r,r,.agg B,.bool true,.bool false,.bool false,.int .i64 b_,.bool false,.bool false,.bool false,.int .i64 b_,.bool false,.bool false,.bool false,.int .u64 (dt:Int),.bool false,.bool false,r,.tuple #[.agg D,.bool b7],.int .i64 v,.agg V,.agg B,.tuple #[.agg D,.bool b7],.agg D,.bool b7,.tuple #[.agg Lo,.bool cr],.agg D,.int .i64 b_,.agg iG,.tuple #[.agg Lo,.bool cr],.agg Lo,.bool cr,r,r,r,r,r,r,r,r,r,r,r,r,r,r,r,r,r,r,r,r,r,r,r,r],defers:=[] }:=by subst hF;kernel_rfl
   clear hF;subst bI;generalize G 7=g12 at *;go_upto_region 5 with fail
   have cP:=ag.lt;have dT:=aJ.lt;have fj:=bu.lt;have ni:=h_.lt;refine kl [.q,.q,.q,.q,.q,.q,.q,.al,.st 7,.q] [0,0,0,0,0,0,0,0,0,0] (fun R=>[.agg D,.int .i64 b_,.agg iG,.tuple #[.agg er,.bool cR],.tuple #[.agg er,.bool cR],.agg er,.bool cR,r,r,.bool cR]) (fun _=>(.cells z5 27 (0,0))) (fun R _=>(.cells er 27 (0,0))) (fun _=>0) (dA W) (fun _=>False) (by kernel_rfl) (by kernel_rfl) (by kernel_rfl) (by kernel_rfl) rfl (fun _=>rfl) (fun _ h=>h.elim) (fun _ _ h=>h) (by simp) (by simp) (fun R b1=>⟨fun _=>rfl,fun _=>rfl,fun _=>rfl,fun _=>rfl,fun _=>rfl,fun _=>rfl,fun _=>rfl,fun _=>rfl,fun _=>rfl,fun _=>rfl,trivial⟩) (fun _ _ _ _=>rfl) dH (EE.out.trans (b5 _)) ?ahZ ?aaM;case ahZ =>
    refine⟨?_,aH,d_ Bz,d_ rH,aH,aH,aH,?_,?_,aH,trivial⟩
    ·refine cj fun R s w' aw hs hw ha=>?_
     have L:=dF (bu.aY hw (fun h=>h) (by simp)) hU rfl eT zU;generalize hA:bB _ _ _ _ _ _ _=c3;refine e7 rfl ?_ L;subst hA;kernel_rfl
    ·refine ia ?aod ?aej ?afC ?ab2 ?_;case aod=>exact(.cells z5 27 (0,0))
     case aej=>exact rfl
     case afC=>exact rfl
     case ab2=>exact cu rfl
     intro ρ w';go_simp;exact⟨rfl,rfl⟩
    ·refine ib (j:=7) (Ty:=?aoy) (p:=?ar6) (x:=?atx) ?abC ?PY ?Pk ?D2 ?ahD ?Ex ?af9 ?Dj ?aat ?_;case D2=>exact rfl
     case ahD=>exact rfl
     case abC=>exact(fun R=>(.cells er 27 (0,0)))
     case PY=>exact(.cells z5 27 (0,0))
     case Pk=>exact(fun R=>.agg er)
     case Ex=>exact(fun R=>rfl)
     case af9=>exact rfl
     case Dj=>exact cu rfl
     case aat =>
      intro R;kernel_rfl
     intro R s ρ w g aw hs hp hx af hz;exact⟨hQ rfl hp hx hz eT (EW) (Ns),fun aT hF=>dM aw hF (Nat.le_trans EE.out.size af)⟩
   case aaM =>
    intro cY R G am9 ae;have hS:=ae.same;have aZ:=ae.holds;have bf:=EE.out.size;replace ag:=ag.aY hS (fun h=>h) (by simp);replace aJ:=aJ.aY hS (fun h=>h) (by simp);replace bu:=bu.aY hS (fun h=>h) (by simp);replace h_:=h_.aY hS (fun h=>h) (by simp);have gV:aG am9 (G 7) 27 er:=(ae.eV 8 (List.mem_range.2 (show 8<10 by decide)) 7 rfl).2.2;have LO:=(ae.made 7 (List.mem_range.2 (show 7<10 by decide)) rfl).1;have Xx:W.heap.size<=G 7:=Nat.le_trans bf LO;have ag9:g0≠G 7:=by omega
    have ahk:g0+1≠G 7:=by omega
    have agR:g10≠G 7:=by omega
    have agU:g12≠G 7:=by omega
    replace EE:=hide (show Ext _ _ from aZ);clear hS bf aZ ae cP dT fj ni;generalize hF:bB _ _ _ _ _ _ _=bH;have bI:bH={ tmps:=#[.agg B,.int .i64 v,.int .i64 b_,.int .u64 (dt:Int),(yj g0 0:C),r,r,r,(yj (g0+1) 0:C),.bool false,(yj g10 0:C),.bool b7,(yj g12 0:C),.bool cr,(yj (G 7) 0:C),.bool cR,r,r,r,r,.agg B,.bool true,.bool false,.bool false,.int .i64 b_,.bool false,.bool false,.bool false,.int .i64 b_,.bool false,.bool false,.bool false,.int .u64 (dt:Int),.bool false,.bool false,r,.tuple #[.agg D,.bool b7],.int .i64 v,.agg V,.agg B,.tuple #[.agg D,.bool b7],.agg D,.bool b7,.tuple #[.agg Lo,.bool cr],.agg D,.int .i64 b_,.agg iG,.tuple #[.agg Lo,.bool cr],.agg Lo,.bool cr,.tuple #[.agg er,.bool cR],.agg D,.int .i64 b_,.agg iG,.tuple #[.agg er,.bool cR],.agg er,.bool cR,r,r,r,r,r,r,r,r,r,r,r,r,r,r,r,r,r],defers:=[] }:=by subst hF;kernel_rfl
    clear hF;subst bI;generalize G 7=g14 at *;go_upto_region 6 with fail
    have cP:=ag.lt;have dT:=aJ.lt;have fj:=bu.lt;have ni:=h_.lt;have o1:=gV.lt;refine kl [.q,.q,.q,.q,.q,.q,.q,.al,.st 7,.q] [0,0,0,0,0,0,0,0,0,0] (fun R=>[.agg Lo,.int .u64 (dt:Int),.agg U,.tuple #[.agg L,.bool p1],.tuple #[.agg L,.bool p1],.agg L,.bool p1,r,r,.bool p1]) (fun _=>(.cells dq 29 (0,0))) (fun R _=>(.cells L 29 (0,0))) (fun _=>0) (dA W) (fun _=>False) (by kernel_rfl) (by kernel_rfl) (by kernel_rfl) (by kernel_rfl) rfl (fun _=>rfl) (fun _ h=>h.elim) (fun _ _ h=>h) (by simp) (by simp) (fun R b1=>⟨fun _=>rfl,fun _=>rfl,fun _=>rfl,fun _=>rfl,fun _=>rfl,fun _=>rfl,fun _=>rfl,fun _=>rfl,fun _=>rfl,fun _=>rfl,trivial⟩) (fun _ _ _ _=>rfl) dH (EE.out.trans (b5 _)) ?ah2 ?aaP;case ah2 =>
     refine⟨?_,aH,d_ zq,d_ Mt,aH,aH,aH,?_,?_,aH,trivial⟩
     ·refine cj fun R s w' aw hs hw ha=>?_
      have L:=dF (h_.aY hw (fun h=>h) (by simp)) hU rfl eT EX;generalize hA:bB _ _ _ _ _ _ _=c3;refine e7 rfl ?_ L;subst hA;kernel_rfl
     ·refine ia ?FB ?D3 ?Ey ?Dk ?_;case FB=>exact(.cells dq 29 (0,0))
      case D3=>exact rfl
      case Ey=>exact rfl
      case Dk=>exact cu rfl
      intro ρ w';go_simp;exact⟨rfl,rfl⟩
     ·refine ib (j:=7) (Ty:=?aoA) (p:=?ar8) (x:=?atz) ?abE ?P2 ?amW ?L2 ?ahF ?MN ?af' ?KE ?aav ?_;case L2=>exact rfl
      case ahF=>exact rfl
      case abE=>exact(fun R=>(.cells L 29 (0,0)))
      case P2=>exact(.cells dq 29 (0,0))
      case amW=>exact(fun R=>.agg L)
      case MN=>exact(fun R=>rfl)
      case af'=>exact rfl
      case KE=>exact cu rfl
      case aav =>
       intro R;kernel_rfl
      intro R s ρ w g aw hs hp hx af hz;exact⟨hQ rfl hp hx hz oP (rP) (EK),fun aT hF=>dM aw hF (Nat.le_trans EE.out.size af)⟩
    case aaP =>
     intro cY R G am' ae;have hS:=ae.same;have aZ:=ae.holds;have bf:=EE.out.size;replace ag:=ag.aY hS (fun h=>h) (by simp);replace aJ:=aJ.aY hS (fun h=>h) (by simp);replace bu:=bu.aY hS (fun h=>h) (by simp);replace h_:=h_.aY hS (fun h=>h) (by simp);replace gV:=gV.aY hS (fun h=>h) (by simp);have ek:aG am' (G 7) 29 L:=(ae.eV 8 (List.mem_range.2 (show 8<10 by decide)) 7 rfl).2.2;have LP:=(ae.made 7 (List.mem_range.2 (show 7<10 by decide)) rfl).1;have Xy:W.heap.size<=G 7:=Nat.le_trans bf LP;have ag_:g0≠G 7:=by omega
     have ahl:g0+1≠G 7:=by omega
     have agS:g10≠G 7:=by omega
     have agV:g12≠G 7:=by omega
     have agY:g14≠G 7:=by omega
     replace EE:=hide (show Ext _ _ from aZ);clear hS bf aZ ae cP dT fj ni o1;generalize hF:bB _ _ _ _ _ _ _=bH;have bI:bH={ tmps:=#[.agg B,.int .i64 v,.int .i64 b_,.int .u64 (dt:Int),(yj g0 0:C),r,r,r,(yj (g0+1) 0:C),.bool false,(yj g10 0:C),.bool b7,(yj g12 0:C),.bool cr,(yj g14 0:C),.bool cR,(yj (G 7) 0:C),.bool p1,r,r,.agg B,.bool true,.bool false,.bool false,.int .i64 b_,.bool false,.bool false,.bool false,.int .i64 b_,.bool false,.bool false,.bool false,.int .u64 (dt:Int),.bool false,.bool false,r,.tuple #[.agg D,.bool b7],.int .i64 v,.agg V,.agg B,.tuple #[.agg D,.bool b7],.agg D,.bool b7,.tuple #[.agg Lo,.bool cr],.agg D,.int .i64 b_,.agg iG,.tuple #[.agg Lo,.bool cr],.agg Lo,.bool cr,.tuple #[.agg er,.bool cR],.agg D,.int .i64 b_,.agg iG,.tuple #[.agg er,.bool cR],.agg er,.bool cR,.tuple #[.agg L,.bool p1],.agg Lo,.int .u64 (dt:Int),.agg U,.tuple #[.agg L,.bool p1],.agg L,.bool p1,r,r,r,r,r,r,r,r,r,r],defers:=[] }:=by subst hF;kernel_rfl
     clear hF;subst bI;generalize G 7=g16 at *;go_upto_region 7 with fail
     have cP:=ag.lt;have dT:=aJ.lt;have fj:=bu.lt;have ni:=h_.lt;have o1:=gV.lt;have r8:=ek.lt;refine kl [.q,.q,.q,.q,.q,.q,.q,.al,.st 7,.q] [0,0,0,0,0,0,0,0,0,0] (fun R=>[.agg er,.int .u64 (dt:Int),.agg U,.tuple #[.agg H,.bool p2],.tuple #[.agg H,.bool p2],.agg H,.bool p2,r,r,.bool p2]) (fun _=>(.cells dq 29 (0,0))) (fun R _=>(.cells H 29 (0,0))) (fun _=>0) (dA W) (fun _=>False) (by kernel_rfl) (by kernel_rfl) (by kernel_rfl) (by kernel_rfl) rfl (fun _=>rfl) (fun _ h=>h.elim) (fun _ _ h=>h) (by simp) (by simp) (fun R b1=>⟨fun _=>rfl,fun _=>rfl,fun _=>rfl,fun _=>rfl,fun _=>rfl,fun _=>rfl,fun _=>rfl,fun _=>rfl,fun _=>rfl,fun _=>rfl,trivial⟩) (fun _ _ _ _=>rfl) dH (EE.out.trans (b5 _)) ?ah6 ?aaT;case ah6 =>
      refine⟨?_,aH,d_ zq,d_ Mu,aH,aH,aH,?_,?_,aH,trivial⟩
      ·refine cj fun R s w' aw hs hw ha=>?_
       have L:=dF (gV.aY hw (fun h=>h) (by simp)) hU rfl eT EW;generalize hA:bB _ _ _ _ _ _ _=c3;refine e7 rfl ?_ L;subst hA;kernel_rfl
      ·refine ia ?aoi ?aer ?afK ?ab_ ?_;case aoi=>exact(.cells dq 29 (0,0))
       case aer=>exact rfl
       case afK=>exact rfl
       case ab_=>exact cu rfl
       intro ρ w';go_simp;exact⟨rfl,rfl⟩
      ·refine ib (j:=7) (Ty:=?aoE) (p:=?asa) (x:=?atD) ?abI ?aoj ?am0 ?aes ?ahJ ?afL ?agd ?ab' ?aaz ?_;case aes=>exact rfl
       case ahJ=>exact rfl
       case abI=>exact(fun R=>(.cells H 29 (0,0)))
       case aoj=>exact(.cells dq 29 (0,0))
       case am0=>exact(fun R=>.agg H)
       case afL=>exact(fun R=>rfl)
       case agd=>exact rfl
       case ab'=>exact cu rfl
       case aaz =>
        intro R;kernel_rfl
       intro R s ρ w g aw hs hp hx af hz;exact⟨hQ rfl hp hx hz oP (td) (EJ),fun aT hF=>dM aw hF (Nat.le_trans EE.out.size af)⟩
     case aaT =>
      intro cY R G anc ae;have hS:=ae.same;have aZ:=ae.holds;have bf:=EE.out.size;replace ag:=ag.aY hS (fun h=>h) (by simp);replace aJ:=aJ.aY hS (fun h=>h) (by simp);replace bu:=bu.aY hS (fun h=>h) (by simp);replace h_:=h_.aY hS (fun h=>h) (by simp);replace gV:=gV.aY hS (fun h=>h) (by simp);replace ek:=ek.aY hS (fun h=>h) (by simp);have e3:aG anc (G 7) 29 H:=(ae.eV 8 (List.mem_range.2 (show 8<10 by decide)) 7 rfl).2.2;have LQ:=(ae.made 7 (List.mem_range.2 (show 7<10 by decide)) rfl).1;have I5:W.heap.size<=G 7:=Nat.le_trans bf LQ;have ag':g0≠G 7:=by omega
      have ahm:g0+1≠G 7:=by omega
      have agT:g10≠G 7:=by omega
      have agW:g12≠G 7:=by omega
      have agZ:g14≠G 7:=by omega
      have ag0:g16≠G 7:=by omega
      replace EE:=hide (show Ext _ _ from aZ);clear hS bf aZ ae cP dT fj ni o1 r8;generalize hF:bB _ _ _ _ _ _ _=bH;have bI:bH={ tmps:=#[.agg B,.int .i64 v,.int .i64 b_,.int .u64 (dt:Int),(yj g0 0:C),r,r,r,(yj (g0+1) 0:C),.bool false,(yj g10 0:C),.bool b7,(yj g12 0:C),.bool cr,(yj g14 0:C),.bool cR,(yj g16 0:C),.bool p1,(yj (G 7) 0:C),.bool p2,.agg B,.bool true,.bool false,.bool false,.int .i64 b_,.bool false,.bool false,.bool false,.int .i64 b_,.bool false,.bool false,.bool false,.int .u64 (dt:Int),.bool false,.bool false,r,.tuple #[.agg D,.bool b7],.int .i64 v,.agg V,.agg B,.tuple #[.agg D,.bool b7],.agg D,.bool b7,.tuple #[.agg Lo,.bool cr],.agg D,.int .i64 b_,.agg iG,.tuple #[.agg Lo,.bool cr],.agg Lo,.bool cr,.tuple #[.agg er,.bool cR],.agg D,.int .i64 b_,.agg iG,.tuple #[.agg er,.bool cR],.agg er,.bool cR,.tuple #[.agg L,.bool p1],.agg Lo,.int .u64 (dt:Int),.agg U,.tuple #[.agg L,.bool p1],.agg L,.bool p1,.tuple #[.agg H,.bool p2],.agg er,.int .u64 (dt:Int),.agg U,.tuple #[.agg H,.bool p2],.agg H,.bool p2,r,r,r],defers:=[] }:=by subst hF;kernel_rfl
      clear hF;subst bI;generalize G 7=g18 at *;go_upto_region 8 with fail
      have cP:=ag.lt;have dT:=aJ.lt;have fj:=bu.lt;have ni:=h_.lt;have o1:=gV.lt;have r8:=ek.lt;have yw:=e3.lt;refine eB [.q,.q,.q,.so 0,.q] [0,0,0,0,0] (fun R=>[.agg L,.agg H,.agg (bT false L H),r,.bool true]) (fun _=>(.cells #[] 0 (0,0))) (fun R _=>(.cells (bT false L H) 31 (0,0))) (fun _=>g0+1) (dA W) (fun _=>False) (by kernel_rfl) (by kernel_rfl) (by kernel_rfl) rfl (fun _=>rfl) (fun _ h=>h.elim) (fun _ _ h=>h) (by intro c hc;simp at hc;(try subst hc);(try simp only);omega) (by intro c c' h1 h2 _;simp at h1 h2;omega) (fun R b1=>⟨fun _=>rfl,fun _=>rfl,fun _=>rfl,fun _=>rfl,fun _=>rfl,trivial⟩) (fun _ _ _ _=>rfl) dH EE.out ?ah_ ?aaX;case ah_ =>
       refine⟨?_,?_,?_,?_,aH,trivial⟩
       ·refine cj fun R s w' aw hs hw ha=>?_
        have L:=dF (ek.aY hw (fun h=>h) (by intro c hc;simp at hc;(try subst hc);(try simp only);omega)) tt rfl oP rP;generalize hA:bB _ _ _ _ _ _ _=c3;refine e7 rfl ?_ L;subst hA;kernel_rfl
       ·refine cj fun R s w' aw hs hw ha=>?_
        have L:=dF (e3.aY hw (fun h=>h) (by intro c hc;simp at hc;(try subst hc);(try simp only);omega)) tt rfl oP td;generalize hA:bB _ _ _ _ _ _ _=c3;refine e7 rfl ?_ L;subst hA;kernel_rfl
       ·refine cj fun R s w' aw hs hw ha=>?_
        generalize hA:bB _ _ _ _ _ _ _=c3;refine YK zQ zP rfl ?_ ?_
        ·subst hA;kernel_rfl
        ·subst hA;kernel_rfl
       ·refine il (c:=0) (Ty:=?aoH) (p:=?asd) (x:=?atG) (g0+1) ?abL ?aml ?am3 ?aev ?ahM ?afO ?agh ?acd ?Z9 ?aaC ?_;case aev=>exact rfl
        case ahM=>exact rfl
        case abL=>exact(fun R=>(.cells (bT false L H) 31 (0,0)))
        case aml=>exact(fun R=>.pointer (some ⟨g0+1,0,none⟩))
        case am3=>exact(fun R=>.agg (bT false L H))
        case afO=>exact(fun R=>rfl)
        case agh=>exact rfl
        case acd=>exact cu rfl
        case Z9 =>
         intro R;kernel_rfl
        case aaC =>
         intro R;kernel_rfl
        intro R s ρ w aw hs hp hx hz;refine⟨lI (g:=(g0+1)) rfl hp hx (hz.trans aJ) ei (rfl) (nW) (s6),fun aT hF=>dM aw hF n2⟩
      case aaX =>
       intro cY R G ang ae;have hS:=ae.same;have aZ:=ae.holds;have bf:=EE.out.size;replace ag:=ag.aY hS (fun h=>h) (by intro c hc;simp at hc;(try subst hc);(try simp only);omega);replace bu:=bu.aY hS (fun h=>h) (by intro c hc;simp at hc;(try subst hc);(try simp only);omega);replace h_:=h_.aY hS (fun h=>h) (by intro c hc;simp at hc;(try subst hc);(try simp only);omega);replace gV:=gV.aY hS (fun h=>h) (by intro c hc;simp at hc;(try subst hc);(try simp only);omega);replace ek:=ek.aY hS (fun h=>h) (by intro c hc;simp at hc;(try subst hc);(try simp only);omega);replace e3:=e3.aY hS (fun h=>h) (by intro c hc;simp at hc;(try subst hc);(try simp only);omega);replace aJ:aG ang (g0+1) 31 (bT false L H):=ae.ep 3 (List.mem_range.2 (show 3<5 by decide)) 0 rfl;replace EE:=hide (show Ext _ _ from aZ);clear hS bf aZ ae cP dT fj ni o1 r8 yw;generalize hF:bB _ _ _ _ _ _ _=bH;have bI:bH={ tmps:=#[.agg B,.int .i64 v,.int .i64 b_,.int .u64 (dt:Int),(yj g0 0:C),r,r,r,(yj (g0+1) 0:C),.bool true,(yj g10 0:C),.bool b7,(yj g12 0:C),.bool cr,(yj g14 0:C),.bool cR,(yj g16 0:C),.bool p1,(yj g18 0:C),.bool p2,.agg B,.bool true,.bool false,.bool false,.int .i64 b_,.bool false,.bool false,.bool false,.int .i64 b_,.bool false,.bool false,.bool false,.int .u64 (dt:Int),.bool false,.bool false,r,.tuple #[.agg D,.bool b7],.int .i64 v,.agg V,.agg B,.tuple #[.agg D,.bool b7],.agg D,.bool b7,.tuple #[.agg Lo,.bool cr],.agg D,.int .i64 b_,.agg iG,.tuple #[.agg Lo,.bool cr],.agg Lo,.bool cr,.tuple #[.agg er,.bool cR],.agg D,.int .i64 b_,.agg iG,.tuple #[.agg er,.bool cR],.agg er,.bool cR,.tuple #[.agg L,.bool p1],.agg Lo,.int .u64 (dt:Int),.agg U,.tuple #[.agg L,.bool p1],.agg L,.bool p1,.tuple #[.agg H,.bool p2],.agg er,.int .u64 (dt:Int),.agg U,.tuple #[.agg H,.bool p2],.agg H,.bool p2,.agg L,.agg H,.agg (bT false L H)],defers:=[] }:=by subst hF;kernel_rfl
       clear hF;subst bI;go_wp2_with fail
       exact B7 (kg (p:=8) (u:=9) (ty:=31) rfl _ _ _ 31 (bT false L H) _ rfl aJ fV rfl (by rw[ei,nW])) rfl ⟨by kernel_rfl,EE.out⟩
theorem ajk(B:Array C)(v b_:Int)(dt:Nat)(W:F)(jB:B.size=5)(rK:B.all (·.oneCell')=true)(bQ:Hid (∀ w,I E 109 #[.agg B] w (aP (.bool false) w))) :
 I E 94 #[.agg B,.int .i64 v,.int .i64 b_,.int .u64 (dt:Int)] W (aP (.tuple #[.agg z21,false]) W):=by
 have ag:=(aG.new W 27 B).alloc (.cells z21 31);have aJ:=aG.new (W.alloc (.cells B 27)) 31 z21;rw[iY] at aJ;have EE:=hide ((aA W (.cells B 27)).trans (aA _ (.cells z21 31)));obtain⟨bG,bD⟩:=aM (((W.alloc (.cells B 27)).alloc (.cells z21 31)));obtain⟨g0,af⟩:∃ g,W.heap.size=g:=⟨_,rfl⟩;rw[bD] at ag aJ EE;rw[af] at ag aJ;have lj:W.heap.size<=g0:=by omega
 have n2:W.heap.size<=g0+1:=by omega
 have aB:=hide bD;have bW:=hide af;clear bD af;go_enter Tryz.func94,Tryz.ntmps94
 go_upto_region 1 with fail
 unfold z21 at aB;rw[aB.out,bW.out];clear aB bW;refine eK ?_;repeat (first|go_big_quiet_step (first|with_reducible exact dK (bQ.out _))|(refine iE (by kernel_rfl) rfl rfl (fun w hw=>by obtain⟨⟨d,os⟩,rfl⟩:=hw;exact dF ((ag).ext (aX bG d os)) hU rfl eT jB) ?_)|quiet_step (first|with_reducible exact dK (bQ.out _)))
 refine B' ?_;intro _ bj;obtain⟨⟨aQ,osq⟩,cq⟩:=bj;subst cq;replace ag:=(ag).ext (aX bG aQ osq);replace aJ:=(aJ).ext (aX bG aQ osq);replace EE:=hide (EE.out.trans (aX bG aQ osq));obtain⟨bp,eF⟩:∃ w,grow (aw5 bG aQ) osq=w:=⟨_,rfl⟩;rw[eF] at EE ag aJ |-;clear eF;go_upto_region 2 with fail
 have cP:=ag.lt;have dT:=aJ.lt;refine eB [.q,.so 0,.q] [0,0,0] (fun R=>[.agg z21,r,.bool false]) (fun _=>(.cells #[] 0 (0,0))) (fun R _=>(.cells z21 31 (0,0))) (fun _=>g0+1) (dA W) (fun _=>False) (by kernel_rfl) (by kernel_rfl) (by kernel_rfl) rfl (fun _=>rfl) (fun _ h=>h.elim) (fun _ _ h=>h) (by intro c hc;simp at hc;(try subst hc);(try simp only);omega) (by intro c c' h1 h2 _;simp at h1 h2;omega) (fun R b1=>⟨fun _=>rfl,fun _=>rfl,fun _=>rfl,trivial⟩) (fun _ _ _ _=>rfl) dH EE.out ?zM ?yX;case zM =>
  refine⟨?_,?_,aH,trivial⟩
  ·refine cj fun R s w' aw hs hw ha=>?_
   unfold z21;go_simp
  ·refine il (c:=0) (Ty:=?w4) (p:=?xL) (x:=?xZ) (g0+1) ?n6 ?v7 ?kj ?iQ ?om ?j8 ?oi ?jn ?uW ?n5 ?_;case iQ=>exact rfl
   case om=>exact rfl
   case n6=>exact(fun R=>(.cells z21 31 (0,0)))
   case v7=>exact(fun R=>.pointer (some ⟨g0+1,0,none⟩))
   case kj=>exact(fun R=>.agg z21)
   case j8=>exact(fun R=>rfl)
   case oi=>exact rfl
   case jn=>exact cu rfl
   case uW =>
    intro R;kernel_rfl
   case n5 =>
    intro R;kernel_rfl
   intro R s ρ w aw hs hp hx hz;refine⟨lI (g:=(g0+1)) rfl hp hx (hz.trans aJ) ei (rfl) (rfl) (iV),fun aT hF=>dM aw hF n2⟩
 case yX =>
  intro cY R G cg ae;have hS:=ae.same;have aZ:=ae.holds;have bf:=EE.out.size;replace ag:=ag.aY hS (fun h=>h) (by intro c hc;simp at hc;(try subst hc);(try simp only);omega);replace aJ:aG cg (g0+1) 31 z21:=ae.ep 1 (List.mem_range.2 (show 1<3 by decide)) 0 rfl;replace EE:=hide (show Ext _ _ from aZ);clear hS bf aZ ae cP dT;generalize hF:bB _ _ _ _ _ _ _=bH;have bI:bH={ tmps:=#[.agg B,.int .i64 v,.int .i64 b_,.int .u64 (dt:Int),(yj g0 0:C),r,r,r,(yj (g0+1) 0:C),.bool false,r,r,r,r,r,r,r,r,r,r,.agg B,.bool false,.bool true,.bool true,r,r,.bool true,.bool true,r,r,.bool true,.bool true,r,r,.bool true,.agg z21,r,r,r,r,r,r,r,r,r,r,r,r,r,r,r,r,r,r,r,r,r,r,r,r,r,r,r,r,r,r,r,r,r,r,r,r,r,r],defers:=[] }:=by subst hF;kernel_rfl
  clear hF;subst bI;go_wp2_with fail
  exact B7 (kg (p:=8) (u:=9) (ty:=31) rfl _ _ _ 31 z21 _ rfl aJ fV rfl rfl) rfl ⟨by kernel_rfl,EE.out⟩
theorem ajl(B:Array C)(v b_:Int)(dt:Nat)(W:F)(jB:B.size=5)(rK:B.all (·.oneCell')=true)(bQ:Hid (∀ w,I E 109 #[.agg B] w (aP (.bool true) w)))(he:b_<0) :
 I E 94 #[.agg B,.int .i64 v,.int .i64 b_,.int .u64 (dt:Int)] W (aP (.tuple #[.agg z21,false]) W):=by
 have d1:decide (b_<0)=true:=decide_eq_true he;have ag:=(aG.new W 27 B).alloc (.cells z21 31);have aJ:=aG.new (W.alloc (.cells B 27)) 31 z21;rw[iY] at aJ;have EE:=hide ((aA W (.cells B 27)).trans (aA _ (.cells z21 31)));obtain⟨bG,bD⟩:=aM (((W.alloc (.cells B 27)).alloc (.cells z21 31)));obtain⟨g0,af⟩:∃ g,W.heap.size=g:=⟨_,rfl⟩;rw[bD] at ag aJ EE;rw[af] at ag aJ;have lj:W.heap.size<=g0:=by omega
 have n2:W.heap.size<=g0+1:=by omega
 have aB:=hide bD;have bW:=hide af;clear bD af;go_enter Tryz.func94,Tryz.ntmps94
 go_upto_region 1 with fail
 unfold z21 at aB;rw[aB.out,bW.out];clear aB bW;refine eK ?_;repeat (first|go_big_quiet_step (first|with_reducible exact dK (bQ.out _))|(refine iE (by kernel_rfl) rfl rfl (fun w hw=>by obtain⟨⟨d,os⟩,rfl⟩:=hw;exact dF ((ag).ext (aX bG d os)) hU rfl eT jB) ?_)|quiet_step (first|with_reducible exact dK (bQ.out _)))
 refine B' ?_;intro _ bj;obtain⟨⟨aQ,osq⟩,cq⟩:=bj;subst cq;replace ag:=(ag).ext (aX bG aQ osq);replace aJ:=(aJ).ext (aX bG aQ osq);replace EE:=hide (EE.out.trans (aX bG aQ osq));obtain⟨bp,eF⟩:∃ w,grow (aw5 bG aQ) osq=w:=⟨_,rfl⟩;rw[eF] at EE ag aJ |-;clear eF;go_upto_region 2 with fail
 have cP:=ag.lt;have dT:=aJ.lt;refine eB [.q,.so 0,.q] [0,0,0] (fun R=>[.agg z21,r,.bool false]) (fun _=>(.cells #[] 0 (0,0))) (fun R _=>(.cells z21 31 (0,0))) (fun _=>g0+1) (dA W) (fun _=>False) (by kernel_rfl) (by kernel_rfl) (by kernel_rfl) rfl (fun _=>rfl) (fun _ h=>h.elim) (fun _ _ h=>h) (by intro c hc;simp at hc;(try subst hc);(try simp only);omega) (by intro c c' h1 h2 _;simp at h1 h2;omega) (fun R b1=>⟨fun _=>rfl,fun _=>rfl,fun _=>rfl,trivial⟩) (fun _ _ _ _=>rfl) dH EE.out ?zM ?yX;case zM =>
  refine⟨?_,?_,aH,trivial⟩
  ·refine cj fun R s w' aw hs hw ha=>?_
   unfold z21;go_simp
  ·refine il (c:=0) (Ty:=?w4) (p:=?xL) (x:=?xZ) (g0+1) ?n6 ?v7 ?kj ?iQ ?om ?j8 ?oi ?jn ?uW ?n5 ?_;case iQ=>exact rfl
   case om=>exact rfl
   case n6=>exact(fun R=>(.cells z21 31 (0,0)))
   case v7=>exact(fun R=>.pointer (some ⟨g0+1,0,none⟩))
   case kj=>exact(fun R=>.agg z21)
   case j8=>exact(fun R=>rfl)
   case oi=>exact rfl
   case jn=>exact cu rfl
   case uW =>
    intro R;kernel_rfl
   case n5 =>
    intro R;kernel_rfl
   intro R s ρ w aw hs hp hx hz;refine⟨lI (g:=(g0+1)) rfl hp hx (hz.trans aJ) ei (rfl) (rfl) (iV),fun aT hF=>dM aw hF n2⟩
 case yX =>
  intro cY R G cg ae;have hS:=ae.same;have aZ:=ae.holds;have bf:=EE.out.size;replace ag:=ag.aY hS (fun h=>h) (by intro c hc;simp at hc;(try subst hc);(try simp only);omega);replace aJ:aG cg (g0+1) 31 z21:=ae.ep 1 (List.mem_range.2 (show 1<3 by decide)) 0 rfl;replace EE:=hide (show Ext _ _ from aZ);clear hS bf aZ ae cP dT;generalize hF:bB _ _ _ _ _ _ _=bH;have bI:bH={ tmps:=#[.agg B,.int .i64 v,.int .i64 b_,.int .u64 (dt:Int),(yj g0 0:C),r,r,r,(yj (g0+1) 0:C),.bool false,r,r,r,r,r,r,r,r,r,r,.agg B,.bool true,.bool false,.bool false,.int .i64 b_,.bool true,.bool true,.bool true,r,r,.bool true,.bool true,r,r,.bool true,.agg z21,r,r,r,r,r,r,r,r,r,r,r,r,r,r,r,r,r,r,r,r,r,r,r,r,r,r,r,r,r,r,r,r,r,r,r,r,r,r],defers:=[] }:=by subst hF;kernel_rfl
  clear hF;subst bI;go_wp2_with fail
  exact B7 (kg (p:=8) (u:=9) (ty:=31) rfl _ _ _ 31 z21 _ rfl aJ fV rfl rfl) rfl ⟨by kernel_rfl,EE.out⟩
theorem ajm(B:Array C)(v b_:Int)(dt:Nat)(W:F)(jB:B.size=5)(rK:B.all (·.oneCell')=true)(bQ:Hid (∀ w,I E 109 #[.agg B] w (aP (.bool true) w)))(he:4611686018427387904<b_) :
 I E 94 #[.agg B,.int .i64 v,.int .i64 b_,.int .u64 (dt:Int)] W (aP (.tuple #[.agg z21,false]) W):=by
 have d1:decide (b_<0)=false:=decide_eq_false (by omega);have d2:decide (4611686018427387904<b_)=true:=decide_eq_true he;have ag:=(aG.new W 27 B).alloc (.cells z21 31);have aJ:=aG.new (W.alloc (.cells B 27)) 31 z21;rw[iY] at aJ;have EE:=hide ((aA W (.cells B 27)).trans (aA _ (.cells z21 31)));obtain⟨bG,bD⟩:=aM (((W.alloc (.cells B 27)).alloc (.cells z21 31)));obtain⟨g0,af⟩:∃ g,W.heap.size=g:=⟨_,rfl⟩;rw[bD] at ag aJ EE;rw[af] at ag aJ;have lj:W.heap.size<=g0:=by omega
 have n2:W.heap.size<=g0+1:=by omega
 have aB:=hide bD;have bW:=hide af;clear bD af;go_enter Tryz.func94,Tryz.ntmps94
 go_upto_region 1 with fail
 unfold z21 at aB;rw[aB.out,bW.out];clear aB bW;refine eK ?_;repeat (first|go_big_quiet_step (first|with_reducible exact dK (bQ.out _))|(refine iE (by kernel_rfl) rfl rfl (fun w hw=>by obtain⟨⟨d,os⟩,rfl⟩:=hw;exact dF ((ag).ext (aX bG d os)) hU rfl eT jB) ?_)|quiet_step (first|with_reducible exact dK (bQ.out _)))
 refine B' ?_;intro _ bj;obtain⟨⟨aQ,osq⟩,cq⟩:=bj;subst cq;replace ag:=(ag).ext (aX bG aQ osq);replace aJ:=(aJ).ext (aX bG aQ osq);replace EE:=hide (EE.out.trans (aX bG aQ osq));obtain⟨bp,eF⟩:∃ w,grow (aw5 bG aQ) osq=w:=⟨_,rfl⟩;rw[eF] at EE ag aJ |-;clear eF;go_upto_region 2 with fail
 have cP:=ag.lt;have dT:=aJ.lt;refine eB [.q,.so 0,.q] [0,0,0] (fun R=>[.agg z21,r,.bool false]) (fun _=>(.cells #[] 0 (0,0))) (fun R _=>(.cells z21 31 (0,0))) (fun _=>g0+1) (dA W) (fun _=>False) (by kernel_rfl) (by kernel_rfl) (by kernel_rfl) rfl (fun _=>rfl) (fun _ h=>h.elim) (fun _ _ h=>h) (by intro c hc;simp at hc;(try subst hc);(try simp only);omega) (by intro c c' h1 h2 _;simp at h1 h2;omega) (fun R b1=>⟨fun _=>rfl,fun _=>rfl,fun _=>rfl,trivial⟩) (fun _ _ _ _=>rfl) dH EE.out ?zM ?yX;case zM =>
  refine⟨?_,?_,aH,trivial⟩
  ·refine cj fun R s w' aw hs hw ha=>?_
   unfold z21;go_simp
  ·refine il (c:=0) (Ty:=?w4) (p:=?xL) (x:=?xZ) (g0+1) ?n6 ?v7 ?kj ?iQ ?om ?j8 ?oi ?jn ?uW ?n5 ?_;case iQ=>exact rfl
   case om=>exact rfl
   case n6=>exact(fun R=>(.cells z21 31 (0,0)))
   case v7=>exact(fun R=>.pointer (some ⟨g0+1,0,none⟩))
   case kj=>exact(fun R=>.agg z21)
   case j8=>exact(fun R=>rfl)
   case oi=>exact rfl
   case jn=>exact cu rfl
   case uW =>
    intro R;kernel_rfl
   case n5 =>
    intro R;kernel_rfl
   intro R s ρ w aw hs hp hx hz;refine⟨lI (g:=(g0+1)) rfl hp hx (hz.trans aJ) ei (rfl) (rfl) (iV),fun aT hF=>dM aw hF n2⟩
 case yX =>
  intro cY R G cg ae;have hS:=ae.same;have aZ:=ae.holds;have bf:=EE.out.size;replace ag:=ag.aY hS (fun h=>h) (by intro c hc;simp at hc;(try subst hc);(try simp only);omega);replace aJ:aG cg (g0+1) 31 z21:=ae.ep 1 (List.mem_range.2 (show 1<3 by decide)) 0 rfl;replace EE:=hide (show Ext _ _ from aZ);clear hS bf aZ ae cP dT;generalize hF:bB _ _ _ _ _ _ _=bH;have bI:bH={ tmps:=#[.agg B,.int .i64 v,.int .i64 b_,.int .u64 (dt:Int),(yj g0 0:C),r,r,r,(yj (g0+1) 0:C),.bool false,r,r,r,r,r,r,r,r,r,r,.agg B,.bool true,.bool false,.bool false,.int .i64 b_,.bool false,.bool false,.bool false,.int .i64 b_,.bool true,.bool true,.bool true,r,r,.bool true,.agg z21,r,r,r,r,r,r,r,r,r,r,r,r,r,r,r,r,r,r,r,r,r,r,r,r,r,r,r,r,r,r,r,r,r,r,r,r,r,r],defers:=[] }:=by subst hF;kernel_rfl
  clear hF;subst bI;go_wp2_with fail
  exact B7 (kg (p:=8) (u:=9) (ty:=31) rfl _ _ _ 31 z21 _ rfl aJ fV rfl rfl) rfl ⟨by kernel_rfl,EE.out⟩
theorem ajn(B:Array C)(v b_:Int)(dt:Nat)(W:F)(jB:B.size=5)(rK:B.all (·.oneCell')=true)(bQ:Hid (∀ w,I E 109 #[.agg B] w (aP (.bool true) w)))(he:0<=b_)(ze:b_<=4611686018427387904) :
 I E 94 #[.agg B,.int .i64 v,.int .i64 b_,.int .u64 0] W (aP (.tuple #[.agg z21,false]) W):=by
 have d1:decide (b_<0)=false:=decide_eq_false (by omega);have d2:decide (4611686018427387904<b_)=false:=decide_eq_false (by omega);have ag:=(aG.new W 27 B).alloc (.cells z21 31);have aJ:=aG.new (W.alloc (.cells B 27)) 31 z21;rw[iY] at aJ;have EE:=hide ((aA W (.cells B 27)).trans (aA _ (.cells z21 31)));obtain⟨bG,bD⟩:=aM (((W.alloc (.cells B 27)).alloc (.cells z21 31)));obtain⟨g0,af⟩:∃ g,W.heap.size=g:=⟨_,rfl⟩;rw[bD] at ag aJ EE;rw[af] at ag aJ;have lj:W.heap.size<=g0:=by omega
 have n2:W.heap.size<=g0+1:=by omega
 have aB:=hide bD;have bW:=hide af;clear bD af;go_enter Tryz.func94,Tryz.ntmps94
 go_upto_region 1 with fail
 unfold z21 at aB;rw[aB.out,bW.out];clear aB bW;refine eK ?_;repeat (first|go_big_quiet_step (first|with_reducible exact dK (bQ.out _))|(refine iE (by kernel_rfl) rfl rfl (fun w hw=>by obtain⟨⟨d,os⟩,rfl⟩:=hw;exact dF ((ag).ext (aX bG d os)) hU rfl eT jB) ?_)|quiet_step (first|with_reducible exact dK (bQ.out _)))
 refine B' ?_;intro _ bj;obtain⟨⟨aQ,osq⟩,cq⟩:=bj;subst cq;replace ag:=(ag).ext (aX bG aQ osq);replace aJ:=(aJ).ext (aX bG aQ osq);replace EE:=hide (EE.out.trans (aX bG aQ osq));obtain⟨bp,eF⟩:∃ w,grow (aw5 bG aQ) osq=w:=⟨_,rfl⟩;rw[eF] at EE ag aJ |-;clear eF;go_upto_region 2 with fail
 have cP:=ag.lt;have dT:=aJ.lt;refine eB [.q,.so 0,.q] [0,0,0] (fun R=>[.agg z21,r,.bool false]) (fun _=>(.cells #[] 0 (0,0))) (fun R _=>(.cells z21 31 (0,0))) (fun _=>g0+1) (dA W) (fun _=>False) (by kernel_rfl) (by kernel_rfl) (by kernel_rfl) rfl (fun _=>rfl) (fun _ h=>h.elim) (fun _ _ h=>h) (by intro c hc;simp at hc;(try subst hc);(try simp only);omega) (by intro c c' h1 h2 _;simp at h1 h2;omega) (fun R b1=>⟨fun _=>rfl,fun _=>rfl,fun _=>rfl,trivial⟩) (fun _ _ _ _=>rfl) dH EE.out ?zM ?yX;case zM =>
  refine⟨?_,?_,aH,trivial⟩
  ·refine cj fun R s w' aw hs hw ha=>?_
   unfold z21;go_simp
  ·refine il (c:=0) (Ty:=?w4) (p:=?xL) (x:=?xZ) (g0+1) ?n6 ?v7 ?kj ?iQ ?om ?j8 ?oi ?jn ?uW ?n5 ?_;case iQ=>exact rfl
   case om=>exact rfl
   case n6=>exact(fun R=>(.cells z21 31 (0,0)))
   case v7=>exact(fun R=>.pointer (some ⟨g0+1,0,none⟩))
   case kj=>exact(fun R=>.agg z21)
   case j8=>exact(fun R=>rfl)
   case oi=>exact rfl
   case jn=>exact cu rfl
   case uW =>
    intro R;kernel_rfl
   case n5 =>
    intro R;kernel_rfl
   intro R s ρ w aw hs hp hx hz;refine⟨lI (g:=(g0+1)) rfl hp hx (hz.trans aJ) ei (rfl) (rfl) (iV),fun aT hF=>dM aw hF n2⟩
 case yX =>
  intro cY R G cg ae;have hS:=ae.same;have aZ:=ae.holds;have bf:=EE.out.size;replace ag:=ag.aY hS (fun h=>h) (by intro c hc;simp at hc;(try subst hc);(try simp only);omega);replace aJ:aG cg (g0+1) 31 z21:=ae.ep 1 (List.mem_range.2 (show 1<3 by decide)) 0 rfl;replace EE:=hide (show Ext _ _ from aZ);clear hS bf aZ ae cP dT;generalize hF:bB _ _ _ _ _ _ _=bH;have bI:bH={ tmps:=#[.agg B,.int .i64 v,.int .i64 b_,.int .u64 0,(yj g0 0:C),r,r,r,(yj (g0+1) 0:C),.bool false,r,r,r,r,r,r,r,r,r,r,.agg B,.bool true,.bool false,.bool false,.int .i64 b_,.bool false,.bool false,.bool false,.int .i64 b_,.bool false,.bool false,.bool false,.int .u64 0,.bool true,.bool true,.agg z21,r,r,r,r,r,r,r,r,r,r,r,r,r,r,r,r,r,r,r,r,r,r,r,r,r,r,r,r,r,r,r,r,r,r,r,r,r,r],defers:=[] }:=by subst hF;kernel_rfl
  clear hF;subst bI;go_wp2_with fail
  exact B7 (kg (p:=8) (u:=9) (ty:=31) rfl _ _ _ 31 z21 _ rfl aJ fV rfl rfl) rfl ⟨by kernel_rfl,EE.out⟩
end
section
open Go Go.RowKit Go.Sort
theorem RB{x y z:Int}(hx:b4 x)(hy:b4 y)(e:x-y=z)(hz:b4 z)(w:F):I E 110 #[x,y] w (aP (.tuple #[z,.bool true]) w):=
 (aje _ _ _ _ _ _ _ _ _ _ x y w (e0 hx).1 (e0 hy).1).mono fun _ _ h=>BS (by rw[e] at h;exact h) hz
theorem Ub{n d:Int}(hn:b4 n)(hd:b4 d)(h0:d≠0)(h:okF (pG n d))(w:F):I E 105 #[.agg (dC n),.agg (dC d)] w (aP (.tuple #[.agg (cJ (pG n d)),true]) w):=abV hn hd h0 (Vv h) rfl rfl w
theorem ai_:I_ 94:=fun base v eps dt hb v1 v2 bk e2 hd w=>by
 have eM:∀ w,I E 109 #[.agg (dC base)] w (aP (.bool (decide (base.natAbs<73786976294838206464))) w):=fun w=>aiO (e0 hb).1 true (fun w=>Zd hb w) w
 by_cases g1:base.natAbs<73786976294838206464
 ·rw[decide_eq_true g1] at eM;by_cases ge:0<=eps
  ·by_cases Df:eps<=4611686018427387904
   ·by_cases g3:0<dt
    ·have af:pV base eps dt:=⟨g1,ge,Df,g3⟩;have zk:=OJ (base:=base) (v:=v) (eps:=eps) (dt:=(dt:Int)) g1 v1 v2 ge Df (by omega) (by omega);have aF:b4 v:=by unfold b4;omega
     have he:b4 eps:=by unfold b4;omega
     have aO:b4 (v-base):=by unfold b4;omega
     have Bm:b4 (v-base-eps):=by unfold b4;omega
     have xm:b4 (v-base+eps):=by unfold b4;omega
     have qD:b4 (dt:Int):=by unfold b4;omega
     rw[show rR base v eps dt=e4 (B1 base v eps dt) from if_pos af,decide_eq_true af];exact ajj (dC base) (dC v) (dC (v-base)) (dC eps) (dC (v-base-eps)) (dC (v-base+eps)) (dC (dt:Int)) (cJ (pG (v-base-eps) dt)) (cJ (pG (v-base+eps) dt)) v eps dt true true true true true w rfl (nF _) rfl (nF _) rfl (nF _) rfl (nF _) (gP _) (gP _) ge Df g3 hd
      (hide eM) (hide (fun w=>CM v1 v2 w)) (hide (fun w=>RB aF hb rfl aO w)) (hide (fun w=>CM bk e2 w)) (hide (fun w=>RB aO he rfl Bm w)) (hide (fun w=>JG aO he rfl xm w)) (hide (fun w=>Zc hd w)) (hide (fun w=>Ub Bm qD (by omega) zk.1 w)) (hide (fun w=>Ub xm qD (by omega) zk.2.1 w))
    ·have af:¬ pV base eps dt:=fun h=>g3 h.2.2.2
     rw[show rR base v eps dt=z21 from if_neg af,decide_eq_false af];obtain rfl:dt=0:=by omega
     exact ajn (dC base) v eps 0 w rfl (nF _) (hide eM) ge Df
   ·have af:¬ pV base eps dt:=fun h=>Df h.2.2.1
    rw[show rR base v eps dt=z21 from if_neg af,decide_eq_false af];exact ajm (dC base) v eps dt w rfl (nF _) (hide eM) (by omega)
  ·have af:¬ pV base eps dt:=fun h=>ge h.2.1
   rw[show rR base v eps dt=z21 from if_neg af,decide_eq_false af];exact ajl (dC base) v eps dt w rfl (nF _) (hide eM) (by omega)
 ·have af:¬ pV base eps dt:=fun h=>g1 h.1
  rw[decide_eq_false g1] at eM;rw[show rR base v eps dt=z21 from if_neg af,decide_eq_false af];exact ajk (dC base) v eps dt w rfl (nF _) (hide eM)
end
section
open Go Go.RowKit
theorem agE{α:Type}(l:List α)(pr:α->Int)(d:α){j:Nat}(h:j<l.length):(l.take (j+1)).map pr=(l.take j).map pr++[pr (l.getD j d)]:=by
 rw[List.take_succ_eq_append_getElem h,List.map_append];simp[List.getD_eq_getElem?_getD,h]
theorem aiP(f:Nat)(pr:Int × Int->Int)(S6:∀ x y,de x->de y->de (pr (x,y)))(cQ:∀ x y w,de x->de y->I E f #[.agg #[.int .i64 x,.int .i64 y]] w (aP (.int .i64 (pr (x,y))) w))(apt:∀ a w,(callFunc f a).run E w=.ok (.enter f a) w)
 (A:Option aw6) (n c:Nat) (l:List (Int × Int)) (W:F) (hl:fK W A l) (hn:l.length=n) (fT:n<=8796093022000) :
 I E 92 #[.slice A n c,.func (.func f) #[] #[]] W (Q0 (l.map pr) W):=by
 have Ci:=hide hl.1;have AH:=hide hl;have r0:=hide hn;have dL:=hide S6;have kI:=hide cQ;have zi:=aks n n (Nat.le_refl _) (by omega);rw[show List.replicate n 0=rS [] n from rfl] at zi;have bS:=hide (aA W (.cells (hT (rS [] n)).toArray 2));have au:=hide (aG.new W 2 (hT (rS [] n)).toArray);obtain⟨b,hb⟩:=aM W.heap.size;have fO:=hide hb;clear hl hn S6 cQ;go_enter Tryz.func92,Tryz.ntmps92
 go_wp2_with fail
 obtain⟨aT,gE⟩:=aM (W.alloc (.cells (hT (rS [] n)).toArray 2));rw[gE] at bS au |-;rw[hb] at au;have au:Hid (aG aT b 2 (hT (rS ((l.take 0).map pr) (n-0))).toArray):=au;clear gE zi hb;go_loopw [6,7,13] (fun _ _ iv wr=>∃ j:Nat,j<=n/\iv=.int .i64 (j:Int)/\Hid (aG wr b 2 (hT (rS ((l.take j).map pr) (n-j))).toArray)/\Hid (Ext W wr)) (fun _ _ iv _=>n-(intOf iv).toNat)
 case atStart=>exact⟨0,by omega,rfl,au,bS⟩
 case round =>
  clear au bS;obtain⟨j,aN,rfl,dx,dc⟩:=hrel;by_cases cl:j<n
  ·have d0:decide ((j:Int)<(n:Int))=true:=decide_eq_true (by omega);have k3:j<l.length:=by rw[r0.out];exact cl
   obtain⟨j3,lG,rfl,_,hc⟩:=(AH.out.ext dc.out).2.2 (by omega);have nQ:=(hc j k3).1;have jL:=(hc j k3).2;rw[<-Nat.add_assoc] at jL;have Bx:=fun w=>G8 j3 lG n c j cl w
   have ap4:=fun w=>afc b n n j cl w
   have aN:=Ci.out.get j;have zn:=agE l pr (0,0) k3;obtain⟨pt,L9⟩:∃ z,(l.getD j (0,0)).1=z:=⟨_,rfl⟩;obtain⟨nB,L_⟩:∃ z,(l.getD j (0,0)).2=z:=⟨_,rfl⟩;have S5:l.getD j (0,0)=(pt,nB):=by rw[<-L9,<-L_]
   rw[S5] at zn;rw[L9] at nQ aN;rw[L_] at jL aN;have iI:=hide (fun w=>kI.out pt nB w aN.1 aN.2);obtain⟨q,aO⟩:=aM (pr (pt,nB));rw[aO] at iI zn;have zg:((l.take j).map pr).length=j:=by rw[List.length_map,List.length_take];omega
   have SY:n-j=(n-(j+1))+1:=by omega
   obtain⟨T,aw⟩:=aM ((l.take j).map pr);rw[aw] at dx zn zg;rw[SY] at dx;have WY:=hide (fun q=>alw T (n-(j+1)) q j zg);have Xk:=hide zn;have Gl:=dx.out.cell j;rw[alv T (n-(j+1)) j zg] at Gl;have fx:=dx.out.frozen j;have RK:=((aA wr (.cells #[.int .i64 pt,.int .i64 nB] 23)).cell (p:=⟨b,j,none⟩) dx.out.lt).trans Gl;have aR:=hide (dx.out.alloc (.cells #[.int .i64 pt,.int .i64 nB] 23));have da:=hide (Ext.trans dc.out (aA wr (.cells #[.int .i64 pt,.int .i64 nB] 23)));clear hc k3 L9 L_ S5 aw zn SY zg dx dc;go_wp2_with fail
   (with_reducible refine(iI.out _).mono ?_)
   rintro e w3 ⟨rfl,qA⟩;have aoZ:=(qA.cell (p:=⟨b,j,none⟩) aR.out.lt).trans RK;have dZ:=aR.out.ext qA;have GD:=dZ.frozen j;have pN:=dZ.VR j (.int .i64 q);rw[WY.out q,<-Xk.out] at pN;have pN:=hide pN;have iF:=hide (Below.setCell (Ext.trans da.out qA) (p:=⟨b,j,none⟩) (by rw[<-fO.out];exact Nat.le_refl _) (.int .i64 q));clear aR dZ da qA Gl RK fx;go_wp2_with fail
   go_roundw
   case rel=>exact⟨j+1,by omega,by go_num,pN,iF⟩
   case measure=>simp[intOf];omega
  ·obtain rfl:j=n:=by omega
   have d0:decide ((j:Int)<(j:Int))=false:=decide_eq_false (by omega);have bF:=dx.out;rw[List.take_of_length_le (by rw[r0.out];omega),show j-j=0 by omega] at bF;have bF:=hide bF;go_wp2_with fail
   go_ret;have adD:aG wr b 2 (hT (List.map pr l++[])).toArray:=by have:=bF.out;simpa [rS] using this
   have eD:=aie (cap:=j) (m:=[]) (Nat.le_refl b) adD (by rw[List.length_map];exact r0.out) rfl (by omega) (fun x hx=>by
    obtain⟨y,hy,rfl⟩:=List.mem_map.1 hx;exact dL.out _ _ (Ci.out y hy).1 (Ci.out y hy).2)
   obtain⟨cU,az,bk,_,_,hs⟩:=eD.at_;exact⟨cU,az,by rw[<-bk];rfl,hs,dc.out⟩
theorem ai'(x y:Int)(w:F):I E 93 #[.agg #[.int .i64 x,.int .i64 y]] w (aP (.int .i64 x) w):=by
 go_enter Tryz.func93,Tryz.ntmps93
 go_wp2_with fail
 go_ret;exact⟨rfl,aA _ _⟩
theorem aja(A:Option aw6)(n c:Nat)(l:List (Int × Int))(W:F)(hl:fK W A l)(hn:l.length=n)(fT:n<=8796093022000) :
 I E 78 #[.slice A n c] W (Q0 (l.map Prod.fst) W):=by
 have K:=hide (aiP 93 Prod.fst (fun x y h _=>h) (fun x y w _ _=>ai' x y w) (fun a w=>by go_simp) A n c l W hl hn fT);clear hl hn;go_enter Tryz.func78,Tryz.ntmps78
 go_wp2_with (go_at_call 92;(with_reducible refine(K.out).mono ?_);rintro e aT ⟨cU,az,rfl,h1,ad⟩)
 go_ret;exact⟨cU,az,by rw[List.length_map];rfl,h1,ad⟩
theorem NU(A:Option aw6)(n c:Nat)(l:List (Int × Int))(W:F)(hl:fK W A l)(hn:l.length=n)(fT:n<=8796093022000)(v:Nat)(aF:lV l=v) :
 I E 47 #[.slice A n c] W (aP (.int .i64 (v:Int)) W):=by
 have wF:Hid (I E 78 #[.slice A n c] W fun e w'=>∃ cU az,e=.returned (.slice cU n az)/\hE w' cU (l.map Prod.fst)/\Ext W w'):=hide ((aja A n c l W hl hn fT).mono fun e w' h=>by
  obtain⟨cU,az,rfl,hw,ad⟩:=h;exact⟨cU,az,by rw[List.length_map,hn],hw,ad⟩)
 have pQ:Hid (∀ cU az w,hE w cU (l.map Prod.fst)->I E 77 #[.slice cU n az] w (aP (.bool (jx (l.map Prod.fst))) w)):=hide (fun cU az w h=>ai4 cU n az (l.map Prod.fst) w h (by rw[List.length_map];exact hn) _ rfl);unfold lV at aF;obtain⟨i,hi⟩:=aM (jx (l.map Prod.fst));rw[hi] at aF pQ;clear hl hn hi;cases i with
 | true =>
  rw[if_pos rfl] at aF;subst aF;go_enter Tryz.func47,Tryz.ntmps47
  go_wp2_with (first
   | (go_at_call 78;(with_reducible refine(wF.out).mono ?_);rintro e aT ⟨cU,az,rfl,h1,sE⟩;have eC:=hide (pQ.out cU az aT h1);have bS:=hide sE;clear h1 sE)
   | (go_at_call 77;(with_reducible refine(eC.out).mono ?_);rintro e bp ⟨rfl,gj⟩))
  go_ret;exact⟨rfl,bS.out.trans gj⟩
 | false =>
  rw[if_neg (by simp)] at aF;subst aF;go_enter Tryz.func47,Tryz.ntmps47
  go_wp2_with (first
   | (go_at_call 78;(with_reducible refine(wF.out).mono ?_);rintro e aT ⟨cU,az,rfl,h1,sE⟩;have eC:=hide (pQ.out cU az aT h1);have bS:=hide sE;clear h1 sE)
   | (go_at_call 77;(with_reducible refine(eC.out).mono ?_);rintro e bp ⟨rfl,gj⟩))
  go_ret;exact⟨rfl,bS.out.trans gj⟩
end
section
open Go Go.RowKit
attribute [local go_sem] mg A3 bB BX
theorem BN{a:Act}{o:aw4}{w:F}{ty:aw7}{x i:axb}{u j v:C}(aL:o.op=.indexAddr ty x i)(hx:a.eval x=u)(hi:a.eval i=j)(aD:(Instr.indexAt ty u j).run E w=.ok v w):mg E w v ((axc a.eval o).run E w):=by
 unfold axc;simp only[aL,hx,hi,Sem.run_bind,aD,Result.andThen_ok,Sem.run_pure];exact⟨rfl,rfl⟩
end
end Go.Proofs.YtojbopibfflnoaaGreat
