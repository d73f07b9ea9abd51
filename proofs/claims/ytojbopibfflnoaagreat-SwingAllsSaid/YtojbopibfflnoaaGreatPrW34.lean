/- Contracts and plain facts; each states its conditions. -/
import Derived.Test.YtojbopibfflnoaaGreatPrW6
import Derived.Test.YtojbopibfflnoaaGreatPrW27
import Derived.Test.YtojbopibfflnoaaGreatPrW29
namespace Go.Proofs.YtojbopibfflnoaaGreat
set_option linter.unusedVariables false
set_option linter.unusedSimpArgs false
set_option maxHeartbeats 16000000
section
open Go Go.RowKit Go.Sort
attribute [local go_sem] mg A3 bB BX
set_option maxRecDepth 100000 in
theorem ajj (B V D iG Lo er U L H:Array Value) (v b_:Int) (dt:Nat) (b7 cr cR p1 p2:Bool) (W:World) (jB:B.size=5) (rK:B.all (·.oneCell')=true)
 (zU:D.size=5) (rL:D.all (·.oneCell')=true) (EX:Lo.size=5) (Nt:Lo.all (·.oneCell')=true) (EW:er.size=5) (Ns:er.all (·.oneCell')=true) (zQ:RC L) (zP:RC H) (he:0≤b_) (ze:b_≤4611686018427387904) (Ly:0<dt) (ad1:dt<18446744073709551616)
 (bQ:Hid (∀ w,Calls Tryz.prog 109 #[.agg B] w (aP (.bool true) w)))
 (ev:Hid (∀ w,Calls Tryz.prog 95 #[.int .i64 v] w (aP (.agg V) w))) (vM:Hid (∀ w,Calls Tryz.prog 110 #[.agg V,.agg B] w (aP (.tuple #[.agg D,.bool b7]) w)))
 (Bz:Hid (∀ w,Calls Tryz.prog 95 #[.int .i64 b_] w (aP (.agg iG) w))) (Mv:Hid (∀ w,Calls Tryz.prog 110 #[.agg D,.agg iG] w (aP (.tuple #[.agg Lo,.bool cr]) w))) (rH:Hid (∀ w,Calls Tryz.prog 111 #[.agg D,.agg iG] w (aP (.tuple #[.agg er,.bool cR]) w)))
 (zq:Hid (∀ w,Calls Tryz.prog 112 #[.int .u64 (dt:Int)] w (aP (.agg U) w))) (Mt:Hid (∀ w,Calls Tryz.prog 105 #[.agg Lo,.agg U] w (aP (.tuple #[.agg L,.bool p1]) w))) (Mu:Hid (∀ w,Calls Tryz.prog 105 #[.agg er,.agg U] w (aP (.tuple #[.agg H,.bool p2]) w))) :
 Calls Tryz.prog 94 #[.agg B,.int .i64 v,.int .i64 b_,.int .u64 (dt:Int)] W (aP (.tuple #[.agg (bT false L H),true]) W):=by
 have d1:decide (b_<0)=false:=decide_eq_false (by omega);have d2:decide (4611686018427387904<b_)=false:=decide_eq_false (by omega);have d3:((dt:Int)==0)=false:=by rw[beq_eq_false_iff_ne];omega
 have d4:decide (dt=0)=false:=decide_eq_false (by omega);have rP:=zQ.size;have EK:=zQ.one;have td:=zP.size;have EJ:=zP.one;have nW:=lW false rP td;have s6:=su false EK EJ;clear he ze Ly;have ag:=(aG.new W 27 B).alloc (.cells z21 31);have aJ:=aG.new (W.alloc (.cells B 27)) 31 z21;rw[iY] at aJ;have EE:=hide ((aA W (.cells B 27)).trans (aA _ (.cells z21 31)));obtain⟨bG,bD⟩:=aM (((W.alloc (.cells B 27)).alloc (.cells z21 31)));obtain⟨g0,af⟩:∃ g,W.heap.size=g:=⟨_,rfl⟩;rw[bD] at ag aJ EE;rw[af] at ag aJ;have lj:W.heap.size≤g0:=by omega
 have n2:W.heap.size≤g0+1:=by omega
 have aB:=hide bD;have bW:=hide af;clear bD af;go_enter Tryz.func94,Tryz.ntmps94
 go_upto_region 1 with fail
 unfold z21 at aB;rw[aB.out,bW.out];clear aB bW;refine eK ?_;repeat (first|go_big_quiet_step (first|with_reducible exact dK (bQ.out _))|(refine iE (by kernel_rfl) rfl rfl (fun w hw=>by obtain⟨⟨d,os⟩,rfl⟩:=hw;exact dF ((ag).ext (aX bG d os)) hU rfl eT jB) ?_)|quiet_step (first|with_reducible exact dK (bQ.out _)))
 refine wpQuiet_nil ?_;intro _ bj;obtain⟨⟨aQ,osq⟩,cq⟩:=bj;subst cq;replace ag:=(ag).ext (aX bG aQ osq);replace aJ:=(aJ).ext (aX bG aQ osq);replace EE:=hide (EE.out.trans (aX bG aQ osq));obtain⟨bp,eF⟩:∃ w,grow (redrawn bG aQ) osq=w:=⟨_,rfl⟩;rw[eF] at EE ag aJ ⊢;clear eF;go_upto_region 3 with fail
 have cP:=ag.lt;have dT:=aJ.lt;refine kl [.q,.q,.q,.q,.q,.q,.q,.al,.st 7,.q] [0,0,0,0,0,0,0,0,0,0] (fun R=>[.int .i64 v,.agg V,.agg B,.tuple #[.agg D,.bool b7],.tuple #[.agg D,.bool b7],.agg D,.bool b7,undef,undef,.bool b7]) (fun _=>(.cells z5 27 (0,0))) (fun R _=>(.cells D 27 (0,0))) (fun _=>0) (dA W) (fun _=>False) (by kernel_rfl) (by kernel_rfl) (by kernel_rfl) (by kernel_rfl) rfl (fun _=>rfl) (fun _ h=>h.elim) (fun _ _ h=>h) (by simp) (by simp) (fun R b1=>⟨fun _=>rfl,fun _=>rfl,fun _=>rfl,fun _=>rfl,fun _=>rfl,fun _=>rfl,fun _=>rfl,fun _=>rfl,fun _=>rfl,fun _=>rfl,trivial⟩) (fun _ _ _ _=>rfl) dH (EE.out.trans (b5 _)) ?NH ?J9;case NH =>
  refine⟨aH,d_ ev,?_,d_ vM,aH,aH,aH,?_,?_,aH,trivial⟩
  ·refine cj fun R s w' aw hs hw ha=>?_
   have L:=dF (ag.aY hw (fun h=>h) (by simp)) hU rfl eT jB;generalize hA:bB _ _ _ _ _ _ _=c3;refine e7 rfl ?_ L;subst hA;kernel_rfl
  ·refine ia ?an9 ?po ?sW ?o_ ?_;case an9=>exact(.cells z5 27 (0,0))
   case po=>exact rfl
   case sW=>exact rfl
   case o_=>exact cu rfl
   intro ρ w';go_simp;exact⟨rfl,rfl⟩
  ·refine ib (j:=7) (Ty:=?F1) (p:=?Hz) (x:=?Ii) ?vb ?an_ ?qS ?oa ?vR ?qK ?vP ?n8 ?uY ?_;case oa=>exact rfl
   case vR=>exact rfl
   case vb=>exact(fun R=>(.cells D 27 (0,0)))
   case an_=>exact(.cells z5 27 (0,0))
   case qS=>exact(fun R=>.agg D)
   case qK=>exact(fun R=>rfl)
   case vP=>exact rfl
   case n8=>exact cu rfl
   case uY =>
    intro R;kernel_rfl
   intro R s ρ w g aw hs hp hx af hz;exact⟨hQ rfl hp hx hz eT (zU) (rL),fun aT hF=>dM aw hF (Nat.le_trans EE.out.size af)⟩
 case J9 =>
  intro cY R G xU ae;have hS:=ae.same;have aZ:=ae.holds;have bf:=EE.out.size;replace ag:=ag.aY hS (fun h=>h) (by simp);replace aJ:=aJ.aY hS (fun h=>h) (by simp);have bu:aG xU (G 7) 27 D:=(ae.eV 8 (List.mem_range.2 (show 8<10 by decide)) 7 rfl).2.2;have vD:=(ae.made 7 (List.mem_range.2 (show 7<10 by decide)) rfl).1;have FW:W.heap.size≤G 7:=Nat.le_trans bf vD;have Hn:g0≠G 7:=by omega
  have Ho:g0+1≠G 7:=by omega
  replace EE:=hide (show Ext _ _ from aZ);clear hS bf aZ ae cP dT;generalize hF:bB _ _ _ _ _ _ _=bH;have bI:bH={ tmps:=#[.agg B,.int .i64 v,.int .i64 b_,.int .u64 (dt:Int),.pointer (some ⟨g0,0,none⟩),undef,undef,undef,.pointer (some ⟨g0+1,0,none⟩),.bool false,.pointer (some ⟨G 7,0,none⟩),.bool b7,undef,undef,undef,undef,undef,undef,undef,undef,.agg B,.bool true,.bool false,.bool false,.int .i64 b_,.bool false,.bool false,.bool false,.int .i64 b_,.bool false,.bool false,.bool false,.int .u64 (dt:Int),.bool false,.bool false,undef,.tuple #[.agg D,.bool b7],.int .i64 v,.agg V,.agg B,.tuple #[.agg D,.bool b7],.agg D,.bool b7,undef,undef,undef,undef,undef,undef,undef,undef,undef,undef,undef,undef,undef,undef,undef,undef,undef,undef,undef,undef,undef,undef,undef,undef,undef,undef,undef,undef,undef,undef,undef],defers:=[] }:=by subst hF;kernel_rfl
  clear hF;subst bI;generalize G 7=g10 at *;go_upto_region 4 with fail
  have cP:=ag.lt;have dT:=aJ.lt;have fj:=bu.lt;refine kl [.q,.q,.q,.q,.q,.q,.q,.al,.st 7,.q] [0,0,0,0,0,0,0,0,0,0] (fun R=>[.agg D,.int .i64 b_,.agg iG,.tuple #[.agg Lo,.bool cr],.tuple #[.agg Lo,.bool cr],.agg Lo,.bool cr,undef,undef,.bool cr]) (fun _=>(.cells z5 27 (0,0))) (fun R _=>(.cells Lo 27 (0,0))) (fun _=>0) (dA W) (fun _=>False) (by kernel_rfl) (by kernel_rfl) (by kernel_rfl) (by kernel_rfl) rfl (fun _=>rfl) (fun _ h=>h.elim) (fun _ _ h=>h) (by simp) (by simp) (fun R b1=>⟨fun _=>rfl,fun _=>rfl,fun _=>rfl,fun _=>rfl,fun _=>rfl,fun _=>rfl,fun _=>rfl,fun _=>rfl,fun _=>rfl,fun _=>rfl,trivial⟩) (fun _ _ _ _=>rfl) dH (EE.out.trans (b5 _)) ?ahW ?aaJ;case ahW =>
   refine⟨?_,aH,d_ Bz,d_ Mv,aH,aH,aH,?_,?_,aH,trivial⟩
   ·refine cj fun R s w' aw hs hw ha=>?_
    have L:=dF (bu.aY hw (fun h=>h) (by simp)) hU rfl eT zU;generalize hA:bB _ _ _ _ _ _ _=c3;refine e7 rfl ?_ L;subst hA;kernel_rfl
   ·refine ia ?aob ?LV ?ME ?Kx ?_;case aob=>exact(.cells z5 27 (0,0))
    case LV=>exact rfl
    case ME=>exact rfl
    case Kx=>exact cu rfl
    intro ρ w';go_simp;exact⟨rfl,rfl⟩
   ·refine ib (j:=7) (Ty:=?aov) (p:=?ar3) (x:=?atu) ?abz ?PV ?Pg ?DZ ?ahA ?Ev ?af6 ?Dg ?aaq ?_;case DZ=>exact rfl
    case ahA=>exact rfl
    case abz=>exact(fun R=>(.cells Lo 27 (0,0)))
    case PV=>exact(.cells z5 27 (0,0))
    case Pg=>exact(fun R=>.agg Lo)
    case Ev=>exact(fun R=>rfl)
    case af6=>exact rfl
    case Dg=>exact cu rfl
    case aaq =>
     intro R;kernel_rfl
    intro R s ρ w g aw hs hp hx af hz;exact⟨hQ rfl hp hx hz eT (EX) (Nt),fun aT hF=>dM aw hF (Nat.le_trans EE.out.size af)⟩
  case aaJ =>
   intro cY R G am8 ae;have hS:=ae.same;have aZ:=ae.holds;have bf:=EE.out.size;replace ag:=ag.aY hS (fun h=>h) (by simp);replace aJ:=aJ.aY hS (fun h=>h) (by simp);replace bu:=bu.aY hS (fun h=>h) (by simp);have h_:aG am8 (G 7) 27 Lo:=(ae.eV 8 (List.mem_range.2 (show 8<10 by decide)) 7 rfl).2.2;have LN:=(ae.made 7 (List.mem_range.2 (show 7<10 by decide)) rfl).1;have Xw:W.heap.size≤G 7:=Nat.le_trans bf LN;have ag8:g0≠G 7:=by omega
   have ahj:g0+1≠G 7:=by omega
   have agQ:g10≠G 7:=by omega
   replace EE:=hide (show Ext _ _ from aZ);clear hS bf aZ ae cP dT fj;generalize hF:bB _ _ _ _ _ _ _=bH;have bI:bH={ tmps:=#[.agg B,.int .i64 v,.int .i64 b_,.int .u64 (dt:Int),.pointer (some ⟨g0,0,none⟩),undef,undef,undef,.pointer (some ⟨g0+1,0,none⟩),.bool false,.pointer (some ⟨g10,0,none⟩),.bool b7,.pointer (some ⟨G 7,0,none⟩),.bool cr,undef,undef,undef,undef,undef,undef,.agg B,.bool true,.bool false,.bool false,.int .i64 b_,.bool false,.bool false,.bool false,.int .i64 b_,.bool false,.bool false,.bool false,.int .u64 (dt:Int),.bool false,.bool false,undef,.tuple #[.agg D,.bool b7],.int .i64 v,.agg V,.agg B,.tuple #[.agg D,.bool b7],.agg D,.bool b7,.tuple #[.agg Lo,.bool cr],.agg D,.int .i64 b_,.agg iG,.tuple #[.agg Lo,.bool cr],.agg Lo,.bool cr,undef,undef,undef,undef,undef,undef,undef,undef,undef,undef,undef,undef,undef,undef,undef,undef,undef,undef,undef,undef,undef,undef,undef,undef],defers:=[] }:=by subst hF;kernel_rfl
   clear hF;subst bI;generalize G 7=g12 at *;go_upto_region 5 with fail
   have cP:=ag.lt;have dT:=aJ.lt;have fj:=bu.lt;have ni:=h_.lt;refine kl [.q,.q,.q,.q,.q,.q,.q,.al,.st 7,.q] [0,0,0,0,0,0,0,0,0,0] (fun R=>[.agg D,.int .i64 b_,.agg iG,.tuple #[.agg er,.bool cR],.tuple #[.agg er,.bool cR],.agg er,.bool cR,undef,undef,.bool cR]) (fun _=>(.cells z5 27 (0,0))) (fun R _=>(.cells er 27 (0,0))) (fun _=>0) (dA W) (fun _=>False) (by kernel_rfl) (by kernel_rfl) (by kernel_rfl) (by kernel_rfl) rfl (fun _=>rfl) (fun _ h=>h.elim) (fun _ _ h=>h) (by simp) (by simp) (fun R b1=>⟨fun _=>rfl,fun _=>rfl,fun _=>rfl,fun _=>rfl,fun _=>rfl,fun _=>rfl,fun _=>rfl,fun _=>rfl,fun _=>rfl,fun _=>rfl,trivial⟩) (fun _ _ _ _=>rfl) dH (EE.out.trans (b5 _)) ?ahZ ?aaM;case ahZ =>
    refine⟨?_,aH,d_ Bz,d_ rH,aH,aH,aH,?_,?_,aH,trivial⟩
    ·refine cj fun R s w' aw hs hw ha=>?_
     have L:=dF (bu.aY hw (fun h=>h) (by simp)) hU rfl eT zU;generalize hA:bB _ _ _ _ _ _ _=c3;refine e7 rfl ?_ L;subst hA;kernel_rfl
    ·refine ia ?aod ?aej ?afC ?ab2 ?_;case aod=>exact(.cells z5 27 (0,0))
     case aej=>exact rfl
     case afC=>exact rfl
     case ab2=>exact cu rfl
     intro ρ w';go_simp;exact⟨rfl,rfl⟩
    ·refine ib (j:=7) (Ty:=?aoy) (p:=?ar6) (x:=?atx) ?abC ?PY ?Pk ?D2 ?ahD ?Ex ?af9 ?Dj ?aat ?_;case D2=>exact rfl
     case ahD=>exact rfl
     case abC=>exact(fun R=>(.cells er 27 (0,0)))
     case PY=>exact(.cells z5 27 (0,0))
     case Pk=>exact(fun R=>.agg er)
     case Ex=>exact(fun R=>rfl)
     case af9=>exact rfl
     case Dj=>exact cu rfl
     case aat =>
      intro R;kernel_rfl
     intro R s ρ w g aw hs hp hx af hz;exact⟨hQ rfl hp hx hz eT (EW) (Ns),fun aT hF=>dM aw hF (Nat.le_trans EE.out.size af)⟩
   case aaM =>
    intro cY R G am9 ae;have hS:=ae.same;have aZ:=ae.holds;have bf:=EE.out.size;replace ag:=ag.aY hS (fun h=>h) (by simp);replace aJ:=aJ.aY hS (fun h=>h) (by simp);replace bu:=bu.aY hS (fun h=>h) (by simp);replace h_:=h_.aY hS (fun h=>h) (by simp);have gV:aG am9 (G 7) 27 er:=(ae.eV 8 (List.mem_range.2 (show 8<10 by decide)) 7 rfl).2.2;have LO:=(ae.made 7 (List.mem_range.2 (show 7<10 by decide)) rfl).1;have Xx:W.heap.size≤G 7:=Nat.le_trans bf LO;have ag9:g0≠G 7:=by omega
    have ahk:g0+1≠G 7:=by omega
    have agR:g10≠G 7:=by omega
    have agU:g12≠G 7:=by omega
    replace EE:=hide (show Ext _ _ from aZ);clear hS bf aZ ae cP dT fj ni;generalize hF:bB _ _ _ _ _ _ _=bH;have bI:bH={ tmps:=#[.agg B,.int .i64 v,.int .i64 b_,.int .u64 (dt:Int),.pointer (some ⟨g0,0,none⟩),undef,undef,undef,.pointer (some ⟨g0+1,0,none⟩),.bool false,.pointer (some ⟨g10,0,none⟩),.bool b7,.pointer (some ⟨g12,0,none⟩),.bool cr,.pointer (some ⟨G 7,0,none⟩),.bool cR,undef,undef,undef,undef,.agg B,.bool true,.bool false,.bool false,.int .i64 b_,.bool false,.bool false,.bool false,.int .i64 b_,.bool false,.bool false,.bool false,.int .u64 (dt:Int),.bool false,.bool false,undef,.tuple #[.agg D,.bool b7],.int .i64 v,.agg V,.agg B,.tuple #[.agg D,.bool b7],.agg D,.bool b7,.tuple #[.agg Lo,.bool cr],.agg D,.int .i64 b_,.agg iG,.tuple #[.agg Lo,.bool cr],.agg Lo,.bool cr,.tuple #[.agg er,.bool cR],.agg D,.int .i64 b_,.agg iG,.tuple #[.agg er,.bool cR],.agg er,.bool cR,undef,undef,undef,undef,undef,undef,undef,undef,undef,undef,undef,undef,undef,undef,undef,undef,undef],defers:=[] }:=by subst hF;kernel_rfl
    clear hF;subst bI;generalize G 7=g14 at *;go_upto_region 6 with fail
    have cP:=ag.lt;have dT:=aJ.lt;have fj:=bu.lt;have ni:=h_.lt;have o1:=gV.lt;refine kl [.q,.q,.q,.q,.q,.q,.q,.al,.st 7,.q] [0,0,0,0,0,0,0,0,0,0] (fun R=>[.agg Lo,.int .u64 (dt:Int),.agg U,.tuple #[.agg L,.bool p1],.tuple #[.agg L,.bool p1],.agg L,.bool p1,undef,undef,.bool p1]) (fun _=>(.cells dq 29 (0,0))) (fun R _=>(.cells L 29 (0,0))) (fun _=>0) (dA W) (fun _=>False) (by kernel_rfl) (by kernel_rfl) (by kernel_rfl) (by kernel_rfl) rfl (fun _=>rfl) (fun _ h=>h.elim) (fun _ _ h=>h) (by simp) (by simp) (fun R b1=>⟨fun _=>rfl,fun _=>rfl,fun _=>rfl,fun _=>rfl,fun _=>rfl,fun _=>rfl,fun _=>rfl,fun _=>rfl,fun _=>rfl,fun _=>rfl,trivial⟩) (fun _ _ _ _=>rfl) dH (EE.out.trans (b5 _)) ?ah2 ?aaP;case ah2 =>
     refine⟨?_,aH,d_ zq,d_ Mt,aH,aH,aH,?_,?_,aH,trivial⟩
     ·refine cj fun R s w' aw hs hw ha=>?_
      have L:=dF (h_.aY hw (fun h=>h) (by simp)) hU rfl eT EX;generalize hA:bB _ _ _ _ _ _ _=c3;refine e7 rfl ?_ L;subst hA;kernel_rfl
     ·refine ia ?FB ?D3 ?Ey ?Dk ?_;case FB=>exact(.cells dq 29 (0,0))
      case D3=>exact rfl
      case Ey=>exact rfl
      case Dk=>exact cu rfl
      intro ρ w';go_simp;exact⟨rfl,rfl⟩
     ·refine ib (j:=7) (Ty:=?aoA) (p:=?ar8) (x:=?atz) ?abE ?P2 ?amW ?L2 ?ahF ?MN ?af' ?KE ?aav ?_;case L2=>exact rfl
      case ahF=>exact rfl
      case abE=>exact(fun R=>(.cells L 29 (0,0)))
      case P2=>exact(.cells dq 29 (0,0))
      case amW=>exact(fun R=>.agg L)
      case MN=>exact(fun R=>rfl)
      case af'=>exact rfl
      case KE=>exact cu rfl
      case aav =>
       intro R;kernel_rfl
      intro R s ρ w g aw hs hp hx af hz;exact⟨hQ rfl hp hx hz oP (rP) (EK),fun aT hF=>dM aw hF (Nat.le_trans EE.out.size af)⟩
    case aaP =>
     intro cY R G am' ae;have hS:=ae.same;have aZ:=ae.holds;have bf:=EE.out.size;replace ag:=ag.aY hS (fun h=>h) (by simp);replace aJ:=aJ.aY hS (fun h=>h) (by simp);replace bu:=bu.aY hS (fun h=>h) (by simp);replace h_:=h_.aY hS (fun h=>h) (by simp);replace gV:=gV.aY hS (fun h=>h) (by simp);have ek:aG am' (G 7) 29 L:=(ae.eV 8 (List.mem_range.2 (show 8<10 by decide)) 7 rfl).2.2;have LP:=(ae.made 7 (List.mem_range.2 (show 7<10 by decide)) rfl).1;have Xy:W.heap.size≤G 7:=Nat.le_trans bf LP;have ag_:g0≠G 7:=by omega
     have ahl:g0+1≠G 7:=by omega
     have agS:g10≠G 7:=by omega
     have agV:g12≠G 7:=by omega
     have agY:g14≠G 7:=by omega
     replace EE:=hide (show Ext _ _ from aZ);clear hS bf aZ ae cP dT fj ni o1;generalize hF:bB _ _ _ _ _ _ _=bH;have bI:bH={ tmps:=#[.agg B,.int .i64 v,.int .i64 b_,.int .u64 (dt:Int),.pointer (some ⟨g0,0,none⟩),undef,undef,undef,.pointer (some ⟨g0+1,0,none⟩),.bool false,.pointer (some ⟨g10,0,none⟩),.bool b7,.pointer (some ⟨g12,0,none⟩),.bool cr,.pointer (some ⟨g14,0,none⟩),.bool cR,.pointer (some ⟨G 7,0,none⟩),.bool p1,undef,undef,.agg B,.bool true,.bool false,.bool false,.int .i64 b_,.bool false,.bool false,.bool false,.int .i64 b_,.bool false,.bool false,.bool false,.int .u64 (dt:Int),.bool false,.bool false,undef,.tuple #[.agg D,.bool b7],.int .i64 v,.agg V,.agg B,.tuple #[.agg D,.bool b7],.agg D,.bool b7,.tuple #[.agg Lo,.bool cr],.agg D,.int .i64 b_,.agg iG,.tuple #[.agg Lo,.bool cr],.agg Lo,.bool cr,.tuple #[.agg er,.bool cR],.agg D,.int .i64 b_,.agg iG,.tuple #[.agg er,.bool cR],.agg er,.bool cR,.tuple #[.agg L,.bool p1],.agg Lo,.int .u64 (dt:Int),.agg U,.tuple #[.agg L,.bool p1],.agg L,.bool p1,undef,undef,undef,undef,undef,undef,undef,undef,undef,undef],defers:=[] }:=by subst hF;kernel_rfl
     clear hF;subst bI;generalize G 7=g16 at *;go_upto_region 7 with fail
     have cP:=ag.lt;have dT:=aJ.lt;have fj:=bu.lt;have ni:=h_.lt;have o1:=gV.lt;have r8:=ek.lt;refine kl [.q,.q,.q,.q,.q,.q,.q,.al,.st 7,.q] [0,0,0,0,0,0,0,0,0,0] (fun R=>[.agg er,.int .u64 (dt:Int),.agg U,.tuple #[.agg H,.bool p2],.tuple #[.agg H,.bool p2],.agg H,.bool p2,undef,undef,.bool p2]) (fun _=>(.cells dq 29 (0,0))) (fun R _=>(.cells H 29 (0,0))) (fun _=>0) (dA W) (fun _=>False) (by kernel_rfl) (by kernel_rfl) (by kernel_rfl) (by kernel_rfl) rfl (fun _=>rfl) (fun _ h=>h.elim) (fun _ _ h=>h) (by simp) (by simp) (fun R b1=>⟨fun _=>rfl,fun _=>rfl,fun _=>rfl,fun _=>rfl,fun _=>rfl,fun _=>rfl,fun _=>rfl,fun _=>rfl,fun _=>rfl,fun _=>rfl,trivial⟩) (fun _ _ _ _=>rfl) dH (EE.out.trans (b5 _)) ?ah6 ?aaT;case ah6 =>
      refine⟨?_,aH,d_ zq,d_ Mu,aH,aH,aH,?_,?_,aH,trivial⟩
      ·refine cj fun R s w' aw hs hw ha=>?_
       have L:=dF (gV.aY hw (fun h=>h) (by simp)) hU rfl eT EW;generalize hA:bB _ _ _ _ _ _ _=c3;refine e7 rfl ?_ L;subst hA;kernel_rfl
      ·refine ia ?aoi ?aer ?afK ?ab_ ?_;case aoi=>exact(.cells dq 29 (0,0))
       case aer=>exact rfl
       case afK=>exact rfl
       case ab_=>exact cu rfl
       intro ρ w';go_simp;exact⟨rfl,rfl⟩
      ·refine ib (j:=7) (Ty:=?aoE) (p:=?asa) (x:=?atD) ?abI ?aoj ?am0 ?aes ?ahJ ?afL ?agd ?ab' ?aaz ?_;case aes=>exact rfl
       case ahJ=>exact rfl
       case abI=>exact(fun R=>(.cells H 29 (0,0)))
       case aoj=>exact(.cells dq 29 (0,0))
       case am0=>exact(fun R=>.agg H)
       case afL=>exact(fun R=>rfl)
       case agd=>exact rfl
       case ab'=>exact cu rfl
       case aaz =>
        intro R;kernel_rfl
       intro R s ρ w g aw hs hp hx af hz;exact⟨hQ rfl hp hx hz oP (td) (EJ),fun aT hF=>dM aw hF (Nat.le_trans EE.out.size af)⟩
     case aaT =>
      intro cY R G anc ae;have hS:=ae.same;have aZ:=ae.holds;have bf:=EE.out.size;replace ag:=ag.aY hS (fun h=>h) (by simp);replace aJ:=aJ.aY hS (fun h=>h) (by simp);replace bu:=bu.aY hS (fun h=>h) (by simp);replace h_:=h_.aY hS (fun h=>h) (by simp);replace gV:=gV.aY hS (fun h=>h) (by simp);replace ek:=ek.aY hS (fun h=>h) (by simp);have e3:aG anc (G 7) 29 H:=(ae.eV 8 (List.mem_range.2 (show 8<10 by decide)) 7 rfl).2.2;have LQ:=(ae.made 7 (List.mem_range.2 (show 7<10 by decide)) rfl).1;have I5:W.heap.size≤G 7:=Nat.le_trans bf LQ;have ag':g0≠G 7:=by omega
      have ahm:g0+1≠G 7:=by omega
      have agT:g10≠G 7:=by omega
      have agW:g12≠G 7:=by omega
      have agZ:g14≠G 7:=by omega
      have ag0:g16≠G 7:=by omega
      replace EE:=hide (show Ext _ _ from aZ);clear hS bf aZ ae cP dT fj ni o1 r8;generalize hF:bB _ _ _ _ _ _ _=bH;have bI:bH={ tmps:=#[.agg B,.int .i64 v,.int .i64 b_,.int .u64 (dt:Int),.pointer (some ⟨g0,0,none⟩),undef,undef,undef,.pointer (some ⟨g0+1,0,none⟩),.bool false,.pointer (some ⟨g10,0,none⟩),.bool b7,.pointer (some ⟨g12,0,none⟩),.bool cr,.pointer (some ⟨g14,0,none⟩),.bool cR,.pointer (some ⟨g16,0,none⟩),.bool p1,.pointer (some ⟨G 7,0,none⟩),.bool p2,.agg B,.bool true,.bool false,.bool false,.int .i64 b_,.bool false,.bool false,.bool false,.int .i64 b_,.bool false,.bool false,.bool false,.int .u64 (dt:Int),.bool false,.bool false,undef,.tuple #[.agg D,.bool b7],.int .i64 v,.agg V,.agg B,.tuple #[.agg D,.bool b7],.agg D,.bool b7,.tuple #[.agg Lo,.bool cr],.agg D,.int .i64 b_,.agg iG,.tuple #[.agg Lo,.bool cr],.agg Lo,.bool cr,.tuple #[.agg er,.bool cR],.agg D,.int .i64 b_,.agg iG,.tuple #[.agg er,.bool cR],.agg er,.bool cR,.tuple #[.agg L,.bool p1],.agg Lo,.int .u64 (dt:Int),.agg U,.tuple #[.agg L,.bool p1],.agg L,.bool p1,.tuple #[.agg H,.bool p2],.agg er,.int .u64 (dt:Int),.agg U,.tuple #[.agg H,.bool p2],.agg H,.bool p2,undef,undef,undef],defers:=[] }:=by subst hF;kernel_rfl
      clear hF;subst bI;generalize G 7=g18 at *;go_upto_region 8 with fail
      have cP:=ag.lt;have dT:=aJ.lt;have fj:=bu.lt;have ni:=h_.lt;have o1:=gV.lt;have r8:=ek.lt;have yw:=e3.lt;refine eB [.q,.q,.q,.so 0,.q] [0,0,0,0,0] (fun R=>[.agg L,.agg H,.agg (bT false L H),undef,.bool true]) (fun _=>(.cells #[] 0 (0,0))) (fun R _=>(.cells (bT false L H) 31 (0,0))) (fun _=>g0+1) (dA W) (fun _=>False) (by kernel_rfl) (by kernel_rfl) (by kernel_rfl) rfl (fun _=>rfl) (fun _ h=>h.elim) (fun _ _ h=>h) (by intro c hc;simp at hc;(try subst hc);(try simp only);omega) (by intro c c' h1 h2 _;simp at h1 h2;omega) (fun R b1=>⟨fun _=>rfl,fun _=>rfl,fun _=>rfl,fun _=>rfl,fun _=>rfl,trivial⟩) (fun _ _ _ _=>rfl) dH EE.out ?ah_ ?aaX;case ah_ =>
       refine⟨?_,?_,?_,?_,aH,trivial⟩
       ·refine cj fun R s w' aw hs hw ha=>?_
        have L:=dF (ek.aY hw (fun h=>h) (by intro c hc;simp at hc;(try subst hc);(try simp only);omega)) tt rfl oP rP;generalize hA:bB _ _ _ _ _ _ _=c3;refine e7 rfl ?_ L;subst hA;kernel_rfl
       ·refine cj fun R s w' aw hs hw ha=>?_
        have L:=dF (e3.aY hw (fun h=>h) (by intro c hc;simp at hc;(try subst hc);(try simp only);omega)) tt rfl oP td;generalize hA:bB _ _ _ _ _ _ _=c3;refine e7 rfl ?_ L;subst hA;kernel_rfl
       ·refine cj fun R s w' aw hs hw ha=>?_
        generalize hA:bB _ _ _ _ _ _ _=c3;refine YK zQ zP rfl ?_ ?_
        ·subst hA;kernel_rfl
        ·subst hA;kernel_rfl
       ·refine il (c:=0) (Ty:=?aoH) (p:=?asd) (x:=?atG) (g0+1) ?abL ?aml ?am3 ?aev ?ahM ?afO ?agh ?acd ?Z9 ?aaC ?_;case aev=>exact rfl
        case ahM=>exact rfl
        case abL=>exact(fun R=>(.cells (bT false L H) 31 (0,0)))
        case aml=>exact(fun R=>.pointer (some ⟨g0+1,0,none⟩))
        case am3=>exact(fun R=>.agg (bT false L H))
        case afO=>exact(fun R=>rfl)
        case agh=>exact rfl
        case acd=>exact cu rfl
        case Z9 =>
         intro R;kernel_rfl
        case aaC =>
         intro R;kernel_rfl
        intro R s ρ w aw hs hp hx hz;refine⟨lI (g:=(g0+1)) rfl hp hx (hz.trans aJ) ei (rfl) (nW) (s6),fun aT hF=>dM aw hF n2⟩
      case aaX =>
       intro cY R G ang ae;have hS:=ae.same;have aZ:=ae.holds;have bf:=EE.out.size;replace ag:=ag.aY hS (fun h=>h) (by intro c hc;simp at hc;(try subst hc);(try simp only);omega);replace bu:=bu.aY hS (fun h=>h) (by intro c hc;simp at hc;(try subst hc);(try simp only);omega);replace h_:=h_.aY hS (fun h=>h) (by intro c hc;simp at hc;(try subst hc);(try simp only);omega);replace gV:=gV.aY hS (fun h=>h) (by intro c hc;simp at hc;(try subst hc);(try simp only);omega);replace ek:=ek.aY hS (fun h=>h) (by intro c hc;simp at hc;(try subst hc);(try simp only);omega);replace e3:=e3.aY hS (fun h=>h) (by intro c hc;simp at hc;(try subst hc);(try simp only);omega);replace aJ:aG ang (g0+1) 31 (bT false L H):=ae.ep 3 (List.mem_range.2 (show 3<5 by decide)) 0 rfl;replace EE:=hide (show Ext _ _ from aZ);clear hS bf aZ ae cP dT fj ni o1 r8 yw;generalize hF:bB _ _ _ _ _ _ _=bH;have bI:bH={ tmps:=#[.agg B,.int .i64 v,.int .i64 b_,.int .u64 (dt:Int),.pointer (some ⟨g0,0,none⟩),undef,undef,undef,.pointer (some ⟨g0+1,0,none⟩),.bool true,.pointer (some ⟨g10,0,none⟩),.bool b7,.pointer (some ⟨g12,0,none⟩),.bool cr,.pointer (some ⟨g14,0,none⟩),.bool cR,.pointer (some ⟨g16,0,none⟩),.bool p1,.pointer (some ⟨g18,0,none⟩),.bool p2,.agg B,.bool true,.bool false,.bool false,.int .i64 b_,.bool false,.bool false,.bool false,.int .i64 b_,.bool false,.bool false,.bool false,.int .u64 (dt:Int),.bool false,.bool false,undef,.tuple #[.agg D,.bool b7],.int .i64 v,.agg V,.agg B,.tuple #[.agg D,.bool b7],.agg D,.bool b7,.tuple #[.agg Lo,.bool cr],.agg D,.int .i64 b_,.agg iG,.tuple #[.agg Lo,.bool cr],.agg Lo,.bool cr,.tuple #[.agg er,.bool cR],.agg D,.int .i64 b_,.agg iG,.tuple #[.agg er,.bool cR],.agg er,.bool cR,.tuple #[.agg L,.bool p1],.agg Lo,.int .u64 (dt:Int),.agg U,.tuple #[.agg L,.bool p1],.agg L,.bool p1,.tuple #[.agg H,.bool p2],.agg er,.int .u64 (dt:Int),.agg U,.tuple #[.agg H,.bool p2],.agg H,.bool p2,.agg L,.agg H,.agg (bT false L H)],defers:=[] }:=by subst hF;kernel_rfl
       clear hF;subst bI;go_wp2_with fail
       exact bodyPost_ret (kg (p:=8) (u:=9) (ty:=31) rfl _ _ _ 31 (bT false L H) _ rfl aJ fV rfl (by rw[ei,nW])) rfl ⟨by kernel_rfl,EE.out⟩
set_option maxRecDepth 100000 in
theorem ajk (B:Array Value) (v b_:Int) (dt:Nat) (W:World) (jB:B.size=5) (rK:B.all (·.oneCell')=true) (bQ:Hid (∀ w,Calls Tryz.prog 109 #[.agg B] w (aP (.bool false) w))) :
 Calls Tryz.prog 94 #[.agg B,.int .i64 v,.int .i64 b_,.int .u64 (dt:Int)] W (aP (.tuple #[.agg z21,false]) W):=by
 have ag:=(aG.new W 27 B).alloc (.cells z21 31);have aJ:=aG.new (W.alloc (.cells B 27)) 31 z21;rw[iY] at aJ;have EE:=hide ((aA W (.cells B 27)).trans (aA _ (.cells z21 31)));obtain⟨bG,bD⟩:=aM (((W.alloc (.cells B 27)).alloc (.cells z21 31)));obtain⟨g0,af⟩:∃ g,W.heap.size=g:=⟨_,rfl⟩;rw[bD] at ag aJ EE;rw[af] at ag aJ;have lj:W.heap.size≤g0:=by omega
 have n2:W.heap.size≤g0+1:=by omega
 have aB:=hide bD;have bW:=hide af;clear bD af;go_enter Tryz.func94,Tryz.ntmps94
 go_upto_region 1 with fail
 unfold z21 at aB;rw[aB.out,bW.out];clear aB bW;refine eK ?_;repeat (first|go_big_quiet_step (first|with_reducible exact dK (bQ.out _))|(refine iE (by kernel_rfl) rfl rfl (fun w hw=>by obtain⟨⟨d,os⟩,rfl⟩:=hw;exact dF ((ag).ext (aX bG d os)) hU rfl eT jB) ?_)|quiet_step (first|with_reducible exact dK (bQ.out _)))
 refine wpQuiet_nil ?_;intro _ bj;obtain⟨⟨aQ,osq⟩,cq⟩:=bj;subst cq;replace ag:=(ag).ext (aX bG aQ osq);replace aJ:=(aJ).ext (aX bG aQ osq);replace EE:=hide (EE.out.trans (aX bG aQ osq));obtain⟨bp,eF⟩:∃ w,grow (redrawn bG aQ) osq=w:=⟨_,rfl⟩;rw[eF] at EE ag aJ ⊢;clear eF;go_upto_region 2 with fail
 have cP:=ag.lt;have dT:=aJ.lt;refine eB [.q,.so 0,.q] [0,0,0] (fun R=>[.agg z21,undef,.bool false]) (fun _=>(.cells #[] 0 (0,0))) (fun R _=>(.cells z21 31 (0,0))) (fun _=>g0+1) (dA W) (fun _=>False) (by kernel_rfl) (by kernel_rfl) (by kernel_rfl) rfl (fun _=>rfl) (fun _ h=>h.elim) (fun _ _ h=>h) (by intro c hc;simp at hc;(try subst hc);(try simp only);omega) (by intro c c' h1 h2 _;simp at h1 h2;omega) (fun R b1=>⟨fun _=>rfl,fun _=>rfl,fun _=>rfl,trivial⟩) (fun _ _ _ _=>rfl) dH EE.out ?zM ?yX;case zM =>
  refine⟨?_,?_,aH,trivial⟩
  ·refine cj fun R s w' aw hs hw ha=>?_
   unfold z21;go_simp
  ·refine il (c:=0) (Ty:=?w4) (p:=?xL) (x:=?xZ) (g0+1) ?n6 ?v7 ?kj ?iQ ?om ?j8 ?oi ?jn ?uW ?n5 ?_;case iQ=>exact rfl
   case om=>exact rfl
   case n6=>exact(fun R=>(.cells z21 31 (0,0)))
   case v7=>exact(fun R=>.pointer (some ⟨g0+1,0,none⟩))
   case kj=>exact(fun R=>.agg z21)
   case j8=>exact(fun R=>rfl)
   case oi=>exact rfl
   case jn=>exact cu rfl
   case uW =>
    intro R;kernel_rfl
   case n5 =>
    intro R;kernel_rfl
   intro R s ρ w aw hs hp hx hz;refine⟨lI (g:=(g0+1)) rfl hp hx (hz.trans aJ) ei (rfl) (rfl) (iV),fun aT hF=>dM aw hF n2⟩
 case yX =>
  intro cY R G cg ae;have hS:=ae.same;have aZ:=ae.holds;have bf:=EE.out.size;replace ag:=ag.aY hS (fun h=>h) (by intro c hc;simp at hc;(try subst hc);(try simp only);omega);replace aJ:aG cg (g0+1) 31 z21:=ae.ep 1 (List.mem_range.2 (show 1<3 by decide)) 0 rfl;replace EE:=hide (show Ext _ _ from aZ);clear hS bf aZ ae cP dT;generalize hF:bB _ _ _ _ _ _ _=bH;have bI:bH={ tmps:=#[.agg B,.int .i64 v,.int .i64 b_,.int .u64 (dt:Int),.pointer (some ⟨g0,0,none⟩),undef,undef,undef,.pointer (some ⟨g0+1,0,none⟩),.bool false,undef,undef,undef,undef,undef,undef,undef,undef,undef,undef,.agg B,.bool false,.bool true,.bool true,undef,undef,.bool true,.bool true,undef,undef,.bool true,.bool true,undef,undef,.bool true,.agg z21,undef,undef,undef,undef,undef,undef,undef,undef,undef,undef,undef,undef,undef,undef,undef,undef,undef,undef,undef,undef,undef,undef,undef,undef,undef,undef,undef,undef,undef,undef,undef,undef,undef,undef,undef,undef,undef,undef],defers:=[] }:=by subst hF;kernel_rfl
  clear hF;subst bI;go_wp2_with fail
  exact bodyPost_ret (kg (p:=8) (u:=9) (ty:=31) rfl _ _ _ 31 z21 _ rfl aJ fV rfl rfl) rfl ⟨by kernel_rfl,EE.out⟩
set_option maxRecDepth 100000 in
theorem ajl (B:Array Value) (v b_:Int) (dt:Nat) (W:World) (jB:B.size=5) (rK:B.all (·.oneCell')=true) (bQ:Hid (∀ w,Calls Tryz.prog 109 #[.agg B] w (aP (.bool true) w))) (he:b_<0) :
 Calls Tryz.prog 94 #[.agg B,.int .i64 v,.int .i64 b_,.int .u64 (dt:Int)] W (aP (.tuple #[.agg z21,false]) W):=by
 have d1:decide (b_<0)=true:=decide_eq_true he;have ag:=(aG.new W 27 B).alloc (.cells z21 31);have aJ:=aG.new (W.alloc (.cells B 27)) 31 z21;rw[iY] at aJ;have EE:=hide ((aA W (.cells B 27)).trans (aA _ (.cells z21 31)));obtain⟨bG,bD⟩:=aM (((W.alloc (.cells B 27)).alloc (.cells z21 31)));obtain⟨g0,af⟩:∃ g,W.heap.size=g:=⟨_,rfl⟩;rw[bD] at ag aJ EE;rw[af] at ag aJ;have lj:W.heap.size≤g0:=by omega
 have n2:W.heap.size≤g0+1:=by omega
 have aB:=hide bD;have bW:=hide af;clear bD af;go_enter Tryz.func94,Tryz.ntmps94
 go_upto_region 1 with fail
 unfold z21 at aB;rw[aB.out,bW.out];clear aB bW;refine eK ?_;repeat (first|go_big_quiet_step (first|with_reducible exact dK (bQ.out _))|(refine iE (by kernel_rfl) rfl rfl (fun w hw=>by obtain⟨⟨d,os⟩,rfl⟩:=hw;exact dF ((ag).ext (aX bG d os)) hU rfl eT jB) ?_)|quiet_step (first|with_reducible exact dK (bQ.out _)))
 refine wpQuiet_nil ?_;intro _ bj;obtain⟨⟨aQ,osq⟩,cq⟩:=bj;subst cq;replace ag:=(ag).ext (aX bG aQ osq);replace aJ:=(aJ).ext (aX bG aQ osq);replace EE:=hide (EE.out.trans (aX bG aQ osq));obtain⟨bp,eF⟩:∃ w,grow (redrawn bG aQ) osq=w:=⟨_,rfl⟩;rw[eF] at EE ag aJ ⊢;clear eF;go_upto_region 2 with fail
 have cP:=ag.lt;have dT:=aJ.lt;refine eB [.q,.so 0,.q] [0,0,0] (fun R=>[.agg z21,undef,.bool false]) (fun _=>(.cells #[] 0 (0,0))) (fun R _=>(.cells z21 31 (0,0))) (fun _=>g0+1) (dA W) (fun _=>False) (by kernel_rfl) (by kernel_rfl) (by kernel_rfl) rfl (fun _=>rfl) (fun _ h=>h.elim) (fun _ _ h=>h) (by intro c hc;simp at hc;(try subst hc);(try simp only);omega) (by intro c c' h1 h2 _;simp at h1 h2;omega) (fun R b1=>⟨fun _=>rfl,fun _=>rfl,fun _=>rfl,trivial⟩) (fun _ _ _ _=>rfl) dH EE.out ?zM ?yX;case zM =>
  refine⟨?_,?_,aH,trivial⟩
  ·refine cj fun R s w' aw hs hw ha=>?_
   unfold z21;go_simp
  ·refine il (c:=0) (Ty:=?w4) (p:=?xL) (x:=?xZ) (g0+1) ?n6 ?v7 ?kj ?iQ ?om ?j8 ?oi ?jn ?uW ?n5 ?_;case iQ=>exact rfl
   case om=>exact rfl
   case n6=>exact(fun R=>(.cells z21 31 (0,0)))
   case v7=>exact(fun R=>.pointer (some ⟨g0+1,0,none⟩))
   case kj=>exact(fun R=>.agg z21)
   case j8=>exact(fun R=>rfl)
   case oi=>exact rfl
   case jn=>exact cu rfl
   case uW =>
    intro R;kernel_rfl
   case n5 =>
    intro R;kernel_rfl
   intro R s ρ w aw hs hp hx hz;refine⟨lI (g:=(g0+1)) rfl hp hx (hz.trans aJ) ei (rfl) (rfl) (iV),fun aT hF=>dM aw hF n2⟩
 case yX =>
  intro cY R G cg ae;have hS:=ae.same;have aZ:=ae.holds;have bf:=EE.out.size;replace ag:=ag.aY hS (fun h=>h) (by intro c hc;simp at hc;(try subst hc);(try simp only);omega);replace aJ:aG cg (g0+1) 31 z21:=ae.ep 1 (List.mem_range.2 (show 1<3 by decide)) 0 rfl;replace EE:=hide (show Ext _ _ from aZ);clear hS bf aZ ae cP dT;generalize hF:bB _ _ _ _ _ _ _=bH;have bI:bH={ tmps:=#[.agg B,.int .i64 v,.int .i64 b_,.int .u64 (dt:Int),.pointer (some ⟨g0,0,none⟩),undef,undef,undef,.pointer (some ⟨g0+1,0,none⟩),.bool false,undef,undef,undef,undef,undef,undef,undef,undef,undef,undef,.agg B,.bool true,.bool false,.bool false,.int .i64 b_,.bool true,.bool true,.bool true,undef,undef,.bool true,.bool true,undef,undef,.bool true,.agg z21,undef,undef,undef,undef,undef,undef,undef,undef,undef,undef,undef,undef,undef,undef,undef,undef,undef,undef,undef,undef,undef,undef,undef,undef,undef,undef,undef,undef,undef,undef,undef,undef,undef,undef,undef,undef,undef,undef],defers:=[] }:=by subst hF;kernel_rfl
  clear hF;subst bI;go_wp2_with fail
  exact bodyPost_ret (kg (p:=8) (u:=9) (ty:=31) rfl _ _ _ 31 z21 _ rfl aJ fV rfl rfl) rfl ⟨by kernel_rfl,EE.out⟩
set_option maxRecDepth 100000 in
theorem ajm (B:Array Value) (v b_:Int) (dt:Nat) (W:World) (jB:B.size=5) (rK:B.all (·.oneCell')=true) (bQ:Hid (∀ w,Calls Tryz.prog 109 #[.agg B] w (aP (.bool true) w))) (he:4611686018427387904<b_) :
 Calls Tryz.prog 94 #[.agg B,.int .i64 v,.int .i64 b_,.int .u64 (dt:Int)] W (aP (.tuple #[.agg z21,false]) W):=by
 have d1:decide (b_<0)=false:=decide_eq_false (by omega);have d2:decide (4611686018427387904<b_)=true:=decide_eq_true he;have ag:=(aG.new W 27 B).alloc (.cells z21 31);have aJ:=aG.new (W.alloc (.cells B 27)) 31 z21;rw[iY] at aJ;have EE:=hide ((aA W (.cells B 27)).trans (aA _ (.cells z21 31)));obtain⟨bG,bD⟩:=aM (((W.alloc (.cells B 27)).alloc (.cells z21 31)));obtain⟨g0,af⟩:∃ g,W.heap.size=g:=⟨_,rfl⟩;rw[bD] at ag aJ EE;rw[af] at ag aJ;have lj:W.heap.size≤g0:=by omega
 have n2:W.heap.size≤g0+1:=by omega
 have aB:=hide bD;have bW:=hide af;clear bD af;go_enter Tryz.func94,Tryz.ntmps94
 go_upto_region 1 with fail
 unfold z21 at aB;rw[aB.out,bW.out];clear aB bW;refine eK ?_;repeat (first|go_big_quiet_step (first|with_reducible exact dK (bQ.out _))|(refine iE (by kernel_rfl) rfl rfl (fun w hw=>by obtain⟨⟨d,os⟩,rfl⟩:=hw;exact dF ((ag).ext (aX bG d os)) hU rfl eT jB) ?_)|quiet_step (first|with_reducible exact dK (bQ.out _)))
 refine wpQuiet_nil ?_;intro _ bj;obtain⟨⟨aQ,osq⟩,cq⟩:=bj;subst cq;replace ag:=(ag).ext (aX bG aQ osq);replace aJ:=(aJ).ext (aX bG aQ osq);replace EE:=hide (EE.out.trans (aX bG aQ osq));obtain⟨bp,eF⟩:∃ w,grow (redrawn bG aQ) osq=w:=⟨_,rfl⟩;rw[eF] at EE ag aJ ⊢;clear eF;go_upto_region 2 with fail
 have cP:=ag.lt;have dT:=aJ.lt;refine eB [.q,.so 0,.q] [0,0,0] (fun R=>[.agg z21,undef,.bool false]) (fun _=>(.cells #[] 0 (0,0))) (fun R _=>(.cells z21 31 (0,0))) (fun _=>g0+1) (dA W) (fun _=>False) (by kernel_rfl) (by kernel_rfl) (by kernel_rfl) rfl (fun _=>rfl) (fun _ h=>h.elim) (fun _ _ h=>h) (by intro c hc;simp at hc;(try subst hc);(try simp only);omega) (by intro c c' h1 h2 _;simp at h1 h2;omega) (fun R b1=>⟨fun _=>rfl,fun _=>rfl,fun _=>rfl,trivial⟩) (fun _ _ _ _=>rfl) dH EE.out ?zM ?yX;case zM =>
  refine⟨?_,?_,aH,trivial⟩
  ·refine cj fun R s w' aw hs hw ha=>?_
   unfold z21;go_simp
  ·refine il (c:=0) (Ty:=?w4) (p:=?xL) (x:=?xZ) (g0+1) ?n6 ?v7 ?kj ?iQ ?om ?j8 ?oi ?jn ?uW ?n5 ?_;case iQ=>exact rfl
   case om=>exact rfl
   case n6=>exact(fun R=>(.cells z21 31 (0,0)))
   case v7=>exact(fun R=>.pointer (some ⟨g0+1,0,none⟩))
   case kj=>exact(fun R=>.agg z21)
   case j8=>exact(fun R=>rfl)
   case oi=>exact rfl
   case jn=>exact cu rfl
   case uW =>
    intro R;kernel_rfl
   case n5 =>
    intro R;kernel_rfl
   intro R s ρ w aw hs hp hx hz;refine⟨lI (g:=(g0+1)) rfl hp hx (hz.trans aJ) ei (rfl) (rfl) (iV),fun aT hF=>dM aw hF n2⟩
 case yX =>
  intro cY R G cg ae;have hS:=ae.same;have aZ:=ae.holds;have bf:=EE.out.size;replace ag:=ag.aY hS (fun h=>h) (by intro c hc;simp at hc;(try subst hc);(try simp only);omega);replace aJ:aG cg (g0+1) 31 z21:=ae.ep 1 (List.mem_range.2 (show 1<3 by decide)) 0 rfl;replace EE:=hide (show Ext _ _ from aZ);clear hS bf aZ ae cP dT;generalize hF:bB _ _ _ _ _ _ _=bH;have bI:bH={ tmps:=#[.agg B,.int .i64 v,.int .i64 b_,.int .u64 (dt:Int),.pointer (some ⟨g0,0,none⟩),undef,undef,undef,.pointer (some ⟨g0+1,0,none⟩),.bool false,undef,undef,undef,undef,undef,undef,undef,undef,undef,undef,.agg B,.bool true,.bool false,.bool false,.int .i64 b_,.bool false,.bool false,.bool false,.int .i64 b_,.bool true,.bool true,.bool true,undef,undef,.bool true,.agg z21,undef,undef,undef,undef,undef,undef,undef,undef,undef,undef,undef,undef,undef,undef,undef,undef,undef,undef,undef,undef,undef,undef,undef,undef,undef,undef,undef,undef,undef,undef,undef,undef,undef,undef,undef,undef,undef,undef],defers:=[] }:=by subst hF;kernel_rfl
  clear hF;subst bI;go_wp2_with fail
  exact bodyPost_ret (kg (p:=8) (u:=9) (ty:=31) rfl _ _ _ 31 z21 _ rfl aJ fV rfl rfl) rfl ⟨by kernel_rfl,EE.out⟩
set_option maxRecDepth 100000 in
theorem ajn (B:Array Value) (v b_:Int) (dt:Nat) (W:World) (jB:B.size=5) (rK:B.all (·.oneCell')=true) (bQ:Hid (∀ w,Calls Tryz.prog 109 #[.agg B] w (aP (.bool true) w))) (he:0≤b_) (ze:b_≤4611686018427387904) :
 Calls Tryz.prog 94 #[.agg B,.int .i64 v,.int .i64 b_,.int .u64 0] W (aP (.tuple #[.agg z21,false]) W):=by
 have d1:decide (b_<0)=false:=decide_eq_false (by omega);have d2:decide (4611686018427387904<b_)=false:=decide_eq_false (by omega);have ag:=(aG.new W 27 B).alloc (.cells z21 31);have aJ:=aG.new (W.alloc (.cells B 27)) 31 z21;rw[iY] at aJ;have EE:=hide ((aA W (.cells B 27)).trans (aA _ (.cells z21 31)));obtain⟨bG,bD⟩:=aM (((W.alloc (.cells B 27)).alloc (.cells z21 31)));obtain⟨g0,af⟩:∃ g,W.heap.size=g:=⟨_,rfl⟩;rw[bD] at ag aJ EE;rw[af] at ag aJ;have lj:W.heap.size≤g0:=by omega
 have n2:W.heap.size≤g0+1:=by omega
 have aB:=hide bD;have bW:=hide af;clear bD af;go_enter Tryz.func94,Tryz.ntmps94
 go_upto_region 1 with fail
 unfold z21 at aB;rw[aB.out,bW.out];clear aB bW;refine eK ?_;repeat (first|go_big_quiet_step (first|with_reducible exact dK (bQ.out _))|(refine iE (by kernel_rfl) rfl rfl (fun w hw=>by obtain⟨⟨d,os⟩,rfl⟩:=hw;exact dF ((ag).ext (aX bG d os)) hU rfl eT jB) ?_)|quiet_step (first|with_reducible exact dK (bQ.out _)))
 refine wpQuiet_nil ?_;intro _ bj;obtain⟨⟨aQ,osq⟩,cq⟩:=bj;subst cq;replace ag:=(ag).ext (aX bG aQ osq);replace aJ:=(aJ).ext (aX bG aQ osq);replace EE:=hide (EE.out.trans (aX bG aQ osq));obtain⟨bp,eF⟩:∃ w,grow (redrawn bG aQ) osq=w:=⟨_,rfl⟩;rw[eF] at EE ag aJ ⊢;clear eF;go_upto_region 2 with fail
 have cP:=ag.lt;have dT:=aJ.lt;refine eB [.q,.so 0,.q] [0,0,0] (fun R=>[.agg z21,undef,.bool false]) (fun _=>(.cells #[] 0 (0,0))) (fun R _=>(.cells z21 31 (0,0))) (fun _=>g0+1) (dA W) (fun _=>False) (by kernel_rfl) (by kernel_rfl) (by kernel_rfl) rfl (fun _=>rfl) (fun _ h=>h.elim) (fun _ _ h=>h) (by intro c hc;simp at hc;(try subst hc);(try simp only);omega) (by intro c c' h1 h2 _;simp at h1 h2;omega) (fun R b1=>⟨fun _=>rfl,fun _=>rfl,fun _=>rfl,trivial⟩) (fun _ _ _ _=>rfl) dH EE.out ?zM ?yX;case zM =>
  refine⟨?_,?_,aH,trivial⟩
  ·refine cj fun R s w' aw hs hw ha=>?_
   unfold z21;go_simp
  ·refine il (c:=0) (Ty:=?w4) (p:=?xL) (x:=?xZ) (g0+1) ?n6 ?v7 ?kj ?iQ ?om ?j8 ?oi ?jn ?uW ?n5 ?_;case iQ=>exact rfl
   case om=>exact rfl
   case n6=>exact(fun R=>(.cells z21 31 (0,0)))
   case v7=>exact(fun R=>.pointer (some ⟨g0+1,0,none⟩))
   case kj=>exact(fun R=>.agg z21)
   case j8=>exact(fun R=>rfl)
   case oi=>exact rfl
   case jn=>exact cu rfl
   case uW =>
    intro R;kernel_rfl
   case n5 =>
    intro R;kernel_rfl
   intro R s ρ w aw hs hp hx hz;refine⟨lI (g:=(g0+1)) rfl hp hx (hz.trans aJ) ei (rfl) (rfl) (iV),fun aT hF=>dM aw hF n2⟩
 case yX =>
  intro cY R G cg ae;have hS:=ae.same;have aZ:=ae.holds;have bf:=EE.out.size;replace ag:=ag.aY hS (fun h=>h) (by intro c hc;simp at hc;(try subst hc);(try simp only);omega);replace aJ:aG cg (g0+1) 31 z21:=ae.ep 1 (List.mem_range.2 (show 1<3 by decide)) 0 rfl;replace EE:=hide (show Ext _ _ from aZ);clear hS bf aZ ae cP dT;generalize hF:bB _ _ _ _ _ _ _=bH;have bI:bH={ tmps:=#[.agg B,.int .i64 v,.int .i64 b_,.int .u64 0,.pointer (some ⟨g0,0,none⟩),undef,undef,undef,.pointer (some ⟨g0+1,0,none⟩),.bool false,undef,undef,undef,undef,undef,undef,undef,undef,undef,undef,.agg B,.bool true,.bool false,.bool false,.int .i64 b_,.bool false,.bool false,.bool false,.int .i64 b_,.bool false,.bool false,.bool false,.int .u64 0,.bool true,.bool true,.agg z21,undef,undef,undef,undef,undef,undef,undef,undef,undef,undef,undef,undef,undef,undef,undef,undef,undef,undef,undef,undef,undef,undef,undef,undef,undef,undef,undef,undef,undef,undef,undef,undef,undef,undef,undef,undef,undef,undef],defers:=[] }:=by subst hF;kernel_rfl
  clear hF;subst bI;go_wp2_with fail
  exact bodyPost_ret (kg (p:=8) (u:=9) (ty:=31) rfl _ _ _ 31 z21 _ rfl aJ fV rfl rfl) rfl ⟨by kernel_rfl,EE.out⟩
end
section
open Go Go.RowKit
theorem oG.ext {z:Int}{w W:World}{e:Ending}{w':World} (h:oG z W e w') (k:Ext w W):oG z w e w':=by
 obtain⟨s,a,b,c,d,o,h1,h2,h3,h4⟩:=h;exact⟨s,a,b,c,d,o,h1,h2,h3,k.trans h4⟩
theorem aje (s t:Bool) (a b c d e f g h:Nat) (x y:Int) (w:World) (hx:dg s a b c d x) (hy:dg t e f g h y) :
 Calls Tryz.prog 110 #[.agg #[.bool s,a,b,c,d],.agg #[.bool t,e,f,g,h]] w (oG (x-y) w):=by
 obtain⟨W,aK⟩:=eo ((((w.alloc (.cells #[.bool s,a,b,c,d] 27)).alloc (.cells #[.bool t,e,f,g,h] 27)).alloc (.cells #[false,(),(),(),()] 27)));have cO:=kF w (.cells #[.bool s,a,b,c,d] 27) (.cells #[.bool t,e,f,g,h] 27) (.cells #[false,(),(),(),()] 27);rw[←aK] at cO;have ay:Box W w.heap.size s a b c d:=cO.1;have au:Box W (w.heap.size+1) t e f g h:=cO.2.1;have aR:Box W (w.heap.size+1+1) false 0 0 0 0:=cO.2.2;have bC:Ext w W:=by rw[aK];exact((aA _ _).trans (aA _ _)).trans (aA _ _)
 have aB:=hide aK;clear aK cO;have eQ:Hid (x+-y=x-y):=by unfold Hid;omega
 have dY:=av ay;have fa:=av au;go_enter Tryz.func110,Tryz.ntmps110
 go_upto_region 1 with fail
 rw[←aB.out];clear aB;go_region_with (first
  | (go_at_call 121;refine(Hv t e f g h y _ hy).mono ?_;rintro e' w' ⟨t',bk,R6,Sc,Dm,rfl,hC,ad⟩;have cD:=ay.drew.ext ad;have dz:=aR.drew.ext ad;have dY:=av cD;have bS:=(bC.trans (b5 _)).trans ad;clear ad)
  | (go_at_call 111;refine(U1 s t' a b c d bk R6 Sc Dm x (-y) _ hx hC.1).mono ?_;rintro e' w' ⟨s',a',b',c',d',o,rfl,aL,cQ,ad⟩;rw[eQ.out] at aL cQ;have jZ:=hide aL;clear aL;have da:=bS.trans ad;have eu:=dz.ext ad;obtain⟨i0,i1,i2,i3,i4,dm,cW,cL,dn,dG⟩:=av eu;clear ad))
 all_goals go_wp2_with fail
 all_goals exact bodyPost_ret (v:=.tuple #[.agg #[.bool s',a',b',c',d'],.bool o]) (by simp[results,Tryz.results110,go_sem,i0,i1,i2,i3,i4]) rfl ⟨s',a',b',c',d',o,rfl,jZ.out,cQ,dr da (by omega) _ _ _ _ _⟩
end
end Go.Proofs.YtojbopibfflnoaaGreat
