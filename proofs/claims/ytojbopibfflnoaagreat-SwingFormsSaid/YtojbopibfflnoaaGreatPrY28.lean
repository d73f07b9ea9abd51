/- Facts. -/
import Derived.Test.YtojbopibfflnoaaGreatPrY7
import Derived.Test.YtojbopibfflnoaaGreatPrY24
import Derived.Test.YtojbopibfflnoaaGreatPrY25
import Derived.Test.YtojbopibfflnoaaGreatPrY26
import Derived.Shelf.Strconv.Itoa0
namespace Go.Proofs.YtojbopibfflnoaaGreat
open Go renaming undef → C, World → J, Value → H, Calls → M, bodyPost_ret → B7, wpQuiet_nil → B', redrawn → aw5, TypeId → aw7, Operand → axb, Oper → aw4, Ending → axa, Addr → aw6, Program → axh, execOp → axc
open _root_.Go.Proofs.Tryz renaming prog → I
set_option linter.unusedVariables false
set_option linter.unusedSimpArgs false
set_option maxHeartbeats 16000000
set_option maxRecDepth 100000
section
open Go Go.RowKit Go.Sort
attribute [local go_sem] mg A3 bB BX
theorem akX{e n t v l:Int}{K:Array H}(cQ:K.size=21):(aI e n t v l K)[5]?=K[0]?:=by
 obtain⟨bt,az,aU,a_,bK,cy,cF,b8,bR,c2,kN,q8,pY,q9,q_,rf,rh,ri,rj,rk,rl,rfl⟩:=q5 cQ;clear cQ;kernel_rfl
theorem Oc(e:Int)(W:J)(fl:Hid (∀ w,M I 35 #[.int .i64 e] w (aP (.bool true) w))):M I 11 #[.int .i64 e] W (aP (.tuple #[.agg (aI e 0 0 0 0 z21),.int .i64 0]) W):=by
 have ak:=aG.new W 33 bL;have EE:=hide (aA W (.cells bL 33));obtain⟨bG,bD⟩:=aM ((W.alloc (.cells bL 33)));obtain⟨g0,af⟩:∃ g,W.heap.size=g:=⟨_,rfl⟩;rw[bD] at ak EE;rw[af] at ak;have lh:W.heap.size<=g0:=by omega
 have aB:=hide bD;have bW:=hide af;clear bD af;go_enter Tryz.func11,Tryz.ntmps11
 go_upto_region 1 with fail
 unfold bL at aB;rw[aB.out,bW.out];clear aB bW;have gu:=ak.lt;refine eB [.q,.q,.q] [0,0,0] (fun R=>[.int .i64 e,.bool true,.bool false]) (fun _=>(.cells #[] 0 (0,0))) (fun R _=>(.cells #[] 0 (0,0))) (fun _=>0) (dA W) (fun _=>False) (by kernel_rfl) (by kernel_rfl) (by kernel_rfl) rfl (fun _=>rfl) (fun _ h=>h.elim) (fun _ _ h=>h) (by simp) (by simp) (fun R b1=>⟨fun _=>rfl,fun _=>rfl,fun _=>rfl,trivial⟩) (fun _ _ _ _=>rfl) dH EE.out ?zK ?yV;case zK =>
  refine⟨aH,d_ fl,aH,trivial⟩
 case yV =>
  intro cY R G bZ ae;have hS:=ae.same;have aZ:=ae.holds;have bf:=EE.out.size;replace ak:=ak.aY hS (fun h=>h) (by simp);replace EE:=hide (show Ext _ _ from aZ);clear hS bf aZ ae gu;generalize hF:bB _ _ _ _ _ _ _=bH;have bI:bH={ tmps:=#[.int .i64 e,C,(yj g0 0:H),.int .i64 0,.int .i64 e,.bool true,.bool false,C,C,C],defers:=[] }:=by subst hF;kernel_rfl
  clear hF;subst bI;go_upto_region 3 with fail
  have gu:=ak.lt;refine eB [.q,.q,.so 0,.q] [0,0,0,0] (fun R=>[.int .i64 e,.agg (aI e 0 0 0 0 z21),C,.int .i64 0]) (fun _=>(.cells #[] 0 (0,0))) (fun R _=>(.cells (aI e 0 0 0 0 z21) 33 (0,0))) (fun _=>g0) (dA W) (fun _=>False) (by kernel_rfl) (by kernel_rfl) (by kernel_rfl) rfl (fun _=>rfl) (fun _ h=>h.elim) (fun _ _ h=>h) (by intro c hc;simp at hc;(try subst hc);(try simp only);omega) (by intro c c' h1 h2 _;simp at h1 h2;omega) (fun R b1=>⟨fun _=>rfl,fun _=>rfl,fun _=>rfl,fun _=>rfl,trivial⟩) (fun _ _ _ _=>rfl) dH EE.out ?jA ?jm;case jA =>
   refine⟨aH,?_,?_,aH,trivial⟩
   ·refine cj fun R s w' aw hs hw ha=>?_
    generalize hA:bB _ _ _ _ _ _ _=c3;refine pD (vs:=#[(0,.int .i64 e)]) rfl ?_ (Jy e);subst hA;kernel_rfl
   ·refine il (c:=0) (Ty:=?tK) (p:=?ud) (x:=?ur) g0 ?lZ ?E9 ?jE ?gA ?me ?hO ?mb ?gx ?CX ?lX ?_;case gA=>exact rfl
    case me=>exact rfl
    case lZ=>exact(fun R=>(.cells (aI e 0 0 0 0 z21) 33 (0,0)))
    case E9=>exact(fun R=>.pointer (some ⟨g0,0,none⟩))
    case jE=>exact(fun R=>.agg (aI e 0 0 0 0 z21))
    case hO=>exact(fun R=>rfl)
    case mb=>exact rfl
    case gx=>exact cu rfl
    case CX =>
     intro R;kernel_rfl
    case lX =>
     intro R;kernel_rfl
    intro R s ρ w aw hs hp hx hz;refine⟨lI (g:=g0) rfl hp hx (hz.trans ak) eW (rfl) (hR rfl) (jU iV),fun aT hF=>dM aw hF lh⟩
  case jm =>
   intro cY R G cN ae;have hS:=ae.same;have aZ:=ae.holds;have bf:=EE.out.size;replace ak:aG cN g0 33 (aI e 0 0 0 0 z21):=ae.ep 2 (List.mem_range.2 (show 2<4 by decide)) 0 rfl;replace EE:=hide (show Ext _ _ from aZ);clear hS bf aZ ae gu;generalize hF:bB _ _ _ _ _ _ _=bH;have bI:bH={ tmps:=#[.int .i64 e,C,(yj g0 0:H),.int .i64 0,.int .i64 e,.bool true,.bool false,C,.int .i64 e,.agg (aI e 0 0 0 0 z21)],defers:=[] }:=by subst hF;kernel_rfl
   clear hF;subst bI;go_wp2_with fail
   exact B7 (kg (p:=2) (u:=3) (ty:=33) rfl _ _ _ 33 (aI e 0 0 0 0 z21) _ rfl ak jC rfl (by rw[eW];kernel_rfl)) rfl ⟨by kernel_rfl,EE.out⟩
theorem ajO(e:Int)(W:J)(fl:Hid (∀ w,M I 35 #[.int .i64 e] w (aP (.bool false) w))):M I 11 #[.int .i64 e] W (aP (.tuple #[.agg (bL),.int .i64 9]) W):=by
 have ak:=aG.new W 33 bL;have EE:=hide (aA W (.cells bL 33));obtain⟨bG,bD⟩:=aM ((W.alloc (.cells bL 33)));obtain⟨g0,af⟩:∃ g,W.heap.size=g:=⟨_,rfl⟩;rw[bD] at ak EE;rw[af] at ak;have lh:W.heap.size<=g0:=by omega
 have aB:=hide bD;have bW:=hide af;clear bD af;go_enter Tryz.func11,Tryz.ntmps11
 go_upto_region 1 with fail
 unfold bL at aB;rw[aB.out,bW.out];clear aB bW;have gu:=ak.lt;refine eB [.q,.q,.q] [0,0,0] (fun R=>[.int .i64 e,.bool false,.bool true]) (fun _=>(.cells #[] 0 (0,0))) (fun R _=>(.cells #[] 0 (0,0))) (fun _=>0) (dA W) (fun _=>False) (by kernel_rfl) (by kernel_rfl) (by kernel_rfl) rfl (fun _=>rfl) (fun _ h=>h.elim) (fun _ _ h=>h) (by simp) (by simp) (fun R b1=>⟨fun _=>rfl,fun _=>rfl,fun _=>rfl,trivial⟩) (fun _ _ _ _=>rfl) dH EE.out ?zK ?yV;case zK =>
  refine⟨aH,d_ fl,aH,trivial⟩
 case yV =>
  intro cY R G bZ ae;have hS:=ae.same;have aZ:=ae.holds;have bf:=EE.out.size;replace ak:=ak.aY hS (fun h=>h) (by simp);replace EE:=hide (show Ext _ _ from aZ);clear hS bf aZ ae gu;generalize hF:bB _ _ _ _ _ _ _=bH;have bI:bH={ tmps:=#[.int .i64 e,C,(yj g0 0:H),.int .i64 0,.int .i64 e,.bool false,.bool true,C,C,C],defers:=[] }:=by subst hF;kernel_rfl
  clear hF;subst bI;go_upto_region 2 with fail
  have gu:=ak.lt;refine eB [.q,.so 0,.q] [0,0,0] (fun R=>[.agg bL,C,.int .i64 9]) (fun _=>(.cells #[] 0 (0,0))) (fun R _=>(.cells bL 33 (0,0))) (fun _=>g0) (dA W) (fun _=>False) (by kernel_rfl) (by kernel_rfl) (by kernel_rfl) rfl (fun _=>rfl) (fun _ h=>h.elim) (fun _ _ h=>h) (by intro c hc;simp at hc;(try subst hc);(try simp only);omega) (by intro c c' h1 h2 _;simp at h1 h2;omega) (fun R b1=>⟨fun _=>rfl,fun _=>rfl,fun _=>rfl,trivial⟩) (fun _ _ _ _=>rfl) dH EE.out ?ER ?C5;case ER =>
   refine⟨?_,?_,aH,trivial⟩
   ·refine cj fun R s w' aw hs hw ha=>?_
    generalize hA:bB _ _ _ _ _ _ _=c3;refine pD (vs:=#[]) rfl ?_ (CF);subst hA;kernel_rfl
   ·refine il (c:=0) (Ty:=?XT) (p:=?aju) (x:=?anW) g0 ?Kn ?OZ ?wo ?iR ?NC ?j9 ?M0 ?jo ?JV ?J7 ?_;case iR=>exact rfl
    case NC=>exact rfl
    case Kn=>exact(fun R=>(.cells bL 33 (0,0)))
    case OZ=>exact(fun R=>.pointer (some ⟨g0,0,none⟩))
    case wo=>exact(fun R=>.agg bL)
    case j9=>exact(fun R=>rfl)
    case M0=>exact rfl
    case jo=>exact cu rfl
    case JV =>
     intro R;kernel_rfl
    case J7 =>
     intro R;kernel_rfl
    intro R s ρ w aw hs hp hx hz;refine⟨lI (g:=g0) rfl hp hx (hz.trans ak) eW (rfl) (rfl) (Al),fun aT hF=>dM aw hF lh⟩
  case C5 =>
   intro cY R G c8 ae;have hS:=ae.same;have aZ:=ae.holds;have bf:=EE.out.size;replace ak:aG c8 g0 33 bL:=ae.ep 1 (List.mem_range.2 (show 1<3 by decide)) 0 rfl;replace EE:=hide (show Ext _ _ from aZ);clear hS bf aZ ae gu;generalize hF:bB _ _ _ _ _ _ _=bH;have bI:bH={ tmps:=#[.int .i64 e,C,(yj g0 0:H),.int .i64 9,.int .i64 e,.bool false,.bool true,.agg bL,C,C],defers:=[] }:=by subst hF;kernel_rfl
   clear hF;subst bI;go_wp2_with fail
   exact B7 (kg (p:=2) (u:=3) (ty:=33) rfl _ _ _ 33 (bL) _ rfl ak jC rfl (by rw[eW];kernel_rfl)) rfl ⟨by kernel_rfl,EE.out⟩
theorem Vi(e t v:Int)(W:J)(ks:Hid (∀ w,M I 29 #[] w (aP (.agg c9) w))):M I 72 #[.int .i64 e,.agg (bO t v)] W (aP (.agg (aI e 1 t v t c9)) W):=by
 have aq:=(aG.new W 23 (bO t v)).alloc (.cells bL 33);have ag:=aG.new (W.alloc (.cells (bO t v) 23)) 33 bL;rw[iY] at ag;have EE:=hide ((aA W (.cells (bO t v) 23)).trans (aA _ (.cells bL 33)));obtain⟨bG,bD⟩:=aM (((W.alloc (.cells (bO t v) 23)).alloc (.cells bL 33)));obtain⟨g0,af⟩:∃ g,W.heap.size=g:=⟨_,rfl⟩;rw[bD] at aq ag EE;rw[af] at aq ag;have r9:W.heap.size<=g0:=by omega
 have lj:W.heap.size<=g0+1:=by omega
 have aB:=hide bD;have bW:=hide af;clear bD af;go_enter Tryz.func72,Tryz.ntmps72
 go_upto_region 1 with fail
 unfold bL at aB;rw[aB.out,bW.out];clear aB bW;have gM:=aq.lt;have cP:=ag.lt;refine kl [.q,.q,.q,.q,.q,.q,.so 0] [0,0,0,0,0,0,0] (fun R=>[.int .i64 e,.agg (bO t v),yj g0 0,.int .i64 t,.agg c9,.agg (aI e 1 t v t c9),C]) (fun _=>(.cells #[] 0 (0,0))) (fun R _=>(.cells (aI e 1 t v t c9) 33 (0,0))) (fun _=>g0+1) (dA W) (fun _=>False) (by kernel_rfl) (by kernel_rfl) (by kernel_rfl) (by kernel_rfl) rfl (fun _=>rfl) (fun _ h=>h.elim) (fun _ _ h=>h) (by intro c hc;simp at hc;(try subst hc);(try simp only);omega) (by intro c c' h1 h2 _;simp at h1 h2;omega) (fun R b1=>⟨fun _=>rfl,fun _=>rfl,fun _=>rfl,fun _=>rfl,fun _=>rfl,fun _=>rfl,fun _=>rfl,trivial⟩) (fun _ _ _ _=>rfl) dH (EE.out.trans (b5 _)) ?ER ?C5;case ER =>
  refine⟨aH,?_,aH,?_,d_ ks,?_,?_,trivial⟩
  ·refine cj fun R s w' aw hs hw ha=>?_
   have L:=dF (aq.aY hw (fun h=>h) (by intro c hc;simp at hc;(try subst hc);(try simp only);omega)) xQ rfl xB rfl;generalize hA:bB _ _ _ _ _ _ _=c3;refine e7 rfl ?_ L;subst hA;kernel_rfl
  ·refine cj fun R s w' aw hs hw ha=>?_
   have cc:=((show aG w' g0 _ (bO t v) from aq.aY hw (fun h=>h) (by intro c hc;simp at hc;(try subst hc);(try simp only);omega)).cell 0).trans (show (bO t v)[0]?=some (.int .i64 t) from rfl);go_simp
  ·refine cj fun R s w' aw hs hw ha=>?_
   generalize hA:bB _ _ _ _ _ _ _=c3;refine pD (vs:=#[(0,.int .i64 e),(1,.int .i64 1),(2,.agg (bO t v)),(3,.int .i64 t),(4,.agg c9)]) rfl ?_ (Jw e t v);subst hA;kernel_rfl
  ·refine il (c:=0) (Ty:=?tK) (p:=?ud) (x:=?ur) (g0+1) ?lZ ?E9 ?jE ?gA ?me ?hO ?mb ?gx ?CX ?lX ?_;case gA=>exact rfl
   case me=>exact rfl
   case lZ=>exact(fun R=>(.cells (aI e 1 t v t c9) 33 (0,0)))
   case E9=>exact(fun R=>.pointer (some ⟨g0+1,0,none⟩))
   case jE=>exact(fun R=>.agg (aI e 1 t v t c9))
   case hO=>exact(fun R=>rfl)
   case mb=>exact rfl
   case gx=>exact cu rfl
   case CX =>
    intro R;kernel_rfl
   case lX =>
    intro R;kernel_rfl
   intro R s ρ w aw hs hp hx hz;refine⟨lI (g:=(g0+1)) rfl hp hx (hz.trans ag) eW (rfl) (hR rfl) (jU E2),fun aT hF=>dM aw hF lj⟩
 case C5 =>
  intro cY R G c8 ae;have hS:=ae.same;have aZ:=ae.holds;have bf:=EE.out.size;replace aq:=aq.aY hS (fun h=>h) (by intro c hc;simp at hc;(try subst hc);(try simp only);omega);replace ag:aG c8 (g0+1) 33 (aI e 1 t v t c9):=ae.ep 6 (List.mem_range.2 (show 6<7 by decide)) 0 rfl;replace EE:=hide (show Ext _ _ from aZ);clear hS bf aZ ae gM cP;generalize hF:bB _ _ _ _ _ _ _=bH;have bI:bH={ tmps:=#[.int .i64 e,.agg (bO t v),C,(yj g0 0:H),(yj (g0+1) 0:H),.int .i64 e,.agg (bO t v),(yj g0 0:H),.int .i64 t,.agg c9,.agg (aI e 1 t v t c9)],defers:=[] }:=by subst hF;kernel_rfl
  clear hF;subst bI;go_wp2_with fail
  exact B7 (results_cell_row (p:=4) (ty:=33) rfl _ _ _ 33 (aI e 1 t v t c9) (0,0) _ rfl ag jC rfl (by rw[eW,hR rfl])) rfl ⟨rfl,EE.out⟩
theorem Vm(e n t v l:Int)(K:Array H)(cS:K.size=21)(eI:K.all (·.oneCell')=true)(S:Array H)(tn:S.size=10)(zH:S.all (·.oneCell')=true)(W:J)(gR:Hid (∀ w,M I 31 #[.agg K] w (aP (.agg S) w))):M I 73 #[.agg (aI e n t v l K)] W (aP (.agg (j_ n v S)) W):=by
 have eX:=hR (e:=e) (n:=n) (t:=t) (v:=v) (l:=l) cS;have kf:=jU (e:=e) (n:=n) (t:=t) (v:=v) (l:=l) eI;obtain⟨f0,f1,f2,f3,f4,fs,fk⟩:=nX (e:=e) (n:=n) (t:=t) (v:=v) (l:=l) cS;obtain⟨X,dk⟩:=aM (aI e n t v l K);rw[dk] at eX kf f0 f1 f2 f3 f4 fs fk |-;clear dk;have aS:=(aG.new W 33 X).alloc (.cells z12 55);have ak:=aG.new (W.alloc (.cells X 33)) 55 z12;rw[iY] at ak;have EE:=hide ((aA W (.cells X 33)).trans (aA _ (.cells z12 55)));obtain⟨bG,bD⟩:=aM (((W.alloc (.cells X 33)).alloc (.cells z12 55)));obtain⟨g0,af⟩:∃ g,W.heap.size=g:=⟨_,rfl⟩;rw[bD] at aS ak EE;rw[af] at aS ak;have wK:W.heap.size<=g0:=by omega
 have lh:W.heap.size<=g0+1:=by omega
 have aB:=hide bD;have bW:=hide af;clear bD af;go_enter Tryz.func73,Tryz.ntmps73
 go_upto_region 1 with fail
 unfold z12 at aB;rw[aB.out,bW.out];clear aB bW;have uG:=aS.lt;have gu:=ak.lt;refine kl [.q,.q,.q,.q,.q,.q,.q,.q,.q,.so 0] [0,0,0,0,0,0,0,0,0,0] (fun R=>[yj g0 1,.int .i64 n,yj g0 2,yj g0 3,.int .i64 v,yj g0 5,.agg K,.agg S,.agg (j_ n v S),C]) (fun _=>(.cells #[] 0 (0,0))) (fun R _=>(.cells (j_ n v S) 55 (0,0))) (fun _=>g0+1) (dA W) (fun _=>False) (by kernel_rfl) (by kernel_rfl) (by kernel_rfl) (by kernel_rfl) rfl (fun _=>rfl) (fun _ h=>h.elim) (fun _ _ h=>h) (by intro c hc;simp at hc;(try subst hc);(try simp only);omega) (by intro c c' h1 h2 _;simp at h1 h2;omega) (fun R b1=>⟨fun _=>rfl,fun _=>rfl,fun _=>rfl,fun _=>rfl,fun _=>rfl,fun _=>rfl,fun _=>rfl,fun _=>rfl,fun _=>rfl,fun _=>rfl,trivial⟩) (fun _ _ _ _=>rfl) dH (EE.out.trans (b5 _)) ?NG ?J8;case NG =>
  refine⟨aH,?_,aH,aH,?_,aH,?_,d_ gR,?_,?_,trivial⟩
  ·refine cj fun R s w' aw hs hw ha=>?_
   have cc:=((show aG w' g0 _ X from aS.aY hw (fun h=>h) (by intro c hc;simp at hc;(try subst hc);(try simp only);omega)).cell 1).trans (f1);go_simp
  ·refine cj fun R s w' aw hs hw ha=>?_
   have cc:=((show aG w' g0 _ X from aS.aY hw (fun h=>h) (by intro c hc;simp at hc;(try subst hc);(try simp only);omega)).cell 3).trans (f3);go_simp
  ·refine cj fun R s w' aw hs hw ha=>?_
   have L:=pH (aS.aY hw (fun h=>h) (by intro c hc;simp at hc;(try subst hc);(try simp only);omega)) _ _ fV rfl 5 21 ei (by rw[eX];first|decide|omega) _ (fk);generalize hA:bB _ _ _ _ _ _ _=c3;refine e7 rfl ?_ L;subst hA;kernel_rfl
  ·refine cj fun R s w' aw hs hw ha=>?_
   generalize hA:bB _ _ _ _ _ _ _=c3;refine pD (vs:=#[(0,.int .i64 n),(1,.int .i64 v),(2,.agg S)]) rfl ?_ (Ru n v tn);subst hA;kernel_rfl
  ·refine il (c:=0) (Ty:=?XM) (p:=?ajo) (x:=?anQ) (g0+1) ?Kh ?OY ?wm ?po ?Nw ?sW ?MU ?o_ ?JU ?J1 ?_;case po=>exact rfl
   case Nw=>exact rfl
   case Kh=>exact(fun R=>(.cells (j_ n v S) 55 (0,0)))
   case OY=>exact(fun R=>.pointer (some ⟨g0+1,0,none⟩))
   case wm=>exact(fun R=>.agg (j_ n v S))
   case sW=>exact(fun R=>rfl)
   case MU=>exact rfl
   case o_=>exact cu rfl
   case JU =>
    intro R;kernel_rfl
   case J1 =>
    intro R;kernel_rfl
   intro R s ρ w aw hs hp hx hz;refine⟨lI (g:=(g0+1)) rfl hp hx (hz.trans ak) TI (rfl) (Hd tn) (T2 zH),fun aT hF=>dM aw hF lh⟩
 case J8 =>
  intro cY R G xT ae;have hS:=ae.same;have aZ:=ae.holds;have bf:=EE.out.size;replace aS:=aS.aY hS (fun h=>h) (by intro c hc;simp at hc;(try subst hc);(try simp only);omega);replace ak:aG xT (g0+1) 55 (j_ n v S):=ae.ep 9 (List.mem_range.2 (show 9<10 by decide)) 0 rfl;replace EE:=hide (show Ext _ _ from aZ);clear hS bf aZ ae uG gu;generalize hF:bB _ _ _ _ _ _ _=bH;have bI:bH={ tmps:=#[.agg X,(yj g0 0:H),(yj (g0+1) 0:H),(yj g0 1:H),.int .i64 n,(yj g0 2:H),(yj g0 3:H),.int .i64 v,(yj g0 5:H),.agg K,.agg S,.agg (j_ n v S)],defers:=[] }:=by subst hF;kernel_rfl
  clear hF;subst bI;go_wp2_with fail
  exact B7 (results_cell_row (p:=2) (ty:=55) rfl _ _ _ 55 (j_ n v S) (0,0) _ rfl ak HZ rfl (by rw[TI,Hd tn])) rfl ⟨rfl,EE.out⟩
theorem aj1(e n t v l:Int)(K:Array H)(cS:K.size=21)(eI:K.all (·.oneCell')=true)(W:J)(w7 kM bA gd BK:Bool)(fl:Hid (∀ w,M I 35 #[.int .i64 e] w (aP (.bool w7) w)))(ks:Hid (∀ w,M I 29 #[] w (aP (.agg c9) w)))(kv:Hid (∀ w,M I 69 #[.agg K] w (aP (.bool gd) w)))
 (tW:Hid (n=0->∀ w,(binOp .eql 33 (.agg (aI e n t v l K)) (.agg (aI e 0 0 0 0 z21))).run I w=.ok (.bool kM) w)) (sY:Hid (∀ w,(binOp .eql 31 (.agg K) (.agg c9)).run I w=.ok (.bool bA) w)) (fo:K[0]?=some (.bool BK)) (r:Bool) (aD:(w7&&(if n=0 then kM else if n=1 then (decide (l=t)&&bA) else (decide (1<n)&&(decide (n<=1073741824)&&(decide (t<l)&&(gd&&!BK))))))=r) :
 M I 42 #[.agg (aI e n t v l K)] W (aP (.bool r) W):=by
 have eX:=hR (e:=e) (n:=n) (t:=t) (v:=v) (l:=l) cS;have kf:=jU (e:=e) (n:=n) (t:=t) (v:=v) (l:=l) eI;obtain⟨f0,f1,f2,f3,f4,fs,fk⟩:=nX (e:=e) (n:=n) (t:=t) (v:=v) (l:=l) cS;have Ko:(aI e n t v l K)[5]?=some (.bool BK):=(akX cS).trans fo;clear fo;obtain⟨X,dk⟩:=aM (aI e n t v l K);rw[dk] at eX kf f0 f1 f2 f3 f4 fs fk Ko tW |-;clear dk;have aS:=aG.new W 33 X;have EE:=hide (aA W (.cells X 33));obtain⟨bG,bD⟩:=aM ((W.alloc (.cells X 33)));obtain⟨g0,af⟩:∃ g,W.heap.size=g:=⟨_,rfl⟩;rw[bD] at aS EE;rw[af] at aS;have wK:W.heap.size<=g0:=by omega
 have aB:=hide bD;have bW:=hide af;clear bD af;go_enter Tryz.func42,Tryz.ntmps42
 go_upto_region 1 with fail
 rw[aB.out,bW.out];clear aB bW;cases w7 with
 | false =>
  obtain rfl:false=r:=aD;clear ks kv tW sY;have yN:=fun d os=>(((aS).ext (aX bG d os)).cell 0).trans (f0)
  refine eK ?_;repeat (first|go_big_quiet_step (first|with_reducible exact dK (fl.out _))|quiet_step (first|with_reducible exact dK (fl.out _)))
  refine B' ?_;intro _ bj;obtain⟨⟨aQ,osq⟩,cq⟩:=bj;subst cq;replace aS:=(aS).ext (aX bG aQ osq);replace EE:=hide (EE.out.trans (aX bG aQ osq));obtain⟨bp,eF⟩:∃ w,grow (aw5 bG aQ) osq=w:=⟨_,rfl⟩;rw[eF] at EE aS |-;clear eF yN;go_wp2_with fail
  go_ret;exact⟨rfl,EE.out⟩
 | true =>
  rw[Bool.true_and] at aD;have ZI:=fun d os=>(((aS).ext (aX bG d os)).cell 0).trans (f0)
  refine eK ?_;repeat (first|go_big_quiet_step (first|with_reducible exact dK (fl.out _))|quiet_step (first|with_reducible exact dK (fl.out _)))
  refine B' ?_;intro _ bj;obtain⟨⟨aQ,osq⟩,cq⟩:=bj;subst cq;replace aS:=(aS).ext (aX bG aQ osq);replace EE:=hide (EE.out.trans (aX bG aQ osq));obtain⟨xV,Tw⟩:∃ w,grow (aw5 bG aQ) osq=w:=⟨_,rfl⟩;rw[Tw] at EE aS |-;clear Tw ZI;go_upto_region 3 with fail
  by_cases h0:n=0
  ·have d0:(n==0)=true:=by rw[beq_iff_eq];exact h0
   obtain rfl:kM=r:=by rw[if_pos h0] at aD;exact aD
   replace tW:=hide (tW.out h0);clear aD h0 kv sY ks;have ZJ:=fun d os=>(((aS).ext (aX xV d os)).cell 1).trans (f1)
   refine eK ?_;repeat (first|go_big_quiet_step (fail)|quiet_step (fail))
   refine B' ?_;intro _ bj;obtain⟨⟨aQ,osq⟩,cq⟩:=bj;subst cq;replace aS:=(aS).ext (aX xV aQ osq);replace EE:=hide (EE.out.trans (aX xV aQ osq));obtain⟨atc,Tx⟩:∃ w,grow (aw5 xV aQ) osq=w:=⟨_,rfl⟩;rw[Tx] at EE aS |-;clear Tx ZJ;go_upto_region 4 with fail
   have uG:=aS.lt;refine eB [.q,.q,.q,.q,.q,.q] [0,0,0,0,0,0] (fun R=>[.agg X,yj g0 0,.int .i64 e,.agg (aI e 0 0 0 0 z21),.bool kM,.bool kM]) (fun _=>(.cells #[] 0 (0,0))) (fun R _=>(.cells #[] 0 (0,0))) (fun _=>0) (dA W) (fun _=>False) (by kernel_rfl) (by kernel_rfl) (by kernel_rfl) rfl (fun _=>rfl) (fun _ h=>h.elim) (fun _ _ h=>h) (by simp) (by simp) (fun R b1=>⟨fun _=>rfl,fun _=>rfl,fun _=>rfl,fun _=>rfl,fun _=>rfl,fun _=>rfl,trivial⟩) (fun _ _ _ _=>rfl) dH EE.out ?ahY ?aaL;case ahY =>
    refine⟨?_,aH,?_,?_,?_,aH,trivial⟩
    ·refine cj fun R s w' aw hs hw ha=>?_
     have L:=dF (aS.aY hw (fun h=>h) (by simp)) jC rfl eW eX;generalize hA:bB _ _ _ _ _ _ _=c3;refine e7 rfl ?_ L;subst hA;kernel_rfl
    ·refine cj fun R s w' aw hs hw ha=>?_
     have cc:=((show aG w' g0 _ X from aS.aY hw (fun h=>h) (by simp)).cell 0).trans (f0);go_simp
    ·refine cj fun R s w' aw hs hw ha=>?_
     generalize hA:bB _ _ _ _ _ _ _=c3;refine pD (vs:=#[(0,.int .i64 e)]) rfl ?_ (Jy e);subst hA;kernel_rfl
    ·refine cj fun R s w' aw hs hw ha=>?_
     have L:=tW.out w';generalize hA:bB _ _ _ _ _ _ _=c3;refine N7 rfl ?_ ?_ (Kf _ _ (by kernel_rfl) _ _ _ _ w') L
     ·subst hA;kernel_rfl
     ·subst hA;kernel_rfl
   case aaL =>
    intro cY R G atd ae;have hS:=ae.same;have aZ:=ae.holds;have bf:=EE.out.size;replace aS:=aS.aY hS (fun h=>h) (by simp);replace EE:=hide (show Ext _ _ from aZ);clear hS bf aZ ae uG;generalize hF:bB _ _ _ _ _ _ _=bH;have bI:bH={ tmps:=#[.agg X,(yj g0 0:H),.bool kM,(yj g0 0:H),.int .i64 e,.bool true,.bool false,.bool true,(yj g0 1:H),.int .i64 n,.bool true,.agg X,(yj g0 0:H),.int .i64 e,.agg (aI e 0 0 0 0 z21),.bool kM,C,C,C,C,C,C,C,C,C,C,C,C,C,C,C,C,C,C,C,C,C,C,C,C,C,C,C,C,C,C,C,C,C,C,C,C,C,C,C,C,C,C,C],defers:=[] }:=by subst hF;kernel_rfl
    clear hF;subst bI;go_wp2_with fail
    go_ret;exact⟨rfl,EE.out⟩
  have d0:(n==0)=false:=by rw[beq_eq_false_iff_ne];exact h0
  rw[if_neg h0] at aD;clear tW;have ZK:=fun d os=>(((aS).ext (aX xV d os)).cell 1).trans (f1)
  refine eK ?_;repeat (first|go_big_quiet_step (fail)|quiet_step (fail))
  refine B' ?_;intro _ bj;obtain⟨⟨aQ,osq⟩,cq⟩:=bj;subst cq;replace aS:=(aS).ext (aX xV aQ osq);replace EE:=hide (EE.out.trans (aX xV aQ osq));obtain⟨rU,Tz⟩:∃ w,grow (aw5 xV aQ) osq=w:=⟨_,rfl⟩;rw[Tz] at EE aS |-;clear Tz ZK;go_upto_region 5 with fail
  by_cases h1:n=1
  ·have d1:(n==1)=true:=by rw[beq_iff_eq];exact h1
   rw[if_pos h1] at aD;clear h0 h1 kv;by_cases h2:l=t
   ·have d2:(l==t)=true:=by rw[beq_iff_eq];exact h2
    obtain rfl:bA=r:=by rw[decide_eq_true h2] at aD;exact aD
    clear aD h2;have ZL:=fun d os=>(((aS).ext (aX rU d os)).cell 1).trans (f1)
    refine eK ?_;repeat (first|go_big_quiet_step (fail)|quiet_step (fail))
    refine B' ?_;intro _ bj;obtain⟨⟨aQ,osq⟩,cq⟩:=bj;subst cq;replace aS:=(aS).ext (aX rU aQ osq);replace EE:=hide (EE.out.trans (aX rU aQ osq));obtain⟨B6,TA⟩:∃ w,grow (aw5 rU aQ) osq=w:=⟨_,rfl⟩;rw[TA] at EE aS |-;clear TA ZL;go_upto_region 6 with fail
    have ZM:=fun d os=>(((aS).ext (aX B6 d os)).cell 4).trans (f4)
    have ZN:=fun d os=>(((aS).ext (aX B6 d os)).cell 2).trans (f2)
    have ZO:=sY.out;refine wp_region_quiet_below (by kernel_rfl) (by kernel_rfl) ?_;repeat (first|go_big_quiet_step (first|with_reducible exact dK (ks.out _))|(refine iE (by kernel_rfl) rfl rfl (fun w hw=>by obtain⟨⟨d,os⟩,rfl⟩:=hw;exact pH ((aS).ext (aX B6 d os)) _ _ fV rfl 5 21 ei (by rw[eX];first|decide|omega) _ (fk)) ?_)|quiet_step (first|with_reducible exact dK (ks.out _)))
    refine B' ?_;intro _ bj;obtain⟨⟨aQ,osq⟩,cq⟩:=bj;subst cq;replace aS:=(aS).ext (aX B6 aQ osq);replace EE:=hide (EE.out.trans (aX B6 aQ osq));obtain⟨atg,TB⟩:∃ w,grow (aw5 B6 aQ) osq=w:=⟨_,rfl⟩;rw[TB] at EE aS |-;clear TB ZM ZN ZO;go_wp2_with fail
    go_ret;exact⟨rfl,EE.out⟩
   ·have d2:(l==t)=false:=by rw[beq_eq_false_iff_ne];exact h2
    obtain rfl:false=r:=by rw[decide_eq_false h2] at aD;exact aD
    clear aD h2 sY ks;have ZP:=fun d os=>(((aS).ext (aX rU d os)).cell 1).trans (f1)
    refine eK ?_;repeat (first|go_big_quiet_step (fail)|quiet_step (fail))
    refine B' ?_;intro _ bj;obtain⟨⟨aQ,osq⟩,cq⟩:=bj;subst cq;replace aS:=(aS).ext (aX rU aQ osq);replace EE:=hide (EE.out.trans (aX rU aQ osq));obtain⟨Fl,TC⟩:∃ w,grow (aw5 rU aQ) osq=w:=⟨_,rfl⟩;rw[TC] at EE aS |-;clear TC ZP;go_upto_region 6 with fail
    have ZQ:=fun d os=>(((aS).ext (aX Fl d os)).cell 4).trans (f4)
    have ZR:=fun d os=>(((aS).ext (aX Fl d os)).cell 2).trans (f2)
    refine wp_region_quiet_below (by kernel_rfl) (by kernel_rfl) ?_;repeat (first|go_big_quiet_step (fail)|quiet_step (fail))
    refine B' ?_;intro _ bj;obtain⟨⟨aQ,osq⟩,cq⟩:=bj;subst cq;replace aS:=(aS).ext (aX Fl aQ osq);replace EE:=hide (EE.out.trans (aX Fl aQ osq));obtain⟨ath,TD⟩:∃ w,grow (aw5 Fl aQ) osq=w:=⟨_,rfl⟩;rw[TD] at EE aS |-;clear TD ZQ ZR;go_wp2_with fail
    go_ret;exact⟨rfl,EE.out⟩
  have d1:(n==1)=false:=by rw[beq_eq_false_iff_ne];exact h1
  rw[if_neg h1] at aD;clear sY ks h0 h1;have Zr:=fun d os=>(((aS).ext (aX rU d os)).cell 1).trans (f1)
  refine eK ?_;repeat (first|go_big_quiet_step (fail)|quiet_step (fail))
  refine B' ?_;intro _ bj;obtain⟨⟨aQ,osq⟩,cq⟩:=bj;subst cq;replace aS:=(aS).ext (aX rU aQ osq);replace EE:=hide (EE.out.trans (aX rU aQ osq));obtain⟨gT,Tn⟩:∃ w,grow (aw5 rU aQ) osq=w:=⟨_,rfl⟩;rw[Tn] at EE aS |-;clear Tn Zr;go_upto_region 7 with fail
  by_cases p0:1<n
  rotate_left
  ·have k7:decide (1<n)=false:=decide_eq_false p0;obtain rfl:false=r:=by rw[k7] at aD;exact aD
   clear aD p0 kv;have Zs:=fun d os=>(((aS).ext (aX gT d os)).cell 1).trans (f1)
   refine eK ?_;repeat (first|go_big_quiet_step (fail)|quiet_step (fail))
   refine B' ?_;intro _ bj;obtain⟨⟨aQ,osq⟩,cq⟩:=bj;subst cq;replace aS:=(aS).ext (aX gT aQ osq);replace EE:=hide (EE.out.trans (aX gT aQ osq));obtain⟨as7,Tp⟩:∃ w,grow (aw5 gT aQ) osq=w:=⟨_,rfl⟩;rw[Tp] at EE aS |-;clear Tp Zs;go_wp2_with fail
   go_ret;exact⟨rfl,EE.out⟩
  have k7:decide (1<n)=true:=decide_eq_true p0;rw[k7,Bool.true_and] at aD;clear p0;by_cases p1:n<=1073741824
  rotate_left
  ·have q1:decide (n<=1073741824)=false:=decide_eq_false p1;obtain rfl:false=r:=by rw[q1] at aD;exact aD
   clear aD p1 kv;have Zt:=fun d os=>(((aS).ext (aX gT d os)).cell 1).trans (f1)
   refine eK ?_;repeat (first|go_big_quiet_step (fail)|quiet_step (fail))
   refine B' ?_;intro _ bj;obtain⟨⟨aQ,osq⟩,cq⟩:=bj;subst cq;replace aS:=(aS).ext (aX gT aQ osq);replace EE:=hide (EE.out.trans (aX gT aQ osq));obtain⟨as8,Tq⟩:∃ w,grow (aw5 gT aQ) osq=w:=⟨_,rfl⟩;rw[Tq] at EE aS |-;clear Tq Zt;go_wp2_with fail
   go_ret;exact⟨rfl,EE.out⟩
  have q1:decide (n<=1073741824)=true:=decide_eq_true p1;rw[q1,Bool.true_and] at aD;clear p1;by_cases p2:t<l
  rotate_left
  ·have k8:decide (t<l)=false:=decide_eq_false p2;obtain rfl:false=r:=by rw[k8] at aD;exact aD
   clear aD p2 kv;have Zu:=fun d os=>(((aS).ext (aX gT d os)).cell 1).trans (f1)
   have Zv:=fun d os=>(((aS).ext (aX gT d os)).cell 4).trans (f4)
   have Zw:=fun d os=>(((aS).ext (aX gT d os)).cell 2).trans (f2)
   refine eK ?_;repeat (first|go_big_quiet_step (fail)|quiet_step (fail))
   refine B' ?_;intro _ bj;obtain⟨⟨aQ,osq⟩,cq⟩:=bj;subst cq;replace aS:=(aS).ext (aX gT aQ osq);replace EE:=hide (EE.out.trans (aX gT aQ osq));obtain⟨as9,Tr⟩:∃ w,grow (aw5 gT aQ) osq=w:=⟨_,rfl⟩;rw[Tr] at EE aS |-;clear Tr Zu Zv Zw;go_wp2_with fail
   go_ret;exact⟨rfl,EE.out⟩
  have k8:decide (t<l)=true:=decide_eq_true p2;rw[k8,Bool.true_and] at aD;clear p2;cases gd with
  | false =>
   obtain rfl:false=r:=aD;have Zx:=fun d os=>(((aS).ext (aX gT d os)).cell 1).trans (f1)
   have Zy:=fun d os=>(((aS).ext (aX gT d os)).cell 4).trans (f4)
   have Zz:=fun d os=>(((aS).ext (aX gT d os)).cell 2).trans (f2)
   refine eK ?_;repeat (first|go_big_quiet_step (first|with_reducible exact dK (kv.out _))|(refine iE (by kernel_rfl) rfl rfl (fun w hw=>by obtain⟨⟨d,os⟩,rfl⟩:=hw;exact pH ((aS).ext (aX gT d os)) _ _ fV rfl 5 21 ei (by rw[eX];first|decide|omega) _ (fk)) ?_)|quiet_step (first|with_reducible exact dK (kv.out _)))
   refine B' ?_;intro _ bj;obtain⟨⟨aQ,osq⟩,cq⟩:=bj;subst cq;replace aS:=(aS).ext (aX gT aQ osq);replace EE:=hide (EE.out.trans (aX gT aQ osq));obtain⟨as_,Ts⟩:∃ w,grow (aw5 gT aQ) osq=w:=⟨_,rfl⟩;rw[Ts] at EE aS |-;clear Ts Zx Zy Zz;go_wp2_with fail
   go_ret;exact⟨rfl,EE.out⟩
  | true =>
   cases BK with
   | true =>
    obtain rfl:false=r:=aD;have ZA:=fun d os=>(((aS).ext (aX gT d os)).cell 1).trans (f1)
    have ZB:=fun d os=>(((aS).ext (aX gT d os)).cell 4).trans (f4)
    have ZC:=fun d os=>(((aS).ext (aX gT d os)).cell 2).trans (f2)
    have ZD:=fun d os=>(((aS).ext (aX gT d os)).cell 5).trans (Ko)
    refine eK ?_;repeat (first|go_big_quiet_step (first|with_reducible exact dK (kv.out _))|(refine iE (by kernel_rfl) rfl rfl (fun w hw=>by obtain⟨⟨d,os⟩,rfl⟩:=hw;exact pH ((aS).ext (aX gT d os)) _ _ fV rfl 5 21 ei (by rw[eX];first|decide|omega) _ (fk)) ?_)|quiet_step (first|with_reducible exact dK (kv.out _)))
    refine B' ?_;intro _ bj;obtain⟨⟨aQ,osq⟩,cq⟩:=bj;subst cq;replace aS:=(aS).ext (aX gT aQ osq);replace EE:=hide (EE.out.trans (aX gT aQ osq));obtain⟨ata,Tt⟩:∃ w,grow (aw5 gT aQ) osq=w:=⟨_,rfl⟩;rw[Tt] at EE aS |-;clear Tt ZA ZB ZC ZD;go_wp2_with fail
    go_ret;exact⟨rfl,EE.out⟩
   | false =>
    obtain rfl:true=r:=aD;have ZE:=fun d os=>(((aS).ext (aX gT d os)).cell 1).trans (f1)
    have ZF:=fun d os=>(((aS).ext (aX gT d os)).cell 4).trans (f4)
    have ZG:=fun d os=>(((aS).ext (aX gT d os)).cell 2).trans (f2)
    have ZH:=fun d os=>(((aS).ext (aX gT d os)).cell 5).trans (Ko)
    refine eK ?_;repeat (first|go_big_quiet_step (first|with_reducible exact dK (kv.out _))|(refine iE (by kernel_rfl) rfl rfl (fun w hw=>by obtain⟨⟨d,os⟩,rfl⟩:=hw;exact pH ((aS).ext (aX gT d os)) _ _ fV rfl 5 21 ei (by rw[eX];first|decide|omega) _ (fk)) ?_)|quiet_step (first|with_reducible exact dK (kv.out _)))
    refine B' ?_;intro _ bj;obtain⟨⟨aQ,osq⟩,cq⟩:=bj;subst cq;replace aS:=(aS).ext (aX gT aQ osq);replace EE:=hide (EE.out.trans (aX gT aQ osq));obtain⟨atb,Tv⟩:∃ w,grow (aw5 gT aQ) osq=w:=⟨_,rfl⟩;rw[Tv] at EE aS |-;clear Tv ZE ZF ZG ZH;go_wp2_with fail
    go_ret;exact⟨rfl,EE.out⟩
end
section
open Go Go.RowKit Go.Sort
def uQ(g:Nat)(bU:J)(_:Nat)(_:Nat->H)(w:J):Prop:=b3 g bU w
theorem z8{g:Nat}{bU:J}:∀ s R w w',uQ g bU s R w->Below w.heap.size w w'->uQ g bU s R w':=fun _ _ _ _ h k=>b3.more h k
theorem vZ{b:Nat}{bU w aT:J}{f:Obj}(h:b3 b bU w)(hF:m_ w aT b f):b3 b bU aT:=
 ⟨hF.2.2.2.1.trans h.1,hF.2.2.2.2.1.trans h.2.1,hF.2.2.2.2.2.trans h.2.2.1,by rw[hF.2.2.1];exact h.2.2.2.1,fun k aE hb=>(hF.2.1 k hb).trans (h.2.2.2.2 k aE hb)⟩
theorem m_.fR{w aT:J}{g g':Nat}{f:Obj}{t:aw7}{X:Array H}(hF:m_ w aT g f)(h:aG w g' t X)(hn:g'≠g):aG aT g' t X:=(hF.2.1 g' hn).trans h
theorem ui{P:axh}{ops:Array aw4}{o:aw4}{a:Act}{K:Act->J->Prop}{Q:Exit->Act->J->Prop}{w:J}{E:Prop}{ty:aw7}{x:axb}{u v:H}(ky:o.guard=none)(aL:o.op=.load ty x)(hx:a.eval x=u)(aD:(Instr.loadAt ty u).run P w=.ok v w)(h:K (a.put o.dst v) w) :
 if Region.wanted o (yielded ops a.tmps)=true then Oper.wp P o a w K Q else E:=by
 have hw:Region.wanted o (yielded ops a.tmps)=true:=by simp[Region.wanted,ky]
 rw[if_pos hw];unfold Oper.wp axc;simp only[aL,hx,Sem.run_bind,aD,Result.andThen_ok,Sem.run_pure];exact h
theorem rQ{P:axh}{ops:Array aw4}{o:aw4}{a:Act}{K:Act->J->Prop}{Q:Exit->Act->J->Prop}{w:J}{E:Prop}{g:Nat}{f:Obj}(ky:o.guard=none)(hs:oC P a.eval o w g f)(h:∀ aT,m_ w aT g f->K (a.put o.dst C) aT) :
 if Region.wanted o (yielded ops a.tmps)=true then Oper.wp P o a w K Q else E:=by
 have hw:Region.wanted o (yielded ops a.tmps)=true:=by simp[Region.wanted,ky]
 rw[if_pos hw];obtain⟨aT,aD,hF⟩:=hs;unfold Oper.wp;rw[aD];exact h aT hF
theorem anw{P:axh}{ops:Array aw4}{Q:Exit->Act->J->Prop}{i:Nat}{o:aw4}{K:Act->J->Prop}{a:Act}{w:J}(aL:ops[i]?=some o)
 (h:if Region.wanted o (yielded ops a.tmps)=true then Oper.wp P o a w K Q else K (a.put o.dst C) w):wpOp P ops Q i K a w:=by
 unfold wpOp;rw[aL];show if Region.wanted o (yielded ops a.tmps)=true then _ else _
 split
 ·rename_i hw;rw[if_pos hw] at h;exact .inl h
 ·rename_i hw;rw[if_neg hw] at h;exact h
theorem lH{P:axh}{md:Region.Mode}{ops:Array aw4}{Q:Exit->Act->J->Prop}{fuel:Nat}{listed:Array Bool}{a:Act}{w:J}{i:Nat}{o:aw4}{rs:List Nat}(aL:ops[i]?=some o)
 (h:if Region.wanted o (yielded ops a.tmps)=true then Oper.wp P o a w (wpAny P md ops Q fuel (listed.setIfInBounds i true)) Q else wpAny P md ops Q fuel (listed.setIfInBounds i true) (a.put o.dst C) w)
 (hs:AllReady P md ops Q fuel listed a w rs):AllReady P md ops Q fuel listed a w (i :: rs):=fun j aN=>by
 rcases List.mem_cons.1 aN with rfl|aN
 ·exact anw aL h
 ·exact hs j aN
theorem Wg{P:axh}{c:Code}{a f:Act}{W:J}{Q:Exit->Act->J->Prop}(Qe:J->Prop)(hp:∀ c a d v w,Q (.panic c) (Act.put a d v) w->Q (.panic c) a w)(h:∀ Q':Exit->Act->J->Prop,(∀ c a d v w,Q' (.panic c) (Act.put a d v) w->Q' (.panic c) a w)->(∀ w',Qe w'->Q' .normal f w')->c.wp P Q' a W)(k:∀ w',Qe w'->Q .normal f w'):c.wp P Q a W:=h Q hp k
theorem BI{Q':Exit->Act->J->Prop}{a b:Act}{w:J}(h:Q' .normal b w)(e:b=a):Q' .normal a w:=e ▸ h
theorem BR{fn:Func}{p u u2:Tmp}{ty:aw7}(h:fn.results=#[.cell p ty,.tmp u,.tmp u2])(tmps:Array H)(w:J)(g:Nat)(t:aw7)(cs:Array H)(d:TypeDesc)
 (hp:tmps.getD p C=.pointer (some ⟨g,0,none⟩)) (af:aG w g t cs)
 (hu:Tryz.prog.underlying ty=some d) (hd:(match (generalizing:=false) d with|.struct _|.array _ _=>true|_=>false)=true) (hi:(Tryz.prog.info? ty).map (·.size)=some cs.size) :
 (results fn tmps).run I w=.ok (.tuple #[.agg cs,tmps.getD u C,tmps.getD u2 C]) w:=by
 have D6:tmps[p]?.getD C=.pointer (some ⟨g,0,none⟩):=by simpa using hp
 simp[results,h,D6,asAddr,run_loadVar_row w g t ty cs (0,0) d af hu (by cases d<;>first|rfl|exact hd) hi,Sem.run_bind,Result.andThen]
end
section
open Go Go.RowKit Go.Sort
attribute [local go_sem] mg A3 bB BX
abbrev gD:=Int × Int × Fr
def fU(x:gD):Array H:=j_ x.1 x.2.1 (cJ x.2.2)
theorem agl(x:gD):(eA.cat [x]).toArray=fU x:=eA.ahR x
theorem akr(w:J)(parts:Array (Nat × H))(cells:Array H)
 (h:Instr.fill (fun i=>some (i*12,12)) ((Array.range (1*12)).map (z12[·%12]!)) parts.toList=some cells) :
 (Instr.buildSlice 49 1 parts).run I w=.ok (.slice (some ⟨w.heap.size,0,none⟩) 1 1) (w.alloc (.cells cells 55)):=by
 have hi:(Tryz.prog.info? 55).map (fun i=>(i.size,i.zero))=some (12,some (.agg z12)):=by kernel_rfl
 obtain⟨Ep,ad7,hz,e5⟩:∃ Ep,Tryz.prog.info? 55=some Ep/\Ep.zero=some (.agg z12)/\Ep.size=12:=by
  cases aN:Tryz.prog.info? 55 with
  | none=>rw[aN] at hi;cases hi
  | some j =>
   rw[aN] at hi;simp only[Option.map_some,Option.some.injEq,Prod.mk.injEq] at hi;exact⟨j,rfl,hi.2,hi.1⟩
 refine run_buildSlice w 49 55 1 parts cells Ep (.agg z12) (by kernel_rfl) ad7 hz (by rw[e5];decide) (by rw[e5];decide) ?_;rw[e5];exact h
theorem abp(n v:Int){S:Array H}(hS:S.size=10):Instr.fill (fun i=>some (i*12,12)) ((Array.range (1*12)).map (z12[·%12]!)) [(0,.agg (j_ n v S))]=some (j_ n v S):=by
 obtain⟨bt,az,aU,a_,bK,cy,cF,b8,bR,c2,rfl⟩:=Jt hS;clear hS;kernel_rfl
theorem Kg{T:Nat->(Nat->H)->J->Prop}{E:Nat->Prop}{m:Nat}{R:Nat->H}{w:J}{a:Act}{o:aw4}{parts:Array (Nat × axb)}(x:gD)(aL:o.op=.buildSlice 49 1 parts)(hx:(parts.map fun (i,x)=>(i,a.eval x))=#[(0,.agg (fU x))])
 (aw:T (m+1) (mr R m (.slice (some ⟨w.heap.size,0,none⟩) 1 1)) (w.alloc (.cells (fU x) 55))):A3 I T E m R w ((axc a.eval o).run I w):=by
 have aD:=akr w #[(0,.agg (fU x))] (fU x) (abp x.1 x.2.1 (gP x.2.2).size);unfold axc;simp only[aL,hx,Sem.run_bind,aD,Result.andThen_ok,Sem.run_pure];exact⟨aw,Below.vk (Ga _ _)⟩
theorem NS{B:Nat}{w:J}{q:Nat}(x:gD)(h:aG w q 55 (fU x))(bF:B<=q):eA.Own B w (.slice (some ⟨q,0,none⟩) 1 1) [x]:=by
 refine⟨⟨eA.Gg [x],Or.inr ⟨q,1,fU x,rfl,bF,h,Nat.le_refl _,by unfold maxLen;omega,?_,?_⟩⟩,fun _ _=>trivial⟩
 ·exact Hd (gP x.2.2).size
 ·rw[<-agl,List.take_of_length_le (by rw[eA.Gg];exact Nat.le_refl _)]
def w2(bU fQ:J)(x:gD)(s:Nat)(R:Nat->H)(w:J):Prop:=
 Ext bU w/\(1<=s->∃ q,R 0=.slice (some ⟨q,0,none⟩) 1 1/\fQ.heap.size<=q/\aG w q 55 (fU x))
theorem Wa{bU fQ:J}{x:gD}:∀ s R w w',w2 bU fQ x s R w->Below w.heap.size w w'->w2 bU fQ x s R w':=fun s R w w' h k =>
 ⟨h.1.trans k,fun hs=>by
  obtain⟨q,h1,h2,h3⟩:=h.2 hs;exact⟨q,h1,h2,(k.block q h3.lt).trans h3⟩⟩
theorem alk{bU fQ w aT:J}{x:gD}{s:Nat}{R:Nat->H}{g:Nat}{f:Obj}(h:w2 bU fQ x s R w)(hF:m_ w aT g f)(af:bU.heap.size<=g)(hs:g<fQ.heap.size):w2 bU fQ x s R aT:=
 ⟨dM h.1 hF af,fun k=>by
  obtain⟨q,h1,h2,h3⟩:=h.2 k;exact⟨q,h1,h2,hF.fR h3 (by omega)⟩⟩
theorem Wb{bU fQ w:J}{x:gD}{R:Nat->H}(h:w2 bU fQ x 0 R w)(hs:fQ.heap.size<=w.heap.size):w2 bU fQ x 1 (mr R 0 (.slice (some ⟨w.heap.size,0,none⟩) 1 1)) (w.alloc (.cells (fU x) 55)):=
 ⟨h.1.trans (aA _ _),fun _=>⟨w.heap.size,rfl,hs,aG.new w _ _⟩⟩
def cV(X:Array H)(q:H):Array H:=X++#[q]
theorem afa:(Tryz.prog.info? 86).map (·.size)=some 27:=by kernel_rfl
def z27:Array H:=#[.int .i64 0,.int .i64 0,.int .i64 0,.int .i64 0,.int .i64 0,.bool false,.bool false,.int .u64 0,.int .u64 0,.int .u64 0,.int .u64 0,.bool false,.int .u64 0,.int .u64 0,.int .u64 0,.int .u64 0,.bool false,.int .u64 0,.int .u64 0,.int .u64 0,.int .u64 0,.bool false,.int .u64 0,.int .u64 0,.int .u64 0,.int .u64 0,.slice none 0 0]
section
variable {e n t v l:Int}{K:Array H}{q:H}
theorem qP(cQ:K.size=21):(cV (aI e n t v l K) q).size=27:=by simp[cV,aI,cQ]
theorem akM(eI:K.all (·.oneCell')=true)(aib:q.oneCell'=true):(cV (aI e n t v l K) q).all (·.oneCell')=true:=Jr (jU eI) (by simp[aib])
theorem qe(cQ:K.size=21):(cV (aI e n t v l K) q)[0]?=some (.int .i64 e)/\(cV (aI e n t v l K) q)[1]?=some (.int .i64 n)/\(cV (aI e n t v l K) q)[2]?=some (.int .i64 t)/\(cV (aI e n t v l K) q)[3]?=some (.int .i64 v)/\(cV (aI e n t v l K) q)[4]?=some (.int .i64 l)/\(cV (aI e n t v l K) q)[26]?=some q/\(cV (aI e n t v l K) q).extract 0 (0+26)=aI e n t v l K/\(cV (aI e n t v l K) q).extract 5 (5+21)=K:=by
 obtain⟨bt,az,aU,a_,bK,cy,cF,b8,bR,c2,kN,q8,pY,q9,q_,rf,rh,ri,rj,rk,rl,rfl⟩:=q5 cQ;clear cQ;refine⟨?_,?_,?_,?_,?_,?_,?_,?_⟩<;>kernel_rfl
theorem EZ(cQ:K.size=21)(x:Int)(r:H):(cV (aI e n t v l K) q).setIfInBounds 1 (.int .i64 x)=cV (aI e x t v l K) q/\(cV (aI e n t v l K) q).setIfInBounds 4 (.int .i64 x)=cV (aI e n t v x K) q/\(cV (aI e n t v l K) q).setIfInBounds 26 r=cV (aI e n t v l K) r:=by
 obtain⟨bt,az,aU,a_,bK,cy,cF,b8,bR,c2,kN,q8,pY,q9,q_,rf,rh,ri,rj,rk,rl,rfl⟩:=q5 cQ;clear cQ;refine⟨?_,?_,?_⟩<;>kernel_rfl
theorem Ox{w:J}{g:Nat}{D:Array H}(h:aG w g 86 (cV (aI e n t v l K) q))(cQ:K.size=21)(hH:D.size=21)(rL:D.all (·.oneCell')=true):(Instr.storeAt 31 (.pointer (some ⟨g,5,none⟩)) (.agg D)).run I w=.ok () (w.setRow g (cV (aI e n t v l D) q)):=
 zT h _ 5 21 ei (by rw[qP cQ];omega) D hH rL _ (by
  obtain⟨bt,az,aU,a_,bK,cy,cF,b8,bR,c2,kN,q8,pY,q9,q_,rf,rh,ri,rj,rk,rl,rfl⟩:=q5 cQ;obtain⟨d0,d1,d2,d3,d4,d5,d6,d7,d8,d9,d10,d11,d12,d13,d14,d15,d16,d17,d18,d19,d20,rfl⟩:=q5 hH;clear cQ hH h rL;kernel_rfl)
theorem VT{w:J}{g:Nat}{e' n' t' v' l':Int}{D:Array H}(h:aG w g 86 (cV (aI e n t v l K) q))(cQ:K.size=21)(hH:D.size=21)(rL:D.all (·.oneCell')=true):(Instr.storeAt 33 (.pointer (some ⟨g,0,none⟩)) (.agg (aI e' n' t' v' l' D))).run I w=.ok () (w.setRow g (cV (aI e' n' t' v' l' D) q)):=
 zT h _ 0 26 eW (by rw[qP cQ];omega) _ (hR hH) (jU rL) _ (by
  obtain⟨bt,az,aU,a_,bK,cy,cF,b8,bR,c2,kN,q8,pY,q9,q_,rf,rh,ri,rj,rk,rl,rfl⟩:=q5 cQ;obtain⟨d0,d1,d2,d3,d4,d5,d6,d7,d8,d9,d10,d11,d12,d13,d14,d15,d16,d17,d18,d19,d20,rfl⟩:=q5 hH;clear cQ hH h rL;kernel_rfl)
theorem YE(e n t v l:Int)(cQ:K.size=21):Tryz.prog.built 86 [(0,.agg (aI e n t v l K))]=some (cV (aI e n t v l K) (.slice none 0 0)):=by
 obtain⟨bt,az,aU,a_,bK,cy,cF,b8,bR,c2,kN,q8,pY,q9,q_,rf,rh,ri,rj,rk,rl,rfl⟩:=q5 cQ;clear cQ;kernel_rfl
end
theorem So{w w':J}{row:Option Nat}(h:w.grownBy w' row):jI (fun k=>row=some k) w w':=⟨h.os,h.tape,h.output,h.size,fun k aE hn=>h.block k aE (fun e=>hn e.symm)⟩
theorem jI.trans{E:Nat->Prop}{w aT bp:J}(h:jI E w aT)(k:jI E aT bp):jI E w bp:=
 ⟨k.1.trans h.1,k.2.1.trans h.2.1,k.2.2.1.trans h.2.2.1,Nat.le_trans h.2.2.2.1 k.2.2.2.1,fun j aN hn=>(k.2.2.2.2 j (Nat.lt_of_lt_of_le aN h.2.2.2.1) hn).trans (h.2.2.2.2 j aN hn)⟩
theorem jI.mono{E F:Nat->Prop}{w aT:J}(h:jI E w aT)(k:∀ j,E j->F j):jI F w aT:=⟨h.1,h.2.1,h.2.2.1,h.2.2.2.1,fun j aN hn=>h.2.2.2.2 j aN (fun e=>hn (k j e))⟩
theorem jI.filled{E:Nat->Prop}{w aT:J}{g:Nat}{f:Obj}(hF:m_ w aT g f)(ad:E g):jI E w aT:=⟨hF.2.2.2.1,hF.2.2.2.2.1,hF.2.2.2.2.2,by rw[hF.2.2.1];exact Nat.le_refl _,fun j _ hn=>hF.2.1 j (fun e=>hn (by rw[e];exact ad))⟩
theorem aa'{T:Nat->(Nat->H)->J->Prop}{E:Nat->Prop}{m:Nat}{R:Nat->H}{w:J}{a:Act}{o:aw4}{s x:axb}{B q:Nat}{Q:H}{ls:List gD}{li:gD}
 (aL:o.op=.call { callee:=.builtin .append,args:=#[s,x],argTypes:=#[49,49] }) (hs:a.eval s=Q) (hx:a.eval x=.slice (some ⟨q,0,none⟩) 1 1) (gn:eA.Own B w Q ls) (hat:aG w q 55 (fU li)) (hlen:ls.length<=1099511627776) (bF:B<=w.heap.size)
 (h:∀ v' w',eA.Own B w' v' (ls++[li])->w.grownBy w' Q.ownBlock->(v'.ownBlock=Q.ownBlock\/v'.ownBlock=some w.heap.size)->T (m+1) (mr R m v') w'/\jI E w w'):A3 I T E m R w ((axc a.eval o).run I w):=by
 have h1:eA.Own 0 w (.slice (some ⟨q,0,none⟩) 1 1) [li]:=NS li hat (Nat.zero_le _);obtain⟨v',w',qG,h2,h3,h4⟩:=eA.VL B w o.type Q ls [li] gn (some ⟨q,0,none⟩) 1 1 h1.tp rfl (by show (ls.length+1)*96<=_;omega) (by simp;omega) bF;have h5:=h v' w' h2 h3 h4;have aD:(Builtin.append_ #[49,49] o.type #[Q,.slice (some ⟨q,0,none⟩) 1 1]).run I w=.ok v' w':=qG;unfold axc;simp only[aL,resolve,invoke,builtin,Sem.run_bind,Sem.run_pure,Result.andThen_ok,List.map_toArray,List.map_cons,List.map_nil,hs,hx,aD];exact h5
def uN(g B:Nat)(fQ:J)(Q:H)(ls:List gD)(x:gD)(s:Nat)(R:Nat->H)(w:J):Prop:=
 jI (fun k=>k=g\/Q.ownBlock=some k) fQ w/\(s<=1->eA.Own B w Q ls)/\(s=1->∃ q,R 0=.slice (some ⟨q,0,none⟩) 1 1/\fQ.heap.size<=q/\aG w q 55 (fU x))/\(2<=s->∃ A n c,R 1=.slice A n c/\n=(ls++[x]).length/\n<=c/\eA.Own B w (.slice A n c) (ls++[x])/\((Value.slice A n c).ownBlock=Q.ownBlock\/∃ k,fQ.heap.size<=k/\(Value.slice A n c).ownBlock=some k))
theorem aln{g B:Nat}{fQ:J}{Q:H}{ls:List gD}{x:gD}:∀ s R w w',uN g B fQ Q ls x s R w->Below w.heap.size w w'->uN g B fQ Q ls x s R w':=fun s R w w' h k =>
 ⟨h.1.trans (Below.vk k),fun hs=>(h.2.1 hs).ext k,fun hs=>by
  obtain⟨q,h1,h2,h3⟩:=h.2.2.1 hs;exact⟨q,h1,h2,(k.block q h3.lt).trans h3⟩,fun hs=>by
  obtain⟨A,n,c,h1,h2,h3,h4,h5⟩:=h.2.2.2 hs;exact⟨A,n,c,h1,h2,h3,h4.ext k,h5⟩⟩
theorem NR{B g:Nat}{w aT:J}{f:Obj}{v:H}{ls:List gD}(h:eA.Own B w v ls)(hF:m_ w aT g f)(hn:v.ownBlock≠some g):eA.Own B aT v ls:=by
 refine⟨?_,h.2⟩;obtain⟨h1,h2|⟨q,cap,cur,aF,af,hh,r⟩⟩:=h.1
 ·exact⟨h1,Or.inl h2⟩
 ·refine⟨h1,Or.inr ⟨q,cap,cur,aF,af,?_,r⟩⟩;rw[hF.2.1 q (fun e=>hn (by rw[aF,e];rfl))];exact hh
theorem Hs{B:Nat}{E:Nat->Prop}{w aT:J}{v:H}{ls:List gD}(h:eA.Own B w v ls)(k:jI E w aT)(hn:∀ j,v.ownBlock=some j->¬ E j):eA.Own B aT v ls:=by
 refine⟨?_,h.2⟩;obtain⟨h1,h2|⟨q,cap,cur,aF,af,hh,r⟩⟩:=h.1
 ·exact⟨h1,Or.inl h2⟩
 ·refine⟨h1,Or.inr ⟨q,cap,cur,aF,af,?_,r⟩⟩;rw[k.2.2.2.2 q (Array.getElem?_eq_some_iff.1 hh).1 (hn q (by rw[aF];rfl))];exact hh
theorem alq{g B s:Nat}{fQ w aT:J}{Q:H}{ls:List gD}{x:gD}{R:Nat->H}{f:Obj}(h:uN g B fQ Q ls x s R w)(hF:m_ w aT g f)(hs:2<=s)(af:g<fQ.heap.size)(aO:Q.ownBlock≠some g):uN g B fQ Q ls x s R aT:=
 ⟨h.1.trans (jI.filled hF (Or.inl rfl)),fun k=>by omega,fun k=>by omega,fun k=>by
  obtain⟨A,n,c,h1,h2,h3,h4,h5⟩:=h.2.2.2 k;refine⟨A,n,c,h1,h2,h3,NR h4 hF ?_,h5⟩;rcases h5 with h5|⟨j,aN,h5⟩
  ·rw[h5];exact aO
  ·rw[h5];intro e;cases e;omega⟩
theorem alo{g B:Nat}{fQ w:J}{Q:H}{ls:List gD}{x:gD}{R:Nat->H}(h:uN g B fQ Q ls x 0 R w)(hs:fQ.heap.size<=w.heap.size):uN g B fQ Q ls x 1 (mr R 0 (.slice (some ⟨w.heap.size,0,none⟩) 1 1)) (w.alloc (.cells (fU x) 55)):=
 ⟨h.1.trans (Below.vk (Ga _ _)),fun _=>(h.2.1 (by omega)).alloc _,fun _=>⟨w.heap.size,rfl,hs,aG.new w _ _⟩,fun k=>by omega⟩
theorem alp{g B:Nat}{fQ w w':J}{Q v':H}{ls:List gD}{x:gD}{R:Nat->H}(h:uN g B fQ Q ls x 1 R w)(h2:eA.Own B w' v' (ls++[x]))(h3:w.grownBy w' Q.ownBlock)(h4:v'.ownBlock=Q.ownBlock\/v'.ownBlock=some w.heap.size)(hs:fQ.heap.size<=w.heap.size):uN g B fQ Q ls x 2 (mr R 1 v') w'/\jI (fun k=>Q.ownBlock=some k) w w':=by
 refine⟨⟨h.1.trans ((So h3).mono fun j e=>Or.inr e),fun k=>by omega,fun k=>by omega,fun _=>?_⟩,So h3⟩;obtain⟨A,c,e,hc,_,_⟩:=h2.at_;refine⟨A,_,c,by show mr R 1 v' 1=_;unfold mr;rw[if_pos rfl];exact e,rfl,hc,by rw[<-e];exact h2,?_⟩;rw[<-e];rcases h4 with h4|h4
 ·exact Or.inl h4
 ·exact Or.inr ⟨_,hs,h4⟩
def wy(g B:Nat)(W:J)(X:Array H)(Q:H)(ls:List gD)(e:axa)(w':J):Prop:=e=.returned (.tuple #[])/\∃ A n c,n=ls.length/\n<=c/\aG w' g 86 (cV X (.slice A n c))/\eA.Own B w' (.slice A n c) ls/\(Value.slice A n c).ownBlock≠some g/\jI (fun k=>k=g\/Q.ownBlock=some k) W w'
theorem xR{g:Nat}{W w:J}(h:b3 g W w):jI (fun k=>k=g) W w:=⟨h.1,h.2.1,h.2.2.1,h.2.2.2.1,fun k aE hn=>h.2.2.2.2 k aE hn⟩
theorem UU(e n t v l:Int)(K:Array H)(cS:K.size=21)(eI:K.all (·.oneCell')=true)(g:Nat)(Q:H)(W:J)(bJ:aG W g 86 (cV (aI e n t v l K) Q))(d0:decide (0<n)=false):M I 49 #[yj g 0] W (aP (.tuple #[]) W):=by
 obtain⟨f0,f1,f2,f3,f4,f26,A6,fk⟩:=qe (e:=e) (n:=n) (t:=t) (v:=v) (l:=l) (q:=Q) cS;have BW:=qP (e:=e) (n:=n) (t:=t) (v:=v) (l:=l) (q:=Q) cS;have EE:Hid (Ext W W):=Ext.refl _;go_enter Tryz.func49,Tryz.ntmps49
 go_upto_region 0 with fail
 have yN:=fun d os=>(((bJ).ext (aX W d os)).cell 1).trans (f1)
 refine eK ?_;repeat (first|go_big_quiet_step (fail)|quiet_step (fail))
 refine B' ?_;intro _ bj;obtain⟨⟨aQ,osq⟩,cq⟩:=bj;subst cq;replace bJ:=(bJ).ext (aX W aQ osq);replace EE:=hide (EE.out.trans (aX W aQ osq));obtain⟨bp,eF⟩:∃ w,grow (aw5 W aQ) osq=w:=⟨_,rfl⟩;rw[eF] at EE bJ |-;clear eF yN;go_wp2_with fail
 refine bodyPost_end (results_none rfl _ _ _) rfl ?_;exact⟨rfl,EE.out⟩
theorem UW(e n t v l:Int)(K:Array H)(cS:K.size=21)(eI:K.all (·.oneCell')=true)(g:Nat)(Q:H)(B:Nat)(ls:List gD)(f:Fr)(W:J)(bJ:aG W g 86 (cV (aI e n t v l K) Q))(fY:eA.Own B W Q ls)(aO:Q.ownBlock≠some g)(bF:B<=W.heap.size)(hlen:ls.length<=1099511627776)(d0:decide (0<n)=true)(gR:Hid (∀ w,M I 80 #[.agg K] w (aP (.agg (cJ f)) w))) :
 M I 49 #[yj g 0] W (wy g B W (aI e n t v l K) Q (ls++[(n,v,f)])):=by
 obtain⟨f0,f1,f2,f3,f4,f26,A6,fk⟩:=qe (e:=e) (n:=n) (t:=t) (v:=v) (l:=l) (q:=Q) cS;have BW:=qP (e:=e) (n:=n) (t:=t) (v:=v) (l:=l) (q:=Q) cS;have fY:=hide fY;have DM:=bJ.lt;have EE:Hid (Ext W W):=Ext.refl _;go_enter Tryz.func49,Tryz.ntmps49
 go_upto_region 0 with fail
 have yN:=fun d os=>(((bJ).ext (aX W d os)).cell 1).trans (f1)
 refine eK ?_;repeat (first|go_big_quiet_step (fail)|quiet_step (fail))
 refine B' ?_;intro _ bj;obtain⟨⟨aQ,osq⟩,cq⟩:=bj;subst cq;replace bJ:=(bJ).ext (aX W aQ osq);replace EE:=hide (EE.out.trans (aX W aQ osq));obtain⟨bp,eF⟩:∃ w,grow (aw5 W aQ) osq=w:=⟨_,rfl⟩;rw[eF] at EE bJ |-;clear eF yN;go_upto_region 1 with fail
 have kx:B<=bp.heap.size:=Nat.le_trans bF EE.out.size;have AL:=hide (fY.out.ext EE.out);have aeC:∀ k,Q.ownBlock=some k->k<bp.heap.size:=fun k aE=>(AL.out.1.lt k aE).2
 have oB:=bJ.lt;refine kl [.q,.q,.q,.q,.q,.q,.q,.q,.q,.q,.q,.q,.q,.q,.q,.q,.q,.q,.q,.q,.q,.q,.q,.gO 0,.gO 1,.q,.q,.so 0] [0,0,0,0,0,0,0,0,0,0,0,0,0,0,0,0,0,0,0,0,0,0,0,0,1,0,0,2] (fun R=>[yj g 0,yj g 0,yj g 0,yj g 26,Q,yj g 0,yj g 0,yj g 0,yj g 1,.int .i64 n,yj g 0,yj g 0,yj g 0,yj g 2,yj g 3,.int .i64 v,yj g 0,yj g 0,yj g 0,yj g 5,.agg K,.agg (cJ f),.agg (fU (n,v,f)),C,C,yj g 0,yj g 26,C]) (fun _=>(.cells #[] 0 (0,0))) (fun R i=>match i with|27=>(.cells (cV (aI e n t v l K) (R 1)) 86 (0,0))|_=>(.cells #[] 0 (0,0))) (fun _=>g) (uN g B bp Q ls (n,v,f)) (fun k=>Q.ownBlock=some k) (by kernel_rfl) (by kernel_rfl) (by kernel_rfl) (by kernel_rfl) rfl (fun _=>rfl) aeC (fun _ _ h=>aO h) (by intro c hc;simp at hc;(try subst hc);(try simp only);omega) (by intro c c' h1 h2 _;simp at h1 h2;omega) (fun R b1=>⟨fun _=>rfl,fun _=>rfl,fun _=>rfl,fun _=>rfl,fun _=>rfl,fun _=>rfl,fun _=>rfl,fun _=>rfl,fun _=>rfl,fun _=>rfl,fun _=>rfl,fun _=>rfl,fun _=>rfl,fun _=>rfl,fun _=>rfl,fun _=>rfl,fun _=>rfl,fun _=>rfl,fun _=>rfl,fun _=>rfl,fun _=>rfl,fun _=>rfl,fun _=>rfl,fun _=>rfl,fun _=>rfl,fun _=>rfl,fun _=>rfl,fun _=>rfl,trivial⟩) (by intro R b1 i h;(try dsimp only);(repeat' split)<;>first|rfl|((try rw[h 1 (by decide)]))) aln ⟨⟨rfl,rfl,rfl,Nat.le_refl _,fun _ _ _=>rfl⟩,fun _=>AL.out.ext (b5 _),fun h=>by omega,fun h=>absurd h (by decide)⟩ ?EQ ?C4;case EQ =>
  refine⟨aH,aH,aH,aH,?_,aH,aH,aH,aH,?_,aH,aH,aH,aH,aH,?_,aH,aH,aH,aH,?_,d_ gR,?_,?_,?_,aH,aH,?_,trivial⟩
  ·refine cj fun R s w' aw hs hw ha=>?_
   have cc:=((show aG w' g _ (cV (aI e n t v l K) Q) from(ha 27 0 rfl (by kernel_rfl)).trans bJ).cell 26).trans (f26);go_simp
  ·refine cj fun R s w' aw hs hw ha=>?_
   have cc:=((show aG w' g _ (cV (aI e n t v l K) Q) from(ha 27 0 rfl (by kernel_rfl)).trans bJ).cell 1).trans (f1);go_simp
  ·refine cj fun R s w' aw hs hw ha=>?_
   have cc:=((show aG w' g _ (cV (aI e n t v l K) Q) from(ha 27 0 rfl (by kernel_rfl)).trans bJ).cell 3).trans (f3);go_simp
  ·refine cj fun R s w' aw hs hw ha=>?_
   have L:=pH ((ha 27 0 rfl (by kernel_rfl)).trans bJ) _ _ fV rfl 5 21 ei (by rw[(qP cS)];first|decide|omega) _ (fk);generalize hA:bB _ _ _ _ _ _ _=c3;refine e7 rfl ?_ L;subst hA;kernel_rfl
  ·refine cj fun R s w' aw hs hw ha=>?_
   generalize hA:bB _ _ _ _ _ _ _=c3;refine pD (vs:=#[(0,.int .i64 n),(1,.int .i64 v),(2,.agg (cJ f))]) rfl ?_ (Ru n v (gP f).size);subst hA;kernel_rfl
  ·refine C6 (m:=0) ?aei ?ab1 ?_;case aei=>exact rfl
   case ab1=>exact cu rfl
   intro R w' aw hw;have hz:=hw.2.2.2.1;generalize hA:bB _ _ _ _ _ _ _=c3;refine Kg (n,v,f) rfl ?_ (alo aw hz);subst hA;kernel_rfl
  ·refine C6 (m:=1) ?D0 ?Dh ?_;case D0=>exact rfl
   case Dh=>exact cu rfl
   intro R w' aw hw;have hz:=hw.2.2.2.1;obtain⟨q,iJ,D9,yz⟩:=aw.2.2.1 rfl;generalize hA:bB _ _ _ _ _ _ _=c3;refine aa' (s:=.tmp 12) (x:=.tmp 31) (q:=q) rfl ?_ ?_ (aw.2.1 (Nat.le_refl _)) yz hlen (Nat.le_trans kx hz) (fun v' bp h2 h3 h4=>alp aw h2 h3 h4 hz)
   ·subst hA;kernel_rfl
   ·rw[<-iJ];subst hA;kernel_rfl
  ·refine il (c:=0) (Ty:=?aox) (p:=?ar5) (x:=?atw) g ?abB ?amf ?Pj ?LX ?ahC ?MH ?af8 ?Kz ?Z3 ?aas ?_;case LX=>exact rfl
   case ahC=>exact rfl
   case abB=>exact(fun R=>(.cells (cV (aI e n t v l K) (R 1)) 86 (0,0)))
   case amf=>exact(fun R=>.pointer (some ⟨g,26,none⟩))
   case Pj=>exact(fun R=>(R 1))
   case MH=>exact(fun R=>rfl)
   case af8=>exact rfl
   case Kz=>exact cu rfl
   case Z3 =>
    intro R;kernel_rfl
   case aas =>
    intro R;kernel_rfl
   intro R s ρ w aw hs hp hx hz;have dj:2<=s:=hs;obtain⟨cU,aC,az,bk,hJ,eS,ox,au⟩:=aw.2.2.2 dj;rw[bk] at hx |-;have bF:=(show aG w g _ (cV (aI e n t v l K) Q) from hz.trans bJ);have hc:=(bF.cell 26).trans (f26);have hf:=bF.frozen 26;refine⟨qR (g:=g) (Ty:=49) rfl hp hx (hz.trans bJ) ((EZ cS 0 _).2.2) ?_,fun aT hF=>alq aw hF dj oB aO⟩;go_simp
 case C4 =>
  intro cY R G Fk ae;have hS:=ae.same;have aZ:=ae.holds;have bf:=(Nat.le_refl bp.heap.size);have sP:0<cY:=(ae.stage 23 (show 23<28 by decide) 0 rfl).1 (List.mem_range.2 (show 23<28 by decide));obtain⟨q,iJ,D9,yz⟩:∃ q,True/\True/\True:=⟨0,trivial,trivial,trivial⟩;clear iJ D9 yz;have py:1<cY:=(ae.stage 24 (show 24<28 by decide) 1 rfl).1 (List.mem_range.2 (show 24<28 by decide));obtain⟨cU,aC,az,bk,hJ,eS,ox,au⟩:=aZ.2.2.2 py;replace bJ:aG Fk g 86 (cV (aI e n t v l K) (R 1)):=ae.ep 27 (List.mem_range.2 (show 27<28 by decide)) 0 rfl;rw[bk] at bJ;have GG:=aZ.1;clear hS bf aZ ae oB;generalize hF:bB _ _ _ _ _ _ _=bH;have bI:bH={ tmps:=#[(yj g 0:H),C,(yj g 0:H),(yj g 0:H),(yj g 0:H),(yj g 1:H),.int .i64 n,.bool true,(yj g 0:H),(yj g 0:H),(yj g 0:H),(yj g 26:H),Q,(yj g 0:H),(yj g 0:H),(yj g 0:H),(yj g 1:H),.int .i64 n,(yj g 0:H),(yj g 0:H),(yj g 0:H),(yj g 2:H),(yj g 3:H),.int .i64 v,(yj g 0:H),(yj g 0:H),(yj g 0:H),(yj g 5:H),.agg K,.agg (cJ f),.agg (fU (n,v,f)),(R 0),(R 1),(yj g 0:H),(yj g 26:H)],defers:=[] }:=by subst hF;kernel_rfl
  clear hF;subst bI;(try simp only[bk,bk])
  go_wp2_with fail
  refine bodyPost_end (results_none rfl _ _ _) rfl ?_;refine⟨rfl,cU,aC,az,hJ,eS,bJ,ox,?_,(Below.vk EE.out).trans GG⟩;rcases au with h|⟨k,aE,h⟩
  ·rw[h];exact aO
  ·rw[h];intro e;cases e;have:=EE.out.size;omega
end
section
open Go Go.RowKit Go.Sort
def atO(atV:Array H)(l:List (Int × Int)):Prop:=∀ j x,l[j]?=some x->2*j+2<=atV.size/\atV.extract (2*j) (2*j+2)=bO x.1 x.2
def atS(N B b:Nat)(W:J)(e:axa)(w':J):Prop:=∃ (g n cap:Nat) (l:List (Int × Int)) (atV:Array H),e=.returned (.slice (some ⟨g,0,none⟩) n cap)/\l.length=n/\1<=n/\n<=N+1/\jx (l.map Prod.fst)=true/\IsS l/\aG w' g 23 atV/\atO atV l/\W.heap.size<=g/\fP B w' b/\b3 b W w'
theorem avQ{B:Nat}{w:J}{A:Option aw6}{n cap:Nat}{l:List (Int × Int)}(h:hZ B w (.slice A n cap) l)(hl:1<=l.length):∃ g atV,A=some ⟨g,0,none⟩/\B<=g/\aG w g 23 atV/\atO atV l:=by
 rcases h.1.2 with ⟨e,h0⟩|⟨g,Gf,cur,e,af,hh,nr,jP,hcs,Bp⟩
 ·omega
 ·cases e
  refine⟨g,cur,rfl,af,hh,fun j x aN=>?_⟩;have jf:j<l.length:=(List.getElem?_eq_some_iff.1 aN).1;have hd:l.getD j (0,0)=x:=by rw[List.getD_eq_getElem?_getD,aN];rfl
  have hs:2*j+2<=cur.size:=by
   have:=congrArg List.length Bp;rw[List.length_take,Oq,Array.length_toList] at this
   omega
  refine⟨hs,?_⟩;obtain⟨g0,g1⟩:=Oo l j jf;rw[hd] at g0 g1;rw[<-Bp,List.getElem?_take_of_lt (by omega),Array.getElem?_toList] at g0 g1;apply Array.ext'
  rw[Array.toList_extract];apply List.ext_getElem?
  intro i;match i with
  | 0=>simp[List.extract,bO,List.getElem?_take,g0]
  | 1=>simp[List.extract,bO,List.getElem?_take,g1]
  | i+2=>simp[List.extract,bO,List.getElem?_take];omega
theorem awg(N B b:Nat)(jO:N<=1000)(W:J)(aw:fP B W b):M I 32 #[yj b 0,.int .i64 (N:Int)] W (atS N B b W):=by
 have tF:Hid (M I 15 #[yj b 0,.int .i64 (N:Int)] W (QX N B b W)):=hide (ald N B b jO W aw);clear aw;go_enter Tryz.func32,Tryz.ntmps32
 go_upto_region 2 with (go_at_call 15;(with_reducible refine(tF.out).mono ?_);rintro e bp ⟨A,n,cap,l,rfl,hm,hn,SV,apJ,G2,eD,tR,DE⟩;have kr:=hide tR;have uO:=hide DE;have oy:=hide eD;have ou:=hide G2;have hW:=hide hm;clear eD tR DE G2 hm)
 by_cases h0:n=0
 ·have d0:((n:Int)==0)=true:=by rw[beq_iff_eq];omega
  go_upto_region 3 with fail
  have aul:=trivial;go_wp2_with (first
   | (clear aul;go_at_call 44;(with_reducible refine(OE B b _ _ kr.out (b3.refl _ _)).mono ?_);rintro e w3 ⟨x,rfl,aF,adL,Bg⟩;have oD:=hide adL;have w5:=hide (uO.out.trans Bg);have hx:=hide aF;clear adL Bg aF)
   | (go_at_call 44;(with_reducible refine(OE B b _ _ oD.out (b3.refl _ _)).mono ?_);rintro e bZ ⟨y,rfl,aF,RS,RT⟩;have si:=hide RS;have F4:=hide (w5.out.trans RT);have hy:=hide aF;clear RS RT aF))
  go_ret;exact⟨bZ.heap.size,1,1,[(x,y)],_,rfl,rfl,by omega,by omega,rfl,IsS.one hx.out hy.out,aG.new bZ 23 (bO x y),fun j z aN=>by
   match j,aN with
   | 0,aN=>simp only[List.getElem?_cons_zero,Option.some.injEq] at aN;subst aN;exact⟨Nat.le_refl _,by kernel_rfl⟩
   | j+1,aN=>simp at aN,F4.out.2.2.2.1,si.out.ext (aA _ _),F4.out.more (aA _ _)⟩
 ·have d0:((n:Int)==0)=false:=by rw[beq_eq_false_iff_ne];omega
  go_wp2_with fail
  obtain⟨g,atV,rfl,af,bF,vz⟩:=avQ oy.out (by rw[hW.out];omega);go_ret;exact⟨g,n,cap,l,atV,rfl,hW.out,by omega,by omega,ou.out,oy.out.2,bF,vz,af,kr.out,uO.out⟩
theorem awb(b n c:Nat){j zX:Nat}(aN:j<n)(hs:2*j=zX)(w:J):(Instr.indexAt 46 (.slice (some ⟨b,0,none⟩) n c) (.int .i64 (j:Int))).run I w=.ok (.pointer (some ⟨b,zX,none⟩)) w:=by
 have:=G8 b 0 n c j aN w;rw[Nat.zero_add,hs] at this
 exact this
end
end Go.Proofs.YtojbopibfflnoaaGreat
