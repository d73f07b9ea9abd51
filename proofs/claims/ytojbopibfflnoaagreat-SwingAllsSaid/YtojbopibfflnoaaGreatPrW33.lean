/- Contracts and plain facts; each states its conditions. -/
import Derived.Test.YtojbopibfflnoaaGreatPrW32
namespace Go.Proofs.YtojbopibfflnoaaGreat
set_option linter.unusedVariables false
set_option linter.unusedSimpArgs false
set_option maxHeartbeats 16000000
section
open Go Go.RowKit Go.Sort
attribute [local go_sem] mg A3 bB BX
set_option maxRecDepth 100000 in
theorem aiG (e n t v l:Int) (K:Array Value) (cS:K.size=21) (eI:K.all (·.oneCell')=true) (g:Nat) (di:Option Addr) (cM c6:Nat) (t' v':Int) (B:Nat) (ls:List gD) (W:World) (bJ:aG W g 86 (cV (aI e n t v l K) (.slice di cM c6))) (fY:eA.Own B W (.slice di cM c6) ls) (od:cM=ls.length) (oM:cM≤c6) (aO:(Value.slice di cM c6).ownBlock≠some g) (bF:B≤W.heap.size) (ks:Hid (∀ w,Calls Tryz.prog 75 #[] w (aP (.agg c9) w))) (d0:decide (0<n)=false) :
 Calls Tryz.prog 48 #[.pointer (some ⟨g,0,none⟩),.agg (bO t' v')] W (wy g B W (aI e 1 t' v' t' c9) (.slice di cM c6) ls):=by
 obtain⟨f0,f1,f2,f3,f4,f26,A6,fk⟩:=qe (e:=e) (n:=n) (t:=t) (v:=v) (l:=l) (q:=(.slice di cM c6)) cS;have BW:=qP (e:=e) (n:=n) (t:=t) (v:=v) (l:=l) (q:=(.slice di cM c6)) cS;have DM:=bJ.lt;have fY:=hide fY;have aq:=aG.new W 23 (bO t' v');have EE:=hide (aA W (.cells (bO t' v') 23));obtain⟨bG,bD⟩:=aM ((W.alloc (.cells (bO t' v') 23)));obtain⟨g0,af⟩:∃ g,W.heap.size=g:=⟨_,rfl⟩;rw[bD] at aq EE;rw[af] at aq;have r9:W.heap.size≤g0:=by omega
 have aB:=hide bD;have bW:=hide af;clear bD af;go_enter Tryz.func48,Tryz.ntmps48
 go_upto_region 1 with fail
 rw[aB.out,bW.out];clear aB bW;replace bJ:=bJ.ext EE.out;replace EE:=hide (Ext.c7 EE.out g);have yN:=fun d os=>(((bJ).ext (aX bG d os)).cell 1).trans (f1)
 refine eK ?_;repeat (first|go_big_quiet_step (fail)|quiet_step (fail))
 refine wpQuiet_nil ?_;intro _ bj;obtain⟨⟨aQ,osq⟩,cq⟩:=bj;subst cq;replace aq:=(aq).ext (aX bG aQ osq);replace bJ:=(bJ).ext (aX bG aQ osq);replace EE:=hide (EE.out.more (aX bG aQ osq));obtain⟨bp,eF⟩:∃ w,grow (redrawn bG aQ) osq=w:=⟨_,rfl⟩;rw[eF] at EE aq bJ ⊢;clear eF yN;go_upto_region 2 with fail
 have tW:=hide (fun w bJ=>UU e n t v l K cS eI g (.slice di cM c6) w bJ d0);go_upto_region 3 with (go_at_call 49;(with_reducible refine(tW.out _ bJ).mono ?_);rintro e2 cN ⟨rfl,vy⟩;replace bJ:=bJ.ext vy;replace aq:=aq.ext vy;replace EE:=hide (EE.out.more vy);clear vy)
 have gM:=aq.lt;have oB:=bJ.lt;refine kl [.q,.q,.q,.q,.q,.q,.q,.q,.q,.q,.q,.q,.q,.so 0] [0,0,0,0,0,0,0,0,0,0,0,0,0,0] (fun R=>[.pointer (some ⟨g,0,none⟩),.pointer (some ⟨g,0,none⟩),.pointer (some ⟨g,0,none⟩),.pointer (some ⟨g,0,none⟩),.pointer (some ⟨g,0,none⟩),.int .i64 e,.agg (bO t' v'),.pointer (some ⟨g0,0,none⟩),.int .i64 t',.agg c9,.agg (aI e 1 t' v' t' c9),.pointer (some ⟨g,0,none⟩),.pointer (some ⟨g,0,none⟩),undef]) (fun _=>(.cells #[] 0 (0,0))) (fun R _=>(.cells (cV (aI e 1 t' v' t' c9) (.slice di cM c6)) 86 (0,0))) (fun _=>g) (uQ g W) (fun _=>False) (by kernel_rfl) (by kernel_rfl) (by kernel_rfl) (by kernel_rfl) rfl (fun _=>rfl) (fun _ h=>h.elim) (fun _ _ h=>h) (by intro c hc;simp at hc;(try subst hc);(try simp only);omega) (by intro c c' h1 h2 _;simp at h1 h2;omega) (fun R b1=>⟨fun _=>rfl,fun _=>rfl,fun _=>rfl,fun _=>rfl,fun _=>rfl,fun _=>rfl,fun _=>rfl,fun _=>rfl,fun _=>rfl,fun _=>rfl,fun _=>rfl,fun _=>rfl,fun _=>rfl,fun _=>rfl,trivial⟩) (fun _ _ _ _=>rfl) z8 EE.out.drew ?ahV ?aaI;case ahV =>
  refine⟨aH,aH,aH,aH,aH,?_,?_,aH,?_,d_ ks,?_,aH,aH,?_,trivial⟩
  ·refine cj fun R s w' aw hs hw ha=>?_
   have cc:=((show aG w' g _ (cV (aI e n t v l K) (.slice di cM c6)) from(ha 13 0 rfl (by kernel_rfl)).trans bJ).cell 0).trans (f0);go_simp
  ·refine cj fun R s w' aw hs hw ha=>?_
   have L:=dF (aq.aY hw (fun h=>h) (by intro c hc;simp at hc;(try subst hc);(try simp only);omega)) xQ rfl xB rfl;generalize hA:bB _ _ _ _ _ _ _=c3;refine e7 rfl ?_ L;subst hA;kernel_rfl
  ·refine cj fun R s w' aw hs hw ha=>?_
   have cc:=((show aG w' g0 _ (bO t' v') from aq.aY hw (fun h=>h) (by intro c hc;simp at hc;(try subst hc);(try simp only);omega)).cell 0).trans (show (bO t' v')[0]?=some (.int .i64 t') from rfl);go_simp
  ·refine cj fun R s w' aw hs hw ha=>?_
   generalize hA:bB _ _ _ _ _ _ _=c3;refine pD (vs:=#[(0,.int .i64 e),(1,.int .i64 1),(2,.agg (bO t' v')),(3,.int .i64 t'),(4,.agg c9)]) rfl ?_ (Jw e t' v');subst hA;kernel_rfl
  ·refine il (c:=0) (Ty:=?Jg) (p:=?N5) (x:=?PT) g ?yY ?z' ?tv ?ob ?zI ?sX ?zD ?n9 ?yS ?yU ?_;case ob=>exact rfl
   case zI=>exact rfl
   case yY=>exact(fun R=>(.cells (cV (aI e 1 t' v' t' c9) (.slice di cM c6)) 86 (0,0)))
   case z'=>exact(fun R=>.pointer (some ⟨g,0,none⟩))
   case tv=>exact(fun R=>.agg (aI e 1 t' v' t' c9))
   case sX=>exact(fun R=>rfl)
   case zD=>exact rfl
   case n9=>exact cu rfl
   case yS =>
    intro R;kernel_rfl
   case yU =>
    intro R;kernel_rfl
   intro R s ρ w aw hs hp hx hz;refine⟨uj (g:=g) rfl hp hx (hz.trans bJ) (VT (show aG w g _ (cV (aI e n t v l K) (.slice di cM c6)) from hz.trans bJ) cS rfl E2),fun aT hF=>vZ aw hF⟩
 case aaI =>
  intro cY R G am7 ae;have hS:=ae.same;have aZ:=ae.holds;have bf:=EE.out.2.2.2.1;replace aq:=aq.aY hS (fun h=>h) (by intro c hc;simp at hc;(try subst hc);(try simp only);omega);replace bJ:aG am7 g 86 (cV (aI e 1 t' v' t' c9) (.slice di cM c6)):=ae.ep 13 (List.mem_range.2 (show 13<14 by decide)) 0 rfl;replace EE:=hide (show b3 g _ _ from aZ);clear hS bf aZ ae gM oB;generalize hF:bB _ _ _ _ _ _ _=bH;have bI:bH={ tmps:=#[.pointer (some ⟨g,0,none⟩),.agg (bO t' v'),undef,.pointer (some ⟨g0,0,none⟩),.pointer (some ⟨g,0,none⟩),.pointer (some ⟨g,0,none⟩),.pointer (some ⟨g,0,none⟩),.pointer (some ⟨g,1,none⟩),.int .i64 n,.bool false,.bool false,undef,undef,undef,.bool false,.pointer (some ⟨g,0,none⟩),.tuple #[],.pointer (some ⟨g,0,none⟩),.pointer (some ⟨g,0,none⟩),.pointer (some ⟨g,0,none⟩),.pointer (some ⟨g,0,none⟩),.pointer (some ⟨g,0,none⟩),.int .i64 e,.agg (bO t' v'),.pointer (some ⟨g0,0,none⟩),.int .i64 t',.agg c9,.agg (aI e 1 t' v' t' c9),.pointer (some ⟨g,0,none⟩),.pointer (some ⟨g,0,none⟩)],defers:=[] }:=by subst hF;kernel_rfl
  clear hF;subst bI;go_wp2_with fail
  refine bodyPost_end (results_none rfl _ _ _) rfl ?_;exact⟨rfl,di,cM,c6,od,oM,bJ,Hs fY.out (xR EE.out) (fun j aN e=>aO (by rw[aN,e])),aO,(xR EE.out).mono fun j e=>Or.inl e⟩
set_option maxRecDepth 100000 in
theorem aiJ (e n t v l:Int) (K:Array Value) (cS:K.size=21) (eI:K.all (·.oneCell')=true) (g:Nat) (di:Option Addr) (cM c6:Nat) (t' v':Int) (B:Nat) (ls:List gD) (M:Array Value) (W:World) (bJ:aG W g 86 (cV (aI e n t v l K) (.slice di cM c6))) (fY:eA.Own B W (.slice di cM c6) ls) (od:cM=ls.length) (oM:cM≤c6) (aO:(Value.slice di cM c6).ownBlock≠some g) (bF:B≤W.heap.size) (d0:decide (0<n)=true) (nS:Hid (∀ w,aG w g 86 (cV (aI e n t v l K) (.slice di cM c6))→Calls Tryz.prog 79 #[.pointer (some ⟨g,0,none⟩),.agg (bO t' v')] w (FG g w (aI e (n+1) t v t' M) (.slice di cM c6) true))) :
 Calls Tryz.prog 48 #[.pointer (some ⟨g,0,none⟩),.agg (bO t' v')] W (wy g B W (aI e (n+1) t v t' M) (.slice di cM c6) ls):=by
 obtain⟨f0,f1,f2,f3,f4,f26,A6,fk⟩:=qe (e:=e) (n:=n) (t:=t) (v:=v) (l:=l) (q:=(.slice di cM c6)) cS;have BW:=qP (e:=e) (n:=n) (t:=t) (v:=v) (l:=l) (q:=(.slice di cM c6)) cS;have DM:=bJ.lt;have fY:=hide fY;have aq:=aG.new W 23 (bO t' v');have EE:=hide (aA W (.cells (bO t' v') 23));obtain⟨bG,bD⟩:=aM ((W.alloc (.cells (bO t' v') 23)));obtain⟨g0,af⟩:∃ g,W.heap.size=g:=⟨_,rfl⟩;rw[bD] at aq EE;rw[af] at aq;have r9:W.heap.size≤g0:=by omega
 have aB:=hide bD;have bW:=hide af;clear bD af;go_enter Tryz.func48,Tryz.ntmps48
 go_upto_region 1 with fail
 rw[aB.out,bW.out];clear aB bW;replace bJ:=bJ.ext EE.out;replace EE:=hide (Ext.c7 EE.out g);have JI:=(bJ.cell 1).trans f1;have xE:=dF aq xQ rfl xB rfl;go_wp2_with (first
  | (refine dp (by kernel_rfl) rfl rfl xE ?_)
  | (go_at_call 79;(with_reducible refine(nS.out _ bJ).mono ?_);rintro e2 c8 ⟨rfl,Co,u8⟩;have aJ:aG c8 g0 _ _:=(u8.2.2.2.2 g0 aq.lt (by omega)).trans aq;have B9:=hide (EE.out.trans u8);clear bJ u8 aq EE JI xE))
 have bJ:=Co;have aq:=aJ;have EE:=B9;clear Co aJ B9;refine bodyPost_ret (results_none rfl _ _ _) rfl ?_;exact⟨rfl,di,cM,c6,od,oM,bJ,Hs fY.out (xR EE.out) (fun j aN e=>aO (by rw[aN,e])),aO,(xR EE.out).mono fun j e=>Or.inl e⟩
set_option maxRecDepth 100000 in
theorem aiF (e n t v l:Int) (K:Array Value) (cS:K.size=21) (eI:K.all (·.oneCell')=true) (g:Nat) (di:Option Addr) (cM c6:Nat) (t' v':Int) (B:Nat) (ls:List gD) (f:Fr) (W:World) (bJ:aG W g 86 (cV (aI e n t v l K) (.slice di cM c6))) (fY:eA.Own B W (.slice di cM c6) ls) (od:cM=ls.length) (oM:cM≤c6) (aO:(Value.slice di cM c6).ownBlock≠some g) (bF:B≤W.heap.size) (ks:Hid (∀ w,Calls Tryz.prog 75 #[] w (aP (.agg c9) w))) (hlen:ls.length≤1099511627776) (d0:decide (0<n)=true) (nS:Hid (∀ w,aG w g 86 (cV (aI e n t v l K) (.slice di cM c6))→Calls Tryz.prog 79 #[.pointer (some ⟨g,0,none⟩),.agg (bO t' v')] w (FG g w (aI e n t v l K) (.slice di cM c6) false))) (gR:Hid (∀ w,Calls Tryz.prog 80 #[.agg K] w (aP (.agg (cJ f)) w))) :
 Calls Tryz.prog 48 #[.pointer (some ⟨g,0,none⟩),.agg (bO t' v')] W (wy g B W (aI e 1 t' v' t' c9) (.slice di cM c6) (ls++[(n,v,f)])):=by
 obtain⟨f0,f1,f2,f3,f4,f26,A6,fk⟩:=qe (e:=e) (n:=n) (t:=t) (v:=v) (l:=l) (q:=(.slice di cM c6)) cS;have BW:=qP (e:=e) (n:=n) (t:=t) (v:=v) (l:=l) (q:=(.slice di cM c6)) cS;have DM:=bJ.lt;have fY:=hide fY;have aq:=aG.new W 23 (bO t' v');have EE:=hide (aA W (.cells (bO t' v') 23));obtain⟨bG,bD⟩:=aM ((W.alloc (.cells (bO t' v') 23)));obtain⟨g0,af⟩:∃ g,W.heap.size=g:=⟨_,rfl⟩;rw[bD] at aq EE;rw[af] at aq;have r9:W.heap.size≤g0:=by omega
 have aB:=hide bD;have bW:=hide af;clear bD af;go_enter Tryz.func48,Tryz.ntmps48
 go_upto_region 1 with fail
 rw[aB.out,bW.out];clear aB bW;replace bJ:=bJ.ext EE.out;replace EE:=hide (Ext.c7 EE.out g);have JI:=(bJ.cell 1).trans f1;have xE:=dF aq xQ rfl xB rfl;go_upto_region 2 with (first
  | (refine dp (by kernel_rfl) rfl rfl xE ?_)
  | (go_at_call 79;(with_reducible refine(nS.out _ bJ).mono ?_);rintro e2 c8 ⟨rfl,Co,u8⟩;have aJ:aG c8 g0 _ _:=(u8.2.2.2.2 g0 aq.lt (by omega)).trans aq;have B9:=hide (EE.out.trans u8);clear bJ u8 aq EE JI xE))
 have bJ:=Co;have aq:=aJ;have EE:=B9;clear Co aJ B9;have Xq:=hide (Hs fY.out (xR EE.out) (fun j aN e=>aO (by rw[aN,e])));have adE:B≤c8.heap.size:=Nat.le_trans bF EE.out.2.2.2.1;have Ma:(Value.slice di cM c6).ownBlock≠some g0:=fun h=>by have:=(fY.out.1.lt g0 h).2;omega
 have tW:=hide (fun w bJ Xr hw=>UW e n t v l K cS eI g (.slice di cM c6) B ls f w bJ Xr aO hw hlen d0 gR);go_upto_region 3 with (go_at_call 49;(with_reducible refine(tW.out _ bJ Xq.out adE).mono ?_);rintro e2 cN ⟨rfl,cU,aC,az,hJ,eS,QT,r7,xt,uA⟩;have bx:aG cN g0 _ _:=(uA.2.2.2.2 g0 aq.lt (fun e=>e.elim (fun e=>by omega) Ma)).trans aq;have r7:=hide r7;clear bJ aq)
 have bJ:=QT;have aq:=bx;have WT:=EE;clear EE QT bx;have EE:Hid (b3 g cN cN):=b3.refl _ _;have gM:=aq.lt;have oB:=bJ.lt;refine kl [.q,.q,.q,.q,.q,.q,.q,.q,.q,.q,.q,.q,.q,.so 0] [0,0,0,0,0,0,0,0,0,0,0,0,0,0] (fun R=>[.pointer (some ⟨g,0,none⟩),.pointer (some ⟨g,0,none⟩),.pointer (some ⟨g,0,none⟩),.pointer (some ⟨g,0,none⟩),.pointer (some ⟨g,0,none⟩),.int .i64 e,.agg (bO t' v'),.pointer (some ⟨g0,0,none⟩),.int .i64 t',.agg c9,.agg (aI e 1 t' v' t' c9),.pointer (some ⟨g,0,none⟩),.pointer (some ⟨g,0,none⟩),undef]) (fun _=>(.cells #[] 0 (0,0))) (fun R _=>(.cells (cV (aI e 1 t' v' t' c9) (.slice cU aC az)) 86 (0,0))) (fun _=>g) (uQ g cN) (fun _=>False) (by kernel_rfl) (by kernel_rfl) (by kernel_rfl) (by kernel_rfl) rfl (fun _=>rfl) (fun _ h=>h.elim) (fun _ _ h=>h) (by intro c hc;simp at hc;(try subst hc);(try simp only);omega) (by intro c c' h1 h2 _;simp at h1 h2;omega) (fun R b1=>⟨fun _=>rfl,fun _=>rfl,fun _=>rfl,fun _=>rfl,fun _=>rfl,fun _=>rfl,fun _=>rfl,fun _=>rfl,fun _=>rfl,fun _=>rfl,fun _=>rfl,fun _=>rfl,fun _=>rfl,fun _=>rfl,trivial⟩) (fun _ _ _ _=>rfl) z8 EE.out.drew ?ahU ?aaH;case ahU =>
  refine⟨aH,aH,aH,aH,aH,?_,?_,aH,?_,d_ ks,?_,aH,aH,?_,trivial⟩
  ·refine cj fun R s w' aw hs hw ha=>?_
   have cc:=((show aG w' g _ (cV (aI e n t v l K) (.slice cU aC az)) from(ha 13 0 rfl (by kernel_rfl)).trans bJ).cell 0).trans ((qe cS).1);go_simp
  ·refine cj fun R s w' aw hs hw ha=>?_
   have L:=dF (aq.aY hw (fun h=>h) (by intro c hc;simp at hc;(try subst hc);(try simp only);omega)) xQ rfl xB rfl;generalize hA:bB _ _ _ _ _ _ _=c3;refine e7 rfl ?_ L;subst hA;kernel_rfl
  ·refine cj fun R s w' aw hs hw ha=>?_
   have cc:=((show aG w' g0 _ (bO t' v') from aq.aY hw (fun h=>h) (by intro c hc;simp at hc;(try subst hc);(try simp only);omega)).cell 0).trans (show (bO t' v')[0]?=some (.int .i64 t') from rfl);go_simp
  ·refine cj fun R s w' aw hs hw ha=>?_
   generalize hA:bB _ _ _ _ _ _ _=c3;refine pD (vs:=#[(0,.int .i64 e),(1,.int .i64 1),(2,.agg (bO t' v')),(3,.int .i64 t'),(4,.agg c9)]) rfl ?_ (Jw e t' v');subst hA;kernel_rfl
  ·refine il (c:=0) (Ty:=?aot) (p:=?ar1) (x:=?ats) g ?abx ?amd ?Pd ?LS ?ahy ?MB ?af4 ?Kv ?Z1 ?aao ?_;case LS=>exact rfl
   case ahy=>exact rfl
   case abx=>exact(fun R=>(.cells (cV (aI e 1 t' v' t' c9) (.slice cU aC az)) 86 (0,0)))
   case amd=>exact(fun R=>.pointer (some ⟨g,0,none⟩))
   case Pd=>exact(fun R=>.agg (aI e 1 t' v' t' c9))
   case MB=>exact(fun R=>rfl)
   case af4=>exact rfl
   case Kv=>exact cu rfl
   case Z1 =>
    intro R;kernel_rfl
   case aao =>
    intro R;kernel_rfl
   intro R s ρ w aw hs hp hx hz;refine⟨uj (g:=g) rfl hp hx (hz.trans bJ) (VT (show aG w g _ (cV (aI e n t v l K) (.slice cU aC az)) from hz.trans bJ) cS rfl E2),fun aT hF=>vZ aw hF⟩
 case aaH =>
  intro cY R G am6 ae;have hS:=ae.same;have aZ:=ae.holds;have bf:=EE.out.2.2.2.1;replace aq:=aq.aY hS (fun h=>h) (by intro c hc;simp at hc;(try subst hc);(try simp only);omega);replace bJ:aG am6 g 86 (cV (aI e 1 t' v' t' c9) (.slice cU aC az)):=ae.ep 13 (List.mem_range.2 (show 13<14 by decide)) 0 rfl;replace EE:=hide (show b3 g _ _ from aZ);clear hS bf aZ ae gM oB;generalize hF:bB _ _ _ _ _ _ _=bH;have bI:bH={ tmps:=#[.pointer (some ⟨g,0,none⟩),.agg (bO t' v'),undef,.pointer (some ⟨g0,0,none⟩),.pointer (some ⟨g,0,none⟩),.pointer (some ⟨g,0,none⟩),.pointer (some ⟨g,0,none⟩),.pointer (some ⟨g,1,none⟩),.int .i64 n,.bool true,.bool true,.pointer (some ⟨g,0,none⟩),.agg (bO t' v'),.bool false,.bool false,.pointer (some ⟨g,0,none⟩),.tuple #[],.pointer (some ⟨g,0,none⟩),.pointer (some ⟨g,0,none⟩),.pointer (some ⟨g,0,none⟩),.pointer (some ⟨g,0,none⟩),.pointer (some ⟨g,0,none⟩),.int .i64 e,.agg (bO t' v'),.pointer (some ⟨g0,0,none⟩),.int .i64 t',.agg c9,.agg (aI e 1 t' v' t' c9),.pointer (some ⟨g,0,none⟩),.pointer (some ⟨g,0,none⟩)],defers:=[] }:=by subst hF;kernel_rfl
  clear hF;subst bI;go_wp2_with fail
  refine bodyPost_end (results_none rfl _ _ _) rfl ?_;exact⟨rfl,cU,aC,az,hJ,eS,bJ,Hs r7.out (xR EE.out) (fun j aN e=>xt (by rw[aN,e])),xt,(((xR WT.out).mono fun j e=>Or.inl e).trans uA).trans ((xR EE.out).mono fun j e=>Or.inl e)⟩
end
section
open Go Go.RowKit Go.Sort
attribute [local go_sem] mg A3 bB BX
theorem R5 {g:Nat}{W w aT:World} (h:Ext W w) (k:b3 g w aT) (af:W.heap.size≤g):Ext W aT:=⟨k.1.trans h.os,k.2.1.trans h.tape,k.2.2.1.trans h.output,Nat.le_trans h.size k.2.2.2.1,fun j aN=>(k.2.2.2.2 j (Nat.lt_of_lt_of_le aN h.size) (by omega)).trans (h.block j aN)⟩
theorem ajb (e:Int) (W:World):Calls Tryz.prog 34 #[.int .i64 e] W (aP (.bool (decide (0≤e)&&decide (e≤4611686018427387904))) W):=by
 by_cases h0:0≤e
 ·by_cases h1:e≤4611686018427387904
  ·have bt:decide (0≤e)=true:=decide_eq_true h0;have az:decide (e≤4611686018427387904)=true:=decide_eq_true h1;rw[bt,az];go_enter Tryz.func34,Tryz.ntmps34
   go_wp2_with fail
   go_ret;exact⟨rfl,Ext.refl _⟩
  ·have bt:decide (0≤e)=true:=decide_eq_true h0;have az:decide (e≤4611686018427387904)=false:=decide_eq_false h1;rw[bt,az];go_enter Tryz.func34,Tryz.ntmps34
   go_wp2_with fail
   go_ret;exact⟨rfl,Ext.refl _⟩
 ·have bt:decide (0≤e)=false:=decide_eq_false h0;rw[bt];go_enter Tryz.func34,Tryz.ntmps34
  go_wp2_with fail
  go_ret;exact⟨rfl,Ext.refl _⟩
end
end Go.Proofs.YtojbopibfflnoaaGreat
