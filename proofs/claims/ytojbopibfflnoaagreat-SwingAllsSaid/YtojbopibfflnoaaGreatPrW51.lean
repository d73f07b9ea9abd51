/- Contracts and plain facts; each states its conditions. -/
import Derived.Test.YtojbopibfflnoaaGreatPrW9
import Derived.Test.YtojbopibfflnoaaGreatPrW11
import Derived.Test.YtojbopibfflnoaaGreatPrW16
import Derived.Test.YtojbopibfflnoaaGreatPrW17
import Derived.Test.YtojbopibfflnoaaGreatPrW30
import Derived.Test.YtojbopibfflnoaaGreatPrW36
import Derived.Test.YtojbopibfflnoaaGreatPrW37
import Derived.Test.YtojbopibfflnoaaGreatPrW50
import Derived.Shelf.Strconv.Itoa0
import Derived.SizedLaws
import Derived.Lib.QuietBelow
import Derived.Maps.AppendAt
import Derived.Laws.Tables
import Derived.Great.BuildSlice
namespace Go.Proofs.YtojbopibfflnoaaGreat
set_option linter.unusedVariables false
set_option linter.unusedSimpArgs false
set_option maxHeartbeats 16000000
section
open Go Go.RowKit
theorem JB {W w w':World}{v:Value}{l:List Nat}{B:Nat} (h:Below W.heap.size W w) (bF:W.heap.size≤B) (gn:iw B w v l) (af:w.grownBy w' v.ownBlock):Below W.heap.size W w':=
 h.grown af h.size (fun k aE=>by
  obtain⟨h1,h2⟩:=gn.1.lt k aE;omega)
end
section
open Go Go.RowKit
def Xv (l:List Int) (w:World) (e:Ending) (w':World):Prop:=∃ v,e=.returned v∧fJ w.heap.size w' v l∧Ext w w'
theorem YF {W w w':World}{v:Value}{l:List Int}{B:Nat} (h:Below W.heap.size W w) (bF:W.heap.size≤B) (gn:fJ B w v l) (af:w.grownBy w' v.ownBlock):Below W.heap.size W w':=
 h.grown af h.size (fun k aE=>by
  obtain⟨h1,h2⟩:=gn.1.lt k aE;omega)
set_option maxRecDepth 100000 in
theorem ajL (A:Option Addr) (n c:Nat) (l:List Int) (W:World) (hl:hE W A l) (hn:l.length=n) (v:Bool) (aF:jx l=v) :
 Calls Tryz.prog 81 #[.slice A n c] W (aP (.bool v) W):=by
 have hlen:=hl.2.1;rw[hn] at hlen;have cz:=hide hl;have n0:=hide hn;have Cj:=hide aF;clear hl hn aF;go_enter Tryz.func81,Tryz.ntmps81
 go_wp2_with fail
 go_loopw [3] (fun i wr=>∃ m:Nat,(m=0∨m<n)∧i=.int .i64 ((m:Int)+1)∧Hid (Ext W wr)∧Hid (∀ j,j<m→l.getD j 0<l.getD (j+1) 0)) (fun i _=>n-(intOf i).toNat)
 case atStart=>exact⟨0,Or.inl rfl,rfl,hide (Ext.refl _),hide (by omega)⟩
 case round =>
  obtain⟨m,hm,rfl,E,T⟩:=hrel;by_cases cl:m+1<n
  ·have dP:m+1<l.length:=by rw[n0.out];exact cl
   obtain⟨b,off,rfl,sH,eS⟩:=(cz.out.ext E.out).2.2 (by omega);have d1:=eS m (by omega);have d2:=eS (m+1) dP;have afs:∀ w,(Instr.indexAt 79 (.slice (some ⟨b,off,none⟩) n c) (.int .i64 ((m:Int)+1))).run Tryz.prog w=.ok (.pointer (some ⟨b,off+(m+1),none⟩)) w:=fun w=>Bv b off n c (m+1) cl w
   have aft:=fun w=>Bv b off n c m (by omega) w
   have hs:Hid (l.getD m 0<l.getD (m+1) 0→∀ j,j<m+1→l.getD j 0<l.getD (j+1) 0):=hide (fun h j aN=>by
    by_cases e:j=m
    ·subst e;exact h
    ·exact T.out j (by omega))
   have dB:Hid (¬ l.getD m 0<l.getD (m+1) 0→jx l=false):=hide (fun h=>by
    rw[Bool.eq_false_iff,ne_eq,Bw];exact fun q=>h (q m dP))
   obtain⟨x,hx⟩:=aM (l.getD m 0);obtain⟨y,hy⟩:=aM (l.getD (m+1) 0);rw[hx] at d1 hs dB;rw[hy] at d2 hs dB;have d3:decide ((m:Int)+1<(n:Int))=true:=decide_eq_true (by omega);clear eS hx hy dP sH;by_cases j7:x<y
   ·have q:decide (y≤x)=false:=decide_eq_false (by omega);have IW:=hide j7;clear j7;go_wp2_with fail
    go_quiet (fail)
    go_wp2_with fail
    go_roundw
    case rel=>exact⟨m+1,Or.inr cl,by go_num,hide (E.out.trans (nR _ _)),hide (hs.out IW.out)⟩
    case measure=>simp[intOf];omega
   ·have q:decide (y≤x)=true:=decide_eq_true (by omega);have IV:=hide (dB.out j7);go_wp2_with fail
    go_quiet (fail)
    go_wp2_with fail
    go_ret;refine⟨?_,E.out.trans (nR _ _)⟩;rw[←Cj.out,IV.out];rfl
  ·have d3:decide ((m:Int)+1<(n:Int))=false:=decide_eq_false (by omega);go_wp2_with fail
   go_ret;refine⟨?_,E.out⟩;have e:jx l=true:=Bw.2 fun j aN=>T.out j (by have:=n0.out;omega)
   rw[←Cj.out,e];rfl
end
section
open Go Go.ChangeShapes Go.WideShapes Go.ChangeAt Go.RowKit
theorem RG:Tryz.prog.cellsOf 2=1:=by kernel_rfl
theorem ae_ {x:Int} (h:(Lit.int .i64 x).wf=true):de x:=by
 have h1:IntKind.i64.min=-9223372036854775808:=rfl;have h2:IntKind.i64.max=9223372036854775807:=rfl;simp only[Lit.wf,Bool.and_eq_true,decide_eq_true_eq] at h;unfold de;omega
end
section
open Go Go.RowKit Go.Sort
theorem WH:z21=bT false dq dq:=rfl
end
section
open Go Go.RowKit
namespace El
variable {α:Type} (E:El α)
variable {E}
variable (E)
variable {E}
variable (E)
theorem Ws {ops:Array Oper}{rest:List Oper}{o:Oper}{a:Act}{Q:Exit→Act→World→Prop}{w:World} (ky:o.guard=none) (s x:Operand)
 (aL:o.op=.call { callee:=.builtin .append,args:=#[s,x],argTypes:=#[E.S,E.S] })
 (B:Nat) (v:Value) (ai l:List α) (hs:a.eval s=v) (gn:E.Own B w v ai) (A:Option Addr) (m c:Nat) (hx:a.eval x=.slice A m c) (hb:E.At w A l) (hm:l.length=m) (hlen:(ai.length+l.length)*E.bytes≤140737488355328) (h63:ai.length+l.length≤9223372036854775807) (sI:B≤w.heap.size)
 (h:∀ v' w',E.Own B w' v' (ai++l)→w.grownBy w' v.ownBlock→(v'.ownBlock=v.ownBlock∨v'.ownBlock=some w.heap.size)→wpList Tryz.prog ops Q rest (a.put o.dst v') w'):wpList Tryz.prog ops Q (o :: rest) a w:=
 wpList_plain ky fun _ cQ=>by
  obtain⟨v',w',qG,h2,h3,h4⟩:=E.VL B w o.type v ai l gn A m c hb hm hlen h63 sI;unfold Oper.wp execOp;simp only[aL,resolve,invoke,builtin,Sem.run_bind,Sem.run_pure,Result.andThen_ok,List.map_toArray,List.map_cons,List.map_nil,hs,hx,qG];exact cQ _ _ (h v' w' h2 h3 h4)
theorem JB {W w w':World}{v:Value}{l:List α}{B:Nat} (h:Below W.heap.size W w) (bF:W.heap.size≤B) (gn:E.Own B w v l) (af:w.grownBy w' v.ownBlock):Below W.heap.size W w':=
 h.grown af h.size (fun k aE=>by
  obtain⟨h1,h2⟩:=gn.1.lt k aE;omega)
end El
end
section
open Go Go.RowKit Go.Sort
section
variable {e n t v l:Int}{K:Array Value}
theorem nX (cQ:K.size=21):(aI e n t v l K)[0]?=some (.int .i64 e)∧(aI e n t v l K)[1]?=some (.int .i64 n)∧(aI e n t v l K)[2]?=some (.int .i64 t)∧(aI e n t v l K)[3]?=some (.int .i64 v)∧(aI e n t v l K)[4]?=some (.int .i64 l)∧(aI e n t v l K).extract 2 (2+2)=bO t v∧(aI e n t v l K).extract 5 (5+21)=K:=by
 obtain⟨bt,az,aU,a_,bK,cy,cF,b8,bR,c2,kN,q8,pY,q9,q_,rf,rh,ri,rj,rk,rl,rfl⟩:=q5 cQ;clear cQ;refine⟨?_,?_,?_,?_,?_,?_,?_⟩<;>kernel_rfl
theorem HU (cQ:K.size=21) (x:Int):(aI e n t v l K).setIfInBounds 1 (.int .i64 x)=aI e x t v l K∧(aI e n t v l K).setIfInBounds 4 (.int .i64 x)=aI e n t v x K∧(aI e n t v l K).setIfInBounds 0 (.int .i64 x)=aI x n t v l K:=by
 obtain⟨bt,az,aU,a_,bK,cy,cF,b8,bR,c2,kN,q8,pY,q9,q_,rf,rh,ri,rj,rk,rl,rfl⟩:=q5 cQ;clear cQ;refine⟨?_,?_,?_⟩<;>kernel_rfl
theorem OA {w:World}{g:Nat}{D:Array Value} (h:aG w g 33 (aI e n t v l K)) (cQ:K.size=21) (hH:D.size=21) (rL:D.all (·.oneCell')=true):(Instr.storeAt 31 (.pointer (some ⟨g,5,none⟩)) (.agg D)).run Tryz.prog w=.ok () (w.setRow g (aI e n t v l D)):=
 zT h _ 5 21 ei (by rw[hR cQ];omega) D hH rL _ (by
  obtain⟨bt,az,aU,a_,bK,cy,cF,b8,bR,c2,kN,q8,pY,q9,q_,rf,rh,ri,rj,rk,rl,rfl⟩:=q5 cQ;obtain⟨d0,d1,d2,d3,d4,d5,d6,d7,d8,d9,d10,d11,d12,d13,d14,d15,d16,d17,d18,d19,d20,rfl⟩:=q5 hH;clear cQ hH h rL;kernel_rfl)
end
end
section
open Go Go.RowKit Go.Sort
attribute [local go_sem] mg A3 bB BX
theorem akX {e n t v l:Int}{K:Array Value} (cQ:K.size=21):(aI e n t v l K)[5]?=K[0]?:=by
 obtain⟨bt,az,aU,a_,bK,cy,cF,b8,bR,c2,kN,q8,pY,q9,q_,rf,rh,ri,rj,rk,rl,rfl⟩:=q5 cQ;clear cQ;kernel_rfl
set_option maxRecDepth 100000 in
theorem Oc (e:Int) (W:World) (fl:Hid (∀ w,Calls Tryz.prog 35 #[.int .i64 e] w (aP (.bool true) w))):Calls Tryz.prog 11 #[.int .i64 e] W (aP (.tuple #[.agg (aI e 0 0 0 0 z21),.int .i64 0]) W):=by
 have ak:=aG.new W 33 bL;have EE:=hide (aA W (.cells bL 33));obtain⟨bG,bD⟩:=aM ((W.alloc (.cells bL 33)));obtain⟨g0,af⟩:∃ g,W.heap.size=g:=⟨_,rfl⟩;rw[bD] at ak EE;rw[af] at ak;have lh:W.heap.size≤g0:=by omega
 have aB:=hide bD;have bW:=hide af;clear bD af;go_enter Tryz.func11,Tryz.ntmps11
 go_upto_region 1 with fail
 unfold bL at aB;rw[aB.out,bW.out];clear aB bW;have gu:=ak.lt;refine eB [.q,.q,.q] [0,0,0] (fun R=>[.int .i64 e,.bool true,.bool false]) (fun _=>(.cells #[] 0 (0,0))) (fun R _=>(.cells #[] 0 (0,0))) (fun _=>0) (dA W) (fun _=>False) (by kernel_rfl) (by kernel_rfl) (by kernel_rfl) rfl (fun _=>rfl) (fun _ h=>h.elim) (fun _ _ h=>h) (by simp) (by simp) (fun R b1=>⟨fun _=>rfl,fun _=>rfl,fun _=>rfl,trivial⟩) (fun _ _ _ _=>rfl) dH EE.out ?zK ?yV;case zK =>
  refine⟨aH,d_ fl,aH,trivial⟩
 case yV =>
  intro cY R G bZ ae;have hS:=ae.same;have aZ:=ae.holds;have bf:=EE.out.size;replace ak:=ak.aY hS (fun h=>h) (by simp);replace EE:=hide (show Ext _ _ from aZ);clear hS bf aZ ae gu;generalize hF:bB _ _ _ _ _ _ _=bH;have bI:bH={ tmps:=#[.int .i64 e,undef,.pointer (some ⟨g0,0,none⟩),.int .i64 0,.int .i64 e,.bool true,.bool false,undef,undef,undef],defers:=[] }:=by subst hF;kernel_rfl
  clear hF;subst bI;go_upto_region 3 with fail
  have gu:=ak.lt;refine eB [.q,.q,.so 0,.q] [0,0,0,0] (fun R=>[.int .i64 e,.agg (aI e 0 0 0 0 z21),undef,.int .i64 0]) (fun _=>(.cells #[] 0 (0,0))) (fun R _=>(.cells (aI e 0 0 0 0 z21) 33 (0,0))) (fun _=>g0) (dA W) (fun _=>False) (by kernel_rfl) (by kernel_rfl) (by kernel_rfl) rfl (fun _=>rfl) (fun _ h=>h.elim) (fun _ _ h=>h) (by intro c hc;simp at hc;(try subst hc);(try simp only);omega) (by intro c c' h1 h2 _;simp at h1 h2;omega) (fun R b1=>⟨fun _=>rfl,fun _=>rfl,fun _=>rfl,fun _=>rfl,trivial⟩) (fun _ _ _ _=>rfl) dH EE.out ?jA ?jm;case jA =>
   refine⟨aH,?_,?_,aH,trivial⟩
   ·refine cj fun R s w' aw hs hw ha=>?_
    generalize hA:bB _ _ _ _ _ _ _=c3;refine pD (vs:=#[(0,.int .i64 e)]) rfl ?_ (Jy e);subst hA;kernel_rfl
   ·refine il (c:=0) (Ty:=?tK) (p:=?ud) (x:=?ur) g0 ?lZ ?E9 ?jE ?gA ?me ?hO ?mb ?gx ?CX ?lX ?_;case gA=>exact rfl
    case me=>exact rfl
    case lZ=>exact(fun R=>(.cells (aI e 0 0 0 0 z21) 33 (0,0)))
    case E9=>exact(fun R=>.pointer (some ⟨g0,0,none⟩))
    case jE=>exact(fun R=>.agg (aI e 0 0 0 0 z21))
    case hO=>exact(fun R=>rfl)
    case mb=>exact rfl
    case gx=>exact cu rfl
    case CX =>
     intro R;kernel_rfl
    case lX =>
     intro R;kernel_rfl
    intro R s ρ w aw hs hp hx hz;refine⟨lI (g:=g0) rfl hp hx (hz.trans ak) eW (rfl) (hR rfl) (jU iV),fun aT hF=>dM aw hF lh⟩
  case jm =>
   intro cY R G cN ae;have hS:=ae.same;have aZ:=ae.holds;have bf:=EE.out.size;replace ak:aG cN g0 33 (aI e 0 0 0 0 z21):=ae.ep 2 (List.mem_range.2 (show 2<4 by decide)) 0 rfl;replace EE:=hide (show Ext _ _ from aZ);clear hS bf aZ ae gu;generalize hF:bB _ _ _ _ _ _ _=bH;have bI:bH={ tmps:=#[.int .i64 e,undef,.pointer (some ⟨g0,0,none⟩),.int .i64 0,.int .i64 e,.bool true,.bool false,undef,.int .i64 e,.agg (aI e 0 0 0 0 z21)],defers:=[] }:=by subst hF;kernel_rfl
   clear hF;subst bI;go_wp2_with fail
   exact bodyPost_ret (kg (p:=2) (u:=3) (ty:=33) rfl _ _ _ 33 (aI e 0 0 0 0 z21) _ rfl ak jC rfl (by rw[eW];kernel_rfl)) rfl ⟨by kernel_rfl,EE.out⟩
set_option maxRecDepth 100000 in
theorem ajO (e:Int) (W:World) (fl:Hid (∀ w,Calls Tryz.prog 35 #[.int .i64 e] w (aP (.bool false) w))):Calls Tryz.prog 11 #[.int .i64 e] W (aP (.tuple #[.agg (bL),.int .i64 9]) W):=by
 have ak:=aG.new W 33 bL;have EE:=hide (aA W (.cells bL 33));obtain⟨bG,bD⟩:=aM ((W.alloc (.cells bL 33)));obtain⟨g0,af⟩:∃ g,W.heap.size=g:=⟨_,rfl⟩;rw[bD] at ak EE;rw[af] at ak;have lh:W.heap.size≤g0:=by omega
 have aB:=hide bD;have bW:=hide af;clear bD af;go_enter Tryz.func11,Tryz.ntmps11
 go_upto_region 1 with fail
 unfold bL at aB;rw[aB.out,bW.out];clear aB bW;have gu:=ak.lt;refine eB [.q,.q,.q] [0,0,0] (fun R=>[.int .i64 e,.bool false,.bool true]) (fun _=>(.cells #[] 0 (0,0))) (fun R _=>(.cells #[] 0 (0,0))) (fun _=>0) (dA W) (fun _=>False) (by kernel_rfl) (by kernel_rfl) (by kernel_rfl) rfl (fun _=>rfl) (fun _ h=>h.elim) (fun _ _ h=>h) (by simp) (by simp) (fun R b1=>⟨fun _=>rfl,fun _=>rfl,fun _=>rfl,trivial⟩) (fun _ _ _ _=>rfl) dH EE.out ?zK ?yV;case zK =>
  refine⟨aH,d_ fl,aH,trivial⟩
 case yV =>
  intro cY R G bZ ae;have hS:=ae.same;have aZ:=ae.holds;have bf:=EE.out.size;replace ak:=ak.aY hS (fun h=>h) (by simp);replace EE:=hide (show Ext _ _ from aZ);clear hS bf aZ ae gu;generalize hF:bB _ _ _ _ _ _ _=bH;have bI:bH={ tmps:=#[.int .i64 e,undef,.pointer (some ⟨g0,0,none⟩),.int .i64 0,.int .i64 e,.bool false,.bool true,undef,undef,undef],defers:=[] }:=by subst hF;kernel_rfl
  clear hF;subst bI;go_upto_region 2 with fail
  have gu:=ak.lt;refine eB [.q,.so 0,.q] [0,0,0] (fun R=>[.agg bL,undef,.int .i64 9]) (fun _=>(.cells #[] 0 (0,0))) (fun R _=>(.cells bL 33 (0,0))) (fun _=>g0) (dA W) (fun _=>False) (by kernel_rfl) (by kernel_rfl) (by kernel_rfl) rfl (fun _=>rfl) (fun _ h=>h.elim) (fun _ _ h=>h) (by intro c hc;simp at hc;(try subst hc);(try simp only);omega) (by intro c c' h1 h2 _;simp at h1 h2;omega) (fun R b1=>⟨fun _=>rfl,fun _=>rfl,fun _=>rfl,trivial⟩) (fun _ _ _ _=>rfl) dH EE.out ?ER ?C5;case ER =>
   refine⟨?_,?_,aH,trivial⟩
   ·refine cj fun R s w' aw hs hw ha=>?_
    generalize hA:bB _ _ _ _ _ _ _=c3;refine pD (vs:=#[]) rfl ?_ (CF);subst hA;kernel_rfl
   ·refine il (c:=0) (Ty:=?XT) (p:=?aju) (x:=?anW) g0 ?Kn ?OZ ?wo ?iR ?NC ?j9 ?M0 ?jo ?JV ?J7 ?_;case iR=>exact rfl
    case NC=>exact rfl
    case Kn=>exact(fun R=>(.cells bL 33 (0,0)))
    case OZ=>exact(fun R=>.pointer (some ⟨g0,0,none⟩))
    case wo=>exact(fun R=>.agg bL)
    case j9=>exact(fun R=>rfl)
    case M0=>exact rfl
    case jo=>exact cu rfl
    case JV =>
     intro R;kernel_rfl
    case J7 =>
     intro R;kernel_rfl
    intro R s ρ w aw hs hp hx hz;refine⟨lI (g:=g0) rfl hp hx (hz.trans ak) eW (rfl) (rfl) (Al),fun aT hF=>dM aw hF lh⟩
  case C5 =>
   intro cY R G c8 ae;have hS:=ae.same;have aZ:=ae.holds;have bf:=EE.out.size;replace ak:aG c8 g0 33 bL:=ae.ep 1 (List.mem_range.2 (show 1<3 by decide)) 0 rfl;replace EE:=hide (show Ext _ _ from aZ);clear hS bf aZ ae gu;generalize hF:bB _ _ _ _ _ _ _=bH;have bI:bH={ tmps:=#[.int .i64 e,undef,.pointer (some ⟨g0,0,none⟩),.int .i64 9,.int .i64 e,.bool false,.bool true,.agg bL,undef,undef],defers:=[] }:=by subst hF;kernel_rfl
   clear hF;subst bI;go_wp2_with fail
   exact bodyPost_ret (kg (p:=2) (u:=3) (ty:=33) rfl _ _ _ 33 (bL) _ rfl ak jC rfl (by rw[eW];kernel_rfl)) rfl ⟨by kernel_rfl,EE.out⟩
set_option maxRecDepth 100000 in
theorem Vi (e t v:Int) (W:World) (ks:Hid (∀ w,Calls Tryz.prog 29 #[] w (aP (.agg c9) w))):Calls Tryz.prog 72 #[.int .i64 e,.agg (bO t v)] W (aP (.agg (aI e 1 t v t c9)) W):=by
 have aq:=(aG.new W 23 (bO t v)).alloc (.cells bL 33);have ag:=aG.new (W.alloc (.cells (bO t v) 23)) 33 bL;rw[iY] at ag;have EE:=hide ((aA W (.cells (bO t v) 23)).trans (aA _ (.cells bL 33)));obtain⟨bG,bD⟩:=aM (((W.alloc (.cells (bO t v) 23)).alloc (.cells bL 33)));obtain⟨g0,af⟩:∃ g,W.heap.size=g:=⟨_,rfl⟩;rw[bD] at aq ag EE;rw[af] at aq ag;have r9:W.heap.size≤g0:=by omega
 have lj:W.heap.size≤g0+1:=by omega
 have aB:=hide bD;have bW:=hide af;clear bD af;go_enter Tryz.func72,Tryz.ntmps72
 go_upto_region 1 with fail
 unfold bL at aB;rw[aB.out,bW.out];clear aB bW;have gM:=aq.lt;have cP:=ag.lt;refine kl [.q,.q,.q,.q,.q,.q,.so 0] [0,0,0,0,0,0,0] (fun R=>[.int .i64 e,.agg (bO t v),.pointer (some ⟨g0,0,none⟩),.int .i64 t,.agg c9,.agg (aI e 1 t v t c9),undef]) (fun _=>(.cells #[] 0 (0,0))) (fun R _=>(.cells (aI e 1 t v t c9) 33 (0,0))) (fun _=>g0+1) (dA W) (fun _=>False) (by kernel_rfl) (by kernel_rfl) (by kernel_rfl) (by kernel_rfl) rfl (fun _=>rfl) (fun _ h=>h.elim) (fun _ _ h=>h) (by intro c hc;simp at hc;(try subst hc);(try simp only);omega) (by intro c c' h1 h2 _;simp at h1 h2;omega) (fun R b1=>⟨fun _=>rfl,fun _=>rfl,fun _=>rfl,fun _=>rfl,fun _=>rfl,fun _=>rfl,fun _=>rfl,trivial⟩) (fun _ _ _ _=>rfl) dH (EE.out.trans (b5 _)) ?ER ?C5;case ER =>
  refine⟨aH,?_,aH,?_,d_ ks,?_,?_,trivial⟩
  ·refine cj fun R s w' aw hs hw ha=>?_
   have L:=dF (aq.aY hw (fun h=>h) (by intro c hc;simp at hc;(try subst hc);(try simp only);omega)) xQ rfl xB rfl;generalize hA:bB _ _ _ _ _ _ _=c3;refine e7 rfl ?_ L;subst hA;kernel_rfl
  ·refine cj fun R s w' aw hs hw ha=>?_
   have cc:=((show aG w' g0 _ (bO t v) from aq.aY hw (fun h=>h) (by intro c hc;simp at hc;(try subst hc);(try simp only);omega)).cell 0).trans (show (bO t v)[0]?=some (.int .i64 t) from rfl);go_simp
  ·refine cj fun R s w' aw hs hw ha=>?_
   generalize hA:bB _ _ _ _ _ _ _=c3;refine pD (vs:=#[(0,.int .i64 e),(1,.int .i64 1),(2,.agg (bO t v)),(3,.int .i64 t),(4,.agg c9)]) rfl ?_ (Jw e t v);subst hA;kernel_rfl
  ·refine il (c:=0) (Ty:=?tK) (p:=?ud) (x:=?ur) (g0+1) ?lZ ?E9 ?jE ?gA ?me ?hO ?mb ?gx ?CX ?lX ?_;case gA=>exact rfl
   case me=>exact rfl
   case lZ=>exact(fun R=>(.cells (aI e 1 t v t c9) 33 (0,0)))
   case E9=>exact(fun R=>.pointer (some ⟨g0+1,0,none⟩))
   case jE=>exact(fun R=>.agg (aI e 1 t v t c9))
   case hO=>exact(fun R=>rfl)
   case mb=>exact rfl
   case gx=>exact cu rfl
   case CX =>
    intro R;kernel_rfl
   case lX =>
    intro R;kernel_rfl
   intro R s ρ w aw hs hp hx hz;refine⟨lI (g:=(g0+1)) rfl hp hx (hz.trans ag) eW (rfl) (hR rfl) (jU E2),fun aT hF=>dM aw hF lj⟩
 case C5 =>
  intro cY R G c8 ae;have hS:=ae.same;have aZ:=ae.holds;have bf:=EE.out.size;replace aq:=aq.aY hS (fun h=>h) (by intro c hc;simp at hc;(try subst hc);(try simp only);omega);replace ag:aG c8 (g0+1) 33 (aI e 1 t v t c9):=ae.ep 6 (List.mem_range.2 (show 6<7 by decide)) 0 rfl;replace EE:=hide (show Ext _ _ from aZ);clear hS bf aZ ae gM cP;generalize hF:bB _ _ _ _ _ _ _=bH;have bI:bH={ tmps:=#[.int .i64 e,.agg (bO t v),undef,.pointer (some ⟨g0,0,none⟩),.pointer (some ⟨g0+1,0,none⟩),.int .i64 e,.agg (bO t v),.pointer (some ⟨g0,0,none⟩),.int .i64 t,.agg c9,.agg (aI e 1 t v t c9)],defers:=[] }:=by subst hF;kernel_rfl
  clear hF;subst bI;go_wp2_with fail
  exact bodyPost_ret (results_cell_row (p:=4) (ty:=33) rfl _ _ _ 33 (aI e 1 t v t c9) (0,0) _ rfl ag jC rfl (by rw[eW,hR rfl])) rfl ⟨rfl,EE.out⟩
set_option maxRecDepth 100000 in
theorem Vm (e n t v l:Int) (K:Array Value) (cS:K.size=21) (eI:K.all (·.oneCell')=true) (S:Array Value) (tn:S.size=10) (zH:S.all (·.oneCell')=true) (W:World) (gR:Hid (∀ w,Calls Tryz.prog 31 #[.agg K] w (aP (.agg S) w))):Calls Tryz.prog 73 #[.agg (aI e n t v l K)] W (aP (.agg (j_ n v S)) W):=by
 have eX:=hR (e:=e) (n:=n) (t:=t) (v:=v) (l:=l) cS;have kf:=jU (e:=e) (n:=n) (t:=t) (v:=v) (l:=l) eI;obtain⟨f0,f1,f2,f3,f4,fs,fk⟩:=nX (e:=e) (n:=n) (t:=t) (v:=v) (l:=l) cS;obtain⟨X,dk⟩:=aM (aI e n t v l K);rw[dk] at eX kf f0 f1 f2 f3 f4 fs fk ⊢;clear dk;have aS:=(aG.new W 33 X).alloc (.cells z12 55);have ak:=aG.new (W.alloc (.cells X 33)) 55 z12;rw[iY] at ak;have EE:=hide ((aA W (.cells X 33)).trans (aA _ (.cells z12 55)));obtain⟨bG,bD⟩:=aM (((W.alloc (.cells X 33)).alloc (.cells z12 55)));obtain⟨g0,af⟩:∃ g,W.heap.size=g:=⟨_,rfl⟩;rw[bD] at aS ak EE;rw[af] at aS ak;have wK:W.heap.size≤g0:=by omega
 have lh:W.heap.size≤g0+1:=by omega
 have aB:=hide bD;have bW:=hide af;clear bD af;go_enter Tryz.func73,Tryz.ntmps73
 go_upto_region 1 with fail
 unfold z12 at aB;rw[aB.out,bW.out];clear aB bW;have uG:=aS.lt;have gu:=ak.lt;refine kl [.q,.q,.q,.q,.q,.q,.q,.q,.q,.so 0] [0,0,0,0,0,0,0,0,0,0] (fun R=>[.pointer (some ⟨g0,1,none⟩),.int .i64 n,.pointer (some ⟨g0,2,none⟩),.pointer (some ⟨g0,3,none⟩),.int .i64 v,.pointer (some ⟨g0,5,none⟩),.agg K,.agg S,.agg (j_ n v S),undef]) (fun _=>(.cells #[] 0 (0,0))) (fun R _=>(.cells (j_ n v S) 55 (0,0))) (fun _=>g0+1) (dA W) (fun _=>False) (by kernel_rfl) (by kernel_rfl) (by kernel_rfl) (by kernel_rfl) rfl (fun _=>rfl) (fun _ h=>h.elim) (fun _ _ h=>h) (by intro c hc;simp at hc;(try subst hc);(try simp only);omega) (by intro c c' h1 h2 _;simp at h1 h2;omega) (fun R b1=>⟨fun _=>rfl,fun _=>rfl,fun _=>rfl,fun _=>rfl,fun _=>rfl,fun _=>rfl,fun _=>rfl,fun _=>rfl,fun _=>rfl,fun _=>rfl,trivial⟩) (fun _ _ _ _=>rfl) dH (EE.out.trans (b5 _)) ?NG ?J8;case NG =>
  refine⟨aH,?_,aH,aH,?_,aH,?_,d_ gR,?_,?_,trivial⟩
  ·refine cj fun R s w' aw hs hw ha=>?_
   have cc:=((show aG w' g0 _ X from aS.aY hw (fun h=>h) (by intro c hc;simp at hc;(try subst hc);(try simp only);omega)).cell 1).trans (f1);go_simp
  ·refine cj fun R s w' aw hs hw ha=>?_
   have cc:=((show aG w' g0 _ X from aS.aY hw (fun h=>h) (by intro c hc;simp at hc;(try subst hc);(try simp only);omega)).cell 3).trans (f3);go_simp
  ·refine cj fun R s w' aw hs hw ha=>?_
   have L:=pH (aS.aY hw (fun h=>h) (by intro c hc;simp at hc;(try subst hc);(try simp only);omega)) _ _ fV rfl 5 21 ei (by rw[eX];first|decide|omega) _ (fk);generalize hA:bB _ _ _ _ _ _ _=c3;refine e7 rfl ?_ L;subst hA;kernel_rfl
  ·refine cj fun R s w' aw hs hw ha=>?_
   generalize hA:bB _ _ _ _ _ _ _=c3;refine pD (vs:=#[(0,.int .i64 n),(1,.int .i64 v),(2,.agg S)]) rfl ?_ (Ru n v tn);subst hA;kernel_rfl
  ·refine il (c:=0) (Ty:=?XM) (p:=?ajo) (x:=?anQ) (g0+1) ?Kh ?OY ?wm ?po ?Nw ?sW ?MU ?o_ ?JU ?J1 ?_;case po=>exact rfl
   case Nw=>exact rfl
   case Kh=>exact(fun R=>(.cells (j_ n v S) 55 (0,0)))
   case OY=>exact(fun R=>.pointer (some ⟨g0+1,0,none⟩))
   case wm=>exact(fun R=>.agg (j_ n v S))
   case sW=>exact(fun R=>rfl)
   case MU=>exact rfl
   case o_=>exact cu rfl
   case JU =>
    intro R;kernel_rfl
   case J1 =>
    intro R;kernel_rfl
   intro R s ρ w aw hs hp hx hz;refine⟨lI (g:=(g0+1)) rfl hp hx (hz.trans ak) TI (rfl) (Hd tn) (T2 zH),fun aT hF=>dM aw hF lh⟩
 case J8 =>
  intro cY R G xT ae;have hS:=ae.same;have aZ:=ae.holds;have bf:=EE.out.size;replace aS:=aS.aY hS (fun h=>h) (by intro c hc;simp at hc;(try subst hc);(try simp only);omega);replace ak:aG xT (g0+1) 55 (j_ n v S):=ae.ep 9 (List.mem_range.2 (show 9<10 by decide)) 0 rfl;replace EE:=hide (show Ext _ _ from aZ);clear hS bf aZ ae uG gu;generalize hF:bB _ _ _ _ _ _ _=bH;have bI:bH={ tmps:=#[.agg X,.pointer (some ⟨g0,0,none⟩),.pointer (some ⟨g0+1,0,none⟩),.pointer (some ⟨g0,1,none⟩),.int .i64 n,.pointer (some ⟨g0,2,none⟩),.pointer (some ⟨g0,3,none⟩),.int .i64 v,.pointer (some ⟨g0,5,none⟩),.agg K,.agg S,.agg (j_ n v S)],defers:=[] }:=by subst hF;kernel_rfl
  clear hF;subst bI;go_wp2_with fail
  exact bodyPost_ret (results_cell_row (p:=2) (ty:=55) rfl _ _ _ 55 (j_ n v S) (0,0) _ rfl ak HZ rfl (by rw[TI,Hd tn])) rfl ⟨rfl,EE.out⟩
end
section
open Go Go.RowKit Go.Sort
attribute [local go_sem] mg A3 bB BX
set_option maxRecDepth 100000 in
theorem aj1 (e n t v l:Int) (K:Array Value) (cS:K.size=21) (eI:K.all (·.oneCell')=true) (W:World) (w7 kM bA gd BK:Bool) (fl:Hid (∀ w,Calls Tryz.prog 35 #[.int .i64 e] w (aP (.bool w7) w))) (ks:Hid (∀ w,Calls Tryz.prog 29 #[] w (aP (.agg c9) w))) (kv:Hid (∀ w,Calls Tryz.prog 69 #[.agg K] w (aP (.bool gd) w)))
 (tW:Hid (n=0→∀ w,(binOp .eql 33 (.agg (aI e n t v l K)) (.agg (aI e 0 0 0 0 z21))).run Tryz.prog w=.ok (.bool kM) w)) (sY:Hid (∀ w,(binOp .eql 31 (.agg K) (.agg c9)).run Tryz.prog w=.ok (.bool bA) w)) (fo:K[0]?=some (.bool BK)) (r:Bool) (aD:(w7&&(if n=0 then kM else if n=1 then (decide (l=t)&&bA) else (decide (1<n)&&(decide (n≤1073741824)&&(decide (t<l)&&(gd&&!BK))))))=r) :
 Calls Tryz.prog 42 #[.agg (aI e n t v l K)] W (aP (.bool r) W):=by
 have eX:=hR (e:=e) (n:=n) (t:=t) (v:=v) (l:=l) cS;have kf:=jU (e:=e) (n:=n) (t:=t) (v:=v) (l:=l) eI;obtain⟨f0,f1,f2,f3,f4,fs,fk⟩:=nX (e:=e) (n:=n) (t:=t) (v:=v) (l:=l) cS;have Ko:(aI e n t v l K)[5]?=some (.bool BK):=(akX cS).trans fo;clear fo;obtain⟨X,dk⟩:=aM (aI e n t v l K);rw[dk] at eX kf f0 f1 f2 f3 f4 fs fk Ko tW ⊢;clear dk;have aS:=aG.new W 33 X;have EE:=hide (aA W (.cells X 33));obtain⟨bG,bD⟩:=aM ((W.alloc (.cells X 33)));obtain⟨g0,af⟩:∃ g,W.heap.size=g:=⟨_,rfl⟩;rw[bD] at aS EE;rw[af] at aS;have wK:W.heap.size≤g0:=by omega
 have aB:=hide bD;have bW:=hide af;clear bD af;go_enter Tryz.func42,Tryz.ntmps42
 go_upto_region 1 with fail
 rw[aB.out,bW.out];clear aB bW;cases w7 with
 | false =>
  obtain rfl:false=r:=aD;clear ks kv tW sY;have yN:=fun d os=>(((aS).ext (aX bG d os)).cell 0).trans (f0)
  refine eK ?_;repeat (first|go_big_quiet_step (first|with_reducible exact dK (fl.out _))|quiet_step (first|with_reducible exact dK (fl.out _)))
  refine wpQuiet_nil ?_;intro _ bj;obtain⟨⟨aQ,osq⟩,cq⟩:=bj;subst cq;replace aS:=(aS).ext (aX bG aQ osq);replace EE:=hide (EE.out.trans (aX bG aQ osq));obtain⟨bp,eF⟩:∃ w,grow (redrawn bG aQ) osq=w:=⟨_,rfl⟩;rw[eF] at EE aS ⊢;clear eF yN;go_wp2_with fail
  go_ret;exact⟨rfl,EE.out⟩
 | true =>
  rw[Bool.true_and] at aD;have ZI:=fun d os=>(((aS).ext (aX bG d os)).cell 0).trans (f0)
  refine eK ?_;repeat (first|go_big_quiet_step (first|with_reducible exact dK (fl.out _))|quiet_step (first|with_reducible exact dK (fl.out _)))
  refine wpQuiet_nil ?_;intro _ bj;obtain⟨⟨aQ,osq⟩,cq⟩:=bj;subst cq;replace aS:=(aS).ext (aX bG aQ osq);replace EE:=hide (EE.out.trans (aX bG aQ osq));obtain⟨xV,Tw⟩:∃ w,grow (redrawn bG aQ) osq=w:=⟨_,rfl⟩;rw[Tw] at EE aS ⊢;clear Tw ZI;go_upto_region 3 with fail
  by_cases h0:n=0
  ·have d0:(n==0)=true:=by rw[beq_iff_eq];exact h0
   obtain rfl:kM=r:=by rw[if_pos h0] at aD;exact aD
   replace tW:=hide (tW.out h0);clear aD h0 kv sY ks;have ZJ:=fun d os=>(((aS).ext (aX xV d os)).cell 1).trans (f1)
   refine eK ?_;repeat (first|go_big_quiet_step (fail)|quiet_step (fail))
   refine wpQuiet_nil ?_;intro _ bj;obtain⟨⟨aQ,osq⟩,cq⟩:=bj;subst cq;replace aS:=(aS).ext (aX xV aQ osq);replace EE:=hide (EE.out.trans (aX xV aQ osq));obtain⟨atc,Tx⟩:∃ w,grow (redrawn xV aQ) osq=w:=⟨_,rfl⟩;rw[Tx] at EE aS ⊢;clear Tx ZJ;go_upto_region 4 with fail
   have uG:=aS.lt;refine eB [.q,.q,.q,.q,.q,.q] [0,0,0,0,0,0] (fun R=>[.agg X,.pointer (some ⟨g0,0,none⟩),.int .i64 e,.agg (aI e 0 0 0 0 z21),.bool kM,.bool kM]) (fun _=>(.cells #[] 0 (0,0))) (fun R _=>(.cells #[] 0 (0,0))) (fun _=>0) (dA W) (fun _=>False) (by kernel_rfl) (by kernel_rfl) (by kernel_rfl) rfl (fun _=>rfl) (fun _ h=>h.elim) (fun _ _ h=>h) (by simp) (by simp) (fun R b1=>⟨fun _=>rfl,fun _=>rfl,fun _=>rfl,fun _=>rfl,fun _=>rfl,fun _=>rfl,trivial⟩) (fun _ _ _ _=>rfl) dH EE.out ?ahY ?aaL;case ahY =>
    refine⟨?_,aH,?_,?_,?_,aH,trivial⟩
    ·refine cj fun R s w' aw hs hw ha=>?_
     have L:=dF (aS.aY hw (fun h=>h) (by simp)) jC rfl eW eX;generalize hA:bB _ _ _ _ _ _ _=c3;refine e7 rfl ?_ L;subst hA;kernel_rfl
    ·refine cj fun R s w' aw hs hw ha=>?_
     have cc:=((show aG w' g0 _ X from aS.aY hw (fun h=>h) (by simp)).cell 0).trans (f0);go_simp
    ·refine cj fun R s w' aw hs hw ha=>?_
     generalize hA:bB _ _ _ _ _ _ _=c3;refine pD (vs:=#[(0,.int .i64 e)]) rfl ?_ (Jy e);subst hA;kernel_rfl
    ·refine cj fun R s w' aw hs hw ha=>?_
     have L:=tW.out w';generalize hA:bB _ _ _ _ _ _ _=c3;refine N7 rfl ?_ ?_ (Kf _ _ (by kernel_rfl) _ _ _ _ w') L
     ·subst hA;kernel_rfl
     ·subst hA;kernel_rfl
   case aaL =>
    intro cY R G atd ae;have hS:=ae.same;have aZ:=ae.holds;have bf:=EE.out.size;replace aS:=aS.aY hS (fun h=>h) (by simp);replace EE:=hide (show Ext _ _ from aZ);clear hS bf aZ ae uG;generalize hF:bB _ _ _ _ _ _ _=bH;have bI:bH={ tmps:=#[.agg X,.pointer (some ⟨g0,0,none⟩),.bool kM,.pointer (some ⟨g0,0,none⟩),.int .i64 e,.bool true,.bool false,.bool true,.pointer (some ⟨g0,1,none⟩),.int .i64 n,.bool true,.agg X,.pointer (some ⟨g0,0,none⟩),.int .i64 e,.agg (aI e 0 0 0 0 z21),.bool kM,undef,undef,undef,undef,undef,undef,undef,undef,undef,undef,undef,undef,undef,undef,undef,undef,undef,undef,undef,undef,undef,undef,undef,undef,undef,undef,undef,undef,undef,undef,undef,undef,undef,undef,undef,undef,undef,undef,undef,undef,undef,undef,undef],defers:=[] }:=by subst hF;kernel_rfl
    clear hF;subst bI;go_wp2_with fail
    go_ret;exact⟨rfl,EE.out⟩
  have d0:(n==0)=false:=by rw[beq_eq_false_iff_ne];exact h0
  rw[if_neg h0] at aD;clear tW;have ZK:=fun d os=>(((aS).ext (aX xV d os)).cell 1).trans (f1)
  refine eK ?_;repeat (first|go_big_quiet_step (fail)|quiet_step (fail))
  refine wpQuiet_nil ?_;intro _ bj;obtain⟨⟨aQ,osq⟩,cq⟩:=bj;subst cq;replace aS:=(aS).ext (aX xV aQ osq);replace EE:=hide (EE.out.trans (aX xV aQ osq));obtain⟨rU,Tz⟩:∃ w,grow (redrawn xV aQ) osq=w:=⟨_,rfl⟩;rw[Tz] at EE aS ⊢;clear Tz ZK;go_upto_region 5 with fail
  by_cases h1:n=1
  ·have d1:(n==1)=true:=by rw[beq_iff_eq];exact h1
   rw[if_pos h1] at aD;clear h0 h1 kv;by_cases h2:l=t
   ·have d2:(l==t)=true:=by rw[beq_iff_eq];exact h2
    obtain rfl:bA=r:=by rw[decide_eq_true h2] at aD;exact aD
    clear aD h2;have ZL:=fun d os=>(((aS).ext (aX rU d os)).cell 1).trans (f1)
    refine eK ?_;repeat (first|go_big_quiet_step (fail)|quiet_step (fail))
    refine wpQuiet_nil ?_;intro _ bj;obtain⟨⟨aQ,osq⟩,cq⟩:=bj;subst cq;replace aS:=(aS).ext (aX rU aQ osq);replace EE:=hide (EE.out.trans (aX rU aQ osq));obtain⟨B6,TA⟩:∃ w,grow (redrawn rU aQ) osq=w:=⟨_,rfl⟩;rw[TA] at EE aS ⊢;clear TA ZL;go_upto_region 6 with fail
    have ZM:=fun d os=>(((aS).ext (aX B6 d os)).cell 4).trans (f4)
    have ZN:=fun d os=>(((aS).ext (aX B6 d os)).cell 2).trans (f2)
    have ZO:=sY.out;refine wp_region_quiet_below (by kernel_rfl) (by kernel_rfl) ?_;repeat (first|go_big_quiet_step (first|with_reducible exact dK (ks.out _))|(refine iE (by kernel_rfl) rfl rfl (fun w hw=>by obtain⟨⟨d,os⟩,rfl⟩:=hw;exact pH ((aS).ext (aX B6 d os)) _ _ fV rfl 5 21 ei (by rw[eX];first|decide|omega) _ (fk)) ?_)|quiet_step (first|with_reducible exact dK (ks.out _)))
    refine wpQuiet_nil ?_;intro _ bj;obtain⟨⟨aQ,osq⟩,cq⟩:=bj;subst cq;replace aS:=(aS).ext (aX B6 aQ osq);replace EE:=hide (EE.out.trans (aX B6 aQ osq));obtain⟨atg,TB⟩:∃ w,grow (redrawn B6 aQ) osq=w:=⟨_,rfl⟩;rw[TB] at EE aS ⊢;clear TB ZM ZN ZO;go_wp2_with fail
    go_ret;exact⟨rfl,EE.out⟩
   ·have d2:(l==t)=false:=by rw[beq_eq_false_iff_ne];exact h2
    obtain rfl:false=r:=by rw[decide_eq_false h2] at aD;exact aD
    clear aD h2 sY ks;have ZP:=fun d os=>(((aS).ext (aX rU d os)).cell 1).trans (f1)
    refine eK ?_;repeat (first|go_big_quiet_step (fail)|quiet_step (fail))
    refine wpQuiet_nil ?_;intro _ bj;obtain⟨⟨aQ,osq⟩,cq⟩:=bj;subst cq;replace aS:=(aS).ext (aX rU aQ osq);replace EE:=hide (EE.out.trans (aX rU aQ osq));obtain⟨Fl,TC⟩:∃ w,grow (redrawn rU aQ) osq=w:=⟨_,rfl⟩;rw[TC] at EE aS ⊢;clear TC ZP;go_upto_region 6 with fail
    have ZQ:=fun d os=>(((aS).ext (aX Fl d os)).cell 4).trans (f4)
    have ZR:=fun d os=>(((aS).ext (aX Fl d os)).cell 2).trans (f2)
    refine wp_region_quiet_below (by kernel_rfl) (by kernel_rfl) ?_;repeat (first|go_big_quiet_step (fail)|quiet_step (fail))
    refine wpQuiet_nil ?_;intro _ bj;obtain⟨⟨aQ,osq⟩,cq⟩:=bj;subst cq;replace aS:=(aS).ext (aX Fl aQ osq);replace EE:=hide (EE.out.trans (aX Fl aQ osq));obtain⟨ath,TD⟩:∃ w,grow (redrawn Fl aQ) osq=w:=⟨_,rfl⟩;rw[TD] at EE aS ⊢;clear TD ZQ ZR;go_wp2_with fail
    go_ret;exact⟨rfl,EE.out⟩
  have d1:(n==1)=false:=by rw[beq_eq_false_iff_ne];exact h1
  rw[if_neg h1] at aD;clear sY ks h0 h1;have Zr:=fun d os=>(((aS).ext (aX rU d os)).cell 1).trans (f1)
  refine eK ?_;repeat (first|go_big_quiet_step (fail)|quiet_step (fail))
  refine wpQuiet_nil ?_;intro _ bj;obtain⟨⟨aQ,osq⟩,cq⟩:=bj;subst cq;replace aS:=(aS).ext (aX rU aQ osq);replace EE:=hide (EE.out.trans (aX rU aQ osq));obtain⟨gT,Tn⟩:∃ w,grow (redrawn rU aQ) osq=w:=⟨_,rfl⟩;rw[Tn] at EE aS ⊢;clear Tn Zr;go_upto_region 7 with fail
  by_cases p0:1<n
  rotate_left
  ·have k7:decide (1<n)=false:=decide_eq_false p0;obtain rfl:false=r:=by rw[k7] at aD;exact aD
   clear aD p0 kv;have Zs:=fun d os=>(((aS).ext (aX gT d os)).cell 1).trans (f1)
   refine eK ?_;repeat (first|go_big_quiet_step (fail)|quiet_step (fail))
   refine wpQuiet_nil ?_;intro _ bj;obtain⟨⟨aQ,osq⟩,cq⟩:=bj;subst cq;replace aS:=(aS).ext (aX gT aQ osq);replace EE:=hide (EE.out.trans (aX gT aQ osq));obtain⟨as7,Tp⟩:∃ w,grow (redrawn gT aQ) osq=w:=⟨_,rfl⟩;rw[Tp] at EE aS ⊢;clear Tp Zs;go_wp2_with fail
   go_ret;exact⟨rfl,EE.out⟩
  have k7:decide (1<n)=true:=decide_eq_true p0;rw[k7,Bool.true_and] at aD;clear p0;by_cases p1:n≤1073741824
  rotate_left
  ·have q1:decide (n≤1073741824)=false:=decide_eq_false p1;obtain rfl:false=r:=by rw[q1] at aD;exact aD
   clear aD p1 kv;have Zt:=fun d os=>(((aS).ext (aX gT d os)).cell 1).trans (f1)
   refine eK ?_;repeat (first|go_big_quiet_step (fail)|quiet_step (fail))
   refine wpQuiet_nil ?_;intro _ bj;obtain⟨⟨aQ,osq⟩,cq⟩:=bj;subst cq;replace aS:=(aS).ext (aX gT aQ osq);replace EE:=hide (EE.out.trans (aX gT aQ osq));obtain⟨as8,Tq⟩:∃ w,grow (redrawn gT aQ) osq=w:=⟨_,rfl⟩;rw[Tq] at EE aS ⊢;clear Tq Zt;go_wp2_with fail
   go_ret;exact⟨rfl,EE.out⟩
  have q1:decide (n≤1073741824)=true:=decide_eq_true p1;rw[q1,Bool.true_and] at aD;clear p1;by_cases p2:t<l
  rotate_left
  ·have k8:decide (t<l)=false:=decide_eq_false p2;obtain rfl:false=r:=by rw[k8] at aD;exact aD
   clear aD p2 kv;have Zu:=fun d os=>(((aS).ext (aX gT d os)).cell 1).trans (f1)
   have Zv:=fun d os=>(((aS).ext (aX gT d os)).cell 4).trans (f4)
   have Zw:=fun d os=>(((aS).ext (aX gT d os)).cell 2).trans (f2)
   refine eK ?_;repeat (first|go_big_quiet_step (fail)|quiet_step (fail))
   refine wpQuiet_nil ?_;intro _ bj;obtain⟨⟨aQ,osq⟩,cq⟩:=bj;subst cq;replace aS:=(aS).ext (aX gT aQ osq);replace EE:=hide (EE.out.trans (aX gT aQ osq));obtain⟨as9,Tr⟩:∃ w,grow (redrawn gT aQ) osq=w:=⟨_,rfl⟩;rw[Tr] at EE aS ⊢;clear Tr Zu Zv Zw;go_wp2_with fail
   go_ret;exact⟨rfl,EE.out⟩
  have k8:decide (t<l)=true:=decide_eq_true p2;rw[k8,Bool.true_and] at aD;clear p2;cases gd with
  | false =>
   obtain rfl:false=r:=aD;have Zx:=fun d os=>(((aS).ext (aX gT d os)).cell 1).trans (f1)
   have Zy:=fun d os=>(((aS).ext (aX gT d os)).cell 4).trans (f4)
   have Zz:=fun d os=>(((aS).ext (aX gT d os)).cell 2).trans (f2)
   refine eK ?_;repeat (first|go_big_quiet_step (first|with_reducible exact dK (kv.out _))|(refine iE (by kernel_rfl) rfl rfl (fun w hw=>by obtain⟨⟨d,os⟩,rfl⟩:=hw;exact pH ((aS).ext (aX gT d os)) _ _ fV rfl 5 21 ei (by rw[eX];first|decide|omega) _ (fk)) ?_)|quiet_step (first|with_reducible exact dK (kv.out _)))
   refine wpQuiet_nil ?_;intro _ bj;obtain⟨⟨aQ,osq⟩,cq⟩:=bj;subst cq;replace aS:=(aS).ext (aX gT aQ osq);replace EE:=hide (EE.out.trans (aX gT aQ osq));obtain⟨as_,Ts⟩:∃ w,grow (redrawn gT aQ) osq=w:=⟨_,rfl⟩;rw[Ts] at EE aS ⊢;clear Ts Zx Zy Zz;go_wp2_with fail
   go_ret;exact⟨rfl,EE.out⟩
  | true =>
   cases BK with
   | true =>
    obtain rfl:false=r:=aD;have ZA:=fun d os=>(((aS).ext (aX gT d os)).cell 1).trans (f1)
    have ZB:=fun d os=>(((aS).ext (aX gT d os)).cell 4).trans (f4)
    have ZC:=fun d os=>(((aS).ext (aX gT d os)).cell 2).trans (f2)
    have ZD:=fun d os=>(((aS).ext (aX gT d os)).cell 5).trans (Ko)
    refine eK ?_;repeat (first|go_big_quiet_step (first|with_reducible exact dK (kv.out _))|(refine iE (by kernel_rfl) rfl rfl (fun w hw=>by obtain⟨⟨d,os⟩,rfl⟩:=hw;exact pH ((aS).ext (aX gT d os)) _ _ fV rfl 5 21 ei (by rw[eX];first|decide|omega) _ (fk)) ?_)|quiet_step (first|with_reducible exact dK (kv.out _)))
    refine wpQuiet_nil ?_;intro _ bj;obtain⟨⟨aQ,osq⟩,cq⟩:=bj;subst cq;replace aS:=(aS).ext (aX gT aQ osq);replace EE:=hide (EE.out.trans (aX gT aQ osq));obtain⟨ata,Tt⟩:∃ w,grow (redrawn gT aQ) osq=w:=⟨_,rfl⟩;rw[Tt] at EE aS ⊢;clear Tt ZA ZB ZC ZD;go_wp2_with fail
    go_ret;exact⟨rfl,EE.out⟩
   | false =>
    obtain rfl:true=r:=aD;have ZE:=fun d os=>(((aS).ext (aX gT d os)).cell 1).trans (f1)
    have ZF:=fun d os=>(((aS).ext (aX gT d os)).cell 4).trans (f4)
    have ZG:=fun d os=>(((aS).ext (aX gT d os)).cell 2).trans (f2)
    have ZH:=fun d os=>(((aS).ext (aX gT d os)).cell 5).trans (Ko)
    refine eK ?_;repeat (first|go_big_quiet_step (first|with_reducible exact dK (kv.out _))|(refine iE (by kernel_rfl) rfl rfl (fun w hw=>by obtain⟨⟨d,os⟩,rfl⟩:=hw;exact pH ((aS).ext (aX gT d os)) _ _ fV rfl 5 21 ei (by rw[eX];first|decide|omega) _ (fk)) ?_)|quiet_step (first|with_reducible exact dK (kv.out _)))
    refine wpQuiet_nil ?_;intro _ bj;obtain⟨⟨aQ,osq⟩,cq⟩:=bj;subst cq;replace aS:=(aS).ext (aX gT aQ osq);replace EE:=hide (EE.out.trans (aX gT aQ osq));obtain⟨atb,Tv⟩:∃ w,grow (redrawn gT aQ) osq=w:=⟨_,rfl⟩;rw[Tv] at EE aS ⊢;clear Tv ZE ZF ZG ZH;go_wp2_with fail
    go_ret;exact⟨rfl,EE.out⟩
end
section
open Go Go.RowKit Go.Sort
theorem BR {fn:Func}{p u u2:Tmp}{ty:TypeId} (h:fn.results=#[.cell p ty,.tmp u,.tmp u2]) (tmps:Array Value) (w:World) (g:Nat) (t:TypeId) (cs:Array Value) (d:TypeDesc)
 (hp:tmps.getD p undef=.pointer (some ⟨g,0,none⟩)) (af:aG w g t cs)
 (hu:Tryz.prog.underlying ty=some d) (hd:(match (generalizing:=false) d with|.struct _|.array _ _=>true|_=>false)=true) (hi:(Tryz.prog.info? ty).map (·.size)=some cs.size) :
 (results fn tmps).run Tryz.prog w=.ok (.tuple #[.agg cs,tmps.getD u undef,tmps.getD u2 undef]) w:=by
 have D6:tmps[p]?.getD undef=.pointer (some ⟨g,0,none⟩):=by simpa using hp
 simp[results,h,D6,asAddr,run_loadVar_row w g t ty cs (0,0) d af hu (by cases d<;>first|rfl|exact hd) hi,Sem.run_bind,Result.andThen]
end
section
open Go Go.RowKit Go.Sort
attribute [local go_sem] mg A3 bB BX
def w2 (bU fQ:World) (x:gD) (s:Nat) (R:Nat→Value) (w:World):Prop:=
 Ext bU w∧(1≤s→∃ q,R 0=.slice (some ⟨q,0,none⟩) 1 1∧fQ.heap.size≤q∧aG w q 55 (fU x))
theorem Wa {bU fQ:World}{x:gD}:∀ s R w w',w2 bU fQ x s R w→Below w.heap.size w w'→w2 bU fQ x s R w':=fun s R w w' h k =>
 ⟨h.1.trans k,fun hs=>by
  obtain⟨q,h1,h2,h3⟩:=h.2 hs;exact⟨q,h1,h2,(k.block q h3.lt).trans h3⟩⟩
theorem alk {bU fQ w aT:World}{x:gD}{s:Nat}{R:Nat→Value}{g:Nat}{f:Obj} (h:w2 bU fQ x s R w) (hF:m_ w aT g f) (af:bU.heap.size≤g) (hs:g<fQ.heap.size):w2 bU fQ x s R aT:=
 ⟨dM h.1 hF af,fun k=>by
  obtain⟨q,h1,h2,h3⟩:=h.2 k;exact⟨q,h1,h2,hF.fR h3 (by omega)⟩⟩
theorem Wb {bU fQ w:World}{x:gD}{R:Nat→Value} (h:w2 bU fQ x 0 R w) (hs:fQ.heap.size≤w.heap.size):w2 bU fQ x 1 (mr R 0 (.slice (some ⟨w.heap.size,0,none⟩) 1 1)) (w.alloc (.cells (fU x) 55)):=
 ⟨h.1.trans (aA _ _),fun _=>⟨w.heap.size,rfl,hs,aG.new w _ _⟩⟩
end
end Go.Proofs.YtojbopibfflnoaaGreat
