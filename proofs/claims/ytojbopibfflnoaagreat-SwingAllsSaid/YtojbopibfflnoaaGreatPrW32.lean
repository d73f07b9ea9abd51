/- Contracts and plain facts; each states its conditions. -/
import Derived.Test.YtojbopibfflnoaaGreatPrW9
import Derived.Test.YtojbopibfflnoaaGreatPrW16
import Derived.Test.YtojbopibfflnoaaGreatPrW26
import Derived.Test.YtojbopibfflnoaaGreatPrW29
import Derived.Test.YtojbopibfflnoaaGreatPrW30
import Derived.Test.YtojbopibfflnoaaGreatPrW31
import Derived.KernelRfl
import Derived.Test.YtojbopibfflnoaaGreatProg
import Derived.WalkSmall
import Derived.Deep.QuietTactic
import Derived.BigQuiet
import Derived.Deep.DeepCutAuto
import Derived.Shelf.Bytes.SlEqualAll
import Derived.Lib.AppendZerosOnto
namespace Go.Proofs.YtojbopibfflnoaaGreat
set_option linter.unusedVariables false
set_option linter.unusedSimpArgs false
set_option maxHeartbeats 16000000
section
open Go Go.RowKit Go.Sort
def UH (v:Nat):Nat→List Nat
 | 0=>[]
 | n+1=>UH v n++[v / 256 ^ n%256]
end
section
open Go Go.RowKit Go.Sort
def dC (z:Int):Array Value:=#[.bool (ao z),.int .u64 (ai z:Int),.int .u64 (ah z:Int),.int .u64 (aj z:Int),.int .u64 (ap z:Int)]
theorem nF (z:Int):(dC z).all (·.oneCell')=true:=by unfold dC;kernel_rfl
theorem H6 (z:Int):(dC z).setIfInBounds 0 (.bool false)=dC (z.natAbs:Int):=by
 have e:ao ((z.natAbs:Nat):Int)=false:=decide_eq_false (by omega);unfold dC;rw[e];rfl
theorem af0:dV=dC 73786976294838206464:=by kernel_rfl
def pV (base eps:Int) (dt:Nat):Prop:=base.natAbs<73786976294838206464∧0≤eps∧eps≤4611686018427387904∧0<dt
instance (base eps:Int) (dt:Nat):Decidable (pV base eps dt):=by unfold pV;infer_instance
def rR (base v eps:Int) (dt:Nat):Array Value:=if pV base eps dt then e4 (B1 base v eps dt) else z21
def I_ (f:Nat):Prop:=∀ (base v eps:Int) (dt:Nat),b4 base→-9223372036854775808≤v→v≤9223372036854775807→-9223372036854775808≤eps→eps≤9223372036854775807→dt<18446744073709551616→∀ w,Calls Tryz.prog f #[.agg (dC base),.int .i64 v,.int .i64 eps,.int .u64 (dt:Int)] w (aP (.tuple #[.agg (rR base v eps dt),.bool (decide (pV base eps dt))]) w)
theorem Vv {n d:Int} (h:okF (pG n d)):M6 n d=true:=decide_eq_true ⟨h.2.1,h.2.2.1⟩
theorem Ua {n d:Int} (hn:b4 n) (hd:b4 d) (h0:d≠0) (h:okF (pG n d)) (w:World):Calls Tryz.prog 57 #[.agg (dC n),.agg (dC d)] w (aP (.tuple #[.agg (cJ (pG n d)),true]) w):=adO hn hd h0 (Vv h) rfl rfl w
theorem ajW:I_ 22:=fun base v eps dt hb v1 v2 bk e2 hd w=>by
 have ha:b4 (base.natAbs:Int):=hb;have br:b4 73786976294838206464:=by unfold b4;omega
 obtain⟨r,aD⟩:=aM (f_ (base.natAbs:Int) 73786976294838206464);have hl:=uT aD;have gR:∀ w,Calls Tryz.prog 28 #[.agg (dC (base.natAbs:Int)),.agg dV] w (aP (.int .i64 r) w):=fun w=>by rw[af0];exact JQ ha br aD w
 have kv:∀ w,Calls Tryz.prog 51 #[.agg (dC base)] w (aP (.bool true) w):=fun w=>ZV hb w
 by_cases g1:base.natAbs<73786976294838206464
 ·have iz:r<0:=by omega
  by_cases g2:0≤eps∧eps≤4611686018427387904
  ·have fl:∀ w,Calls Tryz.prog 35 #[.int .i64 eps] w (aP (.bool true) w):=fun w=>by
    have:=HI eps w;rwa [decide_eq_true g2.1,decide_eq_true g2.2] at this
   by_cases g3:0<dt
   ·have af:pV base eps dt:=⟨g1,g2.1,g2.2,g3⟩;have zk:=OJ (base:=base) (v:=v) (eps:=eps) (dt:=(dt:Int)) g1 v1 v2 g2.1 g2.2 (by omega) (by omega);have aF:b4 v:=by unfold b4;omega
    have he:b4 eps:=by unfold b4;omega
    have aO:b4 (v-base):=by unfold b4;omega
    have Bm:b4 (v-base-eps):=by unfold b4;omega
    have xm:b4 (v-base+eps):=by unfold b4;omega
    have qD:b4 (dt:Int):=by unfold b4;omega
    rw[show rR base v eps dt=e4 (B1 base v eps dt) from if_pos af,decide_eq_true af];exact aj6 (dC base) (dC (base.natAbs:Int)) (dC v) (dC (v-base)) (dC eps) (dC (v-base-eps)) (dC (v-base+eps)) (dC (dt:Int)) (cJ (pG (v-base-eps) dt)) (cJ (pG (v-base+eps) dt)) v eps dt r true true true true true w rfl (nF _) rfl (nF _) (ao base) rfl (H6 base) rfl (nF _) rfl (nF _) rfl (nF _) (gP _) (gP _) iz g3 hd
     (hide kv) (hide gR) (hide fl) (hide (fun w=>CV v1 v2 w)) (hide (fun w=>JS aF hb rfl aO w)) (hide (fun w=>CV bk e2 w)) (hide (fun w=>JS aO he rfl Bm w)) (hide (fun w=>JO aO he rfl xm w)) (hide (fun w=>ZU hd w)) (hide (fun w=>Ua Bm qD (by omega) zk.1 w)) (hide (fun w=>Ua xm qD (by omega) zk.2.1 w))
   ·have af:¬ pV base eps dt:=fun h=>g3 h.2.2.2
    rw[show rR base v eps dt=z21 from if_neg af,decide_eq_false af];obtain rfl:dt=0:=by omega
    exact aj9 (dC base) (dC (base.natAbs:Int)) v eps 0 r w rfl (nF _) rfl (nF _) (ao base) rfl (H6 base) (hide kv) (hide gR) iz (hide fl)
  ·have af:¬ pV base eps dt:=fun h=>g2 ⟨h.2.1,h.2.2.1⟩
   rw[show rR base v eps dt=z21 from if_neg af,decide_eq_false af];have fl:∀ w,Calls Tryz.prog 35 #[.int .i64 eps] w (aP (.bool false) w):=fun w=>by
    have:=HI eps w;rwa [←Bool.decide_and,decide_eq_false g2] at this
   exact aj8 (dC base) (dC (base.natAbs:Int)) v eps dt r w rfl (nF _) rfl (nF _) (ao base) rfl (H6 base) (hide kv) (hide gR) iz (hide fl)
 ·have af:¬ pV base eps dt:=fun h=>g1 h.1
  rw[show rR base v eps dt=z21 from if_neg af,decide_eq_false af];exact aj7 (dC base) (dC (base.natAbs:Int)) v eps dt r w rfl (nF _) rfl (nF _) (ao base) rfl (H6 base) (hide kv) (hide gR) (by omega)
end
section
open Go Go.RowKit Go.Sort
attribute [local go_sem] mg A3 bB BX
def FG (g:Nat) (W:World) (X:Array Value) (Q:Value) (b:Bool) (e:Ending) (w':World):Prop:=e=.returned (.bool b)∧aG w' g 86 (cV X Q)∧b3 g W w'
set_option maxRecDepth 100000 in
theorem ai2 (e n t v l:Int) (K:Array Value) (cS:K.size=21) (eI:K.all (·.oneCell')=true) (g:Nat) (Q:Value) (t' v':Int) (wr:IntKind.i64.wrap (n+1)=n+1) (dt:Nat) (C M:Array Value) (cb:Bool) (nW:C.size=21) (s6:C.all (·.oneCell')=true) (gJ:M.size=21) (qb:M.all (·.oneCell')=true)
 (bQ:Hid (∀ w,Calls Tryz.prog 95 #[.int .i64 v] w (aP (.agg (dC v)) w))) (bY:Hid (∀ w,Calls Tryz.prog 96 #[.int .i64 t',.int .i64 t] w (aP (.int .u64 (dt:Int)) w))) (cX:Hid (∀ w,Calls Tryz.prog 94 #[.agg (dC v),.int .i64 v',.int .i64 e,.int .u64 (dt:Int)] w (aP (.tuple #[.agg C,.bool cb]) w))) (ev:Hid (∀ w,Calls Tryz.prog 97 #[.agg K,.agg C] w (aP (.tuple #[.agg M,true]) w))) (W:World) (bJ:aG W g 86 (cV (aI e n t v l K) Q)) :
 Calls Tryz.prog 79 #[.pointer (some ⟨g,0,none⟩),.agg (bO t' v')] W (FG g W (aI e (n+1) t v t' M) Q true):=by
 obtain⟨f0,f1,f2,f3,f4,f26,A6,fk⟩:=qe (e:=e) (n:=n) (t:=t) (v:=v) (l:=l) (q:=Q) cS;have BW:=qP (e:=e) (n:=n) (t:=t) (v:=v) (l:=l) (q:=Q) cS;have DM:=bJ.lt;have aq:=aG.new W 23 (bO t' v');have EE:=hide (aA W (.cells (bO t' v') 23));obtain⟨bG,bD⟩:=aM ((W.alloc (.cells (bO t' v') 23)));obtain⟨g0,af⟩:∃ g,W.heap.size=g:=⟨_,rfl⟩;rw[bD] at aq EE;rw[af] at aq;have r9:W.heap.size≤g0:=by omega
 have aB:=hide bD;have bW:=hide af;clear bD af;go_enter Tryz.func79,Tryz.ntmps79
 go_upto_region 1 with fail
 rw[aB.out,bW.out];clear aB bW;replace bJ:=bJ.ext EE.out;replace EE:=hide (Ext.c7 EE.out g);have gM:=aq.lt;have oB:=bJ.lt;refine kl [.q,.q,.q,.q,.q,.q,.q,.q,.q,.q,.q,.q,.q,.q,.q,.q,.q,.q,.q,.q,.q,.q,.q,.q,.q,.q,.q,.al,.st 27,.q] [0,0,0,0,0,0,0,0,0,0,0,0,0,0,0,0,0,0,0,0,0,0,0,0,0,0,0,0,0,0] (fun R=>[.pointer (some ⟨g,0,none⟩),.pointer (some ⟨g,0,none⟩),.pointer (some ⟨g,0,none⟩),.pointer (some ⟨g,2,none⟩),.pointer (some ⟨g,3,none⟩),.int .i64 v,.agg (dC v),.pointer (some ⟨g0,1,none⟩),.int .i64 v',.pointer (some ⟨g,0,none⟩),.pointer (some ⟨g,0,none⟩),.pointer (some ⟨g,0,none⟩),.pointer (some ⟨g,0,none⟩),.int .i64 e,.pointer (some ⟨g0,0,none⟩),.int .i64 t',.pointer (some ⟨g,0,none⟩),.pointer (some ⟨g,0,none⟩),.pointer (some ⟨g,0,none⟩),.pointer (some ⟨g,2,none⟩),.pointer (some ⟨g,2,none⟩),.int .i64 t,.int .u64 (dt:Int),.tuple #[.agg C,.bool cb],.tuple #[.agg C,.bool cb],.agg C,.bool cb,undef,undef,.bool cb]) (fun _=>(.cells z21 31 (0,0))) (fun R _=>(.cells C 31 (0,0))) (fun _=>0) (uQ g W) (fun _=>False) (by kernel_rfl) (by kernel_rfl) (by kernel_rfl) (by kernel_rfl) rfl (fun _=>rfl) (fun _ h=>h.elim) (fun _ _ h=>h) (by simp) (by simp) (fun R b1=>⟨fun _=>rfl,fun _=>rfl,fun _=>rfl,fun _=>rfl,fun _=>rfl,fun _=>rfl,fun _=>rfl,fun _=>rfl,fun _=>rfl,fun _=>rfl,fun _=>rfl,fun _=>rfl,fun _=>rfl,fun _=>rfl,fun _=>rfl,fun _=>rfl,fun _=>rfl,fun _=>rfl,fun _=>rfl,fun _=>rfl,fun _=>rfl,fun _=>rfl,fun _=>rfl,fun _=>rfl,fun _=>rfl,fun _=>rfl,fun _=>rfl,fun _=>rfl,fun _=>rfl,fun _=>rfl,trivial⟩) (fun _ _ _ _=>rfl) z8 EE.out.drew ?EQ ?C4;case EQ =>
  refine⟨aH,aH,aH,aH,aH,?_,d_ bQ,aH,?_,aH,aH,aH,aH,?_,aH,?_,aH,aH,aH,aH,aH,?_,d_ bY,d_ cX,aH,aH,aH,?_,?_,aH,trivial⟩
  ·refine cj fun R s w' aw hs hw ha=>?_
   have cc:=((show aG w' g _ (cV (aI e n t v l K) Q) from bJ.aY hw (fun h=>h) (by simp)).cell 3).trans (f3);go_simp
  ·refine cj fun R s w' aw hs hw ha=>?_
   have cc:=((show aG w' g0 _ (bO t' v') from aq.aY hw (fun h=>h) (by simp)).cell 1).trans (show (bO t' v')[1]?=some (.int .i64 v') from rfl);go_simp
  ·refine cj fun R s w' aw hs hw ha=>?_
   have cc:=((show aG w' g _ (cV (aI e n t v l K) Q) from bJ.aY hw (fun h=>h) (by simp)).cell 0).trans (f0);go_simp
  ·refine cj fun R s w' aw hs hw ha=>?_
   have cc:=((show aG w' g0 _ (bO t' v') from aq.aY hw (fun h=>h) (by simp)).cell 0).trans (show (bO t' v')[0]?=some (.int .i64 t') from rfl);go_simp
  ·refine cj fun R s w' aw hs hw ha=>?_
   have cc:=((show aG w' g _ (cV (aI e n t v l K) Q) from bJ.aY hw (fun h=>h) (by simp)).cell 2).trans (f2);go_simp
  ·refine ia ?Am ?vH ?vN ?vi ?_;case Am=>exact(.cells z21 31 (0,0))
   case vH=>exact rfl
   case vN=>exact rfl
   case vi=>exact cu rfl
   intro ρ w';go_simp;exact⟨rfl,rfl⟩
  ·refine ib (j:=27) (Ty:=?XP) (p:=?ajq) (x:=?anS) ?Kj ?PX ?Fi ?D1 ?Ny ?Ew ?MW ?Di ?J3 ?_;case D1=>exact rfl
   case Ny=>exact rfl
   case Kj=>exact(fun R=>(.cells C 31 (0,0)))
   case PX=>exact(.cells z21 31 (0,0))
   case Fi=>exact(fun R=>.agg C)
   case Ew=>exact(fun R=>rfl)
   case MW=>exact rfl
   case Di=>exact cu rfl
   case J3 =>
    intro R;kernel_rfl
   intro R s ρ w g aw hs hp hx af hz;exact⟨hQ rfl hp hx hz ei (nW) (s6),fun aT hF=>H0 aw hF (Nat.le_trans EE.out.2.2.2.1 af)⟩
 case C4 =>
  intro cY R G Fk ae;have hS:=ae.same;have aZ:=ae.holds;have bf:=EE.out.2.2.2.1;replace aq:=aq.aY hS (fun h=>h) (by simp);replace bJ:=bJ.aY hS (fun h=>h) (by simp);have bn:aG Fk (G 27) 31 C:=(ae.eV 28 (List.mem_range.2 (show 28<30 by decide)) 27 rfl).2.2;have LR:=(ae.made 27 (List.mem_range.2 (show 27<30 by decide)) rfl).1;have Xz:W.heap.size≤G 27:=Nat.le_trans bf LR;have ag5:g0≠G 27:=by omega
  have aho:g≠G 27:=by omega
  replace EE:=hide (show b3 g _ _ from aZ);clear hS bf aZ ae gM oB;generalize hF:bB _ _ _ _ _ _ _=bH;have bI:bH={ tmps:=#[.pointer (some ⟨g,0,none⟩),.agg (bO t' v'),undef,.pointer (some ⟨g0,0,none⟩),.bool false,.pointer (some ⟨G 27,0,none⟩),.bool cb,undef,undef,.tuple #[.agg C,.bool cb],.pointer (some ⟨g,0,none⟩),.pointer (some ⟨g,0,none⟩),.pointer (some ⟨g,0,none⟩),.pointer (some ⟨g,2,none⟩),.pointer (some ⟨g,3,none⟩),.int .i64 v,.agg (dC v),.pointer (some ⟨g0,1,none⟩),.int .i64 v',.pointer (some ⟨g,0,none⟩),.pointer (some ⟨g,0,none⟩),.pointer (some ⟨g,0,none⟩),.pointer (some ⟨g,0,none⟩),.int .i64 e,.pointer (some ⟨g0,0,none⟩),.int .i64 t',.pointer (some ⟨g,0,none⟩),.pointer (some ⟨g,0,none⟩),.pointer (some ⟨g,0,none⟩),.pointer (some ⟨g,2,none⟩),.pointer (some ⟨g,2,none⟩),.int .i64 t,.int .u64 (dt:Int),.tuple #[.agg C,.bool cb],.agg C,.bool cb,undef,undef,undef,undef,undef,undef,undef,undef,undef,undef,undef,undef,undef,undef,undef,undef,undef,undef,undef,undef,undef,undef,undef,undef,undef,undef,undef,undef,undef,undef,undef,undef],defers:=[] }:=by subst hF;kernel_rfl
  clear hF;subst bI;generalize G 27=g5 at *;go_upto_region 2 with fail
  have gM:=aq.lt;have oB:=bJ.lt;have Cl:=bn.lt;refine kl [.q,.q,.q,.q,.q,.q,.q,.q,.q,.q,.al,.st 10,.q] [0,0,0,0,0,0,0,0,0,0,0,0,0] (fun R=>[.pointer (some ⟨g,0,none⟩),.pointer (some ⟨g,0,none⟩),.pointer (some ⟨g,0,none⟩),.pointer (some ⟨g,5,none⟩),.agg K,.agg C,.tuple #[.agg M,true],.tuple #[.agg M,true],.agg M,.bool true,undef,undef,.bool true]) (fun _=>(.cells z21 31 (0,0))) (fun R _=>(.cells M 31 (0,0))) (fun _=>0) (uQ g W) (fun _=>False) (by kernel_rfl) (by kernel_rfl) (by kernel_rfl) (by kernel_rfl) rfl (fun _=>rfl) (fun _ h=>h.elim) (fun _ _ h=>h) (by simp) (by simp) (fun R b1=>⟨fun _=>rfl,fun _=>rfl,fun _=>rfl,fun _=>rfl,fun _=>rfl,fun _=>rfl,fun _=>rfl,fun _=>rfl,fun _=>rfl,fun _=>rfl,fun _=>rfl,fun _=>rfl,fun _=>rfl,trivial⟩) (fun _ _ _ _=>rfl) z8 EE.out.drew ?NK ?Ka;case NK =>
   refine⟨aH,aH,aH,aH,?_,?_,d_ ev,aH,aH,aH,?_,?_,aH,trivial⟩
   ·refine cj fun R s w' aw hs hw ha=>?_
    have L:=pH (bJ.aY hw (fun h=>h) (by simp)) _ _ fV rfl 5 21 ei (by rw[(qP cS)];first|decide|omega) _ (fk);generalize hA:bB _ _ _ _ _ _ _=c3;refine e7 rfl ?_ L;subst hA;kernel_rfl
   ·refine cj fun R s w' aw hs hw ha=>?_
    have L:=dF (bn.aY hw (fun h=>h) (by simp)) fV rfl ei nW;generalize hA:bB _ _ _ _ _ _ _=c3;refine e7 rfl ?_ L;subst hA;kernel_rfl
   ·refine ia ?P1 ?L1 ?ML ?KD ?_;case P1=>exact(.cells z21 31 (0,0))
    case L1=>exact rfl
    case ML=>exact rfl
    case KD=>exact cu rfl
    intro ρ w';go_simp;exact⟨rfl,rfl⟩
   ·refine ib (j:=10) (Ty:=?XR) (p:=?ajs) (x:=?anU) ?Kl ?FB ?Pn ?D3 ?NA ?Ey ?MY ?Dk ?J5 ?_;case D3=>exact rfl
    case NA=>exact rfl
    case Kl=>exact(fun R=>(.cells M 31 (0,0)))
    case FB=>exact(.cells z21 31 (0,0))
    case Pn=>exact(fun R=>.agg M)
    case Ey=>exact(fun R=>rfl)
    case MY=>exact rfl
    case Dk=>exact cu rfl
    case J5 =>
     intro R;kernel_rfl
    intro R s ρ w g aw hs hp hx af hz;exact⟨hQ rfl hp hx hz ei (gJ) (qb),fun aT hF=>H0 aw hF (Nat.le_trans EE.out.2.2.2.1 af)⟩
  case Ka =>
   intro cY R G oT ae;have hS:=ae.same;have aZ:=ae.holds;have bf:=EE.out.2.2.2.1;replace aq:=aq.aY hS (fun h=>h) (by simp);replace bJ:=bJ.aY hS (fun h=>h) (by simp);replace bn:=bn.aY hS (fun h=>h) (by simp);have bl:aG oT (G 10) 31 M:=(ae.eV 11 (List.mem_range.2 (show 11<13 by decide)) 10 rfl).2.2;have xq:=(ae.made 10 (List.mem_range.2 (show 10<13 by decide)) rfl).1;have I6:W.heap.size≤G 10:=Nat.le_trans bf xq;have Na:g0≠G 10:=by omega
   have ahp:g≠G 10:=by omega
   have ahf:g5≠G 10:=by omega
   replace EE:=hide (show b3 g _ _ from aZ);clear hS bf aZ ae gM oB Cl;generalize hF:bB _ _ _ _ _ _ _=bH;have bI:bH={ tmps:=#[.pointer (some ⟨g,0,none⟩),.agg (bO t' v'),undef,.pointer (some ⟨g0,0,none⟩),.bool false,.pointer (some ⟨g5,0,none⟩),.bool cb,.pointer (some ⟨G 10,0,none⟩),.bool true,.tuple #[.agg C,.bool cb],.pointer (some ⟨g,0,none⟩),.pointer (some ⟨g,0,none⟩),.pointer (some ⟨g,0,none⟩),.pointer (some ⟨g,2,none⟩),.pointer (some ⟨g,3,none⟩),.int .i64 v,.agg (dC v),.pointer (some ⟨g0,1,none⟩),.int .i64 v',.pointer (some ⟨g,0,none⟩),.pointer (some ⟨g,0,none⟩),.pointer (some ⟨g,0,none⟩),.pointer (some ⟨g,0,none⟩),.int .i64 e,.pointer (some ⟨g0,0,none⟩),.int .i64 t',.pointer (some ⟨g,0,none⟩),.pointer (some ⟨g,0,none⟩),.pointer (some ⟨g,0,none⟩),.pointer (some ⟨g,2,none⟩),.pointer (some ⟨g,2,none⟩),.int .i64 t,.int .u64 (dt:Int),.tuple #[.agg C,.bool cb],.agg C,.bool cb,.tuple #[.agg M,true],.pointer (some ⟨g,0,none⟩),.pointer (some ⟨g,0,none⟩),.pointer (some ⟨g,0,none⟩),.pointer (some ⟨g,5,none⟩),.agg K,.agg C,.tuple #[.agg M,true],.agg M,.bool true,undef,undef,undef,undef,undef,undef,undef,undef,undef,undef,undef,undef,undef,undef,undef,undef,undef,undef,undef,undef,undef,undef],defers:=[] }:=by subst hF;kernel_rfl
   clear hF;subst bI;generalize G 10=g7 at *;go_upto_region 3 with fail
   refine eK ?_;repeat (first|go_big_quiet_step (fail)|quiet_step (fail))
   refine wpQuiet_nil ?_;intro _ bj;obtain⟨⟨aQ,osq⟩,cq⟩:=bj;subst cq;replace aq:=(aq).ext (aX oT aQ osq);replace bJ:=(bJ).ext (aX oT aQ osq);replace bn:=(bn).ext (aX oT aQ osq);replace bl:=(bl).ext (aX oT aQ osq);replace EE:=hide (EE.out.more (aX oT aQ osq));obtain⟨Pt,Eo⟩:∃ w,grow (redrawn oT aQ) osq=w:=⟨_,rfl⟩;rw[Eo] at EE aq bJ bn bl ⊢;clear Eo;go_upto_region 4 with fail
   refine Wg (f:={ tmps:=#[.pointer (some ⟨g,0,none⟩),.agg (bO t' v'),undef,.pointer (some ⟨g0,0,none⟩),.bool false,.pointer (some ⟨g5,0,none⟩),.bool cb,.pointer (some ⟨g7,0,none⟩),.bool true,.tuple #[.agg C,.bool cb],.pointer (some ⟨g,0,none⟩),.pointer (some ⟨g,0,none⟩),.pointer (some ⟨g,0,none⟩),.pointer (some ⟨g,2,none⟩),.pointer (some ⟨g,3,none⟩),.int .i64 v,.agg (dC v),.pointer (some ⟨g0,1,none⟩),.int .i64 v',.pointer (some ⟨g,0,none⟩),.pointer (some ⟨g,0,none⟩),.pointer (some ⟨g,0,none⟩),.pointer (some ⟨g,0,none⟩),.int .i64 e,.pointer (some ⟨g0,0,none⟩),.int .i64 t',.pointer (some ⟨g,0,none⟩),.pointer (some ⟨g,0,none⟩),.pointer (some ⟨g,0,none⟩),.pointer (some ⟨g,2,none⟩),.pointer (some ⟨g,2,none⟩),.int .i64 t,.int .u64 (dt:Int),.tuple #[.agg C,.bool cb],.agg C,.bool cb,.tuple #[.agg M,true],.pointer (some ⟨g,0,none⟩),.pointer (some ⟨g,0,none⟩),.pointer (some ⟨g,0,none⟩),.pointer (some ⟨g,5,none⟩),.agg K,.agg C,.tuple #[.agg M,true],.agg M,.bool true,.bool true,.pointer (some ⟨g,0,none⟩),.pointer (some ⟨g,0,none⟩),.agg M,.pointer (some ⟨g0,0,none⟩),.int .i64 t',.pointer (some ⟨g,0,none⟩),.pointer (some ⟨g,0,none⟩),.pointer (some ⟨g,5,none⟩),.pointer (some ⟨g,0,none⟩),.pointer (some ⟨g,0,none⟩),.pointer (some ⟨g,4,none⟩),undef,undef,undef,undef,undef,undef,undef,undef,undef,undef],defers:=[] }) (fun w'=>aG w' g0 23 (bO t' v')∧aG w' g 86 (cV (aI e n t v t' M) Q)∧aG w' g5 31 C∧aG w' g7 31 M∧b3 g W w') (fun _ _ d _ _ h=>by cases d<;>exact h) (fun Q' dL dQ=>?akm) (fun atf aeR=>?ako);case akm =>
    refine wp_region_any (by kernel_rfl) ?_;change wpAny _ _ _ _ _ _ _ (World.drew _);replace aq:=(aq).ext (b5 _);replace bJ:=(bJ).ext (b5 _);replace bn:=(bn).ext (b5 _);replace bl:=(bl).ext (b5 _);replace EE:=hide EE.out.drew;refine wpAny_take (i:=0) (v:=.pointer (some ⟨g,0,none⟩)) rfl (by kernel_rfl) (by kernel_rfl) (by kernel_rfl) (fun c a w h=>dL c _ _ _ w h) (Or.inl ⟨by rfl,by intro w;go_simp⟩) ?_;refine wpAny_take (i:=1) (v:=.pointer (some ⟨g,0,none⟩)) rfl (by kernel_rfl) (by kernel_rfl) (by kernel_rfl) (fun c a w h=>dL c _ _ _ w h) (Or.inl ⟨by rfl,by intro w;go_simp⟩) ?_;refine wpAny_take (i:=3) (v:=.pointer (some ⟨g0,0,none⟩)) rfl (by kernel_rfl) (by kernel_rfl) (by kernel_rfl) (fun c a w h=>dL c _ _ _ w h) (Or.inl ⟨by rfl,by intro w;go_simp⟩) ?_;refine wpAny_ready (rs:=[2,4]) (by kernel_rfl) (by simp) ?_;with_reducible refine lH (i := 2) (rs := [4]) (o := { dst := some 49, op := Go.Op.load 31 (Go.Operand.tmp 7), type := 31, pos := "swing.go:100", after := #[], guard := none }) ?ais ?Yq ?YW
    case ais=>exact rfl
    case Yq =>
     with_reducible refine ui (ty:=31) (x:=.tmp 7) (u:=.pointer (some ⟨g7,0,none⟩)) (v:=.agg M) ?acv ?ae2 ?an2 ?akA ?alI
     case acv=>exact rfl
     case ae2=>exact rfl
     case an2=>kernel_rfl
     case akA=>exact dF bl fV rfl ei gJ
     case alI =>
     refine wpAny_take (i:=5) (v:=.pointer (some ⟨g,0,none⟩)) rfl (by kernel_rfl) (by kernel_rfl) (by kernel_rfl) (fun c a w h=>dL c _ _ _ w h) (Or.inl ⟨by rfl,by intro w;go_simp⟩) ?_;refine wpAny_take (i:=6) (v:=.pointer (some ⟨g,0,none⟩)) rfl (by kernel_rfl) (by kernel_rfl) (by kernel_rfl) (fun c a w h=>dL c _ _ _ w h) (Or.inl ⟨by rfl,by intro w;go_simp⟩) ?_;refine wpAny_take (i:=7) (v:=.pointer (some ⟨g,5,none⟩)) rfl (by kernel_rfl) (by kernel_rfl) (by kernel_rfl) (fun c a w h=>dL c _ _ _ w h) (Or.inl ⟨by rfl,by intro w;go_simp⟩) ?_;refine wpAny_ready (rs:=[4,8]) (by kernel_rfl) (by simp) ?_;with_reducible refine lH (i := 4) (rs := [8]) (o := { dst := some 51, op := Go.Op.load 2 (Go.Operand.tmp 50), type := 2, pos := "swing.go:100", after := #[{ on := 3, ground := Go.Ground.data }, { on := 8, ground := Go.Ground.gcOnly Go.Departure.lateStores }], guard := none }) ?aiv ?Yt ?Y0
     case aiv=>exact rfl
     case Yt =>
      with_reducible refine ui (ty:=2) (x:=.tmp 50) (u:=.pointer (some ⟨g0,0,none⟩)) (v:=.int .i64 t') ?acy ?ae3 ?an3 ?akB ?alL
      case acy=>exact rfl
      case ae3=>exact rfl
      case an3=>kernel_rfl
      case akB=>exact(by have cc:=((aq).cell 0).trans (show (bO t' v')[0]?=some (.int .i64 t') from rfl);go_simp)
      case alL =>
      refine wpAny_ready (rs:=[8]) (by kernel_rfl) (by simp) ?_;with_reducible refine lH (i := 8) (rs := []) (o := { dst := none, op := Go.Op.store 31 (Go.Operand.tmp 54) (Go.Operand.tmp 49), type := 0, pos := "swing.go:100", after := #[{ on := 7, ground := Go.Ground.data }, { on := 2, ground := Go.Ground.data }, { on := 0, ground := Go.Ground.phase }, { on := 1, ground := Go.Ground.textOnly Go.Departure.lateStores }, { on := 2, ground := Go.Ground.phase }, { on := 3, ground := Go.Ground.textOnly Go.Departure.lateStores }, { on := 4, ground := Go.Ground.textOnly Go.Departure.lateStores }], guard := none }) ?aiw ?Yu ?Y1
      case aiw=>exact rfl
      case Yu =>
       with_reducible refine rQ (g:=g) (f:=(.cells (cV (aI e n t v l M) Q) 86 (0,0))) ?acz ?ak6 ?alM
       case acz=>exact rfl
       case ak6 =>
        have aD:=Ox bJ cS gJ qb;refine uj (g:=g) (u:=.pointer (some ⟨g,5,none⟩)) (v:=.agg M) rfl ?_ ?_ bJ aD
        ·kernel_rfl
        ·kernel_rfl
       case alM =>
        intro b6 hF;replace bJ:aG b6 g 86 (cV (aI e n t v l M) Q):=hF.1;replace aq:=hF.fR aq (by omega);replace bn:=hF.fR bn (by omega);replace bl:=hF.fR bl (by omega);replace EE:=hide (vZ EE.out hF);clear hF;refine wpAny_take (i:=9) (v:=.pointer (some ⟨g,0,none⟩)) rfl (by kernel_rfl) (by kernel_rfl) (by kernel_rfl) (fun c a w h=>dL c _ _ _ w h) (Or.inl ⟨by rfl,by intro w;go_simp⟩) ?_;refine wpAny_take (i:=10) (v:=.pointer (some ⟨g,0,none⟩)) rfl (by kernel_rfl) (by kernel_rfl) (by kernel_rfl) (fun c a w h=>dL c _ _ _ w h) (Or.inl ⟨by rfl,by intro w;go_simp⟩) ?_;refine wpAny_take (i:=11) (v:=.pointer (some ⟨g,4,none⟩)) rfl (by kernel_rfl) (by kernel_rfl) (by kernel_rfl) (fun c a w h=>dL c _ _ _ w h) (Or.inl ⟨by rfl,by intro w;go_simp⟩) ?_;refine wpAny_ready (rs:=[12]) (by kernel_rfl) (by simp) ?_;with_reducible refine lH (i := 12) (rs := []) (o := { dst := none, op := Go.Op.store 2 (Go.Operand.tmp 57) (Go.Operand.tmp 51), type := 0, pos := "swing.go:100", after := #[{ on := 11, ground := Go.Ground.data }, { on := 4, ground := Go.Ground.data }, { on := 8, ground := Go.Ground.chain }, { on := 0, ground := Go.Ground.phase }, { on := 1, ground := Go.Ground.phase }, { on := 2, ground := Go.Ground.phase }, { on := 3, ground := Go.Ground.phase }, { on := 4, ground := Go.Ground.phase }, { on := 5, ground := Go.Ground.phase }, { on := 6, ground := Go.Ground.phase }, { on := 7, ground := Go.Ground.phase }, { on := 8, ground := Go.Ground.phase }], guard := none }) ?aix ?Yv ?Y2
        case aix=>exact rfl
        case Yv =>
         have hc:=((bJ).cell 4).trans ((qe (e:=e) (n:=n) (t:=t) (v:=v) (l:=l) (q:=Q) gJ).2.2.2.2.1);have hf:=(bJ).frozen 4;with_reducible refine rQ (g:=g) (f:=(.cells (cV (aI e n t v t' M) Q) 86 (0,0))) ?acA ?ak7 ?alN
         case acA=>exact rfl
         case ak7 =>
          refine qR (g:=g) (off:=4) (v:=.int .i64 t') (Ty:=2) rfl ?_ ?_ bJ ((EZ gJ _ Q).2.1) ?_
          ·kernel_rfl
          ·kernel_rfl
          ·go_simp
         case alN =>
          intro b6 hF;replace bJ:aG b6 g 86 (cV (aI e n t v t' M) Q):=hF.1;replace aq:=hF.fR aq (by omega);replace bn:=hF.fR bn (by omega);replace bl:=hF.fR bl (by omega);replace EE:=hide (vZ EE.out hF);clear hF;refine wpAny_done (by kernel_rfl) ?_ _;exact BI (dQ _ ⟨aq,bJ,bn,bl,EE.out⟩) (by kernel_rfl)
        case Y2 =>
         exact AllReady.nil
      case Y1 =>
       exact AllReady.nil
     case Y0 =>
      with_reducible refine lH (i := 8) (rs := []) (o := { dst := none, op := Go.Op.store 31 (Go.Operand.tmp 54) (Go.Operand.tmp 49), type := 0, pos := "swing.go:100", after := #[{ on := 7, ground := Go.Ground.data }, { on := 2, ground := Go.Ground.data }, { on := 0, ground := Go.Ground.phase }, { on := 1, ground := Go.Ground.textOnly Go.Departure.lateStores }, { on := 2, ground := Go.Ground.phase }, { on := 3, ground := Go.Ground.textOnly Go.Departure.lateStores }, { on := 4, ground := Go.Ground.textOnly Go.Departure.lateStores }], guard := none }) ?aiy ?Yw ?Y3
      case aiy=>exact rfl
      case Yw =>
       with_reducible refine rQ (g:=g) (f:=(.cells (cV (aI e n t v l M) Q) 86 (0,0))) ?acB ?ak8 ?alO
       case acB=>exact rfl
       case ak8 =>
        have aD:=Ox bJ cS gJ qb;refine uj (g:=g) (u:=.pointer (some ⟨g,5,none⟩)) (v:=.agg M) rfl ?_ ?_ bJ aD
        ·kernel_rfl
        ·kernel_rfl
       case alO =>
        intro b6 hF;replace bJ:aG b6 g 86 (cV (aI e n t v l M) Q):=hF.1;replace aq:=hF.fR aq (by omega);replace bn:=hF.fR bn (by omega);replace bl:=hF.fR bl (by omega);replace EE:=hide (vZ EE.out hF);clear hF;refine wpAny_ready (rs:=[4]) (by kernel_rfl) (by simp) ?_;with_reducible refine lH (i := 4) (rs := []) (o := { dst := some 51, op := Go.Op.load 2 (Go.Operand.tmp 50), type := 2, pos := "swing.go:100", after := #[{ on := 3, ground := Go.Ground.data }, { on := 8, ground := Go.Ground.gcOnly Go.Departure.lateStores }], guard := none }) ?aiz ?Yx ?Y4
        case aiz=>exact rfl
        case Yx =>
         with_reducible refine ui (ty:=2) (x:=.tmp 50) (u:=.pointer (some ⟨g0,0,none⟩)) (v:=.int .i64 t') ?acC ?ae4 ?an4 ?akC ?alP
         case acC=>exact rfl
         case ae4=>exact rfl
         case an4=>kernel_rfl
         case akC=>exact(by have cc:=((aq).cell 0).trans (show (bO t' v')[0]?=some (.int .i64 t') from rfl);go_simp)
         case alP =>
         refine wpAny_take (i:=9) (v:=.pointer (some ⟨g,0,none⟩)) rfl (by kernel_rfl) (by kernel_rfl) (by kernel_rfl) (fun c a w h=>dL c _ _ _ w h) (Or.inl ⟨by rfl,by intro w;go_simp⟩) ?_;refine wpAny_take (i:=10) (v:=.pointer (some ⟨g,0,none⟩)) rfl (by kernel_rfl) (by kernel_rfl) (by kernel_rfl) (fun c a w h=>dL c _ _ _ w h) (Or.inl ⟨by rfl,by intro w;go_simp⟩) ?_;refine wpAny_take (i:=11) (v:=.pointer (some ⟨g,4,none⟩)) rfl (by kernel_rfl) (by kernel_rfl) (by kernel_rfl) (fun c a w h=>dL c _ _ _ w h) (Or.inl ⟨by rfl,by intro w;go_simp⟩) ?_;refine wpAny_ready (rs:=[12]) (by kernel_rfl) (by simp) ?_;with_reducible refine lH (i := 12) (rs := []) (o := { dst := none, op := Go.Op.store 2 (Go.Operand.tmp 57) (Go.Operand.tmp 51), type := 0, pos := "swing.go:100", after := #[{ on := 11, ground := Go.Ground.data }, { on := 4, ground := Go.Ground.data }, { on := 8, ground := Go.Ground.chain }, { on := 0, ground := Go.Ground.phase }, { on := 1, ground := Go.Ground.phase }, { on := 2, ground := Go.Ground.phase }, { on := 3, ground := Go.Ground.phase }, { on := 4, ground := Go.Ground.phase }, { on := 5, ground := Go.Ground.phase }, { on := 6, ground := Go.Ground.phase }, { on := 7, ground := Go.Ground.phase }, { on := 8, ground := Go.Ground.phase }], guard := none }) ?aiA ?Yy ?Y5
         case aiA=>exact rfl
         case Yy =>
          have hc:=((bJ).cell 4).trans ((qe (e:=e) (n:=n) (t:=t) (v:=v) (l:=l) (q:=Q) gJ).2.2.2.2.1);have hf:=(bJ).frozen 4;with_reducible refine rQ (g:=g) (f:=(.cells (cV (aI e n t v t' M) Q) 86 (0,0))) ?acD ?ak9 ?alQ
          case acD=>exact rfl
          case ak9 =>
           refine qR (g:=g) (off:=4) (v:=.int .i64 t') (Ty:=2) rfl ?_ ?_ bJ ((EZ gJ _ Q).2.1) ?_
           ·kernel_rfl
           ·kernel_rfl
           ·go_simp
          case alQ =>
           intro b6 hF;replace bJ:aG b6 g 86 (cV (aI e n t v t' M) Q):=hF.1;replace aq:=hF.fR aq (by omega);replace bn:=hF.fR bn (by omega);replace bl:=hF.fR bl (by omega);replace EE:=hide (vZ EE.out hF);clear hF;refine wpAny_done (by kernel_rfl) ?_ _;exact BI (dQ _ ⟨aq,bJ,bn,bl,EE.out⟩) (by kernel_rfl)
         case Y5 =>
          exact AllReady.nil
        case Y4 =>
         exact AllReady.nil
      case Y3 =>
       exact AllReady.nil
    case YW =>
     with_reducible refine lH (i := 4) (rs := []) (o := { dst := some 51, op := Go.Op.load 2 (Go.Operand.tmp 50), type := 2, pos := "swing.go:100", after := #[{ on := 3, ground := Go.Ground.data }, { on := 8, ground := Go.Ground.gcOnly Go.Departure.lateStores }], guard := none }) ?aiB ?Yz ?Y6
     case aiB=>exact rfl
     case Yz =>
      with_reducible refine ui (ty:=2) (x:=.tmp 50) (u:=.pointer (some ⟨g0,0,none⟩)) (v:=.int .i64 t') ?acE ?ae5 ?an5 ?akD ?alR
      case acE=>exact rfl
      case ae5=>exact rfl
      case an5=>kernel_rfl
      case akD=>exact(by have cc:=((aq).cell 0).trans (show (bO t' v')[0]?=some (.int .i64 t') from rfl);go_simp)
      case alR =>
      refine wpAny_ready (rs:=[2]) (by kernel_rfl) (by simp) ?_;with_reducible refine lH (i := 2) (rs := []) (o := { dst := some 49, op := Go.Op.load 31 (Go.Operand.tmp 7), type := 31, pos := "swing.go:100", after := #[], guard := none }) ?aiC ?YA ?Y7
      case aiC=>exact rfl
      case YA =>
       with_reducible refine ui (ty:=31) (x:=.tmp 7) (u:=.pointer (some ⟨g7,0,none⟩)) (v:=.agg M) ?acF ?ae6 ?an6 ?akE ?alS
       case acF=>exact rfl
       case ae6=>exact rfl
       case an6=>kernel_rfl
       case akE=>exact dF bl fV rfl ei gJ
       case alS =>
       refine wpAny_take (i:=5) (v:=.pointer (some ⟨g,0,none⟩)) rfl (by kernel_rfl) (by kernel_rfl) (by kernel_rfl) (fun c a w h=>dL c _ _ _ w h) (Or.inl ⟨by rfl,by intro w;go_simp⟩) ?_;refine wpAny_take (i:=6) (v:=.pointer (some ⟨g,0,none⟩)) rfl (by kernel_rfl) (by kernel_rfl) (by kernel_rfl) (fun c a w h=>dL c _ _ _ w h) (Or.inl ⟨by rfl,by intro w;go_simp⟩) ?_;refine wpAny_take (i:=7) (v:=.pointer (some ⟨g,5,none⟩)) rfl (by kernel_rfl) (by kernel_rfl) (by kernel_rfl) (fun c a w h=>dL c _ _ _ w h) (Or.inl ⟨by rfl,by intro w;go_simp⟩) ?_;refine wpAny_ready (rs:=[8]) (by kernel_rfl) (by simp) ?_;with_reducible refine lH (i := 8) (rs := []) (o := { dst := none, op := Go.Op.store 31 (Go.Operand.tmp 54) (Go.Operand.tmp 49), type := 0, pos := "swing.go:100", after := #[{ on := 7, ground := Go.Ground.data }, { on := 2, ground := Go.Ground.data }, { on := 0, ground := Go.Ground.phase }, { on := 1, ground := Go.Ground.textOnly Go.Departure.lateStores }, { on := 2, ground := Go.Ground.phase }, { on := 3, ground := Go.Ground.textOnly Go.Departure.lateStores }, { on := 4, ground := Go.Ground.textOnly Go.Departure.lateStores }], guard := none }) ?ait ?Yr ?YX
       case ait=>exact rfl
       case Yr =>
        with_reducible refine rQ (g:=g) (f:=(.cells (cV (aI e n t v l M) Q) 86 (0,0))) ?acw ?ak4 ?alJ
        case acw=>exact rfl
        case ak4 =>
         have aD:=Ox bJ cS gJ qb;refine uj (g:=g) (u:=.pointer (some ⟨g,5,none⟩)) (v:=.agg M) rfl ?_ ?_ bJ aD
         ·kernel_rfl
         ·kernel_rfl
        case alJ =>
         intro b6 hF;replace bJ:aG b6 g 86 (cV (aI e n t v l M) Q):=hF.1;replace aq:=hF.fR aq (by omega);replace bn:=hF.fR bn (by omega);replace bl:=hF.fR bl (by omega);replace EE:=hide (vZ EE.out hF);clear hF;refine wpAny_take (i:=9) (v:=.pointer (some ⟨g,0,none⟩)) rfl (by kernel_rfl) (by kernel_rfl) (by kernel_rfl) (fun c a w h=>dL c _ _ _ w h) (Or.inl ⟨by rfl,by intro w;go_simp⟩) ?_;refine wpAny_take (i:=10) (v:=.pointer (some ⟨g,0,none⟩)) rfl (by kernel_rfl) (by kernel_rfl) (by kernel_rfl) (fun c a w h=>dL c _ _ _ w h) (Or.inl ⟨by rfl,by intro w;go_simp⟩) ?_;refine wpAny_take (i:=11) (v:=.pointer (some ⟨g,4,none⟩)) rfl (by kernel_rfl) (by kernel_rfl) (by kernel_rfl) (fun c a w h=>dL c _ _ _ w h) (Or.inl ⟨by rfl,by intro w;go_simp⟩) ?_;refine wpAny_ready (rs:=[12]) (by kernel_rfl) (by simp) ?_;with_reducible refine lH (i := 12) (rs := []) (o := { dst := none, op := Go.Op.store 2 (Go.Operand.tmp 57) (Go.Operand.tmp 51), type := 0, pos := "swing.go:100", after := #[{ on := 11, ground := Go.Ground.data }, { on := 4, ground := Go.Ground.data }, { on := 8, ground := Go.Ground.chain }, { on := 0, ground := Go.Ground.phase }, { on := 1, ground := Go.Ground.phase }, { on := 2, ground := Go.Ground.phase }, { on := 3, ground := Go.Ground.phase }, { on := 4, ground := Go.Ground.phase }, { on := 5, ground := Go.Ground.phase }, { on := 6, ground := Go.Ground.phase }, { on := 7, ground := Go.Ground.phase }, { on := 8, ground := Go.Ground.phase }], guard := none }) ?aiu ?Ys ?YZ
         case aiu=>exact rfl
         case Ys =>
          have hc:=((bJ).cell 4).trans ((qe (e:=e) (n:=n) (t:=t) (v:=v) (l:=l) (q:=Q) gJ).2.2.2.2.1);have hf:=(bJ).frozen 4;with_reducible refine rQ (g:=g) (f:=(.cells (cV (aI e n t v t' M) Q) 86 (0,0))) ?acx ?ak5 ?alK
          case acx=>exact rfl
          case ak5 =>
           refine qR (g:=g) (off:=4) (v:=.int .i64 t') (Ty:=2) rfl ?_ ?_ bJ ((EZ gJ _ Q).2.1) ?_
           ·kernel_rfl
           ·kernel_rfl
           ·go_simp
          case alK =>
           intro b6 hF;replace bJ:aG b6 g 86 (cV (aI e n t v t' M) Q):=hF.1;replace aq:=hF.fR aq (by omega);replace bn:=hF.fR bn (by omega);replace bl:=hF.fR bl (by omega);replace EE:=hide (vZ EE.out hF);clear hF;refine wpAny_done (by kernel_rfl) ?_ _;exact BI (dQ _ ⟨aq,bJ,bn,bl,EE.out⟩) (by kernel_rfl)
         case YZ =>
          exact AllReady.nil
       case YX =>
        exact AllReady.nil
      case Y7 =>
       exact AllReady.nil
     case Y6 =>
      exact AllReady.nil
   case ako =>
    obtain⟨aq,bJ,bn,bl,C1⟩:=aeR;replace EE:=hide C1;clear C1;go_upto_region 5 with fail
    have gM:=aq.lt;have oB:=bJ.lt;have Cl:=bn.lt;have r_:=bl.lt;refine eB [.q,.q,.q,.q,.q,.q,.q,.q,.q,.so 0] [0,0,0,0,0,0,0,0,0,0] (fun R=>[.pointer (some ⟨g,0,none⟩),.pointer (some ⟨g,0,none⟩),.pointer (some ⟨g,0,none⟩),.pointer (some ⟨g,1,none⟩),.int .i64 n,.int .i64 (n+1),.pointer (some ⟨g,0,none⟩),.pointer (some ⟨g,0,none⟩),.pointer (some ⟨g,1,none⟩),undef]) (fun _=>(.cells #[] 0 (0,0))) (fun R _=>(.cells (cV (aI e (n+1) t v t' M) Q) 86 (0,0))) (fun _=>g) (uQ g W) (fun _=>False) (by kernel_rfl) (by kernel_rfl) (by kernel_rfl) rfl (fun _=>rfl) (fun _ h=>h.elim) (fun _ _ h=>h) (by intro c hc;simp at hc;(try subst hc);(try simp only);omega) (by intro c c' h1 h2 _;simp at h1 h2;omega) (fun R b1=>⟨fun _=>rfl,fun _=>rfl,fun _=>rfl,fun _=>rfl,fun _=>rfl,fun _=>rfl,fun _=>rfl,fun _=>rfl,fun _=>rfl,fun _=>rfl,trivial⟩) (fun _ _ _ _=>rfl) z8 EE.out ?ah7 ?aaU;case ah7 =>
     refine⟨aH,aH,aH,aH,?_,aH,aH,aH,aH,?_,trivial⟩
     ·refine cj fun R s w' aw hs hw ha=>?_
      have cc:=((show aG w' g _ (cV (aI e n t v t' M) Q) from(ha 9 0 rfl (by kernel_rfl)).trans bJ).cell 1).trans ((qe gJ).2.1);go_simp
     ·refine il (c:=0) (Ty:=?aoF) (p:=?asb) (x:=?atE) g ?abJ ?amj ?am1 ?aet ?ahK ?afM ?age ?aca ?Z7 ?aaA ?_;case aet=>exact rfl
      case ahK=>exact rfl
      case abJ=>exact(fun R=>(.cells (cV (aI e (n+1) t v t' M) Q) 86 (0,0)))
      case amj=>exact(fun R=>.pointer (some ⟨g,1,none⟩))
      case am1=>exact(fun R=>.int .i64 (n+1))
      case afM=>exact(fun R=>rfl)
      case age=>exact rfl
      case aca=>exact cu rfl
      case Z7 =>
       intro R;kernel_rfl
      case aaA =>
       intro R;kernel_rfl
      intro R s ρ w aw hs hp hx hz;have bF:=(show aG w g _ (cV (aI e n t v t' M) Q) from hz.trans bJ);have hc:=(bF.cell 1).trans ((qe (e:=e) (n:=n) (t:=t) (v:=v) (l:=t') (q:=Q) gJ).2.1);have hf:=bF.frozen 1;refine⟨qR (g:=g) (Ty:=3) rfl hp hx (hz.trans bJ) ((EZ gJ _ Q).1) ?_,fun aT hF=>vZ aw hF⟩;go_simp
    case aaU =>
     intro cY R G ane ae;have hS:=ae.same;have aZ:=ae.holds;have bf:=EE.out.2.2.2.1;replace aq:=aq.aY hS (fun h=>h) (by intro c hc;simp at hc;(try subst hc);(try simp only);omega);replace bn:=bn.aY hS (fun h=>h) (by intro c hc;simp at hc;(try subst hc);(try simp only);omega);replace bl:=bl.aY hS (fun h=>h) (by intro c hc;simp at hc;(try subst hc);(try simp only);omega);replace bJ:aG ane g 86 (cV (aI e (n+1) t v t' M) Q):=ae.ep 9 (List.mem_range.2 (show 9<10 by decide)) 0 rfl;replace EE:=hide (show b3 g _ _ from aZ);clear hS bf aZ ae gM oB Cl r_;generalize hF:bB _ _ _ _ _ _ _=bH;have bI:bH={ tmps:=#[.pointer (some ⟨g,0,none⟩),.agg (bO t' v'),undef,.pointer (some ⟨g0,0,none⟩),.bool false,.pointer (some ⟨g5,0,none⟩),.bool cb,.pointer (some ⟨g7,0,none⟩),.bool true,.tuple #[.agg C,.bool cb],.pointer (some ⟨g,0,none⟩),.pointer (some ⟨g,0,none⟩),.pointer (some ⟨g,0,none⟩),.pointer (some ⟨g,2,none⟩),.pointer (some ⟨g,3,none⟩),.int .i64 v,.agg (dC v),.pointer (some ⟨g0,1,none⟩),.int .i64 v',.pointer (some ⟨g,0,none⟩),.pointer (some ⟨g,0,none⟩),.pointer (some ⟨g,0,none⟩),.pointer (some ⟨g,0,none⟩),.int .i64 e,.pointer (some ⟨g0,0,none⟩),.int .i64 t',.pointer (some ⟨g,0,none⟩),.pointer (some ⟨g,0,none⟩),.pointer (some ⟨g,0,none⟩),.pointer (some ⟨g,2,none⟩),.pointer (some ⟨g,2,none⟩),.int .i64 t,.int .u64 (dt:Int),.tuple #[.agg C,.bool cb],.agg C,.bool cb,.tuple #[.agg M,true],.pointer (some ⟨g,0,none⟩),.pointer (some ⟨g,0,none⟩),.pointer (some ⟨g,0,none⟩),.pointer (some ⟨g,5,none⟩),.agg K,.agg C,.tuple #[.agg M,true],.agg M,.bool true,.bool true,.pointer (some ⟨g,0,none⟩),.pointer (some ⟨g,0,none⟩),.agg M,.pointer (some ⟨g0,0,none⟩),.int .i64 t',.pointer (some ⟨g,0,none⟩),.pointer (some ⟨g,0,none⟩),.pointer (some ⟨g,5,none⟩),.pointer (some ⟨g,0,none⟩),.pointer (some ⟨g,0,none⟩),.pointer (some ⟨g,4,none⟩),.pointer (some ⟨g,0,none⟩),.pointer (some ⟨g,0,none⟩),.pointer (some ⟨g,0,none⟩),.pointer (some ⟨g,1,none⟩),.int .i64 n,.int .i64 (n+1),.pointer (some ⟨g,0,none⟩),.pointer (some ⟨g,0,none⟩),.pointer (some ⟨g,1,none⟩),undef],defers:=[] }:=by subst hF;kernel_rfl
     clear hF;subst bI;go_wp2_with fail
     go_ret;exact⟨rfl,bJ,EE.out⟩
set_option maxRecDepth 100000 in
theorem ai1 (e n t v l:Int) (K:Array Value) (cS:K.size=21) (eI:K.all (·.oneCell')=true) (g:Nat) (Q:Value) (t' v':Int) (dt:Nat) (C M:Array Value) (cb:Bool) (nW:C.size=21) (s6:C.all (·.oneCell')=true) (gJ:M.size=21) (qb:M.all (·.oneCell')=true)
 (bQ:Hid (∀ w,Calls Tryz.prog 95 #[.int .i64 v] w (aP (.agg (dC v)) w))) (bY:Hid (∀ w,Calls Tryz.prog 96 #[.int .i64 t',.int .i64 t] w (aP (.int .u64 (dt:Int)) w))) (cX:Hid (∀ w,Calls Tryz.prog 94 #[.agg (dC v),.int .i64 v',.int .i64 e,.int .u64 (dt:Int)] w (aP (.tuple #[.agg C,.bool cb]) w))) (ev:Hid (∀ w,Calls Tryz.prog 97 #[.agg K,.agg C] w (aP (.tuple #[.agg M,false]) w))) (W:World) (bJ:aG W g 86 (cV (aI e n t v l K) Q)) :
 Calls Tryz.prog 79 #[.pointer (some ⟨g,0,none⟩),.agg (bO t' v')] W (FG g W (aI e n t v l K) Q false):=by
 obtain⟨f0,f1,f2,f3,f4,f26,A6,fk⟩:=qe (e:=e) (n:=n) (t:=t) (v:=v) (l:=l) (q:=Q) cS;have BW:=qP (e:=e) (n:=n) (t:=t) (v:=v) (l:=l) (q:=Q) cS;have DM:=bJ.lt;have aq:=aG.new W 23 (bO t' v');have EE:=hide (aA W (.cells (bO t' v') 23));obtain⟨bG,bD⟩:=aM ((W.alloc (.cells (bO t' v') 23)));obtain⟨g0,af⟩:∃ g,W.heap.size=g:=⟨_,rfl⟩;rw[bD] at aq EE;rw[af] at aq;have r9:W.heap.size≤g0:=by omega
 have aB:=hide bD;have bW:=hide af;clear bD af;go_enter Tryz.func79,Tryz.ntmps79
 go_upto_region 1 with fail
 rw[aB.out,bW.out];clear aB bW;replace bJ:=bJ.ext EE.out;replace EE:=hide (Ext.c7 EE.out g);have gM:=aq.lt;have oB:=bJ.lt;refine kl [.q,.q,.q,.q,.q,.q,.q,.q,.q,.q,.q,.q,.q,.q,.q,.q,.q,.q,.q,.q,.q,.q,.q,.q,.q,.q,.q,.al,.st 27,.q] [0,0,0,0,0,0,0,0,0,0,0,0,0,0,0,0,0,0,0,0,0,0,0,0,0,0,0,0,0,0] (fun R=>[.pointer (some ⟨g,0,none⟩),.pointer (some ⟨g,0,none⟩),.pointer (some ⟨g,0,none⟩),.pointer (some ⟨g,2,none⟩),.pointer (some ⟨g,3,none⟩),.int .i64 v,.agg (dC v),.pointer (some ⟨g0,1,none⟩),.int .i64 v',.pointer (some ⟨g,0,none⟩),.pointer (some ⟨g,0,none⟩),.pointer (some ⟨g,0,none⟩),.pointer (some ⟨g,0,none⟩),.int .i64 e,.pointer (some ⟨g0,0,none⟩),.int .i64 t',.pointer (some ⟨g,0,none⟩),.pointer (some ⟨g,0,none⟩),.pointer (some ⟨g,0,none⟩),.pointer (some ⟨g,2,none⟩),.pointer (some ⟨g,2,none⟩),.int .i64 t,.int .u64 (dt:Int),.tuple #[.agg C,.bool cb],.tuple #[.agg C,.bool cb],.agg C,.bool cb,undef,undef,.bool cb]) (fun _=>(.cells z21 31 (0,0))) (fun R _=>(.cells C 31 (0,0))) (fun _=>0) (uQ g W) (fun _=>False) (by kernel_rfl) (by kernel_rfl) (by kernel_rfl) (by kernel_rfl) rfl (fun _=>rfl) (fun _ h=>h.elim) (fun _ _ h=>h) (by simp) (by simp) (fun R b1=>⟨fun _=>rfl,fun _=>rfl,fun _=>rfl,fun _=>rfl,fun _=>rfl,fun _=>rfl,fun _=>rfl,fun _=>rfl,fun _=>rfl,fun _=>rfl,fun _=>rfl,fun _=>rfl,fun _=>rfl,fun _=>rfl,fun _=>rfl,fun _=>rfl,fun _=>rfl,fun _=>rfl,fun _=>rfl,fun _=>rfl,fun _=>rfl,fun _=>rfl,fun _=>rfl,fun _=>rfl,fun _=>rfl,fun _=>rfl,fun _=>rfl,fun _=>rfl,fun _=>rfl,fun _=>rfl,trivial⟩) (fun _ _ _ _=>rfl) z8 EE.out.drew ?EQ ?C4;case EQ =>
  refine⟨aH,aH,aH,aH,aH,?_,d_ bQ,aH,?_,aH,aH,aH,aH,?_,aH,?_,aH,aH,aH,aH,aH,?_,d_ bY,d_ cX,aH,aH,aH,?_,?_,aH,trivial⟩
  ·refine cj fun R s w' aw hs hw ha=>?_
   have cc:=((show aG w' g _ (cV (aI e n t v l K) Q) from bJ.aY hw (fun h=>h) (by simp)).cell 3).trans (f3);go_simp
  ·refine cj fun R s w' aw hs hw ha=>?_
   have cc:=((show aG w' g0 _ (bO t' v') from aq.aY hw (fun h=>h) (by simp)).cell 1).trans (show (bO t' v')[1]?=some (.int .i64 v') from rfl);go_simp
  ·refine cj fun R s w' aw hs hw ha=>?_
   have cc:=((show aG w' g _ (cV (aI e n t v l K) Q) from bJ.aY hw (fun h=>h) (by simp)).cell 0).trans (f0);go_simp
  ·refine cj fun R s w' aw hs hw ha=>?_
   have cc:=((show aG w' g0 _ (bO t' v') from aq.aY hw (fun h=>h) (by simp)).cell 0).trans (show (bO t' v')[0]?=some (.int .i64 t') from rfl);go_simp
  ·refine cj fun R s w' aw hs hw ha=>?_
   have cc:=((show aG w' g _ (cV (aI e n t v l K) Q) from bJ.aY hw (fun h=>h) (by simp)).cell 2).trans (f2);go_simp
  ·refine ia ?Am ?vH ?vN ?vi ?_;case Am=>exact(.cells z21 31 (0,0))
   case vH=>exact rfl
   case vN=>exact rfl
   case vi=>exact cu rfl
   intro ρ w';go_simp;exact⟨rfl,rfl⟩
  ·refine ib (j:=27) (Ty:=?XP) (p:=?ajq) (x:=?anS) ?Kj ?PX ?Fi ?D1 ?Ny ?Ew ?MW ?Di ?J3 ?_;case D1=>exact rfl
   case Ny=>exact rfl
   case Kj=>exact(fun R=>(.cells C 31 (0,0)))
   case PX=>exact(.cells z21 31 (0,0))
   case Fi=>exact(fun R=>.agg C)
   case Ew=>exact(fun R=>rfl)
   case MW=>exact rfl
   case Di=>exact cu rfl
   case J3 =>
    intro R;kernel_rfl
   intro R s ρ w g aw hs hp hx af hz;exact⟨hQ rfl hp hx hz ei (nW) (s6),fun aT hF=>H0 aw hF (Nat.le_trans EE.out.2.2.2.1 af)⟩
 case C4 =>
  intro cY R G Fk ae;have hS:=ae.same;have aZ:=ae.holds;have bf:=EE.out.2.2.2.1;replace aq:=aq.aY hS (fun h=>h) (by simp);replace bJ:=bJ.aY hS (fun h=>h) (by simp);have bn:aG Fk (G 27) 31 C:=(ae.eV 28 (List.mem_range.2 (show 28<30 by decide)) 27 rfl).2.2;have LR:=(ae.made 27 (List.mem_range.2 (show 27<30 by decide)) rfl).1;have Xz:W.heap.size≤G 27:=Nat.le_trans bf LR;have ag5:g0≠G 27:=by omega
  have aho:g≠G 27:=by omega
  replace EE:=hide (show b3 g _ _ from aZ);clear hS bf aZ ae gM oB;generalize hF:bB _ _ _ _ _ _ _=bH;have bI:bH={ tmps:=#[.pointer (some ⟨g,0,none⟩),.agg (bO t' v'),undef,.pointer (some ⟨g0,0,none⟩),.bool false,.pointer (some ⟨G 27,0,none⟩),.bool cb,undef,undef,.tuple #[.agg C,.bool cb],.pointer (some ⟨g,0,none⟩),.pointer (some ⟨g,0,none⟩),.pointer (some ⟨g,0,none⟩),.pointer (some ⟨g,2,none⟩),.pointer (some ⟨g,3,none⟩),.int .i64 v,.agg (dC v),.pointer (some ⟨g0,1,none⟩),.int .i64 v',.pointer (some ⟨g,0,none⟩),.pointer (some ⟨g,0,none⟩),.pointer (some ⟨g,0,none⟩),.pointer (some ⟨g,0,none⟩),.int .i64 e,.pointer (some ⟨g0,0,none⟩),.int .i64 t',.pointer (some ⟨g,0,none⟩),.pointer (some ⟨g,0,none⟩),.pointer (some ⟨g,0,none⟩),.pointer (some ⟨g,2,none⟩),.pointer (some ⟨g,2,none⟩),.int .i64 t,.int .u64 (dt:Int),.tuple #[.agg C,.bool cb],.agg C,.bool cb,undef,undef,undef,undef,undef,undef,undef,undef,undef,undef,undef,undef,undef,undef,undef,undef,undef,undef,undef,undef,undef,undef,undef,undef,undef,undef,undef,undef,undef,undef,undef,undef],defers:=[] }:=by subst hF;kernel_rfl
  clear hF;subst bI;generalize G 27=g5 at *;go_upto_region 2 with fail
  have gM:=aq.lt;have oB:=bJ.lt;have Cl:=bn.lt;refine kl [.q,.q,.q,.q,.q,.q,.q,.q,.q,.q,.al,.st 10,.q] [0,0,0,0,0,0,0,0,0,0,0,0,0] (fun R=>[.pointer (some ⟨g,0,none⟩),.pointer (some ⟨g,0,none⟩),.pointer (some ⟨g,0,none⟩),.pointer (some ⟨g,5,none⟩),.agg K,.agg C,.tuple #[.agg M,false],.tuple #[.agg M,false],.agg M,.bool false,undef,undef,.bool false]) (fun _=>(.cells z21 31 (0,0))) (fun R _=>(.cells M 31 (0,0))) (fun _=>0) (uQ g W) (fun _=>False) (by kernel_rfl) (by kernel_rfl) (by kernel_rfl) (by kernel_rfl) rfl (fun _=>rfl) (fun _ h=>h.elim) (fun _ _ h=>h) (by simp) (by simp) (fun R b1=>⟨fun _=>rfl,fun _=>rfl,fun _=>rfl,fun _=>rfl,fun _=>rfl,fun _=>rfl,fun _=>rfl,fun _=>rfl,fun _=>rfl,fun _=>rfl,fun _=>rfl,fun _=>rfl,fun _=>rfl,trivial⟩) (fun _ _ _ _=>rfl) z8 EE.out.drew ?NK ?Ka;case NK =>
   refine⟨aH,aH,aH,aH,?_,?_,d_ ev,aH,aH,aH,?_,?_,aH,trivial⟩
   ·refine cj fun R s w' aw hs hw ha=>?_
    have L:=pH (bJ.aY hw (fun h=>h) (by simp)) _ _ fV rfl 5 21 ei (by rw[(qP cS)];first|decide|omega) _ (fk);generalize hA:bB _ _ _ _ _ _ _=c3;refine e7 rfl ?_ L;subst hA;kernel_rfl
   ·refine cj fun R s w' aw hs hw ha=>?_
    have L:=dF (bn.aY hw (fun h=>h) (by simp)) fV rfl ei nW;generalize hA:bB _ _ _ _ _ _ _=c3;refine e7 rfl ?_ L;subst hA;kernel_rfl
   ·refine ia ?P1 ?L1 ?ML ?KD ?_;case P1=>exact(.cells z21 31 (0,0))
    case L1=>exact rfl
    case ML=>exact rfl
    case KD=>exact cu rfl
    intro ρ w';go_simp;exact⟨rfl,rfl⟩
   ·refine ib (j:=10) (Ty:=?XR) (p:=?ajs) (x:=?anU) ?Kl ?FB ?Pn ?D3 ?NA ?Ey ?MY ?Dk ?J5 ?_;case D3=>exact rfl
    case NA=>exact rfl
    case Kl=>exact(fun R=>(.cells M 31 (0,0)))
    case FB=>exact(.cells z21 31 (0,0))
    case Pn=>exact(fun R=>.agg M)
    case Ey=>exact(fun R=>rfl)
    case MY=>exact rfl
    case Dk=>exact cu rfl
    case J5 =>
     intro R;kernel_rfl
    intro R s ρ w g aw hs hp hx af hz;exact⟨hQ rfl hp hx hz ei (gJ) (qb),fun aT hF=>H0 aw hF (Nat.le_trans EE.out.2.2.2.1 af)⟩
  case Ka =>
   intro cY R G oT ae;have hS:=ae.same;have aZ:=ae.holds;have bf:=EE.out.2.2.2.1;replace aq:=aq.aY hS (fun h=>h) (by simp);replace bJ:=bJ.aY hS (fun h=>h) (by simp);replace bn:=bn.aY hS (fun h=>h) (by simp);have bl:aG oT (G 10) 31 M:=(ae.eV 11 (List.mem_range.2 (show 11<13 by decide)) 10 rfl).2.2;have xq:=(ae.made 10 (List.mem_range.2 (show 10<13 by decide)) rfl).1;have I6:W.heap.size≤G 10:=Nat.le_trans bf xq;have Na:g0≠G 10:=by omega
   have ahp:g≠G 10:=by omega
   have ahf:g5≠G 10:=by omega
   replace EE:=hide (show b3 g _ _ from aZ);clear hS bf aZ ae gM oB Cl;generalize hF:bB _ _ _ _ _ _ _=bH;have bI:bH={ tmps:=#[.pointer (some ⟨g,0,none⟩),.agg (bO t' v'),undef,.pointer (some ⟨g0,0,none⟩),.bool false,.pointer (some ⟨g5,0,none⟩),.bool cb,.pointer (some ⟨G 10,0,none⟩),.bool false,.tuple #[.agg C,.bool cb],.pointer (some ⟨g,0,none⟩),.pointer (some ⟨g,0,none⟩),.pointer (some ⟨g,0,none⟩),.pointer (some ⟨g,2,none⟩),.pointer (some ⟨g,3,none⟩),.int .i64 v,.agg (dC v),.pointer (some ⟨g0,1,none⟩),.int .i64 v',.pointer (some ⟨g,0,none⟩),.pointer (some ⟨g,0,none⟩),.pointer (some ⟨g,0,none⟩),.pointer (some ⟨g,0,none⟩),.int .i64 e,.pointer (some ⟨g0,0,none⟩),.int .i64 t',.pointer (some ⟨g,0,none⟩),.pointer (some ⟨g,0,none⟩),.pointer (some ⟨g,0,none⟩),.pointer (some ⟨g,2,none⟩),.pointer (some ⟨g,2,none⟩),.int .i64 t,.int .u64 (dt:Int),.tuple #[.agg C,.bool cb],.agg C,.bool cb,.tuple #[.agg M,false],.pointer (some ⟨g,0,none⟩),.pointer (some ⟨g,0,none⟩),.pointer (some ⟨g,0,none⟩),.pointer (some ⟨g,5,none⟩),.agg K,.agg C,.tuple #[.agg M,false],.agg M,.bool false,undef,undef,undef,undef,undef,undef,undef,undef,undef,undef,undef,undef,undef,undef,undef,undef,undef,undef,undef,undef,undef,undef],defers:=[] }:=by subst hF;kernel_rfl
   clear hF;subst bI;generalize G 10=g7 at *;go_upto_region 3 with fail
   refine eK ?_;repeat (first|go_big_quiet_step (fail)|quiet_step (fail))
   refine wpQuiet_nil ?_;intro _ bj;obtain⟨⟨aQ,osq⟩,cq⟩:=bj;subst cq;replace aq:=(aq).ext (aX oT aQ osq);replace bJ:=(bJ).ext (aX oT aQ osq);replace bn:=(bn).ext (aX oT aQ osq);replace bl:=(bl).ext (aX oT aQ osq);replace EE:=hide (EE.out.more (aX oT aQ osq));obtain⟨Pt,Eo⟩:∃ w,grow (redrawn oT aQ) osq=w:=⟨_,rfl⟩;rw[Eo] at EE aq bJ bn bl ⊢;clear Eo;go_wp2_with fail
   go_ret;exact⟨rfl,bJ,EE.out⟩
end
section
open Go Go.RowKit Go.Sort
attribute [local go_sem] mg A3 bB BX
def gi (W:World) (mk:Value→Value) (ls:List gD) (e:Ending) (w':World):Prop:=∃ A n c,n=ls.length∧n≤c∧e=.returned (mk (.slice A n c))∧eA.Own W.heap.size w' (.slice A n c) ls∧Ext W w'
theorem gi.jT {W:World}{mk:Value→Value}{e:Ending}{w':World} (h:aP (mk (.slice none 0 0)) W e w'):gi W mk [] e w':=⟨Option.none,0,0,rfl,Nat.le_refl _,h.1,El.Own.jT eA _ _,h.2⟩
end
section
abbrev Sa:=Int × Int
def mX (eps:Int) (x y:Sa):jH:=B1 x.2 y.2 eps (y.1-x.1)
def atS (eps:Int) (x:Sa):jH→List Sa→Option jH
 | c,[]=>some c
 | c,y :: l=>match kB c (mX eps x y) with
  | some m=>atS eps x m l
  | none=>none
structure jc where
 first:Sa
 last:Int
 count:Nat
 eG:jH
abbrev wI:=Nat × Int × jH
def CG (x:Sa):jc:=⟨x,x.1,1,.op⟩
def T5 (s:jc):wI:=(s.count,s.first.2,s.eG)
def gZ (eps:Int) (s:Option jc) (x:Sa):Option jc × List wI:=
 match s with
 | none=>(some (CG x),[])
 | some s=>match kB s.eG (mX eps s.first x) with
  | some m=>(some ⟨s.first,x.1,s.count+1,m⟩,[])
  | none=>(some (CG x),[T5 s])
def tP:Option jc→List wI
 | none=>[]
 | some s=>[T5 s]
def EV (eps:Int):Option jc→List Sa→List wI
 | s,[]=>tP s
 | s,x :: l=>(gZ eps s x).2++EV eps (gZ eps s x).1 l
def uS (eps:Int) (l:List Sa):List wI:=EV eps none l
def atZ (eps:Int):List Sa→List wI→Prop
 | [],[]=>True
 | x :: l,(n,v,c) :: ls=>v=x.2∧1≤n∧n≤l.length+1∧atS eps x .op (l.take (n-1))=some c∧(ls=[]→n=l.length+1)∧(∀ y r,l.drop (n-1)=y :: r→kB c (mX eps x y)=none)∧atZ eps (l.drop (n-1)) ls
 | _,_=>False
end
section
def pU (x:Sa):Prop:=de x.1∧de x.2
def mF:Option jc→Prop
 | none=>True
 | some s=>pU s.first∧de s.last∧((s.count=1∧s.last=s.first.1∧s.eG=.op)∨(2≤s.count∧s.count≤1073741824∧s.first.1<s.last∧nU s.eG∧∃ a b,s.eG=.dU a b))
theorem mF.eG {s:jc} (h:mF (some s)):nU s.eG:=by
 rcases h.2.2 with ⟨_,_,e⟩|⟨_,_,_,h,_⟩
 ·rw[e];trivial
 ·exact h
theorem mF.le {s:jc} (h:mF (some s)):s.first.1≤s.last∧1≤s.count∧s.count≤1073741824:=by
 rcases h.2.2 with ⟨h1,h2,_⟩|⟨h1,h2,h3,_⟩<;>omega
theorem Jz {x:Sa} (hx:pU x):mF (some (CG x)):=⟨hx,hx.1,Or.inl ⟨rfl,rfl,rfl⟩⟩
theorem Wc {eps:Int}{x y:Sa} (he:o5 eps) (hx:pU x) (hy:pU y) (hl:x.1<y.1):nU (mX eps x y):=by
 obtain⟨⟨a,b⟩,c,d⟩:=hx;obtain⟨⟨e,f⟩,g,h⟩:=hy;exact OJ (by omega) g h he.1 he.2 (by omega) (by omega)
theorem agB {a m:jH}{l h:Fr} (e:kB a (.dU l h)=some m):∃ p q,m=.dU p q:=by
 cases a with
 | op=>simp only[kB,Option.some.injEq] at e;exact⟨l,h,e.symm⟩
 | dU p q =>
  simp only[kB] at e;split at e
  ·simp only[Option.some.injEq] at e;exact⟨_,_,e.symm⟩
  ·cases e
theorem V5 {eps:Int}{s:jc}{x:Sa} (he:o5 eps) (h:mF (some s)) (hx:pU x) (hl:s.last<x.1) (hc:s.count<1073741824):mF (gZ eps (some s) x).1:=by
 have aE:=h.le;have bd:=Wc he h.1 hx (show s.first.1<x.1 by omega);simp only[gZ];cases hm:kB s.eG (mX eps s.first x) with
 | none=>exact Jz hx
 | some m =>
  have zi:=agC h.eG bd hm;obtain⟨p,q,e⟩:=agB (show kB s.eG (.dU _ _)=some m from hm);exact⟨h.1,hx.1,Or.inr ⟨by show 2≤s.count+1;omega,by show s.count+1≤_;omega,by show s.first.1<x.1;omega,zi,p,q,e⟩⟩
def jb:List Sa→Prop
 | x :: y :: l=>x.1<y.1∧jb (y :: l)
 | _=>True
theorem jb.tail {x:Sa}{l:List Sa} (h:jb (x :: l)):jb l:=by
 cases l with
 | nil=>trivial
 | cons y l=>exact h.2
theorem jb.lt {x:Sa}:∀ {l:List Sa},jb (x :: l)→∀ y∈l,x.1<y.1
 | [],_,y,hy=>by simp at hy
 | z :: l,h,y,hy=>by
  rcases List.mem_cons.1 hy with rfl|hy
  ·exact h.1
  ·have:=jb.lt h.2 y hy;have:=h.1;omega
theorem jb.drop {l:List Sa} (h:jb l):∀ n,jb (l.drop n)
 | 0=>h
 | n+1=>by
  cases l with
  | nil=>exact trivial
  | cons x l=>exact jb.drop h.tail n
def gS (eps:Int) (s:Option jc) (l:List Sa):Option jc:=l.foldl (fun s x=>(gZ eps s x).1) s
def jl (eps:Int):Option jc→List Sa→List wI
 | _,[]=>[]
 | s,x :: l=>(gZ eps s x).2++jl eps (gZ eps s x).1 l
theorem VM (eps:Int):∀ (l:List Sa) (s:Option jc),EV eps s l=jl eps s l++tP (gS eps s l)
 | [],s=>by simp[EV,jl,gS]
 | x :: l,s=>by
  simp only[EV,jl,gS,List.foldl_cons,List.append_assoc];rw[VM eps l];rfl
theorem RN (eps:Int):∀ (l:List Sa) (s:Option jc) (x:Sa),jl eps s (l++[x])=jl eps s l++(gZ eps (gS eps s l) x).2∧gS eps s (l++[x])=(gZ eps (gS eps s l) x).1
 | [],s,x=>by simp[jl,gS]
 | y :: l,s,x=>by
  obtain⟨h1,h2⟩:=RN eps l (gZ eps s y).1 x;simp only[List.cons_append,jl,h1,List.append_assoc];refine⟨rfl,?_⟩;simp only[gS,List.foldl_cons,List.foldl_append,List.foldl_nil]
theorem V3 {eps:Int} (he:o5 eps):∀ (l:List Sa) (s:jc),mF (some s)→jb l→(∀ x∈l,pU x)→(∀ x∈l,s.last<x.1)→s.count+l.length≤1073741824→∃ s',gS eps (some s) l=some s'∧mF (some s')∧s'.count≤s.count+l.length∧s'.last=(l.getLast?.map (·.1)).getD s.last
 | [],s,h,_,_,_,_=>⟨s,rfl,h,by simp,by simp⟩
 | x :: l,s,h,hi,aL,hl,hn=>by
  have hx:=aL x (by simp);have h1:=V5 he h hx (hl x (by simp)) (by simp at hn;omega);obtain⟨t,bd⟩:∃ t,(gZ eps (some s) x).1=some t:=by
   simp only[gZ];cases kB s.eG (mX eps s.first x)<;>exact⟨_,rfl⟩
  have hc:t.count≤s.count+1∧t.last=x.1:=by
   have aE:=h.le;simp only[gZ] at bd;cases hm:kB s.eG (mX eps s.first x) with
   | none=>rw[hm] at bd;simp only[Option.some.injEq] at bd;subst bd;exact⟨by show 1≤_;omega,rfl⟩
   | some m=>rw[hm] at bd;simp only[Option.some.injEq] at bd;subst bd;exact⟨Nat.le_refl _,rfl⟩
  rw[bd] at h1;obtain⟨s',bk,e2,fL,j4⟩:=V3 he l t h1 hi.tail (fun y hy=>aL y (by simp[hy])) (fun y hy=>by rw[hc.2];exact hi.lt y hy) (by simp at hn;omega);refine⟨s',by simp only[gS,List.foldl_cons,bd];exact bk,e2,by simp;omega,?_⟩;rw[j4,hc.2];cases l with
  | nil=>rfl
  | cons y l =>
   have:((x :: y :: l).getLast?)=(y :: l).getLast?:=List.getLast?_cons_cons;rw[this];cases af:(y :: l).getLast? with
   | none=>simp at af
   | some z=>rfl
end
end Go.Proofs.YtojbopibfflnoaaGreat
