/- Contracts and plain facts; each states its conditions. -/
import Derived.Test.YtojbopibfflnoaaGreatPrW29
import Derived.Test.YtojbopibfflnoaaGreatPrW32
import Derived.Test.YtojbopibfflnoaaGreatPrW34
namespace Go.Proofs.YtojbopibfflnoaaGreat
set_option linter.unusedVariables false
set_option linter.unusedSimpArgs false
set_option maxHeartbeats 16000000
section
open Go Go.RowKit Go.Sort
section
theorem aa4 (k:Nat) (s s':Bool) (a b c e a' b' c' e':Int) (w:World) :
 (Op.equalIn (k+4) 27 (.agg #[.bool s,.int .u64 a,.int .u64 b,.int .u64 c,.int .u64 e]) (.agg #[.bool s',.int .u64 a',.int .u64 b',.int .u64 c',.int .u64 e'])).run Tryz.prog w=.ok (ii s s' a b c e a' b' c' e') w:=by
 have hS:Tryz.prog.underlying 27=some (.struct (Tryz.prog.fieldsOf 27)):=by kernel_rfl
 have hp:Tryz.prog.stoodInHeld 27=false:=by kernel_rfl
 have u4:=Tryz.underlying4;have h4:=A4 (k+1) 25 Tryz.underlying25;have Ak:=Tryz.sizeOf25;rw[run_equalIn_agg w (k+3) 27 _ _ hS hp];simp only[Program.fieldsOf,Tryz.underlying27];simp[Op.eqFields,part,isAgg,run_underlying u4,run_equalIn_bool',u4,h4,Ak,ii];by_cases h0:s=s'<;>by_cases h1:a=a'<;>by_cases h2:b=b'<;>by_cases h3:c=c'<;>by_cases h4:e=e'<;>simp[h0,h1,h2,h3,h4]
theorem aa0 (k:Nat) (s s':Bool) (a b c e a' b' c' e':Int) (t t':Bool) (f g h i f' g' h' l4:Int) (w:World) :
 (Op.equalIn (k+5) 29 (.agg #[.bool s,.int .u64 a,.int .u64 b,.int .u64 c,.int .u64 e,.bool t,.int .u64 f,.int .u64 g,.int .u64 h,.int .u64 i]) (.agg #[.bool s',.int .u64 a',.int .u64 b',.int .u64 c',.int .u64 e',.bool t',.int .u64 f',.int .u64 g',.int .u64 h',.int .u64 l4])).run Tryz.prog w=.ok (ii s s' a b c e a' b' c' e'&&ii t t' f g h i f' g' h' l4) w:=by
 have hS:Tryz.prog.underlying 29=some (.struct (Tryz.prog.fieldsOf 29)):=by kernel_rfl
 have hp:Tryz.prog.stoodInHeld 29=false:=by kernel_rfl
 have z25:=Tryz.sizeOf27;have h5:=aa4 k;rw[run_equalIn_agg w (k+4) 29 _ _ hS hp];simp only[Program.fieldsOf,Tryz.underlying29];simp[Op.eqFields,part,isAgg,h5,z25];generalize ii s s' a b c e a' b' c' e'=p;generalize ii t t' f g h i f' g' h' l4=q;cases p<;>cases q<;>rfl
open Classical in
noncomputable def mV (L M:Array Value):Bool:=if L=M then true else false
theorem HE (L M:Array Value):mV L M=true↔L=M:=by unfold mV;split<;>simp_all
theorem Od (L:Array Value):mV L L=true:=(HE L L).2 rfl
theorem Ke (k:Nat) {L M:Array Value} (br:RC L) (hI:RC M) (w:World):(Op.equalIn (k+5) 29 (.agg L) (.agg M)).run Tryz.prog w=.ok (mV L M) w:=by
 obtain⟨s,a,b,c,e,t,f,g,h,i,rfl⟩:=br;obtain⟨s',a',b',c',e',t',f',g',h',l4,rfl⟩:=hI;rw[aa0];congr 1
 rw[Bool.eq_iff_iff,HE];unfold ii;simp[and_assoc]
theorem R0 (n v:Int) {L:Array Value} (br:RC L) (w:World):(binOp .eql 55 (.agg (j_ n v L)) (.agg (j_ n v L))).run Tryz.prog w=.ok (.bool true) w:=by
 have hS:Tryz.prog.underlying 55=some (.struct (Tryz.prog.fieldsOf 55)):=by kernel_rfl
 have hp:Tryz.prog.stoodInHeld 55=false:=by kernel_rfl
 have u:=Tryz.underlying2;have u2:=Tryz.underlying3;have he:∀ (x y:Int) (w:World),(Op.equalIn 9999 2 (.int .i64 x) (.int .i64 y)).run Tryz.prog w=.ok (x==y) w:=fun x y w=>run_equalIn_int w 9998 2 .i64 .i64 x y u
 have ze:∀ (x y:Int) (w:World),(Op.equalIn 9999 3 (.int .i64 x) (.int .i64 y)).run Tryz.prog w=.ok (x==y) w:=fun x y w=>run_equalIn_int w 9998 3 .i64 .i64 x y u2
 have hc:∀ w,(Op.equalIn 9999 29 (.agg L) (.agg L)).run Tryz.prog w=.ok true w:=fun w=>(Ke 9994 br br w).trans (by rw[Od])
 have fb:=Tryz.sizeOf29;obtain⟨a0,a1,a2⟩:=afZ (n:=n) (v:=v) br.size;generalize j_ n v L=X at a0 a1 a2 ⊢;rw[run_eql_struct,show (10000:Nat)=9999+1 from rfl,run_equalIn_agg w 9999 55 _ _ hS hp];simp only[Program.fieldsOf,Tryz.underlying55];simp[Op.eqFields,part,isAgg,run_underlying u,run_underlying u2,he,ze,hc,fb,a0,a1,a2]
end
end
section
open Go Go.RowKit Go.Sort
attribute [local go_sem] mg A3 bB BX
set_option maxRecDepth 100000 in
theorem N0 (e:Int) (W:World) (fl:Hid (∀ w,Calls Tryz.prog 34 #[.int .i64 e] w (aP (.bool true) w))):Calls Tryz.prog 10 #[.int .i64 e] W (aP (.tuple #[.agg (aI e 0 0 0 0 z21),.int .i64 0]) W):=by
 have ak:=aG.new W 33 bL;have EE:=hide (aA W (.cells bL 33));obtain⟨bG,bD⟩:=aM ((W.alloc (.cells bL 33)));obtain⟨g0,af⟩:∃ g,W.heap.size=g:=⟨_,rfl⟩;rw[bD] at ak EE;rw[af] at ak;have lh:W.heap.size≤g0:=by omega
 have aB:=hide bD;have bW:=hide af;clear bD af;go_enter Tryz.func10,Tryz.ntmps10
 go_upto_region 1 with fail
 unfold bL at aB;rw[aB.out,bW.out];clear aB bW;have gu:=ak.lt;refine eB [.q,.q,.q] [0,0,0] (fun R=>[.int .i64 e,.bool true,.bool false]) (fun _=>(.cells #[] 0 (0,0))) (fun R _=>(.cells #[] 0 (0,0))) (fun _=>0) (dA W) (fun _=>False) (by kernel_rfl) (by kernel_rfl) (by kernel_rfl) rfl (fun _=>rfl) (fun _ h=>h.elim) (fun _ _ h=>h) (by simp) (by simp) (fun R b1=>⟨fun _=>rfl,fun _=>rfl,fun _=>rfl,trivial⟩) (fun _ _ _ _=>rfl) dH EE.out ?zK ?yV;case zK =>
  refine⟨aH,d_ fl,aH,trivial⟩
 case yV =>
  intro cY R G bZ ae;have hS:=ae.same;have aZ:=ae.holds;have bf:=EE.out.size;replace ak:=ak.aY hS (fun h=>h) (by simp);replace EE:=hide (show Ext _ _ from aZ);clear hS bf aZ ae gu;generalize hF:bB _ _ _ _ _ _ _=bH;have bI:bH={ tmps:=#[.int .i64 e,undef,.pointer (some ⟨g0,0,none⟩),.int .i64 0,.int .i64 e,.bool true,.bool false,undef,undef,undef],defers:=[] }:=by subst hF;kernel_rfl
  clear hF;subst bI;go_upto_region 3 with fail
  have gu:=ak.lt;refine eB [.q,.q,.so 0,.q] [0,0,0,0] (fun R=>[.int .i64 e,.agg (aI e 0 0 0 0 z21),undef,.int .i64 0]) (fun _=>(.cells #[] 0 (0,0))) (fun R _=>(.cells (aI e 0 0 0 0 z21) 33 (0,0))) (fun _=>g0) (dA W) (fun _=>False) (by kernel_rfl) (by kernel_rfl) (by kernel_rfl) rfl (fun _=>rfl) (fun _ h=>h.elim) (fun _ _ h=>h) (by intro c hc;simp at hc;(try subst hc);(try simp only);omega) (by intro c c' h1 h2 _;simp at h1 h2;omega) (fun R b1=>⟨fun _=>rfl,fun _=>rfl,fun _=>rfl,fun _=>rfl,trivial⟩) (fun _ _ _ _=>rfl) dH EE.out ?jA ?jm;case jA =>
   refine⟨aH,?_,?_,aH,trivial⟩
   ·refine cj fun R s w' aw hs hw ha=>?_
    generalize hA:bB _ _ _ _ _ _ _=c3;refine pD (vs:=#[(0,.int .i64 e)]) rfl ?_ (Jy e);subst hA;kernel_rfl
   ·refine il (c:=0) (Ty:=?tK) (p:=?ud) (x:=?ur) g0 ?lZ ?E9 ?jE ?gA ?me ?hO ?mb ?gx ?CX ?lX ?_;case gA=>exact rfl
    case me=>exact rfl
    case lZ=>exact(fun R=>(.cells (aI e 0 0 0 0 z21) 33 (0,0)))
    case E9=>exact(fun R=>.pointer (some ⟨g0,0,none⟩))
    case jE=>exact(fun R=>.agg (aI e 0 0 0 0 z21))
    case hO=>exact(fun R=>rfl)
    case mb=>exact rfl
    case gx=>exact cu rfl
    case CX =>
     intro R;kernel_rfl
    case lX =>
     intro R;kernel_rfl
    intro R s ρ w aw hs hp hx hz;refine⟨lI (g:=g0) rfl hp hx (hz.trans ak) eW (rfl) (hR rfl) (jU iV),fun aT hF=>dM aw hF lh⟩
  case jm =>
   intro cY R G cN ae;have hS:=ae.same;have aZ:=ae.holds;have bf:=EE.out.size;replace ak:aG cN g0 33 (aI e 0 0 0 0 z21):=ae.ep 2 (List.mem_range.2 (show 2<4 by decide)) 0 rfl;replace EE:=hide (show Ext _ _ from aZ);clear hS bf aZ ae gu;generalize hF:bB _ _ _ _ _ _ _=bH;have bI:bH={ tmps:=#[.int .i64 e,undef,.pointer (some ⟨g0,0,none⟩),.int .i64 0,.int .i64 e,.bool true,.bool false,undef,.int .i64 e,.agg (aI e 0 0 0 0 z21)],defers:=[] }:=by subst hF;kernel_rfl
   clear hF;subst bI;go_wp2_with fail
   exact bodyPost_ret (kg (p:=2) (u:=3) (ty:=33) rfl _ _ _ 33 (aI e 0 0 0 0 z21) _ rfl ak jC rfl (by rw[eW];kernel_rfl)) rfl ⟨by kernel_rfl,EE.out⟩
set_option maxRecDepth 100000 in
theorem ai7 (e:Int) (W:World) (fl:Hid (∀ w,Calls Tryz.prog 34 #[.int .i64 e] w (aP (.bool false) w))):Calls Tryz.prog 10 #[.int .i64 e] W (aP (.tuple #[.agg (bL),.int .i64 9]) W):=by
 have ak:=aG.new W 33 bL;have EE:=hide (aA W (.cells bL 33));obtain⟨bG,bD⟩:=aM ((W.alloc (.cells bL 33)));obtain⟨g0,af⟩:∃ g,W.heap.size=g:=⟨_,rfl⟩;rw[bD] at ak EE;rw[af] at ak;have lh:W.heap.size≤g0:=by omega
 have aB:=hide bD;have bW:=hide af;clear bD af;go_enter Tryz.func10,Tryz.ntmps10
 go_upto_region 1 with fail
 unfold bL at aB;rw[aB.out,bW.out];clear aB bW;have gu:=ak.lt;refine eB [.q,.q,.q] [0,0,0] (fun R=>[.int .i64 e,.bool false,.bool true]) (fun _=>(.cells #[] 0 (0,0))) (fun R _=>(.cells #[] 0 (0,0))) (fun _=>0) (dA W) (fun _=>False) (by kernel_rfl) (by kernel_rfl) (by kernel_rfl) rfl (fun _=>rfl) (fun _ h=>h.elim) (fun _ _ h=>h) (by simp) (by simp) (fun R b1=>⟨fun _=>rfl,fun _=>rfl,fun _=>rfl,trivial⟩) (fun _ _ _ _=>rfl) dH EE.out ?zK ?yV;case zK =>
  refine⟨aH,d_ fl,aH,trivial⟩
 case yV =>
  intro cY R G bZ ae;have hS:=ae.same;have aZ:=ae.holds;have bf:=EE.out.size;replace ak:=ak.aY hS (fun h=>h) (by simp);replace EE:=hide (show Ext _ _ from aZ);clear hS bf aZ ae gu;generalize hF:bB _ _ _ _ _ _ _=bH;have bI:bH={ tmps:=#[.int .i64 e,undef,.pointer (some ⟨g0,0,none⟩),.int .i64 0,.int .i64 e,.bool false,.bool true,undef,undef,undef],defers:=[] }:=by subst hF;kernel_rfl
  clear hF;subst bI;go_upto_region 2 with fail
  have gu:=ak.lt;refine eB [.q,.so 0,.q] [0,0,0] (fun R=>[.agg bL,undef,.int .i64 9]) (fun _=>(.cells #[] 0 (0,0))) (fun R _=>(.cells bL 33 (0,0))) (fun _=>g0) (dA W) (fun _=>False) (by kernel_rfl) (by kernel_rfl) (by kernel_rfl) rfl (fun _=>rfl) (fun _ h=>h.elim) (fun _ _ h=>h) (by intro c hc;simp at hc;(try subst hc);(try simp only);omega) (by intro c c' h1 h2 _;simp at h1 h2;omega) (fun R b1=>⟨fun _=>rfl,fun _=>rfl,fun _=>rfl,trivial⟩) (fun _ _ _ _=>rfl) dH EE.out ?ER ?C5;case ER =>
   refine⟨?_,?_,aH,trivial⟩
   ·refine cj fun R s w' aw hs hw ha=>?_
    generalize hA:bB _ _ _ _ _ _ _=c3;refine pD (vs:=#[]) rfl ?_ (CF);subst hA;kernel_rfl
   ·refine il (c:=0) (Ty:=?XT) (p:=?aju) (x:=?anW) g0 ?Kn ?OZ ?wo ?iR ?NC ?j9 ?M0 ?jo ?JV ?J7 ?_;case iR=>exact rfl
    case NC=>exact rfl
    case Kn=>exact(fun R=>(.cells bL 33 (0,0)))
    case OZ=>exact(fun R=>.pointer (some ⟨g0,0,none⟩))
    case wo=>exact(fun R=>.agg bL)
    case j9=>exact(fun R=>rfl)
    case M0=>exact rfl
    case jo=>exact cu rfl
    case JV =>
     intro R;kernel_rfl
    case J7 =>
     intro R;kernel_rfl
    intro R s ρ w aw hs hp hx hz;refine⟨lI (g:=g0) rfl hp hx (hz.trans ak) eW (rfl) (rfl) (Al),fun aT hF=>dM aw hF lh⟩
  case C5 =>
   intro cY R G c8 ae;have hS:=ae.same;have aZ:=ae.holds;have bf:=EE.out.size;replace ak:aG c8 g0 33 bL:=ae.ep 1 (List.mem_range.2 (show 1<3 by decide)) 0 rfl;replace EE:=hide (show Ext _ _ from aZ);clear hS bf aZ ae gu;generalize hF:bB _ _ _ _ _ _ _=bH;have bI:bH={ tmps:=#[.int .i64 e,undef,.pointer (some ⟨g0,0,none⟩),.int .i64 9,.int .i64 e,.bool false,.bool true,.agg bL,undef,undef],defers:=[] }:=by subst hF;kernel_rfl
   clear hF;subst bI;go_wp2_with fail
   exact bodyPost_ret (kg (p:=2) (u:=3) (ty:=33) rfl _ _ _ 33 (bL) _ rfl ak jC rfl (by rw[eW];kernel_rfl)) rfl ⟨by kernel_rfl,EE.out⟩
end
section
open Go Go.RowKit Go.Sort
attribute [local go_sem] mg A3 bB BX
set_option maxRecDepth 100000 in
theorem ajf (X:Array Value) (b c d:Nat) (W:World) (eX:X.size=5) (kf:X.all (·.oneCell')=true) (f2:X[2]?=some (.int .u64 (b:Int))) (f3:X[3]?=some (.int .u64 (c:Int))) (f4:X[4]?=some (.int .u64 (d:Int))) (kv:Hid (∀ w,Calls Tryz.prog 120 #[.agg X] w (aP (.bool false) w))) :
 Calls Tryz.prog 109 #[.agg X] W (aP (.bool false) W):=by
 have aS:=aG.new W 27 X;have EE:=hide (aA W (.cells X 27));obtain⟨bG,bD⟩:=aM ((W.alloc (.cells X 27)));obtain⟨g0,af⟩:∃ g,W.heap.size=g:=⟨_,rfl⟩;rw[bD] at aS EE;rw[af] at aS;have wK:W.heap.size≤g0:=by omega
 have aB:=hide bD;have bW:=hide af;clear bD af;go_enter Tryz.func109,Tryz.ntmps109
 go_upto_region 1 with fail
 rw[aB.out,bW.out];clear aB bW;have uG:=aS.lt;refine eB [.q,.q,.q,.hP,.hP,.hP,.hP,.q,.q,.hP,.hP,.hP,.hP,.q,.q,.hP,.hP,.hP,.hP,.q,.q] [0,0,0,0,0,0,0,0,0,0,0,0,0,0,0,0,0,0,0,0,0] (fun R=>[.agg X,.bool false,.bool false,undef,undef,undef,undef,.bool false,.bool false,undef,undef,undef,undef,.bool false,.bool false,undef,undef,undef,undef,.bool false,.bool false]) (fun _=>(.cells #[] 0 (0,0))) (fun R _=>(.cells #[] 0 (0,0))) (fun _=>0) (dA W) (fun _=>False) (by kernel_rfl) (by kernel_rfl) (by kernel_rfl) rfl (fun _=>rfl) (fun _ h=>h.elim) (fun _ _ h=>h) (by simp) (by simp) (fun R b1=>⟨fun _=>rfl,fun _=>rfl,fun _=>rfl,fun _=>rfl,fun _=>rfl,fun _=>rfl,fun _=>rfl,fun _=>rfl,fun _=>rfl,fun _=>rfl,fun _=>rfl,fun _=>rfl,fun _=>rfl,fun _=>rfl,fun _=>rfl,fun _=>rfl,fun _=>rfl,fun _=>rfl,fun _=>rfl,fun _=>rfl,fun _=>rfl,trivial⟩) (fun _ _ _ _=>rfl) dH EE.out ?vU ?va;case vU =>
  refine⟨?_,d_ kv,aH,?_,?_,?_,?_,aH,aH,?_,?_,?_,?_,aH,aH,?_,?_,?_,?_,aH,aH,trivial⟩
  ·refine cj fun R s w' aw hs hw ha=>?_
   have L:=dF (aS.aY hw (fun h=>h) (by simp)) hU rfl eT eX;generalize hA:bB _ _ _ _ _ _ _=c3;refine e7 rfl ?_ L;subst hA;kernel_rfl
  ·refine kt ?iQ ?jn;case iQ=>exact rfl
   case jn=>(refine du rfl ?_;intro R;kernel_rfl)
  ·refine kt ?rE ?vj;case rE=>exact rfl
   case vj=>(refine du rfl ?_;intro R;kernel_rfl)
  ·refine kt ?iR ?jo;case iR=>exact rfl
   case jo=>(refine du rfl ?_;intro R;kernel_rfl)
  ·refine kt ?gA ?gx;case gA=>exact rfl
   case gx=>(refine du rfl ?_;intro R;kernel_rfl)
  ·refine kt ?po ?o_;case po=>exact rfl
   case o_=>(refine du rfl ?_;intro R;kernel_rfl)
  ·refine kt ?oa ?n8;case oa=>exact rfl
   case n8=>(refine du rfl ?_;intro R;kernel_rfl)
  ·refine kt ?vE ?vf;case vE=>exact rfl
   case vf=>(refine du rfl ?_;intro R;kernel_rfl)
  ·refine kt ?sN ?sB;case sN=>exact rfl
   case sB=>(refine du rfl ?_;intro R;kernel_rfl)
  ·refine kt ?ob ?n9;case ob=>exact rfl
   case n9=>(refine du rfl ?_;intro R;kernel_rfl)
  ·refine kt ?vF ?vg;case vF=>exact rfl
   case vg=>(refine du rfl ?_;intro R;kernel_rfl)
  ·refine kt ?vG ?vh;case vG=>exact rfl
   case vh=>(refine du rfl ?_;intro R;kernel_rfl)
  ·refine kt ?zj ?yZ;case zj=>exact rfl
   case yZ=>(refine du rfl ?_;intro R;kernel_rfl)
 case va =>
  intro cY R G tA ae;have hS:=ae.same;have aZ:=ae.holds;have bf:=EE.out.size;have aS:=aS.aY hS (fun h=>h) (by simp);have EE:=hide (show Ext _ _ from aZ);clear hS bf aZ ae;generalize hF:bB _ _ _ _ _ _ _=bH;have bI:bH={ tmps:=#[.agg X,.pointer (some ⟨g0,0,none⟩),.bool false,.agg X,.bool false,.bool false,undef,undef,undef,undef,.bool false,.bool false,undef,undef,undef,undef,.bool false,.bool false,undef,undef,undef,undef,.bool false],defers:=[] }:=by subst hF;kernel_rfl
  clear hF;subst bI;go_wp2_with fail
  go_ret;exact⟨rfl,EE.out⟩
set_option maxRecDepth 100000 in
theorem ajg (X:Array Value) (b c d:Nat) (W:World) (eX:X.size=5) (kf:X.all (·.oneCell')=true) (f2:X[2]?=some (.int .u64 (b:Int))) (f3:X[3]?=some (.int .u64 (c:Int))) (f4:X[4]?=some (.int .u64 (d:Int))) (kv:Hid (∀ w,Calls Tryz.prog 120 #[.agg X] w (aP (.bool true) w))) (hd:d≠0) :
 Calls Tryz.prog 109 #[.agg X] W (aP (.bool false) W):=by
 have ed:(((d:Nat):Int)==0)=false:=by rw[beq_eq_false_iff_ne];omega
 have RQ:decide (d=0)=false:=decide_eq_false hd;clear hd;have aS:=aG.new W 27 X;have EE:=hide (aA W (.cells X 27));obtain⟨bG,bD⟩:=aM ((W.alloc (.cells X 27)));obtain⟨g0,af⟩:∃ g,W.heap.size=g:=⟨_,rfl⟩;rw[bD] at aS EE;rw[af] at aS;have wK:W.heap.size≤g0:=by omega
 have aB:=hide bD;have bW:=hide af;clear bD af;go_enter Tryz.func109,Tryz.ntmps109
 go_upto_region 1 with fail
 rw[aB.out,bW.out];clear aB bW;have uG:=aS.lt;refine eB [.q,.q,.q,.q,.q,.q,.q,.q,.q,.hP,.hP,.hP,.hP,.q,.q,.hP,.hP,.hP,.hP,.q,.q] [0,0,0,0,0,0,0,0,0,0,0,0,0,0,0,0,0,0,0,0,0] (fun R=>[.agg X,.bool true,.bool true,.pointer (some ⟨g0,1,none⟩),.pointer (some ⟨g0,4,none⟩),.int .u64 (d:Int),.bool false,.bool false,.bool false,undef,undef,undef,undef,.bool false,.bool false,undef,undef,undef,undef,.bool false,.bool false]) (fun _=>(.cells #[] 0 (0,0))) (fun R _=>(.cells #[] 0 (0,0))) (fun _=>0) (dA W) (fun _=>False) (by kernel_rfl) (by kernel_rfl) (by kernel_rfl) rfl (fun _=>rfl) (fun _ h=>h.elim) (fun _ _ h=>h) (by simp) (by simp) (fun R b1=>⟨fun _=>rfl,fun _=>rfl,fun _=>rfl,fun _=>rfl,fun _=>rfl,fun _=>rfl,fun _=>rfl,fun _=>rfl,fun _=>rfl,fun _=>rfl,fun _=>rfl,fun _=>rfl,fun _=>rfl,fun _=>rfl,fun _=>rfl,fun _=>rfl,fun _=>rfl,fun _=>rfl,fun _=>rfl,fun _=>rfl,fun _=>rfl,trivial⟩) (fun _ _ _ _=>rfl) dH EE.out ?vU ?va;case vU =>
  refine⟨?_,d_ kv,aH,?_,?_,?_,?_,aH,aH,?_,?_,?_,?_,aH,aH,?_,?_,?_,?_,aH,aH,trivial⟩
  ·refine cj fun R s w' aw hs hw ha=>?_
   have L:=dF (aS.aY hw (fun h=>h) (by simp)) hU rfl eT eX;generalize hA:bB _ _ _ _ _ _ _=c3;refine e7 rfl ?_ L;subst hA;kernel_rfl
  ·refine eL ?kj ?iQ ?j8 ?jn ?_;case iQ=>exact rfl
   case kj=>exact(fun R=>.pointer (some ⟨g0,1,none⟩))
   case j8=>exact(fun R=>rfl)
   case jn=>(refine du rfl ?_;intro R;kernel_rfl)
   intro R s w' aw hs hw ha;go_simp
  ·refine eL ?Af ?rE ?zy ?vj ?_;case rE=>exact rfl
   case Af=>exact(fun R=>.pointer (some ⟨g0,4,none⟩))
   case zy=>exact(fun R=>rfl)
   case vj=>(refine du rfl ?_;intro R;kernel_rfl)
   intro R s w' aw hs hw ha;go_simp
  ·refine eL ?wo ?iR ?j9 ?jo ?_;case iR=>exact rfl
   case wo=>exact(fun R=>.int .u64 (d:Int))
   case j9=>exact(fun R=>rfl)
   case jo=>(refine du rfl ?_;intro R;kernel_rfl)
   intro R s w' aw hs hw ha;have cc:=((aS.aY hw (fun h=>h) (by simp):aG w' g0 _ X).cell 4).trans (f4);go_simp
  ·refine eL ?jE ?gA ?hO ?gx ?_;case gA=>exact rfl
   case jE=>exact(fun R=>.bool false)
   case hO=>exact(fun R=>rfl)
   case gx=>(refine du rfl ?_;intro R;kernel_rfl)
   intro R s w' aw hs hw ha;go_simp
  ·refine kt ?po ?o_;case po=>exact rfl
   case o_=>(refine du rfl ?_;intro R;kernel_rfl)
  ·refine kt ?oa ?n8;case oa=>exact rfl
   case n8=>(refine du rfl ?_;intro R;kernel_rfl)
  ·refine kt ?vE ?vf;case vE=>exact rfl
   case vf=>(refine du rfl ?_;intro R;kernel_rfl)
  ·refine kt ?sN ?sB;case sN=>exact rfl
   case sB=>(refine du rfl ?_;intro R;kernel_rfl)
  ·refine kt ?ob ?n9;case ob=>exact rfl
   case n9=>(refine du rfl ?_;intro R;kernel_rfl)
  ·refine kt ?vF ?vg;case vF=>exact rfl
   case vg=>(refine du rfl ?_;intro R;kernel_rfl)
  ·refine kt ?vG ?vh;case vG=>exact rfl
   case vh=>(refine du rfl ?_;intro R;kernel_rfl)
  ·refine kt ?zj ?yZ;case zj=>exact rfl
   case yZ=>(refine du rfl ?_;intro R;kernel_rfl)
 case va =>
  intro cY R G tA ae;have hS:=ae.same;have aZ:=ae.holds;have bf:=EE.out.size;have aS:=aS.aY hS (fun h=>h) (by simp);have EE:=hide (show Ext _ _ from aZ);clear hS bf aZ ae;generalize hF:bB _ _ _ _ _ _ _=bH;have bI:bH={ tmps:=#[.agg X,.pointer (some ⟨g0,0,none⟩),.bool false,.agg X,.bool true,.bool true,.pointer (some ⟨g0,1,none⟩),.pointer (some ⟨g0,4,none⟩),.int .u64 (d:Int),.bool false,.bool false,.bool false,undef,undef,undef,undef,.bool false,.bool false,undef,undef,undef,undef,.bool false],defers:=[] }:=by subst hF;kernel_rfl
  clear hF;subst bI;go_wp2_with fail
  go_ret;exact⟨rfl,EE.out⟩
set_option maxRecDepth 100000 in
theorem ajh (X:Array Value) (b c d:Nat) (W:World) (eX:X.size=5) (kf:X.all (·.oneCell')=true) (f2:X[2]?=some (.int .u64 (b:Int))) (f3:X[3]?=some (.int .u64 (c:Int))) (f4:X[4]?=some (.int .u64 (d:Int))) (kv:Hid (∀ w,Calls Tryz.prog 120 #[.agg X] w (aP (.bool true) w))) (hd:d=0) (hc:c≠0) :
 Calls Tryz.prog 109 #[.agg X] W (aP (.bool false) W):=by
 have ed:(((d:Nat):Int)==0)=true:=by rw[beq_iff_eq];omega
 have RQ:decide (d=0)=true:=decide_eq_true hd;clear hd;have Gs:(((c:Nat):Int)==0)=false:=by rw[beq_eq_false_iff_ne];omega
 have aak:decide (c=0)=false:=decide_eq_false hc;clear hc;have aS:=aG.new W 27 X;have EE:=hide (aA W (.cells X 27));obtain⟨bG,bD⟩:=aM ((W.alloc (.cells X 27)));obtain⟨g0,af⟩:∃ g,W.heap.size=g:=⟨_,rfl⟩;rw[bD] at aS EE;rw[af] at aS;have wK:W.heap.size≤g0:=by omega
 have aB:=hide bD;have bW:=hide af;clear bD af;go_enter Tryz.func109,Tryz.ntmps109
 go_upto_region 1 with fail
 rw[aB.out,bW.out];clear aB bW;have uG:=aS.lt;refine eB [.q,.q,.q,.q,.q,.q,.q,.q,.q,.q,.q,.q,.q,.q,.q,.hP,.hP,.hP,.hP,.q,.q] [0,0,0,0,0,0,0,0,0,0,0,0,0,0,0,0,0,0,0,0,0] (fun R=>[.agg X,.bool true,.bool true,.pointer (some ⟨g0,1,none⟩),.pointer (some ⟨g0,4,none⟩),.int .u64 (d:Int),.bool true,.bool true,.bool true,.pointer (some ⟨g0,1,none⟩),.pointer (some ⟨g0,3,none⟩),.int .u64 (c:Int),.bool false,.bool false,.bool false,undef,undef,undef,undef,.bool false,.bool false]) (fun _=>(.cells #[] 0 (0,0))) (fun R _=>(.cells #[] 0 (0,0))) (fun _=>0) (dA W) (fun _=>False) (by kernel_rfl) (by kernel_rfl) (by kernel_rfl) rfl (fun _=>rfl) (fun _ h=>h.elim) (fun _ _ h=>h) (by simp) (by simp) (fun R b1=>⟨fun _=>rfl,fun _=>rfl,fun _=>rfl,fun _=>rfl,fun _=>rfl,fun _=>rfl,fun _=>rfl,fun _=>rfl,fun _=>rfl,fun _=>rfl,fun _=>rfl,fun _=>rfl,fun _=>rfl,fun _=>rfl,fun _=>rfl,fun _=>rfl,fun _=>rfl,fun _=>rfl,fun _=>rfl,fun _=>rfl,fun _=>rfl,trivial⟩) (fun _ _ _ _=>rfl) dH EE.out ?vU ?va;case vU =>
  refine⟨?_,d_ kv,aH,?_,?_,?_,?_,aH,aH,?_,?_,?_,?_,aH,aH,?_,?_,?_,?_,aH,aH,trivial⟩
  ·refine cj fun R s w' aw hs hw ha=>?_
   have L:=dF (aS.aY hw (fun h=>h) (by simp)) hU rfl eT eX;generalize hA:bB _ _ _ _ _ _ _=c3;refine e7 rfl ?_ L;subst hA;kernel_rfl
  ·refine eL ?kj ?iQ ?j8 ?jn ?_;case iQ=>exact rfl
   case kj=>exact(fun R=>.pointer (some ⟨g0,1,none⟩))
   case j8=>exact(fun R=>rfl)
   case jn=>(refine du rfl ?_;intro R;kernel_rfl)
   intro R s w' aw hs hw ha;go_simp
  ·refine eL ?Af ?rE ?zy ?vj ?_;case rE=>exact rfl
   case Af=>exact(fun R=>.pointer (some ⟨g0,4,none⟩))
   case zy=>exact(fun R=>rfl)
   case vj=>(refine du rfl ?_;intro R;kernel_rfl)
   intro R s w' aw hs hw ha;go_simp
  ·refine eL ?wo ?iR ?j9 ?jo ?_;case iR=>exact rfl
   case wo=>exact(fun R=>.int .u64 (d:Int))
   case j9=>exact(fun R=>rfl)
   case jo=>(refine du rfl ?_;intro R;kernel_rfl)
   intro R s w' aw hs hw ha;have cc:=((aS.aY hw (fun h=>h) (by simp):aG w' g0 _ X).cell 4).trans (f4);go_simp
  ·refine eL ?jE ?gA ?hO ?gx ?_;case gA=>exact rfl
   case jE=>exact(fun R=>.bool true)
   case hO=>exact(fun R=>rfl)
   case gx=>(refine du rfl ?_;intro R;kernel_rfl)
   intro R s w' aw hs hw ha;go_simp
  ·refine eL ?wm ?po ?sW ?o_ ?_;case po=>exact rfl
   case wm=>exact(fun R=>.pointer (some ⟨g0,1,none⟩))
   case sW=>exact(fun R=>rfl)
   case o_=>(refine du rfl ?_;intro R;kernel_rfl)
   intro R s w' aw hs hw ha;go_simp
  ·refine eL ?qS ?oa ?qK ?n8 ?_;case oa=>exact rfl
   case qS=>exact(fun R=>.pointer (some ⟨g0,3,none⟩))
   case qK=>exact(fun R=>rfl)
   case n8=>(refine du rfl ?_;intro R;kernel_rfl)
   intro R s w' aw hs hw ha;go_simp
  ·refine eL ?Pc ?vE ?Eu ?vf ?_;case vE=>exact rfl
   case Pc=>exact(fun R=>.int .u64 (c:Int))
   case Eu=>exact(fun R=>rfl)
   case vf=>(refine du rfl ?_;intro R;kernel_rfl)
   intro R s w' aw hs hw ha;have cc:=((aS.aY hw (fun h=>h) (by simp):aG w' g0 _ X).cell 3).trans (f3);go_simp
  ·refine eL ?Ae ?sN ?zw ?sB ?_;case sN=>exact rfl
   case Ae=>exact(fun R=>.bool false)
   case zw=>exact(fun R=>rfl)
   case sB=>(refine du rfl ?_;intro R;kernel_rfl)
   intro R s w' aw hs hw ha;go_simp
  ·refine kt ?ob ?n9;case ob=>exact rfl
   case n9=>(refine du rfl ?_;intro R;kernel_rfl)
  ·refine kt ?vF ?vg;case vF=>exact rfl
   case vg=>(refine du rfl ?_;intro R;kernel_rfl)
  ·refine kt ?vG ?vh;case vG=>exact rfl
   case vh=>(refine du rfl ?_;intro R;kernel_rfl)
  ·refine kt ?zj ?yZ;case zj=>exact rfl
   case yZ=>(refine du rfl ?_;intro R;kernel_rfl)
 case va =>
  intro cY R G tA ae;have hS:=ae.same;have aZ:=ae.holds;have bf:=EE.out.size;have aS:=aS.aY hS (fun h=>h) (by simp);have EE:=hide (show Ext _ _ from aZ);clear hS bf aZ ae;generalize hF:bB _ _ _ _ _ _ _=bH;have bI:bH={ tmps:=#[.agg X,.pointer (some ⟨g0,0,none⟩),.bool false,.agg X,.bool true,.bool true,.pointer (some ⟨g0,1,none⟩),.pointer (some ⟨g0,4,none⟩),.int .u64 (d:Int),.bool true,.bool true,.bool true,.pointer (some ⟨g0,1,none⟩),.pointer (some ⟨g0,3,none⟩),.int .u64 (c:Int),.bool false,.bool false,.bool false,undef,undef,undef,undef,.bool false],defers:=[] }:=by subst hF;kernel_rfl
  clear hF;subst bI;go_wp2_with fail
  go_ret;exact⟨rfl,EE.out⟩
set_option maxRecDepth 100000 in
theorem aji (X:Array Value) (b c d:Nat) (W:World) (eX:X.size=5) (kf:X.all (·.oneCell')=true) (f2:X[2]?=some (.int .u64 (b:Int))) (f3:X[3]?=some (.int .u64 (c:Int))) (f4:X[4]?=some (.int .u64 (d:Int))) (kv:Hid (∀ w,Calls Tryz.prog 120 #[.agg X] w (aP (.bool true) w))) (hd:d=0) (hc:c=0) :
 Calls Tryz.prog 109 #[.agg X] W (aP (.bool (decide ((b:Int)<4))) W):=by
 have ed:(((d:Nat):Int)==0)=true:=by rw[beq_iff_eq];omega
 have RQ:decide (d=0)=true:=decide_eq_true hd;clear hd;have Gs:(((c:Nat):Int)==0)=true:=by rw[beq_iff_eq];omega
 have aak:decide (c=0)=true:=decide_eq_true hc;clear hc;have aS:=aG.new W 27 X;have EE:=hide (aA W (.cells X 27));obtain⟨bG,bD⟩:=aM ((W.alloc (.cells X 27)));obtain⟨g0,af⟩:∃ g,W.heap.size=g:=⟨_,rfl⟩;rw[bD] at aS EE;rw[af] at aS;have wK:W.heap.size≤g0:=by omega
 have aB:=hide bD;have bW:=hide af;clear bD af;go_enter Tryz.func109,Tryz.ntmps109
 go_upto_region 1 with fail
 rw[aB.out,bW.out];clear aB bW;have uG:=aS.lt;refine eB [.q,.q,.q,.q,.q,.q,.q,.q,.q,.q,.q,.q,.q,.q,.q,.q,.q,.q,.q,.q,.q] [0,0,0,0,0,0,0,0,0,0,0,0,0,0,0,0,0,0,0,0,0] (fun R=>[.agg X,.bool true,.bool true,.pointer (some ⟨g0,1,none⟩),.pointer (some ⟨g0,4,none⟩),.int .u64 (d:Int),.bool true,.bool true,.bool true,.pointer (some ⟨g0,1,none⟩),.pointer (some ⟨g0,3,none⟩),.int .u64 (c:Int),.bool true,.bool true,.bool true,.pointer (some ⟨g0,1,none⟩),.pointer (some ⟨g0,2,none⟩),.int .u64 (b:Int),.bool (decide ((b:Int)<4)),.bool (decide ((b:Int)<4)),.bool (decide ((b:Int)<4))]) (fun _=>(.cells #[] 0 (0,0))) (fun R _=>(.cells #[] 0 (0,0))) (fun _=>0) (dA W) (fun _=>False) (by kernel_rfl) (by kernel_rfl) (by kernel_rfl) rfl (fun _=>rfl) (fun _ h=>h.elim) (fun _ _ h=>h) (by simp) (by simp) (fun R b1=>⟨fun _=>rfl,fun _=>rfl,fun _=>rfl,fun _=>rfl,fun _=>rfl,fun _=>rfl,fun _=>rfl,fun _=>rfl,fun _=>rfl,fun _=>rfl,fun _=>rfl,fun _=>rfl,fun _=>rfl,fun _=>rfl,fun _=>rfl,fun _=>rfl,fun _=>rfl,fun _=>rfl,fun _=>rfl,fun _=>rfl,fun _=>rfl,trivial⟩) (fun _ _ _ _=>rfl) dH EE.out ?vU ?va;case vU =>
  refine⟨?_,d_ kv,aH,?_,?_,?_,?_,aH,aH,?_,?_,?_,?_,aH,aH,?_,?_,?_,?_,aH,aH,trivial⟩
  ·refine cj fun R s w' aw hs hw ha=>?_
   have L:=dF (aS.aY hw (fun h=>h) (by simp)) hU rfl eT eX;generalize hA:bB _ _ _ _ _ _ _=c3;refine e7 rfl ?_ L;subst hA;kernel_rfl
  ·refine eL ?kj ?iQ ?j8 ?jn ?_;case iQ=>exact rfl
   case kj=>exact(fun R=>.pointer (some ⟨g0,1,none⟩))
   case j8=>exact(fun R=>rfl)
   case jn=>(refine du rfl ?_;intro R;kernel_rfl)
   intro R s w' aw hs hw ha;go_simp
  ·refine eL ?Af ?rE ?zy ?vj ?_;case rE=>exact rfl
   case Af=>exact(fun R=>.pointer (some ⟨g0,4,none⟩))
   case zy=>exact(fun R=>rfl)
   case vj=>(refine du rfl ?_;intro R;kernel_rfl)
   intro R s w' aw hs hw ha;go_simp
  ·refine eL ?wo ?iR ?j9 ?jo ?_;case iR=>exact rfl
   case wo=>exact(fun R=>.int .u64 (d:Int))
   case j9=>exact(fun R=>rfl)
   case jo=>(refine du rfl ?_;intro R;kernel_rfl)
   intro R s w' aw hs hw ha;have cc:=((aS.aY hw (fun h=>h) (by simp):aG w' g0 _ X).cell 4).trans (f4);go_simp
  ·refine eL ?jE ?gA ?hO ?gx ?_;case gA=>exact rfl
   case jE=>exact(fun R=>.bool true)
   case hO=>exact(fun R=>rfl)
   case gx=>(refine du rfl ?_;intro R;kernel_rfl)
   intro R s w' aw hs hw ha;go_simp
  ·refine eL ?wm ?po ?sW ?o_ ?_;case po=>exact rfl
   case wm=>exact(fun R=>.pointer (some ⟨g0,1,none⟩))
   case sW=>exact(fun R=>rfl)
   case o_=>(refine du rfl ?_;intro R;kernel_rfl)
   intro R s w' aw hs hw ha;go_simp
  ·refine eL ?qS ?oa ?qK ?n8 ?_;case oa=>exact rfl
   case qS=>exact(fun R=>.pointer (some ⟨g0,3,none⟩))
   case qK=>exact(fun R=>rfl)
   case n8=>(refine du rfl ?_;intro R;kernel_rfl)
   intro R s w' aw hs hw ha;go_simp
  ·refine eL ?Pc ?vE ?Eu ?vf ?_;case vE=>exact rfl
   case Pc=>exact(fun R=>.int .u64 (c:Int))
   case Eu=>exact(fun R=>rfl)
   case vf=>(refine du rfl ?_;intro R;kernel_rfl)
   intro R s w' aw hs hw ha;have cc:=((aS.aY hw (fun h=>h) (by simp):aG w' g0 _ X).cell 3).trans (f3);go_simp
  ·refine eL ?Ae ?sN ?zw ?sB ?_;case sN=>exact rfl
   case Ae=>exact(fun R=>.bool true)
   case zw=>exact(fun R=>rfl)
   case sB=>(refine du rfl ?_;intro R;kernel_rfl)
   intro R s w' aw hs hw ha;go_simp
  ·refine eL ?tv ?ob ?sX ?n9 ?_;case ob=>exact rfl
   case tv=>exact(fun R=>.pointer (some ⟨g0,1,none⟩))
   case sX=>exact(fun R=>rfl)
   case n9=>(refine du rfl ?_;intro R;kernel_rfl)
   intro R s w' aw hs hw ha;go_simp
  ·refine eL ?Pe ?vF ?MC ?vg ?_;case vF=>exact rfl
   case Pe=>exact(fun R=>.pointer (some ⟨g0,2,none⟩))
   case MC=>exact(fun R=>rfl)
   case vg=>(refine du rfl ?_;intro R;kernel_rfl)
   intro R s w' aw hs hw ha;go_simp
  ·refine eL ?Pf ?vG ?MD ?vh ?_;case vG=>exact rfl
   case Pf=>exact(fun R=>.int .u64 (b:Int))
   case MD=>exact(fun R=>rfl)
   case vh=>(refine du rfl ?_;intro R;kernel_rfl)
   intro R s w' aw hs hw ha;have cc:=((aS.aY hw (fun h=>h) (by simp):aG w' g0 _ X).cell 2).trans (f2);go_simp
  ·refine eL ?amO ?zj ?afy ?yZ ?_;case zj=>exact rfl
   case amO=>exact(fun R=>.bool (decide ((b:Int)<4)))
   case afy=>exact(fun R=>rfl)
   case yZ=>(refine du rfl ?_;intro R;kernel_rfl)
   intro R s w' aw hs hw ha;go_simp
 case va =>
  intro cY R G tA ae;have hS:=ae.same;have aZ:=ae.holds;have bf:=EE.out.size;have aS:=aS.aY hS (fun h=>h) (by simp);have EE:=hide (show Ext _ _ from aZ);clear hS bf aZ ae;generalize hF:bB _ _ _ _ _ _ _=bH;have bI:bH={ tmps:=#[.agg X,.pointer (some ⟨g0,0,none⟩),.bool (decide ((b:Int)<4)),.agg X,.bool true,.bool true,.pointer (some ⟨g0,1,none⟩),.pointer (some ⟨g0,4,none⟩),.int .u64 (d:Int),.bool true,.bool true,.bool true,.pointer (some ⟨g0,1,none⟩),.pointer (some ⟨g0,3,none⟩),.int .u64 (c:Int),.bool true,.bool true,.bool true,.pointer (some ⟨g0,1,none⟩),.pointer (some ⟨g0,2,none⟩),.int .u64 (b:Int),.bool (decide ((b:Int)<4)),.bool (decide ((b:Int)<4))],defers:=[] }:=by subst hF;kernel_rfl
  clear hF;subst bI;go_wp2_with fail
  go_ret;exact⟨rfl,EE.out⟩
theorem afp {s:Bool}{a b c d:Nat}{x:Int} (h:dg s a b c d x):(d=0∧c=0∧b<4)↔x.natAbs<73786976294838206464:=by
 have e:=h.abs;have h0:=h.1;have h1:=h.2.1;have h2:=h.2.2.1;have h3:=h.2.2.2.1;simp only[b0,val] at e;constructor
 ·rintro⟨rfl,rfl,hb⟩;omega
 ·intro hx;refine⟨?_,?_,?_⟩<;>omega
theorem aiO {s:Bool}{a b c d:Nat}{x:Int} (h:dg s a b c d x) (v:Bool) (kv:∀ w,Calls Tryz.prog 120 #[.agg #[.bool s,a,b,c,d]] w (aP (.bool v) w)) (w:World) :
 Calls Tryz.prog 109 #[.agg #[.bool s,a,b,c,d]] w (aP (.bool (v&&decide (x.natAbs<73786976294838206464))) w):=by
 have hb:=afp h;cases v with
 | false=>exact ajf _ b c d w rfl (by kernel_rfl) rfl rfl rfl (hide kv)
 | true =>
  by_cases hd:d=0
  ·by_cases hc:c=0
   ·have:=aji _ b c d w rfl (by kernel_rfl) rfl rfl rfl (hide kv) hd hc;have e:decide ((b:Int)<4)=(true&&decide (x.natAbs<73786976294838206464)):=by
     rw[Bool.true_and];by_cases q:b<4
     ·rw[decide_eq_true (hb.1 ⟨hd,hc,q⟩),decide_eq_true (by omega)]
     ·rw[decide_eq_false (fun z=>q (hb.2 z).2.2),decide_eq_false (by omega)]
    rw[e] at this
    exact this
   ·rw[decide_eq_false (fun z=>hc (hb.2 z).2.1)];exact ajh _ b c d w rfl (by kernel_rfl) rfl rfl rfl (hide kv) hd hc
  ·rw[decide_eq_false (fun z=>hd (hb.2 z).1)];exact ajg _ b c d w rfl (by kernel_rfl) rfl rfl rfl (hide kv) hd
end
section
open Go Go.RowKit Go.Sort
theorem RB {x y z:Int} (hx:b4 x) (hy:b4 y) (e:x-y=z) (hz:b4 z) (w:World):Calls Tryz.prog 110 #[x,y] w (aP (.tuple #[z,.bool true]) w):=
 (aje _ _ _ _ _ _ _ _ _ _ x y w (e0 hx).1 (e0 hy).1).mono fun _ _ h=>BS (by rw[e] at h;exact h) hz
theorem Ub {n d:Int} (hn:b4 n) (hd:b4 d) (h0:d≠0) (h:okF (pG n d)) (w:World):Calls Tryz.prog 105 #[.agg (dC n),.agg (dC d)] w (aP (.tuple #[.agg (cJ (pG n d)),true]) w):=abV hn hd h0 (Vv h) rfl rfl w
theorem ai_:I_ 94:=fun base v eps dt hb v1 v2 bk e2 hd w=>by
 have eM:∀ w,Calls Tryz.prog 109 #[.agg (dC base)] w (aP (.bool (decide (base.natAbs<73786976294838206464))) w):=fun w=>aiO (e0 hb).1 true (fun w=>Zd hb w) w
 by_cases g1:base.natAbs<73786976294838206464
 ·rw[decide_eq_true g1] at eM;by_cases ge:0≤eps
  ·by_cases Df:eps≤4611686018427387904
   ·by_cases g3:0<dt
    ·have af:pV base eps dt:=⟨g1,ge,Df,g3⟩;have zk:=OJ (base:=base) (v:=v) (eps:=eps) (dt:=(dt:Int)) g1 v1 v2 ge Df (by omega) (by omega);have aF:b4 v:=by unfold b4;omega
     have he:b4 eps:=by unfold b4;omega
     have aO:b4 (v-base):=by unfold b4;omega
     have Bm:b4 (v-base-eps):=by unfold b4;omega
     have xm:b4 (v-base+eps):=by unfold b4;omega
     have qD:b4 (dt:Int):=by unfold b4;omega
     rw[show rR base v eps dt=e4 (B1 base v eps dt) from if_pos af,decide_eq_true af];exact ajj (dC base) (dC v) (dC (v-base)) (dC eps) (dC (v-base-eps)) (dC (v-base+eps)) (dC (dt:Int)) (cJ (pG (v-base-eps) dt)) (cJ (pG (v-base+eps) dt)) v eps dt true true true true true w rfl (nF _) rfl (nF _) rfl (nF _) rfl (nF _) (gP _) (gP _) ge Df g3 hd
      (hide eM) (hide (fun w=>CM v1 v2 w)) (hide (fun w=>RB aF hb rfl aO w)) (hide (fun w=>CM bk e2 w)) (hide (fun w=>RB aO he rfl Bm w)) (hide (fun w=>JG aO he rfl xm w)) (hide (fun w=>Zc hd w)) (hide (fun w=>Ub Bm qD (by omega) zk.1 w)) (hide (fun w=>Ub xm qD (by omega) zk.2.1 w))
    ·have af:¬ pV base eps dt:=fun h=>g3 h.2.2.2
     rw[show rR base v eps dt=z21 from if_neg af,decide_eq_false af];obtain rfl:dt=0:=by omega
     exact ajn (dC base) v eps 0 w rfl (nF _) (hide eM) ge Df
   ·have af:¬ pV base eps dt:=fun h=>Df h.2.2.1
    rw[show rR base v eps dt=z21 from if_neg af,decide_eq_false af];exact ajm (dC base) v eps dt w rfl (nF _) (hide eM) (by omega)
  ·have af:¬ pV base eps dt:=fun h=>ge h.2.1
   rw[show rR base v eps dt=z21 from if_neg af,decide_eq_false af];exact ajl (dC base) v eps dt w rfl (nF _) (hide eM) (by omega)
 ·have af:¬ pV base eps dt:=fun h=>g1 h.1
  rw[decide_eq_false g1] at eM;rw[show rR base v eps dt=z21 from if_neg af,decide_eq_false af];exact ajk (dC base) v eps dt w rfl (nF _) (hide eM)
end
end Go.Proofs.YtojbopibfflnoaaGreat
