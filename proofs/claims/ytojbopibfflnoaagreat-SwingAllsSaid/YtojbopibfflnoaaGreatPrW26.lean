/- Contracts and plain facts; each states its conditions. -/
import Derived.Test.YtojbopibfflnoaaGreatPrW18
import Derived.Test.YtojbopibfflnoaaGreatPrW22
import Derived.Test.YtojbopibfflnoaaGreatPrW24
import Derived.Test.YtojbopibfflnoaaGreatPrW25
import Derived.BigQuiet
namespace Go.Proofs.YtojbopibfflnoaaGreat
set_option linter.unusedVariables false
set_option linter.unusedSimpArgs false
set_option maxHeartbeats 16000000
section
open Go Go.RowKit Go.Sort
theorem aa3 (s s':Bool) (a b c e a' b' c' e':Int) (w:World) :
 (Op.equalIn 9998 27 (.agg #[.bool s,.int .u64 a,.int .u64 b,.int .u64 c,.int .u64 e]) (.agg #[.bool s',.int .u64 a',.int .u64 b',.int .u64 c',.int .u64 e'])).run Tryz.prog w=.ok (ii s s' a b c e a' b' c' e') w:=by
 have hS:Tryz.prog.underlying 27=some (.struct (Tryz.prog.fieldsOf 27)):=by kernel_rfl
 have hp:Tryz.prog.stoodInHeld 27=false:=by kernel_rfl
 have u4:=Tryz.underlying4;have h4:=A4 9995 25 Tryz.underlying25;have Ak:=Tryz.sizeOf25;rw[show (9998:Nat)=9997+1 from rfl,run_equalIn_agg w 9997 27 _ _ hS hp];simp only[Program.fieldsOf,Tryz.underlying27];simp[Op.eqFields,part,isAgg,run_underlying u4,run_equalIn_bool',u4,h4,Ak,ii];by_cases h0:s=s'<;>by_cases h1:a=a'<;>by_cases h2:b=b'<;>by_cases h3:c=c'<;>by_cases h4:e=e'<;>simp[h0,h1,h2,h3,h4]
theorem RY (s s':Bool) (a b c e a' b' c' e':Int) (t t':Bool) (f g h i f' g' h' l4:Int) (w:World) :
 (Op.equalIn 9999 29 (.agg #[.bool s,.int .u64 a,.int .u64 b,.int .u64 c,.int .u64 e,.bool t,.int .u64 f,.int .u64 g,.int .u64 h,.int .u64 i]) (.agg #[.bool s',.int .u64 a',.int .u64 b',.int .u64 c',.int .u64 e',.bool t',.int .u64 f',.int .u64 g',.int .u64 h',.int .u64 l4])).run Tryz.prog w=.ok (ii s s' a b c e a' b' c' e'&&ii t t' f g h i f' g' h' l4) w:=by
 have hS:Tryz.prog.underlying 29=some (.struct (Tryz.prog.fieldsOf 29)):=by kernel_rfl
 have hp:Tryz.prog.stoodInHeld 29=false:=by kernel_rfl
 have z25:=Tryz.sizeOf27;have h5:=aa3;rw[show (9999:Nat)=9998+1 from rfl,run_equalIn_agg w 9998 29 _ _ hS hp];simp only[Program.fieldsOf,Tryz.underlying29];simp[Op.eqFields,part,isAgg,h5,z25];generalize ii s s' a b c e a' b' c' e'=p;generalize ii t t' f g h i f' g' h' l4=q;cases p<;>cases q<;>rfl
def RC (S:Array Value):Prop:=∃ (s:Bool) (a b c d:Int) (t:Bool) (e f g h:Int),S=#[.bool s,.int .u64 a,.int .u64 b,.int .u64 c,.int .u64 d,.bool t,.int .u64 e,.int .u64 f,.int .u64 g,.int .u64 h]
theorem RC.size {S:Array Value} (h:RC S):S.size=10:=by obtain⟨s,a,b,c,d,t,e,f,g,i,rfl⟩:=h;rfl
theorem RC.one {S:Array Value} (h:RC S):S.all (·.oneCell')=true:=by obtain⟨s,a,b,c,d,t,e,f,g,i,rfl⟩:=h;kernel_rfl
theorem RC.zero:RC dq:=⟨false,0,0,0,0,false,0,0,0,0,rfl⟩
theorem Kf (X:Array Value) (T:TypeId) (h:Tryz.prog.eqGuardType Tryz.prog.depth T=false) (Y:Array Value) (b:BinOp) (x y:Operand) (w:World):(eqGuard b T x y (.agg X) (.agg Y)).run Tryz.prog w=.ok () w:=by
 have hp:∀ w,Sem.run Tryz.prog (Sem.program Sem.pure) w=.ok Tryz.prog w:=fun _=>rfl
 unfold eqGuard;cases b<;>simp[program,h,hp,Sem.run_bind,Result.andThen]
theorem E2:c9.all (·.oneCell')=true:=by kernel_rfl
theorem RZ {L H:Array Value} (o:Bool) (br:RC L) (dh:RC H) (w:World):(binOp .eql 31 (.agg (bT o L H)) (.agg (bT o L H))).run Tryz.prog w=.ok (.bool true) w:=by
 obtain⟨s,a,b,c,e,t,f,g,h,i,rfl⟩:=br;obtain⟨s',a',b',c',e',t',f',g',h',l4,rfl⟩:=dh;have hS:Tryz.prog.underlying 31=some (.struct (Tryz.prog.fieldsOf 31)):=by kernel_rfl
 have hp:Tryz.prog.stoodInHeld 31=false:=by kernel_rfl
 have u4:=Tryz.underlying4;have z25:=Tryz.sizeOf29;have h5:=RY;rw[run_eql_struct,show (10000:Nat)=9999+1 from rfl,run_equalIn_agg w 9999 31 _ _ hS hp];simp only[Program.fieldsOf,Tryz.underlying31];simp[Op.eqFields,part,isAgg,run_underlying u4,run_equalIn_bool',u4,h5,z25,ii,bT]
def cJ (f:Fr):Array Value:=#[.bool (ao f.1),.int .u64 (ai f.1:Int),.int .u64 (ah f.1:Int),.int .u64 (aj f.1:Int),.int .u64 (ap f.1:Int),.bool (ao f.2),.int .u64 (ai f.2:Int),.int .u64 (ah f.2:Int),.int .u64 (aj f.2:Int),.int .u64 (ap f.2:Int)]
theorem gP (f:Fr):RC (cJ f):=⟨_,_,_,_,_,_,_,_,_,_,rfl⟩
def e4:jH→Array Value
 | .op=>c9
 | .dU a b=>bT false (cJ a) (cJ b)
theorem JJ (c:jH):∃ o L H,e4 c=bT o L H∧RC L∧RC H:=by
 cases c with
 | op=>exact⟨true,dq,dq,Oz,RC.zero,RC.zero⟩
 | dU a b=>exact⟨false,_,_,rfl,gP a,gP b⟩
def z5:Array Value:=#[.bool false,.int .u64 0,.int .u64 0,.int .u64 0,.int .u64 0]
theorem hU:Tryz.prog.underlying 27=some (.struct (Tryz.prog.fieldsOf 27)):=by kernel_rfl
theorem eT:(Tryz.prog.info? 27).map (·.size)=some 5:=by kernel_rfl
theorem dF {w:World}{g:Nat}{t ty:TypeId}{X:Array Value}{n:Nat}{d:TypeDesc} (h:aG w g t X) (hu:Tryz.prog.underlying ty=some d) (hd:yG d) (hi:(Tryz.prog.info? ty).map (·.size)=some n) (hn:X.size=n):(Instr.loadAt ty (.pointer (some ⟨g,0,none⟩))).run Tryz.prog w=.ok (.agg X) w:=
 pH h _ _ hu hd 0 n hi (by omega) _ (by rw[Nat.zero_add,←hn];simp)
end
section
open Go Go.RowKit Go.Sort
attribute [local go_sem] mg nV qf
theorem uT {x y r:Int} (h:f_ x y=r):(r<0↔x<y)∧(r=0↔x=y)∧(0<r↔y<x):=by
 rw[←h];unfold f_;split<;>(try split)<;>omega
set_option maxRecDepth 100000 in
theorem akG {aC m1 aW m2:Int} (h1:iW aC m1) (h2:iW aW m2) {n m:Int} (hle:aC*m2≤aW*m1) (B:gg aC m1 aW m2 n m) (w:World):Calls Tryz.prog 99 #[.agg #[ao aC,ai aC,ah aC,aj aC,ap aC,ao m1,ai m1,ah m1,aj m1,ap m1],.agg #[ao aW,ai aW,ah aW,aj aW,ap aW,ao m2,ai m2,ah m2,aj m2,ap m2]] w (aP (.tuple #[.agg #[ao n,ai n,ah n,aj n,ap n,ao m,ai m,ah m,aj m,ap m],.bool true]) w):=by
 obtain⟨c,hc⟩:∃ r,f_ (aC*m2) (aW*m1)=r:=⟨_,rfl⟩;have eR:¬ 0<c:=by rw[(uT hc).2.2];omega
 have zt:Hid (∀ w,Calls Tryz.prog 90 #[.agg #[ao aC,ai aC,ah aC,aj aC,ap aC,ao m1,ai m1,ah m1,aj m1,ap m1]] w (aP (.bool true) w)):=fun w=>GH h1 w
 have zu:Hid (∀ w,Calls Tryz.prog 90 #[.agg #[ao aW,ai aW,ah aW,aj aW,ap aW,ao m2,ai m2,ah m2,aj m2,ap m2]] w (aP (.bool true) w)):=fun w=>GH h2 w
 have rI:Hid (∀ w,Calls Tryz.prog 91 #[.agg #[ao aC,ai aC,ah aC,aj aC,ap aC,ao m1,ai m1,ah m1,aj m1,ap m1],.agg #[ao aW,ai aW,ah aW,aj aW,ap aW,ao m2,ai m2,ah m2,aj m2,ap m2]] w (aP (.int .i64 c) w)):=fun w=>Sh h1 h2 hc w
 clear hc;by_cases hp:0<aC
 ·have mR:Hid (∀ w,Calls Tryz.prog 115 #[aC] w (aP (.int .i64 1) w)):=fun w=>AY h1.fn (Int.sign_eq_one_of_pos hp) w
  have pz:Hid (∀ w,Calls Tryz.prog 116 #[.agg #[ao aC,ai aC,ah aC,aj aC,ap aC,ao m1,ai m1,ah m1,aj m1,ap m1],.agg #[ao aW,ai aW,ah aW,aj aW,ap aW,ao m2,ai m2,ah m2,aj m2,ap m2]] w (aP (.agg #[ao n,ai n,ah n,aj n,ap n,ao m,ai m,ah m,aj m,ap m]) w)):=fun w=>Ou _ aC m1 aW m2 n m (Nat.lt_succ_self _) hp h1.1 h2.1 hle h1.2.1 h1.2.2.1 h2.2.1 h2.2.2.1 B w
  clear h1 h2 hle B hp;obtain⟨bU,dE⟩:=eo ((((w.alloc (.cells #[ao aC,ai aC,ah aC,aj aC,ap aC,ao m1,ai m1,ah m1,aj m1,ap m1] 29)).alloc (.cells #[ao aW,ai aW,ah aW,aj aW,ap aW,ao m2,ai m2,ah m2,aj m2,ap m2] 29)).alloc (.cells #[false,(),(),(),(),false,(),(),(),()] 29)));have bz:=kF w (.cells #[ao aC,ai aC,ah aC,aj aC,ap aC,ao m1,ai m1,ah m1,aj m1,ap m1] 29) (.cells #[ao aW,ai aW,ah aW,aj aW,ap aW,ao m2,ai m2,ah m2,aj m2,ap m2] 29) (.cells #[false,(),(),(),(),false,(),(),(),()] 29);have fe:Ext w bU:=by rw[dE];exact(((aA _ _).trans (aA _ _)).trans (aA _ _))
  rw[←dE] at bz;have EE:=hide fe;have aB:=hide dE;obtain⟨ak,aq,ag⟩:cm bU (w.heap.size) (ao aC) (ai aC) (ah aC) (aj aC) (ap aC) (ao m1) (ai m1) (ah m1) (aj m1) (ap m1)∧cm bU ((w.heap.size+1)) (ao aW) (ai aW) (ah aW) (aj aW) (ap aW) (ao m2) (ai m2) (ah m2) (aj m2) (ap m2)∧cm bU ((w.heap.size+1+1)) false 0 0 0 0 false 0 0 0 0:=bz;clear dE fe;go_enter Tryz.func99,Tryz.ntmps99
  go_upto_region 1 with fail
  rw[←aB.out];clear aB;have ga:w.heap.size≤w.heap.size:=Nat.le_refl _;obtain⟨g0,af⟩:∃ g,w.heap.size=g:=⟨_,rfl⟩;rw[af] at ak aq ag ⊢;replace ga:w.heap.size≤g0:=Nat.le_of_eq af;clear af;have cA:=ct ak;have cB:=ct aq;obtain⟨fz,fA,fB,fC,fD,fE,fF,fG,fH,fI,hg,hj,hk,ho,hq,hr,ht,hv,hB,hD⟩:=cv ag;go_wp2_with (first
   | (go_at_call 90;(with_reducible refine(zt.out _).mono ?_);rintro e aT ⟨rfl,ad⟩;clear cA cB;clear fz fA fB fC fD fE fF fG fH fI hg hj hk ho hq hr ht hv hB hD;have ak:=ak.ext ad;have aq:=aq.ext ad;have ag:=ag.ext ad;have EE:=hide (EE.out.trans ad);clear ad;have cA:=ct ak;have cB:=ct aq;obtain⟨fz,fA,fB,fC,fD,fE,fF,fG,fH,fI,hg,hj,hk,ho,hq,hr,ht,hv,hB,hD⟩:=cv ag)
   | (go_at_call 90;(with_reducible refine(zu.out _).mono ?_);rintro e bp ⟨rfl,ad⟩;clear cA cB;clear fz fA fB fC fD fE fF fG fH fI hg hj hk ho hq hr ht hv hB hD;have ak:=ak.ext ad;have aq:=aq.ext ad;have ag:=ag.ext ad;have EE:=hide (EE.out.trans ad);clear ad;have cA:=ct ak;have cB:=ct aq;obtain⟨fz,fA,fB,fC,fD,fE,fF,fG,fH,fI,hg,hj,hk,ho,hq,hr,ht,hv,hB,hD⟩:=cv ag)
   | (go_at_call 91;(with_reducible refine(rI.out _).mono ?_);rintro e w3 ⟨rfl,ad⟩;clear cA cB;clear fz fA fB fC fD fE fF fG fH fI hg hj hk ho hq hr ht hv hB hD;have ak:=ak.ext ad;have aq:=aq.ext ad;have ag:=ag.ext ad;have EE:=hide (EE.out.trans ad);clear ad;have cA:=ct ak;have cB:=ct aq;obtain⟨fz,fA,fB,fC,fD,fE,fF,fG,fH,fI,hg,hj,hk,ho,hq,hr,ht,hv,hB,hD⟩:=cv ag)
   | (go_at_call 115;(with_reducible refine(mR.out _).mono ?_);rintro e bZ ⟨rfl,ad⟩;clear cA cB;clear fz fA fB fC fD fE fF fG fH fI hg hj hk ho hq hr ht hv hB hD;have ak:=ak.ext ad;have aq:=aq.ext ad;have ag:=ag.ext ad;have EE:=hide (EE.out.trans ad);clear ad;have cA:=ct ak;have cB:=ct aq;obtain⟨fz,fA,fB,fC,fD,fE,fF,fG,fH,fI,hg,hj,hk,ho,hq,hr,ht,hv,hB,hD⟩:=cv ag)
   | (go_at_call 116;(with_reducible refine(pz.out _).mono ?_);rintro e bm ⟨rfl,ad⟩;clear cA cB;clear fz fA fB fC fD fE fF fG fH fI hg hj hk ho hq hr ht hv hB hD;have ak:=ak.ext ad;have aq:=aq.ext ad;have ag:=ag.ext ad;have EE:=hide (EE.out.trans ad);clear ad;have cA:=ct ak;have cB:=ct aq;obtain⟨fz,fA,fB,fC,fD,fE,fF,fG,fH,fI,hg,hj,hk,ho,hq,hr,ht,hv,hB,hD⟩:=cv ag))
  exact bodyPost_ret (v:=.tuple #[.agg #[ao n,ai n,ah n,aj n,ap n,ao m,ai m,ah m,aj m,ap m],.bool true]) (by simp[results,Tryz.results99,go_sem,fz,fA,fB,fC,fD,fE,fF,fG,fH,fI]) rfl ⟨rfl,kY EE.out (by omega) _ _ _ _ _ _ _ _ _ _⟩
 ·obtain⟨j,aN,cW,cL,_⟩:=HR aC;have rA:¬ 0<j:=fun q=>hp (cL.1 q)
  have mR:Hid (∀ w,Calls Tryz.prog 115 #[aC] w (aP (.int .i64 j) w)):=fun w=>AY h1.fn aN w
  clear aN cW cL;by_cases aO:aW<0
  ·obtain⟨u1,vK⟩:∃ u:Int,-aC=u:=⟨_,rfl⟩;obtain⟨u2,vL⟩:∃ u:Int,-aW=u:=⟨_,rfl⟩;obtain⟨u,hu⟩:∃ u:Int,-n=u:=⟨_,rfl⟩;have Ed:-u=n:=by omega
   have fc:=B.neg;rw[vK,vL,hu] at fc;have xo:u2*m1≤u1*m2:=by rw[←vK,←vL,Int.neg_mul,Int.neg_mul];omega
   have S:=(B.small h1.1 h2.1 hle).1;have fu:b4 u:=b4.mk (by have:=h1.2.1;omega);have rJ:Hid (∀ w,Calls Tryz.prog 115 #[aW] w (aP (.int .i64 (-1)) w)):=fun w=>AY h2.fn (Int.sign_eq_neg_one_of_neg aO) w
   have Mx:Hid (∀ w,Calls Tryz.prog 117 #[.agg #[ao aC,ai aC,ah aC,aj aC,ap aC,ao m1,ai m1,ah m1,aj m1,ap m1]] w (aP (.agg #[ao u1,ai u1,ah u1,aj u1,ap u1,ao m1,ai m1,ah m1,aj m1,ap m1]) w)):=fun w=>Ov h1.fn vK w
   have My:Hid (∀ w,Calls Tryz.prog 117 #[.agg #[ao aW,ai aW,ah aW,aj aW,ap aW,ao m2,ai m2,ah m2,aj m2,ap m2]] w (aP (.agg #[ao u2,ai u2,ah u2,aj u2,ap u2,ao m2,ai m2,ah m2,aj m2,ap m2]) w)):=fun w=>Ov h2.fn vL w
   have pz:Hid (∀ w,Calls Tryz.prog 116 #[.agg #[ao u2,ai u2,ah u2,aj u2,ap u2,ao m2,ai m2,ah m2,aj m2,ap m2],.agg #[ao u1,ai u1,ah u1,aj u1,ap u1,ao m1,ai m1,ah m1,aj m1,ap m1]] w (aP (.agg #[ao u,ai u,ah u,aj u,ap u,ao m,ai m,ah m,aj m,ap m]) w)):=fun w=>Ou _ u2 m2 u1 m1 u m (Nat.lt_succ_self _) (by omega) h2.1 h1.1 xo (by have:=h2.2.1;omega) h2.2.2.1 (by have:=h1.2.1;omega) h1.2.2.1 fc w
   have zr:Hid (∀ w,Calls Tryz.prog 117 #[.agg #[ao u,ai u,ah u,aj u,ap u,ao m,ai m,ah m,aj m,ap m]] w (aP (.agg #[ao n,ai n,ah n,aj n,ap n,ao m,ai m,ah m,aj m,ap m]) w)):=fun w=>Ov fu Ed w
   clear h1 h2 hle B hp aO vK vL hu Ed fc xo S fu;obtain⟨bU,dE⟩:=eo ((((w.alloc (.cells #[ao aC,ai aC,ah aC,aj aC,ap aC,ao m1,ai m1,ah m1,aj m1,ap m1] 29)).alloc (.cells #[ao aW,ai aW,ah aW,aj aW,ap aW,ao m2,ai m2,ah m2,aj m2,ap m2] 29)).alloc (.cells #[false,(),(),(),(),false,(),(),(),()] 29)));have bz:=kF w (.cells #[ao aC,ai aC,ah aC,aj aC,ap aC,ao m1,ai m1,ah m1,aj m1,ap m1] 29) (.cells #[ao aW,ai aW,ah aW,aj aW,ap aW,ao m2,ai m2,ah m2,aj m2,ap m2] 29) (.cells #[false,(),(),(),(),false,(),(),(),()] 29);have fe:Ext w bU:=by rw[dE];exact(((aA _ _).trans (aA _ _)).trans (aA _ _))
   rw[←dE] at bz;have EE:=hide fe;have aB:=hide dE;obtain⟨ak,aq,ag⟩:cm bU (w.heap.size) (ao aC) (ai aC) (ah aC) (aj aC) (ap aC) (ao m1) (ai m1) (ah m1) (aj m1) (ap m1)∧cm bU ((w.heap.size+1)) (ao aW) (ai aW) (ah aW) (aj aW) (ap aW) (ao m2) (ai m2) (ah m2) (aj m2) (ap m2)∧cm bU ((w.heap.size+1+1)) false 0 0 0 0 false 0 0 0 0:=bz;clear dE fe;go_enter Tryz.func99,Tryz.ntmps99
   go_upto_region 1 with fail
   rw[←aB.out];clear aB;have ga:w.heap.size≤w.heap.size:=Nat.le_refl _;obtain⟨g0,af⟩:∃ g,w.heap.size=g:=⟨_,rfl⟩;rw[af] at ak aq ag ⊢;replace ga:w.heap.size≤g0:=Nat.le_of_eq af;clear af;have cA:=ct ak;have cB:=ct aq;go_upto_region 3 with (first
    | (go_at_call 90;(with_reducible refine(zt.out _).mono ?_);rintro e aT ⟨rfl,ad⟩;clear cA cB;have ak:=ak.ext ad;have aq:=aq.ext ad;have ag:=ag.ext ad;have EE:=hide (EE.out.trans ad);clear ad;have cA:=ct ak;have cB:=ct aq)
    | (go_at_call 90;(with_reducible refine(zu.out _).mono ?_);rintro e bp ⟨rfl,ad⟩;clear cA cB;have ak:=ak.ext ad;have aq:=aq.ext ad;have ag:=ag.ext ad;have EE:=hide (EE.out.trans ad);clear ad;have cA:=ct ak;have cB:=ct aq)
    | (go_at_call 91;(with_reducible refine(rI.out _).mono ?_);rintro e w3 ⟨rfl,ad⟩;clear cA cB;have ak:=ak.ext ad;have aq:=aq.ext ad;have ag:=ag.ext ad;have EE:=hide (EE.out.trans ad);clear ad;have cA:=ct ak;have cB:=ct aq))
   clear cA cB;have cA:=ct ak;go_upto_region 5 with (go_at_call 115;(with_reducible refine(mR.out _).mono ?_);rintro e bZ ⟨rfl,ad⟩;clear cA;have ak:=ak.ext ad;have aq:=aq.ext ad;have ag:=ag.ext ad;have EE:=hide (EE.out.trans ad);clear ad;have cA:=ct ak)
   clear cA;have cB:=ct aq;go_upto_region 6 with (go_at_call 115;(with_reducible refine(rJ.out _).mono ?_);rintro e bm ⟨rfl,ad⟩;clear cB;have ak:=ak.ext ad;have aq:=aq.ext ad;have ag:=ag.ext ad;have EE:=hide (EE.out.trans ad);clear ad;have cB:=ct aq)
   clear cB;have BD:=ak.lt;have Ha:=aq.lt;have vO:=ag.lt;have nz:∀ c,Tag.so c∈[.q,.q,.q,.q,.q,.q,.so 0,.q]→(fun _=>g0+1+1) c<bm.heap.size:=by intro c hc;simp at hc;(try subst hc);(try simp only);omega
   refine rV [.q,.q,.q,.q,.q,.q,.so 0,.q] [.agg #[ao aW,ai aW,ah aW,aj aW,ap aW,ao m2,ai m2,ah m2,aj m2,ap m2],.agg #[ao u2,ai u2,ah u2,aj u2,ap u2,ao m2,ai m2,ah m2,aj m2,ap m2],.agg #[ao aC,ai aC,ah aC,aj aC,ap aC,ao m1,ai m1,ah m1,aj m1,ap m1],.agg #[ao u1,ai u1,ah u1,aj u1,ap u1,ao m1,ai m1,ah m1,aj m1,ap m1],.agg #[ao u,ai u,ah u,aj u,ap u,ao m,ai m,ah m,aj m,ap m],.agg #[ao n,ai n,ah n,aj n,ap n,ao m,ai m,ah m,aj m,ap m],undef,.bool true] (fun _=>(.cells #[false,(),(),(),()] 27 (0,0))) (fun _=>(.cells #[ao n,ai n,ah n,aj n,ap n,ao m,ai m,ah m,aj m,ap m] 29 (0,0))) (fun _=>g0+1+1) (by kernel_rfl) (by kernel_rfl) (by kernel_rfl) rfl rfl nz (by intro c c' h1 h2 _;simp at h1 h2;omega) ?_ ?_
   ·refine⟨?_,?_,?_,?_,?_,?_,?_,?_,trivial⟩
    ·refine eJ ?v8 ?vl ?vr ?GO;case vl=>exact rfl
     case v8=>exact(.agg #[ao aW,ai aW,ah aW,aj aW,ap aW,ao m2,ai m2,ah m2,aj m2,ap m2])
     case vr=>exact rfl
     intro w' bj;have aq:=aq.same bj (by intro c hc;simp at hc;(try subst hc);(try simp only);omega);have anO:=cv aq;go_simp
    ·refine eJ ?wa ?vm ?vt ?GQ;case vm=>exact rfl
     case wa=>exact(.agg #[ao u2,ai u2,ah u2,aj u2,ap u2,ao m2,ai m2,ah m2,aj m2,ap m2])
     case vt=>exact rfl
     intro w' bj;go_simp;exact My.out w'
    ·refine eJ ?Ab ?vn ?vu ?Dw;case vn=>exact rfl
     case Ab=>exact(.agg #[ao aC,ai aC,ah aC,aj aC,ap aC,ao m1,ai m1,ah m1,aj m1,ap m1])
     case vu=>exact rfl
     intro w' bj;have ak:=ak.same bj (by intro c hc;simp at hc;(try subst hc);(try simp only);omega);have anD:=cv ak;go_simp
    ·refine eJ ?Ac ?vo ?vv ?Ba;case vo=>exact rfl
     case Ac=>exact(.agg #[ao u1,ai u1,ah u1,aj u1,ap u1,ao m1,ai m1,ah m1,aj m1,ap m1])
     case vv=>exact rfl
     intro w' bj;go_simp;exact Mx.out w'
    ·refine eJ ?Fc ?Dr ?Dv ?K6;case Dr=>exact rfl
     case Fc=>exact(.agg #[ao u,ai u,ah u,aj u,ap u,ao m,ai m,ah m,aj m,ap m])
     case Dv=>exact rfl
     intro w' bj;go_simp;exact pz.out w'
    ·refine eJ ?wb ?vp ?vw ?Dx;case vp=>exact rfl
     case wb=>exact(.agg #[ao n,ai n,ah n,aj n,ap n,ao m,ai m,ah m,aj m,ap m])
     case vw=>exact rfl
     intro w' bj;go_simp;exact zr.out w'
    ·refine qc (c:=0) (T:=?asA) (p:=?asL) (x:=?asX) ?amc ?al5 ?Fe ?y3 ?y5 ?GR ?adb ?adp ?adz ?apg;case y3=>exact rfl
     case y5=>exact rfl
     case al5=>exact(.cells #[ao n,ai n,ah n,aj n,ap n,ao m,ai m,ah m,aj m,ap m] 29 (0,0))
     case amc=>exact g0+1+1
     case Fe=>exact(.agg #[ao n,ai n,ah n,aj n,ap n,ao m,ai m,ah m,aj m,ap m])
     case GR=>exact rfl
     case adb=>exact rfl
     case adp=>go_simp;rfl
     case adz=>go_simp
     intro ρ w' hp hx hz;exact BZ rfl hp hx (hz.trans ag)
    ·refine eJ ?wh ?vq ?vx ?Dy;case vq=>exact rfl
     case wh=>exact(.bool true)
     case vx=>exact rfl
     intro w' bj;go_simp
   ·intro G tL ae;have hS:=ae.same;have ak:=ak.same hS (by intro c hc;simp at hc;(try subst hc);(try simp only);omega);have aq:=aq.same hS (by intro c hc;simp at hc;(try subst hc);(try simp only);omega);have jv:∀ c,Tag.so c∈[.q,.q,.q,.q,.q,.q,.so 0,.q]→w.heap.size≤(fun _=>g0+1+1) c:=by intro c hc;simp at hc;(try subst hc);(try simp only);omega
    have EE:=hide (hS.ext' EE.out jv);have ag:cm tL (g0+1+1) (ao n) (ai n) (ah n) (aj n) (ap n) (ao m) (ai m) (ah m) (aj m) (ap m):=ae.ep 6 (List.mem_range.2 (show 6<8 by decide)) 0 rfl;clear ae hS;simp only[nV,qf,ptrTo,Nat.zero_add,Nat.reduceAdd];go_wp2_with fail
    obtain⟨fz,fA,fB,fC,fD,fE,fF,fG,fH,fI,hg,hj,hk,ho,hq,hr,ht,hv,hB,hD⟩:=cv ag;exact bodyPost_ret (v:=.tuple #[.agg #[ao n,ai n,ah n,aj n,ap n,ao m,ai m,ah m,aj m,ap m],.bool true]) (by simp[results,Tryz.results99,go_sem,fz,fA,fB,fC,fD,fE,fF,fG,fH,fI]) rfl ⟨rfl,EE.out⟩
  ·obtain⟨jM,em⟩:=gg.unique h1.1 h2.1 B (gg.zero (by omega) (by omega));subst jM em;obtain⟨i,hi,i1,i2,_⟩:=HR aW;have j5:¬ i<0:=fun q=>aO (i1.1 q)
   have rJ:Hid (∀ w,Calls Tryz.prog 115 #[aW] w (aP (.int .i64 i) w)):=fun w=>AY h2.fn hi w
   have qJ:Hid (∀ w,Calls Tryz.prog 98 #[.int .i64 0] w (aP (.agg #[ao 0,ai 0,ah 0,aj 0,ap 0,ao 1,ai 1,ah 1,aj 1,ap 1]) w)):=fun w=>Si (by omega) (by omega) w
   clear h1 h2 hle B hp aO hi i1 i2;obtain⟨bU,dE⟩:=eo ((((w.alloc (.cells #[ao aC,ai aC,ah aC,aj aC,ap aC,ao m1,ai m1,ah m1,aj m1,ap m1] 29)).alloc (.cells #[ao aW,ai aW,ah aW,aj aW,ap aW,ao m2,ai m2,ah m2,aj m2,ap m2] 29)).alloc (.cells #[false,(),(),(),(),false,(),(),(),()] 29)));have bz:=kF w (.cells #[ao aC,ai aC,ah aC,aj aC,ap aC,ao m1,ai m1,ah m1,aj m1,ap m1] 29) (.cells #[ao aW,ai aW,ah aW,aj aW,ap aW,ao m2,ai m2,ah m2,aj m2,ap m2] 29) (.cells #[false,(),(),(),(),false,(),(),(),()] 29);have fe:Ext w bU:=by rw[dE];exact(((aA _ _).trans (aA _ _)).trans (aA _ _))
   rw[←dE] at bz;have EE:=hide fe;have aB:=hide dE;obtain⟨ak,aq,ag⟩:cm bU (w.heap.size) (ao aC) (ai aC) (ah aC) (aj aC) (ap aC) (ao m1) (ai m1) (ah m1) (aj m1) (ap m1)∧cm bU ((w.heap.size+1)) (ao aW) (ai aW) (ah aW) (aj aW) (ap aW) (ao m2) (ai m2) (ah m2) (aj m2) (ap m2)∧cm bU ((w.heap.size+1+1)) false 0 0 0 0 false 0 0 0 0:=bz;clear dE fe;go_enter Tryz.func99,Tryz.ntmps99
   go_upto_region 1 with fail
   rw[←aB.out];clear aB;have ga:w.heap.size≤w.heap.size:=Nat.le_refl _;obtain⟨g0,af⟩:∃ g,w.heap.size=g:=⟨_,rfl⟩;rw[af] at ak aq ag ⊢;replace ga:w.heap.size≤g0:=Nat.le_of_eq af;clear af;have cA:=ct ak;have cB:=ct aq;obtain⟨fz,fA,fB,fC,fD,fE,fF,fG,fH,fI,hg,hj,hk,ho,hq,hr,ht,hv,hB,hD⟩:=cv ag;go_wp2_with (first
    | (go_at_call 90;(with_reducible refine(zt.out _).mono ?_);rintro e aT ⟨rfl,ad⟩;clear cA cB;clear fz fA fB fC fD fE fF fG fH fI hg hj hk ho hq hr ht hv hB hD;have ak:=ak.ext ad;have aq:=aq.ext ad;have ag:=ag.ext ad;have EE:=hide (EE.out.trans ad);clear ad;have cA:=ct ak;have cB:=ct aq;obtain⟨fz,fA,fB,fC,fD,fE,fF,fG,fH,fI,hg,hj,hk,ho,hq,hr,ht,hv,hB,hD⟩:=cv ag)
    | (go_at_call 90;(with_reducible refine(zu.out _).mono ?_);rintro e bp ⟨rfl,ad⟩;clear cA cB;clear fz fA fB fC fD fE fF fG fH fI hg hj hk ho hq hr ht hv hB hD;have ak:=ak.ext ad;have aq:=aq.ext ad;have ag:=ag.ext ad;have EE:=hide (EE.out.trans ad);clear ad;have cA:=ct ak;have cB:=ct aq;obtain⟨fz,fA,fB,fC,fD,fE,fF,fG,fH,fI,hg,hj,hk,ho,hq,hr,ht,hv,hB,hD⟩:=cv ag)
    | (go_at_call 91;(with_reducible refine(rI.out _).mono ?_);rintro e w3 ⟨rfl,ad⟩;clear cA cB;clear fz fA fB fC fD fE fF fG fH fI hg hj hk ho hq hr ht hv hB hD;have ak:=ak.ext ad;have aq:=aq.ext ad;have ag:=ag.ext ad;have EE:=hide (EE.out.trans ad);clear ad;have cA:=ct ak;have cB:=ct aq;obtain⟨fz,fA,fB,fC,fD,fE,fF,fG,fH,fI,hg,hj,hk,ho,hq,hr,ht,hv,hB,hD⟩:=cv ag)
    | (go_at_call 115;(with_reducible refine(mR.out _).mono ?_);rintro e bZ ⟨rfl,ad⟩;clear cA cB;clear fz fA fB fC fD fE fF fG fH fI hg hj hk ho hq hr ht hv hB hD;have ak:=ak.ext ad;have aq:=aq.ext ad;have ag:=ag.ext ad;have EE:=hide (EE.out.trans ad);clear ad;have cA:=ct ak;have cB:=ct aq;obtain⟨fz,fA,fB,fC,fD,fE,fF,fG,fH,fI,hg,hj,hk,ho,hq,hr,ht,hv,hB,hD⟩:=cv ag)
    | (go_at_call 115;(with_reducible refine(rJ.out _).mono ?_);rintro e bm ⟨rfl,ad⟩;clear cA cB;clear fz fA fB fC fD fE fF fG fH fI hg hj hk ho hq hr ht hv hB hD;have ak:=ak.ext ad;have aq:=aq.ext ad;have ag:=ag.ext ad;have EE:=hide (EE.out.trans ad);clear ad;have cA:=ct ak;have cB:=ct aq;obtain⟨fz,fA,fB,fC,fD,fE,fF,fG,fH,fI,hg,hj,hk,ho,hq,hr,ht,hv,hB,hD⟩:=cv ag)
    | (go_at_call 98;(with_reducible refine(qJ.out _).mono ?_);rintro e cg ⟨rfl,ad⟩;clear cA cB;clear fz fA fB fC fD fE fF fG fH fI hg hj hk ho hq hr ht hv hB hD;have ak:=ak.ext ad;have aq:=aq.ext ad;have ag:=ag.ext ad;have EE:=hide (EE.out.trans ad);clear ad;have cA:=ct ak;have cB:=ct aq;obtain⟨fz,fA,fB,fC,fD,fE,fF,fG,fH,fI,hg,hj,hk,ho,hq,hr,ht,hv,hB,hD⟩:=cv ag))
   exact bodyPost_ret (v:=.tuple #[.agg #[ao 0,ai 0,ah 0,aj 0,ap 0,ao 1,ai 1,ah 1,aj 1,ap 1],.bool true]) (by simp[results,Tryz.results99,go_sem,fz,fA,fB,fC,fD,fE,fF,fG,fH,fI]) rfl ⟨rfl,kY EE.out (by omega) _ _ _ _ _ _ _ _ _ _⟩
end
section
open Go Go.RowKit Go.Sort
theorem tN (c:jH):(e4 c).size=21:=by
 obtain⟨o,L,H,e,br,dh⟩:=JJ c;rw[e];exact lW o br.size dh.size
theorem uU (c:jH):(e4 c).all (·.oneCell')=true:=by
 obtain⟨o,L,H,e,br,dh⟩:=JJ c;rw[e];exact su o br.one dh.one
def xH:Option jH→Array Value
 | some c=>e4 c
 | none=>z21
def Ja (f:Nat):Prop:=∀ c,nU c→∀ w,Calls Tryz.prog f #[.agg (e4 c)] w (aP (.bool true) w)
def I8 (f:Nat):Prop:=∀ c,nU c→∃ s,yg c s∧∀ w,Calls Tryz.prog f #[.agg (e4 c)] w (aP (.agg (cJ s)) w)
def I9 (f:Nat):Prop:=∀ a b,nU a→nU b→∀ w,Calls Tryz.prog f #[.agg (e4 a),.agg (e4 b)] w (aP (.tuple #[.agg (xH (kB a b)),.bool (kB a b).isSome]) w)
theorem DI {r s:Fr} (aD:okF r) (hs:okF s) {k:Int} (aE:f_ (r.1*s.2) (s.1*r.2)=k) (w:World):Calls Tryz.prog 70 #[.agg (cJ r),.agg (cJ s)] w (aP (.int .i64 k) w):=SG aD hs aE w
end
section
open Go Go.RowKit Go.Sort
theorem adO {x y n d:Int}{o:Bool} (hx:b4 x) (hy:b4 y) (h0:y≠0) (aL:M6 x y=o) (hn:(if o then ig x y else 0)=n) (hd:(if o then ik x y else 0)=d) (w:World):Calls Tryz.prog 57 #[x,y] w (aP (.tuple #[.agg #[ao n,ai n,ah n,aj n,ap n,ao d,ai d,ah d,aj d,ap d],.bool o]) w):=
 (akj _ _ _ _ _ _ _ _ _ _ x y w (e0 hx) (e0 hy) h0 o aL).mono fun _ _ k=>VG (by subst hn hd;exact k)
end
end Go.Proofs.YtojbopibfflnoaaGreat
