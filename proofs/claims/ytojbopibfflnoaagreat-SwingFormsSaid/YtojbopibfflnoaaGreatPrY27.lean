/- Facts. -/
import Derived.Test.YtojbopibfflnoaaGreatPrY23
import Derived.Test.YtojbopibfflnoaaGreatPrY24
import Derived.Test.YtojbopibfflnoaaGreatPrY25
import Derived.Test.YtojbopibfflnoaaGreatPrY26
namespace Go.Proofs.YtojbopibfflnoaaGreat
open Go renaming undef → l, World → D, Value → A, Calls → E, bodyPost_ret → B7, run_underlying → axf, Operand → axb, Oper → aw4, execOp → axc
open _root_.Go.Proofs.Tryz renaming prog → C
set_option linter.unusedVariables false
set_option linter.unusedSimpArgs false
set_option maxHeartbeats 16000000
set_option maxRecDepth 100000
section
open Go Go.RowKit Go.Sort
attribute [local go_sem] mg nV qf
theorem akK(v0 v1 v2 v3 v4 v5 v6 qg qh v9 u0 u1 u2 u3 u4:A):(((((#[v0,v1,v2,v3,v4,v5,v6,qg,qh,v9]:Array A).setIfInBounds 0 u0).setIfInBounds 1 u1).setIfInBounds 2 u2).setIfInBounds 3 u3).setIfInBounds 4 u4=#[u0,u1,u2,u3,u4,v5,v6,qg,qh,v9]:=by
 apply Array.ext'
 simp only[Array.toList_setIfInBounds,List.set_cons_zero,List.set_cons_succ]
theorem cm.num{w:D}{k:Nat}{s:Bool}{a b c d:Nat}{t:Bool}{e f g h:Nat}{s':Bool}{a' b' c' d':Nat}(x:cm w k s a b c d t e f g h):cm (((((w.setCell ⟨k,0,none⟩ (.bool s')).setCell ⟨k,1,none⟩ (.int .u64 (a':Int))).setCell ⟨k,2,none⟩ (.int .u64 (b':Int))).setCell ⟨k,3,none⟩ (.int .u64 (c':Int))).setCell ⟨k,4,none⟩ (.int .u64 (d':Int))) k s' a' b' c' d' t e f g h:=by
 have y:=kE (kE (kE (kE (kE x 0 (.bool s')) 1 (.int .u64 (a':Int))) 2 (.int .u64 (b':Int))) 3 (.int .u64 (c':Int))) 4 (.int .u64 (d':Int));rw[akK] at y;exact y
theorem V6{ρ:axb->A}{o:aw4}{p x:axb}{w:D}{g:Nat}{s s' t:Bool}{a b c d a' b' c' d' e f h i:Nat}(hop:o.op=.store 27 p x)(hp:ρ p=ptrTo g)(hx:ρ x=.agg #[.bool s,a,b,c,d])(hz:w.heap[g]?=some (.cells #[.bool s',a',b',c',d',.bool t,e,f,h,i] 29 (0,0))) :
 oC C ρ o w g (.cells #[.bool s,a,b,c,d,.bool t,e,f,h,i] 29 (0,0)):=by
 have h1:(axc ρ o).run C w=.ok .skip (((((w.setCell ⟨g,0,none⟩ (.bool s)).setCell ⟨g,1,none⟩ (.int .u64 (a:Int))).setCell ⟨g,2,none⟩ (.int .u64 (b:Int))).setCell ⟨g,3,none⟩ (.int .u64 (c:Int))).setCell ⟨g,4,none⟩ (.int .u64 (d:Int))):=by
  refine BV hop ?_;rw[hp,hx];obtain⟨k7,q1,k8,HB,ET,ash,q6,Vb,asi,asj,iB,i',dX,s7,qO,N_,asl,asn,aso,asp⟩:=cv (show cm w g s' a' b' c' d' t e f h i from hz);unfold ptrTo;go_simp
 have h2:cm (((((w.setCell ⟨g,0,none⟩ (.bool s)).setCell ⟨g,1,none⟩ (.int .u64 (a:Int))).setCell ⟨g,2,none⟩ (.int .u64 (b:Int))).setCell ⟨g,3,none⟩ (.int .u64 (c:Int))).setCell ⟨g,4,none⟩ (.int .u64 (d:Int))) g s a b c d t e f h i:=cm.num (show cm w g s' a' b' c' d' t e f h i from hz);refine⟨_,h1,h2,?_,?_,?_,?_,?_⟩
 ·intro k aE;rw[lY aE,lY aE,lY aE,lY aE,lY aE]
 ·simp only[World.size_setCell]
 ·simp only[NP]
 ·simp only[OI]
 ·simp only[NQ]
theorem ajv{aC m1 aW m2:Int}(h1:iW aC m1)(h2:iW aW m2){n m:Int}(hle:aC*m2<=aW*m1)(B:gg aC m1 aW m2 n m)(w:D):E C 71 #[.agg #[ao aC,ai aC,ah aC,aj aC,ap aC,ao m1,ai m1,ah m1,aj m1,ap m1],.agg #[ao aW,ai aW,ah aW,aj aW,ap aW,ao m2,ai m2,ah m2,aj m2,ap m2]] w (aP (.tuple #[.agg #[ao n,ai n,ah n,aj n,ap n,ao m,ai m,ah m,aj m,ap m],.bool true]) w):=by
 obtain⟨c,hc⟩:∃ r,f_ (aC*m2) (aW*m1)=r:=⟨_,rfl⟩;have eR:¬ 0<c:=by rw[(uT hc).2.2];omega
 have zt:Hid (∀ w,E C 20 #[.agg #[ao aC,ai aC,ah aC,aj aC,ap aC,ao m1,ai m1,ah m1,aj m1,ap m1]] w (aP (.bool true) w)):=fun w=>y_ h1 w
 have zu:Hid (∀ w,E C 20 #[.agg #[ao aW,ai aW,ah aW,aj aW,ap aW,ao m2,ai m2,ah m2,aj m2,ap m2]] w (aP (.bool true) w)):=fun w=>y_ h2 w
 have rI:Hid (∀ w,E C 70 #[.agg #[ao aC,ai aC,ah aC,aj aC,ap aC,ao m1,ai m1,ah m1,aj m1,ap m1],.agg #[ao aW,ai aW,ah aW,aj aW,ap aW,ao m2,ai m2,ah m2,aj m2,ap m2]] w (aP (.int .i64 c) w)):=fun w=>SG h1 h2 hc w
 clear hc;by_cases hp:0<aC
 ·have mR:Hid (∀ w,E C 52 #[aC] w (aP (.int .i64 1) w)):=fun w=>w_ h1.fn (Int.sign_eq_one_of_pos hp) w
  have rG:0<aW:=by
   have:=Int.mul_pos hp h2.1;by_cases h:0<aW
   ·exact h
   ·have:=Int.mul_nonpos_of_nonpos_of_nonneg (show aW<=0 by omega) (show 0<=m1 by have:=h1.1;omega);omega
  have rJ:Hid (∀ w,E C 52 #[aW] w (aP (.int .i64 1) w)):=fun w=>w_ h2.fn (Int.sign_eq_one_of_pos rG) w
  have pz:Hid (∀ w,E C 89 #[aC,m1,aW,m2] w (aP (.tuple #[n,m]) w)):=fun w=>N9 _ aC m1 aW m2 n m (Nat.lt_succ_self _) hp h1.1 h2.1 hle h1.2.1 h1.2.2.1 h2.2.1 h2.2.2.1 B w
  clear h1 h2 hle B hp rG;obtain⟨bU,dE⟩:=eo ((((w.alloc (.cells #[ao aC,ai aC,ah aC,aj aC,ap aC,ao m1,ai m1,ah m1,aj m1,ap m1] 29)).alloc (.cells #[ao aW,ai aW,ah aW,aj aW,ap aW,ao m2,ai m2,ah m2,aj m2,ap m2] 29)).alloc (.cells #[false,(),(),(),(),false,(),(),(),()] 29)));have bz:=kF w (.cells #[ao aC,ai aC,ah aC,aj aC,ap aC,ao m1,ai m1,ah m1,aj m1,ap m1] 29) (.cells #[ao aW,ai aW,ah aW,aj aW,ap aW,ao m2,ai m2,ah m2,aj m2,ap m2] 29) (.cells #[false,(),(),(),(),false,(),(),(),()] 29);have fe:Ext w bU:=by rw[dE];exact(((aA _ _).trans (aA _ _)).trans (aA _ _))
  rw[<-dE] at bz;have EE:=hide fe;have aB:=hide dE;obtain⟨ak,aq,ag⟩:cm bU (w.heap.size) (ao aC) (ai aC) (ah aC) (aj aC) (ap aC) (ao m1) (ai m1) (ah m1) (aj m1) (ap m1)/\cm bU ((w.heap.size+1)) (ao aW) (ai aW) (ah aW) (aj aW) (ap aW) (ao m2) (ai m2) (ah m2) (aj m2) (ap m2)/\cm bU ((w.heap.size+1+1)) false 0 0 0 0 false 0 0 0 0:=bz;clear dE fe;go_enter Tryz.func71,Tryz.ntmps71
  go_upto_region 1 with fail
  rw[<-aB.out];clear aB;have ga:w.heap.size<=w.heap.size:=Nat.le_refl _;obtain⟨g0,af⟩:∃ g,w.heap.size=g:=⟨_,rfl⟩;rw[af] at ak aq ag |-;replace ga:w.heap.size<=g0:=Nat.le_of_eq af;clear af;have cA:=ct ak;have cB:=ct aq;go_upto_region 3 with (first
   | (go_at_call 20;(with_reducible refine(zt.out _).mono ?_);rintro e aT ⟨rfl,ad⟩;clear cA cB;have ak:=ak.ext ad;have aq:=aq.ext ad;have ag:=ag.ext ad;have EE:=hide (EE.out.trans ad);clear ad;have cA:=ct ak;have cB:=ct aq)
   | (go_at_call 20;(with_reducible refine(zu.out _).mono ?_);rintro e bp ⟨rfl,ad⟩;clear cA cB;have ak:=ak.ext ad;have aq:=aq.ext ad;have ag:=ag.ext ad;have EE:=hide (EE.out.trans ad);clear ad;have cA:=ct ak;have cB:=ct aq)
   | (go_at_call 70;(with_reducible refine(rI.out _).mono ?_);rintro e w3 ⟨rfl,ad⟩;clear cA cB;have ak:=ak.ext ad;have aq:=aq.ext ad;have ag:=ag.ext ad;have EE:=hide (EE.out.trans ad);clear ad;have cA:=ct ak;have cB:=ct aq))
  clear cA cB;have cA:=ct ak;go_upto_region 5 with (go_at_call 52;(with_reducible refine(mR.out _).mono ?_);rintro e bZ ⟨rfl,ad⟩;clear cA;have ak:=ak.ext ad;have aq:=aq.ext ad;have ag:=ag.ext ad;have EE:=hide (EE.out.trans ad);clear ad;have cA:=ct ak)
  clear cA;have cB:=ct aq;go_upto_region 10 with (go_at_call 52;(with_reducible refine(rJ.out _).mono ?_);rintro e bm ⟨rfl,ad⟩;clear cB;have ak:=ak.ext ad;have aq:=aq.ext ad;have ag:=ag.ext ad;have EE:=hide (EE.out.trans ad);clear ad;have cB:=ct aq)
  clear cB;have cA:=ct ak;have cB:=ct aq;go_upto_region 11 with (go_at_call 89;(with_reducible refine(pz.out _).mono ?_);rintro e cg ⟨rfl,ad⟩;clear cA cB;have ak:=ak.ext ad;have aq:=aq.ext ad;have ag:=ag.ext ad;have EE:=hide (EE.out.trans ad);clear ad;have cA:=ct ak;have cB:=ct aq)
  clear cA cB;have bz:=e1 cg (n) (m);have nx:=ak.lt;have ny:=aq.lt;have gb:=ag.lt;have ad:=((aA cg (n)).trans (aA _ (m)));have ak:=ak.ext ad;have aq:=aq.ext ad;have ag:=ag.ext ad;have EE:=hide (EE.out.trans ad);clear ad;obtain⟨oF,aK⟩:∃ W,W=((cg.alloc (n)).alloc (m)):=⟨_,rfl⟩;rw[<-aK] at bz EE ak aq ag |-;obtain⟨g8,af⟩:∃ g,cg.heap.size=g:=⟨_,rfl⟩;rw[af] at bz nx ny gb |-;obtain⟨bu,bE⟩:Box oF g8 (ao n) (ai n) (ah n) (aj n) (ap n)/\Box oF (g8+1) (ao m) (ai m) (ah m) (aj m) (ap m):=bz;clear aK af;have aq0:g0≠g8:=by omega
  have ag1:g0≠g8+1:=by omega
  have aq5:g0+1≠g8:=by omega
  have ag4:g0+1≠g8+1:=by omega
  have Nb:g0+1+1≠g8:=by omega
  have Hm:g0+1+1≠g8+1:=by omega
  have rW:=cx bu;have pJ:=cx bE;obtain⟨fz,fA,fB,fC,fD,fE,fF,fG,fH,fI,hg,hj,hk,ho,hq,hr,ht,hv,hB,hD⟩:=cv ag;go_wp2_with fail
  exact B7 (v:=.tuple #[.agg #[ao n,ai n,ah n,aj n,ap n,ao m,ai m,ah m,aj m,ap m],.bool true]) (by simp[results,Tryz.results71,go_sem,fz,fA,fB,fC,fD,fE,fF,fG,fH,fI]) rfl ⟨rfl,kY EE.out (by omega) _ _ _ _ _ _ _ _ _ _⟩
 ·by_cases aO:aW<0
  ·have hJ:aC<0:=by
    by_cases h:aC<0
    ·exact h
    ·have e:aC=0:=by omega
     subst e;have:=Int.mul_neg_of_neg_of_pos aO h1.1;omega
   obtain⟨u1,vK⟩:∃ u:Int,-aC=u:=⟨_,rfl⟩;obtain⟨u2,vL⟩:∃ u:Int,-aW=u:=⟨_,rfl⟩;obtain⟨u,hu⟩:∃ u:Int,-n=u:=⟨_,rfl⟩;have Ed:-u=n:=by omega
   have fc:=B.neg;rw[vK,vL,hu] at fc;have xo:u2*m1<=u1*m2:=by rw[<-vK,<-vL,Int.neg_mul,Int.neg_mul];omega
   have S:=(B.small h1.1 h2.1 hle).1;have fu:b4 u:=b4.mk (by have:=h1.2.1;omega);have mR:Hid (∀ w,E C 52 #[aC] w (aP (.int .i64 (-1)) w)):=fun w=>w_ h1.fn (Int.sign_eq_neg_one_of_neg hJ) w
   have rJ:Hid (∀ w,E C 52 #[aW] w (aP (.int .i64 (-1)) w)):=fun w=>w_ h2.fn (Int.sign_eq_neg_one_of_neg aO) w
   have Mx:Hid (∀ w,E C 68 #[aC] w (aP (u1) w)):=fun w=>JR h1.fn vK w
   have My:Hid (∀ w,E C 68 #[aW] w (aP (u2) w)):=fun w=>JR h2.fn vL w
   have pz:Hid (∀ w,E C 89 #[u2,m2,u1,m1] w (aP (.tuple #[u,m]) w)):=fun w=>N9 _ u2 m2 u1 m1 u m (Nat.lt_succ_self _) (by omega) h2.1 h1.1 xo (by have:=h2.2.1;omega) h2.2.2.1 (by have:=h1.2.1;omega) h1.2.2.1 fc w
   have zr:Hid (∀ w,E C 68 #[u] w (aP (n) w)):=fun w=>JR fu Ed w
   clear h1 h2 hle B hp aO hJ vK vL hu Ed fc xo S fu;obtain⟨bU,dE⟩:=eo ((((w.alloc (.cells #[ao aC,ai aC,ah aC,aj aC,ap aC,ao m1,ai m1,ah m1,aj m1,ap m1] 29)).alloc (.cells #[ao aW,ai aW,ah aW,aj aW,ap aW,ao m2,ai m2,ah m2,aj m2,ap m2] 29)).alloc (.cells #[false,(),(),(),(),false,(),(),(),()] 29)));have bz:=kF w (.cells #[ao aC,ai aC,ah aC,aj aC,ap aC,ao m1,ai m1,ah m1,aj m1,ap m1] 29) (.cells #[ao aW,ai aW,ah aW,aj aW,ap aW,ao m2,ai m2,ah m2,aj m2,ap m2] 29) (.cells #[false,(),(),(),(),false,(),(),(),()] 29);have fe:Ext w bU:=by rw[dE];exact(((aA _ _).trans (aA _ _)).trans (aA _ _))
   rw[<-dE] at bz;have EE:=hide fe;have aB:=hide dE;obtain⟨ak,aq,ag⟩:cm bU (w.heap.size) (ao aC) (ai aC) (ah aC) (aj aC) (ap aC) (ao m1) (ai m1) (ah m1) (aj m1) (ap m1)/\cm bU ((w.heap.size+1)) (ao aW) (ai aW) (ah aW) (aj aW) (ap aW) (ao m2) (ai m2) (ah m2) (aj m2) (ap m2)/\cm bU ((w.heap.size+1+1)) false 0 0 0 0 false 0 0 0 0:=bz;clear dE fe;go_enter Tryz.func71,Tryz.ntmps71
   go_upto_region 1 with fail
   rw[<-aB.out];clear aB;have ga:w.heap.size<=w.heap.size:=Nat.le_refl _;obtain⟨g0,af⟩:∃ g,w.heap.size=g:=⟨_,rfl⟩;rw[af] at ak aq ag |-;replace ga:w.heap.size<=g0:=Nat.le_of_eq af;clear af;have cA:=ct ak;have cB:=ct aq;go_upto_region 3 with (first
    | (go_at_call 20;(with_reducible refine(zt.out _).mono ?_);rintro e aT ⟨rfl,ad⟩;clear cA cB;have ak:=ak.ext ad;have aq:=aq.ext ad;have ag:=ag.ext ad;have EE:=hide (EE.out.trans ad);clear ad;have cA:=ct ak;have cB:=ct aq)
    | (go_at_call 20;(with_reducible refine(zu.out _).mono ?_);rintro e bp ⟨rfl,ad⟩;clear cA cB;have ak:=ak.ext ad;have aq:=aq.ext ad;have ag:=ag.ext ad;have EE:=hide (EE.out.trans ad);clear ad;have cA:=ct ak;have cB:=ct aq)
    | (go_at_call 70;(with_reducible refine(rI.out _).mono ?_);rintro e w3 ⟨rfl,ad⟩;clear cA cB;have ak:=ak.ext ad;have aq:=aq.ext ad;have ag:=ag.ext ad;have EE:=hide (EE.out.trans ad);clear ad;have cA:=ct ak;have cB:=ct aq))
   clear cA cB;have cA:=ct ak;have cB:=ct aq;go_upto_region 5 with (first
    | (go_at_call 52;(with_reducible refine(mR.out _).mono ?_);rintro e bZ ⟨rfl,ad⟩;clear cA cB;have ak:=ak.ext ad;have aq:=aq.ext ad;have ag:=ag.ext ad;have EE:=hide (EE.out.trans ad);clear ad;have cA:=ct ak;have cB:=ct aq)
    | (go_at_call 52;(with_reducible refine(rJ.out _).mono ?_);rintro e bm ⟨rfl,ad⟩;clear cA cB;have ak:=ak.ext ad;have aq:=aq.ext ad;have ag:=ag.ext ad;have EE:=hide (EE.out.trans ad);clear ad;have cA:=ct ak;have cB:=ct aq))
   clear cA cB;have cB:=ct aq;go_upto_region 6 with (go_at_call 52;(with_reducible refine(rJ.out _).mono ?_);rintro e cg ⟨rfl,ad⟩;clear cB;have ak:=ak.ext ad;have aq:=aq.ext ad;have ag:=ag.ext ad;have EE:=hide (EE.out.trans ad);clear ad;have cB:=ct aq)
   clear cB;have BD:=ak.lt;have Ha:=aq.lt;have vO:=ag.lt;refine rV [.q,.q,.al,.al,.st 2,.st 3] [.agg #[ao aW,ai aW,ah aW,aj aW,ap aW,ao m2,ai m2,ah m2,aj m2,ap m2],.agg #[ao aC,ai aC,ah aC,aj aC,ap aC,ao m1,ai m1,ah m1,aj m1,ap m1],l,l,l,l] (fun i=>match i with|2=>(.cells #[false,(),(),(),(),false,(),(),(),()] 29 (0,0))|_=>(.cells #[false,(),(),(),(),false,(),(),(),()] 29 (0,0))) (fun i=>match i with|4=>(.cells #[ao aW,ai aW,ah aW,aj aW,ap aW,ao m2,ai m2,ah m2,aj m2,ap m2] 29 (0,0))|_=>(.cells #[ao aC,ai aC,ah aC,aj aC,ap aC,ao m1,ai m1,ah m1,aj m1,ap m1] 29 (0,0))) (fun _=>0) (by kernel_rfl) (by kernel_rfl) (by kernel_rfl) rfl rfl (by simp) (by simp) ?_ ?_
   ·refine⟨?_,?_,?_,?_,?_,?_,trivial⟩
    ·refine eJ ?v8 ?vl ?vr ?GO;case vl=>exact rfl
     case v8=>exact(.agg #[ao aW,ai aW,ah aW,aj aW,ap aW,ao m2,ai m2,ah m2,aj m2,ap m2])
     case vr=>exact rfl
     intro w' bj;have aq:=aq.same bj (by simp);have anO:=cv aq;go_simp
    ·refine eJ ?wa ?vm ?vt ?GQ;case vm=>exact rfl
     case wa=>exact(.agg #[ao aC,ai aC,ah aC,aj aC,ap aC,ao m1,ai m1,ah m1,aj m1,ap m1])
     case vt=>exact rfl
     intro w' bj;have ak:=ak.same bj (by simp);have anD:=cv ak;go_simp
    ·refine NE ?asZ ?vn ?vu ?Dw;case vn=>exact rfl
     case vu=>exact rfl
     intro ρ w';go_simp;rfl
    ·refine NE ?as0 ?vo ?vv ?Ba;case vo=>exact rfl
     case vv=>exact rfl
     intro ρ w';go_simp;rfl
    ·refine NF (j:=2) (T:=?asy) (p:=?asJ) (x:=?asV) ?al3 ?amH ?Fc ?Dr ?Dv ?K6 ?ac' ?adn ?ao8;case Dr=>exact rfl
     case Dv=>exact rfl
     case al3=>exact(.cells #[ao aW,ai aW,ah aW,aj aW,ap aW,ao m2,ai m2,ah m2,aj m2,ap m2] 29 (0,0))
     case amH=>exact(.cells #[false,(),(),(),(),false,(),(),(),()] 29 (0,0))
     case Fc=>exact(.agg #[ao aW,ai aW,ah aW,aj aW,ap aW,ao m2,ai m2,ah m2,aj m2,ap m2])
     case K6=>exact rfl
     case ac'=>exact rfl
     case adn=>go_simp
     intro ρ w' g' hp hx hz;exact BZ rfl hp hx hz
    ·refine NF (j:=3) (T:=?asz) (p:=?asK) (x:=?asW) ?al4 ?amI ?wb ?vp ?vw ?Dx ?ada ?ado ?ao9;case vp=>exact rfl
     case vw=>exact rfl
     case al4=>exact(.cells #[ao aC,ai aC,ah aC,aj aC,ap aC,ao m1,ai m1,ah m1,aj m1,ap m1] 29 (0,0))
     case amI=>exact(.cells #[false,(),(),(),(),false,(),(),(),()] 29 (0,0))
     case wb=>exact(.agg #[ao aC,ai aC,ah aC,aj aC,ap aC,ao m1,ai m1,ah m1,aj m1,ap m1])
     case Dx=>exact rfl
     case ada=>exact rfl
     case ado=>go_simp
     intro ρ w' g' hp hx hz;exact BZ rfl hp hx hz
   ·intro G oF ae;have hS:=ae.same;have ak:=ak.same hS (by simp);have aq:=aq.same hS (by simp);have ag:=ag.same hS (by simp);have EE:=hide (hS.ext' EE.out (by simp));have bh:cm oF (G 2) (ao aW) (ai aW) (ah aW) (aj aW) (ap aW) (ao m2) (ai m2) (ah m2) (aj m2) (ap m2):=(ae.eV 4 (List.mem_range.2 (show 4<6 by decide)) 2 rfl).2.2;have oK:=(ae.made 2 (List.mem_range.2 (show 2<6 by decide)) rfl).1;have bl:cm oF (G 3) (ao aC) (ai aC) (ah aC) (aj aC) (ap aC) (ao m1) (ai m1) (ah m1) (aj m1) (ap m1):=(ae.eV 5 (List.mem_range.2 (show 5<6 by decide)) 3 rfl).2.2;have xq:=(ae.made 3 (List.mem_range.2 (show 3<6 by decide)) rfl).1;have arz:G 2≠G 3:=fun e=>by have:=ae.apart 2 (List.mem_range.2 (show 2<6 by decide)) 3 (List.mem_range.2 (show 3<6 by decide)) rfl rfl e;omega
    have M_:g0≠G 2:=by omega
    have aq4:g0≠G 3:=by omega
    have M':g0+1≠G 2:=by omega
    have aq9:g0+1≠G 3:=by omega
    have Nd:g0+1+1≠G 2:=by omega
    have arh:g0+1+1≠G 3:=by omega
    clear ae hS;simp only[nV,qf,ptrTo,Nat.zero_add,Nat.reduceAdd];generalize G 2=ru at *;generalize G 3=rv at *;go_upto_region 7 with fail
    have BD:=ak.lt;have Ha:=aq.lt;have vO:=ag.lt;have zC:=bh.lt;have BF:=bl.lt;have nz:∀ c,Tag.so c∈[.q,.q,.q,.q,.q,.q,.q,.so 0,.q,.so 1]->(fun i=>match i with|0=>ru|_=>rv) c<oF.heap.size:=by intro c hc;simp at hc;rcases hc with rfl|rfl<;>(try simp only)<;>omega
    refine rV [.q,.q,.q,.q,.q,.q,.q,.so 0,.q,.so 1] [yj ru 0,aW,u2,yj rv 0,aC,u1,yj ru 0,l,yj rv 0,l] (fun _=>(.cells #[false,(),(),(),()] 27 (0,0))) (fun i=>match i with|7=>(.cells #[ao u2,ai u2,ah u2,aj u2,ap u2,ao m2,ai m2,ah m2,aj m2,ap m2] 29 (0,0))|_=>(.cells #[ao u1,ai u1,ah u1,aj u1,ap u1,ao m1,ai m1,ah m1,aj m1,ap m1] 29 (0,0))) (fun i=>match i with|0=>ru|_=>rv) (by kernel_rfl) (by kernel_rfl) (by kernel_rfl) rfl rfl nz (by intro c c' h1 h2 h3;simp at h1 h2;rcases h1 with rfl|rfl<;>rcases h2 with rfl|rfl<;>simp only at h3<;>omega) ?_ ?_
    ·refine⟨?_,?_,?_,?_,?_,?_,?_,?_,?_,?_,trivial⟩
     ·refine eJ ?wh ?vq ?vx ?Dy;case vq=>exact rfl
      case wh=>exact(.pointer (some ⟨ru,0,none⟩))
      case vx=>exact rfl
      intro w' bj;go_simp
     ·refine Hr ?Aa ?y2 ?y4 ?K4;case y2=>exact rfl
      case Aa=>exact(↑aW)
      case y4=>exact rfl
      intro w' bj ha;have bh:cm w' ru (ao aW) (ai aW) (ah aW) (aj aW) (ap aW) (ao m2) (ai m2) (ah m2) (aj m2) (ap m2):=(ha 7 0 rfl (by kernel_rfl)).trans bh;have atm:=cv bh;go_simp
     ·refine eJ ?E_ ?Dn ?Ds ?Ss;case Dn=>exact rfl
      case E_=>exact(↑u2)
      case Ds=>exact rfl
      intro w' bj;go_simp;exact My.out w'
     ·refine eJ ?Fa ?Dp ?Dt ?St;case Dp=>exact rfl
      case Fa=>exact(.pointer (some ⟨rv,0,none⟩))
      case Dt=>exact rfl
      intro w' bj;go_simp
     ·refine Hr ?Fb ?Dq ?Du ?GN;case Dq=>exact rfl
      case Fb=>exact(↑aC)
      case Du=>exact rfl
      intro w' bj ha;have bl:cm w' rv (ao aC) (ai aC) (ah aC) (aj aC) (ap aC) (ao m1) (ai m1) (ah m1) (aj m1) (ap m1):=(ha 9 1 rfl (by kernel_rfl)).trans bl;have atn:=cv bl;go_simp
     ·refine eJ ?amx ?acG ?acO ?ao5;case acG=>exact rfl
      case amx=>exact(↑u1)
      case acO=>exact rfl
      intro w' bj;go_simp;exact Mx.out w'
     ·refine eJ ?O2 ?KI ?KT ?acV;case KI=>exact rfl
      case O2=>exact(.pointer (some ⟨ru,0,none⟩))
      case KT=>exact rfl
      intro w' bj;go_simp
     ·refine qc (c:=0) (T:=?asq) (p:=?asC) (x:=?asN) ?al7 ?alW ?O4 ?KJ ?KU ?Sv ?ac4 ?adf ?ads ?ao';case KJ=>exact rfl
      case KU=>exact rfl
      case alW=>exact(.cells #[ao u2,ai u2,ah u2,aj u2,ap u2,ao m2,ai m2,ah m2,aj m2,ap m2] 29 (0,0))
      case al7=>exact ru
      case O4=>exact(↑u2)
      case Sv=>exact rfl
      case ac4=>exact rfl
      case adf=>go_simp;rfl
      case ads=>go_simp
      intro ρ w' hp hx hz;exact V6 rfl hp hx (hz.trans bh)
     ·refine eJ ?O5 ?KL ?KW ?Sw;case KL=>exact rfl
      case O5=>exact(.pointer (some ⟨rv,0,none⟩))
      case KW=>exact rfl
      intro w' bj;go_simp
     ·refine qc (c:=1) (T:=?alU) (p:=?amv) (x:=?amF) ?OW ?OT ?O6 ?KM ?KX ?K5 ?K8 ?K' ?Ld ?adB;case KM=>exact rfl
      case KX=>exact rfl
      case OT=>exact(.cells #[ao u1,ai u1,ah u1,aj u1,ap u1,ao m1,ai m1,ah m1,aj m1,ap m1] 29 (0,0))
      case OW=>exact rv
      case O6=>exact(↑u1)
      case K5=>exact rfl
      case K8=>exact rfl
      case K'=>go_simp;rfl
      case Ld=>go_simp
      intro ρ w' hp hx hz;exact V6 rfl hp hx (hz.trans bl)
    ·intro G yC ae;have hS:=ae.same;have ak:=ak.same hS (by intro c hc;simp at hc;rcases hc with rfl|rfl<;>(try simp only)<;>omega);have aq:=aq.same hS (by intro c hc;simp at hc;rcases hc with rfl|rfl<;>(try simp only)<;>omega);have ag:=ag.same hS (by intro c hc;simp at hc;rcases hc with rfl|rfl<;>(try simp only)<;>omega);have jv:∀ c,Tag.so c∈[.q,.q,.q,.q,.q,.q,.q,.so 0,.q,.so 1]->w.heap.size<=(fun i=>match i with|0=>ru|_=>rv) c:=by intro c hc;simp at hc;rcases hc with rfl|rfl<;>(try simp only)<;>omega
     have EE:=hide (hS.ext' EE.out jv);have bh:cm yC ru (ao u2) (ai u2) (ah u2) (aj u2) (ap u2) (ao m2) (ai m2) (ah m2) (aj m2) (ap m2):=ae.ep 7 (List.mem_range.2 (show 7<10 by decide)) 0 rfl;have bl:cm yC rv (ao u1) (ai u1) (ah u1) (aj u1) (ap u1) (ao m1) (ai m1) (ah m1) (aj m1) (ap m1):=ae.ep 9 (List.mem_range.2 (show 9<10 by decide)) 1 rfl;clear ae hS;simp only[nV,qf,ptrTo,Nat.zero_add,Nat.reduceAdd];go_upto_region 8 with fail
     have hV:=ct bh;have k_:=ct bl;go_upto_region 9 with (go_at_call 89;(with_reducible refine(pz.out _).mono ?_);rintro e cN ⟨rfl,ad⟩;clear hV k_;have ak:=ak.ext ad;have aq:=aq.ext ad;have ag:=ag.ext ad;have bh:=bh.ext ad;have bl:=bl.ext ad;have EE:=hide (EE.out.trans ad);clear ad;have hV:=ct bh;have k_:=ct bl)
     clear hV k_;have bz:=e1 cN (u) (m);have nx:=ak.lt;have ny:=aq.lt;have gb:=ag.lt;have iq:=bh.lt;have k6:=bl.lt;have ad:=((aA cN (u)).trans (aA _ (m)));have ak:=ak.ext ad;have aq:=aq.ext ad;have ag:=ag.ext ad;have bh:=bh.ext ad;have bl:=bl.ext ad;have EE:=hide (EE.out.trans ad);clear ad;obtain⟨AV,aK⟩:∃ W,W=((cN.alloc (u)).alloc (m)):=⟨_,rfl⟩;rw[<-aK] at bz EE ak aq ag bh bl |-;obtain⟨g11,af⟩:∃ g,cN.heap.size=g:=⟨_,rfl⟩;rw[af] at bz nx ny gb iq k6 |-;obtain⟨aJ,bx⟩:Box AV g11 (ao u) (ai u) (ah u) (aj u) (ap u)/\Box AV (g11+1) (ao m) (ai m) (ah m) (aj m) (ap m):=bz;clear aK af;have Uq:g0≠g11:=by omega
     have Ur:g0≠g11+1:=by omega
     have Ut:g0+1≠g11:=by omega
     have Uu:g0+1≠g11+1:=by omega
     have Uw:g0+1+1≠g11:=by omega
     have Ux:g0+1+1≠g11+1:=by omega
     have UA:ru≠g11:=by omega
     have UB:ru≠g11+1:=by omega
     have arI:rv≠g11:=by omega
     have arJ:rv≠g11+1:=by omega
     have BD:=ak.lt;have Ha:=aq.lt;have vO:=ag.lt;have zC:=bh.lt;have BF:=bl.lt;have BG:=aJ.lt;have BH:=bx.lt;have nz:∀ c,Tag.so c∈[.q,.q,.q,.q,.so 0,.q]->(fun _=>g0+1+1) c<AV.heap.size:=by intro c hc;simp at hc;(try subst hc);(try simp only);omega
     refine rV [.q,.q,.q,.q,.so 0,.q] [u,n,m,.agg #[ao n,ai n,ah n,aj n,ap n,ao m,ai m,ah m,aj m,ap m],l,.bool true] (fun _=>(.cells #[false,(),(),(),()] 27 (0,0))) (fun _=>(.cells #[ao n,ai n,ah n,aj n,ap n,ao m,ai m,ah m,aj m,ap m] 29 (0,0))) (fun _=>g0+1+1) (by kernel_rfl) (by kernel_rfl) (by kernel_rfl) rfl rfl nz (by intro c c' h1 h2 _;simp at h1 h2;omega) ?_ ?_
     ·refine⟨?_,?_,?_,?_,?_,?_,trivial⟩
      ·refine eJ ?O7 ?KN ?KY ?acW;case KN=>exact rfl
       case O7=>exact(↑u)
       case KY=>exact rfl
       intro w' bj;have aJ:=aJ.same bj (by intro c hc;simp at hc;(try subst hc);(try simp only);omega);have ato:=av aJ;go_simp
      ·refine eJ ?O8 ?KO ?KZ ?acX;case KO=>exact rfl
       case O8=>exact(↑n)
       case KZ=>exact rfl
       intro w' bj;go_simp;exact zr.out w'
      ·refine eJ ?O9 ?KP ?K0 ?acY;case KP=>exact rfl
       case O9=>exact(↑m)
       case K0=>exact rfl
       intro w' bj;have bx:=bx.same bj (by intro c hc;simp at hc;(try subst hc);(try simp only);omega);have atp:=av bx;go_simp
      ·refine eJ ?O_ ?KQ ?K1 ?acZ;case KQ=>exact rfl
       case O_=>exact(.agg #[ao n,ai n,ah n,aj n,ap n,ao m,ai m,ah m,aj m,ap m])
       case K1=>exact rfl
       intro w' bj;go_simp
      ·refine qc (c:=0) (T:=?ast) (p:=?asE) (x:=?asP) ?al9 ?alY ?O' ?KR ?K2 ?Sx ?ac6 ?adh ?adu ?apb;case KR=>exact rfl
       case K2=>exact rfl
       case alY=>exact(.cells #[ao n,ai n,ah n,aj n,ap n,ao m,ai m,ah m,aj m,ap m] 29 (0,0))
       case al9=>exact g0+1+1
       case O'=>exact(.agg #[ao n,ai n,ah n,aj n,ap n,ao m,ai m,ah m,aj m,ap m])
       case Sx=>exact rfl
       case ac6=>exact rfl
       case adh=>go_simp;rfl
       case adu=>go_simp
       intro ρ w' hp hx hz;exact BZ rfl hp hx (hz.trans ag)
      ·refine eJ ?Pb ?KS ?K3 ?ac0;case KS=>exact rfl
       case Pb=>exact(.bool true)
       case K3=>exact rfl
       intro w' bj;go_simp
     ·intro G Jj ae;have hS:=ae.same;have ak:=ak.same hS (by intro c hc;simp at hc;(try subst hc);(try simp only);omega);have aq:=aq.same hS (by intro c hc;simp at hc;(try subst hc);(try simp only);omega);have bh:=bh.same hS (by intro c hc;simp at hc;(try subst hc);(try simp only);omega);have bl:=bl.same hS (by intro c hc;simp at hc;(try subst hc);(try simp only);omega);have aJ:=aJ.same hS (by intro c hc;simp at hc;(try subst hc);(try simp only);omega);have bx:=bx.same hS (by intro c hc;simp at hc;(try subst hc);(try simp only);omega);have jv:∀ c,Tag.so c∈[.q,.q,.q,.q,.so 0,.q]->w.heap.size<=(fun _=>g0+1+1) c:=by intro c hc;simp at hc;(try subst hc);(try simp only);omega
      have EE:=hide (hS.ext' EE.out jv);have ag:cm Jj (g0+1+1) (ao n) (ai n) (ah n) (aj n) (ap n) (ao m) (ai m) (ah m) (aj m) (ap m):=ae.ep 4 (List.mem_range.2 (show 4<6 by decide)) 0 rfl;clear ae hS;simp only[nV,qf,ptrTo,Nat.zero_add,Nat.reduceAdd];go_wp2_with fail
      obtain⟨fz,fA,fB,fC,fD,fE,fF,fG,fH,fI,hg,hj,hk,ho,hq,hr,ht,hv,hB,hD⟩:=cv ag;exact B7 (v:=.tuple #[.agg #[ao n,ai n,ah n,aj n,ap n,ao m,ai m,ah m,aj m,ap m],.bool true]) (by simp[results,Tryz.results71,go_sem,fz,fA,fB,fC,fD,fE,fF,fG,fH,fI]) rfl ⟨rfl,EE.out⟩
  ·obtain⟨jM,em⟩:=gg.unique h1.1 h2.1 B (gg.zero (by omega) (by omega));subst jM em;obtain⟨i,hi,i1,i2,_⟩:=HR aW;have j5:0<=i:=by
    rcases Int.lt_or_le i 0 with h|h;· exact absurd (i1.1 h) aO
    ·exact h
   obtain⟨j,aN,cW,cL,_⟩:=HR aC;have rA:j<=0:=by
    rcases Int.lt_or_le 0 j with h|h;· exact absurd (cL.1 h) hp
    ·exact h
   have mR:Hid (∀ w,E C 52 #[aC] w (aP (.int .i64 j) w)):=fun w=>w_ h1.fn aN w
   have rJ:Hid (∀ w,E C 52 #[aW] w (aP (.int .i64 i) w)):=fun w=>w_ h2.fn hi w
   have qJ:Hid (∀ w,E C 37 #[.int .i64 0] w (aP (.agg #[ao 0,ai 0,ah 0,aj 0,ap 0,ao 1,ai 1,ah 1,aj 1,ap 1]) w)):=fun w=>Lp (by omega) (by omega) w
   clear h1 h2 hle B hp aO hi i1 i2 aN cW cL;obtain⟨bU,dE⟩:=eo ((((w.alloc (.cells #[ao aC,ai aC,ah aC,aj aC,ap aC,ao m1,ai m1,ah m1,aj m1,ap m1] 29)).alloc (.cells #[ao aW,ai aW,ah aW,aj aW,ap aW,ao m2,ai m2,ah m2,aj m2,ap m2] 29)).alloc (.cells #[false,(),(),(),(),false,(),(),(),()] 29)));have bz:=kF w (.cells #[ao aC,ai aC,ah aC,aj aC,ap aC,ao m1,ai m1,ah m1,aj m1,ap m1] 29) (.cells #[ao aW,ai aW,ah aW,aj aW,ap aW,ao m2,ai m2,ah m2,aj m2,ap m2] 29) (.cells #[false,(),(),(),(),false,(),(),(),()] 29);have fe:Ext w bU:=by rw[dE];exact(((aA _ _).trans (aA _ _)).trans (aA _ _))
   rw[<-dE] at bz;have EE:=hide fe;have aB:=hide dE;obtain⟨ak,aq,ag⟩:cm bU (w.heap.size) (ao aC) (ai aC) (ah aC) (aj aC) (ap aC) (ao m1) (ai m1) (ah m1) (aj m1) (ap m1)/\cm bU ((w.heap.size+1)) (ao aW) (ai aW) (ah aW) (aj aW) (ap aW) (ao m2) (ai m2) (ah m2) (aj m2) (ap m2)/\cm bU ((w.heap.size+1+1)) false 0 0 0 0 false 0 0 0 0:=bz;clear dE fe;go_enter Tryz.func71,Tryz.ntmps71
   go_upto_region 1 with fail
   rw[<-aB.out];clear aB;have ga:w.heap.size<=w.heap.size:=Nat.le_refl _;obtain⟨g0,af⟩:∃ g,w.heap.size=g:=⟨_,rfl⟩;rw[af] at ak aq ag |-;replace ga:w.heap.size<=g0:=Nat.le_of_eq af;clear af;have cA:=ct ak;have cB:=ct aq;go_upto_region 3 with (first
    | (go_at_call 20;(with_reducible refine(zt.out _).mono ?_);rintro e aT ⟨rfl,ad⟩;clear cA cB;have ak:=ak.ext ad;have aq:=aq.ext ad;have ag:=ag.ext ad;have EE:=hide (EE.out.trans ad);clear ad;have cA:=ct ak;have cB:=ct aq)
    | (go_at_call 20;(with_reducible refine(zu.out _).mono ?_);rintro e bp ⟨rfl,ad⟩;clear cA cB;have ak:=ak.ext ad;have aq:=aq.ext ad;have ag:=ag.ext ad;have EE:=hide (EE.out.trans ad);clear ad;have cA:=ct ak;have cB:=ct aq)
    | (go_at_call 70;(with_reducible refine(rI.out _).mono ?_);rintro e w3 ⟨rfl,ad⟩;clear cA cB;have ak:=ak.ext ad;have aq:=aq.ext ad;have ag:=ag.ext ad;have EE:=hide (EE.out.trans ad);clear ad;have cA:=ct ak;have cB:=ct aq))
   clear cA cB;have cA:=ct ak;have cB:=ct aq;go_upto_region 4 with (first
    | (go_at_call 52;(with_reducible refine(mR.out _).mono ?_);rintro e bZ ⟨rfl,ad⟩;clear cA cB;have ak:=ak.ext ad;have aq:=aq.ext ad;have ag:=ag.ext ad;have EE:=hide (EE.out.trans ad);clear ad;have cA:=ct ak;have cB:=ct aq)
    | (go_at_call 52;(with_reducible refine(rJ.out _).mono ?_);rintro e bm ⟨rfl,ad⟩;clear cA cB;have ak:=ak.ext ad;have aq:=aq.ext ad;have ag:=ag.ext ad;have EE:=hide (EE.out.trans ad);clear ad;have cA:=ct ak;have cB:=ct aq))
   clear cA cB;obtain⟨fz,fA,fB,fC,fD,fE,fF,fG,fH,fI,hg,hj,hk,ho,hq,hr,ht,hv,hB,hD⟩:=cv ag;go_wp2_with (first
    | (go_at_call 37;(with_reducible refine(qJ.out _).mono ?_);rintro e cg ⟨rfl,ad⟩;clear fz fA fB fC fD fE fF fG fH fI hg hj hk ho hq hr ht hv hB hD;have ak:=ak.ext ad;have aq:=aq.ext ad;have ag:=ag.ext ad;have EE:=hide (EE.out.trans ad);clear ad;obtain⟨fz,fA,fB,fC,fD,fE,fF,fG,fH,fI,hg,hj,hk,ho,hq,hr,ht,hv,hB,hD⟩:=cv ag))
   exact B7 (v:=.tuple #[.agg #[ao 0,ai 0,ah 0,aj 0,ap 0,ao 1,ai 1,ah 1,aj 1,ap 1],.bool true]) (by simp[results,Tryz.results71,go_sem,fz,fA,fB,fC,fD,fE,fF,fG,fH,fI]) rfl ⟨rfl,kY EE.out (by omega) _ _ _ _ _ _ _ _ _ _⟩
end
section
open Go Go.RowKit Go.Sort
theorem JH{r s:Fr}{k:Int}(h:f_ (r.1*s.2) (s.1*r.2)=k):decide (k<=0)=decide (jQ r s):=by
 have:=uT h;unfold jQ;by_cases hl:r.1*s.2<=s.1*r.2
 ·rw[decide_eq_true hl,decide_eq_true (by omega)]
 ·rw[decide_eq_false hl,decide_eq_false (by omega)]
theorem EU:Ja 69:=fun c hc w=>by
 cases c with
 | op=>exact zR true dq dq rfl rfl w true false false 0 (fun _ w=>RZ true RC.zero RC.zero w) (fun h=>by cases h) (fun h=>by cases h) (fun h=>by cases h) true rfl
 | dU a b =>
  obtain⟨r,aD⟩:=aM (f_ (a.1*b.2) (b.1*a.2));exact zR false (cJ a) (cJ b) rfl rfl w true true true r (fun h=>by cases h) (fun _ w=>y_ hc.1 w) (fun _ w=>y_ hc.2.1 w) (fun _ _ _ w=>DI hc.1 hc.2.1 aD w) true (by rw[JH aD,decide_eq_true hc.2.2];rfl)
theorem Vj:I8 31:=fun c hc=>by
 cases c with
 | op=>exact⟨(0,1),rfl,fun w=>Vu true dq dq (cJ (0,1)) dq rfl rfl rfl (gP _).one rfl lL w true false (fun w=>EU .op trivial w) (fun _ _ w=>Lp (by omega) (by omega) w) (fun _ h=>by cases h)⟩
 | dU a b =>
  obtain⟨n,m,B⟩:=CH hc.1.1 hc.2.1.1 hc.2.2;exact⟨(n,m),B,fun w=>Vu false (cJ a) (cJ b) dq (cJ (n,m)) rfl rfl rfl lL rfl (gP _).one w true true (fun w=>EU (.dU a b) hc w) (fun _ h=>by cases h) (fun _ _ w=>ajv hc.1 hc.2.1 hc.2.2 B w)⟩
theorem rq{r s:Fr}{k:Int}(h:f_ (r.1*s.2) (s.1*r.2)=k):(0<k↔¬ jQ r s)/\(k<0↔¬ jQ s r):=by
 have:=uT h;unfold jQ;constructor<;>constructor<;>intro q<;>omega
theorem ajN:I9 30:=fun a b ha hb w=>by
 have hN:=fun w=>EU a ha w
 have eM:=fun w=>EU b hb w
 cases a with
 | op =>
  cases b with
  | op=>exact HF true true dq dq dq dq rfl rfl rfl rfl lL lL lL lL w true true 0 0 0 hN (fun _=>eM) (fun _ _ h=>by cases h) (fun _ _ h=>by cases h) (fun _ _ h=>by cases h)
  | dU lb iy=>exact HF true false dq dq (cJ lb) (cJ iy) rfl rfl rfl rfl lL lL (gP _).one (gP _).one w true true 0 0 0 hN (fun _=>eM) (fun _ _ h=>by cases h) (fun _ _ h=>by cases h) (fun _ _ h=>by cases h)
 | dU b9 jq =>
  cases b with
  | op=>exact HF false true (cJ b9) (cJ jq) dq dq rfl rfl rfl rfl (gP _).one (gP _).one lL lL w true true 0 0 0 hN (fun _=>eM) (fun _ _ _ h=>by cases h) (fun _ _ _ h=>by cases h) (fun _ _ _ h=>by cases h)
  | dU lb iy =>
   obtain⟨az,h1⟩:∃ r,f_ (lb.1*b9.2) (b9.1*lb.2)=r:=⟨_,rfl⟩;obtain⟨aU,h2⟩:∃ r,f_ (iy.1*jq.2) (jq.1*iy.2)=r:=⟨_,rfl⟩;have bk:(if 0<az then cJ lb else cJ b9)=cJ (p_ b9 lb):=by
    unfold p_;by_cases p:jQ lb b9
    ·rw[if_pos p,if_neg (fun q=>(rq h1).1.1 q p)]
    ·rw[if_neg p,if_pos ((rq h1).1.2 p)]
   have e2:(if aU<0 then cJ iy else cJ jq)=cJ (qa jq iy):=by
    unfold qa;by_cases p:jQ jq iy
    ·rw[if_pos p,if_neg (fun q=>(rq h2).2.1 q p)]
    ·rw[if_neg p,if_pos ((rq h2).2.2 p)]
   obtain⟨a_,h3⟩:∃ r,f_ ((p_ b9 lb).1*(qa jq iy).2) ((qa jq iy).1*(p_ b9 lb).2)=r:=⟨_,rfl⟩;have hm:=M4 ha.1 hb.1;have hn:=M5 ha.2.1 hb.2.1;have:=HF false false (cJ b9) (cJ jq) (cJ lb) (cJ iy) rfl rfl rfl rfl (gP _).one (gP _).one (gP _).one (gP _).one w true true az aU a_ hN (fun _=>eM) (fun _ _ _ _ w=>DI hb.1 ha.1 h1 w) (fun _ _ _ _ w=>DI hb.2.1 ha.2.1 h2 w) (fun _ _ _ _ w=>by rw[bk,e2];exact DI hm hn h3 w);have em:xF true true false false (cJ b9) (cJ jq) (cJ lb) (cJ iy) az aU a_=(xH (kB (.dU b9 jq) (.dU lb iy)),(kB (.dU b9 jq) (.dU lb iy)).isSome):=by
    unfold xF;rw[bk,e2];simp only[kB];by_cases p:jQ (p_ b9 lb) (qa jq iy)
    ·rw[if_pos p];have:¬ 0<a_:=fun q=>(rq h3).1.1 q p
     simp[this,xH,e4]
    ·rw[if_neg p];have:0<a_:=(rq h3).1.2 p;simp[this,xH]
   rw[em] at this
   exact this
theorem VN(s:Bool)(a b c e:Int)(t:Bool)(f g h i:Int):((#[.bool s,.int .u64 a,.int .u64 b,.int .u64 c,.int .u64 e,.bool t,.int .u64 f,.int .u64 g,.int .u64 h,.int .u64 i]:Array A)=dq)↔(ii s false a b c e 0 0 0 0&&ii t false f g h i 0 0 0 0)=true:=by
 simp[dq,ii,and_assoc]
theorem aa8{L H:Array A}(br:RC L)(dh:RC H)(v:Bool)(aF:(L=dq/\H=dq)↔v=true)(w:D):(binOp .eql 31 (.agg (bT true L H)) (.agg c9)).run C w=.ok (.bool v) w:=by
 obtain⟨s,a,b,c,e,t,f,g,h,i,rfl⟩:=br;obtain⟨s',a',b',c',e',t',f',g',h',l4,rfl⟩:=dh;have hS:Tryz.prog.underlying 31=some (.struct (Tryz.prog.fieldsOf 31)):=by kernel_rfl
 have hp:Tryz.prog.stoodInHeld 31=false:=by kernel_rfl
 have u4:=Tryz.underlying4;have z25:=Tryz.sizeOf29;have h5:=RY;rw[run_eql_struct,show (10000:Nat)=9999+1 from rfl,run_equalIn_agg w 9999 31 _ _ hS hp];simp only[Program.fieldsOf,Tryz.underlying31,c9];simp[Op.eqFields,part,isAgg,axf u4,run_equalIn_bool',u4,h5,z25,bT];rw[VN,VN] at aF;revert aF
 generalize ii s false a b c e 0 0 0 0=p;generalize ii t false f g h i 0 0 0 0=q;generalize ii s' false a' b' c' e' 0 0 0 0=r;generalize ii t' false f' g' h' l4 0 0 0 0=u;intro aF;cases p<;>cases q<;>cases r<;>cases u<;>cases v<;>simp at aF |-
def Ar(S:Array A):Prop:=∃ (s:Bool) (a b c d:Nat) (t:Bool) (e f g h:Nat) (n m:Int),S=#[.bool s,.int .u64 (a:Int),.int .u64 (b:Int),.int .u64 (c:Int),.int .u64 (d:Int),.bool t,.int .u64 (e:Int),.int .u64 (f:Int),.int .u64 (g:Int),.int .u64 (h:Int)]/\dg s a b c d n/\dg t e f g h m/\¬ o3 s n t m
def FT(S:Array A):Prop:=∃ f,okF f/\S=cJ f
def wM(S:Array A):Prop:=FT S\/Ar S
theorem aj5{s:Bool}{a b c d:Nat}{t:Bool}{e f g h:Nat}{n m:Int}(hx:dg s a b c d n)(hy:dg t e f g h m):wM #[.bool s,.int .u64 (a:Int),.int .u64 (b:Int),.int .u64 (c:Int),.int .u64 (d:Int),.bool t,.int .u64 (e:Int),.int .u64 (f:Int),.int .u64 (g:Int),.int .u64 (h:Int)]:=by
 by_cases aD:o3 s n t m
 ·obtain⟨g1,g2,hF⟩:=aD;obtain⟨rfl,rfl,rfl,rfl,rfl⟩:=sT ⟨hx,g1⟩;obtain⟨rfl,rfl,rfl,rfl,rfl⟩:=sT ⟨hy,g2⟩;exact Or.inl ⟨(n,m),hF,rfl⟩
 ·exact Or.inr ⟨_,_,_,_,_,_,_,_,_,_,n,m,rfl,hx,hy,aD⟩
theorem wM.rc{S:Array A}(h:wM S):RC S:=by
 rcases h with ⟨f,_,rfl⟩|⟨s,a,b,c,d,t,e,f,g,h,n,m,rfl,_⟩
 ·exact gP f
 ·exact⟨_,_,_,_,_,_,_,_,_,_,rfl⟩
def Ir(X:Array A):Prop:=∃ o L H,X=bT o L H/\wM L/\wM H/\((o=true/\¬ (L=dq/\H=dq))\/(o=false/\(Ar L\/(FT L/\Ar H)\/∃ f g,okF f/\okF g/\L=cJ f/\H=cJ g/\¬ jQ f g)))
def QP(X:Array A):Prop:=∃ c,nU c/\X=e4 c
def sh(X:Array A):Prop:=QP X\/Ir X
theorem aj2(o:Bool){L H:Array A}(br:wM L)(dh:wM H):sh (bT o L H):=by
 cases o with
 | true =>
  by_cases h:L=dq/\H=dq
  ·obtain⟨rfl,rfl⟩:=h;exact Or.inl ⟨.op,trivial,rfl⟩
  ·exact Or.inr ⟨true,L,H,rfl,br,dh,Or.inl ⟨rfl,h⟩⟩
 | false =>
  have bad:(Ar L\/(FT L/\Ar H)\/∃ f g,okF f/\okF g/\L=cJ f/\H=cJ g/\¬ jQ f g)->sh (bT false L H):=fun h=>Or.inr ⟨false,L,H,rfl,br,dh,Or.inr ⟨rfl,h⟩⟩
  rcases br with GV|GV
  ·rcases dh with y9|y9
   ·obtain⟨f,hf,rfl⟩:=GV;obtain⟨g,af,rfl⟩:=y9;by_cases h:jQ f g
    ·exact Or.inl ⟨.dU f g,⟨hf,af,h⟩,rfl⟩
    ·exact bad (Or.inr (Or.inr ⟨f,g,hf,af,rfl,rfl,h⟩))
   ·exact bad (Or.inr (Or.inl ⟨GV,y9⟩))
  ·exact bad (Or.inl GV)
theorem HC{S:Array A}(h:Ar S)(w:D):E C 20 #[.agg S] w (aP (.bool false) w):=by
 obtain⟨s,a,b,c,d,t,e,f,g,i,n,m,rfl,hx,hy,aD⟩:=h;exact HN s t a b c d e f g i n m w hx hy false (decide_eq_false aD)
theorem Vo{S:Array A}(h:FT S)(w:D):E C 20 #[.agg S] w (aP (.bool true) w):=by
 obtain⟨f,hf,rfl⟩:=h;exact y_ hf w
theorem ajY{X:Array A}(h:Ir X)(w:D):E C 69 #[.agg X] w (aP (.bool false) w):=by
 obtain⟨o,L,H,rfl,br,dh,hb⟩:=h;have rP:=br.rc.size;have td:=dh.rc.size;rcases hb with ⟨rfl,hb⟩|⟨rfl,hb⟩
 ·exact zR true L H rP td w false false false 0 (fun _ w=>aa8 br.rc dh.rc false (by simp[hb]) w) (fun h=>by cases h) (fun h=>by cases h) (fun h=>by cases h) false rfl
 ·rcases hb with hb|⟨aL,hb⟩|⟨f,g,hf,af,rfl,rfl,hl⟩
  ·rcases dh with y9|y9
   ·exact zR false L H rP td w false false true 0 (fun h=>by cases h) (fun _ w=>HC hb w) (fun _ w=>Vo y9 w) (fun _ h=>by cases h) false rfl
   ·exact zR false L H rP td w false false false 0 (fun h=>by cases h) (fun _ w=>HC hb w) (fun _ w=>HC y9 w) (fun _ h=>by cases h) false rfl
  ·exact zR false L H rP td w false true false 0 (fun h=>by cases h) (fun _ w=>Vo aL w) (fun _ w=>HC hb w) (fun _ _ h=>by cases h) false rfl
  ·obtain⟨r,aD⟩:=aM (f_ (f.1*g.2) (g.1*f.2));exact zR false (cJ f) (cJ g) rfl rfl w false true true r (fun h=>by cases h) (fun _ w=>y_ hf w) (fun _ w=>y_ af w) (fun _ _ _ w=>DI hf af aD w) false (by rw[JH aD,decide_eq_false hl];rfl)
def QW(f:Nat):Prop:=∀ X,Ir X->∀ w,E C f #[.agg X] w (aP (.bool false) w)
theorem ajZ:QW 69:=fun _ h w=>ajY h w
def dC(z:Int):Array A:=#[.bool (ao z),.int .u64 (ai z:Int),.int .u64 (ah z:Int),.int .u64 (aj z:Int),.int .u64 (ap z:Int)]
theorem nF(z:Int):(dC z).all (·.oneCell')=true:=by unfold dC;kernel_rfl
theorem H6(z:Int):(dC z).setIfInBounds 0 (.bool false)=dC (z.natAbs:Int):=by
 have e:ao ((z.natAbs:Nat):Int)=false:=decide_eq_false (by omega);unfold dC;rw[e];rfl
theorem af0:dV=dC 73786976294838206464:=by kernel_rfl
def pV(base eps:Int)(dt:Nat):Prop:=base.natAbs<73786976294838206464/\0<=eps/\eps<=4611686018427387904/\0<dt
instance (base eps:Int) (dt:Nat):Decidable (pV base eps dt):=by unfold pV;infer_instance
def rR(base v eps:Int)(dt:Nat):Array A:=if pV base eps dt then e4 (B1 base v eps dt) else z21
def I_(f:Nat):Prop:=∀ (base v eps:Int) (dt:Nat),b4 base->-9223372036854775808<=v->v<=9223372036854775807->-9223372036854775808<=eps->eps<=9223372036854775807->dt<18446744073709551616->∀ w,E C f #[.agg (dC base),.int .i64 v,.int .i64 eps,.int .u64 (dt:Int)] w (aP (.tuple #[.agg (rR base v eps dt),.bool (decide (pV base eps dt))]) w)
theorem Vv{n d:Int}(h:okF (pG n d)):M6 n d=true:=decide_eq_true ⟨h.2.1,h.2.2.1⟩
theorem Ua{n d:Int}(hn:b4 n)(hd:b4 d)(h0:d≠0)(h:okF (pG n d))(w:D):E C 57 #[.agg (dC n),.agg (dC d)] w (aP (.tuple #[.agg (cJ (pG n d)),true]) w):=adO hn hd h0 (Vv h) rfl rfl w
theorem ajW:I_ 22:=fun base v eps dt hb v1 v2 bk e2 hd w=>by
 have ha:b4 (base.natAbs:Int):=hb;have br:b4 73786976294838206464:=by unfold b4;omega
 obtain⟨r,aD⟩:=aM (f_ (base.natAbs:Int) 73786976294838206464);have hl:=uT aD;have gR:∀ w,E C 28 #[.agg (dC (base.natAbs:Int)),.agg dV] w (aP (.int .i64 r) w):=fun w=>by rw[af0];exact JQ ha br aD w
 have kv:∀ w,E C 51 #[.agg (dC base)] w (aP (.bool true) w):=fun w=>ZV hb w
 by_cases g1:base.natAbs<73786976294838206464
 ·have iz:r<0:=by omega
  by_cases g2:0<=eps/\eps<=4611686018427387904
  ·have fl:∀ w,E C 35 #[.int .i64 eps] w (aP (.bool true) w):=fun w=>by
    have:=HI eps w;rwa [decide_eq_true g2.1,decide_eq_true g2.2] at this
   by_cases g3:0<dt
   ·have af:pV base eps dt:=⟨g1,g2.1,g2.2,g3⟩;have zk:=OJ (base:=base) (v:=v) (eps:=eps) (dt:=(dt:Int)) g1 v1 v2 g2.1 g2.2 (by omega) (by omega);have aF:b4 v:=by unfold b4;omega
    have he:b4 eps:=by unfold b4;omega
    have aO:b4 (v-base):=by unfold b4;omega
    have Bm:b4 (v-base-eps):=by unfold b4;omega
    have xm:b4 (v-base+eps):=by unfold b4;omega
    have qD:b4 (dt:Int):=by unfold b4;omega
    rw[show rR base v eps dt=e4 (B1 base v eps dt) from if_pos af,decide_eq_true af];exact aj6 (dC base) (dC (base.natAbs:Int)) (dC v) (dC (v-base)) (dC eps) (dC (v-base-eps)) (dC (v-base+eps)) (dC (dt:Int)) (cJ (pG (v-base-eps) dt)) (cJ (pG (v-base+eps) dt)) v eps dt r true true true true true w rfl (nF _) rfl (nF _) (ao base) rfl (H6 base) rfl (nF _) rfl (nF _) rfl (nF _) (gP _) (gP _) iz g3 hd
     (hide kv) (hide gR) (hide fl) (hide (fun w=>CV v1 v2 w)) (hide (fun w=>JS aF hb rfl aO w)) (hide (fun w=>CV bk e2 w)) (hide (fun w=>JS aO he rfl Bm w)) (hide (fun w=>JO aO he rfl xm w)) (hide (fun w=>ZU hd w)) (hide (fun w=>Ua Bm qD (by omega) zk.1 w)) (hide (fun w=>Ua xm qD (by omega) zk.2.1 w))
   ·have af:¬ pV base eps dt:=fun h=>g3 h.2.2.2
    rw[show rR base v eps dt=z21 from if_neg af,decide_eq_false af];obtain rfl:dt=0:=by omega
    exact aj9 (dC base) (dC (base.natAbs:Int)) v eps 0 r w rfl (nF _) rfl (nF _) (ao base) rfl (H6 base) (hide kv) (hide gR) iz (hide fl)
  ·have af:¬ pV base eps dt:=fun h=>g2 ⟨h.2.1,h.2.2.1⟩
   rw[show rR base v eps dt=z21 from if_neg af,decide_eq_false af];have fl:∀ w,E C 35 #[.int .i64 eps] w (aP (.bool false) w):=fun w=>by
    have:=HI eps w;rwa [<-Bool.decide_and,decide_eq_false g2] at this
   exact aj8 (dC base) (dC (base.natAbs:Int)) v eps dt r w rfl (nF _) rfl (nF _) (ao base) rfl (H6 base) (hide kv) (hide gR) iz (hide fl)
 ·have af:¬ pV base eps dt:=fun h=>g1 h.1
  rw[show rR base v eps dt=z21 from if_neg af,decide_eq_false af];exact aj7 (dC base) (dC (base.natAbs:Int)) v eps dt r w rfl (nF _) rfl (nF _) (ao base) rfl (H6 base) (hide kv) (hide gR) (by omega)
end
end Go.Proofs.YtojbopibfflnoaaGreat
