/- Contracts and plain facts; each states its conditions. -/
import Derived.Test.YtojbopibfflnoaaGreatPrY7
import Derived.Test.YtojbopibfflnoaaGreatPrY13
import Derived.Deep.LoopGhost
namespace Go.Proofs.YtojbopibfflnoaaGreat
open Go renaming World → w1, Value → Ax, Calls → AA, bodyPost_ret → B7, heap_setCell_other → axd, Ending → axa
open _root_.Go.Proofs.Tryz renaming prog → CW
set_option linter.unusedVariables false
set_option linter.unusedSimpArgs false
set_option maxHeartbeats 16000000
set_option maxRecDepth 100000
section
open Go Go.RowKit
def ux(x y:Int)(w:w1)(e:axa)(w':w1):Prop:=∃ (s:Bool) (a b c d:Nat) (t:Bool) (e' f g h:Nat) (o:Bool),e=.returned (.tuple #[.agg #[.bool s,a,b,c,d],.agg #[.bool t,e',f,g,h],.bool o]) /\
 o=decide (y≠0)/\cw s a b c d (if y=0 then 0 else x / y)/\cw t e' f g h (if y=0 then 0 else x%y)/\Ext w w'
theorem Es:cw false 0 0 0 0 0:=⟨⟨by omega,by omega,by omega,by omega,by simp[b0,val]⟩,by simp⟩
theorem RM{x y:Int}{w w':w1}(hy:y=0)(ad:Ext w w') :
 ux x y w (.returned (.tuple #[.agg #[false,(),(),(),()],.agg #[false,(),(),(),()],.bool false])) w':=
 ⟨false,0,0,0,0,false,0,0,0,0,false,rfl,by simp[hy],by rw[if_pos hy];exact Es,by rw[if_pos hy];exact Es,ad⟩
theorem A1{x y:Int}{w w':w1}{s t:Bool}{a b c d e f g h:Nat}(hy:y≠0)(h1:cw s a b c d (x / y))(h2:cw t e f g h (x%y))(ad:Ext w w') :
 ux x y w (.returned (.tuple #[.agg #[.bool s,a,b,c,d],.agg #[.bool t,e,f,g,h],.bool true])) w':=
 ⟨s,a,b,c,d,t,e,f,g,h,true,rfl,by simp[hy],by rw[if_neg hy];exact h1,by rw[if_neg hy];exact h2,ad⟩
theorem Gr(s t:Bool)(n m:Nat)(x y:Int)(hx:x=if s then -(n:Int) else n)(hy:y=if t then -(m:Int) else m)(hm:0<m) :
 ((s=false\/n%m=0)->x / y=(if (s != t) then -((n / m:Nat):Int) else ((n / m:Nat):Int))/\x%y=((n%m:Nat):Int)) /\
 (s=true/\n%m≠0->x / y=(if (s != t) then -((n / m+1:Nat):Int) else ((n / m+1:Nat):Int))/\x%y=((m-n%m:Nat):Int)):=by
 have e:=Nat.div_add_mod n m;have aD:=Nat.mod_lt n hm;have key:∀ (q r:Int),x=y*q+r->0<=r->r<m->x / y=q/\x%y=r:=by
  intro q r h1 h2 h3;have dy:y≠0:=by cases t<;>simp at hy<;>omega
  have ae7:(y.natAbs:Int)=m:=by cases t<;>simp at hy<;>omega
  have h4:=Int.emod_add_mul_ediv x y;have h5:=Int.emod_nonneg x dy;have h6:=Int.emod_lt x dy;rw[ae7] at h6;have h7:y*(x / y-q)=r-x%y:=by rw[Int.mul_sub];omega
  have h8:(x / y-q)=0:=by
   have h9:(y*(x / y-q)).natAbs<m:=by rw[h7];omega
   rw[Int.natAbs_mul,show y.natAbs=m by omega] at h9;have h10:(x / y-q).natAbs=0:=by
    rcases Nat.eq_zero_or_pos (x / y-q).natAbs with h|h
    ·exact h
    ·exfalso
     have:m*1<=m*(x / y-q).natAbs:=Nat.mul_le_mul_left _ h;omega
   omega
  rw[h8,Int.mul_zero] at h7;exact⟨by omega,by omega⟩
 generalize n / m=q at *;generalize n%m=r at *;have e':(n:Int)=m*q+r:=by rw[<-e];simp
 constructor
 ·intro h;refine key _ _ ?_ (by omega) (by omega);cases s<;>cases t<;>simp at hx hy h |-<;>subst hx<;>subst hy<;>rw[e']<;>(try subst h)<;>simp[Int.neg_mul,Int.mul_neg]
 ·rintro⟨h,h0⟩;refine key _ _ ?_ (by omega) (by omega);have e2:((m-r:Nat):Int)=(m:Int)-r:=by omega
  rw[e2];subst h;cases t<;>simp at hx hy |-<;>subst hx<;>subst hy<;>rw[e']<;>simp[Int.neg_mul,Int.mul_neg,Int.mul_add]<;>omega
theorem Dd(w:w1)(s t:Bool)(a b c d e f g h:Nat):∃ W,((((w.alloc (.cells #[.bool s,a,b,c,d] 27)).alloc (.cells #[.bool t,e,f,g,h] 27)).alloc (.cells #[false,(),(),(),()] 27)).alloc (.cells #[false,(),(),(),()] 27))=W /\
 Box W w.heap.size s a b c d/\Box W (w.heap.size+1) t e f g h/\Box W (w.heap.size+1+1) false 0 0 0 0/\Box W (w.heap.size+1+1+1) false 0 0 0 0/\Ext w W:=by
 have h:=Kp w (.cells #[.bool s,a,b,c,d] 27) (.cells #[.bool t,e,f,g,h] 27) (.cells #[false,(),(),(),()] 27) (.cells #[false,(),(),(),()] 27);exact⟨_,rfl,h.1,h.2.1,h.2.2.1,h.2.2.2,(((aA _ _).trans (aA _ _)).trans (aA _ _)).trans (aA _ _)⟩
theorem Box.xc{w:w1}{g b':Nat}{s:Bool}{a b c d:Nat}(k:Box w g s a b c d)(h:g≠b')(u0 u1 u2 u3:Ax):Box ((((w.setCell ⟨b',0,none⟩ u0).setCell ⟨b',1,none⟩ u1).setCell ⟨b',2,none⟩ u2).setCell ⟨b',3,none⟩ u3) g s a b c d:=by
 unfold Box at *;rw[axd _ _ _ _ (by simpa using h),axd _ _ _ _ (by simpa using h),axd _ _ _ _ (by simpa using h),axd _ _ _ _ (by first|(simp;done)|(simp[h];done))];exact k
theorem bw(w:w1){g b' i:Nat}{u0 u1 u2 u3 u4:Ax}(h:g≠b'):(((((w.setCell ⟨b',0,none⟩ u0).setCell ⟨b',1,none⟩ u1).setCell ⟨b',2,none⟩ u2).setCell ⟨b',3,none⟩ u3).setCell ⟨b',4,none⟩ u4).cell? ⟨g,i,none⟩=w.cell? ⟨g,i,none⟩:=by
 rw[World.cell?_setCell_other _ _ _ _ (by first|(simp;done)|(simp[h];done)),World.cell?_setCell_other _ _ _ _ (by first|(simp;done)|(simp[h];done)),World.cell?_setCell_other _ _ _ _ (by first|(simp;done)|(simp[h];done)),World.cell?_setCell_other _ _ _ _ (by first|(simp;done)|(simp[h];done)),World.cell?_setCell_other _ _ _ _ (by first|(simp;done)|(simp[h];done))]
theorem Vh(n m:Nat)(hm:0<m)(aD:n%m≠0)(hn:n<115792089237316195423570985008687907853269984665640564039457584007913129639936):n / m+1<115792089237316195423570985008687907853269984665640564039457584007913129639936:=by
 have h1:m≠1:=fun h=>by subst h;rw[Nat.mod_one] at aD;exact aD rfl
 have e:=Nat.div_add_mod n m;have h2:2*(n / m)<=m*(n / m):=Nat.mul_le_mul_right _ (by omega);omega
theorem aiT(s t:Bool)(a b c d e f g h:Nat)(x y:Int)(w:w1)(hy:dg t e f g h y)(dy:y=0) :
 AA CW 123 #[.agg #[.bool s,a,b,c,d],.agg #[.bool t,e,f,g,h]] w (ux x y w):=by
 obtain⟨W,aK,ay,au,aR,dZ,bC⟩:=Dd w s t a b c d e f g h;have aB:=hide aK;have Md:=A5 25 Tryz.underlying25 e f g h false (by rw[decide_eq_false_iff_not,hy.abs,dy];simp);have gB:=hide dy;clear aK hy dy;have fa:=av au;obtain⟨i0,i1,i2,i3,i4,dm,cW,cL,dn,dG⟩:=av aR;obtain⟨iA,bQ,bY,cX,ev,ai,ah,aj,ap,nT⟩:=av dZ;go_enter Tryz.func123,Tryz.ntmps123
 go_upto_region 1 with fail
 rw[aB.out];clear aB;go_wp2_with fail
 exact B7 (v:=.tuple #[.agg #[false,(),(),(),()],.agg #[false,(),(),(),()],.bool false]) (by simp[results,Tryz.results123,go_sem,i0,i1,i2,i3,i4,iA,bQ,bY,cX,ev]) rfl (RM gB.out (dr (dr bC (by omega) _ _ _ _ _) (by omega) _ _ _ _ _))
theorem aiV(t:Bool)(a b c d e f g h:Nat)(x y:Int)(w:w1)(hx:dg false a b c d x)(hy:dg t e f g h y)(dy:y≠0) :
 AA CW 123 #[.agg #[false,a,b,c,d],.agg #[.bool t,e,f,g,h]] w (ux x y w):=by
 obtain⟨W,aK,ay,au,aR,dZ,bC⟩:=Dd w false t a b c d e f g h;have aB:=hide aK;obtain⟨n,hn⟩:=aM x.natAbs;obtain⟨m,hm⟩:=aM y.natAbs;have gL:Hid (b0 a b c d=n):=by rw[<-hn];exact hx.abs
 have hY:Hid (b0 e f g h=m):=by rw[<-hm];exact hy.abs
 have k4:0<m:=by omega
 have bP:=hx.qi;have nG:=hy.qi;obtain⟨u,hu⟩:=aM (false != t);have xr:=BJ false t u hu;have qY:=hide (Gr false t n m x y (by have:=hx.2.2.2.2;rw[gL.out] at this;exact this) (by have:=hy.2.2.2.2;rw[hY.out] at this;exact this) k4);have Md:=A5 25 Tryz.underlying25 e f g h true (by rw[decide_eq_true_iff,hY.out];omega);have yn:=hide hu;clear aK hn hm hx hy hu;obtain⟨bt,az,aU,a_,bK,f0,f1,f2,f3,f4⟩:=av ay;obtain⟨d0,d1,d2,d3,d4,g0,g1,g2,g3,g4⟩:=av au;go_enter Tryz.func123,Tryz.ntmps123
 go_upto_region 1 with fail
 rw[aB.out];clear aB;go_upto_if 29 with (go_at_call 133;refine(NV a b c d e f g h n m gL.out hY.out _ bP nG k4).mono ?_;rintro e' w' ⟨a7,dD,b8,d7,a8,cE,bR,d8,rfl,b6,c8,aO,aD,ad⟩;have dQ:=hide aO;have bq:=hide aD;have cD:=ay.ext ad;have c5:=au.ext ad;have dz:=aR.ext ad;have eu:=dZ.ext ad;obtain⟨bt,az,aU,a_,bK,f0,f1,f2,f3,f4⟩:=av cD;obtain⟨d0,d1,d2,d3,d4,g0,g1,g2,g3,g4⟩:=av c5;have nY:=cD.lt;have y1:=c5.lt;have gK:=dz.lt;have mB:=eu.lt;have z0:w.heap.size<w'.heap.size+1:=(by omega);have fb:w.heap.size+1<w'.heap.size+1:=(by omega);have bS:=bC.trans ad;clear ad aO aD)
 have Cg:Hid ((if u then -((b0 a7 dD b8 d7:Nat):Int) else ((b0 a7 dD b8 d7:Nat):Int))=x / y):=by rw[dQ.out,<-yn.out];exact(qY.out.1 (Or.inl (by first|rfl|trivial))).1.symm
 have Ch:Hid (((b0 a8 cE bR d8:Nat):Int)=x%y):=by rw[bq.out];exact(qY.out.1 (Or.inl (by first|rfl|trivial))).2.symm
 have KK:=e1 w' (.cells #[a7,dD,b8,d7] 130) (.cells #[a8,cE,bR,d8] 130);have hX:=(aA w' (.cells #[a7,dD,b8,d7] 130)).trans (aA _ (.cells #[a8,cE,bR,d8] 130));go_cut [] (fun bP=>cn bP w'.heap.size 130 [a7,dD,b8,d7]/\cn bP (w'.heap.size+1) 130 [a8,cE,bR,d8]/\Box bP w.heap.size false a b c d/\Box bP (w.heap.size+1) t e f g h/\Box bP (w.heap.size+1+1) false 0 0 0 0/\Box bP (w.heap.size+1+1+1) false 0 0 0 0/\Ext w bP)
 case first =>
  go_wp2_with fail
  all_goals go_meet
  all_goals exact⟨KK.1,KK.2,cD.ext hX,c5.ext hX,dz.ext hX,eu.ext hX,bS.trans hX⟩
 case rest =>
  clear ay au aR dZ bC cD c5 dz eu bS;obtain⟨sd,sg,ay,au,aR,dZ,bC⟩:=hcut;obtain⟨bt,az,aU,a_,bK,f0,f1,f2,f3,f4⟩:=av ay;obtain⟨d0,d1,d2,d3,d4,g0,g1,g2,g3,g4⟩:=av au;obtain⟨m0,m1,m2,m3,_,_,_,_⟩:=sd.four;obtain⟨ke,b7,cr,cR,_,_,_,_⟩:=sg.four;go_wp2_with fail
  generalize w'.heap.size=eP at *;have mT:w.heap.size≠w.heap.size+1+1:=by omega
  have s4:w.heap.size≠w.heap.size+1+1+1:=by omega
  have mU:w.heap.size+1≠w.heap.size+1+1:=by omega
  have s5:w.heap.size+1≠w.heap.size+1+1+1:=by omega
  have gF:eP≠w.heap.size+1+1:=by omega
  have gG:eP≠w.heap.size+1+1+1:=by omega
  have gH:eP+1≠w.heap.size+1+1:=by omega
  have gI:eP+1≠w.heap.size+1+1+1:=by omega
  go_region_held3 (fun w'=>w'.cell? ⟨w.heap.size,0,none⟩=some (.bool false)/\w'.cell? ⟨w.heap.size+1,0,none⟩=some (.bool t)/\w'.cell? ⟨eP,0,none⟩=some (.int .u64 (a7:Int))/\w'.cell? ⟨eP,1,none⟩=some (.int .u64 (dD:Int))/\w'.cell? ⟨eP,2,none⟩=some (.int .u64 (b8:Int))/\w'.cell? ⟨eP,3,none⟩=some (.int .u64 (d7:Int))/\w'.cell? ⟨eP+1,0,none⟩=some (.int .u64 (a8:Int))/\w'.cell? ⟨eP+1,1,none⟩=some (.int .u64 (cE:Int))/\w'.cell? ⟨eP+1,2,none⟩=some (.int .u64 (bR:Int))/\w'.cell? ⟨eP+1,3,none⟩=some (.int .u64 (d8:Int))) (first|(with_reducible exact⟨bt,d0,m0,m1,m2,m3,ke,b7,cr,cR⟩)|(with_reducible exact⟨(bw _ mT).trans bt,(bw _ mU).trans d0,(bw _ gF).trans m0,(bw _ gF).trans m1,(bw _ gF).trans m2,(bw _ gF).trans m3,(bw _ gH).trans ke,(bw _ gH).trans b7,(bw _ gH).trans cr,(bw _ gH).trans cR⟩)|(with_reducible exact⟨(bw _ s4).trans bt,(bw _ s5).trans d0,(bw _ gG).trans m0,(bw _ gG).trans m1,(bw _ gG).trans m2,(bw _ gG).trans m3,(bw _ gI).trans ke,(bw _ gI).trans b7,(bw _ gI).trans cr,(bw _ gI).trans cR⟩)|(with_reducible exact⟨(bw _ s4).trans ((bw _ mT).trans bt),(bw _ s5).trans ((bw _ mU).trans d0),(bw _ gG).trans ((bw _ gF).trans m0),(bw _ gG).trans ((bw _ gF).trans m1),(bw _ gG).trans ((bw _ gF).trans m2),(bw _ gG).trans ((bw _ gF).trans m3),(bw _ gI).trans ((bw _ gH).trans ke),(bw _ gI).trans ((bw _ gH).trans b7),(bw _ gI).trans ((bw _ gH).trans cr),(bw _ gI).trans ((bw _ gH).trans cR)⟩)|(with_reducible exact⟨(bw _ mT).trans ((bw _ s4).trans bt),(bw _ mU).trans ((bw _ s5).trans d0),(bw _ gF).trans ((bw _ gG).trans m0),(bw _ gF).trans ((bw _ gG).trans m1),(bw _ gF).trans ((bw _ gG).trans m2),(bw _ gF).trans ((bw _ gG).trans m3),(bw _ gH).trans ((bw _ gI).trans ke),(bw _ gH).trans ((bw _ gI).trans b7),(bw _ gH).trans ((bw _ gI).trans cr),(bw _ gH).trans ((bw _ gI).trans cR)⟩)|go_keep) (first
   | (go_at_call_of 113 (Value.bool u);refine(qN u a7 dD b8 d7 _ (ez b6).1 (ez b6).2.1 (ez b6).2.2.1 (ez b6).2.2.2).mono ?_;rintro e' b6 ⟨s',a',b',c',d',rfl,hC,ad⟩;rw[Cg.out] at hC;have wN:Box b6 w.heap.size false a b c d:=(by first|exact wU.ext ad|exact ay.drew.ext ad);have wO:Box b6 (w.heap.size+1) t e f g h:=(by first|exact wV.ext ad|exact au.drew.ext ad);have wP:Box b6 (w.heap.size+1+1) false 0 0 0 0:=(by first|exact wW.ext ad|exact aR.drew.ext ad);have wQ:Box b6 (w.heap.size+1+1+1) false 0 0 0 0:=(by first|exact wX.ext ad|exact dZ.drew.ext ad);have wR:cn b6 eP 130 [a7,dD,b8,d7]:=(by first|exact wY.ext ad|exact sd.drew.ext ad);have wS:cn b6 (eP+1) 130 [a8,cE,bR,d8]:=(by first|exact wZ.ext ad|exact sg.drew.ext ad);have wT:Ext w b6:=(by first|exact w0.trans ad|exact(bC.trans (b5 _)).trans ad);have wz:=wT;obtain⟨bt,az,aU,a_,bK,f0,f1,f2,f3,f4⟩:=av wN;obtain⟨d0,d1,d2,d3,d4,g0,g1,g2,g3,g4⟩:=av wO;obtain⟨i0,i1,i2,i3,i4,dm,cW,cL,dn,dG⟩:=av wP;obtain⟨iA,bQ,bY,cX,ev,ai,ah,aj,ap,nT⟩:=av wQ;obtain⟨m0,m1,m2,m3,_,_,_,_⟩:=wR.four;obtain⟨ke,b7,cr,cR,_,_,_,_⟩:=wS.four;clear ad)
   | (go_at_call_of 113 (Value.bool false);refine(qN false a8 cE bR d8 _ (ez c8).1 (ez c8).2.1 (ez c8).2.2.1 (ez c8).2.2.2).mono ?_;rintro e' c8 ⟨s2,a2,bX,CK,CU,rfl,sD,ad⟩;simp only[Bool.false_eq_true,if_false] at sD;rw[Ch.out] at sD;have wU:Box c8 w.heap.size false a b c d:=(by first|exact wN.ext ad|exact ay.drew.ext ad);have wV:Box c8 (w.heap.size+1) t e f g h:=(by first|exact wO.ext ad|exact au.drew.ext ad);have wW:Box c8 (w.heap.size+1+1) false 0 0 0 0:=(by first|exact wP.ext ad|exact aR.drew.ext ad);have wX:Box c8 (w.heap.size+1+1+1) false 0 0 0 0:=(by first|exact wQ.ext ad|exact dZ.drew.ext ad);have wY:cn c8 eP 130 [a7,dD,b8,d7]:=(by first|exact wR.ext ad|exact sd.drew.ext ad);have wZ:cn c8 (eP+1) 130 [a8,cE,bR,d8]:=(by first|exact wS.ext ad|exact sg.drew.ext ad);have w0:Ext w c8:=(by first|exact wT.trans ad|exact(bC.trans (b5 _)).trans ad);have wz:=w0;obtain⟨bt,az,aU,a_,bK,f0,f1,f2,f3,f4⟩:=av wU;obtain⟨d0,d1,d2,d3,d4,g0,g1,g2,g3,g4⟩:=av wV;obtain⟨i0,i1,i2,i3,i4,dm,cW,cL,dn,dG⟩:=av wW;obtain⟨iA,bQ,bY,cX,ev,ai,ah,aj,ap,nT⟩:=av wX;obtain⟨m0,m1,m2,m3,_,_,_,_⟩:=wY.four;obtain⟨ke,b7,cr,cR,_,_,_,_⟩:=wZ.four;clear ad))
  all_goals go_wp2_with fail
  all_goals exact B7 (v:=.tuple #[.agg #[.bool s',a',b',c',d'],.agg #[.bool s2,a2,bX,CK,CU],.bool true]) (by simp[results,Tryz.results123,go_sem,i0,i1,i2,i3,i4,iA,bQ,bY,cX,ev]) rfl (A1 dy hC sD (dr (dr wz (by omega) _ _ _ _ _) (by omega) _ _ _ _ _))
theorem aiS(t:Bool)(a b c d e f g h:Nat)(x y:Int)(w:w1)(hx:dg true a b c d x)(hy:dg t e f g h y)(dy:y≠0)(hz:x.natAbs%y.natAbs=0) :
 AA CW 123 #[.agg #[true,a,b,c,d],.agg #[.bool t,e,f,g,h]] w (ux x y w):=by
 obtain⟨W,aK,ay,au,aR,dZ,bC⟩:=Dd w true t a b c d e f g h;have aB:=hide aK;have bf:=hz;clear hz;obtain⟨n,hn⟩:=aM x.natAbs;obtain⟨m,hm⟩:=aM y.natAbs;have gL:Hid (b0 a b c d=n):=by rw[<-hn];exact hx.abs
 have hY:Hid (b0 e f g h=m):=by rw[<-hm];exact hy.abs
 have k4:0<m:=by omega
 have bP:=hx.qi;have nG:=hy.qi;obtain⟨u,hu⟩:=aM (true != t);have xr:=BJ true t u hu;have qY:=hide (Gr true t n m x y (by have:=hx.2.2.2.2;rw[gL.out] at this;exact this) (by have:=hy.2.2.2.2;rw[hY.out] at this;exact this) k4);have Md:=A5 25 Tryz.underlying25 e f g h true (by rw[decide_eq_true_iff,hY.out];omega);have yn:=hide hu;rw[hn,hm] at bf;have wD:=hide bf;clear bf aK hn hm hx hy hu;obtain⟨bt,az,aU,a_,bK,f0,f1,f2,f3,f4⟩:=av ay;obtain⟨d0,d1,d2,d3,d4,g0,g1,g2,g3,g4⟩:=av au;go_enter Tryz.func123,Tryz.ntmps123
 go_upto_region 1 with fail
 rw[aB.out];clear aB;go_upto_if 29 with (go_at_call 133;refine(NV a b c d e f g h n m gL.out hY.out _ bP nG k4).mono ?_;rintro e' w' ⟨a7,dD,b8,d7,a8,cE,bR,d8,rfl,b6,c8,aO,aD,ad⟩;have dQ:=hide aO;have bq:=hide aD;have cD:=ay.ext ad;have c5:=au.ext ad;have dz:=aR.ext ad;have eu:=dZ.ext ad;obtain⟨bt,az,aU,a_,bK,f0,f1,f2,f3,f4⟩:=av cD;obtain⟨d0,d1,d2,d3,d4,g0,g1,g2,g3,g4⟩:=av c5;have nY:=cD.lt;have y1:=c5.lt;have gK:=dz.lt;have mB:=eu.lt;have z0:w.heap.size<w'.heap.size+1:=(by omega);have fb:w.heap.size+1<w'.heap.size+1:=(by omega);have bS:=bC.trans ad;clear ad aO aD;have D_:=Hl 130 Tryz.underlying130 a8 cE bR d8 false (by rw[decide_eq_false_iff_not,bq.out,wD.out];simp))
 have Cg:Hid ((if u then -((b0 a7 dD b8 d7:Nat):Int) else ((b0 a7 dD b8 d7:Nat):Int))=x / y):=by rw[dQ.out,<-yn.out];exact(qY.out.1 (Or.inr wD.out)).1.symm
 have Ch:Hid (((b0 a8 cE bR d8:Nat):Int)=x%y):=by rw[bq.out];exact(qY.out.1 (Or.inr wD.out)).2.symm
 have KK:=e1 w' (.cells #[a7,dD,b8,d7] 130) (.cells #[a8,cE,bR,d8] 130);have hX:=(aA w' (.cells #[a7,dD,b8,d7] 130)).trans (aA _ (.cells #[a8,cE,bR,d8] 130));go_cut [] (fun bP=>cn bP w'.heap.size 130 [a7,dD,b8,d7]/\cn bP (w'.heap.size+1) 130 [a8,cE,bR,d8]/\Box bP w.heap.size true a b c d/\Box bP (w.heap.size+1) t e f g h/\Box bP (w.heap.size+1+1) false 0 0 0 0/\Box bP (w.heap.size+1+1+1) false 0 0 0 0/\Ext w bP)
 case first =>
  go_wp2_with fail
  all_goals go_meet
  all_goals exact⟨KK.1,KK.2,cD.ext hX,c5.ext hX,dz.ext hX,eu.ext hX,bS.trans hX⟩
 case rest =>
  clear ay au aR dZ bC cD c5 dz eu bS;obtain⟨sd,sg,ay,au,aR,dZ,bC⟩:=hcut;obtain⟨bt,az,aU,a_,bK,f0,f1,f2,f3,f4⟩:=av ay;obtain⟨d0,d1,d2,d3,d4,g0,g1,g2,g3,g4⟩:=av au;obtain⟨m0,m1,m2,m3,_,_,_,_⟩:=sd.four;obtain⟨ke,b7,cr,cR,_,_,_,_⟩:=sg.four;go_wp2_with fail
  generalize w'.heap.size=eP at *;have mT:w.heap.size≠w.heap.size+1+1:=by omega
  have s4:w.heap.size≠w.heap.size+1+1+1:=by omega
  have mU:w.heap.size+1≠w.heap.size+1+1:=by omega
  have s5:w.heap.size+1≠w.heap.size+1+1+1:=by omega
  have gF:eP≠w.heap.size+1+1:=by omega
  have gG:eP≠w.heap.size+1+1+1:=by omega
  have gH:eP+1≠w.heap.size+1+1:=by omega
  have gI:eP+1≠w.heap.size+1+1+1:=by omega
  go_region_held3 (fun w'=>w'.cell? ⟨w.heap.size,0,none⟩=some (.bool true)/\w'.cell? ⟨w.heap.size+1,0,none⟩=some (.bool t)/\w'.cell? ⟨eP,0,none⟩=some (.int .u64 (a7:Int))/\w'.cell? ⟨eP,1,none⟩=some (.int .u64 (dD:Int))/\w'.cell? ⟨eP,2,none⟩=some (.int .u64 (b8:Int))/\w'.cell? ⟨eP,3,none⟩=some (.int .u64 (d7:Int))/\w'.cell? ⟨eP+1,0,none⟩=some (.int .u64 (a8:Int))/\w'.cell? ⟨eP+1,1,none⟩=some (.int .u64 (cE:Int))/\w'.cell? ⟨eP+1,2,none⟩=some (.int .u64 (bR:Int))/\w'.cell? ⟨eP+1,3,none⟩=some (.int .u64 (d8:Int))) (first|(with_reducible exact⟨bt,d0,m0,m1,m2,m3,ke,b7,cr,cR⟩)|(with_reducible exact⟨(bw _ mT).trans bt,(bw _ mU).trans d0,(bw _ gF).trans m0,(bw _ gF).trans m1,(bw _ gF).trans m2,(bw _ gF).trans m3,(bw _ gH).trans ke,(bw _ gH).trans b7,(bw _ gH).trans cr,(bw _ gH).trans cR⟩)|(with_reducible exact⟨(bw _ s4).trans bt,(bw _ s5).trans d0,(bw _ gG).trans m0,(bw _ gG).trans m1,(bw _ gG).trans m2,(bw _ gG).trans m3,(bw _ gI).trans ke,(bw _ gI).trans b7,(bw _ gI).trans cr,(bw _ gI).trans cR⟩)|(with_reducible exact⟨(bw _ s4).trans ((bw _ mT).trans bt),(bw _ s5).trans ((bw _ mU).trans d0),(bw _ gG).trans ((bw _ gF).trans m0),(bw _ gG).trans ((bw _ gF).trans m1),(bw _ gG).trans ((bw _ gF).trans m2),(bw _ gG).trans ((bw _ gF).trans m3),(bw _ gI).trans ((bw _ gH).trans ke),(bw _ gI).trans ((bw _ gH).trans b7),(bw _ gI).trans ((bw _ gH).trans cr),(bw _ gI).trans ((bw _ gH).trans cR)⟩)|(with_reducible exact⟨(bw _ mT).trans ((bw _ s4).trans bt),(bw _ mU).trans ((bw _ s5).trans d0),(bw _ gF).trans ((bw _ gG).trans m0),(bw _ gF).trans ((bw _ gG).trans m1),(bw _ gF).trans ((bw _ gG).trans m2),(bw _ gF).trans ((bw _ gG).trans m3),(bw _ gH).trans ((bw _ gI).trans ke),(bw _ gH).trans ((bw _ gI).trans b7),(bw _ gH).trans ((bw _ gI).trans cr),(bw _ gH).trans ((bw _ gI).trans cR)⟩)|go_keep) (first
   | (go_at_call_of 113 (Value.bool u);refine(qN u a7 dD b8 d7 _ (ez b6).1 (ez b6).2.1 (ez b6).2.2.1 (ez b6).2.2.2).mono ?_;rintro e' b6 ⟨s',a',b',c',d',rfl,hC,ad⟩;rw[Cg.out] at hC;have wN:Box b6 w.heap.size true a b c d:=(by first|exact wU.ext ad|exact ay.drew.ext ad);have wO:Box b6 (w.heap.size+1) t e f g h:=(by first|exact wV.ext ad|exact au.drew.ext ad);have wP:Box b6 (w.heap.size+1+1) false 0 0 0 0:=(by first|exact wW.ext ad|exact aR.drew.ext ad);have wQ:Box b6 (w.heap.size+1+1+1) false 0 0 0 0:=(by first|exact wX.ext ad|exact dZ.drew.ext ad);have wR:cn b6 eP 130 [a7,dD,b8,d7]:=(by first|exact wY.ext ad|exact sd.drew.ext ad);have wS:cn b6 (eP+1) 130 [a8,cE,bR,d8]:=(by first|exact wZ.ext ad|exact sg.drew.ext ad);have wT:Ext w b6:=(by first|exact w0.trans ad|exact(bC.trans (b5 _)).trans ad);have wz:=wT;obtain⟨bt,az,aU,a_,bK,f0,f1,f2,f3,f4⟩:=av wN;obtain⟨d0,d1,d2,d3,d4,g0,g1,g2,g3,g4⟩:=av wO;obtain⟨i0,i1,i2,i3,i4,dm,cW,cL,dn,dG⟩:=av wP;obtain⟨iA,bQ,bY,cX,ev,ai,ah,aj,ap,nT⟩:=av wQ;obtain⟨m0,m1,m2,m3,_,_,_,_⟩:=wR.four;obtain⟨ke,b7,cr,cR,_,_,_,_⟩:=wS.four;clear ad)
   | (go_at_call_of 113 (Value.bool false);refine(qN false a8 cE bR d8 _ (ez c8).1 (ez c8).2.1 (ez c8).2.2.1 (ez c8).2.2.2).mono ?_;rintro e' c8 ⟨s2,a2,bX,CK,CU,rfl,sD,ad⟩;simp only[Bool.false_eq_true,if_false] at sD;rw[Ch.out] at sD;have wU:Box c8 w.heap.size true a b c d:=(by first|exact wN.ext ad|exact ay.drew.ext ad);have wV:Box c8 (w.heap.size+1) t e f g h:=(by first|exact wO.ext ad|exact au.drew.ext ad);have wW:Box c8 (w.heap.size+1+1) false 0 0 0 0:=(by first|exact wP.ext ad|exact aR.drew.ext ad);have wX:Box c8 (w.heap.size+1+1+1) false 0 0 0 0:=(by first|exact wQ.ext ad|exact dZ.drew.ext ad);have wY:cn c8 eP 130 [a7,dD,b8,d7]:=(by first|exact wR.ext ad|exact sd.drew.ext ad);have wZ:cn c8 (eP+1) 130 [a8,cE,bR,d8]:=(by first|exact wS.ext ad|exact sg.drew.ext ad);have w0:Ext w c8:=(by first|exact wT.trans ad|exact(bC.trans (b5 _)).trans ad);have wz:=w0;obtain⟨bt,az,aU,a_,bK,f0,f1,f2,f3,f4⟩:=av wU;obtain⟨d0,d1,d2,d3,d4,g0,g1,g2,g3,g4⟩:=av wV;obtain⟨i0,i1,i2,i3,i4,dm,cW,cL,dn,dG⟩:=av wW;obtain⟨iA,bQ,bY,cX,ev,ai,ah,aj,ap,nT⟩:=av wX;obtain⟨m0,m1,m2,m3,_,_,_,_⟩:=wY.four;obtain⟨ke,b7,cr,cR,_,_,_,_⟩:=wZ.four;clear ad))
  all_goals go_wp2_with fail
  all_goals exact B7 (v:=.tuple #[.agg #[.bool s',a',b',c',d'],.agg #[.bool s2,a2,bX,CK,CU],.bool true]) (by simp[results,Tryz.results123,go_sem,i0,i1,i2,i3,i4,iA,bQ,bY,cX,ev]) rfl (A1 dy hC sD (dr (dr wz (by omega) _ _ _ _ _) (by omega) _ _ _ _ _))
theorem aiU(t:Bool)(a b c d e f g h:Nat)(x y:Int)(w:w1)(hx:dg true a b c d x)(hy:dg t e f g h y)(dy:y≠0)(hz:x.natAbs%y.natAbs≠0) :
 AA CW 123 #[.agg #[true,a,b,c,d],.agg #[.bool t,e,f,g,h]] w (ux x y w):=by
 obtain⟨W,aK,ay,au,aR,dZ,bC⟩:=Dd w true t a b c d e f g h;have aB:=hide aK;have bf:=hz;clear hz;obtain⟨n,hn⟩:=aM x.natAbs;obtain⟨m,hm⟩:=aM y.natAbs;have gL:Hid (b0 a b c d=n):=by rw[<-hn];exact hx.abs
 have hY:Hid (b0 e f g h=m):=by rw[<-hm];exact hy.abs
 have k4:0<m:=by omega
 have bP:=hx.qi;have nG:=hy.qi;obtain⟨u,hu⟩:=aM (true != t);have xr:=BJ true t u hu;have qY:=hide (Gr true t n m x y (by have:=hx.2.2.2.2;rw[gL.out] at this;exact this) (by have:=hy.2.2.2.2;rw[hY.out] at this;exact this) k4);have Md:=A5 25 Tryz.underlying25 e f g h true (by rw[decide_eq_true_iff,hY.out];omega);have yn:=hide hu;rw[hn,hm] at bf;have wD:=hide bf;clear bf aK hn hm hx hy hu;obtain⟨bt,az,aU,a_,bK,f0,f1,f2,f3,f4⟩:=av ay;obtain⟨d0,d1,d2,d3,d4,g0,g1,g2,g3,g4⟩:=av au;go_enter Tryz.func123,Tryz.ntmps123
 go_upto_region 1 with fail
 rw[aB.out];clear aB;go_upto_if 29 with (go_at_call 133;refine(NV a b c d e f g h n m gL.out hY.out _ bP nG k4).mono ?_;rintro e' w' ⟨a7,dD,b8,d7,a8,cE,bR,d8,rfl,b6,c8,aO,aD,ad⟩;have dQ:=hide aO;have bq:=hide aD;have cD:=ay.ext ad;have c5:=au.ext ad;have dz:=aR.ext ad;have eu:=dZ.ext ad;obtain⟨bt,az,aU,a_,bK,f0,f1,f2,f3,f4⟩:=av cD;obtain⟨d0,d1,d2,d3,d4,g0,g1,g2,g3,g4⟩:=av c5;have nY:=cD.lt;have y1:=c5.lt;have gK:=dz.lt;have mB:=eu.lt;have z0:w.heap.size<w'.heap.size+1:=(by omega);have fb:w.heap.size+1<w'.heap.size+1:=(by omega);have bS:=bC.trans ad;clear ad aO aD;have D_:=Hl 130 Tryz.underlying130 a8 cE bR d8 true (by rw[decide_eq_true_iff,bq.out];exact wD.out))
 have IJ:Hid (n%m<m):=Nat.mod_lt n k4;have W2:Hid ((n / m+1)%115792089237316195423570985008687907853269984665640564039457584007913129639936=n / m+1):=by
  refine Nat.mod_eq_of_lt ?_;have h1:=qM (ez bP).1 (ez bP).2.1 (ez bP).2.2.1 (ez bP).2.2.2;rw[gL.out] at h1;exact Vh n m k4 wD.out h1
 have W6:Hid (b0 1 0 0 0=1):=by simp[Hid,b0,val]
 have ans:cp [1,0,0,0]:=by intro x hx;simp at hx;omega
 have SH:=fun W=>NT a7 dD b8 d7 1 0 0 0 (n / m) 1 dQ.out W6.out W b6 ans
 have WX:=hide SH;clear SH;go_cut [] (fun bP=>∃ a9 ix c2 d9 a5 c1 cy d5:Nat,cp [a9,ix,c2,d9]/\cp [a5,c1,cy,d5]/\Hid (b0 a9 ix c2 d9=n / m+1)/\Hid (b0 a5 c1 cy d5=m-n%m)/\cn bP w'.heap.size 130 [a9,ix,c2,d9]/\cn bP (w'.heap.size+1) 130 [a5,c1,cy,d5]/\Box bP w.heap.size true a b c d/\Box bP (w.heap.size+1) t e f g h/\Box bP (w.heap.size+1+1) false 0 0 0 0/\Box bP (w.heap.size+1+1+1) false 0 0 0 0/\Ext w bP)
 case first =>
  have KK:=e1 w' (.cells #[a7,dD,b8,d7] 130) (.cells #[a8,cE,bR,d8] 130);have hX:=(aA w' (.cells #[a7,dD,b8,d7] 130)).trans (aA _ (.cells #[a8,cE,bR,d8] 130));have bl:cn ((w'.alloc (.cells #[a7,dD,b8,d7] 130)).alloc (.cells #[a8,cE,bR,d8] 130)) w'.heap.size 130 [a7,dD,b8,d7]:=KK.1;have aJ:cn ((w'.alloc (.cells #[a7,dD,b8,d7] 130)).alloc (.cells #[a8,cE,bR,d8] 130)) (w'.heap.size+1) 130 [a8,cE,bR,d8]:=KK.2;have cC:=cD.ext hX;have aS:=c5.ext hX;have ak:=dz.ext hX;have aq:=eu.ext hX;have XA:=bS.trans hX;clear KK;go_wp2_with (first
   | (go_at_call 128;refine(WX.out _).mono ?_;rintro e' bm ⟨a9,ix,c2,d9,rfl,cN,xt,ad⟩;rw[W2.out] at xt;have W7:=hide xt;have pT:=bl.ext ad;have AP:=aJ.ext ad;have FZ:=cC.ext ad;have jj:=aS.ext ad;have iO:=ak.ext ad;have pS:=aq.ext ad;have XC:=XA.trans ad;obtain⟨m0,m1,m2,m3,cT,aC,aW,EG⟩:=pT.four;obtain⟨ke,b7,cr,cR,p0,p1,p2,zN⟩:=AP.four;obtain⟨d0,d1,d2,d3,d4,g0,g1,g2,g3,g4⟩:=av jj;clear ad xt)
   | (go_at_call 129;refine(N1 e f g h a8 cE bR d8 m (n%m) hY.out bq.out _ nG c8 (Nat.le_of_lt IJ.out)).mono ?_;rintro e' cg ⟨a5,c1,cy,d5,rfl,B5,D',ad⟩;have II:=hide D';have kJ:=((((pT.set 0 a9).set 1 ix).set 2 c2).set 3 d9).ext ad;have q2:=((((AP.cI (b:=w'.heap.size) (by omega) 0 (.int .u64 (a9:Int))).cI (b:=w'.heap.size) (by omega) 1 (.int .u64 (ix:Int))).cI (b:=w'.heap.size) (by omega) 2 (.int .u64 (c2:Int))).cI (b:=w'.heap.size) (by omega) 3 (.int .u64 (d9:Int))).ext ad;have uM:=(FZ.xc (b':=w'.heap.size) (by omega) (.int .u64 (a9:Int)) (.int .u64 (ix:Int)) (.int .u64 (c2:Int)) (.int .u64 (d9:Int))).ext ad;have T1:=(jj.xc (b':=w'.heap.size) (by omega) (.int .u64 (a9:Int)) (.int .u64 (ix:Int)) (.int .u64 (c2:Int)) (.int .u64 (d9:Int))).ext ad;have kr:=(iO.xc (b':=w'.heap.size) (by omega) (.int .u64 (a9:Int)) (.int .u64 (ix:Int)) (.int .u64 (c2:Int)) (.int .u64 (d9:Int))).ext ad;have oD:=(pS.xc (b':=w'.heap.size) (by omega) (.int .u64 (a9:Int)) (.int .u64 (ix:Int)) (.int .u64 (c2:Int)) (.int .u64 (d9:Int))).ext ad;have QZ:=(o9 XC (b:=w'.heap.size) (by omega) (.int .u64 (a9:Int)) (.int .u64 (ix:Int)) (.int .u64 (c2:Int)) (.int .u64 (d9:Int))).trans ad;obtain⟨ke,b7,cr,cR,p0,p1,p2,zN⟩:=q2.four;clear ad D'))
  all_goals go_meet
  all_goals exact⟨a9,ix,c2,d9,a5,c1,cy,d5,cN,B5,W7,II,(((kJ.cI (by omega) _ _).cI (by omega) _ _).cI (by omega) _ _).cI (by omega) _ _,(((q2.set 0 a5).set 1 c1).set 2 cy).set 3 d5,uM.xc (by omega) _ _ _ _,T1.xc (by omega) _ _ _ _,kr.xc (by omega) _ _ _ _,oD.xc (by omega) _ _ _ _,o9 QZ (by omega) _ _ _ _⟩
 case rest =>
  obtain⟨a9,ix,c2,d9,a5,c1,cy,d5,cN,B5,W8,II,hcut⟩:=hcut;have Cg:Hid ((if u then -((b0 a9 ix c2 d9:Nat):Int) else ((b0 a9 ix c2 d9:Nat):Int))=x / y):=by rw[W8.out,<-yn.out];exact(qY.out.2 ⟨(by first|rfl|trivial),wD.out⟩).1.symm
  have Ch:Hid (((b0 a5 c1 cy d5:Nat):Int)=x%y):=by rw[II.out];exact(qY.out.2 ⟨(by first|rfl|trivial),wD.out⟩).2.symm
  clear ay au aR dZ bC cD c5 dz eu bS;obtain⟨sd,sg,ay,au,aR,dZ,bC⟩:=hcut;obtain⟨bt,az,aU,a_,bK,f0,f1,f2,f3,f4⟩:=av ay;obtain⟨d0,d1,d2,d3,d4,g0,g1,g2,g3,g4⟩:=av au;obtain⟨m0,m1,m2,m3,_,_,_,_⟩:=sd.four;obtain⟨ke,b7,cr,cR,_,_,_,_⟩:=sg.four;go_wp2_with fail
  generalize w'.heap.size=eP at *;have mT:w.heap.size≠w.heap.size+1+1:=by omega
  have s4:w.heap.size≠w.heap.size+1+1+1:=by omega
  have mU:w.heap.size+1≠w.heap.size+1+1:=by omega
  have s5:w.heap.size+1≠w.heap.size+1+1+1:=by omega
  have gF:eP≠w.heap.size+1+1:=by omega
  have gG:eP≠w.heap.size+1+1+1:=by omega
  have gH:eP+1≠w.heap.size+1+1:=by omega
  have gI:eP+1≠w.heap.size+1+1+1:=by omega
  go_region_held3 (fun w'=>w'.cell? ⟨w.heap.size,0,none⟩=some (.bool true)/\w'.cell? ⟨w.heap.size+1,0,none⟩=some (.bool t)/\w'.cell? ⟨eP,0,none⟩=some (.int .u64 (a9:Int))/\w'.cell? ⟨eP,1,none⟩=some (.int .u64 (ix:Int))/\w'.cell? ⟨eP,2,none⟩=some (.int .u64 (c2:Int))/\w'.cell? ⟨eP,3,none⟩=some (.int .u64 (d9:Int))/\w'.cell? ⟨eP+1,0,none⟩=some (.int .u64 (a5:Int))/\w'.cell? ⟨eP+1,1,none⟩=some (.int .u64 (c1:Int))/\w'.cell? ⟨eP+1,2,none⟩=some (.int .u64 (cy:Int))/\w'.cell? ⟨eP+1,3,none⟩=some (.int .u64 (d5:Int))) (first|(with_reducible exact⟨bt,d0,m0,m1,m2,m3,ke,b7,cr,cR⟩)|(with_reducible exact⟨(bw _ mT).trans bt,(bw _ mU).trans d0,(bw _ gF).trans m0,(bw _ gF).trans m1,(bw _ gF).trans m2,(bw _ gF).trans m3,(bw _ gH).trans ke,(bw _ gH).trans b7,(bw _ gH).trans cr,(bw _ gH).trans cR⟩)|(with_reducible exact⟨(bw _ s4).trans bt,(bw _ s5).trans d0,(bw _ gG).trans m0,(bw _ gG).trans m1,(bw _ gG).trans m2,(bw _ gG).trans m3,(bw _ gI).trans ke,(bw _ gI).trans b7,(bw _ gI).trans cr,(bw _ gI).trans cR⟩)|(with_reducible exact⟨(bw _ s4).trans ((bw _ mT).trans bt),(bw _ s5).trans ((bw _ mU).trans d0),(bw _ gG).trans ((bw _ gF).trans m0),(bw _ gG).trans ((bw _ gF).trans m1),(bw _ gG).trans ((bw _ gF).trans m2),(bw _ gG).trans ((bw _ gF).trans m3),(bw _ gI).trans ((bw _ gH).trans ke),(bw _ gI).trans ((bw _ gH).trans b7),(bw _ gI).trans ((bw _ gH).trans cr),(bw _ gI).trans ((bw _ gH).trans cR)⟩)|(with_reducible exact⟨(bw _ mT).trans ((bw _ s4).trans bt),(bw _ mU).trans ((bw _ s5).trans d0),(bw _ gF).trans ((bw _ gG).trans m0),(bw _ gF).trans ((bw _ gG).trans m1),(bw _ gF).trans ((bw _ gG).trans m2),(bw _ gF).trans ((bw _ gG).trans m3),(bw _ gH).trans ((bw _ gI).trans ke),(bw _ gH).trans ((bw _ gI).trans b7),(bw _ gH).trans ((bw _ gI).trans cr),(bw _ gH).trans ((bw _ gI).trans cR)⟩)|go_keep) (first
   | (go_at_call_of 113 (Value.bool u);refine(qN u a9 ix c2 d9 _ (ez cN).1 (ez cN).2.1 (ez cN).2.2.1 (ez cN).2.2.2).mono ?_;rintro e' b6 ⟨s',a',b',c',d',rfl,hC,ad⟩;rw[Cg.out] at hC;have wN:Box b6 w.heap.size true a b c d:=(by first|exact wU.ext ad|exact ay.drew.ext ad);have wO:Box b6 (w.heap.size+1) t e f g h:=(by first|exact wV.ext ad|exact au.drew.ext ad);have wP:Box b6 (w.heap.size+1+1) false 0 0 0 0:=(by first|exact wW.ext ad|exact aR.drew.ext ad);have wQ:Box b6 (w.heap.size+1+1+1) false 0 0 0 0:=(by first|exact wX.ext ad|exact dZ.drew.ext ad);have wR:cn b6 eP 130 [a9,ix,c2,d9]:=(by first|exact wY.ext ad|exact sd.drew.ext ad);have wS:cn b6 (eP+1) 130 [a5,c1,cy,d5]:=(by first|exact wZ.ext ad|exact sg.drew.ext ad);have wT:Ext w b6:=(by first|exact w0.trans ad|exact(bC.trans (b5 _)).trans ad);have wz:=wT;obtain⟨bt,az,aU,a_,bK,f0,f1,f2,f3,f4⟩:=av wN;obtain⟨d0,d1,d2,d3,d4,g0,g1,g2,g3,g4⟩:=av wO;obtain⟨i0,i1,i2,i3,i4,dm,cW,cL,dn,dG⟩:=av wP;obtain⟨iA,bQ,bY,cX,ev,ai,ah,aj,ap,nT⟩:=av wQ;obtain⟨m0,m1,m2,m3,_,_,_,_⟩:=wR.four;obtain⟨ke,b7,cr,cR,_,_,_,_⟩:=wS.four;clear ad)
   | (go_at_call_of 113 (Value.bool false);refine(qN false a5 c1 cy d5 _ (ez B5).1 (ez B5).2.1 (ez B5).2.2.1 (ez B5).2.2.2).mono ?_;rintro e' c8 ⟨s2,a2,bX,CK,CU,rfl,sD,ad⟩;simp only[Bool.false_eq_true,if_false] at sD;rw[Ch.out] at sD;have wU:Box c8 w.heap.size true a b c d:=(by first|exact wN.ext ad|exact ay.drew.ext ad);have wV:Box c8 (w.heap.size+1) t e f g h:=(by first|exact wO.ext ad|exact au.drew.ext ad);have wW:Box c8 (w.heap.size+1+1) false 0 0 0 0:=(by first|exact wP.ext ad|exact aR.drew.ext ad);have wX:Box c8 (w.heap.size+1+1+1) false 0 0 0 0:=(by first|exact wQ.ext ad|exact dZ.drew.ext ad);have wY:cn c8 eP 130 [a9,ix,c2,d9]:=(by first|exact wR.ext ad|exact sd.drew.ext ad);have wZ:cn c8 (eP+1) 130 [a5,c1,cy,d5]:=(by first|exact wS.ext ad|exact sg.drew.ext ad);have w0:Ext w c8:=(by first|exact wT.trans ad|exact(bC.trans (b5 _)).trans ad);have wz:=w0;obtain⟨bt,az,aU,a_,bK,f0,f1,f2,f3,f4⟩:=av wU;obtain⟨d0,d1,d2,d3,d4,g0,g1,g2,g3,g4⟩:=av wV;obtain⟨i0,i1,i2,i3,i4,dm,cW,cL,dn,dG⟩:=av wW;obtain⟨iA,bQ,bY,cX,ev,ai,ah,aj,ap,nT⟩:=av wX;obtain⟨m0,m1,m2,m3,_,_,_,_⟩:=wY.four;obtain⟨ke,b7,cr,cR,_,_,_,_⟩:=wZ.four;clear ad))
  all_goals go_wp2_with fail
  all_goals exact B7 (v:=.tuple #[.agg #[.bool s',a',b',c',d'],.agg #[.bool s2,a2,bX,CK,CU],.bool true]) (by simp[results,Tryz.results123,go_sem,i0,i1,i2,i3,i4,iA,bQ,bY,cX,ev]) rfl (A1 dy hC sD (dr (dr wz (by omega) _ _ _ _ _) (by omega) _ _ _ _ _))
theorem Hu(s t:Bool)(a b c d e f g h:Nat)(x y:Int)(w:w1)(hx:dg s a b c d x)(hy:dg t e f g h y) :
 AA CW 123 #[.agg #[.bool s,a,b,c,d],.agg #[.bool t,e,f,g,h]] w (ux x y w):=by
 by_cases dy:y=0
 ·exact aiT s t a b c d e f g h x y w hy dy
 ·cases s
  ·exact aiV t a b c d e f g h x y w hx hy dy
  ·by_cases hz:x.natAbs%y.natAbs=0
   ·exact aiS t a b c d e f g h x y w hx hy dy hz
   ·exact aiU t a b c d e f g h x y w hx hy dy hz
theorem VE(a b:Nat)(h:0<b):(a:Int).tmod (b:Int)=((a%b:Nat):Int)/\(a:Int)%(b:Int)=((a%b:Nat):Int):=⟨(Int.ofNat_tmod a b).symm,(Int.natCast_emod a b).symm⟩
theorem ajK(a b:Nat)(w:w1)(ha:a<18446744073709551616)(hb:b<18446744073709551616) :
 AA CW 132 #[.int .u64 (a:Int),.int .u64 (b:Int)] w (nc .u64 ((Nat.gcd a b:Nat):Int) w):=by
 go_enter Tryz.func132,Tryz.ntmps132
 go_wp2_with fail
 go_loopw [0,1] (fun x y wr=>∃ a' b':Nat,x=.int .u64 (a':Int)/\y=.int .u64 (b':Int)/\a'<18446744073709551616/\b'<18446744073709551616/\Hid (Nat.gcd a' b'=Nat.gcd a b)/\Ext w wr) (fun _ y _=>(intOf y).toNat)
 case atStart=>exact⟨a,b,rfl,rfl,ha,hb,rfl,Ext.refl _⟩
 case round =>
  clear ha hb;obtain⟨a',b',rfl,rfl,ha,hb,jY,ad⟩:=hrel;by_cases h0:b'=0
  ·subst h0;have bq:Hid (Nat.gcd a b=a'):=by rw[<-jY.out];exact Nat.gcd_zero_right a'
   clear jY;go_wp2_with fail
   go_ret;exact⟨by rw[bq.out];rfl,ad⟩
  ·have h1:((b':Int)==0)=false:=by rw[beq_eq_false_iff_ne];omega
   have h2:¬ ((b':Int)=0):=by omega
   obtain⟨i',dX⟩:=VE a' b' (by omega);obtain⟨r,aD⟩:=aM (a'%b');rw[aD] at i' dX;have Ec:r<b':=by rw[<-aD];exact Nat.mod_lt _ (by omega)
   have Ay:Hid (Nat.gcd b' r=Nat.gcd a b):=by rw[<-jY.out,<-aD,Nat.gcd_comm a' b',Nat.gcd_rec b' a',Nat.gcd_comm];exact rfl
   have Me:r<18446744073709551616:=by omega
   have bq:=hide aD;have dx:=hide Ec;clear aD Ec jY h0;go_wp2_with fail
   go_quiet (fail)
   go_wp2_with fail
   exact⟨⟨b',r,rfl,rfl,hb,Me,Ay,ad.trans (nR _ _)⟩,by have:=dx.out;simp[intOf];omega⟩
theorem R7{s:Bool}{a b c d:Nat}{z:Int}(h:cw s a b c d z):z.natAbs<170141183460469231731687303715884105728↔(d=0/\c=0/\b<9223372036854775808):=by
 obtain⟨⟨h1,h2,h3,h4,h5⟩,_⟩:=h;have e:z.natAbs=b0 a b c d:=by cases s<;>simp at h5<;>omega
 rw[e];simp only[b0,val];omega
theorem Vl(s:Bool)(a b c d:Nat)(z:Int)(w:w1)(h:cw s a b c d z) :
 AA CW 124 #[.agg #[.bool s,a,b,c,d]] w (lN (decide (z.natAbs<170141183460469231731687303715884105728)) w):=by
 have hf:=R7 h;have bN:=hide (aA w (.cells #[.bool s,a,b,c,d] 27));by_cases h3:d=0
 ·by_cases h2:c=0
  ·by_cases h1:b<9223372036854775808
   ·have dx:Hid (decide (z.natAbs<170141183460469231731687303715884105728)=true):=decide_eq_true (hf.2 ⟨h3,h2,h1⟩);have Dm:decide ((b:Int)<9223372036854775808)=true:=by rw[decide_eq_true_iff];omega
    have KG:decide ((9223372036854775808:Int)<=(b:Int))=false:=by rw[decide_eq_false_iff_not];omega
    subst h3;subst h2;clear hf h h1;go_enter Tryz.func124,Tryz.ntmps124
    go_wp2
    go_ret;exact⟨rN dx.out.symm,bN.out⟩
   ·have dx:Hid (decide (z.natAbs<170141183460469231731687303715884105728)=false):=decide_eq_false (fun e=>h1 (hf.1 e).2.2);have Dm:decide ((b:Int)<9223372036854775808)=false:=by rw[decide_eq_false_iff_not];omega
    have KG:decide ((9223372036854775808:Int)<=(b:Int))=true:=by rw[decide_eq_true_iff];omega
    subst h3;subst h2;clear hf h h1;go_enter Tryz.func124,Tryz.ntmps124
    go_wp2
    go_ret;exact⟨rN dx.out.symm,bN.out⟩
  ·have dx:Hid (decide (z.natAbs<170141183460469231731687303715884105728)=false):=decide_eq_false (fun e=>h2 (hf.1 e).2.1);have acM:((c:Int)==0)=false:=by rw[beq_eq_false_iff_ne];omega
   have acN:¬ ((c:Int)=0):=by omega
   subst h3;clear hf h h2;go_enter Tryz.func124,Tryz.ntmps124
   go_wp2
   go_ret;exact⟨rN dx.out.symm,bN.out⟩
 ·have dx:Hid (decide (z.natAbs<170141183460469231731687303715884105728)=false):=decide_eq_false (fun e=>h3 (hf.1 e).1);have Sr:((d:Int)==0)=false:=by rw[beq_eq_false_iff_ne];omega
  have acU:¬ ((d:Int)=0):=by omega
  clear hf h h3;go_enter Tryz.func124,Tryz.ntmps124
  go_wp2
  go_ret;exact⟨rN dx.out.symm,bN.out⟩
theorem ajJ(s t:Bool)(a b c d e f g h:Nat)(x y:Int)(w:w1)(hx:cw s a b c d x)(hy:cw t e f g h y)(dy:0<y) :
 AA CW 122 #[.agg #[.bool s,a,b,c,d],.agg #[.bool t,e,f,g,h]] w (lR (Int.gcd x y:Int) w):=by
 obtain⟨W,aK⟩:=eo ((((w.alloc (.cells #[.bool s,a,b,c,d] 27)).alloc (.cells #[.bool t,e,f,g,h] 27)).alloc (.cells #[false,(),(),(),()] 27)));have cO:=kF w (.cells #[.bool s,a,b,c,d] 27) (.cells #[.bool t,e,f,g,h] 27) (.cells #[false,(),(),(),()] 27);rw[<-aK] at cO;obtain⟨G,aV⟩:=aM (Int.gcd x y);have ay:Box W w.heap.size s a b c d:=cO.1;have au:Box W (w.heap.size+1) t e f g h:=cO.2.1;have aR:Box W (w.heap.size+1+1) false 0 0 0 0:=cO.2.2;have bC:Ext w W:=by rw[aK];exact((aA _ _).trans (aA _ _)).trans (aA _ _)
 have aB:=hide aK;have yl:=hide aV;rw[aV];clear aK cO aV;go_enter Tryz.func122,Tryz.ntmps122
 go_upto_region 1 with fail
 rw[<-aB.out];clear aB;go_loopg [] (y.natAbs) (fun k wr=>∃ (s:Bool) (a b c d:Nat) (t:Bool) (e f g h:Nat) (x y:Int),Box wr w.heap.size s a b c d/\Box wr (w.heap.size+1) t e f g h/\Box wr (w.heap.size+1+1) false 0 0 0 0/\cw s a b c d x/\cw t e f g h y/\Hid (0<=y/\y.natAbs<=k/\Int.gcd x y=G/\(0<y\/0<=x))/\Ext w wr)
 case atStart=>exact⟨s,a,b,c,d,t,e,f,g,h,x,y,ay,au,aR,hx,hy,⟨by omega,Nat.le_refl _,yl.out,Or.inl dy⟩,bC⟩
 case round =>
  clear ay au aR hx hy dy bC yl;obtain⟨s,a,b,c,d,t,e,f,g,h,x,y,ay,au,aR,hx,hy,HH,EE⟩:=hrel;have qs:=hide hx;have o0:=hide hy;clear hx hy;obtain⟨ao,fW⟩:=aM y.sign;have ks:Hid (∀ w',AA CW 115 #[.agg #[.bool t,e,f,g,h]] w' (nc .i64 ao w')):=fun w'=>by rw[<-fW];exact uc _ _ _ _ _ _ w' o0.out.1
  obtain⟨bt,az,aU,a_,bK,_⟩:=av ay;obtain⟨d0,d1,d2,d3,d4,_⟩:=av au;obtain⟨i0,i1,i2,i3,i4,dm,cW,cL,dn,dG⟩:=av aR;by_cases dy:y=0
  ·have xv:ao=0:=by rw[<-fW,dy];rfl
   subst xv;have nK:Hid (cw s a b c d (G:Int)):=by
    have h1:=HH.out;have h2:=qs.out;have e:(G:Int)=x:=by
     have h3:=h1.2.2.1;rw[dy,Int.gcd_zero_right] at h3;have h4:=h1.2.2.2;omega
    unfold Hid;rw[e];exact h2
   clear fW dy HH;go_wp2_with (go_at_call 115;(with_reducible refine(ks.out _).mono ?_);rintro e' bp ⟨rfl,ad⟩;have ay:=ay.ext ad;have au:=au.ext ad;have aR:=aR.ext ad;have EE:=EE.trans ad;obtain⟨bt,az,aU,a_,bK,f0,f1,f2,f3,f4⟩:=av ay;obtain⟨d0,d1,d2,d3,d4,g0,g1,g2,g3,g4⟩:=av au;obtain⟨i0,i1,i2,i3,i4,dm,cW,cL,dn,dG⟩:=av aR;clear ad)
   all_goals exact B7 (v:=.agg #[.bool s,a,b,c,d]) (by simp[results,Tryz.results122,go_sem,i0,i1,i2,i3,i4]) rfl ⟨s,a,b,c,d,rfl,nK.out,dr EE (by omega) _ _ _ _ _⟩
  ·have xv:¬ (ao=0):=by rw[<-fW];intro e;exact dy (Int.sign_eq_zero_iff_zero.1 e)
   have aeF:(ao==0)=false:=by rw[beq_eq_false_iff_ne];exact xv
   obtain⟨i',oe⟩:∃ r,(if 0<=x/\x<18446744073709551616 then x else 0)=r:=⟨_,rfl⟩;obtain⟨b7,oL⟩:∃ o,decide (0<=x/\x<18446744073709551616)=o:=⟨_,rfl⟩;obtain⟨dX,nu⟩:∃ r,(if 0<=y/\y<18446744073709551616 then y else 0)=r:=⟨_,rfl⟩;obtain⟨cr,nt⟩:∃ o,decide (0<=y/\y<18446744073709551616)=o:=⟨_,rfl⟩;have bQ:Hid (∀ w',AA CW 131 #[.agg #[.bool s,a,b,c,d]] w' (yA .u64 i' b7 w')):=fun w'=>by rw[<-oe,<-oL];exact U0 _ _ _ _ _ _ w' qs.out.1
   have bY:Hid (∀ w',AA CW 131 #[.agg #[.bool t,e,f,g,h]] w' (yA .u64 dX cr w')):=fun w'=>by rw[<-nu,<-nt];exact U0 _ _ _ _ _ _ w' o0.out.1
   by_cases hb:b7=true/\cr=true
   ·obtain⟨rfl,rfl⟩:=hb;have mP:=of_decide_eq_true oL;have oO:=of_decide_eq_true nt;rw[if_pos mP] at oe;rw[if_pos oO] at nu;obtain⟨n,hn⟩:∃ n:Nat,x=n:=⟨x.toNat,by omega⟩;obtain⟨m,hm⟩:∃ m:Nat,y=m:=⟨y.toNat,by omega⟩;have fT:n<18446744073709551616:=by omega
    have pn:m<18446744073709551616:=by omega
    have rY:Hid (Nat.gcd n m=G):=by
     have h3:=HH.out.2.2.1;rw[hn,hm] at h3;exact h3
    have SB:G<18446744073709551616:=by
     have h1:Nat.gcd n m<=m:=Nat.gcd_le_right _ (by omega);rw[rY.out] at h1;omega
    rw[<-oe,hn] at bQ;rw[<-nu,hm] at bY;clear oe nu oL nt mP oO hn hm HH fW dy qs o0;go_wp2_with (first
     | (go_at_call 115;(with_reducible refine(ks.out _).mono ?_);rintro e' bp ⟨rfl,ad⟩;have ay:=ay.ext ad;have au:=au.ext ad;have aR:=aR.ext ad;have EE:=EE.trans ad;obtain⟨bt,az,aU,a_,bK,f0,f1,f2,f3,f4⟩:=av ay;obtain⟨d0,d1,d2,d3,d4,g0,g1,g2,g3,g4⟩:=av au;obtain⟨i0,i1,i2,i3,i4,dm,cW,cL,dn,dG⟩:=av aR;clear ad)
     | (go_at_call 131;(with_reducible refine(bQ.out _).mono ?_);rintro e' w3 ⟨rfl,ad⟩;have ay:=ay.ext ad;have au:=au.ext ad;have aR:=aR.ext ad;have EE:=EE.trans ad;obtain⟨bt,az,aU,a_,bK,f0,f1,f2,f3,f4⟩:=av ay;obtain⟨d0,d1,d2,d3,d4,g0,g1,g2,g3,g4⟩:=av au;obtain⟨i0,i1,i2,i3,i4,dm,cW,cL,dn,dG⟩:=av aR;clear ad)
     | (go_at_call 131;(with_reducible refine(bY.out _).mono ?_);rintro e' bZ ⟨rfl,ad⟩;have ay:=ay.ext ad;have au:=au.ext ad;have aR:=aR.ext ad;have EE:=EE.trans ad;obtain⟨bt,az,aU,a_,bK,f0,f1,f2,f3,f4⟩:=av ay;obtain⟨d0,d1,d2,d3,d4,g0,g1,g2,g3,g4⟩:=av au;obtain⟨i0,i1,i2,i3,i4,dm,cW,cL,dn,dG⟩:=av aR;clear ad)
     | (go_at_call 132;refine(ajK n m _ fT pn).mono ?_;rintro e' bm ⟨rfl,ad⟩;rw[rY.out];have ay:=ay.ext ad;have au:=au.ext ad;have aR:=aR.ext ad;have EE:=EE.trans ad;obtain⟨bt,az,aU,a_,bK,f0,f1,f2,f3,f4⟩:=av ay;obtain⟨d0,d1,d2,d3,d4,g0,g1,g2,g3,g4⟩:=av au;obtain⟨i0,i1,i2,i3,i4,dm,cW,cL,dn,dG⟩:=av aR;clear ad)
     | (go_at_call 112;refine(NY G _ SB).mono ?_;rintro e' cg ⟨fq,a6,cH,cF,d6,rfl,hC,ad⟩;have ay:=ay.ext ad;have au:=au.ext ad;have aR:=aR.ext ad;have EE:=EE.trans ad;obtain⟨bt,az,aU,a_,bK,f0,f1,f2,f3,f4⟩:=av ay;obtain⟨d0,d1,d2,d3,d4,g0,g1,g2,g3,g4⟩:=av au;obtain⟨i0,i1,i2,i3,i4,dm,cW,cL,dn,dG⟩:=av aR;clear ad))
    all_goals exact B7 (v:=.agg #[.bool fq,a6,cH,cF,d6]) (by simp[results,Tryz.results122,go_sem,i0,i1,i2,i3,i4]) rfl ⟨fq,a6,cH,cF,d6,rfl,hC,dr EE (by omega) _ _ _ _ _⟩
   ·have dO:Hid (0<x%y+1/\x%y<y/\0<=x%y/\Int.gcd y (x%y)=G/\(x%y).natAbs<gk):=by
     have h1:=HH.out;have h2:=Int.emod_nonneg x dy;have h3:=Int.emod_lt_of_pos x (show 0<y by omega);refine⟨by omega,h3,h2,by rw[<-Sj];exact h1.2.2.1,by omega⟩
    have Ce:Hid (0<y):=by have:=HH.out.1;unfold Hid;omega
    have oJ:=hide dy;have zp:b7=false\/(b7=true/\cr=false):=by cases b7<;>cases cr<;>simp at hb |-
    clear oe nu oL nt fW HH dy hb;rcases zp with rfl|⟨rfl,rfl⟩
    all_goals go_upto_region 6 with (first
     | (go_at_call 115;(with_reducible refine(ks.out _).mono ?_);rintro e' bp ⟨rfl,ad⟩;have ay:=ay.ext ad;have au:=au.ext ad;have aR:=aR.ext ad;have EE:=EE.trans ad;obtain⟨bt,az,aU,a_,bK,f0,f1,f2,f3,f4⟩:=av ay;obtain⟨d0,d1,d2,d3,d4,g0,g1,g2,g3,g4⟩:=av au;obtain⟨i0,i1,i2,i3,i4,dm,cW,cL,dn,dG⟩:=av aR;clear ad)
     | (go_at_call 131;(with_reducible refine(bQ.out _).mono ?_);rintro e' w3 ⟨rfl,ad⟩;have ay:=ay.ext ad;have au:=au.ext ad;have aR:=aR.ext ad;have EE:=EE.trans ad;obtain⟨bt,az,aU,a_,bK,f0,f1,f2,f3,f4⟩:=av ay;obtain⟨d0,d1,d2,d3,d4,g0,g1,g2,g3,g4⟩:=av au;obtain⟨i0,i1,i2,i3,i4,dm,cW,cL,dn,dG⟩:=av aR;clear ad)
     | (go_at_call 131;(with_reducible refine(bY.out _).mono ?_);rintro e' bZ ⟨rfl,ad⟩;have ay:=ay.ext ad;have au:=au.ext ad;have aR:=aR.ext ad;have EE:=EE.trans ad;obtain⟨bt,az,aU,a_,bK,f0,f1,f2,f3,f4⟩:=av ay;obtain⟨d0,d1,d2,d3,d4,g0,g1,g2,g3,g4⟩:=av au;obtain⟨i0,i1,i2,i3,i4,dm,cW,cL,dn,dG⟩:=av aR;clear ad))
    all_goals (go_upto_region 7 with (go_at_call 123;refine(Hu s t a b c d e f g h x y _ qs.out.1 o0.out.1).mono ?_;rintro e' b6 ⟨e8,a7,dD,b8,d7,s8,a8,cE,bR,d8,ahv,rfl,aL,kn,lO,ad⟩;have jZ:=hide aL;rw[if_neg oJ.out] at kn lO;have jJ:=hide lO;clear aL kn lO;have ay:=ay.ext ad;have au:=au.ext ad;have aR:=aR.ext ad;have EE:=EE.trans ad;clear ad))
    all_goals have Q:=e1 b6 (.cells #[.bool e8,a7,dD,b8,d7] 27) (.cells #[.bool s8,a8,cE,bR,d8] 27)
    all_goals have ad:=(aA b6 (.cells #[.bool e8,a7,dD,b8,d7] 27)).trans (aA _ (.cells #[.bool s8,a8,cE,bR,d8] 27))
    all_goals have aj:=aR.lt
    all_goals have ay:=ay.ext ad
    all_goals have au:=au.ext ad
    all_goals have aR:=aR.ext ad
    all_goals have EE:=EE.trans ad
    all_goals clear ad
    all_goals (obtain⟨oF,DG⟩:=eo ((b6.alloc (.cells #[.bool e8,a7,dD,b8,d7] 27)).alloc (.cells #[.bool s8,a8,cE,bR,d8] 27)))
    all_goals rw[<-DG] at Q ay au aR EE |-
    all_goals (obtain⟨g7,xl⟩:=aM b6.heap.size)
    all_goals rw[xl] at Q aj |-
    all_goals have Ip:Box oF (g7+1) s8 a8 cE bR d8:=Q.2
    all_goals clear DG xl Q
    all_goals (obtain⟨bt,az,aU,a_,bK,f0,f1,f2,f3,f4⟩:=av ay)
    all_goals (obtain⟨d0,d1,d2,d3,d4,g0,g1,g2,g3,g4⟩:=av au)
    all_goals (obtain⟨i0,i1,i2,i3,i4,_⟩:=av Ip)
    all_goals have hX:=dr (dr EE (b:=w.heap.size) (Nat.le_refl _) (.bool t) (.int .u64 (e:Int)) (.int .u64 (f:Int)) (.int .u64 (g:Int)) (.int .u64 (h:Int))) (b:=w.heap.size+1) (by omega) (.bool s8) (.int .u64 (a8:Int)) (.int .u64 (cE:Int)) (.int .u64 (bR:Int)) (.int .u64 (d8:Int))
    all_goals have IY:=(ay.put (t:=t) (a':=e) (b':=f) (c':=g) (d':=h)).cI (b':=w.heap.size+1) (by omega) (.bool s8) (.int .u64 (a8:Int)) (.int .u64 (cE:Int)) (.int .u64 (bR:Int)) (.int .u64 (d8:Int))
    all_goals have AE:=(au.cI (b':=w.heap.size) (by omega) (.bool t) (.int .u64 (e:Int)) (.int .u64 (f:Int)) (.int .u64 (g:Int)) (.int .u64 (h:Int))).put (t:=s8) (a':=a8) (b':=cE) (c':=bR) (d':=d8)
    all_goals have AF:=(aR.cI (b':=w.heap.size) (by omega) (.bool t) (.int .u64 (e:Int)) (.int .u64 (f:Int)) (.int .u64 (g:Int)) (.int .u64 (h:Int))).cI (b':=w.heap.size+1) (by omega) (.bool s8) (.int .u64 (a8:Int)) (.int .u64 (cE:Int)) (.int .u64 (bR:Int)) (.int .u64 (d8:Int))
    all_goals go_region
    all_goals go_wp2_with fail
    all_goals go_roundg ((x%y).natAbs)
    all_goals first
     | exact dO.out.2.2.2.2
     | exact⟨t,e,f,g,h,s8,a8,cE,bR,d8,y,x%y,IY.drew,AE.drew,AF.drew,o0.out,jJ.out,⟨dO.out.2.2.1,Nat.le_refl _,dO.out.2.2.2.1,Or.inr (by have:=Ce.out;omega)⟩,hX.trans (b5 _)⟩
end
end Go.Proofs.YtojbopibfflnoaaGreat
