/- Contracts and plain facts; each states its conditions. -/
import Derived.Test.YtojbopibfflnoaaGreatPrW12
namespace Go.Proofs.YtojbopibfflnoaaGreat
set_option linter.unusedVariables false
set_option linter.unusedSimpArgs false
set_option maxHeartbeats 16000000
section
open Go Go.RowKit
def ux (x y:Int) (w:World) (e:Ending) (w':World):Prop:=∃ (s:Bool) (a b c d:Nat) (t:Bool) (e' f g h:Nat) (o:Bool),e=.returned (.tuple #[.agg #[.bool s,a,b,c,d],.agg #[.bool t,e',f,g,h],.bool o]) ∧
 o=decide (y≠0)∧cw s a b c d (if y=0 then 0 else x / y)∧cw t e' f g h (if y=0 then 0 else x%y)∧Ext w w'
theorem Es:cw false 0 0 0 0 0:=⟨⟨by omega,by omega,by omega,by omega,by simp[b0,val]⟩,by simp⟩
theorem RM {x y:Int}{w w':World} (hy:y=0) (ad:Ext w w') :
 ux x y w (.returned (.tuple #[.agg #[false,(),(),(),()],.agg #[false,(),(),(),()],.bool false])) w':=
 ⟨false,0,0,0,0,false,0,0,0,0,false,rfl,by simp[hy],by rw[if_pos hy];exact Es,by rw[if_pos hy];exact Es,ad⟩
theorem A1 {x y:Int}{w w':World}{s t:Bool}{a b c d e f g h:Nat} (hy:y≠0) (h1:cw s a b c d (x / y)) (h2:cw t e f g h (x%y)) (ad:Ext w w') :
 ux x y w (.returned (.tuple #[.agg #[.bool s,a,b,c,d],.agg #[.bool t,e,f,g,h],.bool true])) w':=
 ⟨s,a,b,c,d,t,e,f,g,h,true,rfl,by simp[hy],by rw[if_neg hy];exact h1,by rw[if_neg hy];exact h2,ad⟩
theorem Gr (s t:Bool) (n m:Nat) (x y:Int) (hx:x=if s then -(n:Int) else n) (hy:y=if t then -(m:Int) else m) (hm:0<m) :
 ((s=false∨n%m=0)→x / y=(if (s != t) then -((n / m:Nat):Int) else ((n / m:Nat):Int))∧x%y=((n%m:Nat):Int)) ∧
 (s=true∧n%m≠0→x / y=(if (s != t) then -((n / m+1:Nat):Int) else ((n / m+1:Nat):Int))∧x%y=((m-n%m:Nat):Int)):=by
 have e:=Nat.div_add_mod n m;have aD:=Nat.mod_lt n hm;have key:∀ (q r:Int),x=y*q+r→0≤r→r<m→x / y=q∧x%y=r:=by
  intro q r h1 h2 h3;have dy:y≠0:=by cases t<;>simp at hy<;>omega
  have ae7:(y.natAbs:Int)=m:=by cases t<;>simp at hy<;>omega
  have h4:=Int.emod_add_mul_ediv x y;have h5:=Int.emod_nonneg x dy;have h6:=Int.emod_lt x dy;rw[ae7] at h6;have h7:y*(x / y-q)=r-x%y:=by rw[Int.mul_sub];omega
  have h8:(x / y-q)=0:=by
   have h9:(y*(x / y-q)).natAbs<m:=by rw[h7];omega
   rw[Int.natAbs_mul,show y.natAbs=m by omega] at h9;have h10:(x / y-q).natAbs=0:=by
    rcases Nat.eq_zero_or_pos (x / y-q).natAbs with h|h
    ·exact h
    ·exfalso
     have:m*1≤m*(x / y-q).natAbs:=Nat.mul_le_mul_left _ h;omega
   omega
  rw[h8,Int.mul_zero] at h7;exact⟨by omega,by omega⟩
 generalize n / m=q at *;generalize n%m=r at *;have e':(n:Int)=m*q+r:=by rw[←e];simp
 constructor
 ·intro h;refine key _ _ ?_ (by omega) (by omega);cases s<;>cases t<;>simp at hx hy h ⊢<;>subst hx<;>subst hy<;>rw[e']<;>(try subst h)<;>simp[Int.neg_mul,Int.mul_neg]
 ·rintro⟨h,h0⟩;refine key _ _ ?_ (by omega) (by omega);have e2:((m-r:Nat):Int)=(m:Int)-r:=by omega
  rw[e2];subst h;cases t<;>simp at hx hy ⊢<;>subst hx<;>subst hy<;>rw[e']<;>simp[Int.neg_mul,Int.mul_neg,Int.mul_add]<;>omega
theorem Dd (w:World) (s t:Bool) (a b c d e f g h:Nat):∃ W,((((w.alloc (.cells #[.bool s,a,b,c,d] 27)).alloc (.cells #[.bool t,e,f,g,h] 27)).alloc (.cells #[false,(),(),(),()] 27)).alloc (.cells #[false,(),(),(),()] 27))=W ∧
 Box W w.heap.size s a b c d∧Box W (w.heap.size+1) t e f g h∧Box W (w.heap.size+1+1) false 0 0 0 0∧Box W (w.heap.size+1+1+1) false 0 0 0 0∧Ext w W:=by
 have h:=Kp w (.cells #[.bool s,a,b,c,d] 27) (.cells #[.bool t,e,f,g,h] 27) (.cells #[false,(),(),(),()] 27) (.cells #[false,(),(),(),()] 27);exact⟨_,rfl,h.1,h.2.1,h.2.2.1,h.2.2.2,(((aA _ _).trans (aA _ _)).trans (aA _ _)).trans (aA _ _)⟩
theorem Box.xc {w:World}{g b':Nat}{s:Bool}{a b c d:Nat} (k:Box w g s a b c d) (h:g≠b') (u0 u1 u2 u3:Value):Box ((((w.setCell ⟨b',0,none⟩ u0).setCell ⟨b',1,none⟩ u1).setCell ⟨b',2,none⟩ u2).setCell ⟨b',3,none⟩ u3) g s a b c d:=by
 unfold Box at *;rw[heap_setCell_other _ _ _ _ (by simpa using h),heap_setCell_other _ _ _ _ (by simpa using h),heap_setCell_other _ _ _ _ (by simpa using h),heap_setCell_other _ _ _ _ (by first|(simp;done)|(simp[h];done))];exact k
theorem bw (w:World) {g b' i:Nat}{u0 u1 u2 u3 u4:Value} (h:g≠b'):(((((w.setCell ⟨b',0,none⟩ u0).setCell ⟨b',1,none⟩ u1).setCell ⟨b',2,none⟩ u2).setCell ⟨b',3,none⟩ u3).setCell ⟨b',4,none⟩ u4).cell? ⟨g,i,none⟩=w.cell? ⟨g,i,none⟩:=by
 rw[World.cell?_setCell_other _ _ _ _ (by first|(simp;done)|(simp[h];done)),World.cell?_setCell_other _ _ _ _ (by first|(simp;done)|(simp[h];done)),World.cell?_setCell_other _ _ _ _ (by first|(simp;done)|(simp[h];done)),World.cell?_setCell_other _ _ _ _ (by first|(simp;done)|(simp[h];done)),World.cell?_setCell_other _ _ _ _ (by first|(simp;done)|(simp[h];done))]
theorem Vh (n m:Nat) (hm:0<m) (aD:n%m≠0) (hn:n<115792089237316195423570985008687907853269984665640564039457584007913129639936):n / m+1<115792089237316195423570985008687907853269984665640564039457584007913129639936:=by
 have h1:m≠1:=fun h=>by subst h;rw[Nat.mod_one] at aD;exact aD rfl
 have e:=Nat.div_add_mod n m;have h2:2*(n / m)≤m*(n / m):=Nat.mul_le_mul_right _ (by omega);omega
theorem aiT (s t:Bool) (a b c d e f g h:Nat) (x y:Int) (w:World) (hy:dg t e f g h y) (dy:y=0) :
 Calls Tryz.prog 123 #[.agg #[.bool s,a,b,c,d],.agg #[.bool t,e,f,g,h]] w (ux x y w):=by
 obtain⟨W,aK,ay,au,aR,dZ,bC⟩:=Dd w s t a b c d e f g h;have aB:=hide aK;have Md:=A5 25 Tryz.underlying25 e f g h false (by rw[decide_eq_false_iff_not,hy.abs,dy];simp);have gB:=hide dy;clear aK hy dy;have fa:=av au;obtain⟨i0,i1,i2,i3,i4,dm,cW,cL,dn,dG⟩:=av aR;obtain⟨iA,bQ,bY,cX,ev,ai,ah,aj,ap,nT⟩:=av dZ;go_enter Tryz.func123,Tryz.ntmps123
 go_upto_region 1 with fail
 rw[aB.out];clear aB;go_wp2_with fail
 exact bodyPost_ret (v:=.tuple #[.agg #[false,(),(),(),()],.agg #[false,(),(),(),()],.bool false]) (by simp[results,Tryz.results123,go_sem,i0,i1,i2,i3,i4,iA,bQ,bY,cX,ev]) rfl (RM gB.out (dr (dr bC (by omega) _ _ _ _ _) (by omega) _ _ _ _ _))
set_option maxRecDepth 100000 in
theorem aiV (t:Bool) (a b c d e f g h:Nat) (x y:Int) (w:World) (hx:dg false a b c d x) (hy:dg t e f g h y) (dy:y≠0) :
 Calls Tryz.prog 123 #[.agg #[false,a,b,c,d],.agg #[.bool t,e,f,g,h]] w (ux x y w):=by
 obtain⟨W,aK,ay,au,aR,dZ,bC⟩:=Dd w false t a b c d e f g h;have aB:=hide aK;obtain⟨n,hn⟩:=aM x.natAbs;obtain⟨m,hm⟩:=aM y.natAbs;have gL:Hid (b0 a b c d=n):=by rw[←hn];exact hx.abs
 have hY:Hid (b0 e f g h=m):=by rw[←hm];exact hy.abs
 have k4:0<m:=by omega
 have bP:=hx.qi;have nG:=hy.qi;obtain⟨u,hu⟩:=aM (false != t);have xr:=BJ false t u hu;have qY:=hide (Gr false t n m x y (by have:=hx.2.2.2.2;rw[gL.out] at this;exact this) (by have:=hy.2.2.2.2;rw[hY.out] at this;exact this) k4);have Md:=A5 25 Tryz.underlying25 e f g h true (by rw[decide_eq_true_iff,hY.out];omega);have yn:=hide hu;clear aK hn hm hx hy hu;obtain⟨bt,az,aU,a_,bK,f0,f1,f2,f3,f4⟩:=av ay;obtain⟨d0,d1,d2,d3,d4,g0,g1,g2,g3,g4⟩:=av au;go_enter Tryz.func123,Tryz.ntmps123
 go_upto_region 1 with fail
 rw[aB.out];clear aB;go_upto_if 29 with (go_at_call 133;refine(NV a b c d e f g h n m gL.out hY.out _ bP nG k4).mono ?_;rintro e' w' ⟨a7,dD,b8,d7,a8,cE,bR,d8,rfl,b6,c8,aO,aD,ad⟩;have dQ:=hide aO;have bq:=hide aD;have cD:=ay.ext ad;have c5:=au.ext ad;have dz:=aR.ext ad;have eu:=dZ.ext ad;obtain⟨bt,az,aU,a_,bK,f0,f1,f2,f3,f4⟩:=av cD;obtain⟨d0,d1,d2,d3,d4,g0,g1,g2,g3,g4⟩:=av c5;have nY:=cD.lt;have y1:=c5.lt;have gK:=dz.lt;have mB:=eu.lt;have z0:w.heap.size<w'.heap.size+1:=(by omega);have fb:w.heap.size+1<w'.heap.size+1:=(by omega);have bS:=bC.trans ad;clear ad aO aD)
 have Cg:Hid ((if u then -((b0 a7 dD b8 d7:Nat):Int) else ((b0 a7 dD b8 d7:Nat):Int))=x / y):=by rw[dQ.out,←yn.out];exact(qY.out.1 (Or.inl (by first|rfl|trivial))).1.symm
 have Ch:Hid (((b0 a8 cE bR d8:Nat):Int)=x%y):=by rw[bq.out];exact(qY.out.1 (Or.inl (by first|rfl|trivial))).2.symm
 have KK:=e1 w' (.cells #[a7,dD,b8,d7] 130) (.cells #[a8,cE,bR,d8] 130);have hX:=(aA w' (.cells #[a7,dD,b8,d7] 130)).trans (aA _ (.cells #[a8,cE,bR,d8] 130));go_cut [] (fun bP=>cn bP w'.heap.size 130 [a7,dD,b8,d7]∧cn bP (w'.heap.size+1) 130 [a8,cE,bR,d8]∧Box bP w.heap.size false a b c d∧Box bP (w.heap.size+1) t e f g h∧Box bP (w.heap.size+1+1) false 0 0 0 0∧Box bP (w.heap.size+1+1+1) false 0 0 0 0∧Ext w bP)
 case first =>
  go_wp2_with fail
  all_goals go_meet
  all_goals exact⟨KK.1,KK.2,cD.ext hX,c5.ext hX,dz.ext hX,eu.ext hX,bS.trans hX⟩
 case rest =>
  clear ay au aR dZ bC cD c5 dz eu bS;obtain⟨sd,sg,ay,au,aR,dZ,bC⟩:=hcut;obtain⟨bt,az,aU,a_,bK,f0,f1,f2,f3,f4⟩:=av ay;obtain⟨d0,d1,d2,d3,d4,g0,g1,g2,g3,g4⟩:=av au;obtain⟨m0,m1,m2,m3,_,_,_,_⟩:=sd.four;obtain⟨ke,b7,cr,cR,_,_,_,_⟩:=sg.four;go_wp2_with fail
  generalize w'.heap.size=eP at *;have mT:w.heap.size≠w.heap.size+1+1:=by omega
  have s4:w.heap.size≠w.heap.size+1+1+1:=by omega
  have mU:w.heap.size+1≠w.heap.size+1+1:=by omega
  have s5:w.heap.size+1≠w.heap.size+1+1+1:=by omega
  have gF:eP≠w.heap.size+1+1:=by omega
  have gG:eP≠w.heap.size+1+1+1:=by omega
  have gH:eP+1≠w.heap.size+1+1:=by omega
  have gI:eP+1≠w.heap.size+1+1+1:=by omega
  go_region_held3 (fun w'=>w'.cell? ⟨w.heap.size,0,none⟩=some (.bool false)∧w'.cell? ⟨w.heap.size+1,0,none⟩=some (.bool t)∧w'.cell? ⟨eP,0,none⟩=some (.int .u64 (a7:Int))∧w'.cell? ⟨eP,1,none⟩=some (.int .u64 (dD:Int))∧w'.cell? ⟨eP,2,none⟩=some (.int .u64 (b8:Int))∧w'.cell? ⟨eP,3,none⟩=some (.int .u64 (d7:Int))∧w'.cell? ⟨eP+1,0,none⟩=some (.int .u64 (a8:Int))∧w'.cell? ⟨eP+1,1,none⟩=some (.int .u64 (cE:Int))∧w'.cell? ⟨eP+1,2,none⟩=some (.int .u64 (bR:Int))∧w'.cell? ⟨eP+1,3,none⟩=some (.int .u64 (d8:Int))) (first|(with_reducible exact⟨bt,d0,m0,m1,m2,m3,ke,b7,cr,cR⟩)|(with_reducible exact⟨(bw _ mT).trans bt,(bw _ mU).trans d0,(bw _ gF).trans m0,(bw _ gF).trans m1,(bw _ gF).trans m2,(bw _ gF).trans m3,(bw _ gH).trans ke,(bw _ gH).trans b7,(bw _ gH).trans cr,(bw _ gH).trans cR⟩)|(with_reducible exact⟨(bw _ s4).trans bt,(bw _ s5).trans d0,(bw _ gG).trans m0,(bw _ gG).trans m1,(bw _ gG).trans m2,(bw _ gG).trans m3,(bw _ gI).trans ke,(bw _ gI).trans b7,(bw _ gI).trans cr,(bw _ gI).trans cR⟩)|(with_reducible exact⟨(bw _ s4).trans ((bw _ mT).trans bt),(bw _ s5).trans ((bw _ mU).trans d0),(bw _ gG).trans ((bw _ gF).trans m0),(bw _ gG).trans ((bw _ gF).trans m1),(bw _ gG).trans ((bw _ gF).trans m2),(bw _ gG).trans ((bw _ gF).trans m3),(bw _ gI).trans ((bw _ gH).trans ke),(bw _ gI).trans ((bw _ gH).trans b7),(bw _ gI).trans ((bw _ gH).trans cr),(bw _ gI).trans ((bw _ gH).trans cR)⟩)|(with_reducible exact⟨(bw _ mT).trans ((bw _ s4).trans bt),(bw _ mU).trans ((bw _ s5).trans d0),(bw _ gF).trans ((bw _ gG).trans m0),(bw _ gF).trans ((bw _ gG).trans m1),(bw _ gF).trans ((bw _ gG).trans m2),(bw _ gF).trans ((bw _ gG).trans m3),(bw _ gH).trans ((bw _ gI).trans ke),(bw _ gH).trans ((bw _ gI).trans b7),(bw _ gH).trans ((bw _ gI).trans cr),(bw _ gH).trans ((bw _ gI).trans cR)⟩)|go_keep) (first
   | (go_at_call_of 113 (Value.bool u);refine(qN u a7 dD b8 d7 _ (ez b6).1 (ez b6).2.1 (ez b6).2.2.1 (ez b6).2.2.2).mono ?_;rintro e' b6 ⟨s',a',b',c',d',rfl,hC,ad⟩;rw[Cg.out] at hC;have wN:Box b6 w.heap.size false a b c d:=(by first|exact wU.ext ad|exact ay.drew.ext ad);have wO:Box b6 (w.heap.size+1) t e f g h:=(by first|exact wV.ext ad|exact au.drew.ext ad);have wP:Box b6 (w.heap.size+1+1) false 0 0 0 0:=(by first|exact wW.ext ad|exact aR.drew.ext ad);have wQ:Box b6 (w.heap.size+1+1+1) false 0 0 0 0:=(by first|exact wX.ext ad|exact dZ.drew.ext ad);have wR:cn b6 eP 130 [a7,dD,b8,d7]:=(by first|exact wY.ext ad|exact sd.drew.ext ad);have wS:cn b6 (eP+1) 130 [a8,cE,bR,d8]:=(by first|exact wZ.ext ad|exact sg.drew.ext ad);have wT:Ext w b6:=(by first|exact w0.trans ad|exact(bC.trans (b5 _)).trans ad);have wz:=wT;obtain⟨bt,az,aU,a_,bK,f0,f1,f2,f3,f4⟩:=av wN;obtain⟨d0,d1,d2,d3,d4,g0,g1,g2,g3,g4⟩:=av wO;obtain⟨i0,i1,i2,i3,i4,dm,cW,cL,dn,dG⟩:=av wP;obtain⟨iA,bQ,bY,cX,ev,ai,ah,aj,ap,nT⟩:=av wQ;obtain⟨m0,m1,m2,m3,_,_,_,_⟩:=wR.four;obtain⟨ke,b7,cr,cR,_,_,_,_⟩:=wS.four;clear ad)
   | (go_at_call_of 113 (Value.bool false);refine(qN false a8 cE bR d8 _ (ez c8).1 (ez c8).2.1 (ez c8).2.2.1 (ez c8).2.2.2).mono ?_;rintro e' c8 ⟨s2,a2,bX,CK,CU,rfl,sD,ad⟩;simp only[Bool.false_eq_true,if_false] at sD;rw[Ch.out] at sD;have wU:Box c8 w.heap.size false a b c d:=(by first|exact wN.ext ad|exact ay.drew.ext ad);have wV:Box c8 (w.heap.size+1) t e f g h:=(by first|exact wO.ext ad|exact au.drew.ext ad);have wW:Box c8 (w.heap.size+1+1) false 0 0 0 0:=(by first|exact wP.ext ad|exact aR.drew.ext ad);have wX:Box c8 (w.heap.size+1+1+1) false 0 0 0 0:=(by first|exact wQ.ext ad|exact dZ.drew.ext ad);have wY:cn c8 eP 130 [a7,dD,b8,d7]:=(by first|exact wR.ext ad|exact sd.drew.ext ad);have wZ:cn c8 (eP+1) 130 [a8,cE,bR,d8]:=(by first|exact wS.ext ad|exact sg.drew.ext ad);have w0:Ext w c8:=(by first|exact wT.trans ad|exact(bC.trans (b5 _)).trans ad);have wz:=w0;obtain⟨bt,az,aU,a_,bK,f0,f1,f2,f3,f4⟩:=av wU;obtain⟨d0,d1,d2,d3,d4,g0,g1,g2,g3,g4⟩:=av wV;obtain⟨i0,i1,i2,i3,i4,dm,cW,cL,dn,dG⟩:=av wW;obtain⟨iA,bQ,bY,cX,ev,ai,ah,aj,ap,nT⟩:=av wX;obtain⟨m0,m1,m2,m3,_,_,_,_⟩:=wY.four;obtain⟨ke,b7,cr,cR,_,_,_,_⟩:=wZ.four;clear ad))
  all_goals go_wp2_with fail
  all_goals exact bodyPost_ret (v:=.tuple #[.agg #[.bool s',a',b',c',d'],.agg #[.bool s2,a2,bX,CK,CU],.bool true]) (by simp[results,Tryz.results123,go_sem,i0,i1,i2,i3,i4,iA,bQ,bY,cX,ev]) rfl (A1 dy hC sD (dr (dr wz (by omega) _ _ _ _ _) (by omega) _ _ _ _ _))
set_option maxRecDepth 100000 in
theorem aiS (t:Bool) (a b c d e f g h:Nat) (x y:Int) (w:World) (hx:dg true a b c d x) (hy:dg t e f g h y) (dy:y≠0) (hz:x.natAbs%y.natAbs=0) :
 Calls Tryz.prog 123 #[.agg #[true,a,b,c,d],.agg #[.bool t,e,f,g,h]] w (ux x y w):=by
 obtain⟨W,aK,ay,au,aR,dZ,bC⟩:=Dd w true t a b c d e f g h;have aB:=hide aK;have bf:=hz;clear hz;obtain⟨n,hn⟩:=aM x.natAbs;obtain⟨m,hm⟩:=aM y.natAbs;have gL:Hid (b0 a b c d=n):=by rw[←hn];exact hx.abs
 have hY:Hid (b0 e f g h=m):=by rw[←hm];exact hy.abs
 have k4:0<m:=by omega
 have bP:=hx.qi;have nG:=hy.qi;obtain⟨u,hu⟩:=aM (true != t);have xr:=BJ true t u hu;have qY:=hide (Gr true t n m x y (by have:=hx.2.2.2.2;rw[gL.out] at this;exact this) (by have:=hy.2.2.2.2;rw[hY.out] at this;exact this) k4);have Md:=A5 25 Tryz.underlying25 e f g h true (by rw[decide_eq_true_iff,hY.out];omega);have yn:=hide hu;rw[hn,hm] at bf;have wD:=hide bf;clear bf aK hn hm hx hy hu;obtain⟨bt,az,aU,a_,bK,f0,f1,f2,f3,f4⟩:=av ay;obtain⟨d0,d1,d2,d3,d4,g0,g1,g2,g3,g4⟩:=av au;go_enter Tryz.func123,Tryz.ntmps123
 go_upto_region 1 with fail
 rw[aB.out];clear aB;go_upto_if 29 with (go_at_call 133;refine(NV a b c d e f g h n m gL.out hY.out _ bP nG k4).mono ?_;rintro e' w' ⟨a7,dD,b8,d7,a8,cE,bR,d8,rfl,b6,c8,aO,aD,ad⟩;have dQ:=hide aO;have bq:=hide aD;have cD:=ay.ext ad;have c5:=au.ext ad;have dz:=aR.ext ad;have eu:=dZ.ext ad;obtain⟨bt,az,aU,a_,bK,f0,f1,f2,f3,f4⟩:=av cD;obtain⟨d0,d1,d2,d3,d4,g0,g1,g2,g3,g4⟩:=av c5;have nY:=cD.lt;have y1:=c5.lt;have gK:=dz.lt;have mB:=eu.lt;have z0:w.heap.size<w'.heap.size+1:=(by omega);have fb:w.heap.size+1<w'.heap.size+1:=(by omega);have bS:=bC.trans ad;clear ad aO aD;have D_:=Hl 130 Tryz.underlying130 a8 cE bR d8 false (by rw[decide_eq_false_iff_not,bq.out,wD.out];simp))
 have Cg:Hid ((if u then -((b0 a7 dD b8 d7:Nat):Int) else ((b0 a7 dD b8 d7:Nat):Int))=x / y):=by rw[dQ.out,←yn.out];exact(qY.out.1 (Or.inr wD.out)).1.symm
 have Ch:Hid (((b0 a8 cE bR d8:Nat):Int)=x%y):=by rw[bq.out];exact(qY.out.1 (Or.inr wD.out)).2.symm
 have KK:=e1 w' (.cells #[a7,dD,b8,d7] 130) (.cells #[a8,cE,bR,d8] 130);have hX:=(aA w' (.cells #[a7,dD,b8,d7] 130)).trans (aA _ (.cells #[a8,cE,bR,d8] 130));go_cut [] (fun bP=>cn bP w'.heap.size 130 [a7,dD,b8,d7]∧cn bP (w'.heap.size+1) 130 [a8,cE,bR,d8]∧Box bP w.heap.size true a b c d∧Box bP (w.heap.size+1) t e f g h∧Box bP (w.heap.size+1+1) false 0 0 0 0∧Box bP (w.heap.size+1+1+1) false 0 0 0 0∧Ext w bP)
 case first =>
  go_wp2_with fail
  all_goals go_meet
  all_goals exact⟨KK.1,KK.2,cD.ext hX,c5.ext hX,dz.ext hX,eu.ext hX,bS.trans hX⟩
 case rest =>
  clear ay au aR dZ bC cD c5 dz eu bS;obtain⟨sd,sg,ay,au,aR,dZ,bC⟩:=hcut;obtain⟨bt,az,aU,a_,bK,f0,f1,f2,f3,f4⟩:=av ay;obtain⟨d0,d1,d2,d3,d4,g0,g1,g2,g3,g4⟩:=av au;obtain⟨m0,m1,m2,m3,_,_,_,_⟩:=sd.four;obtain⟨ke,b7,cr,cR,_,_,_,_⟩:=sg.four;go_wp2_with fail
  generalize w'.heap.size=eP at *;have mT:w.heap.size≠w.heap.size+1+1:=by omega
  have s4:w.heap.size≠w.heap.size+1+1+1:=by omega
  have mU:w.heap.size+1≠w.heap.size+1+1:=by omega
  have s5:w.heap.size+1≠w.heap.size+1+1+1:=by omega
  have gF:eP≠w.heap.size+1+1:=by omega
  have gG:eP≠w.heap.size+1+1+1:=by omega
  have gH:eP+1≠w.heap.size+1+1:=by omega
  have gI:eP+1≠w.heap.size+1+1+1:=by omega
  go_region_held3 (fun w'=>w'.cell? ⟨w.heap.size,0,none⟩=some (.bool true)∧w'.cell? ⟨w.heap.size+1,0,none⟩=some (.bool t)∧w'.cell? ⟨eP,0,none⟩=some (.int .u64 (a7:Int))∧w'.cell? ⟨eP,1,none⟩=some (.int .u64 (dD:Int))∧w'.cell? ⟨eP,2,none⟩=some (.int .u64 (b8:Int))∧w'.cell? ⟨eP,3,none⟩=some (.int .u64 (d7:Int))∧w'.cell? ⟨eP+1,0,none⟩=some (.int .u64 (a8:Int))∧w'.cell? ⟨eP+1,1,none⟩=some (.int .u64 (cE:Int))∧w'.cell? ⟨eP+1,2,none⟩=some (.int .u64 (bR:Int))∧w'.cell? ⟨eP+1,3,none⟩=some (.int .u64 (d8:Int))) (first|(with_reducible exact⟨bt,d0,m0,m1,m2,m3,ke,b7,cr,cR⟩)|(with_reducible exact⟨(bw _ mT).trans bt,(bw _ mU).trans d0,(bw _ gF).trans m0,(bw _ gF).trans m1,(bw _ gF).trans m2,(bw _ gF).trans m3,(bw _ gH).trans ke,(bw _ gH).trans b7,(bw _ gH).trans cr,(bw _ gH).trans cR⟩)|(with_reducible exact⟨(bw _ s4).trans bt,(bw _ s5).trans d0,(bw _ gG).trans m0,(bw _ gG).trans m1,(bw _ gG).trans m2,(bw _ gG).trans m3,(bw _ gI).trans ke,(bw _ gI).trans b7,(bw _ gI).trans cr,(bw _ gI).trans cR⟩)|(with_reducible exact⟨(bw _ s4).trans ((bw _ mT).trans bt),(bw _ s5).trans ((bw _ mU).trans d0),(bw _ gG).trans ((bw _ gF).trans m0),(bw _ gG).trans ((bw _ gF).trans m1),(bw _ gG).trans ((bw _ gF).trans m2),(bw _ gG).trans ((bw _ gF).trans m3),(bw _ gI).trans ((bw _ gH).trans ke),(bw _ gI).trans ((bw _ gH).trans b7),(bw _ gI).trans ((bw _ gH).trans cr),(bw _ gI).trans ((bw _ gH).trans cR)⟩)|(with_reducible exact⟨(bw _ mT).trans ((bw _ s4).trans bt),(bw _ mU).trans ((bw _ s5).trans d0),(bw _ gF).trans ((bw _ gG).trans m0),(bw _ gF).trans ((bw _ gG).trans m1),(bw _ gF).trans ((bw _ gG).trans m2),(bw _ gF).trans ((bw _ gG).trans m3),(bw _ gH).trans ((bw _ gI).trans ke),(bw _ gH).trans ((bw _ gI).trans b7),(bw _ gH).trans ((bw _ gI).trans cr),(bw _ gH).trans ((bw _ gI).trans cR)⟩)|go_keep) (first
   | (go_at_call_of 113 (Value.bool u);refine(qN u a7 dD b8 d7 _ (ez b6).1 (ez b6).2.1 (ez b6).2.2.1 (ez b6).2.2.2).mono ?_;rintro e' b6 ⟨s',a',b',c',d',rfl,hC,ad⟩;rw[Cg.out] at hC;have wN:Box b6 w.heap.size true a b c d:=(by first|exact wU.ext ad|exact ay.drew.ext ad);have wO:Box b6 (w.heap.size+1) t e f g h:=(by first|exact wV.ext ad|exact au.drew.ext ad);have wP:Box b6 (w.heap.size+1+1) false 0 0 0 0:=(by first|exact wW.ext ad|exact aR.drew.ext ad);have wQ:Box b6 (w.heap.size+1+1+1) false 0 0 0 0:=(by first|exact wX.ext ad|exact dZ.drew.ext ad);have wR:cn b6 eP 130 [a7,dD,b8,d7]:=(by first|exact wY.ext ad|exact sd.drew.ext ad);have wS:cn b6 (eP+1) 130 [a8,cE,bR,d8]:=(by first|exact wZ.ext ad|exact sg.drew.ext ad);have wT:Ext w b6:=(by first|exact w0.trans ad|exact(bC.trans (b5 _)).trans ad);have wz:=wT;obtain⟨bt,az,aU,a_,bK,f0,f1,f2,f3,f4⟩:=av wN;obtain⟨d0,d1,d2,d3,d4,g0,g1,g2,g3,g4⟩:=av wO;obtain⟨i0,i1,i2,i3,i4,dm,cW,cL,dn,dG⟩:=av wP;obtain⟨iA,bQ,bY,cX,ev,ai,ah,aj,ap,nT⟩:=av wQ;obtain⟨m0,m1,m2,m3,_,_,_,_⟩:=wR.four;obtain⟨ke,b7,cr,cR,_,_,_,_⟩:=wS.four;clear ad)
   | (go_at_call_of 113 (Value.bool false);refine(qN false a8 cE bR d8 _ (ez c8).1 (ez c8).2.1 (ez c8).2.2.1 (ez c8).2.2.2).mono ?_;rintro e' c8 ⟨s2,a2,bX,CK,CU,rfl,sD,ad⟩;simp only[Bool.false_eq_true,if_false] at sD;rw[Ch.out] at sD;have wU:Box c8 w.heap.size true a b c d:=(by first|exact wN.ext ad|exact ay.drew.ext ad);have wV:Box c8 (w.heap.size+1) t e f g h:=(by first|exact wO.ext ad|exact au.drew.ext ad);have wW:Box c8 (w.heap.size+1+1) false 0 0 0 0:=(by first|exact wP.ext ad|exact aR.drew.ext ad);have wX:Box c8 (w.heap.size+1+1+1) false 0 0 0 0:=(by first|exact wQ.ext ad|exact dZ.drew.ext ad);have wY:cn c8 eP 130 [a7,dD,b8,d7]:=(by first|exact wR.ext ad|exact sd.drew.ext ad);have wZ:cn c8 (eP+1) 130 [a8,cE,bR,d8]:=(by first|exact wS.ext ad|exact sg.drew.ext ad);have w0:Ext w c8:=(by first|exact wT.trans ad|exact(bC.trans (b5 _)).trans ad);have wz:=w0;obtain⟨bt,az,aU,a_,bK,f0,f1,f2,f3,f4⟩:=av wU;obtain⟨d0,d1,d2,d3,d4,g0,g1,g2,g3,g4⟩:=av wV;obtain⟨i0,i1,i2,i3,i4,dm,cW,cL,dn,dG⟩:=av wW;obtain⟨iA,bQ,bY,cX,ev,ai,ah,aj,ap,nT⟩:=av wX;obtain⟨m0,m1,m2,m3,_,_,_,_⟩:=wY.four;obtain⟨ke,b7,cr,cR,_,_,_,_⟩:=wZ.four;clear ad))
  all_goals go_wp2_with fail
  all_goals exact bodyPost_ret (v:=.tuple #[.agg #[.bool s',a',b',c',d'],.agg #[.bool s2,a2,bX,CK,CU],.bool true]) (by simp[results,Tryz.results123,go_sem,i0,i1,i2,i3,i4,iA,bQ,bY,cX,ev]) rfl (A1 dy hC sD (dr (dr wz (by omega) _ _ _ _ _) (by omega) _ _ _ _ _))
set_option maxRecDepth 100000 in
theorem aiU (t:Bool) (a b c d e f g h:Nat) (x y:Int) (w:World) (hx:dg true a b c d x) (hy:dg t e f g h y) (dy:y≠0) (hz:x.natAbs%y.natAbs≠0) :
 Calls Tryz.prog 123 #[.agg #[true,a,b,c,d],.agg #[.bool t,e,f,g,h]] w (ux x y w):=by
 obtain⟨W,aK,ay,au,aR,dZ,bC⟩:=Dd w true t a b c d e f g h;have aB:=hide aK;have bf:=hz;clear hz;obtain⟨n,hn⟩:=aM x.natAbs;obtain⟨m,hm⟩:=aM y.natAbs;have gL:Hid (b0 a b c d=n):=by rw[←hn];exact hx.abs
 have hY:Hid (b0 e f g h=m):=by rw[←hm];exact hy.abs
 have k4:0<m:=by omega
 have bP:=hx.qi;have nG:=hy.qi;obtain⟨u,hu⟩:=aM (true != t);have xr:=BJ true t u hu;have qY:=hide (Gr true t n m x y (by have:=hx.2.2.2.2;rw[gL.out] at this;exact this) (by have:=hy.2.2.2.2;rw[hY.out] at this;exact this) k4);have Md:=A5 25 Tryz.underlying25 e f g h true (by rw[decide_eq_true_iff,hY.out];omega);have yn:=hide hu;rw[hn,hm] at bf;have wD:=hide bf;clear bf aK hn hm hx hy hu;obtain⟨bt,az,aU,a_,bK,f0,f1,f2,f3,f4⟩:=av ay;obtain⟨d0,d1,d2,d3,d4,g0,g1,g2,g3,g4⟩:=av au;go_enter Tryz.func123,Tryz.ntmps123
 go_upto_region 1 with fail
 rw[aB.out];clear aB;go_upto_if 29 with (go_at_call 133;refine(NV a b c d e f g h n m gL.out hY.out _ bP nG k4).mono ?_;rintro e' w' ⟨a7,dD,b8,d7,a8,cE,bR,d8,rfl,b6,c8,aO,aD,ad⟩;have dQ:=hide aO;have bq:=hide aD;have cD:=ay.ext ad;have c5:=au.ext ad;have dz:=aR.ext ad;have eu:=dZ.ext ad;obtain⟨bt,az,aU,a_,bK,f0,f1,f2,f3,f4⟩:=av cD;obtain⟨d0,d1,d2,d3,d4,g0,g1,g2,g3,g4⟩:=av c5;have nY:=cD.lt;have y1:=c5.lt;have gK:=dz.lt;have mB:=eu.lt;have z0:w.heap.size<w'.heap.size+1:=(by omega);have fb:w.heap.size+1<w'.heap.size+1:=(by omega);have bS:=bC.trans ad;clear ad aO aD;have D_:=Hl 130 Tryz.underlying130 a8 cE bR d8 true (by rw[decide_eq_true_iff,bq.out];exact wD.out))
 have IJ:Hid (n%m<m):=Nat.mod_lt n k4;have W2:Hid ((n / m+1)%115792089237316195423570985008687907853269984665640564039457584007913129639936=n / m+1):=by
  refine Nat.mod_eq_of_lt ?_;have h1:=qM (ez bP).1 (ez bP).2.1 (ez bP).2.2.1 (ez bP).2.2.2;rw[gL.out] at h1;exact Vh n m k4 wD.out h1
 have W6:Hid (b0 1 0 0 0=1):=by simp[Hid,b0,val]
 have ans:cp [1,0,0,0]:=by intro x hx;simp at hx;omega
 have SH:=fun W=>NT a7 dD b8 d7 1 0 0 0 (n / m) 1 dQ.out W6.out W b6 ans
 have WX:=hide SH;clear SH;go_cut [] (fun bP=>∃ a9 ix c2 d9 a5 c1 cy d5:Nat,cp [a9,ix,c2,d9]∧cp [a5,c1,cy,d5]∧Hid (b0 a9 ix c2 d9=n / m+1)∧Hid (b0 a5 c1 cy d5=m-n%m)∧cn bP w'.heap.size 130 [a9,ix,c2,d9]∧cn bP (w'.heap.size+1) 130 [a5,c1,cy,d5]∧Box bP w.heap.size true a b c d∧Box bP (w.heap.size+1) t e f g h∧Box bP (w.heap.size+1+1) false 0 0 0 0∧Box bP (w.heap.size+1+1+1) false 0 0 0 0∧Ext w bP)
 case first =>
  have KK:=e1 w' (.cells #[a7,dD,b8,d7] 130) (.cells #[a8,cE,bR,d8] 130);have hX:=(aA w' (.cells #[a7,dD,b8,d7] 130)).trans (aA _ (.cells #[a8,cE,bR,d8] 130));have bl:cn ((w'.alloc (.cells #[a7,dD,b8,d7] 130)).alloc (.cells #[a8,cE,bR,d8] 130)) w'.heap.size 130 [a7,dD,b8,d7]:=KK.1;have aJ:cn ((w'.alloc (.cells #[a7,dD,b8,d7] 130)).alloc (.cells #[a8,cE,bR,d8] 130)) (w'.heap.size+1) 130 [a8,cE,bR,d8]:=KK.2;have cC:=cD.ext hX;have aS:=c5.ext hX;have ak:=dz.ext hX;have aq:=eu.ext hX;have XA:=bS.trans hX;clear KK;go_wp2_with (first
   | (go_at_call 128;refine(WX.out _).mono ?_;rintro e' bm ⟨a9,ix,c2,d9,rfl,cN,xt,ad⟩;rw[W2.out] at xt;have W7:=hide xt;have pT:=bl.ext ad;have AP:=aJ.ext ad;have FZ:=cC.ext ad;have jj:=aS.ext ad;have iO:=ak.ext ad;have pS:=aq.ext ad;have XC:=XA.trans ad;obtain⟨m0,m1,m2,m3,cT,aC,aW,EG⟩:=pT.four;obtain⟨ke,b7,cr,cR,p0,p1,p2,zN⟩:=AP.four;obtain⟨d0,d1,d2,d3,d4,g0,g1,g2,g3,g4⟩:=av jj;clear ad xt)
   | (go_at_call 129;refine(N1 e f g h a8 cE bR d8 m (n%m) hY.out bq.out _ nG c8 (Nat.le_of_lt IJ.out)).mono ?_;rintro e' cg ⟨a5,c1,cy,d5,rfl,B5,D',ad⟩;have II:=hide D';have kJ:=((((pT.set 0 a9).set 1 ix).set 2 c2).set 3 d9).ext ad;have q2:=((((AP.cI (b:=w'.heap.size) (by omega) 0 (.int .u64 (a9:Int))).cI (b:=w'.heap.size) (by omega) 1 (.int .u64 (ix:Int))).cI (b:=w'.heap.size) (by omega) 2 (.int .u64 (c2:Int))).cI (b:=w'.heap.size) (by omega) 3 (.int .u64 (d9:Int))).ext ad;have uM:=(FZ.xc (b':=w'.heap.size) (by omega) (.int .u64 (a9:Int)) (.int .u64 (ix:Int)) (.int .u64 (c2:Int)) (.int .u64 (d9:Int))).ext ad;have T1:=(jj.xc (b':=w'.heap.size) (by omega) (.int .u64 (a9:Int)) (.int .u64 (ix:Int)) (.int .u64 (c2:Int)) (.int .u64 (d9:Int))).ext ad;have kr:=(iO.xc (b':=w'.heap.size) (by omega) (.int .u64 (a9:Int)) (.int .u64 (ix:Int)) (.int .u64 (c2:Int)) (.int .u64 (d9:Int))).ext ad;have oD:=(pS.xc (b':=w'.heap.size) (by omega) (.int .u64 (a9:Int)) (.int .u64 (ix:Int)) (.int .u64 (c2:Int)) (.int .u64 (d9:Int))).ext ad;have QZ:=(o9 XC (b:=w'.heap.size) (by omega) (.int .u64 (a9:Int)) (.int .u64 (ix:Int)) (.int .u64 (c2:Int)) (.int .u64 (d9:Int))).trans ad;obtain⟨ke,b7,cr,cR,p0,p1,p2,zN⟩:=q2.four;clear ad D'))
  all_goals go_meet
  all_goals exact⟨a9,ix,c2,d9,a5,c1,cy,d5,cN,B5,W7,II,(((kJ.cI (by omega) _ _).cI (by omega) _ _).cI (by omega) _ _).cI (by omega) _ _,(((q2.set 0 a5).set 1 c1).set 2 cy).set 3 d5,uM.xc (by omega) _ _ _ _,T1.xc (by omega) _ _ _ _,kr.xc (by omega) _ _ _ _,oD.xc (by omega) _ _ _ _,o9 QZ (by omega) _ _ _ _⟩
 case rest =>
  obtain⟨a9,ix,c2,d9,a5,c1,cy,d5,cN,B5,W8,II,hcut⟩:=hcut;have Cg:Hid ((if u then -((b0 a9 ix c2 d9:Nat):Int) else ((b0 a9 ix c2 d9:Nat):Int))=x / y):=by rw[W8.out,←yn.out];exact(qY.out.2 ⟨(by first|rfl|trivial),wD.out⟩).1.symm
  have Ch:Hid (((b0 a5 c1 cy d5:Nat):Int)=x%y):=by rw[II.out];exact(qY.out.2 ⟨(by first|rfl|trivial),wD.out⟩).2.symm
  clear ay au aR dZ bC cD c5 dz eu bS;obtain⟨sd,sg,ay,au,aR,dZ,bC⟩:=hcut;obtain⟨bt,az,aU,a_,bK,f0,f1,f2,f3,f4⟩:=av ay;obtain⟨d0,d1,d2,d3,d4,g0,g1,g2,g3,g4⟩:=av au;obtain⟨m0,m1,m2,m3,_,_,_,_⟩:=sd.four;obtain⟨ke,b7,cr,cR,_,_,_,_⟩:=sg.four;go_wp2_with fail
  generalize w'.heap.size=eP at *;have mT:w.heap.size≠w.heap.size+1+1:=by omega
  have s4:w.heap.size≠w.heap.size+1+1+1:=by omega
  have mU:w.heap.size+1≠w.heap.size+1+1:=by omega
  have s5:w.heap.size+1≠w.heap.size+1+1+1:=by omega
  have gF:eP≠w.heap.size+1+1:=by omega
  have gG:eP≠w.heap.size+1+1+1:=by omega
  have gH:eP+1≠w.heap.size+1+1:=by omega
  have gI:eP+1≠w.heap.size+1+1+1:=by omega
  go_region_held3 (fun w'=>w'.cell? ⟨w.heap.size,0,none⟩=some (.bool true)∧w'.cell? ⟨w.heap.size+1,0,none⟩=some (.bool t)∧w'.cell? ⟨eP,0,none⟩=some (.int .u64 (a9:Int))∧w'.cell? ⟨eP,1,none⟩=some (.int .u64 (ix:Int))∧w'.cell? ⟨eP,2,none⟩=some (.int .u64 (c2:Int))∧w'.cell? ⟨eP,3,none⟩=some (.int .u64 (d9:Int))∧w'.cell? ⟨eP+1,0,none⟩=some (.int .u64 (a5:Int))∧w'.cell? ⟨eP+1,1,none⟩=some (.int .u64 (c1:Int))∧w'.cell? ⟨eP+1,2,none⟩=some (.int .u64 (cy:Int))∧w'.cell? ⟨eP+1,3,none⟩=some (.int .u64 (d5:Int))) (first|(with_reducible exact⟨bt,d0,m0,m1,m2,m3,ke,b7,cr,cR⟩)|(with_reducible exact⟨(bw _ mT).trans bt,(bw _ mU).trans d0,(bw _ gF).trans m0,(bw _ gF).trans m1,(bw _ gF).trans m2,(bw _ gF).trans m3,(bw _ gH).trans ke,(bw _ gH).trans b7,(bw _ gH).trans cr,(bw _ gH).trans cR⟩)|(with_reducible exact⟨(bw _ s4).trans bt,(bw _ s5).trans d0,(bw _ gG).trans m0,(bw _ gG).trans m1,(bw _ gG).trans m2,(bw _ gG).trans m3,(bw _ gI).trans ke,(bw _ gI).trans b7,(bw _ gI).trans cr,(bw _ gI).trans cR⟩)|(with_reducible exact⟨(bw _ s4).trans ((bw _ mT).trans bt),(bw _ s5).trans ((bw _ mU).trans d0),(bw _ gG).trans ((bw _ gF).trans m0),(bw _ gG).trans ((bw _ gF).trans m1),(bw _ gG).trans ((bw _ gF).trans m2),(bw _ gG).trans ((bw _ gF).trans m3),(bw _ gI).trans ((bw _ gH).trans ke),(bw _ gI).trans ((bw _ gH).trans b7),(bw _ gI).trans ((bw _ gH).trans cr),(bw _ gI).trans ((bw _ gH).trans cR)⟩)|(with_reducible exact⟨(bw _ mT).trans ((bw _ s4).trans bt),(bw _ mU).trans ((bw _ s5).trans d0),(bw _ gF).trans ((bw _ gG).trans m0),(bw _ gF).trans ((bw _ gG).trans m1),(bw _ gF).trans ((bw _ gG).trans m2),(bw _ gF).trans ((bw _ gG).trans m3),(bw _ gH).trans ((bw _ gI).trans ke),(bw _ gH).trans ((bw _ gI).trans b7),(bw _ gH).trans ((bw _ gI).trans cr),(bw _ gH).trans ((bw _ gI).trans cR)⟩)|go_keep) (first
   | (go_at_call_of 113 (Value.bool u);refine(qN u a9 ix c2 d9 _ (ez cN).1 (ez cN).2.1 (ez cN).2.2.1 (ez cN).2.2.2).mono ?_;rintro e' b6 ⟨s',a',b',c',d',rfl,hC,ad⟩;rw[Cg.out] at hC;have wN:Box b6 w.heap.size true a b c d:=(by first|exact wU.ext ad|exact ay.drew.ext ad);have wO:Box b6 (w.heap.size+1) t e f g h:=(by first|exact wV.ext ad|exact au.drew.ext ad);have wP:Box b6 (w.heap.size+1+1) false 0 0 0 0:=(by first|exact wW.ext ad|exact aR.drew.ext ad);have wQ:Box b6 (w.heap.size+1+1+1) false 0 0 0 0:=(by first|exact wX.ext ad|exact dZ.drew.ext ad);have wR:cn b6 eP 130 [a9,ix,c2,d9]:=(by first|exact wY.ext ad|exact sd.drew.ext ad);have wS:cn b6 (eP+1) 130 [a5,c1,cy,d5]:=(by first|exact wZ.ext ad|exact sg.drew.ext ad);have wT:Ext w b6:=(by first|exact w0.trans ad|exact(bC.trans (b5 _)).trans ad);have wz:=wT;obtain⟨bt,az,aU,a_,bK,f0,f1,f2,f3,f4⟩:=av wN;obtain⟨d0,d1,d2,d3,d4,g0,g1,g2,g3,g4⟩:=av wO;obtain⟨i0,i1,i2,i3,i4,dm,cW,cL,dn,dG⟩:=av wP;obtain⟨iA,bQ,bY,cX,ev,ai,ah,aj,ap,nT⟩:=av wQ;obtain⟨m0,m1,m2,m3,_,_,_,_⟩:=wR.four;obtain⟨ke,b7,cr,cR,_,_,_,_⟩:=wS.four;clear ad)
   | (go_at_call_of 113 (Value.bool false);refine(qN false a5 c1 cy d5 _ (ez B5).1 (ez B5).2.1 (ez B5).2.2.1 (ez B5).2.2.2).mono ?_;rintro e' c8 ⟨s2,a2,bX,CK,CU,rfl,sD,ad⟩;simp only[Bool.false_eq_true,if_false] at sD;rw[Ch.out] at sD;have wU:Box c8 w.heap.size true a b c d:=(by first|exact wN.ext ad|exact ay.drew.ext ad);have wV:Box c8 (w.heap.size+1) t e f g h:=(by first|exact wO.ext ad|exact au.drew.ext ad);have wW:Box c8 (w.heap.size+1+1) false 0 0 0 0:=(by first|exact wP.ext ad|exact aR.drew.ext ad);have wX:Box c8 (w.heap.size+1+1+1) false 0 0 0 0:=(by first|exact wQ.ext ad|exact dZ.drew.ext ad);have wY:cn c8 eP 130 [a9,ix,c2,d9]:=(by first|exact wR.ext ad|exact sd.drew.ext ad);have wZ:cn c8 (eP+1) 130 [a5,c1,cy,d5]:=(by first|exact wS.ext ad|exact sg.drew.ext ad);have w0:Ext w c8:=(by first|exact wT.trans ad|exact(bC.trans (b5 _)).trans ad);have wz:=w0;obtain⟨bt,az,aU,a_,bK,f0,f1,f2,f3,f4⟩:=av wU;obtain⟨d0,d1,d2,d3,d4,g0,g1,g2,g3,g4⟩:=av wV;obtain⟨i0,i1,i2,i3,i4,dm,cW,cL,dn,dG⟩:=av wW;obtain⟨iA,bQ,bY,cX,ev,ai,ah,aj,ap,nT⟩:=av wX;obtain⟨m0,m1,m2,m3,_,_,_,_⟩:=wY.four;obtain⟨ke,b7,cr,cR,_,_,_,_⟩:=wZ.four;clear ad))
  all_goals go_wp2_with fail
  all_goals exact bodyPost_ret (v:=.tuple #[.agg #[.bool s',a',b',c',d'],.agg #[.bool s2,a2,bX,CK,CU],.bool true]) (by simp[results,Tryz.results123,go_sem,i0,i1,i2,i3,i4,iA,bQ,bY,cX,ev]) rfl (A1 dy hC sD (dr (dr wz (by omega) _ _ _ _ _) (by omega) _ _ _ _ _))
theorem Hu (s t:Bool) (a b c d e f g h:Nat) (x y:Int) (w:World) (hx:dg s a b c d x) (hy:dg t e f g h y) :
 Calls Tryz.prog 123 #[.agg #[.bool s,a,b,c,d],.agg #[.bool t,e,f,g,h]] w (ux x y w):=by
 by_cases dy:y=0
 ·exact aiT s t a b c d e f g h x y w hy dy
 ·cases s
  ·exact aiV t a b c d e f g h x y w hx hy dy
  ·by_cases hz:x.natAbs%y.natAbs=0
   ·exact aiS t a b c d e f g h x y w hx hy dy hz
   ·exact aiU t a b c d e f g h x y w hx hy dy hz
end
end Go.Proofs.YtojbopibfflnoaaGreat
