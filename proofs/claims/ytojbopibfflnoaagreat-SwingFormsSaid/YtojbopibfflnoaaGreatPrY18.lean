/- Contracts and plain facts; each states its conditions. -/
import Derived.Test.YtojbopibfflnoaaGreatPrY15
import Derived.Test.YtojbopibfflnoaaGreatPrY17
namespace Go.Proofs.YtojbopibfflnoaaGreat
open Go renaming World → w1, Calls → AA, bodyPost_ret → B7, heap_alloc_new → axe, Ending → axa
open _root_.Go.Proofs.Tryz renaming prog → CW
set_option linter.unusedVariables false
set_option linter.unusedSimpArgs false
set_option maxHeartbeats 16000000
set_option maxRecDepth 100000
section
open Go Go.RowKit
theorem VK(s:Bool)(a b c d:Nat)(z:Int)(w:w1)(h:cw s a b c d z) :
 AA CW 53 #[.agg #[.bool s,a,b,c,d]] w (lN (decide (z.natAbs<170141183460469231731687303715884105728)) w):=by
 have hf:=R7 h;have bN:=hide (aA w (.cells #[.bool s,a,b,c,d] 27));by_cases h3:d=0
 ·by_cases h2:c=0
  ·by_cases h1:b<9223372036854775808
   ·have dx:Hid (decide (z.natAbs<170141183460469231731687303715884105728)=true):=decide_eq_true (hf.2 ⟨h3,h2,h1⟩);have Dm:decide ((b:Int)<9223372036854775808)=true:=by rw[decide_eq_true_iff];omega
    have KG:decide ((9223372036854775808:Int)<=(b:Int))=false:=by rw[decide_eq_false_iff_not];omega
    subst h3;subst h2;clear hf h h1;go_enter Tryz.func53,Tryz.ntmps53
    go_wp2
    go_ret;exact⟨rN dx.out.symm,bN.out⟩
   ·have dx:Hid (decide (z.natAbs<170141183460469231731687303715884105728)=false):=decide_eq_false (fun e=>h1 (hf.1 e).2.2);have Dm:decide ((b:Int)<9223372036854775808)=false:=by rw[decide_eq_false_iff_not];omega
    have KG:decide ((9223372036854775808:Int)<=(b:Int))=true:=by rw[decide_eq_true_iff];omega
    subst h3;subst h2;clear hf h h1;go_enter Tryz.func53,Tryz.ntmps53
    go_wp2
    go_ret;exact⟨rN dx.out.symm,bN.out⟩
  ·have dx:Hid (decide (z.natAbs<170141183460469231731687303715884105728)=false):=decide_eq_false (fun e=>h2 (hf.1 e).2.1);have acM:((c:Int)==0)=false:=by rw[beq_eq_false_iff_ne];omega
   have acN:¬ ((c:Int)=0):=by omega
   subst h3;clear hf h h2;go_enter Tryz.func53,Tryz.ntmps53
   go_wp2
   go_ret;exact⟨rN dx.out.symm,bN.out⟩
 ·have dx:Hid (decide (z.natAbs<170141183460469231731687303715884105728)=false):=decide_eq_false (fun e=>h3 (hf.1 e).1);have Sr:((d:Int)==0)=false:=by rw[beq_eq_false_iff_ne];omega
  have acU:¬ ((d:Int)=0):=by omega
  clear hf h h3;go_enter Tryz.func53,Tryz.ntmps53
  go_wp2
  go_ret;exact⟨rN dx.out.symm,bN.out⟩
theorem Ol(w:w1):AA CW 56 #[] w (lR 1 w):=by
 have cC:=Box.nA w;have EE:=aA w (.cells #[false,(),(),(),()] 27);obtain⟨W,aK⟩:=eo (w.alloc (.cells #[false,(),(),(),()] 27));rw[<-aK] at cC EE;have aB:=hide aK;clear aK;go_enter Tryz.func56,Tryz.ntmps56
 go_upto_region 1 with fail
 rw[<-aB.out];clear aB;go_wp2_with (go_at_call 23;refine(Oh 1 _ (by omega) (by omega)).mono ?_;rintro e' bp ⟨s1,a1,bA,az,d1,rfl,jX,ad⟩;have eN:=hide jX;have cC:=cC.ext ad;have EE:=EE.trans ad;obtain⟨i0,i1,i2,i3,i4,dm,cW,cL,dn,dG⟩:=av cC;clear ad jX)
 all_goals exact B7 (v:=.agg #[.bool s1,a1,bA,az,d1]) (by simp[results,Tryz.results56,go_sem,i0,i1,i2,i3,i4]) rfl ⟨s1,a1,bA,az,d1,rfl,eN.out,dr EE (Nat.le_refl _) _ _ _ _ _⟩
theorem uR{s:Bool}{a b c d:Nat}{z:Int}(h:dg s a b c d z):cw false a b c d (z.natAbs:Int):=by
 obtain⟨h1,h2,h3,h4,h5⟩:=h;refine⟨⟨h1,h2,h3,h4,?_⟩,by simp⟩;cases s<;>simp at h5 |-<;>omega
theorem Ok(s:Bool)(a b c d:Nat)(z:Int)(w:w1)(h:dg s a b c d z):AA CW 55 #[.agg #[.bool s,a,b,c,d]] w (lR (z.natAbs:Int) w):=by
 have K:=hide (uR h);have bz:=e1 w (.cells #[false,a,b,c,d] 27) (.cells #[false,a,b,c,d] 27);have EE:=hide ((aA w (.cells #[false,a,b,c,d] 27)).trans (aA _ (.cells #[false,a,b,c,d] 27)));go_enter Tryz.func55,Tryz.ntmps55
 go_wp2_with fail
 all_goals exact B7 (v:=.agg #[false,a,b,c,d]) (by simp[results,Tryz.results55,go_sem]) rfl ⟨false,a,b,c,d,rfl,K.out,EE.out⟩
theorem VJ(s t:Bool)(a b c d e f g h:Nat)(x y:Int)(w:w1)(hx:cw s a b c d x)(hy:cw t e f g h y)(dy:0<y) :
 AA CW 54 #[.agg #[.bool s,a,b,c,d],.agg #[.bool t,e,f,g,h]] w (lR (Int.gcd x y:Int) w):=by
 obtain⟨W,aK⟩:=eo ((((w.alloc (.cells #[.bool s,a,b,c,d] 27)).alloc (.cells #[.bool t,e,f,g,h] 27)).alloc (.cells #[false,(),(),(),()] 27)));have cO:=kF w (.cells #[.bool s,a,b,c,d] 27) (.cells #[.bool t,e,f,g,h] 27) (.cells #[false,(),(),(),()] 27);rw[<-aK] at cO;obtain⟨G,aV⟩:=aM (Int.gcd x y);have ay:Box W w.heap.size s a b c d:=cO.1;have au:Box W (w.heap.size+1) t e f g h:=cO.2.1;have aR:Box W (w.heap.size+1+1) false 0 0 0 0:=cO.2.2;have bC:Ext w W:=by rw[aK];exact((aA _ _).trans (aA _ _)).trans (aA _ _)
 have aB:=hide aK;have yl:=hide aV;rw[aV];clear aK cO aV;go_enter Tryz.func54,Tryz.ntmps54
 go_upto_region 1 with fail
 rw[<-aB.out];clear aB;go_loopg [] (y.natAbs) (fun k wr=>∃ (s:Bool) (a b c d:Nat) (t:Bool) (e f g h:Nat) (x y:Int),Box wr w.heap.size s a b c d/\Box wr (w.heap.size+1) t e f g h/\Box wr (w.heap.size+1+1) false 0 0 0 0/\cw s a b c d x/\cw t e f g h y/\Hid (0<=y/\y.natAbs<=k/\Int.gcd x y=G/\(0<y\/0<=x))/\Ext w wr)
 case atStart=>exact⟨s,a,b,c,d,t,e,f,g,h,x,y,ay,au,aR,hx,hy,⟨by omega,Nat.le_refl _,yl.out,Or.inl dy⟩,bC⟩
 case round =>
  clear ay au aR hx hy dy bC yl;obtain⟨s,a,b,c,d,t,e,f,g,h,x,y,ay,au,aR,hx,hy,HH,EE⟩:=hrel;have qs:=hide hx;have o0:=hide hy;clear hx hy;obtain⟨ao,fW⟩:=aM y.sign;have ks:Hid (∀ w',AA CW 52 #[.agg #[.bool t,e,f,g,h]] w' (nc .i64 ao w')):=fun w'=>by rw[<-fW];exact xP _ _ _ _ _ _ w' o0.out.1
  obtain⟨bt,az,aU,a_,bK,_⟩:=av ay;obtain⟨d0,d1,d2,d3,d4,_⟩:=av au;obtain⟨i0,i1,i2,i3,i4,dm,cW,cL,dn,dG⟩:=av aR;by_cases dy:y=0
  ·have xv:ao=0:=by rw[<-fW,dy];rfl
   subst xv;have nK:Hid (cw s a b c d (G:Int)):=by
    have h1:=HH.out;have h2:=qs.out;have e:(G:Int)=x:=by
     have h3:=h1.2.2.1;rw[dy,Int.gcd_zero_right] at h3;have h4:=h1.2.2.2;omega
    unfold Hid;rw[e];exact h2
   clear fW dy HH;go_wp2_with (go_at_call 52;(with_reducible refine(ks.out _).mono ?_);rintro e' bp ⟨rfl,ad⟩;have ay:=ay.ext ad;have au:=au.ext ad;have aR:=aR.ext ad;have EE:=EE.trans ad;obtain⟨bt,az,aU,a_,bK,f0,f1,f2,f3,f4⟩:=av ay;obtain⟨d0,d1,d2,d3,d4,g0,g1,g2,g3,g4⟩:=av au;obtain⟨i0,i1,i2,i3,i4,dm,cW,cL,dn,dG⟩:=av aR;clear ad)
   all_goals exact B7 (v:=.agg #[.bool s,a,b,c,d]) (by simp[results,Tryz.results54,go_sem,i0,i1,i2,i3,i4]) rfl ⟨s,a,b,c,d,rfl,nK.out,dr EE (by omega) _ _ _ _ _⟩
  ·have xv:¬ (ao=0):=by rw[<-fW];intro e;exact dy (Int.sign_eq_zero_iff_zero.1 e)
   have aeF:(ao==0)=false:=by rw[beq_eq_false_iff_ne];exact xv
   obtain⟨i',oe⟩:∃ r,(if 0<=x/\x<18446744073709551616 then x else 0)=r:=⟨_,rfl⟩;obtain⟨b7,oL⟩:∃ o,decide (0<=x/\x<18446744073709551616)=o:=⟨_,rfl⟩;obtain⟨dX,nu⟩:∃ r,(if 0<=y/\y<18446744073709551616 then y else 0)=r:=⟨_,rfl⟩;obtain⟨cr,nt⟩:∃ o,decide (0<=y/\y<18446744073709551616)=o:=⟨_,rfl⟩;have bQ:Hid (∀ w',AA CW 83 #[.agg #[.bool s,a,b,c,d]] w' (yA .u64 i' b7 w')):=fun w'=>by rw[<-oe,<-oL];exact VC _ _ _ _ _ _ w' qs.out.1
   have bY:Hid (∀ w',AA CW 83 #[.agg #[.bool t,e,f,g,h]] w' (yA .u64 dX cr w')):=fun w'=>by rw[<-nu,<-nt];exact VC _ _ _ _ _ _ w' o0.out.1
   by_cases hb:b7=true/\cr=true
   ·obtain⟨rfl,rfl⟩:=hb;have mP:=of_decide_eq_true oL;have oO:=of_decide_eq_true nt;rw[if_pos mP] at oe;rw[if_pos oO] at nu;obtain⟨n,hn⟩:∃ n:Nat,x=n:=⟨x.toNat,by omega⟩;obtain⟨m,hm⟩:∃ m:Nat,y=m:=⟨y.toNat,by omega⟩;have fT:n<18446744073709551616:=by omega
    have pn:m<18446744073709551616:=by omega
    have rY:Hid (Nat.gcd n m=G):=by
     have h3:=HH.out.2.2.1;rw[hn,hm] at h3;exact h3
    have SB:G<18446744073709551616:=by
     have h1:Nat.gcd n m<=m:=Nat.gcd_le_right _ (by omega);rw[rY.out] at h1;omega
    rw[<-oe,hn] at bQ;rw[<-nu,hm] at bY;clear oe nu oL nt mP oO hn hm HH fW dy qs o0;go_wp2_with (first
     | (go_at_call 52;(with_reducible refine(ks.out _).mono ?_);rintro e' bp ⟨rfl,ad⟩;have ay:=ay.ext ad;have au:=au.ext ad;have aR:=aR.ext ad;have EE:=EE.trans ad;obtain⟨bt,az,aU,a_,bK,f0,f1,f2,f3,f4⟩:=av ay;obtain⟨d0,d1,d2,d3,d4,g0,g1,g2,g3,g4⟩:=av au;obtain⟨i0,i1,i2,i3,i4,dm,cW,cL,dn,dG⟩:=av aR;clear ad)
     | (go_at_call 83;(with_reducible refine(bQ.out _).mono ?_);rintro e' w3 ⟨rfl,ad⟩;have ay:=ay.ext ad;have au:=au.ext ad;have aR:=aR.ext ad;have EE:=EE.trans ad;obtain⟨bt,az,aU,a_,bK,f0,f1,f2,f3,f4⟩:=av ay;obtain⟨d0,d1,d2,d3,d4,g0,g1,g2,g3,g4⟩:=av au;obtain⟨i0,i1,i2,i3,i4,dm,cW,cL,dn,dG⟩:=av aR;clear ad)
     | (go_at_call 83;(with_reducible refine(bY.out _).mono ?_);rintro e' bZ ⟨rfl,ad⟩;have ay:=ay.ext ad;have au:=au.ext ad;have aR:=aR.ext ad;have EE:=EE.trans ad;obtain⟨bt,az,aU,a_,bK,f0,f1,f2,f3,f4⟩:=av ay;obtain⟨d0,d1,d2,d3,d4,g0,g1,g2,g3,g4⟩:=av au;obtain⟨i0,i1,i2,i3,i4,dm,cW,cL,dn,dG⟩:=av aR;clear ad))
    go_loopw [5,7] (fun x y wr=>∃ a' b':Nat,x=.int .u64 (a':Int)/\y=.int .u64 (b':Int)/\a'<18446744073709551616/\b'<18446744073709551616/\Hid (Nat.gcd a' b'=G)/\Box wr (w.heap.size+1+1) false 0 0 0 0/\Ext w wr) (fun _ y _=>(intOf y).toNat)
    case atStart=>exact⟨n,m,rfl,rfl,fT,pn,rY,aR,EE⟩
    case round =>
     clear fT pn rY ay au aR EE bt az aU a_ bK d0 d1 d2 d3 d4 i0 i1 i2 i3 i4;obtain⟨a',b',rfl,rfl,ha,hb,rY,aR,EE⟩:=hrel;obtain⟨i0,i1,i2,i3,i4,dm,cW,cL,dn,dG⟩:=av aR;by_cases h0:b'=0
     ·subst h0;have bq:Hid (a'=G):=by have:=rY.out;rw[Nat.gcd_zero_right] at this;exact this
      clear rY;go_wp2_with (go_at_call 58;refine(VA a' _ ha).mono ?_;rintro e' cg ⟨fq,a6,cH,cF,d6,rfl,hC,ad⟩;have aR:=aR.ext ad;have EE:=EE.trans ad;obtain⟨i0,i1,i2,i3,i4,dm,cW,cL,dn,dG⟩:=av aR;clear ad)
      all_goals rw[bq.out] at hC
      all_goals exact B7 (v:=.agg #[.bool fq,a6,cH,cF,d6]) (by simp[results,Tryz.results54,go_sem,i0,i1,i2,i3,i4]) rfl ⟨fq,a6,cH,cF,d6,rfl,hC,dr EE (by omega) _ _ _ _ _⟩
     ·have h1:((b':Int)==0)=false:=by rw[beq_eq_false_iff_ne];omega
      have h2:¬ ((b':Int)=0):=by omega
      obtain⟨i',dX⟩:=VE a' b' (by omega);obtain⟨r,aD⟩:=aM (a'%b');rw[aD] at i' dX;have Ec:r<b':=by rw[<-aD];exact Nat.mod_lt _ (by omega)
      have Ay:Hid (Nat.gcd b' r=G):=by rw[<-rY.out,<-aD,Nat.gcd_comm a' b',Nat.gcd_rec b' a',Nat.gcd_comm];exact rfl
      have Me:r<18446744073709551616:=by omega
      have bq:=hide aD;have dx:=hide Ec;clear aD Ec rY h0;go_wp2_with fail
      go_quiet (fail)
      go_wp2_with fail
      exact⟨⟨b',r,rfl,rfl,hb,Me,Ay,aR.ext (nR _ _),EE.trans (nR _ _)⟩,by have:=dx.out;simp[intOf];omega⟩
   ·have dO:Hid (0<x%y+1/\x%y<y/\0<=x%y/\Int.gcd y (x%y)=G/\(x%y).natAbs<gk):=by
     have h1:=HH.out;have h2:=Int.emod_nonneg x dy;have h3:=Int.emod_lt_of_pos x (show 0<y by omega);refine⟨by omega,h3,h2,by rw[<-Sj];exact h1.2.2.1,by omega⟩
    have Ce:Hid (0<y):=by have:=HH.out.1;unfold Hid;omega
    have oJ:=hide dy;have zp:b7=false\/(b7=true/\cr=false):=by cases b7<;>cases cr<;>simp at hb |-
    clear oe nu oL nt fW HH dy hb;rcases zp with rfl|⟨rfl,rfl⟩
    all_goals go_upto_region 8 with (first
     | (go_at_call 52;(with_reducible refine(ks.out _).mono ?_);rintro e' bp ⟨rfl,ad⟩;have ay:=ay.ext ad;have au:=au.ext ad;have aR:=aR.ext ad;have EE:=EE.trans ad;obtain⟨bt,az,aU,a_,bK,f0,f1,f2,f3,f4⟩:=av ay;obtain⟨d0,d1,d2,d3,d4,g0,g1,g2,g3,g4⟩:=av au;obtain⟨i0,i1,i2,i3,i4,dm,cW,cL,dn,dG⟩:=av aR;clear ad)
     | (go_at_call 83;(with_reducible refine(bQ.out _).mono ?_);rintro e' w3 ⟨rfl,ad⟩;have ay:=ay.ext ad;have au:=au.ext ad;have aR:=aR.ext ad;have EE:=EE.trans ad;obtain⟨bt,az,aU,a_,bK,f0,f1,f2,f3,f4⟩:=av ay;obtain⟨d0,d1,d2,d3,d4,g0,g1,g2,g3,g4⟩:=av au;obtain⟨i0,i1,i2,i3,i4,dm,cW,cL,dn,dG⟩:=av aR;clear ad)
     | (go_at_call 83;(with_reducible refine(bY.out _).mono ?_);rintro e' bZ ⟨rfl,ad⟩;have ay:=ay.ext ad;have au:=au.ext ad;have aR:=aR.ext ad;have EE:=EE.trans ad;obtain⟨bt,az,aU,a_,bK,f0,f1,f2,f3,f4⟩:=av ay;obtain⟨d0,d1,d2,d3,d4,g0,g1,g2,g3,g4⟩:=av au;obtain⟨i0,i1,i2,i3,i4,dm,cW,cL,dn,dG⟩:=av aR;clear ad))
    all_goals (go_upto_region 9 with (go_at_call 67;refine(qd s t a b c d e f g h x y _ qs.out.1 o0.out.1).mono ?_;rintro e' b6 ⟨e8,a7,dD,b8,d7,s8,a8,cE,bR,d8,ahv,rfl,aL,kn,lO,ad⟩;have jZ:=hide aL;rw[if_neg oJ.out] at kn lO;have jJ:=hide lO;clear aL kn lO;have ay:=ay.ext ad;have au:=au.ext ad;have aR:=aR.ext ad;have EE:=EE.trans ad;clear ad))
    all_goals have Q:=e1 b6 (.cells #[.bool e8,a7,dD,b8,d7] 27) (.cells #[.bool s8,a8,cE,bR,d8] 27)
    all_goals have ad:=(aA b6 (.cells #[.bool e8,a7,dD,b8,d7] 27)).trans (aA _ (.cells #[.bool s8,a8,cE,bR,d8] 27))
    all_goals have aj:=aR.lt
    all_goals have ay:=ay.ext ad
    all_goals have au:=au.ext ad
    all_goals have aR:=aR.ext ad
    all_goals have EE:=EE.trans ad
    all_goals clear ad
    all_goals (obtain⟨oF,DG⟩:=eo ((b6.alloc (.cells #[.bool e8,a7,dD,b8,d7] 27)).alloc (.cells #[.bool s8,a8,cE,bR,d8] 27)))
    all_goals rw[<-DG] at Q ay au aR EE |-
    all_goals (obtain⟨g7,xl⟩:=aM b6.heap.size)
    all_goals rw[xl] at Q aj |-
    all_goals have Ip:Box oF (g7+1) s8 a8 cE bR d8:=Q.2
    all_goals clear DG xl Q
    all_goals (obtain⟨bt,az,aU,a_,bK,f0,f1,f2,f3,f4⟩:=av ay)
    all_goals (obtain⟨d0,d1,d2,d3,d4,g0,g1,g2,g3,g4⟩:=av au)
    all_goals (obtain⟨i0,i1,i2,i3,i4,_⟩:=av Ip)
    all_goals have hX:=dr (dr EE (b:=w.heap.size) (Nat.le_refl _) (.bool t) (.int .u64 (e:Int)) (.int .u64 (f:Int)) (.int .u64 (g:Int)) (.int .u64 (h:Int))) (b:=w.heap.size+1) (by omega) (.bool s8) (.int .u64 (a8:Int)) (.int .u64 (cE:Int)) (.int .u64 (bR:Int)) (.int .u64 (d8:Int))
    all_goals have IY:=(ay.put (t:=t) (a':=e) (b':=f) (c':=g) (d':=h)).cI (b':=w.heap.size+1) (by omega) (.bool s8) (.int .u64 (a8:Int)) (.int .u64 (cE:Int)) (.int .u64 (bR:Int)) (.int .u64 (d8:Int))
    all_goals have AE:=(au.cI (b':=w.heap.size) (by omega) (.bool t) (.int .u64 (e:Int)) (.int .u64 (f:Int)) (.int .u64 (g:Int)) (.int .u64 (h:Int))).put (t:=s8) (a':=a8) (b':=cE) (c':=bR) (d':=d8)
    all_goals have AF:=(aR.cI (b':=w.heap.size) (by omega) (.bool t) (.int .u64 (e:Int)) (.int .u64 (f:Int)) (.int .u64 (g:Int)) (.int .u64 (h:Int))).cI (b':=w.heap.size+1) (by omega) (.bool s8) (.int .u64 (a8:Int)) (.int .u64 (cE:Int)) (.int .u64 (bR:Int)) (.int .u64 (d8:Int))
    all_goals go_region
    all_goals go_wp2_with fail
    all_goals go_roundg ((x%y).natAbs)
    all_goals first
     | exact dO.out.2.2.2.2
     | exact⟨t,e,f,g,h,s8,a8,cE,bR,d8,y,x%y,IY.drew,AE.drew,AF.drew,o0.out,jJ.out,⟨dO.out.2.2.1,Nat.le_refl _,dO.out.2.2.2.1,Or.inr (by have:=Ce.out;omega)⟩,hX.trans (b5 _)⟩
open Go Go.RowKit
def yk(s:Bool)(a b c d:Nat)(w:w1)(e:axa)(w':w1):Prop:=e=.returned (.agg #[.bool s,a,b,c,d])/\Ext w w'
theorem fixed{z:Int}{s:Bool}{a b c d:Nat}(hC:cw s a b c d z){e:axa}{w w':w1}(h:lR z w e w'):yk s a b c d w e w':=by
 obtain⟨s',a',b',c',d',rfl,adF,ad⟩:=h;obtain⟨rfl,rfl,rfl,rfl,rfl⟩:=hC.uniq adF;exact⟨rfl,ad⟩
theorem aa6{s t:Bool}{a b c d e f g h:Nat}{x y:Int}(hx:cw s a b c d x)(hy:cw t e f g h y)(w:w1):(binOp .eql 27 (.agg #[.bool s,a,b,c,d]) (.agg #[.bool t,e,f,g,h])).run CW w=.ok (.bool (decide (x=y))) w:=by
 rw[RW];have:=HP hx hy;unfold ii at this
 rw[this]
theorem UM:cw false 1 0 0 0 1:=⟨⟨by omega,by omega,by omega,by omega,by simp[b0,val]⟩,by simp⟩
theorem Sn(s:Bool)(z:Int):(!s||decide (z≠0))=decide (Good s z):=by
 cases s<;>simp[Good]
theorem HN(s t:Bool)(a b c d e f g h:Nat)(x y:Int)(w:w1)(hx:dg s a b c d x)(hy:dg t e f g h y)(v:Bool)(aF:decide (o3 s x t y)=v) :
 AA CW 20 #[.agg #[.bool s,a,b,c,d,.bool t,e,f,g,h]] w (lN v w):=by
 have bN:=hide (aA w (.cells #[.bool s,a,b,c,d,.bool t,e,f,g,h] 29));have cK:cm (w.alloc (.cells #[.bool s,a,b,c,d,.bool t,e,f,g,h] 29)) w.heap.size s a b c d t e f g h:=axe w _;obtain⟨W,aK⟩:=eo (w.alloc (.cells #[.bool s,a,b,c,d,.bool t,e,f,g,h] 29));rw[<-aK] at bN cK;have aB:=hide aK;clear aK;obtain⟨bt,az,aU,a_,bK,cy,cF,b8,bR,c2,kO,kP,kQ,kR,kS,kT,kU,kV,kW,kX⟩:=cv cK;obtain⟨p1,pu⟩:∃ p,decide (Good s x)=p:=⟨_,rfl⟩;obtain⟨p2,rG⟩:∃ p,decide (Good t y)=p:=⟨_,rfl⟩;obtain⟨ao,fW⟩:∃ r,y.sign=r:=⟨_,rfl⟩;have bQ:Hid (∀ w',AA CW 51 #[.agg #[.bool s,a,b,c,d]] w' (lN p1 w')):=fun w'=>by rw[<-pu,<-Sn];exact zS _ _ _ _ _ _ w' hx
 have bY:Hid (∀ w',AA CW 51 #[.agg #[.bool t,e,f,g,h]] w' (lN p2 w')):=fun w'=>by rw[<-rG,<-Sn];exact zS _ _ _ _ _ _ w' hy
 have cX:Hid (∀ w',AA CW 52 #[.agg #[.bool t,e,f,g,h]] w' (nc .i64 ao w')):=fun w'=>by rw[<-fW];exact xP _ _ _ _ _ _ w' hy
 cases p1
 ·have oN:v=false:=by
   rw[<-aF,decide_eq_false_iff_not];exact fun q=>(of_decide_eq_false pu) q.1
  subst oN;clear aF hx hy pu rG fW bY cX;go_enter Tryz.func20,Tryz.ntmps20
  go_upto_region 1 with fail
  rw[<-aB.out];clear aB;go_wp2_with (first
   | (go_at_call 51;(with_reducible refine(bQ.out _).mono ?_);rintro e' aT ⟨rfl,ad⟩;have cK:=cK.ext ad;have bN:=hide (bN.out.trans ad);obtain⟨bt,az,aU,a_,bK,cy,cF,b8,bR,c2,kO,kP,kQ,kR,kS,kT,kU,kV,kW,kX⟩:=cv cK;clear ad))
  all_goals go_ret
  all_goals exact⟨rfl,bN.out⟩
 cases p2
 ·have oN:v=false:=by
   rw[<-aF,decide_eq_false_iff_not];exact fun q=>(of_decide_eq_false rG) q.2.1
  subst oN;clear aF hx hy pu rG fW cX;go_enter Tryz.func20,Tryz.ntmps20
  go_upto_region 1 with fail
  rw[<-aB.out];clear aB;go_wp2_with (first
   | (go_at_call 51;(with_reducible refine(bQ.out _).mono ?_);rintro e' aT ⟨rfl,ad⟩;have cK:=cK.ext ad;have bN:=hide (bN.out.trans ad);obtain⟨bt,az,aU,a_,bK,cy,cF,b8,bR,c2,kO,kP,kQ,kR,kS,kT,kU,kV,kW,kX⟩:=cv cK;clear ad)
   | (go_at_call 51;(with_reducible refine(bY.out _).mono ?_);rintro e' bp ⟨rfl,ad⟩;have cK:=cK.ext ad;have bN:=hide (bN.out.trans ad);obtain⟨bt,az,aU,a_,bK,cy,cF,b8,bR,c2,kO,kP,kQ,kR,kS,kT,kU,kV,kW,kX⟩:=cv cK;clear ad))
  all_goals go_ret
  all_goals exact⟨rfl,bN.out⟩
 by_cases h3:ao<=0
 ·have oN:v=false:=by
   rw[<-aF,decide_eq_false_iff_not];exact fun q=>by have h4:=q.2.2.1;have h5:=Int.sign_eq_one_of_pos h4;omega
  subst oN;clear aF hx hy pu rG fW;go_enter Tryz.func20,Tryz.ntmps20
  go_upto_region 1 with fail
  rw[<-aB.out];clear aB;go_wp2_with (first
   | (go_at_call 51;(with_reducible refine(bQ.out _).mono ?_);rintro e' aT ⟨rfl,ad⟩;have cK:=cK.ext ad;have bN:=hide (bN.out.trans ad);obtain⟨bt,az,aU,a_,bK,cy,cF,b8,bR,c2,kO,kP,kQ,kR,kS,kT,kU,kV,kW,kX⟩:=cv cK;clear ad)
   | (go_at_call 51;(with_reducible refine(bY.out _).mono ?_);rintro e' bp ⟨rfl,ad⟩;have cK:=cK.ext ad;have bN:=hide (bN.out.trans ad);obtain⟨bt,az,aU,a_,bK,cy,cF,b8,bR,c2,kO,kP,kQ,kR,kS,kT,kU,kV,kW,kX⟩:=cv cK;clear ad)
   | (go_at_call 52;(with_reducible refine(cX.out _).mono ?_);rintro e' w3 ⟨rfl,ad⟩;have cK:=cK.ext ad;have bN:=hide (bN.out.trans ad);obtain⟨bt,az,aU,a_,bK,cy,cF,b8,bR,c2,kO,kP,kQ,kR,kS,kT,kU,kV,kW,kX⟩:=cv cK;clear ad))
  all_goals go_ret
  all_goals exact⟨rfl,bN.out⟩
 have g1:=of_decide_eq_true pu;have g2:=of_decide_eq_true rG;have nS:cw s a b c d x:=⟨hx,g1⟩;have sZ:cw t e f g h y:=⟨hy,g2⟩;have hyp:0<y:=by
  have h4:0<y.sign:=by omega
  exact Int.sign_pos_iff.1 h4
 obtain⟨oS,Bo⟩:∃ p,decide (x.natAbs<170141183460469231731687303715884105728)=p:=⟨_,rfl⟩;obtain⟨Ht,zl⟩:∃ p,decide (y.natAbs<170141183460469231731687303715884105728)=p:=⟨_,rfl⟩;have ev:Hid (∀ w',AA CW 53 #[.agg #[.bool s,a,b,c,d]] w' (lN oS w')):=fun w'=>by rw[<-Bo];exact VK _ _ _ _ _ _ w' nS
 have vM:Hid (∀ w',AA CW 53 #[.agg #[.bool t,e,f,g,h]] w' (lN Ht w')):=fun w'=>by rw[<-zl];exact VK _ _ _ _ _ _ w' sZ
 cases oS
 ·have oN:v=false:=by
   rw[<-aF,decide_eq_false_iff_not];exact fun q=>(of_decide_eq_false Bo) q.2.2.2.1
  subst oN;clear aF hx hy pu rG fW g1 g2 nS sZ hyp Bo zl vM;go_enter Tryz.func20,Tryz.ntmps20
  go_upto_region 1 with fail
  rw[<-aB.out];clear aB;go_wp2_with (first
   | (go_at_call 51;(with_reducible refine(bQ.out _).mono ?_);rintro e' aT ⟨rfl,ad⟩;have cK:=cK.ext ad;have bN:=hide (bN.out.trans ad);obtain⟨bt,az,aU,a_,bK,cy,cF,b8,bR,c2,kO,kP,kQ,kR,kS,kT,kU,kV,kW,kX⟩:=cv cK;clear ad)
   | (go_at_call 51;(with_reducible refine(bY.out _).mono ?_);rintro e' bp ⟨rfl,ad⟩;have cK:=cK.ext ad;have bN:=hide (bN.out.trans ad);obtain⟨bt,az,aU,a_,bK,cy,cF,b8,bR,c2,kO,kP,kQ,kR,kS,kT,kU,kV,kW,kX⟩:=cv cK;clear ad)
   | (go_at_call 52;(with_reducible refine(cX.out _).mono ?_);rintro e' w3 ⟨rfl,ad⟩;have cK:=cK.ext ad;have bN:=hide (bN.out.trans ad);obtain⟨bt,az,aU,a_,bK,cy,cF,b8,bR,c2,kO,kP,kQ,kR,kS,kT,kU,kV,kW,kX⟩:=cv cK;clear ad)
   | (go_at_call 53;(with_reducible refine(ev.out _).mono ?_);rintro e' bZ ⟨rfl,ad⟩;have cK:=cK.ext ad;have bN:=hide (bN.out.trans ad);obtain⟨bt,az,aU,a_,bK,cy,cF,b8,bR,c2,kO,kP,kQ,kR,kS,kT,kU,kV,kW,kX⟩:=cv cK;clear ad))
  all_goals go_ret
  all_goals exact⟨rfl,bN.out⟩
 cases Ht
 ·have oN:v=false:=by
   rw[<-aF,decide_eq_false_iff_not];exact fun q=>(of_decide_eq_false zl) q.2.2.2.2.1
  subst oN;clear aF hx hy pu rG fW g1 g2 nS sZ hyp Bo zl;go_enter Tryz.func20,Tryz.ntmps20
  go_upto_region 1 with fail
  rw[<-aB.out];clear aB;go_wp2_with (first
   | (go_at_call 51;(with_reducible refine(bQ.out _).mono ?_);rintro e' aT ⟨rfl,ad⟩;have cK:=cK.ext ad;have bN:=hide (bN.out.trans ad);obtain⟨bt,az,aU,a_,bK,cy,cF,b8,bR,c2,kO,kP,kQ,kR,kS,kT,kU,kV,kW,kX⟩:=cv cK;clear ad)
   | (go_at_call 51;(with_reducible refine(bY.out _).mono ?_);rintro e' bp ⟨rfl,ad⟩;have cK:=cK.ext ad;have bN:=hide (bN.out.trans ad);obtain⟨bt,az,aU,a_,bK,cy,cF,b8,bR,c2,kO,kP,kQ,kR,kS,kT,kU,kV,kW,kX⟩:=cv cK;clear ad)
   | (go_at_call 52;(with_reducible refine(cX.out _).mono ?_);rintro e' w3 ⟨rfl,ad⟩;have cK:=cK.ext ad;have bN:=hide (bN.out.trans ad);obtain⟨bt,az,aU,a_,bK,cy,cF,b8,bR,c2,kO,kP,kQ,kR,kS,kT,kU,kV,kW,kX⟩:=cv cK;clear ad)
   | (go_at_call 53;(with_reducible refine(ev.out _).mono ?_);rintro e' bZ ⟨rfl,ad⟩;have cK:=cK.ext ad;have bN:=hide (bN.out.trans ad);obtain⟨bt,az,aU,a_,bK,cy,cF,b8,bR,c2,kO,kP,kQ,kR,kS,kT,kU,kV,kW,kX⟩:=cv cK;clear ad)
   | (go_at_call 53;(with_reducible refine(vM.out _).mono ?_);rintro e' bm ⟨rfl,ad⟩;have cK:=cK.ext ad;have bN:=hide (bN.out.trans ad);obtain⟨bt,az,aU,a_,bK,cy,cF,b8,bR,c2,kO,kP,kQ,kR,kS,kT,kU,kV,kW,kX⟩:=cv cK;clear ad))
  all_goals go_ret
  all_goals exact⟨rfl,bN.out⟩
 have Eg:v=decide ((Int.gcd (x.natAbs:Int) y:Int)=1):=by
  rw[<-aF,decide_eq_decide];have bk:Int.gcd (x.natAbs:Int) y=Int.gcd x y:=by simp[Int.gcd]
  rw[bk];constructor
  ·intro q;have:=q.2.2.2.2.2;omega
  ·intro q;exact⟨g1,g2,hyp,of_decide_eq_true Bo,of_decide_eq_true zl,by omega⟩
 obtain⟨s8,a8,cE,Rz,d8,rH⟩:∃ (s:Bool) (a b c d:Nat),cw s a b c d (Int.gcd (x.natAbs:Int) y:Int):=Ms _ (by
  have h4:Int.gcd (x.natAbs:Int) y<=y.natAbs:=Nat.gcd_le_right _ (by omega);have h5:=of_decide_eq_true zl;omega)
 have hN:Hid (∀ w',AA CW 55 #[.agg #[.bool s,a,b,c,d]] w' (yk false a b c d w')):=fun w'=>(Ok _ _ _ _ _ _ w' hx).mono (fun _ _ q=>fixed (uR hx) q)
 have sV:Hid (∀ w',AA CW 54 #[.agg #[false,a,b,c,d],.agg #[.bool t,e,f,g,h]] w' (yk s8 a8 cE Rz d8 w')):=fun w'=>(VJ _ _ _ _ _ _ _ _ _ _ _ _ w' (uR hx) sZ hyp).mono (fun _ _ q=>fixed rH q)
 have zq:Hid (∀ w',AA CW 56 #[] w' (yk false 1 0 0 0 w')):=fun w'=>(Ol w').mono (fun _ _ q=>fixed UM q)
 have aO:∀ w',(binOp .eql 27 (.agg #[.bool s8,a8,cE,Rz,d8]) (.agg #[false,.int .u64 1,(),(),()])).run CW w'=.ok (.bool (decide ((Int.gcd (x.natAbs:Int) y:Int)=1))) w':=fun w'=>aa6 rH UM w'
 rw[<-Eg] at aO;have Sr:¬ (ao<=0):=h3;clear aF Eg pu rG fW g1 g2 nS sZ hyp Bo zl hx hy rH h3;go_enter Tryz.func20,Tryz.ntmps20
 go_upto_region 1 with fail
 rw[<-aB.out];clear aB;go_upto_region 3 with (first
  | (go_at_call 51;(with_reducible refine(bQ.out _).mono ?_);rintro e' aT ⟨rfl,ad⟩;have cK:=cK.ext ad;have bN:=hide (bN.out.trans ad);obtain⟨bt,az,aU,a_,bK,cy,cF,b8,bR,c2,kO,kP,kQ,kR,kS,kT,kU,kV,kW,kX⟩:=cv cK;clear ad)
  | (go_at_call 51;(with_reducible refine(bY.out _).mono ?_);rintro e' bp ⟨rfl,ad⟩;have cK:=cK.ext ad;have bN:=hide (bN.out.trans ad);obtain⟨bt,az,aU,a_,bK,cy,cF,b8,bR,c2,kO,kP,kQ,kR,kS,kT,kU,kV,kW,kX⟩:=cv cK;clear ad)
  | (go_at_call 52;(with_reducible refine(cX.out _).mono ?_);rintro e' w3 ⟨rfl,ad⟩;have cK:=cK.ext ad;have bN:=hide (bN.out.trans ad);obtain⟨bt,az,aU,a_,bK,cy,cF,b8,bR,c2,kO,kP,kQ,kR,kS,kT,kU,kV,kW,kX⟩:=cv cK;clear ad)
  | (go_at_call 53;(with_reducible refine(ev.out _).mono ?_);rintro e' bZ ⟨rfl,ad⟩;have cK:=cK.ext ad;have bN:=hide (bN.out.trans ad);obtain⟨bt,az,aU,a_,bK,cy,cF,b8,bR,c2,kO,kP,kQ,kR,kS,kT,kU,kV,kW,kX⟩:=cv cK;clear ad)
  | (go_at_call 53;(with_reducible refine(vM.out _).mono ?_);rintro e' bm ⟨rfl,ad⟩;have cK:=cK.ext ad;have bN:=hide (bN.out.trans ad);obtain⟨bt,az,aU,a_,bK,cy,cF,b8,bR,c2,kO,kP,kQ,kR,kS,kT,kU,kV,kW,kX⟩:=cv cK;clear ad))
 go_region_held3 (fun w'=>w'.cell? ⟨w.heap.size,0,none⟩=some (.bool s)/\w'.cell? ⟨w.heap.size,1,none⟩=some (.int .u64 (a:Int))/\w'.cell? ⟨w.heap.size,2,none⟩=some (.int .u64 (b:Int))/\w'.cell? ⟨w.heap.size,3,none⟩=some (.int .u64 (c:Int))/\w'.cell? ⟨w.heap.size,4,none⟩=some (.int .u64 (d:Int))/\w'.cell? ⟨w.heap.size,5,none⟩=some (.bool t)/\w'.cell? ⟨w.heap.size,6,none⟩=some (.int .u64 (e:Int))/\w'.cell? ⟨w.heap.size,7,none⟩=some (.int .u64 (f:Int))/\w'.cell? ⟨w.heap.size,8,none⟩=some (.int .u64 (g:Int))/\w'.cell? ⟨w.heap.size,9,none⟩=some (.int .u64 (h:Int))) (first|(with_reducible exact⟨bt,az,aU,a_,bK,cy,cF,b8,bR,c2⟩)|go_keep) (first
  | (go_at_call 55;(with_reducible refine(hN.out _).mono ?_);rintro e' cg ⟨rfl,ad⟩;have cK:cm cg w.heap.size s a b c d t e f g h:=(by first|exact cK.ext ad|exact cK.drew.ext ad);have bN:Hid (Ext w cg):=(by first|exact hide (bN.out.trans ad)|exact hide ((bN.out.trans (b5 _)).trans ad));obtain⟨bt,az,aU,a_,bK,cy,cF,b8,bR,c2,kO,kP,kQ,kR,kS,kT,kU,kV,kW,kX⟩:=cv cK;clear ad)
  | (go_at_call 54;(with_reducible refine(sV.out _).mono ?_);rintro e' b6 ⟨rfl,ad⟩;have cK:cm b6 w.heap.size s a b c d t e f g h:=(by first|exact cK.ext ad|exact cK.drew.ext ad);have bN:Hid (Ext w b6):=(by first|exact hide (bN.out.trans ad)|exact hide ((bN.out.trans (b5 _)).trans ad));obtain⟨bt,az,aU,a_,bK,cy,cF,b8,bR,c2,kO,kP,kQ,kR,kS,kT,kU,kV,kW,kX⟩:=cv cK;clear ad)
  | (go_at_call 56;(with_reducible refine(zq.out _).mono ?_);rintro e' c8 ⟨rfl,ad⟩;have cK:cm c8 w.heap.size s a b c d t e f g h:=(by first|exact cK.ext ad|exact cK.drew.ext ad);have bN:Hid (Ext w c8):=(by first|exact hide (bN.out.trans ad)|exact hide ((bN.out.trans (b5 _)).trans ad));obtain⟨bt,az,aU,a_,bK,cy,cF,b8,bR,c2,kO,kP,kQ,kR,kS,kT,kU,kV,kW,kX⟩:=cv cK;clear ad))
 all_goals go_wp2_with fail
 all_goals go_ret
 all_goals exact⟨rfl,bN.out⟩
open Go Go.RowKit
theorem akk(v:Int)(w:w1)(v1:-9223372036854775808<=v)(v2:v<=9223372036854775807):AA CW 37 #[.int .i64 v] w (uK v 1 w):=by
 have cC:cm (w.alloc (.cells #[false,(),(),(),(),false,(),(),(),()] 29)) w.heap.size false 0 0 0 0 false 0 0 0 0:=axe w _;have EE:=aA w (.cells #[false,(),(),(),(),false,(),(),(),()] 29);obtain⟨W,aK⟩:=eo (w.alloc (.cells #[false,(),(),(),(),false,(),(),(),()] 29));rw[<-aK] at cC EE;have aB:=hide aK;clear aK;have bQ:Hid (∀ w',AA CW 23 #[.int .i64 v] w' (lR v w')):=fun w'=>Oh v w' v1 v2
 have bY:Hid (∀ w',AA CW 56 #[] w' (lR 1 w')):=fun w'=>Ol w'
 clear v1 v2;go_enter Tryz.func37,Tryz.ntmps37
 go_upto_region 1 with fail
 rw[<-aB.out];clear aB;go_wp2_with (first
  | (go_at_call 23;(with_reducible refine(bQ.out _).mono ?_);rintro e' bp ⟨s1,a1,bA,az,d1,rfl,jX,ad⟩;have eN:=hide jX;have cC:=cC.ext ad;have EE:=EE.trans ad;obtain⟨i0,i1,i2,i3,i4,i5,i6,i7,i8,i9,dm,cW,cL,dn,dG,l5,l6,l7,l8,l9⟩:=cv cC;clear ad jX)
  | (go_at_call 56;(with_reducible refine(bY.out _).mono ?_);rintro e' w3 ⟨s2,a2,bX,aU,d2,rfl,ot,ad⟩;have eC:=hide ot;have cC:=cC.ext ad;have EE:=EE.trans ad;obtain⟨i0,i1,i2,i3,i4,i5,i6,i7,i8,i9,dm,cW,cL,dn,dG,l5,l6,l7,l8,l9⟩:=cv cC;clear ad ot))
 all_goals exact B7 (v:=.agg #[.bool s1,a1,bA,az,d1,.bool s2,a2,bX,aU,d2]) (by simp[results,Tryz.results37,go_sem,i0,i1,i2,i3,i4,i5,i6,i7,i8,i9]) rfl ⟨s1,a1,bA,az,d1,s2,a2,bX,aU,d2,rfl,eN.out,eC.out,kY EE (Nat.le_refl _) _ _ _ _ _ _ _ _ _ _⟩
theorem VI(s t:Bool)(a b c d e f g h:Nat)(x y:Int)(w:w1)(hx:dg s a b c d x)(hy:dg t e f g h y)(v:Bool)(aF:decide (o3 s x t y)=v) :
 AA CW 65 #[.agg #[.bool s,a,b,c,d,.bool t,e,f,g,h]] w (uK (lU v x) (lm v y) w):=by
 have bz:=e1 w (.cells #[.bool s,a,b,c,d,.bool t,e,f,g,h] 29) (.cells #[false,(),(),(),(),false,(),(),(),()] 29);have EE:=hide ((aA w (.cells #[.bool s,a,b,c,d,.bool t,e,f,g,h] 29)).trans (aA _ (.cells #[false,(),(),(),(),false,(),(),(),()] 29)));obtain⟨W,aK⟩:=eo ((w.alloc (.cells #[.bool s,a,b,c,d,.bool t,e,f,g,h] 29)).alloc (.cells #[false,(),(),(),(),false,(),(),(),()] 29));rw[<-aK] at bz EE;have cC:cm W w.heap.size s a b c d t e f g h:=bz.1;have aS:cm W (w.heap.size+1) false 0 0 0 0 false 0 0 0 0:=bz.2;have aB:=hide aK;have kv:Hid (∀ w',AA CW 20 #[.agg #[.bool s,a,b,c,d,.bool t,e,f,g,h]] w' (lN v w')):=fun w'=>HN s t a b c d e f g h x y w' hx hy v aF
 have KK:Hid (v=true->cw s a b c d x/\cw t e f g h y):=by
  intro h1;rw[h1] at aF;have h2:=of_decide_eq_true aF;exact⟨⟨hx,h2.1⟩,⟨hy,h2.2.1⟩⟩
 clear aK bz aF hx hy;have dY:=ct cC;go_enter Tryz.func65,Tryz.ntmps65
 go_upto_region 1 with fail
 rw[<-aB.out];clear aB;cases v
 ·go_wp2_with (first
   | (go_at_call 20;(with_reducible refine(kv.out _).mono ?_);rintro e' bp ⟨rfl,ad⟩;have aS:=aS.ext ad;have EE:=hide (EE.out.trans ad);clear ad)
   | (go_at_call 56;refine(Ol _).mono ?_;rintro e' w3 ⟨t1,bk,f1,g1,h1,rfl,oZ,ad⟩;have eC:=hide oZ;have aS:=aS.ext ad;have EE:=hide (EE.out.trans ad);obtain⟨i0,i1,i2,i3,i4,i5,i6,i7,i8,i9,dm,cW,cL,dn,dG,l5,l6,l7,l8,l9⟩:=cv aS;clear ad oZ))
  all_goals exact B7 (v:=.agg #[false,(),(),(),(),.bool t1,bk,f1,g1,h1]) (by simp[results,Tryz.results65,go_sem,i0,i1,i2,i3,i4,i5,i6,i7,i8,i9]) rfl ⟨false,0,0,0,0,t1,bk,f1,g1,h1,rfl,Es,eC.out,kY EE.out (by omega) _ _ _ _ _ _ _ _ _ _⟩
 ·obtain⟨eN,eC⟩:=KK.out rfl;have eN:=hide eN;have eC:=hide eC;go_wp2_with (go_at_call 20;(with_reducible refine(kv.out _).mono ?_);rintro e' bp ⟨rfl,ad⟩;have cC:=cC.ext ad;have aS:=aS.ext ad;have EE:=hide (EE.out.trans ad);have dY:=ct cC;obtain⟨i0,i1,i2,i3,i4,i5,i6,i7,i8,i9,dm,cW,cL,dn,dG,l5,l6,l7,l8,l9⟩:=cv aS;clear ad)
  all_goals exact B7 (v:=.agg #[.bool s,a,b,c,d,.bool t,e,f,g,h]) (by simp[results,Tryz.results65,go_sem,i0,i1,i2,i3,i4,i5,i6,i7,i8,i9]) rfl ⟨s,a,b,c,d,t,e,f,g,h,rfl,eN.out,eC.out,kY EE.out (by omega) _ _ _ _ _ _ _ _ _ _⟩
end
end Go.Proofs.YtojbopibfflnoaaGreat
