/- Contracts and plain facts; each states its conditions. -/
import Derived.Test.YtojbopibfflnoaaGreatPrW9
import Derived.Test.YtojbopibfflnoaaGreatPrW13
import Derived.Deep.LoopGhost
namespace Go.Proofs.YtojbopibfflnoaaGreat
set_option linter.unusedVariables false
set_option linter.unusedSimpArgs false
set_option maxHeartbeats 16000000
section
open Go Go.RowKit
theorem VE (a b:Nat) (h:0<b):(a:Int).tmod (b:Int)=((a%b:Nat):Int)∧(a:Int)%(b:Int)=((a%b:Nat):Int):=⟨(Int.ofNat_tmod a b).symm,(Int.natCast_emod a b).symm⟩
theorem ajK (a b:Nat) (w:World) (ha:a<18446744073709551616) (hb:b<18446744073709551616) :
 Calls Tryz.prog 132 #[.int .u64 (a:Int),.int .u64 (b:Int)] w (nc .u64 ((Nat.gcd a b:Nat):Int) w):=by
 go_enter Tryz.func132,Tryz.ntmps132
 go_wp2_with fail
 go_loopw [0,1] (fun x y wr=>∃ a' b':Nat,x=.int .u64 (a':Int)∧y=.int .u64 (b':Int)∧a'<18446744073709551616∧b'<18446744073709551616∧Hid (Nat.gcd a' b'=Nat.gcd a b)∧Ext w wr) (fun _ y _=>(intOf y).toNat)
 case atStart=>exact⟨a,b,rfl,rfl,ha,hb,rfl,Ext.refl _⟩
 case round =>
  clear ha hb;obtain⟨a',b',rfl,rfl,ha,hb,jY,ad⟩:=hrel;by_cases h0:b'=0
  ·subst h0;have bq:Hid (Nat.gcd a b=a'):=by rw[←jY.out];exact Nat.gcd_zero_right a'
   clear jY;go_wp2_with fail
   go_ret;exact⟨by rw[bq.out];rfl,ad⟩
  ·have h1:((b':Int)==0)=false:=by rw[beq_eq_false_iff_ne];omega
   have h2:¬ ((b':Int)=0):=by omega
   obtain⟨i',dX⟩:=VE a' b' (by omega);obtain⟨r,aD⟩:=aM (a'%b');rw[aD] at i' dX;have Ec:r<b':=by rw[←aD];exact Nat.mod_lt _ (by omega)
   have Ay:Hid (Nat.gcd b' r=Nat.gcd a b):=by rw[←jY.out,←aD,Nat.gcd_comm a' b',Nat.gcd_rec b' a',Nat.gcd_comm];exact rfl
   have Me:r<18446744073709551616:=by omega
   have bq:=hide aD;have dx:=hide Ec;clear aD Ec jY h0;go_wp2_with fail
   go_quiet (fail)
   go_wp2_with fail
   exact⟨⟨b',r,rfl,rfl,hb,Me,Ay,ad.trans (nR _ _)⟩,by have:=dx.out;simp[intOf];omega⟩
theorem R7 {s:Bool}{a b c d:Nat}{z:Int} (h:cw s a b c d z):z.natAbs<170141183460469231731687303715884105728↔(d=0∧c=0∧b<9223372036854775808):=by
 obtain⟨⟨h1,h2,h3,h4,h5⟩,_⟩:=h;have e:z.natAbs=b0 a b c d:=by cases s<;>simp at h5<;>omega
 rw[e];simp only[b0,val];omega
theorem Vl (s:Bool) (a b c d:Nat) (z:Int) (w:World) (h:cw s a b c d z) :
 Calls Tryz.prog 124 #[.agg #[.bool s,a,b,c,d]] w (lN (decide (z.natAbs<170141183460469231731687303715884105728)) w):=by
 have hf:=R7 h;have bN:=hide (aA w (.cells #[.bool s,a,b,c,d] 27));by_cases h3:d=0
 ·by_cases h2:c=0
  ·by_cases h1:b<9223372036854775808
   ·have dx:Hid (decide (z.natAbs<170141183460469231731687303715884105728)=true):=decide_eq_true (hf.2 ⟨h3,h2,h1⟩);have Dm:decide ((b:Int)<9223372036854775808)=true:=by rw[decide_eq_true_iff];omega
    have KG:decide ((9223372036854775808:Int)≤(b:Int))=false:=by rw[decide_eq_false_iff_not];omega
    subst h3;subst h2;clear hf h h1;go_enter Tryz.func124,Tryz.ntmps124
    go_wp2
    go_ret;exact⟨rN dx.out.symm,bN.out⟩
   ·have dx:Hid (decide (z.natAbs<170141183460469231731687303715884105728)=false):=decide_eq_false (fun e=>h1 (hf.1 e).2.2);have Dm:decide ((b:Int)<9223372036854775808)=false:=by rw[decide_eq_false_iff_not];omega
    have KG:decide ((9223372036854775808:Int)≤(b:Int))=true:=by rw[decide_eq_true_iff];omega
    subst h3;subst h2;clear hf h h1;go_enter Tryz.func124,Tryz.ntmps124
    go_wp2
    go_ret;exact⟨rN dx.out.symm,bN.out⟩
  ·have dx:Hid (decide (z.natAbs<170141183460469231731687303715884105728)=false):=decide_eq_false (fun e=>h2 (hf.1 e).2.1);have acM:((c:Int)==0)=false:=by rw[beq_eq_false_iff_ne];omega
   have acN:¬ ((c:Int)=0):=by omega
   subst h3;clear hf h h2;go_enter Tryz.func124,Tryz.ntmps124
   go_wp2
   go_ret;exact⟨rN dx.out.symm,bN.out⟩
 ·have dx:Hid (decide (z.natAbs<170141183460469231731687303715884105728)=false):=decide_eq_false (fun e=>h3 (hf.1 e).1);have Sr:((d:Int)==0)=false:=by rw[beq_eq_false_iff_ne];omega
  have acU:¬ ((d:Int)=0):=by omega
  clear hf h h3;go_enter Tryz.func124,Tryz.ntmps124
  go_wp2
  go_ret;exact⟨rN dx.out.symm,bN.out⟩
set_option maxRecDepth 100000 in
theorem ajJ (s t:Bool) (a b c d e f g h:Nat) (x y:Int) (w:World) (hx:cw s a b c d x) (hy:cw t e f g h y) (dy:0<y) :
 Calls Tryz.prog 122 #[.agg #[.bool s,a,b,c,d],.agg #[.bool t,e,f,g,h]] w (lR (Int.gcd x y:Int) w):=by
 obtain⟨W,aK⟩:=eo ((((w.alloc (.cells #[.bool s,a,b,c,d] 27)).alloc (.cells #[.bool t,e,f,g,h] 27)).alloc (.cells #[false,(),(),(),()] 27)));have cO:=kF w (.cells #[.bool s,a,b,c,d] 27) (.cells #[.bool t,e,f,g,h] 27) (.cells #[false,(),(),(),()] 27);rw[←aK] at cO;obtain⟨G,aV⟩:=aM (Int.gcd x y);have ay:Box W w.heap.size s a b c d:=cO.1;have au:Box W (w.heap.size+1) t e f g h:=cO.2.1;have aR:Box W (w.heap.size+1+1) false 0 0 0 0:=cO.2.2;have bC:Ext w W:=by rw[aK];exact((aA _ _).trans (aA _ _)).trans (aA _ _)
 have aB:=hide aK;have yl:=hide aV;rw[aV];clear aK cO aV;go_enter Tryz.func122,Tryz.ntmps122
 go_upto_region 1 with fail
 rw[←aB.out];clear aB;go_loopg [] (y.natAbs) (fun k wr=>∃ (s:Bool) (a b c d:Nat) (t:Bool) (e f g h:Nat) (x y:Int),Box wr w.heap.size s a b c d∧Box wr (w.heap.size+1) t e f g h∧Box wr (w.heap.size+1+1) false 0 0 0 0∧cw s a b c d x∧cw t e f g h y∧Hid (0≤y∧y.natAbs≤k∧Int.gcd x y=G∧(0<y∨0≤x))∧Ext w wr)
 case atStart=>exact⟨s,a,b,c,d,t,e,f,g,h,x,y,ay,au,aR,hx,hy,⟨by omega,Nat.le_refl _,yl.out,Or.inl dy⟩,bC⟩
 case round =>
  clear ay au aR hx hy dy bC yl;obtain⟨s,a,b,c,d,t,e,f,g,h,x,y,ay,au,aR,hx,hy,HH,EE⟩:=hrel;have qs:=hide hx;have o0:=hide hy;clear hx hy;obtain⟨ao,fW⟩:=aM y.sign;have ks:Hid (∀ w',Calls Tryz.prog 115 #[.agg #[.bool t,e,f,g,h]] w' (nc .i64 ao w')):=fun w'=>by rw[←fW];exact uc _ _ _ _ _ _ w' o0.out.1
  obtain⟨bt,az,aU,a_,bK,_⟩:=av ay;obtain⟨d0,d1,d2,d3,d4,_⟩:=av au;obtain⟨i0,i1,i2,i3,i4,dm,cW,cL,dn,dG⟩:=av aR;by_cases dy:y=0
  ·have xv:ao=0:=by rw[←fW,dy];rfl
   subst xv;have nK:Hid (cw s a b c d (G:Int)):=by
    have h1:=HH.out;have h2:=qs.out;have e:(G:Int)=x:=by
     have h3:=h1.2.2.1;rw[dy,Int.gcd_zero_right] at h3;have h4:=h1.2.2.2;omega
    unfold Hid;rw[e];exact h2
   clear fW dy HH;go_wp2_with (go_at_call 115;(with_reducible refine(ks.out _).mono ?_);rintro e' bp ⟨rfl,ad⟩;have ay:=ay.ext ad;have au:=au.ext ad;have aR:=aR.ext ad;have EE:=EE.trans ad;obtain⟨bt,az,aU,a_,bK,f0,f1,f2,f3,f4⟩:=av ay;obtain⟨d0,d1,d2,d3,d4,g0,g1,g2,g3,g4⟩:=av au;obtain⟨i0,i1,i2,i3,i4,dm,cW,cL,dn,dG⟩:=av aR;clear ad)
   all_goals exact bodyPost_ret (v:=.agg #[.bool s,a,b,c,d]) (by simp[results,Tryz.results122,go_sem,i0,i1,i2,i3,i4]) rfl ⟨s,a,b,c,d,rfl,nK.out,dr EE (by omega) _ _ _ _ _⟩
  ·have xv:¬ (ao=0):=by rw[←fW];intro e;exact dy (Int.sign_eq_zero_iff_zero.1 e)
   have aeF:(ao==0)=false:=by rw[beq_eq_false_iff_ne];exact xv
   obtain⟨i',oe⟩:∃ r,(if 0≤x∧x<18446744073709551616 then x else 0)=r:=⟨_,rfl⟩;obtain⟨b7,oL⟩:∃ o,decide (0≤x∧x<18446744073709551616)=o:=⟨_,rfl⟩;obtain⟨dX,nu⟩:∃ r,(if 0≤y∧y<18446744073709551616 then y else 0)=r:=⟨_,rfl⟩;obtain⟨cr,nt⟩:∃ o,decide (0≤y∧y<18446744073709551616)=o:=⟨_,rfl⟩;have bQ:Hid (∀ w',Calls Tryz.prog 131 #[.agg #[.bool s,a,b,c,d]] w' (yA .u64 i' b7 w')):=fun w'=>by rw[←oe,←oL];exact U0 _ _ _ _ _ _ w' qs.out.1
   have bY:Hid (∀ w',Calls Tryz.prog 131 #[.agg #[.bool t,e,f,g,h]] w' (yA .u64 dX cr w')):=fun w'=>by rw[←nu,←nt];exact U0 _ _ _ _ _ _ w' o0.out.1
   by_cases hb:b7=true∧cr=true
   ·obtain⟨rfl,rfl⟩:=hb;have mP:=of_decide_eq_true oL;have oO:=of_decide_eq_true nt;rw[if_pos mP] at oe;rw[if_pos oO] at nu;obtain⟨n,hn⟩:∃ n:Nat,x=n:=⟨x.toNat,by omega⟩;obtain⟨m,hm⟩:∃ m:Nat,y=m:=⟨y.toNat,by omega⟩;have fT:n<18446744073709551616:=by omega
    have pn:m<18446744073709551616:=by omega
    have rY:Hid (Nat.gcd n m=G):=by
     have h3:=HH.out.2.2.1;rw[hn,hm] at h3;exact h3
    have SB:G<18446744073709551616:=by
     have h1:Nat.gcd n m≤m:=Nat.gcd_le_right _ (by omega);rw[rY.out] at h1;omega
    rw[←oe,hn] at bQ;rw[←nu,hm] at bY;clear oe nu oL nt mP oO hn hm HH fW dy qs o0;go_wp2_with (first
     | (go_at_call 115;(with_reducible refine(ks.out _).mono ?_);rintro e' bp ⟨rfl,ad⟩;have ay:=ay.ext ad;have au:=au.ext ad;have aR:=aR.ext ad;have EE:=EE.trans ad;obtain⟨bt,az,aU,a_,bK,f0,f1,f2,f3,f4⟩:=av ay;obtain⟨d0,d1,d2,d3,d4,g0,g1,g2,g3,g4⟩:=av au;obtain⟨i0,i1,i2,i3,i4,dm,cW,cL,dn,dG⟩:=av aR;clear ad)
     | (go_at_call 131;(with_reducible refine(bQ.out _).mono ?_);rintro e' w3 ⟨rfl,ad⟩;have ay:=ay.ext ad;have au:=au.ext ad;have aR:=aR.ext ad;have EE:=EE.trans ad;obtain⟨bt,az,aU,a_,bK,f0,f1,f2,f3,f4⟩:=av ay;obtain⟨d0,d1,d2,d3,d4,g0,g1,g2,g3,g4⟩:=av au;obtain⟨i0,i1,i2,i3,i4,dm,cW,cL,dn,dG⟩:=av aR;clear ad)
     | (go_at_call 131;(with_reducible refine(bY.out _).mono ?_);rintro e' bZ ⟨rfl,ad⟩;have ay:=ay.ext ad;have au:=au.ext ad;have aR:=aR.ext ad;have EE:=EE.trans ad;obtain⟨bt,az,aU,a_,bK,f0,f1,f2,f3,f4⟩:=av ay;obtain⟨d0,d1,d2,d3,d4,g0,g1,g2,g3,g4⟩:=av au;obtain⟨i0,i1,i2,i3,i4,dm,cW,cL,dn,dG⟩:=av aR;clear ad)
     | (go_at_call 132;refine(ajK n m _ fT pn).mono ?_;rintro e' bm ⟨rfl,ad⟩;rw[rY.out];have ay:=ay.ext ad;have au:=au.ext ad;have aR:=aR.ext ad;have EE:=EE.trans ad;obtain⟨bt,az,aU,a_,bK,f0,f1,f2,f3,f4⟩:=av ay;obtain⟨d0,d1,d2,d3,d4,g0,g1,g2,g3,g4⟩:=av au;obtain⟨i0,i1,i2,i3,i4,dm,cW,cL,dn,dG⟩:=av aR;clear ad)
     | (go_at_call 112;refine(NY G _ SB).mono ?_;rintro e' cg ⟨fq,a6,cH,cF,d6,rfl,hC,ad⟩;have ay:=ay.ext ad;have au:=au.ext ad;have aR:=aR.ext ad;have EE:=EE.trans ad;obtain⟨bt,az,aU,a_,bK,f0,f1,f2,f3,f4⟩:=av ay;obtain⟨d0,d1,d2,d3,d4,g0,g1,g2,g3,g4⟩:=av au;obtain⟨i0,i1,i2,i3,i4,dm,cW,cL,dn,dG⟩:=av aR;clear ad))
    all_goals exact bodyPost_ret (v:=.agg #[.bool fq,a6,cH,cF,d6]) (by simp[results,Tryz.results122,go_sem,i0,i1,i2,i3,i4]) rfl ⟨fq,a6,cH,cF,d6,rfl,hC,dr EE (by omega) _ _ _ _ _⟩
   ·have dO:Hid (0<x%y+1∧x%y<y∧0≤x%y∧Int.gcd y (x%y)=G∧(x%y).natAbs<gk):=by
     have h1:=HH.out;have h2:=Int.emod_nonneg x dy;have h3:=Int.emod_lt_of_pos x (show 0<y by omega);refine⟨by omega,h3,h2,by rw[←Sj];exact h1.2.2.1,by omega⟩
    have Ce:Hid (0<y):=by have:=HH.out.1;unfold Hid;omega
    have oJ:=hide dy;have zp:b7=false∨(b7=true∧cr=false):=by cases b7<;>cases cr<;>simp at hb ⊢
    clear oe nu oL nt fW HH dy hb;rcases zp with rfl|⟨rfl,rfl⟩
    all_goals go_upto_region 6 with (first
     | (go_at_call 115;(with_reducible refine(ks.out _).mono ?_);rintro e' bp ⟨rfl,ad⟩;have ay:=ay.ext ad;have au:=au.ext ad;have aR:=aR.ext ad;have EE:=EE.trans ad;obtain⟨bt,az,aU,a_,bK,f0,f1,f2,f3,f4⟩:=av ay;obtain⟨d0,d1,d2,d3,d4,g0,g1,g2,g3,g4⟩:=av au;obtain⟨i0,i1,i2,i3,i4,dm,cW,cL,dn,dG⟩:=av aR;clear ad)
     | (go_at_call 131;(with_reducible refine(bQ.out _).mono ?_);rintro e' w3 ⟨rfl,ad⟩;have ay:=ay.ext ad;have au:=au.ext ad;have aR:=aR.ext ad;have EE:=EE.trans ad;obtain⟨bt,az,aU,a_,bK,f0,f1,f2,f3,f4⟩:=av ay;obtain⟨d0,d1,d2,d3,d4,g0,g1,g2,g3,g4⟩:=av au;obtain⟨i0,i1,i2,i3,i4,dm,cW,cL,dn,dG⟩:=av aR;clear ad)
     | (go_at_call 131;(with_reducible refine(bY.out _).mono ?_);rintro e' bZ ⟨rfl,ad⟩;have ay:=ay.ext ad;have au:=au.ext ad;have aR:=aR.ext ad;have EE:=EE.trans ad;obtain⟨bt,az,aU,a_,bK,f0,f1,f2,f3,f4⟩:=av ay;obtain⟨d0,d1,d2,d3,d4,g0,g1,g2,g3,g4⟩:=av au;obtain⟨i0,i1,i2,i3,i4,dm,cW,cL,dn,dG⟩:=av aR;clear ad))
    all_goals (go_upto_region 7 with (go_at_call 123;refine(Hu s t a b c d e f g h x y _ qs.out.1 o0.out.1).mono ?_;rintro e' b6 ⟨e8,a7,dD,b8,d7,s8,a8,cE,bR,d8,ahv,rfl,aL,kn,lO,ad⟩;have jZ:=hide aL;rw[if_neg oJ.out] at kn lO;have jJ:=hide lO;clear aL kn lO;have ay:=ay.ext ad;have au:=au.ext ad;have aR:=aR.ext ad;have EE:=EE.trans ad;clear ad))
    all_goals have Q:=e1 b6 (.cells #[.bool e8,a7,dD,b8,d7] 27) (.cells #[.bool s8,a8,cE,bR,d8] 27)
    all_goals have ad:=(aA b6 (.cells #[.bool e8,a7,dD,b8,d7] 27)).trans (aA _ (.cells #[.bool s8,a8,cE,bR,d8] 27))
    all_goals have aj:=aR.lt
    all_goals have ay:=ay.ext ad
    all_goals have au:=au.ext ad
    all_goals have aR:=aR.ext ad
    all_goals have EE:=EE.trans ad
    all_goals clear ad
    all_goals (obtain⟨oF,DG⟩:=eo ((b6.alloc (.cells #[.bool e8,a7,dD,b8,d7] 27)).alloc (.cells #[.bool s8,a8,cE,bR,d8] 27)))
    all_goals rw[←DG] at Q ay au aR EE ⊢
    all_goals (obtain⟨g7,xl⟩:=aM b6.heap.size)
    all_goals rw[xl] at Q aj ⊢
    all_goals have Ip:Box oF (g7+1) s8 a8 cE bR d8:=Q.2
    all_goals clear DG xl Q
    all_goals (obtain⟨bt,az,aU,a_,bK,f0,f1,f2,f3,f4⟩:=av ay)
    all_goals (obtain⟨d0,d1,d2,d3,d4,g0,g1,g2,g3,g4⟩:=av au)
    all_goals (obtain⟨i0,i1,i2,i3,i4,_⟩:=av Ip)
    all_goals have hX:=dr (dr EE (b:=w.heap.size) (Nat.le_refl _) (.bool t) (.int .u64 (e:Int)) (.int .u64 (f:Int)) (.int .u64 (g:Int)) (.int .u64 (h:Int))) (b:=w.heap.size+1) (by omega) (.bool s8) (.int .u64 (a8:Int)) (.int .u64 (cE:Int)) (.int .u64 (bR:Int)) (.int .u64 (d8:Int))
    all_goals have IY:=(ay.put (t:=t) (a':=e) (b':=f) (c':=g) (d':=h)).cI (b':=w.heap.size+1) (by omega) (.bool s8) (.int .u64 (a8:Int)) (.int .u64 (cE:Int)) (.int .u64 (bR:Int)) (.int .u64 (d8:Int))
    all_goals have AE:=(au.cI (b':=w.heap.size) (by omega) (.bool t) (.int .u64 (e:Int)) (.int .u64 (f:Int)) (.int .u64 (g:Int)) (.int .u64 (h:Int))).put (t:=s8) (a':=a8) (b':=cE) (c':=bR) (d':=d8)
    all_goals have AF:=(aR.cI (b':=w.heap.size) (by omega) (.bool t) (.int .u64 (e:Int)) (.int .u64 (f:Int)) (.int .u64 (g:Int)) (.int .u64 (h:Int))).cI (b':=w.heap.size+1) (by omega) (.bool s8) (.int .u64 (a8:Int)) (.int .u64 (cE:Int)) (.int .u64 (bR:Int)) (.int .u64 (d8:Int))
    all_goals go_region
    all_goals go_wp2_with fail
    all_goals go_roundg ((x%y).natAbs)
    all_goals first
     | exact dO.out.2.2.2.2
     | exact⟨t,e,f,g,h,s8,a8,cE,bR,d8,y,x%y,IY.drew,AE.drew,AF.drew,o0.out,jJ.out,⟨dO.out.2.2.1,Nat.le_refl _,dO.out.2.2.2.1,Or.inr (by have:=Ce.out;omega)⟩,hX.trans (b5 _)⟩
end
section
open Go Go.RowKit
def cm (W:World) (k:Nat) (s:Bool) (a b c d:Nat) (t:Bool) (e f g h:Nat):Prop:=W.heap[k]?=some (.cells #[.bool s,a,b,c,d,.bool t,e,f,g,h] 29 (0,0))
theorem cm.ext {w w':World}{k:Nat}{s:Bool}{a b c d:Nat}{t:Bool}{e f g h:Nat} (x:cm w k s a b c d t e f g h) (y:Ext w w'):cm w' k s a b c d t e f g h:=p8 y x
theorem cm.drew {w:World}{k:Nat}{s:Bool}{a b c d:Nat}{t:Bool}{e f g h:Nat} (x:cm w k s a b c d t e f g h):cm w.drew k s a b c d t e f g h:=x
theorem cm.lt {w:World}{k:Nat}{s:Bool}{a b c d:Nat}{t:Bool}{e f g h:Nat} (x:cm w k s a b c d t e f g h):k<w.heap.size:=(Array.getElem?_eq_some_iff.1 x).1
theorem cv {w:World}{b:Nat}{v0 v1 v2 v3 v4 v5 v6 qg qh v9:Value}{e:TypeId} (h:w.heap[b]?=some (.cells #[v0,v1,v2,v3,v4,v5,v6,qg,qh,v9] e (0,0))) :
 w.cell? ⟨b,0,none⟩=some v0∧w.cell? ⟨b,1,none⟩=some v1∧w.cell? ⟨b,2,none⟩=some v2∧w.cell? ⟨b,3,none⟩=some v3∧w.cell? ⟨b,4,none⟩=some v4∧w.cell? ⟨b,5,none⟩=some v5∧w.cell? ⟨b,6,none⟩=some v6∧w.cell? ⟨b,7,none⟩=some qg∧w.cell? ⟨b,8,none⟩=some qh∧w.cell? ⟨b,9,none⟩=some v9 ∧
 w.frozen? ⟨b,0,none⟩=false∧w.frozen? ⟨b,1,none⟩=false∧w.frozen? ⟨b,2,none⟩=false∧w.frozen? ⟨b,3,none⟩=false∧w.frozen? ⟨b,4,none⟩=false∧w.frozen? ⟨b,5,none⟩=false∧w.frozen? ⟨b,6,none⟩=false∧w.frozen? ⟨b,7,none⟩=false∧w.frozen? ⟨b,8,none⟩=false∧w.frozen? ⟨b,9,none⟩=false:=by
 refine⟨?_,?_,?_,?_,?_,?_,?_,?_,?_,?_,gw h 0,gw h 1,gw h 2,gw h 3,gw h 4,gw h 5,gw h 6,gw h 7,gw h 8,gw h 9⟩<;>(rw[cell_of_block h];rfl)
theorem ct {w:World}{b:Nat}{v0 v1 v2 v3 v4 v5 v6 qg qh v9:Value}{e:TypeId} (h:w.heap[b]?=some (.cells #[v0,v1,v2,v3,v4,v5,v6,qg,qh,v9] e (0,0))):w.cell? ⟨b,0,none⟩=some v0∧w.cell? ⟨b,1,none⟩=some v1∧w.cell? ⟨b,2,none⟩=some v2∧w.cell? ⟨b,3,none⟩=some v3∧w.cell? ⟨b,4,none⟩=some v4∧w.cell? ⟨b,5,none⟩=some v5∧w.cell? ⟨b,6,none⟩=some v6∧w.cell? ⟨b,7,none⟩=some qg∧w.cell? ⟨b,8,none⟩=some qh∧w.cell? ⟨b,9,none⟩=some v9:=(cv h).imp id fun h=>h.imp id fun h=>h.imp id fun h=>h.imp id fun h=>h.imp id fun h=>h.imp id fun h=>h.imp id fun h=>h.imp id fun h=>h.imp id And.left
theorem kY {W w:World} (h:Ext W w) {b:Nat} (hb:W.heap.size≤b) (u0 u1 u2 u3 u4 u5 u6 u7 u8 u9:Value):Ext W ((((((((((w.setCell ⟨b,0,none⟩ u0).setCell ⟨b,1,none⟩ u1).setCell ⟨b,2,none⟩ u2).setCell ⟨b,3,none⟩ u3).setCell ⟨b,4,none⟩ u4).setCell ⟨b,5,none⟩ u5).setCell ⟨b,6,none⟩ u6).setCell ⟨b,7,none⟩ u7).setCell ⟨b,8,none⟩ u8).setCell ⟨b,9,none⟩ u9):=
 ey (ey (ey (ey (ey (ey (ey (ey (ey (ey h hb _ _) hb _ _) hb _ _) hb _ _) hb _ _) hb _ _) hb _ _) hb _ _) hb _ _) hb _ _
def wJ (o:Bool) (n d:Int) (w:World) (e:Ending) (w':World):Prop:=∃ (s:Bool) (a b c d':Nat) (t:Bool) (e' f g h:Nat),e=.returned (.tuple #[.agg #[.bool s,a,b,c,d',.bool t,e',f,g,h],.bool o])∧cw s a b c d' n∧cw t e' f g h d∧Ext w w'
theorem Hi {w w':World} (h:Ext w w'):wJ false 0 0 w (.returned (.tuple #[.agg #[false,(),(),(),(),false,(),(),(),()],.bool false])) w':=
 ⟨false,0,0,0,0,false,0,0,0,0,rfl,Es,Es,h⟩
def Good (s:Bool) (z:Int):Prop:=s=true→z≠0
set_option maxRecDepth 100000 in
theorem ajM (s t:Bool) (a b c d e f g h:Nat) (x y:Int) (w:World) (hx:dg s a b c d x) (hy:dg t e f g h y) (iK:¬ (Good s x∧Good t y∧y≠0)) :
 Calls Tryz.prog 105 #[.agg #[.bool s,a,b,c,d],.agg #[.bool t,e,f,g,h]] w (wJ false 0 0 w):=by
 obtain⟨W,aK⟩:=eo ((((w.alloc (.cells #[.bool s,a,b,c,d] 27)).alloc (.cells #[.bool t,e,f,g,h] 27)).alloc (.cells #[false,(),(),(),(),false,(),(),(),()] 29)));have cO:=kF w (.cells #[.bool s,a,b,c,d] 27) (.cells #[.bool t,e,f,g,h] 27) (.cells #[false,(),(),(),(),false,(),(),(),()] 29);rw[←aK] at cO;have ay:Box W w.heap.size s a b c d:=cO.1;have au:Box W (w.heap.size+1) t e f g h:=cO.2.1;have aR:cm W (w.heap.size+1+1) false 0 0 0 0 false 0 0 0 0:=cO.2.2;have EE:Ext w W:=by rw[aK];exact((aA _ _).trans (aA _ _)).trans (aA _ _)
 have aB:=hide aK;obtain⟨b7,oL⟩:∃ o,(!s||decide (x≠0))=o:=⟨_,rfl⟩;obtain⟨cr,nt⟩:∃ o,(!t||decide (y≠0))=o:=⟨_,rfl⟩;obtain⟨ao,fW⟩:=aM y.sign;have bQ:Hid (∀ w',Calls Tryz.prog 120 #[.agg #[.bool s,a,b,c,d]] w' (lN b7 w')):=fun w'=>by rw[←oL];exact ES _ _ _ _ _ _ w' hx
 have bY:Hid (∀ w',Calls Tryz.prog 120 #[.agg #[.bool t,e,f,g,h]] w' (lN cr w')):=fun w'=>by rw[←nt];exact ES _ _ _ _ _ _ w' hy
 have cX:Hid (∀ w',Calls Tryz.prog 115 #[.agg #[.bool t,e,f,g,h]] w' (nc .i64 ao w')):=fun w'=>by rw[←fW];exact uc _ _ _ _ _ _ w' hy
 have zp:b7=false∨(b7=true∧cr=false)∨(b7=true∧cr=true∧ao=0):=by
  unfold Good at iK;rw[←oL,←nt,←fW];by_cases Ml:x=0<;>by_cases dy:y=0<;>cases s<;>cases t<;>simp[Ml,dy] at iK ⊢
 clear aK cO oL nt fW hx hy iK;have dY:=cx ay;have fa:=cx au;go_enter Tryz.func105,Tryz.ntmps105
 go_upto_region 1 with fail
 rw[←aB.out];clear aB;rcases zp with rfl|⟨rfl,rfl⟩|⟨rfl,rfl,rfl⟩
 all_goals go_wp2_with (first
  | (go_at_call 120;(with_reducible refine(bQ.out _).mono ?_);rintro e' bp ⟨rfl,ad⟩;have au:=au.ext ad;have aR:=aR.ext ad;have EE:=EE.trans ad;have fa:=cx au;obtain⟨i0,i1,i2,i3,i4,i5,i6,i7,i8,i9,dm,cW,cL,dn,dG,l5,l6,l7,l8,l9⟩:=cv aR;clear ad)
  | (go_at_call 120;(with_reducible refine(bY.out _).mono ?_);rintro e' w3 ⟨rfl,ad⟩;have au:=au.ext ad;have aR:=aR.ext ad;have EE:=EE.trans ad;have fa:=cx au;obtain⟨i0,i1,i2,i3,i4,i5,i6,i7,i8,i9,dm,cW,cL,dn,dG,l5,l6,l7,l8,l9⟩:=cv aR;clear ad)
  | (go_at_call 115;(with_reducible refine(cX.out _).mono ?_);rintro e' bZ ⟨rfl,ad⟩;have au:=au.ext ad;have aR:=aR.ext ad;have EE:=EE.trans ad;have fa:=cx au;obtain⟨i0,i1,i2,i3,i4,i5,i6,i7,i8,i9,dm,cW,cL,dn,dG,l5,l6,l7,l8,l9⟩:=cv aR;clear ad))
 all_goals exact bodyPost_ret (v:=.tuple #[.agg #[false,(),(),(),(),false,(),(),(),()],.bool false]) (by simp[results,Tryz.results105,go_sem,i0,i1,i2,i3,i4,i5,i6,i7,i8,i9]) rfl (Hi (kY EE (by omega) _ _ _ _ _ _ _ _ _ _))
theorem cm.cI {w:World}{k b':Nat}{s:Bool}{a b c d:Nat}{t:Bool}{e f g h:Nat} (x:cm w k s a b c d t e f g h) (hn:k≠b') (u0 u1 u2 u3 u4:Value):cm (((((w.setCell ⟨b',0,none⟩ u0).setCell ⟨b',1,none⟩ u1).setCell ⟨b',2,none⟩ u2).setCell ⟨b',3,none⟩ u3).setCell ⟨b',4,none⟩ u4) k s a b c d t e f g h:=by
 unfold cm at *;rw[heap_setCell_other _ _ _ _ (by simpa using hn),heap_setCell_other _ _ _ _ (by simpa using hn),heap_setCell_other _ _ _ _ (by simpa using hn),heap_setCell_other _ _ _ _ (by simpa using hn),heap_setCell_other _ _ _ _ (by simpa using hn)];exact x
def XK (w:World) (x y:Int) (bP:World):Prop:=∃ (s:Bool) (a b c d:Nat) (t:Bool) (e f g h:Nat),cw s a b c d x∧cw t e f g h y∧Box bP w.heap.size s a b c d∧Box bP (w.heap.size+1) t e f g h∧cm bP (w.heap.size+1+1) false 0 0 0 0 false 0 0 0 0∧Ext w bP
set_option maxRecDepth 100000 in
theorem Oa (s t:Bool) (a b c d e f g h:Nat) (x y:Int) (w:World) (hx:cw s a b c d x) (hy:cw t e f g h y) (dy:y≠0) (o:Bool) (aL:decide ((ig x y).natAbs<170141183460469231731687303715884105728∧(ik x y).natAbs<170141183460469231731687303715884105728)=o) :
 Calls Tryz.prog 105 #[.agg #[.bool s,a,b,c,d],.agg #[.bool t,e,f,g,h]] w (wJ o (if o then ig x y else 0) (if o then ik x y else 0) w):=by
 obtain⟨N,jO⟩:=aM (if o then ig x y else 0);obtain⟨D,hH⟩:=aM (if o then ik x y else 0);rw[jO,hH];have dO:=hide jO;have eU:=hide hH;obtain⟨x',Ti⟩:∃ x',(if y<0 then -x else x)=x':=⟨_,rfl⟩;have FL:=hide Ti;clear jO hH Ti;obtain⟨W,aK⟩:=eo ((((w.alloc (.cells #[.bool s,a,b,c,d] 27)).alloc (.cells #[.bool t,e,f,g,h] 27)).alloc (.cells #[false,(),(),(),(),false,(),(),(),()] 29)));have cO:=kF w (.cells #[.bool s,a,b,c,d] 27) (.cells #[.bool t,e,f,g,h] 27) (.cells #[false,(),(),(),(),false,(),(),(),()] 29);rw[←aK] at cO;have ay:Box W w.heap.size s a b c d:=cO.1;have au:Box W (w.heap.size+1) t e f g h:=cO.2.1;have aR:cm W (w.heap.size+1+1) false 0 0 0 0 false 0 0 0 0:=cO.2.2;have EE:Ext w W:=by rw[aK];exact((aA _ _).trans (aA _ _)).trans (aA _ _)
 have aB:=hide aK;obtain⟨ao,fW⟩:=aM y.sign;have DR:(!s||decide (x≠0))=true:=by have:=hx.2;cases s<;>simp at this ⊢;exact this
 have DS:(!t||decide (y≠0))=true:=by simp[dy]
 have bQ:Hid (∀ w',Calls Tryz.prog 120 #[.agg #[.bool s,a,b,c,d]] w' (lN true w')):=fun w'=>by rw[←DR];exact ES _ _ _ _ _ _ w' hx.1
 have bY:Hid (∀ w',Calls Tryz.prog 120 #[.agg #[.bool t,e,f,g,h]] w' (lN true w')):=fun w'=>by rw[←DS];exact ES _ _ _ _ _ _ w' hy.1
 have cX:Hid (∀ w',Calls Tryz.prog 115 #[.agg #[.bool t,e,f,g,h]] w' (nc .i64 ao w')):=fun w'=>by rw[←fW];exact uc _ _ _ _ _ _ w' hy.1
 have sP:¬ (ao=0):=by rw[←fW];intro e;exact dy (Int.sign_eq_zero_iff_zero.1 e)
 have S_:ao<0↔y<0:=by
  rw[←fW];rcases Int.lt_trichotomy y 0 with h1|h1|h1
  ·rw[Int.sign_eq_neg_one_of_neg h1];omega
  ·exact absurd h1 dy
  ·rw[Int.sign_eq_one_of_pos h1];omega
 have TU:Hid (∀ w',Calls Tryz.prog 121 #[.agg #[.bool s,a,b,c,d]] w' (lR (-x) w')):=fun w'=>Hv _ _ _ _ _ _ w' hx.1
 have TV:Hid (∀ w',Calls Tryz.prog 121 #[.agg #[.bool t,e,f,g,h]] w' (lR (-y) w')):=fun w'=>Hv _ _ _ _ _ _ w' hy.1
 have bM:=hide aL;have Qp:=hide S_;have qs:=hide hx;have o0:=hide hy;clear aK cO fW hx hy DR DS aL S_;have dY:=av ay;have fa:=av au;go_enter Tryz.func105,Tryz.ntmps105
 go_upto_region 1 with fail
 rw[←aB.out];clear aB;go_upto_if 23 with (first
  | (go_at_call 120;(with_reducible refine(bQ.out _).mono ?_);rintro e' bp ⟨rfl,ad⟩;have ay:=ay.ext ad;have au:=au.ext ad;have aR:=aR.ext ad;have EE:=EE.trans ad;have dY:=av ay;have fa:=av au;obtain⟨i0,i1,i2,i3,i4,i5,i6,i7,i8,i9,dm,cW,cL,dn,dG,l5,l6,l7,l8,l9⟩:=cv aR;clear ad)
  | (go_at_call 120;(with_reducible refine(bY.out _).mono ?_);rintro e' w3 ⟨rfl,ad⟩;have ay:=ay.ext ad;have au:=au.ext ad;have aR:=aR.ext ad;have EE:=EE.trans ad;have dY:=av ay;have fa:=av au;obtain⟨i0,i1,i2,i3,i4,i5,i6,i7,i8,i9,dm,cW,cL,dn,dG,l5,l6,l7,l8,l9⟩:=cv aR;clear ad)
  | (go_at_call 115;(with_reducible refine(cX.out _).mono ?_);rintro e' bZ ⟨rfl,ad⟩;have ay:=ay.ext ad;have au:=au.ext ad;have aR:=aR.ext ad;have EE:=EE.trans ad;have dY:=av ay;have fa:=av au;obtain⟨i0,i1,i2,i3,i4,i5,i6,i7,i8,i9,dm,cW,cL,dn,dG,l5,l6,l7,l8,l9⟩:=cv aR;clear ad))
 obtain⟨qV,Tm⟩:∃ qV,(if y<0 then -y else y)=qV:=⟨_,rfl⟩;have Cd:=hide Tm;clear Tm;have Ce:=hide dy;clear dy;go_cut [] (fun bP=>XK w x' qV bP)
 case first =>
  by_cases hn:ao<0
  ·have pq:=Qp.out.1 hn;have mP:Hid (x'=-x):=by rw[←FL.out,if_pos pq];exact rfl
   have oO:Hid (qV=-y):=by rw[←Cd.out,if_pos pq];exact rfl
   clear pq;go_wp2_with fail
   go_region_with (first
    | (go_at_call 121;(with_reducible refine(TU.out _).mono ?_);rintro e' bm ⟨iC,a5,c1,cy,d5,rfl,Dz,ad⟩;have ay:Box bm w.heap.size s a b c d:=(by first|exact ay.ext ad|exact ay.drew.ext ad);have au:Box bm (w.heap.size+1) t e f g h:=(by first|exact au.ext ad|exact au.drew.ext ad);have aR:cm bm (w.heap.size+1+1) false 0 0 0 0 false 0 0 0 0:=(by first|exact aR.ext ad|exact aR.drew.ext ad);have EE:Ext w bm:=(by first|exact EE.trans ad|exact(EE.trans (b5 _)).trans ad);have dY:=av ay;have fa:=av au;clear ad)
    | (go_at_call 121;(with_reducible refine(TV.out _).mono ?_);rintro e' cg ⟨fq,a6,cH,cF,d6,rfl,DA,ad⟩;have ay:Box cg w.heap.size s a b c d:=(by first|exact ay.ext ad|exact ay.drew.ext ad);have au:Box cg (w.heap.size+1) t e f g h:=(by first|exact au.ext ad|exact au.drew.ext ad);have aR:cm cg (w.heap.size+1+1) false 0 0 0 0 false 0 0 0 0:=(by first|exact aR.ext ad|exact aR.drew.ext ad);have EE:Ext w cg:=(by first|exact EE.trans ad|exact(EE.trans (b5 _)).trans ad);have dY:=av ay;have fa:=av au;clear ad))
   all_goals go_wp2_with fail
   all_goals go_meet
   all_goals exact⟨iC,a5,c1,cy,d5,fq,a6,cH,cF,d6,by rw[mP.out];exact Dz,by rw[oO.out];exact DA,(ay.put).cI (by omega) _ _ _ _ _,(au.cI (by omega) _ _ _ _ _).put,(aR.cI (by omega) _ _ _ _ _).cI (by omega) _ _ _ _ _,dr (dr EE (Nat.le_refl _) _ _ _ _ _) (by omega) _ _ _ _ _⟩
  ·have pq:¬ y<0:=fun e=>hn (Qp.out.2 e)
   have mP:Hid (x'=x):=by rw[←FL.out,if_neg pq];exact rfl
   have oO:Hid (qV=y):=by rw[←Cd.out,if_neg pq];exact rfl
   clear pq;go_wp2_with fail
   all_goals go_meet
   all_goals exact⟨s,a,b,c,d,t,e,f,g,h,by rw[mP.out];exact qs.out,by rw[oO.out];exact o0.out,ay,au,aR,EE⟩
 case rest =>
  clear ay au aR EE bQ bY cX TU TV;obtain⟨s,a,b,c,d,t,e,f,g,h,hx,hy,ay,au,aR,EE⟩:=hcut;have hyp:0<qV:=by
   have h1:=Cd.out;have h2:=Ce.out;split at h1<;>omega
  have LC:Int.gcd x' qV=Int.gcd x y:=by
   rw[←FL.out,←Cd.out];by_cases hn:y<0
   ·rw[if_pos hn,if_pos hn,Int.gcd_neg,Int.neg_gcd]
   ·rw[if_neg hn,if_neg hn]
  obtain⟨G,aV⟩:∃ G:Int,(Int.gcd x' qV:Int)=G:=⟨_,rfl⟩;have Bc:0<G:=by rw[←aV];have:=Int.gcd_pos_of_ne_zero_right x' (show qV≠0 by omega);omega
  have hJ:ig x y=x' / G:=by unfold ig;rw[FL.out,←LC,aV]
  have zc:ik x y=qV / G:=by unfold ik;rw[Cd.out,←LC,aV]
  obtain⟨n,hn⟩:=aM (x' / G);obtain⟨m,hm⟩:=aM (qV / G);rw[hn] at hJ;rw[hm] at zc;have Cc:=hide hJ;have FI:=hide zc;have yl:=hide aV;have uE:=hide hn;have uD:=hide hm;have ph:Hid (G≠0):=by unfold Hid;omega
  have Xg:=hide hyp;have QD:=hide hx;have QE:=hide hy;clear hJ zc aV hn hm Bc LC hx hy hyp;have dY:=av ay;have fa:=av au;go_upto_region 6 with (go_at_call 122;refine(ajJ s t a b c d e f g h x' qV _ QD.out QE.out Xg.out).mono ?_;rintro e' bm ⟨iC,a5,c1,cy,d5,rfl,uw,ad⟩;rw[yl.out] at uw;have ay:=ay.ext ad;have au:=au.ext ad;have aR:=aR.ext ad;have EE:=EE.trans ad;clear ad)
  have r1:=hide uw;have jG:Box (bm.alloc (.cells #[.bool iC,a5,c1,cy,d5] 27)) bm.heap.size iC a5 c1 cy d5:=heap_alloc_new bm _;have ad:=aA bm (.cells #[.bool iC,a5,c1,cy,d5] 27);have aj:=aR.lt;have ay:=ay.ext ad;have au:=au.ext ad;have aR:=aR.ext ad;have EE:=EE.trans ad;generalize bm.alloc (.cells #[.bool iC,a5,c1,cy,d5] 27)=F6 at *;generalize bm.heap.size=g5 at *;clear uw ad;have dY:=av ay;obtain⟨i0,i1,i2,i3,i4,_⟩:=av jG;go_upto_region 7 with (go_at_call 123;refine(Hu s iC a b c d a5 c1 cy d5 x' G _ QD.out.1 r1.out.1).mono ?_;rintro e' cg ⟨fq,a6,cH,cF,d6,e8,a7,dD,b8,d7,arY,rfl,SZ,qm,kn,ad⟩;have aoq:=hide SZ;rw[if_neg ph.out] at qm;rw[uE.out] at qm;have r2:=hide qm;clear SZ qm kn;have ay:=ay.ext ad;have au:=au.ext ad;have aR:=aR.ext ad;have jG:=jG.ext ad;have EE:=EE.trans ad;clear ad;have dY:=av ay)
  have au:=au.cI (b':=w.heap.size) (by omega) (.bool fq) (.int .u64 (a6:Int)) (.int .u64 (cH:Int)) (.int .u64 (cF:Int)) (.int .u64 (d6:Int));have aR:=aR.cI (b':=w.heap.size) (by omega) (.bool fq) (.int .u64 (a6:Int)) (.int .u64 (cH:Int)) (.int .u64 (cF:Int)) (.int .u64 (d6:Int));have jG:=jG.cI (b':=w.heap.size) (by omega) (.bool fq) (.int .u64 (a6:Int)) (.int .u64 (cH:Int)) (.int .u64 (cF:Int)) (.int .u64 (d6:Int));have ay:=ay.put (t:=fq) (a':=a6) (b':=cH) (c':=cF) (d':=d6);have EE:=dr EE (b:=w.heap.size) (Nat.le_refl _) (.bool fq) (.int .u64 (a6:Int)) (.int .u64 (cH:Int)) (.int .u64 (cF:Int)) (.int .u64 (d6:Int));generalize ((((cg.setCell ⟨w.heap.size,0,none⟩ (.bool fq)).setCell ⟨w.heap.size,1,none⟩ (.int .u64 (a6:Int))).setCell ⟨w.heap.size,2,none⟩ (.int .u64 (cH:Int))).setCell ⟨w.heap.size,3,none⟩ (.int .u64 (cF:Int))).setCell ⟨w.heap.size,4,none⟩ (.int .u64 (d6:Int))=tL at *;have fa:=av au;obtain⟨i0,i1,i2,i3,i4,_⟩:=av jG;go_upto_region 8 with (go_at_call 123;refine(Hu t iC e f g h a5 c1 cy d5 qV G _ QE.out.1 r1.out.1).mono ?_;rintro e' b6 ⟨s8,a8,cE,bR,d8,rO,a9,ix,c2,d9,arZ,rfl,S0,lO,WN,ad⟩;have aor:=hide S0;rw[if_neg ph.out] at lO;rw[uD.out] at lO;have jJ:=hide lO;clear S0 lO WN;have ay:=ay.ext ad;have au:=au.ext ad;have aR:=aR.ext ad;have EE:=EE.trans ad;clear ad;have fa:=av au)
  have ay:=ay.cI (b':=w.heap.size+1) (by omega) (.bool s8) (.int .u64 (a8:Int)) (.int .u64 (cE:Int)) (.int .u64 (bR:Int)) (.int .u64 (d8:Int));have aR:=aR.cI (b':=w.heap.size+1) (by omega) (.bool s8) (.int .u64 (a8:Int)) (.int .u64 (cE:Int)) (.int .u64 (bR:Int)) (.int .u64 (d8:Int));have au:=au.put (t:=s8) (a':=a8) (b':=cE) (c':=bR) (d':=d8);have EE:=dr EE (b:=w.heap.size+1) (by omega) (.bool s8) (.int .u64 (a8:Int)) (.int .u64 (cE:Int)) (.int .u64 (bR:Int)) (.int .u64 (d8:Int));generalize ((((b6.setCell ⟨w.heap.size+1,0,none⟩ (.bool s8)).setCell ⟨w.heap.size+1,1,none⟩ (.int .u64 (a8:Int))).setCell ⟨w.heap.size+1,2,none⟩ (.int .u64 (cE:Int))).setCell ⟨w.heap.size+1,3,none⟩ (.int .u64 (bR:Int))).setCell ⟨w.heap.size+1,4,none⟩ (.int .u64 (d8:Int))=yC at *;obtain⟨q1,Mb⟩:∃ o,decide (n.natAbs<170141183460469231731687303715884105728)=o:=⟨_,rfl⟩;obtain⟨k8,oc⟩:∃ o,decide (m.natAbs<170141183460469231731687303715884105728)=o:=⟨_,rfl⟩;have MA:Hid (∀ w',Calls Tryz.prog 124 #[.agg #[.bool fq,a6,cH,cF,d6]] w' (lN q1 w')):=fun w'=>by rw[←Mb];exact Vl _ _ _ _ _ _ w' r2.out
  have TQ:Hid (∀ w',Calls Tryz.prog 124 #[.agg #[.bool s8,a8,cE,bR,d8]] w' (lN k8 w')):=fun w'=>by rw[←oc];exact Vl _ _ _ _ _ _ w' jJ.out
  have S1:o=(q1&&k8):=by
   rw[←bM.out,Cc.out,FI.out,←Mb,←oc,Bool.decide_and]
  clear bM;have dY:=av ay;have fa:=av au;obtain⟨i0,i1,i2,i3,i4,i5,i6,i7,i8,i9,dm,cW,cL,dn,dG,l5,l6,l7,l8,l9⟩:=cv aR;have zp:(q1=false∧o=false)∨(q1=true∧k8=false∧o=false)∨(q1=true∧k8=true∧o=true):=by
   rw[S1];cases q1<;>cases k8<;>simp
  clear S1 Mb oc;rcases zp with ⟨rfl,rfl⟩|⟨rfl,rfl,rfl⟩|⟨rfl,rfl,rfl⟩
  ·have nK:Hid (N=0∧D=0):=⟨dO.out.symm,eU.out.symm⟩;go_wp2_with (first
    | (go_at_call 124;(with_reducible refine(MA.out _).mono ?_);rintro e' c8 ⟨rfl,ad⟩;have ay:=ay.ext ad;have au:=au.ext ad;have aR:=aR.ext ad;have EE:=EE.trans ad;have dY:=av ay;have fa:=av au;obtain⟨i0,i1,i2,i3,i4,i5,i6,i7,i8,i9,dm,cW,cL,dn,dG,l5,l6,l7,l8,l9⟩:=cv aR;clear ad))
   all_goals exact bodyPost_ret (v:=.tuple #[.agg #[false,(),(),(),(),false,(),(),(),()],.bool false]) (by simp[results,Tryz.results105,go_sem,i0,i1,i2,i3,i4,i5,i6,i7,i8,i9]) rfl (by rw[nK.out.1,nK.out.2];exact Hi (kY EE (by omega) _ _ _ _ _ _ _ _ _ _))
  ·have nK:Hid (N=0∧D=0):=⟨dO.out.symm,eU.out.symm⟩;go_wp2_with (first
    | (go_at_call 124;(with_reducible refine(MA.out _).mono ?_);rintro e' c8 ⟨rfl,ad⟩;have ay:=ay.ext ad;have au:=au.ext ad;have aR:=aR.ext ad;have EE:=EE.trans ad;have dY:=av ay;have fa:=av au;obtain⟨i0,i1,i2,i3,i4,i5,i6,i7,i8,i9,dm,cW,cL,dn,dG,l5,l6,l7,l8,l9⟩:=cv aR;clear ad)
    | (go_at_call 124;(with_reducible refine(TQ.out _).mono ?_);rintro e' cN ⟨rfl,ad⟩;have ay:=ay.ext ad;have au:=au.ext ad;have aR:=aR.ext ad;have EE:=EE.trans ad;have dY:=av ay;have fa:=av au;obtain⟨i0,i1,i2,i3,i4,i5,i6,i7,i8,i9,dm,cW,cL,dn,dG,l5,l6,l7,l8,l9⟩:=cv aR;clear ad))
   all_goals exact bodyPost_ret (v:=.tuple #[.agg #[false,(),(),(),(),false,(),(),(),()],.bool false]) (by simp[results,Tryz.results105,go_sem,i0,i1,i2,i3,i4,i5,i6,i7,i8,i9]) rfl (by rw[nK.out.1,nK.out.2];exact Hi (kY EE (by omega) _ _ _ _ _ _ _ _ _ _))
  ·have nK:Hid (cw fq a6 cH cF d6 N∧cw s8 a8 cE bR d8 D):=by
    have h1:=dO.out;have h2:=eU.out;rw[if_pos rfl] at h1 h2;rw[←h1,←h2,Cc.out,FI.out];exact⟨r2.out,jJ.out⟩
   go_wp2_with (first
    | (go_at_call 124;(with_reducible refine(MA.out _).mono ?_);rintro e' c8 ⟨rfl,ad⟩;have ay:=ay.ext ad;have au:=au.ext ad;have aR:=aR.ext ad;have EE:=EE.trans ad;have dY:=av ay;have fa:=av au;obtain⟨i0,i1,i2,i3,i4,i5,i6,i7,i8,i9,dm,cW,cL,dn,dG,l5,l6,l7,l8,l9⟩:=cv aR;clear ad)
    | (go_at_call 124;(with_reducible refine(TQ.out _).mono ?_);rintro e' cN ⟨rfl,ad⟩;have ay:=ay.ext ad;have au:=au.ext ad;have aR:=aR.ext ad;have EE:=EE.trans ad;have dY:=av ay;have fa:=av au;obtain⟨i0,i1,i2,i3,i4,i5,i6,i7,i8,i9,dm,cW,cL,dn,dG,l5,l6,l7,l8,l9⟩:=cv aR;clear ad))
   all_goals exact bodyPost_ret (v:=.tuple #[.agg #[.bool fq,a6,cH,cF,d6,.bool s8,a8,cE,bR,d8],.bool true]) (by simp[results,Tryz.results105,go_sem,i0,i1,i2,i3,i4,i5,i6,i7,i8,i9]) rfl ⟨fq,a6,cH,cF,d6,s8,a8,cE,bR,d8,rfl,nK.out.1,nK.out.2,kY EE (by omega) _ _ _ _ _ _ _ _ _ _⟩
end
section
open Go Go.RowKit
instance (s:Bool) (z:Int):Decidable (Good s z):=by unfold Good;infer_instance
def o3 (s:Bool) (x:Int) (t:Bool) (y:Int):Prop:=Good s x∧Good t y∧iW x y
instance (s:Bool) (x:Int) (t:Bool) (y:Int):Decidable (o3 s x t y):=by unfold o3;infer_instance
set_option maxRecDepth 100000 in
theorem Vp (s t:Bool) (a b c d e f g h:Nat) (x y:Int) (w:World) (hx:dg s a b c d x) (hy:dg t e f g h y) (v:Bool) (aF:decide (o3 s x t y)=v) :
 Calls Tryz.prog 90 #[.agg #[.bool s,a,b,c,d,.bool t,e,f,g,h]] w (lN v w):=by
 have bN:=hide (aA w (.cells #[.bool s,a,b,c,d,.bool t,e,f,g,h] 29));have cK:cm (w.alloc (.cells #[.bool s,a,b,c,d,.bool t,e,f,g,h] 29)) w.heap.size s a b c d t e f g h:=heap_alloc_new w _;obtain⟨W,aK⟩:=eo (w.alloc (.cells #[.bool s,a,b,c,d,.bool t,e,f,g,h] 29));rw[←aK] at bN cK;have aB:=hide aK;clear aK;obtain⟨bt,az,aU,a_,bK,cy,cF,b8,bR,c2,_⟩:=cv cK;by_cases af:Good s x∧Good t y∧y≠0
 ·have nS:cw s a b c d x:=⟨hx,af.1⟩;have sZ:cw t e f g h y:=⟨hy,af.2.1⟩;obtain⟨o,aL⟩:=aM (decide ((ig x y).natAbs<170141183460469231731687303715884105728∧(ik x y).natAbs<170141183460469231731687303715884105728));cases o
  ·have Et:Hid (∀ w',Calls Tryz.prog 105 #[.agg #[.bool s,a,b,c,d],.agg #[.bool t,e,f,g,h]] w' (wJ false 0 0 w')):=fun w'=>by have:=Oa s t a b c d e f g h x y w' nS sZ af.2.2 false aL;simpa using this
   have oN:v=false:=by
    rw[←aF,decide_eq_false_iff_not];intro h1;have h2:=abS h1.2.2;exact(of_decide_eq_false aL) ⟨h2.2.1,h2.2.2⟩
   subst oN;clear aF aL af nS sZ hx hy;go_enter Tryz.func90,Tryz.ntmps90
   go_upto_region 1 with fail
   rw[←aB.out];clear aB;go_wp2_with (go_at_call 105;(with_reducible refine(Et.out _).mono ?_);rintro e' bp ⟨s1,a1,bA,az,d1,t1,bk,f1,g1,h1,rfl,_,_,ad⟩;have EE:=hide ((bN.out.trans ad).trans (aA bp (.cells #[.bool s1,a1,bA,az,d1,.bool t1,bk,f1,g1,h1] 29)));clear ad)
   all_goals go_ret
   all_goals exact⟨rfl,EE.out⟩
  ·have Et:Hid (∀ w',Calls Tryz.prog 105 #[.agg #[.bool s,a,b,c,d],.agg #[.bool t,e,f,g,h]] w' (wJ true (ig x y) (ik x y) w')):=fun w'=>by have:=Oa s t a b c d e f g h x y w' nS sZ af.2.2 true aL;simpa using this
   have zi:I0 x y:=⟨af.2.2,of_decide_eq_true aL⟩;have Eg:v=(decide (ig x y=x)&&decide (ik x y=y)):=by
    rw[←aF,←Bool.decide_and,decide_eq_decide];constructor
    ·intro h1;exact R_ h1.2.2
    ·rintro⟨h1,h2⟩;have h3:=Uc zi;rw[h1,h2] at h3;exact⟨af.1,af.2.1,h3⟩
   have qs:=hide nS;have o0:=hide sZ;have IU:=hide Eg;clear aF aL af nS sZ hx hy zi Eg;go_enter Tryz.func90,Tryz.ntmps90
   go_upto_region 1 with fail
   rw[←aB.out];clear aB;go_upto_region 2 with (go_at_call 105;(with_reducible refine(Et.out _).mono ?_);rintro e' bp ⟨s1,a1,bA,az,d1,t1,bk,f1,g1,h1,rfl,jX,oZ,ad⟩;have EE:=hide (bN.out.trans ad);have cK:=cK.ext ad;clear ad)
   have aS:cm (bp.alloc (.cells #[.bool s1,a1,bA,az,d1,.bool t1,bk,f1,g1,h1] 29)) bp.heap.size s1 a1 bA az d1 t1 bk f1 g1 h1:=heap_alloc_new bp _;have ad:=aA bp (.cells #[.bool s1,a1,bA,az,d1,.bool t1,bk,f1,g1,h1] 29);have cK:=cK.ext ad;have EE:=hide (EE.out.trans ad);have aO:=RU s1 s a1 bA az d1 a b c d t1 t bk f1 g1 h1 e f g h;rw[HP jX qs.out,HP oZ o0.out,←IU.out] at aO;obtain⟨bt,nO,aU,a_,bK,cy,cF,b8,bR,c2,_⟩:=cv cK;have uq:=ct aS;clear jX oZ ad;go_wp2_with fail
   all_goals go_ret
   all_goals exact⟨rfl,EE.out⟩
 ·have Et:Hid (∀ w',Calls Tryz.prog 105 #[.agg #[.bool s,a,b,c,d],.agg #[.bool t,e,f,g,h]] w' (wJ false 0 0 w')):=fun w'=>ajM s t a b c d e f g h x y w' hx hy af
  have oN:v=false:=by
   rw[←aF,decide_eq_false_iff_not];intro h1;exact af ⟨h1.1,h1.2.1,by have:=h1.2.2.1;omega⟩
  subst oN;clear aF af hx hy;go_enter Tryz.func90,Tryz.ntmps90
  go_upto_region 1 with fail
  rw[←aB.out];clear aB;go_wp2_with (go_at_call 105;(with_reducible refine(Et.out _).mono ?_);rintro e' bp ⟨s1,a1,bA,az,d1,t1,bk,f1,g1,h1,rfl,_,_,ad⟩;have EE:=hide ((bN.out.trans ad).trans (aA bp (.cells #[.bool s1,a1,bA,az,d1,.bool t1,bk,f1,g1,h1] 29)));clear ad)
  all_goals go_ret
  all_goals exact⟨rfl,EE.out⟩
open Go Go.RowKit
def uK (n m:Int) (w:World) (e:Ending) (w':World):Prop:=∃ (s:Bool) (a b c d:Nat) (t:Bool) (e' f g h:Nat),e=.returned (.agg #[.bool s,a,b,c,d,.bool t,e',f,g,h])∧cw s a b c d n∧cw t e' f g h m∧Ext w w'
set_option maxRecDepth 100000 in
theorem Vn (v:Int) (w:World) (v1:-9223372036854775808≤v) (v2:v≤9223372036854775807):Calls Tryz.prog 98 #[.int .i64 v] w (uK v 1 w):=by
 have cC:cm (w.alloc (.cells #[false,(),(),(),(),false,(),(),(),()] 29)) w.heap.size false 0 0 0 0 false 0 0 0 0:=heap_alloc_new w _;have EE:=aA w (.cells #[false,(),(),(),(),false,(),(),(),()] 29);obtain⟨W,aK⟩:=eo (w.alloc (.cells #[false,(),(),(),(),false,(),(),(),()] 29));rw[←aK] at cC EE;have aB:=hide aK;clear aK;have bQ:Hid (∀ w',Calls Tryz.prog 95 #[.int .i64 v] w' (lR v w')):=fun w'=>NW v w' v1 v2
 have bY:Hid (∀ w',Calls Tryz.prog 95 #[.int .i64 1] w' (lR 1 w')):=fun w'=>NW 1 w' (by omega) (by omega)
 clear v1 v2;go_enter Tryz.func98,Tryz.ntmps98
 go_upto_region 1 with fail
 rw[←aB.out];clear aB;go_wp2_with (first
  | (go_at_call 95;(with_reducible refine(bQ.out _).mono ?_);rintro e' bp ⟨s1,a1,bA,az,d1,rfl,jX,ad⟩;have eN:=hide jX;have cC:=cC.ext ad;have EE:=EE.trans ad;obtain⟨i0,i1,i2,i3,i4,i5,i6,i7,i8,i9,dm,cW,cL,dn,dG,l5,l6,l7,l8,l9⟩:=cv cC;clear ad jX)
  | (go_at_call 95;(with_reducible refine(bY.out _).mono ?_);rintro e' w3 ⟨s2,a2,bX,aU,d2,rfl,ot,ad⟩;have eC:=hide ot;have cC:=cC.ext ad;have EE:=EE.trans ad;obtain⟨i0,i1,i2,i3,i4,i5,i6,i7,i8,i9,dm,cW,cL,dn,dG,l5,l6,l7,l8,l9⟩:=cv cC;clear ad ot))
 all_goals exact bodyPost_ret (v:=.agg #[.bool s1,a1,bA,az,d1,.bool s2,a2,bX,aU,d2]) (by simp[results,Tryz.results98,go_sem,i0,i1,i2,i3,i4,i5,i6,i7,i8,i9]) rfl ⟨s1,a1,bA,az,d1,s2,a2,bX,aU,d2,rfl,eN.out,eC.out,kY EE (Nat.le_refl _) _ _ _ _ _ _ _ _ _ _⟩
def lU (v:Bool) (x:Int):Int:=if v then x else 0
def lm (v:Bool) (y:Int):Int:=if v then y else 1
set_option maxRecDepth 100000 in
theorem Vk (s t:Bool) (a b c d e f g h:Nat) (x y:Int) (w:World) (hx:dg s a b c d x) (hy:dg t e f g h y) (v:Bool) (aF:decide (o3 s x t y)=v) :
 Calls Tryz.prog 106 #[.agg #[.bool s,a,b,c,d,.bool t,e,f,g,h]] w (uK (lU v x) (lm v y) w):=by
 have bz:=e1 w (.cells #[.bool s,a,b,c,d,.bool t,e,f,g,h] 29) (.cells #[false,(),(),(),(),false,(),(),(),()] 29);have EE:=hide ((aA w (.cells #[.bool s,a,b,c,d,.bool t,e,f,g,h] 29)).trans (aA _ (.cells #[false,(),(),(),(),false,(),(),(),()] 29)));obtain⟨W,aK⟩:=eo ((w.alloc (.cells #[.bool s,a,b,c,d,.bool t,e,f,g,h] 29)).alloc (.cells #[false,(),(),(),(),false,(),(),(),()] 29));rw[←aK] at bz EE;have cC:cm W w.heap.size s a b c d t e f g h:=bz.1;have aS:cm W (w.heap.size+1) false 0 0 0 0 false 0 0 0 0:=bz.2;have aB:=hide aK;have kv:Hid (∀ w',Calls Tryz.prog 90 #[.agg #[.bool s,a,b,c,d,.bool t,e,f,g,h]] w' (lN v w')):=fun w'=>Vp s t a b c d e f g h x y w' hx hy v aF
 have KK:Hid (v=true→cw s a b c d x∧cw t e f g h y):=by
  intro h1;rw[h1] at aF;have h2:=of_decide_eq_true aF;exact⟨⟨hx,h2.1⟩,⟨hy,h2.2.1⟩⟩
 clear aK bz aF hx hy;obtain⟨bt,az,aU,a_,bK,cy,cF,b8,bR,c2,_⟩:=cv cC;go_enter Tryz.func106,Tryz.ntmps106
 go_upto_region 1 with fail
 rw[←aB.out];clear aB;cases v
 ·go_wp2_with (first
   | (go_at_call 90;(with_reducible refine(kv.out _).mono ?_);rintro e' bp ⟨rfl,ad⟩;have aS:=aS.ext ad;have EE:=hide (EE.out.trans ad);clear ad)
   | (go_at_call 98;refine(Vn 0 _ (by omega) (by omega)).mono ?_;rintro e' w3 ⟨s1,a1,bA,az,d1,t1,bk,f1,g1,h1,rfl,jX,oZ,ad⟩;have eN:=hide jX;have eC:=hide oZ;have aS:=aS.ext ad;have EE:=hide (EE.out.trans ad);obtain⟨i0,i1,i2,i3,i4,i5,i6,i7,i8,i9,dm,cW,cL,dn,dG,l5,l6,l7,l8,l9⟩:=cv aS;clear ad jX oZ))
  all_goals exact bodyPost_ret (v:=.agg #[.bool s1,a1,bA,az,d1,.bool t1,bk,f1,g1,h1]) (by simp[results,Tryz.results106,go_sem,i0,i1,i2,i3,i4,i5,i6,i7,i8,i9]) rfl ⟨s1,a1,bA,az,d1,t1,bk,f1,g1,h1,rfl,eN.out,eC.out,kY EE.out (by omega) _ _ _ _ _ _ _ _ _ _⟩
 ·obtain⟨eN,eC⟩:=KK.out rfl;have eN:=hide eN;have eC:=hide eC;go_wp2_with (go_at_call 90;(with_reducible refine(kv.out _).mono ?_);rintro e' bp ⟨rfl,ad⟩;have cC:=cC.ext ad;have aS:=aS.ext ad;have EE:=hide (EE.out.trans ad);obtain⟨bt,az,aU,a_,bK,cy,cF,b8,bR,c2,_⟩:=cv cC;obtain⟨i0,i1,i2,i3,i4,i5,i6,i7,i8,i9,dm,cW,cL,dn,dG,l5,l6,l7,l8,l9⟩:=cv aS;clear ad)
  all_goals exact bodyPost_ret (v:=.agg #[.bool s,a,b,c,d,.bool t,e,f,g,h]) (by simp[results,Tryz.results106,go_sem,i0,i1,i2,i3,i4,i5,i6,i7,i8,i9]) rfl ⟨s,a,b,c,d,t,e,f,g,h,rfl,eN.out,eC.out,kY EE.out (by omega) _ _ _ _ _ _ _ _ _ _⟩
end
end Go.Proofs.YtojbopibfflnoaaGreat
