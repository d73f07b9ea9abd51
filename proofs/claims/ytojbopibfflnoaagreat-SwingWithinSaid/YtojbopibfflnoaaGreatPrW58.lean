/- Contracts and plain facts; each states its conditions. -/
import Derived.Test.YtojbopibfflnoaaGreatPrW14
import Derived.Test.YtojbopibfflnoaaGreatPrW21
import Derived.Test.YtojbopibfflnoaaGreatPrW24
import Derived.Test.YtojbopibfflnoaaGreatPrW26
import Derived.Test.YtojbopibfflnoaaGreatPrW29
import Derived.Test.YtojbopibfflnoaaGreatPrW39
import Derived.Test.YtojbopibfflnoaaGreatPrW40
import Derived.Test.YtojbopibfflnoaaGreatPrW46
import Derived.Test.YtojbopibfflnoaaGreatPrW48
import Derived.Test.YtojbopibfflnoaaGreatPrW50
import Derived.Lib.QuietBelow
import Derived.Shelf.Strconv.Itoa0
import Derived.Deep.RegionLaw
namespace Go.Proofs.YtojbopibfflnoaaGreat
set_option linter.unusedVariables false
set_option linter.unusedSimpArgs false
set_option maxHeartbeats 16000000
section
open Go Go.RowKit
open Go Go.RowKit
set_option maxRecDepth 100000 in
theorem axL (s:Bool) (a b c d:Nat) (t:Bool) (e f g h:Nat) (x y:Int) (w:World) (hx:dg s a b c d x) (hy:dg t e f g h y) (k:Nat) (aE:k<18446744073709551616) (v:Bool) (aF:decide (o3 s x t y)=v) :
 Calls Tryz.prog 25 #[.agg #[.bool s,a,b,c,d,.bool t,e,f,g,h],.int .u64 (k:Int)] w (lR (((lU v x+lU v x)*k+lm v y) / (lm v y+lm v y)) w):=by
 have bz:=e1 w (.cells #[.bool s,a,b,c,d,.bool t,e,f,g,h] 29) (.cells #[false,(),(),(),()] 27);have EE:=(aA w (.cells #[.bool s,a,b,c,d,.bool t,e,f,g,h] 29)).trans (aA _ (.cells #[false,(),(),(),()] 27));obtain⟨W,aK⟩:=eo ((w.alloc (.cells #[.bool s,a,b,c,d,.bool t,e,f,g,h] 29)).alloc (.cells #[false,(),(),(),()] 27));rw[←aK] at bz EE;have cC:cm W w.heap.size s a b c d t e f g h:=bz.1;have aR:Box W (w.heap.size+1) false 0 0 0 0:=bz.2;have aB:=hide aK;clear aK bz;have bQ:Hid (∀ w',Calls Tryz.prog 65 #[.agg #[.bool s,a,b,c,d,.bool t,e,f,g,h]] w' (uK (lU v x) (lm v y) w')):=fun w'=>VI _ _ _ _ _ _ _ _ _ _ x y w' hx hy v aF
 obtain⟨JF,avB,pd,_⟩:=Ge aF;obtain⟨n,hn⟩:=aM (lU v x);obtain⟨m,hm⟩:∃ n,lm v y=n:=⟨_,rfl⟩;rw[hn,hm] at bQ ⊢;rw[hm] at pd;have k4:Hid (m≠0):=by unfold Hid;omega
 rw[hn] at JF;rw[hm] at avB;have avM:Hid (m+m≠0):=by unfold Hid;omega
 obtain⟨fb,l3⟩:∃ z,n*(k:Int)=z:=⟨_,rfl⟩;obtain⟨z2,lz⟩:∃ z,fb+fb=z:=⟨_,rfl⟩;obtain⟨z3,avg⟩:∃ z,z2+m=z:=⟨_,rfl⟩;obtain⟨z4,avh⟩:∃ z,m+m=z:=⟨_,rfl⟩;have Sc:fb.natAbs<3138550867693340381917894711603833208051177722232017256448:=by
  rw[←l3,Int.natAbs_mul,Int.natAbs_natCast];exact Nat.lt_of_lt_of_le (Nat.mul_lt_mul'' JF aE) (by decide)
 have awM:z2.natAbs<6277101735386680763835789423207666416102355444464034512896:=by omega
 have avF:z3.natAbs<115792089237316195423570985008687907853269984665640564039457584007913129639936:=by omega
 have avG:z4.natAbs<115792089237316195423570985008687907853269984665640564039457584007913129639936:=by omega
 rw[avh] at avM ⊢;have avT:(n+n)*(k:Int)=z2:=by rw[←lz,←l3,Int.add_mul]
 rw[avT,avg];have hN:Hid (∀ w' s a b c d,dg s a b c d fb→Calls Tryz.prog 24 #[.agg #[.bool s,a,b,c,d],.agg #[.bool s,a,b,c,d]] w' (X4 z2 w')):=fun w' s a b c d h=>(VD s s a b c d a b c d fb fb w' h h).mono (fun _ _ q=>H' (by rw[lz] at q;exact q) (by omega))
 have eM:Hid (∀ w' s a b c d t e f g h,dg s a b c d n→dg t e f g h (k:Int)→Calls Tryz.prog 66 #[.agg #[.bool s,a,b,c,d],.agg #[.bool t,e,f,g,h]] w' (X4 fb w')):=fun w' s a b c d t e f g h h1 h2=>(Oi s t a b c d e f g h n k w' h1 h2).mono (fun _ _ q=>H' (by rw[l3] at q;exact q) (by omega))
 have gR:Hid (∀ w' s a b c d t e f g h,dg s a b c d z2→dg t e f g h m→Calls Tryz.prog 24 #[.agg #[.bool s,a,b,c,d],.agg #[.bool t,e,f,g,h]] w' (X4 z3 w')):=fun w' s a b c d t e f g h h1 h2=>(VD s t a b c d e f g h z2 m w' h1 h2).mono (fun _ _ q=>H' (by rw[avg] at q;exact q) avF)
 have kd:Hid (∀ w' s a b c d,dg s a b c d m→Calls Tryz.prog 24 #[.agg #[.bool s,a,b,c,d],.agg #[.bool s,a,b,c,d]] w' (X4 z4 w')):=fun w' s a b c d h=>(VD s s a b c d a b c d m m w' h h).mono (fun _ _ q=>H' (by rw[avh] at q;exact q) avG)
 have avV:Hid (∀ w',Calls Tryz.prog 58 #[.int .u64 (k:Int)] w' (lR (k:Int) w')):=fun w'=>VA k w' aE
 clear avT hn hm aF hx hy JF avB pd l3 lz avg avh Sc awM avF avG aE;have uq:=cv cC;go_enter Tryz.func25,Tryz.ntmps25
 go_upto_region 1 with fail
 rw[←aB.out];clear aB;go_upto_region 2 with (go_at_call 65;(with_reducible refine(bQ.out _).mono ?_);rintro e' bp ⟨s1,a1,bA,az,d1,t1,bk,f1,g1,h1,rfl,jX,oZ,ad⟩;have eN:=hide jX;have kq:=hide oZ;have cC:=cC.ext ad;have aR:=aR.ext ad;have EE:=EE.trans ad;have uq:=cv cC;clear ad jX oZ)
 have Cp:=cC.put (s':=s1) (a':=a1) (b':=bA) (c':=az) (d':=d1) (t':=t1) (e':=bk) (f':=f1) (g':=g1) (h':=h1);have Q2:=aR.C7 (b':=w.heap.size) (by omega) (.bool s1) (.int .u64 (a1:Int)) (.int .u64 (bA:Int)) (.int .u64 (az:Int)) (.int .u64 (d1:Int)) (.bool t1) (.int .u64 (bk:Int)) (.int .u64 (f1:Int)) (.int .u64 (g1:Int)) (.int .u64 (h1:Int));have atW:=kY EE (b:=w.heap.size) (Nat.le_refl _) (.bool s1) (.int .u64 (a1:Int)) (.int .u64 (bA:Int)) (.int .u64 (az:Int)) (.int .u64 (d1:Int)) (.bool t1) (.int .u64 (bk:Int)) (.int .u64 (f1:Int)) (.int .u64 (g1:Int)) (.int .u64 (h1:Int));generalize (((((((((bp.setCell ⟨w.heap.size,0,none⟩ (.bool s1)).setCell ⟨w.heap.size,1,none⟩ (.int .u64 (a1:Int))).setCell ⟨w.heap.size,2,none⟩ (.int .u64 (bA:Int))).setCell ⟨w.heap.size,3,none⟩ (.int .u64 (az:Int))).setCell ⟨w.heap.size,4,none⟩ (.int .u64 (d1:Int))).setCell ⟨w.heap.size,5,none⟩ (.bool t1)).setCell ⟨w.heap.size,6,none⟩ (.int .u64 (bk:Int))).setCell ⟨w.heap.size,7,none⟩ (.int .u64 (f1:Int))).setCell ⟨w.heap.size,8,none⟩ (.int .u64 (g1:Int))).setCell ⟨w.heap.size,9,none⟩ (.int .u64 (h1:Int))=at4 at *;clear cC aR EE;have XV:=hide eN.out.1;have mH:=hide kq.out.1;obtain⟨k7,q1,k8,HB,ET,ash,q6,Vb,asi,asj,aud,aue,auf,aug,auh,aui,auj,auk,aul,aum⟩:=cv Cp;have aj:=Q2.lt;go_upto_region 2 with fail
 go_cut [5] (fun p bP=>Quot at4 fb p bP)
 case first =>
  have b2:=Ext.refl at4;go_region_held3 (fun w'=>w'.cell? ⟨w.heap.size,0,none⟩=some (.bool s1)∧w'.cell? ⟨w.heap.size,1,none⟩=some (.int .u64 (a1:Int))∧w'.cell? ⟨w.heap.size,2,none⟩=some (.int .u64 (bA:Int))∧w'.cell? ⟨w.heap.size,3,none⟩=some (.int .u64 (az:Int))∧w'.cell? ⟨w.heap.size,4,none⟩=some (.int .u64 (d1:Int))) (first|(with_reducible exact⟨k7,q1,k8,HB,ET⟩)|go_keep) (first
   | (go_at_call 58;(with_reducible refine(avV.out _).mono ?_);rintro e' cg ⟨fq,a6,cH,cF,d6,rfl,qm,ad⟩;have r2:=hide qm;have auW:=hide qm.1;clear qm;have hF:Ext at4 cg:=(by first|(with_reducible exact ad)|(with_reducible exact(b5 _).trans ad));clear ad;have aV:=hF;have Cp:=Cp.ext aV;have Q2:=Q2.ext aV;have b2:=b2.trans aV;obtain⟨k7,q1,k8,HB,ET,ash,q6,Vb,asi,asj,aud,aue,auf,aug,auh,aui,auj,auk,aul,aum⟩:=cv Cp;have HV:=aV.size;have auZ:=Cp.lt;have au0:=Q2.lt;clear hF aV)
   | (go_at_call 58;(with_reducible refine(avV.out _).mono ?_);rintro e' cg ⟨fq,a6,cH,cF,d6,rfl,qm,ad⟩;have r2:=hide qm;have auW:=hide qm.1;clear qm;have hF:Ext (at4.alloc (.cells #[false,(),(),(),()] 27)) cg:=(by first|(with_reducible exact ad)|(with_reducible exact(b5 _).trans ad));clear ad;have aV:=(aA at4 (.cells #[false,(),(),(),()] 27)).trans hF;have nh:Box cg (at4.heap.size) false 0 0 0 0:=(Box.nA at4).ext hF;have Cp:=Cp.ext aV;have Q2:=Q2.ext aV;have b2:=b2.trans aV;obtain⟨k7,q1,k8,HB,ET,ash,q6,Vb,asi,asj,aud,aue,auf,aug,auh,aui,auj,auk,aul,aum⟩:=cv Cp;have km:=av nh;have HV:=aV.size;have auZ:=Cp.lt;have au0:=Q2.lt;have Hg:=nh.lt;have kb:at4.heap.size≠w.heap.size:=(by omega);have kc:at4.heap.size≠w.heap.size+1:=(by omega);clear hF aV)
   | (go_at_call 66;(with_reducible refine(eM.out _ _ _ _ _ _ _ _ _ _ _ XV.out auW.out).mono ?_);rintro e' bZ ⟨s3,a3,en,a_,d3,rfl,C3,ad⟩;have c4:=hide C3;clear C3;have hF:Ext cg bZ:=(by first|(with_reducible exact ad)|(with_reducible exact(b5 _).trans ad));clear ad;have aV:=hF;have Cp:=Cp.ext aV;have Q2:=Q2.ext aV;have b2:=b2.trans aV;have nh:=nh.ext aV;obtain⟨k7,q1,k8,HB,ET,ash,q6,Vb,asi,asj,aud,aue,auf,aug,auh,aui,auj,auk,aul,aum⟩:=cv Cp;have km:=av nh;have av2:=aV.size;have auZ:=Cp.lt;have au0:=Q2.lt;have Hg:=nh.lt;have kb:at4.heap.size≠w.heap.size:=(by omega);have kc:at4.heap.size≠w.heap.size+1:=(by omega);clear hF aV)
   | (go_at_call 66;(with_reducible refine(eM.out _ _ _ _ _ _ _ _ _ _ _ XV.out auW.out).mono ?_);rintro e' bZ ⟨s3,a3,en,a_,d3,rfl,C3,ad⟩;have c4:=hide C3;clear C3;have hF:Ext cg bZ:=(by first|(with_reducible exact ad)|(with_reducible exact(b5 _).trans ad));clear ad;have aV:=hF;have Cp:=Cp.ext aV;have Q2:=Q2.ext aV;have b2:=b2.trans aV;obtain⟨k7,q1,k8,HB,ET,ash,q6,Vb,asi,asj,aud,aue,auf,aug,auh,aui,auj,auk,aul,aum⟩:=cv Cp;have av2:=aV.size;have auZ:=Cp.lt;have au0:=Q2.lt;clear hF aV)
   | (go_at_call 66;(with_reducible refine(eM.out _ _ _ _ _ _ _ _ _ _ _ XV.out auW.out).mono ?_);rintro e' bZ ⟨s3,a3,en,a_,d3,rfl,C3,ad⟩;have c4:=hide C3;clear C3;have hF:Ext (cg.alloc (.cells #[false,(),(),(),()] 27)) bZ:=(by first|(with_reducible exact ad)|(with_reducible exact(b5 _).trans ad));clear ad;have aV:=(aA cg (.cells #[false,(),(),(),()] 27)).trans hF;have au6:Box bZ (cg.heap.size) false 0 0 0 0:=(Box.nA cg).ext hF;have Cp:=Cp.ext aV;have Q2:=Q2.ext aV;have b2:=b2.trans aV;obtain⟨k7,q1,k8,HB,ET,ash,q6,Vb,asi,asj,aud,aue,auf,aug,auh,aui,auj,auk,aul,aum⟩:=cv Cp;have km:=av au6;have av2:=aV.size;have auZ:=Cp.lt;have au0:=Q2.lt;have ayw:=au6.lt;have kb:cg.heap.size≠w.heap.size:=(by omega);have kc:cg.heap.size≠w.heap.size+1:=(by omega);clear hF aV))
  all_goals go_wp2_with fail
  all_goals go_meet
  all_goals first
   | (with_reducible exact ahQ c4.out b2)
   | (with_reducible exact ua c4.out b2 au6 (by omega))
   | (with_reducible exact ua c4.out b2 nh (by omega))
 case rest =>
  obtain⟨g7,e8,a7,dD,b8,d7,rfl,kn,qW,xl,ad⟩:=hcut;have ov:=hide kn;have av':=hide kn.1;have Cp:=Cp.ext ad;have Q2:=Q2.ext ad;have atW:=atW.trans ad;clear kn ad;have ai:=Cp.lt;obtain⟨k7,q1,k8,HB,ET,ash,q6,Vb,asi,asj,aud,aue,auf,aug,auh,aui,auj,auk,aul,aum⟩:=cv Cp;have auU:=av qW;go_upto_region 4 with (go_at_call 24;(with_reducible refine(hN.out _ _ _ _ _ _ av'.out).mono ?_);rintro e' c8 ⟨s8,a8,cE,bR,d8,rfl,lO,ad⟩;have jJ:=hide lO;have q3:=hide lO.1;have Cp:=Cp.ext ad;have Q2:=Q2.ext ad;have qW:=qW.ext ad;have atW:=atW.trans ad;have auU:=av qW;clear ad lO)
  have qW:=qW.put (t:=s8) (a':=a8) (b':=cE) (c':=bR) (d':=d8);have Cp:=Cp.cI (b':=g7) (by omega) (.bool s8) (.int .u64 (a8:Int)) (.int .u64 (cE:Int)) (.int .u64 (bR:Int)) (.int .u64 (d8:Int));have Q2:=Q2.cI (b':=g7) (by omega) (.bool s8) (.int .u64 (a8:Int)) (.int .u64 (cE:Int)) (.int .u64 (bR:Int)) (.int .u64 (d8:Int));have atW:=dr atW (b:=g7) (by omega) (.bool s8) (.int .u64 (a8:Int)) (.int .u64 (cE:Int)) (.int .u64 (bR:Int)) (.int .u64 (d8:Int));generalize (((((c8.setCell ⟨g7,0,none⟩ (.bool s8)).setCell ⟨g7,1,none⟩ (.int .u64 (a8:Int))).setCell ⟨g7,2,none⟩ (.int .u64 (cE:Int))).setCell ⟨g7,3,none⟩ (.int .u64 (bR:Int))).setCell ⟨g7,4,none⟩ (.int .u64 (d8:Int)))=yC at *;obtain⟨k7,q1,k8,HB,ET,ash,q6,Vb,asi,asj,aud,aue,auf,aug,auh,aui,auj,auk,aul,aum⟩:=cv Cp;have auU:=av qW;have auU:=av qW;go_upto_region 5 with (go_at_call 24;(with_reducible refine(gR.out _ _ _ _ _ _ _ _ _ _ _ q3.out mH.out).mono ?_);rintro e' cN ⟨rO,a9,ix,c2,d9,rfl,WN,ad⟩;have av6:=hide WN;have ayp:=hide WN.1;have Cp:=Cp.ext ad;have Q2:=Q2.ext ad;have qW:=qW.ext ad;have atW:=atW.trans ad;have auU:=av qW;clear ad WN)
  have qW:=qW.put (t:=rO) (a':=a9) (b':=ix) (c':=c2) (d':=d9);have Cp:=Cp.cI (b':=g7) (by omega) (.bool rO) (.int .u64 (a9:Int)) (.int .u64 (ix:Int)) (.int .u64 (c2:Int)) (.int .u64 (d9:Int));have Q2:=Q2.cI (b':=g7) (by omega) (.bool rO) (.int .u64 (a9:Int)) (.int .u64 (ix:Int)) (.int .u64 (c2:Int)) (.int .u64 (d9:Int));have atW:=dr atW (b:=g7) (by omega) (.bool rO) (.int .u64 (a9:Int)) (.int .u64 (ix:Int)) (.int .u64 (c2:Int)) (.int .u64 (d9:Int));generalize (((((cN.setCell ⟨g7,0,none⟩ (.bool rO)).setCell ⟨g7,1,none⟩ (.int .u64 (a9:Int))).setCell ⟨g7,2,none⟩ (.int .u64 (ix:Int))).setCell ⟨g7,3,none⟩ (.int .u64 (c2:Int))).setCell ⟨g7,4,none⟩ (.int .u64 (d9:Int)))=F7 at *;obtain⟨k7,q1,k8,HB,ET,ash,q6,Vb,asi,asj,aud,aue,auf,aug,auh,aui,auj,auk,aul,aum⟩:=cv Cp;have auU:=av qW;go_upto_region 6 with (go_at_call 24;(with_reducible refine(kd.out _ _ _ _ _ _ mH.out).mono ?_);rintro e' xT ⟨auR,a11,auK,q8,d11,rfl,au3,ad⟩;have Xl:=hide au3;have ayo:=hide au3.1;have Cp:=Cp.ext ad;have Q2:=Q2.ext ad;have qW:=qW.ext ad;have atW:=atW.trans ad;clear ad au3)
  have av4:Box (xT.alloc (.cells #[.bool auR,a11,auK,q8,d11] 27)) xT.heap.size auR a11 auK q8 d11:=Box.new xT _ _ _ _ _;have ad:=aA xT (.cells #[.bool auR,a11,auK,q8,d11] 27);have Cp:=Cp.ext ad;have Q2:=Q2.ext ad;have qW:=qW.ext ad;have atW:=atW.trans ad;clear ad;generalize xT.alloc (.cells #[.bool auR,a11,auK,q8,d11] 27)=Ra at *;generalize xT.heap.size=g11 at *;obtain⟨k7,q1,k8,HB,ET,ash,q6,Vb,asi,asj,aud,aue,auf,aug,auh,aui,auj,auk,aul,aum⟩:=cv Cp;have ayS:=av qW;have ayR:=av av4;go_upto_region 7 with (go_at_call 67;refine(qd rO auR a9 ix c2 d9 a11 auK q8 d11 z3 z4 _ av6.out.1 Xl.out.1).mono ?_;rintro e' xU ⟨auF,a13,auy,q9,d13,avu,a14,au9,q_,d14,cR,rfl,aL,C3,kH,ad⟩;have jZ:=hide aL;rw[if_neg avM.out] at C3;have c4:=hide C3;have Q2:=Q2.ext ad;have atW:=atW.trans ad;clear ad aL C3 kH)
  have ayv:=Q2.lt;have rX:=e1 xU (.cells #[.bool auF,a13,auy,q9,d13] 27) (.cells #[.bool avu,a14,au9,q_,d14] 27);have ad:=(aA xU (.cells #[.bool auF,a13,auy,q9,d13] 27)).trans (aA _ (.cells #[.bool avu,a14,au9,q_,d14] 27));have Q2:=Q2.ext ad;have atW:=atW.trans ad;generalize (xU.alloc (.cells #[.bool auF,a13,auy,q9,d13] 27)).alloc (.cells #[.bool avu,a14,au9,q_,d14] 27)=aoN at *;have ye:Box aoN xU.heap.size auF a13 auy q9 d13:=rX.1;generalize xU.heap.size=g13 at *;clear ad rX;have ayT:=cx ye;obtain⟨i0,i1,i2,i3,i4,dm,cW,cL,dn,dG⟩:=av Q2;go_wp2_with fail
  all_goals exact bodyPost_ret (v:=.agg #[.bool auF,a13,auy,q9,d13]) (by simp[results,Tryz.results25,go_sem,i0,i1,i2,i3,i4]) rfl ⟨auF,a13,auy,q9,d13,rfl,c4.out,dr atW (by omega) _ _ _ _ _⟩
end
section
open Go Go.RowKit Go.Sort
theorem awV {n d q:Int}{k:Nat} (h:iW n d) (aE:k<18446744073709551616) (e:((n+n)*k+d) / (d+d)=q) (w:World):Calls Tryz.prog 25 #[.agg #[ao n,ai n,ah n,aj n,ap n,ao d,ai d,ah d,aj d,ap d],.int .u64 (k:Int)] w (aP (q) w):=
 (axL _ _ _ _ _ _ _ _ _ _ n d w (e0 h.fn).1 (e0 h.fd).1 k aE true h.ok).mono fun _ _ k=>BU (by subst e;exact k)
end
section
open Go Go.RowKit Go.Sort
def av9 (f:Nat):Prop:=∀ c s,nU c→okF s→∀ w,Calls Tryz.prog f #[.agg (e4 c),.agg (cJ s)] w (aP (.bool (decide (Mn c s))) w)
end
section
open Go Go.RowKit Go.Sort
theorem axK:av9 27:=fun c s hc hs w=>by
 have kv:=fun w=>EU c hc w
 cases c with
 | op=>exact av0 true dq dq (cJ s) rfl rfl rfl w true true 0 0 kv (fun _ w=>y_ hs w) (fun _ _ h=>by cases h) (fun _ _ h=>by cases h) _ (by simp[Mn];exact decide_eq_true trivial)
 | dU a b =>
  obtain⟨i',h1⟩:∃ r,f_ (a.1*s.2) (s.1*a.2)=r:=⟨_,rfl⟩;obtain⟨dX,h2⟩:∃ r,f_ (s.1*b.2) (b.1*s.2)=r:=⟨_,rfl⟩;exact av0 false (cJ a) (cJ b) (cJ s) rfl rfl rfl w true true i' dX kv (fun _ w=>y_ hs w) (fun _ _ _ w=>DI hc.1 hs h1 w) (fun _ _ _ w=>DI hs hc.2.1 h2 w) _ (by
   rw[JH h1,JH h2];unfold Mn;by_cases p:jQ a s<;>by_cases q:jQ s b<;>simp[p,q])
end
section
open Go Go.RowKit Go.Sort
theorem awj {x D:Int} (h:0<D):(x / D).natAbs≤x.natAbs:=by
 have h1:x / D*D≤x:=Int.ediv_mul_le x (by omega);have h2:x<(x / D+1)*D:=Int.lt_ediv_add_one_mul_self x h;obtain⟨q,aO⟩:=aM (x / D);rw[aO] at h1 h2 ⊢;by_cases h0:0≤q
 ·have:q*1≤q*D:=Int.mul_le_mul_of_nonneg_left (by omega) h0;omega
 ·have:(q+1)*D≤(q+1)*1:=Int.mul_le_mul_of_nonpos_left (by omega) (by omega);omega
theorem au1 {a b:Int}{A B:Nat} (ha:a.natAbs<A) (hb:b.natAbs<B):(a*b).natAbs<A*B:=by
 rw[Int.natAbs_mul];exact Nat.mul_lt_mul'' ha hb
theorem awD {base v eps n m:Int}{d:Nat} (hb:de base) (aF:de v) (he:o5 eps) (hd:0<d) (SK:d<18446744073709551616) (hf:iW n m) :
 b4 (n*(d:Int))∧b4 (v-base)∧b4 ((v-base)*m)∧b4 (n*(d:Int)-(v-base)*m)∧b4 (eps*m)∧b4 (base+((n+n)*(d:Int)+m) / (m+m))∧b4 (base+((n+n)*(d:Int)+m) / (m+m)-v)∧b4 (((n+n)*(d:Int)+m) / (m+m)):=by
 obtain⟨hm,hn,pn,_⟩:=hf;obtain⟨bA,bX⟩:=hb;obtain⟨v1,v2⟩:=aF;obtain⟨bk,e2⟩:=he;have h1:=au1 (a:=n) (b:=(d:Int)) (B:=18446744073709551616) hn (by omega);have h2:=au1 (a:=v-base) (b:=m) (A:=18446744073709551616) (by omega) pn;have h3:=au1 (a:=eps) (b:=m) (A:=18446744073709551616) (by omega) pn;have h4:=au1 (a:=n+n) (b:=(d:Int)) (A:=340282366920938463463374607431768211456) (B:=18446744073709551616) (by omega) (by omega);have h5:=awj (x:=(n+n)*(d:Int)+m) (D:=m+m) (by omega);obtain⟨p1,q1⟩:∃ p,n*(d:Int)=p:=⟨_,rfl⟩;obtain⟨p2,k8⟩:∃ p,(v-base)*m=p:=⟨_,rfl⟩;obtain⟨zN,HB⟩:∃ p,eps*m=p:=⟨_,rfl⟩;obtain⟨oS,ET⟩:∃ p,(n+n)*(d:Int)=p:=⟨_,rfl⟩;rw[ET] at h4 h5 ⊢;obtain⟨Ht,ash⟩:∃ p,(oS+m) / (m+m)=p:=⟨_,rfl⟩;rw[ash] at h5 ⊢;rw[q1] at h1 ⊢;rw[k8] at h2 ⊢;rw[HB] at h3 ⊢;unfold b4;refine⟨?_,?_,?_,?_,?_,?_,?_,?_⟩<;>omega
structure awa (S c5 dz eu Q1 atP:Array Value) (x2 k8 eps:Int) (dt:Nat) (dX:Int) (nb:Bool):Prop where
 kv:∀ w,Calls Tryz.prog 20 #[.agg S] w (aP (.bool true) w)
 Ez:∀ w,Calls Tryz.prog 23 #[.int .i64 k8] w (aP (.agg (dC k8)) w)
 tW:∀ w,Calls Tryz.prog 23 #[.int .i64 eps] w (aP (.agg (dC eps)) w)
 hN:∀ w,Calls Tryz.prog 25 #[.agg S,.int .u64 (dt:Int)] w (aP (.agg Q1) w)
 kp:∀ w,Calls Tryz.prog 24 #[.agg (dC x2),.agg Q1] w (aP (.tuple #[.agg c5,true]) w)
 ks:∀ w,Calls Tryz.prog 26 #[.agg c5,.agg (dC k8)] w (aP (.tuple #[.agg dz,true]) w)
 gR:∀ w,Calls Tryz.prog 28 #[.agg eu,.agg (dC eps)] w (aP (.int .i64 dX) w)
 afw:∀ w,Calls Tryz.prog 27 #[.agg atP,.agg S] w (aP (.bool true) w)
 aD:decide (0<dX)=false
 m0:dz[0]?=some (.bool nb)
 m1:dz.setIfInBounds 0 (.bool false)=eu
 sz:∀ Y∈[c5,dz,eu],Y.size=5∧Y.all (·.oneCell')=true
theorem ax' {x q:Sa}{eps:Int}{dt:Nat} (hx:pU x) (aO:pU q) (he:o5 eps) (hd:(dt:Int)=q.1-x.1) (zc:0<dt) (SK:dt<18446744073709551616) (hl:x.1<q.1) {f:Fr} (hf:okF f) (awW:Mn (mX eps x q) f) (hat:((x.2+((f.1+f.1)*(q.1-x.1)+f.2) / (f.2+f.2)-q.2).natAbs:Int)≤eps) :
 ∃ (c5 dz eu Q1:Array Value) (dX:Int) (nb:Bool),awa (cJ f) c5 dz eu Q1 (e4 (mX eps x q)) x.2 q.2 eps dt dX nb:=by
 obtain⟨n,m⟩:=f;have avd:iW n m:=hf;obtain⟨g1,g2,g3,g4,g5,g6,g7,g8⟩:=awD hx.2 aO.2 he zc SK avd;have ry:b4 q.2:=by have h1:=aO.2.1;have h2:=aO.2.2;unfold b4;omega
 have bF:b4 x.2:=by have h1:=hx.2.1;have h2:=hx.2.2;unfold b4;omega
 have ad:b4 eps:=by have h1:=he.1;have h2:=he.2;unfold b4;omega
 rw[←hd] at hat;obtain⟨auE,D9⟩:∃ z,((n+n)*(dt:Int)+m) / (m+m)=z:=⟨_,rfl⟩;simp only at hat;rw[D9] at g6 g7 g8 hat;obtain⟨dX,nu⟩:∃ r,f_ ((x.2+auE-q.2).natAbs:Int) eps=r:=⟨_,rfl⟩;have aj:=uT nu;have avK:=axK (mX eps x q) (n,m) (Wc he hx aO hl) hf;rw[decide_eq_true awW] at avK;refine⟨dC (x.2+auE),dC (x.2+auE-q.2),dC ((x.2+auE-q.2).natAbs:Int),dC auE,dX,ao (x.2+auE-q.2),?_⟩;exact⟨fun w=>y_ avd w,fun w=>ZT aO.2 w,fun w=>CV (by have:=he.1;omega) (by have:=he.2;omega) w,fun w=>awV avd SK D9 w,fun w=>JO bF g8 rfl g6 w,fun w=>JS g6 ry rfl g7 w,fun w=>JQ (by unfold b4 at *;omega) ad nu w,avK,decide_eq_false (by omega),rfl,H6 _,by
  intro Y oJ;simp only[List.mem_cons,List.not_mem_nil,or_false] at oJ;rcases oJ with rfl|rfl|rfl<;>exact⟨rfl,nF _⟩⟩
end
section
open Go Go.RowKit Go.Sort
attribute [local go_sem] mg A3 bB BX
set_option maxRecDepth 100000 in
theorem axf (y:Option Addr) (len cap:Nat) (W:World) (br:yq W y len cap) (Xn:Hid (∀ w,Calls Tryz.prog 13 #[] w (aP (.bool true) w))) :
 Calls Tryz.prog 5 #[.slice y len cap] W (aP (.bool true) W):=by
 have QC:Hid (Calls Tryz.prog 8 #[.slice y len cap] W (QK W)):=alc W y len cap br;clear br;go_enter Tryz.func5,Tryz.ntmps5
 go_upto_region 2 with (go_at_call 8;(with_reducible refine(QC.out).mono ?_);rintro e aT ⟨rfl,aw,ad⟩;have T1:=hide aw;have bS:=hide ad;clear aw ad)
 have tF:Hid (Calls Tryz.prog 15 #[.pointer (some ⟨W.heap.size,0,none⟩),.int .i64 30] aT (QX 30 W.heap.size W.heap.size aT)):=hide (ald 30 W.heap.size W.heap.size (by omega) aT T1.out);go_upto_region 3 with (first
  | (go_at_call 15;(with_reducible refine(tF.out).mono ?_);rintro e bp ⟨B7,m,gR,cs,rfl,hm,apI,SV,apJ,G2,eD,tR,DE⟩;have kr:=hide tR;have uO:=hide DE;have oy:=hide eD;have ou:=hide G2;have hW:=hide hm;clear eD tR DE G2 hm)
  | (go_at_call 16;(with_reducible refine(alf W.heap.size W.heap.size _ _ kr.out (b3.refl _ _)).mono ?_);rintro e w3 ⟨HX,rfl,apS,adL,Bg⟩;have w5:=hide (uO.out.trans Bg);have O3:=hide (oy.out.c7 Bg T1.out.2.1);have at0:=hide apS;clear adL Bg apS))
 have dw:Hid (Ext W w3):=hide (b3.ext w5.out bS.out (Nat.le_refl _));have pS:Hid (fK w3 B7 cs):=hide (aif O3.out);have auc:Hid (jb cs):=hide ((Mp cs).2 ou.out);have OK:Hid (∀ x∈cs,pU x):=hide (fun x hx=>O3.out.2 x hx);have c4:=hide (avw (c:=gR) pS.out hW.out apI ou.out at0.out);obtain⟨ls,at6⟩:=aM (uS HX cs);rw[at6] at c4;have uy:Hid (atU HX cs ls 0 0):=hide (by rw[←at6];exact avv HX cs);clear at6 QC tF T1 bS kr uO oy w5 O3 ou;go_upto_region 4 with (go_at_call 17;(with_reducible refine(c4.out).mono ?_);rintro e oV ⟨au,aC,az,rfl,hJ,kx,sE⟩;have dO:=hide hJ;have cz:=hide kx;have EE:=hide (dw.out.trans sE);have cG:=hide (pS.out.ext sE);clear hJ kx sE dw pS c4)
 have avy:aC≤ls.length∧ls.length≤aC:=by rw[←dO.out,List.length_map];exact⟨Nat.le_refl _,Nat.le_refl _⟩
 have avN:aC≤30:=by
  have h1:=uy.out;have:ls.length≤cs.length:=atU.len h1;have h2:=hW.out;omega
 clear SV apJ;go_wp2_with fail
 go_loopw [8,9] (fun Jv iv wr=>∃ k a:Nat,iv=.int .i64 (k:Int)∧Jv=.int .i64 (a:Int)∧Hid (atU HX cs ls k a)∧Hid (Ext oV wr)) (fun _ iv _=>aC-(intOf iv).toNat)
 case atStart=>exact⟨0,0,rfl,rfl,uy,hide (Ext.refl _)⟩
 case round =>
  obtain⟨k,a,rfl,rfl,jY,dc⟩:=hrel;obtain⟨gU,auO⟩:=eo wr;subst auO;have Aw:Hid (Ext W gU):=hide (EE.out.trans dc.out);have kz:k≤aC:=by have:=jY.out.2.1;omega
  by_cases cl:k<aC
  ·have auL:decide ((k:Int)<(aC:Int))=true:=decide_eq_true (by omega);obtain⟨n,c,x,aE,hx,DY,avJ,auA,gl,auN,Ay⟩:=jY.out.next (by omega)
   have hI:=hW.out;obtain⟨j3,lG,rfl,_,_⟩:=cG.out.2.2 (by omega);obtain⟨bX,cr,rfl,_,_⟩:=cz.out.2.2 (by rw[List.length_map];omega);obtain⟨nS,auo⟩:∃ q,cr+k*12=q:=⟨_,rfl⟩;obtain⟨zX,auq⟩:∃ q,lG+2*a=q:=⟨_,rfl⟩;obtain⟨Xo,kq,AG,QF⟩:=avm (cz.out.ext dc.out) (x:=gp (n,x.2,c)) (by rw[List.getElem?_map,aE];rfl) auo;obtain⟨Ri,X1⟩:=auH (cG.out.ext dc.out) hx auq;replace Xo:=hide Xo;replace kq:=hide kq;replace AG:=hide AG;replace QF:=hide QF;replace Ri:=hide Ri;replace X1:=hide X1;simp only[gp] at Xo kq AG QF;have auC:=hide (fun w=>avl bX cr aC az (k:=k) cl auo w);have qH:=hide (fun w=>auG j3 lG m gR (j:=a) (by omega) auq w);have kI:=hide auA;have auB:=OK.out x (List.mem_of_getElem? hx);have bN:=hide auB;have wE:=hide hx;have au5:=hide auN;replace Ay:=hide Ay;have d1:decide ((n:Int)<1)=false:=decide_eq_false (by omega);have auS:IntKind.i64.wrap ((m:Int)-(a:Int))=((m-a:Nat):Int):=by rw[IntKind.wrap_i64];omega
   obtain⟨r,aD⟩:=aM (m-a);rw[aD] at auS;have av3:IntKind.i64.wrap ((a:Int)+(n:Int))=((a+n:Nat):Int):=by rw[IntKind.wrap_i64];omega
   have ax5:IntKind.i64.wrap ((k:Int)+1)=((k+1:Nat):Int):=by rw[IntKind.wrap_i64];omega
   have d2:decide ((r:Int)<(n:Int))=false:=decide_eq_false (by omega);have avC:decide (r<n)=false:=decide_eq_false (by omega);have ayq:decide (n<1)=false:=decide_eq_false (by omega);have auJ:=hide (avY at0.out auB (fun y hy=>OK.out y (List.mem_of_mem_drop (List.mem_of_mem_take hy))) (fun y hy=>avi auc.out hx y (List.mem_of_mem_take hy)) auA);obtain⟨f,hf⟩:=aM (qQ c);rw[hf] at auJ AG QF;have avr:=auJ.out.2.1;have kv:Hid (∀ w,Calls Tryz.prog 20 #[.agg (cJ f)] w (aP (.bool true) w)):=fun w=>y_ avr w
   obtain⟨auw,auV,auI⟩:=afZ (n:=(n:Int)) (v:=x.2) (S:=cJ f) (gP f).size;have rP:=Hd (n:=(n:Int)) (v:=x.2) (gP f).size;have EK:=T2 (n:=(n:Int)) (v:=x.2) (gP f).one;have tn:=(gP f).size;have zH:=(gP f).one;have avL:fU ((n:Int),x.2,f)=j_ (n:Int) x.2 (cJ f):=rfl;rw[avL] at QF;obtain⟨atV,avH⟩:∃ X,j_ (n:Int) x.2 (cJ f)=X:=⟨_,rfl⟩;rw[avH] at QF auw auV auI rP EK;have avz:=hide (fun (q:Sa) (aO:pU q) (dt:Nat) (a1:(dt:Int)=q.1-x.1) (a2:0<dt) (a3:dt<18446744073709551616) (a4:x.1<q.1) (a5:q∈(cs.drop (a+1)).take (n-1))=>ax' (eps:=HX) bN.out aO at0.out a1 a2 a3 a4 avr (auJ.out.2.2 q a5).1 (auJ.out.2.2 q a5).2);obtain⟨S,hS⟩:∃ X,cJ f=X:=⟨_,rfl⟩;rw[hS] at kv auI tn zH avz;clear avL avH hS auJ hf avr Xo kq AG;have fe:=EE;replace EE:Hid (Ext gU gU):=Ext.refl _;go_upto_region 8 with fail
   refine aut [.q,.q,.q,.q,.al,.st 4] [0,0,0,0,0,0] (fun R=>[.slice (some ⟨bX,cr,none⟩) aC az,.int .i64 (k:Int),.pointer (some ⟨bX,nS,none⟩),.agg atV,undef,undef]) (fun _=>(.cells z12 55 (0,0))) (fun R _=>(.cells atV 55 (0,0))) (fun _=>0) (dA gU) (fun _=>False) _ (fun R G=>{ tmps:=#[.slice y len cap,undef,u2,.pointer (some ⟨W.heap.size,0,none⟩),.slice (some ⟨j3,lG,none⟩) m gR,.int .i64 HX,.slice (some ⟨bX,cr,none⟩) aC az,.int .i64 0,.int .i64 (a:Int),.int .i64 (k:Int),.pointer (some ⟨G 4,0,none⟩),u11,u12,u13,u14,u15,u16,.slice y len cap,.pointer (some ⟨W.heap.size,0,none⟩),.pointer (some ⟨W.heap.size,0,none⟩),.slice (some ⟨j3,lG,none⟩) m gR,.pointer (some ⟨W.heap.size,0,none⟩),.int .i64 HX,.tuple #[.slice (some ⟨bX,cr,none⟩) aC az,.int .i64 0],.slice (some ⟨j3,lG,none⟩) m gR,.int .i64 HX,.tuple #[.slice (some ⟨bX,cr,none⟩) aC az,.int .i64 0],.slice (some ⟨bX,cr,none⟩) aC az,.int .i64 0,.int .i64 (k:Int),.slice (some ⟨bX,cr,none⟩) aC az,.int .i64 (aC:Int),.bool true,u33,u34,.slice (some ⟨bX,cr,none⟩) aC az,.int .i64 (k:Int),.pointer (some ⟨bX,nS,none⟩),.agg atV,u39,u40,u41,u42,u43,u44,u45,u46,u47,u48,u49,u50,u51,u52,u53,u54,u55,u56,u57,u58,u59,u60,u61,u62,u63,u64,u65,u66,u67,u68,u69,u70,u71,u72,u73,u74,u75,u76,u77,u78,u79,u80,u81,u82,u83,u84,u85,u86,u87,u88,u89,u90,u91,u92,u93,u94,u95,u96,u97,u98,u99,u100,u101,u102,u103,u104,u105,u106,u107,u108,u109,u110,u111,u112,u113,u114,u115,u116,u117,u118,u119,u120,u121,u122,u123,u124,u125,u126,u127,u128,u129,u130,u131,u132,u133,u134,u135,u136,u137,u138,u139,u140,u141,u142,undef,undef,undef,undef,undef,undef,undef,undef,undef,undef,undef],defers:=[] }) (by intro R G;kernel_rfl) (fun _=>rfl) (by kernel_rfl) (by kernel_rfl) (by kernel_rfl) rfl (fun _=>rfl) (fun _ h=>h.elim) (fun _ _ h=>h) (by simp) (by simp) (fun R b1=>⟨fun _=>rfl,fun _=>rfl,fun _=>rfl,fun _=>rfl,fun _=>rfl,fun _=>rfl,trivial⟩) (fun _ _ _ _=>rfl) dH EE.out ?ah8 ?aaV;case ah8 =>
    refine⟨aH,aH,?_,?_,?_,?_,trivial⟩
    ·refine cj fun R s w' aw hs hw ha=>?_
     refine BN rfl ?_ ?_ (auC.out w')
     ·kernel_rfl
     ·kernel_rfl
    ·refine cj fun R s w' aw hs hw ha=>?_
     have L:=QF.out w' aw;refine e7 rfl ?_ L;kernel_rfl
    ·refine ia ?ayc ?rE ?zy ?vj ?_;case ayc=>exact(.cells z12 55 (0,0))
     case rE=>exact rfl
     case zy=>exact rfl
     case vj=>exact cu rfl
     intro ρ w';go_simp;exact⟨rfl,rfl⟩
    ·refine ib (j:=4) (Ty:=?XT) (p:=?aju) (x:=?anW) ?Kn ?pM ?wo ?iR ?NC ?j9 ?M0 ?jo ?J7 ?_;case iR=>exact rfl
     case NC=>exact rfl
     case Kn=>exact(fun R=>(.cells atV 55 (0,0)))
     case pM=>exact(.cells z12 55 (0,0))
     case wo=>exact(fun R=>.agg atV)
     case j9=>exact(fun R=>rfl)
     case M0=>exact rfl
     case jo=>exact cu rfl
     case J7 =>
      intro R;kernel_rfl
     intro R s ρ w g aw hs hp hx af hz;exact⟨hQ rfl hp hx hz TI (rP) (EK),fun aT hF=>dM aw hF (Nat.le_trans EE.out.size af)⟩
   case aaV =>
    intro cY R G b6 ae bH atQ;have hS:=ae.same;have aZ:=ae.holds;have bf:=EE.out.size;have bu:aG b6 (G 4) 55 atV:=(ae.eV 5 (List.mem_range.2 (show 5<6 by decide)) 4 rfl).2.2;have vD:=(ae.made 4 (List.mem_range.2 (show 4<6 by decide)) rfl).1;have FW:gU.heap.size≤G 4:=Nat.le_trans bf vD;replace EE:=hide (show Ext _ _ from aZ);clear hS bf aZ ae;dsimp only at atQ;subst atQ;generalize G 4=g10 at *;go_upto_region 9 with fail
    have fj:=bu.lt;refine aus [.q,.q,.q,.q,.q,.q,.q,.q,.q,.q,.q,.q,.q,.q,.q,.q,.q,.q,.q,.q,.q,.q,.q,.q,.q,.q,.q,.q] [0,0,0,0,0,0,0,0,0,0,0,0,0,0,0,0,0,0,0,0,0,0,0,0,0,0,0,0] (fun R=>[.pointer (some ⟨g10,0,none⟩),.int .i64 (n:Int),.bool false,.bool false,.pointer (some ⟨g10,0,none⟩),.int .i64 (n:Int),.slice (some ⟨j3,lG,none⟩) m gR,.int .i64 (m:Int),.int .i64 (a:Int),.int .i64 (r:Int),.bool false,.bool false,.bool false,.pointer (some ⟨g10,1,none⟩),.int .i64 x.2,.slice (some ⟨j3,lG,none⟩) m gR,.int .i64 (a:Int),.pointer (some ⟨j3,zX,none⟩),.pointer (some ⟨j3,zX+1,none⟩),.int .i64 x.2,.bool false,.bool false,.bool false,.pointer (some ⟨g10,2,none⟩),.agg S,.bool true,.bool false,.bool false]) (fun _=>(.cells #[] 0 (0,0))) (fun R _=>(.cells #[] 0 (0,0))) (fun _=>0) (dA gU) (fun _=>False) _ (fun R G=>{ tmps:=#[.slice y len cap,undef,u2,.pointer (some ⟨W.heap.size,0,none⟩),.slice (some ⟨j3,lG,none⟩) m gR,.int .i64 HX,.slice (some ⟨bX,cr,none⟩) aC az,.int .i64 0,.int .i64 (a:Int),.int .i64 (k:Int),.pointer (some ⟨g10,0,none⟩),u11,u12,u13,u14,u15,u16,.slice y len cap,.pointer (some ⟨W.heap.size,0,none⟩),.pointer (some ⟨W.heap.size,0,none⟩),.slice (some ⟨j3,lG,none⟩) m gR,.pointer (some ⟨W.heap.size,0,none⟩),.int .i64 HX,.tuple #[.slice (some ⟨bX,cr,none⟩) aC az,.int .i64 0],.slice (some ⟨j3,lG,none⟩) m gR,.int .i64 HX,.tuple #[.slice (some ⟨bX,cr,none⟩) aC az,.int .i64 0],.slice (some ⟨bX,cr,none⟩) aC az,.int .i64 0,.int .i64 (k:Int),.slice (some ⟨bX,cr,none⟩) aC az,.int .i64 (aC:Int),.bool true,u33,u34,.slice (some ⟨bX,cr,none⟩) aC az,.int .i64 (k:Int),.pointer (some ⟨bX,nS,none⟩),.agg atV,.pointer (some ⟨g10,0,none⟩),.int .i64 (n:Int),.bool false,.bool false,.pointer (some ⟨g10,0,none⟩),.int .i64 (n:Int),.slice (some ⟨j3,lG,none⟩) m gR,.int .i64 (m:Int),.int .i64 (a:Int),.int .i64 (r:Int),.bool false,.bool false,.bool false,.pointer (some ⟨g10,1,none⟩),.int .i64 x.2,.slice (some ⟨j3,lG,none⟩) m gR,.int .i64 (a:Int),.pointer (some ⟨j3,zX,none⟩),.pointer (some ⟨j3,zX+1,none⟩),.int .i64 x.2,.bool false,.bool false,.bool false,.pointer (some ⟨g10,2,none⟩),.agg S,.bool true,.bool false,.bool false,u67,u68,u69,u70,u71,u72,u73,u74,u75,u76,u77,u78,u79,u80,u81,u82,u83,u84,u85,u86,u87,u88,u89,u90,u91,u92,u93,u94,u95,u96,u97,u98,u99,u100,u101,u102,u103,u104,u105,u106,u107,u108,u109,u110,u111,u112,u113,u114,u115,u116,u117,u118,u119,u120,u121,u122,u123,u124,u125,u126,u127,u128,u129,u130,u131,u132,u133,u134,u135,u136,u137,u138,u139,u140,u141,u142,undef,undef,undef,undef,undef,undef,undef,undef,undef,undef,undef],defers:=[] }) (by intro R G;kernel_rfl) (fun _=>rfl) (by kernel_rfl) (by kernel_rfl) (by kernel_rfl) (by kernel_rfl) rfl (fun _=>rfl) (fun _ h=>h.elim) (fun _ _ h=>h) (by simp) (by simp) (fun R b1=>⟨fun _=>rfl,fun _=>rfl,fun _=>rfl,fun _=>rfl,fun _=>rfl,fun _=>rfl,fun _=>rfl,fun _=>rfl,fun _=>rfl,fun _=>rfl,fun _=>rfl,fun _=>rfl,fun _=>rfl,fun _=>rfl,fun _=>rfl,fun _=>rfl,fun _=>rfl,fun _=>rfl,fun _=>rfl,fun _=>rfl,fun _=>rfl,fun _=>rfl,fun _=>rfl,fun _=>rfl,fun _=>rfl,fun _=>rfl,fun _=>rfl,fun _=>rfl,trivial⟩) (fun _ _ _ _=>rfl) dH (EE.out.trans (b5 _)) ?ah0 ?aaN;case ah0 =>
     refine⟨aH,?_,aH,aH,?_,?_,?_,?_,?_,?_,?_,aH,aH,?_,?_,?_,?_,?_,?_,?_,?_,aH,aH,?_,?_,?_,?_,aH,trivial⟩
     ·refine cj fun R s w' aw hs hw ha=>?_
      have cc:=((show aG w' g10 _ atV from bu.aY hw (fun h=>h) (by simp)).cell 0).trans (auw);go_simp
     ·refine eL ?Pc ?vE ?Eu ?vf ?_;case vE=>exact rfl
      case Pc=>exact(fun R=>.pointer (some ⟨g10,0,none⟩))
      case Eu=>exact(fun R=>rfl)
      case vf=>(refine du rfl ?_;intro R;kernel_rfl)
      intro R s w' aw hs hw ha;go_simp
     ·refine eL ?Ae ?sN ?zw ?sB ?_;case sN=>exact rfl
      case Ae=>exact(fun R=>.int .i64 (n:Int))
      case zw=>exact(fun R=>rfl)
      case sB=>(refine du rfl ?_;intro R;kernel_rfl)
      intro R s w' aw hs hw ha;have cc:=((show aG w' g10 _ atV from bu.aY hw (fun h=>h) (by simp)).cell 0).trans (auw);go_simp
     ·refine eL ?Pd ?LS ?MB ?Kv ?_;case LS=>exact rfl
      case Pd=>exact(fun R=>.slice (some ⟨j3,lG,none⟩) m gR)
      case MB=>exact(fun R=>rfl)
      case Kv=>(refine du rfl ?_;intro R;kernel_rfl)
      intro R s w' aw hs hw ha;go_simp
     ·refine eL ?amN ?LU ?afx ?Kw ?_;case LU=>exact rfl
      case amN=>exact(fun R=>.int .i64 (m:Int))
      case afx=>exact(fun R=>rfl)
      case Kw=>(refine du rfl ?_;intro R;kernel_rfl)
      intro R s w' aw hs hw ha;go_simp
     ·refine eL ?tv ?ob ?sX ?n9 ?_;case ob=>exact rfl
      case tv=>exact(fun R=>.int .i64 (a:Int))
      case sX=>exact(fun R=>rfl)
      case n9=>(refine du rfl ?_;intro R;kernel_rfl)
      intro R s w' aw hs hw ha;go_simp
     ·refine eL ?Pe ?vF ?MC ?vg ?_;case vF=>exact rfl
      case Pe=>exact(fun R=>.int .i64 (r:Int))
      case MC=>exact(fun R=>rfl)
      case vg=>(refine du rfl ?_;intro R;kernel_rfl)
      intro R s w' aw hs hw ha;go_simp
     ·refine eL ?Pf ?vG ?MD ?vh ?_;case vG=>exact rfl
      case Pf=>exact(fun R=>.bool false)
      case MD=>exact(fun R=>rfl)
      case vh=>(refine du rfl ?_;intro R;kernel_rfl)
      intro R s w' aw hs hw ha;go_simp
     ·refine eL ?amQ ?LV ?ME ?Kx ?_;case LV=>exact rfl
      case amQ=>exact(fun R=>.pointer (some ⟨g10,1,none⟩))
      case ME=>exact(fun R=>rfl)
      case Kx=>(refine du rfl ?_;intro R;kernel_rfl)
      intro R s w' aw hs hw ha;go_simp
     ·refine eL ?Pg ?DZ ?Ev ?Dg ?_;case DZ=>exact rfl
      case Pg=>exact(fun R=>.int .i64 x.2)
      case Ev=>exact(fun R=>rfl)
      case Dg=>(refine du rfl ?_;intro R;kernel_rfl)
      intro R s w' aw hs hw ha;have cc:=((show aG w' g10 _ atV from bu.aY hw (fun h=>h) (by simp)).cell 1).trans (auV);go_simp
     ·refine eL ?Ph ?LW ?MF ?Ky ?_;case LW=>exact rfl
      case Ph=>exact(fun R=>.slice (some ⟨j3,lG,none⟩) m gR)
      case MF=>exact(fun R=>rfl)
      case Ky=>(refine du rfl ?_;intro R;kernel_rfl)
      intro R s w' aw hs hw ha;go_simp
     ·refine eL ?amR ?aeg ?afA ?abZ ?_;case aeg=>exact rfl
      case amR=>exact(fun R=>.int .i64 (a:Int))
      case afA=>exact(fun R=>rfl)
      case abZ=>(refine du rfl ?_;intro R;kernel_rfl)
      intro R s w' aw hs hw ha;go_simp
     ·refine eL ?amS ?aeh ?afB ?ab0 ?_;case aeh=>exact rfl
      case amS=>exact(fun R=>.pointer (some ⟨j3,zX,none⟩))
      case afB=>exact(fun R=>rfl)
      case ab0=>(refine du rfl ?_;intro R;kernel_rfl)
      intro R s w' aw hs hw ha;refine BN rfl ?_ ?_ (qH.out w')
      ·kernel_rfl
      ·kernel_rfl
     ·refine eL ?axV ?aei ?aw8 ?ab1 ?_;case aei=>exact rfl
      case axV=>exact(fun R=>.pointer (some ⟨j3,zX+1,none⟩))
      case aw8=>exact(fun R=>rfl)
      case ab1=>(refine du rfl ?_;intro R;kernel_rfl)
      intro R s w' aw hs hw ha;go_simp
     ·refine eL ?axW ?D0 ?MG ?Dh ?_;case D0=>exact rfl
      case axW=>exact(fun R=>.int .i64 x.2)
      case MG=>exact(fun R=>rfl)
      case Dh=>(refine du rfl ?_;intro R;kernel_rfl)
      intro R s w' aw hs hw ha;have cc:=X1.out w' aw;go_simp
     ·refine eL ?Fh ?vH ?vN ?vi ?_;case vH=>exact rfl
      case Fh=>exact(fun R=>.bool false)
      case vN=>exact(fun R=>rfl)
      case vi=>(refine du rfl ?_;intro R;kernel_rfl)
      intro R s w' aw hs hw ha;go_simp
     ·refine eL ?axX ?aw0 ?aw9 ?awP ?_;case aw0=>exact rfl
      case axX=>exact(fun R=>.pointer (some ⟨g10,2,none⟩))
      case aw9=>exact(fun R=>rfl)
      case awP=>(refine du rfl ?_;intro R;kernel_rfl)
      intro R s w' aw hs hw ha;go_simp
     ·refine eL ?axY ?aej ?afC ?ab2 ?_;case aej=>exact rfl
      case axY=>exact(fun R=>.agg S)
      case afC=>exact(fun R=>rfl)
      case ab2=>(refine du rfl ?_;intro R;kernel_rfl)
      intro R s w' aw hs hw ha;have L:=pH (bu.aY hw (fun h=>h) (by simp)) _ _ tt rfl 2 10 oP (by rw[rP];first|decide|omega) _ (auI);refine e7 rfl ?_ L;kernel_rfl
     ·refine eL ?Pk ?D2 ?Ex ?Dj ?_;case D2=>exact rfl
      case Pk=>exact(fun R=>.bool true)
      case Ex=>exact(fun R=>rfl)
      case Dj=>(refine du rfl ?_;intro R;kernel_rfl)
      intro R s w' aw hs hw ha;go_simp;exact kv.out w'
     ·refine eL ?Pl ?LY ?MI ?KA ?_;case LY=>exact rfl
      case Pl=>exact(fun R=>.bool false)
      case MI=>exact(fun R=>rfl)
      case KA=>(refine du rfl ?_;intro R;kernel_rfl)
      intro R s w' aw hs hw ha;go_simp
    case aaN =>
     intro cY R G am_ ae bH atQ;have hS:=ae.same;have aZ:=ae.holds;have bf:=EE.out.size;replace bu:=bu.aY hS (fun h=>h) (by simp);replace EE:=hide (show Ext _ _ from aZ);clear hS bf aZ ae fj;dsimp only at atQ;subst atQ;have av7:Hid (aG am_ g10 55 atV):=bu;have WR:=EE;clear EE bu;go_wp2_with fail
     go_loopw [11] (fun at8 wr=>∃ (j:Nat),1≤j∧j≤n∧at8=.int .i64 (j:Int)∧Hid (aG wr g10 55 atV)∧Hid (Ext gU wr)) (fun at8 _=>n-(intOf at8).toNat)
     case atStart=>exact⟨1,Nat.le_refl _,DY,rfl,av7,WR⟩
     case round =>
      obtain⟨j,Bl,apC,rfl,dL,EE⟩:=hrel;have bu:=dL.out;by_cases jf:j<n
      ·have d3:decide ((j:Int)<(n:Int))=true:=decide_eq_true (by omega);have auX:decide (j<n)=true:=decide_eq_true (by omega);obtain⟨q,aO⟩:∃ q,cs[a+j]?=some q:=⟨cs[a+j]'(by omega),List.getElem?_eq_getElem (by omega)⟩;obtain⟨atO,at7⟩:∃ q,lG+2*(a+j)=q:=⟨_,rfl⟩;obtain⟨at5,mH⟩:=auH (cG.out.ext dc.out) aO at7;replace at5:=hide at5;replace mH:=hide mH;have at3:=hide (fun w=>auG j3 lG m gR (j:=a+j) (by omega) at7 w);have auT:IntKind.i64.wrap ((a:Int)+(j:Int))=((a+j:Nat):Int):=by rw[IntKind.wrap_i64];omega
       obtain⟨atT,aua⟩:∃ q,a+j=q:=⟨_,rfl⟩;rw[aua] at at3 auT;have B5:IntKind.i64.wrap ((j:Int)+1)=((j+1:Nat):Int):=by rw[IntKind.wrap_i64];omega
       have aup:(cs.drop (a+1))[j-1]?=some q:=by rw[List.getElem?_drop,show a+1+(j-1)=a+j by omega];exact aO
       have at1:x.1<q.1:=atU.avo auc.out wE.out aO (by omega);have at2:=OK.out q (List.mem_of_getElem? aO);have auM:=Wc at0.out bN.out at2 at1;obtain⟨dt,bQ,bY,cX,ev,Ly,auz,ad1⟩:=avp (fo:=23) (fd:=21) (ft:=22) (fm:=30) at0.out bN.out at2 at1 (c:=.op) trivial (fun z h w=>ZT h w) (fun a b w ha hb=>ajE a b w ha hb) ajW ajN;replace bQ:=hide bQ;replace bY:=hide bY;replace cX:=hide cX;have avO:q∈(cs.drop (a+1)).take (n-1):=List.mem_of_getElem? (i:=j-1) (by rw[List.getElem?_take_of_lt (by omega)];exact aup);obtain⟨c5,dz,eu,Q1,dX,nb,atY⟩:=avz.out q at2 dt Ly auz ad1 at1 avO;have at9:=tN (mX HX x q);have aur:=uU (mX HX x q);obtain⟨atP,aZ⟩:∃ X,e4 (mX HX x q)=X:=⟨_,rfl⟩;rw[aZ] at cX at9 aur atY;have Ez:=hide atY.Ez;have tW:=hide atY.tW;have hN:=hide atY.hN;have kp:=hide atY.kp;have ks:=hide atY.ks;have avU:=hide atY.gR;have afw:=hide atY.afw;have nu:=atY.aD;have axo:=atY.m0;have axp:=atY.m1;have s1:=(atY.sz c5 (by simp)).1;have auD:=(atY.sz c5 (by simp)).2;have s2:=(atY.sz dz (by simp)).1;have auv:=(atY.sz dz (by simp)).2;have s3:=(atY.sz eu (by simp)).1;have ayC:=(atY.sz eu (by simp)).2;clear atY aZ auM aup aO at2 at1 Ly auz ad1 at7 aua dL ev avO;go_upto_region 12 with fail
       have awc:=fun d os=>(((bu).ext (aX wr d os)).cell 0).trans (auw)
       refine eK ?_;repeat (first|go_big_quiet_step (fail)|quiet_step (fail))
       refine wpQuiet_nil ?_;intro _ bj;obtain⟨⟨aQ,osq⟩,cq⟩:=bj;subst cq;replace bu:=(bu).ext (aX wr aQ osq);replace EE:=hide (EE.out.trans (aX wr aQ osq));obtain⟨ayN,avQ⟩:∃ w,grow (redrawn wr aQ) osq=w:=⟨_,rfl⟩;rw[avQ] at EE bu ⊢;clear avQ awc;go_upto_region 14 with fail
       have fj:=bu.lt;refine aus [.q,.q,.q,.q,.q,.q,.q,.q,.q,.q,.q,.q,.q,.q] [0,0,0,0,0,0,0,0,0,0,0,0,0,0] (fun R=>[.slice (some ⟨j3,lG,none⟩) m gR,.int .i64 (a:Int),.int .i64 (j:Int),.int .i64 (atT:Int),.pointer (some ⟨j3,atO,none⟩),.pointer (some ⟨j3,atO,none⟩),.int .i64 q.1,.slice (some ⟨j3,lG,none⟩) m gR,.int .i64 (a:Int),.pointer (some ⟨j3,zX,none⟩),.pointer (some ⟨j3,zX,none⟩),.int .i64 x.1,.int .u64 (dt:Int),.int .u64 (dt:Int)]) (fun _=>(.cells #[] 0 (0,0))) (fun R _=>(.cells #[] 0 (0,0))) (fun _=>0) (dA gU) (fun _=>False) _ (fun R G=>{ tmps:=#[.slice y len cap,undef,u2,.pointer (some ⟨W.heap.size,0,none⟩),.slice (some ⟨j3,lG,none⟩) m gR,.int .i64 HX,.slice (some ⟨bX,cr,none⟩) aC az,.int .i64 0,.int .i64 (a:Int),.int .i64 (k:Int),.pointer (some ⟨g10,0,none⟩),.int .i64 (j:Int),.int .u64 (dt:Int),u13,u14,u15,u16,.slice y len cap,.pointer (some ⟨W.heap.size,0,none⟩),.pointer (some ⟨W.heap.size,0,none⟩),.slice (some ⟨j3,lG,none⟩) m gR,.pointer (some ⟨W.heap.size,0,none⟩),.int .i64 HX,.tuple #[.slice (some ⟨bX,cr,none⟩) aC az,.int .i64 0],.slice (some ⟨j3,lG,none⟩) m gR,.int .i64 HX,.tuple #[.slice (some ⟨bX,cr,none⟩) aC az,.int .i64 0],.slice (some ⟨bX,cr,none⟩) aC az,.int .i64 0,.int .i64 (k:Int),.slice (some ⟨bX,cr,none⟩) aC az,.int .i64 (aC:Int),.bool true,u33,u34,.slice (some ⟨bX,cr,none⟩) aC az,.int .i64 (k:Int),.pointer (some ⟨bX,nS,none⟩),.agg atV,.pointer (some ⟨g10,0,none⟩),.int .i64 (n:Int),.bool false,.bool false,.pointer (some ⟨g10,0,none⟩),.int .i64 (n:Int),.slice (some ⟨j3,lG,none⟩) m gR,.int .i64 (m:Int),.int .i64 (a:Int),.int .i64 (r:Int),.bool false,.bool false,.bool false,.pointer (some ⟨g10,1,none⟩),.int .i64 x.2,.slice (some ⟨j3,lG,none⟩) m gR,.int .i64 (a:Int),.pointer (some ⟨j3,zX,none⟩),.pointer (some ⟨j3,zX+1,none⟩),.int .i64 x.2,.bool false,.bool false,.bool false,.pointer (some ⟨g10,2,none⟩),.agg S,.bool true,.bool false,.bool false,.int .i64 (j:Int),.pointer (some ⟨g10,0,none⟩),.int .i64 (n:Int),.bool true,u71,u72,.slice (some ⟨j3,lG,none⟩) m gR,.int .i64 (a:Int),.int .i64 (j:Int),.int .i64 (atT:Int),.pointer (some ⟨j3,atO,none⟩),.pointer (some ⟨j3,atO,none⟩),.int .i64 q.1,.slice (some ⟨j3,lG,none⟩) m gR,.int .i64 (a:Int),.pointer (some ⟨j3,zX,none⟩),.pointer (some ⟨j3,zX,none⟩),.int .i64 x.1,.int .u64 (dt:Int),u86,u87,u88,u89,u90,u91,u92,u93,u94,u95,u96,u97,u98,u99,u100,u101,u102,u103,u104,u105,u106,u107,u108,u109,u110,u111,u112,u113,u114,u115,u116,u117,u118,u119,u120,u121,u122,u123,u124,u125,u126,u127,u128,u129,u130,u131,u132,u133,u134,u135,u136,u137,u138,u139,u140,u141,u142,undef,undef,undef,undef,undef,undef,undef,undef,undef,undef,undef],defers:=[] }) (by intro R G;kernel_rfl) (fun _=>rfl) (by kernel_rfl) (by kernel_rfl) (by kernel_rfl) (by kernel_rfl) rfl (fun _=>rfl) (fun _ h=>h.elim) (fun _ _ h=>h) (by simp) (by simp) (fun R b1=>⟨fun _=>rfl,fun _=>rfl,fun _=>rfl,fun _=>rfl,fun _=>rfl,fun _=>rfl,fun _=>rfl,fun _=>rfl,fun _=>rfl,fun _=>rfl,fun _=>rfl,fun _=>rfl,fun _=>rfl,fun _=>rfl,trivial⟩) (fun _ _ _ _=>rfl) dH (EE.out.trans (b5 _)) ?axE ?aww;case axE =>
        refine⟨aH,aH,aH,aH,?_,aH,?_,aH,aH,?_,aH,?_,d_ bY,aH,trivial⟩
        ·refine cj fun R s w' aw hs hw ha=>?_
         refine BN rfl ?_ ?_ (at3.out w')
         ·kernel_rfl
         ·kernel_rfl
        ·refine cj fun R s w' aw hs hw ha=>?_
         have cc:=at5.out w' aw;go_simp
        ·refine cj fun R s w' aw hs hw ha=>?_
         refine BN rfl ?_ ?_ (qH.out w')
         ·kernel_rfl
         ·kernel_rfl
        ·refine cj fun R s w' aw hs hw ha=>?_
         have cc:=Ri.out w' aw;go_simp
       case aww =>
        intro cY R G ayO ae bH atQ;have hS:=ae.same;have aZ:=ae.holds;have bf:=EE.out.size;replace bu:=bu.aY hS (fun h=>h) (by simp);replace EE:=hide (show Ext _ _ from aZ);clear hS bf aZ ae fj;dsimp only at atQ;subst atQ;go_upto_region 15 with fail
        have fj:=bu.lt;refine aus [.q,.q,.q,.q,.q,.q,.q,.q,.q,.q,.q,.q,.q,.q,.q,.q,.al,.st 16,.q] [0,0,0,0,0,0,0,0,0,0,0,0,0,0,0,0,0,0,0] (fun R=>[.pointer (some ⟨g10,1,none⟩),.int .i64 x.2,.agg (dC x.2),.slice (some ⟨j3,lG,none⟩) m gR,.int .i64 (a:Int),.int .i64 (j:Int),.int .i64 (atT:Int),.pointer (some ⟨j3,atO,none⟩),.pointer (some ⟨j3,atO+1,none⟩),.int .i64 q.2,.int .i64 HX,.int .u64 (dt:Int),.tuple #[.agg atP,true],.tuple #[.agg atP,true],.agg atP,.bool true,undef,undef,.bool true]) (fun _=>(.cells z21 31 (0,0))) (fun R _=>(.cells atP 31 (0,0))) (fun _=>0) (dA gU) (fun _=>False) _ (fun R G=>{ tmps:=#[.slice y len cap,undef,u2,.pointer (some ⟨W.heap.size,0,none⟩),.slice (some ⟨j3,lG,none⟩) m gR,.int .i64 HX,.slice (some ⟨bX,cr,none⟩) aC az,.int .i64 0,.int .i64 (a:Int),.int .i64 (k:Int),.pointer (some ⟨g10,0,none⟩),.int .i64 (j:Int),.int .u64 (dt:Int),.pointer (some ⟨G 16,0,none⟩),.bool true,u15,u16,.slice y len cap,.pointer (some ⟨W.heap.size,0,none⟩),.pointer (some ⟨W.heap.size,0,none⟩),.slice (some ⟨j3,lG,none⟩) m gR,.pointer (some ⟨W.heap.size,0,none⟩),.int .i64 HX,.tuple #[.slice (some ⟨bX,cr,none⟩) aC az,.int .i64 0],.slice (some ⟨j3,lG,none⟩) m gR,.int .i64 HX,.tuple #[.slice (some ⟨bX,cr,none⟩) aC az,.int .i64 0],.slice (some ⟨bX,cr,none⟩) aC az,.int .i64 0,.int .i64 (k:Int),.slice (some ⟨bX,cr,none⟩) aC az,.int .i64 (aC:Int),.bool true,u33,u34,.slice (some ⟨bX,cr,none⟩) aC az,.int .i64 (k:Int),.pointer (some ⟨bX,nS,none⟩),.agg atV,.pointer (some ⟨g10,0,none⟩),.int .i64 (n:Int),.bool false,.bool false,.pointer (some ⟨g10,0,none⟩),.int .i64 (n:Int),.slice (some ⟨j3,lG,none⟩) m gR,.int .i64 (m:Int),.int .i64 (a:Int),.int .i64 (r:Int),.bool false,.bool false,.bool false,.pointer (some ⟨g10,1,none⟩),.int .i64 x.2,.slice (some ⟨j3,lG,none⟩) m gR,.int .i64 (a:Int),.pointer (some ⟨j3,zX,none⟩),.pointer (some ⟨j3,zX+1,none⟩),.int .i64 x.2,.bool false,.bool false,.bool false,.pointer (some ⟨g10,2,none⟩),.agg S,.bool true,.bool false,.bool false,.int .i64 (j:Int),.pointer (some ⟨g10,0,none⟩),.int .i64 (n:Int),.bool true,u71,u72,.slice (some ⟨j3,lG,none⟩) m gR,.int .i64 (a:Int),.int .i64 (j:Int),.int .i64 (atT:Int),.pointer (some ⟨j3,atO,none⟩),.pointer (some ⟨j3,atO,none⟩),.int .i64 q.1,.slice (some ⟨j3,lG,none⟩) m gR,.int .i64 (a:Int),.pointer (some ⟨j3,zX,none⟩),.pointer (some ⟨j3,zX,none⟩),.int .i64 x.1,.int .u64 (dt:Int),.tuple #[.agg atP,true],.pointer (some ⟨g10,1,none⟩),.int .i64 x.2,.agg (dC x.2),.slice (some ⟨j3,lG,none⟩) m gR,.int .i64 (a:Int),.int .i64 (j:Int),.int .i64 (atT:Int),.pointer (some ⟨j3,atO,none⟩),.pointer (some ⟨j3,atO+1,none⟩),.int .i64 q.2,.int .i64 HX,.int .u64 (dt:Int),.tuple #[.agg atP,true],.agg atP,.bool true,u102,u103,u104,u105,u106,u107,u108,u109,u110,u111,u112,u113,u114,u115,u116,u117,u118,u119,u120,u121,u122,u123,u124,u125,u126,u127,u128,u129,u130,u131,u132,u133,u134,u135,u136,u137,u138,u139,u140,u141,u142,undef,undef,undef,undef,undef,undef,undef,undef,undef,undef,undef],defers:=[] }) (by intro R G;kernel_rfl) (fun _=>rfl) (by kernel_rfl) (by kernel_rfl) (by kernel_rfl) (by kernel_rfl) rfl (fun _=>rfl) (fun _ h=>h.elim) (fun _ _ h=>h) (by simp) (by simp) (fun R b1=>⟨fun _=>rfl,fun _=>rfl,fun _=>rfl,fun _=>rfl,fun _=>rfl,fun _=>rfl,fun _=>rfl,fun _=>rfl,fun _=>rfl,fun _=>rfl,fun _=>rfl,fun _=>rfl,fun _=>rfl,fun _=>rfl,fun _=>rfl,fun _=>rfl,fun _=>rfl,fun _=>rfl,fun _=>rfl,trivial⟩) (fun _ _ _ _=>rfl) dH (EE.out.trans (b5 _)) ?axH ?awz;case axH =>
         refine⟨aH,?_,d_ bQ,aH,aH,aH,aH,?_,aH,?_,aH,aH,d_ cX,aH,aH,aH,?_,?_,aH,trivial⟩
         ·refine cj fun R s w' aw hs hw ha=>?_
          have cc:=((show aG w' g10 _ atV from bu.aY hw (fun h=>h) (by simp)).cell 1).trans (auV);go_simp
         ·refine cj fun R s w' aw hs hw ha=>?_
          refine BN rfl ?_ ?_ (at3.out w')
          ·kernel_rfl
          ·kernel_rfl
         ·refine cj fun R s w' aw hs hw ha=>?_
          have cc:=mH.out w' aw;go_simp
         ·refine ia ?ayd ?aew ?afP ?ace ?_;case ayd=>exact(.cells z21 31 (0,0))
          case aew=>exact rfl
          case afP=>exact rfl
          case ace=>exact cu rfl
          intro ρ w';go_simp;exact⟨rfl,rfl⟩
         ·refine ib (j:=16) (Ty:=?aym) (p:=?ayI) (x:=?ayZ) ?awJ ?aye ?ax2 ?aw3 ?axy ?axa ?axm ?awS ?awp ?_;case aw3=>exact rfl
          case axy=>exact rfl
          case awJ=>exact(fun R=>(.cells atP 31 (0,0)))
          case aye=>exact(.cells z21 31 (0,0))
          case ax2=>exact(fun R=>.agg atP)
          case axa=>exact(fun R=>rfl)
          case axm=>exact rfl
          case awS=>exact cu rfl
          case awp =>
           intro R;kernel_rfl
          intro R s ρ w g aw hs hp hx af hz;exact⟨hQ rfl hp hx hz ei (at9) (aur),fun aT hF=>dM aw hF (Nat.le_trans EE.out.size af)⟩
        case awz =>
         intro cY R G ax9 ae bH atQ;have hS:=ae.same;have aZ:=ae.holds;have bf:=EE.out.size;replace bu:=bu.aY hS (fun h=>h) (by simp);have df:aG ax9 (G 16) 31 atP:=(ae.eV 17 (List.mem_range.2 (show 17<19 by decide)) 16 rfl).2.2;have ave:=(ae.made 16 (List.mem_range.2 (show 16<19 by decide)) rfl).1;have av8:gU.heap.size≤G 16:=Nat.le_trans bf ave;have ayx:g10≠G 16:=by omega
         replace EE:=hide (show Ext _ _ from aZ);clear hS bf aZ ae fj;dsimp only at atQ;subst atQ;generalize G 16=g13 at *;go_upto_region 16 with fail
         have fj:=bu.lt;have auu:=df.lt;refine aus [.q,.q,.q,.q,.q,.q,.q,.q,.q,.q,.q,.al,.st 11,.q] [0,0,0,0,0,0,0,0,0,0,0,0,0,0] (fun R=>[.pointer (some ⟨g10,1,none⟩),.int .i64 x.2,.agg (dC x.2),.pointer (some ⟨g10,2,none⟩),.agg S,.int .u64 (dt:Int),.agg Q1,.tuple #[.agg c5,true],.tuple #[.agg c5,true],.agg c5,.bool true,undef,undef,.bool true]) (fun _=>(.cells z5 27 (0,0))) (fun R _=>(.cells c5 27 (0,0))) (fun _=>0) (dA gU) (fun _=>False) _ (fun R G=>{ tmps:=#[.slice y len cap,undef,u2,.pointer (some ⟨W.heap.size,0,none⟩),.slice (some ⟨j3,lG,none⟩) m gR,.int .i64 HX,.slice (some ⟨bX,cr,none⟩) aC az,.int .i64 0,.int .i64 (a:Int),.int .i64 (k:Int),.pointer (some ⟨g10,0,none⟩),.int .i64 (j:Int),.int .u64 (dt:Int),.pointer (some ⟨g13,0,none⟩),.bool true,.pointer (some ⟨G 11,0,none⟩),.bool true,.slice y len cap,.pointer (some ⟨W.heap.size,0,none⟩),.pointer (some ⟨W.heap.size,0,none⟩),.slice (some ⟨j3,lG,none⟩) m gR,.pointer (some ⟨W.heap.size,0,none⟩),.int .i64 HX,.tuple #[.slice (some ⟨bX,cr,none⟩) aC az,.int .i64 0],.slice (some ⟨j3,lG,none⟩) m gR,.int .i64 HX,.tuple #[.slice (some ⟨bX,cr,none⟩) aC az,.int .i64 0],.slice (some ⟨bX,cr,none⟩) aC az,.int .i64 0,.int .i64 (k:Int),.slice (some ⟨bX,cr,none⟩) aC az,.int .i64 (aC:Int),.bool true,u33,u34,.slice (some ⟨bX,cr,none⟩) aC az,.int .i64 (k:Int),.pointer (some ⟨bX,nS,none⟩),.agg atV,.pointer (some ⟨g10,0,none⟩),.int .i64 (n:Int),.bool false,.bool false,.pointer (some ⟨g10,0,none⟩),.int .i64 (n:Int),.slice (some ⟨j3,lG,none⟩) m gR,.int .i64 (m:Int),.int .i64 (a:Int),.int .i64 (r:Int),.bool false,.bool false,.bool false,.pointer (some ⟨g10,1,none⟩),.int .i64 x.2,.slice (some ⟨j3,lG,none⟩) m gR,.int .i64 (a:Int),.pointer (some ⟨j3,zX,none⟩),.pointer (some ⟨j3,zX+1,none⟩),.int .i64 x.2,.bool false,.bool false,.bool false,.pointer (some ⟨g10,2,none⟩),.agg S,.bool true,.bool false,.bool false,.int .i64 (j:Int),.pointer (some ⟨g10,0,none⟩),.int .i64 (n:Int),.bool true,u71,u72,.slice (some ⟨j3,lG,none⟩) m gR,.int .i64 (a:Int),.int .i64 (j:Int),.int .i64 (atT:Int),.pointer (some ⟨j3,atO,none⟩),.pointer (some ⟨j3,atO,none⟩),.int .i64 q.1,.slice (some ⟨j3,lG,none⟩) m gR,.int .i64 (a:Int),.pointer (some ⟨j3,zX,none⟩),.pointer (some ⟨j3,zX,none⟩),.int .i64 x.1,.int .u64 (dt:Int),.tuple #[.agg atP,true],.pointer (some ⟨g10,1,none⟩),.int .i64 x.2,.agg (dC x.2),.slice (some ⟨j3,lG,none⟩) m gR,.int .i64 (a:Int),.int .i64 (j:Int),.int .i64 (atT:Int),.pointer (some ⟨j3,atO,none⟩),.pointer (some ⟨j3,atO+1,none⟩),.int .i64 q.2,.int .i64 HX,.int .u64 (dt:Int),.tuple #[.agg atP,true],.agg atP,.bool true,.tuple #[.agg c5,true],.pointer (some ⟨g10,1,none⟩),.int .i64 x.2,.agg (dC x.2),.pointer (some ⟨g10,2,none⟩),.agg S,.int .u64 (dt:Int),.agg Q1,.tuple #[.agg c5,true],.agg c5,.bool true,u113,u114,u115,u116,u117,u118,u119,u120,u121,u122,u123,u124,u125,u126,u127,u128,u129,u130,u131,u132,u133,u134,u135,u136,u137,u138,u139,u140,u141,u142,undef,undef,undef,undef,undef,undef,undef,undef,undef,undef,undef],defers:=[] }) (by intro R G;kernel_rfl) (fun _=>rfl) (by kernel_rfl) (by kernel_rfl) (by kernel_rfl) (by kernel_rfl) rfl (fun _=>rfl) (fun _ h=>h.elim) (fun _ _ h=>h) (by simp) (by simp) (fun R b1=>⟨fun _=>rfl,fun _=>rfl,fun _=>rfl,fun _=>rfl,fun _=>rfl,fun _=>rfl,fun _=>rfl,fun _=>rfl,fun _=>rfl,fun _=>rfl,fun _=>rfl,fun _=>rfl,fun _=>rfl,fun _=>rfl,trivial⟩) (fun _ _ _ _=>rfl) dH (EE.out.trans (b5 _)) ?axI ?awA;case axI =>
          refine⟨aH,?_,d_ bQ,aH,?_,aH,d_ hN,d_ kp,aH,aH,aH,?_,?_,aH,trivial⟩
          ·refine cj fun R s w' aw hs hw ha=>?_
           have cc:=((show aG w' g10 _ atV from bu.aY hw (fun h=>h) (by simp)).cell 1).trans (auV);go_simp
          ·refine cj fun R s w' aw hs hw ha=>?_
           have L:=pH (bu.aY hw (fun h=>h) (by simp)) _ _ tt rfl 2 10 oP (by rw[rP];first|decide|omega) _ (auI);refine e7 rfl ?_ L;kernel_rfl
          ·refine ia ?ayf ?aw4 ?axb ?awT ?_;case ayf=>exact(.cells z5 27 (0,0))
           case aw4=>exact rfl
           case axb=>exact rfl
           case awT=>exact cu rfl
           intro ρ w';go_simp;exact⟨rfl,rfl⟩
          ·refine ib (j:=11) (Ty:=?ayn) (p:=?ayJ) (x:=?ay0) ?awK ?ayg ?ax3 ?aw5 ?axz ?axc ?axn ?awU ?awq ?_;case aw5=>exact rfl
           case axz=>exact rfl
           case awK=>exact(fun R=>(.cells c5 27 (0,0)))
           case ayg=>exact(.cells z5 27 (0,0))
           case ax3=>exact(fun R=>.agg c5)
           case axc=>exact(fun R=>rfl)
           case axn=>exact rfl
           case awU=>exact cu rfl
           case awq =>
            intro R;kernel_rfl
           intro R s ρ w g aw hs hp hx af hz;exact⟨hQ rfl hp hx hz eT (s1) (auD),fun aT hF=>dM aw hF (Nat.le_trans EE.out.size af)⟩
         case awA =>
          intro cY R G ax_ ae bH atQ;have hS:=ae.same;have aZ:=ae.holds;have bf:=EE.out.size;replace bu:=bu.aY hS (fun h=>h) (by simp);replace df:=df.aY hS (fun h=>h) (by simp);have gW:aG ax_ (G 11) 27 c5:=(ae.eV 12 (List.mem_range.2 (show 12<14 by decide)) 11 rfl).2.2;have awX:=(ae.made 11 (List.mem_range.2 (show 11<14 by decide)) rfl).1;have avA:gU.heap.size≤G 11:=Nat.le_trans bf awX;have ayy:g10≠G 11:=by omega
          have ayA:g13≠G 11:=by omega
          replace EE:=hide (show Ext _ _ from aZ);clear hS bf aZ ae fj auu;dsimp only at atQ;subst atQ;generalize G 11=g15 at *;go_upto_region 17 with fail
          have fj:=bu.lt;have auu:=df.lt;have au8:=gW.lt;refine aus [.q,.q,.q,.q,.q,.q,.q,.q,.q,.q,.q,.q,.q,.so 0] [0,0,0,0,0,0,0,0,0,0,0,0,0,0] (fun R=>[.agg c5,.slice (some ⟨j3,lG,none⟩) m gR,.int .i64 (a:Int),.int .i64 (j:Int),.int .i64 (atT:Int),.pointer (some ⟨j3,atO,none⟩),.pointer (some ⟨j3,atO+1,none⟩),.int .i64 q.2,.agg (dC q.2),.tuple #[.agg dz,true],.tuple #[.agg dz,true],.agg dz,.bool true,undef]) (fun _=>(.cells #[] 0 (0,0))) (fun R _=>(.cells dz 27 (0,0))) (fun _=>g15) (dA gU) (fun _=>False) _ (fun R G=>{ tmps:=#[.slice y len cap,undef,u2,.pointer (some ⟨W.heap.size,0,none⟩),.slice (some ⟨j3,lG,none⟩) m gR,.int .i64 HX,.slice (some ⟨bX,cr,none⟩) aC az,.int .i64 0,.int .i64 (a:Int),.int .i64 (k:Int),.pointer (some ⟨g10,0,none⟩),.int .i64 (j:Int),.int .u64 (dt:Int),.pointer (some ⟨g13,0,none⟩),.bool true,.pointer (some ⟨g15,0,none⟩),.bool true,.slice y len cap,.pointer (some ⟨W.heap.size,0,none⟩),.pointer (some ⟨W.heap.size,0,none⟩),.slice (some ⟨j3,lG,none⟩) m gR,.pointer (some ⟨W.heap.size,0,none⟩),.int .i64 HX,.tuple #[.slice (some ⟨bX,cr,none⟩) aC az,.int .i64 0],.slice (some ⟨j3,lG,none⟩) m gR,.int .i64 HX,.tuple #[.slice (some ⟨bX,cr,none⟩) aC az,.int .i64 0],.slice (some ⟨bX,cr,none⟩) aC az,.int .i64 0,.int .i64 (k:Int),.slice (some ⟨bX,cr,none⟩) aC az,.int .i64 (aC:Int),.bool true,u33,u34,.slice (some ⟨bX,cr,none⟩) aC az,.int .i64 (k:Int),.pointer (some ⟨bX,nS,none⟩),.agg atV,.pointer (some ⟨g10,0,none⟩),.int .i64 (n:Int),.bool false,.bool false,.pointer (some ⟨g10,0,none⟩),.int .i64 (n:Int),.slice (some ⟨j3,lG,none⟩) m gR,.int .i64 (m:Int),.int .i64 (a:Int),.int .i64 (r:Int),.bool false,.bool false,.bool false,.pointer (some ⟨g10,1,none⟩),.int .i64 x.2,.slice (some ⟨j3,lG,none⟩) m gR,.int .i64 (a:Int),.pointer (some ⟨j3,zX,none⟩),.pointer (some ⟨j3,zX+1,none⟩),.int .i64 x.2,.bool false,.bool false,.bool false,.pointer (some ⟨g10,2,none⟩),.agg S,.bool true,.bool false,.bool false,.int .i64 (j:Int),.pointer (some ⟨g10,0,none⟩),.int .i64 (n:Int),.bool true,u71,u72,.slice (some ⟨j3,lG,none⟩) m gR,.int .i64 (a:Int),.int .i64 (j:Int),.int .i64 (atT:Int),.pointer (some ⟨j3,atO,none⟩),.pointer (some ⟨j3,atO,none⟩),.int .i64 q.1,.slice (some ⟨j3,lG,none⟩) m gR,.int .i64 (a:Int),.pointer (some ⟨j3,zX,none⟩),.pointer (some ⟨j3,zX,none⟩),.int .i64 x.1,.int .u64 (dt:Int),.tuple #[.agg atP,true],.pointer (some ⟨g10,1,none⟩),.int .i64 x.2,.agg (dC x.2),.slice (some ⟨j3,lG,none⟩) m gR,.int .i64 (a:Int),.int .i64 (j:Int),.int .i64 (atT:Int),.pointer (some ⟨j3,atO,none⟩),.pointer (some ⟨j3,atO+1,none⟩),.int .i64 q.2,.int .i64 HX,.int .u64 (dt:Int),.tuple #[.agg atP,true],.agg atP,.bool true,.tuple #[.agg c5,true],.pointer (some ⟨g10,1,none⟩),.int .i64 x.2,.agg (dC x.2),.pointer (some ⟨g10,2,none⟩),.agg S,.int .u64 (dt:Int),.agg Q1,.tuple #[.agg c5,true],.agg c5,.bool true,.tuple #[.agg dz,true],.agg c5,.slice (some ⟨j3,lG,none⟩) m gR,.int .i64 (a:Int),.int .i64 (j:Int),.int .i64 (atT:Int),.pointer (some ⟨j3,atO,none⟩),.pointer (some ⟨j3,atO+1,none⟩),.int .i64 q.2,.agg (dC q.2),.tuple #[.agg dz,true],.agg dz,.bool true,u126,u127,u128,u129,u130,u131,u132,u133,u134,u135,u136,u137,u138,u139,u140,u141,u142,undef,undef,undef,undef,undef,undef,undef,undef,undef,undef,undef],defers:=[] }) (by intro R G;kernel_rfl) (fun _=>rfl) (by kernel_rfl) (by kernel_rfl) (by kernel_rfl) (by kernel_rfl) rfl (fun _=>rfl) (fun _ h=>h.elim) (fun _ _ h=>h) (by intro c hc;simp at hc;(try subst hc);(try simp only);omega) (by intro c c' h1 h2 _;simp at h1 h2;omega) (fun R b1=>⟨fun _=>rfl,fun _=>rfl,fun _=>rfl,fun _=>rfl,fun _=>rfl,fun _=>rfl,fun _=>rfl,fun _=>rfl,fun _=>rfl,fun _=>rfl,fun _=>rfl,fun _=>rfl,fun _=>rfl,fun _=>rfl,trivial⟩) (fun _ _ _ _=>rfl) dH (EE.out.trans (b5 _)) ?axA ?awr;case axA =>
           refine⟨?_,aH,aH,aH,aH,?_,aH,?_,d_ Ez,d_ ks,aH,aH,aH,?_,trivial⟩
           ·refine cj fun R s w' aw hs hw ha=>?_
            have L:=dF ((ha 13 0 rfl (by kernel_rfl)).trans gW) hU rfl eT s1;refine e7 rfl ?_ L;kernel_rfl
           ·refine cj fun R s w' aw hs hw ha=>?_
            refine BN rfl ?_ ?_ (at3.out w')
            ·kernel_rfl
            ·kernel_rfl
           ·refine cj fun R s w' aw hs hw ha=>?_
            have cc:=mH.out w' aw;go_simp
           ·refine il (c:=0) (Ty:=?ayh) (p:=?ayD) (x:=?ayU) g15 ?awE ?axP ?axT ?awY ?axt ?aw6 ?axh ?awN ?awf ?awk ?_;case awY=>exact rfl
            case axt=>exact rfl
            case awE=>exact(fun R=>(.cells dz 27 (0,0)))
            case axP=>exact(fun R=>.pointer (some ⟨g15,0,none⟩))
            case axT=>exact(fun R=>.agg dz)
            case aw6=>exact(fun R=>rfl)
            case axh=>exact rfl
            case awN=>exact cu rfl
            case awf =>
             intro R;kernel_rfl
            case awk =>
             intro R;kernel_rfl
            intro R s ρ w aw hs hp hx hz;refine⟨lI (g:=g15) rfl hp hx (hz.trans gW) eT (s1) (s2) (auv),fun aT hF=>dM aw hF avA⟩
          case awr =>
           intro cY R G ax4 ae bH atQ;have hS:=ae.same;have aZ:=ae.holds;have bf:=EE.out.size;replace bu:=bu.aY hS (fun h=>h) (by intro c hc;simp at hc;(try subst hc);(try simp only);omega);replace df:=df.aY hS (fun h=>h) (by intro c hc;simp at hc;(try subst hc);(try simp only);omega);replace gW:aG ax4 g15 27 dz:=ae.ep 13 (List.mem_range.2 (show 13<14 by decide)) 0 rfl;replace EE:=hide (show Ext _ _ from aZ);clear hS bf aZ ae fj auu au8;dsimp only at atQ;subst atQ;go_upto_region 18 with fail
           have fj:=bu.lt;have auu:=df.lt;have au8:=gW.lt;refine aut [.q,.so 0] [0,0] (fun R=>[.pointer (some ⟨g15,0,none⟩),undef]) (fun _=>(.cells #[] 0 (0,0))) (fun R _=>(.cells eu 27 (0,0))) (fun _=>g15) (dA gU) (fun _=>False) _ (fun R G=>{ tmps:=#[.slice y len cap,undef,u2,.pointer (some ⟨W.heap.size,0,none⟩),.slice (some ⟨j3,lG,none⟩) m gR,.int .i64 HX,.slice (some ⟨bX,cr,none⟩) aC az,.int .i64 0,.int .i64 (a:Int),.int .i64 (k:Int),.pointer (some ⟨g10,0,none⟩),.int .i64 (j:Int),.int .u64 (dt:Int),.pointer (some ⟨g13,0,none⟩),.bool true,.pointer (some ⟨g15,0,none⟩),.bool true,.slice y len cap,.pointer (some ⟨W.heap.size,0,none⟩),.pointer (some ⟨W.heap.size,0,none⟩),.slice (some ⟨j3,lG,none⟩) m gR,.pointer (some ⟨W.heap.size,0,none⟩),.int .i64 HX,.tuple #[.slice (some ⟨bX,cr,none⟩) aC az,.int .i64 0],.slice (some ⟨j3,lG,none⟩) m gR,.int .i64 HX,.tuple #[.slice (some ⟨bX,cr,none⟩) aC az,.int .i64 0],.slice (some ⟨bX,cr,none⟩) aC az,.int .i64 0,.int .i64 (k:Int),.slice (some ⟨bX,cr,none⟩) aC az,.int .i64 (aC:Int),.bool true,u33,u34,.slice (some ⟨bX,cr,none⟩) aC az,.int .i64 (k:Int),.pointer (some ⟨bX,nS,none⟩),.agg atV,.pointer (some ⟨g10,0,none⟩),.int .i64 (n:Int),.bool false,.bool false,.pointer (some ⟨g10,0,none⟩),.int .i64 (n:Int),.slice (some ⟨j3,lG,none⟩) m gR,.int .i64 (m:Int),.int .i64 (a:Int),.int .i64 (r:Int),.bool false,.bool false,.bool false,.pointer (some ⟨g10,1,none⟩),.int .i64 x.2,.slice (some ⟨j3,lG,none⟩) m gR,.int .i64 (a:Int),.pointer (some ⟨j3,zX,none⟩),.pointer (some ⟨j3,zX+1,none⟩),.int .i64 x.2,.bool false,.bool false,.bool false,.pointer (some ⟨g10,2,none⟩),.agg S,.bool true,.bool false,.bool false,.int .i64 (j:Int),.pointer (some ⟨g10,0,none⟩),.int .i64 (n:Int),.bool true,u71,u72,.slice (some ⟨j3,lG,none⟩) m gR,.int .i64 (a:Int),.int .i64 (j:Int),.int .i64 (atT:Int),.pointer (some ⟨j3,atO,none⟩),.pointer (some ⟨j3,atO,none⟩),.int .i64 q.1,.slice (some ⟨j3,lG,none⟩) m gR,.int .i64 (a:Int),.pointer (some ⟨j3,zX,none⟩),.pointer (some ⟨j3,zX,none⟩),.int .i64 x.1,.int .u64 (dt:Int),.tuple #[.agg atP,true],.pointer (some ⟨g10,1,none⟩),.int .i64 x.2,.agg (dC x.2),.slice (some ⟨j3,lG,none⟩) m gR,.int .i64 (a:Int),.int .i64 (j:Int),.int .i64 (atT:Int),.pointer (some ⟨j3,atO,none⟩),.pointer (some ⟨j3,atO+1,none⟩),.int .i64 q.2,.int .i64 HX,.int .u64 (dt:Int),.tuple #[.agg atP,true],.agg atP,.bool true,.tuple #[.agg c5,true],.pointer (some ⟨g10,1,none⟩),.int .i64 x.2,.agg (dC x.2),.pointer (some ⟨g10,2,none⟩),.agg S,.int .u64 (dt:Int),.agg Q1,.tuple #[.agg c5,true],.agg c5,.bool true,.tuple #[.agg dz,true],.agg c5,.slice (some ⟨j3,lG,none⟩) m gR,.int .i64 (a:Int),.int .i64 (j:Int),.int .i64 (atT:Int),.pointer (some ⟨j3,atO,none⟩),.pointer (some ⟨j3,atO+1,none⟩),.int .i64 q.2,.agg (dC q.2),.tuple #[.agg dz,true],.agg dz,.bool true,.pointer (some ⟨g15,0,none⟩),u127,u128,u129,u130,u131,u132,u133,u134,u135,u136,u137,u138,u139,u140,u141,u142,undef,undef,undef,undef,undef,undef,undef,undef,undef,undef,undef],defers:=[] }) (by intro R G;kernel_rfl) (fun _=>rfl) (by kernel_rfl) (by kernel_rfl) (by kernel_rfl) rfl (fun _=>rfl) (fun _ h=>h.elim) (fun _ _ h=>h) (by intro c hc;simp at hc;(try subst hc);(try simp only);omega) (by intro c c' h1 h2 _;simp at h1 h2;omega) (fun R b1=>⟨fun _=>rfl,fun _=>rfl,trivial⟩) (fun _ _ _ _=>rfl) dH EE.out ?axB ?awt;case axB =>
            refine⟨aH,?_,trivial⟩
            ·refine il (c:=0) (Ty:=?ayi) (p:=?ayE) (x:=?ayV) g15 ?awF ?axQ ?axU ?awZ ?axu ?aw7 ?axi ?awO ?awg ?awl ?_;case awZ=>exact rfl
             case axu=>exact rfl
             case awF=>exact(fun R=>(.cells eu 27 (0,0)))
             case axQ=>exact(fun R=>.pointer (some ⟨g15,0,none⟩))
             case axU=>exact(fun R=>.bool false)
             case aw7=>exact(fun R=>rfl)
             case axi=>exact rfl
             case awO=>exact cu rfl
             case awg =>
              intro R;kernel_rfl
             case awl =>
              intro R;kernel_rfl
             intro R s ρ w aw hs hp hx hz;have bF:=(show aG w g15 _ dz from hz.trans gW);have hc:=(bF.cell 0).trans (axo);have hf:=bF.frozen 0;refine⟨qR (g:=g15) (Ty:=4) rfl hp hx (hz.trans gW) (axp) ?_,fun aT hF=>dM aw hF avA⟩;go_simp
           case awt =>
            intro cY R G aun ae bH atQ;have hS:=ae.same;have aZ:=ae.holds;have bf:=EE.out.size;replace bu:=bu.aY hS (fun h=>h) (by intro c hc;simp at hc;(try subst hc);(try simp only);omega);replace df:=df.aY hS (fun h=>h) (by intro c hc;simp at hc;(try subst hc);(try simp only);omega);replace gW:aG aun g15 27 eu:=ae.ep 1 (List.mem_range.2 (show 1<2 by decide)) 0 rfl;replace EE:=hide (show Ext _ _ from aZ);clear hS bf aZ ae fj auu au8;dsimp only at atQ;subst atQ;go_upto_region 19 with fail
            refine wp_region_quiet_below (by kernel_rfl) (by kernel_rfl) ?_;repeat (first|go_big_quiet_step (first|with_reducible exact dK (afw.out _)|with_reducible exact dK (tW.out _)|with_reducible exact dK (avU.out _))|(refine iE (by kernel_rfl) rfl rfl (fun w hw=>by obtain⟨⟨d,os⟩,rfl⟩:=hw;exact dF ((df).ext (aX aun d os)) fV rfl ei at9) ?_)|(refine iE (by kernel_rfl) rfl rfl (fun w hw=>by obtain⟨⟨d,os⟩,rfl⟩:=hw;exact pH ((bu).ext (aX aun d os)) _ _ tt rfl 2 10 oP (by rw[rP];first|decide|omega) _ (auI)) ?_)|(refine iE (by kernel_rfl) rfl rfl (fun w hw=>by obtain⟨⟨d,os⟩,rfl⟩:=hw;exact dF ((gW).ext (aX aun d os)) hU rfl eT s3) ?_)|quiet_step (first|with_reducible exact dK (afw.out _)|with_reducible exact dK (tW.out _)|with_reducible exact dK (avU.out _)))
            refine wpQuiet_nil ?_;intro _ bj;obtain⟨⟨aQ,osq⟩,cq⟩:=bj;subst cq;replace bu:=(bu).ext (aX aun aQ osq);replace df:=(df).ext (aX aun aQ osq);replace gW:=(gW).ext (aX aun aQ osq);replace EE:=hide (EE.out.trans (aX aun aQ osq));obtain⟨ayM,avP⟩:∃ w,grow (redrawn aun aQ) osq=w:=⟨_,rfl⟩;rw[avP] at EE bu df gW ⊢;clear avP;go_wp2_with fail
            go_roundw
            case rel=>exact⟨j+1,by omega,by omega,by go_num,hide bu,EE⟩
            case measure=>simp[intOf];omega
      ·have d3:decide ((j:Int)<(n:Int))=false:=decide_eq_false (by omega);have auX:decide (j<n)=false:=decide_eq_false (by omega);go_upto_region 12 with fail
       have awd:=fun d os=>(((bu).ext (aX wr d os)).cell 0).trans (auw)
       refine eK ?_;repeat (first|go_big_quiet_step (fail)|quiet_step (fail))
       refine wpQuiet_nil ?_;intro _ bj;obtain⟨⟨aQ,osq⟩,cq⟩:=bj;subst cq;replace bu:=(bu).ext (aX wr aQ osq);replace EE:=hide (EE.out.trans (aX wr aQ osq));obtain⟨au2,avR⟩:∃ w,grow (redrawn wr aQ) osq=w:=⟨_,rfl⟩;rw[avR] at EE bu ⊢;clear avR awd;go_upto_region 21 with fail
       have awe:=fun d os=>(((bu).ext (aX au2 d os)).cell 0).trans (auw)
       refine eK ?_;repeat (first|go_big_quiet_step (fail)|quiet_step (fail))
       refine wpQuiet_nil ?_;intro _ bj;obtain⟨⟨aQ,osq⟩,cq⟩:=bj;subst cq;replace bu:=(bu).ext (aX au2 aQ osq);replace EE:=hide (EE.out.trans (aX au2 aQ osq));obtain⟨ayQ,avS⟩:∃ w,grow (redrawn au2 aQ) osq=w:=⟨_,rfl⟩;rw[avS] at EE bu ⊢;clear avS awe;go_wp2_with fail
       go_roundw
       case rel=>exact⟨k+1,a+n,by go_num,by go_num,Ay,hide (dc.out.trans EE.out)⟩
       case measure=>simp[intOf];omega
  ·have auL:decide ((k:Int)<(aC:Int))=false:=decide_eq_false (by omega);have ha:a=m:=(jY.out.end_ (by omega)).trans hW.out;subst ha;have zO:((a:Int)==(a:Int))=true:=by simp
   go_upto_region 22 with fail
   go_wp2_with (go_at_call 13;(with_reducible refine(Xn.out _).mono ?_);rintro e cN ⟨rfl,ad⟩)
   go_ret;exact⟨rfl,Aw.out.trans ad⟩
end
end Go.Proofs.YtojbopibfflnoaaGreat
