/- Contracts and plain facts; each states its conditions. -/
import Derived.Test.YtojbopibfflnoaaGreatPrY4
import Derived.Test.YtojbopibfflnoaaGreatPrY5
namespace Go.Proofs.YtojbopibfflnoaaGreat
open Go renaming World → w1, Calls → AA, bodyPost_ret → B7
open _root_.Go.Proofs.Tryz renaming prog → CW
set_option linter.unusedVariables false
set_option linter.unusedSimpArgs false
set_option maxHeartbeats 16000000
section
open Go Go.RowKit
theorem H9{z:Int}{w w':w1}{s:Bool}{a b c d:Nat}(hf:z.natAbs<115792089237316195423570985008687907853269984665640564039457584007913129639936)(hC:cw s a b c d z)(ad:Ext w w') :
 oG z w (.returned (.tuple #[.agg #[.bool s,a,b,c,d],.bool true])) w':=
 ⟨s,a,b,c,d,true,rfl,(decide_eq_true hf).symm,by rw[if_pos hf];exact hC,ad⟩
theorem Wr{z:Int}{w w':w1}(hf:¬ z.natAbs<115792089237316195423570985008687907853269984665640564039457584007913129639936)(ad:Ext w w') :
 oG z w (.returned (.tuple #[.agg #[false,(),(),(),()],.bool false])) w':=
 ⟨false,0,0,0,0,false,rfl,(decide_eq_false hf).symm,by rw[if_neg hf];exact⟨⟨by omega,by omega,by omega,by omega,by simp[b0,val]⟩,by simp⟩,ad⟩
theorem cw.fits{s:Bool}{a b c d:Nat}{z:Int}(h:dg s a b c d z):z.natAbs<115792089237316195423570985008687907853269984665640564039457584007913129639936:=by
 rw[<-h.abs];exact qM h.1 h.2.1 h.2.2.1 h.2.2.2.1
theorem ajd(s:Bool)(a b c d e f g h:Nat)(x y:Int)(w:w1)(hx:dg s a b c d x)(hy:dg s e f g h y) :
 AA CW 111 #[.agg #[.bool s,a,b,c,d],.agg #[.bool s,e,f,g,h]] w (oG (x+y) w):=by
 obtain⟨W,aK⟩:=eo ((((w.alloc (.cells #[.bool s,a,b,c,d] 27)).alloc (.cells #[.bool s,e,f,g,h] 27)).alloc (.cells #[false,(),(),(),()] 27)));have cO:=kF w (.cells #[.bool s,a,b,c,d] 27) (.cells #[.bool s,e,f,g,h] 27) (.cells #[false,(),(),(),()] 27);rw[<-aK] at cO;have ay:Box W w.heap.size s a b c d:=cO.1;have au:Box W (w.heap.size+1) s e f g h:=cO.2.1;have aR:Box W (w.heap.size+1+1) false 0 0 0 0:=cO.2.2;have bC:Ext w W:=by rw[aK];exact((aA _ _).trans (aA _ _)).trans (aA _ _)
 have aB:=hide aK;clear aK cO;obtain⟨n,hn⟩:=aM x.natAbs;obtain⟨m,hm⟩:=aM y.natAbs;have gL:Hid (b0 a b c d=n):=by rw[<-hn];exact hx.abs
 have hY:Hid (b0 e f g h=m):=by rw[<-hm];exact hy.abs
 have bP:=hx.qi;have nG:=hy.qi;have ll:Hid ((if s then -((n+m:Nat):Int) else ((n+m:Nat):Int))=x+y/\(x+y).natAbs=n+m):=by
  have h1:=hx.2.2.2.2;have h2:=hy.2.2.2.2;rw[gL.out] at h1;rw[hY.out] at h2;unfold Hid;cases s<;>simp only[Bool.false_eq_true,if_false,if_true] at h1 h2 |-<;>omega
 clear hn hm hx hy;have dY:=av ay;obtain⟨d0,d1,d2,d3,d4,g0,g1,g2,g3,g4⟩:=av au;by_cases hf:n+m<115792089237316195423570985008687907853269984665640564039457584007913129639936
 ·have bM:Hid (decide (n+m<115792089237316195423570985008687907853269984665640564039457584007913129639936)=true):=decide_eq_true hf;have hW:Hid ((n+m)%115792089237316195423570985008687907853269984665640564039457584007913129639936=n+m):=Nat.mod_eq_of_lt hf;have fg:Hid ((x+y).natAbs<115792089237316195423570985008687907853269984665640564039457584007913129639936):=by rw[ll.out.2];exact hf
  clear hf;go_enter Tryz.func111,Tryz.ntmps111
  go_upto_region 1 with fail
  rw[<-aB.out];clear aB;go_wp2_with (first
   | (go_at_call 128;refine(NT a b c d e f g h n m gL.out hY.out _ bP nG).mono ?_;rintro e' w' ⟨a1,bA,nO,lp,rfl,gE,jt,ad⟩;rw[bM.out];rw[hW.out] at jt;have jt:=hide jt;have cD:=ay.ext ad;have dz:=aR.ext ad;have dY:=av cD;have ai:=cD.lt;have aj:=dz.lt;have bS:=bC.trans ad;clear ad)
   | (go_at_call 113;refine(qN s a1 bA nO lp _ (ez gE).1 (ez gE).2.1 (ez gE).2.2.1 (ez gE).2.2.2).mono ?_;rintro e' w' ⟨s',a',b',c',d',rfl,hC,ad⟩;rw[jt.out,ll.out.1] at hC;have bS:=(bS.trans (aA _ _)).trans ad;have eu:=(dz.ext (aA _ _)).ext ad;obtain⟨d0,d1,d2,d3,d4,g0,g1,g2,g3,g4⟩:=av eu;clear ad))
  all_goals exact B7 (v:=.tuple #[.agg #[.bool s',a',b',c',d'],.bool true]) (by simp[results,Tryz.results111,go_sem,d0,d1,d2,d3,d4]) rfl (H9 fg.out hC (dr bS (by omega) _ _ _ _ _))
 ·have bM:Hid (decide (n+m<115792089237316195423570985008687907853269984665640564039457584007913129639936)=false):=decide_eq_false hf;have fg:Hid (¬ (x+y).natAbs<115792089237316195423570985008687907853269984665640564039457584007913129639936):=by rw[ll.out.2];exact hf
  clear hf;go_enter Tryz.func111,Tryz.ntmps111
  go_upto_region 1 with fail
  rw[<-aB.out];clear aB;go_wp2_with (go_at_call 128;refine(NT a b c d e f g h n m gL.out hY.out _ bP nG).mono ?_;rintro e' w' ⟨a1,bA,nO,lp,rfl,gE,jt,ad⟩;rw[bM.out];have jt:=hide jt;have dz:=aR.ext ad;have aj:=dz.lt;obtain⟨d0,d1,d2,d3,d4,g0,g1,g2,g3,g4⟩:=av dz;have bS:=bC.trans ad;clear ad)
  all_goals exact B7 (v:=.tuple #[.agg #[false,(),(),(),()],.bool false]) (by simp[results,Tryz.results111,go_sem,d0,d1,d2,d3,d4,aj]) rfl (Wr fg.out ((dr bS (by omega) _ _ _ _ _).trans (aA _ _)))
theorem ajc(s:Bool)(a b c d e f g h:Nat)(x y:Int)(w:w1)(hx:dg s a b c d x)(hy:dg (!s) e f g h y) :
 AA CW 111 #[.agg #[.bool s,a,b,c,d],.agg #[.bool (!s),e,f,g,h]] w (oG (x+y) w):=by
 obtain⟨t,bd⟩:=eo (!s);rw[<-bd] at hy |-;obtain⟨W,aK⟩:=eo ((((w.alloc (.cells #[.bool s,a,b,c,d] 27)).alloc (.cells #[.bool t,e,f,g,h] 27)).alloc (.cells #[false,(),(),(),()] 27)));have cO:=kF w (.cells #[.bool s,a,b,c,d] 27) (.cells #[.bool t,e,f,g,h] 27) (.cells #[false,(),(),(),()] 27);rw[<-aK] at cO;have ay:Box W w.heap.size s a b c d:=cO.1;have au:Box W (w.heap.size+1) t e f g h:=cO.2.1;have aR:Box W (w.heap.size+1+1) false 0 0 0 0:=cO.2.2;have bC:Ext w W:=by rw[aK];exact((aA _ _).trans (aA _ _)).trans (aA _ _)
 have aB:=hide aK;clear aK cO;obtain⟨n,hn⟩:=aM x.natAbs;obtain⟨m,hm⟩:=aM y.natAbs;have gL:Hid (b0 a b c d=n):=by rw[<-hn];exact hx.abs
 have hY:Hid (b0 e f g h=m):=by rw[<-hm];exact hy.abs
 have bP:=hx.qi;have nG:=hy.qi;have JF:=cw.fits hx;have j3:=cw.fits hy;rw[hn] at JF;rw[hm] at j3;have h1:=hx.2.2.2.2;have h2:=hy.2.2.2.2;rw[gL.out] at h1;rw[hY.out] at h2;have fg:Hid ((x+y).natAbs<115792089237316195423570985008687907853269984665640564039457584007913129639936):=by
  unfold Hid;subst bd;cases s<;>simp only[Bool.false_eq_true,if_false,if_true,Bool.not_false,Bool.not_true] at h1 h2<;>omega
 have Jd:Hid (m<=n->(if s then -((n-m:Nat):Int) else ((n-m:Nat):Int))=x+y):=by
  intro h3;subst bd;cases s<;>simp only[Bool.false_eq_true,if_false,if_true,Bool.not_false,Bool.not_true] at h1 h2 |-<;>omega
 have Jc:Hid (n<m->(if t then -((m-n:Nat):Int) else ((m-n:Nat):Int))=x+y):=by
  intro h3;subst bd;cases s<;>simp only[Bool.false_eq_true,if_false,if_true,Bool.not_false,Bool.not_true] at h1 h2 |-<;>omega
 have hL:(s==t)=false:=by subst bd;cases s<;>rfl
 clear hn hm hx hy h1 h2 JF j3 bd;have dY:=av ay;have fa:=av au;by_cases cl:n<m
 ·have cG:Hid (fM n m=-1):=if_pos cl;have ll:=hide (Jc.out cl);have hle:m-n<=m:=by omega
  clear Jd Jc;go_enter Tryz.func111,Tryz.ntmps111
  go_upto_region 1 with fail
  rw[<-aB.out];clear aB;go_upto_if 33 with (go_at_call 127;refine(BM a b c d e f g h n m gL.out hY.out _ bP nG).mono ?_;rintro e' w' ⟨rfl,ad⟩;rw[cG.out];have cD:=ay.ext ad;have c5:=au.ext ad;have dz:=aR.ext ad;have bS:=bC.trans ad;clear ad;have dY:=av cD;have fa:=av c5)
  go_cut [] (fun bP=>Box bP w.heap.size t e f g h/\Box bP (w.heap.size+1) s a b c d/\Box bP (w.heap.size+1+1) false 0 0 0 0/\Ext w bP)
  case first =>
   go_wp2_with fail
   all_goals go_meet
   all_goals exact⟨(cD.put).cI (by omega) _ _ _ _ _,(c5.cI (by omega) _ _ _ _ _).put,(dz.cI (by omega) _ _ _ _ _).cI (by omega) _ _ _ _ _,dr (dr bS (Nat.le_refl _) _ _ _ _ _) (by omega) _ _ _ _ _⟩
  case rest =>
   clear ay au aR bC cD c5 dz bS;obtain⟨ay,au,aR,bC⟩:=hcut;have dY:=av ay;have fa:=av au;go_wp2_with fail
   go_region_with (first
    | (go_at_call 129;refine(N1 e f g h a b c d m n hY.out gL.out _ nG bP (Nat.le_of_lt cl)).mono ?_;rintro e' w' ⟨a1,bA,nO,lp,rfl,gE,jt,ad⟩;have jt:=hide jt;have cD:=ay.drew.ext ad;have dz:=aR.drew.ext ad;have dY:=av cD;have bS:=(bC.trans (b5 _)).trans ad;clear ad)
    | (go_at_call 113;refine(qN t a1 bA nO lp _ (ez gE).1 (ez gE).2.1 (ez gE).2.2.1 (ez gE).2.2.2).mono ?_;rintro e' w' ⟨s',a',b',c',d',rfl,hC,ad⟩;rw[jt.out,ll.out] at hC;have da:=bS.trans ad;have eu:=dz.ext ad;obtain⟨i0,i1,i2,i3,i4,dm,cW,cL,dn,dG⟩:=av eu;clear ad))
   all_goals go_wp2_with fail
   all_goals exact B7 (v:=.tuple #[.agg #[.bool s',a',b',c',d'],.bool true]) (by simp[results,Tryz.results111,go_sem,i0,i1,i2,i3,i4]) rfl (H9 fg.out hC (dr da (by omega) _ _ _ _ _))
 ·have hle:m<=n:=by omega
  have h01:(0:Int)<=fM n m:=by unfold fM;rw[if_neg cl];split<;>omega
  obtain⟨q,aO⟩:=aM (fM n m);rw[aO] at h01;have cG:=hide aO;have ll:=hide (Jd.out hle);clear Jd Jc cl aO;go_enter Tryz.func111,Tryz.ntmps111
  go_upto_region 1 with fail
  rw[<-aB.out];clear aB;go_wp2_with (go_at_call 127;refine(BM a b c d e f g h n m gL.out hY.out _ bP nG).mono ?_;rintro e' w' ⟨rfl,ad⟩;rw[cG.out];have cD:=ay.ext ad;have c5:=au.ext ad;have dz:=aR.ext ad;have bS:=bC.trans ad;clear ad;have dY:=av cD;have fa:=av c5)
  clear ay au aR bC;go_region_with (first
   | (go_at_call 129;refine(N1 a b c d e f g h n m gL.out hY.out _ bP nG hle).mono ?_;rintro e' w' ⟨a1,bA,nO,lp,rfl,gE,jt,ad⟩;have jt:=hide jt;have yB:=cD.drew.ext ad;have Cq:=dz.drew.ext ad;have dY:=av yB;have yh:=(bS.trans (b5 _)).trans ad;clear ad)
   | (go_at_call 113;refine(qN s a1 bA nO lp _ (ez gE).1 (ez gE).2.1 (ez gE).2.2.1 (ez gE).2.2.2).mono ?_;rintro e' w' ⟨s',a',b',c',d',rfl,hC,ad⟩;rw[jt.out,ll.out] at hC;have da:=yh.trans ad;have eu:=Cq.ext ad;obtain⟨i0,i1,i2,i3,i4,dm,cW,cL,dn,dG⟩:=av eu;clear ad))
  all_goals go_wp2_with fail
  all_goals exact B7 (v:=.tuple #[.agg #[.bool s',a',b',c',d'],.bool true]) (by simp[results,Tryz.results111,go_sem,i0,i1,i2,i3,i4]) rfl (H9 fg.out hC (dr da (by omega) _ _ _ _ _))
theorem U1(s t:Bool)(a b c d e f g h:Nat)(x y:Int)(w:w1)(hx:dg s a b c d x)(hy:dg t e f g h y) :
 AA CW 111 #[.agg #[.bool s,a,b,c,d],.agg #[.bool t,e,f,g,h]] w (oG (x+y) w):=by
 by_cases h1:t=s
 ·subst h1;exact ajd _ a b c d e f g h x y w hx hy
 ·obtain rfl:t=!s:=by cases s<;>cases t<;>simp at h1 |-
  exact ajc s a b c d e f g h x y w hx hy
end
end Go.Proofs.YtojbopibfflnoaaGreat
