/- Contracts and plain facts; each states its conditions. -/
import Derived.Test.YtojbopibfflnoaaGreatPrY1
import Derived.Deep.RegionWith
import Derived.Deep.RegionHeld3
import Derived.Deep.DeepCutAuto
namespace Go.Proofs.YtojbopibfflnoaaGreat
open Go renaming World → w1, Calls → AA, bodyPost_ret → B7
open _root_.Go.Proofs.Tryz renaming prog → CW
set_option linter.unusedVariables false
set_option linter.unusedSimpArgs false
set_option maxHeartbeats 16000000
section
open Go Go.RowKit
theorem VD(s t:Bool)(a b c d e f g h:Nat)(x y:Int)(w:w1)(hx:dg s a b c d x)(hy:dg t e f g h y) :
 AA CW 24 #[.agg #[.bool s,a,b,c,d],.agg #[.bool t,e,f,g,h]] w (oG (x+y) w):=by
 obtain⟨W,aK⟩:=eo ((((w.alloc (.cells #[.bool s,a,b,c,d] 27)).alloc (.cells #[.bool t,e,f,g,h] 27)).alloc (.cells #[false,(),(),(),()] 27)));have cO:=kF w (.cells #[.bool s,a,b,c,d] 27) (.cells #[.bool t,e,f,g,h] 27) (.cells #[false,(),(),(),()] 27);rw[<-aK] at cO;have ay:Box W w.heap.size s a b c d:=cO.1;have au:Box W (w.heap.size+1) t e f g h:=cO.2.1;have aR:Box W (w.heap.size+1+1) false 0 0 0 0:=cO.2.2;have bC:Ext w W:=by rw[aK];exact((aA _ _).trans (aA _ _)).trans (aA _ _)
 have aB:=hide aK;clear aK cO;go_enter Tryz.func24,Tryz.ntmps24
 go_upto_region 1 with fail
 rw[<-aB.out];clear aB;go_cut [] (fun bP=>Two w x y bP)
 case first =>
  have dY:=av ay;have fa:=av au;go_region_with (first
   | (go_at_call 59;refine(HL _ _ _ _ _ _ _ (by assumption)).mono ?_;rintro e' w' ⟨s',a',b',c',d',rfl,hC,ad⟩;have cD:=(by first|assumption|exact ay.drew:Box _ w.heap.size s a b c d).ext ad;have c5:=(by first|assumption|exact au.drew:Box _ (w.heap.size+1) t e f g h).ext ad;have dz:=(by first|assumption|exact aR.drew:Box _ (w.heap.size+1+1) false 0 0 0 0).ext ad;have dY:=av cD;have fa:=av c5;have bS:=(by first|assumption|exact bC.trans (b5 _):Ext w _).trans ad))
  all_goals go_wp2_with fail
  all_goals go_meet
  all_goals exact⟨_,_,_,_,_,_,_,_,_,_,‹cw _ _ _ _ _ x›,‹cw _ _ _ _ _ y›,(cD.put).cI (by omega) _ _ _ _ _,(c5.cI (by omega) _ _ _ _ _).put,(dz.cI (by omega) _ _ _ _ _).cI (by omega) _ _ _ _ _,dr (dr bS (Nat.le_refl _) _ _ _ _ _) (by omega) _ _ _ _ _⟩
 case rest =>
  clear ay au aR bC hx hy;obtain⟨s,a,b,c,d,t,e,f,g,h,hx,hy,ay,au,aR,bC⟩:=hcut;obtain⟨ha,hb,hc,hd,Bt⟩:=hx.1;obtain⟨he,hf,af,hh,Bu⟩:=hy.1;have gL:Hid (b0 a b c d=x.natAbs):=by unfold Hid;cases s<;>simp at Bt<;>omega
  have hY:Hid (b0 e f g h=y.natAbs):=by unfold Hid;cases t<;>simp at Bu<;>omega
  have Je:Hid (x=if s then -(x.natAbs:Int) else (x.natAbs:Int)):=by rw[<-gL.out];exact Bt
  have Jf:Hid (y=if t then -(y.natAbs:Int) else (y.natAbs:Int)):=by rw[<-hY.out];exact Bu
  clear Bt Bu;go_upto_region 2 with fail
  go_cut [6,7] (fun fq e8 bP=>Words w.heap.size bP fq (bg x.natAbs)/\Words w.heap.size bP e8 (bg y.natAbs)/\Box bP w.heap.size s a b c d/\Box bP (w.heap.size+1) t e f g h/\Box bP (w.heap.size+1+1) false 0 0 0 0/\Ext w bP)
  case first =>
   have dY:=av ay;have fa:=av au;go_region_with (first
    | (go_at_call_of 60 (Value.bool s);refine(oR w.heap.size s a b c d _ (by first|exact bS.size|exact bC.size) ha hb hc hd).mono ?_;rintro e' w' ⟨v6,rfl,p6,ad⟩;rw[gL.out] at p6;have cD:=(by first|assumption|exact ay.drew:Box _ w.heap.size s a b c d).ext ad;have c5:=(by first|assumption|exact au.drew:Box _ (w.heap.size+1) t e f g h).ext ad;have dz:=(by first|assumption|exact aR.drew:Box _ (w.heap.size+1+1) false 0 0 0 0).ext ad;have dY:=av cD;have fa:=av c5;have bS:=(by first|assumption|exact bC.trans (b5 _):Ext w _).trans ad)
    | (go_at_call_of 60 (Value.bool t);refine(oR w.heap.size t e f g h _ (by first|exact bS.size|exact bC.size) he hf af hh).mono ?_;rintro e' w' ⟨qg,rfl,p7,ad⟩;rw[hY.out] at p7;have Mi:=p6.ext ad;have cD:=(by first|assumption|exact ay.drew:Box _ w.heap.size s a b c d).ext ad;have c5:=(by first|assumption|exact au.drew:Box _ (w.heap.size+1) t e f g h).ext ad;have dz:=(by first|assumption|exact aR.drew:Box _ (w.heap.size+1+1) false 0 0 0 0).ext ad;have bS:=(by first|assumption|exact bC.trans (b5 _):Ext w _).trans ad))
   all_goals go_wp2_with fail
   all_goals go_meet
   all_goals exact⟨Mi,p7,cD,c5,dz,bS⟩
  case rest =>
   clear ay au aR bC;obtain⟨h6,h7,ay,au,aR,bC⟩:=hcut;have tX:(bg x.natAbs).length<=4:=ka.2 (by rw[<-gL.out];exact qM ha hb hc hd);have tY:(bg y.natAbs).length<=4:=ka.2 (by rw[<-hY.out];exact qM he hf af hh);have tG:=hide tX;have wH:=hide tY;clear tX tY;have dY:=av ay;have fa:=av au;by_cases hL:s=t
   ·subst hL;have ll:Hid ((if s then -((x.natAbs+y.natAbs:Nat):Int) else ((x.natAbs+y.natAbs:Nat):Int))=x+y):=by
     have h1:=Je.out;have h2:=Jf.out;cases s<;>simp only[Bool.false_eq_true,if_false,if_true] at h1 h2<;>simp[Hid]<;>omega
    go_wp2_with fail
    go_region_with (first
     | (go_at_call 62;refine(Vx w.heap.size _ _ _ _ _ _ _ h6.drew h7.drew (by first|exact bS.size|exact bC.size) (Nat.le_trans tG.out (by omega)) (Nat.le_trans wH.out (by omega))).mono ?_;rintro e' w' ⟨qh,rfl,zo,ad⟩;have cD:=ay.drew.ext ad;have dz:=aR.drew.ext ad;have dY:=av cD;have bS:=(bC.trans (b5 _)).trans ad)
     | (go_at_call 61;refine(BP _ _ _ _ _ zo).mono ?_;rintro e' w' ⟨s',a',b',c',d',o',rfl,aL,hC,ad⟩;rw[jD,ll.out] at aL hC;have jZ:=hide aL;clear aL;have eu:=dz.ext ad;obtain⟨i0,i1,i2,i3,i4,dm,cW,cL,dn,dG⟩:=av eu;have da:=bS.trans ad))
    all_goals go_wp2_with fail
    all_goals exact B7 (v:=.tuple #[.agg #[.bool s',a',b',c',d'],.bool o']) (by simp[results,Tryz.results24,go_sem,i0,i1,i2,i3,i4]) rfl ⟨s',a',b',c',d',o',rfl,jZ.out,hC,dr da (by omega) _ _ _ _ _⟩
   ·have aeK:t=!s:=by cases s<;>cases t<;>simp at hL |-
    subst aeK;clear hL;by_cases cl:x.natAbs<y.natAbs
    ·have cG:Hid (fM x.natAbs y.natAbs=-1):=if_pos cl;have ll:Hid ((if !s then -((y.natAbs-x.natAbs:Nat):Int) else ((y.natAbs-x.natAbs:Nat):Int))=x+y):=by
      have h1:=Je.out;have h2:=Jf.out;unfold Hid;cases s<;>simp only[Bool.false_eq_true,if_false,if_true,Bool.not_false,Bool.not_true] at h1 h2 |-<;>omega
     go_wp2_with (go_at_call 63;refine(CS _ _ _ _ _ _ _ h6 h7).mono ?_;rintro e' w' ⟨rfl,ad⟩;rw[cG.out];have cD:=ay.ext ad;have c5:=au.ext ad;have dz:=aR.ext ad;have Lb:=h6.ext ad;have Lf:=h7.ext ad;have dY:=av cD;have fa:=av c5;have bS:=bC.trans ad)
     go_region_with (first
      | (go_at_call 64;refine(HM w.heap.size _ _ _ _ _ _ _ Lf.drew Lb.drew bS.size (Nat.le_trans wH.out (by omega)) (Nat.le_trans tG.out (by omega)) (by omega)).mono ?_;rintro e' w' ⟨qh,rfl,zo,ad⟩;have yB:=cD.drew.ext ad;have tH:=c5.drew.ext ad;have Cq:=dz.drew.ext ad;have dY:=av yB;have fa:=av tH;have yh:=(bS.trans (b5 _)).trans ad)
      | (go_at_call 61;refine(BP _ _ _ _ _ zo).mono ?_;rintro e' w' ⟨s',a',b',c',d',o',rfl,aL,hC,ad⟩;rw[jD,ll.out] at aL hC;have jZ:=hide aL;clear aL;have eu:=Cq.ext ad;obtain⟨i0,i1,i2,i3,i4,dm,cW,cL,dn,dG⟩:=av eu;have da:=yh.trans ad))
     all_goals go_wp2_with fail
     all_goals exact B7 (v:=.tuple #[.agg #[.bool s',a',b',c',d'],.bool o']) (by simp[results,Tryz.results24,go_sem,i0,i1,i2,i3,i4]) rfl ⟨s',a',b',c',d',o',rfl,jZ.out,hC,dr da (by omega) _ _ _ _ _⟩
    ·have h01:(0:Int)<=fM x.natAbs y.natAbs:=by unfold fM;rw[if_neg cl];split<;>omega
     obtain⟨q,aO⟩:=aM (fM x.natAbs y.natAbs);rw[aO] at h01;have cG:=hide aO;clear aO;have ll:Hid ((if s then -((x.natAbs-y.natAbs:Nat):Int) else ((x.natAbs-y.natAbs:Nat):Int))=x+y):=by
      have h1:=Je.out;have h2:=Jf.out;unfold Hid;cases s<;>simp only[Bool.false_eq_true,if_false,if_true,Bool.not_false,Bool.not_true] at h1 h2 |-<;>omega
     go_wp2_with (go_at_call 63;refine(CS _ _ _ _ _ _ _ h6 h7).mono ?_;rintro e' w' ⟨rfl,ad⟩;rw[cG.out];have cD:=ay.ext ad;have c5:=au.ext ad;have dz:=aR.ext ad;have Lb:=h6.ext ad;have Lf:=h7.ext ad;have dY:=av cD;have fa:=av c5;have bS:=bC.trans ad)
     go_region_with (first
      | (go_at_call 64;refine(HM w.heap.size _ _ _ _ _ _ _ Lb.drew Lf.drew bS.size (Nat.le_trans tG.out (by omega)) (Nat.le_trans wH.out (by omega)) (by omega)).mono ?_;rintro e' w' ⟨qh,rfl,zo,ad⟩;have yB:=cD.drew.ext ad;have tH:=c5.drew.ext ad;have Cq:=dz.drew.ext ad;have dY:=av yB;have fa:=av tH;have yh:=(bS.trans (b5 _)).trans ad)
      | (go_at_call 61;refine(BP _ _ _ _ _ zo).mono ?_;rintro e' w' ⟨s',a',b',c',d',o',rfl,aL,hC,ad⟩;rw[jD,ll.out] at aL hC;have jZ:=hide aL;clear aL;have eu:=Cq.ext ad;obtain⟨i0,i1,i2,i3,i4,dm,cW,cL,dn,dG⟩:=av eu;have da:=yh.trans ad))
     all_goals go_wp2_with fail
     all_goals exact B7 (v:=.tuple #[.agg #[.bool s',a',b',c',d'],.bool o']) (by simp[results,Tryz.results24,go_sem,i0,i1,i2,i3,i4]) rfl ⟨s',a',b',c',d',o',rfl,jZ.out,hC,dr da (by omega) _ _ _ _ _⟩
end
end Go.Proofs.YtojbopibfflnoaaGreat
