/- Contracts and plain facts; each states its conditions. -/
import Derived.Test.YtojbopibfflnoaaGreatPrY1
namespace Go.Proofs.YtojbopibfflnoaaGreat
open Go renaming World → w1, Calls → AA
open _root_.Go.Proofs.Tryz renaming prog → CW
set_option linter.unusedVariables false
set_option linter.unusedSimpArgs false
set_option maxHeartbeats 16000000
section
open Go Go.RowKit
def f_(x y:Int):Int:=if x<y then -1 else if y<x then 1 else 0
theorem RI{x y:Int}:(x.sign<y.sign->f_ x y=-1)/\(y.sign<x.sign->f_ x y=1)/\(x.sign=y.sign->f_ x y=x.sign*fM x.natAbs y.natAbs):=by
 have hx:x<0/\x.sign=-1\/x=0/\x.sign=0\/0<x/\x.sign=1:=by
  rcases Int.lt_trichotomy x 0 with h|h|h
  ·exact Or.inl ⟨h,Int.sign_eq_neg_one_of_neg h⟩
  ·subst h;exact Or.inr (Or.inl ⟨rfl,rfl⟩)
  ·exact Or.inr (Or.inr ⟨h,Int.sign_eq_one_of_pos h⟩)
 have hy:y<0/\y.sign=-1\/y=0/\y.sign=0\/0<y/\y.sign=1:=by
  rcases Int.lt_trichotomy y 0 with h|h|h
  ·exact Or.inl ⟨h,Int.sign_eq_neg_one_of_neg h⟩
  ·subst h;exact Or.inr (Or.inl ⟨rfl,rfl⟩)
  ·exact Or.inr (Or.inr ⟨h,Int.sign_eq_one_of_pos h⟩)
 unfold f_ fM;rcases hx with ⟨h1,h2⟩|⟨h1,h2⟩|⟨h1,h2⟩<;>rcases hy with ⟨bQ,bY⟩|⟨bQ,bY⟩|⟨bQ,bY⟩<;>rw[h2,bY]<;>refine⟨fun h=>?_,fun h=>?_,fun h=>?_⟩<;>(try omega)<;>(repeat' split)<;>omega
theorem Vy(s t:Bool)(a b c d e f g h:Nat)(x y:Int)(w:w1)(hx:dg s a b c d x)(hy:dg t e f g h y) :
 AA CW 28 #[.agg #[.bool s,a,b,c,d],.agg #[.bool t,e,f,g,h]] w (nc .i64 (f_ x y) w):=by
 obtain⟨W,aK⟩:=eo (((w.alloc (.cells #[.bool s,a,b,c,d] 27)).alloc (.cells #[.bool t,e,f,g,h] 27)));have cO:=e1 w (.cells #[.bool s,a,b,c,d] 27) (.cells #[.bool t,e,f,g,h] 27);rw[<-aK] at cO;have ay:Box W w.heap.size s a b c d:=cO.1;have au:Box W (w.heap.size+1) t e f g h:=cO.2;have bC:Ext w W:=by rw[aK];exact(aA _ _).trans (aA _ _)
 have aB:=hide aK;clear aK cO;obtain⟨ha,hb,hc,hd,Bt⟩:=id hx;obtain⟨he,hf,af,hh,Bu⟩:=id hy;have gL:Hid (b0 a b c d=x.natAbs):=by unfold Hid;cases s<;>simp at Bt<;>omega
 have hY:Hid (b0 e f g h=y.natAbs):=by unfold Hid;cases t<;>simp at Bu<;>omega
 clear Bt Bu;have tD:=hide (@RI x y);obtain⟨p,hp⟩:=aM x.sign;obtain⟨q,aO⟩:=aM y.sign;have dL:=hide hp;have dQ:=hide aO;clear hp aO;go_enter Tryz.func28,Tryz.ntmps28
 go_upto_region 1 with fail
 rw[<-aB.out];clear aB;have dY:=av ay;have fa:=av au;go_cut [5,6] (fun iC fq bP=>iC=.int .i64 p/\fq=.int .i64 q/\Box bP w.heap.size s a b c d/\Box bP (w.heap.size+1) t e f g h/\Ext w bP)
 case first =>
  go_region_with (first
   | (go_at_call_of 52 (Value.bool s);refine(xP s a b c d x _ hx).mono ?_;rintro e' w' ⟨rfl,ad⟩;rw[dL.out];have cD:=ay.drew.ext ad;have c5:=au.drew.ext ad;have bS:=(bC.trans (b5 _)).trans ad;have fa:=av c5)
   | (go_at_call_of 52 (Value.bool t);refine(xP t e f g h y _ hy).mono ?_;rintro e' w' ⟨rfl,ad⟩;rw[dQ.out];have yB:=cD.ext ad;have tH:=c5.ext ad;have yh:=bS.trans ad))
  all_goals go_wp2_with fail
  all_goals go_meet
  all_goals exact⟨rfl,rfl,yB,tH,yh⟩
 case rest =>
  clear ay au bC dY fa;obtain⟨rfl,rfl,ay,au,bC⟩:=hcut;rcases(by omega:p<q\/q<p\/p=q) with vJ|vJ|vJ
  ·have bq:Hid (f_ x y=-1):=tD.out.1 (by rw[dL.out,dQ.out];exact vJ);go_wp2
   go_ret;exact⟨kD bq.out.symm,bC⟩
  ·have bq:Hid (f_ x y=1):=tD.out.2.1 (by rw[dL.out,dQ.out];exact vJ);go_wp2
   go_ret;exact⟨kD bq.out.symm,bC⟩
  ·subst vJ;have bq:Hid (f_ x y=p*fM x.natAbs y.natAbs):=by rw[<-dL.out];exact tD.out.2.2 (by rw[dL.out,dQ.out])
   obtain⟨r,aD⟩:=aM (fM x.natAbs y.natAbs);have oe:-1<=r/\r<=1:=by rw[<-aD];unfold fM;split<;>(try split)<;>omega
   have pu:p=-1\/p=0\/p=1:=by
    rw[<-dL.out];rcases Int.lt_trichotomy x 0 with h|h|h
    ·exact Or.inl (Int.sign_eq_neg_one_of_neg h)
    ·subst h;exact Or.inr (Or.inl rfl)
    ·exact Or.inr (Or.inr (Int.sign_eq_one_of_pos h))
   have cG:=hide aD;have iH:Hid (wrap64 (p*r)=f_ x y):=by rw[bq.out,aD];rcases pu with rfl|rfl|rfl<;>simp[Hid,wrap64]<;>omega
   clear aD oe pu;have dY:=av ay;have fa:=av au;go_wp2
   go_region_with (first
    | (go_at_call_of 60 (Value.bool s);refine(oR w.heap.size s a b c d _ (bC.trans (b5 _)).size ha hb hc hd).mono ?_;rintro e' w' ⟨v6,rfl,p6,ad⟩;rw[gL.out] at p6;have c5:=au.drew.ext ad;have fa:=av c5;have bS:=(bC.trans (b5 _)).trans ad)
    | (go_at_call_of 60 (Value.bool t);refine(oR w.heap.size t e f g h _ bS.size he hf af hh).mono ?_;rintro e' w' ⟨qg,rfl,p7,ad⟩;rw[hY.out] at p7;have Mi:=p6.ext ad;have da:=bS.trans ad)
    | (go_at_call 63;refine(CS _ _ _ _ _ _ _ Mi p7).mono ?_;rintro e' w' ⟨rfl,ad⟩;rw[cG.out];have dw:=da.trans ad))
   all_goals go_wp2_with fail
   all_goals go_ret
   all_goals exact⟨kD (by first|exact iH.out|(rw[<-iH.out,<-IntKind.wrap_i64];rfl)|(rw[<-iH.out];simp only[wrap64,IntKind.wrap_i64])),dw⟩
end
end Go.Proofs.YtojbopibfflnoaaGreat
