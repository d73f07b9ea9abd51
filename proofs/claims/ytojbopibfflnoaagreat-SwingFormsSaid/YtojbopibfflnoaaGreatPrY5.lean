/- Contracts and plain facts; each states its conditions. -/
import Derived.Test.YtojbopibfflnoaaGreatPrY1
import Derived.Deep.RegionWith
import Derived.Deep.DeepCutAuto
namespace Go.Proofs.YtojbopibfflnoaaGreat
open Go renaming World → w1, Calls → AA, bodyPost_ret → B7
open _root_.Go.Proofs.Tryz renaming prog → CW
set_option linter.unusedVariables false
set_option linter.unusedSimpArgs false
set_option maxHeartbeats 16000000
section
open Go Go.RowKit
theorem Og(s:Bool)(a b c d:Nat)(z:Int)(w:w1)(h:dg s a b c d z) :
 AA CW 68 #[.agg #[.bool s,a,b,c,d]] w (lR (-z) w):=by
 obtain⟨W,aK⟩:=eo ((w.alloc (.cells #[.bool s,a,b,c,d] 27)).alloc (.cells #[false,(),(),(),()] 27));have cO:=e1 w (.cells #[.bool s,a,b,c,d] 27) (.cells #[false,(),(),(),()] 27);rw[<-aK] at cO;have ay:Box W w.heap.size s a b c d:=cO.1;have au:Box W (w.heap.size+1) false 0 0 0 0:=cO.2;have bC:Ext w W:=by rw[aK];exact(aA _ _).trans (aA _ _)
 have z0:=ay.lt;have fb:=au.lt;have PU:=fb;have aB:=hide aK;clear aK cO;obtain⟨ha,hb,hc,hd,hz⟩:=h;obtain⟨n,hn⟩:=aM (b0 a b c d);have gL:=hide hn;have cl:=qM ha hb hc hd;rw[hn] at hz cl;have ll:Hid ((if !s then -(n:Int) else (n:Int))=-z/\(-z).natAbs<115792089237316195423570985008687907853269984665640564039457584007913129639936):=by
  unfold Hid;cases s<;>simp only[Bool.false_eq_true,if_false,if_true,Bool.not_false,Bool.not_true] at hz |-<;>omega
 clear hz hn cl;go_enter Tryz.func68,Tryz.ntmps68
 go_upto_region 1 with fail
 rw[<-aB.out];clear aB;have dY:=av ay;obtain⟨d0,d1,d2,d3,d4,g0,g1,g2,g3,g4⟩:=av au;go_cut [3] (fun s3 bP=>∃ (k:Nat) (s':Bool) (a' b' c' d':Nat),s3=.pointer (some ⟨k,0,none⟩)/\w.heap.size+1<k/\Box bP k s' a' b' c' d'/\Box bP (w.heap.size+1) false 0 0 0 0/\cw s' a' b' c' d' (-z)/\Ext w bP)
 case first =>
  go_region_with (first
   | (go_at_call 60;refine(oR w.heap.size s a b c d _ (by first|exact bC.size|exact(bC.CZ.al _).size) ha hb hc hd).mono ?_;rintro e' w' ⟨v,rfl,aF,ad⟩;rw[gL.out] at aF;have cD:=(by first|exact ay.drew|exact ay.drew.ext (aA _ _):Box _ w.heap.size s a b c d).ext ad;have c5:=(by first|exact au.drew|exact au.drew.ext (aA _ _):Box _ (w.heap.size+1) false 0 0 0 0).ext ad;(try have eu:Box _ W.heap.size false 0 0 0 0:=(show Box _ W.drew.heap.size false 0 0 0 0 from(Box.nA W.drew).ext ad));have bS:=(by first|exact bC.CZ|exact bC.CZ.al _:Ext w _).trans ad;have dY:=av cD;have z0:=cD.lt;have fb:=c5.lt)
   | (go_at_call 61;refine(BP _ _ _ _ _ (by first|exact aF|exact aF.ext (aA _ _))).mono ?_;rintro e' w' ⟨s',a',b',c',d',o',rfl,aL,hC,ad⟩;rw[jD,ll.out.1,if_pos ll.out.2] at hC;clear aL;have tH:=(by first|exact c5|exact c5.ext (aA _ _):Box _ (w.heap.size+1) false 0 0 0 0).ext ad;(first|(have Cr:=eu.ext ad;have anP:=av Cr)|(have Cr:=(Box.nA _).ext ad;have anP:=av Cr)|skip);have da:=(by first|exact bS|exact bS.al _:Ext w _).trans ad))
  all_goals go_wp2_with fail
  all_goals go_meet
  all_goals (with_reducible first
   | exact⟨_,s',a',b',c',d',rfl,tH.lt,Box.new _ _ _ _ _ _,tH.ext (aA _ _),hC,da.al _⟩
   | exact⟨_,s',a',b',c',d',rfl,fb,Cr.put,tH.cI (Nat.ne_of_lt fb) _ _ _ _ _,hC,dr da (Nat.le_trans (Nat.le_succ _) (Nat.le_of_lt fb)) _ _ _ _ _⟩
   | exact⟨_,s',a',b',c',d',rfl,PU,Cr.put,tH.cI (Nat.ne_of_lt PU) _ _ _ _ _,hC,dr da (Nat.le_trans (Nat.le_succ _) (Nat.le_of_lt PU)) _ _ _ _ _⟩)
 case rest =>
  obtain⟨k,s',a',b',c',d',rfl,aE,dZ,pN,hC,dw⟩:=hcut;clear dY d0 d1 d2 d3 d4 g0 g1 g2 g3 g4;have dY:=av dZ;obtain⟨d0,d1,d2,d3,d4,g0,g1,g2,g3,g4⟩:=av pN;go_wp2
  exact B7 (v:=.agg #[.bool s',a',b',c',d']) (by simp[results,Tryz.results68,go_sem,d0,d1,d2,d3,d4]) rfl ⟨s',a',b',c',d',rfl,hC,dr dw (by omega) _ _ _ _ _⟩
end
end Go.Proofs.YtojbopibfflnoaaGreat
