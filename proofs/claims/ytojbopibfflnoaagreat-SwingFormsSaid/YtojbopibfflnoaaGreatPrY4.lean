/- Contracts and plain facts; each states its conditions. -/
import Derived.Test.YtojbopibfflnoaaGreatPrY2
import Derived.Test.YtojbopibfflnoaaGreatPrY3
import Derived.WalkKit
import Derived.ProofKit
import Derived.OpenShut
import Derived.ShutString
import Derived.ChangeOld
import Derived.Lib.SmallJoins
import Derived.Lib.QuietBelow
namespace Go.Proofs.YtojbopibfflnoaaGreat
open Go renaming undef → rM, World → w1, Value → Ax, Calls → AA, bodyPost_ret → B7, heap_setCell_other → axd, TypeId → aw7, Operand → axb, Oper → aw4, Ending → axa, Addr → aw6, Program → axh, execOp → axc
open _root_.Go.Proofs.Tryz renaming prog → CW
set_option linter.unusedVariables false
set_option linter.unusedSimpArgs false
set_option maxHeartbeats 16000000
set_option maxRecDepth 100000
section
open Go Go.RowKit
section
open Go Go.ChangeShapes Go.WideShapes Go.ChangeAt Go.RowKit
theorem laidOut:laidOutB CW=true:=by kernel_rfl
theorem af2{H:Type}{enc:aw7 × Ax->H}{W:w1}{a:Option aw6}{len cap:Nat}{d:DataW H}{ps:List MemPlace}(h:DataW.Trod enc CW W 0 (fun _=>true) true 34 (.slice a len cap) d ps)(_:∀ x∈ps,x.block<W.heap.size):yq W a len cap:=by
 obtain⟨fuel,hf⟩:=h;rcases open_ints Tryz.underlying34 Tryz.underlying3 (by kernel_rfl) hf with ⟨hcs,_⟩|⟨x,l,c,zs,hcs,_,hl,hm,hz,_,hcell,aeV⟩
 ·simp[Value.cells] at hcs;obtain⟨rfl,rfl,rfl⟩:=hcs;exact⟨by omega,Or.inl rfl⟩
 ·simp[Value.cells] at hcs;obtain⟨rfl,rfl,rfl⟩:=hcs;have hz:zs.length=cap:=by simpa using hz
  unfold maxLen at hm;refine⟨by omega,?_⟩;by_cases h0:len=0
  ·exact Or.inl h0
  ·obtain⟨b,off,rfl,za⟩:=ints_at hcell (by omega);refine Or.inr ⟨b,off,rfl,block_lt_of_cell (a:=⟨b,off+0,none⟩) (za 0 (by omega)),hl,fun i hi=>⟨zs.getD i 0,?_,za i (by omega)⟩⟩;have af:zs.getD i 0=zs[i]:=by simp[List.getD,show i<zs.length by omega]
   rw[af];exact bounds_i64 (aeV _ (List.getElem_mem _))
end
section
open Go Go.ChangeShapes Go.WideShapes Go.ChangeAt Go.RowKit
theorem auN:Tryz.prog.cellsOf 27=5:=by kernel_rfl
theorem auH:Tryz.prog.cellsOf 25=4:=by kernel_rfl
theorem atZ:Tryz.prog.cellsOf 4=1:=by kernel_rfl
theorem auO:Tryz.prog.cellsOf 24=1:=by kernel_rfl
theorem avu(s:Bool)(a b c d:Nat)(ha:a<18446744073709551616)(hb:b<18446744073709551616)(hc:c<18446744073709551616)(hd:d<18446744073709551616):∃ z,dg s a b c d z:=⟨_,ha,hb,hc,hd,rfl⟩
theorem ae_{H:Type}{enc:aw7 × Ax->H}{W:w1}{m:Nat}{v:Ax}{x:DataW H × List MemPlace}(h:DataW.trod enc CW W 0 (fun _=>true) true m 24 [v]=some x):∃ a:Nat,v=.int .u64 (a:Int)/\a<18446744073709551616:=by
 obtain⟨n,hn,_,hw⟩:=DataW.trod_int Tryz.underlying24 h;simp at hn;subst hn;obtain⟨h1,h2⟩:=bounds_u64 hw;exact⟨n.toNat,by rw[Int.toNat_of_nonneg h1],by omega⟩
end
end
section
open Go Go.ChangeShapes Go.WideShapes Go.ChangeAt Go.RowKit
theorem auL:Tryz.prog.cellsOf 29=10:=by kernel_rfl
theorem aun{H:Type}{enc:aw7 × Ax->H}{W:w1}{n:Nat}{bt az aU a_ bK:Ax}{x:DataW H × List MemPlace}(hf:DataW.trod enc CW W 0 (fun _=>true) true n 27 [bt,az,aU,a_,bK]=some x) :
 ∃ (s:Bool) (a b c e:Nat) (z:Int),bt=.bool s/\az=.int .u64 (a:Int)/\aU=.int .u64 (b:Int)/\a_=.int .u64 (c:Int)/\bK=.int .u64 (e:Int)/\dg s a b c e z:=by
 obtain⟨nY,y1,n,hx,hl,h0,h1⟩:=trod_struct2 Tryz.underlying27 hf;simp only[atZ,auH] at h0 h1;have h0:DataW.trod enc CW W 0 (fun _=>true) true n 4 [bt]=some nY:=h0;have h1:DataW.trod enc CW W 0 (fun _=>true) true n 25 [az,aU,a_,bK]=some y1:=h1;obtain⟨s,hs,_⟩:=DataW.trod_bool Tryz.underlying4 h0;obtain⟨xs,m,_,_,_,hlen,he⟩:=DataW.trod_array Tryz.underlying25 h1;obtain⟨x0,x1,x2,x3,rfl⟩:∃ x0 x1 x2 x3,xs=[x0,x1,x2,x3]:=by
  match xs,hlen with
  | [x0,x1,x2,x3],_=>exact⟨x0,x1,x2,x3,rfl⟩
 have iJ:=he 0 (by omega);have bk:=he 1 (by omega);have e2:=he 2 (by omega);have fL:=he 3 (by omega);rw[auO] at iJ bk e2 fL;obtain⟨a,rfl,ha⟩:=ae_ (show DataW.trod enc CW W 0 (fun _=>true) true m 24 [az]=some x0 from iJ);obtain⟨b,rfl,hb⟩:=ae_ (show DataW.trod enc CW W 0 (fun _=>true) true m 24 [aU]=some x1 from bk);obtain⟨c,rfl,hc⟩:=ae_ (show DataW.trod enc CW W 0 (fun _=>true) true m 24 [a_]=some x2 from e2);obtain⟨e,rfl,hd⟩:=ae_ (show DataW.trod enc CW W 0 (fun _=>true) true m 24 [bK]=some x3 from fL);obtain rfl:bt=.bool s:=by simpa using hs
 obtain⟨z,hz⟩:=avu s a b c e ha hb hc hd;exact⟨s,a,b,c,e,z,rfl,rfl,rfl,rfl,rfl,hz⟩
end
section
open Go Go.RowKit
theorem fP.store{B b g k:Nat}{w:w1}(h:fP B w b)(af:b<g)(u:Ax):fP B (w.setCell ⟨g,k,none⟩ u) b:=h.below ((Below.refl _ _).setCell (p:=⟨g,k,none⟩) af u)
theorem fP.alloc{B b:Nat}{w:w1}(h:fP B w b)(o:Obj):fP B (w.alloc o) b:=h.below ((Below.refl _ _).alloc h.2.1 o)
theorem fP.ext{B b:Nat}{w w':w1}(h:fP B w b)(k:Ext w w'):fP B w' b:=h.below (Below.mono k h.2.1)
theorem b3.store{b g k:Nat}{W w:w1}(h:b3 b W w)(af:W.heap.size<=g)(u:Ax):b3 b W (w.setCell ⟨g,k,none⟩ u):=
 ⟨h.1,h.2.1,h.2.2.1,by simpa [World.setCell] using h.2.2.2.1,fun i hi hn=>(axd w ⟨g,k,none⟩ i u (by simp;omega)).trans (h.2.2.2.2 i hi hn)⟩
theorem b3.more{b:Nat}{W w w':w1}(h:b3 b W w)(k:Ext w w'):b3 b W w':=h.trans (k.c7 b)
theorem yq.ext{w w':w1}{a:Option aw6}{len cap:Nat}(h:yq w a len cap)(k:Ext w w'):yq w' a len cap:=by
 obtain⟨h1,h2⟩:=h;refine⟨h1,?_⟩;rcases h2 with h2|⟨jh,la,e,hb,hl,hc⟩
 ·exact Or.inl h2
 ·refine Or.inr ⟨jh,la,e,Nat.lt_of_lt_of_le hb k.size,hl,fun i hi=>?_⟩;obtain⟨v,aF,jL⟩:=hc i hi;exact⟨v,aF,(k.cell (p:=⟨jh,la+i,none⟩) hb).trans jL⟩
theorem oS:18446744073709551616 ^ 4=115792089237316195423570985008687907853269984665640564039457584007913129639936:=by decide
def Rh(n:Nat)(o:Bool)(w:w1)(e:axa)(w':w1):Prop:=∃ a b c d:Nat,e=.returned (.tuple #[.agg #[a,b,c,d],.bool o])/\cp [a,b,c,d]/\b0 a b c d=n/\Ext w w'
def Rf(n:Nat)(w:w1)(e:axa)(w':w1):Prop:=∃ a b c d:Nat,e=.returned (.agg #[a,b,c,d])/\cp [a,b,c,d]/\b0 a b c d=n/\Ext w w'
theorem Wd(w:w1)(a b c d e f g h:Nat)(T:aw7):∃ W,(((w.alloc (.cells #[a,b,c,d] 130)).alloc (.cells #[e,f,g,h] 130)).alloc (.cells #[(),(),(),()] T))=W /\
 cn W w.heap.size 130 [a,b,c,d]/\cn W (w.heap.size+1) 130 [e,f,g,h]/\cn W (w.heap.size+1+1) T [0,0,0,0]/\Ext w W:=by
 have h:=kF w (.cells #[a,b,c,d] 130) (.cells #[e,f,g,h] 130) (.cells #[(),(),(),()] T);exact⟨_,rfl,h.1,h.2.1,h.2.2,((aA _ _).trans (aA _ _)).trans (aA _ _)⟩
theorem o9{W w:w1}(h:Ext W w){b:Nat}(hb:W.heap.size<=b)(u0 u1 u2 u3:Ax):Ext W ((((w.setCell ⟨b,0,none⟩ u0).setCell ⟨b,1,none⟩ u1).setCell ⟨b,2,none⟩ u2).setCell ⟨b,3,none⟩ u3):=
 ey (ey (ey (ey h hb _ _) hb _ _) hb _ _) hb _ _
theorem NT(a b c d e f g h n m:Nat)(hn:b0 a b c d=n)(hm:b0 e f g h=m)(w:w1)(hw:cp [a,b,c,d])(bj:cp [e,f,g,h]) :
 AA CW 128 #[.agg #[a,b,c,d],.agg #[e,f,g,h]] w
  (Rh ((n+m)%115792089237316195423570985008687907853269984665640564039457584007913129639936) (decide (n+m<115792089237316195423570985008687907853269984665640564039457584007913129639936)) w):=by
 obtain⟨W,aK,lM,cU,jF,bC⟩:=Wd w a b c d e f g h 130;obtain⟨o,aL⟩:=aM (decide (n+m<115792089237316195423570985008687907853269984665640564039457584007913129639936));have aB:=hide aK;have dO:=hide hn;have hW:=hide hm;have bM:=hide aL;rw[aL];clear aK hn hm aL;go_enter Tryz.func128,Tryz.ntmps128
 go_upto_region 1 with fail
 rw[aB.out];clear aB;go_region_with (go_at_call 137;refine(UQ w.heap.size 0 4 4 (w.heap.size+1) 0 4 4 130 [] [a,b,c,d] [] [e,f,g,h] _ lM.drew rfl rfl rfl ((show cn W _ _ ([]++[e,f,g,h]++[]) from cU).reads rfl |>.ext (b5 _)) (by omega) (by omega) (by omega) hw bj).mono ?_;rintro e' w' ⟨c',os,rfl,za,hl,Ei,aF,y6,ef⟩;obtain⟨a1,bA,az,d1,rfl⟩:=A8 hl;have ay:cn w' w.heap.size 130 [a1,bA,az,d1]:=y6;have aR:=jF.drew.c7 ef (by omega);have bS:=ef.ext (bC.trans (b5 _)) (Nat.le_refl _);have bV:=hide aF;clear aF y6 ef;obtain⟨bt,nO,aU,a_,f0,f1,f2,f3⟩:=ay.four;obtain⟨d0,lp,d2,d3,g0,g1,g2,g3⟩:=aR.four)
 all_goals go_wp2_with fail
 all_goals refine B7 (v:=.tuple #[.agg #[a1,bA,az,d1],.bool ((c':Int)==0)]) (by simp[results,Tryz.results128,go_sem,d0,lp,d2,d3]) rfl ⟨a1,bA,az,d1,?_,Ei,?_,o9 bS (by omega) _ _ _ _⟩
 ·have h1:val [a1,bA,az,d1]+115792089237316195423570985008687907853269984665640564039457584007913129639936*c'=n+m:=by have aF:=bV.out;rw[oS] at aF;rw[<-dO.out,<-hW.out];exact aF
  have h2:val [a1,bA,az,d1]<115792089237316195423570985008687907853269984665640564039457584007913129639936:=by have h2:=wk _ Ei;rw[hl,oS] at h2;exact h2
  have e:((c':Int)==0)=o:=by
   rw[<-bM.out];rcases(by omega:c'=0\/c'=1) with h0|h0
   ·rw[decide_eq_true (by omega),h0];rfl
   ·rw[decide_eq_false (by omega),h0];rfl
  rw[e]
 ·have h1:val [a1,bA,az,d1]+115792089237316195423570985008687907853269984665640564039457584007913129639936*c'=n+m:=by have aF:=bV.out;rw[oS] at aF;rw[<-dO.out,<-hW.out];exact aF
  have h2:val [a1,bA,az,d1]<115792089237316195423570985008687907853269984665640564039457584007913129639936:=by have h2:=wk _ Ei;rw[hl,oS] at h2;exact h2
  have h3:b0 a1 bA az d1=val [a1,bA,az,d1]:=rfl;rw[h3,<-h1,Nat.add_mul_mod_self_left,Nat.mod_eq_of_lt h2]
theorem N1(a b c d e f g h n m:Nat)(hn:b0 a b c d=n)(hm:b0 e f g h=m)(w:w1)(hw:cp [a,b,c,d])(bj:cp [e,f,g,h])(hle:m<=n) :
 AA CW 129 #[.agg #[a,b,c,d],.agg #[e,f,g,h]] w (Rf (n-m) w):=by
 obtain⟨W,aK,lM,cU,jF,bC⟩:=Wd w a b c d e f g h 130;obtain⟨L,br⟩:=eo ([a,b,c,d]);obtain⟨M,hI⟩:=eo ([e,f,g,h]);have cz:Hid (L.length=4):=by rw[br];exact rfl
 have hW:Hid (M.length=4):=by rw[hI];exact rfl
 have q4:Hid (val L=n):=by rw[br];exact hn
 have AU:Hid (val M=m):=by rw[hI];exact hm
 rw[<-br] at lM hw;rw[<-hI] at cU bj;have aB:=hide aK;clear aK hn hm br hI;go_enter Tryz.func129,Tryz.ntmps129
 go_wp2_with fail
 rw[aB.out];clear aB;go_loopw [7,5] (fun i t wr=>∃ (k c:Nat) (os:List Nat),i=.int .i64 k/\t=.int .u64 c/\k<=4/\c<=1/\Hid (tI L M os k c)/\cp os/\cn wr w.heap.size 130 os/\b3 w.heap.size W wr) (fun i _ _=>4-(intOf i).toNat)
 case atStart=>exact⟨0,0,L,rfl,rfl,by omega,by omega,⟨rfl,rfl,by omega,by simp[val]⟩,hw,lM,b3.refl _ _⟩
 case round =>
  obtain⟨k,c,os,rfl,rfl,aE,hc,bq,gU,hA,ef⟩:=hrel;have bM:Hid (os.length=4):=bq.out.1.trans cz.out;have au:=cU.c7 ef (by omega);by_cases vC:k<4
  ·have kz:k<os.length:=by rw[bM.out];omega
   have fZ:=hA.at k kz;have lq:=hA.free k;have cb:=au.at k (by rw[hW.out];omega);obtain⟨x,hx⟩:=aM (os[k]);obtain⟨y,hy⟩:=aM (M[k]'(by rw[hW.out];omega));rw[hx] at fZ;rw[hy] at cb;have bN:Hid (x=L[k]'(by rw[cz.out];omega)):=by rw[<-hx];exact(n4 bq.out.2.1 kz (by rw[cz.out];omega)).1
   have gB:Hid (M.getD k 0=y):=by rw[<-hy];simp[Hid,List.getD,show k<M.length by rw[hW.out];omega]
   clear hx hy;have p4:=HS x y c hc;have cG:Hid (tI L M (os.set k ((x+18446744073709551616-y-c)%18446744073709551616)) (k+1) (if x<y+c then 1 else 0)):=by
    have:=bq.out.step (by rw[cz.out];omega) hw bj;rw[<-bN.out,gB.out] at this
    exact this
   have c0:=hide (hA.set k ((x+18446744073709551616-y-c)%18446744073709551616));have dR:=hide (ef.set k (.int .u64 (((x+18446744073709551616-y-c)%18446744073709551616:Nat):Int)));have bp:=oU gU k ((x+18446744073709551616-y-c)%18446744073709551616) (by omega);go_wp2
   go_region
   go_wp2
   exact⟨⟨k+1,_,_,by go_num,by(first|rfl|go_num|simp),by omega,cG.out.2.2.1,cG,bp,c0.out,dR.out.drew⟩,by first|(simp[intOf];done)|(simp[intOf];omega)⟩
  ·obtain rfl:k=4:=by omega
   have H1:Hid (val os=n-m):=by
    have h1:=bq.out;rw[show 4=L.length from cz.out.symm] at h1;have:=h1.done (by rw[hW.out,cz.out];omega) gU (by rw[q4.out,AU.out];exact hle);rwa [q4.out,AU.out] at this
   have aR:=jF.c7 ef (by omega);have bS:=ef.ext bC (Nat.le_refl _);obtain⟨a1,bA,az,d1,rfl⟩:=A8 bM.out;obtain⟨bt,nO,aU,a_,f0,f1,f2,f3⟩:=hA.four;obtain⟨d0,lp,d2,d3,g0,g1,g2,g3⟩:=aR.four;clear ef hA aR au;go_wp2
   exact B7 (v:=.agg #[a1,bA,az,d1]) (by simp[results,Tryz.results129,go_sem,d0,lp,d2,d3]) rfl ⟨a1,bA,az,d1,rfl,gU,H1.out,o9 bS (by omega) _ _ _ _⟩
open Go Go.RowKit
theorem dg.qi{s:Bool}{a b c d:Nat}{z:Int}(h:dg s a b c d z):cp [a,b,c,d]:=by
 obtain⟨ha,hb,hc,hd,_⟩:=h;intro x hx;simp at hx;omega
theorem dg.abs{s:Bool}{a b c d:Nat}{z:Int}(h:dg s a b c d z):b0 a b c d=z.natAbs:=by
 obtain⟨_,_,_,_,hz⟩:=h;cases s<;>simp at hz<;>omega
theorem ez{a b c d:Nat}(h:cp [a,b,c,d]):a<18446744073709551616/\b<18446744073709551616/\c<18446744073709551616/\d<18446744073709551616:=
 ⟨h a (by simp),h b (by simp),h c (by simp),h d (by simp)⟩
theorem uc(s:Bool)(a b c d:Nat)(z:Int)(w:w1)(h:dg s a b c d z) :
 AA CW 115 #[.agg #[.bool s,a,b,c,d]] w (nc .i64 z.sign w):=by
 obtain⟨o,aL⟩:=aM (decide (b0 a b c d≠0));have aO:=A5 25 Tryz.underlying25 a b c d o aL;have hz:=h.2.2.2.2;cases o
 ·have hS:Hid (z.sign=0):=by
   have:b0 a b c d=0:=by simpa using aL
   rw[this] at hz;cases s<;>simp at hz<;>subst hz<;>rfl
  clear aL hz;go_enter Tryz.func115,Tryz.ntmps115
  go_wp2
  go_ret;exact⟨kD hS.out.symm,aA _ _⟩
 ·have hp:b0 a b c d≠0:=by simpa using aL
  cases s
  ·have hS:Hid (z.sign=1):=Int.sign_eq_one_of_pos (by simp at hz;omega);clear aL hz hp;go_enter Tryz.func115,Tryz.ntmps115
   go_wp2
   go_ret;exact⟨kD hS.out.symm,aA _ _⟩
  ·have hS:Hid (z.sign=-1):=Int.sign_eq_neg_one_of_neg (by simp at hz;omega);clear aL hz hp;go_enter Tryz.func115,Tryz.ntmps115
   go_wp2
   go_ret;exact⟨kD hS.out.symm,aA _ _⟩
theorem Hv(s:Bool)(a b c d:Nat)(z:Int)(w:w1)(h:dg s a b c d z) :
 AA CW 121 #[.agg #[.bool s,a,b,c,d]] w (lR (-z) w):=by
 obtain⟨ha,hb,hc,hd,hz⟩:=h;have eQ:Hid ((if (!s)=true then -(b0 a b c d:Int) else (b0 a b c d:Int))=-z):=by unfold Hid;cases s<;>simp at hz |-<;>omega
 clear hz;have bN:=hide ((aA w (.cells #[.bool s,a,b,c,d] 27)).trans (aA _ (.cells #[false,(),(),(),()] 27)));go_enter Tryz.func121,Tryz.ntmps121
 go_wp2_with (go_at_call 113;refine(qN (!s) a b c d _ ha hb hc hd).mono ?_;rintro e' w' ⟨s',a',b',c',d',rfl,hC,ad⟩;rw[eQ.out] at hC;obtain⟨k7,q1⟩:=HY ad;obtain⟨d0,d1,d2,d3,d4,g0,g1,g2,g3,g4⟩:=av q1;have dc:=hide (bN.out.trans ad);clear k7 q1 ad)
 exact B7 (v:=.agg #[.bool s',a',b',c',d']) (by simp[results,Tryz.results121,go_sem,d0,d1,d2,d3,d4]) rfl ⟨s',a',b',c',d',rfl,hC,dr dc.out (Nat.le_succ _) _ _ _ _ _⟩
theorem NY(n:Nat)(w:w1)(hn:n<18446744073709551616):AA CW 112 #[.int .u64 (n:Int)] w (lR n w):=by
 have bN:=hide (aA w (.cells #[false,(),(),(),()] 27));have hI:Hid (((b0 n 0 0 0:Nat):Int)=n):=by simp[Hid,b0,val]
 have hs:=fun W=>qN false n 0 0 0 W hn (by omega) (by omega) (by omega)
 go_enter Tryz.func112,Tryz.ntmps112
 go_wp2_with (go_at_call 113;refine(hs _).mono ?_;rintro e' w' ⟨s',a',b',c',d',rfl,hC,ad⟩;simp only[Bool.false_eq_true,if_false] at hC;rw[hI.out] at hC;have q1:=zJ ad;obtain⟨d0,d1,d2,d3,d4,g0,g1,g2,g3,g4⟩:=av q1;have dc:=hide (bN.out.trans ad);clear q1 ad)
 exact B7 (v:=.agg #[.bool s',a',b',c',d']) (by simp[results,Tryz.results112,go_sem,d0,d1,d2,d3,d4]) rfl ⟨s',a',b',c',d',rfl,hC,dr dc.out (Nat.le_refl _) _ _ _ _ _⟩
theorem NW(z:Int)(w:w1)(h1:-9223372036854775808<=z)(h2:z<=9223372036854775807):AA CW 95 #[.int .i64 z] w (lR z w):=by
 obtain⟨n,hn⟩:=aM z.natAbs;have hb:n<18446744073709551616:=by omega
 have pq:z<0->IntKind.u64.wrap (-IntKind.u64.wrap z)=(n:Int):=by intro h;simp only[IntKind.wrap_u64];omega
 have pv:0<=z->IntKind.u64.wrap z=(n:Int):=by intro h;simp only[IntKind.wrap_u64];omega
 have bN:=hide (aA w (.cells #[false,(),(),(),()] 27));by_cases h:z<0
 ·have e:=pq h;have hI:Hid (-((b0 n 0 0 0:Nat):Int)=z):=by simp[Hid,b0,val];omega
  have hs:=fun W=>qN true n 0 0 0 W hb (by omega) (by omega) (by omega)
  clear pq pv hn;go_enter Tryz.func95,Tryz.ntmps95
  go_wp2_with (go_at_call 113;refine(hs _).mono ?_;rintro e' w' ⟨s',a',b',c',d',rfl,hC,ad⟩;simp only[if_true] at hC;rw[hI.out] at hC;have q1:=zJ ad;obtain⟨d0,d1,d2,d3,d4,g0,g1,g2,g3,g4⟩:=av q1;have dc:=hide (bN.out.trans ad);clear q1 ad)
  exact B7 (v:=.agg #[.bool s',a',b',c',d']) (by simp[results,Tryz.results95,go_sem,d0,d1,d2,d3,d4]) rfl ⟨s',a',b',c',d',rfl,hC,dr dc.out (Nat.le_refl _) _ _ _ _ _⟩
 ·have e:=pv (by omega);have hI:Hid ((n:Int)=z):=by unfold Hid;omega
  clear pq pv hn;go_enter Tryz.func95,Tryz.ntmps95
  go_wp2_with (go_at_call 112;refine(NY n _ hb).mono ?_;rintro e' w' ⟨s',a',b',c',d',rfl,hC,ad⟩;rw[hI.out] at hC;have q1:=zJ ad;obtain⟨d0,d1,d2,d3,d4,g0,g1,g2,g3,g4⟩:=av q1;have dc:=hide (bN.out.trans ad);clear q1 ad)
  exact B7 (v:=.agg #[.bool s',a',b',c',d']) (by simp[results,Tryz.results95,go_sem,d0,d1,d2,d3,d4]) rfl ⟨s',a',b',c',d',rfl,hC,dr dc.out (Nat.le_refl _) _ _ _ _ _⟩
theorem U0(s:Bool)(a b c d:Nat)(z:Int)(w:w1)(h:dg s a b c d z) :
 AA CW 131 #[.agg #[.bool s,a,b,c,d]] w (yA .u64 (if 0<=z/\z<18446744073709551616 then z else 0) (decide (0<=z/\z<18446744073709551616)) w):=by
 obtain⟨r,aD⟩:=aM (if 0<=z/\z<18446744073709551616 then z else 0);obtain⟨o,aL⟩:=aM (decide (0<=z/\z<18446744073709551616));rw[aD,aL];have GY:=h.abs;have rC:b0 a b c d<18446744073709551616->a=b0 a b c d:=by intro h;simp only[b0,val] at h |-;omega
 have hz:=h.2.2.2.2;have ha:=h.1;have HH:=hide h;have bN:=hide (aA w (.cells #[.bool s,a,b,c,d] 27));obtain⟨n,hn⟩:=aM (b0 a b c d);rw[hn] at GY rC hz;by_cases hb:n<18446744073709551616
 ·have eD:Hid (decide (b0 a b c d<18446744073709551616)=true):=by unfold Hid;rw[decide_eq_true_iff,hn];exact hb
  replace rC:=rC hb;by_cases bf:z<0
  ·have hS:Hid (z.sign=-1):=Int.sign_eq_neg_one_of_neg bf;have bq:Hid (0=r/\false=o):=⟨by rw[<-aD,if_neg (by omega)],by rw[<-aL];symm;rw[decide_eq_false_iff_not];omega⟩;clear hz GY rC bf h hn aD aL;go_enter Tryz.func131,Tryz.ntmps131
   go_wp2_with (first
    | (go_at_call 138;refine(NZ a b c d _ ha).mono ?_;rintro e' w' ⟨rfl,ad⟩;rw[eD.out];have q:=zJ ad;have dY:=av q;have dc:=hide (bN.out.trans ad);clear q ad)
    | (go_at_call 115;refine(uc s a b c d z _ HH.out).mono ?_;rintro e' w' ⟨rfl,ad⟩;rw[hS.out];have dc:=hide (dc.out.trans ad);clear ad))
   go_ret2
   exact⟨BO bq.out.1 bq.out.2,dc.out⟩
  ·have hS:Hid (z.sign=0\/z.sign=1):=by
    unfold Hid;rcases(by omega:z=0\/0<z) with h1|h1
    ·subst h1;exact Or.inl rfl
    ·exact Or.inr (Int.sign_eq_one_of_pos h1)
   have bq:Hid ((a:Int)=r/\true=o):=⟨by rw[<-aD,if_pos (by omega)];omega,by rw[<-aL];symm;rw[decide_eq_true_iff];omega⟩;obtain⟨q,aO⟩:=aM z.sign;have Ma:0<=q:=by rcases hS.out with h1|h1<;>omega
   have dQ:=hide aO;clear hz GY rC bf h hn aD aL aO hS;go_enter Tryz.func131,Tryz.ntmps131
   go_wp2_with (first
    | (go_at_call 138;refine(NZ a b c d _ ha).mono ?_;rintro e' w' ⟨rfl,ad⟩;rw[eD.out];have q:=zJ ad;have dY:=av q;have dc:=hide (bN.out.trans ad);clear q ad)
    | (go_at_call 115;refine(uc s a b c d z _ HH.out).mono ?_;rintro e' w' ⟨rfl,ad⟩;rw[dQ.out];have dc:=hide (dc.out.trans ad);clear ad))
   go_ret2
   exact⟨BO bq.out.1 bq.out.2,dc.out⟩
 ·have eD:Hid (decide (b0 a b c d<18446744073709551616)=false):=by unfold Hid;rw[decide_eq_false_iff_not,hn];exact hb
  have bq:Hid (0=r/\false=o):=⟨by rw[<-aD,if_neg (by omega)],by rw[<-aL];symm;rw[decide_eq_false_iff_not];omega⟩;clear hz GY rC h hn hb aD aL;go_enter Tryz.func131,Tryz.ntmps131
  go_wp2_with (go_at_call 138;refine(NZ a b c d _ ha).mono ?_;rintro e' w' ⟨rfl,ad⟩;rw[eD.out];have dc:=hide (bN.out.trans ad);clear ad)
  go_ret2
  exact⟨BO bq.out.1 bq.out.2,dc.out⟩
open Go Go.RowKit
theorem aiQ(s t:Bool)(a b c d e f g h:Nat)(x y:Int)(w:w1)(hx:dg s a b c d x)(hy:dg t e f g h y) :
 AA CW 108 #[.agg #[.bool s,a,b,c,d],.agg #[.bool t,e,f,g,h]] w (nc .i64 (f_ x y) w):=by
 obtain⟨W,aK⟩:=eo (((w.alloc (.cells #[.bool s,a,b,c,d] 27)).alloc (.cells #[.bool t,e,f,g,h] 27)));have cO:=e1 w (.cells #[.bool s,a,b,c,d] 27) (.cells #[.bool t,e,f,g,h] 27);rw[<-aK] at cO;have ay:Box W w.heap.size s a b c d:=cO.1;have au:Box W (w.heap.size+1) t e f g h:=cO.2;have bC:Ext w W:=by rw[aK];exact(aA _ _).trans (aA _ _)
 have aB:=hide aK;clear aK cO;have gL:=hide hx.abs;have hY:=hide hy.abs;have bP:=hx.qi;have nG:=hy.qi;have bN:=hide hx;have gB:=hide hy;have tD:=hide (@RI x y);obtain⟨p,hp⟩:=aM x.sign;obtain⟨q,aO⟩:=aM y.sign;have dL:=hide hp;have dQ:=hide aO;clear hp aO hx hy;have dY:=av ay;have fa:=av au;by_cases vJ:p=q
 ·subst vJ;have bq:Hid (f_ x y=p*fM x.natAbs y.natAbs):=by rw[<-dL.out];exact tD.out.2.2 (by rw[dL.out,dQ.out])
  obtain⟨r,aD⟩:=aM (fM x.natAbs y.natAbs);have oe:-1<=r/\r<=1:=by rw[<-aD];unfold fM;split<;>(try split)<;>omega
  have pu:p=-1\/p=0\/p=1:=by
   rw[<-dL.out];rcases Int.lt_trichotomy x 0 with h|h|h
   ·exact Or.inl (Int.sign_eq_neg_one_of_neg h)
   ·subst h;exact Or.inr (Or.inl rfl)
   ·exact Or.inr (Or.inr (Int.sign_eq_one_of_pos h))
  have cG:=hide aD;have iH:Hid (wrap64 (p*r)=f_ x y):=by rw[bq.out,aD];rcases pu with rfl|rfl|rfl<;>simp[Hid,wrap64]<;>omega
  clear aD oe pu;go_enter Tryz.func108,Tryz.ntmps108
  go_upto_region 1 with fail
  rw[<-aB.out];clear aB;go_wp2_with (first
   | (go_at_call_of 115 (Value.agg #[Value.bool s,Value.int IntKind.u64 (a:Int),Value.int IntKind.u64 (b:Int),Value.int IntKind.u64 (c:Int),Value.int IntKind.u64 (d:Int)]);refine(uc s a b c d x _ bN.out).mono ?_;rintro e' w' ⟨rfl,ad⟩;rw[dL.out];have cD:=ay.ext ad;have c5:=au.ext ad;have dY:=av cD;have fa:=av c5;have bS:=bC.trans ad;clear ad)
   | (go_at_call 115;refine(uc t e f g h y _ gB.out).mono ?_;rintro e' w' ⟨rfl,ad⟩;rw[dQ.out];have cD:=cD.ext ad;have c5:=c5.ext ad;have dY:=av cD;have fa:=av c5;have bS:=bS.trans ad;clear ad)
   | (go_at_call 127;refine(BM a b c d e f g h _ _ gL.out hY.out _ bP nG).mono ?_;rintro e' w' ⟨rfl,ad⟩;rw[cG.out];have bS:=bS.trans ad;clear ad))
  all_goals go_ret
  all_goals exact⟨kD (by first|exact iH.out|(rw[<-iH.out,<-IntKind.wrap_i64];rfl)|(rw[<-iH.out];simp only[wrap64,IntKind.wrap_i64])),bS⟩
 ·have dB:(p != q)=true:=by simpa using vJ
  have bq:Hid (HQ p q=f_ x y):=by
   unfold Hid HQ;rcases(by omega:p<q\/q<p) with h1|h1
   ·rw[if_pos h1,tD.out.1 (by rw[dL.out,dQ.out];exact h1)]
   ·rw[if_neg (by omega),if_pos h1,tD.out.2.1 (by rw[dL.out,dQ.out];exact h1)]
  clear vJ;go_enter Tryz.func108,Tryz.ntmps108
  go_upto_region 1 with fail
  rw[<-aB.out];clear aB;go_wp2_with (first
   | (go_at_call_of 115 (Value.agg #[Value.bool s,Value.int IntKind.u64 (a:Int),Value.int IntKind.u64 (b:Int),Value.int IntKind.u64 (c:Int),Value.int IntKind.u64 (d:Int)]);refine(uc s a b c d x _ bN.out).mono ?_;rintro e' w' ⟨rfl,ad⟩;rw[dL.out];have cD:=ay.ext ad;have c5:=au.ext ad;have dY:=av cD;have fa:=av c5;have bS:=bC.trans ad;clear ad)
   | (go_at_call 115;refine(uc t e f g h y _ gB.out).mono ?_;rintro e' w' ⟨rfl,ad⟩;rw[dQ.out];have cD:=cD.ext ad;have c5:=c5.ext ad;have dY:=av cD;have fa:=av c5;have bS:=bS.trans ad;clear ad)
   | (go_at_call 126;refine(Y9 p q _).mono ?_;rintro e' w' ⟨rfl,rfl⟩))
  all_goals go_ret
  all_goals exact⟨kD bq.out,bS⟩
section
variable {P:axh}{C:w1->Prop}{l:List aw4}{kd:List Tag}{V:List Ax}{zero full:Nat->Obj}{tgt:Nat->Nat}{W:w1}{A:Act}{i:Nat}{o:aw4}
theorem eJ(v:Ax)(h:fN kd i=.q)(aF:V.getD i rM=v)(aO:∀ w,C w->mg P w v ((axc A.eval o).run P w)):nN P C l kd V zero full tgt W A i o:=by
 unfold nN;rw[h];simp only[aF];exact fun w hw=>aO w hw.1
theorem Hr(v:Ax)(h:fN kd i=.q)(aF:V.getD i rM=v)(aO:∀ w,C w->(∀ s c,fN kd s=.so c->mK l l.length s i=true->w.heap[tgt c]?=W.heap[tgt c]?)->mg P w v ((axc A.eval o).run P w)):nN P C l kd V zero full tgt W A i o:=by
 unfold nN;rw[h];simp only[aF];exact fun w hw=>aO w hw.1 hw.2
theorem NE(z:Obj)(h:fN kd i=.al)(hz:zero i=z)(aD:∀ (ρ:axb->Ax) (w:w1),(axc ρ o).run P w=.ok (.value (ptrTo w.heap.size)) (w.alloc z)):nN P C l kd V zero full tgt W A i o:=by
 unfold nN;rw[h];simp only[hz];exact aD
theorem NF{j:Nat}{T:aw7}{p x:axb}(f z:Obj)(v:Ax)(h:fN kd i=.st j)(hop:o.op=.store T p x)(hf:full i=f)(hz:zero j=z)(aF:A.eval x=v)(hs:∀ (ρ:axb->Ax) (w:w1) (g:Nat),ρ p=ptrTo g->ρ x=v->w.heap[g]?=some z->oC P ρ o w g f):nN P C l kd V zero full tgt W A i o:=by
 unfold nN;simp only[h,hop,hf,hz,aF];exact hs
theorem qc{c:Nat}{T:aw7}{p x:axb}(g:Nat)(f:Obj)(v:Ax)(h:fN kd i=.so c)(hop:o.op=.store T p x)(hf:full i=f)(af:tgt c=g)(hp:A.eval p=ptrTo g)(aF:A.eval x=v)(hs:∀ (ρ:axb->Ax) (w:w1),ρ p=ptrTo g->ρ x=v->w.heap[g]?=W.heap[g]?->oC P ρ o w g f):nN P C l kd V zero full tgt W A i o:=by
 unfold nN;simp only[h,hop,hf,af,hp,aF];exact⟨trivial,hs⟩
end
theorem Same.ext'{kd:List Tag}{tgt:Nat->Nat}{bU W w:w1}(h:Same kd tgt W w)(k:Ext bU W)(hc:∀ c,Tag.so c∈kd->bU.heap.size<=tgt c):Ext bU w:=h.ext k hc
theorem lY{w:w1}{g k:Nat}(aE:k≠g)(j:Nat)(u:Ax):(w.setCell ⟨g,j,none⟩ u).heap[k]?=w.heap[k]?:=axd _ _ _ _ (by simpa using aE)
theorem NP(w:w1)(a:aw6)(v:Ax):(w.setCell a v).os=w.os:=rfl
theorem OI(w:w1)(a:aw6)(v:Ax):(w.setCell a v).tape=w.tape:=rfl
theorem NQ(w:w1)(a:aw6)(v:Ax):(w.setCell a v).output=w.output:=rfl
theorem BV{ρ:axb->Ax}{o:aw4}{T:aw7}{p x:axb}{w aT:w1}(h:o.op=.store T p x)(aD:(Instr.storeAt T (ρ p) (ρ x)).run CW w=.ok () aT):(axc ρ o).run CW w=.ok .skip aT:=by
 unfold axc;rw[h];show Sem.run CW (do Instr.storeAt T (ρ p) (ρ x);pure Next.skip) w=_
 rw[Sem.run_bind,aD];rfl
theorem hQ{ρ:axb->Ax}{o:aw4}{T:aw7}{p x:axb}{w:w1}{g:Nat}{cs ds:Array Ax}(hop:o.op=.store T p x)(hp:ρ p=ptrTo g)(hx:ρ x=.agg ds)(hz:w.heap[g]?=some (.cells cs T (0,0)))(hi:(Tryz.prog.info? T).map (·.size)=some cs.size)(hs:ds.size=cs.size)(h1:ds.all (·.oneCell')=true) :
 oC CW ρ o w g (.cells ds T (0,0)):=by
 refine⟨w.setRow g ds,?_,aG.setRow (show aG w g T cs from hz) ds,fun k aE=>setRow_other w g k ds (by omega),by simp[World.setRow],rfl,rfl,rfl⟩;refine BV hop ?_;rw[hp,hx];unfold Instr.storeAt ptrTo;simp only[Instr.sureAddr,Sem.run_bind,Sem.run_pure,Result.andThen_ok];exact run_storeVar_row w g _ _ _ _ hz (by rw[hi,hs]) (by rw[hs]) h1
end
end Go.Proofs.YtojbopibfflnoaaGreat
