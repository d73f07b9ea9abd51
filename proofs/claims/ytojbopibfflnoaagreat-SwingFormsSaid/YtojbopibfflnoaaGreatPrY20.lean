/- Contracts and plain facts; each states its conditions. -/
import Derived.Test.YtojbopibfflnoaaGreatPrY2
import Derived.Test.YtojbopibfflnoaaGreatPrY4
import Derived.Test.YtojbopibfflnoaaGreatPrY6
import Derived.Test.YtojbopibfflnoaaGreatPrY7
import Derived.Test.YtojbopibfflnoaaGreatPrY12
import Derived.Test.YtojbopibfflnoaaGreatPrY15
import Derived.Test.YtojbopibfflnoaaGreatPrY17
import Derived.Test.YtojbopibfflnoaaGreatPrY18
import Derived.Lib.QuietBelow
import Derived.KernelRfl
import Derived.Shelf.Strconv.Itoa0
namespace Go.Proofs.YtojbopibfflnoaaGreat
open Go renaming World → w1, Value → Ax, Calls → AA, Operand → axb, Oper → aw4, Ending → axa, execOp → axc
open _root_.Go.Proofs.Tryz renaming prog → CW
set_option linter.unusedVariables false
set_option linter.unusedSimpArgs false
set_option maxHeartbeats 16000000
section
open Go Go.RowKit
def ao(z:Int):Bool:=decide (z<0)
def ai(z:Int):Nat:=z.natAbs%18446744073709551616
def ah(z:Int):Nat:=z.natAbs / 18446744073709551616%18446744073709551616
def aj(z:Int):Nat:=z.natAbs / 340282366920938463463374607431768211456%18446744073709551616
def ap(z:Int):Nat:=z.natAbs / 6277101735386680763835789423207666416102355444464034512896%18446744073709551616
instance aoX:Coe Int Ax:=⟨fun z=>.agg #[.bool (ao z),.int .u64 (ai z:Int),.int .u64 (ah z:Int),.int .u64 (aj z:Int),.int .u64 (ap z:Int)]⟩
instance aoV:Coe Int Obj:=⟨fun z=>.cells #[.bool (ao z),.int .u64 (ai z:Int),.int .u64 (ah z:Int),.int .u64 (aj z:Int),.int .u64 (ap z:Int)] 27⟩
def b4(z:Int):Prop:=z.natAbs<115792089237316195423570985008687907853269984665640564039457584007913129639936
theorem sT{s:Bool}{a b c d:Nat}{z:Int}(h:cw s a b c d z):s=ao z/\a=ai z/\b=ah z/\c=aj z/\d=ap z:=by
 obtain⟨⟨h1,h2,h3,h4,h5⟩,h6⟩:=h;have hm:z.natAbs=b0 a b c d:=by cases s<;>simp at h5<;>omega
 simp only[b0,val] at hm h5;refine⟨?_,?_,?_,?_,?_⟩
 ·cases s
  ·simp at h5;unfold ao;symm;rw[decide_eq_false_iff_not];omega
  ·have:=h6 rfl;simp at h5;unfold ao;symm;rw[decide_eq_true_iff];omega
 ·unfold ai;omega
 ·unfold ah;omega
 ·unfold aj;omega
 ·unfold ap;omega
theorem e0{z:Int}(h:b4 z):cw (ao z) (ai z) (ah z) (aj z) (ap z) z:=by
 obtain⟨s,a,b,c,d,k⟩:=Ms z h;obtain⟨rfl,rfl,rfl,rfl,rfl⟩:=sT k;exact k
theorem BU{z:Int}{w w':w1}{e:axa}(h:lR z w e w'):aP (z) w e w':=by
 obtain⟨s,a,b,c,d,rfl,k,ad⟩:=h;obtain⟨rfl,rfl,rfl,rfl,rfl⟩:=sT k;exact⟨rfl,ad⟩
theorem BS{z:Int}{w w':w1}{e:axa}(h:oG z w e w')(hz:b4 z):aP (.tuple #[z,.bool true]) w e w':=by
 obtain⟨s,a,b,c,d,o,rfl,aL,hC,ad⟩:=h;rw[if_pos (show z.natAbs<115792089237316195423570985008687907853269984665640564039457584007913129639936 from hz)] at hC;have:o=true:=by rw[aL,decide_eq_true_iff];exact hz
 subst this
 obtain⟨rfl,rfl,rfl,rfl,rfl⟩:=sT hC;exact⟨rfl,ad⟩
theorem VF{x y:Int}{w w':w1}{e:axa}(h:ux x y w e w')(hy:y≠0):aP (.tuple #[(x / y),(x%y),.bool true]) w e w':=by
 obtain⟨s,a,b,c,d,s',a',b',c',d',o,rfl,aL,bQ,bY,ad⟩:=h;rw[if_neg hy] at bQ bY;have:o=true:=by rw[aL,decide_eq_true_iff];exact hy
 subst this
 obtain⟨rfl,rfl,rfl,rfl,rfl⟩:=sT bQ;obtain⟨rfl,rfl,rfl,rfl,rfl⟩:=sT bY;exact⟨rfl,ad⟩
theorem JG{x y z:Int}(hx:b4 x)(hy:b4 y)(e:x+y=z)(hz:b4 z)(w:w1):AA CW 111 #[x,y] w (aP (.tuple #[z,.bool true]) w):=
 (U1 _ _ _ _ _ _ _ _ _ _ x y w (e0 hx).1 (e0 hy).1).mono fun _ _ h=>BS (by rw[e] at h;exact h) hz
theorem Y'{x y z:Int}(hx:b4 x)(hy:b4 y)(e:x*y=z)(hz:b4 z)(w:w1):AA CW 107 #[x,y] w (aP (.tuple #[z,.bool true]) w):=
 (N2 _ _ _ _ _ _ _ _ _ _ x y w (e0 hx).1 (e0 hy).1).mono fun _ _ h=>BS (by rw[e] at h;exact h) hz
theorem RA{x y q r:Int}(hx:b4 x)(hy:b4 y)(nY:y≠0)(bk:x / y=q)(e2:x%y=r)(w:w1):AA CW 123 #[x,y] w (aP (.tuple #[q,r,.bool true]) w):=
 (Hu _ _ _ _ _ _ _ _ _ _ x y w (e0 hx).1 (e0 hy).1).mono fun _ _ h=>by have h:=VF h nY;rw[bk,e2] at h;exact h
theorem AY{x r:Int}(hx:b4 x)(e:x.sign=r)(w:w1):AA CW 115 #[x] w (aP (.int .i64 r) w):=
 (uc _ _ _ _ _ x w (e0 hx).1).mono fun _ _ h=>by rw[e] at h;exact h
theorem Za{x z:Int}(hx:b4 x)(e:-x=z)(w:w1):AA CW 121 #[x] w (aP (z) w):=
 (Hv _ _ _ _ _ x w (e0 hx).1).mono fun _ _ h=>by rw[e] at h;exact BU h
theorem CM{x:Int}(h1:-9223372036854775808<=x)(h2:x<=9223372036854775807)(w:w1):AA CW 95 #[.int .i64 x] w (aP (x) w):=
 (NW x w h1 h2).mono fun _ _ h=>BU h
theorem Zc{n:Nat}(h:n<18446744073709551616)(w:w1):AA CW 112 #[.int .u64 (n:Int)] w (aP ((n:Int)) w):=
 (NY n w h).mono fun _ _ h=>BU h
theorem Zd{x:Int}(hx:b4 x)(w:w1):AA CW 120 #[x] w (aP (.bool true) w):=
 (ES _ _ _ _ _ x w (e0 hx).1).mono fun _ _ h=>by
  have:(!ao x||decide (x≠0))=true:=by
   have:=(e0 hx).2;cases hs:ao x<;>simp;exact this hs
  rw[this] at h;exact h
theorem JO{x y z:Int}(hx:b4 x)(hy:b4 y)(e:x+y=z)(hz:b4 z)(w:w1):AA CW 24 #[x,y] w (aP (.tuple #[z,.bool true]) w):=
 (VD _ _ _ _ _ _ _ _ _ _ x y w (e0 hx).1 (e0 hy).1).mono fun _ _ h=>BS (by rw[e] at h;exact h) hz
theorem JS{x y z:Int}(hx:b4 x)(hy:b4 y)(e:x-y=z)(hz:b4 z)(w:w1):AA CW 26 #[x,y] w (aP (.tuple #[z,.bool true]) w):=
 (akg _ _ _ _ _ _ _ _ _ _ x y w (e0 hx).1 (e0 hy).1).mono fun _ _ h=>BS (by rw[e] at h;exact h) hz
theorem Gm{x y z:Int}(hx:b4 x)(hy:b4 y)(e:x*y=z)(hz:b4 z)(w:w1):AA CW 66 #[x,y] w (aP (.tuple #[z,.bool true]) w):=
 (Oi _ _ _ _ _ _ _ _ _ _ x y w (e0 hx).1 (e0 hy).1).mono fun _ _ h=>BS (by rw[e] at h;exact h) hz
theorem ZS{x y q r:Int}(hx:b4 x)(hy:b4 y)(nY:y≠0)(bk:x / y=q)(e2:x%y=r)(w:w1):AA CW 67 #[x,y] w (aP (.tuple #[q,r,.bool true]) w):=
 (qd _ _ _ _ _ _ _ _ _ _ x y w (e0 hx).1 (e0 hy).1).mono fun _ _ h=>by have h:=VF h nY;rw[bk,e2] at h;exact h
theorem JQ{x y r:Int}(hx:b4 x)(hy:b4 y)(e:f_ x y=r)(w:w1):AA CW 28 #[x,y] w (aP (.int .i64 r) w):=
 (Vy _ _ _ _ _ _ _ _ _ _ x y w (e0 hx).1 (e0 hy).1).mono fun _ _ h=>by rw[e] at h;exact h
theorem w_{x r:Int}(hx:b4 x)(e:x.sign=r)(w:w1):AA CW 52 #[x] w (aP (.int .i64 r) w):=
 (xP _ _ _ _ _ x w (e0 hx).1).mono fun _ _ h=>by rw[e] at h;exact h
theorem JR{x z:Int}(hx:b4 x)(e:-x=z)(w:w1):AA CW 68 #[x] w (aP (z) w):=
 (Og _ _ _ _ _ x w (e0 hx).1).mono fun _ _ h=>by rw[e] at h;exact BU h
theorem CV{x:Int}(h1:-9223372036854775808<=x)(h2:x<=9223372036854775807)(w:w1):AA CW 23 #[.int .i64 x] w (aP (x) w):=
 (Oh x w h1 h2).mono fun _ _ h=>BU h
theorem ZU{n:Nat}(h:n<18446744073709551616)(w:w1):AA CW 58 #[.int .u64 (n:Int)] w (aP ((n:Int)) w):=
 (VA n w h).mono fun _ _ h=>BU h
theorem ZV{x:Int}(hx:b4 x)(w:w1):AA CW 51 #[x] w (aP (.bool true) w):=
 (zS _ _ _ _ _ x w (e0 hx).1).mono fun _ _ h=>by
  have:(!ao x||decide (x≠0))=true:=by
   have:=(e0 hx).2;cases hs:ao x<;>simp;exact this hs
  rw[this] at h;exact h
theorem Box.same{kd:List Tag}{tgt:Nat->Nat}{W w:w1}{g:Nat}{s:Bool}{a b c d:Nat}(x:Box W g s a b c d)(h:Same kd tgt W w)(hc:∀ c,Tag.so c∈kd->tgt c≠g):Box w g s a b c d:=h.block x hc
theorem aku{w:w1}{g:Nat}{s s':Bool}{a b c d a' b' c' d':Nat}(hz:Box w g s' a' b' c' d'):(Instr.storeAt 27 (ptrTo g) (.agg #[.bool s,a,b,c,d])).run CW w=.ok () (((((w.setCell ⟨g,0,none⟩ (.bool s)).setCell ⟨g,1,none⟩ (.int .u64 (a:Int))).setCell ⟨g,2,none⟩ (.int .u64 (b:Int))).setCell ⟨g,3,none⟩ (.int .u64 (c:Int))).setCell ⟨g,4,none⟩ (.int .u64 (d:Int))):=by
 have qj:=av hz;unfold ptrTo;go_simp
theorem vX{ρ:axb->Ax}{o:aw4}{p x:axb}{w:w1}{g:Nat}{s s':Bool}{a b c d a' b' c' d':Nat}(hop:o.op=.store 27 p x)(hp:ρ p=ptrTo g)(hx:ρ x=.agg #[.bool s,a,b,c,d])(hz:w.heap[g]?=some (.cells #[.bool s',a',b',c',d'] 27 (0,0))) :
 oC CW ρ o w g (.cells #[.bool s,a,b,c,d] 27 (0,0)):=by
 have h1:(axc ρ o).run CW w=.ok .skip (((((w.setCell ⟨g,0,none⟩ (.bool s)).setCell ⟨g,1,none⟩ (.int .u64 (a:Int))).setCell ⟨g,2,none⟩ (.int .u64 (b:Int))).setCell ⟨g,3,none⟩ (.int .u64 (c:Int))).setCell ⟨g,4,none⟩ (.int .u64 (d:Int))):=by
  refine BV hop ?_;rw[hp,hx];exact aku (s:=s) (a:=a) (b:=b) (c:=c) (d:=d) (show Box w g s' a' b' c' d' from hz)
 have h2:Box (((((w.setCell ⟨g,0,none⟩ (.bool s)).setCell ⟨g,1,none⟩ (.int .u64 (a:Int))).setCell ⟨g,2,none⟩ (.int .u64 (b:Int))).setCell ⟨g,3,none⟩ (.int .u64 (c:Int))).setCell ⟨g,4,none⟩ (.int .u64 (d:Int))) g s a b c d:=Box.put (show Box w g s' a' b' c' d' from hz);refine⟨_,h1,h2,?_,?_,?_,?_,?_⟩
 ·intro k aE;rw[lY aE,lY aE,lY aE,lY aE,lY aE]
 ·simp only[World.size_setCell]
 ·simp only[NP]
 ·simp only[OI]
 ·simp only[NQ]
theorem cm.same{kd:List Tag}{tgt:Nat->Nat}{W w:w1}{k:Nat}{s:Bool}{a b c d:Nat}{t:Bool}{e f g h:Nat}(x:cm W k s a b c d t e f g h)(y:Same kd tgt W w)(hc:∀ c,Tag.so c∈kd->tgt c≠k):cm w k s a b c d t e f g h:=y.block x hc
theorem akt{w:w1}{g:Nat}{s s' t t':Bool}{a b c d e f h i a' b' c' d' e' f' h' l4:Nat}(hz:cm w g s' a' b' c' d' t' e' f' h' l4):(Instr.storeAt 29 (ptrTo g) (.agg #[.bool s,a,b,c,d,.bool t,e,f,h,i])).run CW w=.ok () ((((((((((w.setCell ⟨g,0,none⟩ (.bool s)).setCell ⟨g,1,none⟩ (.int .u64 (a:Int))).setCell ⟨g,2,none⟩ (.int .u64 (b:Int))).setCell ⟨g,3,none⟩ (.int .u64 (c:Int))).setCell ⟨g,4,none⟩ (.int .u64 (d:Int))).setCell ⟨g,5,none⟩ (.bool t)).setCell ⟨g,6,none⟩ (.int .u64 (e:Int))).setCell ⟨g,7,none⟩ (.int .u64 (f:Int))).setCell ⟨g,8,none⟩ (.int .u64 (h:Int))).setCell ⟨g,9,none⟩ (.int .u64 (i:Int))):=by
 have qj:=cv hz;unfold ptrTo;go_simp
theorem BZ{ρ:axb->Ax}{o:aw4}{p x:axb}{w:w1}{g:Nat}{s s' t t':Bool}{a b c d e f h i a' b' c' d' e' f' h' l4:Nat}(hop:o.op=.store 29 p x)(hp:ρ p=ptrTo g)(hx:ρ x=.agg #[.bool s,a,b,c,d,.bool t,e,f,h,i])(hz:w.heap[g]?=some (.cells #[.bool s',a',b',c',d',.bool t',e',f',h',l4] 29 (0,0))) :
 oC CW ρ o w g (.cells #[.bool s,a,b,c,d,.bool t,e,f,h,i] 29 (0,0)):=by
 have h1:(axc ρ o).run CW w=.ok .skip ((((((((((w.setCell ⟨g,0,none⟩ (.bool s)).setCell ⟨g,1,none⟩ (.int .u64 (a:Int))).setCell ⟨g,2,none⟩ (.int .u64 (b:Int))).setCell ⟨g,3,none⟩ (.int .u64 (c:Int))).setCell ⟨g,4,none⟩ (.int .u64 (d:Int))).setCell ⟨g,5,none⟩ (.bool t)).setCell ⟨g,6,none⟩ (.int .u64 (e:Int))).setCell ⟨g,7,none⟩ (.int .u64 (f:Int))).setCell ⟨g,8,none⟩ (.int .u64 (h:Int))).setCell ⟨g,9,none⟩ (.int .u64 (i:Int))):=by
  refine BV hop ?_;rw[hp,hx];exact akt (s:=s) (a:=a) (b:=b) (c:=c) (d:=d) (t:=t) (e:=e) (f:=f) (h:=h) (i:=i) (show cm w g s' a' b' c' d' t' e' f' h' l4 from hz)
 have h2:cm ((((((((((w.setCell ⟨g,0,none⟩ (.bool s)).setCell ⟨g,1,none⟩ (.int .u64 (a:Int))).setCell ⟨g,2,none⟩ (.int .u64 (b:Int))).setCell ⟨g,3,none⟩ (.int .u64 (c:Int))).setCell ⟨g,4,none⟩ (.int .u64 (d:Int))).setCell ⟨g,5,none⟩ (.bool t)).setCell ⟨g,6,none⟩ (.int .u64 (e:Int))).setCell ⟨g,7,none⟩ (.int .u64 (f:Int))).setCell ⟨g,8,none⟩ (.int .u64 (h:Int))).setCell ⟨g,9,none⟩ (.int .u64 (i:Int))) g s a b c d t e f h i:=cm.put (show cm w g s' a' b' c' d' t' e' f' h' l4 from hz);refine⟨_,h1,h2,?_,?_,?_,?_,?_⟩
 ·intro k aE;rw[lY aE,lY aE,lY aE,lY aE,lY aE,lY aE,lY aE,lY aE,lY aE,lY aE]
 ·simp only[World.size_setCell]
 ·simp only[NP]
 ·simp only[OI]
 ·simp only[NQ]
theorem Ul{s:Bool}{a b c d:Nat}{z:Int}(h:cw s a b c d z):s=decide (z<0):=by
 obtain⟨⟨h1,h2,h3,h4,h5⟩,h6⟩:=h;cases s
 ·simp at h5;symm;rw[decide_eq_false_iff_not];omega
 ·have:=h6 rfl;simp at h5;symm;rw[decide_eq_true_iff];omega
theorem agA{s t:Bool}{a b c d e f g h:Nat}{x y:Int}(hx:cw s a b c d x)(hy:cw t e f g h y)(dy:y≠0) :
 ig x y=(if (s != t)=true then -((x.natAbs:Int) / ((Int.gcd (x.natAbs:Int) (y.natAbs:Int):Nat):Int)) else (x.natAbs:Int) / ((Int.gcd (x.natAbs:Int) (y.natAbs:Int):Nat):Int))/\ik x y=(y.natAbs:Int) / ((Int.gcd (x.natAbs:Int) (y.natAbs:Int):Nat):Int)/\(0:Int)<((Int.gcd (x.natAbs:Int) (y.natAbs:Int):Nat):Int):=by
 rw[Ul hx,Ul hy];have bk:Int.gcd (x.natAbs:Int) (y.natAbs:Int)=Int.gcd x y:=by simp[Int.gcd]
 rw[bk];have af:0<Int.gcd x y:=Int.gcd_pos_of_ne_zero_right x dy;obtain⟨u,hu⟩:=Int.gcd_dvd_left x y;obtain⟨v,aF⟩:=Int.gcd_dvd_right x y;obtain⟨G,aV⟩:∃ G:Int,((Int.gcd x y:Nat):Int)=G:=⟨_,rfl⟩;unfold ig ik;rw[aV] at hu aF |-;have Bc:0<G:=by omega
 have GU:G≠0:=by omega
 have aez:-x=G*(-u):=by rw[Int.mul_neg,<-hu]
 have L5:-y=G*(-v):=by rw[Int.mul_neg,<-aF]
 have q1:x / G=u:=by rw[hu];exact Int.mul_ediv_cancel_left _ GU
 have k8:y / G=v:=by rw[aF];exact Int.mul_ediv_cancel_left _ GU
 have HB:(-x) / G=-u:=by rw[aez];exact Int.mul_ediv_cancel_left _ GU
 have ET:(-y) / G=-v:=by rw[L5];exact Int.mul_ediv_cancel_left _ GU
 have ax:(x.natAbs:Int)=if x<0 then -x else x:=by split<;>omega
 have Ye:(y.natAbs:Int)=if y<0 then -y else y:=by split<;>omega
 rw[ax,Ye];refine⟨?_,?_,Bc⟩
 ·by_cases h1:x<0<;>by_cases h2:y<0<;>simp[h1,h2,q1,k8,HB,ET]
 ·by_cases h2:y<0<;>simp[h2]
theorem amM(x y:Int)(dy:y≠0):∀ (s:Bool) (a b c d:Nat) (t:Bool) (e f g h:Nat),cw s a b c d (ig x y)->cw t e f g h (ik x y)->decide (o3 s (ig x y) t (ik x y))=decide ((ig x y).natAbs<170141183460469231731687303715884105728/\(ik x y).natAbs<170141183460469231731687303715884105728):=by
 intro s a b c d t e f g h h1 h2;obtain⟨p1,p2,_⟩:=HK x y dy;rw[decide_eq_decide];constructor
 ·intro q;exact⟨q.2.2.2.1,q.2.2.2.2.1⟩
 ·intro q;exact⟨h1.2,h2.2,p1,q.1,q.2,p2⟩
def bm(C i:Nat):Nat:=C / 18446744073709551616 ^ i%18446744073709551616
def abU(q:Nat->Nat):Nat->List Nat
 | 0=>[]
 | k+1=>abU q k++[q k+128]
end
end Go.Proofs.YtojbopibfflnoaaGreat
