/- Contracts and plain facts; each states its conditions. -/
import Derived.Test.YtojbopibfflnoaaGreatPrY2
import Derived.Test.YtojbopibfflnoaaGreatPrY10
import Derived.Laws.Cover3
import Derived.Shelf.Small.Bits
import Derived.Lib.BitFns
namespace Go.Proofs.YtojbopibfflnoaaGreat
open Go renaming World → w1, Calls → AA, bodyPost_ret → B7, heap_alloc_new → axe, TypeId → aw7, run_underlying → axf, Ending → axa
open _root_.Go.Proofs.Tryz renaming prog → CW
set_option linter.unusedVariables false
set_option linter.unusedSimpArgs false
set_option maxHeartbeats 16000000
set_option maxRecDepth 100000
section
open Go Go.RowKit
def FR(p q:List Nat)(f:Nat)(os:List Nat)(k c:Nat):Prop:=os.length=p.length/\os.drop k=p.drop k/\c<18446744073709551616/\val (os.take k)+18446744073709551616 ^ k*c=val (p.take k)+val (q.take k)*f
theorem FR.step{p q os:List Nat}{f k c x y h l ah az s aU:Nat}(aD:FR p q f os k c)(aE:k<p.length)(aO:k<q.length)(hx:p[k]=x)(hy:q[k]=y)(fS:x<18446744073709551616)(by':y<18446744073709551616)(CJ:f<18446744073709551616)
 (hh:y*f / 18446744073709551616=h) (hl:y*f%18446744073709551616=l) (h1:(l+c)%18446744073709551616=ah) (h2:(l+c) / 18446744073709551616=az) (h3:(x+ah)%18446744073709551616=s) (h4:(x+ah) / 18446744073709551616=aU) :
 FR p q f (os.set k s) (k+1) (h+az+aU)/\h+az+aU<18446744073709551616/\s<18446744073709551616/\az<=1/\aU<=1/\l<18446744073709551616/\ah<18446744073709551616/\h<18446744073709551616:=by
 obtain⟨i',dX,s7,qO⟩:=aD;have hp:=N6 by' CJ
 have e:x+y*f+c=s+18446744073709551616*(h+az+aU):=by omega
 have b:h+az+aU<18446744073709551616:=by omega
 refine⟨⟨by simpa using i',by rw[drop_set];exact(n4 dX (by omega) aE).2,b,?_⟩,b,by omega,by omega,by omega,by omega,by omega,by omega⟩;rw[Ad _ _ _ (by omega),nD p k aE,nD q k aO,hx,hy,Nat.pow_succ];rw[Nat.add_mul,Nat.mul_assoc (18446744073709551616 ^ k) y f];generalize y*f=t at *;generalize h+az+aU=z at *;generalize 18446744073709551616 ^ k=K at *;have e2:K*(x+t+c)=K*(s+18446744073709551616*z):=by rw[e]
 rw[Nat.mul_add,Nat.mul_add,Nat.mul_add,<-Nat.mul_assoc] at e2;omega
def WK(g:Nat)(T:aw7)(P p Q q:List Nat)(f:Nat)(w:w1)(e:axa)(w':w1):Prop:=
 ∃ (c:Nat) (os:List Nat),e=.returned (.int .u64 (c:Int))/\c<18446744073709551616/\os.length=4/\cp os/\val os+18446744073709551616 ^ 4*c=val p+val q*f/\cn w' g T (P++os++Q)/\b3 g w w'
theorem aiI(g o ca a b c d f:Nat)(T:aw7)(P p Q:List Nat)(w:w1)(hA:cn w g T (P++p++Q))(ie:P.length=o)(hp:p.length=4)(wp:cp p)(qU:cp [a,b,c,d])(hf:f<18446744073709551616) :
 AA CW 134 #[.slice (some ⟨g,o,none⟩) 4 ca,.agg #[a,b,c,d],.int .u64 (f:Int)] w (WK g T P p Q [a,b,c,d] f w):=by
 have aK:=hide (Ju w 130 [a,b,c,d] #[.int .u64 (a:Int),.int .u64 (b:Int),.int .u64 (c:Int),.int .u64 (d:Int)] rfl);have bC:=hide (aA w (.cells #[a,b,c,d] 130));have afY:=hA.lt;have c0:=hide hA;obtain⟨q,aO⟩:=eo ([a,b,c,d]);rw[<-aO] at aK qU;have na:Hid (q.length=4):=by rw[aO];exact rfl
 have dL:=hide ie;have mC:=hide hp;rw[<-aO];clear hA ie hp aO;go_enter Tryz.func134,Tryz.ntmps134
 go_wp2_with fail
 go_loopw [14,7] (fun i t wr=>∃ (k c:Nat) (os:List Nat),i=.int .i64 k/\t=.int .u64 c/\k<=4/\c<18446744073709551616/\Hid (FR p q f os k c)/\cp os/\Hid (cn wr g T (P++os++Q))/\cn wr w.heap.size 130 q/\b3 g w wr) (fun i _ _=>4-(intOf i).toNat)
 case atStart=>exact⟨0,0,p,rfl,rfl,by omega,by omega,⟨rfl,rfl,by omega,by simp[val]⟩,wp,c0.out.ext bC.out,aK.out,bC.out.c7 g⟩
 case round =>
  obtain⟨k,c,os,rfl,rfl,aE,hc,bq,gU,bM,sF,ef⟩:=hrel;have cz:Hid (os.length=4):=bq.out.1.trans mC.out;by_cases vC:k<4
  ·have kz:k<os.length:=by rw[cz.out];omega
   have DU:k<p.length:=by rw[mC.out];omega
   have qF:k<q.length:=by rw[na.out];omega
   have fZ:=bM.out.seg dL.out k kz;have lq:=bM.out.free (o+k);have cb:=sF.at k qF;obtain⟨x,hx⟩:=aM (os[k]);obtain⟨y,hy⟩:=aM (q[k]);have j6:p[k]=x:=by rw[<-hx];exact(n4 bq.out.2.1 kz DU).1.symm
   have fS:x<18446744073709551616:=by rw[<-hx];exact jg gU k kz
   have yH:y<18446744073709551616:=by rw[<-hy];exact jg qU k qF
   rw[hx] at fZ;rw[hy] at cb;obtain⟨h,hh⟩:=aM (y*f / 18446744073709551616);obtain⟨l,hl⟩:=aM (y*f%18446744073709551616);obtain⟨ah,h1⟩:=aM ((l+c)%18446744073709551616);obtain⟨az,h2⟩:=aM ((l+c) / 18446744073709551616);obtain⟨s,h3⟩:=aM ((x+ah)%18446744073709551616);obtain⟨aU,h4⟩:=aM ((x+ah) / 18446744073709551616);obtain⟨hS,fb,z2,z3,z4,z5,WI,atN⟩:=bq.out.step DU qF j6 hy fS yH hf hh hl h1 h2 h3 h4;have p4:=Cz l c ah az h1 h2;have apm:=Cz x ah s aU h3 h4;have IC:=hide hh;have Cb:=hide hl;have cG:=hide hS;have aB:=hide (bM.out.EY dL.out k s kz);have dR:=hide (ef.set (o+k) (.int .u64 (s:Int)));have dQ:=hide (sF.cI (b:=g) (by omega) (o+k) (.int .u64 (s:Int)));have q1:(h:Int)+az<=18446744073709551615:=by omega
   have k8:(h:Int)+az+aU<=18446744073709551615:=by omega
   clear hx hy j6 hh hl h1 h2 h3 h4 hS;go_wp2_with (go_at_call 100;refine(Jx y f h l _ yH hf IC Cb).mono ?_;rintro e' w' ⟨rfl,rfl⟩)
   exact⟨⟨k+1,_,_,by go_num,by go_num,by omega,fb,cG,oU gU _ _ z2,aB,dQ.out,dR.out⟩,by simp[intOf];omega⟩
  ·obtain rfl:k=4:=by omega
   have H1:Hid (val os+18446744073709551616 ^ 4*c=val p+val q*f):=by
    obtain⟨i',_,_,qO⟩:=bq.out;rw[List.take_of_length_le (by rw[cz.out];omega),List.take_of_length_le (by rw[mC.out];omega),List.take_of_length_le (by rw[na.out];omega)] at qO;exact qO
   go_wp2
   go_ret;exact⟨c,os,rfl,hc,cz.out,gU,H1.out,bM.out,ef⟩
open Go Go.RowKit
theorem Fg(n:Nat):val (List.replicate n 0)=0:=by
 induction n with
 | zero=>rfl
 | succ n ih=>rw[List.replicate_succ,val,ih]
theorem H4{a b:List Nat}(h:cp a)(k:cp b):cp (a++b):=fun x hx=>by rcases List.mem_append.1 hx with h1|h1;exact h x h1;exact k x h1
theorem agG(L os A:List Nat)(m k c f:Nat)(h8:L.length=8)(aE:k<4)(aF:val L=val (A.take k)*m)(hz:L.drop (k+4)=List.replicate (4-k) 0)(aL:os.length=4)(he:val os+18446744073709551616 ^ 4*c=val ((L.drop k).take 4)+m*f)(hA:k<A.length)(hf:A[k]=f)(hc:c<18446744073709551616)(k9:cp L)(gU:cp os) :
 ((L.take k++os++L.drop (k+4)).set (k+4) c).length=8/\cp ((L.take k++os++L.drop (k+4)).set (k+4) c)/\val ((L.take k++os++L.drop (k+4)).set (k+4) c)=val (A.take (k+1))*m/\((L.take k++os++L.drop (k+4)).set (k+4) c).drop (k+1+4)=List.replicate (4-(k+1)) 0:=by
 have aw:(L.take k).length=k:=by simp;omega
 have bk:(L.take k++os++L.drop (k+4)).set (k+4) c=L.take k++os++(c :: List.replicate (3-k) 0):=by
  rw[hz,show 4-k=(3-k)+1 by omega,List.replicate_succ,List.set_append_right _ _ (by simp[aw,aL])];congr 1
  rw[List.length_append,aw,aL,Nat.sub_self];rfl
 rw[bk];refine⟨by simp[aw,aL];omega,?_,?_,?_⟩
 ·refine H4 (H4 (um k9 k) gU) ?_;intro x hx;rcases List.mem_cons.1 hx with rfl|hx
  ·exact hc
  ·rw[List.eq_of_mem_replicate hx];omega
 ·have e2:val L=val (L.take k)+18446744073709551616 ^ k*val ((L.drop k).take 4):=by
   rw[rT L k (by omega),rT (L.drop k) 4 (by simp;omega),List.drop_drop,hz,Fg];simp
  rw[wj,wj,aw,List.length_append,aw,aL,val,Fg,nD A k hA,hf,Nat.add_mul,<-aF,e2,Nat.pow_add];generalize 18446744073709551616 ^ 4=M at *;generalize 18446744073709551616 ^ k=K at *;have fL:K*(val os+M*c)=K*(val ((L.drop k).take 4)+m*f):=by rw[he]
  rw[Nat.mul_add,Nat.mul_add,<-Nat.mul_assoc] at fL;rw[Nat.mul_zero,Nat.add_zero,Nat.mul_assoc K f m,Nat.mul_comm f m];omega
 ·rw[List.drop_append,List.length_append,aw,aL,List.drop_of_length_le (by rw[List.length_append,aw,aL];omega),show k+1+4-(k+4)=1 by omega,show 4-(k+1)=3-k by omega];rfl
theorem Kp(w:w1)(o p q r:Obj):((((w.alloc o).alloc p).alloc q).alloc r).heap[w.heap.size]?=some o/\((((w.alloc o).alloc p).alloc q).alloc r).heap[w.heap.size+1]?=some p/\((((w.alloc o).alloc p).alloc q).alloc r).heap[w.heap.size+1+1]?=some q/\((((w.alloc o).alloc p).alloc q).alloc r).heap[w.heap.size+1+1+1]?=some r:=by
 obtain⟨h1,h2,h3⟩:=kF w o p q;have h4:=axe (((w.alloc o).alloc p).alloc q) r;have hs:(((w.alloc o).alloc p).alloc q).heap.size=w.heap.size+1+1+1:=by simp
 rw[hs] at h4;exact⟨p8 (aA _ _) h1,p8 (aA _ _) h2,p8 (aA _ _) h3,h4⟩
theorem aal{L:List Nat}(h:L.length=8):∃ a b c d e f g i,L=[a,b,c,d,e,f,g,i]:=by
 match L,h with
 | [a,b,c,d,e,f,g,i],_=>exact⟨a,b,c,d,e,f,g,i,rfl⟩
theorem aam(a b c d e f g i:Nat):val [a,b,c,d,e,f,g,i]=b0 a b c d+115792089237316195423570985008687907853269984665640564039457584007913129639936*b0 e f g i:=by
 simp only[b0,val];omega
theorem TJ(a b c d k f:Nat)(aE:k<[a,b,c,d].length)(h:[a,b,c,d][k]=f)(w:w1):(Instr.index 130 (.agg #[a,b,c,d]) (.int .i64 (k:Int))).run CW w=.ok (.int .u64 (f:Int)) w:=by
 have ad_:k<4:=aE;have:k=0\/k=1\/k=2\/k=3:=by omega
 rcases this with rfl|rfl|rfl|rfl<;>(subst h;simp[Instr.index,axf Tryz.underlying130,Tryz.sizeOf24,part,isAgg,axf Tryz.underlying24,asIntOf])
theorem VZ(T n g l:Nat)(h:Int)(m:Nat)(hm:h=((m:Nat):Int))(aw:Tryz.prog.underlying T=some (.array (Tryz.prog.arrayLen T) (Tryz.prog.elem T)))(hn:Tryz.prog.arrayLen T=n)(he:Tryz.prog.elem T=24)(h1:l<=m)(h2:m<=n)(h3:l<n)(w:w1) :
 (Instr.sliceAt T (.pointer (some ⟨g,0,none⟩)) (some (.int .i64 (l:Int))) (some (.int .i64 h)) none).run CW w=.ok (.slice (some ⟨g,l,none⟩) (m-l) (n-l)) w:=by
 subst hm;rw[run_sliceAt_array_lh w T ⟨g,0,none⟩ aw .i64 .i64 (l:Int) (m:Int) (by omega) (by omega) (by rw[hn];omega),he,Tryz.sizeOf24,hn];simp only[Result.andThen_ok,slicedAt,Int.toNat_natCast,Nat.mul_one];rw[if_neg (by omega)];by_cases h0:l=0
 ·subst h0;simp[Addr.add]
 ·simp[Addr.add,h0]
theorem UY(a b c d e f g h n m:Nat)(hn:b0 a b c d=n)(hm:b0 e f g h=m)(w:w1)(hw:cp [a,b,c,d])(bj:cp [e,f,g,h]) :
 AA CW 125 #[.agg #[a,b,c,d],.agg #[e,f,g,h]] w
  (Rh ((n*m)%115792089237316195423570985008687907853269984665640564039457584007913129639936) (decide (n*m<115792089237316195423570985008687907853269984665640564039457584007913129639936)) w):=by
 obtain⟨o,aL⟩:=aM (decide (n*m<115792089237316195423570985008687907853269984665640564039457584007913129639936));rw[aL];have rX:=Kp w (.cells #[a,b,c,d] 130) (.cells #[e,f,g,h] 130) (.cells #[(),(),(),()] 130) (.cells #[(),(),(),(),(),(),(),()] 143);obtain⟨W,aK⟩:=eo (((((w.alloc (.cells #[a,b,c,d] 130)).alloc (.cells #[e,f,g,h] 130)).alloc (.cells #[(),(),(),()] 130)).alloc (.cells #[(),(),(),(),(),(),(),()] 143)));have bC:Ext w W:=by rw[aK];exact(((aA _ _).trans (aA _ _)).trans (aA _ _)).trans (aA _ _)
 rw[<-aK] at rX;have lM:cn W w.heap.size 130 [a,b,c,d]:=rX.1;have cU:cn W (w.heap.size+1) 130 [e,f,g,h]:=rX.2.1;have jF:cn W (w.heap.size+1+1) 130 [0,0,0,0]:=rX.2.2.1;have nI:cn W (w.heap.size+1+1+1) 143 [0,0,0,0,0,0,0,0]:=rX.2.2.2;have aB:=hide aK;have bM:=hide aL;have hW:=hide hm;obtain⟨A,hA⟩:=eo ([a,b,c,d]);have XW:Hid (val A=n):=by rw[hA];exact hn
 have nL:Hid (A.length=4):=by rw[hA];exact rfl
 have c0:=hide hA;obtain⟨bt,az,aU,a_,f0,f1,f2,f3⟩:=lM.four;clear aK rX aL hn hm hA;go_enter Tryz.func125,Tryz.ntmps125
 go_wp2_with fail
 rw[<-aB.out];clear aB;go_loopw [12] (fun i wr=>∃ (k:Nat) (L:List Nat),i=.int .i64 k/\k<=4/\Hid (L.length=8)/\cp L/\Hid (val L=val (A.take k)*m)/\Hid (L.drop (k+4)=List.replicate (4-k) 0)/\cn wr (w.heap.size+1+1+1) 143 L/\b3 (w.heap.size+1+1+1) W wr) (fun i _=>4-(intOf i).toNat)
 case atStart=>exact⟨0,[0,0,0,0,0,0,0,0],rfl,by omega,rfl,by(intro x hx;simp at hx;omega),by(unfold Hid;simp[val]),rfl,nI,b3.refl _ _⟩
 case round =>
  obtain⟨k,L,rfl,aE,cz,k9,bV,eQ,ie,ef⟩:=hrel;by_cases vC:k<4
  ·have LH:k<A.length:=by rw[nL.out];omega
   obtain⟨f',hf⟩:∃ f',A[k]=f':=⟨_,rfl⟩;have hidx:∀ w,(Instr.index 130 (.agg #[a,b,c,d]) (.int .i64 (k:Int))).run CW w=.ok (.int .u64 (f':Int)) w:=by
    have e:=c0.out;subst e;exact TJ a b c d k f' LH hf
   have CJ:f'<18446744073709551616:=by
    have e:=c0.out;subst e;rw[<-hf];exact jg hw k LH
   have fg:=hide hf;have au:=cU.c7 ef (by omega);obtain⟨d0,d1,d2,d3,g0,g1,g2,g3⟩:=au.four;clear hf;have hsl:=VZ 143 8 (w.heap.size+1+1+1) k ((k:Int)+4) (k+4) (by omega) (by kernel_rfl) (by kernel_rfl) (by kernel_rfl) (by omega) (by omega) (by omega);rw[show k+4-k=4 by omega] at hsl;have aeU:IntKind.i64.wrap ((k:Int)+4)=(k:Int)+4:=by rw[IntKind.wrap_i64];omega
   have apX:(0:Int)<=(k:Int)+4:=by omega
   have apY:(k:Int)+4<8:=by omega
   have apZ:((k:Int)+4).toNat=k+4:=by omega
   have Iz:Hid (L.take k++(L.drop k).take 4++L.drop (k+4)=L):=by
    unfold Hid;rw[List.append_assoc,<-List.drop_drop,List.take_append_drop,List.take_append_drop]
   have IG:Hid (cn wr (w.heap.size+1+1+1) 143 (L.take k++(L.drop k).take 4++L.drop (k+4))):=by rw[Iz.out];exact ie
   have T1:Hid ((L.take k).length=k):=by unfold Hid;rw[List.length_take,cz.out];omega
   have kr:Hid (((L.drop k).take 4).length=4):=by unfold Hid;rw[List.length_take,List.length_drop,cz.out];omega
   have bZ:cp ((L.drop k).take 4):=um (Pv k9 k) 4;have bq:Hid (∀ (c:Nat) (os:List Nat),os.length=4->c<18446744073709551616->cp os->val os+18446744073709551616 ^ 4*c=val ((L.drop k).take 4)+val [e,f,g,h]*f'->_):=fun c os h1 h2 h3 h4=>agG L os A m k c f' cz.out vC bV.out eQ.out h1 (by rw[<-hW.out];exact h4) LH fg.out h2 k9 h3
   go_wp2_with fail
   go_region_with (go_at_call 134;refine(aiI (w.heap.size+1+1+1) k (8-k) e f g h f' 143 (L.take k) ((L.drop k).take 4) (L.drop (k+4)) _ IG.out.drew T1.out kr.out bZ bj CJ).mono ?_;rintro e' w' ⟨c',os,rfl,za,xo,Ei,aF,y6,SE⟩;obtain⟨c5,dz,eu,AO⟩:=bq.out c' os xo za Ei aF;have c5:=hide c5;have eu:=hide eu;have AO:=hide AO;have hcs:=y6.at (k+4) (by have:=c5.out;rw[List.length_set] at this;omega);have apu:=y6.free (k+4);have WW:=hide (y6.set (k+4) c');have yn:=hide (((ef.drew).trans SE).set (k+4) (.int .u64 (c':Int)));clear aF y6 SE xo)
   all_goals go_wp2_with fail
   all_goals exact⟨⟨k+1,_,by go_num,by omega,c5,dz,eu,AO,WW.out,yn.out⟩,by simp[intOf];omega⟩
  ·obtain rfl:k=4:=by omega
   have H1:Hid (val L=n*m):=by
    unfold Hid;rw[bV.out,List.take_of_length_le (by rw[nL.out];omega),XW.out]
   obtain⟨ai,ah,aj,ap,nT,G9,tX,tY,rfl⟩:=aal cz.out;have aR:=jF.c7 ef (by omega);have bS:=ef.ext bC (by omega);have p0:=ie.at 0 (by simp);have p1:=ie.at 1 (by simp);have p2:=ie.at 2 (by simp);have zN:=ie.at 3 (by simp);have oS:=ie.at 4 (by simp);have Ht:=ie.at 5 (by simp);have aiD:=ie.at 6 (by simp);have aiE:=ie.at 7 (by simp);have Hh:=aR.lt;have agu:w.heap.size+1+1<wr.heap.size+1:=by omega
   have aqd:=ie.lt;have aqe:w.heap.size+1+1+1<wr.heap.size+1:=by omega
   simp only[List.getElem_cons_zero,List.getElem_cons_succ] at p0 p1 p2 zN oS Ht aiD aiE;obtain⟨d0,d1,d2,d3,g0,g1,g2,g3⟩:=aR.four;clear ie ef eQ bV cz vC;have adQ:∀ bp,(Instr.arrayAt 130 (.slice (some ⟨w.heap.size+1+1+1,0,none⟩) 4 8)).run CW bp=.ok (.pointer (some ⟨w.heap.size+1+1+1,0,none⟩)) bp:=fun bp=>run_arrayAt bp 130 _ 4 _ 4 8 Tryz.underlying130 (by omega)
   have apo:∀ bp,(Instr.arrayAt 130 (.slice (some ⟨w.heap.size+1+1+1,4,none⟩) 4 4)).run CW bp=.ok (.pointer (some ⟨w.heap.size+1+1+1,4,none⟩)) bp:=fun bp=>run_arrayAt bp 130 _ 4 _ 4 4 Tryz.underlying130 (by omega)
   obtain⟨cr,nt⟩:=aM (decide (b0 nT G9 tX tY≠0));have aO:=A5 130 Tryz.underlying130 nT G9 tX tY cr nt;have iH:Hid (Ending.returned (Value.tuple #[.agg #[ai,ah,aj,ap],.bool (!cr)])=.returned (.tuple #[.agg #[ai,ah,aj,ap],.bool o])/\cp [ai,ah,aj,ap]/\b0 ai ah aj ap=(n*m)%115792089237316195423570985008687907853269984665640564039457584007913129639936):=by
    have bZ:cp [ai,ah,aj,ap]:=fun x hx=>k9 x (by simp at hx |-;omega)
    obtain⟨kM,bA,bX,en⟩:=ez bZ;have hb:=qM kM bA bX en;have he:=aam ai ah aj ap nT G9 tX tY;rw[H1.out] at he;refine⟨?_,bZ,?_⟩
    ·have e:(!cr)=o:=by
      rw[<-bM.out,<-nt];by_cases h0:b0 nT G9 tX tY=0
      ·rw[decide_eq_false (by omega),decide_eq_true (by omega)];rfl
      ·rw[decide_eq_true h0,decide_eq_false (by omega)];rfl
     rw[e]
    ·rw[he,Nat.add_mul_mod_self_left,Nat.mod_eq_of_lt hb]
   clear H1 ;clear nt;go_wp2_with fail
   go_region
   all_goals go_wp2_with fail
   all_goals go_region
   all_goals go_wp2_with fail
   all_goals exact B7 (v:=.tuple #[.agg #[ai,ah,aj,ap],.bool (!cr)]) (by simp[results,Tryz.results125,go_sem,d0,d1,d2,d3,Hh,agu]) rfl ⟨ai,ah,aj,ap,iH.out.1,iH.out.2.1,iH.out.2.2,((((o9 bS (by omega) _ _ _ _).trans (aA _ _)).trans (aA _ _)).trans (b5 _)).trans (b5 _)⟩
open Go Go.RowKit
theorem Ue(s t:Bool)(n m:Nat)(x y:Int)(hx:x=if s then -(n:Int) else n)(hy:y=if t then -(m:Int) else m) :
 (if (s != t) then -((n*m:Nat):Int) else ((n*m:Nat):Int))=x*y/\(x*y).natAbs=n*m:=by
 have e:(x*y).natAbs=n*m:=by
  rw[Int.natAbs_mul];have h1:x.natAbs=n:=by cases s<;>simp at hx<;>omega
  have h2:y.natAbs=m:=by cases t<;>simp at hy<;>omega
  rw[h1,h2]
 refine⟨?_,e⟩;subst hx;subst hy;cases s<;>cases t<;>simp[Int.neg_mul,Int.mul_neg]
theorem BJ(s t u:Bool)(h:(s != t)=u)(w:w1):(binOp .neq 4 (.bool s) (.bool t)).run CW w=.ok (.bool u) w:=by
 subst h;have e:=fun d=>run_equalIn_bool' w d 4 s t Tryz.underlying4
 simp only[binOp];simp[Op.equal,Op.maxDepth,e 9999];cases s<;>cases t<;>rfl
theorem N2(s t:Bool)(a b c d e f g h:Nat)(x y:Int)(w:w1)(hx:dg s a b c d x)(hy:dg t e f g h y) :
 AA CW 107 #[.agg #[.bool s,a,b,c,d],.agg #[.bool t,e,f,g,h]] w (oG (x*y) w):=by
 obtain⟨W,aK⟩:=eo ((((w.alloc (.cells #[.bool s,a,b,c,d] 27)).alloc (.cells #[.bool t,e,f,g,h] 27)).alloc (.cells #[false,(),(),(),()] 27)));have cO:=kF w (.cells #[.bool s,a,b,c,d] 27) (.cells #[.bool t,e,f,g,h] 27) (.cells #[false,(),(),(),()] 27);rw[<-aK] at cO;have ay:Box W w.heap.size s a b c d:=cO.1;have au:Box W (w.heap.size+1) t e f g h:=cO.2.1;have aR:Box W (w.heap.size+1+1) false 0 0 0 0:=cO.2.2;have bC:Ext w W:=by rw[aK];exact((aA _ _).trans (aA _ _)).trans (aA _ _)
 have aB:=hide aK;clear aK cO;obtain⟨n,hn⟩:=aM x.natAbs;obtain⟨m,hm⟩:=aM y.natAbs;have gL:Hid (b0 a b c d=n):=by rw[<-hn];exact hx.abs
 have hY:Hid (b0 e f g h=m):=by rw[<-hm];exact hy.abs
 have bP:=hx.qi;have nG:=hy.qi;obtain⟨u,hu⟩:=aM (s != t);have ll:Hid ((if u then -((n*m:Nat):Int) else ((n*m:Nat):Int))=x*y/\(x*y).natAbs=n*m):=by
  have h1:=hx.2.2.2.2;have h2:=hy.2.2.2.2;rw[gL.out] at h1;rw[hY.out] at h2;rw[<-hu];exact Ue s t n m x y h1 h2
 have xr:=BJ s t u hu;clear hn hm hx hy hu;have dY:=av ay;obtain⟨d0,d1,d2,d3,d4,g0,g1,g2,g3,g4⟩:=av au;by_cases hf:n*m<115792089237316195423570985008687907853269984665640564039457584007913129639936
 ·have bM:Hid (decide (n*m<115792089237316195423570985008687907853269984665640564039457584007913129639936)=true):=by unfold Hid;rw[decide_eq_true_iff];exact hf
  have hW:Hid ((n*m)%115792089237316195423570985008687907853269984665640564039457584007913129639936=n*m):=by unfold Hid;rw[Nat.mod_eq_of_lt hf]
  have fg:Hid ((x*y).natAbs<115792089237316195423570985008687907853269984665640564039457584007913129639936):=by rw[ll.out.2];exact hf
  clear hf;go_enter Tryz.func107,Tryz.ntmps107
  go_upto_region 1 with fail
  rw[<-aB.out];clear aB;go_wp2_with (first
   | (go_at_call 125;refine(UY a b c d e f g h n m gL.out hY.out _ bP nG).mono ?_;rintro e' w' ⟨a1,bA,nO,lp,rfl,gE,jt,ad⟩;rw[bM.out];rw[hW.out] at jt;have Xj:=hide jt;clear jt;have cD:=ay.ext ad;have c5:=au.ext ad;have dz:=aR.ext ad;have dY:=av cD;obtain⟨d0,d1,d2,d3,d4,g0,g1,g2,g3,g4⟩:=av c5;have ai:=cD.lt;have ah:=c5.lt;have aj:=dz.lt;have bS:=bC.trans ad;clear ad)
   | (go_at_call 113;refine(qN u a1 bA nO lp _ (ez gE).1 (ez gE).2.1 (ez gE).2.2.1 (ez gE).2.2.2).mono ?_;rintro e' w' ⟨s',a',b',c',d',rfl,hC,ad⟩;rw[Xj.out,ll.out.1] at hC;have bS:=(bS.trans (aA _ _)).trans ad;have eu:=(dz.ext (aA _ _)).ext ad;obtain⟨d0,d1,d2,d3,d4,g0,g1,g2,g3,g4⟩:=av eu;clear ad))
  all_goals exact B7 (v:=.tuple #[.agg #[.bool s',a',b',c',d'],.bool true]) (by simp[results,Tryz.results107,go_sem,d0,d1,d2,d3,d4]) rfl (H9 fg.out hC (dr bS (by omega) _ _ _ _ _))
 ·have bM:Hid (decide (n*m<115792089237316195423570985008687907853269984665640564039457584007913129639936)=false):=by unfold Hid;rw[decide_eq_false_iff_not];exact hf
  have fg:Hid (¬ (x*y).natAbs<115792089237316195423570985008687907853269984665640564039457584007913129639936):=by rw[ll.out.2];exact hf
  clear hf;go_enter Tryz.func107,Tryz.ntmps107
  go_upto_region 1 with fail
  rw[<-aB.out];clear aB;go_wp2_with (go_at_call 125;refine(UY a b c d e f g h n m gL.out hY.out _ bP nG).mono ?_;rintro e' w' ⟨a1,bA,nO,lp,rfl,gE,jt,ad⟩;rw[bM.out];clear jt;have dz:=aR.ext ad;have aj:=dz.lt;obtain⟨d0,d1,d2,d3,d4,g0,g1,g2,g3,g4⟩:=av dz;have bS:=bC.trans ad;clear ad)
  all_goals exact B7 (v:=.tuple #[.agg #[false,(),(),(),()],.bool false]) (by simp[results,Tryz.results107,go_sem,d0,d1,d2,d3,d4,aj]) rfl (Wr fg.out ((dr bS (by omega) _ _ _ _ _).trans (aA _ _)))
def T_:Go.Shelf.Ren:=⟨fun|134=>118|129=>119|n=>n,fun|53=>24|3=>3|4=>4|46=>83|5=>5|9=>9|n=>n,fun|n=>n⟩
theorem T9:Go.Proofs.Lays.n134 CW T_:={
 mixed:=by kernel_rfl
 f129:=Tryz.func119.trans (congrArg some (by kernel_rfl))
 f134:=Tryz.func118.trans (congrArg some (by kernel_rfl))
 t3:=Tryz.underlying3
 a3:=Tryz.isAgg3
 z3:=Tryz.sizeOf3
 v3:=Tryz.zeroValue3
 t4:=Tryz.underlying4
 a4:=Tryz.isAgg4
 z4:=Tryz.sizeOf4
 v4:=Tryz.zeroValue4
 t5:=Tryz.underlying5
 a5:=Tryz.isAgg5
 z5:=Tryz.sizeOf5
 v5:=Tryz.zeroValue5
 t9:=Tryz.underlying9
 a9:=Tryz.isAgg9
 z9:=Tryz.sizeOf9
 v9:=Tryz.zeroValue9
 t46:=Tryz.underlying83
 a46:=Tryz.isAgg83
 z46:=Tryz.sizeOf83
 v46:=Tryz.zeroValue83
 t53:=Tryz.underlying24
 a53:=Tryz.isAgg24
 z53:=Tryz.sizeOf24
 v53:=Tryz.zeroValue24 }
theorem bitLen_spec(x:Nat):x<2 ^ 64->Lib.bitLen x<=64/\x<2 ^ Lib.bitLen x/\(x≠0->1<=Lib.bitLen x/\2 ^ (Lib.bitLen x-1)<=x):=by
 intro h;have key:∀ k x:Nat,x<2 ^ k->k<=64->Lib.bitLen x<=k/\x<2 ^ Lib.bitLen x/\(x≠0->1<=Lib.bitLen x/\2 ^ (Lib.bitLen x-1)<=x):=by
  intro k;induction k with
  | zero =>
   intro x hx _;have:x=0:=by omega
   subst this;decide
  | succ k ih =>
   intro x hx aE;by_cases h0:x=0
   ·subst h0;have iJ:Lib.bitLen 0=0:=by decide
    rw[iJ];exact⟨by omega,by omega,fun h=>absurd rfl h⟩
   ·have h64:x<2 ^ 64:=Nat.lt_of_lt_of_le hx (Nat.pow_le_pow_right (by omega) aE);have e:=Lib.bitLen_half x h0 h64;obtain⟨i1,i2,i3⟩:=ih (x / 2) (by rw[Nat.pow_succ] at hx;omega) (by omega);rw[e];refine⟨by omega,by rw[Nat.add_comm,Nat.pow_succ];omega,fun _=>⟨by omega,?_⟩⟩;rw[Nat.add_sub_cancel_left];by_cases h1:x / 2=0
    ·rw[h1];have:Lib.bitLen 0=0:=by decide
     rw[this];omega
    ·obtain⟨cW,cL⟩:=i3 h1;obtain⟨q,aO⟩:∃ q,Lib.bitLen (x / 2)=q+1:=⟨_,(Nat.sub_add_cancel cW).symm⟩;rw[aO] at cL |-;simp only[Nat.add_sub_cancel] at cL;rw[Nat.pow_succ];omega
 exact key 64 x h (by omega)
theorem Rv(x:Nat)(w:w1)(hx:x<18446744073709551616)(h0:0<x):AA CW 118 #[.int .u64 (x:Int)] w fun e w'=>∃ s:Nat,e=.returned (.int .i64 (s:Int))/\s<64/\x*2 ^ s<18446744073709551616/\9223372036854775808<=x*2 ^ s/\w=w':=by
 refine(Go.Proofs.Any.bits_LeadingZeros64 T9 (x:Int) w (by omega) (by omega)).mono ?_;rintro e w' ⟨rfl,rfl⟩;obtain⟨i1,i2,i3⟩:=bitLen_spec x hx;obtain⟨cW,cL⟩:=i3 (by omega);have e:(64:Nat)=Lib.bitLen x+(64-Lib.bitLen x):=by omega
 refine⟨64-Lib.bitLen x,by rw[Int.toNat_natCast];congr 2;omega,by omega,?_,?_,rfl⟩
 ·have h1:x*2 ^ (64-Lib.bitLen x)<2 ^ Lib.bitLen x*2 ^ (64-Lib.bitLen x):=Nat.mul_lt_mul_of_pos_right i2 (Nat.two_pow_pos _);rw[<-Nat.pow_add,<-e] at h1;exact h1
 ·have h1:2 ^ (Lib.bitLen x-1)*2 ^ (64-Lib.bitLen x)<=x*2 ^ (64-Lib.bitLen x):=Nat.mul_le_mul_right _ cL;rw[<-Nat.pow_add,show Lib.bitLen x-1+(64-Lib.bitLen x)=63 by omega] at h1;exact h1
open Go Go.RowKit
theorem jV(x y:Nat):∃ m:Nat,IntKind.u64.wrap ((x:Int)*(y:Int))=(m:Int)/\Hid (m=x*y%18446744073709551616):=
 ⟨x*y%18446744073709551616,by rw[iT,Int.natCast_emod,Int.natCast_mul];rfl,rfl⟩
theorem lK(x:Nat):∃ m:Nat,IntKind.u64.wrap ((x:Int)*4294967296)=(m:Int)/\Hid (m=x*4294967296%18446744073709551616):=
 ⟨x*4294967296%18446744073709551616,by rw[iT,Int.natCast_emod,Int.natCast_mul];rfl,rfl⟩
theorem xX(x:Nat):∃ m:Nat,IntKind.u64.wrap (4294967296*(x:Int))=(m:Int)/\Hid (m=x*4294967296%18446744073709551616):=by
 obtain⟨m,h1,h2⟩:=lK x;exact⟨m,by rw[Int.mul_comm];exact h1,h2⟩
theorem iu(x y:Nat):∃ m:Nat,IntKind.u64.wrap ((x:Int)+(y:Int))=(m:Int)/\Hid (m=(x+y)%18446744073709551616):=
 ⟨(x+y)%18446744073709551616,by rw[iT];omega,rfl⟩
theorem oV(x y:Nat)(hy:y<=18446744073709551616):∃ m:Nat,IntKind.u64.wrap ((x:Int)-(y:Int))=(m:Int)/\Hid (m=(x+18446744073709551616-y)%18446744073709551616):=
 ⟨(x+18446744073709551616-y)%18446744073709551616,by rw[iT];omega,rfl⟩
theorem H7(x:Nat):∃ m:Nat,IntKind.u64.wrap ((x:Int)-1)=(m:Int)/\Hid (m=(x+18446744073709551615)%18446744073709551616):=
 ⟨(x+18446744073709551615)%18446744073709551616,by rw[iT];omega,rfl⟩
theorem Fm(x y:Nat):∃ m:Nat,(x:Int).tdiv (y:Int)=(m:Int)/\(x:Int) / (y:Int)=(m:Int)/\Hid (m=x / y):=
 ⟨x / y,(Int.ofNat_tdiv x y).symm,(Int.natCast_ediv x y).symm,rfl⟩
theorem xW(x:Nat)(h:x<18446744073709551616):IntKind.u64.wrap (x:Int)=(x:Int):=by rw[iT];omega
theorem BL(x y s:Nat)(hs:s<=64)(hy:y<2 ^ s)(hx:x*2 ^ s<18446744073709551616):bits .or .u64 ((x*2 ^ s:Nat):Int) (y:Int)=((x*2 ^ s+y:Nat):Int):=by
 have h64:(2:Nat) ^ s<=18446744073709551616:=Nat.le_trans (Nat.pow_le_pow_right (by omega) hs) (by decide);have bk:(BitVec.ofInt 64 ((x*2 ^ s:Nat):Int)).toNat=x*2 ^ s:=by
  rw[BitVec.ofInt_natCast,BitVec.toNat_ofNat];exact Nat.mod_eq_of_lt hx
 have e2:(BitVec.ofInt 64 (y:Int)).toNat=y:=by
  rw[BitVec.ofInt_natCast,BitVec.toNat_ofNat];exact Nat.mod_eq_of_lt (by omega)
 have fL:x*2 ^ s ||| y=x*2 ^ s+y:=by
  rw[Nat.mul_comm x,Nat.two_pow_add_eq_or_of_lt hy]
 show IntKind.u64.wrap ((BitVec.ofInt 64 ((x*2 ^ s:Nat):Int) ||| BitVec.ofInt 64 (y:Int)).toNat:Int)=_
 rw[BitVec.toNat_or,bk,e2,fL,iT];have h5:x*2 ^ s+y<18446744073709551616:=by
  by_cases h:s=64
  ·subst h;have h0:x=0:=by
    rcases Nat.eq_zero_or_pos x with h|h
    ·exact h
    ·exfalso
     have:1*2 ^ 64<=x*2 ^ 64:=Nat.mul_le_mul_right _ h;omega
   subst h0;simp;exact hy
  ·have h6:x*2 ^ s+2 ^ s<=18446744073709551616:=by
    have h7:(18446744073709551616:Nat)=2 ^ (64-s)*2 ^ s:=by rw[<-Nat.pow_add,Nat.sub_add_cancel hs]
    rw[h7] at hx |-;have h8:=Nat.lt_of_mul_lt_mul_right hx;have h9:(x+1)*2 ^ s<=2 ^ (64-s)*2 ^ s:=Nat.mul_le_mul_right _ h8;rw[Nat.add_mul,Nat.one_mul] at h9;exact h9
   omega
 omega
theorem ZX(hi lo y s:Nat)(h1:hi<y)(aoP:y<18446744073709551616)(h3:lo<18446744073709551616)(hs:s<64)(bY:y*2 ^ s<18446744073709551616)(cX:9223372036854775808<=y*2 ^ s) :
 ∃ v aC cT dj lt u32 u10 u1 u0:Nat,IntKind.u64.wrap ((y:Int)*2 ^ s)=(v:Int)/\(v:Int) / 4294967296=(aC:Int)/\bits .and .u64 (v:Int) 4294967295=(cT:Int) /\
  IntKind.u64.wrap ((hi:Int)*2 ^ s)=(dj:Int)/\(lo:Int) / 2 ^ (64-s)=(lt:Int)/\bits .or .u64 (dj:Int) (lt:Int)=(u32:Int)/\IntKind.u64.wrap ((lo:Int)*2 ^ s)=(u10:Int)/\(u10:Int) / 4294967296=(u1:Int)/\bits .and .u64 (u10:Int) 4294967295=(u0:Int) /\
  Hid (v=aC*4294967296+cT/\cT<4294967296/\2147483648<=aC/\aC<4294967296/\u10=u1*4294967296+u0/\u0<4294967296/\u1<4294967296/\u32<v/\v<18446744073709551616/\u32*18446744073709551616+u10=(hi*18446744073709551616+lo)*2 ^ s/\v=y*2 ^ s):=by
 have hp:(18446744073709551616:Nat)=2 ^ s*2 ^ (64-s):=by rw[<-Nat.pow_add,show s+(64-s)=64 by omega]
 have aU:((2:Int) ^ s)=((2 ^ s:Nat):Int):=by rw[Int.natCast_pow];rfl
 have a_:((2:Int) ^ (64-s))=((2 ^ (64-s):Nat):Int):=by rw[Int.natCast_pow];rfl
 have xm:hi*2 ^ s<18446744073709551616:=Nat.lt_of_le_of_lt (Nat.mul_le_mul_right _ (Nat.le_of_lt h1)) bY;have cl:lo / 2 ^ (64-s)<2 ^ s:=by
  rw[Nat.div_lt_iff_lt_mul (Nat.two_pow_pos _),<-hp];exact h3
 refine⟨y*2 ^ s,y*2 ^ s / 4294967296,y*2 ^ s%4294967296,hi*2 ^ s,lo / 2 ^ (64-s),hi*2 ^ s+lo / 2 ^ (64-s),lo*2 ^ s%18446744073709551616,lo*2 ^ s%18446744073709551616 / 4294967296,lo*2 ^ s%18446744073709551616%4294967296,?_,?_,?_,?_,?_,?_,?_,?_,?_,?_⟩
 ·rw[aU,<-Int.natCast_mul,xW _ bY]
 ·rw[Int.natCast_ediv];rfl
 ·rw[m32,Int.natCast_emod];rfl
 ·rw[aU,<-Int.natCast_mul,xW _ xm]
 ·rw[a_,Int.natCast_ediv]
 ·exact BL hi (lo / 2 ^ (64-s)) s (by omega) cl xm
 ·rw[aU,<-Int.natCast_mul,iT,Int.natCast_emod];rfl
 ·rw[Int.natCast_ediv];rfl
 ·rw[m32,Int.natCast_emod];rfl
 ·have bk:lo*2 ^ s=lo / 2 ^ (64-s)*18446744073709551616+lo*2 ^ s%18446744073709551616:=by
   have e2:lo*2 ^ s / 18446744073709551616=lo / 2 ^ (64-s):=by
    rw[hp,Nat.mul_comm lo,Nat.mul_div_mul_left _ _ (Nat.two_pow_pos s)]
   have:=Nat.div_add_mod (lo*2 ^ s) 18446744073709551616;rw[e2] at this;omega
  have fL:hi*2 ^ s+2 ^ s<=y*2 ^ s:=by
   have:(hi+1)*2 ^ s<=y*2 ^ s:=Nat.mul_le_mul_right _ h1;rw[Nat.add_mul,Nat.one_mul] at this;exact this
  refine⟨by omega,by omega,by omega,by omega,by omega,by omega,by omega,by omega,bY,?_,rfl⟩;rw[Nat.add_mul,Nat.add_mul,Nat.mul_right_comm hi];omega
open Go Go.RowKit
def wx(u v aC c q r:Nat):Prop:=u=q*aC+r/\r<4294967296/\u*4294967296+c<(q+1)*v
theorem A0(u v aC cT c q r:Nat)(aF:v=aC*4294967296+cT)(e:u=q*aC+r):q*cT<=r*4294967296+c↔q*v<=u*4294967296+c:=by
 subst aF;subst e;rw[Nat.mul_add,Nat.add_mul,<-Nat.mul_assoc];omega
theorem ZW(u v c:Nat)(hu:u<v)(hc:c<4294967296):u*4294967296+c<4294967296*v:=by omega
theorem Gq(u v aC cT c q r:Nat)(aF:v=aC*4294967296+cT)(X7:cT<4294967296)(hu:u<v)(hc:c<4294967296)(h:wx u v aC c q r)(az:q*v<=u*4294967296+c):q<4294967296/\q*cT<=r*4294967296+c:=by
 refine⟨?_,(A0 u v aC cT c q r aF h.1).2 az⟩;have:=ZW u v c hu hc;exact Nat.lt_of_mul_lt_mul_right (Nat.lt_of_le_of_lt az this)
theorem xb(cT c q r m1 m2 m3:Nat)(DY:cT<4294967296)(hc:c<4294967296)(aO:q<4294967296)(aD:r<4294967296)(h1:m1=q*cT%18446744073709551616)(h2:m2=r*4294967296%18446744073709551616)(h3:m3=(m2+c)%18446744073709551616):m1=q*cT/\m3=r*4294967296+c:=by
 have:q*cT<=4294967295*4294967295:=Nat.mul_le_mul (by omega) (by omega);omega
theorem Gc(u v aC q r:Nat)(hJ:2147483648<=aC)(hu:u<v)(aF:v<18446744073709551616)(e:u=q*aC+r):q<18446744073709551616:=by
 have:q*1<=q*aC:=Nat.mul_le_mul_left _ (by omega);omega
theorem Gn(u v aC cT c q r:Nat)(aF:v=aC*4294967296+cT)(DY:cT<4294967296)(hJ:0<aC)(hu:u<v)(hc:c<4294967296)(h:wx u v aC c q r)(az:¬ q*v<=u*4294967296+c)(q' r':Nat)(JF:r+aC<18446744073709551616)(aoR:q<18446744073709551616)
 (D7:q'=(q+18446744073709551615)%18446744073709551616) (apO:r'=(r+aC)%18446744073709551616) :
 q'<q/\(r'<4294967296->wx u v aC c q' r')/\(4294967296<=r'->q'*v<=u*4294967296+c/\u*4294967296+c<(q'+1)*v/\q'<4294967296):=by
 have Ma:0<q:=by
  rcases Nat.eq_zero_or_pos q with h0|h0
  ·subst h0;simp at az
  ·exact h0
 have bk:q=q'+1:=by omega
 have e2:r'=r+aC:=by omega
 obtain⟨h1,h2,h3⟩:=h;have fL:u=q'*aC+r':=by rw[h1,bk,e2,Nat.add_mul];omega
 have j4:u*4294967296+c<(q'+1)*v:=by rw[<-bk];omega
 refine⟨by omega,fun h=>⟨fL,h,j4⟩,fun h=>?_⟩;have h5:q'<4294967296:=by
  have h6:q'*aC<4294967296*aC:=by omega
  exact Nat.lt_of_mul_lt_mul_right h6
 refine⟨(A0 u v aC cT c q' r' aF fL).1 ?_,j4,h5⟩;have:q'*cT<=4294967295*4294967295:=Nat.mul_le_mul (by omega) (by omega);omega
theorem Gp(u v aC cT c g a iB:Nat)(aF:v=aC*4294967296+cT)(X7:cT<4294967296)(hJ:0<aC/\aC<4294967296)(hu:u<v)(ly:v<18446744073709551616)(hc:c<4294967296)(af:g=u / aC)(ha:a=g*aC%18446744073709551616)(aD:iB=(u+18446744073709551616-a)%18446744073709551616):wx u v aC c g iB:=by
 have h1:=Nat.div_add_mod u aC;have h2:=Nat.mod_lt u hJ.1;rw[<-af,Nat.mul_comm] at h1;have h3:(g+1)*v=(g*aC+aC)*4294967296+(g+1)*cT:=by subst aF;rw[Nat.mul_add,<-Nat.mul_assoc,Nat.add_mul,Nat.one_mul]
 refine⟨by omega,by omega,?_⟩;rw[h3];omega
theorem JT(u v c q a1 a2 a3 x:Nat){aC cT u10 u0 X y s:Nat}(aF:v=aC*4294967296+cT/\cT<4294967296/\2147483648<=aC/\aC<4294967296/\u10=c*4294967296+u0/\u0<4294967296/\c<4294967296/\u<v/\v<18446744073709551616/\u*18446744073709551616+u10=X*2 ^ s/\v=y*2 ^ s)
 (aO:q*v<=u*4294967296+c/\u*4294967296+c<(q+1)*v/\q<4294967296) (h1:a1=u*4294967296%18446744073709551616) (h2:a2=(a1+c)%18446744073709551616) (h3:a3=q*v%18446744073709551616) (h4:x=(a2+18446744073709551616-a3)%18446744073709551616) :
 u*4294967296+c=q*v+x/\x<v:=by
 obtain⟨_,_,_,_,_,_,hc,hu,hb,_,_⟩:=aF;obtain⟨bQ,bY,cX⟩:=aO;rw[Nat.add_mul,Nat.one_mul] at bY;generalize q*v=t at *;omega
theorem abq(v u p c en eZ c1 cH:Nat)(aF:v<18446744073709551616)(hu:u<v)(hc:c<4294967296)(p1:p*v<=u*4294967296+c)(p2:u*4294967296+c<(p+1)*v)(h3:en=u*4294967296%18446744073709551616)(h4:eZ=(en+c)%18446744073709551616)(h5:c1=p*v%18446744073709551616)(h6:cH=(eZ+18446744073709551616-c1)%18446744073709551616) :
 u*4294967296+c=p*v+cH/\cH<v:=by
 rw[Nat.add_mul,Nat.one_mul] at p2;generalize p*v=t at *;omega
theorem abr(q p bA bX:Nat)(aO:q<4294967296)(hp:p<4294967296)(h1:bA=q*4294967296%18446744073709551616)(h2:bX=(bA+p)%18446744073709551616):bX=q*4294967296+p:=by omega
theorem abt{v u32 u1 u0 u21 q p cH:Nat}(h1:u32*4294967296+u1=q*v+u21)(h2:u21*4294967296+u0=p*v+cH):u32*18446744073709551616+(u1*4294967296+u0)=q*v*4294967296+p*v+cH:=by
 have h3:u32*18446744073709551616+u1*4294967296=q*v*4294967296+u21*4294967296:=by
  have h4:=congrArg (·*4294967296) h1;simp only[Nat.add_mul] at h4;rw[Nat.mul_assoc u32] at h4;exact h4
 rw[<-Nat.add_assoc,h3,Nat.add_assoc,h2,Nat.add_assoc]
theorem uV(hi lo y s v u32 u10 u1 u0 aC cT q p u21 bA bX en eZ c1 cH:Nat)(aF:v=aC*4294967296+cT/\cT<4294967296/\2147483648<=aC/\aC<4294967296/\u10=u1*4294967296+u0/\u0<4294967296/\u1<4294967296/\u32<v/\v<18446744073709551616/\u32*18446744073709551616+u10=(hi*18446744073709551616+lo)*2 ^ s/\v=y*2 ^ s)
 (aO:q*v<=u32*4294967296+u1/\u32*4294967296+u1<(q+1)*v/\q<4294967296) (hu:u32*4294967296+u1=q*v+u21/\u21<v) (hp:p*v<=u21*4294967296+u0/\u21*4294967296+u0<(p+1)*v/\p<4294967296) (aoO:hi<y)
 (h1:bA=q*4294967296%18446744073709551616) (h2:bX=(bA+p)%18446744073709551616) (h3:en=u21*4294967296%18446744073709551616) (h4:eZ=(en+u0)%18446744073709551616) (h5:c1=p*v%18446744073709551616) (h6:cH=(eZ+18446744073709551616-c1)%18446744073709551616) :
 (hi*18446744073709551616+lo) / y=bX/\(hi*18446744073709551616+lo)%y=cH / 2 ^ s:=by
 obtain⟨_,_,_,_,aag,eR,_,_,aeM,aaj,gO⟩:=aF;obtain⟨p1,p2,zN⟩:=hp;have eb:=abq v u21 p u0 en eZ c1 cH aeM hu.2 eR p1 p2 h3 h4 h5 h6;have e2:=abr q p bA bX aO.2.2 zN h1 h2;have JZ:(hi*18446744073709551616+lo)*2 ^ s=bX*v+cH:=by
  rw[<-aaj,aag,e2,Nat.add_mul,Nat.mul_right_comm q];exact abt hu.1 eb.1
 have hy:0<y:=by omega
 have ps:=Nat.two_pow_pos s;rw[gO,<-Nat.mul_assoc] at JZ;have adS:cH / 2 ^ s*2 ^ s=cH:=by
  have hd:2 ^ s ∣ cH:=by
   have h7:2 ^ s ∣ bX*y*2 ^ s+cH:=by rw[<-JZ];exact Nat.dvd_mul_left _ _
   exact(Nat.dvd_add_right (Nat.dvd_mul_left _ _)).1 h7
  exact Nat.div_mul_cancel hd
 have dk:hi*18446744073709551616+lo=bX*y+cH / 2 ^ s:=by
  have h8:(hi*18446744073709551616+lo)*2 ^ s=(bX*y+cH / 2 ^ s)*2 ^ s:=by rw[Nat.add_mul (bX*y),adS];exact JZ
  exact Nat.eq_of_mul_eq_mul_right ps h8
 have cl:cH / 2 ^ s<y:=by
  rw[Nat.div_lt_iff_lt_mul ps,<-gO];exact eb.2
 rw[dk];constructor
 ·rw[Nat.mul_comm,Nat.mul_add_div hy,Nat.div_eq_of_lt cl,Nat.add_zero]
 ·rw[Nat.mul_comm,Nat.mul_add_mod,Nat.mod_eq_of_lt cl]
theorem vV(b s:Nat):(b:Int) / 2 ^ s=((b / 2 ^ s:Nat):Int):=by
 rw[Int.natCast_ediv,Int.natCast_pow];rfl
theorem Rs(hi lo y:Nat)(w:w1)(h1:hi<y)(h2:y<18446744073709551616)(h3:lo<18446744073709551616)(h0:0<hi) :
 AA CW 101 #[.int .u64 (hi:Int),.int .u64 (lo:Int),.int .u64 (y:Int)] w fun e w'=>e=.returned (.tuple #[.int .u64 (((hi*18446744073709551616+lo) / y:Nat):Int),.int .u64 (((hi*18446744073709551616+lo)%y:Nat):Int)])/\w=w':=by
 have bk:((y:Int)==0)=false:=by simp;omega
 have e2:((hi:Int)==0)=false:=by simp;omega
 have fL:¬ ((y:Int)<=(hi:Int)):=by omega
 have j4:¬ (y<=hi):=by omega
 obtain⟨aQ,Lw⟩:=aM ((hi*18446744073709551616+lo) / y);obtain⟨CZ,Lx⟩:=aM ((hi*18446744073709551616+lo)%y);rw[Lw,Lx];have uB:=hide Lw;have uC:=hide Lx;clear Lw Lx;go_enter Tryz.func101,Tryz.ntmps101
 go_wp2_with (go_at_call 118;refine(Rv y _ h2 (by omega)).mono ?_;rintro e w' ⟨s,rfl,bQ,bY,cX,rfl⟩;obtain⟨v,aC,cT,dj,lt,u32,u10,u1,u0,f1,f2,f3,f4,f5,f6,f7,f8,f9,bV⟩:=ZX hi lo y s h1 h2 h3 bQ bY cX;clear bY cX;have dO:Hid (0<aC/\aC<4294967296):=(by have:=bV.out;exact⟨by omega,by omega⟩);have hJ:¬ ((aC:Int)=0):=(by have:=dO.out;omega);have fT:¬ (aC=0):=(by have:=dO.out;omega);obtain⟨g1,t11,t12,GG⟩:=Fm u32 aC;have t13:=xW g1 (by have:=GG.out;have:=bV.out;have:u32 / aC<=u32:=Nat.div_le_self _ _;omega);obtain⟨a0,as5,P3⟩:=jV g1 aC;obtain⟨i',as6,WJ⟩:=oV u32 a0 (by have:=P3.out;omega);have W3:=hide (Gp u32 v aC cT u1 g1 a0 i' bV.out.1 bV.out.2.1 dO.out bV.out.2.2.2.2.2.2.2.1 bV.out.2.2.2.2.2.2.2.2.1 bV.out.2.2.2.2.2.2.1 GG.out P3.out WJ.out))
 go_loop [15,16] (fun x1 x2=>∃ (q r:Nat),x1=.int .u64 q/\x2=.int .u64 r/\Hid (wx u32 v aC u1 q r)) (fun x1 _=>(intOf x1).toNat)
 case atStart=>exact⟨g1,i',rfl,rfl,W3.out⟩
 case round =>
  obtain⟨q,r,rfl,rfl,bq⟩:=hrel;by_cases az:q*v<=u32*4294967296+u1
  ·have k5:=Gq u32 v aC cT u1 q r bV.out.1 bV.out.2.1 bV.out.2.2.2.2.2.2.2.1 bV.out.2.2.2.2.2.2.1 bq.out az;obtain⟨m1,x1,X1⟩:=jV q cT;obtain⟨m2,x2,kK⟩:=xX r;obtain⟨m3,x3,lT⟩:=iu m2 u1;have aO:¬ ((4294967296:Int)<=(q:Int)):=by have:=k5.1;omega
   have hm:¬ ((m3:Int)<(m1:Int)):=by have:=xb cT u1 q r m1 m2 m3 bV.out.2.1 bV.out.2.2.2.2.2.2.1 k5.1 bq.out.2.1 X1.out kK.out lT.out;have h3:=k5.2;omega
   have dQ:Hid (q*v<=u32*4294967296+u1/\u32*4294967296+u1<(q+1)*v/\q<4294967296):=⟨az,bq.out.2.2,k5.1⟩;clear k5 az;obtain⟨a1,aT,cU⟩:=lK u32;obtain⟨a2,bp,jF⟩:=iu a1 u1;obtain⟨a3,w3,nI⟩:=jV q v;obtain⟨u21,bZ,ya⟩:=oV a2 a3 (by have:=nI.out;omega);have dR:=hide (JT u32 v u1 q a1 a2 a3 u21 bV.out dQ.out cU.out jF.out nI.out ya.out);obtain⟨g,t1,t2,wA⟩:=Fm u21 aC;have t3:=xW g (by have:=wA.out;have:=dR.out;have:=bV.out;have:u21 / aC<=u21:=Nat.div_le_self _ _;omega);obtain⟨a4,cg,qk⟩:=jV g aC;obtain⟨iB,b6,yb⟩:=oV u21 a4 (by have:=qk.out;omega);have ou:=hide (Gp u21 v aC cT u0 g a4 iB bV.out.1 bV.out.2.1 dO.out dR.out.2 bV.out.2.2.2.2.2.2.2.2.1 bV.out.2.2.2.2.2.1 wA.out qk.out yb.out);go_wp2_with fail
   go_loop [18,16] (fun x1 x2=>∃ (p dX:Nat),x1=.int .u64 p/\x2=.int .u64 dX/\Hid (wx u21 v aC u0 p dX)) (fun x1 _=>(intOf x1).toNat)
   case atStart=>exact⟨g,iB,rfl,rfl,ou.out⟩
   case round =>
    obtain⟨p,dX,rfl,rfl,bq⟩:=hrel;by_cases az:p*v<=u21*4294967296+u0
    ·have k5:=Gq u21 v aC cT u0 p dX bV.out.1 bV.out.2.1 dR.out.2 bV.out.2.2.2.2.2.1 bq.out az;obtain⟨m1,x1,X1⟩:=jV p cT;obtain⟨m2,x2,kK⟩:=xX dX;obtain⟨m3,x3,lT⟩:=iu m2 u0;have aO:¬ ((4294967296:Int)<=(p:Int)):=by have:=k5.1;omega
     have hm:¬ ((m3:Int)<(m1:Int)):=by have:=xb cT u0 p dX m1 m2 m3 bV.out.2.1 bV.out.2.2.2.2.2.1 k5.1 bq.out.2.1 X1.out kK.out lT.out;have h3:=k5.2;omega
     have nZ:Hid (p*v<=u21*4294967296+u0/\u21*4294967296+u0<(p+1)*v/\p<4294967296):=⟨az,bq.out.2.2,k5.1⟩;obtain⟨bA,y1,mH⟩:=lK q;obtain⟨bX,gK,kL⟩:=iu bA p;obtain⟨en,mB,mI⟩:=lK u21;obtain⟨eZ,oW,nk⟩:=iu en u0;obtain⟨c1,oX,jK⟩:=jV p v;obtain⟨cH,nH,n3⟩:=oV eZ c1 (by have:=jK.out;omega);have fg:=hide (uV hi lo y s v u32 u10 u1 u0 aC cT q p u21 bA bX en eZ c1 cH bV.out dQ.out dR.out nZ.out h1 mH.out kL.out mI.out nk.out jK.out n3.out);clear k5 az;go_wp2_with fail
     go_ret2
     exact⟨s9 (by rw[<-uB.out,fg.out.1]) (by rw[<-uC.out,fg.out.2];exact vV cH s),rfl⟩
    ·have hK:=Gn u21 v aC cT u0 p dX bV.out.1 bV.out.2.1 dO.out.1 dR.out.2 bV.out.2.2.2.2.2.1 bq.out az;obtain⟨p',fb,sk⟩:=H7 p;obtain⟨ja,z2,yE⟩:=iu dX aC;obtain⟨hp,hd,hb⟩:=hK p' ja (by have:=bq.out.2.1;have:=bV.out;omega) (Gc u21 v aC p dX bV.out.2.2.1 dR.out.2 bV.out.2.2.2.2.2.2.2.2.1 bq.out.1) sk.out yE.out;have hp:=hide hp;have hd:=hide hd;have hb:=hide hb;by_cases aO:4294967296<=p
     ·have zm:(4294967296:Int)<=(p:Int):=by omega
      by_cases aD:4294967296<=ja
      ·have px:(4294967296:Int)<=(ja:Int):=by omega
       have nZ:Hid (p'*v<=u21*4294967296+u0/\u21*4294967296+u0<(p'+1)*v/\p'<4294967296):=hb.out aD;obtain⟨bA,y1,mH⟩:=lK q;obtain⟨bX,gK,kL⟩:=iu bA p';obtain⟨en,mB,mI⟩:=lK u21;obtain⟨eZ,oW,nk⟩:=iu en u0;obtain⟨c1,oX,jK⟩:=jV p' v;obtain⟨cH,nH,n3⟩:=oV eZ c1 (by have:=jK.out;omega);have fg:=hide (uV hi lo y s v u32 u10 u1 u0 aC cT q p' u21 bA bX en eZ c1 cH bV.out dQ.out dR.out nZ.out h1 mH.out kL.out mI.out nk.out jK.out n3.out);clear az aO aD hK;go_wp2_with fail
       go_ret2
       exact⟨s9 (by rw[<-uB.out,fg.out.1]) (by rw[<-uC.out,fg.out.2];exact vV cH s),rfl⟩
      ·have px:¬ ((4294967296:Int)<=(ja:Int)):=by omega
       have eU:=hide (hd.out (by omega));have cl:p'<p:=hp.out;clear az aO aD hK;go_wp2_with fail
       exact⟨⟨p',ja,rfl,rfl,eU.out⟩,by simp[intOf];omega⟩
     ·obtain⟨m1,x1,X1⟩:=jV p cT;obtain⟨m2,x2,kK⟩:=xX dX;obtain⟨m3,x3,lT⟩:=iu m2 u0;have zm:¬ ((4294967296:Int)<=(p:Int)):=by omega
      have hm:((m3:Int)<(m1:Int)):=by
       have h4:=xb cT u0 p dX m1 m2 m3 bV.out.2.1 bV.out.2.2.2.2.2.1 (by omega) bq.out.2.1 X1.out kK.out lT.out;have h5:=A0 u21 v aC cT u0 p dX bV.out.1 bq.out.1;omega
      by_cases aD:4294967296<=ja
      ·have px:(4294967296:Int)<=(ja:Int):=by omega
       have nZ:Hid (p'*v<=u21*4294967296+u0/\u21*4294967296+u0<(p'+1)*v/\p'<4294967296):=hb.out aD;obtain⟨bA,y1,mH⟩:=lK q;obtain⟨bX,gK,kL⟩:=iu bA p';obtain⟨en,mB,mI⟩:=lK u21;obtain⟨eZ,oW,nk⟩:=iu en u0;obtain⟨c1,oX,jK⟩:=jV p' v;obtain⟨cH,nH,n3⟩:=oV eZ c1 (by have:=jK.out;omega);have fg:=hide (uV hi lo y s v u32 u10 u1 u0 aC cT q p' u21 bA bX en eZ c1 cH bV.out dQ.out dR.out nZ.out h1 mH.out kL.out mI.out nk.out jK.out n3.out);clear az aO aD hK;go_wp2_with fail
       go_ret2
       exact⟨s9 (by rw[<-uB.out,fg.out.1]) (by rw[<-uC.out,fg.out.2];exact vV cH s),rfl⟩
      ·have px:¬ ((4294967296:Int)<=(ja:Int)):=by omega
       have eU:=hide (hd.out (by omega));have cl:p'<p:=hp.out;clear az aO aD hK;go_wp2_with fail
       exact⟨⟨p',ja,rfl,rfl,eU.out⟩,by simp[intOf];omega⟩
  ·have hK:=Gn u32 v aC cT u1 q r bV.out.1 bV.out.2.1 dO.out.1 bV.out.2.2.2.2.2.2.2.1 bV.out.2.2.2.2.2.2.1 bq.out az;obtain⟨q',fb,sk⟩:=H7 q;obtain⟨r',z2,yE⟩:=iu r aC;obtain⟨hp,hd,hb⟩:=hK q' r' (by have:=bq.out.2.1;have:=bV.out;omega) (Gc u32 v aC q r bV.out.2.2.1 bV.out.2.2.2.2.2.2.2.1 bV.out.2.2.2.2.2.2.2.2.1 bq.out.1) sk.out yE.out;have hp:=hide hp;have hd:=hide hd;have hb:=hide hb;by_cases aO:4294967296<=q
   ·have zm:(4294967296:Int)<=(q:Int):=by omega
    by_cases aD:4294967296<=r'
    ·have px:(4294967296:Int)<=(r':Int):=by omega
     have dQ:Hid (q'*v<=u32*4294967296+u1/\u32*4294967296+u1<(q'+1)*v/\q'<4294967296):=hb.out aD;clear az aO aD hK;obtain⟨a1,aT,cU⟩:=lK u32;obtain⟨a2,bp,jF⟩:=iu a1 u1;obtain⟨a3,w3,nI⟩:=jV q' v;obtain⟨u21,bZ,ya⟩:=oV a2 a3 (by have:=nI.out;omega);have dR:=hide (JT u32 v u1 q' a1 a2 a3 u21 bV.out dQ.out cU.out jF.out nI.out ya.out);obtain⟨g,t1,t2,wA⟩:=Fm u21 aC;have t3:=xW g (by have:=wA.out;have:=dR.out;have:=bV.out;have:u21 / aC<=u21:=Nat.div_le_self _ _;omega);obtain⟨a4,cg,qk⟩:=jV g aC;obtain⟨iB,b6,yb⟩:=oV u21 a4 (by have:=qk.out;omega);have ou:=hide (Gp u21 v aC cT u0 g a4 iB bV.out.1 bV.out.2.1 dO.out dR.out.2 bV.out.2.2.2.2.2.2.2.2.1 bV.out.2.2.2.2.2.1 wA.out qk.out yb.out);go_wp2_with fail
     go_loop [18,16] (fun x1 x2=>∃ (p dX:Nat),x1=.int .u64 p/\x2=.int .u64 dX/\Hid (wx u21 v aC u0 p dX)) (fun x1 _=>(intOf x1).toNat)
     case atStart=>exact⟨g,iB,rfl,rfl,ou.out⟩
     case round =>
      obtain⟨p,dX,rfl,rfl,bq⟩:=hrel;by_cases az:p*v<=u21*4294967296+u0
      ·have k5:=Gq u21 v aC cT u0 p dX bV.out.1 bV.out.2.1 dR.out.2 bV.out.2.2.2.2.2.1 bq.out az;obtain⟨m1,x1,X1⟩:=jV p cT;obtain⟨m2,x2,kK⟩:=xX dX;obtain⟨m3,x3,lT⟩:=iu m2 u0;have aO:¬ ((4294967296:Int)<=(p:Int)):=by have:=k5.1;omega
       have hm:¬ ((m3:Int)<(m1:Int)):=by have:=xb cT u0 p dX m1 m2 m3 bV.out.2.1 bV.out.2.2.2.2.2.1 k5.1 bq.out.2.1 X1.out kK.out lT.out;have h3:=k5.2;omega
       have nZ:Hid (p*v<=u21*4294967296+u0/\u21*4294967296+u0<(p+1)*v/\p<4294967296):=⟨az,bq.out.2.2,k5.1⟩;obtain⟨bA,y1,mH⟩:=lK q';obtain⟨bX,gK,kL⟩:=iu bA p;obtain⟨en,mB,mI⟩:=lK u21;obtain⟨eZ,oW,nk⟩:=iu en u0;obtain⟨c1,oX,jK⟩:=jV p v;obtain⟨cH,nH,n3⟩:=oV eZ c1 (by have:=jK.out;omega);have fg:=hide (uV hi lo y s v u32 u10 u1 u0 aC cT q' p u21 bA bX en eZ c1 cH bV.out dQ.out dR.out nZ.out h1 mH.out kL.out mI.out nk.out jK.out n3.out);clear k5 az;go_wp2_with fail
       go_ret2
       exact⟨s9 (by rw[<-uB.out,fg.out.1]) (by rw[<-uC.out,fg.out.2];exact vV cH s),rfl⟩
      ·have hK:=Gn u21 v aC cT u0 p dX bV.out.1 bV.out.2.1 dO.out.1 dR.out.2 bV.out.2.2.2.2.2.1 bq.out az;obtain⟨p',fb,sk⟩:=H7 p;obtain⟨ja,z2,yE⟩:=iu dX aC;obtain⟨hp,hd,hb⟩:=hK p' ja (by have:=bq.out.2.1;have:=bV.out;omega) (Gc u21 v aC p dX bV.out.2.2.1 dR.out.2 bV.out.2.2.2.2.2.2.2.2.1 bq.out.1) sk.out yE.out;have hp:=hide hp;have hd:=hide hd;have hb:=hide hb;by_cases aO:4294967296<=p
       ·have zm:(4294967296:Int)<=(p:Int):=by omega
        by_cases aD:4294967296<=ja
        ·have px:(4294967296:Int)<=(ja:Int):=by omega
         have nZ:Hid (p'*v<=u21*4294967296+u0/\u21*4294967296+u0<(p'+1)*v/\p'<4294967296):=hb.out aD;obtain⟨bA,y1,mH⟩:=lK q';obtain⟨bX,gK,kL⟩:=iu bA p';obtain⟨en,mB,mI⟩:=lK u21;obtain⟨eZ,oW,nk⟩:=iu en u0;obtain⟨c1,oX,jK⟩:=jV p' v;obtain⟨cH,nH,n3⟩:=oV eZ c1 (by have:=jK.out;omega);have fg:=hide (uV hi lo y s v u32 u10 u1 u0 aC cT q' p' u21 bA bX en eZ c1 cH bV.out dQ.out dR.out nZ.out h1 mH.out kL.out mI.out nk.out jK.out n3.out);clear az aO aD hK;go_wp2_with fail
         go_ret2
         exact⟨s9 (by rw[<-uB.out,fg.out.1]) (by rw[<-uC.out,fg.out.2];exact vV cH s),rfl⟩
        ·have px:¬ ((4294967296:Int)<=(ja:Int)):=by omega
         have eU:=hide (hd.out (by omega));have cl:p'<p:=hp.out;clear az aO aD hK;go_wp2_with fail
         exact⟨⟨p',ja,rfl,rfl,eU.out⟩,by simp[intOf];omega⟩
       ·obtain⟨m1,x1,X1⟩:=jV p cT;obtain⟨m2,x2,kK⟩:=xX dX;obtain⟨m3,x3,lT⟩:=iu m2 u0;have zm:¬ ((4294967296:Int)<=(p:Int)):=by omega
        have hm:((m3:Int)<(m1:Int)):=by
         have h4:=xb cT u0 p dX m1 m2 m3 bV.out.2.1 bV.out.2.2.2.2.2.1 (by omega) bq.out.2.1 X1.out kK.out lT.out;have h5:=A0 u21 v aC cT u0 p dX bV.out.1 bq.out.1;omega
        by_cases aD:4294967296<=ja
        ·have px:(4294967296:Int)<=(ja:Int):=by omega
         have nZ:Hid (p'*v<=u21*4294967296+u0/\u21*4294967296+u0<(p'+1)*v/\p'<4294967296):=hb.out aD;obtain⟨bA,y1,mH⟩:=lK q';obtain⟨bX,gK,kL⟩:=iu bA p';obtain⟨en,mB,mI⟩:=lK u21;obtain⟨eZ,oW,nk⟩:=iu en u0;obtain⟨c1,oX,jK⟩:=jV p' v;obtain⟨cH,nH,n3⟩:=oV eZ c1 (by have:=jK.out;omega);have fg:=hide (uV hi lo y s v u32 u10 u1 u0 aC cT q' p' u21 bA bX en eZ c1 cH bV.out dQ.out dR.out nZ.out h1 mH.out kL.out mI.out nk.out jK.out n3.out);clear az aO aD hK;go_wp2_with fail
         go_ret2
         exact⟨s9 (by rw[<-uB.out,fg.out.1]) (by rw[<-uC.out,fg.out.2];exact vV cH s),rfl⟩
        ·have px:¬ ((4294967296:Int)<=(ja:Int)):=by omega
         have eU:=hide (hd.out (by omega));have cl:p'<p:=hp.out;clear az aO aD hK;go_wp2_with fail
         exact⟨⟨p',ja,rfl,rfl,eU.out⟩,by simp[intOf];omega⟩
    ·have px:¬ ((4294967296:Int)<=(r':Int)):=by omega
     have eU:=hide (hd.out (by omega));have cl:q'<q:=hp.out;clear az aO aD hK;go_wp2_with fail
     exact⟨⟨q',r',rfl,rfl,eU.out⟩,by simp[intOf];omega⟩
   ·obtain⟨m1,x1,X1⟩:=jV q cT;obtain⟨m2,x2,kK⟩:=xX r;obtain⟨m3,x3,lT⟩:=iu m2 u1;have zm:¬ ((4294967296:Int)<=(q:Int)):=by omega
    have hm:((m3:Int)<(m1:Int)):=by
     have h4:=xb cT u1 q r m1 m2 m3 bV.out.2.1 bV.out.2.2.2.2.2.2.1 (by omega) bq.out.2.1 X1.out kK.out lT.out;have h5:=A0 u32 v aC cT u1 q r bV.out.1 bq.out.1;omega
    by_cases aD:4294967296<=r'
    ·have px:(4294967296:Int)<=(r':Int):=by omega
     have dQ:Hid (q'*v<=u32*4294967296+u1/\u32*4294967296+u1<(q'+1)*v/\q'<4294967296):=hb.out aD;clear az aO aD hK;obtain⟨a1,aT,cU⟩:=lK u32;obtain⟨a2,bp,jF⟩:=iu a1 u1;obtain⟨a3,w3,nI⟩:=jV q' v;obtain⟨u21,bZ,ya⟩:=oV a2 a3 (by have:=nI.out;omega);have dR:=hide (JT u32 v u1 q' a1 a2 a3 u21 bV.out dQ.out cU.out jF.out nI.out ya.out);obtain⟨g,t1,t2,wA⟩:=Fm u21 aC;have t3:=xW g (by have:=wA.out;have:=dR.out;have:=bV.out;have:u21 / aC<=u21:=Nat.div_le_self _ _;omega);obtain⟨a4,cg,qk⟩:=jV g aC;obtain⟨iB,b6,yb⟩:=oV u21 a4 (by have:=qk.out;omega);have ou:=hide (Gp u21 v aC cT u0 g a4 iB bV.out.1 bV.out.2.1 dO.out dR.out.2 bV.out.2.2.2.2.2.2.2.2.1 bV.out.2.2.2.2.2.1 wA.out qk.out yb.out);go_wp2_with fail
     go_loop [18,16] (fun x1 x2=>∃ (p dX:Nat),x1=.int .u64 p/\x2=.int .u64 dX/\Hid (wx u21 v aC u0 p dX)) (fun x1 _=>(intOf x1).toNat)
     case atStart=>exact⟨g,iB,rfl,rfl,ou.out⟩
     case round =>
      obtain⟨p,dX,rfl,rfl,bq⟩:=hrel;by_cases az:p*v<=u21*4294967296+u0
      ·have k5:=Gq u21 v aC cT u0 p dX bV.out.1 bV.out.2.1 dR.out.2 bV.out.2.2.2.2.2.1 bq.out az;obtain⟨m1,x1,X1⟩:=jV p cT;obtain⟨m2,x2,kK⟩:=xX dX;obtain⟨m3,x3,lT⟩:=iu m2 u0;have aO:¬ ((4294967296:Int)<=(p:Int)):=by have:=k5.1;omega
       have hm:¬ ((m3:Int)<(m1:Int)):=by have:=xb cT u0 p dX m1 m2 m3 bV.out.2.1 bV.out.2.2.2.2.2.1 k5.1 bq.out.2.1 X1.out kK.out lT.out;have h3:=k5.2;omega
       have nZ:Hid (p*v<=u21*4294967296+u0/\u21*4294967296+u0<(p+1)*v/\p<4294967296):=⟨az,bq.out.2.2,k5.1⟩;obtain⟨bA,y1,mH⟩:=lK q';obtain⟨bX,gK,kL⟩:=iu bA p;obtain⟨en,mB,mI⟩:=lK u21;obtain⟨eZ,oW,nk⟩:=iu en u0;obtain⟨c1,oX,jK⟩:=jV p v;obtain⟨cH,nH,n3⟩:=oV eZ c1 (by have:=jK.out;omega);have fg:=hide (uV hi lo y s v u32 u10 u1 u0 aC cT q' p u21 bA bX en eZ c1 cH bV.out dQ.out dR.out nZ.out h1 mH.out kL.out mI.out nk.out jK.out n3.out);clear k5 az;go_wp2_with fail
       go_ret2
       exact⟨s9 (by rw[<-uB.out,fg.out.1]) (by rw[<-uC.out,fg.out.2];exact vV cH s),rfl⟩
      ·have hK:=Gn u21 v aC cT u0 p dX bV.out.1 bV.out.2.1 dO.out.1 dR.out.2 bV.out.2.2.2.2.2.1 bq.out az;obtain⟨p',fb,sk⟩:=H7 p;obtain⟨ja,z2,yE⟩:=iu dX aC;obtain⟨hp,hd,hb⟩:=hK p' ja (by have:=bq.out.2.1;have:=bV.out;omega) (Gc u21 v aC p dX bV.out.2.2.1 dR.out.2 bV.out.2.2.2.2.2.2.2.2.1 bq.out.1) sk.out yE.out;have hp:=hide hp;have hd:=hide hd;have hb:=hide hb;by_cases aO:4294967296<=p
       ·have zm:(4294967296:Int)<=(p:Int):=by omega
        by_cases aD:4294967296<=ja
        ·have px:(4294967296:Int)<=(ja:Int):=by omega
         have nZ:Hid (p'*v<=u21*4294967296+u0/\u21*4294967296+u0<(p'+1)*v/\p'<4294967296):=hb.out aD;obtain⟨bA,y1,mH⟩:=lK q';obtain⟨bX,gK,kL⟩:=iu bA p';obtain⟨en,mB,mI⟩:=lK u21;obtain⟨eZ,oW,nk⟩:=iu en u0;obtain⟨c1,oX,jK⟩:=jV p' v;obtain⟨cH,nH,n3⟩:=oV eZ c1 (by have:=jK.out;omega);have fg:=hide (uV hi lo y s v u32 u10 u1 u0 aC cT q' p' u21 bA bX en eZ c1 cH bV.out dQ.out dR.out nZ.out h1 mH.out kL.out mI.out nk.out jK.out n3.out);clear az aO aD hK;go_wp2_with fail
         go_ret2
         exact⟨s9 (by rw[<-uB.out,fg.out.1]) (by rw[<-uC.out,fg.out.2];exact vV cH s),rfl⟩
        ·have px:¬ ((4294967296:Int)<=(ja:Int)):=by omega
         have eU:=hide (hd.out (by omega));have cl:p'<p:=hp.out;clear az aO aD hK;go_wp2_with fail
         exact⟨⟨p',ja,rfl,rfl,eU.out⟩,by simp[intOf];omega⟩
       ·obtain⟨m1,x1,X1⟩:=jV p cT;obtain⟨m2,x2,kK⟩:=xX dX;obtain⟨m3,x3,lT⟩:=iu m2 u0;have zm:¬ ((4294967296:Int)<=(p:Int)):=by omega
        have hm:((m3:Int)<(m1:Int)):=by
         have h4:=xb cT u0 p dX m1 m2 m3 bV.out.2.1 bV.out.2.2.2.2.2.1 (by omega) bq.out.2.1 X1.out kK.out lT.out;have h5:=A0 u21 v aC cT u0 p dX bV.out.1 bq.out.1;omega
        by_cases aD:4294967296<=ja
        ·have px:(4294967296:Int)<=(ja:Int):=by omega
         have nZ:Hid (p'*v<=u21*4294967296+u0/\u21*4294967296+u0<(p'+1)*v/\p'<4294967296):=hb.out aD;obtain⟨bA,y1,mH⟩:=lK q';obtain⟨bX,gK,kL⟩:=iu bA p';obtain⟨en,mB,mI⟩:=lK u21;obtain⟨eZ,oW,nk⟩:=iu en u0;obtain⟨c1,oX,jK⟩:=jV p' v;obtain⟨cH,nH,n3⟩:=oV eZ c1 (by have:=jK.out;omega);have fg:=hide (uV hi lo y s v u32 u10 u1 u0 aC cT q' p' u21 bA bX en eZ c1 cH bV.out dQ.out dR.out nZ.out h1 mH.out kL.out mI.out nk.out jK.out n3.out);clear az aO aD hK;go_wp2_with fail
         go_ret2
         exact⟨s9 (by rw[<-uB.out,fg.out.1]) (by rw[<-uC.out,fg.out.2];exact vV cH s),rfl⟩
        ·have px:¬ ((4294967296:Int)<=(ja:Int)):=by omega
         have eU:=hide (hd.out (by omega));have cl:p'<p:=hp.out;clear az aO aD hK;go_wp2_with fail
         exact⟨⟨p',ja,rfl,rfl,eU.out⟩,by simp[intOf];omega⟩
    ·have px:¬ ((4294967296:Int)<=(r':Int)):=by omega
     have eU:=hide (hd.out (by omega));have cl:q'<q:=hp.out;clear az aO aD hK;go_wp2_with fail
     exact⟨⟨q',r',rfl,rfl,eU.out⟩,by simp[intOf];omega⟩
open Go Go.RowKit
theorem Rt(lo y:Nat)(w:w1)(h2:y<18446744073709551616)(h3:lo<18446744073709551616)(h0:0<y) :
 AA CW 101 #[.int .u64 0,.int .u64 (lo:Int),.int .u64 (y:Int)] w fun e w'=>∃ n,e=.returned (.tuple #[.int .u64 ((lo / y:Nat):Int),.int .u64 ((lo%y:Nat):Int)])/\w'=w.drewN n:=by
 have bk:((y:Int)==0)=false:=by simp;omega
 have fL:¬ ((y:Int)<=0):=by omega
 have j4:¬ (y<=0):=by omega
 have tO:¬ ((y:Int)=0):=by omega
 have uX:¬ (y=0):=by omega
 obtain⟨q,t1,t2,Q⟩:=Fm lo y;obtain⟨r,aD⟩:=aM (lo%y);have t4:(lo:Int).tmod (y:Int)=(r:Int):=by rw[<-aD];exact(Int.ofNat_tmod lo y).symm
 have t5:(lo:Int)%(y:Int)=(r:Int):=by rw[<-aD];exact(Int.natCast_emod lo y).symm
 have aO:q<18446744073709551616:=by have:=Q.out;have:lo / y<=lo:=Nat.div_le_self _ _;omega
 have nu:r<18446744073709551616:=by rw[<-aD];have:=Nat.mod_lt lo h0;omega
 have t3:=xW q aO;have t6:=xW r nu;have bq:=hide aD;rw[<-Q.out,aD];clear aD;go_enter Tryz.func101,Tryz.ntmps101
 go_wp2_with fail
 go_quiet (fail)
 go_wp2_with fail
 go_ret2
 exact⟨_,rfl,rfl⟩
def XU(q r:Nat)(w:w1)(e:axa)(w':w1):Prop:=e=.returned (.tuple #[q,r])/\Ext w w'
theorem Rr(hi lo y q r:Nat)(w:w1)(h1:hi<y)(h2:y<18446744073709551616)(h3:lo<18446744073709551616)(aO:Hid ((hi*18446744073709551616+lo) / y=q))(aD:Hid ((hi*18446744073709551616+lo)%y=r)) :
 AA CW 101 #[.int .u64 (hi:Int),.int .u64 (lo:Int),.int .u64 (y:Int)] w (XU q r w):=by
 by_cases h0:0<hi
 ·refine(Rs hi lo y w h1 h2 h3 h0).mono ?_;rintro e w' ⟨rfl,rfl⟩;exact⟨by rw[aO.out,aD.out],Ext.refl _⟩
 ·obtain rfl:hi=0:=by omega
  refine(Rt lo y w h2 h3 h1).mono ?_;rintro e w' ⟨n,rfl,rfl⟩;refine⟨?_,nR _ _⟩;have:=aO.out;have:=aD.out;simp only[Nat.zero_mul,Nat.zero_add] at *;simp[*]
def FC(L os:List Nat)(b k c:Nat):Prop:=os.length=L.length/\os.take k=L.take k/\c<b/\val (os.drop k)*b+c=val (L.drop k)
theorem FC.step{L os:List Nat}{b j c x q r:Nat}(h:FC L os b (j+1) c)(aN:j<L.length)(hx:L[j]=x)(fS:x<18446744073709551616)(hb:0<b)(aO:(c*18446744073709551616+x) / b=q)(aD:(c*18446744073709551616+x)%b=r) :
 FC L (os.set j q) b j r/\q<18446744073709551616/\r<b/\∀ h:j<os.length,os[j]=x:=by
 obtain⟨h1,h2,h3,h4⟩:=h;have tS:j<os.length:=by omega
 have e:=Nat.div_add_mod (c*18446744073709551616+x) b;rw[aO,aD] at e;have nu:r<b:=by rw[<-aD];exact Nat.mod_lt _ hb
 have oc:q<18446744073709551616:=by
  rw[<-aO,Nat.div_lt_iff_lt_mul hb];have:c*18446744073709551616+18446744073709551616<=b*18446744073709551616:=by
   have h5:(c+1)*18446744073709551616<=b*18446744073709551616:=Nat.mul_le_mul_right _ h3;omega
  have h6:18446744073709551616*b=b*18446744073709551616:=Nat.mul_comm _ _;omega
 refine⟨⟨by simpa using h1,?_,nu,?_⟩,oc,nu,?_⟩
 ·rw[List.take_set_of_le (Nat.le_refl _)];have:=congrArg (List.take j) h2;rw[List.take_take,List.take_take,Nat.min_eq_left (by omega)] at this
  exact this
 ·rw[tu _ j (by simpa using tS),tu L j aN,List.getElem_set_self,List.drop_set_of_lt (by omega),hx,<-h4,Nat.add_mul,Nat.mul_assoc];generalize val (os.drop (j+1))*b=z at *;rw[Nat.mul_comm b q] at e;omega
 ·intro h0;have:=congrArg (fun l=>l[j]?) h2;simp only[List.getElem?_take,Nat.lt_succ_self,if_true] at this
  rw[List.getElem?_eq_getElem h0,List.getElem?_eq_getElem aN,hx] at this
  exact Option.some.inj this
def WO(n b:Nat)(w:w1)(e:axa)(w':w1):Prop:=∃ a1 bA az d1 r:Nat,e=.returned (.tuple #[.agg #[a1,bA,az,d1],.int .u64 (r:Int)])/\cp [a1,bA,az,d1]/\b0 a1 bA az d1=n / b/\r=n%b/\Ext w w'
theorem aiW(a b c d n y:Nat)(hn:b0 a b c d=n)(w:w1)(hw:cp [a,b,c,d])(hy:0<y)(xy:y<18446744073709551616) :
 AA CW 140 #[.agg #[a,b,c,d],.int .u64 (y:Int)] w (WO n y w):=by
 have H1:=e1 w (.cells #[a,b,c,d] 130) (.cells #[(),(),(),()] 130);obtain⟨W,aK⟩:=eo ((w.alloc (.cells #[a,b,c,d] 130)).alloc (.cells #[(),(),(),()] 130));have bC:Ext w W:=by rw[aK];exact(aA _ _).trans (aA _ _)
 rw[<-aK] at H1;obtain⟨L,br⟩:=eo ([a,b,c,d]);have lM:cn W w.heap.size 130 L:=by rw[br];exact H1.1
 have cU:cn W (w.heap.size+1) 130 [0,0,0,0]:=H1.2;have cz:Hid (L.length=4):=by rw[br];exact rfl
 have q4:Hid (val L=n):=by rw[br];exact hn
 rw[<-br] at hw;have aB:=hide aK;clear aK H1 br hn;go_enter Tryz.func140,Tryz.ntmps140
 go_wp2_with fail
 rw[<-aB.out];clear aB;go_loopw [7,6] (fun i t wr=>∃ (k c:Nat) (os:List Nat),i=.int .i64 ((k:Int)-1)/\t=.int .u64 c/\k<=4/\Hid (FC L os y k c)/\cp os/\cn wr w.heap.size 130 os/\b3 w.heap.size W wr) (fun i _ _=>(intOf i+1).toNat)
 case atStart=>exact⟨4,0,L,rfl,rfl,by omega,⟨rfl,rfl,hy,by rw[List.drop_of_length_le (by rw[cz.out];omega)];simp[val]⟩,hw,lM,b3.refl _ _⟩
 case round =>
  obtain⟨k,c,os,rfl,rfl,aE,bq,gU,hA,ef⟩:=hrel;have bM:Hid (os.length=4):=bq.out.1.trans cz.out;by_cases qE:k=0
  ·subst qE;have au:=cU.c7 ef (by omega);have bS:=ef.ext bC (Nat.le_refl _);have H1:Hid (val os=n / y/\c=n%y):=by
    obtain⟨_,_,h3,h4⟩:=bq.out;rw[List.drop_zero,List.drop_zero,q4.out] at h4;rw[<-h4];constructor
    ·rw[Nat.mul_comm,Nat.mul_add_div hy,Nat.div_eq_of_lt h3,Nat.add_zero]
    ·rw[Nat.mul_comm,Nat.mul_add_mod,Nat.mod_eq_of_lt h3]
   obtain⟨a1,bA,az,d1,rfl⟩:=A8 bM.out;obtain⟨bt,nO,aU,a_,f0,f1,f2,f3⟩:=hA.four;obtain⟨d0,lp,d2,d3,g0,g1,g2,g3⟩:=au.four;clear ef hA au;go_wp2_with fail
   exact B7 (v:=.tuple #[.agg #[a1,bA,az,d1],.int .u64 (c:Int)]) (by simp[results,Tryz.results140,go_sem,d0,lp,d2,d3]) rfl ⟨a1,bA,az,d1,c,rfl,gU,H1.out.1,H1.out.2,o9 bS (by omega) _ _ _ _⟩
  ·obtain⟨j,rfl⟩:∃ j,k=j+1:=⟨k-1,by omega⟩;have aN:j<L.length:=by rw[cz.out];omega
   have tS:j<os.length:=by rw[bM.out];omega
   obtain⟨x,hx⟩:=aM (L[j]);have fS:x<18446744073709551616:=by rw[<-hx];exact jg hw j aN
   obtain⟨q,aO⟩:=aM ((c*18446744073709551616+x) / y);obtain⟨r,aD⟩:=aM ((c*18446744073709551616+x)%y);obtain⟨hS,fb,z2,z3⟩:=bq.out.step aN hx fS hy aO aD;have fZ:=hA.at j tS;have lq:=hA.free j;rw[z3 tS] at fZ;have adV:c<y:=bq.out.2.2.1;have dQ:=hide aO;have IK:=hide aD;have cG:=hide hS;have c0:=hide hA;have dR:=hide ef;have afY:=hA.lt;clear aO aD hx hS z3 hA ef;go_wp2_with (go_at_call 101;refine(Rr c x y q r _ adV xy fS dQ IK).mono ?_;rintro e' w' ⟨rfl,ad⟩;have hA2:=c0.out.ext ad;have Zi:=hA2.at j tS;have abo:=hA2.free j;have Ix:=hide (hA2.set j q);have Xd:=hide ((dR.out.trans (ad.c7 _)).set j (.int .u64 (q:Int)));clear hA2 ad)
   exact⟨⟨j,_,_,by go_num,rfl,by omega,cG,oU gU _ _ fb,Ix.out,Xd.out⟩,by simp[intOf]⟩
open Go Go.RowKit
theorem aic(x y s:Nat)(hs:s<=64)(hy:y<2 ^ s)(hx:x*2 ^ s<18446744073709551616):bits .or .u64 (y:Int) ((x*2 ^ s:Nat):Int)=((x*2 ^ s+y:Nat):Int):=by
 rw[<-BL x y s hs hy hx];show IntKind.u64.wrap ((BitVec.ofInt 64 (y:Int) ||| BitVec.ofInt 64 ((x*2 ^ s:Nat):Int)).toNat:Int)=IntKind.u64.wrap ((BitVec.ofInt 64 ((x*2 ^ s:Nat):Int) ||| BitVec.ofInt 64 (y:Int)).toNat:Int)
 rw[BitVec.or_comm]
theorem OL(s:Nat)(hs:s<=64):(18446744073709551616:Nat)=2 ^ s*2 ^ (64-s):=by
 rw[<-Nat.pow_add,show s+(64-s)=64 by omega]
theorem VU(x s c:Nat)(hs:s<64)(hx:x<18446744073709551616)(hc:c<2 ^ s) :
 ∃ l t z:Nat,IntKind.u64.wrap ((x:Int)*2 ^ s)=(l:Int)/\bits .or .u64 (l:Int) (c:Int)=(z:Int)/\(x:Int) / 2 ^ (64-s)=(t:Int)/\Hid (z+18446744073709551616*t=x*2 ^ s+c/\z<18446744073709551616/\t<2 ^ s):=by
 have aU:((2:Int) ^ s)=((2 ^ s:Nat):Int):=by rw[Int.natCast_pow];rfl
 have a_:((2:Int) ^ (64-s))=((2 ^ (64-s):Nat):Int):=by rw[Int.natCast_pow];rfl
 have hp:=OL s (by omega);have ps:=Nat.two_pow_pos s;have pt:=Nat.two_pow_pos (64-s);have bk:=Nat.div_add_mod x (2 ^ (64-s));have hm:=Nat.mod_lt x pt;have hl:x%2 ^ (64-s)*2 ^ s<18446744073709551616:=by
  rw[hp,Nat.mul_comm (2 ^ s)];exact Nat.mul_lt_mul_of_pos_right hm ps
 have e2:x*2 ^ s=x%2 ^ (64-s)*2 ^ s+18446744073709551616*(x / 2 ^ (64-s)):=by
  have h1:=congrArg (·*2 ^ s) bk;simp only[Nat.add_mul] at h1;have h2:2 ^ (64-s)*(x / 2 ^ (64-s))*2 ^ s=18446744073709551616*(x / 2 ^ (64-s)):=by
   rw[hp,Nat.mul_right_comm,Nat.mul_comm (2 ^ (64-s)) (2 ^ s)]
  omega
 have bd:x / 2 ^ (64-s)<2 ^ s:=by rw[Nat.div_lt_iff_lt_mul pt,<-hp];exact hx
 have aL:=BL (x%2 ^ (64-s)) c s (by omega) hc hl;have hz:x%2 ^ (64-s)*2 ^ s+c<18446744073709551616:=by
  have h3:(x%2 ^ (64-s)+1)*2 ^ s<=2 ^ (64-s)*2 ^ s:=Nat.mul_le_mul_right _ hm;rw[Nat.add_mul,Nat.one_mul,Nat.mul_comm (2 ^ (64-s)),<-hp] at h3;omega
 refine⟨x%2 ^ (64-s)*2 ^ s,x / 2 ^ (64-s),x%2 ^ (64-s)*2 ^ s+c,?_,aL,?_,?_⟩
 ·rw[aU,<-Int.natCast_mul,iT,e2];omega
 ·rw[a_,Int.natCast_ediv]
 ·exact⟨by omega,hz,bd⟩
def F5(L os:List Nat)(s k c:Nat):Prop:=os.length=L.length/\os.drop k=L.drop k/\c<2 ^ s/\val (os.take k)+18446744073709551616 ^ k*c=val (L.take k)*2 ^ s
theorem F5.step{L os:List Nat}{s k c x z t:Nat}(h:F5 L os s k c)(aE:k<L.length)(hx:L[k]=x)(hz:z+18446744073709551616*t=x*2 ^ s+c/\z<18446744073709551616/\t<2 ^ s):F5 L (os.set k z) s (k+1) t:=by
 obtain⟨h1,h2,h3,h4⟩:=h;refine⟨by simpa using h1,by rw[drop_set];exact(n4 h2 (by omega) aE).2,hz.2.2,?_⟩;rw[Ad _ _ _ (by omega),nD L k aE,hx,Nat.pow_succ,Nat.add_mul,<-h4,Nat.mul_assoc,Nat.mul_assoc];have e:=congrArg (18446744073709551616 ^ k*·) hz.1;simp only[Nat.mul_add] at e;omega
def XD(n s:Nat)(w:w1)(e:axa)(w':w1):Prop:=∃ a1 bA az d1 r:Nat,e=.returned (.tuple #[.agg #[a1,bA,az,d1],.int .u64 (r:Int)])/\cp [a1,bA,az,d1]/\b0 a1 bA az d1+115792089237316195423570985008687907853269984665640564039457584007913129639936*r=n*2 ^ s/\r<2 ^ s/\Ext w w'
theorem UZ(a b c d n s:Nat)(hn:b0 a b c d=n)(w:w1)(hw:cp [a,b,c,d])(hs:s<64) :
 AA CW 141 #[.agg #[a,b,c,d],.int .u64 (s:Int)] w (XD n s w):=by
 have H1:=e1 w (.cells #[a,b,c,d] 130) (.cells #[(),(),(),()] 130);obtain⟨W,aK⟩:=eo ((w.alloc (.cells #[a,b,c,d] 130)).alloc (.cells #[(),(),(),()] 130));have bC:Ext w W:=by rw[aK];exact(aA _ _).trans (aA _ _)
 rw[<-aK] at H1;obtain⟨L,br⟩:=eo ([a,b,c,d]);have lM:cn W w.heap.size 130 L:=by rw[br];exact H1.1
 have cU:cn W (w.heap.size+1) 130 [0,0,0,0]:=H1.2;have cz:Hid (L.length=4):=by rw[br];exact rfl
 have q4:Hid (val L=n):=by rw[br];exact hn
 have Cb:=hide br;rw[<-br] at hw;have aB:=hide aK;clear aK H1 br hn;go_enter Tryz.func141,Tryz.ntmps141
 go_wp2_with fail
 rw[<-aB.out];clear aB;go_loopw [10,6] (fun i t wr=>∃ (k c:Nat) (os:List Nat),i=.int .i64 k/\t=.int .u64 c/\k<=4/\Hid (F5 L os s k c)/\cp os/\cn wr w.heap.size 130 os/\b3 w.heap.size W wr) (fun i _ _=>4-(intOf i).toNat)
 case atStart=>exact⟨0,0,L,rfl,rfl,by omega,⟨rfl,rfl,Nat.two_pow_pos _,by simp[val]⟩,hw,lM,b3.refl _ _⟩
 case round =>
  obtain⟨k,c',os,rfl,rfl,aE,bq,gU,hA,ef⟩:=hrel;have bM:Hid (os.length=4):=bq.out.1.trans cz.out;by_cases vC:k<4
  ·have LI:k<L.length:=by rw[cz.out];omega
   have aea:k<os.length:=by rw[bM.out];omega
   obtain⟨x,hx⟩:=aM (L[k]);have fS:x<18446744073709551616:=by rw[<-hx];exact jg hw k LI
   have hidx:∀ w,(Instr.index 130 (.agg #[a,b,c,d]) (.int .i64 (k:Int))).run CW w=.ok (.int .u64 (x:Int)) w:=by
    have e:=Cb.out;subst e;exact TJ a b c d k x LI hx
   obtain⟨l,t,z,fb,z2,z3,eQ⟩:=VU x s c' hs fS bq.out.2.2.1;have cG:=hide (bq.out.step LI hx eQ.out);have fZ:=hA.at k aea;have lq:=hA.free k;have c0:=hide (hA.set k z);have dR:=hide (ef.set k (.int .u64 (z:Int)));have bp:=oU gU k z eQ.out.2.1;clear hx hA ef;go_wp2_with fail
   exact⟨⟨k+1,_,_,by go_num,rfl,by omega,cG,bp,c0.out,dR.out⟩,by simp[intOf];omega⟩
  ·obtain rfl:k=4:=by omega
   have au:=cU.c7 ef (by omega);have bS:=ef.ext bC (Nat.le_refl _);have H1:Hid (val os+18446744073709551616 ^ 4*c'=n*2 ^ s):=by
    obtain⟨_,_,h3,h4⟩:=bq.out;rw[List.take_of_length_le (by rw[bM.out];omega),List.take_of_length_le (by rw[cz.out];omega),q4.out] at h4;exact h4
   obtain⟨a1,bA,az,d1,rfl⟩:=A8 bM.out;obtain⟨bt,nO,aU,a_,f0,f1,f2,f3⟩:=hA.four;obtain⟨d0,lp,d2,d3,g0,g1,g2,g3⟩:=au.four;clear ef hA au;go_wp2_with fail
   exact B7 (v:=.tuple #[.agg #[a1,bA,az,d1],.int .u64 (c':Int)]) (by simp[results,Tryz.results141,go_sem,d0,lp,d2,d3]) rfl ⟨a1,bA,az,d1,c',rfl,gU,by have h:=H1.out;rw[oS] at h;exact h,bq.out.2.2.1,o9 bS (by omega) _ _ _ _⟩
open Go Go.RowKit
theorem akQ(x s m:Nat)(hs:s<64)(hx:x<18446744073709551616)(hm:m<2 ^ s) :
 ∃ l t z o:Nat,(x:Int) / 2 ^ s=(l:Int)/\IntKind.u64.wrap ((x:Int)*2 ^ (64-s))=(t:Int)/\bits .or .u64 (l:Int) ((m*2 ^ (64-s):Nat):Int)=(z:Int)/\Hid (t=o*2 ^ (64-s)/\o<2 ^ s/\z*2 ^ s+o=x+18446744073709551616*m/\z<18446744073709551616):=by
 have aU:((2:Int) ^ s)=((2 ^ s:Nat):Int):=by rw[Int.natCast_pow];rfl
 have a_:((2:Int) ^ (64-s))=((2 ^ (64-s):Nat):Int):=by rw[Int.natCast_pow];rfl
 have hp:=OL s (by omega);have ps:=Nat.two_pow_pos s;have pt:=Nat.two_pow_pos (64-s);have hl:x / 2 ^ s<2 ^ (64-s):=by rw[Nat.div_lt_iff_lt_mul ps,Nat.mul_comm,<-hp];exact hx
 have aee:m*2 ^ (64-s)<18446744073709551616:=by rw[hp];exact Nat.mul_lt_mul_of_pos_right hm pt
 have aL:=aic m (x / 2 ^ s) (64-s) (by omega) hl aee;have bk:=Nat.div_add_mod x (2 ^ s);have h2:=Nat.mod_lt x ps;have hz:m*2 ^ (64-s)+x / 2 ^ s<18446744073709551616:=by
  have h3:(m+1)*2 ^ (64-s)<=2 ^ s*2 ^ (64-s):=Nat.mul_le_mul_right _ hm;rw[Nat.add_mul,Nat.one_mul,<-hp] at h3;omega
 have bd:x*2 ^ (64-s)%18446744073709551616=x%2 ^ s*2 ^ (64-s):=by rw[hp,Nat.mul_mod_mul_right]
 refine⟨x / 2 ^ s,x*2 ^ (64-s)%18446744073709551616,m*2 ^ (64-s)+x / 2 ^ s,x%2 ^ s,?_,?_,aL,bd,h2,?_,hz⟩
 ·rw[aU,Int.natCast_ediv]
 ·rw[a_,<-Int.natCast_mul,iT,Int.natCast_emod];rfl
 ·rw[Nat.add_mul,Nat.mul_assoc,Nat.mul_comm (2 ^ (64-s)) (2 ^ s),<-hp,Nat.mul_comm (x / 2 ^ s) (2 ^ s)];omega
def FD(L os:List Nat)(s k m:Nat):Prop:=os.length=L.length/\os.take k=L.take k/\m<2 ^ s/\val (os.drop k)*2 ^ s+m=val (L.drop k)
theorem take_at{L os:List Nat}{j x:Nat}(h:os.take (j+1)=L.take (j+1))(aN:j<L.length)(hx:L[j]=x)(h0:j<os.length):os[j]=x:=by
 have:=congrArg (fun l=>l[j]?) h;simp only[List.getElem?_take,Nat.lt_succ_self,if_true] at this
 rw[List.getElem?_eq_getElem h0,List.getElem?_eq_getElem aN,hx] at this
 exact Option.some.inj this
theorem FD.step{L os:List Nat}{s j m x z o:Nat}(h:FD L os s (j+1) m)(aN:j<L.length)(hx:L[j]=x)(aL:o<2 ^ s)(hz:z*2 ^ s+o=x+18446744073709551616*m):FD L (os.set j z) s j o:=by
 obtain⟨h1,h2,h3,h4⟩:=h;have tS:j<os.length:=by omega
 refine⟨by simpa using h1,?_,aL,?_⟩
 ·rw[List.take_set_of_le (Nat.le_refl _)];have:=congrArg (List.take j) h2;rw[List.take_take,List.take_take,Nat.min_eq_left (by omega)] at this
  exact this
 ·rw[tu _ j (by simpa using tS),tu L j aN,List.getElem_set_self,List.drop_set_of_lt (by omega),hx,<-h4,Nat.add_mul,Nat.mul_assoc];generalize val (os.drop (j+1))*2 ^ s=y at *;generalize z*2 ^ s=t at *;omega
theorem ai6(a b c d n s:Nat)(hn:b0 a b c d=n)(w:w1)(hw:cp [a,b,c,d])(hs:s<64) :
 AA CW 143 #[.agg #[a,b,c,d],.int .u64 (s:Int)] w (Rf (n / 2 ^ s) w):=by
 have H1:=e1 w (.cells #[a,b,c,d] 130) (.cells #[(),(),(),()] 130);obtain⟨W,aK⟩:=eo ((w.alloc (.cells #[a,b,c,d] 130)).alloc (.cells #[(),(),(),()] 130));have bC:Ext w W:=by rw[aK];exact(aA _ _).trans (aA _ _)
 rw[<-aK] at H1;obtain⟨L,br⟩:=eo ([a,b,c,d]);have lM:cn W w.heap.size 130 L:=by rw[br];exact H1.1
 have cU:cn W (w.heap.size+1) 130 [0,0,0,0]:=H1.2;have cz:Hid (L.length=4):=by rw[br];exact rfl
 have q4:Hid (val L=n):=by rw[br];exact hn
 rw[<-br] at hw;have aB:=hide aK;clear aK H1 br hn;go_enter Tryz.func143,Tryz.ntmps143
 go_wp2_with fail
 rw[<-aB.out];clear aB;go_loopw [6,5] (fun i t wr=>∃ (k c m:Nat) (os:List Nat),i=.int .i64 ((k:Int)-1)/\t=.int .u64 c/\k<=4/\Hid (c=m*2 ^ (64-s))/\Hid (FD L os s k m)/\cp os/\cn wr w.heap.size 130 os/\b3 w.heap.size W wr) (fun i _ _=>(intOf i+1).toNat)
 case atStart=>exact⟨4,0,0,L,rfl,rfl,by omega,by simp[Hid],⟨rfl,rfl,Nat.two_pow_pos _,by rw[List.drop_of_length_le (by rw[cz.out];omega)];simp[val]⟩,hw,lM,b3.refl _ _⟩
 case round =>
  obtain⟨k,c',m,os,rfl,rfl,aE,qX,bq,gU,hA,ef⟩:=hrel;have bM:Hid (os.length=4):=bq.out.1.trans cz.out;by_cases qE:k=0
  ·subst qE;have au:=cU.c7 ef (by omega);have bS:=ef.ext bC (Nat.le_refl _);have H1:Hid (val os=n / 2 ^ s):=by
    obtain⟨_,_,h3,h4⟩:=bq.out;rw[List.drop_zero,List.drop_zero,q4.out] at h4;unfold Hid;rw[<-h4,Nat.mul_comm,Nat.mul_add_div (Nat.two_pow_pos _),Nat.div_eq_of_lt h3,Nat.add_zero]
   obtain⟨a1,bA,az,d1,rfl⟩:=A8 bM.out;obtain⟨bt,nO,aU,a_,f0,f1,f2,f3⟩:=hA.four;obtain⟨d0,lp,d2,d3,g0,g1,g2,g3⟩:=au.four;clear ef hA au;go_wp2_with fail
   exact B7 (v:=.agg #[a1,bA,az,d1]) (by simp[results,Tryz.results143,go_sem,d0,lp,d2,d3]) rfl ⟨a1,bA,az,d1,rfl,gU,H1.out,o9 bS (by omega) _ _ _ _⟩
  ·obtain⟨j,rfl⟩:∃ j,k=j+1:=⟨k-1,by omega⟩;have aN:j<L.length:=by rw[cz.out];omega
   have tS:j<os.length:=by rw[bM.out];omega
   obtain⟨x,hx⟩:=aM (L[j]);have fS:x<18446744073709551616:=by rw[<-hx];exact jg hw j aN
   obtain⟨l,t,z,o,fb,z2,z3,eQ⟩:=akQ x s m hs fS bq.out.2.2.1;rw[<-qX.out] at z3;have cG:=hide (bq.out.step aN hx eQ.out.2.1 eQ.out.2.2.1);have fZ:=hA.at j tS;rw[take_at bq.out.2.1 aN hx tS] at fZ;have lq:=hA.free j;have c0:=hide (hA.set j z);have dR:=hide (ef.set j (.int .u64 (z:Int)));have bp:=oU gU j z eQ.out.2.2.2;have WZ:Hid (t=o*2 ^ (64-s)):=eQ.out.1;clear hx hA ef;go_wp2_with fail
   exact⟨⟨j,_,o,_,by go_num,rfl,by omega,WZ,cG,bp,c0.out,dR.out⟩,by first|(simp[intOf];done)|(simp[intOf];omega)⟩
def GM(h l t:Nat):Nat:=if t<=h then 18446744073709551615 else (h*18446744073709551616+l) / t
def Cw(p q:List Nat)(f:Nat)(os:List Nat)(k c b:Nat):Prop:=os.length=p.length/\os.drop k=p.drop k/\c<18446744073709551616/\b<=1/\val (p.take k)+18446744073709551616 ^ k*(c+b)=val (os.take k)+val (q.take k)*f
theorem Cw.step{p q os:List Nat}{f k c b x y h l ah az s bX:Nat}(aD:Cw p q f os k c b)(aE:k<p.length)(aO:k<q.length)(hx:p[k]=x)(hy:q[k]=y)(fS:x<18446744073709551616)(by':y<18446744073709551616)(CJ:f<18446744073709551616)
 (hh:y*f / 18446744073709551616=h) (hl:y*f%18446744073709551616=l) (h1:(l+c)%18446744073709551616=ah) (h2:(l+c) / 18446744073709551616=az) (h3:(x+18446744073709551616-ah-b)%18446744073709551616=s) (h4:(if x<ah+b then 1 else 0)=bX) :
 Cw p q f (os.set k s) (k+1) (h+az) bX/\h+az<18446744073709551616/\s<18446744073709551616:=by
 obtain⟨i',dX,s7,rb,qO⟩:=aD;have hp:=N6 by' CJ
 have Bi:bX<=1:=by rw[<-h4];split<;>omega
 have bk:y*f+c=ah+18446744073709551616*(h+az):=by omega
 have e2:x+18446744073709551616*bX=s+ah+b:=by rw[<-h4];split<;>omega
 have b':h+az<18446744073709551616:=by omega
 refine⟨⟨by simpa using i',by rw[drop_set];exact(n4 dX (by omega) aE).2,b',Bi,?_⟩,b',by omega⟩;rw[Ad _ _ _ (by omega),nD p k aE,nD q k aO,hx,hy,Nat.pow_succ,Nat.add_mul,Nat.mul_assoc (18446744073709551616 ^ k) y f];generalize y*f=t at *;generalize h+az=z at *;generalize 18446744073709551616 ^ k=K at *;have fL:K*(t+c)=K*(ah+18446744073709551616*z):=by rw[bk]
 have j4:K*(x+18446744073709551616*bX)=K*(s+ah+b):=by rw[e2]
 rw[Nat.mul_add,Nat.mul_add,<-Nat.mul_assoc] at fL j4;rw[Nat.mul_add K s ah] at j4;rw[Nat.mul_add] at qO |-;omega
theorem akW(p os q:List Nat)(f n c b x s bX:Nat)(aD:Cw p q f os n c b)(hp:p.length=n+1)(aO:q.length=n)(hx:∀ h:n<p.length,p[n]=x)(fS:x<18446744073709551616)(h3:(x+18446744073709551616-c-b)%18446744073709551616=s)(h4:(if x<c+b then 1 else 0)=bX) :
 val p+18446744073709551616 ^ (n+1)*bX=val (os.set n s)+val q*f/\(os.set n s).length=n+1/\s<18446744073709551616/\bX<=1:=by
 obtain⟨i',dX,s7,rb,qO⟩:=aD;have Bi:bX<=1:=by rw[<-h4];split<;>omega
 have e2:x+18446744073709551616*bX=s+c+b:=by rw[<-h4];split<;>omega
 refine⟨?_,by simp;omega,by omega,Bi⟩;have hn:n<p.length:=by omega
 have aL:n<os.length:=by omega
 have tO:=nD p n hn;have uX:=Ad os n s aL;rw[List.take_of_length_le (by omega)] at tO;rw[List.take_of_length_le (by simp;omega)] at uX;rw[List.take_of_length_le (l:=q) (by omega)] at qO;rw[tO,uX,hx hn,Nat.pow_succ];generalize 18446744073709551616 ^ n=K at *;have j4:K*(x+18446744073709551616*bX)=K*(s+c+b):=by rw[e2]
 rw[Nat.mul_add,<-Nat.mul_assoc,Nat.add_assoc,Nat.mul_add K s] at j4;omega
def XI(g n:Nat)(T:aw7)(P p Q q:List Nat)(f:Nat)(w:w1)(e:axa)(w':w1):Prop:=
 ∃ (c:Nat) (os:List Nat),e=.returned (.int .u64 (c:Int))/\c<=1/\os.length=n+1/\cp os/\val p+18446744073709551616 ^ (n+1)*c=val os+val q*f/\cn w' g T (P++os++Q)/\b3 g w w'
theorem ai8(g o n ca gX dW cb f:Nat)(T:aw7)(P p Q q:List Nat)(w:w1)(hA:cn w g T (P++p++Q))(ie:P.length=o)(hp:p.length=n+1)(aO:q.length=n)(bF:Reads w gX dW q)(dB:gX≠g)(hn:n<=1000)(wp:cp p)(qU:cp q)(hf:f<18446744073709551616) :
 AA CW 146 #[.slice (some ⟨g,o,none⟩) (n+1) ca,.slice (some ⟨gX,dW,none⟩) n cb,.int .u64 (f:Int)] w (XI g n T P p Q q f w):=by
 have dL:=hide ie;have mC:=hide hp;have na:=hide aO;have c0:=hide hA;have dx:=hide bF;clear ie hp aO hA bF;go_enter Tryz.func146,Tryz.ntmps146
 go_wp2_with fail
 go_loopw [16,7,8] (fun i t u wr=>∃ (k c b:Nat) (os:List Nat),i=.int .i64 k/\t=.int .u64 c/\u=.int .u64 b/\k<=n/\c<18446744073709551616/\b<=1/\Hid (Cw p q f os k c b)/\cp os/\Hid (cn wr g T (P++os++Q))/\b3 g w wr) (fun i _ _ _=>n-(intOf i).toNat)
 case atStart=>exact⟨0,0,0,p,rfl,rfl,rfl,by omega,by omega,by omega,⟨rfl,rfl,by omega,by omega,by simp[val]⟩,wp,c0,b3.refl _ _⟩
 case round =>
  obtain⟨k,c,b,os,rfl,rfl,rfl,aE,hc,hb,bq,gU,bM,ef⟩:=hrel;have cz:Hid (os.length=n+1):=bq.out.1.trans mC.out;have kz:k<os.length:=by rw[cz.out];omega
  have DU:k<p.length:=by rw[mC.out];omega
  have fZ:=bM.out.seg dL.out k kz;have lq:=bM.out.free (o+k);obtain⟨x,hx⟩:=aM (os[k]);have j6:p[k]=x:=by rw[<-hx];exact(n4 bq.out.2.1 kz DU).1.symm
  have fS:x<18446744073709551616:=by rw[<-hx];exact jg gU k kz
  rw[hx] at fZ;by_cases dP:k<n
  ·have qF:k<q.length:=by rw[na.out];omega
   have cb:=(dx.out.c7 ef dB).2 k qF;obtain⟨y,hy⟩:=aM (q[k]);have yH:y<18446744073709551616:=by rw[<-hy];exact jg qU k qF
   rw[hy] at cb;obtain⟨h,hh⟩:=aM (y*f / 18446744073709551616);obtain⟨l,hl⟩:=aM (y*f%18446744073709551616);obtain⟨ah,h1⟩:=aM ((l+c)%18446744073709551616);obtain⟨az,h2⟩:=aM ((l+c) / 18446744073709551616);obtain⟨s,h3⟩:=aM ((x+18446744073709551616-ah-b)%18446744073709551616);obtain⟨bX,h4⟩:=aM (if x<ah+b then 1 else 0);obtain⟨hS,fb,z2⟩:=bq.out.step DU qF j6 hy fS yH hf hh hl h1 h2 h3 h4;have p4:=Cz l c ah az h1 h2;have aeJ:=V8 x ah b s bX hb h3 h4;have Bi:bX<=1:=hS.2.2.2.1;have IC:=hide hh;have Cb:=hide hl;have cG:=hide hS;have aB:=hide (bM.out.EY dL.out k s kz);have dR:=hide (ef.set (o+k) (.int .u64 (s:Int)));have q1:(h:Int)+az<=18446744073709551615:=by omega
   clear hx hy j6 hh hl h1 h2 h3 h4 hS;go_wp2_with (go_at_call 100;refine(Jx y f h l _ yH hf IC Cb).mono ?_;rintro e' w' ⟨rfl,rfl⟩)
   exact⟨⟨k+1,_,_,_,by go_num,by go_num,rfl,by omega,fb,Bi,cG,oU gU _ _ z2,aB,dR.out⟩,by simp[intOf];omega⟩
  ·obtain rfl:k=n:=by omega
   obtain⟨s,h3⟩:=aM ((x+18446744073709551616-c-b)%18446744073709551616);obtain⟨bX,h4⟩:=aM (if x<c+b then 1 else 0);have dc:=hide (akW p os q f k c b x s bX bq.out mC.out na.out (fun _=>j6) fS h3 h4);have aeJ:=V8 x c b s bX hb h3 h4;have aB:=hide (bM.out.EY dL.out k s kz);have dR:=hide (ef.set (o+k) (.int .u64 (s:Int)));have apF:(k:Int)<(k:Int)+1:=by omega
   clear hx j6 h3 h4;go_wp2_with fail
   go_ret;exact⟨bX,os.set k s,rfl,dc.out.2.2.2,dc.out.2.1,oU gU _ _ dc.out.2.2.1,dc.out.1,aB.out,dR.out⟩
open Go Go.RowKit
theorem acg(p q:List Nat)(n g:Nat)(hp:p.length=n+1+1)(aO:q.length=n+1)(wp:cp p)(h1:n+1<p.length)(h2:n<p.length)(h3:n<q.length)(af:GM p[n+1] p[n] q[n]=g)(cl:val p<val q*18446744073709551616) :
 val p<(g+1)*val q/\g<18446744073709551616:=by
 have bk:=nD p (n+1) h1;have e2:=nD p n h2;have fL:=nD q n h3;rw[List.take_of_length_le (by omega)] at bk;rw[List.take_of_length_le (by omega)] at fL;rw[e2] at bk;have aD:=wk (p.take n) (um wp n);rw[List.length_take,Nat.min_eq_left (by omega)] at aD;have pX:=jg wp n h2;have q7:=jg wp (n+1) h1;generalize p[n+1]=h at *;generalize p[n]=l at *;generalize q[n]=t at *;unfold GM at af;by_cases bd:t<=h
 ·rw[if_pos bd] at af;subst af;rw[Nat.mul_comm];exact⟨cl,by omega⟩
 ·rw[if_neg bd] at af;have Tb:0<t:=by omega
  have hm:=Nat.div_add_mod (h*18446744073709551616+l) t;have pn:=Nat.mod_lt (h*18446744073709551616+l) Tb;rw[af] at hm;have pj:g<18446744073709551616:=by
   rw[<-af,Nat.div_lt_iff_lt_mul Tb];have h5:(h+1)*18446744073709551616<=t*18446744073709551616:=Nat.mul_le_mul_right _ (by omega);rw[Nat.add_mul] at h5;rw[Nat.mul_comm 18446744073709551616 t];omega
  refine⟨?_,pj⟩;rw[Nat.pow_succ] at bk;generalize 18446744073709551616 ^ n=K at *;have h6:h*18446744073709551616+l+1<=(g+1)*t:=by
   rw[Nat.add_mul,Nat.one_mul,Nat.mul_comm g t];omega
  have h7:K*(h*18446744073709551616+l+1)<=K*((g+1)*t):=Nat.mul_le_mul_left _ h6;rw[Nat.mul_add,Nat.mul_add,Nat.mul_one] at h7;have h8:K*18446744073709551616*h=K*(h*18446744073709551616):=by rw[Nat.mul_assoc,Nat.mul_comm 18446744073709551616 h]
  have h9:(g+1)*val q=(g+1)*val (q.take n)+K*((g+1)*t):=by rw[fL,Nat.mul_add,Nat.mul_left_comm]
  rw[h9,bk,h8];omega
def Xt(q:Nat)(w:w1)(e:axa)(w':w1):Prop:=e=.returned (.int .u64 (q:Int))/\∃ n,w'=w.drewN n
theorem YC(hi lo y q r:Nat)(w:w1)(h1:hi<y)(h2:y<18446744073709551616)(h3:lo<18446744073709551616)(aO:Hid ((hi*18446744073709551616+lo) / y=q))(aD:Hid ((hi*18446744073709551616+lo)%y=r)) :
 AA CW 101 #[.int .u64 (hi:Int),.int .u64 (lo:Int),.int .u64 (y:Int)] w fun e w'=>e=.returned (.tuple #[q,r])/\∃ n,w'=w.drewN n:=by
 by_cases h0:0<hi
 ·refine(Rs hi lo y w h1 h2 h3 h0).mono ?_;rintro e w' ⟨rfl,rfl⟩;exact⟨by rw[aO.out,aD.out],0,rfl⟩
 ·obtain rfl:hi=0:=by omega
  refine(Rt lo y w h2 h3 h1).mono ?_;rintro e w' ⟨n,rfl,rfl⟩;refine⟨?_,n,rfl⟩;have:=aO.out;have:=aD.out;simp only[Nat.zero_mul,Nat.zero_add] at *;simp[*]
theorem ai3(h l t g:Nat)(w:w1)(h2:l<18446744073709551616)(h3:t<18446744073709551616)(af:Hid (GM h l t=g)) :
 AA CW 145 #[.int .u64 (h:Int),.int .u64 (l:Int),.int .u64 (t:Int)] w (Xt g w):=by
 by_cases bd:t<=h
 ·have ae:(t:Int)<=(h:Int):=by omega
  have jY:Hid (18446744073709551615=g):=by rw[<-af.out];exact(if_pos bd).symm
  go_enter Tryz.func145,Tryz.ntmps145
  go_wp2_with fail
  go_ret;exact⟨by rw[<-jY.out];rfl,0,rfl⟩
 ·have ae:¬ ((t:Int)<=(h:Int)):=by omega
  have cl:h<t:=by omega
  obtain⟨r,aD⟩:=aM ((h*18446744073709551616+l)%t);have bq:=hide aD;have jY:Hid ((h*18446744073709551616+l) / t=g):=by rw[<-af.out];exact(if_neg bd).symm
  clear aD;go_enter Tryz.func145,Tryz.ntmps145
  go_wp2_with (go_at_call 101;refine(YC h l t g r _ cl h3 h2 jY bq).mono ?_;rintro e' w' ⟨rfl,n,rfl⟩)
  go_ret;exact⟨rfl,n,rfl⟩
def AQ(R D M:Nat)(os:List Nat)(g b:Nat):Prop:=b<=1/\R+M*b=val os+D*g/\R<(g+1)*D
theorem AQ.step{R D M:Nat}{os os2:List Nat}{g c:Nat}(h:AQ R D M os g 1)(hI:val os<M)(hc:c<=1)(he:val os2+M*c=val os+D):0<g/\AQ R D M os2 (g-1) (1-c):=by
 obtain⟨_,h2,h3⟩:=h;rw[Nat.mul_one] at h2;have af:0<g:=by
  rcases Nat.eq_zero_or_pos g with h0|h0
  ·subst h0;simp at h2;omega
  ·exact h0
 obtain⟨k,rfl⟩:∃ k,g=k+1:=⟨g-1,by omega⟩;rw[Nat.mul_add,Nat.mul_one] at h2;refine⟨af,by omega,?_,?_⟩
 ·rw[Nat.add_sub_cancel];rcases(by omega:c=0\/c=1) with rfl|rfl
  ·simp at he |-;omega
  ·simp at he |-;omega
 ·rw[Nat.add_sub_cancel,Nat.mul_comm,Nat.mul_add,Nat.mul_one];omega
theorem AQ.done{R D M:Nat}{os:List Nat}{g:Nat}(h:AQ R D M os g 0):val os=R%D/\g=R / D:=by
 obtain⟨_,h2,h3⟩:=h;rw[Nat.mul_zero,Nat.add_zero] at h2;have cl:val os<D:=by
  rw[h2,Nat.add_mul,Nat.one_mul,Nat.mul_comm] at h3;omega
 have hH:0<D:=by omega
 rw[h2,Nat.add_comm];constructor
 ·rw[Nat.mul_add_mod,Nat.mod_eq_of_lt cl]
 ·rw[Nat.mul_add_div hH,Nat.div_eq_of_lt cl,Nat.add_zero]
def XJ(g n:Nat)(T:aw7)(P p Q q:List Nat)(w:w1)(e:axa)(w':w1):Prop:=
 ∃ (d:Nat) (os:List Nat),e=.returned (.int .u64 (d:Int))/\d=val p / val q/\d<18446744073709551616/\os.length=n+1/\cp os/\val os=val p%val q/\cn w' g T (P++os++Q)/\b3 g w w'
theorem ai9(g o n ca gX dW cb:Nat)(T:aw7)(P p Q q:List Nat)(w:w1)(hA:cn w g T (P++p++Q))(ie:P.length=o)(hp:p.length=n+1+1)(aO:q.length=n+1)(bF:Reads w gX dW q)(dB:gX≠g)(hn:n<=900)(wp:cp p)(qU:cp q)(cl:val p<val q*18446744073709551616) :
 AA CW 142 #[.slice (some ⟨g,o,none⟩) (n+1+1) ca,.slice (some ⟨gX,dW,none⟩) (n+1) cb] w (XJ g (n+1) T P p Q q w):=by
 have h1:n+1<p.length:=by omega
 have h2:n<p.length:=by omega
 have h3:n<q.length:=by omega
 have az:=hA.seg ie (n+1) h1;have aU:=hA.seg ie n h2;have a_:=bF.2 n h3;obtain⟨x,hx⟩:=aM (p[n+1]);obtain⟨y,hy⟩:=aM (p[n]);obtain⟨z,hz⟩:=aM (q[n]);rw[hx] at az;rw[hy] at aU;rw[hz] at a_;obtain⟨g0,af⟩:=aM (GM x y z);have jY:=hide af;have Ql:=hide (acg p q n g0 hp aO wp h1 h2 h3 (by rw[hx,hy,hz];exact af) cl);have fS:x<18446744073709551616:=by rw[<-hx];exact jg wp _ h1
 have yH:y<18446744073709551616:=by rw[<-hy];exact jg wp _ h2
 have Gd:z<18446744073709551616:=by rw[<-hz];exact jg qU _ h3
 have Rw:=Ql.out.2;have dL:=hide ie;have mC:=hide hp;have na:=hide aO;have c0:=hide hA;have dx:=hide bF;have gE:IntKind.i64.wrap ((n:Int)+1-1)=(n:Int):=by rw[IntKind.wrap_i64];omega
 have aeO:(n:Int)+1-1=(n:Int):=by omega
 have aph:(n:Int)+1<(n:Int)+1+1:=by omega
 have apj:(n:Int)<(n:Int)+1+1:=by omega
 have apk:(n:Int)<(n:Int)+1:=by omega
 obtain⟨M,hI⟩:=aM (18446744073709551616 ^ (n+1+1));have hW:=hide hI;clear ie hp aO hA bF hx hy hz af h1 h2 h3 cl hI;go_enter Tryz.func142,Tryz.ntmps142
 go_wp2_with fail
 go_quiet ((go_at_call 145;exact Calls.quiet_of (ai3 x y z g0 _ yH Gd jY)))
 have dc:=hide (nR w nq);go_wp2_with (go_at_call 146;refine(ai8 g o (n+1) ca gX dW cb g0 T P p Q q _ (c0.out.ext dc.out) dL.out mC.out na.out (dx.out.ext dc.out) dB (by omega) wp qU Rw).mono ?_;rintro e' iD ⟨b,os,rfl,hb,hl,gU,aF,hA2,DE⟩;rw[hW.out] at aF;have dR:=hide ((dc.out.c7 g).trans DE);have Ca:=hide hA2;have bV:=hide aF;have cz:=hide hl;clear DE hA2 aF hl)
 go_loopw [6,7] (fun s t wr=>∃ (d b:Nat) (os:List Nat),s=.int .u64 d/\t=.int .u64 b/\b<=1/\d<18446744073709551616/\Hid (AQ (val p) (val q) M os d b)/\Hid (os.length=n+1+1)/\cp os/\Hid (cn wr g T (P++os++Q))/\b3 g w wr) (fun s _ _=>(intOf s).toNat)
 case atStart=>exact⟨g0,b,os,rfl,rfl,hb,Rw,⟨hb,bV.out,Ql.out.1⟩,cz,gU,Ca,dR.out⟩
 case round =>
  clear hb gU dR Ca bV cz;obtain⟨d,b,os,rfl,rfl,hb,hd,bq,cz,gU,Ca,ef⟩:=hrel;rcases(by omega:b=0\/b=1) with rfl|rfl
  ·have eU:=hide bq.out.done;go_wp2_with fail
   go_ret;exact⟨d,os,rfl,eU.out.2,hd,cz.out,gU,eU.out.1,Ca.out,ef⟩
  ·obtain⟨d',adW⟩:∃ d',d=d'+1\/d=0/\d'=0:=⟨d-1,by omega⟩;have hI:val os<M:=by
    have:=wk os gU;rw[cz.out,hW.out] at this;exact this
   have xw:=fun c os2 h1 h2=>bq.out.step (c:=c) (os2:=os2) hI h1 h2
   have IL:=hide xw;have pv:0<d:=(xw 0 [val os+val q] (by omega) (by simp[val])).1;have qD:d=d'+1:=by omega
   have apV:IntKind.u64.wrap ((d:Int)-1)=(d':Int):=by rw[iT];omega
   have apW:(d:Int)-1=(d':Int):=by omega
   have W0:=hide qD;have apr:d'<d:=by omega
   have dR:=hide ef;have aon:=hide ((dx.out.ext dc.out));clear qD adW xw hI ef;go_wp2_with (go_at_call 137;refine(UQ g o (n+1+1) ca gX dW (n+1) cb T P os Q q _ Ca.out dL.out cz.out na.out (dx.out.c7 dR.out dB) dB (by omega) (by omega) gU qU).mono ?_;rintro e' w3 ⟨aU,os2,rfl,zb,LL,anr,ly,hA3,Bg⟩;rw[hW.out] at ly;have Xb:=hide (IL.out aU os2 zb ly).2;have Ix:=hide hA3;have Xe:=hide (dR.out.trans Bg);have tE:=hide LL;have aeP:IntKind.u64.wrap (1-(aU:Int))=((1-aU:Nat):Int):=(by rw[iT];omega);have Br:(1:Int)-(aU:Int)=((1-aU:Nat):Int):=(by omega);clear hA3 Bg ly LL)
   exact⟨⟨d',1-aU,os2,rfl,rfl,by omega,by omega,by have:=Xb.out;rw[show d'=d-1 from by have:=W0.out;omega];exact this,tE.out,anr,Ix,Xe.out⟩,by simp[intOf];omega⟩
open Go Go.RowKit
def F3(q r:Nat)(w:w1)(e:axa)(w':w1):Prop:=∃ a b c d e' f g h:Nat,e=.returned (.tuple #[.agg #[a,b,c,d],.agg #[e',f,g,h]])/\cp [a,b,c,d]/\cp [e',f,g,h]/\b0 a b c d=q/\b0 e' f g h=r/\Ext w w'
theorem Kq(w:w1)(a b c d e f g h:Nat):∃ W,((((w.alloc (.cells #[a,b,c,d] 130)).alloc (.cells #[e,f,g,h] 130)).alloc (.cells #[(),(),(),()] 130)).alloc (.cells #[(),(),(),()] 130))=W /\
 cn W w.heap.size 130 [a,b,c,d]/\cn W (w.heap.size+1) 130 [e,f,g,h]/\cn W (w.heap.size+1+1) 130 [0,0,0,0]/\cn W (w.heap.size+1+1+1) 130 [0,0,0,0]/\Ext w W:=by
 have h:=Kp w (.cells #[a,b,c,d] 130) (.cells #[e,f,g,h] 130) (.cells #[(),(),(),()] 130) (.cells #[(),(),(),()] 130);exact⟨_,rfl,h.1,h.2.1,h.2.2.1,h.2.2.2,(((aA _ _).trans (aA _ _)).trans (aA _ _)).trans (aA _ _)⟩
theorem aiX(a b c d e f g h n m:Nat)(hn:b0 a b c d=n)(hm:b0 e f g h=m)(w:w1)(hw:cp [a,b,c,d])(bj:cp [e,f,g,h])(cl:n<m) :
 AA CW 133 #[.agg #[a,b,c,d],.agg #[e,f,g,h]] w (F3 (n / m) (n%m) w):=by
 obtain⟨W,aK,lM,cU,jF,nI,bC⟩:=Kq w a b c d e f g h;have aB:=hide aK;have cG:Hid (fM n m=-1):=if_pos cl;have dQ:Hid (b0 0 0 0 0=n / m/\b0 a b c d=n%m):=⟨by rw[Nat.div_eq_of_lt cl];rfl,by rw[Nat.mod_eq_of_lt cl];exact hn⟩;have dO:=hide hn;have hW:=hide hm;obtain⟨bt,az,aU,a_,f0,f1,f2,f3⟩:=lM.four;obtain⟨d0,d1,d2,d3,g0,g1,g2,g3⟩:=cU.four;clear aK hn hm cl;go_enter Tryz.func133,Tryz.ntmps133
 go_upto_region 1 with fail
 rw[aB.out];clear aB;go_wp2_with (go_at_call 127;refine(BM a b c d e f g h n m dO.out hW.out _ hw bj).mono ?_;rintro e' w' ⟨rfl,ad⟩;rw[cG.out];have cD:=lM.ext ad;have dz:=jF.ext ad;have eu:=nI.ext ad;obtain⟨bt,az,aU,a_,f0,f1,f2,f3⟩:=cD.four;obtain⟨i0,i1,i2,i3,dm,cW,cL,dn⟩:=dz.four;obtain⟨iA,bQ,bY,cX,ai,ah,aj,ap⟩:=eu.four;have bS:=bC.trans ad;clear ad)
 go_region
 all_goals go_wp2_with fail
 all_goals exact B7 (v:=.tuple #[.agg #[(),(),(),()],.agg #[a,b,c,d]]) (by simp[results,Tryz.results133,go_sem,i0,i1,i2,i3,iA,bQ,bY,cX]) rfl ⟨0,0,0,0,a,b,c,d,rfl,(by intro x hx;simp at hx;omega),hw,dQ.out.1,dQ.out.2,(o9 (o9 bS (by omega) _ _ _ _) (by omega) _ _ _ _).trans (b5 _)⟩
theorem aiZ(a b c d e f g h n m:Nat)(hn:b0 a b c d=n)(hm:b0 e f g h=m)(w:w1)(hw:cp [a,b,c,d])(bj:cp [e,f,g,h])(cl:¬ n<m)(hlen:(bg m).length=1) :
 AA CW 133 #[.agg #[a,b,c,d],.agg #[e,f,g,h]] w (F3 (n / m) (n%m) w):=by
 obtain⟨W,aK,lM,cU,jF,nI,bC⟩:=Kq w a b c d e f g h;have aec:m<18446744073709551616:=by have:=(ka (n:=m) (k:=1)).1 (by omega);simpa using this
 have SL:e=m:=by simp only[b0,val] at hm;omega
 have he:=(ez bj).1;have k4:0<e:=by
  rcases Nat.eq_zero_or_pos m with h0|h0
  ·rw[h0,oh] at hlen;simp at hlen
  ·omega
 have IB:=hide SL;have h01:(0:Int)<=fM n m:=by unfold fM;rw[if_neg cl];split<;>omega
 obtain⟨q,aO⟩:=aM (fM n m);rw[aO] at h01;have cG:=hide aO;have IE:=hide hlen;have aB:=hide aK;have dO:=hide hn;have hW:=hide hm;obtain⟨bt,az,aU,a_,f0,f1,f2,f3⟩:=lM.four;obtain⟨d0,d1,d2,d3,g0,g1,g2,g3⟩:=cU.four;clear aK hn hm SL cl aO hlen aec;go_enter Tryz.func133,Tryz.ntmps133
 go_upto_region 1 with fail
 rw[aB.out];clear aB;go_wp2_with (first
  | (go_at_call 127;refine(BM a b c d e f g h n m dO.out hW.out _ hw bj).mono ?_;rintro e' w' ⟨rfl,ad⟩;rw[cG.out];have cD:=lM.ext ad;have c5:=cU.ext ad;have dz:=jF.ext ad;have eu:=nI.ext ad;obtain⟨bt,az,aU,a_,f0,f1,f2,f3⟩:=cD.four;obtain⟨d0,d1,d2,d3,g0,g1,g2,g3⟩:=c5.four;have bS:=bC.trans ad;clear ad)
  | (go_at_call 139;refine(UX e f g h m hW.out _ bj).mono ?_;rintro e' w' ⟨rfl,ad⟩;rw[IE.out];have cD:=cD.ext ad;have c5:=c5.ext ad;have dz:=dz.ext ad;have eu:=eu.ext ad;obtain⟨bt,az,aU,a_,f0,f1,f2,f3⟩:=cD.four;obtain⟨d0,d1,d2,d3,g0,g1,g2,g3⟩:=c5.four;have bS:=bS.trans ad;clear ad)
  | (go_at_call 140;refine(aiW a b c d n e dO.out _ hw k4 he).mono ?_;rintro e' w' ⟨a1,bA,nO,lp,r,rfl,gE,aO,aD,ad⟩;rw[IB.out] at aO aD;have dQ:=hide aO;have bq:=hide aD;have dz:=dz.ext ad;have eu:=eu.ext ad;obtain⟨i0,i1,i2,i3,dm,cW,cL,dn⟩:=dz.four;obtain⟨iA,bQ,bY,cX,ai,ah,aj,ap⟩:=eu.four;have bS:=bS.trans ad;have gK:=dz.lt;have mB:=eu.lt;clear ad aO aD))
 all_goals exact B7 (v:=.tuple #[.agg #[a1,bA,nO,lp],.agg #[r,(),(),()]]) (by simp[results,Tryz.results133,go_sem,i0,i1,i2,i3,iA,bQ,bY,cX,gK,mB]) rfl ⟨a1,bA,nO,lp,r,0,0,0,rfl,gE,(by have:=bq.out;have:=Nat.mod_lt n (show 0<m by rw[<-IB.out];exact k4);have:=IB.out;intro x hx;simp at hx;omega),dQ.out,(by have:=bq.out;simp[b0,val];exact this),(o9 (o9 bS (by omega) _ _ _ _) (by omega) _ _ _ _).trans (aA _ _)⟩
open Go Go.RowKit
def yt(N D:Nat)(R Q:List Nat)(j:Nat):Prop:=R.length=5/\Q.length=4/\val Q*D+val R=N/\val (R.drop j)<D/\Q.take j=List.replicate j 0
theorem amK(Q:List Nat)(i d:Nat)(hi:i<Q.length)(h0:Q[i]=0):val (Q.set i d)=val Q+18446744073709551616 ^ i*d:=by
 have bk:=wj (Q.take i) (Q.drop i);have e2:=wj (Q.take i) (d :: Q.drop (i+1));rw[List.take_append_drop] at bk;have fL:Q.set i d=Q.take i++d :: Q.drop (i+1):=List.set_eq_take_append_cons_drop.trans (if_pos hi);rw[fL,e2,bk,List.drop_eq_getElem_cons hi,h0,val,val,List.length_take,Nat.min_eq_left (by omega),Nat.mul_add,Nat.mul_add];omega
theorem Ow(D K x y z:Nat)(h:x=y+K*z)(hx:x<D)(cQ:D<=K):z=0:=by
 rcases Nat.eq_zero_or_pos z with h0|h0
 ·exact h0
 ·exfalso
  have h1:K<=K*z:=Nat.le_mul_of_pos_right K h0;omega
theorem akI(D a x r:Nat)(ha:a<18446744073709551616)(hx:x<D)(aD:r=a+18446744073709551616*x):r<D*18446744073709551616:=by omega
theorem T7{N D K:Nat}{R Q:List Nat}{i k:Nat}(h:yt N D R Q (i+1))(aE:i+k+1<=5)(cQ:18446744073709551616 ^ k=K)(hH:D<=K)(uo:cp R) :
 val ((R.drop i).take (k+1))=val (R.drop i)/\val (R.drop i)<D*18446744073709551616/\val (R.drop (i+k+1))=0:=by
 obtain⟨h1,h2,h3,h4,h5⟩:=h;have hi:i<R.length:=by omega
 have bk:=tu R i hi;have e2:=rT (R.drop (i+1)) k (by simp;omega);rw[List.drop_drop,cQ] at e2;have hz:val (R.drop (i+1+k))=0:=Ow D K _ _ _ e2 h4 hH;rw[show i+k+1=i+1+k by omega];refine⟨?_,akI D _ _ _ (jg uo i hi) h4 bk,hz⟩;have fL:=rT (R.drop i) (k+1) (by simp;omega);rw[List.drop_drop,show i+(k+1)=i+1+k by omega,hz,Nat.mul_zero,Nat.add_zero] at fL;exact fL.symm
theorem an8(Q:List Nat)(i:Nat)(h:Q.take (i+1)=List.replicate (i+1) 0)(hi:i<Q.length):Q[i]=0:=by
 have:=congrArg (fun l=>l[i]?) h;simp only[List.getElem?_take,Nat.lt_succ_self,if_true] at this
 rw[List.getElem?_eq_getElem hi,List.getElem?_replicate,if_pos (Nat.lt_succ_self i)] at this
 exact Option.some.inj this
theorem agq(N D K wq Pq a p q r d:Nat)(h3:wq*D+Pq=N)(e:Pq=a+K*p)(hp:p=d*D+r)(aO:q=wq+K*d):q*D+(a+K*r)=N:=by
 subst aO;have h1:K*p=K*(d*D)+K*r:=by rw[hp,Nat.mul_add]
 rw[Nat.add_mul,Nat.mul_assoc];omega
theorem agt{N D K:Nat}{R Q os:List Nat}{i k d:Nat}(h:yt N D R Q (i+1))(aE:i+k+1<=5)(ad_:2<=k)(cQ:18446744073709551616 ^ k=K)(hH:D<=K)(adH:0<D)(uo:cp R)(aL:os.length=k+1)(aF:val os=val ((R.drop i).take (k+1))%D)(hd:d=val ((R.drop i).take (k+1)) / D) :
 yt N D (R.take i++os++R.drop (i+k+1)) (Q.set i d) i:=by
 obtain⟨s1,s2,s3⟩:=T7 h aE cQ hH uo;obtain⟨h1,h2,h3,h4,h5⟩:=h;rw[s1] at aF hd;have aw:(R.take i).length=i:=by simp;omega
 have bk:=rT R i (by omega);have sF:i<Q.length:=by omega
 have j4:=amK Q i d sF (an8 Q i h5 sF);have tO:val (R.take i++os++R.drop (i+k+1))=val (R.take i)+18446744073709551616 ^ i*val os:=by
  rw[wj,wj,s3,aw,Nat.mul_zero,Nat.add_zero]
 refine⟨by simp[aw,aL];omega,by simpa using h2,?_,?_,?_⟩
 ·rw[tO];have hm:=Nat.div_add_mod (val (R.drop i)) D;rw[<-hd,<-aF,Nat.mul_comm] at hm;exact agq N D (18446744073709551616 ^ i) _ _ _ _ _ _ d h3 bk hm.symm j4
 ·rw[List.append_assoc,List.drop_append_of_le_length (by omega),List.drop_of_length_le (by omega),List.nil_append,wj,s3,Nat.mul_zero,Nat.add_zero,aF];exact Nat.mod_lt _ adH
 ·rw[List.take_set_of_le (Nat.le_refl _)];have:=congrArg (List.take i) h5;rw[List.take_take,Nat.min_eq_left (by omega),List.take_replicate,Nat.min_eq_left (by omega)] at this
  exact this
theorem agr{n m s:Nat}{R Q:List Nat}(h:yt (n*2 ^ s) (m*2 ^ s) R Q 0):val Q=n / m/\val R / 2 ^ s=n%m/\val R<m*2 ^ s:=by
 obtain⟨h1,h2,h3,h4,h5⟩:=h;rw[List.drop_zero] at h4;have ps:=Nat.two_pow_pos s;have hd:2 ^ s ∣ val R:=by
  have h7:2 ^ s ∣ val Q*(m*2 ^ s)+val R:=by rw[h3];exact Nat.dvd_mul_left _ _
  exact(Nat.dvd_add_right (by rw[<-Nat.mul_assoc];exact Nat.dvd_mul_left _ _)).1 h7
 have vz:=Nat.div_mul_cancel hd;have cl:val R / 2 ^ s<m:=by rw[Nat.div_lt_iff_lt_mul ps];exact h4
 have dk:n=val Q*m+val R / 2 ^ s:=by
  have h8:n*2 ^ s=(val Q*m+val R / 2 ^ s)*2 ^ s:=by rw[Nat.add_mul (val Q*m),vz,Nat.mul_assoc];exact h3.symm
  exact Nat.eq_of_mul_eq_mul_right ps h8
 have hm:0<m:=Nat.lt_of_le_of_lt (Nat.zero_le _) cl;refine⟨?_,?_,h4⟩
 ·rw[dk,Nat.mul_comm,Nat.mul_add_div hm,Nat.div_eq_of_lt cl,Nat.add_zero]
 ·conv=>rhs;rw[dk,Nat.mul_comm,Nat.mul_add_mod,Nat.mod_eq_of_lt cl]
theorem alr(m lo K t s:Nat)(hs:s<64)(hm:m=lo+K*t)(Bm:lo<K)(bd:t*2 ^ s<18446744073709551616):m*2 ^ s<K*18446744073709551616:=by
 have hp:=OL s (by omega);have ps:=Nat.two_pow_pos s;have h1:t<2 ^ (64-s):=by
  rw[hp,Nat.mul_comm] at bd;exact Nat.lt_of_mul_lt_mul_left bd
 have h2:m<K*(t+1):=by rw[Nat.mul_add,Nat.mul_one];omega
 have h3:m*2 ^ s<K*(t+1)*2 ^ s:=Nat.mul_lt_mul_of_pos_right h2 ps;have h4:K*(t+1)*2 ^ s<=K*2 ^ (64-s)*2 ^ s:=Nat.mul_le_mul_right _ (Nat.mul_le_mul_left _ h1);rw[Nat.mul_assoc K (2 ^ (64-s)),Nat.mul_comm (2 ^ (64-s)),<-hp] at h4;exact Nat.lt_of_lt_of_le h3 h4
theorem als(M:List Nat)(m k:Nat)(hI:M.length=4)(jV:cp M)(aF:val M=m)(aE:(bg m).length=k+1)(vC:k<M.length) :
 1<=M[k]/\18446744073709551616 ^ k<=m/\∀ s,s<64->M[k]*2 ^ s<18446744073709551616->m*2 ^ s<18446744073709551616 ^ (k+1):=by
 have h1:=(ka (n:=m) (k:=k+1)).1 (by omega);have h2:¬ m<18446744073709551616 ^ k:=fun e=>by have:=ka.2 e;omega
 have bk:=rT M (k+1) (by omega);have e2:=nD M k vC;have h3:=wk (M.take k) (um jV k);rw[List.length_take,Nat.min_eq_left (by omega)] at h3;rw[aF] at bk;rw[Nat.pow_succ] at h1 bk;rw[Nat.pow_succ];generalize 18446744073709551616 ^ k=K at *;have hz:val (M.drop (k+1))=0:=Ow (K*18446744073709551616) (K*18446744073709551616) m _ _ bk h1 (Nat.le_refl _);rw[hz,Nat.mul_zero,Nat.add_zero,e2] at bk;refine⟨?_,by omega,fun s hs bd=>alr m _ K M[k] s hs bk h3 bd⟩;rcases Nat.eq_zero_or_pos M[k] with h|h
 ·rw[h,Nat.mul_zero,Nat.add_zero] at bk;omega
 ·exact h
theorem ams(U:List Nat)(r D k:Nat)(ef:U.length=4)(aE:k<=4)(aF:val U+115792089237316195423570985008687907853269984665640564039457584007913129639936*r=D)(hH:D<18446744073709551616 ^ k):val (U.take k)=D:=by
 have h4:(18446744073709551616:Nat) ^ k<=115792089237316195423570985008687907853269984665640564039457584007913129639936:=by rw[<-oS];exact Nat.pow_le_pow_right (by omega) aE
 have bk:=rT U k (by omega);generalize 18446744073709551616 ^ k=K at *;have aD:r=0:=by omega
 subst aD;rw[Nat.mul_zero,Nat.add_zero] at aF;rw[aF] at bk;have hz:=Ow K K D _ _ bk hH (Nat.le_refl _);rw[hz,Nat.mul_zero,Nat.add_zero] at bk;exact bk.symm
theorem ags(L:List Nat)(over n m s k:Nat)(br:L.length=4)(aF:val L+115792089237316195423570985008687907853269984665640564039457584007913129639936*over=n*2 ^ s)(hn:n<115792089237316195423570985008687907853269984665640564039457584007913129639936)(aE:k+1<=4)(hm:18446744073709551616 ^ k<=m) :
 yt (n*2 ^ s) (m*2 ^ s) (L++[over]) [0,0,0,0] (4-k):=by
 have ps:=Nat.two_pow_pos s;have iJ:val (L++[over])=n*2 ^ s:=by rw[xS,br,oS];exact aF
 have bk:=rT (L++[over]) (4-k) (by simp[br];omega);rw[iJ] at bk;refine⟨by simp[br],rfl,by simp[val];rw[xS,br,oS];exact aF,?_,?_⟩
 ·have hp:(115792089237316195423570985008687907853269984665640564039457584007913129639936:Nat)=18446744073709551616 ^ (4-k)*18446744073709551616 ^ k:=by rw[<-Nat.pow_add,show 4-k+k=4 by omega,oS]
  have h1:n*2 ^ s<115792089237316195423570985008687907853269984665640564039457584007913129639936*2 ^ s:=Nat.mul_lt_mul_of_pos_right hn ps;rw[hp,Nat.mul_assoc] at h1;have h2:18446744073709551616 ^ k*2 ^ s<=m*2 ^ s:=Nat.mul_le_mul_right _ hm;have h3:18446744073709551616 ^ (4-k)*val ((L++[over]).drop (4-k))<18446744073709551616 ^ (4-k)*(18446744073709551616 ^ k*2 ^ s):=Nat.lt_of_le_of_lt (by rw[bk];exact Nat.le_add_left _ _) h1;exact Nat.lt_of_lt_of_le (Nat.lt_of_mul_lt_mul_left h3) h2
 ·have:4-k=0\/4-k=1\/4-k=2\/4-k=3\/4-k=4:=by omega
  rcases this with h|h|h|h|h<;>rw[h]<;>rfl
end
end Go.Proofs.YtojbopibfflnoaaGreat
