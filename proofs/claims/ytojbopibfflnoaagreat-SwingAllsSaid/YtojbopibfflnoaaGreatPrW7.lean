/- Contracts and plain facts; each states its conditions. -/
import Derived.Test.YtojbopibfflnoaaGreatPrW4
import Derived.Test.YtojbopibfflnoaaGreatPrW6
import Derived.Laws.Cover3
namespace Go.Proofs.YtojbopibfflnoaaGreat
set_option linter.unusedVariables false
set_option linter.unusedSimpArgs false
set_option maxHeartbeats 16000000
section
open Go Go.RowKit
def FR (p q:List Nat) (f:Nat) (os:List Nat) (k c:Nat):Prop:=os.length=p.length∧os.drop k=p.drop k∧c<18446744073709551616∧val (os.take k)+18446744073709551616 ^ k*c=val (p.take k)+val (q.take k)*f
theorem FR.step {p q os:List Nat}{f k c x y h l ah az s aU:Nat} (aD:FR p q f os k c) (aE:k<p.length) (aO:k<q.length) (hx:p[k]=x) (hy:q[k]=y) (fS:x<18446744073709551616) (by':y<18446744073709551616) (CJ:f<18446744073709551616)
 (hh:y*f / 18446744073709551616=h) (hl:y*f%18446744073709551616=l) (h1:(l+c)%18446744073709551616=ah) (h2:(l+c) / 18446744073709551616=az) (h3:(x+ah)%18446744073709551616=s) (h4:(x+ah) / 18446744073709551616=aU) :
 FR p q f (os.set k s) (k+1) (h+az+aU)∧h+az+aU<18446744073709551616∧s<18446744073709551616∧az≤1∧aU≤1∧l<18446744073709551616∧ah<18446744073709551616∧h<18446744073709551616:=by
 obtain⟨i',dX,s7,qO⟩:=aD;have hp:=N6 by' CJ
 have e:x+y*f+c=s+18446744073709551616*(h+az+aU):=by omega
 have b:h+az+aU<18446744073709551616:=by omega
 refine⟨⟨by simpa using i',by rw[drop_set];exact(n4 dX (by omega) aE).2,b,?_⟩,b,by omega,by omega,by omega,by omega,by omega,by omega⟩;rw[Ad _ _ _ (by omega),nD p k aE,nD q k aO,hx,hy,Nat.pow_succ];rw[Nat.add_mul,Nat.mul_assoc (18446744073709551616 ^ k) y f];generalize y*f=t at *;generalize h+az+aU=z at *;generalize 18446744073709551616 ^ k=K at *;have e2:K*(x+t+c)=K*(s+18446744073709551616*z):=by rw[e]
 rw[Nat.mul_add,Nat.mul_add,Nat.mul_add,←Nat.mul_assoc] at e2;omega
def WK (g:Nat) (T:TypeId) (P p Q q:List Nat) (f:Nat) (w:World) (e:Ending) (w':World):Prop:=
 ∃ (c:Nat) (os:List Nat),e=.returned (.int .u64 (c:Int))∧c<18446744073709551616∧os.length=4∧cp os∧val os+18446744073709551616 ^ 4*c=val p+val q*f∧cn w' g T (P++os++Q)∧b3 g w w'
theorem aiI (g o ca a b c d f:Nat) (T:TypeId) (P p Q:List Nat) (w:World) (hA:cn w g T (P++p++Q)) (ie:P.length=o) (hp:p.length=4) (wp:cp p) (qU:cp [a,b,c,d]) (hf:f<18446744073709551616) :
 Calls Tryz.prog 134 #[.slice (some ⟨g,o,none⟩) 4 ca,.agg #[a,b,c,d],.int .u64 (f:Int)] w (WK g T P p Q [a,b,c,d] f w):=by
 have aK:=hide (Ju w 130 [a,b,c,d] #[.int .u64 (a:Int),.int .u64 (b:Int),.int .u64 (c:Int),.int .u64 (d:Int)] rfl);have bC:=hide (aA w (.cells #[a,b,c,d] 130));have afY:=hA.lt;have c0:=hide hA;obtain⟨q,aO⟩:=eo ([a,b,c,d]);rw[←aO] at aK qU;have na:Hid (q.length=4):=by rw[aO];exact rfl
 have dL:=hide ie;have mC:=hide hp;rw[←aO];clear hA ie hp aO;go_enter Tryz.func134,Tryz.ntmps134
 go_wp2_with fail
 go_loopw [14,7] (fun i t wr=>∃ (k c:Nat) (os:List Nat),i=.int .i64 k∧t=.int .u64 c∧k≤4∧c<18446744073709551616∧Hid (FR p q f os k c)∧cp os∧Hid (cn wr g T (P++os++Q))∧cn wr w.heap.size 130 q∧b3 g w wr) (fun i _ _=>4-(intOf i).toNat)
 case atStart=>exact⟨0,0,p,rfl,rfl,by omega,by omega,⟨rfl,rfl,by omega,by simp[val]⟩,wp,c0.out.ext bC.out,aK.out,bC.out.c7 g⟩
 case round =>
  obtain⟨k,c,os,rfl,rfl,aE,hc,bq,gU,bM,sF,ef⟩:=hrel;have cz:Hid (os.length=4):=bq.out.1.trans mC.out;by_cases vC:k<4
  ·have kz:k<os.length:=by rw[cz.out];omega
   have DU:k<p.length:=by rw[mC.out];omega
   have qF:k<q.length:=by rw[na.out];omega
   have fZ:=bM.out.seg dL.out k kz;have lq:=bM.out.free (o+k);have cb:=sF.at k qF;obtain⟨x,hx⟩:=aM (os[k]);obtain⟨y,hy⟩:=aM (q[k]);have j6:p[k]=x:=by rw[←hx];exact(n4 bq.out.2.1 kz DU).1.symm
   have fS:x<18446744073709551616:=by rw[←hx];exact jg gU k kz
   have yH:y<18446744073709551616:=by rw[←hy];exact jg qU k qF
   rw[hx] at fZ;rw[hy] at cb;obtain⟨h,hh⟩:=aM (y*f / 18446744073709551616);obtain⟨l,hl⟩:=aM (y*f%18446744073709551616);obtain⟨ah,h1⟩:=aM ((l+c)%18446744073709551616);obtain⟨az,h2⟩:=aM ((l+c) / 18446744073709551616);obtain⟨s,h3⟩:=aM ((x+ah)%18446744073709551616);obtain⟨aU,h4⟩:=aM ((x+ah) / 18446744073709551616);obtain⟨hS,fb,z2,z3,z4,z5,WI,atN⟩:=bq.out.step DU qF j6 hy fS yH hf hh hl h1 h2 h3 h4;have p4:=Cz l c ah az h1 h2;have apm:=Cz x ah s aU h3 h4;have IC:=hide hh;have Cb:=hide hl;have cG:=hide hS;have aB:=hide (bM.out.EY dL.out k s kz);have dR:=hide (ef.set (o+k) (.int .u64 (s:Int)));have dQ:=hide (sF.cI (b:=g) (by omega) (o+k) (.int .u64 (s:Int)));have q1:(h:Int)+az≤18446744073709551615:=by omega
   have k8:(h:Int)+az+aU≤18446744073709551615:=by omega
   clear hx hy j6 hh hl h1 h2 h3 h4 hS;go_wp2_with (go_at_call 100;refine(Jx y f h l _ yH hf IC Cb).mono ?_;rintro e' w' ⟨rfl,rfl⟩)
   exact⟨⟨k+1,_,_,by go_num,by go_num,by omega,fb,cG,oU gU _ _ z2,aB,dQ.out,dR.out⟩,by simp[intOf];omega⟩
  ·obtain rfl:k=4:=by omega
   have H1:Hid (val os+18446744073709551616 ^ 4*c=val p+val q*f):=by
    obtain⟨i',_,_,qO⟩:=bq.out;rw[List.take_of_length_le (by rw[cz.out];omega),List.take_of_length_le (by rw[mC.out];omega),List.take_of_length_le (by rw[na.out];omega)] at qO;exact qO
   go_wp2
   go_ret;exact⟨c,os,rfl,hc,cz.out,gU,H1.out,bM.out,ef⟩
open Go Go.RowKit
theorem Fg (n:Nat):val (List.replicate n 0)=0:=by
 induction n with
 | zero=>rfl
 | succ n ih=>rw[List.replicate_succ,val,ih]
theorem H4 {a b:List Nat} (h:cp a) (k:cp b):cp (a++b):=fun x hx=>by rcases List.mem_append.1 hx with h1|h1;exact h x h1;exact k x h1
theorem agG (L os A:List Nat) (m k c f:Nat) (h8:L.length=8) (aE:k<4) (aF:val L=val (A.take k)*m) (hz:L.drop (k+4)=List.replicate (4-k) 0) (aL:os.length=4) (he:val os+18446744073709551616 ^ 4*c=val ((L.drop k).take 4)+m*f) (hA:k<A.length) (hf:A[k]=f) (hc:c<18446744073709551616) (k9:cp L) (gU:cp os) :
 ((L.take k++os++L.drop (k+4)).set (k+4) c).length=8∧cp ((L.take k++os++L.drop (k+4)).set (k+4) c)∧val ((L.take k++os++L.drop (k+4)).set (k+4) c)=val (A.take (k+1))*m∧((L.take k++os++L.drop (k+4)).set (k+4) c).drop (k+1+4)=List.replicate (4-(k+1)) 0:=by
 have aw:(L.take k).length=k:=by simp;omega
 have bk:(L.take k++os++L.drop (k+4)).set (k+4) c=L.take k++os++(c :: List.replicate (3-k) 0):=by
  rw[hz,show 4-k=(3-k)+1 by omega,List.replicate_succ,List.set_append_right _ _ (by simp[aw,aL])];congr 1
  rw[List.length_append,aw,aL,Nat.sub_self];rfl
 rw[bk];refine⟨by simp[aw,aL];omega,?_,?_,?_⟩
 ·refine H4 (H4 (um k9 k) gU) ?_;intro x hx;rcases List.mem_cons.1 hx with rfl|hx
  ·exact hc
  ·rw[List.eq_of_mem_replicate hx];omega
 ·have e2:val L=val (L.take k)+18446744073709551616 ^ k*val ((L.drop k).take 4):=by
   rw[rT L k (by omega),rT (L.drop k) 4 (by simp;omega),List.drop_drop,hz,Fg];simp
  rw[wj,wj,aw,List.length_append,aw,aL,val,Fg,nD A k hA,hf,Nat.add_mul,←aF,e2,Nat.pow_add];generalize 18446744073709551616 ^ 4=M at *;generalize 18446744073709551616 ^ k=K at *;have fL:K*(val os+M*c)=K*(val ((L.drop k).take 4)+m*f):=by rw[he]
  rw[Nat.mul_add,Nat.mul_add,←Nat.mul_assoc] at fL;rw[Nat.mul_zero,Nat.add_zero,Nat.mul_assoc K f m,Nat.mul_comm f m];omega
 ·rw[List.drop_append,List.length_append,aw,aL,List.drop_of_length_le (by rw[List.length_append,aw,aL];omega),show k+1+4-(k+4)=1 by omega,show 4-(k+1)=3-k by omega];rfl
theorem Kp (w:World) (o p q r:Obj):((((w.alloc o).alloc p).alloc q).alloc r).heap[w.heap.size]?=some o∧((((w.alloc o).alloc p).alloc q).alloc r).heap[w.heap.size+1]?=some p∧((((w.alloc o).alloc p).alloc q).alloc r).heap[w.heap.size+1+1]?=some q∧((((w.alloc o).alloc p).alloc q).alloc r).heap[w.heap.size+1+1+1]?=some r:=by
 obtain⟨h1,h2,h3⟩:=kF w o p q;have h4:=heap_alloc_new (((w.alloc o).alloc p).alloc q) r;have hs:(((w.alloc o).alloc p).alloc q).heap.size=w.heap.size+1+1+1:=by simp
 rw[hs] at h4;exact⟨p8 (aA _ _) h1,p8 (aA _ _) h2,p8 (aA _ _) h3,h4⟩
theorem aal {L:List Nat} (h:L.length=8):∃ a b c d e f g i,L=[a,b,c,d,e,f,g,i]:=by
 match L,h with
 | [a,b,c,d,e,f,g,i],_=>exact⟨a,b,c,d,e,f,g,i,rfl⟩
theorem aam (a b c d e f g i:Nat):val [a,b,c,d,e,f,g,i]=b0 a b c d+115792089237316195423570985008687907853269984665640564039457584007913129639936*b0 e f g i:=by
 simp only[b0,val];omega
theorem TJ (a b c d k f:Nat) (aE:k<[a,b,c,d].length) (h:[a,b,c,d][k]=f) (w:World):(Instr.index 130 (.agg #[a,b,c,d]) (.int .i64 (k:Int))).run Tryz.prog w=.ok (.int .u64 (f:Int)) w:=by
 have ad_:k<4:=aE;have:k=0∨k=1∨k=2∨k=3:=by omega
 rcases this with rfl|rfl|rfl|rfl<;>(subst h;simp[Instr.index,run_underlying Tryz.underlying130,Tryz.sizeOf24,part,isAgg,run_underlying Tryz.underlying24,asIntOf])
theorem VZ (T n g l:Nat) (h:Int) (m:Nat) (hm:h=((m:Nat):Int)) (aw:Tryz.prog.underlying T=some (.array (Tryz.prog.arrayLen T) (Tryz.prog.elem T))) (hn:Tryz.prog.arrayLen T=n) (he:Tryz.prog.elem T=24) (h1:l≤m) (h2:m≤n) (h3:l<n) (w:World) :
 (Instr.sliceAt T (.pointer (some ⟨g,0,none⟩)) (some (.int .i64 (l:Int))) (some (.int .i64 h)) none).run Tryz.prog w=.ok (.slice (some ⟨g,l,none⟩) (m-l) (n-l)) w:=by
 subst hm;rw[run_sliceAt_array_lh w T ⟨g,0,none⟩ aw .i64 .i64 (l:Int) (m:Int) (by omega) (by omega) (by rw[hn];omega),he,Tryz.sizeOf24,hn];simp only[Result.andThen_ok,slicedAt,Int.toNat_natCast,Nat.mul_one];rw[if_neg (by omega)];by_cases h0:l=0
 ·subst h0;simp[Addr.add]
 ·simp[Addr.add,h0]
set_option maxRecDepth 100000 in
theorem UY (a b c d e f g h n m:Nat) (hn:b0 a b c d=n) (hm:b0 e f g h=m) (w:World) (hw:cp [a,b,c,d]) (bj:cp [e,f,g,h]) :
 Calls Tryz.prog 125 #[.agg #[a,b,c,d],.agg #[e,f,g,h]] w
  (Rh ((n*m)%115792089237316195423570985008687907853269984665640564039457584007913129639936) (decide (n*m<115792089237316195423570985008687907853269984665640564039457584007913129639936)) w):=by
 obtain⟨o,aL⟩:=aM (decide (n*m<115792089237316195423570985008687907853269984665640564039457584007913129639936));rw[aL];have rX:=Kp w (.cells #[a,b,c,d] 130) (.cells #[e,f,g,h] 130) (.cells #[(),(),(),()] 130) (.cells #[(),(),(),(),(),(),(),()] 143);obtain⟨W,aK⟩:=eo (((((w.alloc (.cells #[a,b,c,d] 130)).alloc (.cells #[e,f,g,h] 130)).alloc (.cells #[(),(),(),()] 130)).alloc (.cells #[(),(),(),(),(),(),(),()] 143)));have bC:Ext w W:=by rw[aK];exact(((aA _ _).trans (aA _ _)).trans (aA _ _)).trans (aA _ _)
 rw[←aK] at rX;have lM:cn W w.heap.size 130 [a,b,c,d]:=rX.1;have cU:cn W (w.heap.size+1) 130 [e,f,g,h]:=rX.2.1;have jF:cn W (w.heap.size+1+1) 130 [0,0,0,0]:=rX.2.2.1;have nI:cn W (w.heap.size+1+1+1) 143 [0,0,0,0,0,0,0,0]:=rX.2.2.2;have aB:=hide aK;have bM:=hide aL;have hW:=hide hm;obtain⟨A,hA⟩:=eo ([a,b,c,d]);have XW:Hid (val A=n):=by rw[hA];exact hn
 have nL:Hid (A.length=4):=by rw[hA];exact rfl
 have c0:=hide hA;obtain⟨bt,az,aU,a_,f0,f1,f2,f3⟩:=lM.four;clear aK rX aL hn hm hA;go_enter Tryz.func125,Tryz.ntmps125
 go_wp2_with fail
 rw[←aB.out];clear aB;go_loopw [12] (fun i wr=>∃ (k:Nat) (L:List Nat),i=.int .i64 k∧k≤4∧Hid (L.length=8)∧cp L∧Hid (val L=val (A.take k)*m)∧Hid (L.drop (k+4)=List.replicate (4-k) 0)∧cn wr (w.heap.size+1+1+1) 143 L∧b3 (w.heap.size+1+1+1) W wr) (fun i _=>4-(intOf i).toNat)
 case atStart=>exact⟨0,[0,0,0,0,0,0,0,0],rfl,by omega,rfl,by(intro x hx;simp at hx;omega),by(unfold Hid;simp[val]),rfl,nI,b3.refl _ _⟩
 case round =>
  obtain⟨k,L,rfl,aE,cz,k9,bV,eQ,ie,ef⟩:=hrel;by_cases vC:k<4
  ·have LH:k<A.length:=by rw[nL.out];omega
   obtain⟨f',hf⟩:∃ f',A[k]=f':=⟨_,rfl⟩;have hidx:∀ w,(Instr.index 130 (.agg #[a,b,c,d]) (.int .i64 (k:Int))).run Tryz.prog w=.ok (.int .u64 (f':Int)) w:=by
    have e:=c0.out;subst e;exact TJ a b c d k f' LH hf
   have CJ:f'<18446744073709551616:=by
    have e:=c0.out;subst e;rw[←hf];exact jg hw k LH
   have fg:=hide hf;have au:=cU.c7 ef (by omega);obtain⟨d0,d1,d2,d3,g0,g1,g2,g3⟩:=au.four;clear hf;have hsl:=VZ 143 8 (w.heap.size+1+1+1) k ((k:Int)+4) (k+4) (by omega) (by kernel_rfl) (by kernel_rfl) (by kernel_rfl) (by omega) (by omega) (by omega);rw[show k+4-k=4 by omega] at hsl;have aeU:IntKind.i64.wrap ((k:Int)+4)=(k:Int)+4:=by rw[IntKind.wrap_i64];omega
   have apX:(0:Int)≤(k:Int)+4:=by omega
   have apY:(k:Int)+4<8:=by omega
   have apZ:((k:Int)+4).toNat=k+4:=by omega
   have Iz:Hid (L.take k++(L.drop k).take 4++L.drop (k+4)=L):=by
    unfold Hid;rw[List.append_assoc,←List.drop_drop,List.take_append_drop,List.take_append_drop]
   have IG:Hid (cn wr (w.heap.size+1+1+1) 143 (L.take k++(L.drop k).take 4++L.drop (k+4))):=by rw[Iz.out];exact ie
   have T1:Hid ((L.take k).length=k):=by unfold Hid;rw[List.length_take,cz.out];omega
   have kr:Hid (((L.drop k).take 4).length=4):=by unfold Hid;rw[List.length_take,List.length_drop,cz.out];omega
   have bZ:cp ((L.drop k).take 4):=um (Pv k9 k) 4;have bq:Hid (∀ (c:Nat) (os:List Nat),os.length=4→c<18446744073709551616→cp os→val os+18446744073709551616 ^ 4*c=val ((L.drop k).take 4)+val [e,f,g,h]*f'→_):=fun c os h1 h2 h3 h4=>agG L os A m k c f' cz.out vC bV.out eQ.out h1 (by rw[←hW.out];exact h4) LH fg.out h2 k9 h3
   go_wp2_with fail
   go_region_with (go_at_call 134;refine(aiI (w.heap.size+1+1+1) k (8-k) e f g h f' 143 (L.take k) ((L.drop k).take 4) (L.drop (k+4)) _ IG.out.drew T1.out kr.out bZ bj CJ).mono ?_;rintro e' w' ⟨c',os,rfl,za,xo,Ei,aF,y6,SE⟩;obtain⟨c5,dz,eu,AO⟩:=bq.out c' os xo za Ei aF;have c5:=hide c5;have eu:=hide eu;have AO:=hide AO;have hcs:=y6.at (k+4) (by have:=c5.out;rw[List.length_set] at this;omega);have apu:=y6.free (k+4);have WW:=hide (y6.set (k+4) c');have yn:=hide (((ef.drew).trans SE).set (k+4) (.int .u64 (c':Int)));clear aF y6 SE xo)
   all_goals go_wp2_with fail
   all_goals exact⟨⟨k+1,_,by go_num,by omega,c5,dz,eu,AO,WW.out,yn.out⟩,by simp[intOf];omega⟩
  ·obtain rfl:k=4:=by omega
   have H1:Hid (val L=n*m):=by
    unfold Hid;rw[bV.out,List.take_of_length_le (by rw[nL.out];omega),XW.out]
   obtain⟨ai,ah,aj,ap,nT,G9,tX,tY,rfl⟩:=aal cz.out;have aR:=jF.c7 ef (by omega);have bS:=ef.ext bC (by omega);have p0:=ie.at 0 (by simp);have p1:=ie.at 1 (by simp);have p2:=ie.at 2 (by simp);have zN:=ie.at 3 (by simp);have oS:=ie.at 4 (by simp);have Ht:=ie.at 5 (by simp);have aiD:=ie.at 6 (by simp);have aiE:=ie.at 7 (by simp);have Hh:=aR.lt;have agu:w.heap.size+1+1<wr.heap.size+1:=by omega
   have aqd:=ie.lt;have aqe:w.heap.size+1+1+1<wr.heap.size+1:=by omega
   simp only[List.getElem_cons_zero,List.getElem_cons_succ] at p0 p1 p2 zN oS Ht aiD aiE;obtain⟨d0,d1,d2,d3,g0,g1,g2,g3⟩:=aR.four;clear ie ef eQ bV cz vC;have adQ:∀ bp,(Instr.arrayAt 130 (.slice (some ⟨w.heap.size+1+1+1,0,none⟩) 4 8)).run Tryz.prog bp=.ok (.pointer (some ⟨w.heap.size+1+1+1,0,none⟩)) bp:=fun bp=>run_arrayAt bp 130 _ 4 _ 4 8 Tryz.underlying130 (by omega)
   have apo:∀ bp,(Instr.arrayAt 130 (.slice (some ⟨w.heap.size+1+1+1,4,none⟩) 4 4)).run Tryz.prog bp=.ok (.pointer (some ⟨w.heap.size+1+1+1,4,none⟩)) bp:=fun bp=>run_arrayAt bp 130 _ 4 _ 4 4 Tryz.underlying130 (by omega)
   obtain⟨cr,nt⟩:=aM (decide (b0 nT G9 tX tY≠0));have aO:=A5 130 Tryz.underlying130 nT G9 tX tY cr nt;have iH:Hid (Ending.returned (Value.tuple #[.agg #[ai,ah,aj,ap],.bool (!cr)])=.returned (.tuple #[.agg #[ai,ah,aj,ap],.bool o])∧cp [ai,ah,aj,ap]∧b0 ai ah aj ap=(n*m)%115792089237316195423570985008687907853269984665640564039457584007913129639936):=by
    have bZ:cp [ai,ah,aj,ap]:=fun x hx=>k9 x (by simp at hx ⊢;omega)
    obtain⟨kM,bA,bX,en⟩:=ez bZ;have hb:=qM kM bA bX en;have he:=aam ai ah aj ap nT G9 tX tY;rw[H1.out] at he;refine⟨?_,bZ,?_⟩
    ·have e:(!cr)=o:=by
      rw[←bM.out,←nt];by_cases h0:b0 nT G9 tX tY=0
      ·rw[decide_eq_false (by omega),decide_eq_true (by omega)];rfl
      ·rw[decide_eq_true h0,decide_eq_false (by omega)];rfl
     rw[e]
    ·rw[he,Nat.add_mul_mod_self_left,Nat.mod_eq_of_lt hb]
   clear H1 ;clear nt;go_wp2_with fail
   go_region
   all_goals go_wp2_with fail
   all_goals go_region
   all_goals go_wp2_with fail
   all_goals exact bodyPost_ret (v:=.tuple #[.agg #[ai,ah,aj,ap],.bool (!cr)]) (by simp[results,Tryz.results125,go_sem,d0,d1,d2,d3,Hh,agu]) rfl ⟨ai,ah,aj,ap,iH.out.1,iH.out.2.1,iH.out.2.2,((((o9 bS (by omega) _ _ _ _).trans (aA _ _)).trans (aA _ _)).trans (b5 _)).trans (b5 _)⟩
open Go Go.RowKit
theorem Ue (s t:Bool) (n m:Nat) (x y:Int) (hx:x=if s then -(n:Int) else n) (hy:y=if t then -(m:Int) else m) :
 (if (s != t) then -((n*m:Nat):Int) else ((n*m:Nat):Int))=x*y∧(x*y).natAbs=n*m:=by
 have e:(x*y).natAbs=n*m:=by
  rw[Int.natAbs_mul];have h1:x.natAbs=n:=by cases s<;>simp at hx<;>omega
  have h2:y.natAbs=m:=by cases t<;>simp at hy<;>omega
  rw[h1,h2]
 refine⟨?_,e⟩;subst hx;subst hy;cases s<;>cases t<;>simp[Int.neg_mul,Int.mul_neg]
theorem BJ (s t u:Bool) (h:(s != t)=u) (w:World):(binOp .neq 4 (.bool s) (.bool t)).run Tryz.prog w=.ok (.bool u) w:=by
 subst h;have e:=fun d=>run_equalIn_bool' w d 4 s t Tryz.underlying4
 simp only[binOp];simp[Op.equal,Op.maxDepth,e 9999];cases s<;>cases t<;>rfl
set_option maxRecDepth 100000 in
theorem N2 (s t:Bool) (a b c d e f g h:Nat) (x y:Int) (w:World) (hx:dg s a b c d x) (hy:dg t e f g h y) :
 Calls Tryz.prog 107 #[.agg #[.bool s,a,b,c,d],.agg #[.bool t,e,f,g,h]] w (oG (x*y) w):=by
 obtain⟨W,aK⟩:=eo ((((w.alloc (.cells #[.bool s,a,b,c,d] 27)).alloc (.cells #[.bool t,e,f,g,h] 27)).alloc (.cells #[false,(),(),(),()] 27)));have cO:=kF w (.cells #[.bool s,a,b,c,d] 27) (.cells #[.bool t,e,f,g,h] 27) (.cells #[false,(),(),(),()] 27);rw[←aK] at cO;have ay:Box W w.heap.size s a b c d:=cO.1;have au:Box W (w.heap.size+1) t e f g h:=cO.2.1;have aR:Box W (w.heap.size+1+1) false 0 0 0 0:=cO.2.2;have bC:Ext w W:=by rw[aK];exact((aA _ _).trans (aA _ _)).trans (aA _ _)
 have aB:=hide aK;clear aK cO;obtain⟨n,hn⟩:=aM x.natAbs;obtain⟨m,hm⟩:=aM y.natAbs;have gL:Hid (b0 a b c d=n):=by rw[←hn];exact hx.abs
 have hY:Hid (b0 e f g h=m):=by rw[←hm];exact hy.abs
 have bP:=hx.qi;have nG:=hy.qi;obtain⟨u,hu⟩:=aM (s != t);have ll:Hid ((if u then -((n*m:Nat):Int) else ((n*m:Nat):Int))=x*y∧(x*y).natAbs=n*m):=by
  have h1:=hx.2.2.2.2;have h2:=hy.2.2.2.2;rw[gL.out] at h1;rw[hY.out] at h2;rw[←hu];exact Ue s t n m x y h1 h2
 have xr:=BJ s t u hu;clear hn hm hx hy hu;have dY:=av ay;obtain⟨d0,d1,d2,d3,d4,g0,g1,g2,g3,g4⟩:=av au;by_cases hf:n*m<115792089237316195423570985008687907853269984665640564039457584007913129639936
 ·have bM:Hid (decide (n*m<115792089237316195423570985008687907853269984665640564039457584007913129639936)=true):=by unfold Hid;rw[decide_eq_true_iff];exact hf
  have hW:Hid ((n*m)%115792089237316195423570985008687907853269984665640564039457584007913129639936=n*m):=by unfold Hid;rw[Nat.mod_eq_of_lt hf]
  have fg:Hid ((x*y).natAbs<115792089237316195423570985008687907853269984665640564039457584007913129639936):=by rw[ll.out.2];exact hf
  clear hf;go_enter Tryz.func107,Tryz.ntmps107
  go_upto_region 1 with fail
  rw[←aB.out];clear aB;go_wp2_with (first
   | (go_at_call 125;refine(UY a b c d e f g h n m gL.out hY.out _ bP nG).mono ?_;rintro e' w' ⟨a1,bA,nO,lp,rfl,gE,jt,ad⟩;rw[bM.out];rw[hW.out] at jt;have Xj:=hide jt;clear jt;have cD:=ay.ext ad;have c5:=au.ext ad;have dz:=aR.ext ad;have dY:=av cD;obtain⟨d0,d1,d2,d3,d4,g0,g1,g2,g3,g4⟩:=av c5;have ai:=cD.lt;have ah:=c5.lt;have aj:=dz.lt;have bS:=bC.trans ad;clear ad)
   | (go_at_call 113;refine(qN u a1 bA nO lp _ (ez gE).1 (ez gE).2.1 (ez gE).2.2.1 (ez gE).2.2.2).mono ?_;rintro e' w' ⟨s',a',b',c',d',rfl,hC,ad⟩;rw[Xj.out,ll.out.1] at hC;have bS:=(bS.trans (aA _ _)).trans ad;have eu:=(dz.ext (aA _ _)).ext ad;obtain⟨d0,d1,d2,d3,d4,g0,g1,g2,g3,g4⟩:=av eu;clear ad))
  all_goals exact bodyPost_ret (v:=.tuple #[.agg #[.bool s',a',b',c',d'],.bool true]) (by simp[results,Tryz.results107,go_sem,d0,d1,d2,d3,d4]) rfl (H9 fg.out hC (dr bS (by omega) _ _ _ _ _))
 ·have bM:Hid (decide (n*m<115792089237316195423570985008687907853269984665640564039457584007913129639936)=false):=by unfold Hid;rw[decide_eq_false_iff_not];exact hf
  have fg:Hid (¬ (x*y).natAbs<115792089237316195423570985008687907853269984665640564039457584007913129639936):=by rw[ll.out.2];exact hf
  clear hf;go_enter Tryz.func107,Tryz.ntmps107
  go_upto_region 1 with fail
  rw[←aB.out];clear aB;go_wp2_with (go_at_call 125;refine(UY a b c d e f g h n m gL.out hY.out _ bP nG).mono ?_;rintro e' w' ⟨a1,bA,nO,lp,rfl,gE,jt,ad⟩;rw[bM.out];clear jt;have dz:=aR.ext ad;have aj:=dz.lt;obtain⟨d0,d1,d2,d3,d4,g0,g1,g2,g3,g4⟩:=av dz;have bS:=bC.trans ad;clear ad)
  all_goals exact bodyPost_ret (v:=.tuple #[.agg #[false,(),(),(),()],.bool false]) (by simp[results,Tryz.results107,go_sem,d0,d1,d2,d3,d4,aj]) rfl (Wr fg.out ((dr bS (by omega) _ _ _ _ _).trans (aA _ _)))
end
end Go.Proofs.YtojbopibfflnoaaGreat
