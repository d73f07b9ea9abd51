/- Contracts and plain facts; each states its conditions. -/
import Derived.Test.YtojbopibfflnoaaGreatPrY7
import Derived.Test.YtojbopibfflnoaaGreatPrY11
import Derived.OwnWalk
namespace Go.Proofs.YtojbopibfflnoaaGreat
open Go renaming World → w1, Value → Ax, Calls → AA, Ending → axa
open _root_.Go.Proofs.Tryz renaming prog → CW
set_option linter.unusedVariables false
set_option linter.unusedSimpArgs false
set_option maxHeartbeats 16000000
set_option maxRecDepth 100000
section
open Go Go.RowKit
theorem Ff(l:List Nat)(j x:Nat)(h:j<l.length):val (l.set j x)+18446744073709551616 ^ j*l[j]=val l+18446744073709551616 ^ j*x:=by
 induction l generalizing j with
 | nil=>simp at h
 | cons y r ih =>
  cases j with
  | zero=>simp[val];omega
  | succ j =>
   have aN:j<r.length:=by simpa using h
   have:=ih j aN;simp only[List.set_cons_succ,val,List.getElem_cons_succ,Nat.pow_succ];generalize val (r.set j x)=A at *;generalize val r=C at *;generalize r[j]=z at *;generalize 18446744073709551616 ^ j=P at *;grind
theorem H5(n:Nat):cp (List.replicate n 0):=by intro x hx;rw[List.mem_replicate] at hx;omega
def o2(p q os:List Nat)(i k c:Nat):Prop:=os.length=p.length+q.length+1/\cp os/\c<18446744073709551616/\(∀ j,i+q.length<=j->os.getD j 0=0) /\
 val os+18446744073709551616 ^ (i+k)*c=val (p.take i)*val q+18446744073709551616 ^ i*(p.getD i 0*val (q.take k))
theorem o2.start(p q:List Nat):o2 p q (List.replicate (p.length+q.length+1) 0) 0 0 0:=by
 refine⟨by simp,H5 _,by omega,fun j _=>?_,by simp[Fg,val]⟩;rw[List.getD_eq_getElem?_getD];by_cases h:j<p.length+q.length+1
 ·simp[List.getElem?_replicate,h]
 ·simp[List.getElem?_replicate,h]
theorem Uf{x y o c:Nat}(hx:x<18446744073709551616)(hy:y<18446744073709551616)(aL:o<18446744073709551616)(hc:c<18446744073709551616):x*y+o+c<340282366920938463463374607431768211456:=by
 have h1:x*y<=18446744073709551615*18446744073709551615:=Nat.mul_le_mul (by omega) (by omega);omega
theorem o2.step{p q os:List Nat}{i k c x y o lo hi:Nat}(h:o2 p q os i k c)(j5:i<p.length)(aE:k<q.length)(hx:p[i]=x)(hy:q[k]=y)(SU:i+k<os.length)(aL:os[i+k]=o)(fS:x<18446744073709551616)(by':y<18446744073709551616)
 (hs:x*y+o+c=lo+18446744073709551616*hi) (pX:lo<18446744073709551616):o2 p q (os.set (i+k) lo) i (k+1) hi:=by
 obtain⟨h1,h2,h3,h4,h5⟩:=h;have bo:o<18446744073709551616:=by rw[<-aL];exact jg h2 _ SU
 have bb:=Uf fS by' bo h3
 refine⟨by simpa using h1,oU h2 _ _ pX,by omega,fun j aN=>?_,?_⟩
 ·rw[List.getD_eq_getElem?_getD,List.getElem?_set_ne (by omega),<-List.getD_eq_getElem?_getD];exact h4 j aN
 ·have aF:=Ff os (i+k) lo SU;have af:p.getD i 0=x:=by simp[List.getD,j5,hx]
  rw[aL] at aF;rw[af] at h5 |-;rw[nD q k aE,hy,<-Nat.add_assoc,Nat.pow_succ];have e:18446744073709551616 ^ (i+k)=18446744073709551616 ^ i*18446744073709551616 ^ k:=Nat.pow_add _ _ _;rw[e] at aF h5 |-;generalize 18446744073709551616 ^ i=I at *;generalize 18446744073709551616 ^ k=K at *;generalize val (os.set (i+k) lo)=A at *;generalize val os=C at *;generalize val (q.take k)=Q at *;generalize val (p.take i)*val q=R at *;have e2:I*K*(x*y+o+c)=I*K*(lo+18446744073709551616*hi):=by rw[hs]
  grind
theorem o2.row{p q os:List Nat}{i c:Nat}(h:o2 p q os i q.length c)(j5:i<p.length):o2 p q (os.set (i+q.length) c) (i+1) 0 0:=by
 obtain⟨h1,h2,h3,h4,h5⟩:=h;have hl:i+q.length<os.length:=by omega
 refine⟨by simpa using h1,oU h2 _ _ h3,by omega,fun j aN=>?_,?_⟩
 ·rw[List.getD_eq_getElem?_getD,List.getElem?_set_ne (by omega),<-List.getD_eq_getElem?_getD];exact h4 j (by omega)
 ·have aF:=Ff os (i+q.length) c hl;have aL:os[i+q.length]=0:=by have:=h4 (i+q.length) (by omega);simpa [List.getD,hl] using this
  rw[aL] at aF;rw[List.take_length] at h5;rw[nD p i j5,List.take_zero];have af:p.getD i 0=p[i]:=by simp[List.getD,j5]
  rw[af] at h5;have hz:val []=0:=rfl;rw[hz];generalize 18446744073709551616 ^ (i+q.length)=Z at *;generalize 18446744073709551616 ^ (i+1+0)=Y at *;generalize 18446744073709551616 ^ (i+1)=X at *;generalize 18446744073709551616 ^ i=W at *;generalize val (os.set (i+q.length) c)=A at *;generalize val os=B at *;generalize val (List.take i p)=C at *;generalize val q=D at *;generalize p[i]=E at *;have e:(C+W*E)*D=C*D+W*(E*D):=by rw[Nat.add_mul,Nat.mul_assoc]
  rw[e];omega
theorem o2.done{p q os:List Nat}(h:o2 p q os p.length 0 0):val os=val p*val q:=by
 obtain⟨_,_,_,_,h5⟩:=h;rw[List.take_length] at h5;simpa [val] using h5
theorem getD_set_ne(l:List Nat)(k j x:Nat)(h:k≠j):(l.set k x).getD j 0=l.getD j 0:=by
 rw[List.getD_eq_getElem?_getD,List.getElem?_set_ne h,<-List.getD_eq_getElem?_getD]
theorem Ku{l:List Nat}{k x:Nat}(h:k<l.length)(hx:l[k]=x):l.getD k 0=x:=by simp[List.getD,h,hx]
theorem GK{l:List Nat}{k x:Nat}(h:k<l.length)(hx:l.getD k 0=x):l[k]=x:=by simpa [List.getD,h] using hx
theorem abW(l:List Nat)(k x:Nat)(h:k<l.length):(l.set k x).getD k 0=x:=by simp[List.getD,h]
theorem akL(l:List Nat)(k x:Nat)(h:l.getD k 0=x):l.set k x=l:=by
 by_cases aE:k<l.length
 ·have:=GK aE h;subst this
  exact List.set_getElem_self aE
 ·exact List.set_eq_of_length_le (by omega)
def uJ(p os:List Nat)(q r i:Nat):Prop:=os.length=p.length+q+1/\cp os/\os.getD (i+q) 0<2 ^ r/\(∀ j,i+q<j->os.getD j 0=0)/\val os=18446744073709551616 ^ q*(val (p.take i)*2 ^ r)
theorem uJ.start(p:List Nat)(q r:Nat):uJ p (List.replicate (p.length+q+1) 0) q r 0:=by
 have hz:∀ j,(List.replicate (p.length+q+1) 0).getD j 0=0:=by
  intro j;rw[List.getD_eq_getElem?_getD,List.getElem?_replicate];split<;>rfl
 refine⟨by simp,H5 _,by rw[hz];exact Nat.two_pow_pos _,fun j _=>hz j,by simp[Fg,val]⟩
theorem uJ.step{p os:List Nat}{q r i x o z t:Nat}(h:uJ p os q r i)(hi:i<p.length)(hx:p[i]=x)(aL:os.getD (i+q) 0=o)(hs:z+18446744073709551616*t=x*2 ^ r+o)(Gd:z<18446744073709551616)(w7:t<2 ^ r)(aD:r<64) :
 uJ p ((os.set (i+q) z).set (i+q+1) t) q r (i+1):=by
 obtain⟨h1,h2,h3,h4,h5⟩:=h;have hl:i+q<os.length:=by omega
 have DV:i+q+1<(os.set (i+q) z).length:=by rw[List.length_set];omega
 have Rx:t<18446744073709551616:=by
  have:2 ^ r<=2 ^ 63:=Nat.pow_le_pow_right (by omega) (by omega);omega
 refine⟨by simpa using h1,oU (oU h2 _ _ Gd) _ _ Rx,?_,fun j aN=>?_,?_⟩
 ·rw[show i+1+q=i+q+1 by omega,abW _ _ _ DV];exact w7
 ·rw[getD_set_ne _ _ _ _ (by omega),getD_set_ne _ _ _ _ (by omega)];exact h4 j (by omega)
 ·have v1:=Ff os (i+q) z hl;have v2:=Ff (os.set (i+q) z) (i+q+1) t DV;have bk:=GK hl aL;have e2:(os.set (i+q) z)[i+q+1]=0:=GK DV (by rw[getD_set_ne _ _ _ _ (by omega)];exact h4 _ (by omega));rw[bk] at v1;rw[e2,Nat.pow_succ] at v2;rw[nD p i hi,hx];rw[Nat.pow_add 18446744073709551616 i q] at v1 v2;rw[h5] at v1;generalize val ((os.set (i+q) z).set (i+q+1) t)=A at *;generalize val (os.set (i+q) z)=C at *;generalize 18446744073709551616 ^ i=I at *;generalize 18446744073709551616 ^ q=Q at *;generalize val (List.take i p)=V at *;generalize 2 ^ r=R at *;clear h1 h2 h3 h4 h5 bk e2 hl DV Rx Gd w7;have fL:I*Q*(z+18446744073709551616*t)=I*Q*(x*R+o):=by rw[hs]
  grind
theorem uJ.done{p os:List Nat}{q r:Nat}(h:uJ p os q r p.length):val os=val p*2 ^ (64*q+r):=by
 obtain⟨_,_,_,_,h5⟩:=h;rw[List.take_length] at h5;rw[h5,Nat.pow_add,Nat.pow_mul,show (2:Nat) ^ 64=18446744073709551616 from rfl];generalize 18446744073709551616 ^ q=Q;grind
theorem UN(x y:Int):bits .or .u64 x y=bits .or .u64 y x:=by
 show IntKind.u64.wrap ((BitVec.ofInt 64 x ||| BitVec.ofInt 64 y).toNat:Int)=IntKind.u64.wrap ((BitVec.ofInt 64 y ||| BitVec.ofInt 64 x).toNat:Int)
 rw[BitVec.or_comm]
theorem aid(t:Nat)(h:t<18446744073709551616):bits .or .u64 0 (t:Int)=(t:Int):=by
 have e:(2:Nat) ^ 64=18446744073709551616:=by decide
 have:=BL 0 t 64 (by omega) (by rw[e];exact h) (by rw[Nat.zero_mul];omega);rw[Nat.zero_mul,Nat.zero_add] at this
 exact this
theorem akN(x s c:Nat)(hs:s<64)(hx:x<18446744073709551616)(hc:c<2 ^ s) :
 ∃ l t z:Nat,IntKind.u64.wrap ((x:Int)*2 ^ s)=(l:Int)/\bits .or .u64 (c:Int) (l:Int)=(z:Int)/\(x:Int) / 2 ^ (64-s)=(t:Int)/\bits .or .u64 0 (t:Int)=(t:Int)/\Hid (z+18446744073709551616*t=x*2 ^ s+c/\z<18446744073709551616/\t<2 ^ s/\t<18446744073709551616):=by
 obtain⟨l,t,z,h1,h2,h3,h4⟩:=VU x s c hs hx hc;have bd:t<18446744073709551616:=by
  have h5:=h4.out.2.2;have:2 ^ s<=2 ^ 63:=Nat.pow_le_pow_right (by omega) (by omega);omega
 exact⟨l,t,z,h1,by rw[UN];exact h2,h3,aid t bd,⟨h4.out.1,h4.out.2.1,h4.out.2.2,bd⟩⟩
def uI(p os:List Nat)(i:Nat):Prop:=os.length=p.length/\cp os/\os.drop i=p.drop i/\2*val (os.take i)+p.getD 0 0%2=val (p.take i)+18446744073709551616 ^ i*(p.getD i 0%2)
theorem uI.start(p:List Nat)(h:cp p):uI p p 0:=⟨rfl,h,rfl,by simp[val]⟩
theorem uI.step{p os:List Nat}{i x z:Nat}(h:uI p os i)(hi:i<p.length)(hx:p[i]=x)(hz:z=x / 2+9223372036854775808*(p.getD (i+1) 0%2))(fS:x<18446744073709551616):uI p (os.set i z) (i+1):=by
 obtain⟨h1,h2,h3,h4⟩:=h;refine⟨by simpa using h1,oU h2 _ _ (by omega),by rw[drop_set];exact(n4 h3 (by omega) hi).2,?_⟩;rw[Ad _ _ _ (by omega),nD p i hi,hx,Nat.pow_succ];rw[Ku hi hx] at h4;have e:=Nat.div_add_mod x 2;generalize p.getD (i+1) 0%2=y at *;generalize p.getD 0 0%2=f at *;generalize val (os.take i)=A at *;generalize val (p.take i)=C at *;generalize 18446744073709551616 ^ i=I at *;generalize x%2=m at *;generalize x / 2=d at *;subst e;subst hz;clear h1 h2 h3 fS hi hx;grind
theorem uI.done{p os:List Nat}(h:uI p os p.length):val os=val p / 2:=by
 obtain⟨h1,_,_,h4⟩:=h;rw[List.take_length,List.take_of_length_le (by omega)] at h4;have:p.getD p.length 0=0:=by simp[List.getD]
 rw[this] at h4;generalize 18446744073709551616 ^ p.length=I at *;cases p with
 | nil=>cases os with
  | nil=>rfl
  | cons y r=>simp at h1
 | cons y r =>
  simp only[val] at *;simp only[List.getD_cons_zero] at h4;omega
def Size(n s:Nat):Prop:=n<2 ^ s/\(n≠0->1<=s/\2 ^ (s-1)<=n)/\(n=0->s=0)
theorem akS(l:List Nat)(x k:Nat)(hl:cp l)(h1:x<2 ^ k)(h2:1<=k)(h3:2 ^ (k-1)<=x):Size (val (l++[x])) (64*l.length+k):=by
 have e:18446744073709551616 ^ l.length=2 ^ (64*l.length):=by rw[Nat.pow_mul]
 have aF:=wk l hl;rw[xS];rw[e] at aF |-;have bk:2 ^ (64*l.length+k)=2 ^ (64*l.length)*2 ^ k:=Nat.pow_add _ _ _;have e2:2 ^ (64*l.length+k-1)=2 ^ (64*l.length)*2 ^ (k-1):=by rw[<-Nat.pow_add];congr 1;omega
 have p1:=Nat.two_pow_pos (64*l.length);have p2:=Nat.two_pow_pos (k-1);generalize 2 ^ (64*l.length)=I at *;refine⟨?_,fun _=>⟨by omega,?_⟩,fun h=>?_⟩
 ·rw[bk];have:I*(x+1)<=I*2 ^ k:=Nat.mul_le_mul_left _ h1;rw[Nat.mul_add,Nat.mul_one] at this
  omega
 ·rw[e2];have:I*2 ^ (k-1)<=I*x:=Nat.mul_le_mul_left _ h3;omega
 ·exfalso
  have:I*1<=I*x:=Nat.mul_le_mul_left _ (by omega);omega
theorem YH(l:List Nat)(j s x:Nat)(aN:j<l.length)(hx:l[j]=x)(hl:cp l)(hs:s<64)(hd:val l%2 ^ (64*j+s+1)=0) :
 ∃ z:Nat,bits .or .u64 (x:Int) ((2 ^ s:Nat):Int)=(z:Int)/\Hid (z<18446744073709551616/\val (l.set j z)=val l+2 ^ (64*j+s)):=by
 have fS:x<18446744073709551616:=by rw[<-hx];exact jg hl j aN
 have aF:=rT l j (by omega);rw[tu l j aN,hx] at aF;have e:18446744073709551616 ^ j=2 ^ (64*j):=by rw[Nat.pow_mul]
 have bd:=wk (l.take j) (um hl j);rw[List.length_take,Nat.min_eq_left (by omega)] at bd;have S9:=Ff l j;rw[e] at aF bd S9;have LA:2 ^ (64*j)*2 ^ (s+1) ∣ val l:=by rw[<-Nat.pow_add];exact Nat.dvd_of_mod_eq_zero hd
 have bk:2 ^ (64*j+s)=2 ^ (64*j)*2 ^ s:=Nat.pow_add _ _ _;have h64:(2:Nat) ^ (s+1) ∣ 18446744073709551616:=by
  have:(2:Nat) ^ (s+1) ∣ 2 ^ 64:=Nat.pow_dvd_pow 2 (by omega);exact this
 have p1:=Nat.two_pow_pos (64*j);have h0:val (l.take j)=0:=by
  obtain⟨m,hm⟩:=LA;have h1:(val (l.take j)+2 ^ (64*j)*(x+18446744073709551616*val (l.drop (j+1))))%2 ^ (64*j)=0:=by
   rw[<-aF,hm,Nat.mul_assoc,Nat.mul_mod_right]
  rw[Nat.add_mul_mod_self_left,Nat.mod_eq_of_lt bd] at h1;exact h1
 have ad2:2 ^ (s+1) ∣ x:=by
  rw[aF,h0,Nat.zero_add] at LA;have h1:=Nat.dvd_of_mul_dvd_mul_left p1 LA;exact(Nat.dvd_add_left (Nat.dvd_trans h64 (Nat.dvd_mul_right _ _))).1 h1
 obtain⟨y,hy⟩:=ad2;have G7:x=y*2 ^ (s+1):=by rw[hy,Nat.mul_comm]
 have S2:=BL y (2 ^ s) (s+1) (by omega) (by rw[Nat.pow_succ];have:=Nat.two_pow_pos s;omega) (by rw[<-G7];exact fS);rw[<-G7] at S2;have hz:=S9 (x+2 ^ s) aN;rw[hx] at hz;have hw:x+2 ^ s<18446744073709551616:=by
  have fL:(18446744073709551616:Nat)=2 ^ (63-s)*2 ^ (s+1):=by rw[<-Nat.pow_add,show 63-s+(s+1)=64 by omega]
  have h2:y*2 ^ (s+1)<2 ^ (63-s)*2 ^ (s+1):=by rw[<-fL,<-G7];exact fS
  have h3:=Nat.lt_of_mul_lt_mul_right h2;have h4:(y+1)*2 ^ (s+1)<=2 ^ (63-s)*2 ^ (s+1):=Nat.mul_le_mul_right _ h3;rw[<-fL,Nat.add_mul,Nat.one_mul,<-G7,Nat.pow_succ] at h4;have:=Nat.two_pow_pos s;omega
 refine⟨x+2 ^ s,S2,⟨hw,?_⟩⟩;rw[bk];rw[Nat.mul_add] at hz;omega
theorem ano(n:Nat):(madeCells (Value.int .u64 0).cells (n*1)).toList=wd (List.replicate n 0):=by
 rw[Nat.mul_one];apply List.ext_getElem
 ·simp[madeCells,wd]
 ·intro i h1 h2;simp[madeCells,wd,Value.cells,Nat.mod_one]
theorem Ib{B:Nat}{w:w1}{v:Ax}{n:Nat}(h:w.ownsRow B 24 1 v n (madeCells (Value.int .u64 0).cells (n*1)).toList):Words B w v (List.replicate n 0):=by
 refine⟨?_,H5 n⟩;rw[ano] at h;simpa using h
theorem agH(x y o c:Nat)(fS:x<18446744073709551616)(by':y<18446744073709551616)(bo:o<18446744073709551616)(bc:c<18446744073709551616) :
 ∃ h1 ah az aj h2 aU ap h3:Nat,Hid (x*y / 18446744073709551616=h1)/\Hid (x*y%18446744073709551616=ah)/\Hid ((ah+o)%18446744073709551616=aj)/\Hid ((ah+o) / 18446744073709551616=az) /\
  IntKind.u64.wrap ((h1:Int)+(az:Int))=(h2:Int)/\Hid ((aj+c)%18446744073709551616=ap)/\Hid ((aj+c) / 18446744073709551616=aU)/\IntKind.u64.wrap ((h2:Int)+(aU:Int))=(h3:Int) /\
  Hid (x*y+o+c=ap+18446744073709551616*h3/\ap<18446744073709551616/\h3<18446744073709551616):=by
 have hb:=Uf fS by' bo bc
 have hp:=N6 fS by'
 obtain⟨P,ie⟩:=aM (x*y);rw[ie] at hb hp |-;clear ie;refine⟨_,_,_,_,P / 18446744073709551616+(P%18446744073709551616+o) / 18446744073709551616,_,_,P / 18446744073709551616+(P%18446744073709551616+o) / 18446744073709551616+((P%18446744073709551616+o)%18446744073709551616+c) / 18446744073709551616,rfl,rfl,rfl,rfl,?_,rfl,rfl,?_,⟨?_,?_,?_⟩⟩
 ·rw[iT];omega
 ·rw[iT];omega
 ·omega
 ·omega
 ·omega
theorem ake(B C D:Nat)(u v:Ax)(n m:Nat)(w:w1)(h:Words C w u (bg n))(k:Words D w v (bg m))(bF:B<=w.heap.size)(hn:(bg n).length<=1000)(hm:(bg m).length<=1000) :
 AA CW 87 #[u,v] w (r6 B (n*m) w):=by
 obtain⟨i0,hi,bf,l3,lz⟩:=info_parts Er;obtain⟨p,hp⟩:=aM (bg n);obtain⟨q,aO⟩:=aM (bg m);have wp:cp p:=by rw[<-hp];exact mS n
 have qU:cp q:=by rw[<-aO];exact mS m
 have bV:Hid (val p=n/\val q=m):=⟨by rw[<-hp,jD],by rw[<-aO,jD]⟩;rw[hp] at h hn;rw[aO] at k hm;clear hp aO;obtain⟨b9,gl⟩:=aM p.length;obtain⟨lb,iP⟩:=aM q.length;obtain⟨N,jO⟩:=aM (b9+lb+1);obtain⟨a,ca,rfl,a1,a2,_⟩:=h.shape b9 gl;obtain⟨b,cb,rfl,bA,bX,_⟩:=k.shape lb iP;rw[gl] at hn;rw[iP] at hm;have c0:=hide gl;have dx:=hide iP;have j0:=hide h;have ij:=hide k;have yp:=hide lz;have dO:=hide jO;have aC:b9+lb<N:=by omega
 have aW:N<=2001:=by omega
 clear gl iP h k lz;go_enter Tryz.func87,Tryz.ntmps87
 go_wp2_with (at_make;refine wpList_make_full _ rfl _ _ 97 rfl w.heap.size 24 i0 (.int .u64 0) 1 Tryz.underlying97 hi bf l3 _ _ _ _ N rfl rfl (by omega) (by omega) (by rw[yp.out];omega) (by unfold maxLen;omega) (Nat.le_refl _) ?_;intro aT gn rz)
 have H1:Hid (Words w.heap.size aT (.slice (some ⟨w.heap.size,0,none⟩) N N) (List.replicate N 0)):=Ib gn;have bS:=Gu rz (by simp);clear gn rz;obtain⟨g,af⟩:=aM w.heap.size;have jY:=hide af;rw[af] at H1 bF;rw[af];clear af;go_wp2_with fail
 go_loopw [6] (fun i wr=>∃ (k:Nat) (os:List Nat),i=.int .i64 k/\k<=b9/\Hid (o2 p q os k 0 0)/\Words g wr (.slice (some ⟨g,0,none⟩) N N) os/\Ext w wr) (fun i _=>b9-(intOf i).toNat)
 case atStart=>exact⟨0,List.replicate N 0,rfl,by omega,by have:=o2.start p q;rw[c0.out,dx.out,dO.out] at this;exact this,H1.out,bS⟩
 case round =>
  obtain⟨k,os,rfl,aE,bq,aK,ad⟩:=hrel;have bM:Hid (os.length=N):=by rw[<-dO.out,<-c0.out,<-dx.out];exact bq.out.1
  by_cases dP:k<b9
  ·obtain⟨vd,rfl,_,DN,w8,_⟩:=j0.out.at k (by rw[c0.out];exact dP);obtain⟨x,hx⟩:=aM (p[k]'(by rw[c0.out];exact dP));have fS:x<18446744073709551616:=by rw[<-hx];exact jg wp k _
   rw[hx] at w8;have bN:=hide hx;clear hx;go_wp2_with fail
   go_loopw [8,7] (fun j t Wu=>∃ (j' c:Nat) (os:List Nat),j=.int .i64 j'/\t=.int .u64 c/\j'<=lb/\c<18446744073709551616/\Hid (o2 p q os k j' c)/\Words g Wu (.slice (some ⟨g,0,none⟩) N N) os/\Ext w Wu) (fun j _ _=>lb-(intOf j).toNat)
   case atStart=>exact⟨0,0,os,rfl,rfl,by omega,by omega,bq,aK,ad⟩
   case round =>
    clear bq aK ad bM;obtain⟨j,c,os,rfl,rfl,aN,hc,bq,aK,ad⟩:=hrel;have bM:Hid (os.length=N):=by rw[<-dO.out,<-c0.out,<-dx.out];exact bq.out.1
    have RH:wr.cell? ⟨vd,k,none⟩=_:=(ad.cell (p:=⟨vd,k,none⟩) DN).trans w8;by_cases jf:j<lb
    ·obtain⟨gX,rfl,_,pj,CQ,_⟩:=ij.out.at j (by rw[dx.out];exact jf);obtain⟨y,hy⟩:=aM (q[j]'(by rw[dx.out];exact jf));have by':y<18446744073709551616:=by rw[<-hy];exact jg qU j _
     rw[hy] at CQ;have gB:=hide hy;clear hy;have Zj:wr.cell? ⟨gX,j,none⟩=_:=(ad.cell (p:=⟨gX,j,none⟩) pj).trans CQ;obtain⟨g',e',_,G1,fZ,lq⟩:=aK.at (k+j) (by rw[bM.out];omega);obtain rfl:g=g':=by injection e' with e';injection e'
     obtain⟨o,aL⟩:=aM (os[k+j]'(by rw[bM.out];omega));have bo:o<18446744073709551616:=by rw[<-aL];exact jg aK.2 _ _
     rw[aL] at fZ;obtain⟨h1,ah,az,aj,h2,aU,ap,h3,bk,e2,fL,j4,tO,uX,aai,ao3,yT⟩:=agH x y o c fS by' bo hc
     have cG:Hid (o2 p q (os.set (k+j) ap) k (j+1) h3):=bq.out.step (by rw[c0.out];exact dP) (by rw[dx.out];exact jf) bN.out gB.out (by rw[bM.out];omega) aL fS by' yT.out.1 yT.out.2.1
     have i':=Cz ah o aj az fL.out j4.out;have dX:=Cz aj c ap aU uX.out aai.out;have aB:=hide (fun n=>(aK.ext (nR wr n)).set bM.out (k+j) ap yT.out.2.1);have dc:=hide (fun n=>ey (ad.trans (nR wr n)) (g:=g) (by rw[jY.out];exact Nat.le_refl _) (k+j) (.int .u64 (ap:Int)));have en:=yT.out.2.2;have Ro:k+j<N:=by omega
     clear aL bM aK bq;go_wp2_with fail
     go_quiet ((go_at_call 100;exact Calls.quiet_of_same ((Jx x y h1 ah _ fS by' bk e2).mono fun _ _ h=>⟨h.1,h.2.symm⟩)))
     go_wp2_with fail
     exact⟨⟨j+1,_,_,by go_num,rfl,by omega,en,cG,aB.out _,dc.out _⟩,by simp[intOf];omega⟩
    ·obtain rfl:j=lb:=by omega
     obtain⟨g',e',_,G1,fZ,lq⟩:=aK.at (k+j) (by rw[bM.out];omega);obtain rfl:g=g':=by injection e' with e';injection e'
     obtain⟨o,aL⟩:=aM (os[k+j]'(by rw[bM.out];omega));rw[aL] at fZ;have cG:Hid (o2 p q (os.set (k+j) c) (k+1) 0 0):=by
      have h:=bq.out;rw[<-dx.out] at h |-;exact h.row (by rw[c0.out];exact dP)
     have aB:=hide (aK.set bM.out (k+j) c hc);have dc:=hide (ey ad (g:=g) (by rw[jY.out];exact Nat.le_refl _) (k+j) (.int .u64 (c:Int)));have Ro:k+j<N:=by omega
     clear aL bM aK bq;go_wp2_with fail
     exact⟨⟨k+1,_,by go_num,by omega,cG,aB.out,dc.out⟩,by simp[intOf];omega⟩
  ·obtain rfl:k=b9:=by omega
   have bz:Hid (val os=n*m):=by
    have h:=bq.out;rw[<-c0.out] at h;have h2:=h.done;rw[bV.out.1,bV.out.2] at h2;exact h2
   go_wp2_with (go_at_call 84;refine(pI _ _ _ _ aK).mono ?_;rintro e w' ⟨v3,rfl,hM,rfl⟩)
   go_ret;exact⟨_,rfl,by rw[<-bz.out];exact hM.base bF,ad⟩
theorem Vg(k q r:Nat)(h:k=64*q+r)(aD:r<64):(k:Int).tdiv 64=(q:Int)/\(k:Int) / 64=(q:Int)/\(k:Int).tmod 64=(r:Int)/\(k:Int)%64=(r:Int):=by
 have h1:(k:Int).tdiv 64=(k:Int) / 64:=Int.tdiv_eq_ediv_of_nonneg (by omega);have h2:(k:Int).tmod 64=(k:Int)%64:=Int.tmod_eq_emod_of_nonneg (by omega);rw[h1,h2];omega
theorem akf(B C:Nat)(u:Ax)(n k:Nat)(w:w1)(h:Words C w u (bg n))(bF:B<=w.heap.size)(hn:(bg n).length<=1000)(aE:k<=100000) :
 AA CW 103 #[u,.int .i64 (k:Int)] w (r6 B (n*2 ^ k) w):=by
 obtain⟨i0,hi,bf,l3,lz⟩:=info_parts Er;obtain⟨p,hp⟩:=aM (bg n);have wp:cp p:=by rw[<-hp];exact mS n
 have bV:Hid (val p=n):=by rw[<-hp];exact jD n
 rw[hp] at h hn;clear hp;obtain⟨b9,gl⟩:=aM p.length;obtain⟨q,r,D_,aD⟩:∃ q r,k=64*q+r/\r<64:=⟨k / 64,k%64,by omega,by omega⟩;obtain⟨N,jO⟩:=aM (b9+q+1);obtain⟨a,ca,rfl,a1,a2,_⟩:=h.shape b9 gl;rw[gl] at hn;obtain⟨t1,t2,t3,t4⟩:=Vg k q r D_ aD;have c0:=hide gl;have j0:=hide h;have yp:=hide lz;have dO:=hide jO;have dQ:=hide D_;have aC:b9+q<N:=by omega
 have aW:N<=100000:=by omega
 have EG:q<=10000:=by omega
 clear gl h lz D_;go_enter Tryz.func103,Tryz.ntmps103
 go_wp2_with (at_make;refine wpList_make_full _ rfl _ _ 97 rfl w.heap.size 24 i0 (.int .u64 0) 1 Tryz.underlying97 hi bf l3 _ _ _ _ N rfl rfl (by omega) (by omega) (by rw[yp.out];omega) (by unfold maxLen;omega) (Nat.le_refl _) ?_;intro aT gn rz)
 have H1:Hid (Words w.heap.size aT (.slice (some ⟨w.heap.size,0,none⟩) N N) (List.replicate N 0)):=Ib gn;have bS:=Gu rz (by simp);clear gn rz jO;obtain⟨g,af⟩:=aM w.heap.size;have jY:=hide af;rw[af] at H1 bF;rw[af];clear af;go_wp2_with fail
 go_loopw [6] (fun i wr=>∃ (j:Nat) (os:List Nat),i=.int .i64 j/\j<=b9/\Hid (uJ p os q r j)/\Words g wr (.slice (some ⟨g,0,none⟩) N N) os/\Ext w wr) (fun i _=>b9-(intOf i).toNat)
 case atStart=>exact⟨0,List.replicate N 0,rfl,by omega,by have:=uJ.start p q r;rw[c0.out,dO.out] at this;exact this,H1.out,bS⟩
 case round =>
  obtain⟨j,os,rfl,aN,bq,aK,ad⟩:=hrel;have bM:Hid (os.length=N):=by rw[<-dO.out,<-c0.out];exact bq.out.1
  by_cases jf:j<b9
  ·obtain⟨vd,rfl,_,DN,w8,_⟩:=j0.out.at j (by rw[c0.out];exact jf);obtain⟨x,hx⟩:=aM (p[j]'(by rw[c0.out];exact jf));have fS:x<18446744073709551616:=by rw[<-hx];exact jg wp j _
   rw[hx] at w8;have bN:=hide hx;clear hx;have RH:wr.cell? ⟨vd,j,none⟩=_:=(ad.cell (p:=⟨vd,j,none⟩) DN).trans w8;have dB:vd≠g:=by have:=jY.out;omega
   obtain⟨g',e',_,G1,fZ,lq⟩:=aK.at (j+q) (by rw[bM.out];omega);obtain rfl:g=g':=by injection e' with e';injection e'
   obtain⟨g',e',_,_,CP,abn⟩:=aK.at (j+q+1) (by rw[bM.out];omega);obtain rfl:g=g':=by injection e' with e';injection e'
   obtain⟨o,aL⟩:=aM (os[j+q]'(by rw[bM.out];omega));have oL:os[j+q+1]'(by rw[bM.out];omega)=0:=GK (by rw[bM.out];omega) (bq.out.2.2.2.1 _ (by omega));rw[aL] at fZ;rw[oL] at CP;have Qm:Hid (os.getD (j+q) 0=o):=Ku (by rw[bM.out];omega) aL;obtain⟨l,t,z,fb,z2,z3,z4,eQ⟩:=akN x r o aD fS (by rw[<-Qm.out];exact bq.out.2.2.1);have cG:=hide (bq.out.step (by rw[c0.out];exact jf) bN.out Qm.out eQ.out.1 eQ.out.2.1 eQ.out.2.2.1 aD);have Ro:j+q<N:=by omega
   have aoQ:j+q+1<N:=by omega
   clear aL oL;by_cases iz:r=0
   ·have oe:¬ ((0:Int)<(r:Int)):=by omega
    have iH:Hid (t=0):=by
     have:=eQ.out.2.2.1;rw[iz] at this
     unfold Hid;omega
    have Xa:Hid ((os.set (j+q) z).set (j+q+1) t=os.set (j+q) z):=by
     rw[iH.out];exact akL _ _ _ (by rw[getD_set_ne _ _ _ _ (by omega)];exact bq.out.2.2.2.1 _ (by omega))
    have aB:=hide (aK.set bM.out (j+q) z eQ.out.2.1);have dc:=hide (ey ad (g:=g) (by rw[jY.out];exact Nat.le_refl _) (j+q) (.int .u64 (z:Int)));have ym:=hide iz;clear iz;go_wp2_with fail
    go_region
    go_wp2_with fail
    exact⟨⟨j+1,_,by go_num,by omega,by rw[<-Xa.out];exact cG,aB.out,dc.out.trans (b5 _)⟩,by simp[intOf];omega⟩
   ·have oe:(0:Int)<(r:Int):=by omega
    have aB:=hide ((aK.set bM.out (j+q) z eQ.out.2.1).set (by rw[List.length_set];exact bM.out) (j+q+1) t eQ.out.2.2.2);have dc:=hide (ey (ey ad (g:=g) (by rw[jY.out];exact Nat.le_refl _) (j+q) (.int .u64 (z:Int))) (g:=g) (by rw[jY.out];exact Nat.le_refl _) (j+q+1) (.int .u64 (t:Int)));have ym:=hide iz;clear iz;go_wp2_with fail
    go_region
    go_wp2_with fail
    go_region
    go_wp2_with fail
    exact⟨⟨j+1,_,by go_num,by omega,cG,aB.out,(dc.out.trans (b5 _)).trans (b5 _)⟩,by simp[intOf];omega⟩
  ·obtain rfl:j=b9:=by omega
   have bz:Hid (val os=n*2 ^ k):=by
    have h:=bq.out;rw[<-c0.out] at h;have h2:=h.done;rw[bV.out,<-dQ.out] at h2;exact h2
   go_wp2_with (go_at_call 84;refine(pI _ _ _ _ aK).mono ?_;rintro e w' ⟨v3,rfl,hM,rfl⟩)
   go_ret;exact⟨_,rfl,by rw[<-bz.out];exact hM.base bF,ad⟩
def yc(g:Nat)(v:Ax):Prop:=∀ g' n c,v=.slice (some ⟨g',0,none⟩) n c->g'≠g
theorem Words.c7{B g:Nat}{w w':w1}{v:Ax}{l:List Nat}(h:Words B w v l)(k:b3 g w w')(ha:yc g v):Words B w' v l:=by
 refine⟨?_,h.2⟩;obtain⟨h1,h2|⟨g',cap,cur,aF,af,hh,r⟩⟩:=h.1
 ·exact⟨h1,Or.inl h2⟩
 ·have cl:=(h.1.lt g' (by rw[aF];rfl)).2;exact⟨h1,Or.inr ⟨g',cap,cur,aF,af,by rw[k.2.2.2.2 g' cl (ha _ _ _ aF)];exact hh,r⟩⟩
theorem Words.apart{B g:Nat}{w:w1}{v:Ax}{l:List Nat}(h:Words B w v l)(af:w.heap.size<=g):yc g v:=by
 rintro g' n c rfl;have:=(h.1.lt g' rfl).2;omega
theorem Words.CD{B g:Nat}{w:w1}{v:Ax}{l:List Nat}(h:Words B w v l)(af:g<B):yc g v:=by
 rintro g' n c rfl;have:=(h.1.lt g' rfl).1;omega
def WM(B g cap:Nat)(l:List Nat)(w:w1)(e:axa)(w':w1):Prop:=e=.returned (.slice (some ⟨g,0,none⟩) l.length cap)/\Words B w' (.slice (some ⟨g,0,none⟩) l.length cap) l/\w=w'
theorem alu(B g cap:Nat)(l:List Nat)(w:w1)(h:Words B w (.slice (some ⟨g,0,none⟩) l.length cap) l):AA CW 84 #[.slice (some ⟨g,0,none⟩) l.length cap] w (WM B g cap (bg (val l)) w):=by
 go_enter Tryz.func84,Tryz.ntmps84
 go_wp2_with fail
 go_loop [0] (fun v=>∃ m,v=.slice (some ⟨g,0,none⟩) m.length cap/\Words B w (.slice (some ⟨g,0,none⟩) m.length cap) m/\val m=val l) (fun v=>lenOf v)
 case atStart=>exact⟨l,rfl,h,rfl⟩
 case round =>
  obtain⟨m,rfl,hm,e⟩:=hrel;rcases Nr m with rfl|⟨r,x,rfl⟩
  ·have dc:Hid (bg (val l)=[]):=by rw[<-e];simp[Hid,val,oh]
   clear e;go_wp2
   go_ret;exact⟨by rw[dc.out];rfl,by rw[dc.out];exact hm,rfl⟩
  ·obtain⟨g',Gf,e',h1,h2,h3,h4,hc,hf⟩:=hm.pos (r.length+1) (by simp) (by omega);simp only[List.length_append,List.length_cons,List.length_nil,Nat.zero_add,Value.slice.injEq,Option.some.injEq,Addr.mk.injEq,and_true,true_and] at e';obtain⟨rfl,rfl⟩:=e';have hx:=hc r.length (by simp);rw[show (r++[x])[r.length]'(by simp)=x by simp] at hx;have hl:(r++[x]).length=r.length+1:=by simp
   rw[hl] at hm |-;have L8:=hm.pop;clear hc hf;by_cases hz:x=0
   ·subst hz;have e2:val r=val l:=by rw[<-e,xS];simp
    have dc:=(show Hid _ from e2);clear e e2;go_wp2
    exact⟨⟨r,rfl,L8,dc.out⟩,by simp[lenOf]⟩
   ·have Ek:((x:Int)==0)=false:=by simp;omega
    have e2:bg (val (r++[x]))=r++[x]:=MT _ hm.2 (by simp[hz]);have dc:Hid (bg (val l)=r++[x]):=by rw[<-e];exact e2
    clear e e2;go_wp2
    go_ret;exact⟨by rw[dc.out,hl];rfl,by rw[dc.out,hl];exact hm,rfl⟩
theorem SI(x y:Nat)(hx:x<18446744073709551616)(hy:y<18446744073709551616) :
 ∃ h l z:Nat,(x:Int) / 2=(h:Int)/\IntKind.u64.wrap ((y:Int)*9223372036854775808)=(l:Int)/\bits .or .u64 (h:Int) (l:Int)=(z:Int)/\Hid (h=x / 2/\z=x / 2+9223372036854775808*(y%2)/\z<18446744073709551616/\h<9223372036854775808):=by
 have JY:(2:Nat) ^ 63=9223372036854775808:=by decide
 obtain⟨k,b,aE,hb⟩:∃ k b,y=2*k+b/\b<2:=⟨y / 2,y%2,by omega,by omega⟩;have ae8:y%2=b:=by omega
 obtain⟨h,m,hh,hm⟩:∃ h m,x=2*h+m/\m<2:=⟨x / 2,x%2,by omega,by omega⟩;have aeW:x / 2=h:=by omega
 have h1:b*2 ^ 63<18446744073709551616:=by rw[JY];omega
 have aL:=BL b h 63 (by omega) (by rw[JY];omega) h1;rw[JY] at aL;have hw:IntKind.u64.wrap ((y:Int)*9223372036854775808)=((b*9223372036854775808:Nat):Int):=by
  rw[iT,aE];have e:((2*k+b:Nat):Int)*9223372036854775808=(b:Int)*9223372036854775808+18446744073709551616*(k:Int):=by push_cast;omega
  rw[e,Int.add_mul_emod_self_left,Int.natCast_mul];exact Int.emod_eq_of_lt (by omega) (by omega)
 rw[ae8,aeW];have nt:=(UN _ _).trans aL;have h2:(x:Int) / 2=(h:Int):=by omega
 have h3:b*9223372036854775808+h=h+9223372036854775808*b:=(Nat.add_comm _ _).trans (congrArg (h+·) (Nat.mul_comm _ _));have h4:b*9223372036854775808<=1*9223372036854775808:=Nat.mul_le_mul_right _ (by omega);have h5:h<9223372036854775808:=by omega
 have h6:b*9223372036854775808+h<18446744073709551616:=Nat.lt_of_lt_of_le (Nat.add_lt_add_of_le_of_lt h4 h5) (by decide);exact⟨h,_,_,h2,hw,nt,⟨rfl,h3,h6,h5⟩⟩
def Xh(B g cap n:Nat)(w:w1)(e:axa)(w':w1):Prop:=e=.returned (.slice (some ⟨g,0,none⟩) (bg n).length cap)/\Words B w' (.slice (some ⟨g,0,none⟩) (bg n).length cap) (bg n)/\b3 g w w'
theorem Vz(B g cap n:Nat)(w:w1)(h:Words B w (.slice (some ⟨g,0,none⟩) (bg n).length cap) (bg n))(hn:(bg n).length<=1000) :
 AA CW 104 #[.slice (some ⟨g,0,none⟩) (bg n).length cap] w (Xh B g cap (n / 2) w):=by
 obtain⟨p,hp⟩:=aM (bg n);have wp:cp p:=by rw[<-hp];exact mS n
 have bV:Hid (val p=n):=by rw[<-hp];exact jD n
 rw[hp] at h hn |-;clear hp;obtain⟨L,br⟩:=aM p.length;rw[br] at h hn |-;have cz:=hide br;have HH:=hide h;obtain⟨_,_,e',eS,zb,_⟩:=h.shape L br;simp only[Value.slice.injEq] at e';obtain⟨rfl,_,rfl⟩:=e';clear br h;go_enter Tryz.func104,Tryz.ntmps104
 go_wp2_with fail
 go_loopw [3] (fun i wr=>∃ (j:Nat) (os:List Nat),i=.int .i64 j/\j<=L/\Hid (uI p os j)/\Words B wr (.slice (some ⟨g,0,none⟩) L cap) os/\b3 g w wr) (fun i _=>L-(intOf i).toNat)
 case atStart=>exact⟨0,p,rfl,by omega,uI.start p wp,HH.out,b3.refl _ _⟩
 case round =>
  obtain⟨j,os,rfl,aN,bq,aK,ef⟩:=hrel;have bM:Hid (os.length=L):=by rw[<-cz.out];exact bq.out.1
  by_cases jf:j<L
  ·obtain⟨g',e',_,_,fZ,lq⟩:=aK.at j (by rw[bM.out];exact jf);obtain rfl:g=g':=by injection e' with e';injection e'
   obtain⟨x,hx⟩:=aM (p[j]'(by rw[cz.out];exact jf));have fS:x<18446744073709551616:=by rw[<-hx];exact jg wp j _
   have S3:os[j]'(by rw[bM.out];exact jf)=x:=by rw[<-hx];exact(n4 bq.out.2.2.1 (by rw[bM.out];exact jf) (by rw[cz.out];exact jf)).1
   rw[S3] at fZ;have bN:=hide hx;clear hx S3;by_cases Bl:j+1<L
   ·obtain⟨g',e',_,_,CP,abn⟩:=aK.at (j+1) (by rw[bM.out];exact Bl);obtain rfl:g=g':=by injection e' with e';injection e'
    obtain⟨y,hy⟩:=aM (p[j+1]'(by rw[cz.out];exact Bl));have by':y<18446744073709551616:=by rw[<-hy];exact jg wp (j+1) _
    have S4:os[j+1]'(by rw[bM.out];exact Bl)=y:=by
     have:=(n4 bq.out.2.2.1 (by rw[bM.out];exact jf) (by rw[cz.out];exact jf)).2;rw[<-hy];exact(n4 this (by rw[bM.out];exact Bl) (by rw[cz.out];exact Bl)).1
    rw[S4] at CP;obtain⟨h,l,z,fb,z2,z3,eQ⟩:=SI x y fS by'
    have cG:=hide (bq.out.step (z:=z) (by rw[cz.out];exact jf) bN.out (by rw[Ku (by rw[cz.out];exact Bl) hy];exact eQ.out.2.1) fS);have Bh:=(aK.set bM.out j h (by have:=eQ.out.2.2.2;omega)).set (by rw[List.length_set];exact bM.out) j z eQ.out.2.2.1;rw[List.set_set] at Bh;have aB:=hide Bh.drew;clear Bh;have dR:=hide ((ef.set j (.int .u64 (h:Int))).set j (.int .u64 (z:Int)));have gB:=hide hy;clear hy S4;go_wp2_with fail
    go_region
    go_wp2_with fail
    exact⟨⟨j+1,_,by go_num,by omega,cG,aB.out,dR.out.drew⟩,by simp[intOf];omega⟩
   ·obtain⟨h,l,z,fb,z2,z3,eQ⟩:=SI x 0 fS (by omega);have hz:z=h:=by have h1:=eQ.out.1;have h2:=eQ.out.2.1;omega
    have cG:=hide (bq.out.step (z:=h) (by rw[cz.out];exact jf) bN.out (by rw[show p.getD (j+1) 0=0 by simp[List.getD,show p.length<=j+1 by rw[cz.out];omega]];rw[<-hz];exact eQ.out.2.1) fS);have aB:=hide (aK.set bM.out j h (by have:=eQ.out.2.2.2;omega));have dR:=hide (ef.set j (.int .u64 (h:Int)));clear hz z2 z3;go_wp2_with fail
    exact⟨⟨j+1,_,by go_num,by omega,cG,aB.out,dR.out⟩,by simp[intOf];omega⟩
  ·obtain rfl:j=L:=by omega
   have bz:Hid (val os=n / 2):=by
    have h:=bq.out;rw[<-cz.out] at h;rw[h.done,bV.out];exact rfl
   have W4:=bM.out;subst W4;go_wp2_with (go_at_call 84;refine(alu B g cap os _ aK).mono ?_;rintro e w' ⟨rfl,hM,rfl⟩;rw[bz.out] at hM |-)
   go_ret;exact⟨rfl,hM,ef⟩
theorem YD(x:Nat)(w:w1)(hx:x<18446744073709551616)(h0:0<x):AA CW 119 #[.int .u64 (x:Int)] w fun e w'=>∃ s:Nat,e=.returned (.int .i64 (s:Int))/\1<=s/\s<=64/\x<2 ^ s/\2 ^ (s-1)<=x/\w=w':=by
 refine(Go.Proofs.Any.bits_Len64 (P:=CW) (ρ:=T_) { T9 with } (x:Int) w (by omega) (by omega)).mono ?_;rintro e w' ⟨rfl,rfl⟩;obtain⟨i1,i2,i3⟩:=bitLen_spec x hx;obtain⟨cW,cL⟩:=i3 (by omega);exact⟨Lib.bitLen x,by rw[Int.toNat_natCast],cW,i1,i2,cL,rfl⟩
def XE(n:Nat)(w:w1)(e:axa)(w':w1):Prop:=∃ s:Nat,e=.returned (.int .i64 (s:Int))/\Size n s/\s<=64000/\w=w'
theorem VB(B n:Nat)(v:Ax)(w:w1)(h:Words B w v (bg n))(hn:(bg n).length<=1000):AA CW 102 #[v] w (XE n w):=by
 obtain⟨p,hp⟩:=aM (bg n);have wp:cp p:=by rw[<-hp];exact mS n
 have bV:Hid (val p=n):=by rw[<-hp];exact jD n
 have LM:=af1 n;rw[hp] at h hn LM;clear hp;rcases Nr p with rfl|⟨r,x,rfl⟩
 ·obtain⟨a,cap,rfl,_⟩:=h.nil;go_enter Tryz.func102,Tryz.ntmps102
  go_wp2_with fail
  go_ret;exact⟨0,rfl,⟨by rw[<-bV.out];simp[val],by rw[<-bV.out];simp[val],fun _=>rfl⟩,by omega,rfl⟩
 ·obtain⟨L,br⟩:=aM r.length;have fS:x<18446744073709551616:=wp x (by simp);have Ml:0<x:=by
   rcases Nat.eq_zero_or_pos x with h0|h0
   ·subst h0;simp at LM
   ·exact h0
  obtain⟨g,cap,rfl,h1,h2,h3,h4,hc,hf⟩:=h.pos (L+1) (by simp[br]) (by omega);have vA:=hc L (by simp[br]);rw[show (r++[x])[L]'(by simp[br])=x by subst br;simp] at vA;have apl:L<=999:=by simp[br] at hn;omega
  have cz:=hide br;have wr:cp r:=fun y hy=>wp y (by simp[hy])
  clear hc hf hn LM br h;go_enter Tryz.func102,Tryz.ntmps102
  go_wp2_with (go_at_call 119;refine(YD x _ fS Ml).mono ?_;rintro e w' ⟨k,rfl,bQ,bY,cX,ev,rfl⟩;have c4:=hide cX;have AB:=hide ev;clear cX ev)
  go_ret;exact⟨64*L+k,by rfl,by rw[<-bV.out,<-cz.out];exact akS r x k wr c4.out bQ AB.out,by omega,rfl⟩
def uH(p os:List Nat)(y k c:Nat):Prop:=os.length=p.length/\cp os/\c<y/\val (os.drop k)*y+c=val (p.drop k)
theorem uH.start(p:List Nat)(y:Nat)(hy:0<y):uH p (List.replicate p.length 0) y p.length 0:=
 ⟨by simp,H5 _,hy,by rw[List.drop_of_length_le (by simp),List.drop_of_length_le (Nat.le_refl _)];simp[val]⟩
theorem uH.step{p os:List Nat}{y j c x q r:Nat}(h:uH p os y (j+1) c)(aN:j<p.length)(hx:p[j]=x)(fS:x<18446744073709551616)(aO:(c*18446744073709551616+x) / y=q)(aD:(c*18446744073709551616+x)%y=r) :
 uH p (os.set j q) y j r/\q<18446744073709551616:=by
 obtain⟨h1,h2,h3,h4⟩:=h;have oc:q<18446744073709551616:=by
  rw[<-aO,Nat.div_lt_iff_lt_mul (by omega)];have:(c+1)*18446744073709551616<=y*18446744073709551616:=Nat.mul_le_mul_right _ h3;omega
 refine⟨⟨by simpa using h1,oU h2 _ _ oc,by rw[<-aD];exact Nat.mod_lt _ (by omega),?_⟩,oc⟩;have hl:j<(os.set j q).length:=by rw[List.length_set];omega
 rw[tu _ j hl,List.getElem_set_self,drop_set,tu p j aN,hx,<-h4];have e:=Nat.div_add_mod (c*18446744073709551616+x) y;rw[aO,aD] at e;generalize val (os.drop (j+1))=V at *;rw[Nat.add_mul,Nat.mul_assoc,Nat.mul_add];rw[Nat.mul_comm q y];omega
theorem uH.done{p os:List Nat}{y c:Nat}(h:uH p os y 0 c):val os=val p / y/\c=val p%y:=by
 obtain⟨_,_,h3,h4⟩:=h;simp only[List.drop_zero] at h4;rw[<-h4];have bk:(val os*y+c) / y=val os:=by rw[Nat.mul_comm,Nat.mul_add_div (by omega),Nat.div_eq_of_lt h3,Nat.add_zero]
 have e2:(val os*y+c)%y=c:=by rw[Nat.mul_comm,Nat.mul_add_mod,Nat.mod_eq_of_lt h3]
 exact⟨bk.symm,e2.symm⟩
def Iu(B n m:Nat)(w:w1)(e:axa)(w':w1):Prop:=∃ v1 v2,e=.returned (.tuple #[v1,v2])/\Words B w' v1 (bg (n / m))/\Words B w' v2 (bg (n%m))/\Ext w w'
theorem ant(B:Nat)(w:w1):Words B w (.slice none 0 0) []:=⟨⟨by simp[wd],Or.inl ⟨rfl,rfl⟩⟩,by intro x hx;simp at hx⟩
theorem T4(y:Nat)(h0:0<y)(hy:y<18446744073709551616):bg y=[y]:=by
 rw[tZ (by omega),Nat.mod_eq_of_lt hy,Nat.div_eq_of_lt hy,oh]
theorem akb(B C D:Nat)(u v:Ax)(n y:Nat)(w:w1)(h:Words C w u (bg n))(k:Words D w v [y])(bF:B<=w.heap.size)(hn:(bg n).length<=1000)(h0:0<y) :
 AA CW 88 #[u,v] w (Iu B n y w):=by
 obtain⟨i0,hi,bf,l3,lz⟩:=info_parts Er;obtain⟨p,hp⟩:=aM (bg n);have wp:cp p:=by rw[<-hp];exact mS n
 have bV:Hid (val p=n):=by rw[<-hp];exact jD n
 rw[hp] at h hn;clear hp;have hy:y<18446744073709551616:=k.2 y (by simp);obtain⟨b9,gl⟩:=aM p.length;obtain⟨a,ca,rfl,a1,a2,_⟩:=h.shape b9 gl;obtain⟨gX,cb,rfl,bA,bX,en,eZ,SJ,_⟩:=k.pos 1 rfl (by omega);have CQ:=SJ 0 (by simp);simp only[List.getElem_cons_zero] at CQ;rw[gl] at hn;have c0:=hide gl;have j0:=hide h;have yp:=hide lz;clear gl h lz SJ k;go_enter Tryz.func88,Tryz.ntmps88
 go_wp2_with (at_make;refine wpList_make_full _ rfl _ _ 97 rfl w.heap.size 24 i0 (.int .u64 0) 1 Tryz.underlying97 hi bf l3 _ _ _ _ b9 rfl rfl rfl rfl (by rw[yp.out];omega) (by unfold maxLen;omega) (Nat.le_refl _) ?_;intro aT gn rz)
 have H1:Hid (Words w.heap.size aT (.slice (some ⟨w.heap.size,0,none⟩) b9 b9) (List.replicate b9 0)):=Ib gn;have bS:=Gu rz (by simp);clear gn rz;obtain⟨g,af⟩:=aM w.heap.size;have jY:=hide af;rw[af] at H1 bF eZ;rw[af];clear af;go_wp2_with fail
 go_loopw [7,8] (fun t i wr=>∃ (j c:Nat) (os:List Nat),i=.int .i64 ((j:Int)-1)/\t=.int .u64 c/\j<=b9/\c<y/\Hid (uH p os y j c)/\Words g wr (.slice (some ⟨g,0,none⟩) b9 b9) os/\Ext w wr) (fun _ i _=>(intOf i+1).toNat)
 case atStart=>exact⟨b9,0,List.replicate b9 0,rfl,rfl,by omega,h0,by have:=uH.start p y h0;rw[c0.out] at this;exact this,H1.out,bS⟩
 case round =>
  obtain⟨j,c,os,rfl,rfl,aN,hc,bq,aK,ad⟩:=hrel;have bM:Hid (os.length=b9):=by rw[<-c0.out];exact bq.out.1
  by_cases rA:j=0
  ·subst rA;have bz:Hid (val os=n / y/\c=n%y):=by have:=bq.out.done;rw[bV.out] at this;exact this
   have cO:Hid (bg (val [c])=bg (n%y)):=by rw[<-bz.out.2];simp[Hid,val]
   have rX:=hide (Ic wr.heap.size wr c wr.heap.size rfl (Nat.le_refl _) (by omega));have gj:=hide (aA wr (.cells #[c] 24));go_wp2_with (first
    | (go_at_call 84;(with_reducible refine(pI _ _ _ _ aK).mono ?_);rintro e w' ⟨v3,rfl,hM,rfl⟩;have aeL:=hide (hM.ext gj.out))
    | (go_at_call 84;refine(pI _ _ _ _ rX.out).mono ?_;rintro e w' ⟨v5,rfl,Bq,rfl⟩))
   go_ret2
   exact⟨_,_,rfl,by rw[<-bz.out.1];exact aeL.out.base bF,by rw[<-cO.out];exact Bq.base (Nat.le_trans bF (by rw[<-jY.out];exact ad.size)),ad.trans gj.out⟩
  ·obtain⟨j,rfl⟩:∃ i,j=i+1:=⟨j-1,by omega⟩;have jf:j<b9:=by omega
   obtain⟨vd,rfl,_,DN,w8,_⟩:=j0.out.at j (by rw[c0.out];exact jf);obtain⟨x,hx⟩:=aM (p[j]'(by rw[c0.out];exact jf));have fS:x<18446744073709551616:=by rw[<-hx];exact jg wp j _
   rw[hx] at w8;have RH:wr.cell? ⟨vd,j,none⟩=_:=(ad.cell (p:=⟨vd,j,none⟩) DN).trans w8;have Zj:wr.cell? ⟨gX,0,none⟩=_:=(ad.cell (p:=⟨gX,0,none⟩) (by rw[jY.out];exact eZ)).trans CQ;obtain⟨g',e',_,_,fZ,lq⟩:=aK.at j (by rw[bM.out];exact jf);obtain rfl:g=g':=by injection e' with e';injection e'
   obtain⟨o,aL⟩:=aM (os[j]'(by rw[bM.out];omega));rw[aL] at fZ;obtain⟨q,aO⟩:=aM ((c*18446744073709551616+x) / y);obtain⟨r,aD⟩:=aM ((c*18446744073709551616+x)%y);have cG:=hide (bq.out.step (by rw[c0.out];exact jf) hx fS aO aD);have YI:r<y:=cG.out.1.2.2.1;have dQ:=hide aO;have IK:=hide aD;clear aL hx aO aD;go_wp2_with fail
   go_region_with (go_at_call 101;refine(Rr c x y q r _ hc hy fS dQ IK).mono ?_;rintro e bp ⟨rfl,gj⟩;have Bh:=aK.drew.ext gj;have WS:=ad.trans ((b5 _).trans gj);obtain⟨g',e',_,_,Zi,abo⟩:=Bh.at j (by rw[bM.out];exact jf);obtain rfl:g=g':=(by injection e' with e';injection e'))
   all_goals go_wp2_with fail
   all_goals exact⟨⟨j,r,_,rfl,rfl,by omega,YI,cG.out.1,Bh.set bM.out j q cG.out.2,ey WS (g:=g) (by rw[jY.out];exact Nat.le_refl _) j (.int .u64 (q:Int))⟩,by first|(simp[intOf];done)|(simp[intOf];omega)⟩
theorem Lr(m j:Nat):m*2 ^ (j+1) / 2=m*2 ^ j:=by
 rw[Nat.pow_succ,<-Nat.mul_assoc,Nat.mul_div_cancel _ (by omega)]
theorem Js{g qz n c:Nat}(h:g≠qz):yc qz (.slice (some ⟨g,0,none⟩) n c):=by
 rintro g' n' c' e;simp only[Value.slice.injEq,Option.some.injEq,Addr.mk.injEq] at e;omega
theorem YG{j n b9:Nat}(h:2 ^ j<=n)(hn:n<18446744073709551616 ^ b9):j<64*b9:=by
 have e:18446744073709551616 ^ b9=2 ^ (64*b9):=by rw[Nat.pow_mul]
 rw[e] at hn;exact(Nat.pow_lt_pow_iff_right (by omega)).1 (Nat.lt_of_le_of_lt h hn)
theorem ahS(s:Nat)(hs:s<64):∃ t:Nat,IntKind.u64.wrap ((2:Int) ^ s)=(t:Int)/\IntKind.u64.wrap (1*(2:Int) ^ s)=(t:Int)/\Hid (t=2 ^ s):=by
 have h1:2 ^ s<18446744073709551616:=Nat.lt_of_le_of_lt (Nat.pow_le_pow_right (by omega) (show s<=63 by omega)) (by decide);have h2:((2:Int) ^ s)=((2 ^ s:Nat):Int):=by rw[Int.natCast_pow];rfl
 have h3:IntKind.u64.wrap ((2:Int) ^ s)=((2 ^ s:Nat):Int):=by
  rw[h2,iT];generalize 2 ^ s=t at *;omega
 exact⟨2 ^ s,h3,by rw[Int.one_mul];exact h3,rfl⟩
theorem size_pos{n s:Nat}(h:Size n s)(h1:1<=s):n≠0:=fun e=>by have:=h.2.2 e;omega
theorem amr{n m s1 s2 z b9:Nat}(h1:Size n s1)(h2:Size m s2)(hz:s1=s2+z)(h3:1<=s2)(hl:(bg n).length=b9):m*2 ^ z<18446744073709551616 ^ (b9+1)/\n<m*2 ^ (z+1):=by
 have DY:=size_pos h1 (by omega);have k4:=size_pos h2 h3;obtain⟨_,i2⟩:=h1.2.1 DY;obtain⟨_,cL⟩:=h2.2.1 k4;have hb:n<18446744073709551616 ^ b9:=ka.1 (by omega);have bk:2 ^ s1=2*2 ^ (s1-1):=by rw[<-Nat.pow_succ'];congr 1;omega
 have e2:2 ^ s1=2 ^ s2*2 ^ z:=by rw[hz,Nat.pow_add]
 have fL:2 ^ s2=2*2 ^ (s2-1):=by rw[<-Nat.pow_succ'];congr 1;omega
 have bQ:m*2 ^ z<2 ^ s2*2 ^ z:=Nat.mul_lt_mul_of_pos_right h2.1 (Nat.two_pow_pos _);have bY:2 ^ (s2-1)*2 ^ (z+1)<=m*2 ^ (z+1):=Nat.mul_le_mul_right _ cL;have cX:2 ^ (s2-1)*2 ^ (z+1)=2 ^ s1:=by rw[<-Nat.pow_add];congr 1;omega
 have hJ:=h1.1;refine⟨?_,by omega⟩;rw[Nat.pow_succ];generalize 18446744073709551616 ^ b9=X at *;generalize m*2 ^ z=Y at *;rw[<-e2] at bQ;omega
theorem akc(B C D:Nat)(u v:Ax)(n m:Nat)(w:w1)(h:Words C w u (bg n))(k:Words D w v (bg m))(bF:B<=w.heap.size)(hn:(bg n).length<=900)(hm:(bg m).length<=900)(pn:2<=(bg m).length) :
 AA CW 88 #[u,v] w (Iu B n m w):=by
 obtain⟨i0,hi,bf,l3,lz⟩:=info_parts Er;obtain⟨b9,gl⟩:=aM ((bg n).length);obtain⟨lb,iP⟩:=aM ((bg m).length);obtain⟨a,ca,rfl,a1,a2,_⟩:=h.shape b9 gl;obtain⟨b,cb,rfl,bA,bX,_⟩:=k.shape lb iP;rw[gl] at hn;rw[iP] at hm pn;have c0:=hide gl;have Iy:=hide iP;have j0:=hide h;have ij:=hide k;have yp:=hide lz;have dB:¬ ((lb:Int)=1):=by omega
 clear gl iP h k lz;go_enter Tryz.func88,Tryz.ntmps88
 go_upto_region 2 with (at_make;refine wpList_make_full _ rfl _ _ 97 rfl w.heap.size 24 i0 (.int .u64 0) 1 Tryz.underlying97 hi bf l3 _ _ _ _ b9 rfl rfl rfl rfl (by rw[yp.out];omega) (by unfold maxLen;omega) (Nat.le_refl _) ?_;intro aT gn rz)
 have H1:Hid (Words w.heap.size aT (.slice (some ⟨w.heap.size,0,none⟩) b9 b9) (List.replicate b9 0)):=Ib gn;have bS:=Gu rz (by simp);clear gn rz;obtain⟨g,af⟩:=aM w.heap.size;have jY:=hide af;rw[af] at H1 bF;rw[af];clear af;have QB:=hide (j0.out.ext bS);have AE:=hide (ij.out.ext bS);have g1:g<aT.heap.size:=(H1.out.1.lt g rfl).2;have Qj:=hide (Ia aT.heap.size aT aT.heap.size rfl (Nat.le_refl _));have pe:=hide (aA aT (.cells #[] 24));go_upto_region 10 with (first
  | (at_builtin;refine AX rfl (.tmp 46) (.tmp 47) rfl aT.heap.size C _ _ [] (bg n) rfl rfl Qj.out (QB.out.ext pe.out) (by simp) (by rw[c0.out];simp;omega) aT pe.out (Nat.le_refl _) ?_;intro v2 bp ly gj)
  | (go_at_call 84;refine(pI _ _ _ _ ly).mono ?_;rintro e w' ⟨v9,rfl,Tf,rfl⟩))
 have yo:Hid (Words aT.heap.size bp v9 (bg n)):=by
  have:=Tf;rw[List.nil_append,jD] at this
  exact this
 have AF:=hide (AE.out.ext gj);have Qf:=hide (H1.out.ext gj);have EE:=hide (bS.trans gj);have WR:=gj;clear Tf ly gj Qj pe AE QB;go_upto_region 11 with (first
  | (go_at_call 102;(with_reducible refine(VB _ n v9 _ yo.out (by rw[c0.out];omega)).mono ?_);rintro e w' ⟨s1,rfl,py,aoS,rfl⟩;have Qn:=hide py;clear py)
  | (go_at_call 102;(with_reducible refine(VB _ m _ _ AF.out (by rw[Iy.out];omega)).mono ?_);rintro e w' ⟨s2,rfl,hK,aoT,rfl⟩;have Qo:=hide hK;clear hK))
 have k4:m≠0:=by
  intro h0;have:=Iy.out;rw[h0,oh] at this
  simp at this
  omega
 obtain⟨xd,Sp⟩:=Qo.out.2.1 k4;by_cases cl:s1<s2
 ·have G4:n<m:=by
   have h1:=Qn.out.1;have h2:2 ^ s1<=2 ^ (s2-1):=Nat.pow_le_pow_right (by omega) (by omega);omega
  have eU:Hid (n / m=0/\n%m=n):=⟨Nat.div_eq_of_lt G4,Nat.mod_eq_of_lt G4⟩;have aeb:(s1:Int)-(s2:Int)<0:=by omega
  clear xd Sp G4 cl;go_wp2_with fail
  go_ret2
  exact⟨_,_,rfl,by rw[eU.out.1,oh];exact ant _ _,by rw[eU.out.2];exact yo.out.base (Nat.le_trans bF (by omega)),EE.out⟩
 ·obtain⟨z,hz⟩:∃ z,s1=s2+z:=⟨s1-s2,by omega⟩;have Ek:(s1:Int)-(s2:Int)=(z:Int):=by omega
  rw[Ek];obtain⟨u1,u2⟩:=amr Qn.out Qo.out hz xd c0.out;have oE:=hide u1;have eQ:=hide hz;have an7:z<=100000:=by omega
  clear u1 Sp cl hz Ek;go_upto_region 14 with (go_at_call 103;(with_reducible refine(akf bp.heap.size D _ m z _ AF.out (Nat.le_refl _) (by rw[Iy.out];omega) an7).mono ?_);rintro e w3 ⟨v11,rfl,tU,qA⟩)
  have apT:0<m*2 ^ z:=Nat.mul_pos (by omega) (Nat.two_pow_pos z);obtain⟨qz,cd,rfl,d1,d2,d3,d4,_⟩:=tU.pos _ rfl (Hc _ |>.2 (by omega));have aeN:aT.heap.size<=bp.heap.size:=by
   have:=(Qf.out.1.lt g rfl).2;exact WR.size
  have A9:yc qz v9:=yo.out.apart d3;have ky:g≠qz:=by omega
  have yo:=hide (yo.out.ext qA);have Qg:=hide (Qf.out.ext qA);have P_:=hide (tU.base aeN);have EE:=hide (EE.out.trans qA);have cT:val (List.replicate b9 0)=0:=Fg b9;have Ay:Hid (w.heap.size<=qz):=by rw[jY.out];unfold Hid;omega
  clear tU qA;go_wp2_with fail
  go_loopw [9,11,12] (fun r d i wr=>∃ (k R:Nat) (os:List Nat),i=.int .i64 ((k:Int)-1)/\k<=z+1/\Hid (R<m*2 ^ k)/\d=.slice (some ⟨qz,0,none⟩) (bg (m*2 ^ k / 2)).length cd/\Words aT.heap.size wr r (bg R)/\yc qz r/\Words aT.heap.size wr (.slice (some ⟨qz,0,none⟩) (bg (m*2 ^ k / 2)).length cd) (bg (m*2 ^ k / 2))/\Words g wr (.slice (some ⟨g,0,none⟩) b9 b9) os/\Hid (os.length=b9/\val os*m+R=n/\val os%2 ^ k=0)/\Ext w wr) (fun _ _ i _=>(intOf i+1).toNat)
  case atStart=>exact⟨z+1,n,List.replicate b9 0,by congr 1;omega,Nat.le_refl _,u2,by rw[Lr],yo.out,A9,by rw[Lr];exact P_.out,Qg.out,⟨by simp,by rw[cT];omega,by rw[cT,Nat.zero_mod]⟩,EE.out⟩
  case round =>
   clear yo A9 Qg P_ EE cT;obtain⟨k,R,os,rfl,aE,bq,rfl,aD,A9,hd,aO,bM,ad⟩:=hrel;by_cases qE:k=0
   ·subst qE;have ym:Hid (R<m/\val os=n / m/\R=n%m):=by
     have h1:=bq.out;rw[Nat.pow_zero,Nat.mul_one] at h1;have h2:=bM.out.2.1;refine⟨h1,?_,?_⟩
     ·rw[<-h2,Nat.mul_comm,Nat.mul_add_div (by omega),Nat.div_eq_of_lt h1,Nat.add_zero]
     ·rw[<-h2,Nat.mul_comm,Nat.mul_add_mod,Nat.mod_eq_of_lt h1]
    clear hd;go_wp2_with (go_at_call 84;(with_reducible refine(pI _ _ _ _ aO).mono ?_);rintro e w' ⟨v3,rfl,hM,rfl⟩)
    go_ret2
    exact⟨_,_,rfl,by rw[<-ym.out.2.1];exact hM.base bF,by rw[<-ym.out.2.2];exact aD.base (Nat.le_trans bF (by omega)),ad⟩
   ·obtain⟨j,rfl⟩:∃ j,k=j+1:=⟨k-1,by omega⟩;rw[Lr] at hd |-;obtain⟨T,aw⟩:=aM (m*2 ^ j);have SC:m*2 ^ j / 2=T / 2:=by rw[aw]
    have W9:Hid (R<2*T):=by
     have:=bq.out;rw[Nat.pow_succ,<-Nat.mul_assoc,aw] at this
     unfold Hid;omega
    have SD:(bg T).length<=901:=by
     have h1:T<=m*2 ^ z:=by rw[<-aw];exact Nat.mul_le_mul_left _ (Nat.pow_le_pow_right (by omega) (by omega))
     have h2:=oE.out;exact Nat.le_trans (ka.2 (Nat.lt_of_le_of_lt h1 h2)) (by omega)
    have DC:(bg R).length<=900:=by
     have h1:R<=n:=by have:=bM.out.2.1;omega
     have h2:n<18446744073709551616 ^ b9:=ka.1 (by rw[c0.out];exact Nat.le_refl _);exact Nat.le_trans (ka.2 (Nat.lt_of_le_of_lt h1 h2)) hn
    rw[aw] at hd |-;have iH:=hide aw;have FJ:=hide SC;have IQ:=hide SD;have IJ:=hide DC;clear aw SC SD DC qE;by_cases cl:R<T
    ·have cG:Hid (fM R T=-1):=if_pos cl;have dO:Hid (R<m*2 ^ j/\val os%2 ^ j=0):=by
      refine⟨by rw[iH.out];exact cl,?_⟩;have h1:=bM.out.2.2;have h2:2 ^ j ∣ val os:=Nat.dvd_trans (Nat.pow_dvd_pow 2 (Nat.le_succ j)) (Nat.dvd_of_mod_eq_zero h1);exact Nat.mod_eq_zero_of_dvd h2
     clear cl;go_wp2_with (first
      | (go_at_call 63;(with_reducible refine(CS _ _ _ _ _ _ _ aD hd).mono ?_);rintro e bZ ⟨rfl,qB⟩;rw[cG.out];have G5:=aD.ext qB;have xj:=hd.ext qB;have D8:=aO.ext qB;have qB:=hide (ad.trans qB))
      | (go_at_call 104;(with_reducible refine(Vz _ _ _ _ _ xj (Nat.le_trans IQ.out (by omega))).mono ?_);rintro e bm ⟨rfl,DK,Lm⟩))
     exact⟨⟨j,R,os,by first|rfl|(congr 1;omega),by omega,dO.out.1,by rw[FJ.out],G5.c7 Lm A9,A9,by rw[FJ.out];exact DK,D8.c7 Lm (Js ky),⟨bM.out.1,bM.out.2.1,dO.out.2⟩,Lm.ext qB.out Ay.out⟩,by first|(simp[intOf];done)|(simp[intOf];omega)⟩
    ·have h01:(0:Int)<=fM R T:=by unfold fM;rw[if_neg cl];split<;>omega
     obtain⟨ao,fW⟩:=aM (fM R T);rw[fW] at h01;have cG:=hide fW;clear fW;obtain⟨qI,By,DT,LD⟩:∃ qI By,j=64*qI+By/\By<64:=⟨j / 64,j%64,by omega,by omega⟩;obtain⟨t1,t2,t3,t4⟩:=Vg j qI By DT LD;have G3:qI<b9:=by
      have h1:2 ^ j<=n:=by
       have h2:1*2 ^ j<=m*2 ^ j:=Nat.mul_le_mul_right _ (by omega);have h3:=bM.out.2.1;rw[iH.out] at h2;omega
      have h4:=YG h1 (ka.1 (by rw[c0.out];exact Nat.le_refl b9));omega
     obtain⟨g',e',_,_,_,_⟩:=aO.at qI (by rw[bM.out.1];exact G3);obtain rfl:g=g':=by injection e' with e';injection e'
     obtain⟨x,hx⟩:=aM (os[qI]'(by rw[bM.out.1];exact G3));obtain⟨t,b7,cr,Xc⟩:=ahS By LD;obtain⟨zz,cR,Qt⟩:=YH os qI By x (by rw[bM.out.1];exact G3) hx aO.2 LD (by rw[<-DT];exact bM.out.2.2);rw[<-Xc.out] at cR;have dO:Hid (R-T<m*2 ^ j/\val (os.set qI zz)*m+(R-T)=n/\val (os.set qI zz)%2 ^ j=0):=by
      have h1:=bM.out.2.2;have h2:2 ^ j ∣ val os:=Nat.dvd_trans (Nat.pow_dvd_pow 2 (Nat.le_succ j)) (Nat.dvd_of_mod_eq_zero h1);rw[Qt.out.2,<-DT];refine⟨by rw[iH.out];have:=W9.out;omega,?_,Nat.mod_eq_zero_of_dvd ((Nat.dvd_add_right h2).2 (Nat.dvd_refl _))⟩;have h3:=bM.out.2.1;rw[Nat.add_mul,Nat.mul_comm (2 ^ j) m,iH.out];omega
     have IF:=hide cl;have bN:=hide hx;have aoo:=hide DT;clear cl hx DT;go_upto_region 19 with (first
      | (go_at_call 63;(with_reducible refine(CS _ _ _ _ _ _ _ aD hd).mono ?_);rintro e bZ ⟨rfl,qB⟩;rw[cG.out];have G5:=aD.ext qB;have xj:=hd.ext qB;have D8:=aO.ext qB;have qB:=hide (ad.trans qB))
      | (go_at_call 64;refine(HM bZ.heap.size _ _ _ _ R T _ G5 xj (Nat.le_refl _) (Nat.le_trans IJ.out (by omega)) (Nat.le_trans IQ.out (by omega)) (by have:=IF.out;omega)).mono ?_;rintro e bm ⟨v5,rfl,Bq,jd⟩))
     have DK:=xj.ext jd;have Mc:=D8.ext jd;have qk:yc qz v5:=Bq.CD (xj.1.lt qz rfl).2;have adI:=hide (qB.out.trans jd);have D':=Bq.base (Nat.le_of_lt (Nat.lt_of_le_of_lt (xj.1.lt qz rfl).1 (xj.1.lt qz rfl).2));obtain⟨g',e',_,_,fZ,lq⟩:=Mc.at qI (by rw[bM.out.1];exact G3);obtain rfl:g=g':=by injection e' with e';injection e'
     rw[bN.out] at fZ;have aeB:=hide (Mc.set bM.out.1 qI zz Qt.out.1);have o6:=(b3.refl g bm).set qI (.int .u64 (zz:Int));have adX:=DK.c7 o6 (Js (Ne.symm ky));have aeD:=hide (D'.c7 o6 (Bq.CD (D8.1.lt g rfl).2));have mZ:=hide (o6.ext adI.out (by rw[jY.out];exact Nat.le_refl _));clear o6 Bq Mc DK D' jd D8 G5 xj;go_wp2_with (go_at_call 104;(with_reducible refine(Vz _ _ _ _ _ adX (Nat.le_trans IQ.out (by omega))).mono ?_);rintro e b6 ⟨rfl,adY,Ln⟩)
     exact⟨⟨j,R-T,os.set qI zz,by first|rfl|(congr 1;omega),by omega,dO.out.1,by rw[FJ.out],aeD.out.c7 Ln qk,qk,by rw[FJ.out];exact adY,aeB.out.c7 Ln (Js ky),⟨by rw[List.length_set];exact bM.out.1,dO.out.2.1,dO.out.2.2⟩,Ln.ext mZ.out Ay.out⟩,by first|(simp[intOf];done)|(simp[intOf];omega)⟩
end
end Go.Proofs.YtojbopibfflnoaaGreat
