/- Contracts and plain facts; each states its conditions. -/
import Derived.Test.YtojbopibfflnoaaGreatPrY2
import Derived.Test.YtojbopibfflnoaaGreatPrY4
import Derived.Test.YtojbopibfflnoaaGreatPrY5
import Derived.Test.YtojbopibfflnoaaGreatPrY6
import Derived.KernelRfl
import Derived.Laws.Rows
import Derived.Laws.CopyRow
import Derived.Lib.QuietBelow
import Derived.Maps.AppendAt
import Derived.Shelf.Strconv.Itoa0
import Derived.Test.YtojbopibfflnoaaGreatProg
import Derived.WalkSmall
import Derived.Deep.QuietTactic
import Derived.BigQuiet
import Derived.Deep.DeepCutAuto
import Derived.Shelf.Bytes.SlEqualAll
import Derived.Lib.AppendZerosOnto
namespace Go.Proofs.YtojbopibfflnoaaGreat
open Go renaming undef → rM, World → w1, Value → Ax, Calls → AA, bodyPost_ret → B7, redrawn → aw5, TypeId → aw7, run_underlying → axf, Operand → axb, Oper → aw4, Ending → axa, Addr → aw6, Program → axh, execOp → axc
open _root_.Go.Proofs.Tryz renaming prog → CW
set_option linter.unusedVariables false
set_option linter.unusedSimpArgs false
set_option maxHeartbeats 16000000
section
open Go Go.RowKit
def P7(B b:Nat)(W:w1)(e:axa)(w':w1):Prop:=∃ v:Bool,e=.returned (.bool v)/\fP B w' b/\b3 b W w'
theorem ak'(B b:Nat)(n:Int)(W w:w1)(h1:2<=n)(h2:n<=4)(aw:fP B w b)(aK:b3 b W w) :
 AA CW 45 #[yj b 0,.int .i64 n] w (P7 B b W):=by
 have DY:¬ (n=0):=by omega
 have hm:(1:Int).tmod n=1:=by
  rw[Int.tmod_eq_emod_of_nonneg (by omega)];exact Int.emod_eq_of_lt (by omega) (by omega)
 have pn:(1:Int)%n=1:=Int.emod_eq_of_lt (by omega) (by omega);have Bf:=aw.below (yK (b+1) w 1);go_enter Tryz.func45,Tryz.ntmps45
 go_wp2_with fail
 go_region_with (go_at_call 36;refine(OG B b n W _ ⟨by omega,by omega⟩ (by first|exact aw|exact(aw.below (yK (b+1) w 1))) (by first|exact aK|exact aK.drew)).mono ?_;rintro e w' ⟨u,rfl,hu,tR,y8⟩)
 all_goals go_wp2_with fail
 all_goals go_ret
 all_goals exact⟨_,rfl,tR,y8⟩
def nJ(w:w1)(g:Nat)(L:List Nat):Prop:=w.heap[g]?=some (.cells (Value.bool false :: wd L).toArray 27 (0,0))
theorem nJ.at{w:w1}{g:Nat}{L:List Nat}(h:nJ w g L)(i:Nat)(hi:i<L.length):w.cell? ⟨g,1+i,none⟩=some (.int .u64 (L[i]:Int)):=by
 rw[cell_of_block h,Nat.add_comm];simp[wd,hi]
theorem nJ.lt{w:w1}{g:Nat}{L:List Nat}(h:nJ w g L):g<w.heap.size:=(Array.getElem?_eq_some_iff.1 h).1
theorem nJ.set{w:w1}{g:Nat}{L:List Nat}(h:nJ w g L)(k x:Nat):nJ (w.setCell ⟨g,1+k,none⟩ (.int .u64 (x:Int))) g (L.set k x):=by
 unfold nJ;rw[kE h (1+k),Nat.add_comm];simp[wd,List.map_set]
theorem nJ.c7{w w':w1}{g b:Nat}{L:List Nat}(h:nJ w g L)(k:b3 b w w')(hn:g≠b):nJ w' g L:=by
 have:=h.lt;unfold nJ;rw[k.2.2.2.2 g this hn];exact h
theorem nJ.ext{w w':w1}{g:Nat}{L:List Nat}(h:nJ w g L)(k:Ext w w'):nJ w' g L:=by
 have:=h.lt;unfold nJ;rw[k.block g this];exact h
theorem Box.c7{w w':w1}{g b':Nat}{s:Bool}{a b c d:Nat}(h:Box w g s a b c d)(k:b3 b' w w')(hn:g≠b'):Box w' g s a b c d:=by
 have:=h.lt;unfold Box;rw[k.2.2.2.2 g this hn];exact h
theorem agP(s:Bool)(a b c d:Int)(w:w1):(binOp .neq 27 (.agg #[.bool s,.int .u64 a,.int .u64 b,.int .u64 c,.int .u64 d]) (.agg #[.bool s,.int .u64 a,.int .u64 b,.int .u64 c,.int .u64 d])).run CW w=.ok (.bool false) w:=by
 rw[Um];simp
theorem Ms(z:Int)(h:z.natAbs<115792089237316195423570985008687907853269984665640564039457584007913129639936):∃ (s:Bool) (a b c d:Nat),cw s a b c d z:=by
 obtain⟨a,b,c,d,_,hC⟩:=Uh (decide (z<0)) z.natAbs (ka.2 h);have e:(if decide (z<0) then -(z.natAbs:Int) else (z.natAbs:Int))=z:=by
  by_cases h0:z<0
  ·rw[decide_eq_true h0];simp;omega
  ·rw[decide_eq_false h0];simp;omega
 rw[e] at hC;exact⟨_,a,b,c,d,hC⟩
theorem afq{s:Bool}{a b c d:Nat}{x:Int}(h:dg s a b c d x):x.natAbs<115792089237316195423570985008687907853269984665640564039457584007913129639936:=by
 obtain⟨h1,h2,h3,h4,h5⟩:=h;have:=qM h1 h2 h3 h4;cases s<;>simp at h5<;>omega
theorem Sj(a b:Int):Int.gcd a b=Int.gcd b (a%b):=by
 rw[Int.gcd_comm a b,Int.gcd_right_eq_iff];intro c hc;have e:=Int.emod_add_mul_ediv a b;have h1:c ∣ b*(a / b):=Int.dvd_trans hc (Int.dvd_mul_right _ _);constructor
 ·intro h;have e2:a%b=a-b*(a / b):=by omega
  rw[e2];exact Int.dvd_sub h h1
 ·intro h;rw[<-e];exact Int.dvd_add h h1
def iW(n d:Int):Prop:=0<d/\n.natAbs<170141183460469231731687303715884105728/\d.natAbs<170141183460469231731687303715884105728/\Int.gcd n d=1
instance (n d:Int):Decidable (iW n d):=by unfold iW;infer_instance
def ig(n d:Int):Int:=(if d<0 then -n else n) / (Int.gcd n d:Int)
def ik(n d:Int):Int:=(if d<0 then -d else d) / (Int.gcd n d:Int)
def I0(n d:Int):Prop:=d≠0/\(ig n d).natAbs<170141183460469231731687303715884105728/\(ik n d).natAbs<170141183460469231731687303715884105728
theorem HK(n d:Int)(hd:d≠0):0<ik n d/\Int.gcd (ig n d) (ik n d)=1/\ig n d*d=n*ik n d:=by
 have af:0<Int.gcd n d:=Int.gcd_pos_of_ne_zero_right n hd;have apx:(0:Int)<(Int.gcd n d:Int):=by omega
 have ZY:=Int.gcd_dvd_left n d;have dd:=Int.gcd_dvd_right n d;obtain⟨x,hx⟩:=ZY;obtain⟨y,hy⟩:=dd;have aV:=Int.gcd_ediv_gcd_ediv_gcd af;have ex:n / (Int.gcd n d:Int)=x:=by
  conv=>lhs;lhs;rw[hx]
  exact Int.mul_ediv_cancel_left _ (by omega)
 have abm:d / (Int.gcd n d:Int)=y:=by
  conv=>lhs;lhs;rw[hy]
  exact Int.mul_ediv_cancel_left _ (by omega)
 rw[ex,abm] at aV;unfold ig ik;generalize (Int.gcd n d:Int)=g at *;have dy:y≠0:=by rintro rfl;simp at hy;exact hd hy
 by_cases h:d<0
 ·rw[if_pos h,if_pos h];have bk:-n=g*(-x):=by rw[hx,Int.mul_neg]
  have e2:-d=g*(-y):=by rw[hy,Int.mul_neg]
  rw[bk,e2,Int.mul_ediv_cancel_left _ (by omega),Int.mul_ediv_cancel_left _ (by omega)];refine⟨?_,by rw[Int.gcd_neg,Int.neg_gcd];exact aV,?_⟩
  ·have L5:¬ 0<=y:=fun e=>by
    have:0<=g*y:=Int.mul_nonneg (by omega) e;omega
   omega
  ·rw[hx,hy];grind
 ·rw[if_neg h,if_neg h];have bk:n / g=x:=by rw[hx];exact Int.mul_ediv_cancel_left _ (by omega)
  have e2:d / g=y:=by rw[hy];exact Int.mul_ediv_cancel_left _ (by omega)
  rw[bk,e2];refine⟨?_,aV,?_⟩
  ·have L5:¬ y<=0:=fun e=>by
    have:g*y<=g*0:=Int.mul_le_mul_of_nonneg_left e (by omega);omega
   omega
  ·rw[hx,hy];grind
theorem Uc{n d:Int}(h:I0 n d):iW (ig n d) (ik n d):=by
 obtain⟨h1,h2,h3⟩:=h;obtain⟨a,b,_⟩:=HK n d h1;exact⟨a,h2,h3,b⟩
theorem R_{n d:Int}(h:iW n d):ig n d=n/\ik n d=d:=by
 obtain⟨h1,_,_,h4⟩:=h;unfold ig ik;rw[h4,if_neg (by omega),if_neg (by omega)];simp
theorem abS{n d:Int}(h:iW n d):I0 n d:=by
 have e:=R_ h;exact⟨by have:=h.1;omega,by rw[e.1];exact h.2.1,by rw[e.2];exact h.2.2.1⟩
theorem abR{aC d1 aW d2:Int}(h1:iW aC d1)(h2:iW aW d2)(e:aC*d2=aW*d1):aC=aW/\d1=d2:=by
 obtain⟨p1,_,_,g1⟩:=h1;obtain⟨p2,_,_,g2⟩:=h2;have a1:d1 ∣ d2:=by
  have h:d1 ∣ aC*d2:=by rw[e];exact Int.dvd_mul_left _ _
  have h3:Int.gcd d1 (aC*d2)=Int.gcd d1 d2:=Int.gcd_mul_right_right_of_gcd_eq_one (by rw[Int.gcd_comm];exact g1);have h4:(Int.gcd d1 (aC*d2):Int)=d1:=Int.gcd_eq_left (by omega) h;rw[h3] at h4;have:=Int.gcd_dvd_right d1 d2;rw[h4] at this
  exact this
 have a2:d2 ∣ d1:=by
  have h:d2 ∣ aW*d1:=by rw[<-e];exact Int.dvd_mul_left _ _
  have h3:Int.gcd d2 (aW*d1)=Int.gcd d2 d1:=Int.gcd_mul_right_right_of_gcd_eq_one (by rw[Int.gcd_comm];exact g2);have h4:(Int.gcd d2 (aW*d1):Int)=d2:=Int.gcd_eq_left (by omega) h;rw[h3] at h4;have:=Int.gcd_dvd_right d2 d1;rw[h4] at this
  exact this
 have aah:d1=d2:=by
  have:=Int.le_of_dvd p2 a1;have:=Int.le_of_dvd p1 a2;omega
 subst aah;exact⟨Int.eq_of_mul_eq_mul_right (by omega) e,rfl⟩
open Go Go.RowKit
def ii(s s':Bool)(a b c e a' b' c' e':Int):Bool:=s==s'&&(a==a'&&(b==b'&&(c==c'&&e==e')))
theorem aa2(s s':Bool)(a b c e a' b' c' e':Int)(w:w1) :
 (Op.equalIn 9999 27 (.agg #[.bool s,.int .u64 a,.int .u64 b,.int .u64 c,.int .u64 e]) (.agg #[.bool s',.int .u64 a',.int .u64 b',.int .u64 c',.int .u64 e'])).run CW w=.ok (ii s s' a b c e a' b' c' e') w:=by
 have hS:Tryz.prog.underlying 27=some (.struct (Tryz.prog.fieldsOf 27)):=by kernel_rfl
 have hp:Tryz.prog.stoodInHeld 27=false:=by kernel_rfl
 have u4:=Tryz.underlying4;have h4:=A4 9996 25 Tryz.underlying25;have Ak:=Tryz.sizeOf25;rw[show (9999:Nat)=9998+1 from rfl,run_equalIn_agg w 9998 27 _ _ hS hp];simp only[Program.fieldsOf,Tryz.underlying27];simp[Op.eqFields,part,isAgg,axf u4,run_equalIn_bool',u4,h4,Ak,ii];by_cases h0:s=s'<;>by_cases h1:a=a'<;>by_cases h2:b=b'<;>by_cases h3:c=c'<;>by_cases h4:e=e'<;>simp[h0,h1,h2,h3,h4]
theorem RU(s s':Bool)(a b c e a' b' c' e':Int)(t t':Bool)(f g h i f' g' h' l4:Int)(w:w1) :
 (binOp .eql 29 (.agg #[.bool s,.int .u64 a,.int .u64 b,.int .u64 c,.int .u64 e,.bool t,.int .u64 f,.int .u64 g,.int .u64 h,.int .u64 i]) (.agg #[.bool s',.int .u64 a',.int .u64 b',.int .u64 c',.int .u64 e',.bool t',.int .u64 f',.int .u64 g',.int .u64 h',.int .u64 l4])).run CW w=.ok (.bool (ii s s' a b c e a' b' c' e'&&ii t t' f g h i f' g' h' l4)) w:=by
 have hS:Tryz.prog.underlying 29=some (.struct (Tryz.prog.fieldsOf 29)):=by kernel_rfl
 have hp:Tryz.prog.stoodInHeld 29=false:=by kernel_rfl
 have z25:=Tryz.sizeOf27;have h5:=aa2;rw[run_eql_struct,show (10000:Nat)=9999+1 from rfl,run_equalIn_agg w 9999 29 _ _ hS hp];simp only[Program.fieldsOf,Tryz.underlying29];simp[Op.eqFields,part,isAgg,h5,z25];generalize ii s s' a b c e a' b' c' e'=p;generalize ii t t' f g h i f' g' h' l4=q;cases p<;>cases q<;>rfl
theorem HP{s t:Bool}{a b c d e f g h:Nat}{x y:Int}(hx:cw s a b c d x)(hy:cw t e f g h y):ii s t a b c d e f g h=decide (x=y):=by
 unfold ii;by_cases j7:x=y
 ·subst j7;obtain⟨rfl,rfl,rfl,rfl,rfl⟩:=hx.uniq hy;simp
 ·rw[decide_eq_false j7,<-Bool.not_eq_true];intro h1;simp only[Bool.and_eq_true,beq_iff_eq] at h1;obtain⟨rfl,h2,h3,h4,h5⟩:=h1;obtain rfl:a=e:=by omega
  obtain rfl:b=f:=by omega
  obtain rfl:c=g:=by omega
  obtain rfl:d=h:=by omega
  exact j7 (hx.1.2.2.2.2.trans hy.1.2.2.2.2.symm)
end
section
def gg(a b c d n m:Int):Prop:=0<m/\a*m<=n*b/\n*d<=c*m/\∀ p q:Int,0<q->a*q<=p*b->p*d<=c*q->m<=q/\n.natAbs<=p.natAbs
theorem gg.neg{a b c d n m:Int}(h:gg a b c d n m):gg (-c) d (-a) b (-n) m:=by
 obtain⟨h0,h1,h2,h3⟩:=h;refine⟨h0,by rw[Int.neg_mul,Int.neg_mul];omega,by rw[Int.neg_mul,Int.neg_mul];omega,?_⟩;intro p q aO bQ bY;have:=h3 (-p) q aO (by rw[Int.neg_mul] at bY |-;omega) (by rw[Int.neg_mul] at bQ |-;omega);omega
theorem gg.zero{a b c d:Int}(h1:a<=0)(h2:0<=c):gg a b c d 0 1:=
 ⟨by omega,by omega,by omega,fun p q aO _ _=>⟨by omega,by simp⟩⟩
theorem gg.unique{a b c d n m n' dI:Int}(hb:0<b)(hd:0<d)(h:gg a b c d n m)(h':gg a b c d n' dI):n=n'/\m=dI:=by
 have bQ:=h.2.2.2 n' dI h'.1 h'.2.1 h'.2.2.1;have bY:=h'.2.2.2 n m h.1 h.2.1 h.2.2.1;have em:m=dI:=by omega
 refine⟨?_,em⟩;subst em;by_cases e:n=n'
 ·exact e
 ·exfalso
  have e2:n'=-n:=by omega
  subst e2;have a1:=h.2.1;have a2:=h'.2.1;have a3:=h.2.2.1;have a4:=h'.2.2.1;rw[Int.neg_mul] at a2 a4;have bA:a<=0:=by
   by_cases hp:0<a
   ·have:=Int.mul_pos hp h.1;omega
   ·omega
  have bX:0<=c:=by
   by_cases hp:c<0
   ·have:=Int.mul_neg_of_neg_of_pos hp h.1;omega
   ·omega
  have:=h.2.2.2 0 1 (by omega) (by omega) (by omega);omega
theorem gg.pos{a b c d n m:Int}(ha:0<a)(hb:0<b)(h:gg a b c d n m):0<n:=by
 have:=Int.mul_pos ha h.1;have h1:=h.2.1;by_cases hn:n<=0
 ·have:=Int.mul_nonpos_of_nonpos_of_nonneg hn (show 0<=b by omega);omega
 ·omega
theorem gg.gcd{a b c d n m:Int}(hb:0<b)(hd:0<d)(h:gg a b c d n m):Int.gcd n m=1:=by
 obtain⟨h0,h1,h2,h3⟩:=h;have ga:0<Int.gcd n m:=Int.gcd_pos_of_ne_zero_right n (by omega);obtain⟨x,hx⟩:=Int.gcd_dvd_left n m;obtain⟨y,hy⟩:=Int.gcd_dvd_right n m;generalize aV:(Int.gcd n m:Int)=g at *;have af:0<g:=by omega
 have dy:0<y:=by
  by_cases dy:0<y
  ·exact dy
  ·have:=Int.mul_nonpos_of_nonneg_of_nonpos (show 0<=g by omega) (show y<=0 by omega);omega
 have k:=h3 x y dy
  (Int.le_of_mul_le_mul_left (a:=g) (by
   have bk:g*(a*y)=a*m:=by rw[hy,<-Int.mul_assoc,Int.mul_comm g a,Int.mul_assoc]
   have e2:g*(x*b)=n*b:=by rw[<-Int.mul_assoc,<-hx]
   omega) af)
  (Int.le_of_mul_le_mul_left (a:=g) (by
   have bk:g*(c*y)=c*m:=by rw[hy,<-Int.mul_assoc,Int.mul_comm g c,Int.mul_assoc]
   have e2:g*(x*d)=n*d:=by rw[<-Int.mul_assoc,<-hx]
   omega) af)
 by_cases SN:g=1
 ·omega
 ·exfalso
  have:2*y<=g*y:=Int.mul_le_mul_of_nonneg_right (by omega) (by omega);omega
theorem JE{a b c d:Int}(ha:0<a)(hb:0<b)(hd:0<d)(hle:a*d<=c*b)(h:a%b=0):gg a b c d (a / b) 1:=by
 have e:=Int.emod_add_mul_ediv a b;rw[h] at e;generalize a / b=q at *;have ea:a=q*b:=by rw[Int.mul_comm];omega
 have aO:0<q:=by
  by_cases aO:0<q
  ·exact aO
  ·have:=Int.mul_nonpos_of_nonpos_of_nonneg (show q<=0 by omega) (show 0<=b by omega);omega
 refine⟨by omega,by omega,?_,?_⟩
 ·have:(q*d)*b<=c*b:=by rw[ea,Int.mul_assoc,Int.mul_comm b d,<-Int.mul_assoc] at hle;exact hle
  have:=Int.le_of_mul_le_mul_right this hb
  omega
 ·intro p q' D7 bQ _;have bY:(q*q')*b<=p*b:=by rw[ea,Int.mul_assoc,Int.mul_comm b q',<-Int.mul_assoc] at bQ;exact bQ
  have cX:=Int.le_of_mul_le_mul_right bY hb;have ev:q*1<=q*q':=Int.mul_le_mul_of_nonneg_left (by omega) (by omega);omega
theorem Gb{a b c d:Int}(ha:0<a)(hb:0<b)(hd:0<d)(hle:a*d<=c*b)(aD:a%b≠0)(h:a / b≠c / d):gg a b c d (a / b+1) 1:=by
 have bk:=Int.emod_add_mul_ediv a b;have e2:=Int.emod_add_mul_ediv c d;have m1:=Int.emod_nonneg a (show b≠0 by omega);have m2:=Int.emod_nonneg c (show d≠0 by omega);have ah:=Int.emod_lt_of_pos a hb;have aj:=Int.emod_lt_of_pos c hd;have aO:0<=a / b:=Int.ediv_nonneg (by omega) (by omega);generalize a / b=q at *;generalize c / d=s at *;generalize a%b=r at *;generalize c%d=t at *;have apN:q<s:=by
  by_cases cl:q<s
  ·exact cl
  ·exfalso
   have hs:s+1<=q:=by omega
   have x1:(s+1)*(b*d)<=q*(b*d):=Int.mul_le_mul_of_nonneg_right hs (Int.le_of_lt (Int.mul_pos hb hd));have x2:c*b<(s+1)*(b*d):=by
    have:c<(s+1)*d:=by rw[Int.add_mul,Int.one_mul,Int.mul_comm s d];omega
    have:=Int.mul_lt_mul_of_pos_right this hb
    have e:(s+1)*d*b=(s+1)*(b*d):=by rw[Int.mul_assoc,Int.mul_comm d b]
    omega
   have x3:q*(b*d)<=a*d:=by
    have:q*b<=a:=by rw[Int.mul_comm];omega
    have:=Int.mul_le_mul_of_nonneg_right this (Int.le_of_lt hd)
    rw[Int.mul_assoc] at this;exact this
   omega
 refine⟨by omega,?_,?_,?_⟩
 ·rw[Int.add_mul,Int.one_mul,Int.mul_comm q b];omega
 ·have:(q+1)*d<=s*d:=Int.mul_le_mul_of_nonneg_right (by omega) (by omega);have:s*d=d*s:=Int.mul_comm _ _;omega
 ·intro p q' D7 bQ _;have aeE:0<r*q':=Int.mul_pos (by omega) D7;have bY:(q*q')*b<p*b:=by
   have e:(q*q')*b=b*q*q':=by rw[Int.mul_assoc,Int.mul_comm q' b,<-Int.mul_assoc,Int.mul_comm q b]
   have:a*q'=r*q'+b*q*q':=by rw[<-bk,Int.add_mul]
   omega
  have cX:=Int.lt_of_mul_lt_mul_right bY (by omega);have ev:q*1<=q*q':=Int.mul_le_mul_of_nonneg_left (by omega) aO;omega
theorem JC{a b c d n m:Int}(ha:0<a)(hb:0<b)(hd:0<d)(aD:a%b≠0)(bd:0<c%d)(h:a / b=c / d)(k:gg d (c%d) b (a%b) n m):gg a b c d (a / b*n+m) n:=by
 have bk:=Int.emod_add_mul_ediv a b;have e2:=Int.emod_add_mul_ediv c d;have m1:=Int.emod_nonneg a (show b≠0 by omega);have aO:0<=a / b:=Int.ediv_nonneg (by omega) (by omega);have hn:=k.pos hd bd;rw[<-h] at e2;generalize a / b=q at *;generalize a%b=r at *;generalize c%d=t at *;clear h;obtain⟨iA,bQ,bY,cX⟩:=k;have ea:∀ z,a*z=r*z+b*(q*z):=fun z=>by rw[<-bk,Int.add_mul,Int.mul_assoc]
 have Gs:∀ z,c*z=t*z+d*(q*z):=fun z=>by rw[<-e2,Int.add_mul,Int.mul_assoc]
 have ex:∀ x y z:Int,(q*x+y)*z=y*z+z*(q*x):=fun x y z=>by rw[Int.add_mul,Int.mul_comm (q*x) z];omega
 refine⟨hn,?_,?_,?_⟩
 ·rw[ea,ex];have:n*r=r*n:=Int.mul_comm _ _;have:b*m=m*b:=Int.mul_comm _ _;omega
 ·rw[Gs,ex];have:d*m=m*d:=Int.mul_comm _ _;have:n*t=t*n:=Int.mul_comm _ _;omega
 ·intro p q' D7 cW cL;obtain⟨p',rfl⟩:∃ p',p=q*q'+p':=⟨p-q*q',by omega⟩;rw[ea,ex] at cW;rw[Gs,ex] at cL;have aeE:0<r*q':=Int.mul_pos (by omega) D7;have D6:0<p':=by
   by_cases hp:0<p'
   ·exact hp
   ·have:=Int.mul_nonpos_of_nonpos_of_nonneg (show p'<=0 by omega) (show 0<=b by omega);omega
  have:=cX q' p' D6 (by rw[Int.mul_comm d,Int.mul_comm q'];omega) (by rw[Int.mul_comm q',Int.mul_comm b];omega);have aey:n<=q':=by omega
  have od:q*n<=q*q':=Int.mul_le_mul_of_nonneg_left aey aO;have h0:0<=q*n:=Int.mul_nonneg aO (by omega);have h1:0<=q*q':=by omega
  omega
theorem Oj{a b c d:Int}(ha:0<a)(hb:0<b)(hd:0<d)(hle:a*d<=c*b)(aD:a%b≠0)(h:a / b=c / d):0<a%b/\a%b<b/\0<c%d/\c%d<d/\d*(a%b)<=b*(c%d):=by
 have bk:=Int.emod_add_mul_ediv a b;have e2:=Int.emod_add_mul_ediv c d;have m1:=Int.emod_nonneg a (show b≠0 by omega);have m2:=Int.emod_nonneg c (show d≠0 by omega);have ah:=Int.emod_lt_of_pos a hb;have aj:=Int.emod_lt_of_pos c hd;rw[<-h] at e2;generalize a / b=q at *;generalize a%b=r at *;generalize c%d=t at *;have k:r*d<=t*b:=by
  have x1:a*d=r*d+q*(b*d):=by rw[<-bk,Int.add_mul,Int.mul_comm b q,Int.mul_assoc]
  have x2:c*b=t*b+q*(b*d):=by rw[<-e2,Int.add_mul,Int.mul_comm d q,Int.mul_assoc,Int.mul_comm d b]
  omega
 have:=Int.mul_pos (show 0<r by omega) hd;refine⟨by omega,ah,?_,aj,by rw[Int.mul_comm d,Int.mul_comm b];exact k⟩;by_cases bd:0<t
 ·exact bd
 ·have:t=0:=by omega
  subst this;omega
theorem JD:∀(k:Nat)(a b c d:Int),(b+d).toNat<k->0<a->0<b->0<d->a*d<=c*b->∃ n m,gg a b c d n m
 | 0,_,_,_,_,aE,_,_,_,_=>by omega
 | k+1,a,b,c,d,aE,ha,hb,hd,hle=>by
  by_cases aD:a%b=0
  ·exact⟨_,_,JE ha hb hd hle aD⟩
  ·by_cases h:a / b=c / d
   ·obtain⟨iB,i',t0,t1,hl⟩:=Oj ha hb hd hle aD h;obtain⟨n,m,bF⟩:=JD k d (c%d) b (a%b) (by omega) hd t0 iB hl;exact⟨_,_,JC ha hb hd aD t0 h bF⟩
   ·exact⟨_,_,Gb ha hb hd hle aD h⟩
theorem CH{a b c d:Int}(hb:0<b)(hd:0<d)(hle:a*d<=c*b):∃ n m,gg a b c d n m:=by
 by_cases ha:0<a
 ·exact JD _ a b c d (Nat.lt_succ_self _) ha hb hd hle
 ·by_cases hc:c<0
  ·obtain⟨n,m,h⟩:=JD _ (-c) d (-a) b (Nat.lt_succ_self _) (by omega) hd hb (by rw[Int.neg_mul,Int.neg_mul];omega);have:=h.neg;rw[Int.neg_neg,Int.neg_neg] at this
   exact⟨_,_,this⟩
  ·exact⟨0,1,gg.zero (by omega) (by omega)⟩
theorem gg.small{a b c d n m:Int}(hb:0<b)(hd:0<d)(hle:a*d<=c*b)(h:gg a b c d n m):(m<=b/\n.natAbs<=a.natAbs)/\(m<=d/\n.natAbs<=c.natAbs):=
 ⟨h.2.2.2 a b hb (Int.le_refl _) hle,h.2.2.2 c d hd hle (Int.le_refl _)⟩
end
section
open Go Go.RowKit
abbrev Fr:=Int × Int
def okF(s:Fr):Prop:=iW s.1 s.2
def jQ(s t:Fr):Prop:=s.1*t.2<=t.1*s.2
instance (s t:Fr):Decidable (jQ s t):=by unfold jQ;infer_instance
theorem afX{a b:Fr}(ha:okF a)(hb:okF b)(h:jQ a b)(k:jQ b a):a=b:=by
 have e:=abR ha hb (Int.le_antisymm h k);exact Prod.ext e.1 e.2
def p_(a b:Fr):Fr:=if jQ b a then a else b
def qa(a b:Fr):Fr:=if jQ a b then a else b
theorem M4{a b:Fr}(ha:okF a)(hb:okF b):okF (p_ a b):=by unfold p_;split<;>assumption
theorem M5{a b:Fr}(ha:okF a)(hb:okF b):okF (qa a b):=by unfold qa;split<;>assumption
inductive jH where
 | op:jH
 | dU:Fr->Fr->jH
def nU:jH->Prop
 | .op=>True
 | .dU l h=>okF l/\okF h/\jQ l h
def Mn:jH->Fr->Prop
 | .op,_=>True
 | .dU l h,s=>jQ l s/\jQ s h
instance (c:jH) (s:Fr):Decidable (Mn c s):=by cases c<;>unfold Mn<;>infer_instance
def kB:jH->jH->Option jH
 | .op,b=>some b
 | .dU l h,.op=>some (.dU l h)
 | .dU l h,.dU l' h'=>if jQ (p_ l l') (qa h h') then some (.dU (p_ l l') (qa h h')) else none
theorem agC{a b m:jH}(ha:nU a)(hb:nU b)(h:kB a b=some m):nU m:=by
 cases a with
 | op=>simp only[kB,Option.some.injEq] at h;subst h;exact hb
 | dU ah h1 =>
  cases b with
  | op=>simp only[kB,Option.some.injEq] at h;subst h;exact ha
  | dU aj h2 =>
   simp only[kB] at h;split at h
   ·rename_i hle;simp only[Option.some.injEq] at h;subst h;exact⟨M4 ha.1 hb.1,M5 ha.2.1 hb.2.1,hle⟩
   ·simp at h
def pG(n d:Int):Fr:=(ig n d,ik n d)
theorem Vw{n d:Int}(hd:0<d)(hn:n.natAbs<170141183460469231731687303715884105728)(SK:d.natAbs<170141183460469231731687303715884105728):okF (pG n d):=by
 refine Uc ⟨by omega,?_,?_⟩
 ·unfold ig;rw[if_neg (by omega)];exact Nat.lt_of_le_of_lt (Int.natAbs_ediv_le_natAbs _ _) hn
 ·unfold ik;rw[if_neg (by omega)];exact Nat.lt_of_le_of_lt (Int.natAbs_ediv_le_natAbs _ _) SK
theorem aka{n d:Int}(hd:0<d)(s:Fr):jQ (pG n d) s↔n*s.2<=s.1*d:=by
 obtain⟨a,-,e⟩:=HK n d (by omega);obtain⟨x,y⟩:=s;show ig n d*y<=x*ik n d↔n*y<=x*d
 obtain⟨N,jO⟩:=aM (ig n d);obtain⟨D,hH⟩:=aM (ik n d);rw[jO,hH] at e |-;rw[hH] at a;have bk:N*y*d=n*y*D:=by
  have:N*y*d=N*d*y:=by grind
  rw[this,e];grind
 have e2:x*D*d=x*d*D:=by grind
 constructor
 ·intro h;have:=Int.mul_le_mul_of_nonneg_right h (Int.le_of_lt hd);rw[bk,e2] at this
  exact Int.le_of_mul_le_mul_right this a
 ·intro h;have:=Int.mul_le_mul_of_nonneg_right h (Int.le_of_lt a);rw[<-bk,<-e2] at this
  exact Int.le_of_mul_le_mul_right this hd
def B1(base v eps dt:Int):jH:=.dU (pG (v-base-eps) dt) (pG (v-base+eps) dt)
theorem OJ{base v eps dt:Int}(hb:base.natAbs<73786976294838206464)(l2:-9223372036854775808<=v)(ly:v<=9223372036854775807)(aps:0<=eps)(ze:eps<=4611686018427387904)(hd:0<dt)(SK:dt<18446744073709551616):nU (B1 base v eps dt):=by
 have h1:okF (pG (v-base-eps) dt):=Vw hd (by omega) (by omega);have h2:okF (pG (v-base+eps) dt):=Vw hd (by omega) (by omega);refine⟨h1,h2,?_⟩;rw[aka hd];obtain⟨a,_,e⟩:=HK (v-base+eps) dt (by omega);show (v-base-eps)*ik (v-base+eps) dt<=ig (v-base+eps) dt*dt
 rw[e];exact Int.mul_le_mul_of_nonneg_right (by omega) (Int.le_of_lt a)
def yg:jH->Fr->Prop
 | .op,s=>s=(0,1)
 | .dU l h,s=>gg l.1 l.2 h.1 h.2 s.1 s.2
theorem Zm{c:jH}{s:Fr}(hc:nU c)(h:yg c s):Mn c s/\okF s:=by
 cases c with
 | op=>obtain rfl:s=(0,1):=h;exact⟨trivial,show iW 0 1 from by decide +kernel⟩
 | dU l u =>
  obtain⟨h1,h2,h3,h4⟩:=h;refine⟨⟨h2,h3⟩,h1,?_,?_,gg.gcd hc.1.1 hc.2.1.1 ⟨h1,h2,h3,h4⟩⟩
  ·have:=(gg.small hc.1.1 hc.2.1.1 hc.2.2 ⟨h1,h2,h3,h4⟩).1;have:=hc.1.2.1;omega
  ·have:=(gg.small hc.1.1 hc.2.1.1 hc.2.2 ⟨h1,h2,h3,h4⟩).1;have:=hc.1.2.2.1;have:=hc.1.1;omega
def yG(d:TypeDesc):Prop:=(match d with|.struct _|.array _ _=>true|_=>false)=true
theorem pH{w:w1}{g:Nat}{t:aw7}{cs:Array Ax}(h:aG w g t cs)(ty:aw7)(d:TypeDesc)(hu:Tryz.prog.underlying ty=some d)(hd:yG d)(off n:Nat)(hi:(Tryz.prog.info? ty).map (·.size)=some n)(hle:off+n<=cs.size)(ds:Array Ax)(xk:cs.extract off (off+n)=ds) :
 (Instr.loadAt ty (.pointer (some ⟨g,off,none⟩))).run CW w=.ok (.agg ds) w:=by
 have e5:ds.toList.length=n:=by rw[<-xk];simp;omega
 have hl:(loadCells ⟨g,off,none⟩ ds.toList.length).run CW w=.ok ds.toList.toArray w:=
  run_loadCells_list (P:=CW) w ⟨g,off,none⟩ ds.toList (fun j v aF=>by
   have p4:(⟨g,off,none⟩:aw6).add j=⟨g,off+j,none⟩:=by unfold Addr.add;split<;>simp_all
   rw[p4,h.cell];have aN:j<n:=by have:=(List.getElem?_eq_some_iff.1 aF).1;omega
   rw[Array.getElem?_toList,<-xk,Array.getElem?_extract] at aF;rw[if_pos (by omega)] at aF;exact aF)
 cases aO:Tryz.prog.info? ty with
 | none=>simp[aO] at hi
 | some i =>
  have hs:i.size=n:=by simpa [aO] using hi
  have Lq:(isAgg ty).run CW w=.ok true w:=by
   unfold isAgg;rw[Sem.run_bind,axf hu w];unfold yG at hd;cases d<;>simp_all
  rw[e5,Array.toArray_toList] at hl;simp[Instr.loadAt,Instr.sureAddr,loadVar,Sem.run_bind,Lq,sizeOf,typeInfo,aO,hs,hl]
theorem zT{w:w1}{g:Nat}{t:aw7}{cs:Array Ax}(h:aG w g t cs)(ty:aw7)(off n:Nat)(hi:(Tryz.prog.info? ty).map (·.size)=some n)(hle:off+n<=cs.size)(ds:Array Ax)(xk:ds.size=n)(h1:ds.all (·.oneCell')=true)(es:Array Ax)(ad3:(cs.toList.take off++ds.toList++cs.toList.drop (off+n)).toArray=es) :
 (Instr.storeAt ty (.pointer (some ⟨g,off,none⟩)) (.agg ds)).run CW w=.ok () (w.setRow g es):=by
 have:=run_storeCells_at (P:=CW) g off t ds.toList 0 cs w h (by simp;omega) (fun v aF=>(Array.all_eq_true_iff_forall_mem.1 h1) v (by simpa using aF));have hl:ds.toList.length=n:=by simpa using xk
 rw[hl,Nat.add_zero,ad3] at this
 cases aO:Tryz.prog.info? ty with
 | none=>simp[aO] at hi
 | some i =>
  have hs:ds.size=i.size:=by simp[aO] at hi;omega
  simp[Instr.storeAt,Instr.sureAddr,storeVar,sizeOf,typeInfo,aO,Value.cells,hs,this]
theorem jN{W w:w1}{g:Nat}(h:Ext W w)(af:W.heap.size<=g)(cs:Array Ax):Ext W (w.setRow g cs):=by
 refine⟨h.os,h.tape,h.output,?_,fun k aE=>?_⟩
 ·show W.heap.size<=(w.heap.modify g _).size
  rw[Array.size_modify];exact h.size
 ·show (w.heap.modify g _)[k]?=_
  rw[Array.getElem?_modify,if_neg (by omega)];exact h.block k aE
theorem aG.uf{w:w1}{g g':Nat}{t:aw7}{cs ds:Array Ax}(h:aG w g t cs)(hn:g≠g'):aG (w.setRow g' ds) g t cs:=by
 unfold aG at h |-;show (w.heap.modify g' _)[g]?=_
 rw[Array.getElem?_modify,if_neg (by omega)];exact h
theorem dp{ops:Array aw4}{rest:List aw4}{o:aw4}{a:Act}{w:w1}{Q:Exit->Act->w1->Prop}{ty:aw7}{x:axb}{u v:Ax}(ky:Region.wanted o (yielded ops a.tmps)=true)(aL:o.op=.load ty x)(hx:a.eval x=u)
 (aD:(Instr.loadAt ty u).run CW w=.ok v w) (h:wpList CW ops Q rest (a.put o.dst v) w):wpList CW ops Q (o :: rest) a w:=
 wpList_step fun _ cQ=>by
  rw[if_pos ky];unfold Oper.wp axc;simp only[aL,hx,Sem.run_bind,aD,Result.andThen_ok,Sem.run_pure];exact cQ _ _ h
theorem kG{ops:Array aw4}{rest:List aw4}{o:aw4}{a:Act}{w w':w1}{Q:Exit->Act->w1->Prop}{ty:aw7}{x y:axb}{u v:Ax}(ky:Region.wanted o (yielded ops a.tmps)=true)(aL:o.op=.store ty x y)(hx:a.eval x=u)(hy:a.eval y=v)
 (aD:(Instr.storeAt ty u v).run CW w=.ok () w') (h:wpList CW ops Q rest (a.put o.dst rM) w'):wpList CW ops Q (o :: rest) a w:=
 wpList_step fun _ cQ=>by
  rw[if_pos ky];unfold Oper.wp axc;simp only[aL,hx,hy,Sem.run_bind,aD,Result.andThen_ok,Sem.run_pure];exact cQ _ _ h
theorem iE{ops:Array aw4}{rest:List aw4}{o:aw4}{a:Act}{C:w1->Prop}{Q:Act->Prop}{ty:aw7}{x:axb}{u v:Ax}(ky:Region.wanted o (yielded ops a.tmps)=true)(aL:o.op=.load ty x)(hx:a.eval x=u)
 (aD:∀ w,C w->(Instr.loadAt ty u).run CW w=.ok v w) (h:wpQuiet CW ops C Q rest (a.put o.dst v)):wpQuiet CW ops C Q (o :: rest) a:=
 wpQuiet_step fun K cQ=>by
  rw[if_pos ky];refine⟨v,fun w hw=>?_,cQ _ h⟩;unfold Oper.quietAt axc;simp only[aL,hx,Sem.run_bind,aD w hw,Result.andThen_ok,Sem.run_pure];exact⟨rfl,rfl⟩
theorem Px{ops:Array aw4}{C:w1->Prop}{Q:Act->Prop}{R:Exit->Act->w1->Prop}(sF:∀ a w,C w->Q a->R .normal a w):∀ (l:List aw4) (a:Act) (w:w1),C w->wpQuiet CW ops C Q l a->wpList CW ops R l a w
 | [],a,w,hC,h=>sF a w hC h
 | o :: rest,a,w,hC,h=>wpList_step fun K cQ=>by
  unfold wpQuiet at h;split
  ·rename_i hw;rw[if_pos hw] at h;exact Oper.wp_of_quiet hC (fun a w' hc k=>cQ _ _ (Px sF rest a w' hc k)) h
  ·rename_i hw;rw[if_neg hw] at h;exact cQ _ _ (Px sF rest _ w hC h)
theorem eK{id:Nat}{Q:Exit->Act->w1->Prop}{a:Act}{w:w1}{l:List aw4}
 (h:wpQuiet CW l.toArray (fun w'=>∃ p:Regrown,w'=Go.Sort.grow (aw5 w p.d) p.os) (fun a'=>∀ w',(∃ p:Regrown,w'=Go.Sort.grow (aw5 w p.d) p.os)->Q .normal a' w') l a):(Code.region id l.toArray false).wp CW Q a w:=
 wp_region_lit (Px (fun a w hC h=>h w hC) l a w ⟨⟨w.drawn,#[]⟩,by rw[Go.Sort.grow_empty];rfl⟩ h)
theorem akg(s t:Bool)(a b c d e f g h:Nat)(x y:Int)(w:w1)(hx:dg s a b c d x)(hy:dg t e f g h y) :
 AA CW 26 #[.agg #[.bool s,a,b,c,d],.agg #[.bool t,e,f,g,h]] w (oG (x-y) w):=by
 obtain⟨W,aK⟩:=eo ((((w.alloc (.cells #[.bool s,a,b,c,d] 27)).alloc (.cells #[.bool t,e,f,g,h] 27)).alloc (.cells #[false,(),(),(),()] 27)));have cO:=kF w (.cells #[.bool s,a,b,c,d] 27) (.cells #[.bool t,e,f,g,h] 27) (.cells #[false,(),(),(),()] 27);rw[<-aK] at cO;have ay:Box W w.heap.size s a b c d:=cO.1;have au:Box W (w.heap.size+1) t e f g h:=cO.2.1;have aR:Box W (w.heap.size+1+1) false 0 0 0 0:=cO.2.2;have bC:Ext w W:=by rw[aK];exact((aA _ _).trans (aA _ _)).trans (aA _ _)
 have aB:=hide aK;clear aK cO;go_enter Tryz.func26,Tryz.ntmps26
 go_upto_region 1 with fail
 rw[<-aB.out];clear aB;have dY:=av ay;have fa:=av au;go_region_with (first
  | (go_at_call 68;refine(Og t e f g h y _ hy).mono ?_;rintro e' w' ⟨t1,bk,R6,Sc,h1,rfl,adG,ad⟩;have cD:=ay.drew.ext ad;have dz:=aR.drew.ext ad;have bS:=bC.CZ.trans ad;have dY:=av cD)
  | (go_at_call 24;refine(VD _ _ _ _ _ _ _ _ _ _ _ _ _ hx adG.1).mono ?_;rintro e' w' ⟨s',a',b',c',d',o',rfl,aL,hC,ad⟩;rw[<-Int.sub_eq_add_neg] at aL hC;have jZ:=hide aL;clear aL;have eu:=dz.ext ad;obtain⟨i0,i1,i2,i3,i4,dm,cW,cL,dn,dG⟩:=av eu;have da:=bS.trans ad))
 all_goals go_wp2_with fail
 all_goals exact B7 (v:=.tuple #[.agg #[.bool s',a',b',c',d'],.bool o']) (by simp[results,Tryz.results26,go_sem,i0,i1,i2,i3,i4]) rfl ⟨s',a',b',c',d',o',rfl,jZ.out,hC,dr da (Nat.le_trans (Nat.le_succ _) (Nat.le_succ _)) _ _ _ _ _⟩
def Quot(B:w1)(z:Int)(p:Ax)(bP:w1):Prop:=∃ g s a b c d,p=.pointer (some ⟨g,0,none⟩)/\cw s a b c d z/\Box bP g s a b c d/\B.heap.size<=g/\Ext B bP
section
variable {B U:w1}{z:Int}{s:Bool}{a b c d:Nat}{o:Obj}{u0 u1 u2 u3 u4:Ax}{g g':Nat}
theorem Ve(hC:cw s a b c d z)(ad:Ext B U):Quot B z (.pointer (some ⟨U.heap.size,0,none⟩)) ((U.alloc (.cells #[.bool s,a,b,c,d] 27)).alloc o):=
 ⟨_,s,a,b,c,d,rfl,hC,(Box.new U s a b c d).ext (aA _ _),ad.size,(ad.al _).al _⟩
theorem Vf(hC:cw s a b c d z)(ad:Ext B U):Quot B z (.pointer (some ⟨U.heap.size+1,0,none⟩)) ((U.alloc o).alloc (.cells #[.bool s,a,b,c,d] 27)):=
 ⟨_,s,a,b,c,d,rfl,hC,(e1 U _ _).2,Nat.le_succ_of_le ad.size,(ad.al _).al _⟩
theorem xM(hC:cw s a b c d z)(ad:Ext B U)(hz:Box U g false 0 0 0 0)(h1:B.heap.size<=g):Quot B z (.pointer (some ⟨g,0,none⟩)) ((((((U.setCell ⟨g,0,none⟩ (.bool s)).setCell ⟨g,1,none⟩ (.int .u64 (a:Int))).setCell ⟨g,2,none⟩ (.int .u64 (b:Int))).setCell ⟨g,3,none⟩ (.int .u64 (c:Int))).setCell ⟨g,4,none⟩ (.int .u64 (d:Int))).alloc o):=
 ⟨_,s,a,b,c,d,rfl,hC,(hz.put).ext (aA _ _),h1,(dr ad h1 _ _ _ _ _).al _⟩
theorem xN(hC:cw s a b c d z)(ad:Ext B U)(h1:B.heap.size<=g):Quot B z (.pointer (some ⟨U.heap.size,0,none⟩)) ((((((U.setCell ⟨g,0,none⟩ u0).setCell ⟨g,1,none⟩ u1).setCell ⟨g,2,none⟩ u2).setCell ⟨g,3,none⟩ u3).setCell ⟨g,4,none⟩ u4).alloc (.cells #[.bool s,a,b,c,d] 27)):=by
 have h:=Box.new (((((U.setCell ⟨g,0,none⟩ u0).setCell ⟨g,1,none⟩ u1).setCell ⟨g,2,none⟩ u2).setCell ⟨g,3,none⟩ u3).setCell ⟨g,4,none⟩ u4) s a b c d;simp only[World.size_setCell] at h;exact⟨_,s,a,b,c,d,rfl,hC,h,ad.size,(dr ad h1 _ _ _ _ _).al _⟩
theorem kC(hC:cw s a b c d z)(ad:Ext B U)(hz:Box U g false 0 0 0 0)(h1:B.heap.size<=g)(h2:B.heap.size<=g')(hn:g≠g'):Quot B z (.pointer (some ⟨g,0,none⟩)) ((((((((((U.setCell ⟨g,0,none⟩ (.bool s)).setCell ⟨g,1,none⟩ (.int .u64 (a:Int))).setCell ⟨g,2,none⟩ (.int .u64 (b:Int))).setCell ⟨g,3,none⟩ (.int .u64 (c:Int))).setCell ⟨g,4,none⟩ (.int .u64 (d:Int))).setCell ⟨g',0,none⟩ u0).setCell ⟨g',1,none⟩ u1).setCell ⟨g',2,none⟩ u2).setCell ⟨g',3,none⟩ u3).setCell ⟨g',4,none⟩ u4):=
 ⟨_,s,a,b,c,d,rfl,hC,(hz.put).cI hn _ _ _ _ _,h1,dr (dr ad h1 _ _ _ _ _) h2 _ _ _ _ _⟩
theorem ahQ(hC:cw s a b c d z)(ad:Ext B U):Quot B z (.pointer (some ⟨U.heap.size,0,none⟩)) (U.alloc (.cells #[.bool s,a,b,c,d] 27)):=
 ⟨_,s,a,b,c,d,rfl,hC,Box.new U s a b c d,ad.size,ad.al _⟩
theorem ua(hC:cw s a b c d z)(ad:Ext B U)(hz:Box U g false 0 0 0 0)(h1:B.heap.size<=g):Quot B z (.pointer (some ⟨g,0,none⟩)) (((((U.setCell ⟨g,0,none⟩ (.bool s)).setCell ⟨g,1,none⟩ (.int .u64 (a:Int))).setCell ⟨g,2,none⟩ (.int .u64 (b:Int))).setCell ⟨g,3,none⟩ (.int .u64 (c:Int))).setCell ⟨g,4,none⟩ (.int .u64 (d:Int))):=
 ⟨_,s,a,b,c,d,rfl,hC,hz.put,h1,dr ad h1 _ _ _ _ _⟩
end
section
variable {P:axh}{l:List aw4}{kd:List ew}{V:(Nat->Ax)->List Ax}{T:Nat->(Nat->Ax)->w1->Prop}{E:Nat->Prop}{zero:Nat->Obj}{full:(Nat->Ax)->Nat->Obj}{tgt:Nat->Nat}{W:w1}{A:(Nat->Ax)->Act}{nd:List Nat}{i:Nat}{o:aw4}
abbrev wB (T:Nat->(Nat->Ax)->w1->Prop) (kd:List ew) (nd:List Nat) (V:(Nat->Ax)->List Ax) (i:Nat) (o:aw4):Prop:=∀ k b,o.guard=some (k,b)->∀ R s w,T s R w->nd.getD i 0<=s->(FA (dN kd V R (fun _=>0) k)==some b)=(dv kd i != .hP)
theorem cu(h:o.guard=none):wB T kd nd V i o:=fun k b e=>by rw[h] at e;cases e
theorem du{k:Nat}{b:Bool}(h:o.guard=some (k,b))(aF:∀ R,(FA (dN kd V R (fun _=>0) k)==some b)=(dv kd i != .hP)):wB T kd nd V i o:=fun k' b' e R _ _ _ _=>by
 rw[h] at e;cases e
 exact aF R
theorem eL(v:(Nat->Ax)->Ax)(h:dv kd i=.q)(aF:∀ R,(V R).getD i rM=v R)(af:wB T kd nd V i o)(aO:∀ R s w,T s R w->nd.getD i 0<=s->qZ kd tgt E W w->(∀ m c,dv kd m=.so c->mK l l.length m i=true->w.heap[tgt c]?=W.heap[tgt c]?)->mg P w (v R) ((axc (A R).eval o).run P w)):pR P T E l kd nd V zero full tgt W A i o:=by
 refine⟨af,?_⟩;rw[h];intro R s w a b c d;rw[aF];exact aO R s w a b c d
theorem cj{P:axh}{l:List aw4}{kd:List ew}{V:(Nat->Ax)->List Ax}{T:Nat->(Nat->Ax)->w1->Prop}{E:Nat->Prop}{zero:Nat->Obj}{full:(Nat->Ax)->Nat->Obj}{tgt:Nat->Nat}{W:w1}{A:(Nat->Ax)->Act}{nd:List Nat}{i:Nat}{o:aw4}(aO:∀ R s w,T s R w->nd.getD i 0<=s->qZ kd tgt E W w->(∀ m c,dv kd m=.so c->mK l l.length m i=true->w.heap[tgt c]?=W.heap[tgt c]?)->mg P w ((V R).getD i rM) ((axc (A R).eval o).run P w))(h:dv kd i=.q:=by exact rfl)(af:o.guard=none:=by exact rfl):pR P T E l kd nd V zero full tgt W A i o:=eL _ h (fun _=>rfl) (cu af) aO
theorem aH{P:axh}{l:List aw4}{kd:List ew}{V:(Nat->Ax)->List Ax}{T:Nat->(Nat->Ax)->w1->Prop}{E:Nat->Prop}{zero:Nat->Obj}{full:(Nat->Ax)->Nat->Obj}{tgt:Nat->Nat}{W:w1}{A:(Nat->Ax)->Act}{nd:List Nat}{i:Nat}{o:aw4}(aO:∀ R s w,T s R w->nd.getD i 0<=s->qZ kd tgt E W w->(∀ m c,dv kd m=.so c->mK l l.length m i=true->w.heap[tgt c]?=W.heap[tgt c]?)->mg P w ((V R).getD i rM) ((axc (A R).eval o).run P w):=by intro R s w' aw hs hw ha;go_simp)(h:dv kd i=.q:=by exact rfl)(af:o.guard=none:=by exact rfl):pR P T E l kd nd V zero full tgt W A i o:=eL _ h (fun _=>rfl) (cu af) aO
theorem d_{P:axh}{l:List aw4}{kd:List ew}{V:(Nat->Ax)->List Ax}{T:Nat->(Nat->Ax)->w1->Prop}{E:Nat->Prop}{zero:Nat->Obj}{full:(Nat->Ax)->Nat->Obj}{tgt:Nat->Nat}{W:w1}{A:(Nat->Ax)->Act}{nd:List Nat}{i:Nat}{o:aw4}{Q:w1->Prop}(k:Hid (∀ w,Q w))(aO:∀ R s w,T s R w->nd.getD i 0<=s->qZ kd tgt E W w->(∀ m c,dv kd m=.so c->mK l l.length m i=true->w.heap[tgt c]?=W.heap[tgt c]?)->Q w->mg P w ((V R).getD i rM) ((axc (A R).eval o).run P w):=by intro R s w' aw hs hw ha sF;go_simp;exact sF)(h:dv kd i=.q:=by exact rfl)(af:o.guard=none:=by exact rfl):pR P T E l kd nd V zero full tgt W A i o:=eL _ h (fun _=>rfl) (cu af) (fun R s w a b c d=>aO R s w a b c d (k.out w))
theorem kt(h:dv kd i=.hP)(af:wB T kd nd V i o):pR P T E l kd nd V zero full tgt W A i o:=by
 refine⟨af,?_⟩;rw[h];trivial
theorem ia(z:Obj)(h:dv kd i=.al)(hz:zero i=z)(af:wB T kd nd V i o)(aD:∀ (ρ:axb->Ax) (w:w1),(axc ρ o).run P w=.ok (.value (ptrTo w.heap.size)) (w.alloc z)):pR P T E l kd nd V zero full tgt W A i o:=by
 refine⟨af,?_⟩;rw[h];intro ρ w;rw[hz];exact aD ρ w
theorem ib{j:Nat}{Ty:aw7}{p x:axb}(f:(Nat->Ax)->Obj)(z:Obj)(v:(Nat->Ax)->Ax)(h:dv kd i=.st j)(hop:o.op=.store Ty p x)(hf:∀ R,full R i=f R)(hz:zero j=z)(af:wB T kd nd V i o)(aF:∀ R,(A R).eval x=v R)
 (hs:∀ R s (ρ:axb->Ax) (w:w1) (g:Nat),T s R w->nd.getD i 0<=s->ρ p=ptrTo g->ρ x=v R->W.heap.size<=g->w.heap[g]?=some z->oC P ρ o w g (f R)/\∀ aT,m_ w aT g (f R)->T s R aT):pR P T E l kd nd V zero full tgt W A i o:=by
 refine⟨af,?_⟩;rw[h];simp only[hop,hf,hz];intro R s ρ w g a b c d;rw[aF] at d;exact hs R s ρ w g a b c d
theorem il{c:Nat}{Ty:aw7}{p x:axb}(g:Nat)(f:(Nat->Ax)->Obj)(u v:(Nat->Ax)->Ax)(h:dv kd i=.so c)(hop:o.op=.store Ty p x)(hf:∀ R,full R i=f R)(e6:tgt c=g)(af:wB T kd nd V i o)(hp:∀ R,(A R).eval p=u R)(aF:∀ R,(A R).eval x=v R)
 (hs:∀ R s (ρ:axb->Ax) (w:w1),T s R w->nd.getD i 0<=s->ρ p=u R->ρ x=v R->w.heap[g]?=W.heap[g]?->oC P ρ o w g (f R)/\∀ aT,m_ w aT g (f R)->T s R aT):pR P T E l kd nd V zero full tgt W A i o:=by
 refine⟨af,?_⟩;rw[h];simp only[hop,hf,e6];intro R s ρ w a b d e;rw[aF] at e;rw[hp] at d;exact hs R s ρ w a b d e
theorem C6{m:Nat}(h:dv kd i=.gO m)(af:wB T kd nd V i o)(aO:∀ R w,T m R w->qZ kd tgt E W w->A3 P T E m R w ((axc (A R).eval o).run P w)):pR P T E l kd nd V zero full tgt W A i o:=by
 refine⟨af,?_⟩;rw[h];exact aO
theorem e7{a:Act}{w:w1}{ty:aw7}{x:axb}{u v:Ax}(aL:o.op=.load ty x)(hx:a.eval x=u)(aD:(Instr.loadAt ty u).run P w=.ok v w):mg P w v ((axc a.eval o).run P w):=by
 unfold axc;simp only[aL,hx,Sem.run_bind,aD,Result.andThen_ok,Sem.run_pure];exact⟨rfl,rfl⟩
theorem N7{a:Act}{w:w1}{b:BinOp}{ty ty':aw7}{x y:axb}{u v r:Ax}(aL:o.op=.binOp b ty x y ty')(hx:a.eval x=u)(hy:a.eval y=v)(SS:(eqGuard b ty x y u v).run P w=.ok () w)(aD:(binOp b ty u v).run P w=.ok r w):mg P w r ((axc a.eval o).run P w):=by
 unfold axc;simp only[aL,hx,hy,Sem.run_bind,SS,aD,Result.andThen_ok,Sem.run_pure];exact⟨rfl,rfl⟩
theorem aG.aY{w:w1}{g:Nat}{t:aw7}{X:Array Ax}(h:aG W g t X)(k:qZ kd tgt E W w)(he:¬ E g)(hc:∀ c,ew.so c∈kd->tgt c≠g):aG w g t X:=
 (k.2.2.2.2 g h.lt he hc).trans h
end
theorem fP.keep{B b:Nat}{w w':w1}(h:fP B w b)(hs:w.heap.size<=w'.heap.size)(aE:∀ k,k=b\/k<B->k<w.heap.size->w'.heap[k]?=w.heap[k]?):fP B w' b:=by
 obtain⟨h1,h2,a,len,cap,at_,bt,az,f1,h3,h4,hx⟩:=h;have hc:∀ k,k=b\/k<B->k<w.heap.size->∀ o,w'.cell? ⟨k,o,none⟩=w.cell? ⟨k,o,none⟩:=fun k h1 h2 o=>by unfold World.cell?;rw[aE k h1 h2]
 have hf:w'.frozen? ⟨b,1,none⟩=w.frozen? ⟨b,1,none⟩:=by unfold World.frozen?;rw[aE b (Or.inl rfl) h2]
 refine⟨h1,by omega,a,len,cap,at_,(hc b (Or.inl rfl) h2 0).trans bt,(hc b (Or.inl rfl) h2 1).trans az,hf.trans f1,h3,h4,?_⟩;rcases hx with hx|⟨jh,la,e,hb,hl,Bj⟩
 ·exact Or.inl hx
 ·refine Or.inr ⟨jh,la,e,hb,hl,fun i hi=>?_⟩;obtain⟨v,h5,h6⟩:=Bj i hi;exact⟨v,h5,(hc jh (Or.inr hb) (by omega) _).trans h6⟩
def QZ(B b:Nat)(bU:w1)(X:Nat->(Nat->Ax)->Prop)(s:Nat)(R:Nat->Ax)(w:w1):Prop:=fP B w b/\b3 b bU w/\X s R
def dA(bU:w1)(_:Nat)(_:Nat->Ax)(w:w1):Prop:=Ext bU w
theorem dM{bU w aT:w1}{g:Nat}{f:Obj}(h:Ext bU w)(hF:m_ w aT g f)(af:bU.heap.size<=g):Ext bU aT:=
 ⟨hF.2.2.2.1.trans h.os,hF.2.2.2.2.1.trans h.tape,hF.2.2.2.2.2.trans h.output,by rw[hF.2.2.1];exact h.size,fun k aE=>(hF.2.1 k (by omega)).trans (h.block k aE)⟩
theorem H0{b:Nat}{bU w aT:w1}{g:Nat}{f:Obj}(h:b3 b bU w)(hF:m_ w aT g f)(af:bU.heap.size<=g):b3 b bU aT:=
 ⟨hF.2.2.2.1.trans h.1,hF.2.2.2.2.1.trans h.2.1,hF.2.2.2.2.2.trans h.2.2.1,by rw[hF.2.2.1];exact h.2.2.2.1,fun k aE hb=>(hF.2.1 k (by omega)).trans (h.2.2.2.2 k aE hb)⟩
theorem dH{bU:w1}:∀ s R w w',dA bU s R w->Below w.heap.size w w'->dA bU s R w':=fun _ _ _ _ h k=>Ext.trans h k
theorem aeH{B b:Nat}{bU:w1}{X:Nat->(Nat->Ax)->Prop}:∀ s R w w',QZ B b bU X s R w->Below w.heap.size w w'->QZ B b bU X s R w':=fun _ _ _ _ h k=>⟨h.1.ext k,h.2.1.more k,h.2.2⟩
theorem TX{B b:Nat}{bU:w1}{X:Nat->(Nat->Ax)->Prop}{s:Nat}{R:Nat->Ax}{w aT:w1}{g:Nat}{f:Obj}(h:QZ B b bU X s R w)(hF:m_ w aT g f)(af:bU.heap.size<=g)(hb:g≠b)(bF:B<=g):QZ B b bU X s R aT:=
 ⟨h.1.keep (by rw[hF.2.2.1];exact Nat.le_refl _) (fun k aE _=>hF.2.1 k (fun e=>by subst e;rcases aE with e|e;exact hb e;omega)),H0 h.2.1 hF af,h.2.2⟩
theorem awj{B b:Nat}{bU:w1}{X:Nat->(Nat->Ax)->Prop}{m:Nat}{R:Nat->Ax}{w w':w1}{r:Ax}(h:QZ B b bU X m R w)(aw:fP B w' b)(ef:b3 b w w')(dk:X (m+1) (mr R m r)):QZ B b bU X (m+1) (mr R m r) w'/\jI (fun k=>k=b) w w':=
 ⟨⟨aw,h.2.1.trans ef,dk⟩,ef.1,ef.2.1,ef.2.2.1,ef.2.2.2.1,fun k aE he=>ef.2.2.2.2 k aE he⟩
theorem qR{ρ:axb->Ax}{o:aw4}{Ty uM:aw7}{p x:axb}{w:w1}{g off:Nat}{cs ds:Array Ax}{v:Ax}(hop:o.op=.store Ty p x)(hp:ρ p=.pointer (some ⟨g,off,none⟩))(hx:ρ x=v)(hz:w.heap[g]?=some (.cells cs uM (0,0)))(hd:cs.setIfInBounds off v=ds)(aD:(Instr.storeAt Ty (.pointer (some ⟨g,off,none⟩)) v).run CW w=.ok () (w.setCell ⟨g,off,none⟩ v)) :
 oC CW ρ o w g (.cells ds uM (0,0)):=by
 have bF:aG w g uM cs:=hz;refine⟨w.setCell ⟨g,off,none⟩ v,BV hop (by rw[hp,hx];exact aD),?_,fun k aE=>lY aE _ _,by simp,rfl,rfl,rfl⟩;have:=bF.VR off v;rw[hd] at this
 exact this
theorem uj{ρ:axb->Ax}{o:aw4}{Ty uM:aw7}{p x:axb}{w:w1}{g:Nat}{cs ds:Array Ax}{u v:Ax}(hop:o.op=.store Ty p x)(hp:ρ p=u)(hx:ρ x=v)(hz:w.heap[g]?=some (.cells cs uM (0,0)))(aD:(Instr.storeAt Ty u v).run CW w=.ok () (w.setRow g ds)) :
 oC CW ρ o w g (.cells ds uM (0,0)):=
 ⟨w.setRow g ds,BV hop (by rw[hp,hx];exact aD),aG.setRow (show aG w g uM cs from hz) ds,fun k aE=>setRow_other w g k ds (by omega),by simp[World.setRow],rfl,rfl,rfl⟩
theorem lI{ρ:axb->Ax}{o:aw4}{T:aw7}{p x:axb}{w:w1}{g n:Nat}{cs ds:Array Ax}(hop:o.op=.store T p x)(hp:ρ p=ptrTo g)(hx:ρ x=.agg ds)(hz:w.heap[g]?=some (.cells cs T (0,0)))(hi:(Tryz.prog.info? T).map (·.size)=some n)(hc:cs.size=n)(hs:ds.size=n)(h1:ds.all (·.oneCell')=true) :
 oC CW ρ o w g (.cells ds T (0,0)):=hQ hop hp hx hz (by rw[hc];exact hi) (by rw[hs,hc]) h1
def oH(l:List (Ax->Prop))(s:Nat)(R:Nat->Ax):Prop:=∀ m p,l[m]?=some p->m<s->p (R m)
theorem oH.zero{l:List (Ax->Prop)}{R:Nat->Ax}:oH l 0 R:=fun _ _ _ h=>absurd h (by omega)
theorem oH.step{l:List (Ax->Prop)}{m:Nat}{R:Nat->Ax}{p:Ax->Prop}{r:Ax}(h:oH l m R)(hp:l[m]?=some p)(aD:p r):oH l (m+1) (mr R m r):=fun k q aO aE=>by
 unfold mr;by_cases e:k=m
 ·subst e;rw[hp] at aO;cases aO
  rw[if_pos rfl];exact aD
 ·rw[if_neg e];exact h k q aO (by omega)
theorem oH.get{l:List (Ax->Prop)}{s:Nat}{R:Nat->Ax}{p:Ax->Prop}(h:oH l s R)(m:Nat)(hp:l[m]?=some p)(hs:m<s):p (R m):=h m p hp hs
structure El (α:Type) where
 T:aw7
 S:aw7
 k:Nat
 bytes:Nat
 zero:Ax
 enc:α->List Ax
 ok:α->Prop
 len:∀ x,(enc x).length=k
 one:∀ x,∀ u∈enc x,u.oneCell'=true
 pos:0<k
 zs:zero.cells.size=k
 info:(Tryz.prog.info? T).map (fun i=>(i.zero,i.size,i.bytes))=some (some zero,k,bytes)
 B3:Tryz.prog.underlying S=some (.slice T)
theorem Jq(b off j:Nat):(⟨b,off,none⟩:aw6).add j=⟨b,off+j,none⟩:=by unfold Addr.add;split<;>simp_all
namespace El
variable {α:Type} (E:El α)
def cat(l:List α):List Ax:=l.flatMap E.enc
theorem Gg:∀ l:List α,(E.cat l).length=l.length*E.k
 | []=>by simp[cat]
 | x :: l=>by
  have:=Gg l;simp only[cat,List.flatMap_cons,List.length_append,E.len,List.length_cons] at this |-
  rw[this,Nat.add_mul];omega
theorem Zf(l:List α):∀ u∈E.cat l,u.oneCell'=true:=fun u hu=>by
 obtain⟨x,_,hx⟩:=List.mem_flatMap.1 hu;exact E.one x u hx
theorem Ze(l m:List α):E.cat (l++m)=E.cat l++E.cat m:=List.flatMap_append
theorem RF:∀(l:List α)(j i:Nat)(x:α),l[j]?=some x->i<E.k->(E.cat l)[j*E.k+i]?=(E.enc x)[i]?
 | [],j,i,x,h,_=>by simp at h
 | y :: l,0,i,x,h,hi=>by
  simp only[List.getElem?_cons_zero,Option.some.injEq] at h;subst h;simp only[cat,List.flatMap_cons,Nat.zero_mul,Nat.zero_add];exact List.getElem?_append_left (by rw[E.len];exact hi)
 | y :: l,j+1,i,x,h,hi=>by
  have:=RF l j i x (by simpa using h) hi;simp only[cat,List.flatMap_cons] at this |-
  rw[List.getElem?_append_right (by rw[E.len,Nat.add_mul];omega),E.len,show (j+1)*E.k+i-E.k=j*E.k+i by rw[Nat.add_mul];omega];exact this
def At(w:w1)(A:Option aw6)(l:List α):Prop:=
 (∀ x∈l,E.ok x)/\l.length<=9223372036854775807/\(0<l.length->∃ b off,A=some ⟨b,off,none⟩/\b<w.heap.size/\∀ j u,(E.cat l)[j]?=some u->w.cell? ⟨b,off+j,none⟩=some u)
theorem At.nil(w:w1)(A:Option aw6):E.At w A []:=⟨by simp,by simp,fun h=>absurd h (by simp)⟩
variable {E}
theorem At.ext{w w':w1}{A:Option aw6}{l:List α}(h:E.At w A l)(e:Ext w w'):E.At w' A l:=
 ⟨h.1,h.2.1,fun hp=>by
  obtain⟨b,off,hA,hb,hc⟩:=h.2.2 hp;exact⟨b,off,hA,Nat.lt_of_lt_of_le hb e.size,fun j u aN=>(e.cell (p:=⟨b,off+j,none⟩) hb).trans (hc j u aN)⟩⟩
theorem At.keep{w w':w1}{A:Option aw6}{l:List α}(h:E.At w A l)(hs:w.heap.size<=w'.heap.size)(e:∀ b off,A=some ⟨b,off,none⟩->b<w.heap.size->w'.heap[b]?=w.heap[b]?):E.At w' A l:=
 ⟨h.1,h.2.1,fun hp=>by
  obtain⟨b,off,hA,hb,hc⟩:=h.2.2 hp;exact⟨b,off,hA,Nat.lt_of_lt_of_le hb hs,fun j u aN=>(World.cell?_of_block (a:=⟨b,off+j,none⟩) (e b off hA hb)).trans (hc j u aN)⟩⟩
theorem At.c7{b:Nat}{w w':w1}{A:Option aw6}{l:List α}(h:E.At w A l)(u:b3 b w w')(hb:∀ g off,A=some ⟨g,off,none⟩->g≠b):E.At w' A l:=
 h.keep u.2.2.2.1 fun g off hA af=>u.2.2.2.2 g af (hb g off hA)
variable (E)
def Own(B:Nat)(w:w1)(v:Ax)(l:List α):Prop:=w.ownsRow B E.T E.k v l.length (E.cat l)/\∀ x∈l,E.ok x
theorem Own.jT(B:Nat)(w:w1):E.Own B w (.slice none 0 0) []:=⟨World.ownsRow_nil _ _ _ _,by simp⟩
variable {E}
theorem Own.at_{B:Nat}{w:w1}{v:Ax}{l:List α}(h:E.Own B w v l):∃ A cap,v=.slice A l.length cap/\l.length<=cap/\cap<=9223372036854775807/\E.At w A l:=by
 rcases h.1.2 with ⟨rfl,h0⟩|⟨g,cap,cur,rfl,af,hh,nr,jP,hcs,Bp⟩
 ·obtain rfl:l=[]:=List.length_eq_zero_iff.1 h0;exact⟨none,0,rfl,Nat.le_refl _,by omega,At.nil E _ _⟩
 ·unfold maxLen at jP;have e:∀ j,(⟨g,0,none⟩:aw6).add j=⟨g,0+j,none⟩:=fun j=>by unfold Addr.add;split<;>simp_all
  refine⟨_,cap,rfl,nr,jP,h.2,by omega,fun _=>⟨g,0,rfl,(Array.getElem?_eq_some_iff.1 hh).1,fun j u aN=>?_⟩⟩;have h1:=h.1.cells (g:=g) rfl _ _ aN;rw[e] at h1;exact h1
theorem Own.alloc{B:Nat}{w:w1}{v:Ax}{l:List α}(h:E.Own B w v l)(o:Obj):E.Own B (w.alloc o) v l:=⟨h.1.alloc o,h.2⟩
theorem Own.drew{B:Nat}{w:w1}{v:Ax}{l:List α}(h:E.Own B w v l):E.Own B w.drew v l:=h
theorem Own.ext{B:Nat}{w w':w1}{v:Ax}{l:List α}(h:E.Own B w v l)(e:Ext w w'):E.Own B w' v l:=by
 refine⟨?_,h.2⟩;obtain⟨h1,h2|⟨g,cap,cur,aF,af,hh,r⟩⟩:=h.1
 ·exact⟨h1,Or.inl h2⟩
 ·exact⟨h1,Or.inr ⟨g,cap,cur,aF,af,by rw[e.block g (Array.getElem?_eq_some_iff.1 hh).1];exact hh,r⟩⟩
theorem Own.less{B fc:Nat}{w:w1}{v:Ax}{l:List α}(h:E.Own B w v l)(bF:fc<=B):E.Own fc w v l:=by
 refine⟨?_,h.2⟩;obtain⟨h1,h2|⟨g,cap,cur,aF,af,r⟩⟩:=h.1
 ·exact⟨h1,Or.inl h2⟩
 ·exact⟨h1,Or.inr ⟨g,cap,cur,aF,by omega,r⟩⟩
theorem Own.c7{B b:Nat}{w w':w1}{v:Ax}{l:List α}(h:E.Own B w v l)(u:b3 b w w')(hb:b<B):E.Own B w' v l:=by
 refine⟨?_,h.2⟩;obtain⟨h1,h2|⟨g,cap,cur,aF,af,hh,r⟩⟩:=h.1
 ·exact⟨h1,Or.inl h2⟩
 ·exact⟨h1,Or.inr ⟨g,cap,cur,aF,af,by rw[u.2.2.2.2 g (Array.getElem?_eq_some_iff.1 hh).1 (by omega)];exact hh,r⟩⟩
theorem Own.tp{w:w1}{A:Option aw6}{c cap B:Nat}{l:List α}(h:E.Own B w (.slice A c cap) l):E.At w A l:=by
 obtain⟨A',Gf,he,_,_,hw⟩:=h.at_;cases he
 exact hw
theorem Mq{i:Option TypeInfo}{z:Ax}{a b:Nat}(h:i.map (fun i=>(i.zero,i.size,i.bytes))=some (some z,a,b)):∃ x,i=some x/\x.zero=some z/\x.size=a/\x.bytes=b:=by
 cases i with
 | none=>simp at h
 | some x =>
  simp only[Option.map_some,Option.some.injEq,Prod.mk.injEq] at h;exact⟨x,rfl,h.1,h.2.1,h.2.2⟩
variable (E)
theorem VL(B:Nat)(w:w1)(ty:aw7)(v:Ax)(ai l:List α)(gn:E.Own B w v ai)(A:Option aw6)(m c:Nat)(hb:E.At w A l)(hm:l.length=m)(hlen:(ai.length+l.length)*E.bytes<=140737488355328)(h63:ai.length+l.length<=9223372036854775807)(sI:B<=w.heap.size) :
 ∃ v' w',(Builtin.append_ #[E.S,E.S] ty #[v,.slice A m c]).run CW w=.ok v' w'/\E.Own B w' v' (ai++l)/\w.grownBy w' v.ownBlock/\(v'.ownBlock=v.ownBlock\/v'.ownBlock=some w.heap.size):=by
 subst hm;obtain⟨i0,j5,bf,l3,lz⟩:=Mq E.info;have adr:ai.length+l.length<=maxLen:=by unfold maxLen;omega
 rcases A with _|sm
 ·have h0:l=[]:=by
   rcases Nat.eq_zero_or_pos l.length with h|h
   ·exact List.length_eq_zero_iff.1 h
   ·obtain⟨b,off,h',_⟩:=hb.2.2 h;cases h'
  subst h0;refine⟨v,w,?_,by rw[List.append_nil];exact gn,World.grownBy.refl w _,.inl rfl⟩;rcases gn.1.2 with ⟨rfl,_⟩|⟨g,cap,cur,rfl,_,_,nr,_⟩
  ·simp[Builtin.append_,axf E.B3,sizeOf,typeInfo,j5,Builtin.lenOf,Builtin.firstCells]
  ·simp[Builtin.append_,axf E.B3,sizeOf,typeInfo,j5,Builtin.lenOf,Builtin.firstCells,nr,storeCells]
 ·have DJ:∀ j u,(E.cat l)[j]?=some u->w.cell? (sm.add j)=some u:=by
   intro j u hu;have hp:0<l.length:=by
    rcases Nat.eq_zero_or_pos l.length with h|h
    ·rw[List.length_eq_zero_iff.1 h] at hu;simp[cat] at hu
    ·exact h
   obtain⟨b,off,h',_,hc⟩:=hb.2.2 hp;obtain rfl:sm=⟨b,off,none⟩:=Option.some.inj h';rw[Jq];exact hc j u hu
  obtain⟨v',w',qG,h2,h3,_,h5⟩:=run_append_own_at (P:=CW) w B E.S ty E.T i0 E.zero E.k E.bytes E.B3 j5 bf l3 lz E.zs E.pos v ai.length (E.cat ai) gn.1 sm l.length c (E.cat l) (E.Gg l) DJ (E.Zf l) adr hlen sI;refine⟨v',w',qG,⟨?_,fun x hx=>?_⟩,h3,h5⟩
  ·rw[E.Ze,List.length_append];exact h2
  ·rcases List.mem_append.1 hx with h|h
   ·exact gn.2 x h
   ·exact hb.1 x h
theorem At.row{w:w1}{b off:Nat}{l:List α}(h:E.At w (some ⟨b,off,none⟩) l){j:Nat}{x:α}(aN:l[j]?=some x):∀ i u,(E.enc x)[i]?=some u->w.cell? ⟨b,off+(j*E.k+i),none⟩=some u:=fun i u hu=>by
 have hl:=(List.getElem?_eq_some_iff.1 aN).1;obtain⟨b',UJ,e,_,hc⟩:=h.2.2 (by omega);obtain⟨rfl,rfl⟩:b=b'/\off=UJ:=by simpa using e
 have hi:i<E.k:=by rw[<-E.len x];exact(List.getElem?_eq_some_iff.1 hu).1
 exact hc _ u ((E.RF l j i x aN hi).trans hu)
end El
theorem Om{w:w1}{b off:Nat}(ty:aw7)(d:TypeDesc)(hu:Tryz.prog.underlying ty=some d)(hd:yG d)(cs:List Ax)(hi:(Tryz.prog.info? ty).map (·.size)=some cs.length)(hc:∀ i u,cs[i]?=some u->w.cell? ⟨b,off+i,none⟩=some u) :
 (Instr.loadAt ty (.pointer (some ⟨b,off,none⟩))).run CW w=.ok (.agg cs.toArray) w:=by
 have hl:(loadCells ⟨b,off,none⟩ cs.length).run CW w=.ok cs.toArray w:=
  run_loadCells_list (P:=CW) w ⟨b,off,none⟩ cs (fun j v aF=>by
   have p4:(⟨b,off,none⟩:aw6).add j=⟨b,off+j,none⟩:=Jq b off j;rw[p4];exact hc j v aF)
 cases aO:Tryz.prog.info? ty with
 | none=>simp[aO] at hi
 | some i =>
  have hs:i.size=cs.length:=by simpa [aO] using hi
  have Lq:(isAgg ty).run CW w=.ok true w:=by
   unfold isAgg;rw[Sem.run_bind,axf hu w];unfold yG at hd;cases d<;>simp_all
  simp[Instr.loadAt,Instr.sureAddr,loadVar,Sem.run_bind,Lq,sizeOf,typeInfo,aO,hs,hl]
namespace El
variable {α:Type}{E:El α}
theorem size(E:El α):(Tryz.prog.info? E.T).map (·.size)=some E.k:=by
 obtain⟨i0,j5,_,l3,_⟩:=Mq E.info;rw[j5];simp[l3]
theorem At.load{w:w1}{b off:Nat}{l:List α}(h:E.At w (some ⟨b,off,none⟩) l){j:Nat}{x:α}(aN:l[j]?=some x){d:TypeDesc}(hu:Tryz.prog.underlying E.T=some d)(hd:yG d) :
 (Instr.loadAt E.T (.pointer (some ⟨b,off+j*E.k,none⟩))).run CW w=.ok (.agg (E.enc x).toArray) w:=
 Om E.T d hu hd (E.enc x) (by rw[E.len];exact E.size) (fun i u hi=>by
  have:=h.row (E:=E) aN i u hi;rwa [<-Nat.add_assoc] at this)
theorem At.part{w:w1}{b off:Nat}{l:List α}(h:E.At w (some ⟨b,off,none⟩) l){j:Nat}{x:α}(aN:l[j]?=some x)(ty:aw7){d:TypeDesc}(hu:Tryz.prog.underlying ty=some d)(hd:yG d)(i:Nat)(cs:List Ax)(hi:(Tryz.prog.info? ty).map (·.size)=some cs.length)(hcs:((E.enc x).drop i).take cs.length=cs) :
 (Instr.loadAt ty (.pointer (some ⟨b,off+j*E.k+i,none⟩))).run CW w=.ok (.agg cs.toArray) w:=
 Om ty d hu hd cs hi (fun m u hm=>by
  have sM:m<cs.length:=(List.getElem?_eq_some_iff.1 hm).1;have e:(E.enc x)[i+m]?=some u:=by
   rw[<-hcs,List.getElem?_take_of_lt sM,List.getElem?_drop] at hm;exact hm
  have:=h.row (E:=E) aN (i+m) u e;rwa [show off+(j*E.k+(i+m))=off+j*E.k+i+m by omega] at this)
theorem elem(E:El α):Tryz.prog.elem E.S=E.T:=by
 unfold Program.elem;rw[E.B3]
theorem idx(E:El α)(b off N cap j:Nat)(h:j<N)(w:w1):(Instr.indexAt E.S (.slice (some ⟨b,off,none⟩) N cap) (.int .i64 (j:Int))).run CW w=.ok (.pointer (some ⟨b,off+j*E.k,none⟩)) w:=by
 obtain⟨i0,j5,bf,l3,lz⟩:=Mq E.info;have aD:=run_indexAt_slice (P:=CW) (w:=w) E.S ⟨b,off,none⟩ N cap .i64 (j:Int) (by rw[E.elem];exact E.B3);rw[aD,if_pos ⟨by omega,by omega⟩,E.elem];simp[sizeOf,typeInfo,j5,l3,Result.andThen,Jq]
end El
theorem iw.c7{B b:Nat}{w w':w1}{v:Ax}{l:List Nat}(h:iw B w v l)(u:b3 b w w')(hb:b<B):iw B w' v l:=by
 refine⟨?_,h.2⟩;obtain⟨h1,h2|⟨g,cap,cur,aF,af,hh,r⟩⟩:=h.1
 ·exact⟨h1,Or.inl h2⟩
 ·exact⟨h1,Or.inr ⟨g,cap,cur,aF,af,by rw[u.2.2.2.2 g (Array.getElem?_eq_some_iff.1 hh).1 (by omega)];exact hh,r⟩⟩
theorem jW.c7{b:Nat}{w w':w1}{A:Option aw6}{l:List Nat}(h:jW w A l)(u:b3 b w w')(hb:∀ g off,A=some ⟨g,off,none⟩->g≠b):jW w' A l:=
 h.keep u.2.2.2.1 fun g off hA af=>u.2.2.2.2 g af (hb g off hA)
theorem GL{w w':w1}{row:Option Nat}(h:w.grownBy w' row)(B:Nat)(bF:B<=w.heap.size)(aD:∀ k,row=some k->B<=k):Below B w w':=(Below.refl B w).grown h bF aD
theorem Wj{W w w':w1}{row:Option Nat}{b:Nat}(u:b3 b W w)(h:w.grownBy w' row)(aD:∀ k,row=some k->W.heap.size<=k):b3 b W w':=
 ⟨h.os.trans u.1,h.tape.trans u.2.1,h.output.trans u.2.2.1,Nat.le_trans u.2.2.2.1 h.size,fun k aE hn=>(h.block k (Nat.lt_of_lt_of_le aE u.2.2.2.1) (fun e=>by have:=aD k e.symm;omega)).trans (u.2.2.2.2 k aE hn)⟩
end
section
abbrev Sa:=Int × Int
def mX(eps:Int)(x y:Sa):jH:=B1 x.2 y.2 eps (y.1-x.1)
structure jc where
 first:Sa
 last:Int
 count:Nat
 eG:jH
abbrev wI:=Nat × Int × jH
def CG(x:Sa):jc:=⟨x,x.1,1,.op⟩
def T5(s:jc):wI:=(s.count,s.first.2,s.eG)
def gZ(eps:Int)(s:Option jc)(x:Sa):Option jc × List wI:=
 match s with
 | none=>(some (CG x),[])
 | some s=>match kB s.eG (mX eps s.first x) with
  | some m=>(some ⟨s.first,x.1,s.count+1,m⟩,[])
  | none=>(some (CG x),[T5 s])
def tP:Option jc->List wI
 | none=>[]
 | some s=>[T5 s]
def EV(eps:Int):Option jc->List Sa->List wI
 | s,[]=>tP s
 | s,x :: l=>(gZ eps s x).2++EV eps (gZ eps s x).1 l
def uS(eps:Int)(l:List Sa):List wI:=EV eps none l
end
section
open Go Go.RowKit
theorem mE.nil:mE []:=by intro x hx;simp at hx
theorem mE.app{l m:List Nat}(h:mE l)(k:mE m):mE (l++m):=by
 intro x hx;rcases List.mem_append.1 hx with a|a
 ·exact h x a
 ·exact k x a
theorem mE.one{x:Nat}(h:x<18446744073709551616):mE [x]:=by intro y hy;simp at hy;omega
theorem mE.take{l:List Nat}(h:mE l)(k:Nat):mE (l.take k):=fun x hx=>h x (List.mem_of_mem_take hx)
theorem mE.drop{l:List Nat}(h:mE l)(k:Nat):mE (l.drop k):=fun x hx=>h x (List.mem_of_mem_drop hx)
theorem mE.get{l:List Nat}(h:mE l)(k:Nat):l.getD k 0<18446744073709551616:=by
 rw[List.getD_eq_getElem?_getD];cases aE:l[k]? with
 | none=>simp
 | some x=>exact h x (List.mem_of_getElem? aE)
def Vc(l:List Nat):List Ax:=l.map fun x:Nat=>Value.int .u64 (x:Int)
def lS(w:w1)(A:Option aw6)(l:List Nat):Prop:=
 mE l/\l.length<=9223372036854775807/\(0<l.length->∃ b off,A=some ⟨b,off,none⟩/\b<w.heap.size/\∀ j,j<l.length->w.cell? ⟨b,off+j,none⟩=some (.int .u64 ((l.getD j 0:Nat):Int)))
theorem lS.nil(w:w1)(A:Option aw6):lS w A []:=⟨mE.nil,by simp,fun h=>absurd h (by simp)⟩
theorem lS.ext{w w':w1}{A:Option aw6}{l:List Nat}(h:lS w A l)(e:Ext w w'):lS w' A l:=
 ⟨h.1,h.2.1,fun hp=>by
  obtain⟨b,off,hA,hb,hc⟩:=h.2.2 hp;exact⟨b,off,hA,Nat.lt_of_lt_of_le hb e.size,fun j aN=>(e.cell (p:=⟨b,off+j,none⟩) hb).trans (hc j aN)⟩⟩
theorem lS.keep{w w':w1}{A:Option aw6}{l:List Nat}(h:lS w A l)(hs:w.heap.size<=w'.heap.size)(e:∀ b off,A=some ⟨b,off,none⟩->b<w.heap.size->w'.heap[b]?=w.heap[b]?):lS w' A l:=
 ⟨h.1,h.2.1,fun hp=>by
  obtain⟨b,off,hA,hb,hc⟩:=h.2.2 hp;exact⟨b,off,hA,Nat.lt_of_lt_of_le hb hs,fun j aN=>(World.cell?_of_block (a:=⟨b,off+j,none⟩) (e b off hA hb)).trans (hc j aN)⟩⟩
theorem lS.drop{w:w1}{A:Option aw6}{l:List Nat}(h:lS w A l)(k cap:Nat)(hc:l.length<=cap) :
 lS w (if cap=k then A else A.map (·.add (k*1))) (l.drop k):=by
 refine⟨h.1.drop k,by rw[List.length_drop];have:=h.2.1;omega,fun hp=>?_⟩;rw[List.length_drop] at hp;obtain⟨b,off,rfl,hb,gy⟩:=h.2.2 (by omega);rw[if_neg (by omega)];refine⟨b,off+k,by
  simp only[Option.map_some,Option.some.injEq];unfold Addr.add;split
  ·rename_i h0;simp only[Addr.mk.injEq,and_true,true_and];omega
  ·simp,hb,fun j aN=>?_⟩
 rw[List.length_drop] at aN;rw[Nat.add_assoc,gy (k+j) (by omega)];simp[List.getD_eq_getElem?_getD,List.getElem?_drop]
theorem lS.take{w:w1}{A:Option aw6}{l:List Nat}(h:lS w A l)(k:Nat):lS w A (l.take k):=by
 refine⟨h.1.take k,by rw[List.length_take];have:=h.2.1;omega,fun hp=>?_⟩;rw[List.length_take] at hp;obtain⟨b,off,rfl,hb,gy⟩:=h.2.2 (by omega);refine⟨b,off,rfl,hb,fun j aN=>?_⟩;rw[List.length_take] at aN;rw[gy j (by omega)];simp[List.getD_eq_getElem?_getD,List.getElem?_take,show j<k by omega]
def iN(B:Nat)(w:w1)(v:Ax)(l:List Nat):Prop:=w.ownsRow B 24 1 v l.length (Vc l)/\mE l
theorem iN.at_{B:Nat}{w:w1}{v:Ax}{l:List Nat}(h:iN B w v l):∃ A cap,v=.slice A l.length cap/\l.length<=cap/\cap<=9223372036854775807/\lS w A l:=by
 rcases h.1.2 with ⟨rfl,h0⟩|⟨g,cap,cur,rfl,af,hh,nr,jP,hcs,Bp⟩
 ·obtain rfl:l=[]:=List.length_eq_zero_iff.1 h0;exact⟨none,0,rfl,Nat.le_refl _,by omega,lS.nil _ _⟩
 ·unfold maxLen at jP;refine⟨_,cap,rfl,nr,jP,h.2,by omega,fun _=>⟨g,0,rfl,(Array.getElem?_eq_some_iff.1 hh).1,fun j aN=>?_⟩⟩;have:=h.1.cells (g:=g) rfl j (Value.int .u64 ((l.getD j 0:Nat):Int)) (by rw[Sl aN];simp[Vc,aN]);have e:(⟨g,0,none⟩:aw6).add j=⟨g,0+j,none⟩:=by unfold Addr.add;split<;>simp_all
  rw[e] at this
  exact this
theorem iN.kept{B:Nat}{w w':w1}{v:Ax}{l:List Nat}(h:iN B w v l){row:Option Nat}(af:w.grownBy w' row)(dB:v.ownBlock=none\/v.ownBlock≠row):iN B w' v l:=⟨h.1.kept af dB,h.2⟩
theorem iN.alloc{B:Nat}{w:w1}{v:Ax}{l:List Nat}(h:iN B w v l)(o:Obj):iN B (w.alloc o) v l:=⟨h.1.alloc o,h.2⟩
theorem iN.drew{B:Nat}{w:w1}{v:Ax}{l:List Nat}(h:iN B w v l):iN B w.drew v l:=h
theorem iN.jT(B:Nat)(w:w1):iN B w (.slice none 0 0) []:=⟨World.ownsRow_nil _ _ _ _,mE.nil⟩
theorem iN.keep{B:Nat}{w w':w1}{v:Ax}{l:List Nat}(h:iN B w v l)(hs:w.heap.size<=w'.heap.size)(e:∀ g,v.ownBlock=some g->w'.heap[g]?=w.heap[g]?):iN B w' v l:=by
 refine⟨?_,h.2⟩;obtain⟨h1,h2|⟨g,cap,cur,aF,af,hh,r⟩⟩:=h.1
 ·exact⟨h1,Or.inl h2⟩
 ·exact⟨h1,Or.inr ⟨g,cap,cur,aF,af,by rw[e g (by rw[aF];rfl)];exact hh,r⟩⟩
theorem iN.ext{B:Nat}{w w':w1}{v:Ax}{l:List Nat}(h:iN B w v l)(e:Ext w w'):iN B w' v l:=by
 refine⟨?_,h.2⟩;obtain⟨h1,h2|⟨g,cap,cur,aF,af,hh,r⟩⟩:=h.1
 ·exact⟨h1,Or.inl h2⟩
 ·exact⟨h1,Or.inr ⟨g,cap,cur,aF,af,by rw[e.block g (Array.getElem?_eq_some_iff.1 hh).1];exact hh,r⟩⟩
theorem iN.less{B fc:Nat}{w:w1}{v:Ax}{l:List Nat}(h:iN B w v l)(bF:fc<=B):iN fc w v l:=by
 refine⟨?_,h.2⟩;obtain⟨h1,h2|⟨g,cap,cur,aF,af,r⟩⟩:=h.1
 ·exact⟨h1,Or.inl h2⟩
 ·exact⟨h1,Or.inr ⟨g,cap,cur,aF,by omega,r⟩⟩
theorem iN.c7{B b:Nat}{w w':w1}{v:Ax}{l:List Nat}(h:iN B w v l)(u:b3 b w w')(hb:b<B):iN B w' v l:=by
 refine⟨?_,h.2⟩;obtain⟨h1,h2|⟨g,cap,cur,aF,af,hh,r⟩⟩:=h.1
 ·exact⟨h1,Or.inl h2⟩
 ·exact⟨h1,Or.inr ⟨g,cap,cur,aF,af,by rw[u.2.2.2.2 g (Array.getElem?_eq_some_iff.1 hh).1 (by omega)];exact hh,r⟩⟩
theorem lS.c7{b:Nat}{w w':w1}{A:Option aw6}{l:List Nat}(h:lS w A l)(u:b3 b w w')(hb:∀ g off,A=some ⟨g,off,none⟩->g≠b):lS w' A l:=
 h.keep u.2.2.2.1 fun g off hA af=>u.2.2.2.2 g af (hb g off hA)
theorem VW(u m:Nat):(u:Int) / 2 ^ m=((u >>> m:Nat):Int):=by rw[Nat.shiftRight_eq_div_pow];simp
attribute [local go_sem] mg nV qf
end
section
open Go Go.RowKit Go.Sort
def av4:BitVec 32:=2197175160#32
def TF(x:BitVec 32):BitVec 32:=if x.getLsbD 0=true then (x >>> 1) ^^^ av4 else x >>> 1
end
section
open Go Go.RowKit
structure Au (W:w1) (B:Nat) (A:Option aw6) (n cap:Nat) (m:List Nat) (w:w1):Prop where
 e:Ext W w
 t:fP W.heap.size w W.heap.size
 o:iN B w (.slice A n cap) m
 gX:W.heap.size<B
section
variable {W:w1}{B:Nat}{A:Option aw6}{n cap:Nat}{m:List Nat}{w w':w1}
theorem Au.ext(s:Au W B A n cap m w)(k:Ext w w'):Au W B A n cap m w':=⟨s.e.trans k,s.t.ext k,s.o.ext k,s.gX⟩
theorem Au.c7(s:Au W B A n cap m w)(u:b3 W.heap.size w w')(t:fP W.heap.size w' W.heap.size):Au W B A n cap m w':=⟨b3.ext u s.e (Nat.le_refl _),t,s.o.c7 u s.gX,s.gX⟩
end
section
variable {l:List aw4}{a0:Act}{W:w1}{P:axh}{Q:Exit->Act->w1->Prop}
theorem aut{id:Nat}(kd:List ew)(nd:List Nat)(V:(Nat->Ax)->List Ax)(zero:Nat->Obj)(full:(Nat->Ax)->Nat->Obj)(tgt:Nat->Nat)(T:Nat->(Nat->Ax)->w1->Prop)(E:Nat->Prop)(A:(Nat->Ax)->Act)(F:(Nat->Ax)->(Nat->Nat)->Act)(hF:∀ R G,bB l kd (V R) R G 0 a0=F R G)(hA:∀ R,F R (fun _=>0)=A R)(ec:qw l kd=true)(p5:t_ l kd nd=true)(np:sx l a0.tmps.size=true)(h4:kd.length=l.length)(h5:∀ R,(V R).length=l.length)
 (ad:∀ k,E k->k<W.heap.size) (pg:∀ c,ew.so c∈kd->¬ E (tgt c)) (e6:∀ c,ew.so c∈kd->tgt c<W.heap.size) (kA:∀ c c',ew.so c∈kd->ew.so c'∈kd->tgt c=tgt c'->c=c') (ry:∀ R b1,uL nd R b1 0 (V R) (V b1)) (tQ:∀ R b1 i,(∀ m,m<nd.getD i 0->R m=b1 m)->full R i=full b1 i)
 (qC:∀ s R w w',T s R w->Below w.heap.size w w'->T s R w') (Lk:T 0 (fun _=>rM) W)
 (mO:ql (pR P T E l kd nd V zero full tgt W A) 0 l)
 (k2:∀ s R G w,lf T E l kd zero full tgt W (List.range l.length) s R G w->∀ f,f=F R G->Q .normal f w) :
 (Code.region id l.toArray false).wp P Q a0 W:=by
 have e:A=fun R=>bB l kd (V R) R (fun _=>0) 0 a0:=funext fun R=>((hF R _).trans (hA R)).symm
 rw[e] at mO;exact eB kd nd V zero full tgt T E ec p5 np h4 h5 ad pg e6 kA ry tQ qC Lk mO (fun s R G w ae=>k2 s R G w ae _ (hF R G))
end
end
end Go.Proofs.YtojbopibfflnoaaGreat
