/- Contracts and plain facts; each states its conditions. -/
import Derived.Test.YtojbopibfflnoaaGreatPrY4
import Derived.Test.YtojbopibfflnoaaGreatPrY7
import Derived.Test.YtojbopibfflnoaaGreatPrY9
import Derived.Test.YtojbopibfflnoaaGreatPrY20
import Derived.Test.YtojbopibfflnoaaGreatPrY21
import Derived.Test.YtojbopibfflnoaaGreatPrY22
import Derived.Test.YtojbopibfflnoaaGreatPrY24
import Derived.Laws.Tables
import Derived.Great.BuildSlice
import Derived.Deep.MidRow
import Derived.Shelf.Strconv.Itoa0
namespace Go.Proofs.YtojbopibfflnoaaGreat
open Go renaming World → w1, Value → Ax, Calls → AA, TypeId → aw7, run_underlying → axf, Operand → axb, Oper → aw4, Ending → axa, Addr → aw6, execOp → axc
open _root_.Go.Proofs.Tryz renaming prog → CW
set_option linter.unusedVariables false
set_option linter.unusedSimpArgs false
set_option maxHeartbeats 16000000
set_option maxRecDepth 100000
section
open Go Go.RowKit Go.Sort
theorem tN(c:jH):(e4 c).size=21:=by
 obtain⟨o,L,H,e,br,dh⟩:=JJ c;rw[e];exact lW o br.size dh.size
theorem uU(c:jH):(e4 c).all (·.oneCell')=true:=by
 obtain⟨o,L,H,e,br,dh⟩:=JJ c;rw[e];exact su o br.one dh.one
def xH:Option jH->Array Ax
 | some c=>e4 c
 | none=>z21
def Ja(f:Nat):Prop:=∀ c,nU c->∀ w,AA CW f #[.agg (e4 c)] w (aP (.bool true) w)
def I8(f:Nat):Prop:=∀ c,nU c->∃ s,yg c s/\∀ w,AA CW f #[.agg (e4 c)] w (aP (.agg (cJ s)) w)
def I9(f:Nat):Prop:=∀ a b,nU a->nU b->∀ w,AA CW f #[.agg (e4 a),.agg (e4 b)] w (aP (.tuple #[.agg (xH (kB a b)),.bool (kB a b).isSome]) w)
theorem DI{r s:Fr}(aD:okF r)(hs:okF s){k:Int}(aE:f_ (r.1*s.2) (s.1*r.2)=k)(w:w1):AA CW 70 #[.agg (cJ r),.agg (cJ s)] w (aP (.int .i64 k) w):=SG aD hs aE w
theorem HI(e:Int)(W:w1):AA CW 35 #[.int .i64 e] W (aP (.bool (decide (0<=e)&&decide (e<=4611686018427387904))) W):=by
 by_cases h0:0<=e
 ·by_cases h1:e<=4611686018427387904
  ·have bt:decide (0<=e)=true:=decide_eq_true h0;have az:decide (e<=4611686018427387904)=true:=decide_eq_true h1;rw[bt,az];go_enter Tryz.func35,Tryz.ntmps35
   go_wp2_with fail
   go_ret;exact⟨rfl,Ext.refl _⟩
  ·have bt:decide (0<=e)=true:=decide_eq_true h0;have az:decide (e<=4611686018427387904)=false:=decide_eq_false h1;rw[bt,az];go_enter Tryz.func35,Tryz.ntmps35
   go_wp2_with fail
   go_ret;exact⟨rfl,Ext.refl _⟩
 ·have bt:decide (0<=e)=false:=decide_eq_false h0;rw[bt];go_enter Tryz.func35,Tryz.ntmps35
  go_wp2_with fail
  go_ret;exact⟨rfl,Ext.refl _⟩
theorem q5{K:Array Ax}(h:K.size=21):∃ bt az aU a_ bK cy cF b8 bR c2 kN q8 pY q9 q_ rf rh ri rj rk rl:Ax,K=#[bt,az,aU,a_,bK,cy,cF,b8,bR,c2,kN,q8,pY,q9,q_,rf,rh,ri,rj,rk,rl]:=by
 obtain⟨l⟩:=K;match l,h with
 | [bt,az,aU,a_,bK,cy,cF,b8,bR,c2,kN,q8,pY,q9,q_,rf,rh,ri,rj,rk,rl],_=>exact⟨bt,az,aU,a_,bK,cy,cF,b8,bR,c2,kN,q8,pY,q9,q_,rf,rh,ri,rj,rk,rl,rfl⟩
theorem Jt{K:Array Ax}(h:K.size=10):∃ bt az aU a_ bK cy cF b8 bR c2:Ax,K=#[bt,az,aU,a_,bK,cy,cF,b8,bR,c2]:=by
 obtain⟨l⟩:=K;match l,h with
 | [bt,az,aU,a_,bK,cy,cF,b8,bR,c2],_=>exact⟨bt,az,aU,a_,bK,cy,cF,b8,bR,c2,rfl⟩
theorem Jr{X Y:Array Ax}(dk:X.all (·.oneCell')=true)(oJ:Y.all (·.oneCell')=true):(X++Y).all (·.oneCell')=true:=by
 rw[Array.all_eq_true_iff_forall_mem] at *;intro x hx;rcases Array.mem_append.1 hx with h|h
 ·exact dk x h
 ·exact oJ x h
def aI(e n t v l:Int)(K:Array Ax):Array Ax:=#[.int .i64 e,.int .i64 n,.int .i64 t,.int .i64 v,.int .i64 l]++K
def bO(t v:Int):Array Ax:=#[.int .i64 t,.int .i64 v]
def j_(n v:Int)(S:Array Ax):Array Ax:=#[.int .i64 n,.int .i64 v]++S
def z2:Array Ax:=#[.int .i64 0,.int .i64 0]
def z12:Array Ax:=#[.int .i64 0,.int .i64 0,.bool false,.int .u64 0,.int .u64 0,.int .u64 0,.int .u64 0,.bool false,.int .u64 0,.int .u64 0,.int .u64 0,.int .u64 0]
def bL:Array Ax:=#[.int .i64 0,.int .i64 0,.int .i64 0,.int .i64 0,.int .i64 0,.bool false,.bool false,.int .u64 0,.int .u64 0,.int .u64 0,.int .u64 0,.bool false,.int .u64 0,.int .u64 0,.int .u64 0,.int .u64 0,.bool false,.int .u64 0,.int .u64 0,.int .u64 0,.int .u64 0,.bool false,.int .u64 0,.int .u64 0,.int .u64 0,.int .u64 0]
theorem awy:bL=aI 0 0 0 0 0 z21:=by kernel_rfl
theorem Al:bL.all (·.oneCell')=true:=by kernel_rfl
theorem aef(t v:Int):(bO t v).all (·.oneCell')=true:=by kernel_rfl
theorem xQ:Tryz.prog.underlying 23=some (.struct (Tryz.prog.fieldsOf 23)):=by kernel_rfl
theorem HZ:Tryz.prog.underlying 55=some (.struct (Tryz.prog.fieldsOf 55)):=by kernel_rfl
theorem jC:Tryz.prog.underlying 33=some (.struct (Tryz.prog.fieldsOf 33)):=by kernel_rfl
theorem xB:(Tryz.prog.info? 23).map (·.size)=some 2:=by kernel_rfl
theorem TI:(Tryz.prog.info? 55).map (·.size)=some 12:=by kernel_rfl
theorem eW:(Tryz.prog.info? 33).map (·.size)=some 26:=by kernel_rfl
section
variable {e n t v l:Int}{K:Array Ax}
theorem hR(cQ:K.size=21):(aI e n t v l K).size=26:=by simp[aI,cQ]
theorem jU(eI:K.all (·.oneCell')=true):(aI e n t v l K).all (·.oneCell')=true:=Jr (by kernel_rfl) eI
theorem nX(cQ:K.size=21):(aI e n t v l K)[0]?=some (.int .i64 e)/\(aI e n t v l K)[1]?=some (.int .i64 n)/\(aI e n t v l K)[2]?=some (.int .i64 t)/\(aI e n t v l K)[3]?=some (.int .i64 v)/\(aI e n t v l K)[4]?=some (.int .i64 l)/\(aI e n t v l K).extract 2 (2+2)=bO t v/\(aI e n t v l K).extract 5 (5+21)=K:=by
 obtain⟨bt,az,aU,a_,bK,cy,cF,b8,bR,c2,kN,q8,pY,q9,q_,rf,rh,ri,rj,rk,rl,rfl⟩:=q5 cQ;clear cQ;refine⟨?_,?_,?_,?_,?_,?_,?_⟩<;>kernel_rfl
theorem HU(cQ:K.size=21)(x:Int):(aI e n t v l K).setIfInBounds 1 (.int .i64 x)=aI e x t v l K/\(aI e n t v l K).setIfInBounds 4 (.int .i64 x)=aI e n t v x K/\(aI e n t v l K).setIfInBounds 0 (.int .i64 x)=aI x n t v l K:=by
 obtain⟨bt,az,aU,a_,bK,cy,cF,b8,bR,c2,kN,q8,pY,q9,q_,rf,rh,ri,rj,rk,rl,rfl⟩:=q5 cQ;clear cQ;refine⟨?_,?_,?_⟩<;>kernel_rfl
theorem Hd{S:Array Ax}(hS:S.size=10):(j_ n v S).size=12:=by simp[j_,hS]
theorem T2{S:Array Ax}(zH:S.all (·.oneCell')=true):(j_ n v S).all (·.oneCell')=true:=Jr (by kernel_rfl) zH
theorem afZ{S:Array Ax}(hS:S.size=10):(j_ n v S)[0]?=some (.int .i64 n)/\(j_ n v S)[1]?=some (.int .i64 v)/\(j_ n v S).extract 2 (2+10)=S:=by
 obtain⟨bt,az,aU,a_,bK,cy,cF,b8,bR,c2,rfl⟩:=Jt hS;clear hS;refine⟨?_,?_,?_⟩<;>kernel_rfl
theorem OA{w:w1}{g:Nat}{D:Array Ax}(h:aG w g 33 (aI e n t v l K))(cQ:K.size=21)(hH:D.size=21)(rL:D.all (·.oneCell')=true):(Instr.storeAt 31 (.pointer (some ⟨g,5,none⟩)) (.agg D)).run CW w=.ok () (w.setRow g (aI e n t v l D)):=
 zT h _ 5 21 ei (by rw[hR cQ];omega) D hH rL _ (by
  obtain⟨bt,az,aU,a_,bK,cy,cF,b8,bR,c2,kN,q8,pY,q9,q_,rf,rh,ri,rj,rk,rl,rfl⟩:=q5 cQ;obtain⟨d0,d1,d2,d3,d4,d5,d6,d7,d8,d9,d10,d11,d12,d13,d14,d15,d16,d17,d18,d19,d20,rfl⟩:=q5 hH;clear cQ hH h rL;kernel_rfl)
end
theorem pD{a:Act}{o:aw4}{w:w1}{t:aw7}{parts:Array (Nat × axb)}{vs:Array (Nat × Ax)}{cells:Array Ax}(aL:o.op=.build t parts)(hx:(parts.map fun (i,x)=>(i,a.eval x))=vs)(h:Tryz.prog.built t vs.toList=some cells):mg CW w (.agg cells) ((axc a.eval o).run CW w):=by
 have aD:=run_build (P:=CW) w t vs cells h;unfold axc;simp only[aL,hx,Sem.run_bind,aD,Result.andThen_ok,Sem.run_pure];exact⟨rfl,rfl⟩
theorem Jy(e:Int):Tryz.prog.built 33 [(0,.int .i64 e)]=some (aI e 0 0 0 0 z21):=by kernel_rfl
theorem CF:Tryz.prog.built 33 []=some bL:=by kernel_rfl
theorem Jw(e t v:Int):Tryz.prog.built 33 [(0,.int .i64 e),(1,.int .i64 1),(2,.agg (bO t v)),(3,.int .i64 t),(4,.agg c9)]=some (aI e 1 t v t c9):=by kernel_rfl
theorem Ru(n v:Int){S:Array Ax}(hS:S.size=10):Tryz.prog.built 55 [(0,.int .i64 n),(1,.int .i64 v),(2,.agg S)]=some (j_ n v S):=by
 obtain⟨bt,az,aU,a_,bK,cy,cF,b8,bR,c2,rfl⟩:=Jt hS;clear hS;kernel_rfl
def eA:El (Int × Int × Fr) where
 T:=55
 S:=49
 k:=12
 bytes:=96
 zero:=.agg z12
 enc x:=(j_ x.1 x.2.1 (cJ x.2.2)).toList
 ok _:=True
 len x:=by rw[Array.length_toList];exact Hd rfl
 one x:=fun u hu=>(Array.all_eq_true_iff_forall_mem.1 (T2 (n:=x.1) (v:=x.2.1) (gP x.2.2).one)) u (by simpa using hu)
 pos:=by omega
 zs:=rfl
 info:=by kernel_rfl
 B3:=by kernel_rfl
theorem eA.ahR(x:Int × Int × Fr):(eA.cat [x]).toArray=j_ x.1 x.2.1 (cJ x.2.2):=by
 simp[El.cat,eA]
end
section
open Go Go.RowKit
theorem akO(u m:Nat):(u:Int) / 2 ^ m=((u >>> m:Nat):Int):=by rw[Nat.shiftRight_eq_div_pow];simp
theorem akP{u q k:Nat}(hu:u<18446744073709551616)(h:k<=q):u >>> q<=18446744073709551615 / 2 ^ k:=by
 rw[Nat.shiftRight_eq_div_pow];exact Nat.le_trans (Nat.div_le_div_left (Nat.pow_le_pow_right (by omega) h) (Nat.two_pow_pos k)) (Nat.div_le_div_right (by omega))
def o5(v:Int):Prop:=0<=v/\v<=4611686018427387904
theorem alf(B b:Nat)(W w:w1)(aw:fP B w b)(ef:b3 b W w):AA CW 16 #[yj b 0] w (AI B b o5 .i64 W):=by
 have i8:de 8:=⟨by omega,by omega⟩;have i2:de 2:=⟨by omega,by omega⟩;have i60:de 60:=⟨by omega,by omega⟩;have i30:de 30:=⟨by omega,by omega⟩;have iH:=hide aw;have dR:=hide ef;clear aw ef;go_enter Tryz.func16,Tryz.ntmps16
 go_upto_region 2 with (go_at_call 36;(with_reducible refine(lJ B b 8 _ i8 iH.out).mono ?_);rintro e aT ⟨x,rfl,hx,T1,u1⟩;have T1:=hide T1;have oE:=hide (dR.out.trans u1);have x0:=hx.1;clear hx u1 iH dR)
 by_cases h0:x=0
 ·have d0:(x==0)=true:=by rw[beq_iff_eq];exact h0
  clear h0 x0;go_wp2_with fail
  go_ret;exact⟨0,rfl,⟨by omega,by omega⟩,T1.out,oE.out⟩
 have d0:(x==0)=false:=by rw[beq_eq_false_iff_ne];exact h0
 by_cases h1:x=1
 ·have d1:(x==1)=true:=by rw[beq_iff_eq];exact h1
  clear h0 x0 h1;go_upto_region 5 with fail
  go_upto_region 9 with (go_at_call 36;(with_reducible refine(lJ B b 2 _ i2 T1.out).mono ?_);rintro e bp ⟨y,rfl,hy,kr,u2⟩;have kr:=hide kr;have uO:=hide (oE.out.trans u2);have nY:=hy.1;have y1:=hy.2.1 (by omega);obtain⟨z,hz⟩:=aM (4611686018427387904-y);have fb:0<=z:=(by omega);have z2:z<=4611686018427387904:=(by omega);clear hy u2 T1 oE nY y1)
  go_ret;exact⟨z,rfl,⟨fb,z2⟩,kr.out,uO.out⟩
 have d1:(x==1)=false:=by rw[beq_eq_false_iff_ne];exact h1
 by_cases h2:x=2
 ·have d2:(x==2)=true:=by rw[beq_iff_eq];exact h2
  clear h0 x0 h1 h2;go_upto_region 7 with fail
  go_wp2_with (first
   | (go_at_call 46;(with_reducible refine(HW B b _ T1.out).mono ?_);rintro e w3 ⟨u,rfl,hu,oD,u3⟩;obtain⟨tC,rfl⟩:=Int.eq_ofNat_of_zero_le hu.1;have Ej:tC<18446744073709551616:=(by have:=hu.2;omega);have oD:=hide oD;have w5:=hide (oE.out.trans u3);clear hu u3 T1 oE)
   | (go_at_call 36;(with_reducible refine(lJ B b 60 _ i60 oD.out).mono ?_);rintro e bZ ⟨s,rfl,hs,si,u4⟩;obtain⟨y,rfl⟩:=Int.eq_ofNat_of_zero_le hs.1;have hy:y<60:=(by have:=hs.2.1 (by omega);omega);obtain⟨q,aO⟩:∃ q:Nat,2+y=q:=⟨_,rfl⟩;have Gt:(2:Int)+(y:Int)=(q:Int):=(by omega);have aD:=akP (q:=q) (k:=2) Ej (by omega);have bk:=akO tC q;obtain⟨r,xu⟩:=aM (tC >>> q);rw[xu] at bk aD;have nu:r<=4611686018427387904:=(Nat.le_trans aD (by decide));have oc:q<=64:=(by omega);clear aO aD xu;have si:=hide si;have F4:=hide (w5.out.trans u4);clear hs u4 oD w5))
  go_ret;exact⟨r,by go_num,⟨by omega,by omega⟩,si.out,F4.out⟩
 have d2:(x==2)=false:=by rw[beq_eq_false_iff_ne];exact h2
 clear h0 x0 h1 h2;go_wp2_with (go_at_call 36;(with_reducible refine(lJ B b 30 _ i30 T1.out).mono ?_);rintro e bp ⟨y,rfl,hy,kr,u2⟩;have kr:=hide kr;have uO:=hide (oE.out.trans u2);have nY:=hy.1;have y1:=hy.2.1 (by omega);clear hy u2 T1 oE)
 go_ret;exact⟨y,rfl,⟨nY,by omega⟩,kr.out,uO.out⟩
def Xu(l:List Nat)(n:Nat)(w:w1)(e:axa)(w':w1):Prop:=∃ A cap,e=.returned (.slice A n cap)/\l.length=n/\n<=cap/\cap<=9223372036854775807/\iw w.heap.size w' (.slice A n cap) l/\jW w' A l/\Ext w w'
theorem QR.len{l:List Nat}{n:Nat}{w:w1}{e:axa}{w':w1}(hn:l.length=n)(h:QR l w e w'):Xu l n w e w':=by
 subst hn;obtain⟨v,rfl,eD,ad⟩:=h;obtain⟨A,cap,rfl,h1,h2,hb⟩:=eD.at_;exact⟨A,cap,rfl,rfl,h1,h2,eD,hb,ad⟩
attribute [local go_sem] mg nV qf
def ko(l:List Int):Prop:=∀ x∈l,de x
theorem GI{l:List Int}{k:Nat}(h:k<l.length):l.getD k 0=l[k]:=by simp[List.getD_eq_getElem?_getD,h]
theorem V'{l:List Int}{k:Nat}(h:k<l.length):l.take (k+1)=l.take k++[l.getD k 0]:=by
 rw[GI h,List.take_succ_eq_append_getElem h]
theorem ko.nil:ko []:=by intro x hx;simp at hx
theorem ko.app{l m:List Int}(h:ko l)(k:ko m):ko (l++m):=by
 intro x hx;rcases List.mem_append.1 hx with a|a
 ·exact h x a
 ·exact k x a
theorem ko.one{x:Int}(h:de x):ko [x]:=by intro y hy;simp at hy;subst hy;exact h
theorem ko.take{l:List Int}(h:ko l)(k:Nat):ko (l.take k):=fun x hx=>h x (List.mem_of_mem_take hx)
theorem ko.drop{l:List Int}(h:ko l)(k:Nat):ko (l.drop k):=fun x hx=>h x (List.mem_of_mem_drop hx)
theorem ko.get{l:List Int}(h:ko l)(k:Nat):de (l.getD k 0):=by
 rw[List.getD_eq_getElem?_getD];cases aE:l[k]? with
 | none=>exact⟨by simp,by simp⟩
 | some x=>exact h x (List.mem_of_getElem? aE)
def hT(l:List Int):List Ax:=l.map fun x:Int=>Value.int .i64 x
theorem OD(l:List Int):(hT l).length=l.length:=by simp[hT]
theorem ak_(l:List Int):∀ u∈hT l,u.oneCell'=true:=by
 intro u hu;simp only[hT,List.mem_map] at hu;obtain⟨x,_,rfl⟩:=hu;rfl
theorem V_(l m:List Int):hT (l++m)=hT l++hT m:=by simp[hT]
def hE(w:w1)(A:Option aw6)(l:List Int):Prop:=
 ko l/\l.length<=9223372036854775807/\(0<l.length->∃ b off,A=some ⟨b,off,none⟩/\b<w.heap.size/\∀ j,j<l.length->w.cell? ⟨b,off+j,none⟩=some (.int .i64 (l.getD j 0)))
theorem hE.nil(w:w1)(A:Option aw6):hE w A []:=⟨ko.nil,by simp,fun h=>absurd h (by simp)⟩
theorem hE.ext{w w':w1}{A:Option aw6}{l:List Int}(h:hE w A l)(e:Ext w w'):hE w' A l:=
 ⟨h.1,h.2.1,fun hp=>by
  obtain⟨b,off,hA,hb,hc⟩:=h.2.2 hp;exact⟨b,off,hA,Nat.lt_of_lt_of_le hb e.size,fun j aN=>(e.cell (p:=⟨b,off+j,none⟩) hb).trans (hc j aN)⟩⟩
theorem hE.keep{w w':w1}{A:Option aw6}{l:List Int}(h:hE w A l)(hs:w.heap.size<=w'.heap.size)(e:∀ b off,A=some ⟨b,off,none⟩->b<w.heap.size->w'.heap[b]?=w.heap[b]?):hE w' A l:=
 ⟨h.1,h.2.1,fun hp=>by
  obtain⟨b,off,hA,hb,hc⟩:=h.2.2 hp;exact⟨b,off,hA,Nat.lt_of_lt_of_le hb hs,fun j aN=>(World.cell?_of_block (a:=⟨b,off+j,none⟩) (e b off hA hb)).trans (hc j aN)⟩⟩
theorem hE.drop{w:w1}{A:Option aw6}{l:List Int}(h:hE w A l)(k cap:Nat)(hc:l.length<=cap) :
 hE w (if cap=k then A else A.map (·.add (k*1))) (l.drop k):=by
 refine⟨h.1.drop k,by rw[List.length_drop];have:=h.2.1;omega,fun hp=>?_⟩;rw[List.length_drop] at hp;obtain⟨b,off,rfl,hb,gy⟩:=h.2.2 (by omega);rw[if_neg (by omega)];refine⟨b,off+k,by
  simp only[Option.map_some,Option.some.injEq];unfold Addr.add;split
  ·rename_i h0;simp only[Addr.mk.injEq,and_true,true_and];omega
  ·simp,hb,fun j aN=>?_⟩
 rw[List.length_drop] at aN;rw[Nat.add_assoc,gy (k+j) (by omega)];simp[List.getD_eq_getElem?_getD,List.getElem?_drop]
theorem hE.take{w:w1}{A:Option aw6}{l:List Int}(h:hE w A l)(k:Nat):hE w A (l.take k):=by
 refine⟨h.1.take k,by rw[List.length_take];have:=h.2.1;omega,fun hp=>?_⟩;rw[List.length_take] at hp;obtain⟨b,off,rfl,hb,gy⟩:=h.2.2 (by omega);refine⟨b,off,rfl,hb,fun j aN=>?_⟩;rw[List.length_take] at aN;rw[gy j (by omega)];simp[List.getD_eq_getElem?_getD,List.getElem?_take,show j<k by omega]
theorem TK:(Tryz.prog.info? 2).map (fun i=>(i.zero,i.size,i.bytes))=some (some (.int .i64 0),1,8):=by kernel_rfl
def fJ(B:Nat)(w:w1)(v:Ax)(l:List Int):Prop:=w.ownsRow B 2 1 v l.length (hT l)/\ko l
theorem fJ.at_{B:Nat}{w:w1}{v:Ax}{l:List Int}(h:fJ B w v l):∃ A cap,v=.slice A l.length cap/\l.length<=cap/\cap<=9223372036854775807/\hE w A l:=by
 rcases h.1.2 with ⟨rfl,h0⟩|⟨g,cap,cur,rfl,af,hh,nr,jP,hcs,Bp⟩
 ·obtain rfl:l=[]:=List.length_eq_zero_iff.1 h0;exact⟨none,0,rfl,Nat.le_refl _,by omega,hE.nil _ _⟩
 ·unfold maxLen at jP;refine⟨_,cap,rfl,nr,jP,h.2,by omega,fun _=>⟨g,0,rfl,(Array.getElem?_eq_some_iff.1 hh).1,fun j aN=>?_⟩⟩;have:=h.1.cells (g:=g) rfl j (Value.int .i64 (l.getD j 0)) (by rw[GI aN];simp[hT,aN]);have e:(⟨g,0,none⟩:aw6).add j=⟨g,0+j,none⟩:=by unfold Addr.add;split<;>simp_all
  rw[e] at this
  exact this
theorem fJ.kept{B:Nat}{w w':w1}{v:Ax}{l:List Int}(h:fJ B w v l){row:Option Nat}(af:w.grownBy w' row)(dB:v.ownBlock=none\/v.ownBlock≠row):fJ B w' v l:=⟨h.1.kept af dB,h.2⟩
theorem fJ.alloc{B:Nat}{w:w1}{v:Ax}{l:List Int}(h:fJ B w v l)(o:Obj):fJ B (w.alloc o) v l:=⟨h.1.alloc o,h.2⟩
theorem fJ.drew{B:Nat}{w:w1}{v:Ax}{l:List Int}(h:fJ B w v l):fJ B w.drew v l:=h
theorem fJ.jT(B:Nat)(w:w1):fJ B w (.slice none 0 0) []:=⟨World.ownsRow_nil _ _ _ _,ko.nil⟩
theorem fJ.keep{B:Nat}{w w':w1}{v:Ax}{l:List Int}(h:fJ B w v l)(hs:w.heap.size<=w'.heap.size)(e:∀ g,v.ownBlock=some g->w'.heap[g]?=w.heap[g]?):fJ B w' v l:=by
 refine⟨?_,h.2⟩;obtain⟨h1,h2|⟨g,cap,cur,aF,af,hh,r⟩⟩:=h.1
 ·exact⟨h1,Or.inl h2⟩
 ·exact⟨h1,Or.inr ⟨g,cap,cur,aF,af,by rw[e g (by rw[aF];rfl)];exact hh,r⟩⟩
theorem fJ.ext{B:Nat}{w w':w1}{v:Ax}{l:List Int}(h:fJ B w v l)(e:Ext w w'):fJ B w' v l:=by
 refine⟨?_,h.2⟩;obtain⟨h1,h2|⟨g,cap,cur,aF,af,hh,r⟩⟩:=h.1
 ·exact⟨h1,Or.inl h2⟩
 ·exact⟨h1,Or.inr ⟨g,cap,cur,aF,af,by rw[e.block g (Array.getElem?_eq_some_iff.1 hh).1];exact hh,r⟩⟩
theorem fJ.less{B fc:Nat}{w:w1}{v:Ax}{l:List Int}(h:fJ B w v l)(bF:fc<=B):fJ fc w v l:=by
 refine⟨?_,h.2⟩;obtain⟨h1,h2|⟨g,cap,cur,aF,af,r⟩⟩:=h.1
 ·exact⟨h1,Or.inl h2⟩
 ·exact⟨h1,Or.inr ⟨g,cap,cur,aF,by omega,r⟩⟩
theorem aie{w:w1}{B:Nat}{g n cap:Nat}{l m:List Int}(bF:B<=g)(hh:w.heap[g]?=some (.cells (hT (l++m)).toArray 2 (0,0)))(hn:l.length=n)(hc:cap=n+m.length)(hm:cap<=9223372036854775807)(hb:ko l):fJ B w (.slice (some ⟨g,0,none⟩) n cap) l:=by
 subst hn hc;refine⟨⟨by rw[OD];omega,Or.inr ⟨g,_,_,rfl,bF,hh,by omega,by unfold maxLen;omega,by simp[hT],?_⟩⟩,hb⟩;rw[V_];simp[hT]
theorem agz(n:Nat):(madeCells (Value.int .i64 0).cells (n*1)).toList=hT (List.replicate n 0):=by
 simp only[hT,madeCells,Value.cells,Nat.mul_one,List.map_replicate];apply List.ext_getElem
 ·simp
 ·intro i h1 h2;simp[Nat.mod_one]
theorem akq(B:Nat)(w:w1)(ty:aw7)(v:Ax)(ai l:List Int)(gn:fJ B w v ai)(A:Option aw6)(m c:Nat)(hb:hE w A l)(hm:l.length=m)(hlen:ai.length+l.length<=17592186044416)(sI:B<=w.heap.size) :
 ∃ v' w',(Builtin.append_ #[79,79] ty #[v,.slice A m c]).run CW w=.ok v' w'/\fJ B w' v' (ai++l)/\w.grownBy w' v.ownBlock/\(v'.ownBlock=v.ownBlock\/v'.ownBlock=some w.heap.size):=by
 subst hm;obtain⟨i0,j5,bf,l3,lz⟩:=info_parts TK;have h63:ai.length+l.length<=maxLen:=by unfold maxLen;omega
 rcases A with _|sm
 ·have h0:l=[]:=by
   rcases Nat.eq_zero_or_pos l.length with h|h
   ·exact List.length_eq_zero_iff.1 h
   ·obtain⟨b,off,h',_⟩:=hb.2.2 h;cases h'
  subst h0;refine⟨v,w,?_,by rw[List.append_nil];exact gn,World.grownBy.refl w _,.inl rfl⟩;rcases gn.1.2 with ⟨rfl,_⟩|⟨g,cap,cur,rfl,_,_,nr,_⟩
  ·simp[Builtin.append_,axf Tryz.underlying79,sizeOf,typeInfo,j5,Builtin.lenOf,Builtin.firstCells]
  ·simp[Builtin.append_,axf Tryz.underlying79,sizeOf,typeInfo,j5,Builtin.lenOf,Builtin.firstCells,nr,storeCells]
 ·have DJ:∀ j u,(hT l)[j]?=some u->w.cell? (sm.add j)=some u:=by
   intro j u hu;have aN:j<l.length:=by
    rcases Nat.lt_or_ge j (hT l).length with h|h
    ·rwa [OD] at h
    ·rw[List.getElem?_eq_none h] at hu;cases hu
   obtain⟨b,off,h',_,hc⟩:=hb.2.2 (by omega);obtain rfl:sm=⟨b,off,none⟩:=Option.some.inj h';rw[F9,hc j aN,<-hu,GI aN];simp[hT,aN]
  obtain⟨v',w',qG,h2,h3,_,h5⟩:=run_append_own_at (P:=CW) w B 79 ty 2 i0 _ 1 8 Tryz.underlying79 j5 bf l3 lz rfl (by omega) v ai.length (hT ai) gn.1 sm l.length c (hT l) (by rw[OD];omega) DJ (ak_ l) h63 (by omega) sI;refine⟨v',w',qG,⟨?_,gn.2.app hb.1⟩,h3,h5⟩;rw[V_,List.length_append];exact h2
theorem Wt{ops:Array aw4}{rest:List aw4}{o:aw4}{a:Act}{Q:Exit->Act->w1->Prop}{w:w1}(ky:o.guard=none)(s x:axb)
 (aL:o.op=.call { callee:=.builtin .append,args:=#[s,x],argTypes:=#[79,79] })
 (B:Nat) (v:Ax) (ai l:List Int) (hs:a.eval s=v) (gn:fJ B w v ai) (A:Option aw6) (m c:Nat) (hx:a.eval x=.slice A m c) (hb:hE w A l) (hm:l.length=m) (hlen:ai.length+l.length<=17592186044416) (sI:B<=w.heap.size)
 (h:∀ v' w',fJ B w' v' (ai++l)->w.grownBy w' v.ownBlock->(v'.ownBlock=v.ownBlock\/v'.ownBlock=some w.heap.size)->wpList CW ops Q rest (a.put o.dst v') w'):wpList CW ops Q (o :: rest) a w:=
 wpList_plain ky fun _ cQ=>by
  obtain⟨v',w',qG,h2,h3,h4⟩:=akq B w o.type v ai l gn A m c hb hm hlen sI;unfold Oper.wp axc;simp only[aL,resolve,invoke,builtin,Sem.run_bind,Sem.run_pure,Result.andThen_ok,List.map_toArray,List.map_cons,List.map_nil,hs,hx,qG];exact cQ _ _ (h v' w' h2 h3 h4)
theorem UL(w:w1)(x:Int)(hx:de x)(u:Ax)(hu:u=.int .i64 x):hE (w.alloc (.cells #[u] 2)) (some ⟨w.heap.size,0,none⟩) [x]:=by
 subst hu;refine⟨ko.one hx,by simp,fun _=>⟨w.heap.size,0,rfl,by simp,fun j aN=>?_⟩⟩;obtain rfl:j=0:=by simpa using aN
 rw[World.cell?_alloc_at _ _ _ _ rfl];rfl
theorem fJ.c7{B b:Nat}{w w':w1}{v:Ax}{l:List Int}(h:fJ B w v l)(u:b3 b w w')(hb:b<B):fJ B w' v l:=by
 refine⟨?_,h.2⟩;obtain⟨h1,h2|⟨g,cap,cur,aF,af,hh,r⟩⟩:=h.1
 ·exact⟨h1,Or.inl h2⟩
 ·exact⟨h1,Or.inr ⟨g,cap,cur,aF,af,by rw[u.2.2.2.2 g (Array.getElem?_eq_some_iff.1 hh).1 (by omega)];exact hh,r⟩⟩
theorem hE.c7{b:Nat}{w w':w1}{A:Option aw6}{l:List Int}(h:hE w A l)(u:b3 b w w')(hb:∀ g off,A=some ⟨g,off,none⟩->g≠b):hE w' A l:=
 h.keep u.2.2.2.1 fun g off hA af=>u.2.2.2.2 g af (hb g off hA)
theorem aks(n m:Nat)(G4:n<=m)(hm:m<=35184372088832)(w:w1):(Instr.makeSlice 79 (.int .i64 (n:Int)) (.int .i64 (m:Int))).run CW w=.ok (.slice (some ⟨w.heap.size,0,none⟩) n m) (w.alloc (.cells (hT (List.replicate m 0)).toArray 2)):=by
 obtain⟨i0,j5,bf,l3,lz⟩:=info_parts TK;have:=run_make (P:=CW) w 79 2 i0 (.int .i64 0) Tryz.underlying79 j5 bf .i64 .i64 (n:Int) (m:Int) (by omega) (by omega) (by rw[lz];omega) (by omega);rw[this,l3,Int.toNat_natCast,Int.toNat_natCast];have e:madeCells (Value.int .i64 0).cells (m*1)=(hT (List.replicate m 0)).toArray:=by
  rw[<-agz m]
 rw[e]
theorem Bv(b off N cap j:Nat)(h:j<N)(w:w1):(Instr.indexAt 79 (.slice (some ⟨b,off,none⟩) N cap) (.int .i64 (j:Int))).run CW w=.ok (.pointer (some ⟨b,off+j,none⟩)) w:=by
 have hz:=Tryz.sizeOf2;have he:Tryz.prog.elem 79=2:=by kernel_rfl
 have aD:=run_indexAt_slice (P:=CW) (w:=w) 79 ⟨b,off,none⟩ N cap .i64 (j:Int) (by kernel_rfl);rw[aD,if_pos ⟨by omega,by omega⟩,he,hz];simp[Result.andThen,F9]
theorem UO{w:w1}{A:Option aw6}{c cap B:Nat}{l:List Int}(h:fJ B w (.slice A c cap) l):hE w A l:=by
 obtain⟨A',Gf,he,_,_,hw⟩:=h.at_;cases he
 exact hw
def jx(l:List Int):Bool:=decide (∀ i,i<l.length-1->l.getD i 0<l.getD (i+1) 0)
def fin(r:List Nat × Int × Int)(o:Option (List Int)):List Int × Int × Int:=if r.2.2=0 then (match o with|none=>([],0,7)|some l=>(l,r.2.1,0)) else ([],0,r.2.2)
theorem Bw{l:List Int}:jx l=true↔∀ i,i+1<l.length->l.getD i 0<l.getD (i+1) 0:=by
 unfold jx;rw[decide_eq_true_iff];exact⟨fun h i hi=>h i (by omega),fun h i hi=>h i (by omega)⟩
theorem GJ{l:List Int}(m:List Int){i:Nat}(h:i<l.length):(l++m).getD i 0=l.getD i 0:=by
 simp only[List.getD_eq_getElem?_getD,List.getElem?_append_left h]
theorem Sk(l:List Int)(x:Int):(l++[x]).getD l.length 0=x:=by simp[List.getD_eq_getElem?_getD]
theorem afe{l:List Int}{i:Nat}(h:jx l=true)(hl:l.length=i+1){x:Int}(hx:l.getD i 0<x):jx (l++[x])=true:=by
 rw[Bw] at h |-;intro j aN;rw[List.length_append,List.length_singleton] at aN;rw[GJ [x] (by omega)];by_cases ad8:j=i
 ·subst ad8;have:=Sk l x;rw[hl] at this
  rw[this];exact hx
 ·rw[GJ [x] (by omega)];exact h j (by omega)
theorem Oe{k:IntKind}{a a':Int}(h1:a=a'):Ending.returned (Value.int k a)=.returned (.int k a'):=by rw[h1]
theorem JX{a b:Int}(ha:de a)(hb:de b)(h:b<=a):IntKind.u64.wrap (IntKind.u64.wrap a-IntKind.u64.wrap b)=(((a-b).natAbs:Nat):Int):=by
 unfold de at ha hb;have w:∀ n:Int,IntKind.u64.wrap n=n%18446744073709551616:=fun n=>by simp[IntKind.wrap,IntKind.bits,IntKind.signed]
 rw[w,w,w];omega
theorem UT(a b:Int)(w:w1)(ha:de a)(hb:de b)(h:b<=a):AA CW 114 #[.int .i64 a,.int .i64 b] w (Cu (.int .u64 ((a-b).natAbs:Nat)) w):=by
 have e:=hide (JX ha hb h);obtain⟨a1,a2⟩:=ha;obtain⟨bA,bX⟩:=hb;go_enter Tryz.func114,Tryz.ntmps114
 go_wp2
 all_goals (first|go_ret|(exfalso;simp_all;done))
 all_goals exact⟨Oe e.out,rfl⟩
theorem aiR(a b:Int)(w:w1)(ha:de a)(hb:de b):AA CW 96 #[.int .i64 a,.int .i64 b] w (Cu (.int .u64 ((a-b).natAbs:Nat)) w):=by
 by_cases h:a<b
 ·have K:=hide (fun w=>UT b a w hb ha (by omega));have hd:decide (a<b)=true:=decide_eq_true h;rw[show (b-a).natAbs=(a-b).natAbs by omega] at K;clear ha hb;go_enter Tryz.func96,Tryz.ntmps96
  go_wp2_with (go_at_call 114;(with_reducible refine(K.out _).mono ?_);rintro e w3 ⟨rfl,rfl⟩)
  go_ret;exact⟨rfl,rfl⟩
 ·have K:=hide (fun w=>UT a b w ha hb (by omega));have hd:decide (a<b)=false:=decide_eq_false h;clear ha hb;go_enter Tryz.func96,Tryz.ntmps96
  go_wp2_with (go_at_call 114;(with_reducible refine(K.out _).mono ?_);rintro e w3 ⟨rfl,rfl⟩)
  go_ret;exact⟨rfl,rfl⟩
theorem ajE(a b:Int)(w:w1)(ha:de a)(hb:de b):AA CW 21 #[.int .i64 a,.int .i64 b] w (Cu (.int .u64 ((a-b).natAbs:Nat)) w):=by
 by_cases h:a<b
 ·have e:=hide (JX hb ha (by omega));rw[show (b-a).natAbs=(a-b).natAbs by omega] at e;obtain⟨a1,a2⟩:=ha;obtain⟨bA,bX⟩:=hb;have hd:decide (a<b)=true:=decide_eq_true h;go_enter Tryz.func21,Tryz.ntmps21
  go_wp2_with fail
  go_ret;exact⟨Oe e.out,rfl⟩
 ·have e:=hide (JX ha hb (by omega));obtain⟨a1,a2⟩:=ha;obtain⟨bA,bX⟩:=hb;have hd:decide (a<b)=false:=decide_eq_false h;go_enter Tryz.func21,Tryz.ntmps21
  go_wp2_with fail
  go_ret;exact⟨Oe e.out,rfl⟩
theorem ai4(A:Option aw6)(n c:Nat)(l:List Int)(W:w1)(hl:hE W A l)(hn:l.length=n)(v:Bool)(aF:jx l=v) :
 AA CW 77 #[.slice A n c] W (aP (.bool v) W):=by
 have hlen:=hl.2.1;rw[hn] at hlen;have cz:=hide hl;have n0:=hide hn;have Cj:=hide aF;clear hl hn aF;go_enter Tryz.func77,Tryz.ntmps77
 go_wp2_with fail
 go_loopw [3] (fun i wr=>∃ m:Nat,(m=0\/m<n)/\i=.int .i64 ((m:Int)+1)/\Hid (Ext W wr)/\Hid (∀ j,j<m->l.getD j 0<l.getD (j+1) 0)) (fun i _=>n-(intOf i).toNat)
 case atStart=>exact⟨0,Or.inl rfl,rfl,hide (Ext.refl _),hide (by omega)⟩
 case round =>
  obtain⟨m,hm,rfl,E,T⟩:=hrel;by_cases cl:m+1<n
  ·have dP:m+1<l.length:=by rw[n0.out];exact cl
   obtain⟨b,off,rfl,sH,eS⟩:=(cz.out.ext E.out).2.2 (by omega);have d1:=eS m (by omega);have d2:=eS (m+1) dP;have afs:∀ w,(Instr.indexAt 79 (.slice (some ⟨b,off,none⟩) n c) (.int .i64 ((m:Int)+1))).run CW w=.ok (.pointer (some ⟨b,off+(m+1),none⟩)) w:=fun w=>Bv b off n c (m+1) cl w
   have aft:=fun w=>Bv b off n c m (by omega) w
   have hs:Hid (l.getD m 0<l.getD (m+1) 0->∀ j,j<m+1->l.getD j 0<l.getD (j+1) 0):=hide (fun h j aN=>by
    by_cases e:j=m
    ·subst e;exact h
    ·exact T.out j (by omega))
   have dB:Hid (¬ l.getD m 0<l.getD (m+1) 0->jx l=false):=hide (fun h=>by
    rw[Bool.eq_false_iff,ne_eq,Bw];exact fun q=>h (q m dP))
   obtain⟨x,hx⟩:=aM (l.getD m 0);obtain⟨y,hy⟩:=aM (l.getD (m+1) 0);rw[hx] at d1 hs dB;rw[hy] at d2 hs dB;have d3:decide ((m:Int)+1<(n:Int))=true:=decide_eq_true (by omega);clear eS hx hy dP sH;by_cases j7:x<y
   ·have q:decide (y<=x)=false:=decide_eq_false (by omega);have IW:=hide j7;clear j7;go_wp2_with fail
    go_quiet (fail)
    go_wp2_with fail
    go_roundw
    case rel=>exact⟨m+1,Or.inr cl,by go_num,hide (E.out.trans (nR _ _)),hide (hs.out IW.out)⟩
    case measure=>simp[intOf];omega
   ·have q:decide (y<=x)=true:=decide_eq_true (by omega);have IV:=hide (dB.out j7);go_wp2_with fail
    go_quiet (fail)
    go_wp2_with fail
    go_ret;refine⟨?_,E.out.trans (nR _ _)⟩;rw[<-Cj.out,IV.out];rfl
  ·have d3:decide ((m:Int)+1<(n:Int))=false:=decide_eq_false (by omega);go_wp2_with fail
   go_ret;refine⟨?_,E.out⟩;have e:jx l=true:=Bw.2 fun j aN=>T.out j (by have:=n0.out;omega)
   rw[<-Cj.out,e];rfl
theorem ala(B b:Nat)(n:Int)(W w:w1)(h1:2<=n)(h2:n<=1000)(aw:fP B w b)(aK:b3 b W w) :
 AA CW 45 #[yj b 0,.int .i64 n] w (P7 B b W):=by
 have DY:¬ (n=0):=by omega
 have hm:(1:Int).tmod n=1:=by
  rw[Int.tmod_eq_emod_of_nonneg (by omega)];exact Int.emod_eq_of_lt (by omega) (by omega)
 have pn:(1:Int)%n=1:=Int.emod_eq_of_lt (by omega) (by omega);have Bf:=aw.below (yK (b+1) w 1);go_enter Tryz.func45,Tryz.ntmps45
 go_wp2_with fail
 go_region_with (go_at_call 36;refine(OG B b n W _ ⟨by omega,by omega⟩ (by first|exact aw|exact(aw.below (yK (b+1) w 1))) (by first|exact aK|exact aK.drew)).mono ?_;rintro e w' ⟨u,rfl,hu,tR,y8⟩)
 all_goals go_wp2_with fail
 all_goals go_ret
 all_goals exact⟨_,rfl,tR,y8⟩
def IsS(l:List (Int × Int)):Prop:=∀ p∈l,de p.1/\de p.2
theorem IsS.nil:IsS []:=by intro x hx;simp at hx
theorem IsS.app{l m:List (Int × Int)}(h:IsS l)(k:IsS m):IsS (l++m):=by
 intro x hx;rcases List.mem_append.1 hx with a|a
 ·exact h x a
 ·exact k x a
theorem IsS.one{x y:Int}(h:de x)(k:de y):IsS [(x,y)]:=by intro p hp;simp at hp;subst hp;exact⟨h,k⟩
theorem IsS.take{l:List (Int × Int)}(h:IsS l)(k:Nat):IsS (l.take k):=fun x hx=>h x (List.mem_of_mem_take hx)
theorem IsS.drop{l:List (Int × Int)}(h:IsS l)(k:Nat):IsS (l.drop k):=fun x hx=>h x (List.mem_of_mem_drop hx)
theorem IsS.get{l:List (Int × Int)}(h:IsS l)(k:Nat):de (l.getD k (0,0)).1/\de (l.getD k (0,0)).2:=by
 rw[List.getD_eq_getElem?_getD];cases aE:l[k]? with
 | none=>exact⟨⟨by simp,by simp⟩,⟨by simp,by simp⟩⟩
 | some x=>exact h x (List.mem_of_getElem? aE)
def nC:List (Int × Int)->List Ax
 | []=>[]
 | p :: l=>.int .i64 p.1 :: .int .i64 p.2 :: nC l
theorem Oq:∀ l:List (Int × Int),(nC l).length=l.length*2
 | []=>rfl
 | _ :: l=>by simp only[nC,List.length_cons,Oq l];omega
theorem VP:∀ l:List (Int × Int),∀ u∈nC l,u.oneCell'=true
 | [],u,h=>by simp[nC] at h
 | p :: l,u,h=>by
  simp only[nC,List.mem_cons] at h;rcases h with rfl|rfl|h
  ·rfl
  ·rfl
  ·exact VP l u h
theorem VO:∀ l m:List (Int × Int),nC (l++m)=nC l++nC m
 | [],_=>rfl
 | p :: l,m=>by simp only[List.cons_append,nC,VO l m]
theorem Oo:∀ (l:List (Int × Int)) (j:Nat),j<l.length->(nC l)[2*j]?=some (.int .i64 (l.getD j (0,0)).1)/\(nC l)[2*j+1]?=some (.int .i64 (l.getD j (0,0)).2)
 | [],j,h=>by simp at h
 | p :: l,0,_=>by simp[nC]
 | p :: l,j+1,h=>by
  have:=Oo l j (by simpa using h);rw[show 2*(j+1)=2*j+1+1 by omega];simpa [nC] using this
def fK(w:w1)(A:Option aw6)(l:List (Int × Int)):Prop:=
 IsS l/\l.length<=9223372036854775807/\(0<l.length->∃ b off,A=some ⟨b,off,none⟩/\b<w.heap.size/\∀ j,j<l.length->w.cell? ⟨b,off+2*j,none⟩=some (.int .i64 (l.getD j (0,0)).1)/\w.cell? ⟨b,off+(2*j+1),none⟩=some (.int .i64 (l.getD j (0,0)).2))
theorem fK.nil(w:w1)(A:Option aw6):fK w A []:=⟨IsS.nil,by simp,fun h=>absurd h (by simp)⟩
theorem fK.ext{w w':w1}{A:Option aw6}{l:List (Int × Int)}(h:fK w A l)(e:Ext w w'):fK w' A l:=
 ⟨h.1,h.2.1,fun hp=>by
  obtain⟨b,off,hA,hb,hc⟩:=h.2.2 hp;exact⟨b,off,hA,Nat.lt_of_lt_of_le hb e.size,fun j aN=>⟨(e.cell (p:=⟨b,off+2*j,none⟩) hb).trans (hc j aN).1,(e.cell (p:=⟨b,off+(2*j+1),none⟩) hb).trans (hc j aN).2⟩⟩⟩
theorem fK.keep{w w':w1}{A:Option aw6}{l:List (Int × Int)}(h:fK w A l)(hs:w.heap.size<=w'.heap.size)(e:∀ b off,A=some ⟨b,off,none⟩->b<w.heap.size->w'.heap[b]?=w.heap[b]?):fK w' A l:=
 ⟨h.1,h.2.1,fun hp=>by
  obtain⟨b,off,hA,hb,hc⟩:=h.2.2 hp;exact⟨b,off,hA,Nat.lt_of_lt_of_le hb hs,fun j aN=>⟨(World.cell?_of_block (a:=⟨b,off+2*j,none⟩) (e b off hA hb)).trans (hc j aN).1,(World.cell?_of_block (a:=⟨b,off+(2*j+1),none⟩) (e b off hA hb)).trans (hc j aN).2⟩⟩⟩
theorem afg:(Tryz.prog.info? 23).map (fun i=>(i.zero,i.size,i.bytes))=some (some (.agg #[.int .i64 0,.int .i64 0]),2,16):=by kernel_rfl
def hZ(B:Nat)(w:w1)(v:Ax)(l:List (Int × Int)):Prop:=w.ownsRow B 23 2 v l.length (nC l)/\IsS l
theorem hZ.at_{B:Nat}{w:w1}{v:Ax}{l:List (Int × Int)}(h:hZ B w v l):∃ A cap,v=.slice A l.length cap/\l.length<=cap/\cap<=9223372036854775807/\fK w A l:=by
 rcases h.1.2 with ⟨rfl,h0⟩|⟨g,cap,cur,rfl,af,hh,nr,jP,hcs,Bp⟩
 ·obtain rfl:l=[]:=List.length_eq_zero_iff.1 h0;exact⟨none,0,rfl,Nat.le_refl _,by omega,fK.nil _ _⟩
 ·unfold maxLen at jP;have e:∀ j,(⟨g,0,none⟩:aw6).add j=⟨g,0+j,none⟩:=fun j=>by unfold Addr.add;split<;>simp_all
  refine⟨_,cap,rfl,nr,jP,h.2,by omega,fun _=>⟨g,0,rfl,(Array.getElem?_eq_some_iff.1 hh).1,fun j aN=>?_⟩⟩;have hs:=Oo l j aN;have h1:=h.1.cells (g:=g) rfl _ _ hs.1;have h2:=h.1.cells (g:=g) rfl _ _ hs.2;rw[e] at h1 h2;exact⟨h1,h2⟩
theorem hZ.kept{B:Nat}{w w':w1}{v:Ax}{l:List (Int × Int)}(h:hZ B w v l){row:Option Nat}(af:w.grownBy w' row)(dB:v.ownBlock=none\/v.ownBlock≠row):hZ B w' v l:=⟨h.1.kept af dB,h.2⟩
theorem hZ.alloc{B:Nat}{w:w1}{v:Ax}{l:List (Int × Int)}(h:hZ B w v l)(o:Obj):hZ B (w.alloc o) v l:=⟨h.1.alloc o,h.2⟩
theorem hZ.drew{B:Nat}{w:w1}{v:Ax}{l:List (Int × Int)}(h:hZ B w v l):hZ B w.drew v l:=h
theorem hZ.jT(B:Nat)(w:w1):hZ B w (.slice none 0 0) []:=⟨World.ownsRow_nil _ _ _ _,IsS.nil⟩
theorem hZ.ext{B:Nat}{w w':w1}{v:Ax}{l:List (Int × Int)}(h:hZ B w v l)(e:Ext w w'):hZ B w' v l:=by
 refine⟨?_,h.2⟩;obtain⟨h1,h2|⟨g,cap,cur,aF,af,hh,r⟩⟩:=h.1
 ·exact⟨h1,Or.inl h2⟩
 ·exact⟨h1,Or.inr ⟨g,cap,cur,aF,af,by rw[e.block g (Array.getElem?_eq_some_iff.1 hh).1];exact hh,r⟩⟩
theorem hZ.less{B fc:Nat}{w:w1}{v:Ax}{l:List (Int × Int)}(h:hZ B w v l)(bF:fc<=B):hZ fc w v l:=by
 refine⟨?_,h.2⟩;obtain⟨h1,h2|⟨g,cap,cur,aF,af,r⟩⟩:=h.1
 ·exact⟨h1,Or.inl h2⟩
 ·exact⟨h1,Or.inr ⟨g,cap,cur,aF,by omega,r⟩⟩
theorem hZ.c7{B b:Nat}{w w':w1}{v:Ax}{l:List (Int × Int)}(h:hZ B w v l)(u:b3 b w w')(hb:b<B):hZ B w' v l:=by
 refine⟨?_,h.2⟩;obtain⟨h1,h2|⟨g,cap,cur,aF,af,hh,r⟩⟩:=h.1
 ·exact⟨h1,Or.inl h2⟩
 ·exact⟨h1,Or.inr ⟨g,cap,cur,aF,af,by rw[u.2.2.2.2 g (Array.getElem?_eq_some_iff.1 hh).1 (by omega)];exact hh,r⟩⟩
theorem fK.c7{b:Nat}{w w':w1}{A:Option aw6}{l:List (Int × Int)}(h:fK w A l)(u:b3 b w w')(hb:∀ g off,A=some ⟨g,off,none⟩->g≠b):fK w' A l:=
 h.keep u.2.2.2.1 fun g off hA af=>u.2.2.2.2 g af (hb g off hA)
theorem aff{i:Option TypeInfo}{z:Ax}{a b:Nat}(h:i.map (fun i=>(i.zero,i.size,i.bytes))=some (some z,a,b)):∃ x,i=some x/\x.zero=some z/\x.size=a/\x.bytes=b:=by
 cases i with
 | none=>simp at h
 | some x =>
  simp only[Option.map_some,Option.some.injEq,Prod.mk.injEq] at h;exact⟨x,rfl,h.1,h.2.1,h.2.2⟩
theorem akp(B:Nat)(w:w1)(ty:aw7)(v:Ax)(ai l:List (Int × Int))(gn:hZ B w v ai)(A:Option aw6)(m c:Nat)(hb:fK w A l)(hm:l.length=m)(hlen:ai.length+l.length<=8796093022208)(sI:B<=w.heap.size) :
 ∃ v' w',(Builtin.append_ #[46,46] ty #[v,.slice A m c]).run CW w=.ok v' w'/\hZ B w' v' (ai++l)/\w.grownBy w' v.ownBlock/\(v'.ownBlock=v.ownBlock\/v'.ownBlock=some w.heap.size):=by
 subst hm;obtain⟨i0,j5,bf,l3,lz⟩:=aff afg;have h63:ai.length+l.length<=maxLen:=by unfold maxLen;omega
 rcases A with _|sm
 ·have h0:l=[]:=by
   rcases Nat.eq_zero_or_pos l.length with h|h
   ·exact List.length_eq_zero_iff.1 h
   ·obtain⟨b,off,h',_⟩:=hb.2.2 h;cases h'
  subst h0;refine⟨v,w,?_,by rw[List.append_nil];exact gn,World.grownBy.refl w _,.inl rfl⟩;rcases gn.1.2 with ⟨rfl,_⟩|⟨g,cap,cur,rfl,_,_,nr,_⟩
  ·simp[Builtin.append_,axf Tryz.underlying46,sizeOf,typeInfo,j5,Builtin.lenOf,Builtin.firstCells]
  ·simp[Builtin.append_,axf Tryz.underlying46,sizeOf,typeInfo,j5,Builtin.lenOf,Builtin.firstCells,nr,storeCells]
 ·have DJ:∀ j u,(nC l)[j]?=some u->w.cell? (sm.add j)=some u:=by
   intro j u hu;have aN:j<l.length*2:=by
    rcases Nat.lt_or_ge j (nC l).length with h|h
    ·rwa [Oq] at h
    ·rw[List.getElem?_eq_none h] at hu;cases hu
   obtain⟨b,off,h',_,hc⟩:=hb.2.2 (by omega);obtain rfl:sm=⟨b,off,none⟩:=Option.some.inj h';have hs:=Oo l (j / 2) (by omega);have G0:=hc (j / 2) (by omega);rw[F9];rcases Nat.mod_two_eq_zero_or_one j with h|h
   ·have e:2*(j / 2)=j:=by omega
    rw[e] at hs G0;rw[G0.1,<-hu,hs.1]
   ·have e:2*(j / 2)+1=j:=by omega
    rw[e] at hs G0;rw[G0.2,<-hu,hs.2]
  obtain⟨v',w',qG,h2,h3,_,h5⟩:=run_append_own_at (P:=CW) w B 46 ty 23 i0 _ 2 16 Tryz.underlying46 j5 bf l3 lz rfl (by omega) v ai.length (nC ai) gn.1 sm l.length c (nC l) (Oq l) DJ (VP l) h63 (by omega) sI;refine⟨v',w',qG,⟨?_,gn.2.app hb.1⟩,h3,h5⟩;rw[VO,List.length_append];exact h2
theorem xY{ops:Array aw4}{rest:List aw4}{o:aw4}{a:Act}{Q:Exit->Act->w1->Prop}{w:w1}(ky:o.guard=none)(s x:axb)
 (aL:o.op=.call { callee:=.builtin .append,args:=#[s,x],argTypes:=#[46,46] })
 (B:Nat) (v:Ax) (ai l:List (Int × Int)) (hs:a.eval s=v) (gn:hZ B w v ai) (A:Option aw6) (m c:Nat) (hx:a.eval x=.slice A m c) (hb:fK w A l) (hm:l.length=m) (hlen:ai.length+l.length<=8796093022208) (sI:B<=w.heap.size)
 (h:∀ v' w',hZ B w' v' (ai++l)->w.grownBy w' v.ownBlock->(v'.ownBlock=v.ownBlock\/v'.ownBlock=some w.heap.size)->wpList CW ops Q rest (a.put o.dst v') w'):wpList CW ops Q (o :: rest) a w:=
 wpList_plain ky fun _ cQ=>by
  obtain⟨v',w',qG,h2,h3,h4⟩:=akp B w o.type v ai l gn A m c hb hm hlen sI;unfold Oper.wp axc;simp only[aL,resolve,invoke,builtin,Sem.run_bind,Sem.run_pure,Result.andThen_ok,List.map_toArray,List.map_cons,List.map_nil,hs,hx,qG];exact cQ _ _ (h v' w' h2 h3 h4)
theorem xJ(w:w1)(x y:Int)(hx:de x)(hy:de y):fK (w.alloc (.cells #[.int .i64 x,.int .i64 y] 23)) (some ⟨w.heap.size,0,none⟩) [(x,y)]:=by
 refine⟨IsS.one hx hy,by simp,fun _=>⟨w.heap.size,0,rfl,by simp,fun j aN=>?_⟩⟩;obtain rfl:j=0:=by simpa using aN
 exact⟨by rw[World.cell?_alloc_at _ _ _ _ rfl];rfl,by rw[World.cell?_alloc_at _ _ _ _ rfl];rfl⟩
theorem G8(b off N cap j:Nat)(h:j<N)(w:w1):(Instr.indexAt 46 (.slice (some ⟨b,off,none⟩) N cap) (.int .i64 (j:Int))).run CW w=.ok (.pointer (some ⟨b,off+2*j,none⟩)) w:=by
 have hz:=Tryz.sizeOf23;have he:Tryz.prog.elem 46=23:=by kernel_rfl
 have aD:=run_indexAt_slice (P:=CW) (w:=w) 46 ⟨b,off,none⟩ N cap .i64 (j:Int) (by kernel_rfl);rw[aD,if_pos ⟨by omega,by omega⟩,he,hz];simp[Result.andThen,F9,Nat.mul_comm]
def rS(acc:List Int)(m:Nat):List Int:=acc++List.replicate m 0
theorem alw(acc:List Int)(m:Nat)(x:Int)(k:Nat)(aE:acc.length=k):(hT (rS acc (m+1))).toArray.setIfInBounds k (.int .i64 x)=(hT (rS (acc++[x]) m)).toArray:=by
 subst aE;unfold rS;rw[List.replicate_succ];simp[hT]
theorem alv(acc:List Int)(m k:Nat)(aE:acc.length=k):(hT (rS acc (m+1))).toArray[k]?=some (.int .i64 0):=by
 subst aE;unfold rS;rw[List.replicate_succ];simp[hT]
theorem afc(g N cap j:Nat)(h:j<N)(w:w1):(Instr.indexAt 79 (.slice (some ⟨g,0,none⟩) N cap) (.int .i64 (j:Int))).run CW w=.ok (.pointer (some ⟨g,j,none⟩)) w:=by
 have:=Bv g 0 N cap j h w;rw[Nat.zero_add] at this
 exact this
def XL(N B b:Nat)(W:w1)(e:axa)(w':w1):Prop:=∃ A n cap l,e=.returned (.slice A n cap)/\l.length=n/\n<=N/\n<=cap/\cap<=9223372036854775807/\jx l=true/\fJ W.heap.size w' (.slice A n cap) l/\fP B w' b/\b3 b W w'
theorem VX{u q k:Nat}(hu:u<18446744073709551616)(h:k<=q):u >>> q<=18446744073709551615 / 2 ^ k:=by
 rw[Nat.shiftRight_eq_div_pow];exact Nat.le_trans (Nat.div_le_div_left (Nat.pow_le_pow_right (by omega) h) (Nat.two_pow_pos k)) (Nat.div_le_div_right (by omega))
theorem afd{l:List Int}{x:Int}(h:jx (l++[x])=true):jx l=true:=by
 rw[Bw] at h |-;intro i hi;have:=h i (by simp;omega);rwa [GJ [x] (by omega),GJ [x] (by omega)] at this
theorem ale(N B b:Nat)(jO:N<=1000)(W:w1)(aw:fP B W b):AA CW 43 #[yj b 0,.int .i64 (N:Int)] W (XL N B b W):=by
 have je:=aw.2.1;have i5:de 5:=⟨by omega,by omega⟩;have i50:de 50:=⟨by omega,by omega⟩;have i9:de 9:=⟨by omega,by omega⟩;have i3:de 3:=⟨by omega,by omega⟩;have i56:de 56:=⟨by omega,by omega⟩;have i8:de 8:=⟨by omega,by omega⟩;have ae':de ((N:Int)+1):=⟨by omega,by omega⟩;have iH:=hide aw;clear aw;go_enter Tryz.func43,Tryz.ntmps43
 go_upto_region 3 with (go_at_call 36;(with_reducible refine(lJ B b 5 _ i5 iH.out).mono ?_);rintro e aT ⟨s,rfl,hs,T1,u1⟩;obtain⟨kd,rfl⟩:=Int.eq_ofNat_of_zero_le hs.1;have ad':kd<5:=(by have:=hs.2.1 (by omega);omega);have T1:=hide T1;have oE:=hide u1;clear hs u1)
 go_upto_region 4 with (go_at_call 44;(with_reducible refine(OE B b W _ T1.out oE.out).mono ?_);rintro e bp ⟨Yd,rfl,ha,kr,u2⟩;have kr:=hide kr;have uO:=hide u2;clear u2 T1 oE)
 go_upto_region 5 with (go_at_call 36;(with_reducible refine(lJ B b 50 _ i50 kr.out).mono ?_);rintro e w3 ⟨s,rfl,hs,oD,u3⟩;obtain⟨s0,rfl⟩:=Int.eq_ofNat_of_zero_le hs.1;have sP:s0<50:=(by have:=hs.2.1 (by omega);omega);obtain⟨st,hL⟩:=aM (1+s0);have es:IntKind.u64.wrap ((1:Int)+(s0:Int))=(st:Int):=(by rw[iT];omega);have oD:=hide oD;have w5:=hide (uO.out.trans u3);clear hs u3 kr uO)
 have apQ:1<=st:=by omega
 have apR:st<=50:=by omega
 clear hL es;go_upto_region 6 with (go_at_call 36;(with_reducible refine(lJ B b ((N:Int)+1) _ ae' oD.out).mono ?_);rintro e bZ ⟨s,rfl,hs,si,u4⟩;obtain⟨i0,rfl⟩:=Int.eq_ofNat_of_zero_le hs.1;have j5:i0<=N:=(by have:=hs.2.1 (by omega);omega);have si:=hide si;have F4:=hide (w5.out.trans u4);clear hs u4 oD w5)
 have Qh:=hide ha;clear ha iH;go_wp2_with fail
 go_loopw [5,7,9] (fun lv Jv iv wr=>∃ (i:Nat) (a:Int) (ej:List Int),iv=.int .i64 (i:Int)/\Jv=.int .i64 a/\ej.length+i<=N/\Hid (de a)/\Hid (jx (ej++[a])=true)/\Hid (fJ W.heap.size wr lv ej)/\Hid (fP B wr b)/\Hid (b3 b W wr)) (fun _ _ iv _=>(intOf iv).toNat)
 case atStart=>exact⟨i0,Yd,[],rfl,rfl,by simp;omega,Qh,hide (by simp[jx]),hide (fJ.jT _ _),si,F4⟩
 case round =>
  clear si F4 Qh;obtain⟨i,a,ej,rfl,rfl,rB,c0,ou,bM,iH,dR⟩:=hrel;by_cases h0:0<i
  ·have d0:decide ((0:Int)<(i:Int))=true:=decide_eq_true (by omega);have AJ:=hide (bM.out.alloc (.cells #[Value.int .i64 a] 2));have mN:=hide (UL wr a c0.out _ rfl);have QY:=hide (iH.out.alloc (.cells #[Value.int .i64 a] 2));have Jh:=hide (dR.out.trans (Ext.c7 (aA wr (.cells #[Value.int .i64 a] 2)) b));have e5:W.heap.size<=(wr.alloc (.cells #[Value.int .i64 a] 2)).heap.size:=Jh.out.2.2.2.1;have sL:ej.length+[a].length<=17592186044416:=(by simp;omega);clear bM iH dR;go_upto_region 9 with (at_builtin;refine Wt rfl (.tmp 27) (.tmp 29) rfl W.heap.size _ ej [a] rfl AJ.out _ 1 1 rfl mN.out rfl sL e5 ?_;intro v6 cg DB Bd hA6;have aV:=AJ.out.1.lt;have oz:=hide DB;have tJ:=hide (QY.out.below (GL Bd (b+1) (by omega) (fun k aE=>by have:=(aV k aE).1;omega)));have o6:=hide (Wj Jh.out Bd (fun k aE=>(aV k aE).1));clear DB Bd hA6 aV AJ QY Jh mN e5)
   have nn:=c0.out;unfold de at nn;obtain⟨mm,rD⟩:∃ mm:Nat,(9223372036854775807:Int)-a=(mm:Int):=⟨(9223372036854775807-a).toNat,by omega⟩;have em:IntKind.u64.wrap (9223372036854775807-IntKind.u64.wrap a)=(mm:Int):=by rw[iT,iT];omega
   have hX:Hid (∀ d:Nat,d<=mm->wrap64 (IntKind.u64.wrap (IntKind.u64.wrap a+(d:Int)))=a+(d:Int)):=hide (fun d hd=>by rw[iT,iT];simp only[wrap64];omega);have pQ:Hid (∀ d:Nat,1<=d->d<=mm->de (a+(d:Int))/\jx (ej++[a]++[a+(d:Int)])=true):=hide (fun d h1 h2=>⟨⟨by omega,by omega⟩,afe (i:=ej.length) ou.out (by simp) (by rw[Sk];omega)⟩);have LL:(ej++[a]).length=ej.length+1:=by simp
   clear nn rD sL;obtain rfl|rfl|rfl|rfl|rfl:kd=0\/kd=1\/kd=2\/kd=3\/kd=4:=by omega
   ·go_upto_region 20 with fail
    by_cases jr:mm<st
    ·have sv:decide ((mm:Int)<(st:Int))=true:=decide_eq_true (by omega);have sw:decide (mm<st)=true:=decide_eq_true jr;go_wp2_with fail
     go_ret;obtain⟨A,cap,aF,h1,h2,h3⟩:=oz.out.at_;have eD:=oz.out;subst aF;exact⟨A,_,cap,ej++[a],rfl,rfl,by omega,h1,h2,ou.out,eD,tJ.out,o6.out⟩
    ·have sv:decide ((mm:Int)<(st:Int))=false:=decide_eq_false (by omega);have sw:decide (mm<st)=false:=decide_eq_false jr;have ea:=hX.out (st) (by omega);obtain⟨ki,i_⟩:=pQ.out (st) (by omega) (by omega);obtain⟨y,hy⟩:=aM (a+((st:Nat):Int));rw[hy] at ea ki i_;have ki:=hide ki;have i_:=hide i_;clear hy;go_wp2_with fail
     go_roundw
     case rel=>exact⟨i-1,y,ej++[a],by go_num,by go_num,by omega,ki,i_,oz,tJ,o6⟩
     case measure=>simp[intOf];omega
   ·go_upto_region 20 with (go_at_call 36;(with_reducible refine(lJ B b 9 _ i9 tJ.out).mono ?_);rintro e b6 ⟨s,rfl,hs,kJ,u7⟩;obtain⟨x,rfl⟩:=Int.eq_ofNat_of_zero_le hs.1;have hx:x<9:=(by have:=hs.2.1 (by omega);omega);obtain⟨d,hd⟩:=aM (1+x);have bk:IntKind.u64.wrap ((1:Int)+(x:Int))=(d:Int):=(by rw[iT];omega);have kJ:=hide kJ;have qv:=hide (o6.out.trans u7);have nM:=hide (oz.out.c7 u7 je);clear hs u7 tJ o6 oz)
    have zc:1<=d:=by omega
    clear bk hd;by_cases jr:mm<d
    ·have sv:decide ((mm:Int)<(d:Int))=true:=decide_eq_true (by omega);have sw:decide (mm<d)=true:=decide_eq_true jr;go_wp2_with fail
     go_ret;obtain⟨A,cap,aF,h1,h2,h3⟩:=nM.out.at_;have eD:=nM.out;subst aF;exact⟨A,_,cap,ej++[a],rfl,rfl,by omega,h1,h2,ou.out,eD,kJ.out,qv.out⟩
    ·have sv:decide ((mm:Int)<(d:Int))=false:=decide_eq_false (by omega);have sw:decide (mm<d)=false:=decide_eq_false jr;have ea:=hX.out (d) (by omega);obtain⟨ki,i_⟩:=pQ.out (d) (by omega) (by omega);obtain⟨y,hy⟩:=aM (a+((d:Nat):Int));rw[hy] at ea ki i_;have ki:=hide ki;have i_:=hide i_;clear hy;go_wp2_with fail
     go_roundw
     case rel=>(repeat apply Exists.intro);exact⟨⟨i-1,y,ej++[a],by go_num,by go_num,by omega,ki,i_,nM,kJ,qv⟩,rfl⟩
     case measure=>simp[intOf];omega
   ·go_upto_region 20 with (go_at_call 36;(with_reducible refine(lJ B b 3 _ i3 tJ.out).mono ?_);rintro e b6 ⟨s,rfl,hs,kJ,u7⟩;obtain⟨x,rfl⟩:=Int.eq_ofNat_of_zero_le hs.1;have hx:x<3:=(by have:=hs.2.1 (by omega);omega);have iJ:IntKind.u64.wrap (x:Int)=(x:Int):=(by rw[iT];omega);obtain⟨d,hd⟩:=aM (st+x);have bk:IntKind.u64.wrap ((st:Int)+(x:Int))=(d:Int):=(by rw[iT];omega);have kJ:=hide kJ;have qv:=hide (o6.out.trans u7);have nM:=hide (oz.out.c7 u7 je);clear hs u7 tJ o6 oz)
    have zc:1<=d:=by omega
    clear iJ bk hd;by_cases jr:mm<d
    ·have sv:decide ((mm:Int)<(d:Int))=true:=decide_eq_true (by omega);have sw:decide (mm<d)=true:=decide_eq_true jr;go_wp2_with fail
     go_ret;obtain⟨A,cap,aF,h1,h2,h3⟩:=nM.out.at_;have eD:=nM.out;subst aF;exact⟨A,_,cap,ej++[a],rfl,rfl,by omega,h1,h2,ou.out,eD,kJ.out,qv.out⟩
    ·have sv:decide ((mm:Int)<(d:Int))=false:=decide_eq_false (by omega);have sw:decide (mm<d)=false:=decide_eq_false jr;have ea:=hX.out (d) (by omega);obtain⟨ki,i_⟩:=pQ.out (d) (by omega) (by omega);obtain⟨y,hy⟩:=aM (a+((d:Nat):Int));rw[hy] at ea ki i_;have ki:=hide ki;have i_:=hide i_;clear hy;go_wp2_with fail
     go_roundw
     case rel=>(repeat apply Exists.intro);exact⟨⟨i-1,y,ej++[a],by go_num,by go_num,by omega,ki,i_,nM,kJ,qv⟩,rfl⟩
     case measure=>simp[intOf];omega
   ·go_upto_region 20 with (first|(go_at_call 46;(with_reducible refine(HW B b _ tJ.out).mono ?_);rintro e b6 ⟨u,rfl,hu,kJ,u7⟩;obtain⟨tC,rfl⟩:=Int.eq_ofNat_of_zero_le hu.1;have Ej:tC<18446744073709551616:=(by have:=hu.2;omega);have kJ:=hide kJ;have qv:=hide (o6.out.trans u7);have nM:=hide (oz.out.c7 u7 je);clear hu u7 tJ o6 oz)|(go_at_call 36;(with_reducible refine(lJ B b 56 _ i56 kJ.out).mono ?_);rintro e c8 ⟨s,rfl,hs,q2,u8⟩;obtain⟨x,rfl⟩:=Int.eq_ofNat_of_zero_le hs.1;have hx:x<56:=(by have:=hs.2.1 (by omega);omega);obtain⟨q,aO⟩:∃ q:Nat,4+x=q:=⟨_,rfl⟩;have Gt:(4:Int)+(x:Int)=(q:Int):=(by omega);have aD:=VX (q:=q) (k:=4) Ej (by omega);have bk:=VW tC q;obtain⟨r,xu⟩:=aM (tC >>> q);rw[xu] at bk aD;have nu:r<=9223372036854775807:=(Nat.le_trans aD (by decide));obtain⟨d,hd⟩:=aM (1+r);have e2:IntKind.u64.wrap ((1:Int)+(r:Int))=(d:Int):=(by rw[iT];omega);have oc:q<=64:=(by omega);clear aO aD xu;have q2:=hide q2;have Cx:=hide (qv.out.trans u8);have AK:=hide (nM.out.c7 u8 je);clear hs u8 kJ qv nM))
    have zc:1<=d:=by omega
    clear bk e2 Gt hd;by_cases jr:mm<d
    ·have sv:decide ((mm:Int)<(d:Int))=true:=decide_eq_true (by omega);have sw:decide (mm<d)=true:=decide_eq_true jr;go_wp2_with fail
     go_ret;obtain⟨A,cap,aF,h1,h2,h3⟩:=AK.out.at_;have eD:=AK.out;subst aF;exact⟨A,_,cap,ej++[a],rfl,rfl,by omega,h1,h2,ou.out,eD,q2.out,Cx.out⟩
    ·have sv:decide ((mm:Int)<(d:Int))=false:=decide_eq_false (by omega);have sw:decide (mm<d)=false:=decide_eq_false jr;have ea:=hX.out (d) (by omega);obtain⟨ki,i_⟩:=pQ.out (d) (by omega) (by omega);obtain⟨y,hy⟩:=aM (a+((d:Nat):Int));rw[hy] at ea ki i_;have ki:=hide ki;have i_:=hide i_;clear hy;go_wp2_with fail
     go_roundw
     case rel=>(repeat apply Exists.intro);exact⟨⟨i-1,y,ej++[a],by go_num,by go_num,by omega,ki,i_,AK,q2,Cx⟩,rfl⟩
     case measure=>simp[intOf];omega
   ·go_upto_if 59 with (go_at_call 45;(with_reducible refine(ak' B b 4 _ _ (by omega) (by omega) tJ.out (b3.refl _ _)).mono ?_);rintro e b6 ⟨v,rfl,kJ,u7⟩;have kJ:=hide kJ;have qv:=hide (o6.out.trans u7);have nM:=hide (oz.out.c7 u7 je);clear u7 tJ o6 oz)
    cases v with
    | false =>
     go_upto_region 20 with fail
     by_cases jr:mm<st
     ·have sv:decide ((mm:Int)<(st:Int))=true:=decide_eq_true (by omega);have sw:decide (mm<st)=true:=decide_eq_true jr;go_wp2_with fail
      go_ret;obtain⟨A,cap,aF,h1,h2,h3⟩:=nM.out.at_;have eD:=nM.out;subst aF;exact⟨A,_,cap,ej++[a],rfl,rfl,by omega,h1,h2,ou.out,eD,kJ.out,qv.out⟩
     ·have sv:decide ((mm:Int)<(st:Int))=false:=decide_eq_false (by omega);have sw:decide (mm<st)=false:=decide_eq_false jr;have ea:=hX.out (st) (by omega);obtain⟨ki,i_⟩:=pQ.out (st) (by omega) (by omega);obtain⟨y,hy⟩:=aM (a+((st:Nat):Int));rw[hy] at ea ki i_;have ki:=hide ki;have i_:=hide i_;clear hy;go_wp2_with fail
      go_roundw
      case rel=>(repeat apply Exists.intro);exact⟨⟨i-1,y,ej++[a],by go_num,by go_num,by omega,ki,i_,nM,kJ,qv⟩,rfl⟩
      case measure=>simp[intOf];omega
    | true =>
     go_upto_region 20 with (first|(go_at_call 46;(with_reducible refine(HW B b _ kJ.out).mono ?_);rintro e c8 ⟨u,rfl,hu,q2,u8⟩;obtain⟨tC,rfl⟩:=Int.eq_ofNat_of_zero_le hu.1;have Ej:tC<18446744073709551616:=(by have:=hu.2;omega);have q2:=hide q2;have Cx:=hide (qv.out.trans u8);have AK:=hide (nM.out.c7 u8 je);clear hu u8 kJ qv nM)|(go_at_call 36;(with_reducible refine(lJ B b 8 _ i8 q2.out).mono ?_);rintro e cN ⟨s,rfl,hs,F0,u9⟩;obtain⟨x,rfl⟩:=Int.eq_ofNat_of_zero_le hs.1;have hx:x<8:=(by have:=hs.2.1 (by omega);omega);obtain⟨q,aO⟩:∃ q:Nat,1+x=q:=⟨_,rfl⟩;have Gt:(1:Int)+(x:Int)=(q:Int):=(by omega);have aD:=VX (q:=q) (k:=1) Ej (by omega);have bk:=VW tC q;obtain⟨r,xu⟩:=aM (tC >>> q);rw[xu] at bk aD;have nu:r<=9223372036854775807:=(Nat.le_trans aD (by decide));obtain⟨d,hd⟩:=aM (1+r);have e2:IntKind.u64.wrap ((1:Int)+(r:Int))=(d:Int):=(by rw[iT];omega);have oc:q<=64:=(by omega);clear aO aD xu;have F0:=hide F0;have Q6:=hide (Cx.out.trans u9);have r7:=hide (AK.out.c7 u9 je);clear hs u9 q2 Cx AK))
     have zc:1<=d:=by omega
     clear bk e2 Gt hd;by_cases jr:mm<d
     ·have sv:decide ((mm:Int)<(d:Int))=true:=decide_eq_true (by omega);have sw:decide (mm<d)=true:=decide_eq_true jr;go_wp2_with fail
      go_ret;obtain⟨A,cap,aF,h1,h2,h3⟩:=r7.out.at_;have eD:=r7.out;subst aF;exact⟨A,_,cap,ej++[a],rfl,rfl,by omega,h1,h2,ou.out,eD,F0.out,Q6.out⟩
     ·have sv:decide ((mm:Int)<(d:Int))=false:=decide_eq_false (by omega);have sw:decide (mm<d)=false:=decide_eq_false jr;have ea:=hX.out (d) (by omega);obtain⟨ki,i_⟩:=pQ.out (d) (by omega) (by omega);obtain⟨y,hy⟩:=aM (a+((d:Nat):Int));rw[hy] at ea ki i_;have ki:=hide ki;have i_:=hide i_;clear hy;go_wp2_with fail
      go_roundw
      case rel=>(repeat apply Exists.intro);exact⟨⟨i-1,y,ej++[a],by go_num,by go_num,by omega,ki,i_,r7,F0,Q6⟩,rfl⟩
      case measure=>simp[intOf];omega
  ·have d0:decide ((0:Int)<(i:Int))=false:=decide_eq_false (by omega);go_wp2_with fail
   go_ret;obtain⟨A,cap,aF,h1,h2,h3⟩:=bM.out.at_;have eD:=bM.out;subst aF;exact⟨A,_,cap,ej,rfl,rfl,by omega,h1,h2,afd ou.out,eD,iH.out,dR.out⟩
structure Av (W:w1) (B:Nat) (A:Option aw6) (n cap:Nat) (m:List Int) (w:w1):Prop where
 e:Ext W w
 t:fP W.heap.size w W.heap.size
 o:fJ B w (.slice A n cap) m
 gX:W.heap.size<B
section
variable {W:w1}{B:Nat}{A:Option aw6}{n cap:Nat}{m:List Int}{w w':w1}
theorem Av.ext(s:Av W B A n cap m w)(k:Ext w w'):Av W B A n cap m w':=⟨s.e.trans k,s.t.ext k,s.o.ext k,s.gX⟩
theorem Av.c7(s:Av W B A n cap m w)(u:b3 W.heap.size w w')(t:fP W.heap.size w' W.heap.size):Av W B A n cap m w':=⟨b3.ext u s.e (Nat.le_refl _),t,s.o.c7 u s.gX,s.gX⟩
end
end
end Go.Proofs.YtojbopibfflnoaaGreat
