/- Contracts and plain facts; each states its conditions. -/
import Derived.Test.YtojbopibfflnoaaGreatPrW26
import Derived.Test.YtojbopibfflnoaaGreatPrW37
import Derived.Shelf.Strconv.Itoa0
import Derived.Great.BuildSlice
namespace Go.Proofs.YtojbopibfflnoaaGreat
set_option linter.unusedVariables false
set_option linter.unusedSimpArgs false
set_option maxHeartbeats 16000000
section
open Go Go.RowKit
theorem ala (B b:Nat) (n:Int) (W w:World) (h1:2≤n) (h2:n≤1000) (aw:fP B w b) (aK:b3 b W w) :
 Calls Tryz.prog 45 #[.pointer (some ⟨b,0,none⟩),.int .i64 n] w (P7 B b W):=by
 have DY:¬ (n=0):=by omega
 have hm:(1:Int).tmod n=1:=by
  rw[Int.tmod_eq_emod_of_nonneg (by omega)];exact Int.emod_eq_of_lt (by omega) (by omega)
 have pn:(1:Int)%n=1:=Int.emod_eq_of_lt (by omega) (by omega);have Bf:=aw.below (yK (b+1) w 1);go_enter Tryz.func45,Tryz.ntmps45
 go_wp2_with fail
 go_region_with (go_at_call 36;refine(OG B b n W _ ⟨by omega,by omega⟩ (by first|exact aw|exact(aw.below (yK (b+1) w 1))) (by first|exact aK|exact aK.drew)).mono ?_;rintro e w' ⟨u,rfl,hu,tR,y8⟩)
 all_goals go_wp2_with fail
 all_goals go_ret
 all_goals exact⟨_,rfl,tR,y8⟩
def IsS (l:List (Int × Int)):Prop:=∀ p∈l,de p.1∧de p.2
theorem IsS.nil:IsS []:=by intro x hx;simp at hx
theorem IsS.app {l m:List (Int × Int)} (h:IsS l) (k:IsS m):IsS (l++m):=by
 intro x hx;rcases List.mem_append.1 hx with a|a
 ·exact h x a
 ·exact k x a
theorem IsS.one {x y:Int} (h:de x) (k:de y):IsS [(x,y)]:=by intro p hp;simp at hp;subst hp;exact⟨h,k⟩
theorem IsS.take {l:List (Int × Int)} (h:IsS l) (k:Nat):IsS (l.take k):=fun x hx=>h x (List.mem_of_mem_take hx)
theorem IsS.drop {l:List (Int × Int)} (h:IsS l) (k:Nat):IsS (l.drop k):=fun x hx=>h x (List.mem_of_mem_drop hx)
theorem IsS.get {l:List (Int × Int)} (h:IsS l) (k:Nat):de (l.getD k (0,0)).1∧de (l.getD k (0,0)).2:=by
 rw[List.getD_eq_getElem?_getD];cases aE:l[k]? with
 | none=>exact⟨⟨by simp,by simp⟩,⟨by simp,by simp⟩⟩
 | some x=>exact h x (List.mem_of_getElem? aE)
def nC:List (Int × Int)→List Value
 | []=>[]
 | p :: l=>.int .i64 p.1 :: .int .i64 p.2 :: nC l
theorem Oq:∀ l:List (Int × Int),(nC l).length=l.length*2
 | []=>rfl
 | _ :: l=>by simp only[nC,List.length_cons,Oq l];omega
theorem VP:∀ l:List (Int × Int),∀ u∈nC l,u.oneCell'=true
 | [],u,h=>by simp[nC] at h
 | p :: l,u,h=>by
  simp only[nC,List.mem_cons] at h;rcases h with rfl|rfl|h
  ·rfl
  ·rfl
  ·exact VP l u h
theorem VO:∀ l m:List (Int × Int),nC (l++m)=nC l++nC m
 | [],_=>rfl
 | p :: l,m=>by simp only[List.cons_append,nC,VO l m]
theorem Oo:∀ (l:List (Int × Int)) (j:Nat),j<l.length→(nC l)[2*j]?=some (.int .i64 (l.getD j (0,0)).1)∧(nC l)[2*j+1]?=some (.int .i64 (l.getD j (0,0)).2)
 | [],j,h=>by simp at h
 | p :: l,0,_=>by simp[nC]
 | p :: l,j+1,h=>by
  have:=Oo l j (by simpa using h);rw[show 2*(j+1)=2*j+1+1 by omega];simpa [nC] using this
def fK (w:World) (A:Option Addr) (l:List (Int × Int)):Prop:=
 IsS l∧l.length≤9223372036854775807∧(0<l.length→∃ b off,A=some ⟨b,off,none⟩∧b<w.heap.size∧∀ j,j<l.length→w.cell? ⟨b,off+2*j,none⟩=some (.int .i64 (l.getD j (0,0)).1)∧w.cell? ⟨b,off+(2*j+1),none⟩=some (.int .i64 (l.getD j (0,0)).2))
theorem fK.nil (w:World) (A:Option Addr):fK w A []:=⟨IsS.nil,by simp,fun h=>absurd h (by simp)⟩
theorem fK.ext {w w':World}{A:Option Addr}{l:List (Int × Int)} (h:fK w A l) (e:Ext w w'):fK w' A l:=
 ⟨h.1,h.2.1,fun hp=>by
  obtain⟨b,off,hA,hb,hc⟩:=h.2.2 hp;exact⟨b,off,hA,Nat.lt_of_lt_of_le hb e.size,fun j aN=>⟨(e.cell (p:=⟨b,off+2*j,none⟩) hb).trans (hc j aN).1,(e.cell (p:=⟨b,off+(2*j+1),none⟩) hb).trans (hc j aN).2⟩⟩⟩
theorem fK.keep {w w':World}{A:Option Addr}{l:List (Int × Int)} (h:fK w A l) (hs:w.heap.size≤w'.heap.size) (e:∀ b off,A=some ⟨b,off,none⟩→b<w.heap.size→w'.heap[b]?=w.heap[b]?):fK w' A l:=
 ⟨h.1,h.2.1,fun hp=>by
  obtain⟨b,off,hA,hb,hc⟩:=h.2.2 hp;exact⟨b,off,hA,Nat.lt_of_lt_of_le hb hs,fun j aN=>⟨(World.cell?_of_block (a:=⟨b,off+2*j,none⟩) (e b off hA hb)).trans (hc j aN).1,(World.cell?_of_block (a:=⟨b,off+(2*j+1),none⟩) (e b off hA hb)).trans (hc j aN).2⟩⟩⟩
theorem afg:(Tryz.prog.info? 23).map (fun i=>(i.zero,i.size,i.bytes))=some (some (.agg #[.int .i64 0,.int .i64 0]),2,16):=by kernel_rfl
def hZ (B:Nat) (w:World) (v:Value) (l:List (Int × Int)):Prop:=w.ownsRow B 23 2 v l.length (nC l)∧IsS l
theorem hZ.at_ {B:Nat}{w:World}{v:Value}{l:List (Int × Int)} (h:hZ B w v l):∃ A cap,v=.slice A l.length cap∧l.length≤cap∧cap≤9223372036854775807∧fK w A l:=by
 rcases h.1.2 with ⟨rfl,h0⟩|⟨g,cap,cur,rfl,af,hh,nr,jP,hcs,Bp⟩
 ·obtain rfl:l=[]:=List.length_eq_zero_iff.1 h0;exact⟨none,0,rfl,Nat.le_refl _,by omega,fK.nil _ _⟩
 ·unfold maxLen at jP;have e:∀ j,(⟨g,0,none⟩:Addr).add j=⟨g,0+j,none⟩:=fun j=>by unfold Addr.add;split<;>simp_all
  refine⟨_,cap,rfl,nr,jP,h.2,by omega,fun _=>⟨g,0,rfl,(Array.getElem?_eq_some_iff.1 hh).1,fun j aN=>?_⟩⟩;have hs:=Oo l j aN;have h1:=h.1.cells (g:=g) rfl _ _ hs.1;have h2:=h.1.cells (g:=g) rfl _ _ hs.2;rw[e] at h1 h2;exact⟨h1,h2⟩
theorem hZ.kept {B:Nat}{w w':World}{v:Value}{l:List (Int × Int)} (h:hZ B w v l) {row:Option Nat} (af:w.grownBy w' row) (dB:v.ownBlock=none∨v.ownBlock≠row):hZ B w' v l:=⟨h.1.kept af dB,h.2⟩
theorem hZ.alloc {B:Nat}{w:World}{v:Value}{l:List (Int × Int)} (h:hZ B w v l) (o:Obj):hZ B (w.alloc o) v l:=⟨h.1.alloc o,h.2⟩
theorem hZ.drew {B:Nat}{w:World}{v:Value}{l:List (Int × Int)} (h:hZ B w v l):hZ B w.drew v l:=h
theorem hZ.jT (B:Nat) (w:World):hZ B w (.slice none 0 0) []:=⟨World.ownsRow_nil _ _ _ _,IsS.nil⟩
theorem hZ.ext {B:Nat}{w w':World}{v:Value}{l:List (Int × Int)} (h:hZ B w v l) (e:Ext w w'):hZ B w' v l:=by
 refine⟨?_,h.2⟩;obtain⟨h1,h2|⟨g,cap,cur,aF,af,hh,r⟩⟩:=h.1
 ·exact⟨h1,Or.inl h2⟩
 ·exact⟨h1,Or.inr ⟨g,cap,cur,aF,af,by rw[e.block g (Array.getElem?_eq_some_iff.1 hh).1];exact hh,r⟩⟩
theorem hZ.less {B fc:Nat}{w:World}{v:Value}{l:List (Int × Int)} (h:hZ B w v l) (bF:fc≤B):hZ fc w v l:=by
 refine⟨?_,h.2⟩;obtain⟨h1,h2|⟨g,cap,cur,aF,af,r⟩⟩:=h.1
 ·exact⟨h1,Or.inl h2⟩
 ·exact⟨h1,Or.inr ⟨g,cap,cur,aF,by omega,r⟩⟩
theorem hZ.c7 {B b:Nat}{w w':World}{v:Value}{l:List (Int × Int)} (h:hZ B w v l) (u:b3 b w w') (hb:b<B):hZ B w' v l:=by
 refine⟨?_,h.2⟩;obtain⟨h1,h2|⟨g,cap,cur,aF,af,hh,r⟩⟩:=h.1
 ·exact⟨h1,Or.inl h2⟩
 ·exact⟨h1,Or.inr ⟨g,cap,cur,aF,af,by rw[u.2.2.2.2 g (Array.getElem?_eq_some_iff.1 hh).1 (by omega)];exact hh,r⟩⟩
theorem fK.c7 {b:Nat}{w w':World}{A:Option Addr}{l:List (Int × Int)} (h:fK w A l) (u:b3 b w w') (hb:∀ g off,A=some ⟨g,off,none⟩→g≠b):fK w' A l:=
 h.keep u.2.2.2.1 fun g off hA af=>u.2.2.2.2 g af (hb g off hA)
theorem aif {w:World}{A:Option Addr}{c cap B:Nat}{l:List (Int × Int)} (h:hZ B w (.slice A c cap) l):fK w A l:=by
 obtain⟨A',Gf,he,_,_,hw⟩:=h.at_;cases he
 exact hw
theorem aff {i:Option TypeInfo}{z:Value}{a b:Nat} (h:i.map (fun i=>(i.zero,i.size,i.bytes))=some (some z,a,b)):∃ x,i=some x∧x.zero=some z∧x.size=a∧x.bytes=b:=by
 cases i with
 | none=>simp at h
 | some x =>
  simp only[Option.map_some,Option.some.injEq,Prod.mk.injEq] at h;exact⟨x,rfl,h.1,h.2.1,h.2.2⟩
theorem akp (B:Nat) (w:World) (ty:TypeId) (v:Value) (ai l:List (Int × Int)) (gn:hZ B w v ai) (A:Option Addr) (m c:Nat) (hb:fK w A l) (hm:l.length=m) (hlen:ai.length+l.length≤8796093022208) (sI:B≤w.heap.size) :
 ∃ v' w',(Builtin.append_ #[46,46] ty #[v,.slice A m c]).run Tryz.prog w=.ok v' w'∧hZ B w' v' (ai++l)∧w.grownBy w' v.ownBlock∧(v'.ownBlock=v.ownBlock∨v'.ownBlock=some w.heap.size):=by
 subst hm;obtain⟨i0,j5,bf,l3,lz⟩:=aff afg;have h63:ai.length+l.length≤maxLen:=by unfold maxLen;omega
 rcases A with _|sm
 ·have h0:l=[]:=by
   rcases Nat.eq_zero_or_pos l.length with h|h
   ·exact List.length_eq_zero_iff.1 h
   ·obtain⟨b,off,h',_⟩:=hb.2.2 h;cases h'
  subst h0;refine⟨v,w,?_,by rw[List.append_nil];exact gn,World.grownBy.refl w _,.inl rfl⟩;rcases gn.1.2 with ⟨rfl,_⟩|⟨g,cap,cur,rfl,_,_,nr,_⟩
  ·simp[Builtin.append_,run_underlying Tryz.underlying46,sizeOf,typeInfo,j5,Builtin.lenOf,Builtin.firstCells]
  ·simp[Builtin.append_,run_underlying Tryz.underlying46,sizeOf,typeInfo,j5,Builtin.lenOf,Builtin.firstCells,nr,storeCells]
 ·have DJ:∀ j u,(nC l)[j]?=some u→w.cell? (sm.add j)=some u:=by
   intro j u hu;have aN:j<l.length*2:=by
    rcases Nat.lt_or_ge j (nC l).length with h|h
    ·rwa [Oq] at h
    ·rw[List.getElem?_eq_none h] at hu;cases hu
   obtain⟨b,off,h',_,hc⟩:=hb.2.2 (by omega);obtain rfl:sm=⟨b,off,none⟩:=Option.some.inj h';have hs:=Oo l (j / 2) (by omega);have G0:=hc (j / 2) (by omega);rw[F9];rcases Nat.mod_two_eq_zero_or_one j with h|h
   ·have e:2*(j / 2)=j:=by omega
    rw[e] at hs G0;rw[G0.1,←hu,hs.1]
   ·have e:2*(j / 2)+1=j:=by omega
    rw[e] at hs G0;rw[G0.2,←hu,hs.2]
  obtain⟨v',w',qG,h2,h3,_,h5⟩:=run_append_own_at (P:=Tryz.prog) w B 46 ty 23 i0 _ 2 16 Tryz.underlying46 j5 bf l3 lz rfl (by omega) v ai.length (nC ai) gn.1 sm l.length c (nC l) (Oq l) DJ (VP l) h63 (by omega) sI;refine⟨v',w',qG,⟨?_,gn.2.app hb.1⟩,h3,h5⟩;rw[VO,List.length_append];exact h2
theorem xY {ops:Array Oper}{rest:List Oper}{o:Oper}{a:Act}{Q:Exit→Act→World→Prop}{w:World} (ky:o.guard=none) (s x:Operand)
 (aL:o.op=.call { callee:=.builtin .append,args:=#[s,x],argTypes:=#[46,46] })
 (B:Nat) (v:Value) (ai l:List (Int × Int)) (hs:a.eval s=v) (gn:hZ B w v ai) (A:Option Addr) (m c:Nat) (hx:a.eval x=.slice A m c) (hb:fK w A l) (hm:l.length=m) (hlen:ai.length+l.length≤8796093022208) (sI:B≤w.heap.size)
 (h:∀ v' w',hZ B w' v' (ai++l)→w.grownBy w' v.ownBlock→(v'.ownBlock=v.ownBlock∨v'.ownBlock=some w.heap.size)→wpList Tryz.prog ops Q rest (a.put o.dst v') w'):wpList Tryz.prog ops Q (o :: rest) a w:=
 wpList_plain ky fun _ cQ=>by
  obtain⟨v',w',qG,h2,h3,h4⟩:=akp B w o.type v ai l gn A m c hb hm hlen sI;unfold Oper.wp execOp;simp only[aL,resolve,invoke,builtin,Sem.run_bind,Sem.run_pure,Result.andThen_ok,List.map_toArray,List.map_cons,List.map_nil,hs,hx,qG];exact cQ _ _ (h v' w' h2 h3 h4)
theorem xJ (w:World) (x y:Int) (hx:de x) (hy:de y):fK (w.alloc (.cells #[.int .i64 x,.int .i64 y] 23)) (some ⟨w.heap.size,0,none⟩) [(x,y)]:=by
 refine⟨IsS.one hx hy,by simp,fun _=>⟨w.heap.size,0,rfl,by simp,fun j aN=>?_⟩⟩;obtain rfl:j=0:=by simpa using aN
 exact⟨by rw[World.cell?_alloc_at _ _ _ _ rfl];rfl,by rw[World.cell?_alloc_at _ _ _ _ rfl];rfl⟩
theorem G8 (b off N cap j:Nat) (h:j<N) (w:World):(Instr.indexAt 46 (.slice (some ⟨b,off,none⟩) N cap) (.int .i64 (j:Int))).run Tryz.prog w=.ok (.pointer (some ⟨b,off+2*j,none⟩)) w:=by
 have hz:=Tryz.sizeOf23;have he:Tryz.prog.elem 46=23:=by kernel_rfl
 have aD:=run_indexAt_slice (P:=Tryz.prog) (w:=w) 46 ⟨b,off,none⟩ N cap .i64 (j:Int) (by kernel_rfl);rw[aD,if_pos ⟨by omega,by omega⟩,he,hz];simp[Result.andThen,F9,Nat.mul_comm]
end
section
open Go Go.RowKit
def rS (acc:List Int) (m:Nat):List Int:=acc++List.replicate m 0
theorem alw (acc:List Int) (m:Nat) (x:Int) (k:Nat) (aE:acc.length=k):(hT (rS acc (m+1))).toArray.setIfInBounds k (.int .i64 x)=(hT (rS (acc++[x]) m)).toArray:=by
 subst aE;unfold rS;rw[List.replicate_succ];simp[hT]
theorem alv (acc:List Int) (m k:Nat) (aE:acc.length=k):(hT (rS acc (m+1))).toArray[k]?=some (.int .i64 0):=by
 subst aE;unfold rS;rw[List.replicate_succ];simp[hT]
theorem afc (g N cap j:Nat) (h:j<N) (w:World):(Instr.indexAt 79 (.slice (some ⟨g,0,none⟩) N cap) (.int .i64 (j:Int))).run Tryz.prog w=.ok (.pointer (some ⟨g,j,none⟩)) w:=by
 have:=Bv g 0 N cap j h w;rw[Nat.zero_add] at this
 exact this
def Q5 (r:List Int × Int × Int) (W:World) (e:Ending) (w':World):Prop:=∃ v,e=.returned (.tuple #[v,.int .i64 r.2.1,.int .i64 r.2.2])∧fJ W.heap.size w' v r.1∧Ext W w'
theorem Q5.parts {r:List Int × Int × Int}{W:World}{e:Ending}{w':World} (h:Q5 r W e w'):∃ A cap,e=.returned (.tuple #[.slice A r.1.length cap,.int .i64 r.2.1,.int .i64 r.2.2])∧r.1.length≤cap∧cap≤9223372036854775807∧fJ W.heap.size w' (.slice A r.1.length cap) r.1∧hE w' A r.1∧Ext W w':=by
 obtain⟨v,rfl,eD,ad⟩:=h;obtain⟨A,cap,rfl,h1,h2,h3⟩:=eD.at_;exact⟨A,cap,rfl,h1,h2,eD,h3,ad⟩
end
section
open Go Go.RowKit
def XL (N B b:Nat) (W:World) (e:Ending) (w':World):Prop:=∃ A n cap l,e=.returned (.slice A n cap)∧l.length=n∧n≤N∧n≤cap∧cap≤9223372036854775807∧jx l=true∧fJ W.heap.size w' (.slice A n cap) l∧fP B w' b∧b3 b W w'
theorem VX {u q k:Nat} (hu:u<18446744073709551616) (h:k≤q):u >>> q≤18446744073709551615 / 2 ^ k:=by
 rw[Nat.shiftRight_eq_div_pow];exact Nat.le_trans (Nat.div_le_div_left (Nat.pow_le_pow_right (by omega) h) (Nat.two_pow_pos k)) (Nat.div_le_div_right (by omega))
theorem afd {l:List Int}{x:Int} (h:jx (l++[x])=true):jx l=true:=by
 rw[Bw] at h ⊢;intro i hi;have:=h i (by simp;omega);rwa [GJ [x] (by omega),GJ [x] (by omega)] at this
set_option maxRecDepth 100000 in
theorem ale (N B b:Nat) (jO:N≤1000) (W:World) (aw:fP B W b):Calls Tryz.prog 43 #[.pointer (some ⟨b,0,none⟩),.int .i64 (N:Int)] W (XL N B b W):=by
 have je:=aw.2.1;have i5:de 5:=⟨by omega,by omega⟩;have i50:de 50:=⟨by omega,by omega⟩;have i9:de 9:=⟨by omega,by omega⟩;have i3:de 3:=⟨by omega,by omega⟩;have i56:de 56:=⟨by omega,by omega⟩;have i8:de 8:=⟨by omega,by omega⟩;have ae':de ((N:Int)+1):=⟨by omega,by omega⟩;have iH:=hide aw;clear aw;go_enter Tryz.func43,Tryz.ntmps43
 go_upto_region 3 with (go_at_call 36;(with_reducible refine(lJ B b 5 _ i5 iH.out).mono ?_);rintro e aT ⟨s,rfl,hs,T1,u1⟩;obtain⟨kd,rfl⟩:=Int.eq_ofNat_of_zero_le hs.1;have ad':kd<5:=(by have:=hs.2.1 (by omega);omega);have T1:=hide T1;have oE:=hide u1;clear hs u1)
 go_upto_region 4 with (go_at_call 44;(with_reducible refine(OE B b W _ T1.out oE.out).mono ?_);rintro e bp ⟨Yd,rfl,ha,kr,u2⟩;have kr:=hide kr;have uO:=hide u2;clear u2 T1 oE)
 go_upto_region 5 with (go_at_call 36;(with_reducible refine(lJ B b 50 _ i50 kr.out).mono ?_);rintro e w3 ⟨s,rfl,hs,oD,u3⟩;obtain⟨s0,rfl⟩:=Int.eq_ofNat_of_zero_le hs.1;have sP:s0<50:=(by have:=hs.2.1 (by omega);omega);obtain⟨st,hL⟩:=aM (1+s0);have es:IntKind.u64.wrap ((1:Int)+(s0:Int))=(st:Int):=(by rw[iT];omega);have oD:=hide oD;have w5:=hide (uO.out.trans u3);clear hs u3 kr uO)
 have apQ:1≤st:=by omega
 have apR:st≤50:=by omega
 clear hL es;go_upto_region 6 with (go_at_call 36;(with_reducible refine(lJ B b ((N:Int)+1) _ ae' oD.out).mono ?_);rintro e bZ ⟨s,rfl,hs,si,u4⟩;obtain⟨i0,rfl⟩:=Int.eq_ofNat_of_zero_le hs.1;have j5:i0≤N:=(by have:=hs.2.1 (by omega);omega);have si:=hide si;have F4:=hide (w5.out.trans u4);clear hs u4 oD w5)
 have Qh:=hide ha;clear ha iH;go_wp2_with fail
 go_loopw [5,7,9] (fun lv Jv iv wr=>∃ (i:Nat) (a:Int) (ej:List Int),iv=.int .i64 (i:Int)∧Jv=.int .i64 a∧ej.length+i≤N∧Hid (de a)∧Hid (jx (ej++[a])=true)∧Hid (fJ W.heap.size wr lv ej)∧Hid (fP B wr b)∧Hid (b3 b W wr)) (fun _ _ iv _=>(intOf iv).toNat)
 case atStart=>exact⟨i0,Yd,[],rfl,rfl,by simp;omega,Qh,hide (by simp[jx]),hide (fJ.jT _ _),si,F4⟩
 case round =>
  clear si F4 Qh;obtain⟨i,a,ej,rfl,rfl,rB,c0,ou,bM,iH,dR⟩:=hrel;by_cases h0:0<i
  ·have d0:decide ((0:Int)<(i:Int))=true:=decide_eq_true (by omega);have AJ:=hide (bM.out.alloc (.cells #[Value.int .i64 a] 2));have mN:=hide (UL wr a c0.out _ rfl);have QY:=hide (iH.out.alloc (.cells #[Value.int .i64 a] 2));have Jh:=hide (dR.out.trans (Ext.c7 (aA wr (.cells #[Value.int .i64 a] 2)) b));have e5:W.heap.size≤(wr.alloc (.cells #[Value.int .i64 a] 2)).heap.size:=Jh.out.2.2.2.1;have sL:ej.length+[a].length≤17592186044416:=(by simp;omega);clear bM iH dR;go_upto_region 9 with (at_builtin;refine Wt rfl (.tmp 27) (.tmp 29) rfl W.heap.size _ ej [a] rfl AJ.out _ 1 1 rfl mN.out rfl sL e5 ?_;intro v6 cg DB Bd hA6;have aV:=AJ.out.1.lt;have oz:=hide DB;have tJ:=hide (QY.out.below (GL Bd (b+1) (by omega) (fun k aE=>by have:=(aV k aE).1;omega)));have o6:=hide (Wj Jh.out Bd (fun k aE=>(aV k aE).1));clear DB Bd hA6 aV AJ QY Jh mN e5)
   have nn:=c0.out;unfold de at nn;obtain⟨mm,rD⟩:∃ mm:Nat,(9223372036854775807:Int)-a=(mm:Int):=⟨(9223372036854775807-a).toNat,by omega⟩;have em:IntKind.u64.wrap (9223372036854775807-IntKind.u64.wrap a)=(mm:Int):=by rw[iT,iT];omega
   have hX:Hid (∀ d:Nat,d≤mm→wrap64 (IntKind.u64.wrap (IntKind.u64.wrap a+(d:Int)))=a+(d:Int)):=hide (fun d hd=>by rw[iT,iT];simp only[wrap64];omega);have pQ:Hid (∀ d:Nat,1≤d→d≤mm→de (a+(d:Int))∧jx (ej++[a]++[a+(d:Int)])=true):=hide (fun d h1 h2=>⟨⟨by omega,by omega⟩,afe (i:=ej.length) ou.out (by simp) (by rw[Sk];omega)⟩);have LL:(ej++[a]).length=ej.length+1:=by simp
   clear nn rD sL;obtain rfl|rfl|rfl|rfl|rfl:kd=0∨kd=1∨kd=2∨kd=3∨kd=4:=by omega
   ·go_upto_region 20 with fail
    by_cases jr:mm<st
    ·have sv:decide ((mm:Int)<(st:Int))=true:=decide_eq_true (by omega);have sw:decide (mm<st)=true:=decide_eq_true jr;go_wp2_with fail
     go_ret;obtain⟨A,cap,aF,h1,h2,h3⟩:=oz.out.at_;have eD:=oz.out;subst aF;exact⟨A,_,cap,ej++[a],rfl,rfl,by omega,h1,h2,ou.out,eD,tJ.out,o6.out⟩
    ·have sv:decide ((mm:Int)<(st:Int))=false:=decide_eq_false (by omega);have sw:decide (mm<st)=false:=decide_eq_false jr;have ea:=hX.out (st) (by omega);obtain⟨ki,i_⟩:=pQ.out (st) (by omega) (by omega);obtain⟨y,hy⟩:=aM (a+((st:Nat):Int));rw[hy] at ea ki i_;have ki:=hide ki;have i_:=hide i_;clear hy;go_wp2_with fail
     go_roundw
     case rel=>exact⟨i-1,y,ej++[a],by go_num,by go_num,by omega,ki,i_,oz,tJ,o6⟩
     case measure=>simp[intOf];omega
   ·go_upto_region 20 with (go_at_call 36;(with_reducible refine(lJ B b 9 _ i9 tJ.out).mono ?_);rintro e b6 ⟨s,rfl,hs,kJ,u7⟩;obtain⟨x,rfl⟩:=Int.eq_ofNat_of_zero_le hs.1;have hx:x<9:=(by have:=hs.2.1 (by omega);omega);obtain⟨d,hd⟩:=aM (1+x);have bk:IntKind.u64.wrap ((1:Int)+(x:Int))=(d:Int):=(by rw[iT];omega);have kJ:=hide kJ;have qv:=hide (o6.out.trans u7);have nM:=hide (oz.out.c7 u7 je);clear hs u7 tJ o6 oz)
    have zc:1≤d:=by omega
    clear bk hd;by_cases jr:mm<d
    ·have sv:decide ((mm:Int)<(d:Int))=true:=decide_eq_true (by omega);have sw:decide (mm<d)=true:=decide_eq_true jr;go_wp2_with fail
     go_ret;obtain⟨A,cap,aF,h1,h2,h3⟩:=nM.out.at_;have eD:=nM.out;subst aF;exact⟨A,_,cap,ej++[a],rfl,rfl,by omega,h1,h2,ou.out,eD,kJ.out,qv.out⟩
    ·have sv:decide ((mm:Int)<(d:Int))=false:=decide_eq_false (by omega);have sw:decide (mm<d)=false:=decide_eq_false jr;have ea:=hX.out (d) (by omega);obtain⟨ki,i_⟩:=pQ.out (d) (by omega) (by omega);obtain⟨y,hy⟩:=aM (a+((d:Nat):Int));rw[hy] at ea ki i_;have ki:=hide ki;have i_:=hide i_;clear hy;go_wp2_with fail
     go_roundw
     case rel=>(repeat apply Exists.intro);exact⟨⟨i-1,y,ej++[a],by go_num,by go_num,by omega,ki,i_,nM,kJ,qv⟩,rfl⟩
     case measure=>simp[intOf];omega
   ·go_upto_region 20 with (go_at_call 36;(with_reducible refine(lJ B b 3 _ i3 tJ.out).mono ?_);rintro e b6 ⟨s,rfl,hs,kJ,u7⟩;obtain⟨x,rfl⟩:=Int.eq_ofNat_of_zero_le hs.1;have hx:x<3:=(by have:=hs.2.1 (by omega);omega);have iJ:IntKind.u64.wrap (x:Int)=(x:Int):=(by rw[iT];omega);obtain⟨d,hd⟩:=aM (st+x);have bk:IntKind.u64.wrap ((st:Int)+(x:Int))=(d:Int):=(by rw[iT];omega);have kJ:=hide kJ;have qv:=hide (o6.out.trans u7);have nM:=hide (oz.out.c7 u7 je);clear hs u7 tJ o6 oz)
    have zc:1≤d:=by omega
    clear iJ bk hd;by_cases jr:mm<d
    ·have sv:decide ((mm:Int)<(d:Int))=true:=decide_eq_true (by omega);have sw:decide (mm<d)=true:=decide_eq_true jr;go_wp2_with fail
     go_ret;obtain⟨A,cap,aF,h1,h2,h3⟩:=nM.out.at_;have eD:=nM.out;subst aF;exact⟨A,_,cap,ej++[a],rfl,rfl,by omega,h1,h2,ou.out,eD,kJ.out,qv.out⟩
    ·have sv:decide ((mm:Int)<(d:Int))=false:=decide_eq_false (by omega);have sw:decide (mm<d)=false:=decide_eq_false jr;have ea:=hX.out (d) (by omega);obtain⟨ki,i_⟩:=pQ.out (d) (by omega) (by omega);obtain⟨y,hy⟩:=aM (a+((d:Nat):Int));rw[hy] at ea ki i_;have ki:=hide ki;have i_:=hide i_;clear hy;go_wp2_with fail
     go_roundw
     case rel=>(repeat apply Exists.intro);exact⟨⟨i-1,y,ej++[a],by go_num,by go_num,by omega,ki,i_,nM,kJ,qv⟩,rfl⟩
     case measure=>simp[intOf];omega
   ·go_upto_region 20 with (first|(go_at_call 46;(with_reducible refine(HW B b _ tJ.out).mono ?_);rintro e b6 ⟨u,rfl,hu,kJ,u7⟩;obtain⟨tC,rfl⟩:=Int.eq_ofNat_of_zero_le hu.1;have Ej:tC<18446744073709551616:=(by have:=hu.2;omega);have kJ:=hide kJ;have qv:=hide (o6.out.trans u7);have nM:=hide (oz.out.c7 u7 je);clear hu u7 tJ o6 oz)|(go_at_call 36;(with_reducible refine(lJ B b 56 _ i56 kJ.out).mono ?_);rintro e c8 ⟨s,rfl,hs,q2,u8⟩;obtain⟨x,rfl⟩:=Int.eq_ofNat_of_zero_le hs.1;have hx:x<56:=(by have:=hs.2.1 (by omega);omega);obtain⟨q,aO⟩:∃ q:Nat,4+x=q:=⟨_,rfl⟩;have Gt:(4:Int)+(x:Int)=(q:Int):=(by omega);have aD:=VX (q:=q) (k:=4) Ej (by omega);have bk:=VW tC q;obtain⟨r,xu⟩:=aM (tC >>> q);rw[xu] at bk aD;have nu:r≤9223372036854775807:=(Nat.le_trans aD (by decide));obtain⟨d,hd⟩:=aM (1+r);have e2:IntKind.u64.wrap ((1:Int)+(r:Int))=(d:Int):=(by rw[iT];omega);have oc:q≤64:=(by omega);clear aO aD xu;have q2:=hide q2;have Cx:=hide (qv.out.trans u8);have AK:=hide (nM.out.c7 u8 je);clear hs u8 kJ qv nM))
    have zc:1≤d:=by omega
    clear bk e2 Gt hd;by_cases jr:mm<d
    ·have sv:decide ((mm:Int)<(d:Int))=true:=decide_eq_true (by omega);have sw:decide (mm<d)=true:=decide_eq_true jr;go_wp2_with fail
     go_ret;obtain⟨A,cap,aF,h1,h2,h3⟩:=AK.out.at_;have eD:=AK.out;subst aF;exact⟨A,_,cap,ej++[a],rfl,rfl,by omega,h1,h2,ou.out,eD,q2.out,Cx.out⟩
    ·have sv:decide ((mm:Int)<(d:Int))=false:=decide_eq_false (by omega);have sw:decide (mm<d)=false:=decide_eq_false jr;have ea:=hX.out (d) (by omega);obtain⟨ki,i_⟩:=pQ.out (d) (by omega) (by omega);obtain⟨y,hy⟩:=aM (a+((d:Nat):Int));rw[hy] at ea ki i_;have ki:=hide ki;have i_:=hide i_;clear hy;go_wp2_with fail
     go_roundw
     case rel=>(repeat apply Exists.intro);exact⟨⟨i-1,y,ej++[a],by go_num,by go_num,by omega,ki,i_,AK,q2,Cx⟩,rfl⟩
     case measure=>simp[intOf];omega
   ·go_upto_if 59 with (go_at_call 45;(with_reducible refine(ak' B b 4 _ _ (by omega) (by omega) tJ.out (b3.refl _ _)).mono ?_);rintro e b6 ⟨v,rfl,kJ,u7⟩;have kJ:=hide kJ;have qv:=hide (o6.out.trans u7);have nM:=hide (oz.out.c7 u7 je);clear u7 tJ o6 oz)
    cases v with
    | false =>
     go_upto_region 20 with fail
     by_cases jr:mm<st
     ·have sv:decide ((mm:Int)<(st:Int))=true:=decide_eq_true (by omega);have sw:decide (mm<st)=true:=decide_eq_true jr;go_wp2_with fail
      go_ret;obtain⟨A,cap,aF,h1,h2,h3⟩:=nM.out.at_;have eD:=nM.out;subst aF;exact⟨A,_,cap,ej++[a],rfl,rfl,by omega,h1,h2,ou.out,eD,kJ.out,qv.out⟩
     ·have sv:decide ((mm:Int)<(st:Int))=false:=decide_eq_false (by omega);have sw:decide (mm<st)=false:=decide_eq_false jr;have ea:=hX.out (st) (by omega);obtain⟨ki,i_⟩:=pQ.out (st) (by omega) (by omega);obtain⟨y,hy⟩:=aM (a+((st:Nat):Int));rw[hy] at ea ki i_;have ki:=hide ki;have i_:=hide i_;clear hy;go_wp2_with fail
      go_roundw
      case rel=>(repeat apply Exists.intro);exact⟨⟨i-1,y,ej++[a],by go_num,by go_num,by omega,ki,i_,nM,kJ,qv⟩,rfl⟩
      case measure=>simp[intOf];omega
    | true =>
     go_upto_region 20 with (first|(go_at_call 46;(with_reducible refine(HW B b _ kJ.out).mono ?_);rintro e c8 ⟨u,rfl,hu,q2,u8⟩;obtain⟨tC,rfl⟩:=Int.eq_ofNat_of_zero_le hu.1;have Ej:tC<18446744073709551616:=(by have:=hu.2;omega);have q2:=hide q2;have Cx:=hide (qv.out.trans u8);have AK:=hide (nM.out.c7 u8 je);clear hu u8 kJ qv nM)|(go_at_call 36;(with_reducible refine(lJ B b 8 _ i8 q2.out).mono ?_);rintro e cN ⟨s,rfl,hs,F0,u9⟩;obtain⟨x,rfl⟩:=Int.eq_ofNat_of_zero_le hs.1;have hx:x<8:=(by have:=hs.2.1 (by omega);omega);obtain⟨q,aO⟩:∃ q:Nat,1+x=q:=⟨_,rfl⟩;have Gt:(1:Int)+(x:Int)=(q:Int):=(by omega);have aD:=VX (q:=q) (k:=1) Ej (by omega);have bk:=VW tC q;obtain⟨r,xu⟩:=aM (tC >>> q);rw[xu] at bk aD;have nu:r≤9223372036854775807:=(Nat.le_trans aD (by decide));obtain⟨d,hd⟩:=aM (1+r);have e2:IntKind.u64.wrap ((1:Int)+(r:Int))=(d:Int):=(by rw[iT];omega);have oc:q≤64:=(by omega);clear aO aD xu;have F0:=hide F0;have Q6:=hide (Cx.out.trans u9);have r7:=hide (AK.out.c7 u9 je);clear hs u9 q2 Cx AK))
     have zc:1≤d:=by omega
     clear bk e2 Gt hd;by_cases jr:mm<d
     ·have sv:decide ((mm:Int)<(d:Int))=true:=decide_eq_true (by omega);have sw:decide (mm<d)=true:=decide_eq_true jr;go_wp2_with fail
      go_ret;obtain⟨A,cap,aF,h1,h2,h3⟩:=r7.out.at_;have eD:=r7.out;subst aF;exact⟨A,_,cap,ej++[a],rfl,rfl,by omega,h1,h2,ou.out,eD,F0.out,Q6.out⟩
     ·have sv:decide ((mm:Int)<(d:Int))=false:=decide_eq_false (by omega);have sw:decide (mm<d)=false:=decide_eq_false jr;have ea:=hX.out (d) (by omega);obtain⟨ki,i_⟩:=pQ.out (d) (by omega) (by omega);obtain⟨y,hy⟩:=aM (a+((d:Nat):Int));rw[hy] at ea ki i_;have ki:=hide ki;have i_:=hide i_;clear hy;go_wp2_with fail
      go_roundw
      case rel=>(repeat apply Exists.intro);exact⟨⟨i-1,y,ej++[a],by go_num,by go_num,by omega,ki,i_,r7,F0,Q6⟩,rfl⟩
      case measure=>simp[intOf];omega
  ·have d0:decide ((0:Int)<(i:Int))=false:=decide_eq_false (by omega);go_wp2_with fail
   go_ret;obtain⟨A,cap,aF,h1,h2,h3⟩:=bM.out.at_;have eD:=bM.out;subst aF;exact⟨A,_,cap,ej,rfl,rfl,by omega,h1,h2,afd ou.out,eD,iH.out,dR.out⟩
structure Av (W:World) (B:Nat) (A:Option Addr) (n cap:Nat) (m:List Int) (w:World):Prop where
 e:Ext W w
 t:fP W.heap.size w W.heap.size
 o:fJ B w (.slice A n cap) m
 gX:W.heap.size<B
section
variable {W:World}{B:Nat}{A:Option Addr}{n cap:Nat}{m:List Int}{w w':World}
theorem Av.ext (s:Av W B A n cap m w) (k:Ext w w'):Av W B A n cap m w':=⟨s.e.trans k,s.t.ext k,s.o.ext k,s.gX⟩
theorem Av.c7 (s:Av W B A n cap m w) (u:b3 W.heap.size w w') (t:fP W.heap.size w' W.heap.size):Av W B A n cap m w':=⟨b3.ext u s.e (Nat.le_refl _),t,s.o.c7 u s.gX,s.gX⟩
end
end
section
open Go Go.RowKit
attribute [local go_sem] mg A3 bB BX
theorem BN {a:Act}{o:Oper}{w:World}{ty:TypeId}{x i:Operand}{u j v:Value} (aL:o.op=.indexAddr ty x i) (hx:a.eval x=u) (hi:a.eval i=j) (aD:(Instr.indexAt ty u j).run Tryz.prog w=.ok v w):mg Tryz.prog w v ((execOp a.eval o).run Tryz.prog w):=by
 unfold execOp;simp only[aL,hx,hi,Sem.run_bind,aD,Result.andThen_ok,Sem.run_pure];exact⟨rfl,rfl⟩
end
end Go.Proofs.YtojbopibfflnoaaGreat
