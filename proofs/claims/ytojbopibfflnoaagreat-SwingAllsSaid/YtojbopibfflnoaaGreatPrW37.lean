/- Contracts and plain facts; each states its conditions. -/
import Derived.Test.YtojbopibfflnoaaGreatPrW9
import Derived.Test.YtojbopibfflnoaaGreatPrW29
import Derived.Test.YtojbopibfflnoaaGreatPrW32
import Derived.Test.YtojbopibfflnoaaGreatPrW36
import Derived.Deep.MidRow
import Derived.Shelf.Strconv.Itoa0
namespace Go.Proofs.YtojbopibfflnoaaGreat
set_option linter.unusedVariables false
set_option linter.unusedSimpArgs false
set_option maxHeartbeats 16000000
section
def bA (v:Nat):BitVec 32:=BitVec.ofNat 32 (v%2)
end
section
open Go Go.RowKit
def DK (k n:Nat):List Nat:=k :: UH n 4
def Xu (l:List Nat) (n:Nat) (w:World) (e:Ending) (w':World):Prop:=∃ A cap,e=.returned (.slice A n cap)∧l.length=n∧n≤cap∧cap≤9223372036854775807∧iw w.heap.size w' (.slice A n cap) l∧jW w' A l∧Ext w w'
theorem QR.len {l:List Nat}{n:Nat}{w:World}{e:Ending}{w':World} (hn:l.length=n) (h:QR l w e w'):Xu l n w e w':=by
 subst hn;obtain⟨v,rfl,eD,ad⟩:=h;obtain⟨A,cap,rfl,h1,h2,hb⟩:=eD.at_;exact⟨A,cap,rfl,rfl,h1,h2,eD,hb,ad⟩
attribute [local go_sem] mg nV qf
end
section
open Go Go.RowKit
def Qa (x:List Nat) (n:Nat) (W:World) (e:Ending) (w':World):Prop:=∃ v,e=.returned (.tuple #[v,.int .i64 (n:Int)])∧iw W.heap.size w' v x∧Ext W w'
def QL (r:List Nat × Int × Int) (W:World) (e:Ending) (w':World):Prop:=∃ v,e=.returned (.tuple #[v,.int .i64 r.2.1,.int .i64 r.2.2])∧iN W.heap.size w' v r.1∧Ext W w'
theorem QL.parts {r:List Nat × Int × Int}{W:World}{e:Ending}{w':World} (h:QL r W e w'):∃ A cap,e=.returned (.tuple #[.slice A r.1.length cap,.int .i64 r.2.1,.int .i64 r.2.2])∧r.1.length≤cap∧cap≤9223372036854775807∧iN W.heap.size w' (.slice A r.1.length cap) r.1∧lS w' A r.1∧Ext W w':=by
 obtain⟨v,rfl,eD,ad⟩:=h;obtain⟨A,cap,rfl,h1,h2,h3⟩:=eD.at_;exact⟨A,cap,rfl,h1,h2,eD,h3,ad⟩
theorem Qa.parts {x:List Nat}{n:Nat}{W:World}{e:Ending}{w':World} (h:Qa x n W e w'):∃ A cap,e=.returned (.tuple #[.slice A x.length cap,.int .i64 (n:Int)])∧x.length≤cap∧cap≤9223372036854775807∧iw W.heap.size w' (.slice A x.length cap) x∧jW w' A x∧Ext W w':=by
 obtain⟨v,rfl,eD,ad⟩:=h;obtain⟨A,cap,rfl,h1,h2,h3⟩:=eD.at_;exact⟨A,cap,rfl,h1,h2,eD,h3,ad⟩
end
section
open Go Go.RowKit
theorem QV.parts {o:Option (List Nat)}{W:World}{e:Ending}{w':World} (h:QV o W e w'):∃ A cap,e=.returned (.tuple #[.slice A (o.getD []).length cap,.bool o.isSome])∧(o.getD []).length≤cap∧cap≤9223372036854775807∧iw W.heap.size w' (.slice A (o.getD []).length cap) (o.getD [])∧jW w' A (o.getD [])∧Ext W w':=by
 obtain⟨v,rfl,eD,ad⟩:=h;obtain⟨A,cap,rfl,h1,h2,h3⟩:=eD.at_;exact⟨A,cap,rfl,h1,h2,eD,h3,ad⟩
theorem Q7.parts {o:Option (List Nat)}{W:World}{e:Ending}{w':World} (h:Q7 o W e w'):∃ A cap,e=.returned (.tuple #[.slice A (o.getD []).length cap,.bool o.isSome])∧(o.getD []).length≤cap∧cap≤9223372036854775807∧iN W.heap.size w' (.slice A (o.getD []).length cap) (o.getD [])∧lS w' A (o.getD [])∧Ext W w':=by
 obtain⟨v,rfl,eD,ad⟩:=h;obtain⟨A,cap,rfl,h1,h2,h3⟩:=eD.at_;exact⟨A,cap,rfl,h1,h2,eD,h3,ad⟩
structure Au (W:World) (B:Nat) (A:Option Addr) (n cap:Nat) (m:List Nat) (w:World):Prop where
 e:Ext W w
 t:fP W.heap.size w W.heap.size
 o:iN B w (.slice A n cap) m
 gX:W.heap.size<B
section
variable {W:World}{B:Nat}{A:Option Addr}{n cap:Nat}{m:List Nat}{w w':World}
theorem Au.ext (s:Au W B A n cap m w) (k:Ext w w'):Au W B A n cap m w':=⟨s.e.trans k,s.t.ext k,s.o.ext k,s.gX⟩
theorem Au.c7 (s:Au W B A n cap m w) (u:b3 W.heap.size w w') (t:fP W.heap.size w' W.heap.size):Au W B A n cap m w':=⟨b3.ext u s.e (Nat.le_refl _),t,s.o.c7 u s.gX,s.gX⟩
end
end
section
open Go Go.RowKit
def ko (l:List Int):Prop:=∀ x∈l,de x
theorem GI {l:List Int}{k:Nat} (h:k<l.length):l.getD k 0=l[k]:=by simp[List.getD_eq_getElem?_getD,h]
theorem V' {l:List Int}{k:Nat} (h:k<l.length):l.take (k+1)=l.take k++[l.getD k 0]:=by
 rw[GI h,List.take_succ_eq_append_getElem h]
theorem ko.nil:ko []:=by intro x hx;simp at hx
theorem ko.app {l m:List Int} (h:ko l) (k:ko m):ko (l++m):=by
 intro x hx;rcases List.mem_append.1 hx with a|a
 ·exact h x a
 ·exact k x a
theorem ko.one {x:Int} (h:de x):ko [x]:=by intro y hy;simp at hy;subst hy;exact h
theorem ko.take {l:List Int} (h:ko l) (k:Nat):ko (l.take k):=fun x hx=>h x (List.mem_of_mem_take hx)
theorem ko.drop {l:List Int} (h:ko l) (k:Nat):ko (l.drop k):=fun x hx=>h x (List.mem_of_mem_drop hx)
theorem ko.get {l:List Int} (h:ko l) (k:Nat):de (l.getD k 0):=by
 rw[List.getD_eq_getElem?_getD];cases aE:l[k]? with
 | none=>exact⟨by simp,by simp⟩
 | some x=>exact h x (List.mem_of_getElem? aE)
def hT (l:List Int):List Value:=l.map fun x:Int=>Value.int .i64 x
theorem OD (l:List Int):(hT l).length=l.length:=by simp[hT]
theorem ak_ (l:List Int):∀ u∈hT l,u.oneCell'=true:=by
 intro u hu;simp only[hT,List.mem_map] at hu;obtain⟨x,_,rfl⟩:=hu;rfl
theorem V_ (l m:List Int):hT (l++m)=hT l++hT m:=by simp[hT]
def hE (w:World) (A:Option Addr) (l:List Int):Prop:=
 ko l∧l.length≤9223372036854775807∧(0<l.length→∃ b off,A=some ⟨b,off,none⟩∧b<w.heap.size∧∀ j,j<l.length→w.cell? ⟨b,off+j,none⟩=some (.int .i64 (l.getD j 0)))
theorem hE.nil (w:World) (A:Option Addr):hE w A []:=⟨ko.nil,by simp,fun h=>absurd h (by simp)⟩
theorem hE.ext {w w':World}{A:Option Addr}{l:List Int} (h:hE w A l) (e:Ext w w'):hE w' A l:=
 ⟨h.1,h.2.1,fun hp=>by
  obtain⟨b,off,hA,hb,hc⟩:=h.2.2 hp;exact⟨b,off,hA,Nat.lt_of_lt_of_le hb e.size,fun j aN=>(e.cell (p:=⟨b,off+j,none⟩) hb).trans (hc j aN)⟩⟩
theorem hE.keep {w w':World}{A:Option Addr}{l:List Int} (h:hE w A l) (hs:w.heap.size≤w'.heap.size) (e:∀ b off,A=some ⟨b,off,none⟩→b<w.heap.size→w'.heap[b]?=w.heap[b]?):hE w' A l:=
 ⟨h.1,h.2.1,fun hp=>by
  obtain⟨b,off,hA,hb,hc⟩:=h.2.2 hp;exact⟨b,off,hA,Nat.lt_of_lt_of_le hb hs,fun j aN=>(World.cell?_of_block (a:=⟨b,off+j,none⟩) (e b off hA hb)).trans (hc j aN)⟩⟩
theorem hE.drop {w:World}{A:Option Addr}{l:List Int} (h:hE w A l) (k cap:Nat) (hc:l.length≤cap) :
 hE w (if cap=k then A else A.map (·.add (k*1))) (l.drop k):=by
 refine⟨h.1.drop k,by rw[List.length_drop];have:=h.2.1;omega,fun hp=>?_⟩;rw[List.length_drop] at hp;obtain⟨b,off,rfl,hb,gy⟩:=h.2.2 (by omega);rw[if_neg (by omega)];refine⟨b,off+k,by
  simp only[Option.map_some,Option.some.injEq];unfold Addr.add;split
  ·rename_i h0;simp only[Addr.mk.injEq,and_true,true_and];omega
  ·simp,hb,fun j aN=>?_⟩
 rw[List.length_drop] at aN;rw[Nat.add_assoc,gy (k+j) (by omega)];simp[List.getD_eq_getElem?_getD,List.getElem?_drop]
theorem hE.take {w:World}{A:Option Addr}{l:List Int} (h:hE w A l) (k:Nat):hE w A (l.take k):=by
 refine⟨h.1.take k,by rw[List.length_take];have:=h.2.1;omega,fun hp=>?_⟩;rw[List.length_take] at hp;obtain⟨b,off,rfl,hb,gy⟩:=h.2.2 (by omega);refine⟨b,off,rfl,hb,fun j aN=>?_⟩;rw[List.length_take] at aN;rw[gy j (by omega)];simp[List.getD_eq_getElem?_getD,List.getElem?_take,show j<k by omega]
theorem TK:(Tryz.prog.info? 2).map (fun i=>(i.zero,i.size,i.bytes))=some (some (.int .i64 0),1,8):=by kernel_rfl
def fJ (B:Nat) (w:World) (v:Value) (l:List Int):Prop:=w.ownsRow B 2 1 v l.length (hT l)∧ko l
theorem fJ.at_ {B:Nat}{w:World}{v:Value}{l:List Int} (h:fJ B w v l):∃ A cap,v=.slice A l.length cap∧l.length≤cap∧cap≤9223372036854775807∧hE w A l:=by
 rcases h.1.2 with ⟨rfl,h0⟩|⟨g,cap,cur,rfl,af,hh,nr,jP,hcs,Bp⟩
 ·obtain rfl:l=[]:=List.length_eq_zero_iff.1 h0;exact⟨none,0,rfl,Nat.le_refl _,by omega,hE.nil _ _⟩
 ·unfold maxLen at jP;refine⟨_,cap,rfl,nr,jP,h.2,by omega,fun _=>⟨g,0,rfl,(Array.getElem?_eq_some_iff.1 hh).1,fun j aN=>?_⟩⟩;have:=h.1.cells (g:=g) rfl j (Value.int .i64 (l.getD j 0)) (by rw[GI aN];simp[hT,aN]);have e:(⟨g,0,none⟩:Addr).add j=⟨g,0+j,none⟩:=by unfold Addr.add;split<;>simp_all
  rw[e] at this
  exact this
theorem fJ.kept {B:Nat}{w w':World}{v:Value}{l:List Int} (h:fJ B w v l) {row:Option Nat} (af:w.grownBy w' row) (dB:v.ownBlock=none∨v.ownBlock≠row):fJ B w' v l:=⟨h.1.kept af dB,h.2⟩
theorem fJ.alloc {B:Nat}{w:World}{v:Value}{l:List Int} (h:fJ B w v l) (o:Obj):fJ B (w.alloc o) v l:=⟨h.1.alloc o,h.2⟩
theorem fJ.drew {B:Nat}{w:World}{v:Value}{l:List Int} (h:fJ B w v l):fJ B w.drew v l:=h
theorem fJ.jT (B:Nat) (w:World):fJ B w (.slice none 0 0) []:=⟨World.ownsRow_nil _ _ _ _,ko.nil⟩
theorem fJ.keep {B:Nat}{w w':World}{v:Value}{l:List Int} (h:fJ B w v l) (hs:w.heap.size≤w'.heap.size) (e:∀ g,v.ownBlock=some g→w'.heap[g]?=w.heap[g]?):fJ B w' v l:=by
 refine⟨?_,h.2⟩;obtain⟨h1,h2|⟨g,cap,cur,aF,af,hh,r⟩⟩:=h.1
 ·exact⟨h1,Or.inl h2⟩
 ·exact⟨h1,Or.inr ⟨g,cap,cur,aF,af,by rw[e g (by rw[aF];rfl)];exact hh,r⟩⟩
theorem fJ.ext {B:Nat}{w w':World}{v:Value}{l:List Int} (h:fJ B w v l) (e:Ext w w'):fJ B w' v l:=by
 refine⟨?_,h.2⟩;obtain⟨h1,h2|⟨g,cap,cur,aF,af,hh,r⟩⟩:=h.1
 ·exact⟨h1,Or.inl h2⟩
 ·exact⟨h1,Or.inr ⟨g,cap,cur,aF,af,by rw[e.block g (Array.getElem?_eq_some_iff.1 hh).1];exact hh,r⟩⟩
theorem fJ.less {B fc:Nat}{w:World}{v:Value}{l:List Int} (h:fJ B w v l) (bF:fc≤B):fJ fc w v l:=by
 refine⟨?_,h.2⟩;obtain⟨h1,h2|⟨g,cap,cur,aF,af,r⟩⟩:=h.1
 ·exact⟨h1,Or.inl h2⟩
 ·exact⟨h1,Or.inr ⟨g,cap,cur,aF,by omega,r⟩⟩
theorem aie {w:World}{B:Nat}{g n cap:Nat}{l m:List Int} (bF:B≤g) (hh:w.heap[g]?=some (.cells (hT (l++m)).toArray 2 (0,0))) (hn:l.length=n) (hc:cap=n+m.length) (hm:cap≤9223372036854775807) (hb:ko l):fJ B w (.slice (some ⟨g,0,none⟩) n cap) l:=by
 subst hn hc;refine⟨⟨by rw[OD];omega,Or.inr ⟨g,_,_,rfl,bF,hh,by omega,by unfold maxLen;omega,by simp[hT],?_⟩⟩,hb⟩;rw[V_];simp[hT]
theorem agz (n:Nat):(madeCells (Value.int .i64 0).cells (n*1)).toList=hT (List.replicate n 0):=by
 simp only[hT,madeCells,Value.cells,Nat.mul_one,List.map_replicate];apply List.ext_getElem
 ·simp
 ·intro i h1 h2;simp[Nat.mod_one]
theorem akq (B:Nat) (w:World) (ty:TypeId) (v:Value) (ai l:List Int) (gn:fJ B w v ai) (A:Option Addr) (m c:Nat) (hb:hE w A l) (hm:l.length=m) (hlen:ai.length+l.length≤17592186044416) (sI:B≤w.heap.size) :
 ∃ v' w',(Builtin.append_ #[79,79] ty #[v,.slice A m c]).run Tryz.prog w=.ok v' w'∧fJ B w' v' (ai++l)∧w.grownBy w' v.ownBlock∧(v'.ownBlock=v.ownBlock∨v'.ownBlock=some w.heap.size):=by
 subst hm;obtain⟨i0,j5,bf,l3,lz⟩:=info_parts TK;have h63:ai.length+l.length≤maxLen:=by unfold maxLen;omega
 rcases A with _|sm
 ·have h0:l=[]:=by
   rcases Nat.eq_zero_or_pos l.length with h|h
   ·exact List.length_eq_zero_iff.1 h
   ·obtain⟨b,off,h',_⟩:=hb.2.2 h;cases h'
  subst h0;refine⟨v,w,?_,by rw[List.append_nil];exact gn,World.grownBy.refl w _,.inl rfl⟩;rcases gn.1.2 with ⟨rfl,_⟩|⟨g,cap,cur,rfl,_,_,nr,_⟩
  ·simp[Builtin.append_,run_underlying Tryz.underlying79,sizeOf,typeInfo,j5,Builtin.lenOf,Builtin.firstCells]
  ·simp[Builtin.append_,run_underlying Tryz.underlying79,sizeOf,typeInfo,j5,Builtin.lenOf,Builtin.firstCells,nr,storeCells]
 ·have DJ:∀ j u,(hT l)[j]?=some u→w.cell? (sm.add j)=some u:=by
   intro j u hu;have aN:j<l.length:=by
    rcases Nat.lt_or_ge j (hT l).length with h|h
    ·rwa [OD] at h
    ·rw[List.getElem?_eq_none h] at hu;cases hu
   obtain⟨b,off,h',_,hc⟩:=hb.2.2 (by omega);obtain rfl:sm=⟨b,off,none⟩:=Option.some.inj h';rw[F9,hc j aN,←hu,GI aN];simp[hT,aN]
  obtain⟨v',w',qG,h2,h3,_,h5⟩:=run_append_own_at (P:=Tryz.prog) w B 79 ty 2 i0 _ 1 8 Tryz.underlying79 j5 bf l3 lz rfl (by omega) v ai.length (hT ai) gn.1 sm l.length c (hT l) (by rw[OD];omega) DJ (ak_ l) h63 (by omega) sI;refine⟨v',w',qG,⟨?_,gn.2.app hb.1⟩,h3,h5⟩;rw[V_,List.length_append];exact h2
theorem Wt {ops:Array Oper}{rest:List Oper}{o:Oper}{a:Act}{Q:Exit→Act→World→Prop}{w:World} (ky:o.guard=none) (s x:Operand)
 (aL:o.op=.call { callee:=.builtin .append,args:=#[s,x],argTypes:=#[79,79] })
 (B:Nat) (v:Value) (ai l:List Int) (hs:a.eval s=v) (gn:fJ B w v ai) (A:Option Addr) (m c:Nat) (hx:a.eval x=.slice A m c) (hb:hE w A l) (hm:l.length=m) (hlen:ai.length+l.length≤17592186044416) (sI:B≤w.heap.size)
 (h:∀ v' w',fJ B w' v' (ai++l)→w.grownBy w' v.ownBlock→(v'.ownBlock=v.ownBlock∨v'.ownBlock=some w.heap.size)→wpList Tryz.prog ops Q rest (a.put o.dst v') w'):wpList Tryz.prog ops Q (o :: rest) a w:=
 wpList_plain ky fun _ cQ=>by
  obtain⟨v',w',qG,h2,h3,h4⟩:=akq B w o.type v ai l gn A m c hb hm hlen sI;unfold Oper.wp execOp;simp only[aL,resolve,invoke,builtin,Sem.run_bind,Sem.run_pure,Result.andThen_ok,List.map_toArray,List.map_cons,List.map_nil,hs,hx,qG];exact cQ _ _ (h v' w' h2 h3 h4)
theorem UL (w:World) (x:Int) (hx:de x) (u:Value) (hu:u=.int .i64 x):hE (w.alloc (.cells #[u] 2)) (some ⟨w.heap.size,0,none⟩) [x]:=by
 subst hu;refine⟨ko.one hx,by simp,fun _=>⟨w.heap.size,0,rfl,by simp,fun j aN=>?_⟩⟩;obtain rfl:j=0:=by simpa using aN
 rw[World.cell?_alloc_at _ _ _ _ rfl];rfl
theorem fJ.c7 {B b:Nat}{w w':World}{v:Value}{l:List Int} (h:fJ B w v l) (u:b3 b w w') (hb:b<B):fJ B w' v l:=by
 refine⟨?_,h.2⟩;obtain⟨h1,h2|⟨g,cap,cur,aF,af,hh,r⟩⟩:=h.1
 ·exact⟨h1,Or.inl h2⟩
 ·exact⟨h1,Or.inr ⟨g,cap,cur,aF,af,by rw[u.2.2.2.2 g (Array.getElem?_eq_some_iff.1 hh).1 (by omega)];exact hh,r⟩⟩
theorem hE.c7 {b:Nat}{w w':World}{A:Option Addr}{l:List Int} (h:hE w A l) (u:b3 b w w') (hb:∀ g off,A=some ⟨g,off,none⟩→g≠b):hE w' A l:=
 h.keep u.2.2.2.1 fun g off hA af=>u.2.2.2.2 g af (hb g off hA)
theorem aks (n m:Nat) (G4:n≤m) (hm:m≤35184372088832) (w:World):(Instr.makeSlice 79 (.int .i64 (n:Int)) (.int .i64 (m:Int))).run Tryz.prog w=.ok (.slice (some ⟨w.heap.size,0,none⟩) n m) (w.alloc (.cells (hT (List.replicate m 0)).toArray 2)):=by
 obtain⟨i0,j5,bf,l3,lz⟩:=info_parts TK;have:=run_make (P:=Tryz.prog) w 79 2 i0 (.int .i64 0) Tryz.underlying79 j5 bf .i64 .i64 (n:Int) (m:Int) (by omega) (by omega) (by rw[lz];omega) (by omega);rw[this,l3,Int.toNat_natCast,Int.toNat_natCast];have e:madeCells (Value.int .i64 0).cells (m*1)=(hT (List.replicate m 0)).toArray:=by
  rw[←agz m]
 rw[e]
theorem Bv (b off N cap j:Nat) (h:j<N) (w:World):(Instr.indexAt 79 (.slice (some ⟨b,off,none⟩) N cap) (.int .i64 (j:Int))).run Tryz.prog w=.ok (.pointer (some ⟨b,off+j,none⟩)) w:=by
 have hz:=Tryz.sizeOf2;have he:Tryz.prog.elem 79=2:=by kernel_rfl
 have aD:=run_indexAt_slice (P:=Tryz.prog) (w:=w) 79 ⟨b,off,none⟩ N cap .i64 (j:Int) (by kernel_rfl);rw[aD,if_pos ⟨by omega,by omega⟩,he,hz];simp[Result.andThen,F9]
theorem UO {w:World}{A:Option Addr}{c cap B:Nat}{l:List Int} (h:fJ B w (.slice A c cap) l):hE w A l:=by
 obtain⟨A',Gf,he,_,_,hw⟩:=h.at_;cases he
 exact hw
def jx (l:List Int):Bool:=decide (∀ i,i<l.length-1→l.getD i 0<l.getD (i+1) 0)
theorem Bw {l:List Int}:jx l=true↔∀ i,i+1<l.length→l.getD i 0<l.getD (i+1) 0:=by
 unfold jx;rw[decide_eq_true_iff];exact⟨fun h i hi=>h i (by omega),fun h i hi=>h i (by omega)⟩
theorem GJ {l:List Int} (m:List Int) {i:Nat} (h:i<l.length):(l++m).getD i 0=l.getD i 0:=by
 simp only[List.getD_eq_getElem?_getD,List.getElem?_append_left h]
theorem Sk (l:List Int) (x:Int):(l++[x]).getD l.length 0=x:=by simp[List.getD_eq_getElem?_getD]
theorem afe {l:List Int}{i:Nat} (h:jx l=true) (hl:l.length=i+1) {x:Int} (hx:l.getD i 0<x):jx (l++[x])=true:=by
 rw[Bw] at h ⊢;intro j aN;rw[List.length_append,List.length_singleton] at aN;rw[GJ [x] (by omega)];by_cases ad8:j=i
 ·subst ad8;have:=Sk l x;rw[hl] at this
  rw[this];exact hx
 ·rw[GJ [x] (by omega)];exact h j (by omega)
theorem Oe {k:IntKind}{a a':Int} (h1:a=a'):Ending.returned (Value.int k a)=.returned (.int k a'):=by rw[h1]
theorem JX {a b:Int} (ha:de a) (hb:de b) (h:b≤a):IntKind.u64.wrap (IntKind.u64.wrap a-IntKind.u64.wrap b)=(((a-b).natAbs:Nat):Int):=by
 unfold de at ha hb;have w:∀ n:Int,IntKind.u64.wrap n=n%18446744073709551616:=fun n=>by simp[IntKind.wrap,IntKind.bits,IntKind.signed]
 rw[w,w,w];omega
theorem UT (a b:Int) (w:World) (ha:de a) (hb:de b) (h:b≤a):Calls Tryz.prog 114 #[.int .i64 a,.int .i64 b] w (Cu (.int .u64 ((a-b).natAbs:Nat)) w):=by
 have e:=hide (JX ha hb h);obtain⟨a1,a2⟩:=ha;obtain⟨bA,bX⟩:=hb;go_enter Tryz.func114,Tryz.ntmps114
 go_wp2
 all_goals (first|go_ret|(exfalso;simp_all;done))
 all_goals exact⟨Oe e.out,rfl⟩
theorem aiR (a b:Int) (w:World) (ha:de a) (hb:de b):Calls Tryz.prog 96 #[.int .i64 a,.int .i64 b] w (Cu (.int .u64 ((a-b).natAbs:Nat)) w):=by
 by_cases h:a<b
 ·have K:=hide (fun w=>UT b a w hb ha (by omega));have hd:decide (a<b)=true:=decide_eq_true h;rw[show (b-a).natAbs=(a-b).natAbs by omega] at K;clear ha hb;go_enter Tryz.func96,Tryz.ntmps96
  go_wp2_with (go_at_call 114;(with_reducible refine(K.out _).mono ?_);rintro e w3 ⟨rfl,rfl⟩)
  go_ret;exact⟨rfl,rfl⟩
 ·have K:=hide (fun w=>UT a b w ha hb (by omega));have hd:decide (a<b)=false:=decide_eq_false h;clear ha hb;go_enter Tryz.func96,Tryz.ntmps96
  go_wp2_with (go_at_call 114;(with_reducible refine(K.out _).mono ?_);rintro e w3 ⟨rfl,rfl⟩)
  go_ret;exact⟨rfl,rfl⟩
theorem ajE (a b:Int) (w:World) (ha:de a) (hb:de b):Calls Tryz.prog 21 #[.int .i64 a,.int .i64 b] w (Cu (.int .u64 ((a-b).natAbs:Nat)) w):=by
 by_cases h:a<b
 ·have e:=hide (JX hb ha (by omega));rw[show (b-a).natAbs=(a-b).natAbs by omega] at e;obtain⟨a1,a2⟩:=ha;obtain⟨bA,bX⟩:=hb;have hd:decide (a<b)=true:=decide_eq_true h;go_enter Tryz.func21,Tryz.ntmps21
  go_wp2_with fail
  go_ret;exact⟨Oe e.out,rfl⟩
 ·have e:=hide (JX ha hb (by omega));obtain⟨a1,a2⟩:=ha;obtain⟨bA,bX⟩:=hb;have hd:decide (a<b)=false:=decide_eq_false h;go_enter Tryz.func21,Tryz.ntmps21
  go_wp2_with fail
  go_ret;exact⟨Oe e.out,rfl⟩
set_option maxRecDepth 100000 in
theorem ai4 (A:Option Addr) (n c:Nat) (l:List Int) (W:World) (hl:hE W A l) (hn:l.length=n) (v:Bool) (aF:jx l=v) :
 Calls Tryz.prog 77 #[.slice A n c] W (aP (.bool v) W):=by
 have hlen:=hl.2.1;rw[hn] at hlen;have cz:=hide hl;have n0:=hide hn;have Cj:=hide aF;clear hl hn aF;go_enter Tryz.func77,Tryz.ntmps77
 go_wp2_with fail
 go_loopw [3] (fun i wr=>∃ m:Nat,(m=0∨m<n)∧i=.int .i64 ((m:Int)+1)∧Hid (Ext W wr)∧Hid (∀ j,j<m→l.getD j 0<l.getD (j+1) 0)) (fun i _=>n-(intOf i).toNat)
 case atStart=>exact⟨0,Or.inl rfl,rfl,hide (Ext.refl _),hide (by omega)⟩
 case round =>
  obtain⟨m,hm,rfl,E,T⟩:=hrel;by_cases cl:m+1<n
  ·have dP:m+1<l.length:=by rw[n0.out];exact cl
   obtain⟨b,off,rfl,sH,eS⟩:=(cz.out.ext E.out).2.2 (by omega);have d1:=eS m (by omega);have d2:=eS (m+1) dP;have afs:∀ w,(Instr.indexAt 79 (.slice (some ⟨b,off,none⟩) n c) (.int .i64 ((m:Int)+1))).run Tryz.prog w=.ok (.pointer (some ⟨b,off+(m+1),none⟩)) w:=fun w=>Bv b off n c (m+1) cl w
   have aft:=fun w=>Bv b off n c m (by omega) w
   have hs:Hid (l.getD m 0<l.getD (m+1) 0→∀ j,j<m+1→l.getD j 0<l.getD (j+1) 0):=hide (fun h j aN=>by
    by_cases e:j=m
    ·subst e;exact h
    ·exact T.out j (by omega))
   have dB:Hid (¬ l.getD m 0<l.getD (m+1) 0→jx l=false):=hide (fun h=>by
    rw[Bool.eq_false_iff,ne_eq,Bw];exact fun q=>h (q m dP))
   obtain⟨x,hx⟩:=aM (l.getD m 0);obtain⟨y,hy⟩:=aM (l.getD (m+1) 0);rw[hx] at d1 hs dB;rw[hy] at d2 hs dB;have d3:decide ((m:Int)+1<(n:Int))=true:=decide_eq_true (by omega);clear eS hx hy dP sH;by_cases j7:x<y
   ·have q:decide (y≤x)=false:=decide_eq_false (by omega);have IW:=hide j7;clear j7;go_wp2_with fail
    go_quiet (fail)
    go_wp2_with fail
    go_roundw
    case rel=>exact⟨m+1,Or.inr cl,by go_num,hide (E.out.trans (nR _ _)),hide (hs.out IW.out)⟩
    case measure=>simp[intOf];omega
   ·have q:decide (y≤x)=true:=decide_eq_true (by omega);have IV:=hide (dB.out j7);go_wp2_with fail
    go_quiet (fail)
    go_wp2_with fail
    go_ret;refine⟨?_,E.out.trans (nR _ _)⟩;rw[←Cj.out,IV.out];rfl
  ·have d3:decide ((m:Int)+1<(n:Int))=false:=decide_eq_false (by omega);go_wp2_with fail
   go_ret;refine⟨?_,E.out⟩;have e:jx l=true:=Bw.2 fun j aN=>T.out j (by have:=n0.out;omega)
   rw[←Cj.out,e];rfl
end
end Go.Proofs.YtojbopibfflnoaaGreat
