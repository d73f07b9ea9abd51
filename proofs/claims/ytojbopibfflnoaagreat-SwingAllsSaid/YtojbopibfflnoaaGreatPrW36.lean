/- Contracts and plain facts; each states its conditions. -/
import Derived.Test.YtojbopibfflnoaaGreatPrW4
import Derived.Test.YtojbopibfflnoaaGreatPrW9
import Derived.Test.YtojbopibfflnoaaGreatPrW10
import Derived.Test.YtojbopibfflnoaaGreatPrW16
import Derived.Test.YtojbopibfflnoaaGreatPrW29
import Derived.Test.YtojbopibfflnoaaGreatPrW32
import Derived.Test.YtojbopibfflnoaaGreatPrW33
import Derived.Test.YtojbopibfflnoaaGreatPrW35
import Derived.WalkKit
import Derived.ProofKit
import Derived.OpenShut
import Derived.ShutString
import Derived.ChangeOld
import Derived.Lib.SmallJoins
import Derived.Lib.BitFns
import Derived.KernelRfl
import Derived.Shelf.Strconv.Itoa0
namespace Go.Proofs.YtojbopibfflnoaaGreat
set_option linter.unusedVariables false
set_option linter.unusedSimpArgs false
set_option maxHeartbeats 16000000
section
open Go Go.RowKit
section
open Go Go.ChangeShapes Go.WideShapes Go.ChangeAt Go.RowKit
theorem laidOut:laidOutB Tryz.prog=true:=by kernel_rfl
theorem af2 {H:Type}{enc:TypeId × Value→H}{W:World}{a:Option Addr}{len cap:Nat}{d:DataW H}{ps:List MemPlace} (h:DataW.Trod enc Tryz.prog W 0 (fun _=>true) true 34 (.slice a len cap) d ps) (_:∀ x∈ps,x.block<W.heap.size):yq W a len cap:=by
 obtain⟨fuel,hf⟩:=h;rcases open_ints Tryz.underlying34 Tryz.underlying3 (by kernel_rfl) hf with ⟨hcs,_⟩|⟨x,l,c,zs,hcs,_,hl,hm,hz,_,hcell,aeV⟩
 ·simp[Value.cells] at hcs;obtain⟨rfl,rfl,rfl⟩:=hcs;exact⟨by omega,Or.inl rfl⟩
 ·simp[Value.cells] at hcs;obtain⟨rfl,rfl,rfl⟩:=hcs;have hz:zs.length=cap:=by simpa using hz
  unfold maxLen at hm;refine⟨by omega,?_⟩;by_cases h0:len=0
  ·exact Or.inl h0
  ·obtain⟨b,off,rfl,za⟩:=ints_at hcell (by omega);refine Or.inr ⟨b,off,rfl,block_lt_of_cell (a:=⟨b,off+0,none⟩) (za 0 (by omega)),hl,fun i hi=>⟨zs.getD i 0,?_,za i (by omega)⟩⟩;have af:zs.getD i 0=zs[i]:=by simp[List.getD,show i<zs.length by omega]
   rw[af];exact bounds_i64 (aeV _ (List.getElem_mem _))
end
section
open Go Go.ChangeShapes Go.WideShapes Go.ChangeAt Go.RowKit
end
end
section
open Go Go.RowKit
def Fit (l:List Nat) (w:Nat):Prop:=∀ x∈l,x<2 ^ w
theorem Fit.tail {x:Nat}{l:List Nat}{w:Nat} (h:Fit (x :: l) w):Fit l w:=fun y hy=>h y (List.mem_cons_of_mem _ hy)
def mE (l:List Nat):Prop:=∀ x∈l,x<18446744073709551616
end
section
open Go Go.RowKit
def bm (C i:Nat):Nat:=C / 18446744073709551616 ^ i%18446744073709551616
end
section
open Go Go.RowKit
theorem mE.nil:mE []:=by intro x hx;simp at hx
theorem mE.app {l m:List Nat} (h:mE l) (k:mE m):mE (l++m):=by
 intro x hx;rcases List.mem_append.1 hx with a|a
 ·exact h x a
 ·exact k x a
theorem mE.one {x:Nat} (h:x<18446744073709551616):mE [x]:=by intro y hy;simp at hy;omega
theorem mE.take {l:List Nat} (h:mE l) (k:Nat):mE (l.take k):=fun x hx=>h x (List.mem_of_mem_take hx)
theorem mE.drop {l:List Nat} (h:mE l) (k:Nat):mE (l.drop k):=fun x hx=>h x (List.mem_of_mem_drop hx)
theorem mE.get {l:List Nat} (h:mE l) (k:Nat):l.getD k 0<18446744073709551616:=by
 rw[List.getD_eq_getElem?_getD];cases aE:l[k]? with
 | none=>simp
 | some x=>exact h x (List.mem_of_getElem? aE)
def Vc (l:List Nat):List Value:=l.map fun x:Nat=>Value.int .u64 (x:Int)
def lS (w:World) (A:Option Addr) (l:List Nat):Prop:=
 mE l∧l.length≤9223372036854775807∧(0<l.length→∃ b off,A=some ⟨b,off,none⟩∧b<w.heap.size∧∀ j,j<l.length→w.cell? ⟨b,off+j,none⟩=some (.int .u64 ((l.getD j 0:Nat):Int)))
theorem lS.nil (w:World) (A:Option Addr):lS w A []:=⟨mE.nil,by simp,fun h=>absurd h (by simp)⟩
theorem lS.ext {w w':World}{A:Option Addr}{l:List Nat} (h:lS w A l) (e:Ext w w'):lS w' A l:=
 ⟨h.1,h.2.1,fun hp=>by
  obtain⟨b,off,hA,hb,hc⟩:=h.2.2 hp;exact⟨b,off,hA,Nat.lt_of_lt_of_le hb e.size,fun j aN=>(e.cell (p:=⟨b,off+j,none⟩) hb).trans (hc j aN)⟩⟩
theorem lS.keep {w w':World}{A:Option Addr}{l:List Nat} (h:lS w A l) (hs:w.heap.size≤w'.heap.size) (e:∀ b off,A=some ⟨b,off,none⟩→b<w.heap.size→w'.heap[b]?=w.heap[b]?):lS w' A l:=
 ⟨h.1,h.2.1,fun hp=>by
  obtain⟨b,off,hA,hb,hc⟩:=h.2.2 hp;exact⟨b,off,hA,Nat.lt_of_lt_of_le hb hs,fun j aN=>(World.cell?_of_block (a:=⟨b,off+j,none⟩) (e b off hA hb)).trans (hc j aN)⟩⟩
theorem lS.drop {w:World}{A:Option Addr}{l:List Nat} (h:lS w A l) (k cap:Nat) (hc:l.length≤cap) :
 lS w (if cap=k then A else A.map (·.add (k*1))) (l.drop k):=by
 refine⟨h.1.drop k,by rw[List.length_drop];have:=h.2.1;omega,fun hp=>?_⟩;rw[List.length_drop] at hp;obtain⟨b,off,rfl,hb,gy⟩:=h.2.2 (by omega);rw[if_neg (by omega)];refine⟨b,off+k,by
  simp only[Option.map_some,Option.some.injEq];unfold Addr.add;split
  ·rename_i h0;simp only[Addr.mk.injEq,and_true,true_and];omega
  ·simp,hb,fun j aN=>?_⟩
 rw[List.length_drop] at aN;rw[Nat.add_assoc,gy (k+j) (by omega)];simp[List.getD_eq_getElem?_getD,List.getElem?_drop]
theorem lS.take {w:World}{A:Option Addr}{l:List Nat} (h:lS w A l) (k:Nat):lS w A (l.take k):=by
 refine⟨h.1.take k,by rw[List.length_take];have:=h.2.1;omega,fun hp=>?_⟩;rw[List.length_take] at hp;obtain⟨b,off,rfl,hb,gy⟩:=h.2.2 (by omega);refine⟨b,off,rfl,hb,fun j aN=>?_⟩;rw[List.length_take] at aN;rw[gy j (by omega)];simp[List.getD_eq_getElem?_getD,List.getElem?_take,show j<k by omega]
def iN (B:Nat) (w:World) (v:Value) (l:List Nat):Prop:=w.ownsRow B 24 1 v l.length (Vc l)∧mE l
theorem iN.at_ {B:Nat}{w:World}{v:Value}{l:List Nat} (h:iN B w v l):∃ A cap,v=.slice A l.length cap∧l.length≤cap∧cap≤9223372036854775807∧lS w A l:=by
 rcases h.1.2 with ⟨rfl,h0⟩|⟨g,cap,cur,rfl,af,hh,nr,jP,hcs,Bp⟩
 ·obtain rfl:l=[]:=List.length_eq_zero_iff.1 h0;exact⟨none,0,rfl,Nat.le_refl _,by omega,lS.nil _ _⟩
 ·unfold maxLen at jP;refine⟨_,cap,rfl,nr,jP,h.2,by omega,fun _=>⟨g,0,rfl,(Array.getElem?_eq_some_iff.1 hh).1,fun j aN=>?_⟩⟩;have:=h.1.cells (g:=g) rfl j (Value.int .u64 ((l.getD j 0:Nat):Int)) (by rw[Sl aN];simp[Vc,aN]);have e:(⟨g,0,none⟩:Addr).add j=⟨g,0+j,none⟩:=by unfold Addr.add;split<;>simp_all
  rw[e] at this
  exact this
theorem iN.kept {B:Nat}{w w':World}{v:Value}{l:List Nat} (h:iN B w v l) {row:Option Nat} (af:w.grownBy w' row) (dB:v.ownBlock=none∨v.ownBlock≠row):iN B w' v l:=⟨h.1.kept af dB,h.2⟩
theorem iN.alloc {B:Nat}{w:World}{v:Value}{l:List Nat} (h:iN B w v l) (o:Obj):iN B (w.alloc o) v l:=⟨h.1.alloc o,h.2⟩
theorem iN.drew {B:Nat}{w:World}{v:Value}{l:List Nat} (h:iN B w v l):iN B w.drew v l:=h
theorem iN.jT (B:Nat) (w:World):iN B w (.slice none 0 0) []:=⟨World.ownsRow_nil _ _ _ _,mE.nil⟩
theorem iN.keep {B:Nat}{w w':World}{v:Value}{l:List Nat} (h:iN B w v l) (hs:w.heap.size≤w'.heap.size) (e:∀ g,v.ownBlock=some g→w'.heap[g]?=w.heap[g]?):iN B w' v l:=by
 refine⟨?_,h.2⟩;obtain⟨h1,h2|⟨g,cap,cur,aF,af,hh,r⟩⟩:=h.1
 ·exact⟨h1,Or.inl h2⟩
 ·exact⟨h1,Or.inr ⟨g,cap,cur,aF,af,by rw[e g (by rw[aF];rfl)];exact hh,r⟩⟩
theorem iN.ext {B:Nat}{w w':World}{v:Value}{l:List Nat} (h:iN B w v l) (e:Ext w w'):iN B w' v l:=by
 refine⟨?_,h.2⟩;obtain⟨h1,h2|⟨g,cap,cur,aF,af,hh,r⟩⟩:=h.1
 ·exact⟨h1,Or.inl h2⟩
 ·exact⟨h1,Or.inr ⟨g,cap,cur,aF,af,by rw[e.block g (Array.getElem?_eq_some_iff.1 hh).1];exact hh,r⟩⟩
theorem iN.less {B fc:Nat}{w:World}{v:Value}{l:List Nat} (h:iN B w v l) (bF:fc≤B):iN fc w v l:=by
 refine⟨?_,h.2⟩;obtain⟨h1,h2|⟨g,cap,cur,aF,af,r⟩⟩:=h.1
 ·exact⟨h1,Or.inl h2⟩
 ·exact⟨h1,Or.inr ⟨g,cap,cur,aF,by omega,r⟩⟩
theorem iN.c7 {B b:Nat}{w w':World}{v:Value}{l:List Nat} (h:iN B w v l) (u:b3 b w w') (hb:b<B):iN B w' v l:=by
 refine⟨?_,h.2⟩;obtain⟨h1,h2|⟨g,cap,cur,aF,af,hh,r⟩⟩:=h.1
 ·exact⟨h1,Or.inl h2⟩
 ·exact⟨h1,Or.inr ⟨g,cap,cur,aF,af,by rw[u.2.2.2.2 g (Array.getElem?_eq_some_iff.1 hh).1 (by omega)];exact hh,r⟩⟩
theorem lS.c7 {b:Nat}{w w':World}{A:Option Addr}{l:List Nat} (h:lS w A l) (u:b3 b w w') (hb:∀ g off,A=some ⟨g,off,none⟩→g≠b):lS w' A l:=
 h.keep u.2.2.2.1 fun g off hA af=>u.2.2.2.2 g af (hb g off hA)
end
section
open Go Go.RowKit
theorem VW (u m:Nat):(u:Int) / 2 ^ m=((u >>> m:Nat):Int):=by rw[Nat.shiftRight_eq_div_pow];simp
attribute [local go_sem] mg nV qf
def QV (o:Option (List Nat)) (W:World) (e:Ending) (w':World):Prop:=∃ v,e=.returned (.tuple #[v,.bool o.isSome])∧iw W.heap.size w' v (o.getD [])∧Ext W w'
def Q7 (o:Option (List Nat)) (W:World) (e:Ending) (w':World):Prop:=∃ v,e=.returned (.tuple #[v,.bool o.isSome])∧iN W.heap.size w' v (o.getD [])∧Ext W w'
def part (L:List Nat) (m k:Nat):List Nat:=L.take k++List.replicate (m-k) 0
end
section
open Go Go.RowKit Go.Sort
theorem Zn {c:jH}{s r:Fr} (hc:nU c) (h:yg c s) (k:yg c r):s=r:=by
 cases c with
 | op=>exact(show s=(0,1) from h).trans (show r=(0,1) from k).symm
 | dU l u =>
  obtain⟨e,f⟩:=gg.unique hc.1.1 hc.2.1.1 h k;exact Prod.ext e f
end
section
open Go Go.RowKit Go.Sort
theorem Zl {c:jH} (hc:nU c):∃ s,yg c s:=by
 cases c with
 | op=>exact⟨(0,1),rfl⟩
 | dU a b =>
  obtain⟨n,m,B⟩:=CH hc.1.1 hc.2.1.1 hc.2.2;exact⟨(n,m),B⟩
open Classical in
noncomputable def qQ (c:jH):Fr:=if h:∃ s,yg c s then Classical.choose h else (0,1)
theorem V0 {c:jH} (hc:nU c):yg c (qQ c):=by
 have h:=Zl hc;unfold qQ;rw[dif_pos h];exact Classical.choose_spec h
theorem Gi {f:Nat} (h:I8 f) {c:jH} (hc:nU c) (w:World):Calls Tryz.prog f #[.agg (e4 c)] w (aP (.agg (cJ (qQ c))) w):=by
 obtain⟨s,hs,k⟩:=h c hc;rw[Zn hc (V0 hc) hs];exact k w
end
section
open Go Go.RowKit Go.Sort
def mW (eps:Int):Option jc→Array Value
 | none=>aI eps 0 0 0 0 z21
 | some s=>aI eps (s.count:Int) s.first.1 s.first.2 s.last (e4 s.eG)
def Ct (X:Array Value):Prop:=∃ e n t v l K,de e∧de n∧de t∧de v∧de l∧sh K∧X=aI e n t v l K
theorem aj4 {K:Array Value} (h:sh K):K.size=21:=by
 rcases h with ⟨c,_,rfl⟩|⟨o,L,H,rfl,br,dh,_⟩
 ·exact tN c
 ·exact lW o br.rc.size dh.rc.size
theorem Vr {K:Array Value} (h:sh K):∃ o L H,K=bT o L H∧RC L∧RC H:=by
 rcases h with ⟨c,_,rfl⟩|⟨o,L,H,rfl,br,dh,_⟩
 ·exact JJ c
 ·exact⟨o,L,H,rfl,br.rc,dh.rc⟩
theorem aj3 {K:Array Value} (h:sh K):K.all (·.oneCell')=true:=by
 obtain⟨o,L,H,rfl,br,dh⟩:=Vr h;exact su o br.one dh.one
end
end Go.Proofs.YtojbopibfflnoaaGreat
