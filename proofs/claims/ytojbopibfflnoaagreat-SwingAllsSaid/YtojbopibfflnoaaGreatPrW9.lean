/- Contracts and plain facts; each states its conditions. -/
import Derived.Test.YtojbopibfflnoaaGreatPrW1
import Derived.Test.YtojbopibfflnoaaGreatPrW3
import Derived.Test.YtojbopibfflnoaaGreatPrW4
import Derived.Test.YtojbopibfflnoaaGreatPrW5
import Derived.Laws.CopyOwn
import Derived.Maps.AppendAt
import Derived.Deep.AppendLies
import Derived.Deep.Draws
import Derived.Lib.QuietBelow
import Derived.Laws.Rows
import Derived.Laws.CopyRow
namespace Go.Proofs.YtojbopibfflnoaaGreat
set_option linter.unusedVariables false
set_option linter.unusedSimpArgs false
set_option maxHeartbeats 16000000
section
open Go Go.RowKit
def aG (w:World) (g:Nat) (t:TypeId) (cs:Array Value):Prop:=w.heap[g]?=some (.cells cs t (0,0))
section
variable {w w':World}{g:Nat}{t:TypeId}{cs:Array Value}
theorem aG.lt (h:aG w g t cs):g<w.heap.size:=(Array.getElem?_eq_some_iff.1 h).1
theorem aG.cell (h:aG w g t cs) (i:Nat):w.cell? ⟨g,i,none⟩=cs[i]?:=cell_of_row w g i cs t (0,0) h
theorem aG.frozen (h:aG w g t cs) (i:Nat):w.frozen? ⟨g,i,none⟩=false:=by
 unfold aG at h;simp[World.frozen?,h]
theorem aG.new (w:World) (t:TypeId) (cs:Array Value):aG (w.alloc (.cells cs t)) w.heap.size t cs:=heap_alloc_new w _
theorem aG.drew (h:aG w g t cs):aG w.drew g t cs:=h
theorem aG.drewN (h:aG w g t cs) (n:Nat):aG (w.drewN n) g t cs:=h
theorem aG.alloc (h:aG w g t cs) (o:Obj):aG (w.alloc o) g t cs:=(Below.heap_alloc w o g h.lt).trans h
theorem aG.VR (h:aG w g t cs) (i:Nat) (u:Value):aG (w.setCell ⟨g,i,none⟩ u) g t (cs.setIfInBounds i u):=by
 unfold aG at h ⊢;simp[World.setCell,Array.getElem?_modify,h]
theorem aG.cI (h:aG w g t cs) {p:Addr} (hp:g≠p.block) (u:Value):aG (w.setCell p u) g t cs:=(Below.heap_setCell w p u g hp).trans h
theorem aG.ext (h:aG w g t cs) (e:Ext w w'):aG w' g t cs:=(e.block g h.lt).trans h
theorem aG.setRow (h:aG w g t cs) (ds:Array Value):aG (w.setRow g ds) g t ds:=by
 unfold aG at h ⊢;simp[World.setRow,Array.getElem?_modify,h]
end
def mD (l:List Nat):Prop:=∀ x∈l,x<256
theorem mD.nil:mD []:=by intro x hx;simp at hx
theorem mD.app {l m:List Nat} (h:mD l) (k:mD m):mD (l++m):=by
 intro x hx;rcases List.mem_append.1 hx with a|a
 ·exact h x a
 ·exact k x a
theorem mD.one {x:Nat} (h:x<256):mD [x]:=by intro y hy;simp at hy;omega
theorem mD.take {l:List Nat} (h:mD l) (k:Nat):mD (l.take k):=fun x hx=>h x (List.mem_of_mem_take hx)
theorem mD.drop {l:List Nat} (h:mD l) (k:Nat):mD (l.drop k):=fun x hx=>h x (List.mem_of_mem_drop hx)
theorem mD.get {l:List Nat} (h:mD l) (k:Nat):l.getD k 0<256:=by
 rw[List.getD_eq_getElem?_getD];cases aE:l[k]? with
 | none=>simp
 | some x=>exact h x (List.mem_of_getElem? aE)
def Wh (l:List Nat):List Value:=l.map fun x:Nat=>Value.int .u8 (x:Int)
def jW (w:World) (A:Option Addr) (l:List Nat):Prop:=
 mD l∧l.length≤9223372036854775807∧(0<l.length→∃ b off,A=some ⟨b,off,none⟩∧b<w.heap.size∧∀ j,j<l.length→w.cell? ⟨b,off+j,none⟩=some (.int .u8 ((l.getD j 0:Nat):Int)))
theorem jW.nil (w:World) (A:Option Addr):jW w A []:=⟨mD.nil,by simp,fun h=>absurd h (by simp)⟩
theorem jW.ext {w w':World}{A:Option Addr}{l:List Nat} (h:jW w A l) (e:Ext w w'):jW w' A l:=
 ⟨h.1,h.2.1,fun hp=>by
  obtain⟨b,off,hA,hb,hc⟩:=h.2.2 hp;exact⟨b,off,hA,Nat.lt_of_lt_of_le hb e.size,fun j aN=>(e.cell (p:=⟨b,off+j,none⟩) hb).trans (hc j aN)⟩⟩
theorem jW.keep {w w':World}{A:Option Addr}{l:List Nat} (h:jW w A l) (hs:w.heap.size≤w'.heap.size) (e:∀ b off,A=some ⟨b,off,none⟩→b<w.heap.size→w'.heap[b]?=w.heap[b]?):jW w' A l:=
 ⟨h.1,h.2.1,fun hp=>by
  obtain⟨b,off,hA,hb,hc⟩:=h.2.2 hp;exact⟨b,off,hA,Nat.lt_of_lt_of_le hb hs,fun j aN=>(World.cell?_of_block (a:=⟨b,off+j,none⟩) (e b off hA hb)).trans (hc j aN)⟩⟩
theorem jW.drop {w:World}{A:Option Addr}{l:List Nat} (h:jW w A l) (k cap:Nat) (hc:l.length≤cap) :
 jW w (if cap=k then A else A.map (·.add (k*1))) (l.drop k):=by
 refine⟨h.1.drop k,by rw[List.length_drop];have:=h.2.1;omega,fun hp=>?_⟩;rw[List.length_drop] at hp;obtain⟨b,off,rfl,hb,gy⟩:=h.2.2 (by omega);rw[if_neg (by omega)];refine⟨b,off+k,by
  simp only[Option.map_some,Option.some.injEq];unfold Addr.add;split
  ·rename_i h0;simp only[Addr.mk.injEq,and_true,true_and];omega
  ·simp,hb,fun j aN=>?_⟩
 rw[List.length_drop] at aN;rw[Nat.add_assoc,gy (k+j) (by omega)];simp[List.getD_eq_getElem?_getD,List.getElem?_drop]
theorem jW.take {w:World}{A:Option Addr}{l:List Nat} (h:jW w A l) (k:Nat):jW w A (l.take k):=by
 refine⟨h.1.take k,by rw[List.length_take];have:=h.2.1;omega,fun hp=>?_⟩;rw[List.length_take] at hp;obtain⟨b,off,rfl,hb,gy⟩:=h.2.2 (by omega);refine⟨b,off,rfl,hb,fun j aN=>?_⟩;rw[List.length_take] at aN;rw[gy j (by omega)];simp[List.getD_eq_getElem?_getD,List.getElem?_take,show j<k by omega]
theorem Sl {l:List Nat}{k:Nat} (h:k<l.length):l.getD k 0=l[k]:=by simp[List.getD_eq_getElem?_getD,h]
def iw (B:Nat) (w:World) (v:Value) (l:List Nat):Prop:=w.ownsRow B 5 1 v l.length (Wh l)∧mD l
theorem iw.at_ {B:Nat}{w:World}{v:Value}{l:List Nat} (h:iw B w v l):∃ A cap,v=.slice A l.length cap∧l.length≤cap∧cap≤9223372036854775807∧jW w A l:=by
 rcases h.1.2 with ⟨rfl,h0⟩|⟨g,cap,cur,rfl,af,hh,nr,jP,hcs,Bp⟩
 ·obtain rfl:l=[]:=List.length_eq_zero_iff.1 h0;exact⟨none,0,rfl,Nat.le_refl _,by omega,jW.nil _ _⟩
 ·unfold maxLen at jP;refine⟨_,cap,rfl,nr,jP,h.2,by omega,fun _=>⟨g,0,rfl,(Array.getElem?_eq_some_iff.1 hh).1,fun j aN=>?_⟩⟩;have:=h.1.cells (g:=g) rfl j (Value.int .u8 ((l.getD j 0:Nat):Int)) (by rw[Sl aN];simp[Wh,aN]);have e:(⟨g,0,none⟩:Addr).add j=⟨g,0+j,none⟩:=by unfold Addr.add;split<;>simp_all
  rw[e] at this
  exact this
theorem iw.kept {B:Nat}{w w':World}{v:Value}{l:List Nat} (h:iw B w v l) {row:Option Nat} (af:w.grownBy w' row) (dB:v.ownBlock=none∨v.ownBlock≠row):iw B w' v l:=⟨h.1.kept af dB,h.2⟩
theorem iw.alloc {B:Nat}{w:World}{v:Value}{l:List Nat} (h:iw B w v l) (o:Obj):iw B (w.alloc o) v l:=⟨h.1.alloc o,h.2⟩
theorem iw.drew {B:Nat}{w:World}{v:Value}{l:List Nat} (h:iw B w v l):iw B w.drew v l:=h
theorem iw.jT (B:Nat) (w:World):iw B w (.slice none 0 0) []:=⟨World.ownsRow_nil _ _ _ _,mD.nil⟩
theorem iw.keep {B:Nat}{w w':World}{v:Value}{l:List Nat} (h:iw B w v l) (hs:w.heap.size≤w'.heap.size) (e:∀ g,v.ownBlock=some g→w'.heap[g]?=w.heap[g]?):iw B w' v l:=by
 refine⟨?_,h.2⟩;obtain⟨h1,h2|⟨g,cap,cur,aF,af,hh,r⟩⟩:=h.1
 ·exact⟨h1,Or.inl h2⟩
 ·exact⟨h1,Or.inr ⟨g,cap,cur,aF,af,by rw[e g (by rw[aF];rfl)];exact hh,r⟩⟩
theorem iw.ext {B:Nat}{w w':World}{v:Value}{l:List Nat} (h:iw B w v l) (e:Ext w w'):iw B w' v l:=by
 refine⟨?_,h.2⟩;obtain⟨h1,h2|⟨g,cap,cur,aF,af,hh,r⟩⟩:=h.1
 ·exact⟨h1,Or.inl h2⟩
 ·exact⟨h1,Or.inr ⟨g,cap,cur,aF,af,by rw[e.block g (Array.getElem?_eq_some_iff.1 hh).1];exact hh,r⟩⟩
theorem iw.less {B fc:Nat}{w:World}{v:Value}{l:List Nat} (h:iw B w v l) (bF:fc≤B):iw fc w v l:=by
 refine⟨?_,h.2⟩;obtain⟨h1,h2|⟨g,cap,cur,aF,af,r⟩⟩:=h.1
 ·exact⟨h1,Or.inl h2⟩
 ·exact⟨h1,Or.inr ⟨g,cap,cur,aF,by omega,r⟩⟩
def QR (l:List Nat) (w:World) (e:Ending) (w':World):Prop:=∃ v,e=.returned v∧iw w.heap.size w' v l∧Ext w w'
end
section
open Go Go.RowKit
theorem TG (x:Int):de (wrap64 x):=by unfold de;simp only[wrap64];omega
theorem OE (B b:Nat) (W w:World) (aw:fP B w b) (aK:b3 b W w) :
 Calls Tryz.prog 44 #[.pointer (some ⟨b,0,none⟩)] w (AI B b de .i64 W):=by
 go_enter Tryz.func44,Tryz.ntmps44
 go_wp2_with (first
  | (go_at_call 36;refine(OG _ _ _ W _ ⟨by omega,by omega⟩ ‹_› ‹_›).mono ?_;rintro e w' ⟨u,rfl,hu,tR,y8⟩)
  | (go_at_call 46;refine(alg _ _ W _ ‹_› ‹_›).mono ?_;rintro e w' ⟨u,rfl,hu,tR,y8⟩))
 all_goals go_ret
 all_goals exact⟨_,rfl,TG _,‹_›,‹_›⟩
end
section
open Go Go.RowKit
def P7 (B b:Nat) (W:World) (e:Ending) (w':World):Prop:=∃ v:Bool,e=.returned (.bool v)∧fP B w' b∧b3 b W w'
theorem ak' (B b:Nat) (n:Int) (W w:World) (h1:2≤n) (h2:n≤4) (aw:fP B w b) (aK:b3 b W w) :
 Calls Tryz.prog 45 #[.pointer (some ⟨b,0,none⟩),.int .i64 n] w (P7 B b W):=by
 have DY:¬ (n=0):=by omega
 have hm:(1:Int).tmod n=1:=by
  rw[Int.tmod_eq_emod_of_nonneg (by omega)];exact Int.emod_eq_of_lt (by omega) (by omega)
 have pn:(1:Int)%n=1:=Int.emod_eq_of_lt (by omega) (by omega);have Bf:=aw.below (yK (b+1) w 1);go_enter Tryz.func45,Tryz.ntmps45
 go_wp2_with fail
 go_region_with (go_at_call 36;refine(OG B b n W _ ⟨by omega,by omega⟩ (by first|exact aw|exact(aw.below (yK (b+1) w 1))) (by first|exact aK|exact aK.drew)).mono ?_;rintro e w' ⟨u,rfl,hu,tR,y8⟩)
 all_goals go_wp2_with fail
 all_goals go_ret
 all_goals exact⟨_,rfl,tR,y8⟩
def nJ (w:World) (g:Nat) (L:List Nat):Prop:=w.heap[g]?=some (.cells (Value.bool false :: wd L).toArray 27 (0,0))
theorem nJ.at {w:World}{g:Nat}{L:List Nat} (h:nJ w g L) (i:Nat) (hi:i<L.length):w.cell? ⟨g,1+i,none⟩=some (.int .u64 (L[i]:Int)):=by
 rw[cell_of_block h,Nat.add_comm];simp[wd,hi]
theorem nJ.free {w:World}{g:Nat}{L:List Nat} (h:nJ w g L) (i:Nat):w.frozen? ⟨g,i,none⟩=false:=gw h i
theorem nJ.lt {w:World}{g:Nat}{L:List Nat} (h:nJ w g L):g<w.heap.size:=(Array.getElem?_eq_some_iff.1 h).1
theorem nJ.set {w:World}{g:Nat}{L:List Nat} (h:nJ w g L) (k x:Nat):nJ (w.setCell ⟨g,1+k,none⟩ (.int .u64 (x:Int))) g (L.set k x):=by
 unfold nJ;rw[kE h (1+k),Nat.add_comm];simp[wd,List.map_set]
theorem nJ.c7 {w w':World}{g b:Nat}{L:List Nat} (h:nJ w g L) (k:b3 b w w') (hn:g≠b):nJ w' g L:=by
 have:=h.lt;unfold nJ;rw[k.2.2.2.2 g this hn];exact h
theorem nJ.ext {w w':World}{g:Nat}{L:List Nat} (h:nJ w g L) (k:Ext w w'):nJ w' g L:=by
 have:=h.lt;unfold nJ;rw[k.block g this];exact h
theorem Box.c7 {w w':World}{g b':Nat}{s:Bool}{a b c d:Nat} (h:Box w g s a b c d) (k:b3 b' w w') (hn:g≠b'):Box w' g s a b c d:=by
 have:=h.lt;unfold Box;rw[k.2.2.2.2 g this hn];exact h
end
section
open Go Go.RowKit Go.Sort
def aP (v:Value) (w:World) (e:Ending) (w':World):Prop:=e=.returned v∧Ext w w'
def Cu (v:Value) (w:World) (e:Ending) (w':World):Prop:=e=.returned v∧w=w'
theorem dK {f:FuncId}{args:Array Value}{W:World}{d:Nat}{os:Array Obj}{v:Value} (h:Calls Tryz.prog f args (grow (redrawn W d) os) (aP v (grow (redrawn W d) os))) :
 Calls Tryz.prog f args (grow (redrawn W d) os) fun e iD=>e=.returned v∧∃ p:Regrown,iD=grow (redrawn W p.d) p.os:=Calls.regrown_of h
theorem aX (W:World) (d:Nat) (os:Array Obj):Ext W (grow (redrawn W d) os):=below_regrown W d os
end
section
open Go Go.RowKit
section
variable {P:Program}{C:World→Prop}{l:List Oper}{kd:List Tag}{V:List Value}{zero full:Nat→Obj}{tgt:Nat→Nat}{W:World}{A:Act}{i:Nat}{o:Oper}
theorem eJ (v:Value) (h:fN kd i=.q) (aF:V.getD i undef=v) (aO:∀ w,C w→mg P w v ((execOp A.eval o).run P w)):nN P C l kd V zero full tgt W A i o:=by
 unfold nN;rw[h];simp only[aF];exact fun w hw=>aO w hw.1
theorem NE (z:Obj) (h:fN kd i=.al) (hz:zero i=z) (aD:∀ (ρ:Operand→Value) (w:World),(execOp ρ o).run P w=.ok (.value (ptrTo w.heap.size)) (w.alloc z)):nN P C l kd V zero full tgt W A i o:=by
 unfold nN;rw[h];simp only[hz];exact aD
theorem NF {j:Nat}{T:TypeId}{p x:Operand} (f z:Obj) (v:Value) (h:fN kd i=.st j) (hop:o.op=.store T p x) (hf:full i=f) (hz:zero j=z) (aF:A.eval x=v) (hs:∀ (ρ:Operand→Value) (w:World) (g:Nat),ρ p=ptrTo g→ρ x=v→w.heap[g]?=some z→oC P ρ o w g f):nN P C l kd V zero full tgt W A i o:=by
 unfold nN;simp only[h,hop,hf,hz,aF];exact hs
theorem qc {c:Nat}{T:TypeId}{p x:Operand} (g:Nat) (f:Obj) (v:Value) (h:fN kd i=.so c) (hop:o.op=.store T p x) (hf:full i=f) (af:tgt c=g) (hp:A.eval p=ptrTo g) (aF:A.eval x=v) (hs:∀ (ρ:Operand→Value) (w:World),ρ p=ptrTo g→ρ x=v→w.heap[g]?=W.heap[g]?→oC P ρ o w g f):nN P C l kd V zero full tgt W A i o:=by
 unfold nN;simp only[h,hop,hf,af,hp,aF];exact⟨trivial,hs⟩
end
theorem Same.ext' {kd:List Tag}{tgt:Nat→Nat}{bU W w:World} (h:Same kd tgt W w) (k:Ext bU W) (hc:∀ c,Tag.so c∈kd→bU.heap.size≤tgt c):Ext bU w:=h.ext k hc
theorem lY {w:World}{g k:Nat} (aE:k≠g) (j:Nat) (u:Value):(w.setCell ⟨g,j,none⟩ u).heap[k]?=w.heap[k]?:=heap_setCell_other _ _ _ _ (by simpa using aE)
theorem NP (w:World) (a:Addr) (v:Value):(w.setCell a v).os=w.os:=rfl
theorem OI (w:World) (a:Addr) (v:Value):(w.setCell a v).tape=w.tape:=rfl
theorem NQ (w:World) (a:Addr) (v:Value):(w.setCell a v).output=w.output:=rfl
theorem BV {ρ:Operand→Value}{o:Oper}{T:TypeId}{p x:Operand}{w aT:World} (h:o.op=.store T p x) (aD:(Instr.storeAt T (ρ p) (ρ x)).run Tryz.prog w=.ok () aT):(execOp ρ o).run Tryz.prog w=.ok .skip aT:=by
 unfold execOp;rw[h];show Sem.run Tryz.prog (do Instr.storeAt T (ρ p) (ρ x);pure Next.skip) w=_
 rw[Sem.run_bind,aD];rfl
theorem hQ {ρ:Operand→Value}{o:Oper}{T:TypeId}{p x:Operand}{w:World}{g:Nat}{cs ds:Array Value} (hop:o.op=.store T p x) (hp:ρ p=ptrTo g) (hx:ρ x=.agg ds) (hz:w.heap[g]?=some (.cells cs T (0,0))) (hi:(Tryz.prog.info? T).map (·.size)=some cs.size) (hs:ds.size=cs.size) (h1:ds.all (·.oneCell')=true) :
 oC Tryz.prog ρ o w g (.cells ds T (0,0)):=by
 refine⟨w.setRow g ds,?_,aG.setRow (show aG w g T cs from hz) ds,fun k aE=>setRow_other w g k ds (by omega),by simp[World.setRow],rfl,rfl,rfl⟩;refine BV hop ?_;rw[hp,hx];unfold Instr.storeAt ptrTo;simp only[Instr.sureAddr,Sem.run_bind,Sem.run_pure,Result.andThen_ok];exact run_storeVar_row w g _ _ _ _ hz (by rw[hi,hs]) (by rw[hs]) h1
end
section
open Go Go.RowKit
theorem agP (s:Bool) (a b c d:Int) (w:World):(binOp .neq 27 (.agg #[.bool s,.int .u64 a,.int .u64 b,.int .u64 c,.int .u64 d]) (.agg #[.bool s,.int .u64 a,.int .u64 b,.int .u64 c,.int .u64 d])).run Tryz.prog w=.ok (.bool false) w:=by
 rw[Um];simp
theorem Ms (z:Int) (h:z.natAbs<115792089237316195423570985008687907853269984665640564039457584007913129639936):∃ (s:Bool) (a b c d:Nat),cw s a b c d z:=by
 obtain⟨a,b,c,d,_,hC⟩:=Uh (decide (z<0)) z.natAbs (ka.2 h);have e:(if decide (z<0) then -(z.natAbs:Int) else (z.natAbs:Int))=z:=by
  by_cases h0:z<0
  ·rw[decide_eq_true h0];simp;omega
  ·rw[decide_eq_false h0];simp;omega
 rw[e] at hC;exact⟨_,a,b,c,d,hC⟩
theorem afq {s:Bool}{a b c d:Nat}{x:Int} (h:dg s a b c d x):x.natAbs<115792089237316195423570985008687907853269984665640564039457584007913129639936:=by
 obtain⟨h1,h2,h3,h4,h5⟩:=h;have:=qM h1 h2 h3 h4;cases s<;>simp at h5<;>omega
end
section
open Go Go.RowKit
theorem Sj (a b:Int):Int.gcd a b=Int.gcd b (a%b):=by
 rw[Int.gcd_comm a b,Int.gcd_right_eq_iff];intro c hc;have e:=Int.emod_add_mul_ediv a b;have h1:c ∣ b*(a / b):=Int.dvd_trans hc (Int.dvd_mul_right _ _);constructor
 ·intro h;have e2:a%b=a-b*(a / b):=by omega
  rw[e2];exact Int.dvd_sub h h1
 ·intro h;rw[←e];exact Int.dvd_add h h1
def iW (n d:Int):Prop:=0<d∧n.natAbs<170141183460469231731687303715884105728∧d.natAbs<170141183460469231731687303715884105728∧Int.gcd n d=1
instance (n d:Int):Decidable (iW n d):=by unfold iW;infer_instance
def ig (n d:Int):Int:=(if d<0 then -n else n) / (Int.gcd n d:Int)
def ik (n d:Int):Int:=(if d<0 then -d else d) / (Int.gcd n d:Int)
def I0 (n d:Int):Prop:=d≠0∧(ig n d).natAbs<170141183460469231731687303715884105728∧(ik n d).natAbs<170141183460469231731687303715884105728
theorem HK (n d:Int) (hd:d≠0):0<ik n d∧Int.gcd (ig n d) (ik n d)=1∧ig n d*d=n*ik n d:=by
 have af:0<Int.gcd n d:=Int.gcd_pos_of_ne_zero_right n hd;have apx:(0:Int)<(Int.gcd n d:Int):=by omega
 have ZY:=Int.gcd_dvd_left n d;have dd:=Int.gcd_dvd_right n d;obtain⟨x,hx⟩:=ZY;obtain⟨y,hy⟩:=dd;have aV:=Int.gcd_ediv_gcd_ediv_gcd af;have ex:n / (Int.gcd n d:Int)=x:=by
  conv=>lhs;lhs;rw[hx]
  exact Int.mul_ediv_cancel_left _ (by omega)
 have abm:d / (Int.gcd n d:Int)=y:=by
  conv=>lhs;lhs;rw[hy]
  exact Int.mul_ediv_cancel_left _ (by omega)
 rw[ex,abm] at aV;unfold ig ik;generalize (Int.gcd n d:Int)=g at *;have dy:y≠0:=by rintro rfl;simp at hy;exact hd hy
 by_cases h:d<0
 ·rw[if_pos h,if_pos h];have bk:-n=g*(-x):=by rw[hx,Int.mul_neg]
  have e2:-d=g*(-y):=by rw[hy,Int.mul_neg]
  rw[bk,e2,Int.mul_ediv_cancel_left _ (by omega),Int.mul_ediv_cancel_left _ (by omega)];refine⟨?_,by rw[Int.gcd_neg,Int.neg_gcd];exact aV,?_⟩
  ·have L5:¬ 0≤y:=fun e=>by
    have:0≤g*y:=Int.mul_nonneg (by omega) e;omega
   omega
  ·rw[hx,hy];grind
 ·rw[if_neg h,if_neg h];have bk:n / g=x:=by rw[hx];exact Int.mul_ediv_cancel_left _ (by omega)
  have e2:d / g=y:=by rw[hy];exact Int.mul_ediv_cancel_left _ (by omega)
  rw[bk,e2];refine⟨?_,aV,?_⟩
  ·have L5:¬ y≤0:=fun e=>by
    have:g*y≤g*0:=Int.mul_le_mul_of_nonneg_left e (by omega);omega
   omega
  ·rw[hx,hy];grind
theorem Uc {n d:Int} (h:I0 n d):iW (ig n d) (ik n d):=by
 obtain⟨h1,h2,h3⟩:=h;obtain⟨a,b,_⟩:=HK n d h1;exact⟨a,h2,h3,b⟩
theorem R_ {n d:Int} (h:iW n d):ig n d=n∧ik n d=d:=by
 obtain⟨h1,_,_,h4⟩:=h;unfold ig ik;rw[h4,if_neg (by omega),if_neg (by omega)];simp
theorem abS {n d:Int} (h:iW n d):I0 n d:=by
 have e:=R_ h;exact⟨by have:=h.1;omega,by rw[e.1];exact h.2.1,by rw[e.2];exact h.2.2.1⟩
theorem abR {aC d1 aW d2:Int} (h1:iW aC d1) (h2:iW aW d2) (e:aC*d2=aW*d1):aC=aW∧d1=d2:=by
 obtain⟨p1,_,_,g1⟩:=h1;obtain⟨p2,_,_,g2⟩:=h2;have a1:d1 ∣ d2:=by
  have h:d1 ∣ aC*d2:=by rw[e];exact Int.dvd_mul_left _ _
  have h3:Int.gcd d1 (aC*d2)=Int.gcd d1 d2:=Int.gcd_mul_right_right_of_gcd_eq_one (by rw[Int.gcd_comm];exact g1);have h4:(Int.gcd d1 (aC*d2):Int)=d1:=Int.gcd_eq_left (by omega) h;rw[h3] at h4;have:=Int.gcd_dvd_right d1 d2;rw[h4] at this
  exact this
 have a2:d2 ∣ d1:=by
  have h:d2 ∣ aW*d1:=by rw[←e];exact Int.dvd_mul_left _ _
  have h3:Int.gcd d2 (aW*d1)=Int.gcd d2 d1:=Int.gcd_mul_right_right_of_gcd_eq_one (by rw[Int.gcd_comm];exact g2);have h4:(Int.gcd d2 (aW*d1):Int)=d2:=Int.gcd_eq_left (by omega) h;rw[h3] at h4;have:=Int.gcd_dvd_right d2 d1;rw[h4] at this
  exact this
 have aah:d1=d2:=by
  have:=Int.le_of_dvd p2 a1;have:=Int.le_of_dvd p1 a2;omega
 subst aah;exact⟨Int.eq_of_mul_eq_mul_right (by omega) e,rfl⟩
open Go Go.RowKit
def ii (s s':Bool) (a b c e a' b' c' e':Int):Bool:=s==s'&&(a==a'&&(b==b'&&(c==c'&&e==e')))
theorem aa2 (s s':Bool) (a b c e a' b' c' e':Int) (w:World) :
 (Op.equalIn 9999 27 (.agg #[.bool s,.int .u64 a,.int .u64 b,.int .u64 c,.int .u64 e]) (.agg #[.bool s',.int .u64 a',.int .u64 b',.int .u64 c',.int .u64 e'])).run Tryz.prog w=.ok (ii s s' a b c e a' b' c' e') w:=by
 have hS:Tryz.prog.underlying 27=some (.struct (Tryz.prog.fieldsOf 27)):=by kernel_rfl
 have hp:Tryz.prog.stoodInHeld 27=false:=by kernel_rfl
 have u4:=Tryz.underlying4;have h4:=A4 9996 25 Tryz.underlying25;have Ak:=Tryz.sizeOf25;rw[show (9999:Nat)=9998+1 from rfl,run_equalIn_agg w 9998 27 _ _ hS hp];simp only[Program.fieldsOf,Tryz.underlying27];simp[Op.eqFields,part,isAgg,run_underlying u4,run_equalIn_bool',u4,h4,Ak,ii];by_cases h0:s=s'<;>by_cases h1:a=a'<;>by_cases h2:b=b'<;>by_cases h3:c=c'<;>by_cases h4:e=e'<;>simp[h0,h1,h2,h3,h4]
theorem RU (s s':Bool) (a b c e a' b' c' e':Int) (t t':Bool) (f g h i f' g' h' l4:Int) (w:World) :
 (binOp .eql 29 (.agg #[.bool s,.int .u64 a,.int .u64 b,.int .u64 c,.int .u64 e,.bool t,.int .u64 f,.int .u64 g,.int .u64 h,.int .u64 i]) (.agg #[.bool s',.int .u64 a',.int .u64 b',.int .u64 c',.int .u64 e',.bool t',.int .u64 f',.int .u64 g',.int .u64 h',.int .u64 l4])).run Tryz.prog w=.ok (.bool (ii s s' a b c e a' b' c' e'&&ii t t' f g h i f' g' h' l4)) w:=by
 have hS:Tryz.prog.underlying 29=some (.struct (Tryz.prog.fieldsOf 29)):=by kernel_rfl
 have hp:Tryz.prog.stoodInHeld 29=false:=by kernel_rfl
 have z25:=Tryz.sizeOf27;have h5:=aa2;rw[run_eql_struct,show (10000:Nat)=9999+1 from rfl,run_equalIn_agg w 9999 29 _ _ hS hp];simp only[Program.fieldsOf,Tryz.underlying29];simp[Op.eqFields,part,isAgg,h5,z25];generalize ii s s' a b c e a' b' c' e'=p;generalize ii t t' f g h i f' g' h' l4=q;cases p<;>cases q<;>rfl
theorem HP {s t:Bool}{a b c d e f g h:Nat}{x y:Int} (hx:cw s a b c d x) (hy:cw t e f g h y):ii s t a b c d e f g h=decide (x=y):=by
 unfold ii;by_cases j7:x=y
 ·subst j7;obtain⟨rfl,rfl,rfl,rfl,rfl⟩:=hx.uniq hy;simp
 ·rw[decide_eq_false j7,←Bool.not_eq_true];intro h1;simp only[Bool.and_eq_true,beq_iff_eq] at h1;obtain⟨rfl,h2,h3,h4,h5⟩:=h1;obtain rfl:a=e:=by omega
  obtain rfl:b=f:=by omega
  obtain rfl:c=g:=by omega
  obtain rfl:d=h:=by omega
  exact j7 (hx.1.2.2.2.2.trans hy.1.2.2.2.2.symm)
end
section
open Go Go.RowKit
abbrev Fr:=Int × Int
def okF (s:Fr):Prop:=iW s.1 s.2
def jQ (s t:Fr):Prop:=s.1*t.2≤t.1*s.2
instance (s t:Fr):Decidable (jQ s t):=by unfold jQ;infer_instance
theorem afX {a b:Fr} (ha:okF a) (hb:okF b) (h:jQ a b) (k:jQ b a):a=b:=by
 have e:=abR ha hb (Int.le_antisymm h k);exact Prod.ext e.1 e.2
def p_ (a b:Fr):Fr:=if jQ b a then a else b
def qa (a b:Fr):Fr:=if jQ a b then a else b
theorem M4 {a b:Fr} (ha:okF a) (hb:okF b):okF (p_ a b):=by unfold p_;split<;>assumption
theorem M5 {a b:Fr} (ha:okF a) (hb:okF b):okF (qa a b):=by unfold qa;split<;>assumption
inductive jH where
 | op:jH
 | dU:Fr→Fr→jH
def nU:jH→Prop
 | .op=>True
 | .dU l h=>okF l∧okF h∧jQ l h
def Mn:jH→Fr→Prop
 | .op,_=>True
 | .dU l h,s=>jQ l s∧jQ s h
instance (c:jH) (s:Fr):Decidable (Mn c s):=by cases c<;>unfold Mn<;>infer_instance
def kB:jH→jH→Option jH
 | .op,b=>some b
 | .dU l h,.op=>some (.dU l h)
 | .dU l h,.dU l' h'=>if jQ (p_ l l') (qa h h') then some (.dU (p_ l l') (qa h h')) else none
theorem agC {a b m:jH} (ha:nU a) (hb:nU b) (h:kB a b=some m):nU m:=by
 cases a with
 | op=>simp only[kB,Option.some.injEq] at h;subst h;exact hb
 | dU ah h1 =>
  cases b with
  | op=>simp only[kB,Option.some.injEq] at h;subst h;exact ha
  | dU aj h2 =>
   simp only[kB] at h;split at h
   ·rename_i hle;simp only[Option.some.injEq] at h;subst h;exact⟨M4 ha.1 hb.1,M5 ha.2.1 hb.2.1,hle⟩
   ·simp at h
def pG (n d:Int):Fr:=(ig n d,ik n d)
theorem Vw {n d:Int} (hd:0<d) (hn:n.natAbs<170141183460469231731687303715884105728) (SK:d.natAbs<170141183460469231731687303715884105728):okF (pG n d):=by
 refine Uc ⟨by omega,?_,?_⟩
 ·unfold ig;rw[if_neg (by omega)];exact Nat.lt_of_le_of_lt (Int.natAbs_ediv_le_natAbs _ _) hn
 ·unfold ik;rw[if_neg (by omega)];exact Nat.lt_of_le_of_lt (Int.natAbs_ediv_le_natAbs _ _) SK
theorem aka {n d:Int} (hd:0<d) (s:Fr):jQ (pG n d) s↔n*s.2≤s.1*d:=by
 obtain⟨a,-,e⟩:=HK n d (by omega);obtain⟨x,y⟩:=s;show ig n d*y≤x*ik n d↔n*y≤x*d
 obtain⟨N,jO⟩:=aM (ig n d);obtain⟨D,hH⟩:=aM (ik n d);rw[jO,hH] at e ⊢;rw[hH] at a;have bk:N*y*d=n*y*D:=by
  have:N*y*d=N*d*y:=by grind
  rw[this,e];grind
 have e2:x*D*d=x*d*D:=by grind
 constructor
 ·intro h;have:=Int.mul_le_mul_of_nonneg_right h (Int.le_of_lt hd);rw[bk,e2] at this
  exact Int.le_of_mul_le_mul_right this a
 ·intro h;have:=Int.mul_le_mul_of_nonneg_right h (Int.le_of_lt a);rw[←bk,←e2] at this
  exact Int.le_of_mul_le_mul_right this hd
def B1 (base v eps dt:Int):jH:=.dU (pG (v-base-eps) dt) (pG (v-base+eps) dt)
theorem OJ {base v eps dt:Int} (hb:base.natAbs<73786976294838206464) (l2:-9223372036854775808≤v) (ly:v≤9223372036854775807) (aps:0≤eps) (ze:eps≤4611686018427387904) (hd:0<dt) (SK:dt<18446744073709551616):nU (B1 base v eps dt):=by
 have h1:okF (pG (v-base-eps) dt):=Vw hd (by omega) (by omega);have h2:okF (pG (v-base+eps) dt):=Vw hd (by omega) (by omega);refine⟨h1,h2,?_⟩;rw[aka hd];obtain⟨a,_,e⟩:=HK (v-base+eps) dt (by omega);show (v-base-eps)*ik (v-base+eps) dt≤ig (v-base+eps) dt*dt
 rw[e];exact Int.mul_le_mul_of_nonneg_right (by omega) (Int.le_of_lt a)
def yg:jH→Fr→Prop
 | .op,s=>s=(0,1)
 | .dU l h,s=>gg l.1 l.2 h.1 h.2 s.1 s.2
theorem Zm {c:jH}{s:Fr} (hc:nU c) (h:yg c s):Mn c s∧okF s:=by
 cases c with
 | op=>obtain rfl:s=(0,1):=h;exact⟨trivial,show iW 0 1 from by decide +kernel⟩
 | dU l u =>
  obtain⟨h1,h2,h3,h4⟩:=h;refine⟨⟨h2,h3⟩,h1,?_,?_,gg.gcd hc.1.1 hc.2.1.1 ⟨h1,h2,h3,h4⟩⟩
  ·have:=(gg.small hc.1.1 hc.2.1.1 hc.2.2 ⟨h1,h2,h3,h4⟩).1;have:=hc.1.2.1;omega
  ·have:=(gg.small hc.1.1 hc.2.1.1 hc.2.2 ⟨h1,h2,h3,h4⟩).1;have:=hc.1.2.2.1;have:=hc.1.1;omega
end
section
open Go Go.RowKit
def yG (d:TypeDesc):Prop:=(match d with|.struct _|.array _ _=>true|_=>false)=true
theorem pH {w:World}{g:Nat}{t:TypeId}{cs:Array Value} (h:aG w g t cs) (ty:TypeId) (d:TypeDesc) (hu:Tryz.prog.underlying ty=some d) (hd:yG d) (off n:Nat) (hi:(Tryz.prog.info? ty).map (·.size)=some n) (hle:off+n≤cs.size) (ds:Array Value) (xk:cs.extract off (off+n)=ds) :
 (Instr.loadAt ty (.pointer (some ⟨g,off,none⟩))).run Tryz.prog w=.ok (.agg ds) w:=by
 have e5:ds.toList.length=n:=by rw[←xk];simp;omega
 have hl:(loadCells ⟨g,off,none⟩ ds.toList.length).run Tryz.prog w=.ok ds.toList.toArray w:=
  run_loadCells_list (P:=Tryz.prog) w ⟨g,off,none⟩ ds.toList (fun j v aF=>by
   have p4:(⟨g,off,none⟩:Addr).add j=⟨g,off+j,none⟩:=by unfold Addr.add;split<;>simp_all
   rw[p4,h.cell];have aN:j<n:=by have:=(List.getElem?_eq_some_iff.1 aF).1;omega
   rw[Array.getElem?_toList,←xk,Array.getElem?_extract] at aF;rw[if_pos (by omega)] at aF;exact aF)
 cases aO:Tryz.prog.info? ty with
 | none=>simp[aO] at hi
 | some i =>
  have hs:i.size=n:=by simpa [aO] using hi
  have Lq:(isAgg ty).run Tryz.prog w=.ok true w:=by
   unfold isAgg;rw[Sem.run_bind,run_underlying hu w];unfold yG at hd;cases d<;>simp_all
  rw[e5,Array.toArray_toList] at hl;simp[Instr.loadAt,Instr.sureAddr,loadVar,Sem.run_bind,Lq,sizeOf,typeInfo,aO,hs,hl]
theorem zT {w:World}{g:Nat}{t:TypeId}{cs:Array Value} (h:aG w g t cs) (ty:TypeId) (off n:Nat) (hi:(Tryz.prog.info? ty).map (·.size)=some n) (hle:off+n≤cs.size) (ds:Array Value) (xk:ds.size=n) (h1:ds.all (·.oneCell')=true) (es:Array Value) (ad3:(cs.toList.take off++ds.toList++cs.toList.drop (off+n)).toArray=es) :
 (Instr.storeAt ty (.pointer (some ⟨g,off,none⟩)) (.agg ds)).run Tryz.prog w=.ok () (w.setRow g es):=by
 have:=run_storeCells_at (P:=Tryz.prog) g off t ds.toList 0 cs w h (by simp;omega) (fun v aF=>(Array.all_eq_true_iff_forall_mem.1 h1) v (by simpa using aF));have hl:ds.toList.length=n:=by simpa using xk
 rw[hl,Nat.add_zero,ad3] at this
 cases aO:Tryz.prog.info? ty with
 | none=>simp[aO] at hi
 | some i =>
  have hs:ds.size=i.size:=by simp[aO] at hi;omega
  simp[Instr.storeAt,Instr.sureAddr,storeVar,sizeOf,typeInfo,aO,Value.cells,hs,this]
theorem jN {W w:World}{g:Nat} (h:Ext W w) (af:W.heap.size≤g) (cs:Array Value):Ext W (w.setRow g cs):=by
 refine⟨h.os,h.tape,h.output,?_,fun k aE=>?_⟩
 ·show W.heap.size≤(w.heap.modify g _).size
  rw[Array.size_modify];exact h.size
 ·show (w.heap.modify g _)[k]?=_
  rw[Array.getElem?_modify,if_neg (by omega)];exact h.block k aE
theorem aG.uf {w:World}{g g':Nat}{t:TypeId}{cs ds:Array Value} (h:aG w g t cs) (hn:g≠g'):aG (w.setRow g' ds) g t cs:=by
 unfold aG at h ⊢;show (w.heap.modify g' _)[g]?=_
 rw[Array.getElem?_modify,if_neg (by omega)];exact h
theorem dp {ops:Array Oper}{rest:List Oper}{o:Oper}{a:Act}{w:World}{Q:Exit→Act→World→Prop}{ty:TypeId}{x:Operand}{u v:Value} (ky:Region.wanted o (yielded ops a.tmps)=true) (aL:o.op=.load ty x) (hx:a.eval x=u)
 (aD:(Instr.loadAt ty u).run Tryz.prog w=.ok v w) (h:wpList Tryz.prog ops Q rest (a.put o.dst v) w):wpList Tryz.prog ops Q (o :: rest) a w:=
 wpList_step fun _ cQ=>by
  rw[if_pos ky];unfold Oper.wp execOp;simp only[aL,hx,Sem.run_bind,aD,Result.andThen_ok,Sem.run_pure];exact cQ _ _ h
theorem kG {ops:Array Oper}{rest:List Oper}{o:Oper}{a:Act}{w w':World}{Q:Exit→Act→World→Prop}{ty:TypeId}{x y:Operand}{u v:Value} (ky:Region.wanted o (yielded ops a.tmps)=true) (aL:o.op=.store ty x y) (hx:a.eval x=u) (hy:a.eval y=v)
 (aD:(Instr.storeAt ty u v).run Tryz.prog w=.ok () w') (h:wpList Tryz.prog ops Q rest (a.put o.dst undef) w'):wpList Tryz.prog ops Q (o :: rest) a w:=
 wpList_step fun _ cQ=>by
  rw[if_pos ky];unfold Oper.wp execOp;simp only[aL,hx,hy,Sem.run_bind,aD,Result.andThen_ok,Sem.run_pure];exact cQ _ _ h
theorem iE {ops:Array Oper}{rest:List Oper}{o:Oper}{a:Act}{C:World→Prop}{Q:Act→Prop}{ty:TypeId}{x:Operand}{u v:Value} (ky:Region.wanted o (yielded ops a.tmps)=true) (aL:o.op=.load ty x) (hx:a.eval x=u)
 (aD:∀ w,C w→(Instr.loadAt ty u).run Tryz.prog w=.ok v w) (h:wpQuiet Tryz.prog ops C Q rest (a.put o.dst v)):wpQuiet Tryz.prog ops C Q (o :: rest) a:=
 wpQuiet_step fun K cQ=>by
  rw[if_pos ky];refine⟨v,fun w hw=>?_,cQ _ h⟩;unfold Oper.quietAt execOp;simp only[aL,hx,Sem.run_bind,aD w hw,Result.andThen_ok,Sem.run_pure];exact⟨rfl,rfl⟩
theorem Px {ops:Array Oper}{C:World→Prop}{Q:Act→Prop}{R:Exit→Act→World→Prop} (sF:∀ a w,C w→Q a→R .normal a w):∀ (l:List Oper) (a:Act) (w:World),C w→wpQuiet Tryz.prog ops C Q l a→wpList Tryz.prog ops R l a w
 | [],a,w,hC,h=>sF a w hC h
 | o :: rest,a,w,hC,h=>wpList_step fun K cQ=>by
  unfold wpQuiet at h;split
  ·rename_i hw;rw[if_pos hw] at h;exact Oper.wp_of_quiet hC (fun a w' hc k=>cQ _ _ (Px sF rest a w' hc k)) h
  ·rename_i hw;rw[if_neg hw] at h;exact cQ _ _ (Px sF rest _ w hC h)
theorem eK {id:Nat}{Q:Exit→Act→World→Prop}{a:Act}{w:World}{l:List Oper}
 (h:wpQuiet Tryz.prog l.toArray (fun w'=>∃ p:Regrown,w'=Go.Sort.grow (redrawn w p.d) p.os) (fun a'=>∀ w',(∃ p:Regrown,w'=Go.Sort.grow (redrawn w p.d) p.os)→Q .normal a' w') l a):(Code.region id l.toArray false).wp Tryz.prog Q a w:=
 wp_region_lit (Px (fun a w hC h=>h w hC) l a w ⟨⟨w.drawn,#[]⟩,by rw[Go.Sort.grow_empty];rfl⟩ h)
end
section
open Go Go.RowKit
structure El (α:Type) where
 T:TypeId
 S:TypeId
 k:Nat
 bytes:Nat
 zero:Value
 enc:α→List Value
 ok:α→Prop
 len:∀ x,(enc x).length=k
 one:∀ x,∀ u∈enc x,u.oneCell'=true
 pos:0<k
 zs:zero.cells.size=k
 info:(Tryz.prog.info? T).map (fun i=>(i.zero,i.size,i.bytes))=some (some zero,k,bytes)
 B3:Tryz.prog.underlying S=some (.slice T)
theorem Jq (b off j:Nat):(⟨b,off,none⟩:Addr).add j=⟨b,off+j,none⟩:=by unfold Addr.add;split<;>simp_all
namespace El
variable {α:Type} (E:El α)
def cat (l:List α):List Value:=l.flatMap E.enc
theorem Gg:∀ l:List α,(E.cat l).length=l.length*E.k
 | []=>by simp[cat]
 | x :: l=>by
  have:=Gg l;simp only[cat,List.flatMap_cons,List.length_append,E.len,List.length_cons] at this ⊢
  rw[this,Nat.add_mul];omega
theorem Zf (l:List α):∀ u∈E.cat l,u.oneCell'=true:=fun u hu=>by
 obtain⟨x,_,hx⟩:=List.mem_flatMap.1 hu;exact E.one x u hx
theorem Ze (l m:List α):E.cat (l++m)=E.cat l++E.cat m:=List.flatMap_append
theorem RF:∀ (l:List α) (j i:Nat) (x:α),l[j]?=some x→i<E.k→(E.cat l)[j*E.k+i]?=(E.enc x)[i]?
 | [],j,i,x,h,_=>by simp at h
 | y :: l,0,i,x,h,hi=>by
  simp only[List.getElem?_cons_zero,Option.some.injEq] at h;subst h;simp only[cat,List.flatMap_cons,Nat.zero_mul,Nat.zero_add];exact List.getElem?_append_left (by rw[E.len];exact hi)
 | y :: l,j+1,i,x,h,hi=>by
  have:=RF l j i x (by simpa using h) hi;simp only[cat,List.flatMap_cons] at this ⊢
  rw[List.getElem?_append_right (by rw[E.len,Nat.add_mul];omega),E.len,show (j+1)*E.k+i-E.k=j*E.k+i by rw[Nat.add_mul];omega];exact this
def At (w:World) (A:Option Addr) (l:List α):Prop:=
 (∀ x∈l,E.ok x)∧l.length≤9223372036854775807∧(0<l.length→∃ b off,A=some ⟨b,off,none⟩∧b<w.heap.size∧∀ j u,(E.cat l)[j]?=some u→w.cell? ⟨b,off+j,none⟩=some u)
theorem At.nil (w:World) (A:Option Addr):E.At w A []:=⟨by simp,by simp,fun h=>absurd h (by simp)⟩
variable {E}
theorem At.ext {w w':World}{A:Option Addr}{l:List α} (h:E.At w A l) (e:Ext w w'):E.At w' A l:=
 ⟨h.1,h.2.1,fun hp=>by
  obtain⟨b,off,hA,hb,hc⟩:=h.2.2 hp;exact⟨b,off,hA,Nat.lt_of_lt_of_le hb e.size,fun j u aN=>(e.cell (p:=⟨b,off+j,none⟩) hb).trans (hc j u aN)⟩⟩
theorem At.keep {w w':World}{A:Option Addr}{l:List α} (h:E.At w A l) (hs:w.heap.size≤w'.heap.size) (e:∀ b off,A=some ⟨b,off,none⟩→b<w.heap.size→w'.heap[b]?=w.heap[b]?):E.At w' A l:=
 ⟨h.1,h.2.1,fun hp=>by
  obtain⟨b,off,hA,hb,hc⟩:=h.2.2 hp;exact⟨b,off,hA,Nat.lt_of_lt_of_le hb hs,fun j u aN=>(World.cell?_of_block (a:=⟨b,off+j,none⟩) (e b off hA hb)).trans (hc j u aN)⟩⟩
theorem At.c7 {b:Nat}{w w':World}{A:Option Addr}{l:List α} (h:E.At w A l) (u:b3 b w w') (hb:∀ g off,A=some ⟨g,off,none⟩→g≠b):E.At w' A l:=
 h.keep u.2.2.2.1 fun g off hA af=>u.2.2.2.2 g af (hb g off hA)
variable (E)
def Own (B:Nat) (w:World) (v:Value) (l:List α):Prop:=w.ownsRow B E.T E.k v l.length (E.cat l)∧∀ x∈l,E.ok x
theorem Own.jT (B:Nat) (w:World):E.Own B w (.slice none 0 0) []:=⟨World.ownsRow_nil _ _ _ _,by simp⟩
variable {E}
theorem Own.at_ {B:Nat}{w:World}{v:Value}{l:List α} (h:E.Own B w v l):∃ A cap,v=.slice A l.length cap∧l.length≤cap∧cap≤9223372036854775807∧E.At w A l:=by
 rcases h.1.2 with ⟨rfl,h0⟩|⟨g,cap,cur,rfl,af,hh,nr,jP,hcs,Bp⟩
 ·obtain rfl:l=[]:=List.length_eq_zero_iff.1 h0;exact⟨none,0,rfl,Nat.le_refl _,by omega,At.nil E _ _⟩
 ·unfold maxLen at jP;have e:∀ j,(⟨g,0,none⟩:Addr).add j=⟨g,0+j,none⟩:=fun j=>by unfold Addr.add;split<;>simp_all
  refine⟨_,cap,rfl,nr,jP,h.2,by omega,fun _=>⟨g,0,rfl,(Array.getElem?_eq_some_iff.1 hh).1,fun j u aN=>?_⟩⟩;have h1:=h.1.cells (g:=g) rfl _ _ aN;rw[e] at h1;exact h1
theorem Own.kept {B:Nat}{w w':World}{v:Value}{l:List α} (h:E.Own B w v l) {row:Option Nat} (af:w.grownBy w' row) (dB:v.ownBlock=none∨v.ownBlock≠row):E.Own B w' v l:=⟨h.1.kept af dB,h.2⟩
theorem Own.alloc {B:Nat}{w:World}{v:Value}{l:List α} (h:E.Own B w v l) (o:Obj):E.Own B (w.alloc o) v l:=⟨h.1.alloc o,h.2⟩
theorem Own.drew {B:Nat}{w:World}{v:Value}{l:List α} (h:E.Own B w v l):E.Own B w.drew v l:=h
theorem Own.ext {B:Nat}{w w':World}{v:Value}{l:List α} (h:E.Own B w v l) (e:Ext w w'):E.Own B w' v l:=by
 refine⟨?_,h.2⟩;obtain⟨h1,h2|⟨g,cap,cur,aF,af,hh,r⟩⟩:=h.1
 ·exact⟨h1,Or.inl h2⟩
 ·exact⟨h1,Or.inr ⟨g,cap,cur,aF,af,by rw[e.block g (Array.getElem?_eq_some_iff.1 hh).1];exact hh,r⟩⟩
theorem Own.less {B fc:Nat}{w:World}{v:Value}{l:List α} (h:E.Own B w v l) (bF:fc≤B):E.Own fc w v l:=by
 refine⟨?_,h.2⟩;obtain⟨h1,h2|⟨g,cap,cur,aF,af,r⟩⟩:=h.1
 ·exact⟨h1,Or.inl h2⟩
 ·exact⟨h1,Or.inr ⟨g,cap,cur,aF,by omega,r⟩⟩
theorem Own.c7 {B b:Nat}{w w':World}{v:Value}{l:List α} (h:E.Own B w v l) (u:b3 b w w') (hb:b<B):E.Own B w' v l:=by
 refine⟨?_,h.2⟩;obtain⟨h1,h2|⟨g,cap,cur,aF,af,hh,r⟩⟩:=h.1
 ·exact⟨h1,Or.inl h2⟩
 ·exact⟨h1,Or.inr ⟨g,cap,cur,aF,af,by rw[u.2.2.2.2 g (Array.getElem?_eq_some_iff.1 hh).1 (by omega)];exact hh,r⟩⟩
theorem Own.tp {w:World}{A:Option Addr}{c cap B:Nat}{l:List α} (h:E.Own B w (.slice A c cap) l):E.At w A l:=by
 obtain⟨A',Gf,he,_,_,hw⟩:=h.at_;cases he
 exact hw
theorem Mq {i:Option TypeInfo}{z:Value}{a b:Nat} (h:i.map (fun i=>(i.zero,i.size,i.bytes))=some (some z,a,b)):∃ x,i=some x∧x.zero=some z∧x.size=a∧x.bytes=b:=by
 cases i with
 | none=>simp at h
 | some x =>
  simp only[Option.map_some,Option.some.injEq,Prod.mk.injEq] at h;exact⟨x,rfl,h.1,h.2.1,h.2.2⟩
variable (E)
theorem VL (B:Nat) (w:World) (ty:TypeId) (v:Value) (ai l:List α) (gn:E.Own B w v ai) (A:Option Addr) (m c:Nat) (hb:E.At w A l) (hm:l.length=m) (hlen:(ai.length+l.length)*E.bytes≤140737488355328) (h63:ai.length+l.length≤9223372036854775807) (sI:B≤w.heap.size) :
 ∃ v' w',(Builtin.append_ #[E.S,E.S] ty #[v,.slice A m c]).run Tryz.prog w=.ok v' w'∧E.Own B w' v' (ai++l)∧w.grownBy w' v.ownBlock∧(v'.ownBlock=v.ownBlock∨v'.ownBlock=some w.heap.size):=by
 subst hm;obtain⟨i0,j5,bf,l3,lz⟩:=Mq E.info;have adr:ai.length+l.length≤maxLen:=by unfold maxLen;omega
 rcases A with _|sm
 ·have h0:l=[]:=by
   rcases Nat.eq_zero_or_pos l.length with h|h
   ·exact List.length_eq_zero_iff.1 h
   ·obtain⟨b,off,h',_⟩:=hb.2.2 h;cases h'
  subst h0;refine⟨v,w,?_,by rw[List.append_nil];exact gn,World.grownBy.refl w _,.inl rfl⟩;rcases gn.1.2 with ⟨rfl,_⟩|⟨g,cap,cur,rfl,_,_,nr,_⟩
  ·simp[Builtin.append_,run_underlying E.B3,sizeOf,typeInfo,j5,Builtin.lenOf,Builtin.firstCells]
  ·simp[Builtin.append_,run_underlying E.B3,sizeOf,typeInfo,j5,Builtin.lenOf,Builtin.firstCells,nr,storeCells]
 ·have DJ:∀ j u,(E.cat l)[j]?=some u→w.cell? (sm.add j)=some u:=by
   intro j u hu;have hp:0<l.length:=by
    rcases Nat.eq_zero_or_pos l.length with h|h
    ·rw[List.length_eq_zero_iff.1 h] at hu;simp[cat] at hu
    ·exact h
   obtain⟨b,off,h',_,hc⟩:=hb.2.2 hp;obtain rfl:sm=⟨b,off,none⟩:=Option.some.inj h';rw[Jq];exact hc j u hu
  obtain⟨v',w',qG,h2,h3,_,h5⟩:=run_append_own_at (P:=Tryz.prog) w B E.S ty E.T i0 E.zero E.k E.bytes E.B3 j5 bf l3 lz E.zs E.pos v ai.length (E.cat ai) gn.1 sm l.length c (E.cat l) (E.Gg l) DJ (E.Zf l) adr hlen sI;refine⟨v',w',qG,⟨?_,fun x hx=>?_⟩,h3,h5⟩
  ·rw[E.Ze,List.length_append];exact h2
  ·rcases List.mem_append.1 hx with h|h
   ·exact gn.2 x h
   ·exact hb.1 x h
theorem At.row {w:World}{b off:Nat}{l:List α} (h:E.At w (some ⟨b,off,none⟩) l) {j:Nat}{x:α} (aN:l[j]?=some x):∀ i u,(E.enc x)[i]?=some u→w.cell? ⟨b,off+(j*E.k+i),none⟩=some u:=fun i u hu=>by
 have hl:=(List.getElem?_eq_some_iff.1 aN).1;obtain⟨b',UJ,e,_,hc⟩:=h.2.2 (by omega);obtain⟨rfl,rfl⟩:b=b'∧off=UJ:=by simpa using e
 have hi:i<E.k:=by rw[←E.len x];exact(List.getElem?_eq_some_iff.1 hu).1
 exact hc _ u ((E.RF l j i x aN hi).trans hu)
end El
end
end Go.Proofs.YtojbopibfflnoaaGreat
