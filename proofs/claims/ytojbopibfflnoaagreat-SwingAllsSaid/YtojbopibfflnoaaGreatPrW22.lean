/- Contracts and plain facts; each states its conditions. -/
import Derived.Test.YtojbopibfflnoaaGreatPrW4
import Derived.Test.YtojbopibfflnoaaGreatPrW9
import Derived.Test.YtojbopibfflnoaaGreatPrW14
import Derived.Test.YtojbopibfflnoaaGreatPrW16
import Derived.Test.YtojbopibfflnoaaGreatPrW18
import Derived.Test.YtojbopibfflnoaaGreatPrW20
import Derived.Test.YtojbopibfflnoaaGreatPrW21
import Derived.Lib.QuietBelow
namespace Go.Proofs.YtojbopibfflnoaaGreat
set_option linter.unusedVariables false
set_option linter.unusedSimpArgs false
set_option maxHeartbeats 16000000
section
open Go Go.RowKit
section
variable {P:Program}{l:List Oper}{kd:List ew}{V:(Nat→Value)→List Value}{T:Nat→(Nat→Value)→World→Prop}{E:Nat→Prop}{zero:Nat→Obj}{full:(Nat→Value)→Nat→Obj}{tgt:Nat→Nat}{W:World}{A:(Nat→Value)→Act}{nd:List Nat}{i:Nat}{o:Oper}
abbrev wB (T:Nat→(Nat→Value)→World→Prop) (kd:List ew) (nd:List Nat) (V:(Nat→Value)→List Value) (i:Nat) (o:Oper):Prop:=∀ k b,o.guard=some (k,b)→∀ R s w,T s R w→nd.getD i 0≤s→(FA (dN kd V R (fun _=>0) k)==some b)=(dv kd i != .hP)
theorem cu (h:o.guard=none):wB T kd nd V i o:=fun k b e=>by rw[h] at e;cases e
theorem du {k:Nat}{b:Bool} (h:o.guard=some (k,b)) (aF:∀ R,(FA (dN kd V R (fun _=>0) k)==some b)=(dv kd i != .hP)):wB T kd nd V i o:=fun k' b' e R _ _ _ _=>by
 rw[h] at e;cases e
 exact aF R
theorem eL (v:(Nat→Value)→Value) (h:dv kd i=.q) (aF:∀ R,(V R).getD i undef=v R) (af:wB T kd nd V i o) (aO:∀ R s w,T s R w→nd.getD i 0≤s→qZ kd tgt E W w→(∀ m c,dv kd m=.so c→mK l l.length m i=true→w.heap[tgt c]?=W.heap[tgt c]?)→mg P w (v R) ((execOp (A R).eval o).run P w)):pR P T E l kd nd V zero full tgt W A i o:=by
 refine⟨af,?_⟩;rw[h];intro R s w a b c d;rw[aF];exact aO R s w a b c d
theorem cj {P:Program}{l:List Oper}{kd:List ew}{V:(Nat→Value)→List Value}{T:Nat→(Nat→Value)→World→Prop}{E:Nat→Prop}{zero:Nat→Obj}{full:(Nat→Value)→Nat→Obj}{tgt:Nat→Nat}{W:World}{A:(Nat→Value)→Act}{nd:List Nat}{i:Nat}{o:Oper} (aO:∀ R s w,T s R w→nd.getD i 0≤s→qZ kd tgt E W w→(∀ m c,dv kd m=.so c→mK l l.length m i=true→w.heap[tgt c]?=W.heap[tgt c]?)→mg P w ((V R).getD i undef) ((execOp (A R).eval o).run P w)) (h:dv kd i=.q:=by exact rfl) (af:o.guard=none:=by exact rfl):pR P T E l kd nd V zero full tgt W A i o:=eL _ h (fun _=>rfl) (cu af) aO
theorem aH {P:Program}{l:List Oper}{kd:List ew}{V:(Nat→Value)→List Value}{T:Nat→(Nat→Value)→World→Prop}{E:Nat→Prop}{zero:Nat→Obj}{full:(Nat→Value)→Nat→Obj}{tgt:Nat→Nat}{W:World}{A:(Nat→Value)→Act}{nd:List Nat}{i:Nat}{o:Oper} (aO:∀ R s w,T s R w→nd.getD i 0≤s→qZ kd tgt E W w→(∀ m c,dv kd m=.so c→mK l l.length m i=true→w.heap[tgt c]?=W.heap[tgt c]?)→mg P w ((V R).getD i undef) ((execOp (A R).eval o).run P w):=by intro R s w' aw hs hw ha;go_simp) (h:dv kd i=.q:=by exact rfl) (af:o.guard=none:=by exact rfl):pR P T E l kd nd V zero full tgt W A i o:=eL _ h (fun _=>rfl) (cu af) aO
theorem d_ {P:Program}{l:List Oper}{kd:List ew}{V:(Nat→Value)→List Value}{T:Nat→(Nat→Value)→World→Prop}{E:Nat→Prop}{zero:Nat→Obj}{full:(Nat→Value)→Nat→Obj}{tgt:Nat→Nat}{W:World}{A:(Nat→Value)→Act}{nd:List Nat}{i:Nat}{o:Oper}{Q:World→Prop} (k:Hid (∀ w,Q w)) (aO:∀ R s w,T s R w→nd.getD i 0≤s→qZ kd tgt E W w→(∀ m c,dv kd m=.so c→mK l l.length m i=true→w.heap[tgt c]?=W.heap[tgt c]?)→Q w→mg P w ((V R).getD i undef) ((execOp (A R).eval o).run P w):=by intro R s w' aw hs hw ha sF;go_simp;exact sF) (h:dv kd i=.q:=by exact rfl) (af:o.guard=none:=by exact rfl):pR P T E l kd nd V zero full tgt W A i o:=eL _ h (fun _=>rfl) (cu af) (fun R s w a b c d=>aO R s w a b c d (k.out w))
theorem kt (h:dv kd i=.hP) (af:wB T kd nd V i o):pR P T E l kd nd V zero full tgt W A i o:=by
 refine⟨af,?_⟩;rw[h];trivial
theorem ia (z:Obj) (h:dv kd i=.al) (hz:zero i=z) (af:wB T kd nd V i o) (aD:∀ (ρ:Operand→Value) (w:World),(execOp ρ o).run P w=.ok (.value (ptrTo w.heap.size)) (w.alloc z)):pR P T E l kd nd V zero full tgt W A i o:=by
 refine⟨af,?_⟩;rw[h];intro ρ w;rw[hz];exact aD ρ w
theorem ib {j:Nat}{Ty:TypeId}{p x:Operand} (f:(Nat→Value)→Obj) (z:Obj) (v:(Nat→Value)→Value) (h:dv kd i=.st j) (hop:o.op=.store Ty p x) (hf:∀ R,full R i=f R) (hz:zero j=z) (af:wB T kd nd V i o) (aF:∀ R,(A R).eval x=v R)
 (hs:∀ R s (ρ:Operand→Value) (w:World) (g:Nat),T s R w→nd.getD i 0≤s→ρ p=ptrTo g→ρ x=v R→W.heap.size≤g→w.heap[g]?=some z→oC P ρ o w g (f R)∧∀ aT,m_ w aT g (f R)→T s R aT):pR P T E l kd nd V zero full tgt W A i o:=by
 refine⟨af,?_⟩;rw[h];simp only[hop,hf,hz];intro R s ρ w g a b c d;rw[aF] at d;exact hs R s ρ w g a b c d
theorem il {c:Nat}{Ty:TypeId}{p x:Operand} (g:Nat) (f:(Nat→Value)→Obj) (u v:(Nat→Value)→Value) (h:dv kd i=.so c) (hop:o.op=.store Ty p x) (hf:∀ R,full R i=f R) (e6:tgt c=g) (af:wB T kd nd V i o) (hp:∀ R,(A R).eval p=u R) (aF:∀ R,(A R).eval x=v R)
 (hs:∀ R s (ρ:Operand→Value) (w:World),T s R w→nd.getD i 0≤s→ρ p=u R→ρ x=v R→w.heap[g]?=W.heap[g]?→oC P ρ o w g (f R)∧∀ aT,m_ w aT g (f R)→T s R aT):pR P T E l kd nd V zero full tgt W A i o:=by
 refine⟨af,?_⟩;rw[h];simp only[hop,hf,e6];intro R s ρ w a b d e;rw[aF] at e;rw[hp] at d;exact hs R s ρ w a b d e
theorem C6 {m:Nat} (h:dv kd i=.gO m) (af:wB T kd nd V i o) (aO:∀ R w,T m R w→qZ kd tgt E W w→A3 P T E m R w ((execOp (A R).eval o).run P w)):pR P T E l kd nd V zero full tgt W A i o:=by
 refine⟨af,?_⟩;rw[h];exact aO
theorem e7 {a:Act}{w:World}{ty:TypeId}{x:Operand}{u v:Value} (aL:o.op=.load ty x) (hx:a.eval x=u) (aD:(Instr.loadAt ty u).run P w=.ok v w):mg P w v ((execOp a.eval o).run P w):=by
 unfold execOp;simp only[aL,hx,Sem.run_bind,aD,Result.andThen_ok,Sem.run_pure];exact⟨rfl,rfl⟩
theorem N7 {a:Act}{w:World}{b:BinOp}{ty ty':TypeId}{x y:Operand}{u v r:Value} (aL:o.op=.binOp b ty x y ty') (hx:a.eval x=u) (hy:a.eval y=v) (SS:(eqGuard b ty x y u v).run P w=.ok () w) (aD:(binOp b ty u v).run P w=.ok r w):mg P w r ((execOp a.eval o).run P w):=by
 unfold execOp;simp only[aL,hx,hy,Sem.run_bind,SS,aD,Result.andThen_ok,Sem.run_pure];exact⟨rfl,rfl⟩
theorem aG.aY {w:World}{g:Nat}{t:TypeId}{X:Array Value} (h:aG W g t X) (k:qZ kd tgt E W w) (he:¬ E g) (hc:∀ c,ew.so c∈kd→tgt c≠g):aG w g t X:=
 (k.2.2.2.2 g h.lt he hc).trans h
end
theorem fP.keep {B b:Nat}{w w':World} (h:fP B w b) (hs:w.heap.size≤w'.heap.size) (aE:∀ k,k=b∨k<B→k<w.heap.size→w'.heap[k]?=w.heap[k]?):fP B w' b:=by
 obtain⟨h1,h2,a,len,cap,at_,bt,az,f1,h3,h4,hx⟩:=h;have hc:∀ k,k=b∨k<B→k<w.heap.size→∀ o,w'.cell? ⟨k,o,none⟩=w.cell? ⟨k,o,none⟩:=fun k h1 h2 o=>by unfold World.cell?;rw[aE k h1 h2]
 have hf:w'.frozen? ⟨b,1,none⟩=w.frozen? ⟨b,1,none⟩:=by unfold World.frozen?;rw[aE b (Or.inl rfl) h2]
 refine⟨h1,by omega,a,len,cap,at_,(hc b (Or.inl rfl) h2 0).trans bt,(hc b (Or.inl rfl) h2 1).trans az,hf.trans f1,h3,h4,?_⟩;rcases hx with hx|⟨jh,la,e,hb,hl,Bj⟩
 ·exact Or.inl hx
 ·refine Or.inr ⟨jh,la,e,hb,hl,fun i hi=>?_⟩;obtain⟨v,h5,h6⟩:=Bj i hi;exact⟨v,h5,(hc jh (Or.inr hb) (by omega) _).trans h6⟩
def QZ (B b:Nat) (bU:World) (X:Nat→(Nat→Value)→Prop) (s:Nat) (R:Nat→Value) (w:World):Prop:=fP B w b∧b3 b bU w∧X s R
def dA (bU:World) (_:Nat) (_:Nat→Value) (w:World):Prop:=Ext bU w
theorem dM {bU w aT:World}{g:Nat}{f:Obj} (h:Ext bU w) (hF:m_ w aT g f) (af:bU.heap.size≤g):Ext bU aT:=
 ⟨hF.2.2.2.1.trans h.os,hF.2.2.2.2.1.trans h.tape,hF.2.2.2.2.2.trans h.output,by rw[hF.2.2.1];exact h.size,fun k aE=>(hF.2.1 k (by omega)).trans (h.block k aE)⟩
theorem H0 {b:Nat}{bU w aT:World}{g:Nat}{f:Obj} (h:b3 b bU w) (hF:m_ w aT g f) (af:bU.heap.size≤g):b3 b bU aT:=
 ⟨hF.2.2.2.1.trans h.1,hF.2.2.2.2.1.trans h.2.1,hF.2.2.2.2.2.trans h.2.2.1,by rw[hF.2.2.1];exact h.2.2.2.1,fun k aE hb=>(hF.2.1 k (by omega)).trans (h.2.2.2.2 k aE hb)⟩
theorem dH {bU:World}:∀ s R w w',dA bU s R w→Below w.heap.size w w'→dA bU s R w':=fun _ _ _ _ h k=>Ext.trans h k
theorem qR {ρ:Operand→Value}{o:Oper}{Ty uM:TypeId}{p x:Operand}{w:World}{g off:Nat}{cs ds:Array Value}{v:Value} (hop:o.op=.store Ty p x) (hp:ρ p=.pointer (some ⟨g,off,none⟩)) (hx:ρ x=v) (hz:w.heap[g]?=some (.cells cs uM (0,0))) (hd:cs.setIfInBounds off v=ds) (aD:(Instr.storeAt Ty (.pointer (some ⟨g,off,none⟩)) v).run Tryz.prog w=.ok () (w.setCell ⟨g,off,none⟩ v)) :
 oC Tryz.prog ρ o w g (.cells ds uM (0,0)):=by
 have bF:aG w g uM cs:=hz;refine⟨w.setCell ⟨g,off,none⟩ v,BV hop (by rw[hp,hx];exact aD),?_,fun k aE=>lY aE _ _,by simp,rfl,rfl,rfl⟩;have:=bF.VR off v;rw[hd] at this
 exact this
theorem uj {ρ:Operand→Value}{o:Oper}{Ty uM:TypeId}{p x:Operand}{w:World}{g:Nat}{cs ds:Array Value}{u v:Value} (hop:o.op=.store Ty p x) (hp:ρ p=u) (hx:ρ x=v) (hz:w.heap[g]?=some (.cells cs uM (0,0))) (aD:(Instr.storeAt Ty u v).run Tryz.prog w=.ok () (w.setRow g ds)) :
 oC Tryz.prog ρ o w g (.cells ds uM (0,0)):=
 ⟨w.setRow g ds,BV hop (by rw[hp,hx];exact aD),aG.setRow (show aG w g uM cs from hz) ds,fun k aE=>setRow_other w g k ds (by omega),by simp[World.setRow],rfl,rfl,rfl⟩
theorem lI {ρ:Operand→Value}{o:Oper}{T:TypeId}{p x:Operand}{w:World}{g n:Nat}{cs ds:Array Value} (hop:o.op=.store T p x) (hp:ρ p=ptrTo g) (hx:ρ x=.agg ds) (hz:w.heap[g]?=some (.cells cs T (0,0))) (hi:(Tryz.prog.info? T).map (·.size)=some n) (hc:cs.size=n) (hs:ds.size=n) (h1:ds.all (·.oneCell')=true) :
 oC Tryz.prog ρ o w g (.cells ds T (0,0)):=hQ hop hp hx hz (by rw[hc];exact hi) (by rw[hs,hc]) h1
def oH (l:List (Value→Prop)) (s:Nat) (R:Nat→Value):Prop:=∀ m p,l[m]?=some p→m<s→p (R m)
theorem oH.zero {l:List (Value→Prop)}{R:Nat→Value}:oH l 0 R:=fun _ _ _ h=>absurd h (by omega)
theorem oH.step {l:List (Value→Prop)}{m:Nat}{R:Nat→Value}{p:Value→Prop}{r:Value} (h:oH l m R) (hp:l[m]?=some p) (aD:p r):oH l (m+1) (mr R m r):=fun k q aO aE=>by
 unfold mr;by_cases e:k=m
 ·subst e;rw[hp] at aO;cases aO
  rw[if_pos rfl];exact aD
 ·rw[if_neg e];exact h k q aO (by omega)
theorem oH.get {l:List (Value→Prop)}{s:Nat}{R:Nat→Value}{p:Value→Prop} (h:oH l s R) (m:Nat) (hp:l[m]?=some p) (hs:m<s):p (R m):=h m p hp hs
end
section
open Go Go.RowKit
theorem cm.same {kd:List Tag}{tgt:Nat→Nat}{W w:World}{k:Nat}{s:Bool}{a b c d:Nat}{t:Bool}{e f g h:Nat} (x:cm W k s a b c d t e f g h) (y:Same kd tgt W w) (hc:∀ c,Tag.so c∈kd→tgt c≠k):cm w k s a b c d t e f g h:=y.block x hc
theorem akt {w:World}{g:Nat}{s s' t t':Bool}{a b c d e f h i a' b' c' d' e' f' h' l4:Nat} (hz:cm w g s' a' b' c' d' t' e' f' h' l4):(Instr.storeAt 29 (ptrTo g) (.agg #[.bool s,a,b,c,d,.bool t,e,f,h,i])).run Tryz.prog w=.ok () ((((((((((w.setCell ⟨g,0,none⟩ (.bool s)).setCell ⟨g,1,none⟩ (.int .u64 (a:Int))).setCell ⟨g,2,none⟩ (.int .u64 (b:Int))).setCell ⟨g,3,none⟩ (.int .u64 (c:Int))).setCell ⟨g,4,none⟩ (.int .u64 (d:Int))).setCell ⟨g,5,none⟩ (.bool t)).setCell ⟨g,6,none⟩ (.int .u64 (e:Int))).setCell ⟨g,7,none⟩ (.int .u64 (f:Int))).setCell ⟨g,8,none⟩ (.int .u64 (h:Int))).setCell ⟨g,9,none⟩ (.int .u64 (i:Int))):=by
 have qj:=cv hz;unfold ptrTo;go_simp
theorem BZ {ρ:Operand→Value}{o:Oper}{p x:Operand}{w:World}{g:Nat}{s s' t t':Bool}{a b c d e f h i a' b' c' d' e' f' h' l4:Nat} (hop:o.op=.store 29 p x) (hp:ρ p=ptrTo g) (hx:ρ x=.agg #[.bool s,a,b,c,d,.bool t,e,f,h,i]) (hz:w.heap[g]?=some (.cells #[.bool s',a',b',c',d',.bool t',e',f',h',l4] 29 (0,0))) :
 oC Tryz.prog ρ o w g (.cells #[.bool s,a,b,c,d,.bool t,e,f,h,i] 29 (0,0)):=by
 have h1:(execOp ρ o).run Tryz.prog w=.ok .skip ((((((((((w.setCell ⟨g,0,none⟩ (.bool s)).setCell ⟨g,1,none⟩ (.int .u64 (a:Int))).setCell ⟨g,2,none⟩ (.int .u64 (b:Int))).setCell ⟨g,3,none⟩ (.int .u64 (c:Int))).setCell ⟨g,4,none⟩ (.int .u64 (d:Int))).setCell ⟨g,5,none⟩ (.bool t)).setCell ⟨g,6,none⟩ (.int .u64 (e:Int))).setCell ⟨g,7,none⟩ (.int .u64 (f:Int))).setCell ⟨g,8,none⟩ (.int .u64 (h:Int))).setCell ⟨g,9,none⟩ (.int .u64 (i:Int))):=by
  refine BV hop ?_;rw[hp,hx];exact akt (s:=s) (a:=a) (b:=b) (c:=c) (d:=d) (t:=t) (e:=e) (f:=f) (h:=h) (i:=i) (show cm w g s' a' b' c' d' t' e' f' h' l4 from hz)
 have h2:cm ((((((((((w.setCell ⟨g,0,none⟩ (.bool s)).setCell ⟨g,1,none⟩ (.int .u64 (a:Int))).setCell ⟨g,2,none⟩ (.int .u64 (b:Int))).setCell ⟨g,3,none⟩ (.int .u64 (c:Int))).setCell ⟨g,4,none⟩ (.int .u64 (d:Int))).setCell ⟨g,5,none⟩ (.bool t)).setCell ⟨g,6,none⟩ (.int .u64 (e:Int))).setCell ⟨g,7,none⟩ (.int .u64 (f:Int))).setCell ⟨g,8,none⟩ (.int .u64 (h:Int))).setCell ⟨g,9,none⟩ (.int .u64 (i:Int))) g s a b c d t e f h i:=cm.put (show cm w g s' a' b' c' d' t' e' f' h' l4 from hz);refine⟨_,h1,h2,?_,?_,?_,?_,?_⟩
 ·intro k aE;rw[lY aE,lY aE,lY aE,lY aE,lY aE,lY aE,lY aE,lY aE,lY aE,lY aE]
 ·simp only[World.size_setCell]
 ·simp only[NP]
 ·simp only[OI]
 ·simp only[NQ]
end
section
open Go Go.RowKit
theorem Ul {s:Bool}{a b c d:Nat}{z:Int} (h:cw s a b c d z):s=decide (z<0):=by
 obtain⟨⟨h1,h2,h3,h4,h5⟩,h6⟩:=h;cases s
 ·simp at h5;symm;rw[decide_eq_false_iff_not];omega
 ·have:=h6 rfl;simp at h5;symm;rw[decide_eq_true_iff];omega
theorem agA {s t:Bool}{a b c d e f g h:Nat}{x y:Int} (hx:cw s a b c d x) (hy:cw t e f g h y) (dy:y≠0) :
 ig x y=(if (s != t)=true then -((x.natAbs:Int) / ((Int.gcd (x.natAbs:Int) (y.natAbs:Int):Nat):Int)) else (x.natAbs:Int) / ((Int.gcd (x.natAbs:Int) (y.natAbs:Int):Nat):Int))∧ik x y=(y.natAbs:Int) / ((Int.gcd (x.natAbs:Int) (y.natAbs:Int):Nat):Int)∧(0:Int)<((Int.gcd (x.natAbs:Int) (y.natAbs:Int):Nat):Int):=by
 rw[Ul hx,Ul hy];have bk:Int.gcd (x.natAbs:Int) (y.natAbs:Int)=Int.gcd x y:=by simp[Int.gcd]
 rw[bk];have af:0<Int.gcd x y:=Int.gcd_pos_of_ne_zero_right x dy;obtain⟨u,hu⟩:=Int.gcd_dvd_left x y;obtain⟨v,aF⟩:=Int.gcd_dvd_right x y;obtain⟨G,aV⟩:∃ G:Int,((Int.gcd x y:Nat):Int)=G:=⟨_,rfl⟩;unfold ig ik;rw[aV] at hu aF ⊢;have Bc:0<G:=by omega
 have GU:G≠0:=by omega
 have aez:-x=G*(-u):=by rw[Int.mul_neg,←hu]
 have L5:-y=G*(-v):=by rw[Int.mul_neg,←aF]
 have q1:x / G=u:=by rw[hu];exact Int.mul_ediv_cancel_left _ GU
 have k8:y / G=v:=by rw[aF];exact Int.mul_ediv_cancel_left _ GU
 have HB:(-x) / G=-u:=by rw[aez];exact Int.mul_ediv_cancel_left _ GU
 have ET:(-y) / G=-v:=by rw[L5];exact Int.mul_ediv_cancel_left _ GU
 have ax:(x.natAbs:Int)=if x<0 then -x else x:=by split<;>omega
 have Ye:(y.natAbs:Int)=if y<0 then -y else y:=by split<;>omega
 rw[ax,Ye];refine⟨?_,?_,Bc⟩
 ·by_cases h1:x<0<;>by_cases h2:y<0<;>simp[h1,h2,q1,k8,HB,ET]
 ·by_cases h2:y<0<;>simp[h2]
theorem amM (x y:Int) (dy:y≠0):∀ (s:Bool) (a b c d:Nat) (t:Bool) (e f g h:Nat),cw s a b c d (ig x y)→cw t e f g h (ik x y)→decide (o3 s (ig x y) t (ik x y))=decide ((ig x y).natAbs<170141183460469231731687303715884105728∧(ik x y).natAbs<170141183460469231731687303715884105728):=by
 intro s a b c d t e f g h h1 h2;obtain⟨p1,p2,_⟩:=HK x y dy;rw[decide_eq_decide];constructor
 ·intro q;exact⟨q.2.2.2.1,q.2.2.2.2.1⟩
 ·intro q;exact⟨h1.2,h2.2,p1,q.1,q.2,p2⟩
end
section
open Go Go.RowKit Go.Sort
theorem HI (e:Int) (W:World):Calls Tryz.prog 35 #[.int .i64 e] W (aP (.bool (decide (0≤e)&&decide (e≤4611686018427387904))) W):=by
 by_cases h0:0≤e
 ·by_cases h1:e≤4611686018427387904
  ·have bt:decide (0≤e)=true:=decide_eq_true h0;have az:decide (e≤4611686018427387904)=true:=decide_eq_true h1;rw[bt,az];go_enter Tryz.func35,Tryz.ntmps35
   go_wp2_with fail
   go_ret;exact⟨rfl,Ext.refl _⟩
  ·have bt:decide (0≤e)=true:=decide_eq_true h0;have az:decide (e≤4611686018427387904)=false:=decide_eq_false h1;rw[bt,az];go_enter Tryz.func35,Tryz.ntmps35
   go_wp2_with fail
   go_ret;exact⟨rfl,Ext.refl _⟩
 ·have bt:decide (0≤e)=false:=decide_eq_false h0;rw[bt];go_enter Tryz.func35,Tryz.ntmps35
  go_wp2_with fail
  go_ret;exact⟨rfl,Ext.refl _⟩
end
end Go.Proofs.YtojbopibfflnoaaGreat
