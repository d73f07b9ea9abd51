/- Contracts and plain facts; each states its conditions. -/
import Derived.Test.YtojbopibfflnoaaGreatPrW4
import Derived.Test.YtojbopibfflnoaaGreatPrW16
import Derived.Test.YtojbopibfflnoaaGreatPrW22
import Derived.Test.YtojbopibfflnoaaGreatPrW26
import Derived.Test.YtojbopibfflnoaaGreatPrW28
import Derived.Laws.Tables
import Derived.Great.BuildSlice
namespace Go.Proofs.YtojbopibfflnoaaGreat
set_option linter.unusedVariables false
set_option linter.unusedSimpArgs false
set_option maxHeartbeats 16000000
section
open Go Go.RowKit
theorem iw.c7 {B b:Nat}{w w':World}{v:Value}{l:List Nat} (h:iw B w v l) (u:b3 b w w') (hb:b<B):iw B w' v l:=by
 refine⟨?_,h.2⟩;obtain⟨h1,h2|⟨g,cap,cur,aF,af,hh,r⟩⟩:=h.1
 ·exact⟨h1,Or.inl h2⟩
 ·exact⟨h1,Or.inr ⟨g,cap,cur,aF,af,by rw[u.2.2.2.2 g (Array.getElem?_eq_some_iff.1 hh).1 (by omega)];exact hh,r⟩⟩
theorem jW.c7 {b:Nat}{w w':World}{A:Option Addr}{l:List Nat} (h:jW w A l) (u:b3 b w w') (hb:∀ g off,A=some ⟨g,off,none⟩→g≠b):jW w' A l:=
 h.keep u.2.2.2.1 fun g off hA af=>u.2.2.2.2 g af (hb g off hA)
theorem GL {w w':World}{row:Option Nat} (h:w.grownBy w' row) (B:Nat) (bF:B≤w.heap.size) (aD:∀ k,row=some k→B≤k):Below B w w':=(Below.refl B w).grown h bF aD
theorem Wj {W w w':World}{row:Option Nat}{b:Nat} (u:b3 b W w) (h:w.grownBy w' row) (aD:∀ k,row=some k→W.heap.size≤k):b3 b W w':=
 ⟨h.os.trans u.1,h.tape.trans u.2.1,h.output.trans u.2.2.1,Nat.le_trans u.2.2.2.1 h.size,fun k aE hn=>(h.block k (Nat.lt_of_lt_of_le aE u.2.2.2.1) (fun e=>by have:=aD k e.symm;omega)).trans (u.2.2.2.2 k aE hn)⟩
end
section
open Go Go.RowKit Go.Sort
theorem q5 {K:Array Value} (h:K.size=21):∃ bt az aU a_ bK cy cF b8 bR c2 kN q8 pY q9 q_ rf rh ri rj rk rl:Value,K=#[bt,az,aU,a_,bK,cy,cF,b8,bR,c2,kN,q8,pY,q9,q_,rf,rh,ri,rj,rk,rl]:=by
 obtain⟨l⟩:=K;match l,h with
 | [bt,az,aU,a_,bK,cy,cF,b8,bR,c2,kN,q8,pY,q9,q_,rf,rh,ri,rj,rk,rl],_=>exact⟨bt,az,aU,a_,bK,cy,cF,b8,bR,c2,kN,q8,pY,q9,q_,rf,rh,ri,rj,rk,rl,rfl⟩
theorem Jt {K:Array Value} (h:K.size=10):∃ bt az aU a_ bK cy cF b8 bR c2:Value,K=#[bt,az,aU,a_,bK,cy,cF,b8,bR,c2]:=by
 obtain⟨l⟩:=K;match l,h with
 | [bt,az,aU,a_,bK,cy,cF,b8,bR,c2],_=>exact⟨bt,az,aU,a_,bK,cy,cF,b8,bR,c2,rfl⟩
theorem Jr {X Y:Array Value} (dk:X.all (·.oneCell')=true) (oJ:Y.all (·.oneCell')=true):(X++Y).all (·.oneCell')=true:=by
 rw[Array.all_eq_true_iff_forall_mem] at *;intro x hx;rcases Array.mem_append.1 hx with h|h
 ·exact dk x h
 ·exact oJ x h
def aI (e n t v l:Int) (K:Array Value):Array Value:=#[.int .i64 e,.int .i64 n,.int .i64 t,.int .i64 v,.int .i64 l]++K
def bO (t v:Int):Array Value:=#[.int .i64 t,.int .i64 v]
def j_ (n v:Int) (S:Array Value):Array Value:=#[.int .i64 n,.int .i64 v]++S
def z2:Array Value:=#[.int .i64 0,.int .i64 0]
def z12:Array Value:=#[.int .i64 0,.int .i64 0,.bool false,.int .u64 0,.int .u64 0,.int .u64 0,.int .u64 0,.bool false,.int .u64 0,.int .u64 0,.int .u64 0,.int .u64 0]
def bL:Array Value:=#[.int .i64 0,.int .i64 0,.int .i64 0,.int .i64 0,.int .i64 0,.bool false,.bool false,.int .u64 0,.int .u64 0,.int .u64 0,.int .u64 0,.bool false,.int .u64 0,.int .u64 0,.int .u64 0,.int .u64 0,.bool false,.int .u64 0,.int .u64 0,.int .u64 0,.int .u64 0,.bool false,.int .u64 0,.int .u64 0,.int .u64 0,.int .u64 0]
theorem Al:bL.all (·.oneCell')=true:=by kernel_rfl
theorem xQ:Tryz.prog.underlying 23=some (.struct (Tryz.prog.fieldsOf 23)):=by kernel_rfl
theorem HZ:Tryz.prog.underlying 55=some (.struct (Tryz.prog.fieldsOf 55)):=by kernel_rfl
theorem jC:Tryz.prog.underlying 33=some (.struct (Tryz.prog.fieldsOf 33)):=by kernel_rfl
theorem xB:(Tryz.prog.info? 23).map (·.size)=some 2:=by kernel_rfl
theorem eW:(Tryz.prog.info? 33).map (·.size)=some 26:=by kernel_rfl
section
variable {e n t v l:Int}{K:Array Value}
theorem hR (cQ:K.size=21):(aI e n t v l K).size=26:=by simp[aI,cQ]
theorem jU (eI:K.all (·.oneCell')=true):(aI e n t v l K).all (·.oneCell')=true:=Jr (by kernel_rfl) eI
theorem Hd {S:Array Value} (hS:S.size=10):(j_ n v S).size=12:=by simp[j_,hS]
theorem T2 {S:Array Value} (zH:S.all (·.oneCell')=true):(j_ n v S).all (·.oneCell')=true:=Jr (by kernel_rfl) zH
theorem afZ {S:Array Value} (hS:S.size=10):(j_ n v S)[0]?=some (.int .i64 n)∧(j_ n v S)[1]?=some (.int .i64 v)∧(j_ n v S).extract 2 (2+10)=S:=by
 obtain⟨bt,az,aU,a_,bK,cy,cF,b8,bR,c2,rfl⟩:=Jt hS;clear hS;refine⟨?_,?_,?_⟩<;>kernel_rfl
end
theorem pD {a:Act}{o:Oper}{w:World}{t:TypeId}{parts:Array (Nat × Operand)}{vs:Array (Nat × Value)}{cells:Array Value} (aL:o.op=.build t parts) (hx:(parts.map fun (i,x)=>(i,a.eval x))=vs) (h:Tryz.prog.built t vs.toList=some cells):mg Tryz.prog w (.agg cells) ((execOp a.eval o).run Tryz.prog w):=by
 have aD:=run_build (P:=Tryz.prog) w t vs cells h;unfold execOp;simp only[aL,hx,Sem.run_bind,aD,Result.andThen_ok,Sem.run_pure];exact⟨rfl,rfl⟩
theorem Jy (e:Int):Tryz.prog.built 33 [(0,.int .i64 e)]=some (aI e 0 0 0 0 z21):=by kernel_rfl
theorem CF:Tryz.prog.built 33 []=some bL:=by kernel_rfl
theorem Jw (e t v:Int):Tryz.prog.built 33 [(0,.int .i64 e),(1,.int .i64 1),(2,.agg (bO t v)),(3,.int .i64 t),(4,.agg c9)]=some (aI e 1 t v t c9):=by kernel_rfl
theorem Ru (n v:Int) {S:Array Value} (hS:S.size=10):Tryz.prog.built 55 [(0,.int .i64 n),(1,.int .i64 v),(2,.agg S)]=some (j_ n v S):=by
 obtain⟨bt,az,aU,a_,bK,cy,cF,b8,bR,c2,rfl⟩:=Jt hS;clear hS;kernel_rfl
def eA:El (Int × Int × Fr) where
 T:=55
 S:=49
 k:=12
 bytes:=96
 zero:=.agg z12
 enc x:=(j_ x.1 x.2.1 (cJ x.2.2)).toList
 ok _:=True
 len x:=by rw[Array.length_toList];exact Hd rfl
 one x:=fun u hu=>(Array.all_eq_true_iff_forall_mem.1 (T2 (n:=x.1) (v:=x.2.1) (gP x.2.2).one)) u (by simpa using hu)
 pos:=by omega
 zs:=rfl
 info:=by kernel_rfl
 B3:=by kernel_rfl
theorem eA.ahR (x:Int × Int × Fr):(eA.cat [x]).toArray=j_ x.1 x.2.1 (cJ x.2.2):=by
 simp[El.cat,eA]
end
section
open Go Go.RowKit Go.Sort
theorem JH {r s:Fr}{k:Int} (h:f_ (r.1*s.2) (s.1*r.2)=k):decide (k≤0)=decide (jQ r s):=by
 have:=uT h;unfold jQ;by_cases hl:r.1*s.2≤s.1*r.2
 ·rw[decide_eq_true hl,decide_eq_true (by omega)]
 ·rw[decide_eq_false hl,decide_eq_false (by omega)]
theorem EU:Ja 69:=fun c hc w=>by
 cases c with
 | op=>exact zR true dq dq rfl rfl w true false false 0 (fun _ w=>RZ true RC.zero RC.zero w) (fun h=>by cases h) (fun h=>by cases h) (fun h=>by cases h) true rfl
 | dU a b =>
  obtain⟨r,aD⟩:=aM (f_ (a.1*b.2) (b.1*a.2));exact zR false (cJ a) (cJ b) rfl rfl w true true true r (fun h=>by cases h) (fun _ w=>y_ hc.1 w) (fun _ w=>y_ hc.2.1 w) (fun _ _ _ w=>DI hc.1 hc.2.1 aD w) true (by rw[JH aD,decide_eq_true hc.2.2];rfl)
theorem rq {r s:Fr}{k:Int} (h:f_ (r.1*s.2) (s.1*r.2)=k):(0<k↔¬ jQ r s)∧(k<0↔¬ jQ s r):=by
 have:=uT h;unfold jQ;constructor<;>constructor<;>intro q<;>omega
theorem ajN:I9 30:=fun a b ha hb w=>by
 have hN:=fun w=>EU a ha w
 have eM:=fun w=>EU b hb w
 cases a with
 | op =>
  cases b with
  | op=>exact HF true true dq dq dq dq rfl rfl rfl rfl lL lL lL lL w true true 0 0 0 hN (fun _=>eM) (fun _ _ h=>by cases h) (fun _ _ h=>by cases h) (fun _ _ h=>by cases h)
  | dU lb iy=>exact HF true false dq dq (cJ lb) (cJ iy) rfl rfl rfl rfl lL lL (gP _).one (gP _).one w true true 0 0 0 hN (fun _=>eM) (fun _ _ h=>by cases h) (fun _ _ h=>by cases h) (fun _ _ h=>by cases h)
 | dU b9 jq =>
  cases b with
  | op=>exact HF false true (cJ b9) (cJ jq) dq dq rfl rfl rfl rfl (gP _).one (gP _).one lL lL w true true 0 0 0 hN (fun _=>eM) (fun _ _ _ h=>by cases h) (fun _ _ _ h=>by cases h) (fun _ _ _ h=>by cases h)
  | dU lb iy =>
   obtain⟨az,h1⟩:∃ r,f_ (lb.1*b9.2) (b9.1*lb.2)=r:=⟨_,rfl⟩;obtain⟨aU,h2⟩:∃ r,f_ (iy.1*jq.2) (jq.1*iy.2)=r:=⟨_,rfl⟩;have bk:(if 0<az then cJ lb else cJ b9)=cJ (p_ b9 lb):=by
    unfold p_;by_cases p:jQ lb b9
    ·rw[if_pos p,if_neg (fun q=>(rq h1).1.1 q p)]
    ·rw[if_neg p,if_pos ((rq h1).1.2 p)]
   have e2:(if aU<0 then cJ iy else cJ jq)=cJ (qa jq iy):=by
    unfold qa;by_cases p:jQ jq iy
    ·rw[if_pos p,if_neg (fun q=>(rq h2).2.1 q p)]
    ·rw[if_neg p,if_pos ((rq h2).2.2 p)]
   obtain⟨a_,h3⟩:∃ r,f_ ((p_ b9 lb).1*(qa jq iy).2) ((qa jq iy).1*(p_ b9 lb).2)=r:=⟨_,rfl⟩;have hm:=M4 ha.1 hb.1;have hn:=M5 ha.2.1 hb.2.1;have:=HF false false (cJ b9) (cJ jq) (cJ lb) (cJ iy) rfl rfl rfl rfl (gP _).one (gP _).one (gP _).one (gP _).one w true true az aU a_ hN (fun _=>eM) (fun _ _ _ _ w=>DI hb.1 ha.1 h1 w) (fun _ _ _ _ w=>DI hb.2.1 ha.2.1 h2 w) (fun _ _ _ _ w=>by rw[bk,e2];exact DI hm hn h3 w);have em:xF true true false false (cJ b9) (cJ jq) (cJ lb) (cJ iy) az aU a_=(xH (kB (.dU b9 jq) (.dU lb iy)),(kB (.dU b9 jq) (.dU lb iy)).isSome):=by
    unfold xF;rw[bk,e2];simp only[kB];by_cases p:jQ (p_ b9 lb) (qa jq iy)
    ·rw[if_pos p];have:¬ 0<a_:=fun q=>(rq h3).1.1 q p
     simp[this,xH,e4]
    ·rw[if_neg p];have:0<a_:=(rq h3).1.2 p;simp[this,xH]
   rw[em] at this
   exact this
end
section
open Go Go.RowKit Go.Sort
def Ar (S:Array Value):Prop:=∃ (s:Bool) (a b c d:Nat) (t:Bool) (e f g h:Nat) (n m:Int),S=#[.bool s,.int .u64 (a:Int),.int .u64 (b:Int),.int .u64 (c:Int),.int .u64 (d:Int),.bool t,.int .u64 (e:Int),.int .u64 (f:Int),.int .u64 (g:Int),.int .u64 (h:Int)]∧dg s a b c d n∧dg t e f g h m∧¬ o3 s n t m
def FT (S:Array Value):Prop:=∃ f,okF f∧S=cJ f
def wM (S:Array Value):Prop:=FT S∨Ar S
theorem wM.rc {S:Array Value} (h:wM S):RC S:=by
 rcases h with ⟨f,_,rfl⟩|⟨s,a,b,c,d,t,e,f,g,h,n,m,rfl,_⟩
 ·exact gP f
 ·exact⟨_,_,_,_,_,_,_,_,_,_,rfl⟩
def Ir (X:Array Value):Prop:=∃ o L H,X=bT o L H∧wM L∧wM H∧((o=true∧¬ (L=dq∧H=dq))∨(o=false∧(Ar L∨(FT L∧Ar H)∨∃ f g,okF f∧okF g∧L=cJ f∧H=cJ g∧¬ jQ f g)))
def QP (X:Array Value):Prop:=∃ c,nU c∧X=e4 c
def sh (X:Array Value):Prop:=QP X∨Ir X
end
section
open Go Go.RowKit
theorem cm.c7 {w w':World}{k b:Nat}{s:Bool}{a b' c d:Nat}{t:Bool}{e f g h:Nat} (x:cm w k s a b' c d t e f g h) (u:b3 b w w') (hn:k≠b):cm w' k s a b' c d t e f g h:=by
 have:=x.lt;unfold cm;rw[u.2.2.2.2 k this hn];exact x
end
section
open Go Go.RowKit Go.Sort
attribute [local go_sem] mg A3 bB BX
theorem YK {L H:Array Value} (br:RC L) (dh:RC H) {a:Act}{o:Oper}{w:World}{x y:Operand} (aL:o.op=.build 31 #[(1,x),(2,y)]) (hx:a.eval x=.agg L) (hy:a.eval y=.agg H):mg Tryz.prog w (.agg (bT false L H)) ((execOp a.eval o).run Tryz.prog w):=by
 obtain⟨s,a1,b,c,d,t,e,f,g,h,rfl⟩:=br;obtain⟨s',a',b',c',d',t',e',f',g',h',rfl⟩:=dh;obtain⟨ρ,TE⟩:=aM a.eval;rw[TE] at hx hy ⊢;clear TE;unfold execOp;rw[aL];simp only[bT];go_simp
end
section
open Go Go.RowKit Go.Sort
theorem GF {r s:Fr} (aD:okF r) (hs:okF s) {k:Int} (aE:f_ (r.1*s.2) (s.1*r.2)=k) (w:World):Calls Tryz.prog 91 #[.agg (cJ r),.agg (cJ s)] w (aP (.int .i64 k) w):=Sh aD hs aE w
theorem Hw:Ja 76:=fun c hc w=>by
 cases c with
 | op=>exact U4 true dq dq rfl rfl w true false false 0 (fun _ w=>RZ true RC.zero RC.zero w) (fun h=>by cases h) (fun h=>by cases h) (fun h=>by cases h) true rfl
 | dU a b =>
  obtain⟨r,aD⟩:=aM (f_ (a.1*b.2) (b.1*a.2));exact U4 false (cJ a) (cJ b) rfl rfl w true true true r (fun h=>by cases h) (fun _ w=>GH hc.1 w) (fun _ w=>GH hc.2.1 w) (fun _ _ _ w=>GF hc.1 hc.2.1 aD w) true (by rw[JH aD,decide_eq_true hc.2.2];rfl)
theorem US:I8 80:=fun c hc=>by
 cases c with
 | op=>exact⟨(0,1),rfl,fun w=>U2 true dq dq (cJ (0,1)) dq rfl rfl rfl (gP _).one rfl lL w true false (fun w=>Hw .op trivial w) (fun _ _ w=>Si (by omega) (by omega) w) (fun _ h=>by cases h)⟩
 | dU a b =>
  obtain⟨n,m,B⟩:=CH hc.1.1 hc.2.1.1 hc.2.2;exact⟨(n,m),B,fun w=>U2 false (cJ a) (cJ b) dq (cJ (n,m)) rfl rfl rfl lL rfl (gP _).one w true true (fun w=>Hw (.dU a b) hc w) (fun _ h=>by cases h) (fun _ _ w=>akG hc.1 hc.2.1 hc.2.2 B w)⟩
theorem ai5:I9 97:=fun a b ha hb w=>by
 have hN:=fun w=>Hw a ha w
 have eM:=fun w=>Hw b hb w
 cases a with
 | op =>
  cases b with
  | op=>exact Hy true true dq dq dq dq rfl rfl rfl rfl lL lL lL lL w true true 0 0 0 hN (fun _=>eM) (fun _ _ h=>by cases h) (fun _ _ h=>by cases h) (fun _ _ h=>by cases h)
  | dU lb iy=>exact Hy true false dq dq (cJ lb) (cJ iy) rfl rfl rfl rfl lL lL (gP _).one (gP _).one w true true 0 0 0 hN (fun _=>eM) (fun _ _ h=>by cases h) (fun _ _ h=>by cases h) (fun _ _ h=>by cases h)
 | dU b9 jq =>
  cases b with
  | op=>exact Hy false true (cJ b9) (cJ jq) dq dq rfl rfl rfl rfl (gP _).one (gP _).one lL lL w true true 0 0 0 hN (fun _=>eM) (fun _ _ _ h=>by cases h) (fun _ _ _ h=>by cases h) (fun _ _ _ h=>by cases h)
  | dU lb iy =>
   obtain⟨az,h1⟩:∃ r,f_ (b9.1*lb.2) (lb.1*b9.2)=r:=⟨_,rfl⟩;obtain⟨aU,h2⟩:∃ r,f_ (jq.1*iy.2) (iy.1*jq.2)=r:=⟨_,rfl⟩;have bk:(if az<0 then cJ lb else cJ b9)=cJ (p_ b9 lb):=by
    unfold p_;by_cases p:jQ lb b9
    ·rw[if_pos p,if_neg (fun q=>(rq h1).2.1 q p)]
    ·rw[if_neg p,if_pos ((rq h1).2.2 p)]
   have e2:(if 0<aU then cJ iy else cJ jq)=cJ (qa jq iy):=by
    unfold qa;by_cases p:jQ jq iy
    ·rw[if_pos p,if_neg (fun q=>(rq h2).1.1 q p)]
    ·rw[if_neg p,if_pos ((rq h2).1.2 p)]
   obtain⟨a_,h3⟩:∃ r,f_ ((p_ b9 lb).1*(qa jq iy).2) ((qa jq iy).1*(p_ b9 lb).2)=r:=⟨_,rfl⟩;have hm:=M4 ha.1 hb.1;have hn:=M5 ha.2.1 hb.2.1;have:=Hy false false (cJ b9) (cJ jq) (cJ lb) (cJ iy) rfl rfl rfl rfl (gP _).one (gP _).one (gP _).one (gP _).one w true true az aU a_ hN (fun _=>eM) (fun _ _ _ _ w=>GF ha.1 hb.1 h1 w) (fun _ _ _ _ w=>GF ha.2.1 hb.2.1 h2 w) (fun _ _ _ _ w=>by rw[bk,e2];exact GF hm hn h3 w);have em:xG true true false false (cJ b9) (cJ jq) (cJ lb) (cJ iy) az aU a_=(xH (kB (.dU b9 jq) (.dU lb iy)),(kB (.dU b9 jq) (.dU lb iy)).isSome):=by
    unfold xG;rw[bk,e2];simp only[kB];by_cases p:jQ (p_ b9 lb) (qa jq iy)
    ·rw[if_pos p];have:¬ 0<a_:=fun q=>(rq h3).1.1 q p
     simp[this,xH,e4]
    ·rw[if_neg p];have:0<a_:=(rq h3).1.2 p;simp[this,xH]
   rw[em] at this
   exact this
end
end Go.Proofs.YtojbopibfflnoaaGreat
