/- Contracts and plain facts; each states its conditions. -/
import Derived.Test.YtojbopibfflnoaaGreatPrW26
import Derived.Test.YtojbopibfflnoaaGreatPrW29
namespace Go.Proofs.YtojbopibfflnoaaGreat
set_option linter.unusedVariables false
set_option linter.unusedSimpArgs false
set_option maxHeartbeats 16000000
section
open Go Go.RowKit Go.Sort
def uQ (g:Nat) (bU:World) (_:Nat) (_:Nat→Value) (w:World):Prop:=b3 g bU w
theorem z8 {g:Nat}{bU:World}:∀ s R w w',uQ g bU s R w→Below w.heap.size w w'→uQ g bU s R w':=fun _ _ _ _ h k=>b3.more h k
theorem vZ {b:Nat}{bU w aT:World}{f:Obj} (h:b3 b bU w) (hF:m_ w aT b f):b3 b bU aT:=
 ⟨hF.2.2.2.1.trans h.1,hF.2.2.2.2.1.trans h.2.1,hF.2.2.2.2.2.trans h.2.2.1,by rw[hF.2.2.1];exact h.2.2.2.1,fun k aE hb=>(hF.2.1 k hb).trans (h.2.2.2.2 k aE hb)⟩
theorem m_.fR {w aT:World}{g g':Nat}{f:Obj}{t:TypeId}{X:Array Value} (hF:m_ w aT g f) (h:aG w g' t X) (hn:g'≠g):aG aT g' t X:=(hF.2.1 g' hn).trans h
theorem ui {P:Program}{ops:Array Oper}{o:Oper}{a:Act}{K:Act→World→Prop}{Q:Exit→Act→World→Prop}{w:World}{E:Prop}{ty:TypeId}{x:Operand}{u v:Value} (ky:o.guard=none) (aL:o.op=.load ty x) (hx:a.eval x=u) (aD:(Instr.loadAt ty u).run P w=.ok v w) (h:K (a.put o.dst v) w) :
 if Region.wanted o (yielded ops a.tmps)=true then Oper.wp P o a w K Q else E:=by
 have hw:Region.wanted o (yielded ops a.tmps)=true:=by simp[Region.wanted,ky]
 rw[if_pos hw];unfold Oper.wp execOp;simp only[aL,hx,Sem.run_bind,aD,Result.andThen_ok,Sem.run_pure];exact h
theorem rQ {P:Program}{ops:Array Oper}{o:Oper}{a:Act}{K:Act→World→Prop}{Q:Exit→Act→World→Prop}{w:World}{E:Prop}{g:Nat}{f:Obj} (ky:o.guard=none) (hs:oC P a.eval o w g f) (h:∀ aT,m_ w aT g f→K (a.put o.dst undef) aT) :
 if Region.wanted o (yielded ops a.tmps)=true then Oper.wp P o a w K Q else E:=by
 have hw:Region.wanted o (yielded ops a.tmps)=true:=by simp[Region.wanted,ky]
 rw[if_pos hw];obtain⟨aT,aD,hF⟩:=hs;unfold Oper.wp;rw[aD];exact h aT hF
theorem anw {P:Program}{ops:Array Oper}{Q:Exit→Act→World→Prop}{i:Nat}{o:Oper}{K:Act→World→Prop}{a:Act}{w:World} (aL:ops[i]?=some o)
 (h:if Region.wanted o (yielded ops a.tmps)=true then Oper.wp P o a w K Q else K (a.put o.dst undef) w):wpOp P ops Q i K a w:=by
 unfold wpOp;rw[aL];show if Region.wanted o (yielded ops a.tmps)=true then _ else _
 split
 ·rename_i hw;rw[if_pos hw] at h;exact .inl h
 ·rename_i hw;rw[if_neg hw] at h;exact h
theorem lH {P:Program}{md:Region.Mode}{ops:Array Oper}{Q:Exit→Act→World→Prop}{fuel:Nat}{listed:Array Bool}{a:Act}{w:World}{i:Nat}{o:Oper}{rs:List Nat} (aL:ops[i]?=some o)
 (h:if Region.wanted o (yielded ops a.tmps)=true then Oper.wp P o a w (wpAny P md ops Q fuel (listed.setIfInBounds i true)) Q else wpAny P md ops Q fuel (listed.setIfInBounds i true) (a.put o.dst undef) w)
 (hs:AllReady P md ops Q fuel listed a w rs):AllReady P md ops Q fuel listed a w (i :: rs):=fun j aN=>by
 rcases List.mem_cons.1 aN with rfl|aN
 ·exact anw aL h
 ·exact hs j aN
theorem Wg {P:Program}{c:Code}{a f:Act}{W:World}{Q:Exit→Act→World→Prop} (Qe:World→Prop) (hp:∀ c a d v w,Q (.panic c) (Act.put a d v) w→Q (.panic c) a w) (h:∀ Q':Exit→Act→World→Prop,(∀ c a d v w,Q' (.panic c) (Act.put a d v) w→Q' (.panic c) a w)→(∀ w',Qe w'→Q' .normal f w')→c.wp P Q' a W) (k:∀ w',Qe w'→Q .normal f w'):c.wp P Q a W:=h Q hp k
theorem BI {Q':Exit→Act→World→Prop}{a b:Act}{w:World} (h:Q' .normal b w) (e:b=a):Q' .normal a w:=e ▸ h
end
section
open Go Go.RowKit Go.Sort
attribute [local go_sem] mg A3 bB BX
abbrev gD:=Int × Int × Fr
def fU (x:gD):Array Value:=j_ x.1 x.2.1 (cJ x.2.2)
theorem agl (x:gD):(eA.cat [x]).toArray=fU x:=eA.ahR x
theorem akr (w:World) (parts:Array (Nat × Value)) (cells:Array Value)
 (h:Instr.fill (fun i=>some (i*12,12)) ((Array.range (1*12)).map (z12[·%12]!)) parts.toList=some cells) :
 (Instr.buildSlice 49 1 parts).run Tryz.prog w=.ok (.slice (some ⟨w.heap.size,0,none⟩) 1 1) (w.alloc (.cells cells 55)):=by
 have hi:(Tryz.prog.info? 55).map (fun i=>(i.size,i.zero))=some (12,some (.agg z12)):=by kernel_rfl
 obtain⟨Ep,ad7,hz,e5⟩:∃ Ep,Tryz.prog.info? 55=some Ep∧Ep.zero=some (.agg z12)∧Ep.size=12:=by
  cases aN:Tryz.prog.info? 55 with
  | none=>rw[aN] at hi;cases hi
  | some j =>
   rw[aN] at hi;simp only[Option.map_some,Option.some.injEq,Prod.mk.injEq] at hi;exact⟨j,rfl,hi.2,hi.1⟩
 refine run_buildSlice w 49 55 1 parts cells Ep (.agg z12) (by kernel_rfl) ad7 hz (by rw[e5];decide) (by rw[e5];decide) ?_;rw[e5];exact h
theorem abp (n v:Int) {S:Array Value} (hS:S.size=10):Instr.fill (fun i=>some (i*12,12)) ((Array.range (1*12)).map (z12[·%12]!)) [(0,.agg (j_ n v S))]=some (j_ n v S):=by
 obtain⟨bt,az,aU,a_,bK,cy,cF,b8,bR,c2,rfl⟩:=Jt hS;clear hS;kernel_rfl
theorem Kg {T:Nat→(Nat→Value)→World→Prop}{E:Nat→Prop}{m:Nat}{R:Nat→Value}{w:World}{a:Act}{o:Oper}{parts:Array (Nat × Operand)} (x:gD) (aL:o.op=.buildSlice 49 1 parts) (hx:(parts.map fun (i,x)=>(i,a.eval x))=#[(0,.agg (fU x))])
 (aw:T (m+1) (mr R m (.slice (some ⟨w.heap.size,0,none⟩) 1 1)) (w.alloc (.cells (fU x) 55))):A3 Tryz.prog T E m R w ((execOp a.eval o).run Tryz.prog w):=by
 have aD:=akr w #[(0,.agg (fU x))] (fU x) (abp x.1 x.2.1 (gP x.2.2).size);unfold execOp;simp only[aL,hx,Sem.run_bind,aD,Result.andThen_ok,Sem.run_pure];exact⟨aw,Below.vk (Ga _ _)⟩
theorem NS {B:Nat}{w:World}{q:Nat} (x:gD) (h:aG w q 55 (fU x)) (bF:B≤q):eA.Own B w (.slice (some ⟨q,0,none⟩) 1 1) [x]:=by
 refine⟨⟨eA.Gg [x],Or.inr ⟨q,1,fU x,rfl,bF,h,Nat.le_refl _,by unfold maxLen;omega,?_,?_⟩⟩,fun _ _=>trivial⟩
 ·exact Hd (gP x.2.2).size
 ·rw[←agl,List.take_of_length_le (by rw[eA.Gg];exact Nat.le_refl _)]
end
section
open Go Go.RowKit Go.Sort
attribute [local go_sem] mg A3 bB BX
def cV (X:Array Value) (q:Value):Array Value:=X++#[q]
theorem afa:(Tryz.prog.info? 86).map (·.size)=some 27:=by kernel_rfl
def z27:Array Value:=#[.int .i64 0,.int .i64 0,.int .i64 0,.int .i64 0,.int .i64 0,.bool false,.bool false,.int .u64 0,.int .u64 0,.int .u64 0,.int .u64 0,.bool false,.int .u64 0,.int .u64 0,.int .u64 0,.int .u64 0,.bool false,.int .u64 0,.int .u64 0,.int .u64 0,.int .u64 0,.bool false,.int .u64 0,.int .u64 0,.int .u64 0,.int .u64 0,.slice none 0 0]
section
variable {e n t v l:Int}{K:Array Value}{q:Value}
theorem qP (cQ:K.size=21):(cV (aI e n t v l K) q).size=27:=by simp[cV,aI,cQ]
theorem akM (eI:K.all (·.oneCell')=true) (aib:q.oneCell'=true):(cV (aI e n t v l K) q).all (·.oneCell')=true:=Jr (jU eI) (by simp[aib])
theorem qe (cQ:K.size=21):(cV (aI e n t v l K) q)[0]?=some (.int .i64 e)∧(cV (aI e n t v l K) q)[1]?=some (.int .i64 n)∧(cV (aI e n t v l K) q)[2]?=some (.int .i64 t)∧(cV (aI e n t v l K) q)[3]?=some (.int .i64 v)∧(cV (aI e n t v l K) q)[4]?=some (.int .i64 l)∧(cV (aI e n t v l K) q)[26]?=some q∧(cV (aI e n t v l K) q).extract 0 (0+26)=aI e n t v l K∧(cV (aI e n t v l K) q).extract 5 (5+21)=K:=by
 obtain⟨bt,az,aU,a_,bK,cy,cF,b8,bR,c2,kN,q8,pY,q9,q_,rf,rh,ri,rj,rk,rl,rfl⟩:=q5 cQ;clear cQ;refine⟨?_,?_,?_,?_,?_,?_,?_,?_⟩<;>kernel_rfl
theorem EZ (cQ:K.size=21) (x:Int) (r:Value):(cV (aI e n t v l K) q).setIfInBounds 1 (.int .i64 x)=cV (aI e x t v l K) q∧(cV (aI e n t v l K) q).setIfInBounds 4 (.int .i64 x)=cV (aI e n t v x K) q∧(cV (aI e n t v l K) q).setIfInBounds 26 r=cV (aI e n t v l K) r:=by
 obtain⟨bt,az,aU,a_,bK,cy,cF,b8,bR,c2,kN,q8,pY,q9,q_,rf,rh,ri,rj,rk,rl,rfl⟩:=q5 cQ;clear cQ;refine⟨?_,?_,?_⟩<;>kernel_rfl
theorem Ox {w:World}{g:Nat}{D:Array Value} (h:aG w g 86 (cV (aI e n t v l K) q)) (cQ:K.size=21) (hH:D.size=21) (rL:D.all (·.oneCell')=true):(Instr.storeAt 31 (.pointer (some ⟨g,5,none⟩)) (.agg D)).run Tryz.prog w=.ok () (w.setRow g (cV (aI e n t v l D) q)):=
 zT h _ 5 21 ei (by rw[qP cQ];omega) D hH rL _ (by
  obtain⟨bt,az,aU,a_,bK,cy,cF,b8,bR,c2,kN,q8,pY,q9,q_,rf,rh,ri,rj,rk,rl,rfl⟩:=q5 cQ;obtain⟨d0,d1,d2,d3,d4,d5,d6,d7,d8,d9,d10,d11,d12,d13,d14,d15,d16,d17,d18,d19,d20,rfl⟩:=q5 hH;clear cQ hH h rL;kernel_rfl)
theorem VT {w:World}{g:Nat}{e' n' t' v' l':Int}{D:Array Value} (h:aG w g 86 (cV (aI e n t v l K) q)) (cQ:K.size=21) (hH:D.size=21) (rL:D.all (·.oneCell')=true):(Instr.storeAt 33 (.pointer (some ⟨g,0,none⟩)) (.agg (aI e' n' t' v' l' D))).run Tryz.prog w=.ok () (w.setRow g (cV (aI e' n' t' v' l' D) q)):=
 zT h _ 0 26 eW (by rw[qP cQ];omega) _ (hR hH) (jU rL) _ (by
  obtain⟨bt,az,aU,a_,bK,cy,cF,b8,bR,c2,kN,q8,pY,q9,q_,rf,rh,ri,rj,rk,rl,rfl⟩:=q5 cQ;obtain⟨d0,d1,d2,d3,d4,d5,d6,d7,d8,d9,d10,d11,d12,d13,d14,d15,d16,d17,d18,d19,d20,rfl⟩:=q5 hH;clear cQ hH h rL;kernel_rfl)
theorem YE (e n t v l:Int) (cQ:K.size=21):Tryz.prog.built 86 [(0,.agg (aI e n t v l K))]=some (cV (aI e n t v l K) (.slice none 0 0)):=by
 obtain⟨bt,az,aU,a_,bK,cy,cF,b8,bR,c2,kN,q8,pY,q9,q_,rf,rh,ri,rj,rk,rl,rfl⟩:=q5 cQ;clear cQ;kernel_rfl
end
theorem So {w w':World}{row:Option Nat} (h:w.grownBy w' row):jI (fun k=>row=some k) w w':=⟨h.os,h.tape,h.output,h.size,fun k aE hn=>h.block k aE (fun e=>hn e.symm)⟩
theorem jI.trans {E:Nat→Prop}{w aT bp:World} (h:jI E w aT) (k:jI E aT bp):jI E w bp:=
 ⟨k.1.trans h.1,k.2.1.trans h.2.1,k.2.2.1.trans h.2.2.1,Nat.le_trans h.2.2.2.1 k.2.2.2.1,fun j aN hn=>(k.2.2.2.2 j (Nat.lt_of_lt_of_le aN h.2.2.2.1) hn).trans (h.2.2.2.2 j aN hn)⟩
theorem jI.mono {E F:Nat→Prop}{w aT:World} (h:jI E w aT) (k:∀ j,E j→F j):jI F w aT:=⟨h.1,h.2.1,h.2.2.1,h.2.2.2.1,fun j aN hn=>h.2.2.2.2 j aN (fun e=>hn (k j e))⟩
theorem jI.filled {E:Nat→Prop}{w aT:World}{g:Nat}{f:Obj} (hF:m_ w aT g f) (ad:E g):jI E w aT:=⟨hF.2.2.2.1,hF.2.2.2.2.1,hF.2.2.2.2.2,by rw[hF.2.2.1];exact Nat.le_refl _,fun j _ hn=>hF.2.1 j (fun e=>hn (by rw[e];exact ad))⟩
theorem aa' {T:Nat→(Nat→Value)→World→Prop}{E:Nat→Prop}{m:Nat}{R:Nat→Value}{w:World}{a:Act}{o:Oper}{s x:Operand}{B q:Nat}{Q:Value}{ls:List gD}{li:gD}
 (aL:o.op=.call { callee:=.builtin .append,args:=#[s,x],argTypes:=#[49,49] }) (hs:a.eval s=Q) (hx:a.eval x=.slice (some ⟨q,0,none⟩) 1 1) (gn:eA.Own B w Q ls) (hat:aG w q 55 (fU li)) (hlen:ls.length≤1099511627776) (bF:B≤w.heap.size)
 (h:∀ v' w',eA.Own B w' v' (ls++[li])→w.grownBy w' Q.ownBlock→(v'.ownBlock=Q.ownBlock∨v'.ownBlock=some w.heap.size)→T (m+1) (mr R m v') w'∧jI E w w'):A3 Tryz.prog T E m R w ((execOp a.eval o).run Tryz.prog w):=by
 have h1:eA.Own 0 w (.slice (some ⟨q,0,none⟩) 1 1) [li]:=NS li hat (Nat.zero_le _);obtain⟨v',w',qG,h2,h3,h4⟩:=eA.VL B w o.type Q ls [li] gn (some ⟨q,0,none⟩) 1 1 h1.tp rfl (by show (ls.length+1)*96≤_;omega) (by simp;omega) bF;have h5:=h v' w' h2 h3 h4;have aD:(Builtin.append_ #[49,49] o.type #[Q,.slice (some ⟨q,0,none⟩) 1 1]).run Tryz.prog w=.ok v' w':=qG;unfold execOp;simp only[aL,resolve,invoke,builtin,Sem.run_bind,Sem.run_pure,Result.andThen_ok,List.map_toArray,List.map_cons,List.map_nil,hs,hx,aD];exact h5
def uN (g B:Nat) (fQ:World) (Q:Value) (ls:List gD) (x:gD) (s:Nat) (R:Nat→Value) (w:World):Prop:=
 jI (fun k=>k=g∨Q.ownBlock=some k) fQ w∧(s≤1→eA.Own B w Q ls)∧(s=1→∃ q,R 0=.slice (some ⟨q,0,none⟩) 1 1∧fQ.heap.size≤q∧aG w q 55 (fU x))∧(2≤s→∃ A n c,R 1=.slice A n c∧n=(ls++[x]).length∧n≤c∧eA.Own B w (.slice A n c) (ls++[x])∧((Value.slice A n c).ownBlock=Q.ownBlock∨∃ k,fQ.heap.size≤k∧(Value.slice A n c).ownBlock=some k))
theorem aln {g B:Nat}{fQ:World}{Q:Value}{ls:List gD}{x:gD}:∀ s R w w',uN g B fQ Q ls x s R w→Below w.heap.size w w'→uN g B fQ Q ls x s R w':=fun s R w w' h k =>
 ⟨h.1.trans (Below.vk k),fun hs=>(h.2.1 hs).ext k,fun hs=>by
  obtain⟨q,h1,h2,h3⟩:=h.2.2.1 hs;exact⟨q,h1,h2,(k.block q h3.lt).trans h3⟩,fun hs=>by
  obtain⟨A,n,c,h1,h2,h3,h4,h5⟩:=h.2.2.2 hs;exact⟨A,n,c,h1,h2,h3,h4.ext k,h5⟩⟩
theorem NR {B g:Nat}{w aT:World}{f:Obj}{v:Value}{ls:List gD} (h:eA.Own B w v ls) (hF:m_ w aT g f) (hn:v.ownBlock≠some g):eA.Own B aT v ls:=by
 refine⟨?_,h.2⟩;obtain⟨h1,h2|⟨q,cap,cur,aF,af,hh,r⟩⟩:=h.1
 ·exact⟨h1,Or.inl h2⟩
 ·refine⟨h1,Or.inr ⟨q,cap,cur,aF,af,?_,r⟩⟩;rw[hF.2.1 q (fun e=>hn (by rw[aF,e];rfl))];exact hh
theorem Hs {B:Nat}{E:Nat→Prop}{w aT:World}{v:Value}{ls:List gD} (h:eA.Own B w v ls) (k:jI E w aT) (hn:∀ j,v.ownBlock=some j→¬ E j):eA.Own B aT v ls:=by
 refine⟨?_,h.2⟩;obtain⟨h1,h2|⟨q,cap,cur,aF,af,hh,r⟩⟩:=h.1
 ·exact⟨h1,Or.inl h2⟩
 ·refine⟨h1,Or.inr ⟨q,cap,cur,aF,af,?_,r⟩⟩;rw[k.2.2.2.2 q (Array.getElem?_eq_some_iff.1 hh).1 (hn q (by rw[aF];rfl))];exact hh
theorem alq {g B s:Nat}{fQ w aT:World}{Q:Value}{ls:List gD}{x:gD}{R:Nat→Value}{f:Obj} (h:uN g B fQ Q ls x s R w) (hF:m_ w aT g f) (hs:2≤s) (af:g<fQ.heap.size) (aO:Q.ownBlock≠some g):uN g B fQ Q ls x s R aT:=
 ⟨h.1.trans (jI.filled hF (Or.inl rfl)),fun k=>by omega,fun k=>by omega,fun k=>by
  obtain⟨A,n,c,h1,h2,h3,h4,h5⟩:=h.2.2.2 k;refine⟨A,n,c,h1,h2,h3,NR h4 hF ?_,h5⟩;rcases h5 with h5|⟨j,aN,h5⟩
  ·rw[h5];exact aO
  ·rw[h5];intro e;cases e;omega⟩
theorem alo {g B:Nat}{fQ w:World}{Q:Value}{ls:List gD}{x:gD}{R:Nat→Value} (h:uN g B fQ Q ls x 0 R w) (hs:fQ.heap.size≤w.heap.size):uN g B fQ Q ls x 1 (mr R 0 (.slice (some ⟨w.heap.size,0,none⟩) 1 1)) (w.alloc (.cells (fU x) 55)):=
 ⟨h.1.trans (Below.vk (Ga _ _)),fun _=>(h.2.1 (by omega)).alloc _,fun _=>⟨w.heap.size,rfl,hs,aG.new w _ _⟩,fun k=>by omega⟩
theorem alp {g B:Nat}{fQ w w':World}{Q v':Value}{ls:List gD}{x:gD}{R:Nat→Value} (h:uN g B fQ Q ls x 1 R w) (h2:eA.Own B w' v' (ls++[x])) (h3:w.grownBy w' Q.ownBlock) (h4:v'.ownBlock=Q.ownBlock∨v'.ownBlock=some w.heap.size) (hs:fQ.heap.size≤w.heap.size):uN g B fQ Q ls x 2 (mr R 1 v') w'∧jI (fun k=>Q.ownBlock=some k) w w':=by
 refine⟨⟨h.1.trans ((So h3).mono fun j e=>Or.inr e),fun k=>by omega,fun k=>by omega,fun _=>?_⟩,So h3⟩;obtain⟨A,c,e,hc,_,_⟩:=h2.at_;refine⟨A,_,c,by show mr R 1 v' 1=_;unfold mr;rw[if_pos rfl];exact e,rfl,hc,by rw[←e];exact h2,?_⟩;rw[←e];rcases h4 with h4|h4
 ·exact Or.inl h4
 ·exact Or.inr ⟨_,hs,h4⟩
end
section
open Go Go.RowKit Go.Sort
attribute [local go_sem] mg A3 bB BX
def wy (g B:Nat) (W:World) (X:Array Value) (Q:Value) (ls:List gD) (e:Ending) (w':World):Prop:=e=.returned (.tuple #[])∧∃ A n c,n=ls.length∧n≤c∧aG w' g 86 (cV X (.slice A n c))∧eA.Own B w' (.slice A n c) ls∧(Value.slice A n c).ownBlock≠some g∧jI (fun k=>k=g∨Q.ownBlock=some k) W w'
theorem xR {g:Nat}{W w:World} (h:b3 g W w):jI (fun k=>k=g) W w:=⟨h.1,h.2.1,h.2.2.1,h.2.2.2.1,fun k aE hn=>h.2.2.2.2 k aE hn⟩
set_option maxRecDepth 100000 in
theorem UU (e n t v l:Int) (K:Array Value) (cS:K.size=21) (eI:K.all (·.oneCell')=true) (g:Nat) (Q:Value) (W:World) (bJ:aG W g 86 (cV (aI e n t v l K) Q)) (d0:decide (0<n)=false):Calls Tryz.prog 49 #[.pointer (some ⟨g,0,none⟩)] W (aP (.tuple #[]) W):=by
 obtain⟨f0,f1,f2,f3,f4,f26,A6,fk⟩:=qe (e:=e) (n:=n) (t:=t) (v:=v) (l:=l) (q:=Q) cS;have BW:=qP (e:=e) (n:=n) (t:=t) (v:=v) (l:=l) (q:=Q) cS;have EE:Hid (Ext W W):=Ext.refl _;go_enter Tryz.func49,Tryz.ntmps49
 go_upto_region 0 with fail
 have yN:=fun d os=>(((bJ).ext (aX W d os)).cell 1).trans (f1)
 refine eK ?_;repeat (first|go_big_quiet_step (fail)|quiet_step (fail))
 refine wpQuiet_nil ?_;intro _ bj;obtain⟨⟨aQ,osq⟩,cq⟩:=bj;subst cq;replace bJ:=(bJ).ext (aX W aQ osq);replace EE:=hide (EE.out.trans (aX W aQ osq));obtain⟨bp,eF⟩:∃ w,grow (redrawn W aQ) osq=w:=⟨_,rfl⟩;rw[eF] at EE bJ ⊢;clear eF yN;go_wp2_with fail
 refine bodyPost_end (results_none rfl _ _ _) rfl ?_;exact⟨rfl,EE.out⟩
set_option maxRecDepth 100000 in
theorem UW (e n t v l:Int) (K:Array Value) (cS:K.size=21) (eI:K.all (·.oneCell')=true) (g:Nat) (Q:Value) (B:Nat) (ls:List gD) (f:Fr) (W:World) (bJ:aG W g 86 (cV (aI e n t v l K) Q)) (fY:eA.Own B W Q ls) (aO:Q.ownBlock≠some g) (bF:B≤W.heap.size) (hlen:ls.length≤1099511627776) (d0:decide (0<n)=true) (gR:Hid (∀ w,Calls Tryz.prog 80 #[.agg K] w (aP (.agg (cJ f)) w))) :
 Calls Tryz.prog 49 #[.pointer (some ⟨g,0,none⟩)] W (wy g B W (aI e n t v l K) Q (ls++[(n,v,f)])):=by
 obtain⟨f0,f1,f2,f3,f4,f26,A6,fk⟩:=qe (e:=e) (n:=n) (t:=t) (v:=v) (l:=l) (q:=Q) cS;have BW:=qP (e:=e) (n:=n) (t:=t) (v:=v) (l:=l) (q:=Q) cS;have fY:=hide fY;have DM:=bJ.lt;have EE:Hid (Ext W W):=Ext.refl _;go_enter Tryz.func49,Tryz.ntmps49
 go_upto_region 0 with fail
 have yN:=fun d os=>(((bJ).ext (aX W d os)).cell 1).trans (f1)
 refine eK ?_;repeat (first|go_big_quiet_step (fail)|quiet_step (fail))
 refine wpQuiet_nil ?_;intro _ bj;obtain⟨⟨aQ,osq⟩,cq⟩:=bj;subst cq;replace bJ:=(bJ).ext (aX W aQ osq);replace EE:=hide (EE.out.trans (aX W aQ osq));obtain⟨bp,eF⟩:∃ w,grow (redrawn W aQ) osq=w:=⟨_,rfl⟩;rw[eF] at EE bJ ⊢;clear eF yN;go_upto_region 1 with fail
 have kx:B≤bp.heap.size:=Nat.le_trans bF EE.out.size;have AL:=hide (fY.out.ext EE.out);have aeC:∀ k,Q.ownBlock=some k→k<bp.heap.size:=fun k aE=>(AL.out.1.lt k aE).2
 have oB:=bJ.lt;refine kl [.q,.q,.q,.q,.q,.q,.q,.q,.q,.q,.q,.q,.q,.q,.q,.q,.q,.q,.q,.q,.q,.q,.q,.gO 0,.gO 1,.q,.q,.so 0] [0,0,0,0,0,0,0,0,0,0,0,0,0,0,0,0,0,0,0,0,0,0,0,0,1,0,0,2] (fun R=>[.pointer (some ⟨g,0,none⟩),.pointer (some ⟨g,0,none⟩),.pointer (some ⟨g,0,none⟩),.pointer (some ⟨g,26,none⟩),Q,.pointer (some ⟨g,0,none⟩),.pointer (some ⟨g,0,none⟩),.pointer (some ⟨g,0,none⟩),.pointer (some ⟨g,1,none⟩),.int .i64 n,.pointer (some ⟨g,0,none⟩),.pointer (some ⟨g,0,none⟩),.pointer (some ⟨g,0,none⟩),.pointer (some ⟨g,2,none⟩),.pointer (some ⟨g,3,none⟩),.int .i64 v,.pointer (some ⟨g,0,none⟩),.pointer (some ⟨g,0,none⟩),.pointer (some ⟨g,0,none⟩),.pointer (some ⟨g,5,none⟩),.agg K,.agg (cJ f),.agg (fU (n,v,f)),undef,undef,.pointer (some ⟨g,0,none⟩),.pointer (some ⟨g,26,none⟩),undef]) (fun _=>(.cells #[] 0 (0,0))) (fun R i=>match i with|27=>(.cells (cV (aI e n t v l K) (R 1)) 86 (0,0))|_=>(.cells #[] 0 (0,0))) (fun _=>g) (uN g B bp Q ls (n,v,f)) (fun k=>Q.ownBlock=some k) (by kernel_rfl) (by kernel_rfl) (by kernel_rfl) (by kernel_rfl) rfl (fun _=>rfl) aeC (fun _ _ h=>aO h) (by intro c hc;simp at hc;(try subst hc);(try simp only);omega) (by intro c c' h1 h2 _;simp at h1 h2;omega) (fun R b1=>⟨fun _=>rfl,fun _=>rfl,fun _=>rfl,fun _=>rfl,fun _=>rfl,fun _=>rfl,fun _=>rfl,fun _=>rfl,fun _=>rfl,fun _=>rfl,fun _=>rfl,fun _=>rfl,fun _=>rfl,fun _=>rfl,fun _=>rfl,fun _=>rfl,fun _=>rfl,fun _=>rfl,fun _=>rfl,fun _=>rfl,fun _=>rfl,fun _=>rfl,fun _=>rfl,fun _=>rfl,fun _=>rfl,fun _=>rfl,fun _=>rfl,fun _=>rfl,trivial⟩) (by intro R b1 i h;(try dsimp only);(repeat' split)<;>first|rfl|((try rw[h 1 (by decide)]))) aln ⟨⟨rfl,rfl,rfl,Nat.le_refl _,fun _ _ _=>rfl⟩,fun _=>AL.out.ext (b5 _),fun h=>by omega,fun h=>absurd h (by decide)⟩ ?EQ ?C4;case EQ =>
  refine⟨aH,aH,aH,aH,?_,aH,aH,aH,aH,?_,aH,aH,aH,aH,aH,?_,aH,aH,aH,aH,?_,d_ gR,?_,?_,?_,aH,aH,?_,trivial⟩
  ·refine cj fun R s w' aw hs hw ha=>?_
   have cc:=((show aG w' g _ (cV (aI e n t v l K) Q) from(ha 27 0 rfl (by kernel_rfl)).trans bJ).cell 26).trans (f26);go_simp
  ·refine cj fun R s w' aw hs hw ha=>?_
   have cc:=((show aG w' g _ (cV (aI e n t v l K) Q) from(ha 27 0 rfl (by kernel_rfl)).trans bJ).cell 1).trans (f1);go_simp
  ·refine cj fun R s w' aw hs hw ha=>?_
   have cc:=((show aG w' g _ (cV (aI e n t v l K) Q) from(ha 27 0 rfl (by kernel_rfl)).trans bJ).cell 3).trans (f3);go_simp
  ·refine cj fun R s w' aw hs hw ha=>?_
   have L:=pH ((ha 27 0 rfl (by kernel_rfl)).trans bJ) _ _ fV rfl 5 21 ei (by rw[(qP cS)];first|decide|omega) _ (fk);generalize hA:bB _ _ _ _ _ _ _=c3;refine e7 rfl ?_ L;subst hA;kernel_rfl
  ·refine cj fun R s w' aw hs hw ha=>?_
   generalize hA:bB _ _ _ _ _ _ _=c3;refine pD (vs:=#[(0,.int .i64 n),(1,.int .i64 v),(2,.agg (cJ f))]) rfl ?_ (Ru n v (gP f).size);subst hA;kernel_rfl
  ·refine C6 (m:=0) ?aei ?ab1 ?_;case aei=>exact rfl
   case ab1=>exact cu rfl
   intro R w' aw hw;have hz:=hw.2.2.2.1;generalize hA:bB _ _ _ _ _ _ _=c3;refine Kg (n,v,f) rfl ?_ (alo aw hz);subst hA;kernel_rfl
  ·refine C6 (m:=1) ?D0 ?Dh ?_;case D0=>exact rfl
   case Dh=>exact cu rfl
   intro R w' aw hw;have hz:=hw.2.2.2.1;obtain⟨q,iJ,D9,yz⟩:=aw.2.2.1 rfl;generalize hA:bB _ _ _ _ _ _ _=c3;refine aa' (s:=.tmp 12) (x:=.tmp 31) (q:=q) rfl ?_ ?_ (aw.2.1 (Nat.le_refl _)) yz hlen (Nat.le_trans kx hz) (fun v' bp h2 h3 h4=>alp aw h2 h3 h4 hz)
   ·subst hA;kernel_rfl
   ·rw[←iJ];subst hA;kernel_rfl
  ·refine il (c:=0) (Ty:=?aox) (p:=?ar5) (x:=?atw) g ?abB ?amf ?Pj ?LX ?ahC ?MH ?af8 ?Kz ?Z3 ?aas ?_;case LX=>exact rfl
   case ahC=>exact rfl
   case abB=>exact(fun R=>(.cells (cV (aI e n t v l K) (R 1)) 86 (0,0)))
   case amf=>exact(fun R=>.pointer (some ⟨g,26,none⟩))
   case Pj=>exact(fun R=>(R 1))
   case MH=>exact(fun R=>rfl)
   case af8=>exact rfl
   case Kz=>exact cu rfl
   case Z3 =>
    intro R;kernel_rfl
   case aas =>
    intro R;kernel_rfl
   intro R s ρ w aw hs hp hx hz;have dj:2≤s:=hs;obtain⟨cU,aC,az,bk,hJ,eS,ox,au⟩:=aw.2.2.2 dj;rw[bk] at hx ⊢;have bF:=(show aG w g _ (cV (aI e n t v l K) Q) from hz.trans bJ);have hc:=(bF.cell 26).trans (f26);have hf:=bF.frozen 26;refine⟨qR (g:=g) (Ty:=49) rfl hp hx (hz.trans bJ) ((EZ cS 0 _).2.2) ?_,fun aT hF=>alq aw hF dj oB aO⟩;go_simp
 case C4 =>
  intro cY R G Fk ae;have hS:=ae.same;have aZ:=ae.holds;have bf:=(Nat.le_refl bp.heap.size);have sP:0<cY:=(ae.stage 23 (show 23<28 by decide) 0 rfl).1 (List.mem_range.2 (show 23<28 by decide));obtain⟨q,iJ,D9,yz⟩:∃ q,True∧True∧True:=⟨0,trivial,trivial,trivial⟩;clear iJ D9 yz;have py:1<cY:=(ae.stage 24 (show 24<28 by decide) 1 rfl).1 (List.mem_range.2 (show 24<28 by decide));obtain⟨cU,aC,az,bk,hJ,eS,ox,au⟩:=aZ.2.2.2 py;replace bJ:aG Fk g 86 (cV (aI e n t v l K) (R 1)):=ae.ep 27 (List.mem_range.2 (show 27<28 by decide)) 0 rfl;rw[bk] at bJ;have GG:=aZ.1;clear hS bf aZ ae oB;generalize hF:bB _ _ _ _ _ _ _=bH;have bI:bH={ tmps:=#[.pointer (some ⟨g,0,none⟩),undef,.pointer (some ⟨g,0,none⟩),.pointer (some ⟨g,0,none⟩),.pointer (some ⟨g,0,none⟩),.pointer (some ⟨g,1,none⟩),.int .i64 n,.bool true,.pointer (some ⟨g,0,none⟩),.pointer (some ⟨g,0,none⟩),.pointer (some ⟨g,0,none⟩),.pointer (some ⟨g,26,none⟩),Q,.pointer (some ⟨g,0,none⟩),.pointer (some ⟨g,0,none⟩),.pointer (some ⟨g,0,none⟩),.pointer (some ⟨g,1,none⟩),.int .i64 n,.pointer (some ⟨g,0,none⟩),.pointer (some ⟨g,0,none⟩),.pointer (some ⟨g,0,none⟩),.pointer (some ⟨g,2,none⟩),.pointer (some ⟨g,3,none⟩),.int .i64 v,.pointer (some ⟨g,0,none⟩),.pointer (some ⟨g,0,none⟩),.pointer (some ⟨g,0,none⟩),.pointer (some ⟨g,5,none⟩),.agg K,.agg (cJ f),.agg (fU (n,v,f)),(R 0),(R 1),.pointer (some ⟨g,0,none⟩),.pointer (some ⟨g,26,none⟩)],defers:=[] }:=by subst hF;kernel_rfl
  clear hF;subst bI;(try simp only[bk,bk])
  go_wp2_with fail
  refine bodyPost_end (results_none rfl _ _ _) rfl ?_;refine⟨rfl,cU,aC,az,hJ,eS,bJ,ox,?_,(Below.vk EE.out).trans GG⟩;rcases au with h|⟨k,aE,h⟩
  ·rw[h];exact aO
  ·rw[h];intro e;cases e;have:=EE.out.size;omega
end
section
open Go Go.RowKit
theorem akO (u m:Nat):(u:Int) / 2 ^ m=((u >>> m:Nat):Int):=by rw[Nat.shiftRight_eq_div_pow];simp
theorem akP {u q k:Nat} (hu:u<18446744073709551616) (h:k≤q):u >>> q≤18446744073709551615 / 2 ^ k:=by
 rw[Nat.shiftRight_eq_div_pow];exact Nat.le_trans (Nat.div_le_div_left (Nat.pow_le_pow_right (by omega) h) (Nat.two_pow_pos k)) (Nat.div_le_div_right (by omega))
def o5 (v:Int):Prop:=0≤v∧v≤4611686018427387904
set_option maxRecDepth 100000 in
theorem alf (B b:Nat) (W w:World) (aw:fP B w b) (ef:b3 b W w):Calls Tryz.prog 16 #[.pointer (some ⟨b,0,none⟩)] w (AI B b o5 .i64 W):=by
 have i8:de 8:=⟨by omega,by omega⟩;have i2:de 2:=⟨by omega,by omega⟩;have i60:de 60:=⟨by omega,by omega⟩;have i30:de 30:=⟨by omega,by omega⟩;have iH:=hide aw;have dR:=hide ef;clear aw ef;go_enter Tryz.func16,Tryz.ntmps16
 go_upto_region 2 with (go_at_call 36;(with_reducible refine(lJ B b 8 _ i8 iH.out).mono ?_);rintro e aT ⟨x,rfl,hx,T1,u1⟩;have T1:=hide T1;have oE:=hide (dR.out.trans u1);have x0:=hx.1;clear hx u1 iH dR)
 by_cases h0:x=0
 ·have d0:(x==0)=true:=by rw[beq_iff_eq];exact h0
  clear h0 x0;go_wp2_with fail
  go_ret;exact⟨0,rfl,⟨by omega,by omega⟩,T1.out,oE.out⟩
 have d0:(x==0)=false:=by rw[beq_eq_false_iff_ne];exact h0
 by_cases h1:x=1
 ·have d1:(x==1)=true:=by rw[beq_iff_eq];exact h1
  clear h0 x0 h1;go_upto_region 5 with fail
  go_upto_region 9 with (go_at_call 36;(with_reducible refine(lJ B b 2 _ i2 T1.out).mono ?_);rintro e bp ⟨y,rfl,hy,kr,u2⟩;have kr:=hide kr;have uO:=hide (oE.out.trans u2);have nY:=hy.1;have y1:=hy.2.1 (by omega);obtain⟨z,hz⟩:=aM (4611686018427387904-y);have fb:0≤z:=(by omega);have z2:z≤4611686018427387904:=(by omega);clear hy u2 T1 oE nY y1)
  go_ret;exact⟨z,rfl,⟨fb,z2⟩,kr.out,uO.out⟩
 have d1:(x==1)=false:=by rw[beq_eq_false_iff_ne];exact h1
 by_cases h2:x=2
 ·have d2:(x==2)=true:=by rw[beq_iff_eq];exact h2
  clear h0 x0 h1 h2;go_upto_region 7 with fail
  go_wp2_with (first
   | (go_at_call 46;(with_reducible refine(HW B b _ T1.out).mono ?_);rintro e w3 ⟨u,rfl,hu,oD,u3⟩;obtain⟨tC,rfl⟩:=Int.eq_ofNat_of_zero_le hu.1;have Ej:tC<18446744073709551616:=(by have:=hu.2;omega);have oD:=hide oD;have w5:=hide (oE.out.trans u3);clear hu u3 T1 oE)
   | (go_at_call 36;(with_reducible refine(lJ B b 60 _ i60 oD.out).mono ?_);rintro e bZ ⟨s,rfl,hs,si,u4⟩;obtain⟨y,rfl⟩:=Int.eq_ofNat_of_zero_le hs.1;have hy:y<60:=(by have:=hs.2.1 (by omega);omega);obtain⟨q,aO⟩:∃ q:Nat,2+y=q:=⟨_,rfl⟩;have Gt:(2:Int)+(y:Int)=(q:Int):=(by omega);have aD:=akP (q:=q) (k:=2) Ej (by omega);have bk:=akO tC q;obtain⟨r,xu⟩:=aM (tC >>> q);rw[xu] at bk aD;have nu:r≤4611686018427387904:=(Nat.le_trans aD (by decide));have oc:q≤64:=(by omega);clear aO aD xu;have si:=hide si;have F4:=hide (w5.out.trans u4);clear hs u4 oD w5))
  go_ret;exact⟨r,by go_num,⟨by omega,by omega⟩,si.out,F4.out⟩
 have d2:(x==2)=false:=by rw[beq_eq_false_iff_ne];exact h2
 clear h0 x0 h1 h2;go_wp2_with (go_at_call 36;(with_reducible refine(lJ B b 30 _ i30 T1.out).mono ?_);rintro e bp ⟨y,rfl,hy,kr,u2⟩;have kr:=hide kr;have uO:=hide (oE.out.trans u2);have nY:=hy.1;have y1:=hy.2.1 (by omega);clear hy u2 T1 oE)
 go_ret;exact⟨y,rfl,⟨nY,by omega⟩,kr.out,uO.out⟩
end
end Go.Proofs.YtojbopibfflnoaaGreat
