/- Contracts and plain facts; each states its conditions. -/
import Derived.Test.YtojbopibfflnoaaGreatPrY1
import Derived.Laws.StructEq
import Derived.Below
import Derived.Laws.CopyOwn
import Derived.Maps.AppendAt
import Derived.Deep.AppendLies
import Derived.Deep.Draws
import Derived.Lib.QuietBelow
import Derived.Orders
import Derived.KernelRfl
import Derived.Lib.BitFns
namespace Go.Proofs.YtojbopibfflnoaaGreat
open Go renaming undef → rM, World → w1, Value → Ax, Calls → AA, bodyPost_ret → B7, heap_setCell_other → axd, redrawn → aw5, heap_alloc_new → axe, TypeId → aw7, run_underlying → axf, Operand → axb, Oper → aw4, Ending → axa, Addr → aw6, Program → axh, execOp → axc
open _root_.Go.Proofs.Tryz renaming prog → CW
set_option linter.unusedVariables false
set_option linter.unusedSimpArgs false
set_option maxHeartbeats 16000000
section
open Go Go.RowKit
theorem BO{k:IntKind}{a a':Int}{b b':Bool}(h1:a=a')(h2:b=b'):Ending.returned (Value.tuple #[.int k a,.bool b])=.returned (.tuple #[.int k a',.bool b']):=by rw[h1,h2]
def yA(k:IntKind)(x:Int)(b:Bool)(w:w1)(e:axa)(w':w1):Prop:=e=.returned (.tuple #[.int k x,.bool b])/\Ext w w'
theorem VC(s:Bool)(a b c d:Nat)(z:Int)(w:w1)(h:dg s a b c d z) :
 AA CW 83 #[.agg #[.bool s,a,b,c,d]] w (yA .u64 (if 0<=z/\z<18446744073709551616 then z else 0) (decide (0<=z/\z<18446744073709551616)) w):=by
 obtain⟨r,aD⟩:=aM (if 0<=z/\z<18446744073709551616 then z else 0);obtain⟨o,aL⟩:=aM (decide (0<=z/\z<18446744073709551616));rw[aD,aL];have bq:=hide aD;have bM:=hide aL;clear aD aL;have bN:=hide (aA w (.cells #[.bool s,a,b,c,d] 27));have ay:=hide (show Box (w.alloc (.cells #[.bool s,a,b,c,d] 27)) w.heap.size s a b c d from axe w _);go_enter Tryz.func83,Tryz.ntmps83
 go_upto_region 1 with fail
 go_cut [] (fun bP=>∃ (s:Bool) (a b c d:Nat),cw s a b c d z/\Box bP w.heap.size s a b c d/\Ext w bP)
 case first =>
  go_wp2_with (go_at_call 59;refine(HL s a b c d z _ h).mono ?_;rintro e' w' ⟨s',a',b',c',d',rfl,hC,ad⟩;have cD:=ay.out.ext ad;have bS:=bN.out.trans ad;have dY:=av cD)
  go_meet
  exact⟨s',a',b',c',d',hC,cD.put,dr bS (Nat.le_refl _) _ _ _ _ _⟩
 case rest =>
  clear ay bN h;obtain⟨s,a,b,c,d,hC,ay,bC⟩:=hcut;obtain⟨ha,hb,hc,hd,hz⟩:=hC.1;have hs:=hC.2;obtain⟨n,hn⟩:=aM (b0 a b c d);obtain⟨L,br⟩:=aM ((bg n).length);have lr:L<=1↔n<18446744073709551616:=by rw[<-br];exact ka
  rw[hn] at hz;have adR:n<18446744073709551616->a=n:=by intro h;simp only[b0,val] at hn;omega
  have gL:=hide hn;have cz:=hide br;clear hn br;have gQ:s=true/\z<0\/s=false/\1<L/\18446744073709551616<=z\/s=false/\L<=1/\0<=z/\z<18446744073709551616/\(a:Int)=z:=by
   cases s<;>simp at hz hs<;>simp<;>omega
  clear hz hs adR lr hC;have dY:=av ay;rcases gQ with ⟨rfl,h1⟩|⟨rfl,h1,h2⟩|⟨rfl,h1,h2,h3,h4⟩
  ·have HH:=hide h1;clear h1;go_wp2_with (go_at_call 60;refine(oR w.heap.size _ a b c d _ bC.size ha hb hc hd).mono ?_;rintro e' w' ⟨v,rfl,aF,ad⟩;rw[gL.out] at aF;obtain⟨a3,Ry,rfl,_,_,_⟩:=aF.shape L cz.out;have cD:=ay.ext ad;have bS:=bC.trans ad;have dY:=av cD)
   all_goals go_ret2
   all_goals exact⟨BO (by rw[<-bq.out,if_neg (by have:=HH.out;omega)]) (by rw[<-bM.out];have:=HH.out;simp;omega),bS⟩
  ·have HH:=hide h2;clear h2;go_wp2_with (go_at_call 60;refine(oR w.heap.size _ a b c d _ bC.size ha hb hc hd).mono ?_;rintro e' w' ⟨v,rfl,aF,ad⟩;rw[gL.out] at aF;obtain⟨a3,Ry,rfl,_,_,_⟩:=aF.shape L cz.out;have cD:=ay.ext ad;have bS:=bC.trans ad;have dY:=av cD)
   all_goals go_ret2
   all_goals exact⟨BO (by rw[<-bq.out,if_neg (by have:=HH.out;omega)]) (by rw[<-bM.out];have:=HH.out;simp;omega),bS⟩
  ·have HH:=hide (And.intro h2 (And.intro h3 h4));clear h2 h3 h4;go_wp2_with (go_at_call 60;refine(oR w.heap.size _ a b c d _ bC.size ha hb hc hd).mono ?_;rintro e' w' ⟨v,rfl,aF,ad⟩;rw[gL.out] at aF;obtain⟨a3,Ry,rfl,_,_,_⟩:=aF.shape L cz.out;have cD:=ay.ext ad;have bS:=bC.trans ad;have dY:=av cD)
   all_goals go_ret2
   all_goals exact⟨BO (by rw[<-bq.out,if_pos ⟨HH.out.1,HH.out.2.1⟩];exact HH.out.2.2) (by rw[<-bM.out];have:=HH.out;simp;omega),bS⟩
def b3(g:Nat)(w w':w1):Prop:=w'.os=w.os/\w'.tape=w.tape/\w'.output=w.output/\w.heap.size<=w'.heap.size/\∀ k,k<w.heap.size->k≠g->w'.heap[k]?=w.heap[k]?
theorem b3.refl(g:Nat)(w:w1):b3 g w w:=⟨rfl,rfl,rfl,Nat.le_refl _,fun _ _ _=>rfl⟩
theorem b3.trans{g:Nat}{a b c:w1}(h:b3 g a b)(k:b3 g b c):b3 g a c:=
 ⟨k.1.trans h.1,k.2.1.trans h.2.1,k.2.2.1.trans h.2.2.1,Nat.le_trans h.2.2.2.1 k.2.2.2.1,fun i hi hn=>(k.2.2.2.2 i (Nat.lt_of_lt_of_le hi h.2.2.2.1) hn).trans (h.2.2.2.2 i hi hn)⟩
theorem Ext.c7{w w':w1}(h:Ext w w')(g:Nat):b3 g w w':=⟨h.os,h.tape,h.output,h.size,fun k aE _=>h.block k aE⟩
theorem b3.ext{g:Nat}{W w w':w1}(h:b3 g w w')(k:Ext W w)(af:W.heap.size<=g):Ext W w':=
 ⟨h.1.trans k.os,h.2.1.trans k.tape,h.2.2.1.trans k.output,Nat.le_trans k.size h.2.2.2.1,fun i hi=>(h.2.2.2.2 i (Nat.lt_of_lt_of_le hi k.size) (by omega)).trans (k.block i hi)⟩
theorem amt(w:w1)(g k:Nat)(u:Ax):b3 g w (w.setCell ⟨g,k,none⟩ u):=
 ⟨rfl,rfl,rfl,by simp[World.setCell],fun i _ hn=>axd w ⟨g,k,none⟩ i u hn⟩
def cn(w:w1)(g:Nat)(T:aw7)(L:List Nat):Prop:=w.heap[g]?=some (.cells (wd L).toArray T (0,0))
theorem cn.at{w:w1}{g:Nat}{T:aw7}{L:List Nat}(h:cn w g T L)(i:Nat)(hi:i<L.length):w.cell? ⟨g,i,none⟩=some (.int .u64 (L[i]:Int)):=by
 rw[cell_of_block h];simp[wd,hi]
theorem cn.free{w:w1}{g:Nat}{T:aw7}{L:List Nat}(h:cn w g T L)(i:Nat):w.frozen? ⟨g,i,none⟩=false:=gw h i
theorem cn.lt{w:w1}{g:Nat}{T:aw7}{L:List Nat}(h:cn w g T L):g<w.heap.size:=(Array.getElem?_eq_some_iff.1 h).1
theorem cn.set{w:w1}{g:Nat}{T:aw7}{L:List Nat}(h:cn w g T L)(k x:Nat):cn (w.setCell ⟨g,k,none⟩ (.int .u64 (x:Int))) g T (L.set k x):=by
 unfold cn;rw[kE h k];simp[wd,List.map_set]
theorem cn.cI{w:w1}{g b:Nat}{T:aw7}{L:List Nat}(h:cn w g T L)(hn:g≠b)(k:Nat)(u:Ax):cn (w.setCell ⟨b,k,none⟩ u) g T L:=by
 unfold cn;rw[axd w ⟨b,k,none⟩ g u hn];exact h
theorem cn.ext{w w':w1}{g:Nat}{T:aw7}{L:List Nat}(h:cn w g T L)(k:Ext w w'):cn w' g T L:=by
 have:=h.lt;unfold cn;rw[k.block g this];exact h
theorem cn.c7{w w':w1}{g b:Nat}{T:aw7}{L:List Nat}(h:cn w g T L)(k:b3 b w w')(hn:g≠b):cn w' g T L:=by
 have:=h.lt;unfold cn;rw[k.2.2.2.2 g this hn];exact h
theorem cn.drew{w:w1}{g:Nat}{T:aw7}{L:List Nat}(h:cn w g T L):cn w.drew g T L:=h
theorem cn.drewN{w:w1}{g:Nat}{T:aw7}{L:List Nat}(h:cn w g T L)(n:Nat):cn (w.drewN n) g T L:=h
theorem cn.four{w:w1}{g:Nat}{T:aw7}{a b c d:Nat}(h:cn w g T [a,b,c,d]) :
 w.cell? ⟨g,0,none⟩=some (.int .u64 (a:Int))/\w.cell? ⟨g,1,none⟩=some (.int .u64 (b:Int))/\w.cell? ⟨g,2,none⟩=some (.int .u64 (c:Int))/\w.cell? ⟨g,3,none⟩=some (.int .u64 (d:Int)) /\
 w.frozen? ⟨g,0,none⟩=false/\w.frozen? ⟨g,1,none⟩=false/\w.frozen? ⟨g,2,none⟩=false/\w.frozen? ⟨g,3,none⟩=false:=
 ⟨h.at 0 (by simp),h.at 1 (by simp),h.at 2 (by simp),h.at 3 (by simp),h.free 0,h.free 1,h.free 2,h.free 3⟩
theorem A8{L:List Nat}(h:L.length=4):∃ a b c d,L=[a,b,c,d]:=by
 match L,h with
 | [a,b,c,d],_=>exact⟨a,b,c,d,rfl⟩
theorem Ju(w:w1)(T:aw7)(L:List Nat)(cur:Array Ax)(h:cur=(wd L).toArray):cn (w.alloc (.cells cur T)) w.heap.size T L:=by
 subst h;exact axe w _
theorem A4(d:Nat)(t:aw7)(bd:Tryz.prog.underlying t=some (.array 4 24))(a b c e a' b' c' e':Int)(w:w1) :
 (Op.equalIn (d+2) t (.agg #[.int .u64 a,.int .u64 b,.int .u64 c,.int .u64 e]) (.agg #[.int .u64 a',.int .u64 b',.int .u64 c',.int .u64 e'])).run CW w=.ok (a==a'&&(b==b'&&(c==c'&&e==e'))) w:=by
 have hu:=Tryz.underlying24;have he:∀ (x y:Int) (w:w1),(Op.equalIn (d+1) 24 (.int .u64 x) (.int .u64 y)).run CW w=.ok (x==y) w:=fun x y w=>run_equalIn_int w d 24 .u64 .u64 x y hu
 have hs:=Tryz.sizeOf24;have p0:∀ (v0 v1 v2 v3:Ax) (w:w1),(part 24 #[v0,v1,v2,v3] 0).run CW w=.ok v0 w:=by intro v0 v1 v2 v3 w;simp[part,isAgg,axf hu]
 have p1:∀ (v0 v1 v2 v3:Ax) (w:w1),(part 24 #[v0,v1,v2,v3] 1).run CW w=.ok v1 w:=by intro v0 v1 v2 v3 w;simp[part,isAgg,axf hu]
 have p2:∀ (v0 v1 v2 v3:Ax) (w:w1),(part 24 #[v0,v1,v2,v3] 2).run CW w=.ok v2 w:=by intro v0 v1 v2 v3 w;simp[part,isAgg,axf hu]
 have zN:∀ (v0 v1 v2 v3:Ax) (w:w1),(part 24 #[v0,v1,v2,v3] 3).run CW w=.ok v3 w:=by intro v0 v1 v2 v3 w;simp[part,isAgg,axf hu]
 have aD:List.range' 0 4 1=[0,1,2,3]:=rfl;rw[Op.equalIn];simp only[Sem.run_bind,axf bd,Result.andThen_ok,hs,Std.Legacy.Range.forIn_eq_forIn_range',Std.Legacy.Range.size,Nat.sub_zero,Nat.add_sub_cancel,Nat.div_one,aD];by_cases h1:a=a'<;>by_cases h2:b=b'<;>by_cases h3:c=c'<;>by_cases h4:e=e'<;>simp[h1,h2,h3,h4,p0,p1,p2,zN,he]
theorem RW(s s':Bool)(a b c e a' b' c' e':Int)(w:w1) :
 (binOp .eql 27 (.agg #[.bool s,.int .u64 a,.int .u64 b,.int .u64 c,.int .u64 e]) (.agg #[.bool s',.int .u64 a',.int .u64 b',.int .u64 c',.int .u64 e'])).run CW w=.ok (.bool (s==s'&&(a==a'&&(b==b'&&(c==c'&&e==e'))))) w:=by
 have hS:Tryz.prog.underlying 27=some (.struct (Tryz.prog.fieldsOf 27)):=by kernel_rfl
 have hp:Tryz.prog.stoodInHeld 27=false:=by kernel_rfl
 have u4:=Tryz.underlying4;have h4:=A4 9997 25 Tryz.underlying25;have Ak:=Tryz.sizeOf25;rw[run_eql_struct,show (10000:Nat)=9999+1 from rfl,run_equalIn_agg w 9999 27 _ _ hS hp];simp only[Program.fieldsOf,Tryz.underlying27];simp[Op.eqFields,part,isAgg,axf u4,run_equalIn_bool',u4,h4,Ak];by_cases h0:s=s'<;>by_cases h1:a=a'<;>by_cases h2:b=b'<;>by_cases h3:c=c'<;>by_cases h4:e=e'<;>simp[h0,h1,h2,h3,h4]
theorem Um(s s':Bool)(a b c e a' b' c' e':Int)(w:w1) :
 (binOp .neq 27 (.agg #[.bool s,.int .u64 a,.int .u64 b,.int .u64 c,.int .u64 e]) (.agg #[.bool s',.int .u64 a',.int .u64 b',.int .u64 c',.int .u64 e'])).run CW w=.ok (.bool (!(s==s'&&(a==a'&&(b==b'&&(c==c'&&e==e')))))) w:=by
 have h:=RW s s' a b c e a' b' c' e' w;rw[run_eql_struct] at h;rw[run_neq_struct];cases aD:(Op.equalIn 10000 27 (.agg #[.bool s,.int .u64 a,.int .u64 b,.int .u64 c,.int .u64 e]) (.agg #[.bool s',.int .u64 a',.int .u64 b',.int .u64 c',.int .u64 e'])).run CW w with
 | ok r aT=>rw[aD] at h;simp only[Result.andThen_ok,Result.ok.injEq,Value.bool.injEq] at h |-;obtain⟨h1,h2⟩:=h;subst h1;exact⟨rfl,h2⟩
 | halt x aT=>rw[aD] at h;simp[Result.andThen] at h
theorem RV(t:aw7)(bd:Tryz.prog.underlying t=some (.array 4 24))(a b c e a' b' c' e':Int)(w:w1) :
 (binOp .eql t (.agg #[.int .u64 a,.int .u64 b,.int .u64 c,.int .u64 e]) (.agg #[.int .u64 a',.int .u64 b',.int .u64 c',.int .u64 e'])).run CW w=.ok (.bool (a==a'&&(b==b'&&(c==c'&&e==e')))) w:=by
 rw[run_eql_struct,show (10000:Nat)=9998+2 from rfl,A4 9998 t bd];rfl
theorem agN(t:aw7)(bd:Tryz.prog.underlying t=some (.array 4 24))(a b c e a' b' c' e':Int)(w:w1) :
 (binOp .neq t (.agg #[.int .u64 a,.int .u64 b,.int .u64 c,.int .u64 e]) (.agg #[.int .u64 a',.int .u64 b',.int .u64 c',.int .u64 e'])).run CW w=.ok (.bool (!(a==a'&&(b==b'&&(c==c'&&e==e'))))) w:=by
 rw[run_neq_struct,show (10000:Nat)=9998+2 from rfl,A4 9998 t bd];rfl
theorem Rk(a b c d:Nat)(o:Bool)(h:decide (b0 a b c d≠0)=o):(((a:Int)==0)&&(((b:Int)==0)&&(((c:Int)==0)&&((d:Int)==0))))=!o:=by
 subst h;simp only[b0,val];rw[Bool.eq_iff_iff];simp;omega
theorem Hl(t:aw7)(bd:Tryz.prog.underlying t=some (.array 4 24))(a b c d:Nat)(o:Bool)(h:decide (b0 a b c d≠0)=o)(w:w1) :
 (binOp .neq t (.agg #[a,b,c,d]) (.agg #[(),(),(),()])).run CW w=.ok (.bool o) w:=by
 rw[agN t bd,Rk a b c d o h,Bool.not_not]
theorem A5(t:aw7)(bd:Tryz.prog.underlying t=some (.array 4 24))(a b c d:Nat)(o:Bool)(h:decide (b0 a b c d≠0)=o)(w:w1) :
 (binOp .eql t (.agg #[a,b,c,d]) (.agg #[(),(),(),()])).run CW w=.ok (.bool (!o)) w:=by
 rw[RV t bd,Rk a b c d o h]
theorem ES(s:Bool)(a b c d:Nat)(z:Int)(w:w1)(h:dg s a b c d z) :
 AA CW 120 #[.agg #[.bool s,a,b,c,d]] w (lN (!s||decide (z≠0)) w):=by
 cases s
 ·go_enter Tryz.func120,Tryz.ntmps120
  go_wp2
  go_ret;exact⟨rN (by simp),aA _ _⟩
 ·obtain⟨o,aL⟩:=aM (decide (b0 a b c d≠0));have aO:=Hl 25 Tryz.underlying25 a b c d o aL;have hz:Hid ((!true||decide (z≠0))=o):=by
   rw[<-aL];have:=h.2.2.2.2;simp at this;subst this
   unfold Hid;simp
  clear aL h;go_enter Tryz.func120,Tryz.ntmps120
  go_wp2
  go_ret;exact⟨rN hz.out.symm,aA _ _⟩
theorem qN(s:Bool)(a b c d:Nat)(w:w1)(ha:a<18446744073709551616)(hb:b<18446744073709551616)(hc:c<18446744073709551616)(hd:d<18446744073709551616) :
 AA CW 113 #[.bool s,.agg #[a,b,c,d]] w (lR (if s then -(b0 a b c d:Int) else (b0 a b c d:Int)) w):=by
 obtain⟨o,aL⟩:=aM (decide (b0 a b c d≠0));have aO:=Hl 130 Tryz.underlying130 a b c d o aL;have qX:Hid (cw (s&&o) a b c d (if s then -(b0 a b c d:Int) else (b0 a b c d:Int))):=by
  refine⟨⟨ha,hb,hc,hd,?_⟩,?_⟩
  ·cases s<;>cases o<;>simp at aL |-;omega
  ·cases s<;>cases o<;>simp at aL |-;omega
 clear aL;cases s
 ·go_enter Tryz.func113,Tryz.ntmps113
  go_wp2
  go_region
  all_goals go_wp2_with fail
  all_goals exact B7 (v:=.agg #[false,a,b,c,d]) (by simp[results,Tryz.results113,go_sem]) rfl ⟨false,a,b,c,d,rfl,qX.out,((aA _ _).trans (aA _ _)).trans (b5 _)⟩
 ·go_enter Tryz.func113,Tryz.ntmps113
  go_wp2
  go_region
  all_goals go_wp2_with fail
  all_goals exact B7 (v:=.agg #[.bool o,a,b,c,d]) (by simp[results,Tryz.results113,go_sem]) rfl ⟨o,a,b,c,d,rfl,qX.out,((aA _ _).trans (aA _ _)).trans (b5 _)⟩
open Go Go.RowKit
theorem ajx{P:axh}{f:FuncId}{args:Array Ax}{w:w1}{a n:Nat}{v:Ax}(h:AA P f args (w.drewN (a+n)) fun e w'=>e=.returned v/\w.drewN (a+n)=w') :
 AA P f args (w.drewN (a+n)) fun e iD=>e=.returned v/\∃ m,iD=w.drewN (a+m):=h.mono fun _ _ ⟨he,hm⟩=>⟨he,n,hm.symm⟩
theorem aa5(a b c d:Nat)(o:Bool)(h:decide (b0 a b c d<18446744073709551616)=o)(ha:a<18446744073709551616)(w:w1) :
 (binOp .eql 130 (.agg #[a,b,c,d]) (.agg #[a,(),(),()])).run CW w=.ok (.bool o) w:=by
 rw[RV 130 Tryz.underlying130,<-h];have e:b0 a b c d<18446744073709551616↔(b=0/\c=0/\d=0):=by simp only[b0,val];omega
 congr 2
 rw[Bool.eq_iff_iff,decide_eq_true_iff,e];simp
theorem NZ(a b c d:Nat)(w:w1)(ha:a<18446744073709551616) :
 AA CW 138 #[.agg #[a,b,c,d]] w (yA .u64 a (decide (b0 a b c d<18446744073709551616)) w):=by
 obtain⟨o,aL⟩:=aM (decide (b0 a b c d<18446744073709551616));have aO:=aa5 a b c d o aL ha;rw[aL];clear aL;go_enter Tryz.func138,Tryz.ntmps138
 go_wp2
 go_quiet (fail)
 go_wp2
 go_ret2
 exact⟨rfl,(aA _ _).trans (nR _ _)⟩
theorem T0(L:List Nat)(br:cp L)(n:Nat)(hn:n<=L.length)(hz:val (L.drop n)=0)(hp:n=0\/∃ h:n-1<L.length,L[n-1]≠0):(bg (val L)).length=n:=by
 have e:val L=val (L.take n):=by rw[rT L n hn,hz];simp
 rw[e];rw[MT _ (um br n) ?_,List.length_take,Nat.min_eq_left hn];rcases Classical.em (n=0) with rfl|h0
 ·simp
 ··obtain⟨k,rfl⟩:∃ k,n=k+1:=⟨n-1,by omega⟩;rw[List.take_succ_eq_append_getElem (by omega)];rw[List.getLast?_concat];intro h0;injection h0 with h0;exact hp.resolve_left (by omega) |>.elim fun _ h1=>h1 h0
theorem UX(a b c d n:Nat)(hn:b0 a b c d=n)(w:w1)(hw:cp [a,b,c,d]) :
 AA CW 139 #[.agg #[a,b,c,d]] w (nc .i64 (bg n).length w):=by
 have hA:=Ju w 130 [a,b,c,d] #[.int .u64 (a:Int),.int .u64 (b:Int),.int .u64 (c:Int),.int .u64 (d:Int)] rfl;obtain⟨L,br⟩:=eo ([a,b,c,d]);have h4:L.length=4:=by rw[br];rfl
 have aF:val L=n:=by rw[br];exact hn
 rw[<-br] at hA hw;have c0:=hide hA;have bN:=hide (aA w (.cells #[a,b,c,d] 130));have rX:=hide h4;have bV:=hide aF;clear hA h4 aF br hn;go_enter Tryz.func139,Tryz.ntmps139
 go_wp2
 go_loop [3] (fun i=>∃ k:Nat,i=.int .i64 k/\k<=4/\Hid (val (L.drop k)=0)) (fun i=>(intOf i).toNat)
 case atStart=>exact⟨4,rfl,by omega,by unfold Hid;rw[List.drop_of_length_le (by rw[rX.out];omega)];rfl⟩
 case round =>
  obtain⟨k,rfl,aE,eU⟩:=hrel;by_cases qE:k=0
  ·subst qE;go_wp2
   go_ret;exact⟨kD (by have:=T0 L hw 0 (by omega) eU.out (Or.inl rfl);rw[bV.out] at this;rw[this];rfl),bN.out⟩
  ·obtain⟨j,rfl⟩:∃ j,k=j+1:=⟨k-1,by omega⟩;have aN:j<L.length:=by rw[rX.out];omega
   have hc:=c0.out.at j aN;obtain⟨x,hx⟩:=aM (L[j]);rw[hx] at hc;have wE:=hide hx;clear hx;by_cases hz:x=0
   ·subst hz;have wC:Hid (val (L.drop j)=0):=by unfold Hid;rw[tu L j aN,wE.out,eU.out]
    go_wp2
    exact⟨⟨j,by go_num,by omega,wC⟩,by simp[intOf]⟩
   ·have Ek:((x:Int)==0)=false:=by simp;omega
    go_wp2
    go_ret;exact⟨kD (by have:=T0 L hw (j+1) (by omega) eU.out (Or.inr ⟨by simpa using aN,by have:=wE.out;simp;omega⟩);rw[bV.out] at this;rw[this];omega),bN.out⟩
theorem Y_(x y:Nat)(w:w1):AA CW 136 #[.int .u64 (x:Int),.int .u64 (y:Int)] w fun e w'=>e=.returned (.int .i64 (fM x y))/\w=w':=by
 go_enter Tryz.func136,Tryz.ntmps136
 go_wp2
 all_goals go_ret
 all_goals exact⟨kD (by unfold fM;first|(rw[if_pos (by omega)];done)|(rw[if_neg (by omega),if_pos (by omega)];done)|(rw[if_neg (by omega),if_neg (by omega)];done)),rfl⟩
def HQ(x y:Int):Int:=if x<y then -1 else if y<x then 1 else 0
theorem Y9(x y:Int)(w:w1):AA CW 126 #[.int .i64 x,.int .i64 y] w fun e w'=>e=.returned (.int .i64 (HQ x y))/\w=w':=by
 go_enter Tryz.func126,Tryz.ntmps126
 go_wp2
 all_goals go_ret
 all_goals exact⟨kD (by unfold HQ;first|(rw[if_pos (by omega)];done)|(rw[if_neg (by omega),if_pos (by omega)];done)|(rw[if_neg (by omega),if_neg (by omega)];done)),rfl⟩
theorem BM(a b c d e f g h n m:Nat)(hn:b0 a b c d=n)(hm:b0 e f g h=m)(w:w1)(hw:cp [a,b,c,d])(bj:cp [e,f,g,h]) :
 AA CW 127 #[.agg #[a,b,c,d],.agg #[e,f,g,h]] w (nc .i64 (fM n m) w):=by
 have H1:=e1 w (.cells #[a,b,c,d] 130) (.cells #[e,f,g,h] 130);have bN:=hide ((aA w (.cells #[a,b,c,d] 130)).trans (aA _ (.cells #[e,f,g,h] 130)));obtain⟨W,aK⟩:=eo ((w.alloc (.cells #[a,b,c,d] 130)).alloc (.cells #[e,f,g,h] 130));rw[<-aK] at H1 bN;obtain⟨L,br⟩:=eo ([a,b,c,d]);obtain⟨M,hI⟩:=eo ([e,f,g,h]);have cU:Hid (cn W w.heap.size 130 L):=by rw[br];exact H1.1
 have jF:Hid (cn W (w.heap.size+1) 130 M):=by rw[hI];exact H1.2
 have cz:Hid (L.length=4):=by rw[br];exact rfl
 have hW:Hid (M.length=4):=by rw[hI];exact rfl
 have q4:Hid (val L=n):=by rw[br];exact hn
 have AU:Hid (val M=m):=by rw[hI];exact hm
 rw[<-br] at hw;rw[<-hI] at bj;have aB:=hide aK;clear H1 br hI hn hm aK;go_enter Tryz.func127,Tryz.ntmps127
 go_wp2_with fail
 rw[<-aB.out];clear aB;go_loopw [5] (fun i wr=>∃ k:Nat,i=.int .i64 ((k:Int)-1)/\k<=4/\Hid (L.drop k=M.drop k)/\Ext W wr) (fun i _=>(intOf i+1).toNat)
 case atStart=>exact⟨4,rfl,by omega,by unfold Hid;rw[List.drop_of_length_le (by rw[cz.out];omega),List.drop_of_length_le (by rw[hW.out];omega)],Ext.refl _⟩
 case round =>
  obtain⟨k,rfl,aE,eU,ad⟩:=hrel;by_cases qE:k=0
  ·subst qE;go_wp2
   go_ret;exact⟨kD (by have e:=eU.out;simp only[List.drop_zero] at e;have e2:=congrArg val e;rw[q4.out,AU.out] at e2;subst e2;simp[fM]),bN.out.trans ad⟩
  ·obtain⟨j,rfl⟩:∃ j,k=j+1:=⟨k-1,by omega⟩;have py:j<L.length:=by rw[cz.out];omega
   have hK:j<M.length:=by rw[hW.out];omega
   have fZ:=(cU.out.ext ad).at j py;have Gh:=(jF.out.ext ad).at j hK;obtain⟨x,hx⟩:=aM (L[j]);obtain⟨y,hy⟩:=aM (M[j]);rw[hx] at fZ;rw[hy] at Gh;have wE:=hide hx;have Cf:=hide hy;clear hx hy;have gj:∀ q,Ext W (wr.drewN q):=fun q=>ad.trans (nR _ _)
   by_cases j7:x=y
   ·subst j7;have wC:Hid (L.drop j=M.drop j):=by
     unfold Hid;rw[List.drop_eq_getElem_cons py,List.drop_eq_getElem_cons hK,eU.out,wE.out,Cf.out]
    clear wE Cf;go_wp2
    go_quiet (fail)
    go_wp2
    go_roundw
    case rel=>exact⟨j,by go_num,by omega,wC,gj _⟩
    case measure=>first|(simp[intOf];done)|(simp[intOf];omega)
   ·have dB:((x:Int) != (y:Int))=true:=by simp;omega
    have cG:Hid (fM x y=fM n m):=by
     rcases(by omega:x<y\/y<x) with j7|j7
     ·have:=Gj L M j py hK hw eU.out (by rw[wE.out,Cf.out];exact j7);rw[q4.out,AU.out] at this
      unfold Hid fM;rw[if_pos j7,if_pos this]
     ·have:=Gj M L j hK py bj eU.out.symm (by rw[wE.out,Cf.out];exact j7);rw[q4.out,AU.out] at this
      unfold Hid fM;rw[if_neg (by omega),if_pos j7,if_neg (by omega),if_pos this]
    clear wE Cf;go_wp2
    go_quiet (fail)
    go_wp2
    go_quiet ((go_at_call 136;exact ajx (Y_ x y _)))
    go_wp2
    go_ret;exact⟨kD cG.out,bN.out.trans ((gj _).trans (nR _ _))⟩
open Go Go.RowKit
theorem cn.seg{w:w1}{g o:Nat}{T:aw7}{P os Q:List Nat}(h:cn w g T (P++os++Q))(ie:P.length=o)(k:Nat)(aE:k<os.length):w.cell? ⟨g,o+k,none⟩=some (.int .u64 (os[k]:Int)):=by
 rw[h.at (o+k) (by simp;omega)];congr 3
 subst ie;rw[List.getElem_append_left (by simp;omega),List.getElem_append_right (by omega)];simp
theorem cn.EY{w:w1}{g o:Nat}{T:aw7}{P os Q:List Nat}(h:cn w g T (P++os++Q))(ie:P.length=o)(k x:Nat)(aE:k<os.length):cn (w.setCell ⟨g,o+k,none⟩ (.int .u64 (x:Int))) g T (P++os.set k x++Q):=by
 have h2:=h.set (o+k) x;subst ie;rw[List.append_assoc,List.set_append_right _ _ (by omega),Nat.add_sub_cancel_left,List.set_append_left _ _ aE,<-List.append_assoc] at h2;exact h2
theorem oU{l:List Nat}(h:cp l)(k x:Nat)(hx:x<18446744073709551616):cp (l.set k x):=by
 intro y hy;rcases List.mem_or_eq_of_mem_set hy with h2|h2
 ·exact h y h2
 ·omega
def WL(g n:Nat)(T:aw7)(P p Q q:List Nat)(w:w1)(e:axa)(w':w1):Prop:=
 ∃ (c:Nat) (os:List Nat),e=.returned (.int .u64 (c:Int))/\c<=1/\os.length=n/\cp os/\val os+18446744073709551616 ^ n*c=val p+val q/\cn w' g T (P++os++Q)/\b3 g w w'
def Reads(w:w1)(g o:Nat)(q:List Nat):Prop:=g<w.heap.size/\∀ i (h:i<q.length),w.cell? ⟨g,o+i,none⟩=some (.int .u64 (q[i]:Int))
theorem Reads.c7{w w':w1}{g b o:Nat}{q:List Nat}(h:Reads w g o q)(k:b3 b w w')(hn:g≠b):Reads w' g o q:=
 ⟨Nat.lt_of_lt_of_le h.1 k.2.2.2.1,fun i hi=>(World.cell?_of_block (w:=w) (w':=w') (a:=⟨g,o+i,none⟩) (k.2.2.2.2 g h.1 hn)).trans (h.2 i hi)⟩
theorem Reads.ext{w w':w1}{g o:Nat}{q:List Nat}(h:Reads w g o q)(k:Ext w w'):Reads w' g o q:=
 ⟨Nat.lt_of_lt_of_le h.1 k.size,fun i hi=>(k.cell (p:=⟨g,o+i,none⟩) h.1).trans (h.2 i hi)⟩
theorem cn.reads{w:w1}{g o:Nat}{T:aw7}{P q Q:List Nat}(h:cn w g T (P++q++Q))(ie:P.length=o):Reads w g o q:=⟨h.lt,fun i hi=>h.seg ie i hi⟩
theorem b3.drewN{g:Nat}{w w':w1}(h:b3 g w w')(n:Nat):b3 g w (w'.drewN n):=h.trans (Ext.c7 (nR _ _) g)
theorem b3.drew{g:Nat}{w w':w1}(h:b3 g w w'):b3 g w w'.drew:=h.trans (Ext.c7 (b5 _) g)
theorem b3.set{g:Nat}{w w':w1}(h:b3 g w w')(k:Nat)(u:Ax):b3 g w (w'.setCell ⟨g,k,none⟩ u):=h.trans (amt _ _ _ _)
theorem UQ(g o n ca gX dW m cb:Nat)(T:aw7)(P p Q q:List Nat)(w:w1)(hA:cn w g T (P++p++Q))(ie:P.length=o)(hp:p.length=n)(aO:q.length=m)(bF:Reads w gX dW q)(dB:gX≠g)(SW:m<=n)(hn:n<=1000)(wp:cp p)(qU:cp q) :
 AA CW 137 #[.slice (some ⟨g,o,none⟩) n ca,.slice (some ⟨gX,dW,none⟩) m cb] w (WL g n T P p Q q w):=by
 have dL:=hide ie;have mC:=hide hp;have na:=hide aO;have c0:=hide hA;have dx:=hide bF;clear ie hp aO hA bF;go_enter Tryz.func137,Tryz.ntmps137
 go_wp2_with fail
 go_loopw [11,5] (fun i t wr=>∃ (k c:Nat) (os:List Nat),i=.int .i64 k/\t=.int .u64 c/\k<=m/\c<=1/\Hid (oY p q os k c)/\cp os/\Hid (cn wr g T (P++os++Q))/\b3 g w wr) (fun i _ _=>m-(intOf i).toNat)
 case atStart=>exact⟨0,0,p,rfl,rfl,by omega,by omega,⟨rfl,rfl,by omega,by simp[val]⟩,wp,c0,b3.refl _ _⟩
 case round =>
  obtain⟨k,c,os,rfl,rfl,aE,hc,bq,gU,bM,ef⟩:=hrel;have cz:Hid (os.length=n):=bq.out.1.trans mC.out;by_cases apG:k<m
  ·have kz:k<os.length:=by rw[cz.out];omega
   have fZ:=bM.out.seg dL.out k kz;have lq:=bM.out.free (o+k);have cb:=(dx.out.c7 ef dB).2 k (by rw[na.out];omega);obtain⟨x,hx⟩:=aM (os[k]);obtain⟨y,hy⟩:=aM (q[k]'(by rw[na.out];omega));rw[hx] at fZ;rw[hy] at cb;have bN:Hid (x=p[k]'(by rw[mC.out];omega)):=by rw[<-hx];exact(n4 bq.out.2.1 kz (by rw[mC.out];omega)).1
   have gB:Hid (q.getD k 0=y):=by rw[<-hy];simp[Hid,List.getD,show k<q.length by rw[na.out];omega]
   clear hx hy;have p4:=CA x y c hc;have cG:Hid (oY p q (os.set k ((x+y+c)%18446744073709551616)) (k+1) ((x+y+c) / 18446744073709551616)):=by
    have:=bq.out.step (by rw[mC.out];omega) wp qU;rw[<-bN.out,gB.out] at this
    exact this
   have iX:=bM.out.EY dL.out k ((x+y+c)%18446744073709551616) kz;rw[show (((x+y+c)%18446744073709551616:Nat):Int)=((x:Int)+y+c)%18446744073709551616 by omega] at iX;have aB:=hide iX;have dR:=hide (ef.set (o+k) (.int .u64 (((x:Int)+y+c)%18446744073709551616)));clear iX;go_wp2
   exact⟨⟨k+1,_,_,by go_num,by go_num,by omega,cG.out.2.2.1,cG,oU gU _ _ (by omega),aB,dR.out⟩,by simp[intOf];omega⟩
  ·obtain rfl:k=m:=by omega
   have kI:=hide ef;have ym:=hide bq;clear bq ef cz;go_wp2_with fail
   go_loopw [8,5] (fun i t wr=>∃ (j c:Nat) (os:List Nat),i=.int .i64 j/\t=.int .u64 c/\k<=j/\j<=n/\c<=1/\Hid (oY p q os j c)/\cp os/\Hid (cn wr g T (P++os++Q))/\b3 g w wr) (fun i _ _=>n-(intOf i).toNat)
   case atStart=>exact⟨k,c,os,rfl,rfl,by omega,by omega,hc,ym.out,gU,bM,kI.out⟩
   case round =>
    clear bM kI ym gU hc;obtain⟨j,c,os,rfl,rfl,rA,aN,hc,bq,gU,bM,ef⟩:=hrel;have cz:Hid (os.length=n):=bq.out.1.trans mC.out;by_cases apC:j<n
    ·have kz:j<os.length:=by rw[cz.out];omega
     have fZ:=bM.out.seg dL.out j kz;have lq:=bM.out.free (o+j);obtain⟨x,hx⟩:=aM (os[j]);rw[hx] at fZ;have bN:Hid (x=p[j]'(by rw[mC.out];omega)):=by rw[<-hx];exact(n4 bq.out.2.1 kz (by rw[mC.out];omega)).1
     have gB:Hid (q.getD j 0=0):=by simp[Hid,List.getD,show q.length<=j by rw[na.out];omega]
     clear hx;have p4:=Jp x c hc;have cG:Hid (oY p q (os.set j ((x+0+c)%18446744073709551616)) (j+1) ((x+0+c) / 18446744073709551616)):=by
      have:=bq.out.step (by rw[mC.out];omega) wp qU;rw[<-bN.out,gB.out] at this
      exact this
     have iX:=bM.out.EY dL.out j ((x+0+c)%18446744073709551616) kz;rw[show (((x+0+c)%18446744073709551616:Nat):Int)=((x:Int)+c)%18446744073709551616 by omega] at iX;have aB:=hide iX;have dR:=hide (ef.set (o+j) (.int .u64 (((x:Int)+c)%18446744073709551616)));clear iX;go_wp2
     exact⟨⟨j+1,_,_,by go_num,by go_num,by omega,by omega,cG.out.2.2.1,cG,oU gU _ _ (by omega),aB,dR.out⟩,by simp[intOf];omega⟩
    ·obtain rfl:j=n:=by omega
     have H1:Hid (val os+18446744073709551616 ^ j*c=val p+val q):=by
      have h1:=bq.out;rw[show j=p.length from mC.out.symm] at h1;have h2:=h1.done (by rw[mC.out,na.out];omega);rw[xS,cz.out] at h2;exact h2
     go_wp2
     go_ret;exact⟨c,os,rfl,hc,cz.out,gU,H1.out,bM.out,ef⟩
def uP(a:Int):Prop:=0<=a/\a<=18446744073709551615
theorem iT(n:Int):IntKind.u64.wrap n=n%18446744073709551616:=by simp[IntKind.wrap,IntKind.bits,IntKind.signed]
theorem m32(n:Int):bits .and .u64 n 4294967295=n%4294967296:=by
 have h127:(BitVec.ofInt 64 4294967295).toNat=2 ^ 32-1:=by decide
 have key:(BitVec.ofInt 64 n &&& BitVec.ofInt 64 4294967295).toNat=(n%((2 ^ 64:Nat):Int)).toNat%2 ^ 32:=by
  rw[BitVec.toNat_and,BitVec.toNat_ofInt,h127,Nat.and_two_pow_sub_one_eq_mod]
 show IntKind.u64.wrap ((BitVec.ofInt 64 n &&& BitVec.ofInt 64 4294967295).toNat:Nat)=n%4294967296
 rw[key,iT];omega
theorem GZ{a b:Int}(ha:0<=a)(adP:a<=4294967295)(hb:0<=b)(Bi:b<=4294967295):0<=a*b/\a*b<=18446744065119617025:=by
 refine⟨Int.mul_nonneg ha hb,?_⟩;have h1:a*b<=4294967295*b:=Int.mul_le_mul_of_nonneg_right adP hb;omega
theorem agF(a b:Int)(a1:0<=a)(a2:a<=18446744073709551615)(bA:0<=b)(bX:b<=18446744073709551615) :
 (((a / 4294967296*(b / 4294967296))%18446744073709551616+((a / 4294967296*(b%4294967296))%18446744073709551616+((a%4294967296*(b%4294967296))%18446744073709551616) / 4294967296)%18446744073709551616 / 4294967296)%18446744073709551616+((((a / 4294967296*(b%4294967296))%18446744073709551616+((a%4294967296*(b%4294967296))%18446744073709551616) / 4294967296)%18446744073709551616)%4294967296+(a%4294967296*(b / 4294967296))%18446744073709551616)%18446744073709551616 / 4294967296)%18446744073709551616=a*b / 18446744073709551616:=by
 have bk:a=a / 4294967296*4294967296+a%4294967296:=by omega
 have e2:b=b / 4294967296*4294967296+b%4294967296:=by omega
 have h1:=GZ (a:=a / 4294967296) (b:=b / 4294967296) (by omega) (by omega) (by omega) (by omega);have h2:=GZ (a:=a / 4294967296) (b:=b%4294967296) (by omega) (by omega) (by omega) (by omega);have h3:=GZ (a:=a%4294967296) (b:=b / 4294967296) (by omega) (by omega) (by omega) (by omega);have h4:=GZ (a:=a%4294967296) (b:=b%4294967296) (by omega) (by omega) (by omega) (by omega);generalize a / 4294967296=x1 at *;generalize a%4294967296=x0 at *;generalize b / 4294967296=y1 at *;generalize b%4294967296=nY at *;have e:a*b=x1*y1*18446744073709551616+(x1*nY+x0*y1)*4294967296+x0*nY:=by rw[bk,e2];grind
 rw[e];generalize x1*y1=p at *;generalize x1*nY=q at *;generalize x0*y1=r at *;generalize x0*nY=s at *;clear bk e2 e;omega
theorem s9{k j:IntKind}{a a':Int}{b b':Int}(h1:a=a')(h2:b=b'):Ending.returned (Value.tuple #[.int k a,.int j b])=.returned (.tuple #[.int k a',.int j b']):=by rw[h1,h2]
theorem agy(a:Int)(b:Int)(w:w1)(ha:uP a)(hb:uP b) :
 AA CW 100 #[.int .u64 a,.int .u64 b] w fun e w'=>e=.returned (.tuple #[.int .u64 (a*b / 18446744073709551616),.int .u64 (a*b%18446744073709551616)])/\w=w':=by
 obtain⟨a1,a2⟩:=ha;obtain⟨bA,bX⟩:=hb;go_enter Tryz.func100,Tryz.ntmps100
 go_wp2
 go_ret2
 exact⟨s9 (by simp only[m32,iT];exact agF a b a1 a2 bA bX) (by simp only[iT]),rfl⟩
theorem Jx(a b h l:Nat)(w:w1)(ha:a<18446744073709551616)(hb:b<18446744073709551616)(hh:Hid (a*b / 18446744073709551616=h))(hl:Hid (a*b%18446744073709551616=l)) :
 AA CW 100 #[.int .u64 (a:Int),.int .u64 (b:Int)] w fun e w'=>e=.returned (.tuple #[h,l])/\w=w':=by
 refine(agy a b w (by unfold uP;omega) (by unfold uP;omega)).mono ?_;rintro e w' ⟨rfl,rfl⟩;exact⟨s9 (by rw[<-hh.out,Int.natCast_ediv,Int.natCast_mul];rfl) (by rw[<-hl.out,Int.natCast_emod,Int.natCast_mul];rfl),rfl⟩
theorem X9(x y c l h:Nat)(hc:c<=1)(hl:(x+y+c)%18446744073709551616=l)(hh:(x+y+c) / 18446744073709551616=h)(w:w1):(callFunc 85 #[.int .u64 (x:Int),.int .u64 (y:Int),.int .u64 (c:Int)]).run CW w =
 .ok (.value (.tuple #[l,h])) w:=by rw[CA x y c hc,hl,hh]
theorem Cz(x y l h:Nat)(hl:(x+y)%18446744073709551616=l)(hh:(x+y) / 18446744073709551616=h)(w:w1):(callFunc 85 #[.int .u64 (x:Int),.int .u64 (y:Int),.int .u64 0]).run CW w =
 .ok (.value (.tuple #[l,h])) w:=X9 x y 0 l h (by omega) hl hh w
theorem V8(x y c l h:Nat)(hc:c<=1)(hl:(x+18446744073709551616-y-c)%18446744073709551616=l)(hh:(if x<y+c then 1 else 0)=h)(w:w1):(callFunc 86 #[.int .u64 (x:Int),.int .u64 (y:Int),.int .u64 (c:Int)]).run CW w =
 .ok (.value (.tuple #[l,h])) w:=by rw[HS x y c hc,hl,hh]
theorem N6{a b:Nat}(ha:a<18446744073709551616)(hb:b<18446744073709551616):a*b<=340282366920938463426481119284349108225:=by
 have h1:a*b<=18446744073709551615*b:=Nat.mul_le_mul_right _ (by omega);omega
def de(a:Int):Prop:=-9223372036854775808<=a/\a<=9223372036854775807
def Ck(n v:Int):Prop:=0<=v/\(1<=n->v<n)/\(n<1->v=0)
def EF(a n:Int):Int:=if n<1 then 0 else if a.tmod n<0 then a.tmod n+n else a.tmod n
theorem agD(a n:Int):Ck n (EF a n):=by
 unfold Ck EF;have bd:=Wf a n;split
 ·omega
 ·have h2:=(bd (by omega)).2.1;split<;>omega
theorem alb(a n:Int)(w:w1)(ha:de a)(hn:de n) :
 AA CW 74 #[.int .i64 a,.int .i64 n] w fun e w'=>e=.returned (.int .i64 (EF a n))/\w'=w:=by
 obtain⟨a1,a2⟩:=ha;obtain⟨aC,aW⟩:=hn;by_cases h:n<1
 ·go_enter Tryz.func74,Tryz.ntmps74
  go_wp2
  go_ret;exact⟨kD (by simp only[EF];omega),rfl⟩
 ·have t1:(a.tmod n).natAbs<n.natAbs:=(Wf a n (by omega)).2.1;go_enter Tryz.func74,Tryz.ntmps74
  go_wp2
  all_goals go_ret
  all_goals exact⟨kD (by simp only[EF];grind),rfl⟩
def fP(B:Nat)(w:w1)(b:Nat):Prop:=
 B<=b/\b<w.heap.size/\∃ (a:Option aw6) (len cap at_:Nat),w.cell? ⟨b,0,none⟩=some (.slice a len cap)/\w.cell? ⟨b,1,none⟩=some (.int .i64 at_)/\w.frozen? ⟨b,1,none⟩=false/\at_<=9223372036854775807/\len<=9223372036854775807 /\
  (len=0\/∃ jh la:Nat,a=some ⟨jh,la,none⟩/\jh<B/\len<=cap/\∀ i,i<len->∃ v:Int,de v/\w.cell? ⟨jh,la+i,none⟩=some (.int .i64 v))
theorem fP.below{B b:Nat}{w w':w1}(h:fP B w b)(k:Below (b+1) w w'):fP B w' b:=by
 obtain⟨h1,h2,a,len,cap,at_,bt,az,f1,h3,h4,hx⟩:=h;have hs:=k.size;refine⟨h1,by omega,a,len,cap,at_,(k.cell (p:=⟨b,0,none⟩) (by simp)).trans bt,(k.cell (p:=⟨b,1,none⟩) (by simp)).trans az,(k.frozen (p:=⟨b,1,none⟩) (by simp)).trans f1,h3,h4,?_⟩;rcases hx with hx|⟨jh,la,e,hb,hl,hc⟩
 ·exact Or.inl hx
 ·refine Or.inr ⟨jh,la,e,hb,hl,fun i hi=>?_⟩;obtain⟨v,aF,jL⟩:=hc i hi;exact⟨v,aF,(k.cell (p:=⟨jh,la+i,none⟩) (by simp;omega)).trans jL⟩
theorem yK(B:Nat)(w:w1)(n:Nat):Below B w (w.drewN n):=⟨rfl,rfl,rfl,Nat.le_refl _,fun _ _=>rfl⟩
theorem fP.bump{B b:Nat}{w:w1}(h:fP B w b)(k:Int)(h0:0<=k)(aE:k<=9223372036854775807) :
 fP B (w.setCell ⟨b,1,none⟩ (.int .i64 k)) b/\Below B w (w.setCell ⟨b,1,none⟩ (.int .i64 k)):=by
 obtain⟨k,rfl⟩:=Int.eq_ofNat_of_zero_le h0;obtain⟨h1,h2,a,len,cap,at_,bt,az,f1,h3,h4,hx⟩:=h;have hb:Below B w (w.setCell ⟨b,1,none⟩ (.int .i64 k)):=(Below.refl B w).setCell (p:=⟨b,1,none⟩) h1 _;refine⟨⟨h1,by simpa [World.setCell] using h2,a,len,cap,k,?_,World.cell?_setCell_same _ _ _ az,?_,by omega,h4,?_⟩,hb⟩
 ·rw[World.cell?_setCell_other _ _ _ _ (by simp)];exact bt
 ·rw[World.frozen?_setCell];exact f1
 ·rcases hx with hx|⟨jh,la,e,iy,hl,hc⟩
  ·exact Or.inl hx
  ·refine Or.inr ⟨jh,la,e,iy,hl,fun i hi=>?_⟩;obtain⟨v,aF,jL⟩:=hc i hi;exact⟨v,aF,(hb.cell (p:=⟨jh,la+i,none⟩) iy).trans jL⟩
def AI(B b:Nat)(P:Int->Prop)(k:IntKind)(w:w1)(e:axa)(w':w1):Prop:=∃ v:Int,e=.returned (.int k v)/\P v/\fP B w' b/\b3 b w w'
theorem lJ(B b:Nat)(n:Int)(w:w1)(hn:de n)(aw:fP B w b) :
 AA CW 36 #[yj b 0,.int .i64 n] w (AI B b (Ck n) .i64 w):=by
 have Bf:=aw;obtain⟨bF,hb,a,len,cap,at_,bt,az,f1,h1,h2,hx⟩:=Bf;by_cases cl:at_<len
 ·obtain⟨jh,la,rfl,ap1,hl,hc⟩:∃ jh la:Nat,a=some ⟨jh,la,none⟩/\jh<B/\len<=cap/\∀ i,i<len->∃ v:Int,de v/\w.cell? ⟨jh,la+i,none⟩=some (.int .i64 v):=by
   rcases hx with hx|hx
   ·omega
   ·exact hx
  obtain⟨v,aF,Gl⟩:=hc at_ cl;have aeb:((at_:Int)<(len:Int)):=by omega
  have dB:¬ (jh=b):=by omega
  clear hc hx;have aeU:IntKind.i64.wrap ((at_:Int)+1)=(at_:Int)+1:=by rw[IntKind.wrap_i64];omega
  go_enter Tryz.func36,Tryz.ntmps36
  go_wp2
  go_quiet (fail)
  go_wp2
  have gE:IntKind.i64.wrap ((at_:Int)+1-1)=(at_:Int):=by rw[IntKind.wrap_i64];omega
  have apU:(0:Int)<=(at_:Int):=by omega
  go_quiet ((go_at_call 74;exact Calls.quiet_of_same (alb _ _ _ aF hn)))
  go_wp2
  go_ret;exact⟨_,rfl,agD v n,(fP.bump (aw.below (yK (b+1) w _)) _ (by omega) (by omega)).1.below (yK _ _ _),(((b3.refl b w).drewN _).set 1 _).drewN _⟩
 ·have SS:((len:Int)<=(at_:Int)):=by omega
  clear hx;go_enter Tryz.func36,Tryz.ntmps36
  go_wp2
  go_quiet (fail)
  go_wp2
  go_ret;exact⟨0,rfl,by unfold Ck;omega,aw.below (yK _ _ _),(b3.refl _ _).drewN _⟩
theorem HW(B b:Nat)(w:w1)(aw:fP B w b) :
 AA CW 46 #[yj b 0] w (AI B b uP .u64 w):=by
 go_enter Tryz.func46,Tryz.ntmps46
 go_wp2_with fail
 go_loopw [3,4] (fun t i wr=>∃ (k:Nat) (v:Int),k<=4/\i=.int .i64 k/\t=.int .u64 v/\uP v/\fP B wr b/\b3 b w wr) (fun _ i _=>4-(intOf i).toNat)
 case atStart=>exact⟨0,0,by omega,rfl,rfl,by unfold uP;omega,aw,b3.refl _ _⟩
 case round =>
  obtain⟨k,v,aE,rfl,rfl,aF,Bf,bF⟩:=hrel;by_cases cl:k<4
  ·go_wp2_with (go_at_call 36;refine(lJ _ _ _ _ ⟨by omega,by omega⟩ Bf).mono ?_;rintro e w' ⟨u,rfl,hu,tR,y8⟩)
   exact⟨⟨k+1,_,by omega,by go_num,rfl,by unfold uP;rw[iT];omega,tR,bF.trans y8⟩,by simp[intOf];omega⟩
  ·go_wp2
   go_ret;exact⟨_,rfl,aF,Bf,bF⟩
theorem OG(B b:Nat)(n:Int)(W w:w1)(hn:de n)(aw:fP B w b)(aK:b3 b W w) :
 AA CW 36 #[yj b 0,.int .i64 n] w (AI B b (Ck n) .i64 W):=
 (lJ B b n w hn aw).mono fun _ _ ⟨v,e,h,t,k⟩=>⟨v,e,h,t,aK.trans k⟩
theorem alg(B b:Nat)(W w:w1)(aw:fP B w b)(aK:b3 b W w) :
 AA CW 46 #[yj b 0] w (AI B b uP .u64 W):=
 (HW B b w aw).mono fun _ _ ⟨v,e,h,t,k⟩=>⟨v,e,h,t,aK.trans k⟩
def QK(W:w1)(e:axa)(w':w1):Prop:=e=.returned (.pointer (some ⟨W.heap.size,0,none⟩))/\fP W.heap.size w' W.heap.size/\Below W.heap.size W w'
def yq(w:w1)(a:Option aw6)(len cap:Nat):Prop:=
 len<=9223372036854775807/\(len=0\/∃ jh la:Nat,a=some ⟨jh,la,none⟩/\jh<w.heap.size/\len<=cap/\∀ i,i<len->∃ v:Int,de v/\w.cell? ⟨jh,la+i,none⟩=some (.int .i64 v))
theorem alc(W:w1)(a:Option aw6)(len cap:Nat)(h:yq W a len cap) :
 AA CW 8 #[.slice a len cap] W (QK W):=by
 go_enter Tryz.func8,Tryz.ntmps8
 go_wp2
 go_ret;obtain⟨hl,hx⟩:=h;have hb:∀ o,Below W.heap.size W (W.alloc o):=fun o=>(Below.refl _ _).alloc (Nat.le_refl _) o
 refine⟨rfl,⟨Nat.le_refl _,by simp,a,len,cap,0,by simp,by simp,?_,by omega,hl,?_⟩,hb _⟩
 ·go_simp
 ·rcases hx with hx|⟨jh,la,e,h1,h2,hc⟩
  ·exact Or.inl hx
  ·refine Or.inr ⟨jh,la,e,h1,h2,fun i hi=>?_⟩;obtain⟨v,aF,jL⟩:=hc i hi;exact⟨v,aF,((hb _).cell (p:=⟨jh,la+i,none⟩) h1).trans jL⟩
def aG(w:w1)(g:Nat)(t:aw7)(cs:Array Ax):Prop:=w.heap[g]?=some (.cells cs t (0,0))
section
variable {w w':w1}{g:Nat}{t:aw7}{cs:Array Ax}
theorem aG.lt(h:aG w g t cs):g<w.heap.size:=(Array.getElem?_eq_some_iff.1 h).1
theorem aG.cell(h:aG w g t cs)(i:Nat):w.cell? ⟨g,i,none⟩=cs[i]?:=cell_of_row w g i cs t (0,0) h
theorem aG.frozen(h:aG w g t cs)(i:Nat):w.frozen? ⟨g,i,none⟩=false:=by
 unfold aG at h;simp[World.frozen?,h]
theorem aG.new(w:w1)(t:aw7)(cs:Array Ax):aG (w.alloc (.cells cs t)) w.heap.size t cs:=axe w _
theorem aG.drew(h:aG w g t cs):aG w.drew g t cs:=h
theorem aG.alloc(h:aG w g t cs)(o:Obj):aG (w.alloc o) g t cs:=(Below.heap_alloc w o g h.lt).trans h
theorem aG.VR(h:aG w g t cs)(i:Nat)(u:Ax):aG (w.setCell ⟨g,i,none⟩ u) g t (cs.setIfInBounds i u):=by
 unfold aG at h |-;simp[World.setCell,Array.getElem?_modify,h]
theorem aG.cI(h:aG w g t cs){p:aw6}(hp:g≠p.block)(u:Ax):aG (w.setCell p u) g t cs:=(Below.heap_setCell w p u g hp).trans h
theorem aG.ext(h:aG w g t cs)(e:Ext w w'):aG w' g t cs:=(e.block g h.lt).trans h
theorem aG.setRow(h:aG w g t cs)(ds:Array Ax):aG (w.setRow g ds) g t ds:=by
 unfold aG at h |-;simp[World.setRow,Array.getElem?_modify,h]
end
def mD(l:List Nat):Prop:=∀ x∈l,x<256
theorem mD.nil:mD []:=by intro x hx;simp at hx
theorem mD.app{l m:List Nat}(h:mD l)(k:mD m):mD (l++m):=by
 intro x hx;rcases List.mem_append.1 hx with a|a
 ·exact h x a
 ·exact k x a
theorem mD.one{x:Nat}(h:x<256):mD [x]:=by intro y hy;simp at hy;omega
theorem mD.take{l:List Nat}(h:mD l)(k:Nat):mD (l.take k):=fun x hx=>h x (List.mem_of_mem_take hx)
theorem mD.drop{l:List Nat}(h:mD l)(k:Nat):mD (l.drop k):=fun x hx=>h x (List.mem_of_mem_drop hx)
theorem mD.get{l:List Nat}(h:mD l)(k:Nat):l.getD k 0<256:=by
 rw[List.getD_eq_getElem?_getD];cases aE:l[k]? with
 | none=>simp
 | some x=>exact h x (List.mem_of_getElem? aE)
def Wh(l:List Nat):List Ax:=l.map fun x:Nat=>Value.int .u8 (x:Int)
def jW(w:w1)(A:Option aw6)(l:List Nat):Prop:=
 mD l/\l.length<=9223372036854775807/\(0<l.length->∃ b off,A=some ⟨b,off,none⟩/\b<w.heap.size/\∀ j,j<l.length->w.cell? ⟨b,off+j,none⟩=some (.int .u8 ((l.getD j 0:Nat):Int)))
theorem jW.nil(w:w1)(A:Option aw6):jW w A []:=⟨mD.nil,by simp,fun h=>absurd h (by simp)⟩
theorem jW.ext{w w':w1}{A:Option aw6}{l:List Nat}(h:jW w A l)(e:Ext w w'):jW w' A l:=
 ⟨h.1,h.2.1,fun hp=>by
  obtain⟨b,off,hA,hb,hc⟩:=h.2.2 hp;exact⟨b,off,hA,Nat.lt_of_lt_of_le hb e.size,fun j aN=>(e.cell (p:=⟨b,off+j,none⟩) hb).trans (hc j aN)⟩⟩
theorem jW.keep{w w':w1}{A:Option aw6}{l:List Nat}(h:jW w A l)(hs:w.heap.size<=w'.heap.size)(e:∀ b off,A=some ⟨b,off,none⟩->b<w.heap.size->w'.heap[b]?=w.heap[b]?):jW w' A l:=
 ⟨h.1,h.2.1,fun hp=>by
  obtain⟨b,off,hA,hb,hc⟩:=h.2.2 hp;exact⟨b,off,hA,Nat.lt_of_lt_of_le hb hs,fun j aN=>(World.cell?_of_block (a:=⟨b,off+j,none⟩) (e b off hA hb)).trans (hc j aN)⟩⟩
theorem jW.drop{w:w1}{A:Option aw6}{l:List Nat}(h:jW w A l)(k cap:Nat)(hc:l.length<=cap) :
 jW w (if cap=k then A else A.map (·.add (k*1))) (l.drop k):=by
 refine⟨h.1.drop k,by rw[List.length_drop];have:=h.2.1;omega,fun hp=>?_⟩;rw[List.length_drop] at hp;obtain⟨b,off,rfl,hb,gy⟩:=h.2.2 (by omega);rw[if_neg (by omega)];refine⟨b,off+k,by
  simp only[Option.map_some,Option.some.injEq];unfold Addr.add;split
  ·rename_i h0;simp only[Addr.mk.injEq,and_true,true_and];omega
  ·simp,hb,fun j aN=>?_⟩
 rw[List.length_drop] at aN;rw[Nat.add_assoc,gy (k+j) (by omega)];simp[List.getD_eq_getElem?_getD,List.getElem?_drop]
theorem jW.take{w:w1}{A:Option aw6}{l:List Nat}(h:jW w A l)(k:Nat):jW w A (l.take k):=by
 refine⟨h.1.take k,by rw[List.length_take];have:=h.2.1;omega,fun hp=>?_⟩;rw[List.length_take] at hp;obtain⟨b,off,rfl,hb,gy⟩:=h.2.2 (by omega);refine⟨b,off,rfl,hb,fun j aN=>?_⟩;rw[List.length_take] at aN;rw[gy j (by omega)];simp[List.getD_eq_getElem?_getD,List.getElem?_take,show j<k by omega]
theorem Sl{l:List Nat}{k:Nat}(h:k<l.length):l.getD k 0=l[k]:=by simp[List.getD_eq_getElem?_getD,h]
def iw(B:Nat)(w:w1)(v:Ax)(l:List Nat):Prop:=w.ownsRow B 5 1 v l.length (Wh l)/\mD l
theorem iw.at_{B:Nat}{w:w1}{v:Ax}{l:List Nat}(h:iw B w v l):∃ A cap,v=.slice A l.length cap/\l.length<=cap/\cap<=9223372036854775807/\jW w A l:=by
 rcases h.1.2 with ⟨rfl,h0⟩|⟨g,cap,cur,rfl,af,hh,nr,jP,hcs,Bp⟩
 ·obtain rfl:l=[]:=List.length_eq_zero_iff.1 h0;exact⟨none,0,rfl,Nat.le_refl _,by omega,jW.nil _ _⟩
 ·unfold maxLen at jP;refine⟨_,cap,rfl,nr,jP,h.2,by omega,fun _=>⟨g,0,rfl,(Array.getElem?_eq_some_iff.1 hh).1,fun j aN=>?_⟩⟩;have:=h.1.cells (g:=g) rfl j (Value.int .u8 ((l.getD j 0:Nat):Int)) (by rw[Sl aN];simp[Wh,aN]);have e:(⟨g,0,none⟩:aw6).add j=⟨g,0+j,none⟩:=by unfold Addr.add;split<;>simp_all
  rw[e] at this
  exact this
theorem iw.kept{B:Nat}{w w':w1}{v:Ax}{l:List Nat}(h:iw B w v l){row:Option Nat}(af:w.grownBy w' row)(dB:v.ownBlock=none\/v.ownBlock≠row):iw B w' v l:=⟨h.1.kept af dB,h.2⟩
theorem iw.alloc{B:Nat}{w:w1}{v:Ax}{l:List Nat}(h:iw B w v l)(o:Obj):iw B (w.alloc o) v l:=⟨h.1.alloc o,h.2⟩
theorem iw.drew{B:Nat}{w:w1}{v:Ax}{l:List Nat}(h:iw B w v l):iw B w.drew v l:=h
theorem iw.jT(B:Nat)(w:w1):iw B w (.slice none 0 0) []:=⟨World.ownsRow_nil _ _ _ _,mD.nil⟩
theorem iw.keep{B:Nat}{w w':w1}{v:Ax}{l:List Nat}(h:iw B w v l)(hs:w.heap.size<=w'.heap.size)(e:∀ g,v.ownBlock=some g->w'.heap[g]?=w.heap[g]?):iw B w' v l:=by
 refine⟨?_,h.2⟩;obtain⟨h1,h2|⟨g,cap,cur,aF,af,hh,r⟩⟩:=h.1
 ·exact⟨h1,Or.inl h2⟩
 ·exact⟨h1,Or.inr ⟨g,cap,cur,aF,af,by rw[e g (by rw[aF];rfl)];exact hh,r⟩⟩
theorem iw.ext{B:Nat}{w w':w1}{v:Ax}{l:List Nat}(h:iw B w v l)(e:Ext w w'):iw B w' v l:=by
 refine⟨?_,h.2⟩;obtain⟨h1,h2|⟨g,cap,cur,aF,af,hh,r⟩⟩:=h.1
 ·exact⟨h1,Or.inl h2⟩
 ·exact⟨h1,Or.inr ⟨g,cap,cur,aF,af,by rw[e.block g (Array.getElem?_eq_some_iff.1 hh).1];exact hh,r⟩⟩
theorem iw.less{B fc:Nat}{w:w1}{v:Ax}{l:List Nat}(h:iw B w v l)(bF:fc<=B):iw fc w v l:=by
 refine⟨?_,h.2⟩;obtain⟨h1,h2|⟨g,cap,cur,aF,af,r⟩⟩:=h.1
 ·exact⟨h1,Or.inl h2⟩
 ·exact⟨h1,Or.inr ⟨g,cap,cur,aF,by omega,r⟩⟩
def QR(l:List Nat)(w:w1)(e:axa)(w':w1):Prop:=∃ v,e=.returned v/\iw w.heap.size w' v l/\Ext w w'
theorem TG(x:Int):de (wrap64 x):=by unfold de;simp only[wrap64];omega
theorem OE(B b:Nat)(W w:w1)(aw:fP B w b)(aK:b3 b W w) :
 AA CW 44 #[yj b 0] w (AI B b de .i64 W):=by
 go_enter Tryz.func44,Tryz.ntmps44
 go_wp2_with (first
  | (go_at_call 36;refine(OG _ _ _ W _ ⟨by omega,by omega⟩ ‹_› ‹_›).mono ?_;rintro e w' ⟨u,rfl,hu,tR,y8⟩)
  | (go_at_call 46;refine(alg _ _ W _ ‹_› ‹_›).mono ?_;rintro e w' ⟨u,rfl,hu,tR,y8⟩))
 all_goals go_ret
 all_goals exact⟨_,rfl,TG _,‹_›,‹_›⟩
end
section
open Go Go.RowKit Go.Sort
def aP(v:Ax)(w:w1)(e:axa)(w':w1):Prop:=e=.returned v/\Ext w w'
def Cu(v:Ax)(w:w1)(e:axa)(w':w1):Prop:=e=.returned v/\w=w'
theorem dK{f:FuncId}{args:Array Ax}{W:w1}{d:Nat}{os:Array Obj}{v:Ax}(h:AA CW f args (grow (aw5 W d) os) (aP v (grow (aw5 W d) os))) :
 AA CW f args (grow (aw5 W d) os) fun e iD=>e=.returned v/\∃ p:Regrown,iD=grow (aw5 W p.d) p.os:=Calls.regrown_of h
theorem aX(W:w1)(d:Nat)(os:Array Obj):Ext W (grow (aw5 W d) os):=below_regrown W d os
end
section
open Go Go.RowKit
inductive Tag|q|al|st (j:Nat)|so (k:Nat)
 deriving DecidableEq
def fN(kd:List Tag)(i:Nat):Tag:=kd.getD i .q
def eH(l:List aw4)(i:Nat):Option Tmp:=(l[i]?).bind (·.dst)
def dep(o:aw4)(k:Nat):Bool:=o.after.any fun e=>Region.binds .any e&&e.on==k
def calm(l:List aw4)(kd:List Tag)(o:aw4)(x:axb):Bool:=
 match x with
 | .tmp t=>(List.range l.length).all fun k=>eH l k != some t||(dep o k&&fN kd k==.q)
 | _=>true
def Nv(l:List aw4)(kd:List Tag)(i:Nat):Bool:=
 match l[i]? with
 | none=>false
 | some o=>o.guard.isNone&&(match o.op with|.select ..=>false|_=>true) &&
  (o.after.all fun e=>!Region.binds .any e||decide (e.on<i)) &&
  ((List.range l.length).all fun k=>k==i||(match o.dst with|none=>true|some d=>eH l k != some d)) &&
  (match fN kd i with
   | .q=>o.op.operands.all fun x=>calm l kd o x
   | .al=>true
   | .st j=>(match o.op with
    | .store _ (.tmp t) x=>o.dst.isNone&&eH l j==some t&&dep o j&&fN kd j==.al&&calm l kd o x&&((List.range l.length).all fun k=>k==i||fN kd k != .st j)
    | _=>false)
   | .so c=>(match o.op with
    | .store _ p x=>o.dst.isNone&&calm l kd o p&&calm l kd o x&&((List.range l.length).all fun k=>k==i||fN kd k != .so c)
    | _=>false))
def mK(l:List aw4):Nat->Nat->Nat->Bool
 | 0,_,_=>false
 | n+1,s,i=>match l[s]? with
  | none=>false
  | some o=>dep o i||(List.range l.length).any fun k=>dep o k&&mK l n k i
def qy(l:List aw4)(kd:List Tag):Bool:=(List.range l.length).all fun i=>Nv l kd i
def ptrTo(g:Nat):Ax:=.pointer (some ⟨g,0,none⟩)
def kh(kd:List Tag)(V:List Ax)(G:Nat->Nat)(i:Nat):Ax:=
 match fN kd i with
 | .q=>V.getD i rM
 | .al=>ptrTo (G i)
 | _=>rM
def ic(l:List aw4)(kd:List Tag)(V:List Ax)(G:Nat->Nat)(a0:Act)(S:List Nat):Act:=S.foldl (fun a i=>a.put (eH l i) (kh kd V G i)) a0
def Same(kd:List Tag)(tgt:Nat->Nat)(W w:w1):Prop:=w.os=W.os/\w.tape=W.tape/\w.output=W.output/\W.heap.size<=w.heap.size/\∀ k,k<W.heap.size->(∀ c,.so c∈kd->tgt c≠k)->w.heap[k]?=W.heap[k]?
def mg(P:axh)(w:w1)(v:Ax):Result Next->Prop
 | .ok (.value u) w'=>w'=w/\u=v
 | .ok (.enter f args) w'=>w'=w/\AA P f args w (fun e iD=>e=.returned v/\Below w.heap.size w iD)
 | _=>False
def XB(P:axh)(C:w1->Prop)(o:aw4)(a:Act)(v:Ax):Prop:=∀ w,C w->mg P w v ((axc a.eval o).run P w)
def oC(P:axh)(ρ:axb->Ax)(o:aw4)(w:w1)(g:Nat)(f:Obj):Prop:=∃ aT,(axc ρ o).run P w=.ok .skip aT/\aT.heap[g]?=some f/\(∀ k,k≠g->aT.heap[k]?=w.heap[k]?)/\aT.heap.size=w.heap.size/\aT.os=w.os/\aT.tape=w.tape/\aT.output=w.output
def nN(P:axh)(C:w1->Prop)(l:List aw4)(kd:List Tag)(V:List Ax)(zero full:Nat->Obj)(tgt:Nat->Nat)(W:w1)(A:Act)(i:Nat)(o:aw4):Prop:=
 match fN kd i with
 | .q=>XB P (fun w=>C w/\∀ s c,fN kd s=.so c->mK l l.length s i=true->w.heap[tgt c]?=W.heap[tgt c]?) o A (V.getD i rM)
 | .al=>∀ (ρ:axb->Ax) (w:w1),(axc ρ o).run P w=.ok (.value (ptrTo w.heap.size)) (w.alloc (zero i))
 | .st j=>match o.op with
  | .store _ t x=>∀ (ρ:axb->Ax) (w:w1) (g:Nat),ρ t=ptrTo g->ρ x=A.eval x->w.heap[g]?=some (zero j)->oC P ρ o w g (full i)
  | _=>False
 | .so c=>match o.op with
  | .store _ p x=>A.eval p=ptrTo (tgt c)/\∀ (ρ:axb->Ax) (w:w1),ρ p=ptrTo (tgt c)->ρ x=A.eval x->w.heap[tgt c]?=W.heap[tgt c]?->oC P ρ o w (tgt c) (full i)
  | _=>False
def ql(R:Nat->aw4->Prop):Nat->List aw4->Prop
 | i,o :: l=>R i o/\ql R (i+1) l
 | _,[]=>True
theorem ql.get{R:Nat->aw4->Prop}:∀ {l:List aw4}{k:Nat},ql R k l->∀ i o,l[i]?=some o->R (k+i) o
 | [],_,_,i,o,h=>by simp at h
 | x :: l,k,hA,0,o,h=>by
  obtain rfl:x=o:=by simpa using h
  exact hA.1
 | x :: l,k,hA,i+1,o,h=>by
  have:=ql.get hA.2 i o (by simpa using h);rwa [Nat.add_assoc,Nat.add_comm 1 i] at this
structure pO (l:List aw4) (kd:List Tag) (V:List Ax) (zero full:Nat->Obj) (tgt:Nat->Nat) (a0:Act) (W:w1) (S:List Nat) (G:Nat->Nat) (w:w1):Prop where
 nd:S.Nodup
 lA:∀ i∈S,i<l.length
 same:Same kd tgt W w
 made:∀ i∈S,fN kd i=.al->W.heap.size<=G i/\G i<w.heap.size
 apart:∀ i∈S,∀ j∈S,fN kd i=.al->fN kd j=.al->G i=G j->i=j
 zeros:∀ i∈S,fN kd i=.al->(∀ s∈S,fN kd s≠.st i)->w.heap[G i]?=some (zero i)
 eV:∀ s∈S,∀ i,fN kd s=.st i->i∈S/\fN kd i=.al/\w.heap[G i]?=some (full s)
 pC:∀ s,s<l.length->∀ c,fN kd s=.so c->s ∉ S->w.heap[tgt c]?=W.heap[tgt c]?
 ep:∀ s∈S,∀ c,fN kd s=.so c->w.heap[tgt c]?=some (full s)
 dU:∀ s∈S,∀ o,l[s]?=some o->∀ k,dep o k=true->k∈S
section
variable {l:List aw4}{kd:List Tag}{V:List Ax}
theorem Gx(G:Nat->Nat)(t:Tmp):∀ (S:List Nat) (a0:Act),(∀ k∈S,eH l k≠some t)->(ic l kd V G a0 S).tmps[t]?=a0.tmps[t]?
 | [],a0,_=>rfl
 | k :: S,a0,h=>by
  show (ic l kd V G (a0.put (eH l k) (kh kd V G k)) S).tmps[t]?=_
  rw[Gx G t S _ (fun j aN=>h j (by simp[aN]))];have aE:=h k (by simp);cases hd:eH l k with
  | none=>rfl
  | some d =>
   have:d≠t:=fun e=>aE (by rw[hd,e])
   simp[Act.put,Array.getElem?_setIfInBounds_ne this]
theorem U7(a:Act)(d:Option Tmp)(v:Ax):(a.put d v).tmps.size=a.tmps.size:=by cases d<;>simp[Act.put]
theorem Gz(G:Nat->Nat)(t:Tmp)(k:Nat)(aE:eH l k=some t):∀ (S:List Nat) (a0:Act),S.Nodup->k∈S->(∀ j∈S,eH l j=some t->j=k)->(ic l kd V G a0 S).tmps[t]?=if t<a0.tmps.size then some (kh kd V G k) else none
 | [],a0,_,h,_=>by simp at h
 | j :: S,a0,hn,h,hu=>by
  show (ic l kd V G (a0.put (eH l j) (kh kd V G j)) S).tmps[t]?=_
  obtain⟨aN,DX⟩:=List.nodup_cons.1 hn;by_cases e:j=k
  ·subst e;rw[Gx G t S _ (fun i hi he=>aN (by rw[<-hu i (by simp[hi]) he];exact hi)),aE];simp[Act.put,Array.getElem?_setIfInBounds]
  ·have sJ:k∈S:=by
    rcases List.mem_cons.1 h with h|h
    ·exact absurd h.symm e
    ·exact h
   rw[Gz G t k aE S _ DX sJ (fun i hi he=>hu i (by simp[hi]) he),U7]
theorem R'(G iM:Nat->Nat):∀ (S:List Nat) (a0:Act),(∀ i∈S,fN kd i=.al->G i=iM i)->ic l kd V G a0 S=ic l kd V iM a0 S
 | [],_,_=>rfl
 | k :: S,a0,h=>by
  have e:kh kd V G k=kh kd V iM k:=by
   unfold kh;cases bd:fN kd k<;>simp only
   rw[h k (by simp) bd]
  show ic l kd V G (a0.put (eH l k) (kh kd V G k)) S=ic l kd V iM (a0.put (eH l k) (kh kd V iM k)) S
  rw[e];exact R' G iM S _ (fun i hi=>h i (by simp[hi]))
theorem Gy(G:Nat->Nat)(a0:Act)(S:List Nat)(i:Nat):ic l kd V G a0 (S++[i])=(ic l kd V G a0 S).put (eH l i) (kh kd V G i):=by
 unfold ic;rw[List.foldl_append];rfl
def FV(l:List aw4):Prop:=∀ i j t,eH l i=some t->eH l j=some t->i=j
theorem abT(G:Nat->Nat)(a0:Act){S S':List Nat}(h:S.Perm S')(h1:FV l):ic l kd V G a0 S=ic l kd V G a0 S':=by
 unfold ic;refine List.Perm.foldl_eq' h (fun x hx y hy a=>?_) a0;by_cases e:x=y
 ·subst e;rfl
 ·exact Act.put_comm a _ _ (fun d hd hy=>e (h1 x y d hd hy))
theorem ND(h:qy l kd=true):FV l:=by
 intro i j t hi aN;unfold qy at h;rw[List.all_eq_true] at h;have gY:i<l.length:=by
  unfold eH at hi;cases hx:l[i]? with
  | none=>rw[hx] at hi;simp at hi
  | some o=>exact(List.getElem?_eq_some_iff.1 hx).1
 have jf:j<l.length:=by
  unfold eH at aN;cases hx:l[j]? with
  | none=>rw[hx] at aN;simp at aN
  | some o=>exact(List.getElem?_eq_some_iff.1 hx).1
 have:=h i (List.mem_range.2 gY);unfold Nv at this
 rw[List.getElem?_eq_getElem gY] at this
 simp only[Bool.and_eq_true,List.all_eq_true] at this
 have hu:=this.1.2 j (List.mem_range.2 jf)
 have hd:l[i].dst=some t:=by unfold eH at hi;rw[List.getElem?_eq_getElem gY] at hi;simpa using hi
 rw[hd] at hu;simp[aN] at hu;exact hu.symm
theorem EM(h:qy l kd=true){i:Nat}{o:aw4}(aL:l[i]?=some o):o.guard=none/\(∀ cs b,o.op≠.select cs b)/\(∀ e∈o.after,Region.binds .any e=true->e.on<i) /\
 (fN kd i=.q->∀ x∈o.op.operands,calm l kd o x=true) /\
 (∀ j,fN kd i=.st j->∃ T t x,o.op=.store T (.tmp t) x/\o.dst=none/\eH l j=some t/\dep o j=true/\fN kd j=.al/\calm l kd o x=true/\∀ k,k<l.length->fN kd k=.st j->k=i) /\
 (∀ c,fN kd i=.so c->∃ T p x,o.op=.store T p x/\o.dst=none/\calm l kd o p=true/\calm l kd o x=true/\∀ k,k<l.length->fN kd k=.so c->k=i):=by
 unfold qy at h;rw[List.all_eq_true] at h;have gY:=(List.getElem?_eq_some_iff.1 aL).1;have:=h i (List.mem_range.2 gY);unfold Nv at this
 rw[aL] at this
 simp only[Bool.and_eq_true] at this
 obtain⟨⟨⟨⟨h1,h2⟩,h3⟩,h4⟩,h5⟩:=this
 refine⟨by simpa using h1,?_,?_,?_,?_,?_⟩
 ·intro cs b e;rw[e] at h2;simp at h2
 ·intro e he hb;have:=Array.all_eq_true_iff_forall_mem.1 h3 e he;rw[hb] at this;simpa using this
 ·intro bd;simp only[bd] at h5;intro x hx;exact Array.all_eq_true_iff_forall_mem.1 h5 x hx
 ·intro j bd;simp only[bd] at h5;split at h5
  ·rename_i T t x hop;simp only[Bool.and_eq_true,List.all_eq_true] at h5;obtain⟨⟨⟨⟨⟨g1,g2⟩,g3⟩,g4⟩,g5⟩,g6⟩:=h5;refine⟨T,t,x,hop,by simpa using g1,by simpa using g2,g3,by simpa using g4,g5,?_⟩;intro k aE eE;have:=g6 k (List.mem_range.2 aE);rw[eE] at this;simpa using this
  ·simp at h5
 ·intro c bd;simp only[bd] at h5;split at h5
  ·rename_i T p x hop;simp only[Bool.and_eq_true,List.all_eq_true] at h5;obtain⟨⟨⟨g1,g2⟩,g3⟩,g4⟩:=h5;refine⟨T,p,x,hop,by simpa using g1,g2,g3,?_⟩;intro k aE eE;have:=g4 k (List.mem_range.2 aE);rw[eE] at this;simpa using this
  ·simp at h5
theorem C0{k:Nat}{t:Tmp}(h:eH l k=some t):k<l.length:=by
 unfold eH at h;cases hx:l[k]? with
 | none=>rw[hx] at h;simp at h
 | some o=>exact(List.getElem?_eq_some_iff.1 hx).1
theorem abd(ec:qy l kd=true)(G iM:Nat->Nat)(a0:Act){S:List Nat}(hS:S.Nodup){o:aw4}(lu:∀ k,dep o k=true->k∈S){x:axb}(hx:calm l kd o x=true) :
 (ic l kd V G a0 S).eval x=(ic l kd V iM a0 (List.range l.length)).eval x:=by
 have h1:=ND ec;cases x with
 | tmp t =>
  simp only[calm,List.all_eq_true] at hx;by_cases hw:∃ k,eH l k=some t
  ·obtain⟨k,aE⟩:=hw;have dP:=C0 aE;have:=hx k (List.mem_range.2 dP);rw[aE] at this
   simp at this
   obtain⟨hd,aO⟩:=this
   have bk:=Gz (kd:=kd) (V:=V) G t k aE S a0 hS (lu k hd) (fun j _ aN=>h1 j k t aN aE);have e2:=Gz (kd:=kd) (V:=V) iM t k aE (List.range l.length) a0 List.nodup_range (List.mem_range.2 dP) (fun j _ aN=>h1 j k t aN aE);have fL:kh kd V G k=kh kd V iM k:=by unfold kh;rw[aO]
   simp only[Act.eval,Array.getD_eq_getD_getElem?];rw[bk,e2,fL]
  ·have bk:=Gx (kd:=kd) (V:=V) G t S a0 (fun k _ e=>hw ⟨k,e⟩);have e2:=Gx (kd:=kd) (V:=V) iM t (List.range l.length) a0 (fun k _ e=>hw ⟨k,e⟩);simp only[Act.eval,Array.getD_eq_getD_getElem?];rw[bk,e2]
 | _=>rfl
theorem HJ{listed:Array Bool}{i:Nat}(h:i∈Region.ready .any l.toArray listed):∃ o,l[i]?=some o/\listed.getD i true=false/\∀ k,dep o k=true->listed.getD k false=true:=by
 unfold Region.ready at h;rw[List.mem_filter] at h;obtain⟨h1,h2⟩:=h;simp only[Bool.and_eq_true] at h2;obtain⟨h2,h3⟩:=h2;have hi:i<l.length:=by simpa using h1
 refine⟨l[i],List.getElem?_eq_getElem hi,by simpa using h2,?_⟩;intro k aE;rw[List.getElem?_toArray,List.getElem?_eq_getElem hi] at h3;simp only[Option.map_some,Option.getD_some] at h3;unfold dep at aE;rw[Array.any_eq_true'] at aE;obtain⟨e,he,hb⟩:=aE;simp only[Bool.and_eq_true,beq_iff_eq] at hb;have:=Array.all_eq_true_iff_forall_mem.1 h3 e he;rw[hb.1,hb.2] at this
 simpa using this
theorem aj'(ec:qy l kd=true){listed:Array Bool}{S:List Nat}(br:∀ j,j<l.length->(listed.getD j true=decide (j∈S))/\listed.getD j false=decide (j∈S)){m:Nat}(hm:m<l.length)(zh:m ∉ S):Region.ready .any l.toArray listed≠[]:=by
 -- the least one that is not listed is ready
 induction m using Nat.strongRecOn with
 | ind m ih =>
  by_cases rC:∃ j,j<m/\j ∉ S
  ·obtain⟨j,aN,pk⟩:=rC;exact ih j aN (by omega) pk
  ·intro he;have:m∈Region.ready .any l.toArray listed:=by
    unfold Region.ready;rw[List.mem_filter];refine⟨by simpa using hm,?_⟩;rw[List.getElem?_toArray,List.getElem?_eq_getElem hm];simp only[Option.map_some,Option.getD_some,Bool.and_eq_true];refine⟨by rw[(br m hm).1];simpa using zh,?_⟩;rw[Array.all_eq_true_iff_forall_mem];intro e LB;cases hb:Region.binds .any e
    ·rfl
    ·have cl:=(EM ec (List.getElem?_eq_getElem hm)).2.2.1 e LB hb;have:e.on∈S:=Classical.byContradiction fun hn=>rC ⟨e.on,cl,hn⟩
     simp[(br e.on (by omega)).2,this]
   rw[he] at this
   simp at this
theorem z7{i:Nat}{c:Nat}(h:fN kd i=.so c):Tag.so c∈kd:=by
 unfold fN at h;rw[List.getD_eq_getElem?_getD] at h;cases hx:kd[i]? with
 | none=>rw[hx] at h;simp at h
 | some t=>rw[hx] at h;simp at h;rw[<-h];exact List.mem_of_getElem? hx
theorem kept{w w':w1}{k:Nat}{x:Obj}(h:Below w.heap.size w w')(e:w.heap[k]?=some x):w'.heap[k]?=some x:=by
 rw[h.block k (Array.getElem?_eq_some_iff.1 e).1];exact e
theorem Same.below{tgt:Nat->Nat}{W w w':w1}(h:Same kd tgt W w)(k:Below w.heap.size w w'):Same kd tgt W w':=
 ⟨k.os.trans h.1,k.tape.trans h.2.1,k.output.trans h.2.2.1,Nat.le_trans h.2.2.2.1 k.size,fun j aN hc=>(k.block j (Nat.lt_of_lt_of_le aN h.2.2.2.1)).trans (h.2.2.2.2 j aN hc)⟩
variable {zero full:Nat->Obj}{tgt:Nat->Nat}{a0:Act}{W:w1}{S:List Nat}{G:Nat->Nat}{w:w1}
theorem EI:∀(T S:List Nat),T.Nodup->(∀ x∈T,x∈S)->T.length<=S.length
 | [],_,_,_=>by simp
 | x :: T,S,hn,h=>by
  obtain⟨hx,DX⟩:=List.nodup_cons.1 hn;have h1:=h x (by simp);have h2:=EI T (S.erase x) DX (fun y hy=>(List.mem_erase_of_ne (fun e=>hx (by rw[<-e];exact hy))).2 (h y (by simp[hy])));rw[List.length_erase_of_mem h1] at h2;have h3:0<S.length:=List.length_pos_of_mem h1;simp only[List.length_cons];omega
theorem xI{i:Nat}(h:S.Nodup)(hi:i ∉ S):(S++[i]).Nodup:=by
 rw[List.nodup_append];refine⟨h,by simp,?_⟩;intro a ha b hb;simp at hb;subst hb;intro e;subst e;exact hi ha
theorem F'(hc:∀ s∈S,∀ o,l[s]?=some o->∀ k,dep o k=true->k∈S):∀ (n s i:Nat),s∈S->mK l n s i=true->i∈S
 | 0,_,_,_,h=>by simp[mK] at h
 | n+1,s,i,hs,h=>by
  unfold mK at h;split at h
  ·simp at h
  ·rename_i o aL;simp only[Bool.or_eq_true,List.any_eq_true,Bool.and_eq_true] at h;rcases h with h|⟨k,_,aE,h⟩
   ·exact hc s hs o aL i h
   ·exact F' hc n k i (hc s hs o aL k aE) h
theorem Rn{n s i:Nat}(h:mK l n s i=true):s<l.length:=by
 cases n with
 | zero=>simp[mK] at h
 | succ n =>
  unfold mK at h;split at h
  ·simp at h
  ·rename_i o aL;exact(List.getElem?_eq_some_iff.1 aL).1
theorem w9{i:Nat}(hc:∀ s∈S,∀ o,l[s]?=some o->∀ k,dep o k=true->k∈S)(hi:∀ o,l[i]?=some o->∀ k,dep o k=true->k∈S):∀ s∈S++[i],∀ o,l[s]?=some o->∀ k,dep o k=true->k∈S++[i]:=by
 intro s hs o aL k aE;rcases List.mem_append.1 hs with h|h
 ·exact List.mem_append.2 (Or.inl (hc s h o aL k aE))
 ·simp at h;subst h;exact List.mem_append.2 (Or.inl (hi o aL k aE))
theorem afk(ae:pO l kd V zero full tgt a0 W S G w)(e6:∀ c,Tag.so c∈kd->tgt c<W.heap.size){i:Nat}(hi:i<l.length)(hn:i ∉ S)(bd:fN kd i=.q)(gy:∀ o,l[i]?=some o->∀ k,dep o k=true->k∈S){w':w1}(bF:Below w.heap.size w w'):pO l kd V zero full tgt a0 W (S++[i]) G w':=by
 have hm:∀ s t,s∈S++[i]->fN kd s=t->t≠.q->s∈S:=by
  intro s t hs h1 h2;rcases List.mem_append.1 hs with h|h
  ·exact h
  ·simp at h;subst h;exact absurd (bd.symm.trans h1).symm h2
 have e5:=bF.size;refine⟨xI ae.nd hn,?_,ae.same.below bF,?_,?_,?_,?_,?_,?_,w9 ae.dU gy⟩
 ·intro j aN;rcases List.mem_append.1 aN with h|h
  ·exact ae.lA j h
  ·simp at h;subst h;exact hi
 ·intro j aN mM;have:=ae.made j (hm j _ aN mM (by simp)) mM;omega
 ·intro j aN k aE h1 h2 h3;exact ae.apart j (hm j _ aN h1 (by simp)) k (hm k _ aE h2 (by simp)) h1 h2 h3
 ·intro j aN mM iK;exact kept bF (ae.zeros j (hm j _ aN mM (by simp)) mM (fun s hs=>iK s (by simp[hs])))
 ·intro s hs j hL;obtain⟨h1,h2,h3⟩:=ae.eV s (hm s _ hs hL (by simp)) j hL;exact⟨by simp[h1],h2,kept bF h3⟩
 ·intro s hs c hc lx;have h:=ae.pC s hs c hc (fun h=>lx (by simp[h]));rw[bF.block _ (Nat.lt_of_lt_of_le (e6 c (z7 hc)) ae.same.2.2.2.1)];exact h
 ·intro s hs c hc;exact kept bF (ae.ep s (hm s _ hs hc (by simp)) c hc)
theorem Ga(w:w1)(o:Obj):Below w.heap.size w (w.alloc o):=(Below.refl _ _).alloc (Nat.le_refl _) o
theorem afh(ae:pO l kd V zero full tgt a0 W S G w)(e6:∀ c,Tag.so c∈kd->tgt c<W.heap.size)(ec:qy l kd=true){i:Nat}(hi:i<l.length)(hn:i ∉ S)(bd:fN kd i=.al)(gy:∀ o,l[i]?=some o->∀ k,dep o k=true->k∈S):pO l kd V zero full tgt a0 W (S++[i]) (fun k=>if k=i then w.heap.size else G k) (w.alloc (zero i)):=by
 have bF:=Ga w (zero i);have dB:∀ j,j∈S->j≠i:=fun j aN e=>hn (e ▸ aN)
 have e5:(w.alloc (zero i)).heap.size=w.heap.size+1:=by simp
 have gQ:∀ j,j∈S++[i]->j∈S\/j=i:=by intro j aN;simpa using aN
 have vI:(w.alloc (zero i)).heap[w.heap.size]?=some (zero i):=Array.getElem?_push_size;refine⟨xI ae.nd hn,?_,ae.same.below bF,?_,?_,?_,?_,?_,?_,w9 ae.dU gy⟩
 ·intro j aN;rcases gQ j aN with h|h
  ·exact ae.lA j h
  ·subst h;exact hi
 ·intro j aN mM;rcases gQ j aN with h|h
  ·have:=ae.made j h mM;rw[if_neg (dB j h)];omega
  ·subst h;have:=ae.same.2.2.2.1;simp only[if_true];omega
 ·intro j aN k aE h1 h2 h3;rcases gQ j aN with pE|pE<;>rcases gQ k aE with pF|pF
  ·simp only[if_neg (dB j pE),if_neg (dB k pF)] at h3;exact ae.apart j pE k pF h1 h2 h3
  ·subst pF;simp only[if_neg (dB j pE),if_true] at h3;have:=(ae.made j pE h1).2;omega
  ·subst pE;simp only[if_neg (dB k pF),if_true] at h3;have:=(ae.made k pF h2).2;omega
  ·rw[pE,pF]
 ·intro j aN mM iK;rcases gQ j aN with aN|aN
  ·simp only[if_neg (dB j aN)];exact kept bF (ae.zeros j aN mM (fun s hs=>iK s (by simp[hs])))
  ·subst aN;simp only[if_true];exact vI
 ·intro s hs j hL;rcases gQ s hs with dj|dj
  ·obtain⟨h1,h2,h3⟩:=ae.eV s dj j hL;refine⟨by simp[h1],h2,?_⟩;simp only[if_neg (dB j h1)];exact kept bF h3
  ·subst dj;rw[bd] at hL;simp at hL
 ·intro s hs c hc lx;have h:=ae.pC s hs c hc (fun h=>lx (by simp[h]));rw[bF.block _ (Nat.lt_of_lt_of_le (e6 c (z7 hc)) ae.same.2.2.2.1)];exact h
 ·intro s hs c hc;rcases gQ s hs with dj|dj
  ·exact kept bF (ae.ep s dj c hc)
  ·subst dj;rw[bd] at hc;simp at hc
def m_(w aT:w1)(g:Nat)(f:Obj):Prop:=aT.heap[g]?=some f/\(∀ k,k≠g->aT.heap[k]?=w.heap[k]?)/\aT.heap.size=w.heap.size/\aT.os=w.os/\aT.tape=w.tape/\aT.output=w.output
theorem afn(ae:pO l kd V zero full tgt a0 W S G w)(e6:∀ c,Tag.so c∈kd->tgt c<W.heap.size)(ec:qy l kd=true){i j:Nat}{o:aw4}(aL:l[i]?=some o)(hn:i ∉ S)(bd:fN kd i=.st j)(aN:j∈S)(gy:∀ o,l[i]?=some o->∀ k,dep o k=true->k∈S){aT:w1}(hF:m_ w aT (G j) (full i)):pO l kd V zero full tgt a0 W (S++[i]) G aT:=by
 have gY:=(List.getElem?_eq_some_iff.1 aL).1;obtain⟨_,_,_,_,hL,_⟩:=EM ec aL;obtain⟨T,t,x,_,_,_,_,nn,_,sQ⟩:=hL j bd;obtain⟨f1,f2,f3,f4,f5,f6⟩:=hF;have gQ:∀ k,k∈S++[i]->k∈S\/k=i:=by intro k aE;simpa using aE
 have ad9:=ae.made j aN nn;have l1:∀ k,k∈S++[i]->fN kd k=.al->k∈S:=by
  intro k aE eE;rcases gQ k aE with h|h
  ·exact h
  ·subst h;rw[bd] at eE;simp at eE
 have hold:∀ k,k<W.heap.size->aT.heap[k]?=w.heap[k]?:=fun k aE=>f2 k (by omega)
 refine⟨xI ae.nd hn,?_,⟨f4.trans ae.same.1,f5.trans ae.same.2.1,f6.trans ae.same.2.2.1,by have:=ae.same.2.2.2.1;omega,fun k aE hc=>(hold k aE).trans (ae.same.2.2.2.2 k aE hc)⟩,?_,?_,?_,?_,?_,?_,w9 ae.dU gy⟩
 ·intro k aE;rcases gQ k aE with h|h
  ·exact ae.lA k h
  ·subst h;exact gY
 ·intro k aE eE;have:=ae.made k (l1 k aE eE) eE;omega
 ·intro k aE m hm h1 h2 h3;exact ae.apart k (l1 k aE h1) m (l1 m hm h2) h1 h2 h3
 ·intro k aE eE iK;have sJ:=l1 k aE eE;have zf:k≠j:=by
   intro e;subst e;exact iK i (by simp) bd
  rw[f2 (G k) (fun e=>zf (ae.apart k sJ j aN eE nn e))];exact ae.zeros k sJ eE (fun s hs=>iK s (by simp[hs]))
 ·intro s hs k nw;rcases gQ s hs with dj|dj
  ·obtain⟨h1,h2,h3⟩:=ae.eV s dj k nw;have zf:k≠j:=by
    intro e;subst e;have:=sQ s (ae.lA s dj) nw;exact hn (this ▸ dj)
   refine⟨by simp[h1],h2,?_⟩;rw[f2 (G k) (fun e=>zf (ae.apart k h1 j aN h2 nn e))];exact h3
  ·subst dj;rw[bd] at nw;obtain rfl:j=k:=by simpa using nw
   exact⟨by simp[aN],nn,f1⟩
 ·intro s hs c hc lx;rw[hold _ (e6 c (z7 hc))];exact ae.pC s hs c hc (fun h=>lx (by simp[h]))
 ·intro s hs c hc;rcases gQ s hs with dj|dj
  ·rw[hold _ (e6 c (z7 hc))];exact ae.ep s dj c hc
  ·subst dj;rw[bd] at hc;simp at hc
theorem afl(ae:pO l kd V zero full tgt a0 W S G w)(e6:∀ c,Tag.so c∈kd->tgt c<W.heap.size)(kA:∀ c c',Tag.so c∈kd->Tag.so c'∈kd->tgt c=tgt c'->c=c')(ec:qy l kd=true){i c:Nat}{o:aw4}(aL:l[i]?=some o)(hn:i ∉ S)(bd:fN kd i=.so c)(gy:∀ o,l[i]?=some o->∀ k,dep o k=true->k∈S){aT:w1}(hF:m_ w aT (tgt c) (full i)):pO l kd V zero full tgt a0 W (S++[i]) G aT:=by
 have gY:=(List.getElem?_eq_some_iff.1 aL).1;obtain⟨_,_,_,_,_,jv⟩:=EM ec aL;obtain⟨T,p,x,_,_,_,_,sQ⟩:=jv c bd;obtain⟨f1,f2,f3,f4,f5,f6⟩:=hF;have jr:=z7 bd;have adU:=e6 c jr;have gQ:∀ k,k∈S++[i]->k∈S\/k=i:=by intro k aE;simpa using aE
 have l1:∀ k,k∈S++[i]->fN kd k=.al->k∈S:=by
  intro k aE eE;rcases gQ k aE with h|h
  ·exact h
  ·subst h;rw[bd] at eE;simp at eE
 have vI:∀ k,k∈S->fN kd k=.al->aT.heap[G k]?=w.heap[G k]?:=fun k aE eE=>f2 _ (by have:=(ae.made k aE eE).1;omega)
 refine⟨xI ae.nd hn,?_,⟨f4.trans ae.same.1,f5.trans ae.same.2.1,f6.trans ae.same.2.2.1,by have:=ae.same.2.2.2.1;omega,fun k aE hc=>(f2 k (fun e=>hc c jr e.symm)).trans (ae.same.2.2.2.2 k aE hc)⟩,?_,?_,?_,?_,?_,?_,w9 ae.dU gy⟩
 ·intro k aE;rcases gQ k aE with h|h
  ·exact ae.lA k h
  ·subst h;exact gY
 ·intro k aE eE;have:=ae.made k (l1 k aE eE) eE;omega
 ·intro k aE m hm h1 h2 h3;exact ae.apart k (l1 k aE h1) m (l1 m hm h2) h1 h2 h3
 ·intro k aE eE iK;rw[vI k (l1 k aE eE) eE];exact ae.zeros k (l1 k aE eE) eE (fun s hs=>iK s (by simp[hs]))
 ·intro s hs k nw;rcases gQ s hs with dj|dj
  ·obtain⟨h1,h2,h3⟩:=ae.eV s dj k nw;exact⟨by simp[h1],h2,by rw[vI k h1 h2];exact h3⟩
  ·subst dj;rw[bd] at nw;simp at nw
 ·intro s hs c' hc lx;have dB:c'≠c:=by
   intro e;subst e;have:=sQ s hs hc;subst this;exact lx (by simp)
  rw[f2 _ (fun e=>dB (kA c' c (z7 hc) jr e))];exact ae.pC s hs c' hc (fun h=>lx (by simp[h]))
 ·intro s hs c' hc;rcases gQ s hs with dj|dj
  ·have dB:c'≠c:=by
    intro e;subst e;have:=sQ s (ae.lA s dj) hc;exact hn (this ▸ dj)
   rw[f2 _ (fun e=>dB (kA c' c (z7 hc) jr e))];exact ae.ep s dj c' hc
  ·subst dj;rw[bd] at hc;obtain rfl:c=c':=by simpa using hc
   exact f1
def sx(l:List aw4)(n:Nat):Bool:=l.all fun o=>match o.dst with|some d=>decide (d<n)|none=>true
theorem JW{n:Nat}(h:sx l n=true){i:Nat}{t:Tmp}(bd:eH l i=some t):t<n:=by
 unfold sx at h;rw[List.all_eq_true] at h;have hi:=C0 bd;have:=h l[i] (List.getElem_mem hi);have hd:l[i].dst=some t:=by unfold eH at bd;rw[List.getElem?_eq_getElem hi] at bd;simpa using bd
 rw[hd] at this
 simpa using this
variable {P:axh}{Q:Exit->Act->w1->Prop}{C:w1->Prop}
theorem akT(ec:qy l kd=true)(np:sx l a0.tmps.size=true)(e6:∀ c,Tag.so c∈kd->tgt c<W.heap.size)(kA:∀ c c',Tag.so c∈kd->Tag.so c'∈kd->tgt c=tgt c'->c=c')(hC:∀ w,Same kd tgt W w->C w)(uy:Nat->Nat)
 (mO:ql (nN P C l kd V zero full tgt W (ic l kd V uy a0 (List.range l.length))) 0 l)
 (ae:pO l kd V zero full tgt a0 W S G w) {i:Nat}{o:aw4} (aL:l[i]?=some o) (hn:i ∉ S) (lu:∀ k,dep o k=true->k∈S)
 {K:Act->w1->Prop} (cQ:∀ iM w',pO l kd V zero full tgt a0 W (S++[i]) iM w'->K (ic l kd V iM a0 (S++[i])) w') :
 wpOp P l.toArray Q i K (ic l kd V G a0 S) w:=by
 have gY:=(List.getElem?_eq_some_iff.1 aL).1;obtain⟨af,hs,_,aO,hL,jv⟩:=EM ec aL;have iZ:=mO.get i o aL;rw[Nat.zero_add] at iZ;have hd:eH l i=o.dst:=by unfold eH;rw[aL];rfl
 have gy:∀ o,l[i]?=some o->∀ k,dep o k=true->k∈S:=by
  intro o' D5 k aE;rw[aL] at D5;obtain rfl:o=o':=by simpa using D5
  exact lu k aE
 have Bk:∀ x,calm l kd o x=true->(ic l kd V G a0 S).eval x=(ic l kd V uy a0 (List.range l.length)).eval x:=fun x hx=>abd ec G uy a0 ae.nd lu hx
 unfold wpOp;rw[List.getElem?_toArray,aL];simp only;have hw:Region.wanted o (yielded l.toArray (ic l kd V G a0 S).tmps)=true:=by unfold Region.wanted;rw[af]
 rw[if_pos hw];refine Or.inl ?_;unfold Oper.wp;cases bd:fN kd i with
 | q =>
  unfold nN at iZ;rw[bd] at iZ;have h1:=iZ w ⟨hC w ae.same,fun s c Mg ha=>ae.pC s (Rn ha) c Mg fun hs=>hn (F' ae.dU _ s i hs ha)⟩;rw[<-execOp_congr o hs (fun x hx=>Bk x (aO bd x hx))] at h1;have aF:kh kd V G i=V.getD i rM:=by unfold kh;rw[bd]
  have k2:∀ w',Below w.heap.size w w'->K ((ic l kd V G a0 S).put o.dst (V.getD i rM)) w':=by
   intro w' bF;have:=cQ G w' (afk ae e6 gY hn bd gy bF);rw[Gy,hd,aF] at this
   exact this
  generalize (axc (ic l kd V G a0 S).eval o).run P w=r at h1 |-;cases r with
  | ok n w' =>
   cases n<;>simp only[mg,Oper.upon] at h1 |-
   ·obtain⟨rfl,rfl⟩:=h1;exact k2 _ (Below.refl _ _)
   ·obtain⟨rfl,h2⟩:=h1;refine h2.mono ?_;rintro e iD ⟨rfl,bF⟩;exact k2 iD bF
  | halt x w'=>simp only[mg] at h1
 | al =>
  unfold nN at iZ;rw[bd] at iZ;rw[iZ];simp only[Oper.upon];have:=cQ _ _ (afh ae e6 ec gY hn bd gy);rw[Gy,hd,<-R' G (fun k=>if k=i then w.heap.size else G k) S a0 (fun k aE _=>by have e:k≠i:=(fun e=>hn (by rw[<-e];exact aE));rw[if_neg e])] at this
  have aF:kh kd V (fun k=>if k=i then w.heap.size else G k) i=ptrTo w.heap.size:=by unfold kh;rw[bd];simp
  rw[aF] at this
  exact this
 | st j =>
  obtain⟨T,t,x,hop,L6,zd,Lt,nn,vA,_⟩:=hL j bd;unfold nN at iZ;simp only[bd,hop] at iZ;have pk:=lu j Lt;have hp:(ic l kd V G a0 S).eval (.tmp t)=ptrTo (G j):=by
   have bk:=Gz (kd:=kd) (V:=V) G t j zd S a0 ae.nd pk (fun k _ aE=>ND ec k j t aE zd);rw[if_pos (JW np zd)] at bk;simp only[Act.eval,Array.getD_eq_getD_getElem?];rw[bk];unfold kh;rw[nn];rfl
  have hz:=ae.zeros j pk nn (fun s hs e=>by
   obtain⟨_,_,_,_,nw,_⟩:=EM ec aL;obtain⟨_,_,_,_,_,_,_,_,_,hu⟩:=nw j bd;have:=hu s (ae.lA s hs) e;exact hn (this ▸ hs))
  obtain⟨aT,aD,hF⟩:=iZ (ic l kd V G a0 S).eval w (G j) hp (Bk x vA) hz;rw[aD];simp only[Oper.upon];have:=cQ G aT (afn ae e6 ec aL hn bd pk gy hF);have aF:kh kd V G i=rM:=by unfold kh;rw[bd]
  rw[Gy,hd,aF] at this
  exact this
 | so c =>
  obtain⟨T,p,x,hop,L6,jP,vA,_⟩:=jv c bd;unfold nN at iZ;simp only[bd,hop] at iZ;obtain⟨aeA,iZ⟩:=iZ;obtain⟨aT,aD,hF⟩:=iZ (ic l kd V G a0 S).eval w ((Bk p jP).trans aeA) (Bk x vA) (ae.pC i gY c bd hn);rw[aD];simp only[Oper.upon];have:=cQ G aT (afl ae e6 kA ec aL hn bd gy hF);have aF:kh kd V G i=rM:=by unfold kh;rw[bd]
  rw[Gy,hd,aF] at this
  exact this
theorem Yc(ec:qy l kd=true)(np:sx l a0.tmps.size=true)(e6:∀ c,Tag.so c∈kd->tgt c<W.heap.size)(kA:∀ c c',Tag.so c∈kd->Tag.so c'∈kd->tgt c=tgt c'->c=c')(hC:∀ w,Same kd tgt W w->C w)(uy:Nat->Nat)
 (mO:ql (nN P C l kd V zero full tgt W (ic l kd V uy a0 (List.range l.length))) 0 l)
 (k2:∀ G w,pO l kd V zero full tgt a0 W (List.range l.length) G w->Q .normal (ic l kd V G a0 (List.range l.length)) w) :
 ∀ (fuel:Nat) (S:List Nat) (G:Nat->Nat) (w:w1) (listed:Array Bool),listed.size=l.length->(∀ j,j<l.length->(listed.getD j true=decide (j∈S))/\listed.getD j false=decide (j∈S))->pO l kd V zero full tgt a0 W S G w->S.length+fuel=l.length->wpAny P .any l.toArray Q fuel listed (ic l kd V G a0 S) w:=by
 have h1:=ND ec;intro fuel;induction fuel with
 | zero =>
  intro S G w listed e5 br ae hlen;-- all are listed
  have y':∀ m,m<l.length->m∈S:=by
   intro m hm;refine Classical.byContradiction fun hn=>?_
   have h2:=EI (m :: S) (List.range l.length) (List.nodup_cons.2 ⟨hn,ae.nd⟩) (fun k aE=>by
    rcases List.mem_cons.1 aE with h|h
    ·subst h;exact List.mem_range.2 hm
    ·exact List.mem_range.2 (ae.lA k h))
   simp at h2;omega
  have ju:S.Perm (List.range l.length):=(List.perm_ext_iff_of_nodup ae.nd List.nodup_range).2 (fun k=>⟨fun h=>List.mem_range.2 (ae.lA k h),fun h=>y' k (List.mem_range.1 h)⟩);refine⟨?_,?_⟩
  ·cases aD:Region.ready .any l.toArray listed with
   | nil=>rfl
   | cons i r =>
    obtain⟨o,aL,rB,_⟩:=HJ (show i∈Region.ready .any l.toArray listed by rw[aD];simp);have hi:=(List.getElem?_eq_some_iff.1 aL).1;rw[(br i hi).1] at rB;simp[y' i hi] at rB
  ·rw[abT G a0 ju h1];refine k2 G w ⟨List.nodup_range,fun i hi=>List.mem_range.1 hi,ae.same,fun i hi=>ae.made i (ju.mem_iff.2 hi),fun i hi j aN=>ae.apart i (ju.mem_iff.2 hi) j (ju.mem_iff.2 aN),fun i hi bd hs=>ae.zeros i (ju.mem_iff.2 hi) bd (fun s dj=>hs s (ju.mem_iff.1 dj)),fun s hs i hi=>?_,fun s hs c hc hn=>ae.pC s hs c hc (fun h=>hn (ju.mem_iff.1 h)),fun s hs=>ae.ep s (ju.mem_iff.2 hs),fun s hs o aL k aE=>List.mem_range.2 (ae.lA k (ae.dU s (ju.mem_iff.2 hs) o aL k aE))⟩;obtain⟨a,b,c⟩:=ae.eV s (ju.mem_iff.2 hs) i hi;exact⟨ju.mem_iff.1 a,b,c⟩
 | succ fuel ih =>
  intro S G w listed e5 br ae hlen;refine⟨?_,?_⟩
  ·intro aD;have:∃ m,m<l.length/\m ∉ S:=by
    apply Classical.byContradiction
    intro iK;have:=EI (List.range l.length) S List.nodup_range (fun m hm=>Classical.byContradiction fun hn=>iK ⟨m,List.mem_range.1 hm,hn⟩);simp at this
    omega
   obtain⟨m,hm,zh⟩:=this
   exact absurd aD (aj' ec br hm zh)
  ·intro i hi;obtain⟨o,aL,rB,lu⟩:=HJ hi;have gY:=(List.getElem?_eq_some_iff.1 aL).1;have hn:i ∉ S:=by
    intro h;rw[(br i gY).1] at rB;simp[h] at rB
   have Ls:∀ k,dep o k=true->k∈S:=by
    intro k aE;have h2:=lu k aE;by_cases dP:k<l.length
    ·rw[(br k dP).2] at h2;simpa using h2
    ·rw[Array.getD_eq_getD_getElem?,Array.getElem?_eq_none (by omega)] at h2;simp at h2
   refine akT ec np e6 kA hC uy mO ae aL hn Ls ?_;intro iM w' xh;refine ih (S++[i]) iM w' _ (by simpa using e5) ?_ xh (by simp;omega);intro j aN;have LG:j<listed.size:=by omega
   by_cases e:j=i
   ·subst e;simp[Array.getD_eq_getD_getElem?,LG]
   ·have e':i≠j:=fun h=>e h.symm
    have:=br j aN;simp only[Array.getD_eq_getD_getElem?] at this |-
    rw[Array.getElem?_setIfInBounds_ne e'];simpa [e] using this
theorem anx{id:Nat}(kd:List Tag)(V:List Ax)(zero full:Nat->Obj)(tgt:Nat->Nat)(C:w1->Prop)(hm:P.follows .mixedOrders=true)(ec:qy l kd=true)(np:sx l a0.tmps.size=true)(e6:∀ c,Tag.so c∈kd->tgt c<W.heap.size)(kA:∀ c c',Tag.so c∈kd->Tag.so c'∈kd->tgt c=tgt c'->c=c')(hC:∀ w,Same kd tgt W w->C w)(uy:Nat->Nat)
 (mO:ql (nN P C l kd V zero full tgt W (ic l kd V uy a0 (List.range l.length))) 0 l)
 (k2:∀ G w,pO l kd V zero full tgt a0 W (List.range l.length) G w->Q .normal (ic l kd V G a0 (List.range l.length)) w) :
 (Code.region id l.toArray true).wp P Q a0 W:=by
 refine wp_region_any hm ?_;have h:=Yc (Q:=Q) ec np e6 kA hC uy mO k2 l.length [] (fun _=>0) { W with drawn:=W.drawn+1 } (Array.replicate l.length false) (by simp) (fun j aN=>by simp[Array.getD_eq_getD_getElem?,aN]) ?_ (by simp)
 ·simpa [ic] using h
 ·exact⟨List.nodup_nil,by simp,⟨rfl,rfl,rfl,Nat.le_refl _,fun _ _ _=>rfl⟩,by simp,by simp,by simp,by simp,fun s hs c hc _=>rfl,by simp,by simp⟩
def qf(t:Tag)(v:Ax)(g:Nat):Ax:=match t with|.q=>v|.al=>ptrTo g|_=>rM
def nV:List aw4->List Tag->List Ax->(Nat->Nat)->Nat->Act->Act
 | o :: l,t :: kd,v :: V,G,i,a=>nV l kd V G (i+1) (a.put o.dst (qf t v (G i)))
 | _,_,_,_,_,a=>a
theorem U5(l:List aw4)(kd:List Tag)(V:List Ax)(G:Nat->Nat):∀ (l':List aw4) (sU:List Tag) (sj:List Ax) (k:Nat) (a:Act),(∀ i,l'[i]?=l[k+i]?)->(∀ i,sU[i]?=kd[k+i]?)->(∀ i,sj[i]?=V[k+i]?)->sU.length=l'.length->sj.length=l'.length->nV l' sU sj G k a=(List.range' k l'.length).foldl (fun a i=>a.put (eH l i) (kh kd V G i)) a
 | [],[],[],k,a,_,_,_,_,_=>rfl
 | o :: l',t :: sU,v :: sj,k,a,h1,h2,h3,h4,h5=>by
  have bk:l[k]?=some o:=by have:=h1 0;simpa using this.symm
  have e2:kd[k]?=some t:=by have:=h2 0;simpa using this.symm
  have fL:V[k]?=some v:=by have:=h3 0;simpa using this.symm
  have ed:eH l k=o.dst:=by unfold eH;rw[bk];rfl
  have et:fN kd k=t:=by unfold fN;rw[List.getD_eq_getElem?_getD,e2];rfl
  have J0:V.getD k rM=v:=by rw[List.getD_eq_getElem?_getD,fL];rfl
  have gO:kh kd V G k=qf t v (G k):=by
   unfold kh;rw[et,J0];cases t<;>rfl
  rw[nV,List.length_cons,List.range'_succ,List.foldl_cons,ed,gO];exact U5 l kd V G l' sU sj (k+1) _ (fun i=>by have:=h1 (i+1);rw[Nat.add_assoc,Nat.add_comm 1 i];simpa using this) (fun i=>by have:=h2 (i+1);rw[Nat.add_assoc,Nat.add_comm 1 i];simpa using this) (fun i=>by have:=h3 (i+1);rw[Nat.add_assoc,Nat.add_comm 1 i];simpa using this) (by simpa using h4) (by simpa using h5)
 | [],_ :: _,_,_,_,_,_,_,h,_=>by simp at h
 | [],[],_ :: _,_,_,_,_,_,_,h=>by simp at h
 | _ :: _,[],_,_,_,_,_,_,h,_=>by simp at h
 | _ :: _,_ :: _,[],_,_,_,_,_,_,h=>by simp at h
theorem Sb(a0:Act)(h4:kd.length=l.length)(h5:V.length=l.length):ic l kd V G a0 (List.range l.length)=nV l kd V G 0 a0:=by
 rw[U5 l kd V G l kd V 0 a0 (by simp) (by simp) (by simp) h4 h5,List.range_eq_range'];rfl
theorem rV{id:Nat}(kd:List Tag)(V:List Ax)(zero full:Nat->Obj)(tgt:Nat->Nat)(hm:P.follows .mixedOrders=true)(ec:qy l kd=true)(np:sx l a0.tmps.size=true)(h4:kd.length=l.length)(h5:V.length=l.length)(e6:∀ c,Tag.so c∈kd->tgt c<W.heap.size)(kA:∀ c c',Tag.so c∈kd->Tag.so c'∈kd->tgt c=tgt c'->c=c')
 (mO:ql (nN P (Same kd tgt W) l kd V zero full tgt W (nV l kd V (fun _=>0) 0 a0)) 0 l)
 (k2:∀ G w,pO l kd V zero full tgt a0 W (List.range l.length) G w->Q .normal (nV l kd V G 0 a0) w) :
 (Code.region id l.toArray true).wp P Q a0 W:=
 anx kd V zero full tgt (Same kd tgt W) hm ec np e6 kA (fun _ h=>h) (fun _=>0) (by rw[Sb a0 h4 h5];exact mO) (fun G w ae=>by rw[Sb a0 h4 h5];exact k2 G w ae)
theorem Same.block{W w:w1}(h:Same kd tgt W w){g:Nat}{x:Obj}(hx:W.heap[g]?=some x)(hc:∀ c,Tag.so c∈kd->tgt c≠g):w.heap[g]?=some x:=by
 rw[h.2.2.2.2 g (Array.getElem?_eq_some_iff.1 hx).1 hc];exact hx
theorem Same.ext{bU W w:w1}(h:Same kd tgt W w)(k:Below bU.heap.size bU W)(hc:∀ c,Tag.so c∈kd->bU.heap.size<=tgt c):Below bU.heap.size bU w:=
 ⟨h.1.trans k.os,h.2.1.trans k.tape,h.2.2.1.trans k.output,Nat.le_trans k.size h.2.2.2.1,fun j aN=>(h.2.2.2.2 j (Nat.lt_of_lt_of_le aN k.size) (fun c za e=>by have:=hc c za;omega)).trans (k.block j aN)⟩
end
inductive ew|q|hP|al|st (j:Nat)|so (k:Nat)|gO (m:Nat)
 deriving DecidableEq
def dv(kd:List ew)(i:Nat):ew:=kd.getD i .q
def ew.known:ew->Bool|.q=>true|.hP=>true|.gO _=>true|_=>false
def rm(l:List aw4)(kd:List ew)(o:aw4)(x:axb):Bool:=
 match x with
 | .tmp t=>(List.range l.length).all fun k=>eH l k != some t||(dep o k&&(dv kd k).known)
 | _=>true
def Hp(l:List aw4)(kd:List ew)(i:Nat):Bool:=
 match l[i]? with
 | none=>false
 | some o=>(match o.guard with|none=>dv kd i != .hP|some (k,_)=>dep o k&&decide (k<l.length)&&(eH l k).isSome&&(dv kd k).known)&&(match o.op with|.select ..=>false|_=>true) &&
  (o.after.all fun e=>!Region.binds .any e||decide (e.on<i)) &&
  ((List.range l.length).all fun k=>k==i||(match o.dst with|none=>true|some d=>eH l k != some d)) &&
  (match dv kd i with
   | .q=>o.op.operands.all fun x=>rm l kd o x
   | .gO m=>(o.op.operands.all fun x=>rm l kd o x)&&((List.range l.length).all fun k=>k==i||(match dv kd k with|.gO dI=>dI != m&&(!decide (dI<m)||mK l l.length i k)|_=>true))
   | .hP=>true
   | .al=>true
   | .st j=>(match o.op with
    | .store _ (.tmp t) x=>o.dst.isNone&&eH l j==some t&&dep o j&&dv kd j==.al&&rm l kd o x&&((List.range l.length).all fun k=>k==i||dv kd k != .st j)
    | _=>false)
   | .so c=>(match o.op with
    | .store _ p x=>o.dst.isNone&&rm l kd o p&&rm l kd o x&&((List.range l.length).all fun k=>k==i||dv kd k != .so c)
    | _=>false))
def qw(l:List aw4)(kd:List ew):Bool:=(List.range l.length).all fun i=>Hp l kd i
def eO(l:List aw4)(u:Nat->Ax)(a0:Act)(S:List Nat):Act:=S.foldl (fun a i=>a.put (eH l i) (u i)) a0
def BX(t:ew)(v:Ax)(g:Nat)(R:Nat->Ax):Ax:=match t with|.q=>v|.al=>ptrTo g|.gO m=>R m|_=>rM
def dN(kd:List ew)(V:(Nat->Ax)->List Ax)(R:Nat->Ax)(G:Nat->Nat)(i:Nat):Ax:=BX (dv kd i) ((V R).getD i rM) (G i) R
def FA:Ax->Option Bool|.bool b=>some b|_=>none
def qZ(kd:List ew)(tgt:Nat->Nat)(E:Nat->Prop)(W w:w1):Prop:=w.os=W.os/\w.tape=W.tape/\w.output=W.output/\W.heap.size<=w.heap.size/\∀ k,k<W.heap.size->¬ E k->(∀ c,.so c∈kd->tgt c≠k)->w.heap[k]?=W.heap[k]?
def jI(E:Nat->Prop)(w w':w1):Prop:=w'.os=w.os/\w'.tape=w.tape/\w'.output=w.output/\w.heap.size<=w'.heap.size/\∀ k,k<w.heap.size->¬ E k->w'.heap[k]?=w.heap[k]?
def mr(R:Nat->Ax)(m:Nat)(r:Ax):Nat->Ax:=fun k=>if k=m then r else R k
def A3(P:axh)(T:Nat->(Nat->Ax)->w1->Prop)(E:Nat->Prop)(m:Nat)(R:Nat->Ax)(w:w1):Result Next->Prop
 | .ok (.enter f args) w'=>w'=w/\AA P f args w (fun e iD=>∃ r,e=.returned r/\T (m+1) (mr R m r) iD/\jI E w iD)
 | .ok (.value r) w'=>T (m+1) (mr R m r) w'/\jI E w w'
 | _=>False
def pR(P:axh)(T:Nat->(Nat->Ax)->w1->Prop)(E:Nat->Prop)(l:List aw4)(kd:List ew)(nd:List Nat)(V:(Nat->Ax)->List Ax)(zero:Nat->Obj)(full:(Nat->Ax)->Nat->Obj)(tgt:Nat->Nat)(W:w1)(A:(Nat->Ax)->Act)(i:Nat)(o:aw4):Prop:=
 (∀ k b,o.guard=some (k,b)->∀ R s w,T s R w->nd.getD i 0<=s->(FA (dN kd V R (fun _=>0) k)==some b)=(dv kd i != .hP)) /\
 match dv kd i with
 | .q=>∀ R s w,T s R w->nd.getD i 0<=s->qZ kd tgt E W w->(∀ m c,dv kd m=.so c->mK l l.length m i=true->w.heap[tgt c]?=W.heap[tgt c]?)->mg P w ((V R).getD i rM) ((axc (A R).eval o).run P w)
 | .gO m=>∀ R w,T m R w->qZ kd tgt E W w->A3 P T E m R w ((axc (A R).eval o).run P w)
 | .hP=>True
 | .al=>∀ (ρ:axb->Ax) (w:w1),(axc ρ o).run P w=.ok (.value (ptrTo w.heap.size)) (w.alloc (zero i))
 | .st j=>(match o.op with
  | .store _ t x=>∀ R s (ρ:axb->Ax) (w:w1) (g:Nat),T s R w->nd.getD i 0<=s->ρ t=ptrTo g->ρ x=(A R).eval x->W.heap.size<=g->w.heap[g]?=some (zero j)->oC P ρ o w g (full R i)/\∀ aT,m_ w aT g (full R i)->T s R aT
  | _=>False)
 | .so c=>(match o.op with
  | .store _ p x=>∀ R s (ρ:axb->Ax) (w:w1),T s R w->nd.getD i 0<=s->ρ p=(A R).eval p->ρ x=(A R).eval x->w.heap[tgt c]?=W.heap[tgt c]?->oC P ρ o w (tgt c) (full R i)/\∀ aT,m_ w aT (tgt c) (full R i)->T s R aT
  | _=>False)
structure lf (T:Nat->(Nat->Ax)->w1->Prop) (E:Nat->Prop) (l:List aw4) (kd:List ew) (zero:Nat->Obj) (full:(Nat->Ax)->Nat->Obj) (tgt:Nat->Nat) (W:w1) (S:List Nat) (s:Nat) (R:Nat->Ax) (G:Nat->Nat) (w:w1):Prop where
 nd:S.Nodup
 lA:∀ i∈S,i<l.length
 same:qZ kd tgt E W w
 made:∀ i∈S,dv kd i=.al->W.heap.size<=G i/\G i<w.heap.size
 apart:∀ i∈S,∀ j∈S,dv kd i=.al->dv kd j=.al->G i=G j->i=j
 zeros:∀ i∈S,dv kd i=.al->(∀ s∈S,dv kd s≠.st i)->w.heap[G i]?=some (zero i)
 eV:∀ s∈S,∀ i,dv kd s=.st i->i∈S/\dv kd i=.al/\w.heap[G i]?=some (full R s)
 pC:∀ s,s<l.length->∀ c,dv kd s=.so c->s ∉ S->w.heap[tgt c]?=W.heap[tgt c]?
 ep:∀ s∈S,∀ c,dv kd s=.so c->w.heap[tgt c]?=some (full R s)
 dU:∀ s∈S,∀ o,l[s]?=some o->∀ k,dep o k=true->k∈S
 stage:∀ i,i<l.length->∀ m,dv kd i=.gO m->(i∈S↔m<s)
 holds:T s R w
section
variable {l:List aw4}{kd:List ew}{V:(Nat->Ax)->List Ax}
theorem Gv(u:Nat->Ax)(t:Tmp):∀ (S:List Nat) (a0:Act),(∀ k∈S,eH l k≠some t)->(eO l u a0 S).tmps[t]?=a0.tmps[t]?
 | [],a0,_=>rfl
 | k :: S,a0,h=>by
  show (eO l u (a0.put (eH l k) (u k)) S).tmps[t]?=_
  rw[Gv u t S _ (fun j aN=>h j (by simp[aN]))];have aE:=h k (by simp);cases hd:eH l k with
  | none=>rfl
  | some d =>
   have:d≠t:=fun e=>aE (by rw[hd,e])
   simp[Act.put,Array.getElem?_setIfInBounds_ne this]
theorem De(u:Nat->Ax)(t:Tmp)(k:Nat)(aE:eH l k=some t):∀ (S:List Nat) (a0:Act),S.Nodup->k∈S->(∀ j∈S,eH l j=some t->j=k)->(eO l u a0 S).tmps[t]?=if t<a0.tmps.size then some (u k) else none
 | [],a0,_,h,_=>by simp at h
 | j :: S,a0,hn,h,hu=>by
  show (eO l u (a0.put (eH l j) (u j)) S).tmps[t]?=_
  obtain⟨aN,DX⟩:=List.nodup_cons.1 hn;by_cases e:j=k
  ·subst e;rw[Gv u t S _ (fun i hi he=>aN (by rw[<-hu i (by simp[hi]) he];exact hi)),aE];simp[Act.put,Array.getElem?_setIfInBounds]
  ·have sJ:k∈S:=by
    rcases List.mem_cons.1 h with h|h
    ·exact absurd h.symm e
    ·exact h
   rw[De u t k aE S _ DX sJ (fun i hi he=>hu i (by simp[hi]) he),U7]
theorem Kr(u u':Nat->Ax):∀ (S:List Nat) (a0:Act),(∀ i∈S,u i=u' i)->eO l u a0 S=eO l u' a0 S
 | [],_,_=>rfl
 | k :: S,a0,h=>by
  show eO l u (a0.put (eH l k) (u k)) S=eO l u' (a0.put (eH l k) (u' k)) S
  rw[h k (by simp)];exact Kr u u' S _ (fun i hi=>h i (by simp[hi]))
theorem A_(u:Nat->Ax)(a0:Act)(S:List Nat)(i:Nat):eO l u a0 (S++[i])=(eO l u a0 S).put (eH l i) (u i):=by
 unfold eO;rw[List.foldl_append];rfl
theorem abQ(u:Nat->Ax)(a0:Act){S S':List Nat}(h:S.Perm S')(h1:FV l):eO l u a0 S=eO l u a0 S':=by
 unfold eO;refine List.Perm.foldl_eq' h (fun x hx y hy a=>?_) a0;by_cases e:x=y
 ·subst e;rfl
 ·exact Act.put_comm a _ _ (fun d hd hy=>e (h1 x y d hd hy))
theorem UK(h:qw l kd=true){i:Nat}{o:aw4}(aL:l[i]?=some o):Hp l kd i=true:=by
 unfold qw at h;rw[List.all_eq_true] at h;exact h i (List.mem_range.2 (List.getElem?_eq_some_iff.1 aL).1)
theorem Hq(h:qw l kd=true):FV l:=by
 intro i j t hi aN;have gY:=C0 hi;have jf:=C0 aN;have:=UK h (List.getElem?_eq_getElem gY);unfold Hp at this
 rw[List.getElem?_eq_getElem gY] at this
 simp only[Bool.and_eq_true,List.all_eq_true] at this
 have hu:=this.1.2 j (List.mem_range.2 jf)
 have hd:l[i].dst=some t:=by unfold eH at hi;rw[List.getElem?_eq_getElem gY] at hi;simpa using hi
 rw[hd] at hu;simp[aN] at hu;exact hu.symm
theorem E0(h:qw l kd=true){i:Nat}{o:aw4}(aL:l[i]?=some o):(o.guard=none->dv kd i≠.hP)/\(∀ k b,o.guard=some (k,b)->dep o k=true/\k<l.length/\(∃ d,eH l k=some d)/\(dv kd k).known=true)/\(∀ cs b,o.op≠.select cs b)/\(∀ e∈o.after,Region.binds .any e=true->e.on<i) /\
 ((dv kd i=.q\/∃ m,dv kd i=.gO m)->∀ x∈o.op.operands,rm l kd o x=true) /\
 (∀ m,dv kd i=.gO m->∀ k,k<l.length->∀ dI,dv kd k=.gO dI->(dI=m->k=i)/\(dI<m->mK l l.length i k=true)) /\
 (∀ j,dv kd i=.st j->∃ T t x,o.op=.store T (.tmp t) x/\o.dst=none/\eH l j=some t/\dep o j=true/\dv kd j=.al/\rm l kd o x=true/\∀ k,k<l.length->dv kd k=.st j->k=i) /\
 (∀ c,dv kd i=.so c->∃ T p x,o.op=.store T p x/\o.dst=none/\rm l kd o p=true/\rm l kd o x=true/\∀ k,k<l.length->dv kd k=.so c->k=i):=by
 have:=UK h aL;unfold Hp at this
 rw[aL] at this
 simp only[Bool.and_eq_true] at this
 obtain⟨⟨⟨⟨h1,h2⟩,h3⟩,h4⟩,h5⟩:=this
 refine⟨?_,?_,?_,?_,?_,?_,?_,?_⟩
 ·intro af;rw[af] at h1;simpa using h1
 ·intro k b af;rw[af] at h1;simp only[Bool.and_eq_true] at h1;obtain⟨⟨⟨a1,a2⟩,a3⟩,a4⟩:=h1;exact⟨a1,by simpa using a2,Option.isSome_iff_exists.1 a3,a4⟩
 ·intro cs b e;rw[e] at h2;simp at h2
 ·intro e he hb;have:=Array.all_eq_true_iff_forall_mem.1 h3 e he;rw[hb] at this;simpa using this
 ·rintro(bd|⟨m,bd⟩)
  ·simp only[bd] at h5;intro x hx;exact Array.all_eq_true_iff_forall_mem.1 h5 x hx
  ·simp only[bd,Bool.and_eq_true] at h5;intro x hx;exact Array.all_eq_true_iff_forall_mem.1 h5.1 x hx
 ·intro m bd k aE dI sM;simp only[bd,Bool.and_eq_true,List.all_eq_true] at h5;have:=h5.2 k (List.mem_range.2 aE);rw[sM] at this
  simp only[Bool.or_eq_true,beq_iff_eq,Bool.and_eq_true,bne_iff_ne,Bool.not_eq_true',decide_eq_false_iff_not] at this
  rcases this with rfl|⟨a,b⟩
  ·rw[bd] at sM;obtain rfl:m=dI:=by simpa using sM
   exact⟨fun _=>rfl,fun h=>by omega⟩
  ·exact⟨fun e=>absurd e a,fun hl=>b.resolve_left (fun h=>h hl)⟩
 ·intro j bd;simp only[bd] at h5;split at h5
  ·rename_i T t x hop;simp only[Bool.and_eq_true,List.all_eq_true] at h5;obtain⟨⟨⟨⟨⟨g1,g2⟩,g3⟩,g4⟩,g5⟩,g6⟩:=h5;refine⟨T,t,x,hop,by simpa using g1,by simpa using g2,g3,by simpa using g4,g5,?_⟩;intro k aE eE;have:=g6 k (List.mem_range.2 aE);rw[eE] at this;simpa using this
  ·simp at h5
 ·intro c bd;simp only[bd] at h5;split at h5
  ·rename_i T p x hop;simp only[Bool.and_eq_true,List.all_eq_true] at h5;obtain⟨⟨⟨g1,g2⟩,g3⟩,g4⟩:=h5;refine⟨T,p,x,hop,by simpa using g1,g2,g3,?_⟩;intro k aE eE;have:=g4 k (List.mem_range.2 aE);rw[eE] at this;simpa using this
  ·simp at h5
variable {T:Nat->(Nat->Ax)->w1->Prop}{E:Nat->Prop}{zero:Nat->Obj}{full:(Nat->Ax)->Nat->Obj}{tgt:Nat->Nat}{a0:Act}{W:w1}{S:List Nat}{s:Nat}{R:Nat->Ax}{G:Nat->Nat}{w:w1}{nd:List Nat}
theorem Wi{R:Nat->Ax}(G iM:Nat->Nat){k:Nat}(h:(dv kd k).known=true):dN kd V R G k=dN kd V R iM k:=by
 unfold dN BX;cases bd:dv kd k<;>simp[bd,ew.known] at h |-
theorem abb(ec:qw l kd=true)(G iM:Nat->Nat)(a0:Act)(hS:S.Nodup){o:aw4}(lu:∀ k,dep o k=true->k∈S){x:axb}(hx:rm l kd o x=true) :
 (eO l (dN kd V R G) a0 S).eval x=(eO l (dN kd V R iM) a0 (List.range l.length)).eval x:=by
 have h1:=Hq ec;cases x with
 | tmp t =>
  simp only[rm,List.all_eq_true] at hx;by_cases hw:∃ k,eH l k=some t
  ·obtain⟨k,aE⟩:=hw;have dP:=C0 aE;have:=hx k (List.mem_range.2 dP);rw[aE] at this
   simp at this
   obtain⟨hd,aO⟩:=this
   have bk:=De (dN kd V R G) t k aE S a0 hS (lu k hd) (fun j _ aN=>h1 j k t aN aE);have e2:=De (dN kd V R iM) t k aE (List.range l.length) a0 List.nodup_range (List.mem_range.2 dP) (fun j _ aN=>h1 j k t aN aE);simp only[Act.eval,Array.getD_eq_getD_getElem?];rw[bk,e2,Wi G iM aO]
  ·have bk:=Gv (dN kd V R G) t S a0 (fun k _ e=>hw ⟨k,e⟩);have e2:=Gv (dN kd V R iM) t (List.range l.length) a0 (fun k _ e=>hw ⟨k,e⟩);simp only[Act.eval,Array.getD_eq_getD_getElem?];rw[bk,e2]
 | _=>rfl
theorem aj_(ec:qw l kd=true){listed:Array Bool}{S:List Nat}(br:∀ j,j<l.length->(listed.getD j true=decide (j∈S))/\listed.getD j false=decide (j∈S)){m:Nat}(hm:m<l.length)(zh:m ∉ S):Region.ready .any l.toArray listed≠[]:=by
 induction m using Nat.strongRecOn with
 | ind m ih =>
  by_cases rC:∃ j,j<m/\j ∉ S
  ·obtain⟨j,aN,pk⟩:=rC;exact ih j aN (by omega) pk
  ·intro he;have:m∈Region.ready .any l.toArray listed:=by
    unfold Region.ready;rw[List.mem_filter];refine⟨by simpa using hm,?_⟩;rw[List.getElem?_toArray,List.getElem?_eq_getElem hm];simp only[Option.map_some,Option.getD_some,Bool.and_eq_true];refine⟨by rw[(br m hm).1];simpa using zh,?_⟩;rw[Array.all_eq_true_iff_forall_mem];intro e LB;cases hb:Region.binds .any e
    ·rfl
    ·have cl:=(E0 ec (List.getElem?_eq_getElem hm)).2.2.2.1 e LB hb;have:e.on∈S:=Classical.byContradiction fun hn=>rC ⟨e.on,cl,hn⟩
     simp[(br e.on (by omega)).2,this]
   rw[he] at this
   simp at this
theorem vY{i:Nat}{c:Nat}(h:dv kd i=.so c):ew.so c∈kd:=by
 unfold dv at h;rw[List.getD_eq_getElem?_getD] at h;cases hx:kd[i]? with
 | none=>rw[hx] at h;simp at h
 | some t=>rw[hx] at h;simp at h;rw[<-h];exact List.mem_of_getElem? hx
theorem Below.vk{w w':w1}(h:Below w.heap.size w w'):jI E w w':=⟨h.os,h.tape,h.output,h.size,fun k aE _=>h.block k aE⟩
theorem jI.kept{w w':w1}{k:Nat}{x:Obj}(h:jI E w w')(aE:¬ E k)(e:w.heap[k]?=some x):w'.heap[k]?=some x:=by
 rw[h.2.2.2.2 k (Array.getElem?_eq_some_iff.1 e).1 aE];exact e
theorem qZ.grow{w w':w1}(h:qZ kd tgt E W w)(k:jI E w w'):qZ kd tgt E W w':=
 ⟨k.1.trans h.1,k.2.1.trans h.2.1,k.2.2.1.trans h.2.2.1,Nat.le_trans h.2.2.2.1 k.2.2.2.1,fun j aN he hc=>(k.2.2.2.2 j (Nat.lt_of_lt_of_le aN h.2.2.2.1) he).trans (h.2.2.2.2 j aN he hc)⟩
theorem E3(ae:lf T E l kd zero full tgt W S s R G w){i:Nat}(hn:∀ m,dv kd i≠.gO m):∀ j,j<l.length->∀ m,dv kd j=.gO m->(j∈S++[i]↔m<s):=by
 intro j aN m hm;rw[<-ae.stage j aN m hm];constructor
 ·intro h;rcases List.mem_append.1 h with h|h
  ·exact h
  ·simp at h;subst h;exact absurd hm (hn m)
 ·intro h;exact List.mem_append.2 (Or.inl h)
theorem Mr(ad:∀ k,E k->k<W.heap.size)(pg:∀ c,ew.so c∈kd->¬ E (tgt c))(e6:∀ c,ew.so c∈kd->tgt c<W.heap.size)(ae:lf T E l kd zero full tgt W S s R G w){i:Nat}(hi:i<l.length)(hn:i ∉ S)(bd:(dv kd i).known=true)(gy:∀ o,l[i]?=some o->∀ k,dep o k=true->k∈S){w':w1}{s':Nat}{b1:Nat->Ax}(bF:jI E w w')(hL:∀ j,j<l.length->∀ m,dv kd j=.gO m->(j∈S++[i]↔m<s'))(SM:∀ k∈S,full b1 k=full R k)(aw:T s' b1 w'):lf T E l kd zero full tgt W (S++[i]) s' b1 G w':=by
 have hm:∀ s t,s∈S++[i]->dv kd s=t->t.known=false->s∈S:=by
  intro s t hs h1 h2;rcases List.mem_append.1 hs with h|h
  ·exact h
  ·simp at h;subst h;rw[h1] at bd;rw[bd] at h2;simp at h2
 have e5:=bF.2.2.2.1;have hold:=ae.same.2.2.2.1;have dB:∀ k,W.heap.size<=k->¬ E k:=fun k aE he=>by have:=ad k he;omega
 refine⟨xI ae.nd hn,?_,ae.same.grow bF,?_,?_,?_,?_,?_,?_,w9 ae.dU gy,hL,aw⟩
 ·intro j aN;rcases List.mem_append.1 aN with h|h
  ·exact ae.lA j h
  ·simp at h;subst h;exact hi
 ·intro j aN mM;have:=ae.made j (hm j _ aN mM rfl) mM;omega
 ·intro j aN k aE h1 h2 h3;exact ae.apart j (hm j _ aN h1 rfl) k (hm k _ aE h2 rfl) h1 h2 h3
 ·intro j aN mM iK;have pk:=hm j _ aN mM rfl;exact bF.kept (dB _ (ae.made j pk mM).1) (ae.zeros j pk mM (fun s hs=>iK s (by simp[hs])))
 ·intro s hs j hL;obtain⟨h1,h2,h3⟩:=ae.eV s (hm s _ hs hL rfl) j hL;exact⟨by simp[h1],h2,by rw[SM s (hm s _ hs hL rfl)];exact bF.kept (dB _ (ae.made j h1 h2).1) h3⟩
 ·intro s hs c hc lx;have h:=ae.pC s hs c hc (fun h=>lx (by simp[h]));rw[bF.2.2.2.2 _ (Nat.lt_of_lt_of_le (e6 c (vY hc)) hold) (pg c (vY hc))];exact h
 ·intro s hs c hc;rw[SM s (hm s _ hs hc rfl)];exact bF.kept (pg c (vY hc)) (ae.ep s (hm s _ hs hc rfl) c hc)
theorem afi(ad:∀ k,E k->k<W.heap.size)(qC:∀ s R w w',T s R w->Below w.heap.size w w'->T s R w')(e6:∀ c,ew.so c∈kd->tgt c<W.heap.size)(ae:lf T E l kd zero full tgt W S s R G w){i:Nat}(hi:i<l.length)(hn:i ∉ S)(bd:dv kd i=.al)(gy:∀ o,l[i]?=some o->∀ k,dep o k=true->k∈S):lf T E l kd zero full tgt W (S++[i]) s R (fun k=>if k=i then w.heap.size else G k) (w.alloc (zero i)):=by
 have bF:=Ga w (zero i);have dB:∀ j,j∈S->j≠i:=fun j aN e=>hn (e ▸ aN)
 have e5:(w.alloc (zero i)).heap.size=w.heap.size+1:=by simp
 have gQ:∀ j,j∈S++[i]->j∈S\/j=i:=by intro j aN;simpa using aN
 have vI:(w.alloc (zero i)).heap[w.heap.size]?=some (zero i):=Array.getElem?_push_size;refine⟨xI ae.nd hn,?_,ae.same.grow (Below.vk bF),?_,?_,?_,?_,?_,?_,w9 ae.dU gy,E3 ae (by simp[bd]),qC _ _ _ _ ae.holds bF⟩
 ·intro j aN;rcases gQ j aN with h|h
  ·exact ae.lA j h
  ·subst h;exact hi
 ·intro j aN mM;rcases gQ j aN with h|h
  ·have:=ae.made j h mM;rw[if_neg (dB j h)];omega
  ·subst h;have:=ae.same.2.2.2.1;simp only[if_true];omega
 ·intro j aN k aE h1 h2 h3;rcases gQ j aN with pE|pE<;>rcases gQ k aE with pF|pF
  ·simp only[if_neg (dB j pE),if_neg (dB k pF)] at h3;exact ae.apart j pE k pF h1 h2 h3
  ·subst pF;simp only[if_neg (dB j pE),if_true] at h3;have:=(ae.made j pE h1).2;omega
  ·subst pE;simp only[if_neg (dB k pF),if_true] at h3;have:=(ae.made k pF h2).2;omega
  ·rw[pE,pF]
 ·intro j aN mM iK;rcases gQ j aN with aN|aN
  ·simp only[if_neg (dB j aN)];exact kept bF (ae.zeros j aN mM (fun s hs=>iK s (by simp[hs])))
  ·subst aN;simp only[if_true];exact vI
 ·intro s hs j hL;rcases gQ s hs with dj|dj
  ·obtain⟨h1,h2,h3⟩:=ae.eV s dj j hL;refine⟨by simp[h1],h2,?_⟩;simp only[if_neg (dB j h1)];exact kept bF h3
  ·subst dj;rw[bd] at hL;simp at hL
 ·intro s hs c hc lx;have h:=ae.pC s hs c hc (fun h=>lx (by simp[h]));rw[bF.block _ (Nat.lt_of_lt_of_le (e6 c (vY hc)) ae.same.2.2.2.1)];exact h
 ·intro s hs c hc;rcases gQ s hs with dj|dj
  ·exact kept bF (ae.ep s dj c hc)
  ·subst dj;rw[bd] at hc;simp at hc
theorem afo(ad:∀ k,E k->k<W.heap.size)(e6:∀ c,ew.so c∈kd->tgt c<W.heap.size)(ec:qw l kd=true)(ae:lf T E l kd zero full tgt W S s R G w){i j:Nat}{o:aw4}(aL:l[i]?=some o)(hn:i ∉ S)(bd:dv kd i=.st j)(aN:j∈S)(gy:∀ o,l[i]?=some o->∀ k,dep o k=true->k∈S){aT:w1}(hF:m_ w aT (G j) (full R i))(aw:T s R aT):lf T E l kd zero full tgt W (S++[i]) s R G aT:=by
 have gY:=(List.getElem?_eq_some_iff.1 aL).1;obtain⟨_,_,_,_,_,_,hL,_⟩:=E0 ec aL;obtain⟨T',t,x,_,_,_,_,nn,_,sQ⟩:=hL j bd;obtain⟨f1,f2,f3,f4,f5,f6⟩:=hF;have gQ:∀ k,k∈S++[i]->k∈S\/k=i:=by intro k aE;simpa using aE
 have ad9:=ae.made j aN nn;have l1:∀ k,k∈S++[i]->dv kd k=.al->k∈S:=by
  intro k aE eE;rcases gQ k aE with h|h
  ·exact h
  ·subst h;rw[bd] at eE;simp at eE
 have hold:∀ k,k<W.heap.size->aT.heap[k]?=w.heap[k]?:=fun k aE=>f2 k (by omega)
 refine⟨xI ae.nd hn,?_,⟨f4.trans ae.same.1,f5.trans ae.same.2.1,f6.trans ae.same.2.2.1,by have:=ae.same.2.2.2.1;omega,fun k aE he hc=>(hold k aE).trans (ae.same.2.2.2.2 k aE he hc)⟩,?_,?_,?_,?_,?_,?_,w9 ae.dU gy,E3 ae (by simp[bd]),aw⟩
 ·intro k aE;rcases gQ k aE with h|h
  ·exact ae.lA k h
  ·subst h;exact gY
 ·intro k aE eE;have:=ae.made k (l1 k aE eE) eE;omega
 ·intro k aE m hm h1 h2 h3;exact ae.apart k (l1 k aE h1) m (l1 m hm h2) h1 h2 h3
 ·intro k aE eE iK;have sJ:=l1 k aE eE;have zf:k≠j:=by
   intro e;subst e;exact iK i (by simp) bd
  rw[f2 (G k) (fun e=>zf (ae.apart k sJ j aN eE nn e))];exact ae.zeros k sJ eE (fun s hs=>iK s (by simp[hs]))
 ·intro s hs k nw;rcases gQ s hs with dj|dj
  ·obtain⟨h1,h2,h3⟩:=ae.eV s dj k nw;have zf:k≠j:=by
    intro e;subst e;have:=sQ s (ae.lA s dj) nw;exact hn (this ▸ dj)
   refine⟨by simp[h1],h2,?_⟩;rw[f2 (G k) (fun e=>zf (ae.apart k h1 j aN h2 nn e))];exact h3
  ·subst dj;rw[bd] at nw;obtain rfl:j=k:=by simpa using nw
   exact⟨by simp[aN],nn,f1⟩
 ·intro s hs c hc lx;rw[hold _ (e6 c (vY hc))];exact ae.pC s hs c hc (fun h=>lx (by simp[h]))
 ·intro s hs c hc;rcases gQ s hs with dj|dj
  ·rw[hold _ (e6 c (vY hc))];exact ae.ep s dj c hc
  ·subst dj;rw[bd] at hc;simp at hc
theorem afm(e6:∀ c,ew.so c∈kd->tgt c<W.heap.size)(kA:∀ c c',ew.so c∈kd->ew.so c'∈kd->tgt c=tgt c'->c=c')(ec:qw l kd=true)(ae:lf T E l kd zero full tgt W S s R G w){i c:Nat}{o:aw4}(aL:l[i]?=some o)(hn:i ∉ S)(bd:dv kd i=.so c)(gy:∀ o,l[i]?=some o->∀ k,dep o k=true->k∈S){aT:w1}(hF:m_ w aT (tgt c) (full R i))(aw:T s R aT):lf T E l kd zero full tgt W (S++[i]) s R G aT:=by
 have gY:=(List.getElem?_eq_some_iff.1 aL).1;obtain⟨_,_,_,_,_,_,_,jv⟩:=E0 ec aL;obtain⟨T',p,x,_,_,_,_,sQ⟩:=jv c bd;obtain⟨f1,f2,f3,f4,f5,f6⟩:=hF;have jr:=vY bd;have adU:=e6 c jr;have gQ:∀ k,k∈S++[i]->k∈S\/k=i:=by intro k aE;simpa using aE
 have l1:∀ k,k∈S++[i]->dv kd k=.al->k∈S:=by
  intro k aE eE;rcases gQ k aE with h|h
  ·exact h
  ·subst h;rw[bd] at eE;simp at eE
 have vI:∀ k,k∈S->dv kd k=.al->aT.heap[G k]?=w.heap[G k]?:=fun k aE eE=>f2 _ (by have:=(ae.made k aE eE).1;omega)
 refine⟨xI ae.nd hn,?_,⟨f4.trans ae.same.1,f5.trans ae.same.2.1,f6.trans ae.same.2.2.1,by have:=ae.same.2.2.2.1;omega,fun k aE he hc=>(f2 k (fun e=>hc c jr e.symm)).trans (ae.same.2.2.2.2 k aE he hc)⟩,?_,?_,?_,?_,?_,?_,w9 ae.dU gy,E3 ae (by simp[bd]),aw⟩
 ·intro k aE;rcases gQ k aE with h|h
  ·exact ae.lA k h
  ·subst h;exact gY
 ·intro k aE eE;have:=ae.made k (l1 k aE eE) eE;omega
 ·intro k aE m hm h1 h2 h3;exact ae.apart k (l1 k aE h1) m (l1 m hm h2) h1 h2 h3
 ·intro k aE eE iK;rw[vI k (l1 k aE eE) eE];exact ae.zeros k (l1 k aE eE) eE (fun s hs=>iK s (by simp[hs]))
 ·intro s hs k nw;rcases gQ s hs with dj|dj
  ·obtain⟨h1,h2,h3⟩:=ae.eV s dj k nw;exact⟨by simp[h1],h2,by rw[vI k h1 h2];exact h3⟩
  ·subst dj;rw[bd] at nw;simp at nw
 ·intro s hs c' hc lx;have dB:c'≠c:=by
   intro e;subst e;have:=sQ s hs hc;subst this;exact lx (by simp)
  rw[f2 _ (fun e=>dB (kA c' c (vY hc) jr e))];exact ae.pC s hs c' hc (fun h=>lx (by simp[h]))
 ·intro s hs c' hc;rcases gQ s hs with dj|dj
  ·have dB:c'≠c:=by
    intro e;subst e;have:=sQ s (ae.lA s dj) hc;exact hn (this ▸ dj)
   rw[f2 _ (fun e=>dB (kA c' c (vY hc) jr e))];exact ae.ep s dj c' hc
  ·subst dj;rw[bd] at hc;obtain rfl:c=c':=by simpa using hc
   exact f1
end
def t_(l:List aw4)(kd:List ew)(nd:List Nat):Bool:=(List.range l.length).all fun i=>(match dv kd i with|.gO m=>nd.getD i 0==m|_=>true)&&(nd.getD i 0==0||(List.range l.length).any fun k=>dv kd k==.gO (nd.getD i 0-1)&&mK l l.length i k)
def uL(nd:List Nat)(R b1:Nat->Ax):Nat->List Ax->List Ax->Prop
 | i,x :: xs,y :: ys=>((∀ m,m<nd.getD i 0->R m=b1 m)->x=y)/\uL nd R b1 (i+1) xs ys
 | _,[],[]=>True
 | _,_,_=>False
theorem uL.get{nd:List Nat}{R b1:Nat->Ax}:∀ {xs ys:List Ax}{k:Nat},uL nd R b1 k xs ys->∀ i,(∀ m,m<nd.getD (k+i) 0->R m=b1 m)->xs.getD i rM=ys.getD i rM
 | [],[],_,_,_,_=>rfl
 | x :: xs,y :: ys,k,h,0,hi=>by simpa using h.1 hi
 | x :: xs,y :: ys,k,h,i+1,hi=>by
  have:=uL.get h.2 i (fun m hm=>hi m (by rw[show k+(i+1)=k+1+i by omega];exact hm));simpa using this
 | [],_ :: _,_,h,_,_=>h.elim
 | _ :: _,[],_,h,_,_=>h.elim
section
variable {l:List aw4}{kd:List ew}{V:(Nat->Ax)->List Ax}
variable {T:Nat->(Nat->Ax)->w1->Prop}{E:Nat->Prop}{zero:Nat->Obj}{full:(Nat->Ax)->Nat->Obj}{tgt:Nat->Nat}{a0:Act}{W:w1}{S:List Nat}{s:Nat}{R:Nat->Ax}{G:Nat->Nat}{w:w1}{nd:List Nat}
theorem Ya(hc:∀ s∈S,∀ o,l[s]?=some o->∀ k,dep o k=true->k∈S){i k n:Nat}{o:aw4}(aL:l[i]?=some o)(lu:∀ k,dep o k=true->k∈S)(h:mK l n i k=true):k∈S:=by
 cases n with
 | zero=>simp[mK] at h
 | succ n =>
  unfold mK at h;rw[aL] at h;simp only[Bool.or_eq_true,List.any_eq_true,Bool.and_eq_true] at h;rcases h with h|⟨m,_,hm,h⟩
  ·exact lu k h
  ·exact F' hc n m k (lu m hm) h
theorem Uj(ec:t_ l kd nd=true)(ae:lf T E l kd zero full tgt W S s R G w){i:Nat}{o:aw4}(aL:l[i]?=some o)(lu:∀ k,dep o k=true->k∈S):nd.getD i 0<=s:=by
 unfold t_ at ec;rw[List.all_eq_true] at ec;have h:=ec i (List.mem_range.2 (List.getElem?_eq_some_iff.1 aL).1);simp only[Bool.and_eq_true,Bool.or_eq_true,List.any_eq_true,beq_iff_eq] at h;rcases h.2 with h|⟨k,aE,bd,ha⟩
 ·omega
 ·have sJ:=Ya ae.dU aL lu ha;have:=(ae.stage k (List.mem_range.1 aE) _ bd).1 sJ;omega
theorem Ui(ec:t_ l kd nd=true)(ae:lf T E l kd zero full tgt W S s R G w){i:Nat}(hi:i∈S):nd.getD i 0<=s:=by
 have gY:=ae.lA i hi;exact Uj ec ae (List.getElem?_eq_getElem gY) (ae.dU i hi _ (List.getElem?_eq_getElem gY))
theorem agK(ec:t_ l kd nd=true){i m:Nat}(hi:i<l.length)(bd:dv kd i=.gO m):nd.getD i 0=m:=by
 unfold t_ at ec;rw[List.all_eq_true] at ec;have h:=ec i (List.mem_range.2 hi);simp only[Bool.and_eq_true] at h;have:=h.1;rw[bd] at this
 simpa using this
variable {P:axh}{Q:Exit->Act->w1->Prop}
theorem V4(ec:qw l kd=true)(p5:t_ l kd nd=true)(np:sx l a0.tmps.size=true)(ad:∀ k,E k->k<W.heap.size)(pg:∀ c,ew.so c∈kd->¬ E (tgt c))(e6:∀ c,ew.so c∈kd->tgt c<W.heap.size)(kA:∀ c c',ew.so c∈kd->ew.so c'∈kd->tgt c=tgt c'->c=c')(ry:∀ R b1,uL nd R b1 0 (V R) (V b1))(tQ:∀ R b1 i,(∀ m,m<nd.getD i 0->R m=b1 m)->full R i=full b1 i)
 (qC:∀ s R w w',T s R w->Below w.heap.size w w'->T s R w')
 (mO:ql (pR P T E l kd nd V zero full tgt W (fun R=>eO l (dN kd V R (fun _=>0)) a0 (List.range l.length))) 0 l)
 (ae:lf T E l kd zero full tgt W S s R G w) {i:Nat}{o:aw4} (aL:l[i]?=some o) (hn:i ∉ S) (lu:∀ k,dep o k=true->k∈S)
 {K:Act->w1->Prop} (cQ:∀ s' b1 iM w',lf T E l kd zero full tgt W (S++[i]) s' b1 iM w'->K (eO l (dN kd V b1 iM) a0 (S++[i])) w') :
 if Region.wanted o (yielded l.toArray (eO l (dN kd V R G) a0 S).tmps)=true then Oper.wp P o (eO l (dN kd V R G) a0 S) w K Q else K ((eO l (dN kd V R G) a0 S).put o.dst rM) w:=by
 have gY:=(List.getElem?_eq_some_iff.1 aL).1;obtain⟨ga,SN,hs,_,aO,Bk,hL,jv⟩:=E0 ec aL;have iZ:=mO.get i o aL;rw[Nat.zero_add] at iZ;obtain⟨ky,iZ⟩:=iZ;have hd:eH l i=o.dst:=by unfold eH;rw[aL];rfl
 have gy:∀ o,l[i]?=some o->∀ k,dep o k=true->k∈S:=by
  intro o' D5 k aE;rw[aL] at D5;obtain rfl:o=o':=by simpa using D5
  exact lu k aE
 have lx:=Uj p5 ae aL lu;have DL:∀ x,rm l kd o x=true->(eO l (dN kd V R G) a0 S).eval x=(eO l (dN kd V R (fun _=>0)) a0 (List.range l.length)).eval x:=fun x hx=>abb ec G _ a0 ae.nd lu hx
 have aeT:Region.wanted o (yielded l.toArray (eO l (dN kd V R G) a0 S).tmps)=(dv kd i != .hP):=by
  unfold Region.wanted;cases af:o.guard with
  | none =>
   have:=ga af;simp[this]
  | some p =>
   obtain⟨k,b⟩:=p;obtain⟨adZ,dP,⟨d,qD⟩,kz⟩:=SN k b af;have e:=De (dN kd V R G) d k qD S a0 ae.nd (lu k adZ) (fun j _ aN=>Hq ec j k d aN qD);rw[if_pos (JW np qD)] at e;have hy:yielded l.toArray (eO l (dN kd V R G) a0 S).tmps k=FA (dN kd V R G k):=by
    unfold yielded;have:(l.toArray[k]?).bind (·.dst)=some d:=by rw[List.getElem?_toArray];exact qD
    rw[this];simp only[Option.bind_some,e];unfold FA;cases dN kd V R G k<;>rfl
   show (yielded l.toArray (eO l (dN kd V R G) a0 S).tmps k==some b)=_
   rw[hy,Wi G (fun _=>0) kz];exact ky k b af R s w ae.holds lx
 rw[aeT];cases bd:dv kd i with
 | hP =>
  rw[if_neg (by simp)];have:=cQ s R G w (Mr ad pg e6 ae gY hn (by rw[bd];rfl) gy (Below.vk (Below.refl _ _)) (E3 ae (by simp[bd])) (fun _ _=>rfl) ae.holds);rw[A_,hd] at this
  have aF:dN kd V R G i=rM:=by unfold dN;rw[bd];rfl
  rw[aF] at this
  exact this
 | q =>
  rw[if_pos (by simp)];unfold Oper.wp;rw[bd] at iZ;have h1:=iZ R s w ae.holds lx ae.same (fun m c Mg ha=>ae.pC m (Rn ha) c Mg fun hs=>hn (F' ae.dU _ m i hs ha));rw[<-execOp_congr o hs (fun x hx=>DL x (aO (Or.inl bd) x hx))] at h1;have aF:dN kd V R G i=(V R).getD i rM:=by unfold dN;rw[bd];rfl
  have k2:∀ w',Below w.heap.size w w'->K ((eO l (dN kd V R G) a0 S).put o.dst ((V R).getD i rM)) w':=by
   intro w' bF;have:=cQ s R G w' (Mr ad pg e6 ae gY hn (by rw[bd];rfl) gy (Below.vk bF) (E3 ae (by simp[bd])) (fun _ _=>rfl) (qC _ _ _ _ ae.holds bF));rw[A_,hd,aF] at this
   exact this
  generalize (axc (eO l (dN kd V R G) a0 S).eval o).run P w=r at h1 |-;cases r with
  | ok n w' =>
   cases n<;>simp only[mg,Oper.upon] at h1 |-
   ·obtain⟨rfl,rfl⟩:=h1;exact k2 _ (Below.refl _ _)
   ·obtain⟨rfl,h2⟩:=h1;refine h2.mono ?_;rintro e iD ⟨rfl,bF⟩;exact k2 iD bF
  | halt x w'=>simp only[mg] at h1
 | gO m =>
  rw[if_pos (by simp)];unfold Oper.wp;rw[bd] at iZ;have aed:s=m:=by
   have h1:=agK p5 gY bd;have h2:¬ m<s:=fun h=>hn ((ae.stage i gY m bd).2 h)
   omega
  subst aed;have h1:=iZ R w ae.holds ae.same;rw[<-execOp_congr o hs (fun x hx=>DL x (aO (Or.inr ⟨s,bd⟩) x hx))] at h1;have k2:∀ (r:Ax) (iD:w1),T (s+1) (mr R s r) iD->jI E w iD->K ((eO l (dN kd V R G) a0 S).put o.dst r) iD:=by
   intro r iD aw bF;have aeI:∀ j,j<l.length->∀ dI,dv kd j=.gO dI->(j∈S++[i]↔dI<s+1):=by
    intro j aN dI sM;constructor
    ·intro h;rcases List.mem_append.1 h with h|h
     ·have:=(ae.stage j aN dI sM).1 h;omega
     ·simp at h;subst h;rw[bd] at sM;obtain rfl:s=dI:=by simpa using sM
      omega
    ·intro h;by_cases e:dI=s
     ·have:=(Bk s bd j aN dI sM).1 e;simp[this]
     ·exact List.mem_append.2 (Or.inl ((ae.stage j aN dI sM).2 (by omega)))
   have:=cQ (s+1) (mr R s r) G iD (Mr ad pg e6 ae gY hn (by rw[bd];rfl) gy bF aeI (fun k aE=>tQ _ _ k (fun m hm=>by have:=Ui p5 ae aE;unfold mr;rw[if_neg (by omega)])) aw);have hc:eO l (dN kd V (mr R s r) G) a0 S=eO l (dN kd V R G) a0 S:=by
    refine Kr _ _ S a0 (fun k aE=>?_);have dP:=ae.lA k aE;have kz:=Ui p5 ae aE;have vz:∀ m,m<s->mr R s r m=R m:=fun m hm=>by unfold mr;rw[if_neg (by omega)]
    have dj:=(ry (mr R s r) R).get k (fun m hm=>vz m (by rw[Nat.zero_add] at hm;omega));unfold dN;rw[dj];cases zn:dv kd k with
    | gO dI=>exact vz dI ((ae.stage k dP dI zn).1 aE)
    | _=>rfl
   have aF:dN kd V (mr R s r) G i=r:=by unfold dN;rw[bd];simp[BX,mr]
   rw[A_,hd,aF,hc] at this
   exact this
  generalize (axc (eO l (dN kd V R G) a0 S).eval o).run P w=r at h1 |-;cases r with
  | ok n w' =>
   cases n<;>simp only[A3,Oper.upon] at h1 |-
   ·exact k2 _ _ h1.1 h1.2
   ·obtain⟨rfl,h2⟩:=h1;refine h2.mono ?_;rintro e iD ⟨r,rfl,aw,bF⟩;exact k2 r iD aw bF
  | halt x w'=>simp only[A3] at h1
 | al =>
  rw[if_pos (by simp)];unfold Oper.wp;rw[bd] at iZ;rw[iZ];simp only[Oper.upon];have:=cQ s R _ _ (afi ad qC e6 ae gY hn bd gy);have hc:eO l (dN kd V R (fun k=>if k=i then w.heap.size else G k)) a0 S=eO l (dN kd V R G) a0 S:=by
   refine Kr _ _ S a0 (fun k aE=>?_);have e:k≠i:=(fun e=>hn (by rw[<-e];exact aE));unfold dN;simp only[if_neg e]
  have aF:dN kd V R (fun k=>if k=i then w.heap.size else G k) i=ptrTo w.heap.size:=by unfold dN;rw[bd];simp[BX]
  rw[A_,hd,aF,hc] at this
  exact this
 | st j =>
  rw[if_pos (by simp)];unfold Oper.wp;obtain⟨T',t,x,hop,L6,zd,Lt,nn,vA,sQ⟩:=hL j bd;simp only[bd,hop] at iZ;have pk:=lu j Lt;have hp:(eO l (dN kd V R G) a0 S).eval (.tmp t)=ptrTo (G j):=by
   have bk:=De (dN kd V R G) t j zd S a0 ae.nd pk (fun k _ aE=>Hq ec k j t aE zd);rw[if_pos (JW np zd)] at bk;simp only[Act.eval,Array.getD_eq_getD_getElem?];rw[bk];unfold dN;rw[nn];rfl
  have hz:=ae.zeros j pk nn (fun s' dj e=>hn (sQ s' (ae.lA s' dj) e ▸ dj));obtain⟨⟨aT,aD,hF⟩,Ll⟩:=iZ R s (eO l (dN kd V R G) a0 S).eval w (G j) ae.holds lx hp (DL x vA) (ae.made j pk nn).1 hz;rw[aD];simp only[Oper.upon];have:=cQ s R G aT (afo ad e6 ec ae aL hn bd pk gy hF (Ll aT hF));have aF:dN kd V R G i=rM:=by unfold dN;rw[bd];rfl
  rw[A_,hd,aF] at this
  exact this
 | so c =>
  rw[if_pos (by simp)];unfold Oper.wp;obtain⟨T',p,x,hop,L6,jP,vA,_⟩:=jv c bd;simp only[bd,hop] at iZ;obtain⟨⟨aT,aD,hF⟩,Ll⟩:=iZ R s (eO l (dN kd V R G) a0 S).eval w ae.holds lx (DL p jP) (DL x vA) (ae.pC i gY c bd hn);rw[aD];simp only[Oper.upon];have:=cQ s R G aT (afm e6 kA ec ae aL hn bd gy hF (Ll aT hF));have aF:dN kd V R G i=rM:=by unfold dN;rw[bd];rfl
  rw[A_,hd,aF] at this
  exact this
theorem afj(ae:lf T E l kd zero full tgt W S s R G w)(y':∀ m,m<l.length->m∈S):S.Perm (List.range l.length)/\lf T E l kd zero full tgt W (List.range l.length) s R G w:=by
 have ju:S.Perm (List.range l.length):=(List.perm_ext_iff_of_nodup ae.nd List.nodup_range).2 (fun k=>⟨fun h=>List.mem_range.2 (ae.lA k h),fun h=>y' k (List.mem_range.1 h)⟩);refine⟨ju,List.nodup_range,fun i hi=>List.mem_range.1 hi,ae.same,fun i hi=>ae.made i (ju.mem_iff.2 hi),fun i hi j aN=>ae.apart i (ju.mem_iff.2 hi) j (ju.mem_iff.2 aN),fun i hi bd hs=>ae.zeros i (ju.mem_iff.2 hi) bd (fun s dj=>hs s (ju.mem_iff.1 dj)),fun s hs i hi=>?_,fun s hs c hc hn=>ae.pC s hs c hc (fun h=>hn (ju.mem_iff.1 h)),fun s hs=>ae.ep s (ju.mem_iff.2 hs),fun s hs o aL k aE=>ju.mem_iff.1 (ae.dU s (ju.mem_iff.2 hs) o aL k aE),fun i hi m hm=>by rw[<-ae.stage i hi m hm];exact ju.mem_iff.symm,ae.holds⟩;obtain⟨a,b,c⟩:=ae.eV s (ju.mem_iff.2 hs) i hi;exact⟨ju.mem_iff.1 a,b,c⟩
theorem Yb(ec:qw l kd=true)(p5:t_ l kd nd=true)(np:sx l a0.tmps.size=true)(ad:∀ k,E k->k<W.heap.size)(pg:∀ c,ew.so c∈kd->¬ E (tgt c))(e6:∀ c,ew.so c∈kd->tgt c<W.heap.size)(kA:∀ c c',ew.so c∈kd->ew.so c'∈kd->tgt c=tgt c'->c=c')(ry:∀ R b1,uL nd R b1 0 (V R) (V b1))(tQ:∀ R b1 i,(∀ m,m<nd.getD i 0->R m=b1 m)->full R i=full b1 i)
 (qC:∀ s R w w',T s R w->Below w.heap.size w w'->T s R w')
 (mO:ql (pR P T E l kd nd V zero full tgt W (fun R=>eO l (dN kd V R (fun _=>0)) a0 (List.range l.length))) 0 l)
 (k2:∀ s R G w,lf T E l kd zero full tgt W (List.range l.length) s R G w->Q .normal (eO l (dN kd V R G) a0 (List.range l.length)) w) :
 ∀ (fuel:Nat) (S:List Nat) (s:Nat) (R:Nat->Ax) (G:Nat->Nat) (w:w1) (listed:Array Bool),listed.size=l.length->(∀ j,j<l.length->(listed.getD j true=decide (j∈S))/\listed.getD j false=decide (j∈S))->lf T E l kd zero full tgt W S s R G w->S.length+fuel=l.length->wpAny P .any l.toArray Q fuel listed (eO l (dN kd V R G) a0 S) w:=by
 have h1:=Hq ec;intro fuel;induction fuel with
 | zero =>
  intro S s R G w listed e5 br ae hlen;have y':∀ m,m<l.length->m∈S:=by
   intro m hm;refine Classical.byContradiction fun hn=>?_
   have h2:=EI (m :: S) (List.range l.length) (List.nodup_cons.2 ⟨hn,ae.nd⟩) (fun k aE=>by
    rcases List.mem_cons.1 aE with h|h
    ·subst h;exact List.mem_range.2 hm
    ·exact List.mem_range.2 (ae.lA k h))
   simp at h2;omega
  obtain⟨ju,xh⟩:=afj ae y';refine⟨?_,?_⟩
  ·cases aD:Region.ready .any l.toArray listed with
   | nil=>rfl
   | cons i r =>
    obtain⟨o,aL,rB,_⟩:=HJ (show i∈Region.ready .any l.toArray listed by rw[aD];simp);have hi:=(List.getElem?_eq_some_iff.1 aL).1;rw[(br i hi).1] at rB;simp[y' i hi] at rB
  ·rw[abQ _ a0 ju h1];exact k2 s R G w xh
 | succ fuel ih =>
  intro S s R G w listed e5 br ae hlen;refine⟨?_,?_⟩
  ·intro aD;have:∃ m,m<l.length/\m ∉ S:=by
    apply Classical.byContradiction
    intro iK;have:=EI (List.range l.length) S List.nodup_range (fun m hm=>Classical.byContradiction fun hn=>iK ⟨m,List.mem_range.1 hm,hn⟩);simp at this
    omega
   obtain⟨m,hm,zh⟩:=this
   exact absurd aD (aj_ ec br hm zh)
  ·intro i hi;obtain⟨o,aL,rB,lu⟩:=HJ hi;have gY:=(List.getElem?_eq_some_iff.1 aL).1;have hn:i ∉ S:=by
    intro h;rw[(br i gY).1] at rB;simp[h] at rB
   have Ls:∀ k,dep o k=true->k∈S:=by
    intro k aE;have h2:=lu k aE;by_cases dP:k<l.length
    ·rw[(br k dP).2] at h2;simpa using h2
    ·rw[Array.getD_eq_getD_getElem?,Array.getElem?_eq_none (by omega)] at h2;simp at h2
   have xw:=V4 (Q:=Q) ec p5 np ad pg e6 kA ry tQ qC mO ae aL hn Ls (K:=wpAny P .any l.toArray Q fuel (listed.setIfInBounds i true)) (by
    intro s' b1 iM w' xh;refine ih (S++[i]) s' b1 iM w' _ (by simpa using e5) ?_ xh (by simp;omega);intro j aN;have LG:j<listed.size:=by omega
    by_cases e:j=i
    ·subst e;simp[Array.getD_eq_getD_getElem?,LG]
    ·have e':i≠j:=fun h=>e h.symm
     have:=br j aN;simp only[Array.getD_eq_getD_getElem?] at this |-
     rw[Array.getElem?_setIfInBounds_ne e'];simpa [e] using this)
   show wpOp P l.toArray Q i _ _ _
   unfold wpOp;rw[List.getElem?_toArray,aL];simp only;by_cases hw:Region.wanted o (yielded l.toArray (eO l (dN kd V R G) a0 S).tmps)=true
   ·rw[if_pos hw] at xw;rw[if_pos hw];exact Or.inl xw
   ·rw[if_neg hw] at xw;rw[if_neg hw];exact xw
theorem T6(ec:qw l kd=true)(p5:t_ l kd nd=true)(np:sx l a0.tmps.size=true)(ad:∀ k,E k->k<W.heap.size)(pg:∀ c,ew.so c∈kd->¬ E (tgt c))(e6:∀ c,ew.so c∈kd->tgt c<W.heap.size)(kA:∀ c c',ew.so c∈kd->ew.so c'∈kd->tgt c=tgt c'->c=c')(ry:∀ R b1,uL nd R b1 0 (V R) (V b1))(tQ:∀ R b1 i,(∀ m,m<nd.getD i 0->R m=b1 m)->full R i=full b1 i)
 (qC:∀ s R w w',T s R w->Below w.heap.size w w'->T s R w')
 (mO:ql (pR P T E l kd nd V zero full tgt W (fun R=>eO l (dN kd V R (fun _=>0)) a0 (List.range l.length))) 0 l)
 (k2:∀ s R G w,lf T E l kd zero full tgt W (List.range l.length) s R G w->Q .normal (eO l (dN kd V R G) a0 (List.range l.length)) w) :
 ∀ (l':List aw4) (k:Nat) (s:Nat) (R:Nat->Ax) (G:Nat->Nat) (w:w1),k+l'.length=l.length->(∀ i,l'[i]?=l[k+i]?)->lf T E l kd zero full tgt W (List.range k) s R G w->wpList P l.toArray Q l' (eO l (dN kd V R G) a0 (List.range k)) w
 | [],k,s,R,G,w,aE,_,ae=>by
  simp at aE;subst aE;exact k2 s R G w ae
 | o :: l',k,s,R,G,w,aE,hl,ae=>by
  have aL:l[k]?=some o:=by have:=hl 0;simpa using this.symm
  have dP:=(List.getElem?_eq_some_iff.1 aL).1;refine wpList_step fun K cQ=>?_
  refine V4 (Q:=Q) ec p5 np ad pg e6 kA ry tQ qC mO ae aL (by simp) (fun m hm=>?_) (fun s' b1 iM w' xh=>?_)
  ·unfold dep at hm;rw[Array.any_eq_true'] at hm;obtain⟨e,he,hb⟩:=hm;simp only[Bool.and_eq_true,beq_iff_eq] at hb;have:=(E0 ec aL).2.2.2.1 e he hb.1;rw[hb.2] at this
   exact List.mem_range.2 this
  ·refine cQ _ _ ?_;rw[<-List.range_succ] at xh |-;exact T6 ec p5 np ad pg e6 kA ry tQ qC mO k2 l' (k+1) s' b1 iM w' (by simp at aE;omega) (fun i=>by have:=hl (i+1);simpa [Nat.add_assoc,Nat.add_comm 1 i] using this) xh
theorem TL{R:Nat->Ax}(aw:T 0 R w)(hw:w.os=W.os/\w.tape=W.tape/\w.output=W.output/\w.heap=W.heap):lf T E l kd zero full tgt W [] 0 R (fun _=>0) w:=by
 obtain⟨h1,h2,h3,h4⟩:=hw;exact⟨List.nodup_nil,by simp,⟨h1,h2,h3,by rw[h4];exact Nat.le_refl _,fun _ _ _ _=>by rw[h4]⟩,by simp,by simp,by simp,by simp,fun s hs c hc _=>by rw[h4],by simp,by simp,fun i _ m _=>by simp,aw⟩
def bB:List aw4->List ew->List Ax->(Nat->Ax)->(Nat->Nat)->Nat->Act->Act
 | o :: l,t :: kd,v :: V,R,G,i,a=>bB l kd V R G (i+1) (a.put o.dst (BX t v (G i) R))
 | _,_,_,_,_,_,a=>a
theorem U6(l:List aw4)(kd:List ew)(V:(Nat->Ax)->List Ax)(R:Nat->Ax)(G:Nat->Nat):∀ (l':List aw4) (sU:List ew) (sj:List Ax) (k:Nat) (a:Act),(∀ i,l'[i]?=l[k+i]?)->(∀ i,sU[i]?=kd[k+i]?)->(∀ i,sj[i]?=(V R)[k+i]?)->sU.length=l'.length->sj.length=l'.length->bB l' sU sj R G k a=(List.range' k l'.length).foldl (fun a i=>a.put (eH l i) (dN kd V R G i)) a
 | [],[],[],k,a,_,_,_,_,_=>rfl
 | o :: l',t :: sU,v :: sj,k,a,h1,h2,h3,h4,h5=>by
  have bk:l[k]?=some o:=by have:=h1 0;simpa using this.symm
  have e2:kd[k]?=some t:=by have:=h2 0;simpa using this.symm
  have fL:(V R)[k]?=some v:=by have:=h3 0;simpa using this.symm
  have ed:eH l k=o.dst:=by unfold eH;rw[bk];rfl
  have et:dv kd k=t:=by unfold dv;rw[List.getD_eq_getElem?_getD,e2];rfl
  have J0:(V R).getD k rM=v:=by rw[List.getD_eq_getElem?_getD,fL];rfl
  have gO:dN kd V R G k=BX t v (G k) R:=by
   unfold dN;rw[et,J0]
  rw[bB,List.length_cons,List.range'_succ,List.foldl_cons,ed,gO];exact U6 l kd V R G l' sU sj (k+1) _ (fun i=>by have:=h1 (i+1);simpa [Nat.add_assoc,Nat.add_comm 1 i] using this) (fun i=>by have:=h2 (i+1);simpa [Nat.add_assoc,Nat.add_comm 1 i] using this) (fun i=>by have:=h3 (i+1);simpa [Nat.add_assoc,Nat.add_comm 1 i] using this) (by simpa using h4) (by simpa using h5)
 | [],_ :: _,_,_,_,_,_,_,h,_=>by simp at h
 | [],[],_ :: _,_,_,_,_,_,_,h=>by simp at h
 | _ :: _,[],_,_,_,_,_,_,h,_=>by simp at h
 | _ :: _,_ :: _,[],_,_,_,_,_,_,h=>by simp at h
theorem Gw(a0:Act)(h4:kd.length=l.length)(R:Nat->Ax)(h5:(V R).length=l.length):eO l (dN kd V R G) a0 (List.range l.length)=bB l kd (V R) R G 0 a0:=by
 rw[U6 l kd V R G l kd (V R) 0 a0 (by simp) (by simp) (by simp) h4 h5];unfold eO;rw[List.range_eq_range']
theorem kl{id:Nat}(kd:List ew)(nd:List Nat)(V:(Nat->Ax)->List Ax)(zero:Nat->Obj)(full:(Nat->Ax)->Nat->Obj)(tgt:Nat->Nat)(T:Nat->(Nat->Ax)->w1->Prop)(E:Nat->Prop)(hm:P.follows .mixedOrders=true)(ec:qw l kd=true)(p5:t_ l kd nd=true)(np:sx l a0.tmps.size=true)(h4:kd.length=l.length)(h5:∀ R,(V R).length=l.length)
 (ad:∀ k,E k->k<W.heap.size) (pg:∀ c,ew.so c∈kd->¬ E (tgt c)) (e6:∀ c,ew.so c∈kd->tgt c<W.heap.size) (kA:∀ c c',ew.so c∈kd->ew.so c'∈kd->tgt c=tgt c'->c=c') (ry:∀ R b1,uL nd R b1 0 (V R) (V b1)) (tQ:∀ R b1 i,(∀ m,m<nd.getD i 0->R m=b1 m)->full R i=full b1 i)
 (qC:∀ s R w w',T s R w->Below w.heap.size w w'->T s R w') (Lk:T 0 (fun _=>rM) W.drew)
 (mO:ql (pR P T E l kd nd V zero full tgt W (fun R=>bB l kd (V R) R (fun _=>0) 0 a0)) 0 l)
 (k2:∀ s R G w,lf T E l kd zero full tgt W (List.range l.length) s R G w->Q .normal (bB l kd (V R) R G 0 a0) w) :
 (Code.region id l.toArray true).wp P Q a0 W:=by
 refine wp_region_any hm ?_;have e:(fun R=>eO l (dN kd V R (fun _=>0)) a0 (List.range l.length))=(fun R=>bB l kd (V R) R (fun _=>0) 0 a0):=funext fun R=>Gw a0 h4 R (h5 R)
 rw[<-e] at mO;have h:=Yb (Q:=Q) ec p5 np ad pg e6 kA ry tQ qC mO (fun s R G w ae=>by rw[Gw a0 h4 R (h5 R)];exact k2 s R G w ae) l.length [] 0 (fun _=>rM) (fun _=>0) { W with drawn:=W.drawn+1 } (Array.replicate l.length false) (by simp) (fun j aN=>by simp[Array.getD_eq_getD_getElem?,aN]) (TL Lk ⟨rfl,rfl,rfl,rfl⟩) (by simp);simpa [eO] using h
theorem eB{id:Nat}(kd:List ew)(nd:List Nat)(V:(Nat->Ax)->List Ax)(zero:Nat->Obj)(full:(Nat->Ax)->Nat->Obj)(tgt:Nat->Nat)(T:Nat->(Nat->Ax)->w1->Prop)(E:Nat->Prop)(ec:qw l kd=true)(p5:t_ l kd nd=true)(np:sx l a0.tmps.size=true)(h4:kd.length=l.length)(h5:∀ R,(V R).length=l.length)
 (ad:∀ k,E k->k<W.heap.size) (pg:∀ c,ew.so c∈kd->¬ E (tgt c)) (e6:∀ c,ew.so c∈kd->tgt c<W.heap.size) (kA:∀ c c',ew.so c∈kd->ew.so c'∈kd->tgt c=tgt c'->c=c') (ry:∀ R b1,uL nd R b1 0 (V R) (V b1)) (tQ:∀ R b1 i,(∀ m,m<nd.getD i 0->R m=b1 m)->full R i=full b1 i)
 (qC:∀ s R w w',T s R w->Below w.heap.size w w'->T s R w') (Lk:T 0 (fun _=>rM) W)
 (mO:ql (pR P T E l kd nd V zero full tgt W (fun R=>bB l kd (V R) R (fun _=>0) 0 a0)) 0 l)
 (k2:∀ s R G w,lf T E l kd zero full tgt W (List.range l.length) s R G w->Q .normal (bB l kd (V R) R G 0 a0) w) :
 (Code.region id l.toArray false).wp P Q a0 W:=by
 have e:(fun R=>eO l (dN kd V R (fun _=>0)) a0 (List.range l.length))=(fun R=>bB l kd (V R) R (fun _=>0) 0 a0):=funext fun R=>Gw a0 h4 R (h5 R)
 rw[<-e] at mO;refine wp_region_lit ?_;have h:=T6 (Q:=Q) ec p5 np ad pg e6 kA ry tQ qC mO (fun s R G w ae=>by rw[Gw a0 h4 R (h5 R)];exact k2 s R G w ae) l 0 0 (fun _=>rM) (fun _=>0) W (by simp) (by simp) (TL Lk ⟨rfl,rfl,rfl,rfl⟩);simpa [eO] using h
end
theorem F9(b off j:Nat):(⟨b,off,none⟩:aw6).add j=⟨b,off+j,none⟩:=by unfold Addr.add;split<;>simp_all
theorem jW.below{W w w':w1}{A:Option aw6}{l:List Nat}(h:jW W A l)(e:Below W.heap.size W w):jW w A l:=h.ext e
def Fit(l:List Nat)(w:Nat):Prop:=∀ x∈l,x<2 ^ w
theorem Fit.tail{x:Nat}{l:List Nat}{w:Nat}(h:Fit (x :: l) w):Fit l w:=fun y hy=>h y (List.mem_cons_of_mem _ hy)
def mE(l:List Nat):Prop:=∀ x∈l,x<18446744073709551616
end
end Go.Proofs.YtojbopibfflnoaaGreat
