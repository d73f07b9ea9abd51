/- Contracts and plain facts; each states its conditions. -/
import Derived.Test.YtojbopibfflnoaaGreatPrY7
import Derived.Test.YtojbopibfflnoaaGreatPrY19
import Derived.Test.YtojbopibfflnoaaGreatPrY20
import Derived.Lib.QuietBelow
import Derived.BigQuiet
namespace Go.Proofs.YtojbopibfflnoaaGreat
open Go renaming undef → rM, World → w1, Calls → AA, bodyPost_ret → B7, heap_alloc_new → axe, Ending → axa
open _root_.Go.Proofs.Tryz renaming prog → CW
set_option linter.unusedVariables false
set_option linter.unusedSimpArgs false
set_option maxHeartbeats 16000000
set_option maxRecDepth 100000
section
open Go Go.RowKit Go.Sort
theorem b4.mk{z:Int}(h:z.natAbs<170141183460469231731687303715884105728):b4 z:=by unfold b4;omega
theorem iW.fn{n d:Int}(h:iW n d):b4 n:=b4.mk h.2.1
theorem iW.fd{n d:Int}(h:iW n d):b4 d:=b4.mk h.2.2.1
theorem iW.ok{n d:Int}(h:iW n d):decide (o3 (ao n) n (ao d) d)=true:=decide_eq_true ⟨(e0 h.fn).2,(e0 h.fd).2,h⟩
theorem VG{o:Bool}{n d:Int}{w w':w1}{e:axa}(h:wJ o n d w e w'):aP (.tuple #[.agg #[ao n,ai n,ah n,aj n,ap n,ao d,ai d,ah d,aj d,ap d],.bool o]) w e w':=by
 obtain⟨s,a,b,c,d',t,e',f,g,h',rfl,bQ,bY,ad⟩:=h;obtain⟨rfl,rfl,rfl,rfl,rfl⟩:=sT bQ;obtain⟨rfl,rfl,rfl,rfl,rfl⟩:=sT bY;exact⟨rfl,ad⟩
theorem VH{n d:Int}{w w':w1}{e:axa}(h:uK n d w e w'):aP (.agg #[ao n,ai n,ah n,aj n,ap n,ao d,ai d,ah d,aj d,ap d]) w e w':=by
 obtain⟨s,a,b,c,d',t,e',f,g,h',rfl,bQ,bY,ad⟩:=h;obtain⟨rfl,rfl,rfl,rfl,rfl⟩:=sT bQ;obtain⟨rfl,rfl,rfl,rfl,rfl⟩:=sT bY;exact⟨rfl,ad⟩
def M6(x y:Int):Bool:=decide ((ig x y).natAbs<170141183460469231731687303715884105728/\(ik x y).natAbs<170141183460469231731687303715884105728)
theorem agM(z:Int)(w:w1):(binOp .neq 27 (z) (z)).run CW w=.ok (.bool false) w:=agP _ _ _ _ _ w
theorem GH{n d:Int}(h:iW n d)(w:w1):AA CW 90 #[.agg #[ao n,ai n,ah n,aj n,ap n,ao d,ai d,ah d,aj d,ap d]] w (aP (.bool true) w):=
 Vp _ _ _ _ _ _ _ _ _ _ n d w (e0 h.fn).1 (e0 h.fd).1 true h.ok
theorem Sh{aC d1 aW d2 r:Int}(h:iW aC d1)(k:iW aW d2)(e:f_ (aC*d2) (aW*d1)=r)(w:w1):AA CW 91 #[.agg #[ao aC,ai aC,ah aC,aj aC,ap aC,ao d1,ai d1,ah d1,aj d1,ap d1],.agg #[ao aW,ai aW,ah aW,aj aW,ap aW,ao d2,ai d2,ah d2,aj d2,ap d2]] w (aP (.int .i64 r) w):=
 (ajD _ _ _ _ _ _ _ _ _ _ _ _ _ _ _ _ _ _ _ _ aC d1 aW d2 w (e0 h.fn).1 (e0 h.fd).1 (e0 k.fn).1 (e0 k.fd).1 true true h.ok k.ok).mono fun _ _ q=>by subst e;exact q
theorem Si{x:Int}(h1:-9223372036854775808<=x)(h2:x<=9223372036854775807)(w:w1):AA CW 98 #[.int .i64 x] w (aP (.agg #[ao x,ai x,ah x,aj x,ap x,ao 1,ai 1,ah 1,aj 1,ap 1]) w):=
 (Vn x w h1 h2).mono fun _ _ k=>VH k
theorem abV{x y n d:Int}{o:Bool}(hx:b4 x)(hy:b4 y)(h0:y≠0)(aL:M6 x y=o)(hn:(if o then ig x y else 0)=n)(hd:(if o then ik x y else 0)=d)(w:w1):AA CW 105 #[x,y] w (aP (.tuple #[.agg #[ao n,ai n,ah n,aj n,ap n,ao d,ai d,ah d,aj d,ap d],.bool o]) w):=
 (Oa _ _ _ _ _ _ _ _ _ _ x y w (e0 hx) (e0 hy) h0 o aL).mono fun _ _ k=>VG (by subst hn hd;exact k)
theorem y_{n d:Int}(h:iW n d)(w:w1):AA CW 20 #[.agg #[ao n,ai n,ah n,aj n,ap n,ao d,ai d,ah d,aj d,ap d]] w (aP (.bool true) w):=
 HN _ _ _ _ _ _ _ _ _ _ n d w (e0 h.fn).1 (e0 h.fd).1 true h.ok
theorem SG{aC d1 aW d2 r:Int}(h:iW aC d1)(k:iW aW d2)(e:f_ (aC*d2) (aW*d1)=r)(w:w1):AA CW 70 #[.agg #[ao aC,ai aC,ah aC,aj aC,ap aC,ao d1,ai d1,ah d1,aj d1,ap d1],.agg #[ao aW,ai aW,ah aW,aj aW,ap aW,ao d2,ai d2,ah d2,aj d2,ap d2]] w (aP (.int .i64 r) w):=
 (aki _ _ _ _ _ _ _ _ _ _ _ _ _ _ _ _ _ _ _ _ aC d1 aW d2 w (e0 h.fn).1 (e0 h.fd).1 (e0 k.fn).1 (e0 k.fd).1 true true h.ok k.ok).mono fun _ _ q=>by subst e;exact q
theorem Lp{x:Int}(h1:-9223372036854775808<=x)(h2:x<=9223372036854775807)(w:w1):AA CW 37 #[.int .i64 x] w (aP (.agg #[ao x,ai x,ah x,aj x,ap x,ao 1,ai 1,ah 1,aj 1,ap 1]) w):=
 (akk x w h1 h2).mono fun _ _ k=>VH k
end
section
open Go Go.RowKit Go.Sort
attribute [local go_sem] mg nV qf
theorem VQ{z:Int}(hz:b4 z)(w:w1):AA CW 130 #[z] w (aP (.agg #[ao z,ai z,ah z,aj z,ap z,ao 1,ai 1,ah 1,aj 1,ap 1]) w):=by
 have qJ:Hid (∀ w,AA CW 95 #[.int .i64 1] w (aP (.agg #[ao 1,ai 1,ah 1,aj 1,ap 1]) w)):=fun w=>CM (by omega) (by omega) w
 obtain⟨bU,dE⟩:=eo (((w.alloc (z)).alloc (.cells #[false,(),(),(),(),false,(),(),(),()] 29)));have bz:=e1 w (z) (.cells #[false,(),(),(),(),false,(),(),(),()] 29);have fe:Ext w bU:=by rw[dE];exact((aA _ _).trans (aA _ _))
 rw[<-dE] at bz;have EE:=hide fe;have aB:=hide dE;obtain⟨aS,ak⟩:Box bU (w.heap.size) (ao z) (ai z) (ah z) (aj z) (ap z)/\cm bU ((w.heap.size+1)) false 0 0 0 0 false 0 0 0 0:=bz;clear dE fe;go_enter Tryz.func130,Tryz.ntmps130
 go_upto_region 1 with fail
 rw[<-aB.out];clear aB;have ga:w.heap.size<=w.heap.size:=Nat.le_refl _;obtain⟨g0,af⟩:∃ g,w.heap.size=g:=⟨_,rfl⟩;rw[af] at aS ak |-;replace ga:w.heap.size<=g0:=Nat.le_of_eq af;clear af;have afW:=aS.lt;have BD:=ak.lt;have nz:∀ c,Tag.so c∈[.q,.q,.q,.so 0]->(fun _=>g0+1) c<bU.heap.size:=by intro c hc;simp at hc;(try subst hc);(try simp only);omega
 refine rV [.q,.q,.q,.so 0] [z,.agg #[ao 1,ai 1,ah 1,aj 1,ap 1],.agg #[ao z,ai z,ah z,aj z,ap z,ao 1,ai 1,ah 1,aj 1,ap 1],rM] (fun _=>(.cells #[false,(),(),(),()] 27 (0,0))) (fun _=>(.cells #[ao z,ai z,ah z,aj z,ap z,ao 1,ai 1,ah 1,aj 1,ap 1] 29 (0,0))) (fun _=>g0+1) (by kernel_rfl) (by kernel_rfl) (by kernel_rfl) rfl rfl nz (by intro c c' h1 h2 _;simp at h1 h2;omega) ?_ ?_
 ·refine⟨?_,?_,?_,?_,trivial⟩
  ·refine eJ ?v8 ?vl ?vr ?GO;case vl=>exact rfl
   case v8=>exact(↑z)
   case vr=>exact rfl
   intro w' bj;have aS:=aS.same bj (by intro c hc;simp at hc;(try subst hc);(try simp only);omega);have Wv:=av aS;go_simp
  ·refine eJ ?wa ?vm ?vt ?GQ;case vm=>exact rfl
   case wa=>exact(.agg #[ao 1,ai 1,ah 1,aj 1,ap 1])
   case vt=>exact rfl
   intro w' bj;go_simp;exact qJ.out w'
  ·refine eJ ?Ab ?vn ?vu ?Dw;case vn=>exact rfl
   case Ab=>exact(.agg #[ao z,ai z,ah z,aj z,ap z,ao 1,ai 1,ah 1,aj 1,ap 1])
   case vu=>exact rfl
   intro w' bj;go_simp
  ·refine qc (c:=0) (T:=?alV) (p:=?amw) (x:=?amG) ?OX ?OU ?Ac ?vo ?vv ?Ba ?K9 ?La ?Le ?adC;case vo=>exact rfl
   case vv=>exact rfl
   case OU=>exact(.cells #[ao z,ai z,ah z,aj z,ap z,ao 1,ai 1,ah 1,aj 1,ap 1] 29 (0,0))
   case OX=>exact g0+1
   case Ac=>exact(.agg #[ao z,ai z,ah z,aj z,ap z,ao 1,ai 1,ah 1,aj 1,ap 1])
   case Ba=>exact rfl
   case K9=>exact rfl
   case La=>go_simp;rfl
   case Le=>go_simp
   intro ρ w' hp hx hz;exact BZ rfl hp hx (hz.trans ak)
 ·intro G bG ae;have hS:=ae.same;have aS:=aS.same hS (by intro c hc;simp at hc;(try subst hc);(try simp only);omega);have jv:∀ c,Tag.so c∈[.q,.q,.q,.so 0]->w.heap.size<=(fun _=>g0+1) c:=by intro c hc;simp at hc;(try subst hc);(try simp only);omega
  have EE:=hide (hS.ext' EE.out jv);have ak:cm bG (g0+1) (ao z) (ai z) (ah z) (aj z) (ap z) (ao 1) (ai 1) (ah 1) (aj 1) (ap 1):=ae.ep 3 (List.mem_range.2 (show 3<4 by decide)) 0 rfl;clear ae hS;simp only[nV,qf,ptrTo,Nat.zero_add,Nat.reduceAdd];go_wp2_with fail
  obtain⟨Pz,PA,Ie,PB,Ig,PD,PE,PF,PG,PH,anE,anF,anG,anH,anI,anJ,anK,anL,anM,anN⟩:=cv ak;exact B7 (v:=.agg #[ao z,ai z,ah z,aj z,ap z,ao 1,ai 1,ah 1,aj 1,ap 1]) (by simp[results,Tryz.results130,go_sem,Pz,PA,Ie,PB,Ig,PD,PE,PF,PG,PH]) rfl ⟨rfl,EE.out⟩
theorem Ov{n d m:Int}(hn:b4 n)(e:-n=m)(w:w1):AA CW 117 #[.agg #[ao n,ai n,ah n,aj n,ap n,ao d,ai d,ah d,aj d,ap d]] w (aP (.agg #[ao m,ai m,ah m,aj m,ap m,ao d,ai d,ah d,aj d,ap d]) w):=by
 have zr:Hid (∀ w,AA CW 121 #[n] w (aP (m) w)):=fun w=>Za hn e w
 clear e;obtain⟨bU,dE⟩:=eo (((w.alloc (.cells #[ao n,ai n,ah n,aj n,ap n,ao d,ai d,ah d,aj d,ap d] 29)).alloc (.cells #[false,(),(),(),(),false,(),(),(),()] 29)));have bz:=e1 w (.cells #[ao n,ai n,ah n,aj n,ap n,ao d,ai d,ah d,aj d,ap d] 29) (.cells #[false,(),(),(),(),false,(),(),(),()] 29);have fe:Ext w bU:=by rw[dE];exact((aA _ _).trans (aA _ _))
 rw[<-dE] at bz;have EE:=hide fe;have aB:=hide dE;obtain⟨aS,ak⟩:cm bU (w.heap.size) (ao n) (ai n) (ah n) (aj n) (ap n) (ao d) (ai d) (ah d) (aj d) (ap d)/\cm bU ((w.heap.size+1)) false 0 0 0 0 false 0 0 0 0:=bz;clear dE fe;go_enter Tryz.func117,Tryz.ntmps117
 go_upto_region 1 with fail
 rw[<-aB.out];clear aB;have ga:w.heap.size<=w.heap.size:=Nat.le_refl _;obtain⟨g0,af⟩:∃ g,w.heap.size=g:=⟨_,rfl⟩;rw[af] at aS ak |-;replace ga:w.heap.size<=g0:=Nat.le_of_eq af;clear af;have afW:=aS.lt;have BD:=ak.lt;have nz:∀ c,Tag.so c∈[.q,.q,.q,.q,.q,.q,.so 0]->(fun _=>g0+1) c<bU.heap.size:=by intro c hc;simp at hc;(try subst hc);(try simp only);omega
 refine rV [.q,.q,.q,.q,.q,.q,.so 0] [yj g0 0,n,m,yj g0 5,d,.agg #[ao m,ai m,ah m,aj m,ap m,ao d,ai d,ah d,aj d,ap d],rM] (fun _=>(.cells #[false,(),(),(),()] 27 (0,0))) (fun _=>(.cells #[ao m,ai m,ah m,aj m,ap m,ao d,ai d,ah d,aj d,ap d] 29 (0,0))) (fun _=>g0+1) (by kernel_rfl) (by kernel_rfl) (by kernel_rfl) rfl rfl nz (by intro c c' h1 h2 _;simp at h1 h2;omega) ?_ ?_
 ·refine⟨?_,?_,?_,?_,?_,?_,?_,trivial⟩
  ·refine eJ ?wb ?vp ?vw ?Dx;case vp=>exact rfl
   case wb=>exact(.pointer (some ⟨g0,0,none⟩))
   case vw=>exact rfl
   intro w' bj;go_simp
  ·refine eJ ?Fe ?y3 ?y5 ?GR;case y3=>exact rfl
   case Fe=>exact(↑n)
   case y5=>exact rfl
   intro w' bj;have aS:=aS.same bj (by intro c hc;simp at hc;(try subst hc);(try simp only);omega);have Wv:=cv aS;go_simp
  ·refine eJ ?wh ?vq ?vx ?Dy;case vq=>exact rfl
   case wh=>exact(↑m)
   case vx=>exact rfl
   intro w' bj;go_simp;exact zr.out w'
  ·refine eJ ?Aa ?y2 ?y4 ?K4;case y2=>exact rfl
   case Aa=>exact(.pointer (some ⟨g0,5,none⟩))
   case y4=>exact rfl
   intro w' bj;go_simp
  ·refine eJ ?E_ ?Dn ?Ds ?Ss;case Dn=>exact rfl
   case E_=>exact(↑d)
   case Ds=>exact rfl
   intro w' bj;have aS:=aS.same bj (by intro c hc;simp at hc;(try subst hc);(try simp only);omega);have Wv:=cv aS;go_simp
  ·refine eJ ?Fa ?Dp ?Dt ?St;case Dp=>exact rfl
   case Fa=>exact(.agg #[ao m,ai m,ah m,aj m,ap m,ao d,ai d,ah d,aj d,ap d])
   case Dt=>exact rfl
   intro w' bj;go_simp
  ·refine qc (c:=0) (T:=?alT) (p:=?amu) (x:=?amE) ?OV ?OS ?Fb ?Dq ?Du ?GN ?K7 ?K_ ?Lc ?adA;case Dq=>exact rfl
   case Du=>exact rfl
   case OS=>exact(.cells #[ao m,ai m,ah m,aj m,ap m,ao d,ai d,ah d,aj d,ap d] 29 (0,0))
   case OV=>exact g0+1
   case Fb=>exact(.agg #[ao m,ai m,ah m,aj m,ap m,ao d,ai d,ah d,aj d,ap d])
   case GN=>exact rfl
   case K7=>exact rfl
   case K_=>go_simp;rfl
   case Lc=>go_simp
   intro ρ w' hp hx hz;exact BZ rfl hp hx (hz.trans ak)
 ·intro G bG ae;have hS:=ae.same;have aS:=aS.same hS (by intro c hc;simp at hc;(try subst hc);(try simp only);omega);have jv:∀ c,Tag.so c∈[.q,.q,.q,.q,.q,.q,.so 0]->w.heap.size<=(fun _=>g0+1) c:=by intro c hc;simp at hc;(try subst hc);(try simp only);omega
  have EE:=hide (hS.ext' EE.out jv);have ak:cm bG (g0+1) (ao m) (ai m) (ah m) (aj m) (ap m) (ao d) (ai d) (ah d) (aj d) (ap d):=ae.ep 6 (List.mem_range.2 (show 6<7 by decide)) 0 rfl;clear ae hS;simp only[nV,qf,ptrTo,Nat.zero_add,Nat.reduceAdd];go_wp2_with fail
  obtain⟨Pz,PA,Ie,PB,Ig,PD,PE,PF,PG,PH,anE,anF,anG,anH,anI,anJ,anK,anL,anM,anN⟩:=cv ak;exact B7 (v:=.agg #[ao m,ai m,ah m,aj m,ap m,ao d,ai d,ah d,aj d,ap d]) (by simp[results,Tryz.results117,go_sem,Pz,PA,Ie,PB,Ig,PD,PE,PF,PG,PH]) rfl ⟨rfl,EE.out⟩
theorem akR{z:Int}(h:0<z):z.sign=1:=Int.sign_eq_one_of_pos h
theorem sign_neg{z:Int}(h:z<0):z.sign=-1:=Int.sign_eq_neg_one_of_neg h
theorem b4.abs{z:Int}(h:b4 z):b4 (z.natAbs:Int):=by unfold b4 at *;simpa using h
theorem b4.neg{z:Int}(h:b4 z):b4 (-z):=by unfold b4 at *;simpa using h
theorem HR(z:Int):∃ k:Int,z.sign=k/\(k<0↔z<0)/\(0<k↔0<z)/\(k=0↔z=0):=by
 refine⟨_,rfl,?_⟩;rcases Int.lt_trichotomy z 0 with h|h|h
 ·rw[sign_neg h];omega
 ·subst h;simp
 ·rw[akR h];omega
theorem agL{x y:Int}(hx:b4 x)(hy:b4 y)(w:w1):(binOp .neq 27 (x) (y)).run CW w=.ok (.bool (decide (x≠y))) w:=by
 rw[Um];have e:=HP (e0 hx) (e0 hy);unfold ii at e;rw[e];simp
theorem ku{z:Int}(h:z.natAbs<170141183460469231731687303715884105728):b4 z:=b4.mk h
theorem Ou:∀ (k:Nat) (a b c d n m:Int),(b+d).toNat<k->0<a->0<b->0<d->a*d<=c*b->a.natAbs<170141183460469231731687303715884105728->b.natAbs<170141183460469231731687303715884105728->c.natAbs<170141183460469231731687303715884105728->d.natAbs<170141183460469231731687303715884105728->gg a b c d n m->∀ w:w1,AA CW 116 #[.agg #[ao a,ai a,ah a,aj a,ap a,ao b,ai b,ah b,aj b,ap b],.agg #[ao c,ai c,ah c,aj c,ap c,ao d,ai d,ah d,aj d,ap d]] w (aP (.agg #[ao n,ai n,ah n,aj n,ap n,ao m,ai m,ah m,aj m,ap m]) w)
 | 0,_,_,_,_,_,_,aE,_,_,_,_,_,_,_,_,_,_=>by omega
 | k+1,a,b,c,d,n,m,aE,ha,hb,hd,hle,sa,sb,sc,tq,B,w=>by
  obtain⟨q,aO⟩:=aM (a / b);obtain⟨r,aD⟩:∃ q,a%b=q:=⟨_,rfl⟩;obtain⟨p,hp⟩:∃ q,c / d=q:=⟨_,rfl⟩;obtain⟨t,bd⟩:∃ q,c%d=q:=⟨_,rfl⟩;have k7:0<=q:=by rw[<-aO];exact Int.ediv_nonneg (by omega) (by omega)
  have zO:q<=a:=by rw[<-aO];exact Int.ediv_le_self _ (by omega)
  have iB:0<=r:=by rw[<-aD];exact Int.emod_nonneg _ (by omega)
  have rb:r<b:=by rw[<-aD];exact Int.emod_lt_of_pos _ hb
  have t0:0<=t:=by rw[<-bd];exact Int.emod_nonneg _ (by omega)
  have B0:t<d:=by rw[<-bd];exact Int.emod_lt_of_pos _ hd
  have pc:p.natAbs<=c.natAbs:=by rw[<-hp];exact Int.natAbs_ediv_le_natAbs _ _
  have p3:=ku sa;have mL:=ku sb;have sy:=ku sc;have fd:=ku tq;have kZ:b4 q:=ku (by omega);have fr:b4 r:=ku (by omega);have fp:b4 p:=ku (by omega);have ft:b4 t:=ku (by omega);have yf:=(B.small hb hd hle).1;have cT:=B.pos ha hb;have m0:=B.1;have tV:Hid (∀ w,AA CW 123 #[a,b] w (aP (.tuple #[q,r,.bool true]) w)):=fun w=>RA p3 mL (by omega) aO aD w
  by_cases h0:r=0
  ·obtain⟨jM,em⟩:=gg.unique hb hd B (JE ha hb hd hle (by rw[aD];exact h0));rw[aO] at jM;subst jM em;replace tV:=tV;have mR:Hid (∀ w,AA CW 115 #[r] w (aP (.int .i64 0) w)):=fun w=>AY fr (by rw[h0];simp) w
   have Mw:Hid (∀ w,AA CW 130 #[n] w (aP (.agg #[ao n,ai n,ah n,aj n,ap n,ao 1,ai 1,ah 1,aj 1,ap 1]) w)):=fun w=>VQ kZ w
   clear aO aD hp bd k7 zO iB rb t0 B0 pc p3 mL sy fd kZ fr fp ft yf cT m0 aE ha hb hd hle sa sb sc tq B h0;obtain⟨bU,dE⟩:=eo ((((w.alloc (.cells #[ao a,ai a,ah a,aj a,ap a,ao b,ai b,ah b,aj b,ap b] 29)).alloc (.cells #[ao c,ai c,ah c,aj c,ap c,ao d,ai d,ah d,aj d,ap d] 29)).alloc (.cells #[false,(),(),(),(),false,(),(),(),()] 29)));have bz:=kF w (.cells #[ao a,ai a,ah a,aj a,ap a,ao b,ai b,ah b,aj b,ap b] 29) (.cells #[ao c,ai c,ah c,aj c,ap c,ao d,ai d,ah d,aj d,ap d] 29) (.cells #[false,(),(),(),(),false,(),(),(),()] 29);have fe:Ext w bU:=by rw[dE];exact(((aA _ _).trans (aA _ _)).trans (aA _ _))
   rw[<-dE] at bz;have EE:=hide fe;have aB:=hide dE;obtain⟨ak,aq,ag⟩:cm bU (w.heap.size) (ao a) (ai a) (ah a) (aj a) (ap a) (ao b) (ai b) (ah b) (aj b) (ap b)/\cm bU ((w.heap.size+1)) (ao c) (ai c) (ah c) (aj c) (ap c) (ao d) (ai d) (ah d) (aj d) (ap d)/\cm bU ((w.heap.size+1+1)) false 0 0 0 0 false 0 0 0 0:=bz;clear dE fe;go_enter Tryz.func116,Tryz.ntmps116
   go_upto_region 1 with fail
   rw[<-aB.out];clear aB;have ga:w.heap.size<=w.heap.size:=Nat.le_refl _;obtain⟨g0,af⟩:∃ g,w.heap.size=g:=⟨_,rfl⟩;rw[af] at ak aq ag |-;replace ga:w.heap.size<=g0:=Nat.le_of_eq af;clear af;have cA:=ct ak;go_upto_region 2 with (go_at_call 123;(with_reducible refine(tV.out _).mono ?_);rintro e aT ⟨rfl,ad⟩;clear cA;have ak:=ak.ext ad;have aq:=aq.ext ad;have ag:=ag.ext ad;have EE:=hide (EE.out.trans ad);clear ad;have cA:=ct ak)
   clear cA;have bz:=e1 aT (n) (r);have nx:=ak.lt;have ny:=aq.lt;have gb:=ag.lt;have ad:=((aA aT (n)).trans (aA _ (r)));have ak:=ak.ext ad;have aq:=aq.ext ad;have ag:=ag.ext ad;have EE:=hide (EE.out.trans ad);clear ad;obtain⟨mG,aK⟩:∃ W,W=((aT.alloc (n)).alloc (r)):=⟨_,rfl⟩;rw[<-aK] at bz EE ak aq ag |-;obtain⟨g3,af⟩:∃ g,aT.heap.size=g:=⟨_,rfl⟩;rw[af] at bz nx ny gb |-;obtain⟨bn,bh⟩:Box mG g3 (ao n) (ai n) (ah n) (aj n) (ap n)/\Box mG (g3+1) (ao r) (ai r) (ah r) (aj r) (ap r):=bz;clear aK af;have Up:g0≠g3:=by omega
   have M_:g0≠g3+1:=by omega
   have Us:g0+1≠g3:=by omega
   have M':g0+1≠g3+1:=by omega
   have Uv:g0+1+1≠g3:=by omega
   have Nd:g0+1+1≠g3+1:=by omega
   have hV:=cx bh;go_upto_region 3 with (go_at_call 115;(with_reducible refine(mR.out _).mono ?_);rintro e bZ ⟨rfl,ad⟩;clear hV;have ak:=ak.ext ad;have aq:=aq.ext ad;have ag:=ag.ext ad;have bn:=bn.ext ad;have bh:=bh.ext ad;have EE:=hide (EE.out.trans ad);clear ad;have hV:=cx bh)
   clear hV;have iU:=cx bn;obtain⟨fz,fA,fB,fC,fD,fE,fF,fG,fH,fI,hg,hj,hk,ho,hq,hr,ht,hv,hB,hD⟩:=cv ag;go_wp2_with (first
    | (go_at_call 130;(with_reducible refine(Mw.out _).mono ?_);rintro e bm ⟨rfl,ad⟩;clear iU;clear fz fA fB fC fD fE fF fG fH fI hg hj hk ho hq hr ht hv hB hD;have ak:=ak.ext ad;have aq:=aq.ext ad;have ag:=ag.ext ad;have bn:=bn.ext ad;have bh:=bh.ext ad;have EE:=hide (EE.out.trans ad);clear ad;have iU:=cx bn;obtain⟨fz,fA,fB,fC,fD,fE,fF,fG,fH,fI,hg,hj,hk,ho,hq,hr,ht,hv,hB,hD⟩:=cv ag))
   exact B7 (v:=.agg #[ao n,ai n,ah n,aj n,ap n,ao 1,ai 1,ah 1,aj 1,ap 1]) (by simp[results,Tryz.results116,go_sem,fz,fA,fB,fC,fD,fE,fF,fG,fH,fI]) rfl ⟨rfl,kY EE.out (by omega) _ _ _ _ _ _ _ _ _ _⟩
  ·have iz:a%b≠0:=by rw[aD];exact h0
   have mR:Hid (∀ w,AA CW 115 #[r] w (aP (.int .i64 1) w)):=fun w=>AY fr (Int.sign_eq_one_of_pos (by omega)) w
   have TN:Hid (∀ w,AA CW 123 #[c,d] w (aP (.tuple #[p,t,.bool true]) w)):=fun w=>RA sy fd (by omega) hp bd w
   by_cases h1:q=p
   ·have pw:a / b=c / d:=by rw[aO,hp];exact h1
    obtain⟨fb,z2,t1,z3,hl⟩:=Oj ha hb hd hle iz pw;rw[aD,bd] at hl;rw[bd] at t1;obtain⟨n',dI,fc⟩:=CH (a:=d) (b:=t) (c:=b) (d:=r) t1 (by omega) hl;have Iq:=(fc.small t1 (by omega) hl).1;have M7:=fc.pos hd t1;have M3:=fc.1;obtain⟨jM,em⟩:=gg.unique hb hd B (JC ha hb hd iz (by rw[bd];exact t1) pw (by rw[aD,bd];exact fc));rw[aO] at jM;subst em h1;obtain⟨v,aF⟩:=aM (q*m);rw[aF] at jM;have v0:0<=v:=by rw[<-aF];exact Int.mul_nonneg k7 (by omega)
    have fv:b4 v:=ku (by omega);have fm:b4 m:=ku (by omega);have Db:b4 dI:=ku (by omega);have fn:b4 n:=ku (by omega);have Mz:Hid (∀ w,AA CW 116 #[.agg #[ao d,ai d,ah d,aj d,ap d,ao t,ai t,ah t,aj t,ap t],.agg #[ao b,ai b,ah b,aj b,ap b,ao r,ai r,ah r,aj r,ap r]] w (aP (.agg #[ao m,ai m,ah m,aj m,ap m,ao dI,ai dI,ah dI,aj dI,ap dI]) w)):=fun w=>Ou k d t b r m dI (by omega) hd t1 (by omega) hl tq (by omega) sb (by omega) fc w
    have BA:Hid (∀ w,AA CW 107 #[q,m] w (aP (.tuple #[v,.bool true]) w)):=fun w=>Y' kZ fm aF fv w
    have xD:Hid (∀ w,AA CW 111 #[v,dI] w (aP (.tuple #[n,.bool true]) w)):=fun w=>JG fv Db jM.symm fn w
    have Vd:=agM q;clear aO aD hp bd k7 zO iB rb t0 B0 pc p3 mL sy fd kZ fr fp ft yf cT m0 aE ha hb hd hle sa sb sc tq B fb z2 z3 iz h0 pw t1 hl fc Iq M7 M3 jM aF v0 fv fm Db fn;obtain⟨bU,dE⟩:=eo ((((w.alloc (.cells #[ao a,ai a,ah a,aj a,ap a,ao b,ai b,ah b,aj b,ap b] 29)).alloc (.cells #[ao c,ai c,ah c,aj c,ap c,ao d,ai d,ah d,aj d,ap d] 29)).alloc (.cells #[false,(),(),(),(),false,(),(),(),()] 29)));have bz:=kF w (.cells #[ao a,ai a,ah a,aj a,ap a,ao b,ai b,ah b,aj b,ap b] 29) (.cells #[ao c,ai c,ah c,aj c,ap c,ao d,ai d,ah d,aj d,ap d] 29) (.cells #[false,(),(),(),(),false,(),(),(),()] 29);have fe:Ext w bU:=by rw[dE];exact(((aA _ _).trans (aA _ _)).trans (aA _ _))
    rw[<-dE] at bz;have EE:=hide fe;have aB:=hide dE;obtain⟨ak,aq,ag⟩:cm bU (w.heap.size) (ao a) (ai a) (ah a) (aj a) (ap a) (ao b) (ai b) (ah b) (aj b) (ap b)/\cm bU ((w.heap.size+1)) (ao c) (ai c) (ah c) (aj c) (ap c) (ao d) (ai d) (ah d) (aj d) (ap d)/\cm bU ((w.heap.size+1+1)) false 0 0 0 0 false 0 0 0 0:=bz;clear dE fe;go_enter Tryz.func116,Tryz.ntmps116
    go_upto_region 1 with fail
    rw[<-aB.out];clear aB;have ga:w.heap.size<=w.heap.size:=Nat.le_refl _;obtain⟨g0,af⟩:∃ g,w.heap.size=g:=⟨_,rfl⟩;rw[af] at ak aq ag |-;replace ga:w.heap.size<=g0:=Nat.le_of_eq af;clear af;have cA:=ct ak;go_upto_region 2 with (go_at_call 123;(with_reducible refine(tV.out _).mono ?_);rintro e aT ⟨rfl,ad⟩;clear cA;have ak:=ak.ext ad;have aq:=aq.ext ad;have ag:=ag.ext ad;have EE:=hide (EE.out.trans ad);clear ad;have cA:=ct ak)
    clear cA;have bz:=e1 aT (q) (r);have nx:=ak.lt;have ny:=aq.lt;have gb:=ag.lt;have ad:=((aA aT (q)).trans (aA _ (r)));have ak:=ak.ext ad;have aq:=aq.ext ad;have ag:=ag.ext ad;have EE:=hide (EE.out.trans ad);clear ad;obtain⟨mG,aK⟩:∃ W,W=((aT.alloc (q)).alloc (r)):=⟨_,rfl⟩;rw[<-aK] at bz EE ak aq ag |-;obtain⟨g3,af⟩:∃ g,aT.heap.size=g:=⟨_,rfl⟩;rw[af] at bz nx ny gb |-;obtain⟨bn,bh⟩:Box mG g3 (ao q) (ai q) (ah q) (aj q) (ap q)/\Box mG (g3+1) (ao r) (ai r) (ah r) (aj r) (ap r):=bz;clear aK af;have Up:g0≠g3:=by omega
    have M_:g0≠g3+1:=by omega
    have Us:g0+1≠g3:=by omega
    have M':g0+1≠g3+1:=by omega
    have Uv:g0+1+1≠g3:=by omega
    have Nd:g0+1+1≠g3+1:=by omega
    have hV:=cx bh;go_upto_region 4 with (go_at_call 115;(with_reducible refine(mR.out _).mono ?_);rintro e bZ ⟨rfl,ad⟩;clear hV;have ak:=ak.ext ad;have aq:=aq.ext ad;have ag:=ag.ext ad;have bn:=bn.ext ad;have bh:=bh.ext ad;have EE:=hide (EE.out.trans ad);clear ad;have hV:=cx bh)
    clear hV;have cB:=ct aq;go_upto_region 5 with (go_at_call 123;(with_reducible refine(TN.out _).mono ?_);rintro e bm ⟨rfl,ad⟩;clear cB;have ak:=ak.ext ad;have aq:=aq.ext ad;have ag:=ag.ext ad;have bn:=bn.ext ad;have bh:=bh.ext ad;have EE:=hide (EE.out.trans ad);clear ad;have cB:=ct aq)
    clear cB;have bz:=e1 bm (q) (t);have nx:=ak.lt;have ny:=aq.lt;have gb:=ag.lt;have iL:=bn.lt;have iq:=bh.lt;have ad:=((aA bm (q)).trans (aA _ (t)));have ak:=ak.ext ad;have aq:=aq.ext ad;have ag:=ag.ext ad;have bn:=bn.ext ad;have bh:=bh.ext ad;have EE:=hide (EE.out.trans ad);clear ad;obtain⟨tL,aK⟩:∃ W,W=((bm.alloc (q)).alloc (t)):=⟨_,rfl⟩;rw[<-aK] at bz EE ak aq ag bn bh |-;obtain⟨g7,af⟩:∃ g,bm.heap.size=g:=⟨_,rfl⟩;rw[af] at bz nx ny gb iL iq |-;obtain⟨aJ,bx⟩:Box tL g7 (ao q) (ai q) (ah q) (aj q) (ap q)/\Box tL (g7+1) (ao t) (ai t) (ah t) (aj t) (ap t):=bz;clear aK af;have Uq:g0≠g7:=by omega
    have Ur:g0≠g7+1:=by omega
    have Ut:g0+1≠g7:=by omega
    have Uu:g0+1≠g7+1:=by omega
    have Uw:g0+1+1≠g7:=by omega
    have Ux:g0+1+1≠g7+1:=by omega
    have ahd:g3≠g7:=by omega
    have ahe:g3≠g7+1:=by omega
    have UA:g3+1≠g7:=by omega
    have UB:g3+1≠g7+1:=by omega
    have iU:=cx bn;have PR:=cx aJ;go_upto_region 8 with fail
    clear iU PR;have cA:=ct ak;have cB:=ct aq;have hV:=cx bh;have PS:=cx bx;go_upto_region 9 with (go_at_call 116;(with_reducible refine(Mz.out _).mono ?_);rintro e c8 ⟨rfl,ad⟩;clear cA cB hV PS;have ak:=ak.ext ad;have aq:=aq.ext ad;have ag:=ag.ext ad;have bn:=bn.ext ad;have bh:=bh.ext ad;have aJ:=aJ.ext ad;have bx:=bx.ext ad;have EE:=hide (EE.out.trans ad);clear ad;have cA:=ct ak;have cB:=ct aq;have hV:=cx bh;have PS:=cx bx)
    clear cA cB hV PS;have bz:=axe c8 (.cells #[ao m,ai m,ah m,aj m,ap m,ao dI,ai dI,ah dI,aj dI,ap dI] 29);have nx:=ak.lt;have ny:=aq.lt;have gb:=ag.lt;have iL:=bn.lt;have iq:=bh.lt;have jy:=aJ.lt;have jz:=bx.lt;have ad:=(aA c8 (.cells #[ao m,ai m,ah m,aj m,ap m,ao dI,ai dI,ah dI,aj dI,ap dI] 29));have ak:=ak.ext ad;have aq:=aq.ext ad;have ag:=ag.ext ad;have bn:=bn.ext ad;have bh:=bh.ext ad;have aJ:=aJ.ext ad;have bx:=bx.ext ad;have EE:=hide (EE.out.trans ad);clear ad;obtain⟨F7,aK⟩:∃ W,W=(c8.alloc (.cells #[ao m,ai m,ah m,aj m,ap m,ao dI,ai dI,ah dI,aj dI,ap dI] 29)):=⟨_,rfl⟩;rw[<-aK] at bz EE ak aq ag bn bh aJ bx |-;obtain⟨g10,af⟩:∃ g,c8.heap.size=g:=⟨_,rfl⟩;rw[af] at bz nx ny gb iL iq jy jz |-;have df:cm F7 g10 (ao m) (ai m) (ah m) (aj m) (ap m) (ao dI) (ai dI) (ah dI) (aj dI) (ap dI):=bz;clear aK af;have aq1:g0≠g10:=by omega
    have aq6:g0+1≠g10:=by omega
    have Nc:g0+1+1≠g10:=by omega
    have Nh:g3≠g10:=by omega
    have Nj:g3+1≠g10:=by omega
    have Nl:g7≠g10:=by omega
    have Nq:g7+1≠g10:=by omega
    have iU:=cx bn;have mY:=ct df;go_upto_region 10 with (go_at_call 107;(with_reducible refine(BA.out _).mono ?_);rintro e xT ⟨rfl,ad⟩;clear iU mY;have ak:=ak.ext ad;have aq:=aq.ext ad;have ag:=ag.ext ad;have bn:=bn.ext ad;have bh:=bh.ext ad;have aJ:=aJ.ext ad;have bx:=bx.ext ad;have df:=df.ext ad;have EE:=hide (EE.out.trans ad);clear ad;have iU:=cx bn;have mY:=ct df)
    clear iU mY;have bz:=axe xT (v);have nx:=ak.lt;have ny:=aq.lt;have gb:=ag.lt;have iL:=bn.lt;have iq:=bh.lt;have jy:=aJ.lt;have jz:=bx.lt;have qL:=df.lt;have ad:=(aA xT (v));have ak:=ak.ext ad;have aq:=aq.ext ad;have ag:=ag.ext ad;have bn:=bn.ext ad;have bh:=bh.ext ad;have aJ:=aJ.ext ad;have bx:=bx.ext ad;have df:=df.ext ad;have EE:=hide (EE.out.trans ad);clear ad;obtain⟨Jj,aK⟩:∃ W,W=(xT.alloc (v)):=⟨_,rfl⟩;rw[<-aK] at bz EE ak aq ag bn bh aJ bx df |-;obtain⟨g13,af⟩:∃ g,xT.heap.size=g:=⟨_,rfl⟩;rw[af] at bz nx ny gb iL iq jy jz qL |-;have gV:Box Jj g13 (ao v) (ai v) (ah v) (aj v) (ap v):=bz;clear aK af;have aq2:g0≠g13:=by omega
    have aq7:g0+1≠g13:=by omega
    have aq_:g0+1+1≠g13:=by omega
    have ari:g3≠g13:=by omega
    have arq:g3+1≠g13:=by omega
    have arK:g7≠g13:=by omega
    have arR:g7+1≠g13:=by omega
    have aqz:g10≠g13:=by omega
    have mY:=ct df;have PI:=cx gV;go_upto_region 11 with (go_at_call 111;(with_reducible refine(xD.out _).mono ?_);rintro e qT ⟨rfl,ad⟩;clear mY PI;have ak:=ak.ext ad;have aq:=aq.ext ad;have ag:=ag.ext ad;have bn:=bn.ext ad;have bh:=bh.ext ad;have aJ:=aJ.ext ad;have bx:=bx.ext ad;have df:=df.ext ad;have gV:=gV.ext ad;have EE:=hide (EE.out.trans ad);clear ad;have mY:=ct df;have PI:=cx gV)
    clear mY PI;have bz:=axe qT (n);have nx:=ak.lt;have ny:=aq.lt;have gb:=ag.lt;have iL:=bn.lt;have iq:=bh.lt;have jy:=aJ.lt;have jz:=bx.lt;have qL:=df.lt;have afR:=gV.lt;have ad:=(aA qT (n));have ak:=ak.ext ad;have aq:=aq.ext ad;have ag:=ag.ext ad;have bn:=bn.ext ad;have bh:=bh.ext ad;have aJ:=aJ.ext ad;have bx:=bx.ext ad;have df:=df.ext ad;have gV:=gV.ext ad;have EE:=hide (EE.out.trans ad);clear ad;obtain⟨XZ,aK⟩:∃ W,W=(qT.alloc (n)):=⟨_,rfl⟩;rw[<-aK] at bz EE ak aq ag bn bh aJ bx df gV |-;obtain⟨g16,af⟩:∃ g,qT.heap.size=g:=⟨_,rfl⟩;rw[af] at bz nx ny gb iL iq jy jz qL afR |-;have ek:Box XZ g16 (ao n) (ai n) (ah n) (aj n) (ap n):=bz;clear aK af;have aq3:g0≠g16:=by omega
    have aq8:g0+1≠g16:=by omega
    have ag7:g0+1+1≠g16:=by omega
    have ahc:g3≠g16:=by omega
    have ahg:g3+1≠g16:=by omega
    have ahi:g7≠g16:=by omega
    have ahn:g7+1≠g16:=by omega
    have agX:g10≠g16:=by omega
    have aqG:g13≠g16:=by omega
    have mY:=ct df;have Ih:=cx ek;obtain⟨fz,fA,fB,fC,fD,fE,fF,fG,fH,fI,hg,hj,hk,ho,hq,hr,ht,hv,hB,hD⟩:=cv ag;go_wp2_with fail
    exact B7 (v:=.agg #[ao n,ai n,ah n,aj n,ap n,ao m,ai m,ah m,aj m,ap m]) (by simp[results,Tryz.results116,go_sem,fz,fA,fB,fC,fD,fE,fF,fG,fH,fI]) rfl ⟨rfl,kY EE.out (by omega) _ _ _ _ _ _ _ _ _ _⟩
   ·have pw:a / b≠c / d:=by rw[aO,hp];exact h1
    obtain⟨jM,em⟩:=gg.unique hb hd B (Gb ha hb hd hle iz pw);rw[aO] at jM;subst em;have fn:b4 n:=ku (by omega);have f1:b4 1:=by unfold b4;decide
    have qJ:Hid (∀ w,AA CW 95 #[.int .i64 1] w (aP (.agg #[ao 1,ai 1,ah 1,aj 1,ap 1]) w)):=fun w=>CM (by omega) (by omega) w
    have xD:Hid (∀ w,AA CW 111 #[q,.agg #[ao 1,ai 1,ah 1,aj 1,ap 1]] w (aP (.tuple #[n,.bool true]) w)):=fun w=>JG kZ f1 jM.symm fn w
    have Mw:Hid (∀ w,AA CW 130 #[n] w (aP (.agg #[ao n,ai n,ah n,aj n,ap n,ao 1,ai 1,ah 1,aj 1,ap 1]) w)):=fun w=>VQ fn w
    have Vd:=agL kZ fp;rw[decide_eq_true h1] at Vd;clear aO aD hp bd k7 zO iB rb t0 B0 pc p3 mL sy fd kZ fr fp ft yf cT m0 aE ha hb hd hle sa sb sc tq B iz h0 pw jM fn f1 h1;obtain⟨bU,dE⟩:=eo ((((w.alloc (.cells #[ao a,ai a,ah a,aj a,ap a,ao b,ai b,ah b,aj b,ap b] 29)).alloc (.cells #[ao c,ai c,ah c,aj c,ap c,ao d,ai d,ah d,aj d,ap d] 29)).alloc (.cells #[false,(),(),(),(),false,(),(),(),()] 29)));have bz:=kF w (.cells #[ao a,ai a,ah a,aj a,ap a,ao b,ai b,ah b,aj b,ap b] 29) (.cells #[ao c,ai c,ah c,aj c,ap c,ao d,ai d,ah d,aj d,ap d] 29) (.cells #[false,(),(),(),(),false,(),(),(),()] 29);have fe:Ext w bU:=by rw[dE];exact(((aA _ _).trans (aA _ _)).trans (aA _ _))
    rw[<-dE] at bz;have EE:=hide fe;have aB:=hide dE;obtain⟨ak,aq,ag⟩:cm bU (w.heap.size) (ao a) (ai a) (ah a) (aj a) (ap a) (ao b) (ai b) (ah b) (aj b) (ap b)/\cm bU ((w.heap.size+1)) (ao c) (ai c) (ah c) (aj c) (ap c) (ao d) (ai d) (ah d) (aj d) (ap d)/\cm bU ((w.heap.size+1+1)) false 0 0 0 0 false 0 0 0 0:=bz;clear dE fe;go_enter Tryz.func116,Tryz.ntmps116
    go_upto_region 1 with fail
    rw[<-aB.out];clear aB;have ga:w.heap.size<=w.heap.size:=Nat.le_refl _;obtain⟨g0,af⟩:∃ g,w.heap.size=g:=⟨_,rfl⟩;rw[af] at ak aq ag |-;replace ga:w.heap.size<=g0:=Nat.le_of_eq af;clear af;have cA:=ct ak;go_upto_region 2 with (go_at_call 123;(with_reducible refine(tV.out _).mono ?_);rintro e aT ⟨rfl,ad⟩;clear cA;have ak:=ak.ext ad;have aq:=aq.ext ad;have ag:=ag.ext ad;have EE:=hide (EE.out.trans ad);clear ad;have cA:=ct ak)
    clear cA;have bz:=e1 aT (q) (r);have nx:=ak.lt;have ny:=aq.lt;have gb:=ag.lt;have ad:=((aA aT (q)).trans (aA _ (r)));have ak:=ak.ext ad;have aq:=aq.ext ad;have ag:=ag.ext ad;have EE:=hide (EE.out.trans ad);clear ad;obtain⟨mG,aK⟩:∃ W,W=((aT.alloc (q)).alloc (r)):=⟨_,rfl⟩;rw[<-aK] at bz EE ak aq ag |-;obtain⟨g3,af⟩:∃ g,aT.heap.size=g:=⟨_,rfl⟩;rw[af] at bz nx ny gb |-;obtain⟨bn,bh⟩:Box mG g3 (ao q) (ai q) (ah q) (aj q) (ap q)/\Box mG (g3+1) (ao r) (ai r) (ah r) (aj r) (ap r):=bz;clear aK af;have Up:g0≠g3:=by omega
    have M_:g0≠g3+1:=by omega
    have Us:g0+1≠g3:=by omega
    have M':g0+1≠g3+1:=by omega
    have Uv:g0+1+1≠g3:=by omega
    have Nd:g0+1+1≠g3+1:=by omega
    have hV:=cx bh;go_upto_region 4 with (go_at_call 115;(with_reducible refine(mR.out _).mono ?_);rintro e bZ ⟨rfl,ad⟩;clear hV;have ak:=ak.ext ad;have aq:=aq.ext ad;have ag:=ag.ext ad;have bn:=bn.ext ad;have bh:=bh.ext ad;have EE:=hide (EE.out.trans ad);clear ad;have hV:=cx bh)
    clear hV;have cB:=ct aq;go_upto_region 5 with (go_at_call 123;(with_reducible refine(TN.out _).mono ?_);rintro e bm ⟨rfl,ad⟩;clear cB;have ak:=ak.ext ad;have aq:=aq.ext ad;have ag:=ag.ext ad;have bn:=bn.ext ad;have bh:=bh.ext ad;have EE:=hide (EE.out.trans ad);clear ad;have cB:=ct aq)
    clear cB;have bz:=e1 bm (p) (t);have nx:=ak.lt;have ny:=aq.lt;have gb:=ag.lt;have iL:=bn.lt;have iq:=bh.lt;have ad:=((aA bm (p)).trans (aA _ (t)));have ak:=ak.ext ad;have aq:=aq.ext ad;have ag:=ag.ext ad;have bn:=bn.ext ad;have bh:=bh.ext ad;have EE:=hide (EE.out.trans ad);clear ad;obtain⟨tL,aK⟩:∃ W,W=((bm.alloc (p)).alloc (t)):=⟨_,rfl⟩;rw[<-aK] at bz EE ak aq ag bn bh |-;obtain⟨g7,af⟩:∃ g,bm.heap.size=g:=⟨_,rfl⟩;rw[af] at bz nx ny gb iL iq |-;obtain⟨aJ,bx⟩:Box tL g7 (ao p) (ai p) (ah p) (aj p) (ap p)/\Box tL (g7+1) (ao t) (ai t) (ah t) (aj t) (ap t):=bz;clear aK af;have Uq:g0≠g7:=by omega
    have Ur:g0≠g7+1:=by omega
    have Ut:g0+1≠g7:=by omega
    have Uu:g0+1≠g7+1:=by omega
    have Uw:g0+1+1≠g7:=by omega
    have Ux:g0+1+1≠g7+1:=by omega
    have ahd:g3≠g7:=by omega
    have ahe:g3≠g7+1:=by omega
    have UA:g3+1≠g7:=by omega
    have UB:g3+1≠g7+1:=by omega
    have iU:=cx bn;have PR:=cx aJ;go_upto_region 6 with fail
    clear iU PR;have BD:=ak.lt;have Ha:=aq.lt;have vO:=ag.lt;have EC:=bn.lt;have zC:=bh.lt;have BG:=aJ.lt;have BH:=bx.lt;refine rV [.q,.q,.q,.q,.q,.q,.al,.st 6,.q] [q,.agg #[ao 1,ai 1,ah 1,aj 1,ap 1],.tuple #[n,.bool true],.tuple #[n,.bool true],n,.bool true,rM,rM,.bool true] (fun _=>(.cells #[false,(),(),(),()] 27 (0,0))) (fun _=>(.cells #[ao n,ai n,ah n,aj n,ap n] 27 (0,0))) (fun _=>0) (by kernel_rfl) (by kernel_rfl) (by kernel_rfl) rfl rfl (by simp) (by simp) ?_ ?_
    ·refine⟨?_,?_,?_,?_,?_,?_,?_,?_,?_,trivial⟩
     ·refine eJ ?v8 ?vl ?vr ?GO;case vl=>exact rfl
      case v8=>exact(↑q)
      case vr=>exact rfl
      intro w' bj;have bn:=bn.same bj (by simp);have atl:=av bn;go_simp
     ·refine eJ ?wa ?vm ?vt ?GQ;case vm=>exact rfl
      case wa=>exact(.agg #[ao 1,ai 1,ah 1,aj 1,ap 1])
      case vt=>exact rfl
      intro w' bj;go_simp;exact qJ.out w'
     ·refine eJ ?Ab ?vn ?vu ?Dw;case vn=>exact rfl
      case Ab=>exact(.tuple #[n,.bool true])
      case vu=>exact rfl
      intro w' bj;go_simp;exact xD.out w'
     ·refine eJ ?Ac ?vo ?vv ?Ba;case vo=>exact rfl
      case Ac=>exact(.tuple #[n,.bool true])
      case vv=>exact rfl
      intro w' bj;go_simp
     ·refine eJ ?Fc ?Dr ?Dv ?K6;case Dr=>exact rfl
      case Fc=>exact(↑n)
      case Dv=>exact rfl
      intro w' bj;go_simp
     ·refine eJ ?wb ?vp ?vw ?Dx;case vp=>exact rfl
      case wb=>exact(.bool true)
      case vw=>exact rfl
      intro w' bj;go_simp
     ·refine NE ?as1 ?y3 ?y5 ?GR;case y3=>exact rfl
      case y5=>exact rfl
      intro ρ w';go_simp;rfl
     ·refine NF (j:=6) (T:=?asB) (p:=?asM) (x:=?asY) ?al6 ?amJ ?wh ?vq ?vx ?Dy ?ade ?adq ?ao_;case vq=>exact rfl
      case vx=>exact rfl
      case al6=>exact(.cells #[ao n,ai n,ah n,aj n,ap n] 27 (0,0))
      case amJ=>exact(.cells #[false,(),(),(),()] 27 (0,0))
      case wh=>exact(↑n)
      case Dy=>exact rfl
      case ade=>exact rfl
      case adq=>go_simp
      intro ρ w' g' hp hx hz;exact vX rfl hp hx hz
     ·refine eJ ?Aa ?y2 ?y4 ?K4;case y2=>exact rfl
      case Aa=>exact(.bool true)
      case y4=>exact rfl
      intro w' bj;go_simp
    ·intro G yC ae;have hS:=ae.same;have ak:=ak.same hS (by simp);have aq:=aq.same hS (by simp);have ag:=ag.same hS (by simp);have bn:=bn.same hS (by simp);have bh:=bh.same hS (by simp);have aJ:=aJ.same hS (by simp);have bx:=bx.same hS (by simp);have EE:=hide (hS.ext' EE.out (by simp));have bE:Box yC (G 6) (ao n) (ai n) (ah n) (aj n) (ap n):=(ae.eV 7 (List.mem_range.2 (show 7<9 by decide)) 6 rfl).2.2;have xp:=(ae.made 6 (List.mem_range.2 (show 6<9 by decide)) rfl).1;have ag1:g0≠G 6:=by omega
     have ag4:g0+1≠G 6:=by omega
     have Hm:g0+1+1≠G 6:=by omega
     have Ng:g3≠G 6:=by omega
     have Ni:g3+1≠G 6:=by omega
     have Nk:g7≠G 6:=by omega
     have Np:g7+1≠G 6:=by omega
     clear ae hS;simp only[nV,qf,ptrTo,Nat.zero_add,Nat.reduceAdd];generalize G 6=ao4 at *;go_upto_region 7 with fail
     have pJ:=cx bE;obtain⟨fz,fA,fB,fC,fD,fE,fF,fG,fH,fI,hg,hj,hk,ho,hq,hr,ht,hv,hB,hD⟩:=cv ag;go_wp2_with (first
      | (go_at_call 130;(with_reducible refine(Mw.out _).mono ?_);rintro e cN ⟨rfl,ad⟩;clear pJ;clear fz fA fB fC fD fE fF fG fH fI hg hj hk ho hq hr ht hv hB hD;have ak:=ak.ext ad;have aq:=aq.ext ad;have ag:=ag.ext ad;have bn:=bn.ext ad;have bh:=bh.ext ad;have aJ:=aJ.ext ad;have bx:=bx.ext ad;have bE:=bE.ext ad;have EE:=hide (EE.out.trans ad);clear ad;have pJ:=cx bE;obtain⟨fz,fA,fB,fC,fD,fE,fF,fG,fH,fI,hg,hj,hk,ho,hq,hr,ht,hv,hB,hD⟩:=cv ag))
     exact B7 (v:=.agg #[ao n,ai n,ah n,aj n,ap n,ao 1,ai 1,ah 1,aj 1,ap 1]) (by simp[results,Tryz.results116,go_sem,fz,fA,fB,fC,fD,fE,fF,fG,fH,fI]) rfl ⟨rfl,kY EE.out (by omega) _ _ _ _ _ _ _ _ _ _⟩
theorem uT{x y r:Int}(h:f_ x y=r):(r<0↔x<y)/\(r=0↔x=y)/\(0<r↔y<x):=by
 rw[<-h];unfold f_;split<;>(try split)<;>omega
theorem akG{aC m1 aW m2:Int}(h1:iW aC m1)(h2:iW aW m2){n m:Int}(hle:aC*m2<=aW*m1)(B:gg aC m1 aW m2 n m)(w:w1):AA CW 99 #[.agg #[ao aC,ai aC,ah aC,aj aC,ap aC,ao m1,ai m1,ah m1,aj m1,ap m1],.agg #[ao aW,ai aW,ah aW,aj aW,ap aW,ao m2,ai m2,ah m2,aj m2,ap m2]] w (aP (.tuple #[.agg #[ao n,ai n,ah n,aj n,ap n,ao m,ai m,ah m,aj m,ap m],.bool true]) w):=by
 obtain⟨c,hc⟩:∃ r,f_ (aC*m2) (aW*m1)=r:=⟨_,rfl⟩;have eR:¬ 0<c:=by rw[(uT hc).2.2];omega
 have zt:Hid (∀ w,AA CW 90 #[.agg #[ao aC,ai aC,ah aC,aj aC,ap aC,ao m1,ai m1,ah m1,aj m1,ap m1]] w (aP (.bool true) w)):=fun w=>GH h1 w
 have zu:Hid (∀ w,AA CW 90 #[.agg #[ao aW,ai aW,ah aW,aj aW,ap aW,ao m2,ai m2,ah m2,aj m2,ap m2]] w (aP (.bool true) w)):=fun w=>GH h2 w
 have rI:Hid (∀ w,AA CW 91 #[.agg #[ao aC,ai aC,ah aC,aj aC,ap aC,ao m1,ai m1,ah m1,aj m1,ap m1],.agg #[ao aW,ai aW,ah aW,aj aW,ap aW,ao m2,ai m2,ah m2,aj m2,ap m2]] w (aP (.int .i64 c) w)):=fun w=>Sh h1 h2 hc w
 clear hc;by_cases hp:0<aC
 ·have mR:Hid (∀ w,AA CW 115 #[aC] w (aP (.int .i64 1) w)):=fun w=>AY h1.fn (Int.sign_eq_one_of_pos hp) w
  have pz:Hid (∀ w,AA CW 116 #[.agg #[ao aC,ai aC,ah aC,aj aC,ap aC,ao m1,ai m1,ah m1,aj m1,ap m1],.agg #[ao aW,ai aW,ah aW,aj aW,ap aW,ao m2,ai m2,ah m2,aj m2,ap m2]] w (aP (.agg #[ao n,ai n,ah n,aj n,ap n,ao m,ai m,ah m,aj m,ap m]) w)):=fun w=>Ou _ aC m1 aW m2 n m (Nat.lt_succ_self _) hp h1.1 h2.1 hle h1.2.1 h1.2.2.1 h2.2.1 h2.2.2.1 B w
  clear h1 h2 hle B hp;obtain⟨bU,dE⟩:=eo ((((w.alloc (.cells #[ao aC,ai aC,ah aC,aj aC,ap aC,ao m1,ai m1,ah m1,aj m1,ap m1] 29)).alloc (.cells #[ao aW,ai aW,ah aW,aj aW,ap aW,ao m2,ai m2,ah m2,aj m2,ap m2] 29)).alloc (.cells #[false,(),(),(),(),false,(),(),(),()] 29)));have bz:=kF w (.cells #[ao aC,ai aC,ah aC,aj aC,ap aC,ao m1,ai m1,ah m1,aj m1,ap m1] 29) (.cells #[ao aW,ai aW,ah aW,aj aW,ap aW,ao m2,ai m2,ah m2,aj m2,ap m2] 29) (.cells #[false,(),(),(),(),false,(),(),(),()] 29);have fe:Ext w bU:=by rw[dE];exact(((aA _ _).trans (aA _ _)).trans (aA _ _))
  rw[<-dE] at bz;have EE:=hide fe;have aB:=hide dE;obtain⟨ak,aq,ag⟩:cm bU (w.heap.size) (ao aC) (ai aC) (ah aC) (aj aC) (ap aC) (ao m1) (ai m1) (ah m1) (aj m1) (ap m1)/\cm bU ((w.heap.size+1)) (ao aW) (ai aW) (ah aW) (aj aW) (ap aW) (ao m2) (ai m2) (ah m2) (aj m2) (ap m2)/\cm bU ((w.heap.size+1+1)) false 0 0 0 0 false 0 0 0 0:=bz;clear dE fe;go_enter Tryz.func99,Tryz.ntmps99
  go_upto_region 1 with fail
  rw[<-aB.out];clear aB;have ga:w.heap.size<=w.heap.size:=Nat.le_refl _;obtain⟨g0,af⟩:∃ g,w.heap.size=g:=⟨_,rfl⟩;rw[af] at ak aq ag |-;replace ga:w.heap.size<=g0:=Nat.le_of_eq af;clear af;have cA:=ct ak;have cB:=ct aq;obtain⟨fz,fA,fB,fC,fD,fE,fF,fG,fH,fI,hg,hj,hk,ho,hq,hr,ht,hv,hB,hD⟩:=cv ag;go_wp2_with (first
   | (go_at_call 90;(with_reducible refine(zt.out _).mono ?_);rintro e aT ⟨rfl,ad⟩;clear cA cB;clear fz fA fB fC fD fE fF fG fH fI hg hj hk ho hq hr ht hv hB hD;have ak:=ak.ext ad;have aq:=aq.ext ad;have ag:=ag.ext ad;have EE:=hide (EE.out.trans ad);clear ad;have cA:=ct ak;have cB:=ct aq;obtain⟨fz,fA,fB,fC,fD,fE,fF,fG,fH,fI,hg,hj,hk,ho,hq,hr,ht,hv,hB,hD⟩:=cv ag)
   | (go_at_call 90;(with_reducible refine(zu.out _).mono ?_);rintro e bp ⟨rfl,ad⟩;clear cA cB;clear fz fA fB fC fD fE fF fG fH fI hg hj hk ho hq hr ht hv hB hD;have ak:=ak.ext ad;have aq:=aq.ext ad;have ag:=ag.ext ad;have EE:=hide (EE.out.trans ad);clear ad;have cA:=ct ak;have cB:=ct aq;obtain⟨fz,fA,fB,fC,fD,fE,fF,fG,fH,fI,hg,hj,hk,ho,hq,hr,ht,hv,hB,hD⟩:=cv ag)
   | (go_at_call 91;(with_reducible refine(rI.out _).mono ?_);rintro e w3 ⟨rfl,ad⟩;clear cA cB;clear fz fA fB fC fD fE fF fG fH fI hg hj hk ho hq hr ht hv hB hD;have ak:=ak.ext ad;have aq:=aq.ext ad;have ag:=ag.ext ad;have EE:=hide (EE.out.trans ad);clear ad;have cA:=ct ak;have cB:=ct aq;obtain⟨fz,fA,fB,fC,fD,fE,fF,fG,fH,fI,hg,hj,hk,ho,hq,hr,ht,hv,hB,hD⟩:=cv ag)
   | (go_at_call 115;(with_reducible refine(mR.out _).mono ?_);rintro e bZ ⟨rfl,ad⟩;clear cA cB;clear fz fA fB fC fD fE fF fG fH fI hg hj hk ho hq hr ht hv hB hD;have ak:=ak.ext ad;have aq:=aq.ext ad;have ag:=ag.ext ad;have EE:=hide (EE.out.trans ad);clear ad;have cA:=ct ak;have cB:=ct aq;obtain⟨fz,fA,fB,fC,fD,fE,fF,fG,fH,fI,hg,hj,hk,ho,hq,hr,ht,hv,hB,hD⟩:=cv ag)
   | (go_at_call 116;(with_reducible refine(pz.out _).mono ?_);rintro e bm ⟨rfl,ad⟩;clear cA cB;clear fz fA fB fC fD fE fF fG fH fI hg hj hk ho hq hr ht hv hB hD;have ak:=ak.ext ad;have aq:=aq.ext ad;have ag:=ag.ext ad;have EE:=hide (EE.out.trans ad);clear ad;have cA:=ct ak;have cB:=ct aq;obtain⟨fz,fA,fB,fC,fD,fE,fF,fG,fH,fI,hg,hj,hk,ho,hq,hr,ht,hv,hB,hD⟩:=cv ag))
  exact B7 (v:=.tuple #[.agg #[ao n,ai n,ah n,aj n,ap n,ao m,ai m,ah m,aj m,ap m],.bool true]) (by simp[results,Tryz.results99,go_sem,fz,fA,fB,fC,fD,fE,fF,fG,fH,fI]) rfl ⟨rfl,kY EE.out (by omega) _ _ _ _ _ _ _ _ _ _⟩
 ·obtain⟨j,aN,cW,cL,_⟩:=HR aC;have rA:¬ 0<j:=fun q=>hp (cL.1 q)
  have mR:Hid (∀ w,AA CW 115 #[aC] w (aP (.int .i64 j) w)):=fun w=>AY h1.fn aN w
  clear aN cW cL;by_cases aO:aW<0
  ·obtain⟨u1,vK⟩:∃ u:Int,-aC=u:=⟨_,rfl⟩;obtain⟨u2,vL⟩:∃ u:Int,-aW=u:=⟨_,rfl⟩;obtain⟨u,hu⟩:∃ u:Int,-n=u:=⟨_,rfl⟩;have Ed:-u=n:=by omega
   have fc:=B.neg;rw[vK,vL,hu] at fc;have xo:u2*m1<=u1*m2:=by rw[<-vK,<-vL,Int.neg_mul,Int.neg_mul];omega
   have S:=(B.small h1.1 h2.1 hle).1;have fu:b4 u:=b4.mk (by have:=h1.2.1;omega);have rJ:Hid (∀ w,AA CW 115 #[aW] w (aP (.int .i64 (-1)) w)):=fun w=>AY h2.fn (Int.sign_eq_neg_one_of_neg aO) w
   have Mx:Hid (∀ w,AA CW 117 #[.agg #[ao aC,ai aC,ah aC,aj aC,ap aC,ao m1,ai m1,ah m1,aj m1,ap m1]] w (aP (.agg #[ao u1,ai u1,ah u1,aj u1,ap u1,ao m1,ai m1,ah m1,aj m1,ap m1]) w)):=fun w=>Ov h1.fn vK w
   have My:Hid (∀ w,AA CW 117 #[.agg #[ao aW,ai aW,ah aW,aj aW,ap aW,ao m2,ai m2,ah m2,aj m2,ap m2]] w (aP (.agg #[ao u2,ai u2,ah u2,aj u2,ap u2,ao m2,ai m2,ah m2,aj m2,ap m2]) w)):=fun w=>Ov h2.fn vL w
   have pz:Hid (∀ w,AA CW 116 #[.agg #[ao u2,ai u2,ah u2,aj u2,ap u2,ao m2,ai m2,ah m2,aj m2,ap m2],.agg #[ao u1,ai u1,ah u1,aj u1,ap u1,ao m1,ai m1,ah m1,aj m1,ap m1]] w (aP (.agg #[ao u,ai u,ah u,aj u,ap u,ao m,ai m,ah m,aj m,ap m]) w)):=fun w=>Ou _ u2 m2 u1 m1 u m (Nat.lt_succ_self _) (by omega) h2.1 h1.1 xo (by have:=h2.2.1;omega) h2.2.2.1 (by have:=h1.2.1;omega) h1.2.2.1 fc w
   have zr:Hid (∀ w,AA CW 117 #[.agg #[ao u,ai u,ah u,aj u,ap u,ao m,ai m,ah m,aj m,ap m]] w (aP (.agg #[ao n,ai n,ah n,aj n,ap n,ao m,ai m,ah m,aj m,ap m]) w)):=fun w=>Ov fu Ed w
   clear h1 h2 hle B hp aO vK vL hu Ed fc xo S fu;obtain⟨bU,dE⟩:=eo ((((w.alloc (.cells #[ao aC,ai aC,ah aC,aj aC,ap aC,ao m1,ai m1,ah m1,aj m1,ap m1] 29)).alloc (.cells #[ao aW,ai aW,ah aW,aj aW,ap aW,ao m2,ai m2,ah m2,aj m2,ap m2] 29)).alloc (.cells #[false,(),(),(),(),false,(),(),(),()] 29)));have bz:=kF w (.cells #[ao aC,ai aC,ah aC,aj aC,ap aC,ao m1,ai m1,ah m1,aj m1,ap m1] 29) (.cells #[ao aW,ai aW,ah aW,aj aW,ap aW,ao m2,ai m2,ah m2,aj m2,ap m2] 29) (.cells #[false,(),(),(),(),false,(),(),(),()] 29);have fe:Ext w bU:=by rw[dE];exact(((aA _ _).trans (aA _ _)).trans (aA _ _))
   rw[<-dE] at bz;have EE:=hide fe;have aB:=hide dE;obtain⟨ak,aq,ag⟩:cm bU (w.heap.size) (ao aC) (ai aC) (ah aC) (aj aC) (ap aC) (ao m1) (ai m1) (ah m1) (aj m1) (ap m1)/\cm bU ((w.heap.size+1)) (ao aW) (ai aW) (ah aW) (aj aW) (ap aW) (ao m2) (ai m2) (ah m2) (aj m2) (ap m2)/\cm bU ((w.heap.size+1+1)) false 0 0 0 0 false 0 0 0 0:=bz;clear dE fe;go_enter Tryz.func99,Tryz.ntmps99
   go_upto_region 1 with fail
   rw[<-aB.out];clear aB;have ga:w.heap.size<=w.heap.size:=Nat.le_refl _;obtain⟨g0,af⟩:∃ g,w.heap.size=g:=⟨_,rfl⟩;rw[af] at ak aq ag |-;replace ga:w.heap.size<=g0:=Nat.le_of_eq af;clear af;have cA:=ct ak;have cB:=ct aq;go_upto_region 3 with (first
    | (go_at_call 90;(with_reducible refine(zt.out _).mono ?_);rintro e aT ⟨rfl,ad⟩;clear cA cB;have ak:=ak.ext ad;have aq:=aq.ext ad;have ag:=ag.ext ad;have EE:=hide (EE.out.trans ad);clear ad;have cA:=ct ak;have cB:=ct aq)
    | (go_at_call 90;(with_reducible refine(zu.out _).mono ?_);rintro e bp ⟨rfl,ad⟩;clear cA cB;have ak:=ak.ext ad;have aq:=aq.ext ad;have ag:=ag.ext ad;have EE:=hide (EE.out.trans ad);clear ad;have cA:=ct ak;have cB:=ct aq)
    | (go_at_call 91;(with_reducible refine(rI.out _).mono ?_);rintro e w3 ⟨rfl,ad⟩;clear cA cB;have ak:=ak.ext ad;have aq:=aq.ext ad;have ag:=ag.ext ad;have EE:=hide (EE.out.trans ad);clear ad;have cA:=ct ak;have cB:=ct aq))
   clear cA cB;have cA:=ct ak;go_upto_region 5 with (go_at_call 115;(with_reducible refine(mR.out _).mono ?_);rintro e bZ ⟨rfl,ad⟩;clear cA;have ak:=ak.ext ad;have aq:=aq.ext ad;have ag:=ag.ext ad;have EE:=hide (EE.out.trans ad);clear ad;have cA:=ct ak)
   clear cA;have cB:=ct aq;go_upto_region 6 with (go_at_call 115;(with_reducible refine(rJ.out _).mono ?_);rintro e bm ⟨rfl,ad⟩;clear cB;have ak:=ak.ext ad;have aq:=aq.ext ad;have ag:=ag.ext ad;have EE:=hide (EE.out.trans ad);clear ad;have cB:=ct aq)
   clear cB;have BD:=ak.lt;have Ha:=aq.lt;have vO:=ag.lt;have nz:∀ c,Tag.so c∈[.q,.q,.q,.q,.q,.q,.so 0,.q]->(fun _=>g0+1+1) c<bm.heap.size:=by intro c hc;simp at hc;(try subst hc);(try simp only);omega
   refine rV [.q,.q,.q,.q,.q,.q,.so 0,.q] [.agg #[ao aW,ai aW,ah aW,aj aW,ap aW,ao m2,ai m2,ah m2,aj m2,ap m2],.agg #[ao u2,ai u2,ah u2,aj u2,ap u2,ao m2,ai m2,ah m2,aj m2,ap m2],.agg #[ao aC,ai aC,ah aC,aj aC,ap aC,ao m1,ai m1,ah m1,aj m1,ap m1],.agg #[ao u1,ai u1,ah u1,aj u1,ap u1,ao m1,ai m1,ah m1,aj m1,ap m1],.agg #[ao u,ai u,ah u,aj u,ap u,ao m,ai m,ah m,aj m,ap m],.agg #[ao n,ai n,ah n,aj n,ap n,ao m,ai m,ah m,aj m,ap m],rM,.bool true] (fun _=>(.cells #[false,(),(),(),()] 27 (0,0))) (fun _=>(.cells #[ao n,ai n,ah n,aj n,ap n,ao m,ai m,ah m,aj m,ap m] 29 (0,0))) (fun _=>g0+1+1) (by kernel_rfl) (by kernel_rfl) (by kernel_rfl) rfl rfl nz (by intro c c' h1 h2 _;simp at h1 h2;omega) ?_ ?_
   ·refine⟨?_,?_,?_,?_,?_,?_,?_,?_,trivial⟩
    ·refine eJ ?v8 ?vl ?vr ?GO;case vl=>exact rfl
     case v8=>exact(.agg #[ao aW,ai aW,ah aW,aj aW,ap aW,ao m2,ai m2,ah m2,aj m2,ap m2])
     case vr=>exact rfl
     intro w' bj;have aq:=aq.same bj (by intro c hc;simp at hc;(try subst hc);(try simp only);omega);have anO:=cv aq;go_simp
    ·refine eJ ?wa ?vm ?vt ?GQ;case vm=>exact rfl
     case wa=>exact(.agg #[ao u2,ai u2,ah u2,aj u2,ap u2,ao m2,ai m2,ah m2,aj m2,ap m2])
     case vt=>exact rfl
     intro w' bj;go_simp;exact My.out w'
    ·refine eJ ?Ab ?vn ?vu ?Dw;case vn=>exact rfl
     case Ab=>exact(.agg #[ao aC,ai aC,ah aC,aj aC,ap aC,ao m1,ai m1,ah m1,aj m1,ap m1])
     case vu=>exact rfl
     intro w' bj;have ak:=ak.same bj (by intro c hc;simp at hc;(try subst hc);(try simp only);omega);have anD:=cv ak;go_simp
    ·refine eJ ?Ac ?vo ?vv ?Ba;case vo=>exact rfl
     case Ac=>exact(.agg #[ao u1,ai u1,ah u1,aj u1,ap u1,ao m1,ai m1,ah m1,aj m1,ap m1])
     case vv=>exact rfl
     intro w' bj;go_simp;exact Mx.out w'
    ·refine eJ ?Fc ?Dr ?Dv ?K6;case Dr=>exact rfl
     case Fc=>exact(.agg #[ao u,ai u,ah u,aj u,ap u,ao m,ai m,ah m,aj m,ap m])
     case Dv=>exact rfl
     intro w' bj;go_simp;exact pz.out w'
    ·refine eJ ?wb ?vp ?vw ?Dx;case vp=>exact rfl
     case wb=>exact(.agg #[ao n,ai n,ah n,aj n,ap n,ao m,ai m,ah m,aj m,ap m])
     case vw=>exact rfl
     intro w' bj;go_simp;exact zr.out w'
    ·refine qc (c:=0) (T:=?asA) (p:=?asL) (x:=?asX) ?amc ?al5 ?Fe ?y3 ?y5 ?GR ?adb ?adp ?adz ?apg;case y3=>exact rfl
     case y5=>exact rfl
     case al5=>exact(.cells #[ao n,ai n,ah n,aj n,ap n,ao m,ai m,ah m,aj m,ap m] 29 (0,0))
     case amc=>exact g0+1+1
     case Fe=>exact(.agg #[ao n,ai n,ah n,aj n,ap n,ao m,ai m,ah m,aj m,ap m])
     case GR=>exact rfl
     case adb=>exact rfl
     case adp=>go_simp;rfl
     case adz=>go_simp
     intro ρ w' hp hx hz;exact BZ rfl hp hx (hz.trans ag)
    ·refine eJ ?wh ?vq ?vx ?Dy;case vq=>exact rfl
     case wh=>exact(.bool true)
     case vx=>exact rfl
     intro w' bj;go_simp
   ·intro G tL ae;have hS:=ae.same;have ak:=ak.same hS (by intro c hc;simp at hc;(try subst hc);(try simp only);omega);have aq:=aq.same hS (by intro c hc;simp at hc;(try subst hc);(try simp only);omega);have jv:∀ c,Tag.so c∈[.q,.q,.q,.q,.q,.q,.so 0,.q]->w.heap.size<=(fun _=>g0+1+1) c:=by intro c hc;simp at hc;(try subst hc);(try simp only);omega
    have EE:=hide (hS.ext' EE.out jv);have ag:cm tL (g0+1+1) (ao n) (ai n) (ah n) (aj n) (ap n) (ao m) (ai m) (ah m) (aj m) (ap m):=ae.ep 6 (List.mem_range.2 (show 6<8 by decide)) 0 rfl;clear ae hS;simp only[nV,qf,ptrTo,Nat.zero_add,Nat.reduceAdd];go_wp2_with fail
    obtain⟨fz,fA,fB,fC,fD,fE,fF,fG,fH,fI,hg,hj,hk,ho,hq,hr,ht,hv,hB,hD⟩:=cv ag;exact B7 (v:=.tuple #[.agg #[ao n,ai n,ah n,aj n,ap n,ao m,ai m,ah m,aj m,ap m],.bool true]) (by simp[results,Tryz.results99,go_sem,fz,fA,fB,fC,fD,fE,fF,fG,fH,fI]) rfl ⟨rfl,EE.out⟩
  ·obtain⟨jM,em⟩:=gg.unique h1.1 h2.1 B (gg.zero (by omega) (by omega));subst jM em;obtain⟨i,hi,i1,i2,_⟩:=HR aW;have j5:¬ i<0:=fun q=>aO (i1.1 q)
   have rJ:Hid (∀ w,AA CW 115 #[aW] w (aP (.int .i64 i) w)):=fun w=>AY h2.fn hi w
   have qJ:Hid (∀ w,AA CW 98 #[.int .i64 0] w (aP (.agg #[ao 0,ai 0,ah 0,aj 0,ap 0,ao 1,ai 1,ah 1,aj 1,ap 1]) w)):=fun w=>Si (by omega) (by omega) w
   clear h1 h2 hle B hp aO hi i1 i2;obtain⟨bU,dE⟩:=eo ((((w.alloc (.cells #[ao aC,ai aC,ah aC,aj aC,ap aC,ao m1,ai m1,ah m1,aj m1,ap m1] 29)).alloc (.cells #[ao aW,ai aW,ah aW,aj aW,ap aW,ao m2,ai m2,ah m2,aj m2,ap m2] 29)).alloc (.cells #[false,(),(),(),(),false,(),(),(),()] 29)));have bz:=kF w (.cells #[ao aC,ai aC,ah aC,aj aC,ap aC,ao m1,ai m1,ah m1,aj m1,ap m1] 29) (.cells #[ao aW,ai aW,ah aW,aj aW,ap aW,ao m2,ai m2,ah m2,aj m2,ap m2] 29) (.cells #[false,(),(),(),(),false,(),(),(),()] 29);have fe:Ext w bU:=by rw[dE];exact(((aA _ _).trans (aA _ _)).trans (aA _ _))
   rw[<-dE] at bz;have EE:=hide fe;have aB:=hide dE;obtain⟨ak,aq,ag⟩:cm bU (w.heap.size) (ao aC) (ai aC) (ah aC) (aj aC) (ap aC) (ao m1) (ai m1) (ah m1) (aj m1) (ap m1)/\cm bU ((w.heap.size+1)) (ao aW) (ai aW) (ah aW) (aj aW) (ap aW) (ao m2) (ai m2) (ah m2) (aj m2) (ap m2)/\cm bU ((w.heap.size+1+1)) false 0 0 0 0 false 0 0 0 0:=bz;clear dE fe;go_enter Tryz.func99,Tryz.ntmps99
   go_upto_region 1 with fail
   rw[<-aB.out];clear aB;have ga:w.heap.size<=w.heap.size:=Nat.le_refl _;obtain⟨g0,af⟩:∃ g,w.heap.size=g:=⟨_,rfl⟩;rw[af] at ak aq ag |-;replace ga:w.heap.size<=g0:=Nat.le_of_eq af;clear af;have cA:=ct ak;have cB:=ct aq;obtain⟨fz,fA,fB,fC,fD,fE,fF,fG,fH,fI,hg,hj,hk,ho,hq,hr,ht,hv,hB,hD⟩:=cv ag;go_wp2_with (first
    | (go_at_call 90;(with_reducible refine(zt.out _).mono ?_);rintro e aT ⟨rfl,ad⟩;clear cA cB;clear fz fA fB fC fD fE fF fG fH fI hg hj hk ho hq hr ht hv hB hD;have ak:=ak.ext ad;have aq:=aq.ext ad;have ag:=ag.ext ad;have EE:=hide (EE.out.trans ad);clear ad;have cA:=ct ak;have cB:=ct aq;obtain⟨fz,fA,fB,fC,fD,fE,fF,fG,fH,fI,hg,hj,hk,ho,hq,hr,ht,hv,hB,hD⟩:=cv ag)
    | (go_at_call 90;(with_reducible refine(zu.out _).mono ?_);rintro e bp ⟨rfl,ad⟩;clear cA cB;clear fz fA fB fC fD fE fF fG fH fI hg hj hk ho hq hr ht hv hB hD;have ak:=ak.ext ad;have aq:=aq.ext ad;have ag:=ag.ext ad;have EE:=hide (EE.out.trans ad);clear ad;have cA:=ct ak;have cB:=ct aq;obtain⟨fz,fA,fB,fC,fD,fE,fF,fG,fH,fI,hg,hj,hk,ho,hq,hr,ht,hv,hB,hD⟩:=cv ag)
    | (go_at_call 91;(with_reducible refine(rI.out _).mono ?_);rintro e w3 ⟨rfl,ad⟩;clear cA cB;clear fz fA fB fC fD fE fF fG fH fI hg hj hk ho hq hr ht hv hB hD;have ak:=ak.ext ad;have aq:=aq.ext ad;have ag:=ag.ext ad;have EE:=hide (EE.out.trans ad);clear ad;have cA:=ct ak;have cB:=ct aq;obtain⟨fz,fA,fB,fC,fD,fE,fF,fG,fH,fI,hg,hj,hk,ho,hq,hr,ht,hv,hB,hD⟩:=cv ag)
    | (go_at_call 115;(with_reducible refine(mR.out _).mono ?_);rintro e bZ ⟨rfl,ad⟩;clear cA cB;clear fz fA fB fC fD fE fF fG fH fI hg hj hk ho hq hr ht hv hB hD;have ak:=ak.ext ad;have aq:=aq.ext ad;have ag:=ag.ext ad;have EE:=hide (EE.out.trans ad);clear ad;have cA:=ct ak;have cB:=ct aq;obtain⟨fz,fA,fB,fC,fD,fE,fF,fG,fH,fI,hg,hj,hk,ho,hq,hr,ht,hv,hB,hD⟩:=cv ag)
    | (go_at_call 115;(with_reducible refine(rJ.out _).mono ?_);rintro e bm ⟨rfl,ad⟩;clear cA cB;clear fz fA fB fC fD fE fF fG fH fI hg hj hk ho hq hr ht hv hB hD;have ak:=ak.ext ad;have aq:=aq.ext ad;have ag:=ag.ext ad;have EE:=hide (EE.out.trans ad);clear ad;have cA:=ct ak;have cB:=ct aq;obtain⟨fz,fA,fB,fC,fD,fE,fF,fG,fH,fI,hg,hj,hk,ho,hq,hr,ht,hv,hB,hD⟩:=cv ag)
    | (go_at_call 98;(with_reducible refine(qJ.out _).mono ?_);rintro e cg ⟨rfl,ad⟩;clear cA cB;clear fz fA fB fC fD fE fF fG fH fI hg hj hk ho hq hr ht hv hB hD;have ak:=ak.ext ad;have aq:=aq.ext ad;have ag:=ag.ext ad;have EE:=hide (EE.out.trans ad);clear ad;have cA:=ct ak;have cB:=ct aq;obtain⟨fz,fA,fB,fC,fD,fE,fF,fG,fH,fI,hg,hj,hk,ho,hq,hr,ht,hv,hB,hD⟩:=cv ag))
   exact B7 (v:=.tuple #[.agg #[ao 0,ai 0,ah 0,aj 0,ap 0,ao 1,ai 1,ah 1,aj 1,ap 1],.bool true]) (by simp[results,Tryz.results99,go_sem,fz,fA,fB,fC,fD,fE,fF,fG,fH,fI]) rfl ⟨rfl,kY EE.out (by omega) _ _ _ _ _ _ _ _ _ _⟩
end
end Go.Proofs.YtojbopibfflnoaaGreat
