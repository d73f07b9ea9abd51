/- Contracts and plain facts; each states its conditions. -/
import Derived.Test.YtojbopibfflnoaaGreatPrY21
import Derived.Test.YtojbopibfflnoaaGreatPrY22
import Derived.BigQuiet
namespace Go.Proofs.YtojbopibfflnoaaGreat
open Go renaming undef → rM, World → w1, Calls → AA, bodyPost_ret → B7, heap_alloc_new → axe
open _root_.Go.Proofs.Tryz renaming prog → CW
set_option linter.unusedVariables false
set_option linter.unusedSimpArgs false
set_option maxHeartbeats 16000000
set_option maxRecDepth 100000
section
open Go Go.RowKit Go.Sort
attribute [local go_sem] mg nV qf
theorem abP(w:w1)(o p q r:Obj):((((w.alloc o).alloc p).alloc q).alloc r).heap[w.heap.size]?=some o/\((((w.alloc o).alloc p).alloc q).alloc r).heap[w.heap.size+1]?=some p/\((((w.alloc o).alloc p).alloc q).alloc r).heap[w.heap.size+1+1]?=some q/\((((w.alloc o).alloc p).alloc q).alloc r).heap[w.heap.size+1+1+1]?=some r:=by
 obtain⟨h1,h2,h3⟩:=kF w o p q;have h4:=axe (((w.alloc o).alloc p).alloc q) r;have hs:(((w.alloc o).alloc p).alloc q).heap.size=w.heap.size+1+1+1:=by simp
 rw[hs] at h4;exact⟨p8 (aA _ _) h1,p8 (aA _ _) h2,p8 (aA _ _) h3,h4⟩
theorem Oy(w:w1)(o p q r s t:Obj):((((((w.alloc o).alloc p).alloc q).alloc r).alloc s).alloc t).heap[w.heap.size]?=some o/\((((((w.alloc o).alloc p).alloc q).alloc r).alloc s).alloc t).heap[w.heap.size+1]?=some p/\((((((w.alloc o).alloc p).alloc q).alloc r).alloc s).alloc t).heap[w.heap.size+1+1]?=some q/\((((((w.alloc o).alloc p).alloc q).alloc r).alloc s).alloc t).heap[w.heap.size+1+1+1]?=some r/\((((((w.alloc o).alloc p).alloc q).alloc r).alloc s).alloc t).heap[w.heap.size+1+1+1+1]?=some s/\((((((w.alloc o).alloc p).alloc q).alloc r).alloc s).alloc t).heap[w.heap.size+1+1+1+1+1]?=some t:=by
 obtain⟨h1,h2,h3,h4⟩:=abP w o p q r;have hs:((((w.alloc o).alloc p).alloc q).alloc r).heap.size=w.heap.size+1+1+1+1:=by simp
 obtain⟨h5,h6⟩:=e1 ((((w.alloc o).alloc p).alloc q).alloc r) s t;rw[hs] at h5 h6;have E:=(aA ((((w.alloc o).alloc p).alloc q).alloc r) s).trans (aA _ t);exact⟨p8 E h1,p8 E h2,p8 E h3,p8 E h4,h5,h6⟩
theorem X8{a b c d u v:Int}(ha:0<a)(hb:0<b)(hd:0<d)(hle:a*d<=c*b)(iz:a%b≠0)(hu:a / b+1=u)(aF:u*d=v):v<=c↔a / b≠c / d:=by
 constructor
 ·intro h e;have e2:=Int.emod_add_mul_ediv c d;have aj:=Int.emod_lt_of_pos c hd;rw[<-e] at e2;rw[<-aF,<-hu,Int.add_mul,Int.one_mul,Int.mul_comm (a / b) d] at h;omega
 ·intro h;have:=(Gb ha hb hd hle iz h).2.2.1;rw[hu,aF] at this
  omega
theorem N9:∀ (k:Nat) (a b c d n m:Int),(b+d).toNat<k->0<a->0<b->0<d->a*d<=c*b->a.natAbs<170141183460469231731687303715884105728->b.natAbs<170141183460469231731687303715884105728->c.natAbs<170141183460469231731687303715884105728->d.natAbs<170141183460469231731687303715884105728->gg a b c d n m->∀ w:w1,AA CW 89 #[a,b,c,d] w (aP (.tuple #[n,m]) w)
 | 0,_,_,_,_,_,_,aE,_,_,_,_,_,_,_,_,_,_=>by omega
 | k+1,a,b,c,d,n,m,aE,ha,hb,hd,hle,sa,sb,sc,tq,B,w=>by
  obtain⟨q,aO⟩:=aM (a / b);obtain⟨r,aD⟩:∃ q,a%b=q:=⟨_,rfl⟩;have k7:0<=q:=by rw[<-aO];exact Int.ediv_nonneg (by omega) (by omega)
  have zO:q<=a:=by rw[<-aO];exact Int.ediv_le_self _ (by omega)
  have iB:0<=r:=by rw[<-aD];exact Int.emod_nonneg _ (by omega)
  have rb:r<b:=by rw[<-aD];exact Int.emod_lt_of_pos _ hb
  have p3:=ku sa;have mL:=ku sb;have sy:=ku sc;have fd:=ku tq;have kZ:b4 q:=ku (by omega);have fr:b4 r:=ku (by omega);have yf:=(B.small hb hd hle).1;have cT:=B.pos ha hb;have m0:=B.1;have bt:0<c:=by
   have h1:=Int.mul_pos ha hd;by_cases hc:0<c
   ·exact hc
   ·have:=Int.mul_nonpos_of_nonpos_of_nonneg (show c<=0 by omega) (show 0<=b by omega);omega
  have A7:∀ z y:Int,0<=z->z<=170141183460469231731687303715884105728->0<=y->y<=170141183460469231731687303715884105728->b4 (z*y):=by
   intro z y z0 fb nY y1;have h1:z*y<=170141183460469231731687303715884105728*170141183460469231731687303715884105728:=Int.le_trans (Int.mul_le_mul_of_nonneg_right fb nY) (Int.mul_le_mul_of_nonneg_left y1 (by omega));have h2:0<=z*y:=Int.mul_nonneg z0 nY;unfold b4;omega
  have tV:Hid (∀ w,AA CW 67 #[a,b] w (aP (.tuple #[q,r,.bool true]) w)):=fun w=>ZS p3 mL (by omega) aO aD w
  by_cases h0:r=0
  ·obtain⟨jM,em⟩:=gg.unique hb hd B (JE ha hb hd hle (by rw[aD];exact h0));rw[aO] at jM;subst jM em;obtain⟨v,aF⟩:=aM (n*d);have fv:b4 v:=by rw[<-aF];exact A7 n d (by omega) (by omega) (by omega) (by omega)
   have Ee:v<=c:=by rw[<-aF];have:=B.2.2.1;rw[Int.mul_one] at this;exact this
   obtain⟨j,aN⟩:=aM (f_ v c);have rA:j<=0:=by
    rcases Int.lt_or_le 0 j with h|h;· have:=(uT aN).2.2.1 h;omega
    ·exact h
   have mR:Hid (∀ w,AA CW 52 #[r] w (aP (.int .i64 0) w)):=fun w=>w_ fr (by rw[h0];simp) w
   have BA:Hid (∀ w,AA CW 66 #[n,d] w (aP (.tuple #[v,.bool true]) w)):=fun w=>Gm kZ fd aF fv w
   have rI:Hid (∀ w,AA CW 28 #[v,c] w (aP (.int .i64 j) w)):=fun w=>JQ fv sy aN w
   have qJ:Hid (∀ w,AA CW 23 #[.int .i64 1] w (aP (.agg #[ao 1,ai 1,ah 1,aj 1,ap 1]) w)):=fun w=>CV (by omega) (by omega) w
   clear aO aD k7 zO iB rb p3 mL sy fd kZ fr yf cT m0 bt A7 aE ha hb hd hle sa sb sc tq B h0 aF fv Ee aN;obtain⟨bU,dE⟩:=eo (((((((w.alloc (a)).alloc (b)).alloc (c)).alloc (d)).alloc (.cells #[false,(),(),(),()] 27)).alloc (.cells #[false,(),(),(),()] 27)));have bz:=Oy w (a) (b) (c) (d) (.cells #[false,(),(),(),()] 27) (.cells #[false,(),(),(),()] 27);have fe:Ext w bU:=by rw[dE];exact((((((aA _ _).trans (aA _ _)).trans (aA _ _)).trans (aA _ _)).trans (aA _ _)).trans (aA _ _))
   rw[<-dE] at bz;have EE:=hide fe;have aB:=hide dE;obtain⟨ag,bn,bh,bl,aJ,bx⟩:Box bU (w.heap.size) (ao a) (ai a) (ah a) (aj a) (ap a)/\Box bU ((w.heap.size+1)) (ao b) (ai b) (ah b) (aj b) (ap b)/\Box bU ((w.heap.size+1+1)) (ao c) (ai c) (ah c) (aj c) (ap c)/\Box bU ((w.heap.size+1+1+1)) (ao d) (ai d) (ah d) (aj d) (ap d)/\Box bU ((w.heap.size+1+1+1+1)) false 0 0 0 0/\Box bU ((w.heap.size+1+1+1+1+1)) false 0 0 0 0:=bz;clear dE fe;go_enter Tryz.func89,Tryz.ntmps89
   go_upto_region 1 with fail
   rw[<-aB.out];clear aB;have ga:w.heap.size<=w.heap.size:=Nat.le_refl _;obtain⟨g0,af⟩:∃ g,w.heap.size=g:=⟨_,rfl⟩;rw[af] at ag bn bh bl aJ bx |-;replace ga:w.heap.size<=g0:=Nat.le_of_eq af;clear af;have pK:=cx ag;have iU:=cx bn;go_upto_region 2 with (go_at_call 67;(with_reducible refine(tV.out _).mono ?_);rintro e aT ⟨rfl,ad⟩;clear pK iU;have ag:=ag.ext ad;have bn:=bn.ext ad;have bh:=bh.ext ad;have bl:=bl.ext ad;have aJ:=aJ.ext ad;have bx:=bx.ext ad;have EE:=hide (EE.out.trans ad);clear ad;have pK:=cx ag;have iU:=cx bn)
   clear pK iU;have bz:=e1 aT (n) (r);have gb:=ag.lt;have iL:=bn.lt;have iq:=bh.lt;have k6:=bl.lt;have jy:=aJ.lt;have jz:=bx.lt;have ad:=((aA aT (n)).trans (aA _ (r)));have ag:=ag.ext ad;have bn:=bn.ext ad;have bh:=bh.ext ad;have bl:=bl.ext ad;have aJ:=aJ.ext ad;have bx:=bx.ext ad;have EE:=hide (EE.out.trans ad);clear ad;obtain⟨mG,aK⟩:∃ W,W=((aT.alloc (n)).alloc (r)):=⟨_,rfl⟩;rw[<-aK] at bz EE ag bn bh bl aJ bx |-;obtain⟨g3,af⟩:∃ g,aT.heap.size=g:=⟨_,rfl⟩;rw[af] at bz gb iL iq k6 jy jz |-;obtain⟨bu,bE⟩:Box mG g3 (ao n) (ai n) (ah n) (aj n) (ap n)/\Box mG (g3+1) (ao r) (ai r) (ah r) (aj r) (ap r):=bz;clear aK af;have Nb:g0≠g3:=by omega
   have Hm:g0≠g3+1:=by omega
   have Uy:g0+1≠g3:=by omega
   have Ng:g0+1≠g3+1:=by omega
   have Uz:g0+1+1≠g3:=by omega
   have Ni:g0+1+1≠g3+1:=by omega
   have UC:g0+1+1+1≠g3:=by omega
   have UD:g0+1+1+1≠g3+1:=by omega
   have UF:g0+1+1+1+1≠g3:=by omega
   have Nk:g0+1+1+1+1≠g3+1:=by omega
   have UG:g0+1+1+1+1+1≠g3:=by omega
   have Np:g0+1+1+1+1+1≠g3+1:=by omega
   have pJ:=cx bE;go_upto_region 4 with (go_at_call 52;(with_reducible refine(mR.out _).mono ?_);rintro e bZ ⟨rfl,ad⟩;clear pJ;have ag:=ag.ext ad;have bn:=bn.ext ad;have bh:=bh.ext ad;have bl:=bl.ext ad;have aJ:=aJ.ext ad;have bx:=bx.ext ad;have bu:=bu.ext ad;have bE:=bE.ext ad;have EE:=hide (EE.out.trans ad);clear ad;have pJ:=cx bE)
   clear pJ;have k_:=cx bl;have rW:=cx bu;go_upto_region 5 with (go_at_call 66;(with_reducible refine(BA.out _).mono ?_);rintro e bm ⟨rfl,ad⟩;clear k_ rW;have ag:=ag.ext ad;have bn:=bn.ext ad;have bh:=bh.ext ad;have bl:=bl.ext ad;have aJ:=aJ.ext ad;have bx:=bx.ext ad;have bu:=bu.ext ad;have bE:=bE.ext ad;have EE:=hide (EE.out.trans ad);clear ad;have k_:=cx bl;have rW:=cx bu)
   clear k_ rW;have bz:=axe bm (v);have gb:=ag.lt;have iL:=bn.lt;have iq:=bh.lt;have k6:=bl.lt;have jy:=aJ.lt;have jz:=bx.lt;have pA:=bu.lt;have pB:=bE.lt;have ad:=(aA bm (v));have ag:=ag.ext ad;have bn:=bn.ext ad;have bh:=bh.ext ad;have bl:=bl.ext ad;have aJ:=aJ.ext ad;have bx:=bx.ext ad;have bu:=bu.ext ad;have bE:=bE.ext ad;have EE:=hide (EE.out.trans ad);clear ad;obtain⟨tL,aK⟩:∃ W,W=(bm.alloc (v)):=⟨_,rfl⟩;rw[<-aK] at bz EE ag bn bh bl aJ bx bu bE |-;obtain⟨g7,af⟩:∃ g,bm.heap.size=g:=⟨_,rfl⟩;rw[af] at bz gb iL iq k6 jy jz pA pB |-;have df:Box tL g7 (ao v) (ai v) (ah v) (aj v) (ap v):=bz;clear aK af;have Nc:g0≠g7:=by omega
   have Nh:g0+1≠g7:=by omega
   have Nj:g0+1+1≠g7:=by omega
   have UE:g0+1+1+1≠g7:=by omega
   have Nl:g0+1+1+1+1≠g7:=by omega
   have Nq:g0+1+1+1+1+1≠g7:=by omega
   have Un:g3≠g7:=by omega
   have Uo:g3+1≠g7:=by omega
   have hV:=cx bh;have mY:=cx df;go_upto_region 6 with (go_at_call 28;(with_reducible refine(rI.out _).mono ?_);rintro e c8 ⟨rfl,ad⟩;clear hV mY;have ag:=ag.ext ad;have bn:=bn.ext ad;have bh:=bh.ext ad;have bl:=bl.ext ad;have aJ:=aJ.ext ad;have bx:=bx.ext ad;have bu:=bu.ext ad;have bE:=bE.ext ad;have df:=df.ext ad;have EE:=hide (EE.out.trans ad);clear ad;have hV:=cx bh;have mY:=cx df)
   clear hV mY;have vO:=ag.lt;have EC:=bn.lt;have zC:=bh.lt;have BF:=bl.lt;have BG:=aJ.lt;have BH:=bx.lt;have G_:=bu.lt;have G':=bE.lt;have TW:=df.lt;have nz:∀ c,Tag.so c∈[.q,.q,.so 0,.so 1]->(fun i=>match i with|0=>g0+1+1+1+1|_=>g0+1+1+1+1+1) c<c8.heap.size:=by intro c hc;simp at hc;rcases hc with rfl|rfl<;>(try simp only)<;>omega
   refine rV [.q,.q,.so 0,.so 1] [n,.agg #[ao 1,ai 1,ah 1,aj 1,ap 1],rM,rM] (fun _=>(.cells #[false,(),(),(),()] 27 (0,0))) (fun i=>match i with|2=>(.cells #[ao n,ai n,ah n,aj n,ap n] 27 (0,0))|_=>(.cells #[ao 1,ai 1,ah 1,aj 1,ap 1] 27 (0,0))) (fun i=>match i with|0=>g0+1+1+1+1|_=>g0+1+1+1+1+1) (by kernel_rfl) (by kernel_rfl) (by kernel_rfl) rfl rfl nz (by intro c c' h1 h2 h3;simp at h1 h2;rcases h1 with rfl|rfl<;>rcases h2 with rfl|rfl<;>simp only at h3<;>omega) ?_ ?_
   ·refine⟨?_,?_,?_,?_,trivial⟩
    ·refine eJ ?v8 ?vl ?vr ?GO;case vl=>exact rfl
     case v8=>exact(↑n)
     case vr=>exact rfl
     intro w' bj;have bu:=bu.same bj (by intro c hc;simp at hc;rcases hc with rfl|rfl<;>(try simp only)<;>omega);have Py:=av bu;go_simp
    ·refine eJ ?wa ?vm ?vt ?GQ;case vm=>exact rfl
     case wa=>exact(.agg #[ao 1,ai 1,ah 1,aj 1,ap 1])
     case vt=>exact rfl
     intro w' bj;go_simp;exact qJ.out w'
    ·refine qc (c:=0) (T:=?asx) (p:=?asI) (x:=?asU) ?amb ?al2 ?Ab ?vn ?vu ?Dw ?ac_ ?adl ?ady ?apf;case vn=>exact rfl
     case vu=>exact rfl
     case al2=>exact(.cells #[ao n,ai n,ah n,aj n,ap n] 27 (0,0))
     case amb=>exact g0+1+1+1+1
     case Ab=>exact(↑n)
     case Dw=>exact rfl
     case ac_=>exact rfl
     case adl=>go_simp;rfl
     case ady=>go_simp
     intro ρ w' hp hx hz;exact vX rfl hp hx (hz.trans aJ)
    ·refine qc (c:=1) (T:=?alV) (p:=?amw) (x:=?amG) ?OX ?OU ?Ac ?vo ?vv ?Ba ?K9 ?La ?Le ?adC;case vo=>exact rfl
     case vv=>exact rfl
     case OU=>exact(.cells #[ao 1,ai 1,ah 1,aj 1,ap 1] 27 (0,0))
     case OX=>exact g0+1+1+1+1+1
     case Ac=>exact(.agg #[ao 1,ai 1,ah 1,aj 1,ap 1])
     case Ba=>exact rfl
     case K9=>exact rfl
     case La=>go_simp;rfl
     case Le=>go_simp
     intro ρ w' hp hx hz;exact vX rfl hp hx (hz.trans bx)
   ·intro G F7 ae;have hS:=ae.same;have ag:=ag.same hS (by intro c hc;simp at hc;rcases hc with rfl|rfl<;>(try simp only)<;>omega);have bn:=bn.same hS (by intro c hc;simp at hc;rcases hc with rfl|rfl<;>(try simp only)<;>omega);have bh:=bh.same hS (by intro c hc;simp at hc;rcases hc with rfl|rfl<;>(try simp only)<;>omega);have bl:=bl.same hS (by intro c hc;simp at hc;rcases hc with rfl|rfl<;>(try simp only)<;>omega);have bu:=bu.same hS (by intro c hc;simp at hc;rcases hc with rfl|rfl<;>(try simp only)<;>omega);have bE:=bE.same hS (by intro c hc;simp at hc;rcases hc with rfl|rfl<;>(try simp only)<;>omega);have df:=df.same hS (by intro c hc;simp at hc;rcases hc with rfl|rfl<;>(try simp only)<;>omega);have jv:∀ c,Tag.so c∈[.q,.q,.so 0,.so 1]->w.heap.size<=(fun i=>match i with|0=>g0+1+1+1+1|_=>g0+1+1+1+1+1) c:=by intro c hc;simp at hc;rcases hc with rfl|rfl<;>(try simp only)<;>omega
    have EE:=hide (hS.ext' EE.out jv);have aJ:Box F7 (g0+1+1+1+1) (ao n) (ai n) (ah n) (aj n) (ap n):=ae.ep 2 (List.mem_range.2 (show 2<4 by decide)) 0 rfl;have bx:Box F7 (g0+1+1+1+1+1) (ao 1) (ai 1) (ah 1) (aj 1) (ap 1):=ae.ep 3 (List.mem_range.2 (show 3<4 by decide)) 1 rfl;clear ae hS;simp only[nV,qf,ptrTo,Nat.zero_add,Nat.reduceAdd];go_wp2_with fail
    obtain⟨Fo,Fp,Fq,Fs,Ft,Ww,Wx,Wy,Wz,WA⟩:=av aJ;obtain⟨Fu,Fv,Fw,Fx,Fy,WB,WC,WD,WE,WG⟩:=av bx;exact B7 (v:=.tuple #[n,.agg #[ao 1,ai 1,ah 1,aj 1,ap 1]]) (by simp[results,Tryz.results89,go_sem,Fo,Fp,Fq,Fs,Ft,Fu,Fv,Fw,Fx,Fy]) rfl ⟨rfl,EE.out⟩
  ·have iz:a%b≠0:=by rw[aD];exact h0
   obtain⟨u,hu⟩:=aM (q+1);have fu:b4 u:=by unfold b4;omega
   have f1:b4 1:=by unfold b4;decide
   obtain⟨v,aF⟩:=aM (u*d);have fv:b4 v:=by rw[<-aF];exact A7 u d (by omega) (by omega) (by omega) (by omega)
   obtain⟨j,aN⟩:=aM (f_ v c);have pv:v<=c↔a / b≠c / d:=X8 ha hb hd hle iz (by rw[aO];exact hu) aF;have mR:Hid (∀ w,AA CW 52 #[r] w (aP (.int .i64 1) w)):=fun w=>w_ fr (Int.sign_eq_one_of_pos (by omega)) w
   have qJ:Hid (∀ w,AA CW 23 #[.int .i64 1] w (aP (.agg #[ao 1,ai 1,ah 1,aj 1,ap 1]) w)):=fun w=>CV (by omega) (by omega) w
   have TP:Hid (∀ w,AA CW 24 #[q,.agg #[ao 1,ai 1,ah 1,aj 1,ap 1]] w (aP (.tuple #[u,.bool true]) w)):=fun w=>JO kZ f1 hu fu w
   have BA:Hid (∀ w,AA CW 66 #[u,d] w (aP (.tuple #[v,.bool true]) w)):=fun w=>Gm fu fd aF fv w
   have rI:Hid (∀ w,AA CW 28 #[v,c] w (aP (.int .i64 j) w)):=fun w=>JQ fv sy aN w
   by_cases h1:q=c / d
   ·have pw:a / b=c / d:=by rw[aO];exact h1
    have Ee:¬ v<=c:=fun e=>pv.1 e pw
    have rA:¬ j<=0:=by
     intro e;rcases Int.lt_or_eq_of_le e with h|h
     ·have:=(uT aN).1.1 h;omega
     ·have:=(uT aN).2.1.1 h;omega
    obtain⟨t,bd⟩:∃ q,c%d=q:=⟨_,rfl⟩;obtain⟨fb,z2,t1,B0,hl⟩:=Oj ha hb hd hle iz pw;rw[aD,bd] at hl;rw[bd] at t1 B0;have ft:b4 t:=ku (by omega);obtain⟨g,af⟩:=aM (q*d);have SR:c-g=t:=by
     have e:=Int.emod_add_mul_ediv c d;rw[<-h1,bd,Int.mul_comm d q,af] at e;omega
    have lq:b4 g:=by rw[<-af];exact A7 q d (by omega) (by omega) (by omega) (by omega)
    obtain⟨n',dI,fc⟩:=CH (a:=d) (b:=t) (c:=b) (d:=r) t1 (by omega) hl;have Iq:=(fc.small t1 (by omega) hl).1;have M7:=fc.pos hd t1;have M3:=fc.1;obtain⟨jM,em⟩:=gg.unique hb hd B (JC ha hb hd iz (by rw[bd];exact t1) pw (by rw[aD,bd];exact fc));rw[aO] at jM;subst em;obtain⟨p,hp⟩:∃ v,q*m=v:=⟨_,rfl⟩;rw[hp] at jM;have p0:0<=p:=by rw[<-hp];exact Int.mul_nonneg k7 (by omega)
    have fp:b4 p:=ku (by omega);have fm:b4 m:=ku (by omega);have Db:b4 dI:=ku (by omega);have fn:b4 n:=ku (by omega);have afu:Hid (∀ w,AA CW 66 #[q,d] w (aP (.tuple #[g,.bool true]) w)):=fun w=>Gm kZ fd af lq w
    have rJ:Hid (∀ w,AA CW 26 #[c,g] w (aP (.tuple #[t,.bool true]) w)):=fun w=>JS sy lq SR ft w
    have Mz:Hid (∀ w,AA CW 89 #[d,t,b,r] w (aP (.tuple #[m,dI]) w)):=fun w=>N9 k d t b r m dI (by omega) hd t1 (by omega) hl tq (by omega) sb (by omega) fc w
    have afv:Hid (∀ w,AA CW 66 #[q,m] w (aP (.tuple #[p,.bool true]) w)):=fun w=>Gm kZ fm hp fp w
    have zr:Hid (∀ w,AA CW 24 #[p,dI] w (aP (.tuple #[n,.bool true]) w)):=fun w=>JO fp Db jM.symm fn w
    clear aO aD k7 zO iB rb p3 mL sy fd kZ fr yf cT m0 bt A7 aE ha hb hd hle sa sb sc tq B fb z2 iz h0 h1 pv pw Ee t1 B0 hl ft af SR lq fc Iq M7 M3 jM hp p0 fp fm Db fn hu fu f1 aF fv aN bd;obtain⟨bU,dE⟩:=eo (((((((w.alloc (a)).alloc (b)).alloc (c)).alloc (d)).alloc (.cells #[false,(),(),(),()] 27)).alloc (.cells #[false,(),(),(),()] 27)));have bz:=Oy w (a) (b) (c) (d) (.cells #[false,(),(),(),()] 27) (.cells #[false,(),(),(),()] 27);have fe:Ext w bU:=by rw[dE];exact((((((aA _ _).trans (aA _ _)).trans (aA _ _)).trans (aA _ _)).trans (aA _ _)).trans (aA _ _))
    rw[<-dE] at bz;have EE:=hide fe;have aB:=hide dE;obtain⟨ag,bn,bh,bl,aJ,bx⟩:Box bU (w.heap.size) (ao a) (ai a) (ah a) (aj a) (ap a)/\Box bU ((w.heap.size+1)) (ao b) (ai b) (ah b) (aj b) (ap b)/\Box bU ((w.heap.size+1+1)) (ao c) (ai c) (ah c) (aj c) (ap c)/\Box bU ((w.heap.size+1+1+1)) (ao d) (ai d) (ah d) (aj d) (ap d)/\Box bU ((w.heap.size+1+1+1+1)) false 0 0 0 0/\Box bU ((w.heap.size+1+1+1+1+1)) false 0 0 0 0:=bz;clear dE fe;go_enter Tryz.func89,Tryz.ntmps89
    go_upto_region 1 with fail
    rw[<-aB.out];clear aB;have ga:w.heap.size<=w.heap.size:=Nat.le_refl _;obtain⟨g0,af⟩:∃ g,w.heap.size=g:=⟨_,rfl⟩;rw[af] at ag bn bh bl aJ bx |-;replace ga:w.heap.size<=g0:=Nat.le_of_eq af;clear af;have pK:=cx ag;have iU:=cx bn;go_upto_region 2 with (go_at_call 67;(with_reducible refine(tV.out _).mono ?_);rintro e aT ⟨rfl,ad⟩;clear pK iU;have ag:=ag.ext ad;have bn:=bn.ext ad;have bh:=bh.ext ad;have bl:=bl.ext ad;have aJ:=aJ.ext ad;have bx:=bx.ext ad;have EE:=hide (EE.out.trans ad);clear ad;have pK:=cx ag;have iU:=cx bn)
    clear pK iU;have bz:=e1 aT (q) (r);have gb:=ag.lt;have iL:=bn.lt;have iq:=bh.lt;have k6:=bl.lt;have jy:=aJ.lt;have jz:=bx.lt;have ad:=((aA aT (q)).trans (aA _ (r)));have ag:=ag.ext ad;have bn:=bn.ext ad;have bh:=bh.ext ad;have bl:=bl.ext ad;have aJ:=aJ.ext ad;have bx:=bx.ext ad;have EE:=hide (EE.out.trans ad);clear ad;obtain⟨mG,aK⟩:∃ W,W=((aT.alloc (q)).alloc (r)):=⟨_,rfl⟩;rw[<-aK] at bz EE ag bn bh bl aJ bx |-;obtain⟨g3,af⟩:∃ g,aT.heap.size=g:=⟨_,rfl⟩;rw[af] at bz gb iL iq k6 jy jz |-;obtain⟨bu,bE⟩:Box mG g3 (ao q) (ai q) (ah q) (aj q) (ap q)/\Box mG (g3+1) (ao r) (ai r) (ah r) (aj r) (ap r):=bz;clear aK af;have Nb:g0≠g3:=by omega
    have Hm:g0≠g3+1:=by omega
    have Uy:g0+1≠g3:=by omega
    have Ng:g0+1≠g3+1:=by omega
    have Uz:g0+1+1≠g3:=by omega
    have Ni:g0+1+1≠g3+1:=by omega
    have UC:g0+1+1+1≠g3:=by omega
    have UD:g0+1+1+1≠g3+1:=by omega
    have UF:g0+1+1+1+1≠g3:=by omega
    have Nk:g0+1+1+1+1≠g3+1:=by omega
    have UG:g0+1+1+1+1+1≠g3:=by omega
    have Np:g0+1+1+1+1+1≠g3+1:=by omega
    have pJ:=cx bE;go_upto_region 3 with (go_at_call 52;(with_reducible refine(mR.out _).mono ?_);rintro e bZ ⟨rfl,ad⟩;clear pJ;have ag:=ag.ext ad;have bn:=bn.ext ad;have bh:=bh.ext ad;have bl:=bl.ext ad;have aJ:=aJ.ext ad;have bx:=bx.ext ad;have bu:=bu.ext ad;have bE:=bE.ext ad;have EE:=hide (EE.out.trans ad);clear ad;have pJ:=cx bE)
    clear pJ;have vO:=ag.lt;have EC:=bn.lt;have zC:=bh.lt;have BF:=bl.lt;have BG:=aJ.lt;have BH:=bx.lt;have G_:=bu.lt;have G':=bE.lt;have nz:∀ c,Tag.so c∈[.q,.q,.q,.q,.q,.q,.so 0]->(fun _=>g3) c<bZ.heap.size:=by intro c hc;simp at hc;(try subst hc);(try simp only);omega
    refine rV [.q,.q,.q,.q,.q,.q,.so 0] [q,.agg #[ao 1,ai 1,ah 1,aj 1,ap 1],.tuple #[u,.bool true],.tuple #[u,.bool true],u,.bool true,rM] (fun _=>(.cells #[false,(),(),(),()] 27 (0,0))) (fun _=>(.cells #[ao u,ai u,ah u,aj u,ap u] 27 (0,0))) (fun _=>g3) (by kernel_rfl) (by kernel_rfl) (by kernel_rfl) rfl rfl nz (by intro c c' h1 h2 _;simp at h1 h2;omega) ?_ ?_
    ·refine⟨?_,?_,?_,?_,?_,?_,?_,trivial⟩
     ·refine Hr ?wb ?vp ?vw ?Dx;case vp=>exact rfl
      case wb=>exact(↑q)
      case vw=>exact rfl
      intro w' bj ha;have bu:Box w' g3 (ao q) (ai q) (ah q) (aj q) (ap q):=(ha 6 0 rfl (by kernel_rfl)).trans bu;have Py:=av bu;go_simp
     ·refine eJ ?Fe ?y3 ?y5 ?GR;case y3=>exact rfl
      case Fe=>exact(.agg #[ao 1,ai 1,ah 1,aj 1,ap 1])
      case y5=>exact rfl
      intro w' bj;go_simp;exact qJ.out w'
     ·refine eJ ?wh ?vq ?vx ?Dy;case vq=>exact rfl
      case wh=>exact(.tuple #[u,.bool true])
      case vx=>exact rfl
      intro w' bj;go_simp;exact TP.out w'
     ·refine eJ ?Aa ?y2 ?y4 ?K4;case y2=>exact rfl
      case Aa=>exact(.tuple #[u,.bool true])
      case y4=>exact rfl
      intro w' bj;go_simp
     ·refine eJ ?E_ ?Dn ?Ds ?Ss;case Dn=>exact rfl
      case E_=>exact(↑u)
      case Ds=>exact rfl
      intro w' bj;go_simp
     ·refine eJ ?Fa ?Dp ?Dt ?St;case Dp=>exact rfl
      case Fa=>exact(.bool true)
      case Dt=>exact rfl
      intro w' bj;go_simp
     ·refine qc (c:=0) (T:=?alT) (p:=?amu) (x:=?amE) ?OV ?OS ?Fb ?Dq ?Du ?GN ?K7 ?K_ ?Lc ?adA;case Dq=>exact rfl
      case Du=>exact rfl
      case OS=>exact(.cells #[ao u,ai u,ah u,aj u,ap u] 27 (0,0))
      case OV=>exact g3
      case Fb=>exact(↑u)
      case GN=>exact rfl
      case K7=>exact rfl
      case K_=>go_simp;rfl
      case Lc=>go_simp
      intro ρ w' hp hx hz;exact vX rfl hp hx (hz.trans bu)
    ·intro G F6 ae;have hS:=ae.same;have ag:=ag.same hS (by intro c hc;simp at hc;(try subst hc);(try simp only);omega);have bn:=bn.same hS (by intro c hc;simp at hc;(try subst hc);(try simp only);omega);have bh:=bh.same hS (by intro c hc;simp at hc;(try subst hc);(try simp only);omega);have bl:=bl.same hS (by intro c hc;simp at hc;(try subst hc);(try simp only);omega);have aJ:=aJ.same hS (by intro c hc;simp at hc;(try subst hc);(try simp only);omega);have bx:=bx.same hS (by intro c hc;simp at hc;(try subst hc);(try simp only);omega);have bE:=bE.same hS (by intro c hc;simp at hc;(try subst hc);(try simp only);omega);have jv:∀ c,Tag.so c∈[.q,.q,.q,.q,.q,.q,.so 0]->w.heap.size<=(fun _=>g3) c:=by intro c hc;simp at hc;(try subst hc);(try simp only);omega
     have EE:=hide (hS.ext' EE.out jv);have bu:Box F6 g3 (ao u) (ai u) (ah u) (aj u) (ap u):=ae.ep 6 (List.mem_range.2 (show 6<7 by decide)) 0 rfl;clear ae hS;simp only[nV,qf,ptrTo,Nat.zero_add,Nat.reduceAdd];go_upto_region 4 with fail
     have k_:=cx bl;have rW:=cx bu;go_upto_region 5 with (go_at_call 66;(with_reducible refine(BA.out _).mono ?_);rintro e cg ⟨rfl,ad⟩;clear k_ rW;have ag:=ag.ext ad;have bn:=bn.ext ad;have bh:=bh.ext ad;have bl:=bl.ext ad;have aJ:=aJ.ext ad;have bx:=bx.ext ad;have bu:=bu.ext ad;have bE:=bE.ext ad;have EE:=hide (EE.out.trans ad);clear ad;have k_:=cx bl;have rW:=cx bu)
     clear k_ rW;have bz:=axe cg (v);have gb:=ag.lt;have iL:=bn.lt;have iq:=bh.lt;have k6:=bl.lt;have jy:=aJ.lt;have jz:=bx.lt;have pA:=bu.lt;have pB:=bE.lt;have ad:=(aA cg (v));have ag:=ag.ext ad;have bn:=bn.ext ad;have bh:=bh.ext ad;have bl:=bl.ext ad;have aJ:=aJ.ext ad;have bx:=bx.ext ad;have bu:=bu.ext ad;have bE:=bE.ext ad;have EE:=hide (EE.out.trans ad);clear ad;obtain⟨oF,aK⟩:∃ W,W=(cg.alloc (v)):=⟨_,rfl⟩;rw[<-aK] at bz EE ag bn bh bl aJ bx bu bE |-;obtain⟨g8,af⟩:∃ g,cg.heap.size=g:=⟨_,rfl⟩;rw[af] at bz gb iL iq k6 jy jz pA pB |-;have df:Box oF g8 (ao v) (ai v) (ah v) (aj v) (ap v):=bz;clear aK af;have Nc:g0≠g8:=by omega
     have Nh:g0+1≠g8:=by omega
     have Nj:g0+1+1≠g8:=by omega
     have UE:g0+1+1+1≠g8:=by omega
     have Nl:g0+1+1+1+1≠g8:=by omega
     have Nq:g0+1+1+1+1+1≠g8:=by omega
     have Un:g3≠g8:=by omega
     have Uo:g3+1≠g8:=by omega
     have hV:=cx bh;have mY:=cx df;go_upto_region 7 with (go_at_call 28;(with_reducible refine(rI.out _).mono ?_);rintro e cN ⟨rfl,ad⟩;clear hV mY;have ag:=ag.ext ad;have bn:=bn.ext ad;have bh:=bh.ext ad;have bl:=bl.ext ad;have aJ:=aJ.ext ad;have bx:=bx.ext ad;have bu:=bu.ext ad;have bE:=bE.ext ad;have df:=df.ext ad;have EE:=hide (EE.out.trans ad);clear ad;have hV:=cx bh;have mY:=cx df)
     clear hV mY;have pK:=cx ag;have iU:=cx bn;go_upto_region 8 with (go_at_call 67;(with_reducible refine(tV.out _).mono ?_);rintro e B4 ⟨rfl,ad⟩;clear pK iU;have ag:=ag.ext ad;have bn:=bn.ext ad;have bh:=bh.ext ad;have bl:=bl.ext ad;have aJ:=aJ.ext ad;have bx:=bx.ext ad;have bu:=bu.ext ad;have bE:=bE.ext ad;have df:=df.ext ad;have EE:=hide (EE.out.trans ad);clear ad;have pK:=cx ag;have iU:=cx bn)
     clear pK iU;have bz:=e1 B4 (q) (r);have gb:=ag.lt;have iL:=bn.lt;have iq:=bh.lt;have k6:=bl.lt;have jy:=aJ.lt;have jz:=bx.lt;have pA:=bu.lt;have pB:=bE.lt;have qL:=df.lt;have ad:=((aA B4 (q)).trans (aA _ (r)));have ag:=ag.ext ad;have bn:=bn.ext ad;have bh:=bh.ext ad;have bl:=bl.ext ad;have aJ:=aJ.ext ad;have bx:=bx.ext ad;have bu:=bu.ext ad;have bE:=bE.ext ad;have df:=df.ext ad;have EE:=hide (EE.out.trans ad);clear ad;obtain⟨Ra,aK⟩:∃ W,W=((B4.alloc (q)).alloc (r)):=⟨_,rfl⟩;rw[<-aK] at bz EE ag bn bh bl aJ bx bu bE df |-;obtain⟨g12,af⟩:∃ g,B4.heap.size=g:=⟨_,rfl⟩;rw[af] at bz gb iL iq k6 jy jz pA pB qL |-;obtain⟨gW,ek⟩:Box Ra g12 (ao q) (ai q) (ah q) (aj q) (ap q)/\Box Ra (g12+1) (ao r) (ai r) (ah r) (aj r) (ap r):=bz;clear aK af;have aq':g0≠g12:=by omega
     have ag7:g0≠g12+1:=by omega
     have arj:g0+1≠g12:=by omega
     have ahc:g0+1≠g12+1:=by omega
     have ars:g0+1+1≠g12:=by omega
     have ahg:g0+1+1≠g12+1:=by omega
     have arB:g0+1+1+1≠g12:=by omega
     have arC:g0+1+1+1≠g12+1:=by omega
     have arL:g0+1+1+1+1≠g12:=by omega
     have ahi:g0+1+1+1+1≠g12+1:=by omega
     have arS:g0+1+1+1+1+1≠g12:=by omega
     have ahn:g0+1+1+1+1+1≠g12+1:=by omega
     have aqh:g3≠g12:=by omega
     have aqi:g3≠g12+1:=by omega
     have aqo:g3+1≠g12:=by omega
     have aqp:g3+1≠g12+1:=by omega
     have aqA:g8≠g12:=by omega
     have agX:g8≠g12+1:=by omega
     have k_:=cx bl;have Aj:=cx gW;go_upto_region 9 with (go_at_call 66;(with_reducible refine(afu.out _).mono ?_);rintro e xU ⟨rfl,ad⟩;clear k_ Aj;have ag:=ag.ext ad;have bn:=bn.ext ad;have bh:=bh.ext ad;have bl:=bl.ext ad;have aJ:=aJ.ext ad;have bx:=bx.ext ad;have bu:=bu.ext ad;have bE:=bE.ext ad;have df:=df.ext ad;have gW:=gW.ext ad;have ek:=ek.ext ad;have EE:=hide (EE.out.trans ad);clear ad;have k_:=cx bl;have Aj:=cx gW)
     clear k_ Aj;have bz:=axe xU (g);have gb:=ag.lt;have iL:=bn.lt;have iq:=bh.lt;have k6:=bl.lt;have jy:=aJ.lt;have jz:=bx.lt;have pA:=bu.lt;have pB:=bE.lt;have qL:=df.lt;have zA:=gW.lt;have zB:=ek.lt;have ad:=(aA xU (g));have ag:=ag.ext ad;have bn:=bn.ext ad;have bh:=bh.ext ad;have bl:=bl.ext ad;have aJ:=aJ.ext ad;have bx:=bx.ext ad;have bu:=bu.ext ad;have bE:=bE.ext ad;have df:=df.ext ad;have gW:=gW.ext ad;have ek:=ek.ext ad;have EE:=hide (EE.out.trans ad);clear ad;obtain⟨XY,aK⟩:∃ W,W=(xU.alloc (g)):=⟨_,rfl⟩;rw[<-aK] at bz EE ag bn bh bl aJ bx bu bE df gW ek |-;obtain⟨g15,af⟩:∃ g,xU.heap.size=g:=⟨_,rfl⟩;rw[af] at bz gb iL iq k6 jy jz pA pB qL zA zB |-;have e3:Box XY g15 (ao g) (ai g) (ah g) (aj g) (ap g):=bz;clear aK af;have ara:g0≠g15:=by omega
     have ark:g0+1≠g15:=by omega
     have aru:g0+1+1≠g15:=by omega
     have arD:g0+1+1+1≠g15:=by omega
     have arM:g0+1+1+1+1≠g15:=by omega
     have arT:g0+1+1+1+1+1≠g15:=by omega
     have aqj:g3≠g15:=by omega
     have aqq:g3+1≠g15:=by omega
     have aqB:g8≠g15:=by omega
     have aqH:g12≠g15:=by omega
     have aqM:g12+1≠g15:=by omega
     have hV:=cx bh;have PJ:=cx e3;go_upto_region 10 with (go_at_call 26;(with_reducible refine(rJ.out _).mono ?_);rintro e H2 ⟨rfl,ad⟩;clear hV PJ;have ag:=ag.ext ad;have bn:=bn.ext ad;have bh:=bh.ext ad;have bl:=bl.ext ad;have aJ:=aJ.ext ad;have bx:=bx.ext ad;have bu:=bu.ext ad;have bE:=bE.ext ad;have df:=df.ext ad;have gW:=gW.ext ad;have ek:=ek.ext ad;have e3:=e3.ext ad;have EE:=hide (EE.out.trans ad);clear ad;have hV:=cx bh;have PJ:=cx e3)
     clear hV PJ;have bz:=axe H2 (t);have gb:=ag.lt;have iL:=bn.lt;have iq:=bh.lt;have k6:=bl.lt;have jy:=aJ.lt;have jz:=bx.lt;have pA:=bu.lt;have pB:=bE.lt;have qL:=df.lt;have zA:=gW.lt;have zB:=ek.lt;have EB:=e3.lt;have ad:=(aA H2 (t));have ag:=ag.ext ad;have bn:=bn.ext ad;have bh:=bh.ext ad;have bl:=bl.ext ad;have aJ:=aJ.ext ad;have bx:=bx.ext ad;have bu:=bu.ext ad;have bE:=bE.ext ad;have df:=df.ext ad;have gW:=gW.ext ad;have ek:=ek.ext ad;have e3:=e3.ext ad;have EE:=hide (EE.out.trans ad);clear ad;obtain⟨X0,aK⟩:∃ W,W=(H2.alloc (t)):=⟨_,rfl⟩;rw[<-aK] at bz EE ag bn bh bl aJ bx bu bE df gW ek e3 |-;obtain⟨g18,af⟩:∃ g,H2.heap.size=g:=⟨_,rfl⟩;rw[af] at bz gb iL iq k6 jy jz pA pB qL zA zB EB |-;have lg:Box X0 g18 (ao t) (ai t) (ah t) (aj t) (ap t):=bz;clear aK af;have arb:g0≠g18:=by omega
     have arl:g0+1≠g18:=by omega
     have arv:g0+1+1≠g18:=by omega
     have arE:g0+1+1+1≠g18:=by omega
     have arN:g0+1+1+1+1≠g18:=by omega
     have arU:g0+1+1+1+1+1≠g18:=by omega
     have aqk:g3≠g18:=by omega
     have aqr:g3+1≠g18:=by omega
     have aqC:g8≠g18:=by omega
     have aqI:g12≠g18:=by omega
     have aqN:g12+1≠g18:=by omega
     have aqR:g15≠g18:=by omega
     have iU:=cx bn;have k_:=cx bl;have Ih:=cx ek;have PK:=cx lg;go_upto_region 11 with (go_at_call 89;(with_reducible refine(Mz.out _).mono ?_);rintro e H3 ⟨rfl,ad⟩;clear iU k_ Ih PK;have ag:=ag.ext ad;have bn:=bn.ext ad;have bh:=bh.ext ad;have bl:=bl.ext ad;have aJ:=aJ.ext ad;have bx:=bx.ext ad;have bu:=bu.ext ad;have bE:=bE.ext ad;have df:=df.ext ad;have gW:=gW.ext ad;have ek:=ek.ext ad;have e3:=e3.ext ad;have lg:=lg.ext ad;have EE:=hide (EE.out.trans ad);clear ad;have iU:=cx bn;have k_:=cx bl;have Ih:=cx ek;have PK:=cx lg)
     clear iU k_ Ih PK;have bz:=e1 H3 (m) (dI);have gb:=ag.lt;have iL:=bn.lt;have iq:=bh.lt;have k6:=bl.lt;have jy:=aJ.lt;have jz:=bx.lt;have pA:=bu.lt;have pB:=bE.lt;have qL:=df.lt;have zA:=gW.lt;have zB:=ek.lt;have EB:=e3.lt;have MQ:=lg.lt;have ad:=((aA H3 (m)).trans (aA _ (dI)));have ag:=ag.ext ad;have bn:=bn.ext ad;have bh:=bh.ext ad;have bl:=bl.ext ad;have aJ:=aJ.ext ad;have bx:=bx.ext ad;have bu:=bu.ext ad;have bE:=bE.ext ad;have df:=df.ext ad;have gW:=gW.ext ad;have ek:=ek.ext ad;have e3:=e3.ext ad;have lg:=lg.ext ad;have EE:=hide (EE.out.trans ad);clear ad;obtain⟨Rb,aK⟩:∃ W,W=((H3.alloc (m)).alloc (dI)):=⟨_,rfl⟩;rw[<-aK] at bz EE ag bn bh bl aJ bx bu bE df gW ek e3 lg |-;obtain⟨g21,af⟩:∃ g,H3.heap.size=g:=⟨_,rfl⟩;rw[af] at bz gb iL iq k6 jy jz pA pB qL zA zB EB MQ |-;obtain⟨nj,oA⟩:Box Rb g21 (ao m) (ai m) (ah m) (aj m) (ap m)/\Box Rb (g21+1) (ao dI) (ai dI) (ah dI) (aj dI) (ap dI):=bz;clear aK af;have arc:g0≠g21:=by omega
     have ard:g0≠g21+1:=by omega
     have arn:g0+1≠g21:=by omega
     have aro:g0+1≠g21+1:=by omega
     have arw:g0+1+1≠g21:=by omega
     have arx:g0+1+1≠g21+1:=by omega
     have arF:g0+1+1+1≠g21:=by omega
     have arG:g0+1+1+1≠g21+1:=by omega
     have arO:g0+1+1+1+1≠g21:=by omega
     have arP:g0+1+1+1+1≠g21+1:=by omega
     have arV:g0+1+1+1+1+1≠g21:=by omega
     have arW:g0+1+1+1+1+1≠g21+1:=by omega
     have aql:g3≠g21:=by omega
     have aqm:g3≠g21+1:=by omega
     have aqs:g3+1≠g21:=by omega
     have aqt:g3+1≠g21+1:=by omega
     have aqD:g8≠g21:=by omega
     have aqE:g8≠g21+1:=by omega
     have aqJ:g12≠g21:=by omega
     have aqK:g12≠g21+1:=by omega
     have aqO:g12+1≠g21:=by omega
     have aqP:g12+1≠g21+1:=by omega
     have aqS:g15≠g21:=by omega
     have aqT:g15≠g21+1:=by omega
     have aqV:g18≠g21:=by omega
     have aqW:g18≠g21+1:=by omega
     have Aj:=cx gW;have PL:=cx nj;go_upto_region 12 with (go_at_call 66;(with_reducible refine(afv.out _).mono ?_);rintro e tA ⟨rfl,ad⟩;clear Aj PL;have ag:=ag.ext ad;have bn:=bn.ext ad;have bh:=bh.ext ad;have bl:=bl.ext ad;have aJ:=aJ.ext ad;have bx:=bx.ext ad;have bu:=bu.ext ad;have bE:=bE.ext ad;have df:=df.ext ad;have gW:=gW.ext ad;have ek:=ek.ext ad;have e3:=e3.ext ad;have lg:=lg.ext ad;have nj:=nj.ext ad;have oA:=oA.ext ad;have EE:=hide (EE.out.trans ad);clear ad;have Aj:=cx gW;have PL:=cx nj)
     clear Aj PL;have bz:=axe tA (p);have gb:=ag.lt;have iL:=bn.lt;have iq:=bh.lt;have k6:=bl.lt;have jy:=aJ.lt;have jz:=bx.lt;have pA:=bu.lt;have pB:=bE.lt;have qL:=df.lt;have zA:=gW.lt;have zB:=ek.lt;have EB:=e3.lt;have MQ:=lg.lt;have afS:=nj.lt;have afT:=oA.lt;have ad:=(aA tA (p));have ag:=ag.ext ad;have bn:=bn.ext ad;have bh:=bh.ext ad;have bl:=bl.ext ad;have aJ:=aJ.ext ad;have bx:=bx.ext ad;have bu:=bu.ext ad;have bE:=bE.ext ad;have df:=df.ext ad;have gW:=gW.ext ad;have ek:=ek.ext ad;have e3:=e3.ext ad;have lg:=lg.ext ad;have nj:=nj.ext ad;have oA:=oA.ext ad;have EE:=hide (EE.out.trans ad);clear ad;obtain⟨X2,aK⟩:∃ W,W=(tA.alloc (p)):=⟨_,rfl⟩;rw[<-aK] at bz EE ag bn bh bl aJ bx bu bE df gW ek e3 lg nj oA |-;obtain⟨g24,af⟩:∃ g,tA.heap.size=g:=⟨_,rfl⟩;rw[af] at bz gb iL iq k6 jy jz pA pB qL zA zB EB MQ afS afT |-;have qu:Box X2 g24 (ao p) (ai p) (ah p) (aj p) (ap p):=bz;clear aK af;have arf:g0≠g24:=by omega
     have arp:g0+1≠g24:=by omega
     have ary:g0+1+1≠g24:=by omega
     have arH:g0+1+1+1≠g24:=by omega
     have arQ:g0+1+1+1+1≠g24:=by omega
     have arX:g0+1+1+1+1+1≠g24:=by omega
     have aqn:g3≠g24:=by omega
     have aqu:g3+1≠g24:=by omega
     have aqF:g8≠g24:=by omega
     have aqL:g12≠g24:=by omega
     have aqQ:g12+1≠g24:=by omega
     have aqU:g15≠g24:=by omega
     have aqX:g18≠g24:=by omega
     have aqY:g21≠g24:=by omega
     have aqZ:g21+1≠g24:=by omega
     have PN:=cx oA;have PO:=av qu;go_upto_region 13 with (go_at_call 24;(with_reducible refine(zr.out _).mono ?_);rintro e Pr ⟨rfl,ad⟩;clear PN;clear PO;have ag:=ag.ext ad;have bn:=bn.ext ad;have bh:=bh.ext ad;have bl:=bl.ext ad;have aJ:=aJ.ext ad;have bx:=bx.ext ad;have bu:=bu.ext ad;have bE:=bE.ext ad;have df:=df.ext ad;have gW:=gW.ext ad;have ek:=ek.ext ad;have e3:=e3.ext ad;have lg:=lg.ext ad;have nj:=nj.ext ad;have oA:=oA.ext ad;have qu:=qu.ext ad;have EE:=hide (EE.out.trans ad);clear ad;have PN:=cx oA;have PO:=av qu)
     clear PN;clear PO;have hn:g0≠g24:=by omega
     have ag:=ag.cI hn (.bool (ao n)) (.int .u64 (ai n:Int)) (.int .u64 (ah n:Int)) (.int .u64 (aj n:Int)) (.int .u64 (ap n:Int));clear hn;have hn:g0+1≠g24:=by omega
     have bn:=bn.cI hn (.bool (ao n)) (.int .u64 (ai n:Int)) (.int .u64 (ah n:Int)) (.int .u64 (aj n:Int)) (.int .u64 (ap n:Int));clear hn;have hn:g0+1+1≠g24:=by omega
     have bh:=bh.cI hn (.bool (ao n)) (.int .u64 (ai n:Int)) (.int .u64 (ah n:Int)) (.int .u64 (aj n:Int)) (.int .u64 (ap n:Int));clear hn;have hn:g0+1+1+1≠g24:=by omega
     have bl:=bl.cI hn (.bool (ao n)) (.int .u64 (ai n:Int)) (.int .u64 (ah n:Int)) (.int .u64 (aj n:Int)) (.int .u64 (ap n:Int));clear hn;have hn:g0+1+1+1+1≠g24:=by omega
     have aJ:=aJ.cI hn (.bool (ao n)) (.int .u64 (ai n:Int)) (.int .u64 (ah n:Int)) (.int .u64 (aj n:Int)) (.int .u64 (ap n:Int));clear hn;have hn:g0+1+1+1+1+1≠g24:=by omega
     have bx:=bx.cI hn (.bool (ao n)) (.int .u64 (ai n:Int)) (.int .u64 (ah n:Int)) (.int .u64 (aj n:Int)) (.int .u64 (ap n:Int));clear hn;have hn:g3≠g24:=by omega
     have bu:=bu.cI hn (.bool (ao n)) (.int .u64 (ai n:Int)) (.int .u64 (ah n:Int)) (.int .u64 (aj n:Int)) (.int .u64 (ap n:Int));clear hn;have hn:g3+1≠g24:=by omega
     have bE:=bE.cI hn (.bool (ao n)) (.int .u64 (ai n:Int)) (.int .u64 (ah n:Int)) (.int .u64 (aj n:Int)) (.int .u64 (ap n:Int));clear hn;have hn:g8≠g24:=by omega
     have df:=df.cI hn (.bool (ao n)) (.int .u64 (ai n:Int)) (.int .u64 (ah n:Int)) (.int .u64 (aj n:Int)) (.int .u64 (ap n:Int));clear hn;have hn:g12≠g24:=by omega
     have gW:=gW.cI hn (.bool (ao n)) (.int .u64 (ai n:Int)) (.int .u64 (ah n:Int)) (.int .u64 (aj n:Int)) (.int .u64 (ap n:Int));clear hn;have hn:g12+1≠g24:=by omega
     have ek:=ek.cI hn (.bool (ao n)) (.int .u64 (ai n:Int)) (.int .u64 (ah n:Int)) (.int .u64 (aj n:Int)) (.int .u64 (ap n:Int));clear hn;have hn:g15≠g24:=by omega
     have e3:=e3.cI hn (.bool (ao n)) (.int .u64 (ai n:Int)) (.int .u64 (ah n:Int)) (.int .u64 (aj n:Int)) (.int .u64 (ap n:Int));clear hn;have hn:g18≠g24:=by omega
     have lg:=lg.cI hn (.bool (ao n)) (.int .u64 (ai n:Int)) (.int .u64 (ah n:Int)) (.int .u64 (aj n:Int)) (.int .u64 (ap n:Int));clear hn;have hn:g21≠g24:=by omega
     have nj:=nj.cI hn (.bool (ao n)) (.int .u64 (ai n:Int)) (.int .u64 (ah n:Int)) (.int .u64 (aj n:Int)) (.int .u64 (ap n:Int));clear hn;have hn:g21+1≠g24:=by omega
     have oA:=oA.cI hn (.bool (ao n)) (.int .u64 (ai n:Int)) (.int .u64 (ah n:Int)) (.int .u64 (aj n:Int)) (.int .u64 (ap n:Int));clear hn;have qu:=qu.put (t:=ao n) (a':=ai n) (b':=ah n) (c':=aj n) (d':=ap n);have EE:=hide (dr EE.out (b:=g24) (by omega) (.bool (ao n)) (.int .u64 (ai n:Int)) (.int .u64 (ah n:Int)) (.int .u64 (aj n:Int)) (.int .u64 (ap n:Int)));obtain⟨X3,aK⟩:∃ W,W=(((((Pr.setCell ⟨g24,0,none⟩ (.bool (ao n))).setCell ⟨g24,1,none⟩ (.int .u64 (ai n:Int))).setCell ⟨g24,2,none⟩ (.int .u64 (ah n:Int))).setCell ⟨g24,3,none⟩ (.int .u64 (aj n:Int))).setCell ⟨g24,4,none⟩ (.int .u64 (ap n:Int))):=⟨_,rfl⟩;rw[<-aK] at EE ag bn bh bl aJ bx bu bE df gW ek e3 lg nj oA qu |-;clear aK;have vO:=ag.lt;have EC:=bn.lt;have zC:=bh.lt;have BF:=bl.lt;have BG:=aJ.lt;have BH:=bx.lt;have G_:=bu.lt;have G':=bE.lt;have TW:=df.lt;have ap8:=gW.lt;have ap9:=ek.lt;have ap_:=e3.lt;have ap':=lg.lt;have aqa:=nj.lt;have aqb:=oA.lt;have aqc:=qu.lt;have nz:∀ c,Tag.so c∈[.q,.q,.so 0,.so 1]->(fun i=>match i with|0=>g0+1+1+1+1|_=>g0+1+1+1+1+1) c<X3.heap.size:=by intro c hc;simp at hc;rcases hc with rfl|rfl<;>(try simp only)<;>omega
     refine rV [.q,.q,.so 0,.so 1] [n,m,rM,rM] (fun _=>(.cells #[false,(),(),(),()] 27 (0,0))) (fun i=>match i with|2=>(.cells #[ao n,ai n,ah n,aj n,ap n] 27 (0,0))|_=>(.cells #[ao m,ai m,ah m,aj m,ap m] 27 (0,0))) (fun i=>match i with|0=>g0+1+1+1+1|_=>g0+1+1+1+1+1) (by kernel_rfl) (by kernel_rfl) (by kernel_rfl) rfl rfl nz (by intro c c' h1 h2 h3;simp at h1 h2;rcases h1 with rfl|rfl<;>rcases h2 with rfl|rfl<;>simp only at h3<;>omega) ?_ ?_
     ·refine⟨?_,?_,?_,?_,trivial⟩
      ·refine eJ ?O2 ?KI ?KT ?acV;case KI=>exact rfl
       case O2=>exact(↑n)
       case KT=>exact rfl
       intro w' bj;have qu:=qu.same bj (by intro c hc;simp at hc;rcases hc with rfl|rfl<;>(try simp only)<;>omega);have Ig:=av qu;go_simp
      ·refine eJ ?O4 ?KJ ?KU ?Sv;case KJ=>exact rfl
       case O4=>exact(↑m)
       case KU=>exact rfl
       intro w' bj;have nj:=nj.same bj (by intro c hc;simp at hc;rcases hc with rfl|rfl<;>(try simp only)<;>omega);have Ie:=av nj;go_simp
      ·refine qc (c:=0) (T:=?asr) (p:=?asD) (x:=?asO) ?al8 ?alX ?O5 ?KL ?KW ?Sw ?ac5 ?adg ?adt ?apa;case KL=>exact rfl
       case KW=>exact rfl
       case alX=>exact(.cells #[ao n,ai n,ah n,aj n,ap n] 27 (0,0))
       case al8=>exact g0+1+1+1+1
       case O5=>exact(↑n)
       case Sw=>exact rfl
       case ac5=>exact rfl
       case adg=>go_simp;rfl
       case adt=>go_simp
       intro ρ w' hp hx hz;exact vX rfl hp hx (hz.trans aJ)
      ·refine qc (c:=1) (T:=?alU) (p:=?amv) (x:=?amF) ?OW ?OT ?O6 ?KM ?KX ?K5 ?K8 ?K' ?Ld ?adB;case KM=>exact rfl
       case KX=>exact rfl
       case OT=>exact(.cells #[ao m,ai m,ah m,aj m,ap m] 27 (0,0))
       case OW=>exact g0+1+1+1+1+1
       case O6=>exact(↑m)
       case K5=>exact rfl
       case K8=>exact rfl
       case K'=>go_simp;rfl
       case Ld=>go_simp
       intro ρ w' hp hx hz;exact vX rfl hp hx (hz.trans bx)
     ·intro G Rc ae;have hS:=ae.same;have ag:=ag.same hS (by intro c hc;simp at hc;rcases hc with rfl|rfl<;>(try simp only)<;>omega);have bn:=bn.same hS (by intro c hc;simp at hc;rcases hc with rfl|rfl<;>(try simp only)<;>omega);have bh:=bh.same hS (by intro c hc;simp at hc;rcases hc with rfl|rfl<;>(try simp only)<;>omega);have bl:=bl.same hS (by intro c hc;simp at hc;rcases hc with rfl|rfl<;>(try simp only)<;>omega);have bu:=bu.same hS (by intro c hc;simp at hc;rcases hc with rfl|rfl<;>(try simp only)<;>omega);have bE:=bE.same hS (by intro c hc;simp at hc;rcases hc with rfl|rfl<;>(try simp only)<;>omega);have df:=df.same hS (by intro c hc;simp at hc;rcases hc with rfl|rfl<;>(try simp only)<;>omega);have gW:=gW.same hS (by intro c hc;simp at hc;rcases hc with rfl|rfl<;>(try simp only)<;>omega);have ek:=ek.same hS (by intro c hc;simp at hc;rcases hc with rfl|rfl<;>(try simp only)<;>omega);have e3:=e3.same hS (by intro c hc;simp at hc;rcases hc with rfl|rfl<;>(try simp only)<;>omega);have lg:=lg.same hS (by intro c hc;simp at hc;rcases hc with rfl|rfl<;>(try simp only)<;>omega);have nj:=nj.same hS (by intro c hc;simp at hc;rcases hc with rfl|rfl<;>(try simp only)<;>omega);have oA:=oA.same hS (by intro c hc;simp at hc;rcases hc with rfl|rfl<;>(try simp only)<;>omega);have qu:=qu.same hS (by intro c hc;simp at hc;rcases hc with rfl|rfl<;>(try simp only)<;>omega);have jv:∀ c,Tag.so c∈[.q,.q,.so 0,.so 1]->w.heap.size<=(fun i=>match i with|0=>g0+1+1+1+1|_=>g0+1+1+1+1+1) c:=by intro c hc;simp at hc;rcases hc with rfl|rfl<;>(try simp only)<;>omega
      have EE:=hide (hS.ext' EE.out jv);have aJ:Box Rc (g0+1+1+1+1) (ao n) (ai n) (ah n) (aj n) (ap n):=ae.ep 2 (List.mem_range.2 (show 2<4 by decide)) 0 rfl;have bx:Box Rc (g0+1+1+1+1+1) (ao m) (ai m) (ah m) (aj m) (ap m):=ae.ep 3 (List.mem_range.2 (show 3<4 by decide)) 1 rfl;clear ae hS;simp only[nV,qf,ptrTo,Nat.zero_add,Nat.reduceAdd];go_wp2_with fail
      obtain⟨Fo,Fp,Fq,Fs,Ft,Ww,Wx,Wy,Wz,WA⟩:=av aJ;obtain⟨Fu,Fv,Fw,Fx,Fy,WB,WC,WD,WE,WG⟩:=av bx;exact B7 (v:=.tuple #[n,m]) (by simp[results,Tryz.results89,go_sem,Fo,Fp,Fq,Fs,Ft,Fu,Fv,Fw,Fx,Fy]) rfl ⟨rfl,EE.out⟩
   ·have pw:a / b≠c / d:=by rw[aO];exact h1
    have Ee:v<=c:=pv.2 pw;have rA:j<=0:=by
     rcases Int.lt_or_le 0 j with h|h;· have:=(uT aN).2.2.1 h;omega
     ·exact h
    obtain⟨jM,em⟩:=gg.unique hb hd B (Gb ha hb hd hle iz pw);rw[aO,hu] at jM;subst jM em;clear aO aD k7 zO iB rb p3 mL sy fd kZ fr yf cT m0 bt A7 aE ha hb hd hle sa sb sc tq B iz h0 h1 pv pw Ee hu fu f1 aF fv aN;obtain⟨bU,dE⟩:=eo (((((((w.alloc (a)).alloc (b)).alloc (c)).alloc (d)).alloc (.cells #[false,(),(),(),()] 27)).alloc (.cells #[false,(),(),(),()] 27)));have bz:=Oy w (a) (b) (c) (d) (.cells #[false,(),(),(),()] 27) (.cells #[false,(),(),(),()] 27);have fe:Ext w bU:=by rw[dE];exact((((((aA _ _).trans (aA _ _)).trans (aA _ _)).trans (aA _ _)).trans (aA _ _)).trans (aA _ _))
    rw[<-dE] at bz;have EE:=hide fe;have aB:=hide dE;obtain⟨ag,bn,bh,bl,aJ,bx⟩:Box bU (w.heap.size) (ao a) (ai a) (ah a) (aj a) (ap a)/\Box bU ((w.heap.size+1)) (ao b) (ai b) (ah b) (aj b) (ap b)/\Box bU ((w.heap.size+1+1)) (ao c) (ai c) (ah c) (aj c) (ap c)/\Box bU ((w.heap.size+1+1+1)) (ao d) (ai d) (ah d) (aj d) (ap d)/\Box bU ((w.heap.size+1+1+1+1)) false 0 0 0 0/\Box bU ((w.heap.size+1+1+1+1+1)) false 0 0 0 0:=bz;clear dE fe;go_enter Tryz.func89,Tryz.ntmps89
    go_upto_region 1 with fail
    rw[<-aB.out];clear aB;have ga:w.heap.size<=w.heap.size:=Nat.le_refl _;obtain⟨g0,af⟩:∃ g,w.heap.size=g:=⟨_,rfl⟩;rw[af] at ag bn bh bl aJ bx |-;replace ga:w.heap.size<=g0:=Nat.le_of_eq af;clear af;have pK:=cx ag;have iU:=cx bn;go_upto_region 2 with (go_at_call 67;(with_reducible refine(tV.out _).mono ?_);rintro e aT ⟨rfl,ad⟩;clear pK iU;have ag:=ag.ext ad;have bn:=bn.ext ad;have bh:=bh.ext ad;have bl:=bl.ext ad;have aJ:=aJ.ext ad;have bx:=bx.ext ad;have EE:=hide (EE.out.trans ad);clear ad;have pK:=cx ag;have iU:=cx bn)
    clear pK iU;have bz:=e1 aT (q) (r);have gb:=ag.lt;have iL:=bn.lt;have iq:=bh.lt;have k6:=bl.lt;have jy:=aJ.lt;have jz:=bx.lt;have ad:=((aA aT (q)).trans (aA _ (r)));have ag:=ag.ext ad;have bn:=bn.ext ad;have bh:=bh.ext ad;have bl:=bl.ext ad;have aJ:=aJ.ext ad;have bx:=bx.ext ad;have EE:=hide (EE.out.trans ad);clear ad;obtain⟨mG,aK⟩:∃ W,W=((aT.alloc (q)).alloc (r)):=⟨_,rfl⟩;rw[<-aK] at bz EE ag bn bh bl aJ bx |-;obtain⟨g3,af⟩:∃ g,aT.heap.size=g:=⟨_,rfl⟩;rw[af] at bz gb iL iq k6 jy jz |-;obtain⟨bu,bE⟩:Box mG g3 (ao q) (ai q) (ah q) (aj q) (ap q)/\Box mG (g3+1) (ao r) (ai r) (ah r) (aj r) (ap r):=bz;clear aK af;have Nb:g0≠g3:=by omega
    have Hm:g0≠g3+1:=by omega
    have Uy:g0+1≠g3:=by omega
    have Ng:g0+1≠g3+1:=by omega
    have Uz:g0+1+1≠g3:=by omega
    have Ni:g0+1+1≠g3+1:=by omega
    have UC:g0+1+1+1≠g3:=by omega
    have UD:g0+1+1+1≠g3+1:=by omega
    have UF:g0+1+1+1+1≠g3:=by omega
    have Nk:g0+1+1+1+1≠g3+1:=by omega
    have UG:g0+1+1+1+1+1≠g3:=by omega
    have Np:g0+1+1+1+1+1≠g3+1:=by omega
    have pJ:=cx bE;go_upto_region 3 with (go_at_call 52;(with_reducible refine(mR.out _).mono ?_);rintro e bZ ⟨rfl,ad⟩;clear pJ;have ag:=ag.ext ad;have bn:=bn.ext ad;have bh:=bh.ext ad;have bl:=bl.ext ad;have aJ:=aJ.ext ad;have bx:=bx.ext ad;have bu:=bu.ext ad;have bE:=bE.ext ad;have EE:=hide (EE.out.trans ad);clear ad;have pJ:=cx bE)
    clear pJ;have vO:=ag.lt;have EC:=bn.lt;have zC:=bh.lt;have BF:=bl.lt;have BG:=aJ.lt;have BH:=bx.lt;have G_:=bu.lt;have G':=bE.lt;have nz:∀ c,Tag.so c∈[.q,.q,.q,.q,.q,.q,.so 0]->(fun _=>g3) c<bZ.heap.size:=by intro c hc;simp at hc;(try subst hc);(try simp only);omega
    refine rV [.q,.q,.q,.q,.q,.q,.so 0] [q,.agg #[ao 1,ai 1,ah 1,aj 1,ap 1],.tuple #[n,.bool true],.tuple #[n,.bool true],n,.bool true,rM] (fun _=>(.cells #[false,(),(),(),()] 27 (0,0))) (fun _=>(.cells #[ao n,ai n,ah n,aj n,ap n] 27 (0,0))) (fun _=>g3) (by kernel_rfl) (by kernel_rfl) (by kernel_rfl) rfl rfl nz (by intro c c' h1 h2 _;simp at h1 h2;omega) ?_ ?_
    ·refine⟨?_,?_,?_,?_,?_,?_,?_,trivial⟩
     ·refine Hr ?O7 ?KN ?KY ?acW;case KN=>exact rfl
      case O7=>exact(↑q)
      case KY=>exact rfl
      intro w' bj ha;have bu:Box w' g3 (ao q) (ai q) (ah q) (aj q) (ap q):=(ha 6 0 rfl (by kernel_rfl)).trans bu;have Py:=av bu;go_simp
     ·refine eJ ?O8 ?KO ?KZ ?acX;case KO=>exact rfl
      case O8=>exact(.agg #[ao 1,ai 1,ah 1,aj 1,ap 1])
      case KZ=>exact rfl
      intro w' bj;go_simp;exact qJ.out w'
     ·refine eJ ?O9 ?KP ?K0 ?acY;case KP=>exact rfl
      case O9=>exact(.tuple #[n,.bool true])
      case K0=>exact rfl
      intro w' bj;go_simp;exact TP.out w'
     ·refine eJ ?O_ ?KQ ?K1 ?acZ;case KQ=>exact rfl
      case O_=>exact(.tuple #[n,.bool true])
      case K1=>exact rfl
      intro w' bj;go_simp
     ·refine eJ ?O' ?KR ?K2 ?Sx;case KR=>exact rfl
      case O'=>exact(↑n)
      case K2=>exact rfl
      intro w' bj;go_simp
     ·refine eJ ?Pb ?KS ?K3 ?ac0;case KS=>exact rfl
      case Pb=>exact(.bool true)
      case K3=>exact rfl
      intro w' bj;go_simp
     ·refine qc (c:=0) (T:=?asu) (p:=?asF) (x:=?asQ) ?al_ ?alZ ?amy ?acH ?acP ?ac1 ?ac7 ?adi ?adv ?apc;case acH=>exact rfl
      case acP=>exact rfl
      case alZ=>exact(.cells #[ao n,ai n,ah n,aj n,ap n] 27 (0,0))
      case al_=>exact g3
      case amy=>exact(↑n)
      case ac1=>exact rfl
      case ac7=>exact rfl
      case adi=>go_simp;rfl
      case adv=>go_simp
      intro ρ w' hp hx hz;exact vX rfl hp hx (hz.trans bu)
    ·intro G F6 ae;have hS:=ae.same;have ag:=ag.same hS (by intro c hc;simp at hc;(try subst hc);(try simp only);omega);have bn:=bn.same hS (by intro c hc;simp at hc;(try subst hc);(try simp only);omega);have bh:=bh.same hS (by intro c hc;simp at hc;(try subst hc);(try simp only);omega);have bl:=bl.same hS (by intro c hc;simp at hc;(try subst hc);(try simp only);omega);have aJ:=aJ.same hS (by intro c hc;simp at hc;(try subst hc);(try simp only);omega);have bx:=bx.same hS (by intro c hc;simp at hc;(try subst hc);(try simp only);omega);have bE:=bE.same hS (by intro c hc;simp at hc;(try subst hc);(try simp only);omega);have jv:∀ c,Tag.so c∈[.q,.q,.q,.q,.q,.q,.so 0]->w.heap.size<=(fun _=>g3) c:=by intro c hc;simp at hc;(try subst hc);(try simp only);omega
     have EE:=hide (hS.ext' EE.out jv);have bu:Box F6 g3 (ao n) (ai n) (ah n) (aj n) (ap n):=ae.ep 6 (List.mem_range.2 (show 6<7 by decide)) 0 rfl;clear ae hS;simp only[nV,qf,ptrTo,Nat.zero_add,Nat.reduceAdd];go_upto_region 4 with fail
     have k_:=cx bl;have rW:=cx bu;go_upto_region 5 with (go_at_call 66;(with_reducible refine(BA.out _).mono ?_);rintro e cg ⟨rfl,ad⟩;clear k_ rW;have ag:=ag.ext ad;have bn:=bn.ext ad;have bh:=bh.ext ad;have bl:=bl.ext ad;have aJ:=aJ.ext ad;have bx:=bx.ext ad;have bu:=bu.ext ad;have bE:=bE.ext ad;have EE:=hide (EE.out.trans ad);clear ad;have k_:=cx bl;have rW:=cx bu)
     clear k_ rW;have bz:=axe cg (v);have gb:=ag.lt;have iL:=bn.lt;have iq:=bh.lt;have k6:=bl.lt;have jy:=aJ.lt;have jz:=bx.lt;have pA:=bu.lt;have pB:=bE.lt;have ad:=(aA cg (v));have ag:=ag.ext ad;have bn:=bn.ext ad;have bh:=bh.ext ad;have bl:=bl.ext ad;have aJ:=aJ.ext ad;have bx:=bx.ext ad;have bu:=bu.ext ad;have bE:=bE.ext ad;have EE:=hide (EE.out.trans ad);clear ad;obtain⟨oF,aK⟩:∃ W,W=(cg.alloc (v)):=⟨_,rfl⟩;rw[<-aK] at bz EE ag bn bh bl aJ bx bu bE |-;obtain⟨g8,af⟩:∃ g,cg.heap.size=g:=⟨_,rfl⟩;rw[af] at bz gb iL iq k6 jy jz pA pB |-;have df:Box oF g8 (ao v) (ai v) (ah v) (aj v) (ap v):=bz;clear aK af;have Nc:g0≠g8:=by omega
     have Nh:g0+1≠g8:=by omega
     have Nj:g0+1+1≠g8:=by omega
     have UE:g0+1+1+1≠g8:=by omega
     have Nl:g0+1+1+1+1≠g8:=by omega
     have Nq:g0+1+1+1+1+1≠g8:=by omega
     have Un:g3≠g8:=by omega
     have Uo:g3+1≠g8:=by omega
     have hV:=cx bh;have mY:=cx df;go_upto_region 6 with (go_at_call 28;(with_reducible refine(rI.out _).mono ?_);rintro e cN ⟨rfl,ad⟩;clear hV mY;have ag:=ag.ext ad;have bn:=bn.ext ad;have bh:=bh.ext ad;have bl:=bl.ext ad;have aJ:=aJ.ext ad;have bx:=bx.ext ad;have bu:=bu.ext ad;have bE:=bE.ext ad;have df:=df.ext ad;have EE:=hide (EE.out.trans ad);clear ad;have hV:=cx bh;have mY:=cx df)
     clear hV mY;have vO:=ag.lt;have EC:=bn.lt;have zC:=bh.lt;have BF:=bl.lt;have BG:=aJ.lt;have BH:=bx.lt;have G_:=bu.lt;have G':=bE.lt;have TW:=df.lt;have nz:∀ c,Tag.so c∈[.q,.q,.so 0,.so 1]->(fun i=>match i with|0=>g0+1+1+1+1|_=>g0+1+1+1+1+1) c<cN.heap.size:=by intro c hc;simp at hc;rcases hc with rfl|rfl<;>(try simp only)<;>omega
     refine rV [.q,.q,.so 0,.so 1] [n,.agg #[ao 1,ai 1,ah 1,aj 1,ap 1],rM,rM] (fun _=>(.cells #[false,(),(),(),()] 27 (0,0))) (fun i=>match i with|2=>(.cells #[ao n,ai n,ah n,aj n,ap n] 27 (0,0))|_=>(.cells #[ao 1,ai 1,ah 1,aj 1,ap 1] 27 (0,0))) (fun i=>match i with|0=>g0+1+1+1+1|_=>g0+1+1+1+1+1) (by kernel_rfl) (by kernel_rfl) (by kernel_rfl) rfl rfl nz (by intro c c' h1 h2 h3;simp at h1 h2;rcases h1 with rfl|rfl<;>rcases h2 with rfl|rfl<;>simp only at h3<;>omega) ?_ ?_
     ·refine⟨?_,?_,?_,?_,trivial⟩
      ·refine eJ ?amA ?acI ?acQ ?ao6;case acI=>exact rfl
       case amA=>exact(↑n)
       case acQ=>exact rfl
       intro w' bj;have bu:=bu.same bj (by intro c hc;simp at hc;rcases hc with rfl|rfl<;>(try simp only)<;>omega);have Py:=av bu;go_simp
      ·refine eJ ?amB ?acJ ?acR ?ao7;case acJ=>exact rfl
       case amB=>exact(.agg #[ao 1,ai 1,ah 1,aj 1,ap 1])
       case acR=>exact rfl
       intro w' bj;go_simp;exact qJ.out w'
      ·refine qc (c:=0) (T:=?asv) (p:=?asG) (x:=?asR) ?al' ?al0 ?amC ?acK ?acS ?ac2 ?ac8 ?adj ?adw ?apd;case acK=>exact rfl
       case acS=>exact rfl
       case al0=>exact(.cells #[ao n,ai n,ah n,aj n,ap n] 27 (0,0))
       case al'=>exact g0+1+1+1+1
       case amC=>exact(↑n)
       case ac2=>exact rfl
       case ac8=>exact rfl
       case adj=>go_simp;rfl
       case adw=>go_simp
       intro ρ w' hp hx hz;exact vX rfl hp hx (hz.trans aJ)
      ·refine qc (c:=1) (T:=?asw) (p:=?asH) (x:=?asT) ?ama ?al1 ?amD ?acL ?acT ?ac3 ?ac9 ?adk ?adx ?ape;case acL=>exact rfl
       case acT=>exact rfl
       case al1=>exact(.cells #[ao 1,ai 1,ah 1,aj 1,ap 1] 27 (0,0))
       case ama=>exact g0+1+1+1+1+1
       case amD=>exact(.agg #[ao 1,ai 1,ah 1,aj 1,ap 1])
       case ac3=>exact rfl
       case ac9=>exact rfl
       case adk=>go_simp;rfl
       case adx=>go_simp
       intro ρ w' hp hx hz;exact vX rfl hp hx (hz.trans bx)
     ·intro G AV ae;have hS:=ae.same;have ag:=ag.same hS (by intro c hc;simp at hc;rcases hc with rfl|rfl<;>(try simp only)<;>omega);have bn:=bn.same hS (by intro c hc;simp at hc;rcases hc with rfl|rfl<;>(try simp only)<;>omega);have bh:=bh.same hS (by intro c hc;simp at hc;rcases hc with rfl|rfl<;>(try simp only)<;>omega);have bl:=bl.same hS (by intro c hc;simp at hc;rcases hc with rfl|rfl<;>(try simp only)<;>omega);have bu:=bu.same hS (by intro c hc;simp at hc;rcases hc with rfl|rfl<;>(try simp only)<;>omega);have bE:=bE.same hS (by intro c hc;simp at hc;rcases hc with rfl|rfl<;>(try simp only)<;>omega);have df:=df.same hS (by intro c hc;simp at hc;rcases hc with rfl|rfl<;>(try simp only)<;>omega);have jv:∀ c,Tag.so c∈[.q,.q,.so 0,.so 1]->w.heap.size<=(fun i=>match i with|0=>g0+1+1+1+1|_=>g0+1+1+1+1+1) c:=by intro c hc;simp at hc;rcases hc with rfl|rfl<;>(try simp only)<;>omega
      have EE:=hide (hS.ext' EE.out jv);have aJ:Box AV (g0+1+1+1+1) (ao n) (ai n) (ah n) (aj n) (ap n):=ae.ep 2 (List.mem_range.2 (show 2<4 by decide)) 0 rfl;have bx:Box AV (g0+1+1+1+1+1) (ao 1) (ai 1) (ah 1) (aj 1) (ap 1):=ae.ep 3 (List.mem_range.2 (show 3<4 by decide)) 1 rfl;clear ae hS;simp only[nV,qf,ptrTo,Nat.zero_add,Nat.reduceAdd];go_wp2_with fail
      obtain⟨Fo,Fp,Fq,Fs,Ft,Ww,Wx,Wy,Wz,WA⟩:=av aJ;obtain⟨Fu,Fv,Fw,Fx,Fy,WB,WC,WD,WE,WG⟩:=av bx;exact B7 (v:=.tuple #[n,.agg #[ao 1,ai 1,ah 1,aj 1,ap 1]]) (by simp[results,Tryz.results89,go_sem,Fo,Fp,Fq,Fs,Ft,Fu,Fv,Fw,Fx,Fy]) rfl ⟨rfl,EE.out⟩
end
end Go.Proofs.YtojbopibfflnoaaGreat
