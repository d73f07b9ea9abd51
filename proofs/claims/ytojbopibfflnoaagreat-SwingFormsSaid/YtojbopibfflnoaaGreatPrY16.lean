/- Contracts and plain facts; each states its conditions. -/
import Derived.Test.YtojbopibfflnoaaGreatPrY14
namespace Go.Proofs.YtojbopibfflnoaaGreat
open Go renaming World → w1, Value → Ax, Calls → AA, bodyPost_ret → B7, heap_setCell_other → axd, heap_alloc_new → axe, TypeId → aw7, Ending → axa
open _root_.Go.Proofs.Tryz renaming prog → CW
set_option linter.unusedVariables false
set_option linter.unusedSimpArgs false
set_option maxHeartbeats 16000000
set_option maxRecDepth 100000
section
open Go Go.RowKit
def cm(W:w1)(k:Nat)(s:Bool)(a b c d:Nat)(t:Bool)(e f g h:Nat):Prop:=W.heap[k]?=some (.cells #[.bool s,a,b,c,d,.bool t,e,f,g,h] 29 (0,0))
theorem cm.ext{w w':w1}{k:Nat}{s:Bool}{a b c d:Nat}{t:Bool}{e f g h:Nat}(x:cm w k s a b c d t e f g h)(y:Ext w w'):cm w' k s a b c d t e f g h:=p8 y x
theorem cm.drew{w:w1}{k:Nat}{s:Bool}{a b c d:Nat}{t:Bool}{e f g h:Nat}(x:cm w k s a b c d t e f g h):cm w.drew k s a b c d t e f g h:=x
theorem cm.lt{w:w1}{k:Nat}{s:Bool}{a b c d:Nat}{t:Bool}{e f g h:Nat}(x:cm w k s a b c d t e f g h):k<w.heap.size:=(Array.getElem?_eq_some_iff.1 x).1
theorem cv{w:w1}{b:Nat}{v0 v1 v2 v3 v4 v5 v6 qg qh v9:Ax}{e:aw7}(h:w.heap[b]?=some (.cells #[v0,v1,v2,v3,v4,v5,v6,qg,qh,v9] e (0,0))) :
 w.cell? ⟨b,0,none⟩=some v0/\w.cell? ⟨b,1,none⟩=some v1/\w.cell? ⟨b,2,none⟩=some v2/\w.cell? ⟨b,3,none⟩=some v3/\w.cell? ⟨b,4,none⟩=some v4/\w.cell? ⟨b,5,none⟩=some v5/\w.cell? ⟨b,6,none⟩=some v6/\w.cell? ⟨b,7,none⟩=some qg/\w.cell? ⟨b,8,none⟩=some qh/\w.cell? ⟨b,9,none⟩=some v9 /\
 w.frozen? ⟨b,0,none⟩=false/\w.frozen? ⟨b,1,none⟩=false/\w.frozen? ⟨b,2,none⟩=false/\w.frozen? ⟨b,3,none⟩=false/\w.frozen? ⟨b,4,none⟩=false/\w.frozen? ⟨b,5,none⟩=false/\w.frozen? ⟨b,6,none⟩=false/\w.frozen? ⟨b,7,none⟩=false/\w.frozen? ⟨b,8,none⟩=false/\w.frozen? ⟨b,9,none⟩=false:=by
 refine⟨?_,?_,?_,?_,?_,?_,?_,?_,?_,?_,gw h 0,gw h 1,gw h 2,gw h 3,gw h 4,gw h 5,gw h 6,gw h 7,gw h 8,gw h 9⟩<;>(rw[cell_of_block h];rfl)
theorem ct{w:w1}{b:Nat}{v0 v1 v2 v3 v4 v5 v6 qg qh v9:Ax}{e:aw7}(h:w.heap[b]?=some (.cells #[v0,v1,v2,v3,v4,v5,v6,qg,qh,v9] e (0,0))):w.cell? ⟨b,0,none⟩=some v0/\w.cell? ⟨b,1,none⟩=some v1/\w.cell? ⟨b,2,none⟩=some v2/\w.cell? ⟨b,3,none⟩=some v3/\w.cell? ⟨b,4,none⟩=some v4/\w.cell? ⟨b,5,none⟩=some v5/\w.cell? ⟨b,6,none⟩=some v6/\w.cell? ⟨b,7,none⟩=some qg/\w.cell? ⟨b,8,none⟩=some qh/\w.cell? ⟨b,9,none⟩=some v9:=(cv h).imp id fun h=>h.imp id fun h=>h.imp id fun h=>h.imp id fun h=>h.imp id fun h=>h.imp id fun h=>h.imp id fun h=>h.imp id fun h=>h.imp id And.left
theorem kY{W w:w1}(h:Ext W w){b:Nat}(hb:W.heap.size<=b)(u0 u1 u2 u3 u4 u5 u6 u7 u8 u9:Ax):Ext W ((((((((((w.setCell ⟨b,0,none⟩ u0).setCell ⟨b,1,none⟩ u1).setCell ⟨b,2,none⟩ u2).setCell ⟨b,3,none⟩ u3).setCell ⟨b,4,none⟩ u4).setCell ⟨b,5,none⟩ u5).setCell ⟨b,6,none⟩ u6).setCell ⟨b,7,none⟩ u7).setCell ⟨b,8,none⟩ u8).setCell ⟨b,9,none⟩ u9):=
 ey (ey (ey (ey (ey (ey (ey (ey (ey (ey h hb _ _) hb _ _) hb _ _) hb _ _) hb _ _) hb _ _) hb _ _) hb _ _) hb _ _) hb _ _
def wJ(o:Bool)(n d:Int)(w:w1)(e:axa)(w':w1):Prop:=∃ (s:Bool) (a b c d':Nat) (t:Bool) (e' f g h:Nat),e=.returned (.tuple #[.agg #[.bool s,a,b,c,d',.bool t,e',f,g,h],.bool o])/\cw s a b c d' n/\cw t e' f g h d/\Ext w w'
theorem Hi{w w':w1}(h:Ext w w'):wJ false 0 0 w (.returned (.tuple #[.agg #[false,(),(),(),(),false,(),(),(),()],.bool false])) w':=
 ⟨false,0,0,0,0,false,0,0,0,0,rfl,Es,Es,h⟩
def Good(s:Bool)(z:Int):Prop:=s=true->z≠0
theorem ajM(s t:Bool)(a b c d e f g h:Nat)(x y:Int)(w:w1)(hx:dg s a b c d x)(hy:dg t e f g h y)(iK:¬ (Good s x/\Good t y/\y≠0)) :
 AA CW 105 #[.agg #[.bool s,a,b,c,d],.agg #[.bool t,e,f,g,h]] w (wJ false 0 0 w):=by
 obtain⟨W,aK⟩:=eo ((((w.alloc (.cells #[.bool s,a,b,c,d] 27)).alloc (.cells #[.bool t,e,f,g,h] 27)).alloc (.cells #[false,(),(),(),(),false,(),(),(),()] 29)));have cO:=kF w (.cells #[.bool s,a,b,c,d] 27) (.cells #[.bool t,e,f,g,h] 27) (.cells #[false,(),(),(),(),false,(),(),(),()] 29);rw[<-aK] at cO;have ay:Box W w.heap.size s a b c d:=cO.1;have au:Box W (w.heap.size+1) t e f g h:=cO.2.1;have aR:cm W (w.heap.size+1+1) false 0 0 0 0 false 0 0 0 0:=cO.2.2;have EE:Ext w W:=by rw[aK];exact((aA _ _).trans (aA _ _)).trans (aA _ _)
 have aB:=hide aK;obtain⟨b7,oL⟩:∃ o,(!s||decide (x≠0))=o:=⟨_,rfl⟩;obtain⟨cr,nt⟩:∃ o,(!t||decide (y≠0))=o:=⟨_,rfl⟩;obtain⟨ao,fW⟩:=aM y.sign;have bQ:Hid (∀ w',AA CW 120 #[.agg #[.bool s,a,b,c,d]] w' (lN b7 w')):=fun w'=>by rw[<-oL];exact ES _ _ _ _ _ _ w' hx
 have bY:Hid (∀ w',AA CW 120 #[.agg #[.bool t,e,f,g,h]] w' (lN cr w')):=fun w'=>by rw[<-nt];exact ES _ _ _ _ _ _ w' hy
 have cX:Hid (∀ w',AA CW 115 #[.agg #[.bool t,e,f,g,h]] w' (nc .i64 ao w')):=fun w'=>by rw[<-fW];exact uc _ _ _ _ _ _ w' hy
 have zp:b7=false\/(b7=true/\cr=false)\/(b7=true/\cr=true/\ao=0):=by
  unfold Good at iK;rw[<-oL,<-nt,<-fW];by_cases Ml:x=0<;>by_cases dy:y=0<;>cases s<;>cases t<;>simp[Ml,dy] at iK |-
 clear aK cO oL nt fW hx hy iK;have dY:=cx ay;have fa:=cx au;go_enter Tryz.func105,Tryz.ntmps105
 go_upto_region 1 with fail
 rw[<-aB.out];clear aB;rcases zp with rfl|⟨rfl,rfl⟩|⟨rfl,rfl,rfl⟩
 all_goals go_wp2_with (first
  | (go_at_call 120;(with_reducible refine(bQ.out _).mono ?_);rintro e' bp ⟨rfl,ad⟩;have au:=au.ext ad;have aR:=aR.ext ad;have EE:=EE.trans ad;have fa:=cx au;obtain⟨i0,i1,i2,i3,i4,i5,i6,i7,i8,i9,dm,cW,cL,dn,dG,l5,l6,l7,l8,l9⟩:=cv aR;clear ad)
  | (go_at_call 120;(with_reducible refine(bY.out _).mono ?_);rintro e' w3 ⟨rfl,ad⟩;have au:=au.ext ad;have aR:=aR.ext ad;have EE:=EE.trans ad;have fa:=cx au;obtain⟨i0,i1,i2,i3,i4,i5,i6,i7,i8,i9,dm,cW,cL,dn,dG,l5,l6,l7,l8,l9⟩:=cv aR;clear ad)
  | (go_at_call 115;(with_reducible refine(cX.out _).mono ?_);rintro e' bZ ⟨rfl,ad⟩;have au:=au.ext ad;have aR:=aR.ext ad;have EE:=EE.trans ad;have fa:=cx au;obtain⟨i0,i1,i2,i3,i4,i5,i6,i7,i8,i9,dm,cW,cL,dn,dG,l5,l6,l7,l8,l9⟩:=cv aR;clear ad))
 all_goals exact B7 (v:=.tuple #[.agg #[false,(),(),(),(),false,(),(),(),()],.bool false]) (by simp[results,Tryz.results105,go_sem,i0,i1,i2,i3,i4,i5,i6,i7,i8,i9]) rfl (Hi (kY EE (by omega) _ _ _ _ _ _ _ _ _ _))
theorem cm.cI{w:w1}{k b':Nat}{s:Bool}{a b c d:Nat}{t:Bool}{e f g h:Nat}(x:cm w k s a b c d t e f g h)(hn:k≠b')(u0 u1 u2 u3 u4:Ax):cm (((((w.setCell ⟨b',0,none⟩ u0).setCell ⟨b',1,none⟩ u1).setCell ⟨b',2,none⟩ u2).setCell ⟨b',3,none⟩ u3).setCell ⟨b',4,none⟩ u4) k s a b c d t e f g h:=by
 unfold cm at *;rw[axd _ _ _ _ (by simpa using hn),axd _ _ _ _ (by simpa using hn),axd _ _ _ _ (by simpa using hn),axd _ _ _ _ (by simpa using hn),axd _ _ _ _ (by simpa using hn)];exact x
def XK(w:w1)(x y:Int)(bP:w1):Prop:=∃ (s:Bool) (a b c d:Nat) (t:Bool) (e f g h:Nat),cw s a b c d x/\cw t e f g h y/\Box bP w.heap.size s a b c d/\Box bP (w.heap.size+1) t e f g h/\cm bP (w.heap.size+1+1) false 0 0 0 0 false 0 0 0 0/\Ext w bP
theorem Oa(s t:Bool)(a b c d e f g h:Nat)(x y:Int)(w:w1)(hx:cw s a b c d x)(hy:cw t e f g h y)(dy:y≠0)(o:Bool)(aL:decide ((ig x y).natAbs<170141183460469231731687303715884105728/\(ik x y).natAbs<170141183460469231731687303715884105728)=o) :
 AA CW 105 #[.agg #[.bool s,a,b,c,d],.agg #[.bool t,e,f,g,h]] w (wJ o (if o then ig x y else 0) (if o then ik x y else 0) w):=by
 obtain⟨N,jO⟩:=aM (if o then ig x y else 0);obtain⟨D,hH⟩:=aM (if o then ik x y else 0);rw[jO,hH];have dO:=hide jO;have eU:=hide hH;obtain⟨x',Ti⟩:∃ x',(if y<0 then -x else x)=x':=⟨_,rfl⟩;have FL:=hide Ti;clear jO hH Ti;obtain⟨W,aK⟩:=eo ((((w.alloc (.cells #[.bool s,a,b,c,d] 27)).alloc (.cells #[.bool t,e,f,g,h] 27)).alloc (.cells #[false,(),(),(),(),false,(),(),(),()] 29)));have cO:=kF w (.cells #[.bool s,a,b,c,d] 27) (.cells #[.bool t,e,f,g,h] 27) (.cells #[false,(),(),(),(),false,(),(),(),()] 29);rw[<-aK] at cO;have ay:Box W w.heap.size s a b c d:=cO.1;have au:Box W (w.heap.size+1) t e f g h:=cO.2.1;have aR:cm W (w.heap.size+1+1) false 0 0 0 0 false 0 0 0 0:=cO.2.2;have EE:Ext w W:=by rw[aK];exact((aA _ _).trans (aA _ _)).trans (aA _ _)
 have aB:=hide aK;obtain⟨ao,fW⟩:=aM y.sign;have DR:(!s||decide (x≠0))=true:=by have:=hx.2;cases s<;>simp at this |-;exact this
 have DS:(!t||decide (y≠0))=true:=by simp[dy]
 have bQ:Hid (∀ w',AA CW 120 #[.agg #[.bool s,a,b,c,d]] w' (lN true w')):=fun w'=>by rw[<-DR];exact ES _ _ _ _ _ _ w' hx.1
 have bY:Hid (∀ w',AA CW 120 #[.agg #[.bool t,e,f,g,h]] w' (lN true w')):=fun w'=>by rw[<-DS];exact ES _ _ _ _ _ _ w' hy.1
 have cX:Hid (∀ w',AA CW 115 #[.agg #[.bool t,e,f,g,h]] w' (nc .i64 ao w')):=fun w'=>by rw[<-fW];exact uc _ _ _ _ _ _ w' hy.1
 have sP:¬ (ao=0):=by rw[<-fW];intro e;exact dy (Int.sign_eq_zero_iff_zero.1 e)
 have S_:ao<0↔y<0:=by
  rw[<-fW];rcases Int.lt_trichotomy y 0 with h1|h1|h1
  ·rw[Int.sign_eq_neg_one_of_neg h1];omega
  ·exact absurd h1 dy
  ·rw[Int.sign_eq_one_of_pos h1];omega
 have TU:Hid (∀ w',AA CW 121 #[.agg #[.bool s,a,b,c,d]] w' (lR (-x) w')):=fun w'=>Hv _ _ _ _ _ _ w' hx.1
 have TV:Hid (∀ w',AA CW 121 #[.agg #[.bool t,e,f,g,h]] w' (lR (-y) w')):=fun w'=>Hv _ _ _ _ _ _ w' hy.1
 have bM:=hide aL;have Qp:=hide S_;have qs:=hide hx;have o0:=hide hy;clear aK cO fW hx hy DR DS aL S_;have dY:=av ay;have fa:=av au;go_enter Tryz.func105,Tryz.ntmps105
 go_upto_region 1 with fail
 rw[<-aB.out];clear aB;go_upto_if 23 with (first
  | (go_at_call 120;(with_reducible refine(bQ.out _).mono ?_);rintro e' bp ⟨rfl,ad⟩;have ay:=ay.ext ad;have au:=au.ext ad;have aR:=aR.ext ad;have EE:=EE.trans ad;have dY:=av ay;have fa:=av au;obtain⟨i0,i1,i2,i3,i4,i5,i6,i7,i8,i9,dm,cW,cL,dn,dG,l5,l6,l7,l8,l9⟩:=cv aR;clear ad)
  | (go_at_call 120;(with_reducible refine(bY.out _).mono ?_);rintro e' w3 ⟨rfl,ad⟩;have ay:=ay.ext ad;have au:=au.ext ad;have aR:=aR.ext ad;have EE:=EE.trans ad;have dY:=av ay;have fa:=av au;obtain⟨i0,i1,i2,i3,i4,i5,i6,i7,i8,i9,dm,cW,cL,dn,dG,l5,l6,l7,l8,l9⟩:=cv aR;clear ad)
  | (go_at_call 115;(with_reducible refine(cX.out _).mono ?_);rintro e' bZ ⟨rfl,ad⟩;have ay:=ay.ext ad;have au:=au.ext ad;have aR:=aR.ext ad;have EE:=EE.trans ad;have dY:=av ay;have fa:=av au;obtain⟨i0,i1,i2,i3,i4,i5,i6,i7,i8,i9,dm,cW,cL,dn,dG,l5,l6,l7,l8,l9⟩:=cv aR;clear ad))
 obtain⟨qV,Tm⟩:∃ qV,(if y<0 then -y else y)=qV:=⟨_,rfl⟩;have Cd:=hide Tm;clear Tm;have Ce:=hide dy;clear dy;go_cut [] (fun bP=>XK w x' qV bP)
 case first =>
  by_cases hn:ao<0
  ·have pq:=Qp.out.1 hn;have mP:Hid (x'=-x):=by rw[<-FL.out,if_pos pq];exact rfl
   have oO:Hid (qV=-y):=by rw[<-Cd.out,if_pos pq];exact rfl
   clear pq;go_wp2_with fail
   go_region_with (first
    | (go_at_call 121;(with_reducible refine(TU.out _).mono ?_);rintro e' bm ⟨iC,a5,c1,cy,d5,rfl,Dz,ad⟩;have ay:Box bm w.heap.size s a b c d:=(by first|exact ay.ext ad|exact ay.drew.ext ad);have au:Box bm (w.heap.size+1) t e f g h:=(by first|exact au.ext ad|exact au.drew.ext ad);have aR:cm bm (w.heap.size+1+1) false 0 0 0 0 false 0 0 0 0:=(by first|exact aR.ext ad|exact aR.drew.ext ad);have EE:Ext w bm:=(by first|exact EE.trans ad|exact(EE.trans (b5 _)).trans ad);have dY:=av ay;have fa:=av au;clear ad)
    | (go_at_call 121;(with_reducible refine(TV.out _).mono ?_);rintro e' cg ⟨fq,a6,cH,cF,d6,rfl,DA,ad⟩;have ay:Box cg w.heap.size s a b c d:=(by first|exact ay.ext ad|exact ay.drew.ext ad);have au:Box cg (w.heap.size+1) t e f g h:=(by first|exact au.ext ad|exact au.drew.ext ad);have aR:cm cg (w.heap.size+1+1) false 0 0 0 0 false 0 0 0 0:=(by first|exact aR.ext ad|exact aR.drew.ext ad);have EE:Ext w cg:=(by first|exact EE.trans ad|exact(EE.trans (b5 _)).trans ad);have dY:=av ay;have fa:=av au;clear ad))
   all_goals go_wp2_with fail
   all_goals go_meet
   all_goals exact⟨iC,a5,c1,cy,d5,fq,a6,cH,cF,d6,by rw[mP.out];exact Dz,by rw[oO.out];exact DA,(ay.put).cI (by omega) _ _ _ _ _,(au.cI (by omega) _ _ _ _ _).put,(aR.cI (by omega) _ _ _ _ _).cI (by omega) _ _ _ _ _,dr (dr EE (Nat.le_refl _) _ _ _ _ _) (by omega) _ _ _ _ _⟩
  ·have pq:¬ y<0:=fun e=>hn (Qp.out.2 e)
   have mP:Hid (x'=x):=by rw[<-FL.out,if_neg pq];exact rfl
   have oO:Hid (qV=y):=by rw[<-Cd.out,if_neg pq];exact rfl
   clear pq;go_wp2_with fail
   all_goals go_meet
   all_goals exact⟨s,a,b,c,d,t,e,f,g,h,by rw[mP.out];exact qs.out,by rw[oO.out];exact o0.out,ay,au,aR,EE⟩
 case rest =>
  clear ay au aR EE bQ bY cX TU TV;obtain⟨s,a,b,c,d,t,e,f,g,h,hx,hy,ay,au,aR,EE⟩:=hcut;have hyp:0<qV:=by
   have h1:=Cd.out;have h2:=Ce.out;split at h1<;>omega
  have LC:Int.gcd x' qV=Int.gcd x y:=by
   rw[<-FL.out,<-Cd.out];by_cases hn:y<0
   ·rw[if_pos hn,if_pos hn,Int.gcd_neg,Int.neg_gcd]
   ·rw[if_neg hn,if_neg hn]
  obtain⟨G,aV⟩:∃ G:Int,(Int.gcd x' qV:Int)=G:=⟨_,rfl⟩;have Bc:0<G:=by rw[<-aV];have:=Int.gcd_pos_of_ne_zero_right x' (show qV≠0 by omega);omega
  have hJ:ig x y=x' / G:=by unfold ig;rw[FL.out,<-LC,aV]
  have zc:ik x y=qV / G:=by unfold ik;rw[Cd.out,<-LC,aV]
  obtain⟨n,hn⟩:=aM (x' / G);obtain⟨m,hm⟩:=aM (qV / G);rw[hn] at hJ;rw[hm] at zc;have Cc:=hide hJ;have FI:=hide zc;have yl:=hide aV;have uE:=hide hn;have uD:=hide hm;have ph:Hid (G≠0):=by unfold Hid;omega
  have Xg:=hide hyp;have QD:=hide hx;have QE:=hide hy;clear hJ zc aV hn hm Bc LC hx hy hyp;have dY:=av ay;have fa:=av au;go_upto_region 6 with (go_at_call 122;refine(ajJ s t a b c d e f g h x' qV _ QD.out QE.out Xg.out).mono ?_;rintro e' bm ⟨iC,a5,c1,cy,d5,rfl,uw,ad⟩;rw[yl.out] at uw;have ay:=ay.ext ad;have au:=au.ext ad;have aR:=aR.ext ad;have EE:=EE.trans ad;clear ad)
  have r1:=hide uw;have jG:Box (bm.alloc (.cells #[.bool iC,a5,c1,cy,d5] 27)) bm.heap.size iC a5 c1 cy d5:=axe bm _;have ad:=aA bm (.cells #[.bool iC,a5,c1,cy,d5] 27);have aj:=aR.lt;have ay:=ay.ext ad;have au:=au.ext ad;have aR:=aR.ext ad;have EE:=EE.trans ad;generalize bm.alloc (.cells #[.bool iC,a5,c1,cy,d5] 27)=F6 at *;generalize bm.heap.size=g5 at *;clear uw ad;have dY:=av ay;obtain⟨i0,i1,i2,i3,i4,_⟩:=av jG;go_upto_region 7 with (go_at_call 123;refine(Hu s iC a b c d a5 c1 cy d5 x' G _ QD.out.1 r1.out.1).mono ?_;rintro e' cg ⟨fq,a6,cH,cF,d6,e8,a7,dD,b8,d7,arY,rfl,SZ,qm,kn,ad⟩;have aoq:=hide SZ;rw[if_neg ph.out] at qm;rw[uE.out] at qm;have r2:=hide qm;clear SZ qm kn;have ay:=ay.ext ad;have au:=au.ext ad;have aR:=aR.ext ad;have jG:=jG.ext ad;have EE:=EE.trans ad;clear ad;have dY:=av ay)
  have au:=au.cI (b':=w.heap.size) (by omega) (.bool fq) (.int .u64 (a6:Int)) (.int .u64 (cH:Int)) (.int .u64 (cF:Int)) (.int .u64 (d6:Int));have aR:=aR.cI (b':=w.heap.size) (by omega) (.bool fq) (.int .u64 (a6:Int)) (.int .u64 (cH:Int)) (.int .u64 (cF:Int)) (.int .u64 (d6:Int));have jG:=jG.cI (b':=w.heap.size) (by omega) (.bool fq) (.int .u64 (a6:Int)) (.int .u64 (cH:Int)) (.int .u64 (cF:Int)) (.int .u64 (d6:Int));have ay:=ay.put (t:=fq) (a':=a6) (b':=cH) (c':=cF) (d':=d6);have EE:=dr EE (b:=w.heap.size) (Nat.le_refl _) (.bool fq) (.int .u64 (a6:Int)) (.int .u64 (cH:Int)) (.int .u64 (cF:Int)) (.int .u64 (d6:Int));generalize ((((cg.setCell ⟨w.heap.size,0,none⟩ (.bool fq)).setCell ⟨w.heap.size,1,none⟩ (.int .u64 (a6:Int))).setCell ⟨w.heap.size,2,none⟩ (.int .u64 (cH:Int))).setCell ⟨w.heap.size,3,none⟩ (.int .u64 (cF:Int))).setCell ⟨w.heap.size,4,none⟩ (.int .u64 (d6:Int))=tL at *;have fa:=av au;obtain⟨i0,i1,i2,i3,i4,_⟩:=av jG;go_upto_region 8 with (go_at_call 123;refine(Hu t iC e f g h a5 c1 cy d5 qV G _ QE.out.1 r1.out.1).mono ?_;rintro e' b6 ⟨s8,a8,cE,bR,d8,rO,a9,ix,c2,d9,arZ,rfl,S0,lO,WN,ad⟩;have aor:=hide S0;rw[if_neg ph.out] at lO;rw[uD.out] at lO;have jJ:=hide lO;clear S0 lO WN;have ay:=ay.ext ad;have au:=au.ext ad;have aR:=aR.ext ad;have EE:=EE.trans ad;clear ad;have fa:=av au)
  have ay:=ay.cI (b':=w.heap.size+1) (by omega) (.bool s8) (.int .u64 (a8:Int)) (.int .u64 (cE:Int)) (.int .u64 (bR:Int)) (.int .u64 (d8:Int));have aR:=aR.cI (b':=w.heap.size+1) (by omega) (.bool s8) (.int .u64 (a8:Int)) (.int .u64 (cE:Int)) (.int .u64 (bR:Int)) (.int .u64 (d8:Int));have au:=au.put (t:=s8) (a':=a8) (b':=cE) (c':=bR) (d':=d8);have EE:=dr EE (b:=w.heap.size+1) (by omega) (.bool s8) (.int .u64 (a8:Int)) (.int .u64 (cE:Int)) (.int .u64 (bR:Int)) (.int .u64 (d8:Int));generalize ((((b6.setCell ⟨w.heap.size+1,0,none⟩ (.bool s8)).setCell ⟨w.heap.size+1,1,none⟩ (.int .u64 (a8:Int))).setCell ⟨w.heap.size+1,2,none⟩ (.int .u64 (cE:Int))).setCell ⟨w.heap.size+1,3,none⟩ (.int .u64 (bR:Int))).setCell ⟨w.heap.size+1,4,none⟩ (.int .u64 (d8:Int))=yC at *;obtain⟨q1,Mb⟩:∃ o,decide (n.natAbs<170141183460469231731687303715884105728)=o:=⟨_,rfl⟩;obtain⟨k8,oc⟩:∃ o,decide (m.natAbs<170141183460469231731687303715884105728)=o:=⟨_,rfl⟩;have MA:Hid (∀ w',AA CW 124 #[.agg #[.bool fq,a6,cH,cF,d6]] w' (lN q1 w')):=fun w'=>by rw[<-Mb];exact Vl _ _ _ _ _ _ w' r2.out
  have TQ:Hid (∀ w',AA CW 124 #[.agg #[.bool s8,a8,cE,bR,d8]] w' (lN k8 w')):=fun w'=>by rw[<-oc];exact Vl _ _ _ _ _ _ w' jJ.out
  have S1:o=(q1&&k8):=by
   rw[<-bM.out,Cc.out,FI.out,<-Mb,<-oc,Bool.decide_and]
  clear bM;have dY:=av ay;have fa:=av au;obtain⟨i0,i1,i2,i3,i4,i5,i6,i7,i8,i9,dm,cW,cL,dn,dG,l5,l6,l7,l8,l9⟩:=cv aR;have zp:(q1=false/\o=false)\/(q1=true/\k8=false/\o=false)\/(q1=true/\k8=true/\o=true):=by
   rw[S1];cases q1<;>cases k8<;>simp
  clear S1 Mb oc;rcases zp with ⟨rfl,rfl⟩|⟨rfl,rfl,rfl⟩|⟨rfl,rfl,rfl⟩
  ·have nK:Hid (N=0/\D=0):=⟨dO.out.symm,eU.out.symm⟩;go_wp2_with (first
    | (go_at_call 124;(with_reducible refine(MA.out _).mono ?_);rintro e' c8 ⟨rfl,ad⟩;have ay:=ay.ext ad;have au:=au.ext ad;have aR:=aR.ext ad;have EE:=EE.trans ad;have dY:=av ay;have fa:=av au;obtain⟨i0,i1,i2,i3,i4,i5,i6,i7,i8,i9,dm,cW,cL,dn,dG,l5,l6,l7,l8,l9⟩:=cv aR;clear ad))
   all_goals exact B7 (v:=.tuple #[.agg #[false,(),(),(),(),false,(),(),(),()],.bool false]) (by simp[results,Tryz.results105,go_sem,i0,i1,i2,i3,i4,i5,i6,i7,i8,i9]) rfl (by rw[nK.out.1,nK.out.2];exact Hi (kY EE (by omega) _ _ _ _ _ _ _ _ _ _))
  ·have nK:Hid (N=0/\D=0):=⟨dO.out.symm,eU.out.symm⟩;go_wp2_with (first
    | (go_at_call 124;(with_reducible refine(MA.out _).mono ?_);rintro e' c8 ⟨rfl,ad⟩;have ay:=ay.ext ad;have au:=au.ext ad;have aR:=aR.ext ad;have EE:=EE.trans ad;have dY:=av ay;have fa:=av au;obtain⟨i0,i1,i2,i3,i4,i5,i6,i7,i8,i9,dm,cW,cL,dn,dG,l5,l6,l7,l8,l9⟩:=cv aR;clear ad)
    | (go_at_call 124;(with_reducible refine(TQ.out _).mono ?_);rintro e' cN ⟨rfl,ad⟩;have ay:=ay.ext ad;have au:=au.ext ad;have aR:=aR.ext ad;have EE:=EE.trans ad;have dY:=av ay;have fa:=av au;obtain⟨i0,i1,i2,i3,i4,i5,i6,i7,i8,i9,dm,cW,cL,dn,dG,l5,l6,l7,l8,l9⟩:=cv aR;clear ad))
   all_goals exact B7 (v:=.tuple #[.agg #[false,(),(),(),(),false,(),(),(),()],.bool false]) (by simp[results,Tryz.results105,go_sem,i0,i1,i2,i3,i4,i5,i6,i7,i8,i9]) rfl (by rw[nK.out.1,nK.out.2];exact Hi (kY EE (by omega) _ _ _ _ _ _ _ _ _ _))
  ·have nK:Hid (cw fq a6 cH cF d6 N/\cw s8 a8 cE bR d8 D):=by
    have h1:=dO.out;have h2:=eU.out;rw[if_pos rfl] at h1 h2;rw[<-h1,<-h2,Cc.out,FI.out];exact⟨r2.out,jJ.out⟩
   go_wp2_with (first
    | (go_at_call 124;(with_reducible refine(MA.out _).mono ?_);rintro e' c8 ⟨rfl,ad⟩;have ay:=ay.ext ad;have au:=au.ext ad;have aR:=aR.ext ad;have EE:=EE.trans ad;have dY:=av ay;have fa:=av au;obtain⟨i0,i1,i2,i3,i4,i5,i6,i7,i8,i9,dm,cW,cL,dn,dG,l5,l6,l7,l8,l9⟩:=cv aR;clear ad)
    | (go_at_call 124;(with_reducible refine(TQ.out _).mono ?_);rintro e' cN ⟨rfl,ad⟩;have ay:=ay.ext ad;have au:=au.ext ad;have aR:=aR.ext ad;have EE:=EE.trans ad;have dY:=av ay;have fa:=av au;obtain⟨i0,i1,i2,i3,i4,i5,i6,i7,i8,i9,dm,cW,cL,dn,dG,l5,l6,l7,l8,l9⟩:=cv aR;clear ad))
   all_goals exact B7 (v:=.tuple #[.agg #[.bool fq,a6,cH,cF,d6,.bool s8,a8,cE,bR,d8],.bool true]) (by simp[results,Tryz.results105,go_sem,i0,i1,i2,i3,i4,i5,i6,i7,i8,i9]) rfl ⟨fq,a6,cH,cF,d6,s8,a8,cE,bR,d8,rfl,nK.out.1,nK.out.2,kY EE (by omega) _ _ _ _ _ _ _ _ _ _⟩
end
end Go.Proofs.YtojbopibfflnoaaGreat
