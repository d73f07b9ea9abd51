/- Contracts and plain facts; each states its conditions. -/
import Derived.Test.YtojbopibfflnoaaGreatPrW9
import Derived.Test.YtojbopibfflnoaaGreatPrW10
import Derived.Test.YtojbopibfflnoaaGreatPrW11
import Derived.Test.YtojbopibfflnoaaGreatPrW13
import Derived.Test.YtojbopibfflnoaaGreatPrW15
import Derived.Lib.QuietBelow
namespace Go.Proofs.YtojbopibfflnoaaGreat
set_option linter.unusedVariables false
set_option linter.unusedSimpArgs false
set_option maxHeartbeats 16000000
section
open Go Go.RowKit
theorem F9 (b off j:Nat):(⟨b,off,none⟩:Addr).add j=⟨b,off+j,none⟩:=by unfold Addr.add;split<;>simp_all
theorem jW.below {W w w':World}{A:Option Addr}{l:List Nat} (h:jW W A l) (e:Below W.heap.size W w):jW w A l:=h.ext e
end
section
open Go Go.RowKit Go.Sort
theorem Vq {w:World}{g:Nat}{S:Array Value} (h:aG w g 29 S) (hS:S.size=10):(Instr.loadAt 29 (.pointer (some ⟨g,0,none⟩))).run Tryz.prog w=.ok (.agg S) w:=
 pH h _ _ tt rfl 0 10 oP (by omega) _ (by rw[Nat.zero_add,←hS];simp)
theorem iY (w:World) (o:Obj):(w.alloc o).heap.size=w.heap.size+1:=Array.size_push ..
end
section
open Go Go.RowKit Go.Sort
theorem xO {w:World}{g:Nat}{cs ds:Array Value} (h:aG w g 29 cs) (hc:cs.size=10) (hd:ds.size=10) (h1:ds.all (·.oneCell')=true):(Instr.storeAt 29 (.pointer (some ⟨g,0,none⟩)) (.agg ds)).run Tryz.prog w=.ok () (w.setRow g ds):=
 zT h _ 0 10 oP (by omega) ds hd h1 ds (by
  have:cs.toList.drop (0+10)=[]:=List.drop_eq_nil_of_le (by simp;omega);rw[this];simp)
theorem lL:dq.all (·.oneCell')=true:=by kernel_rfl
end
section
open Go Go.RowKit
theorem Hb {n:Nat}{w:World} (h:n≤w.heap.size):n≤w.drew.heap.size:=h
theorem F8 {s:Bool}{a b c d:Nat}{x:Int} (h:cw s a b c d x):b0 a b c d=x.natAbs∧x=if s then -(x.natAbs:Int) else (x.natAbs:Int):=by
 obtain⟨⟨h1,h2,h3,h4,h5⟩,_⟩:=h;have e:b0 a b c d=x.natAbs:=by cases s<;>simp at h5<;>omega
 exact⟨e,by rw[←e];exact h5⟩
set_option maxRecDepth 100000 in
theorem Oi (s t:Bool) (a b c d e f g h:Nat) (x y:Int) (w:World) (hx:dg s a b c d x) (hy:dg t e f g h y) :
 Calls Tryz.prog 66 #[.agg #[.bool s,a,b,c,d],.agg #[.bool t,e,f,g,h]] w (oG (x*y) w):=by
 obtain⟨W,aK⟩:=eo ((((w.alloc (.cells #[.bool s,a,b,c,d] 27)).alloc (.cells #[.bool t,e,f,g,h] 27)).alloc (.cells #[false,(),(),(),()] 27)));have cO:=kF w (.cells #[.bool s,a,b,c,d] 27) (.cells #[.bool t,e,f,g,h] 27) (.cells #[false,(),(),(),()] 27);rw[←aK] at cO;have ay:Box W w.heap.size s a b c d:=cO.1;have au:Box W (w.heap.size+1) t e f g h:=cO.2.1;have aR:Box W (w.heap.size+1+1) false 0 0 0 0:=cO.2.2;have bC:Ext w W:=by rw[aK];exact((aA _ _).trans (aA _ _)).trans (aA _ _)
 have aB:=hide aK;clear aK cO;go_enter Tryz.func66,Tryz.ntmps66
 go_upto_region 1 with fail
 rw[←aB.out];clear aB;go_cut [] (fun bP=>Two w x y bP)
 case first =>
  obtain⟨bt,az,aU,a_,bK,f0,f1,f2,f3,f4⟩:=av ay;obtain⟨d0,d1,d2,d3,d4,g0,g1,g2,g3,g4⟩:=av au;go_region_with (first
   | (go_at_call 59;refine(HL _ _ _ _ _ _ _ (by assumption)).mono ?_;rintro e' w' ⟨s',a',b',c',d',rfl,hC,ad⟩;have cD:=(by first|assumption|exact ay.drew:Box _ w.heap.size s a b c d).ext ad;have c5:=(by first|assumption|exact au.drew:Box _ (w.heap.size+1) t e f g h).ext ad;have dz:=(by first|assumption|exact aR.drew:Box _ (w.heap.size+1+1) false 0 0 0 0).ext ad;obtain⟨bt,az,aU,a_,bK,f0,f1,f2,f3,f4⟩:=av cD;obtain⟨d0,d1,d2,d3,d4,g0,g1,g2,g3,g4⟩:=av c5;have bS:=(by first|assumption|exact bC.trans (b5 _):Ext w _).trans ad))
  all_goals go_wp2_with fail
  all_goals go_meet
  all_goals exact⟨_,_,_,_,_,_,_,_,_,_,‹cw _ _ _ _ _ x›,‹cw _ _ _ _ _ y›,(cD.put).cI (by omega) _ _ _ _ _,(c5.cI (by omega) _ _ _ _ _).put,(dz.cI (by omega) _ _ _ _ _).cI (by omega) _ _ _ _ _,dr (dr bS (Nat.le_refl _) _ _ _ _ _) (by omega) _ _ _ _ _⟩
 case rest =>
  clear ay au aR bC hx hy;obtain⟨s,a,b,c,d,t,e,f,g,h,hx,hy,ay,au,aR,bC⟩:=hcut;obtain⟨n,hn⟩:=aM x.natAbs;obtain⟨m,hm⟩:=aM y.natAbs;obtain⟨mx,zX⟩:=F8 hx;obtain⟨my,zY⟩:=F8 hy;rw[hn] at mx zX;rw[hm] at my zY;obtain⟨u,hu⟩:=aM (s != t);have ll:Hid ((if u then -((n*m:Nat):Int) else ((n*m:Nat):Int))=x*y):=by rw[←hu];exact(Ue s t n m x y zX zY).1
  have xr:=BJ s t u hu;have xD:Hid (∀ w',w.heap.size≤w'.heap.size→Calls Tryz.prog 60 #[.agg #[.bool s,a,b,c,d]] w' (r6 w.heap.size n w')):=fun w' bj=>by
   obtain⟨ha,hb,hc,hd,_⟩:=hx.1;rw[←mx];exact oR w.heap.size s a b c d w' bj ha hb hc hd
  have pz:Hid (∀ w',w.heap.size≤w'.heap.size→Calls Tryz.prog 60 #[.agg #[.bool t,e,f,g,h]] w' (r6 w.heap.size m w')):=fun w' bj=>by
   obtain⟨ha,hb,hc,hd,_⟩:=hy.1;rw[←my];exact oR w.heap.size t e f g h w' bj ha hb hc hd
  have tG:Hid ((bg n).length≤4):=ka.2 (by rw[←mx];exact qM hx.1.1 hx.1.2.1 hx.1.2.2.1 hx.1.2.2.2.1);have wH:Hid ((bg m).length≤4):=ka.2 (by rw[←my];exact qM hy.1.1 hy.1.2.1 hy.1.2.2.1 hy.1.2.2.2.1);clear hn hm mx my zX zY hu hx hy;have s0:=bC.size;obtain⟨bt,az,aU,a_,bK,_⟩:=av ay;obtain⟨d0,d1,d2,d3,d4,_⟩:=av au;obtain⟨i0,i1,i2,i3,i4,dm,cW,cL,dn,dG⟩:=av aR;have mT:w.heap.size≠w.heap.size+1+1:=by omega
  have mU:w.heap.size+1≠w.heap.size+1+1:=by omega
  go_upto_region 2 with fail
  go_region_held3 (fun w'=>w'.cell? ⟨w.heap.size,0,none⟩=some (.bool s)∧w'.cell? ⟨w.heap.size,1,none⟩=some (.int .u64 (a:Int))∧w'.cell? ⟨w.heap.size,2,none⟩=some (.int .u64 (b:Int))∧w'.cell? ⟨w.heap.size,3,none⟩=some (.int .u64 (c:Int))∧w'.cell? ⟨w.heap.size,4,none⟩=some (.int .u64 (d:Int))∧w'.cell? ⟨w.heap.size+1,0,none⟩=some (.bool t)∧w'.cell? ⟨w.heap.size+1,1,none⟩=some (.int .u64 (e:Int))∧w'.cell? ⟨w.heap.size+1,2,none⟩=some (.int .u64 (f:Int))∧w'.cell? ⟨w.heap.size+1,3,none⟩=some (.int .u64 (g:Int))∧w'.cell? ⟨w.heap.size+1,4,none⟩=some (.int .u64 (h:Int))) (first|(with_reducible exact⟨bt,az,aU,a_,bK,d0,d1,d2,d3,d4⟩)|(with_reducible exact⟨(bw _ mT).trans bt,(bw _ mT).trans az,(bw _ mT).trans aU,(bw _ mT).trans a_,(bw _ mT).trans bK,(bw _ mU).trans d0,(bw _ mU).trans d1,(bw _ mU).trans d2,(bw _ mU).trans d3,(bw _ mU).trans d4⟩)|go_keep) (first
   | (go_at_call 60;(with_reducible refine(xD.out _ (by first|exact s0|exact Hb s0)).mono ?_);rintro e' nH ⟨v6,rfl,p6,ad⟩;(try (have p7:=p7.ext ad));have ay:Box nH w.heap.size s a b c d:=(by first|exact ay.ext ad|exact ay.drew.ext ad);have au:Box nH (w.heap.size+1) t e f g h:=(by first|exact au.ext ad|exact au.drew.ext ad);have aR:Box nH (w.heap.size+1+1) false 0 0 0 0:=(by first|exact aR.ext ad|exact aR.drew.ext ad);have bC:Ext w nH:=(by first|exact bC.trans ad|exact(bC.trans (b5 _)).trans ad);have s0:=bC.size;obtain⟨bt,az,aU,a_,bK,_⟩:=av ay;obtain⟨d0,d1,d2,d3,d4,_⟩:=av au;obtain⟨i0,i1,i2,i3,i4,dm,cW,cL,dn,dG⟩:=av aR;clear ad)
   | (go_at_call 60;(with_reducible refine(pz.out _ (by first|exact s0|exact Hb s0)).mono ?_);rintro e' uv ⟨qg,rfl,p7,ad⟩;(try (have p6:=p6.ext ad));have ay:Box uv w.heap.size s a b c d:=(by first|exact ay.ext ad|exact ay.drew.ext ad);have au:Box uv (w.heap.size+1) t e f g h:=(by first|exact au.ext ad|exact au.drew.ext ad);have aR:Box uv (w.heap.size+1+1) false 0 0 0 0:=(by first|exact aR.ext ad|exact aR.drew.ext ad);have bC:Ext w uv:=(by first|exact bC.trans ad|exact(bC.trans (b5 _)).trans ad);have s0:=bC.size;obtain⟨bt,az,aU,a_,bK,_⟩:=av ay;obtain⟨d0,d1,d2,d3,d4,_⟩:=av au;obtain⟨i0,i1,i2,i3,i4,dm,cW,cL,dn,dG⟩:=av aR;clear ad)
   | (go_at_call 87;refine(ake w.heap.size _ _ _ _ _ _ _ p6 p7 s0 (Nat.le_trans tG.out (by omega)) (Nat.le_trans wH.out (by omega))).mono ?_;rintro e' pL ⟨qh,rfl,zo,ad⟩;have ay:=ay.ext ad;have au:=au.ext ad;have aR:=aR.ext ad;have bC:=bC.trans ad;have s0:=bC.size;obtain⟨bt,az,aU,a_,bK,_⟩:=av ay;obtain⟨d0,d1,d2,d3,d4,_⟩:=av au;obtain⟨i0,i1,i2,i3,i4,dm,cW,cL,dn,dG⟩:=av aR;clear ad)
   | (go_at_call 61;refine(BP _ u _ _ _ zo).mono ?_;rintro e' wv ⟨s',a',b',c',d',o',rfl,aL,hC,ad⟩;rw[jD,ll.out] at aL hC;have jZ:=hide aL;clear aL;have ay:=ay.ext ad;have au:=au.ext ad;have aR:=aR.ext ad;have bC:=bC.trans ad;have s0:=bC.size;obtain⟨bt,az,aU,a_,bK,_⟩:=av ay;obtain⟨d0,d1,d2,d3,d4,_⟩:=av au;obtain⟨i0,i1,i2,i3,i4,dm,cW,cL,dn,dG⟩:=av aR;clear ad))
  all_goals go_wp2_with fail
  all_goals exact bodyPost_ret (v:=.tuple #[.agg #[.bool s',a',b',c',d'],.bool o']) (by simp[results,Tryz.results66,go_sem,i0,i1,i2,i3,i4]) rfl ⟨s',a',b',c',d',o',rfl,jZ.out,hC,dr bC (by omega) _ _ _ _ _⟩
theorem akd (B C D:Nat) (u v:Value) (n m:Nat) (w:World) (h:Words C w u (bg n)) (k:Words D w v (bg m)) (bF:B≤w.heap.size) (hn:(bg n).length≤900) (hm:(bg m).length≤900) (h0:0<m) :
 Calls Tryz.prog 88 #[u,v] w (Iu B n m w):=by
 by_cases h1:m<18446744073709551616
 ·rw[T4 m h0 h1] at k;exact akb B C D u v n m w h k bF (by omega) h0
 ·refine akc B C D u v n m w h k bF hn hm ?_;have h2:¬ (bg m).length≤1:=fun e=>by have:=ka.1 e;omega
  omega
def yD (z:Int) (w:World) (e:Ending) (w':World):Prop:=∃ (s:Bool) (a b c d:Nat),e=.returned (.tuple #[.agg #[.bool s,a,b,c,d],.bool true])∧cw s a b c d z∧Ext w w'
theorem BQ (C Q:Nat) (s:Bool) (v:Value) (z:Int) (w:World) (h:Words C w v (bg Q)) (hf:Q<115792089237316195423570985008687907853269984665640564039457584007913129639936) (hz:(if s then -(Q:Int) else (Q:Int))=z) :
 Calls Tryz.prog 61 #[.bool s,v] w (yD z w):=by
 refine(BP C s v _ w h).mono ?_;rintro e w' ⟨s',a,b,c,d,o,rfl,aL,hC,ad⟩;rw[jD,hz] at aL hC;have hn:z.natAbs=Q:=by rw[←hz];cases s<;>simp
 rw[hn,if_pos hf] at hC;have:o=true:=by rw[aL,decide_eq_true_iff,hn];exact hf
 subst this
 exact⟨s',a,b,c,d,rfl,hC,ad⟩
theorem O1 (g:Nat) (w:World) (u0 u1 u2 u3 u4:Value):b3 g w (((((w.setCell ⟨g,0,none⟩ u0).setCell ⟨g,1,none⟩ u1).setCell ⟨g,2,none⟩ u2).setCell ⟨g,3,none⟩ u3).setCell ⟨g,4,none⟩ u4):=(((((b3.refl g w).set 0 u0).set 1 u1).set 2 u2).set 3 u3).set 4 u4
def WV (w:World) (x y:Int) (bP:World):Prop:=∃ (s:Bool) (a b c d:Nat) (t:Bool) (e f g h:Nat),cw s a b c d x∧cw t e f g h y∧Box bP w.heap.size s a b c d∧Box bP (w.heap.size+1) t e f g h∧Box bP (w.heap.size+1+1) false 0 0 0 0∧Box bP (w.heap.size+1+1+1) false 0 0 0 0∧Ext w bP
set_option maxRecDepth 100000 in
theorem qd (s t:Bool) (a b c d e f g h:Nat) (x y:Int) (w:World) (hx:dg s a b c d x) (hy:dg t e f g h y) :
 Calls Tryz.prog 67 #[.agg #[.bool s,a,b,c,d],.agg #[.bool t,e,f,g,h]] w (ux x y w):=by
 obtain⟨W,aK,ay,au,aR,dZ,bC⟩:=Dd w s t a b c d e f g h;have aB:=hide aK;clear aK;go_enter Tryz.func67,Tryz.ntmps67
 go_upto_region 1 with fail
 rw[aB.out];clear aB;go_cut [] (fun bP=>WV w x y bP)
 case first =>
  obtain⟨bt,az,aU,a_,bK,f0,f1,f2,f3,f4⟩:=av ay;obtain⟨d0,d1,d2,d3,d4,g0,g1,g2,g3,g4⟩:=av au;go_region_with (first
   | (go_at_call 59;refine(HL _ _ _ _ _ _ _ (by assumption)).mono ?_;rintro e' w' ⟨s',a',b',c',d',rfl,hC,ad⟩;have cD:=(by first|assumption|exact ay.drew:Box _ w.heap.size s a b c d).ext ad;have c5:=(by first|assumption|exact au.drew:Box _ (w.heap.size+1) t e f g h).ext ad;have dz:=(by first|assumption|exact aR.drew:Box _ (w.heap.size+1+1) false 0 0 0 0).ext ad;have eu:=(by first|assumption|exact dZ.drew:Box _ (w.heap.size+1+1+1) false 0 0 0 0).ext ad;obtain⟨bt,az,aU,a_,bK,f0,f1,f2,f3,f4⟩:=av cD;obtain⟨d0,d1,d2,d3,d4,g0,g1,g2,g3,g4⟩:=av c5;have bS:=(by first|assumption|exact bC.trans (b5 _):Ext w _).trans ad))
  all_goals go_wp2_with fail
  all_goals go_meet
  all_goals exact⟨_,_,_,_,_,_,_,_,_,_,‹cw _ _ _ _ _ x›,‹cw _ _ _ _ _ y›,(cD.put).cI (by omega) _ _ _ _ _,(c5.cI (by omega) _ _ _ _ _).put,(dz.cI (by omega) _ _ _ _ _).cI (by omega) _ _ _ _ _,(eu.cI (by omega) _ _ _ _ _).cI (by omega) _ _ _ _ _,dr (dr bS (Nat.le_refl _) _ _ _ _ _) (by omega) _ _ _ _ _⟩
 case rest =>
  clear ay au aR dZ bC hx hy;obtain⟨s,a,b,c,d,t,e,f,g,h,hx,hy,ay,au,aR,dZ,bC⟩:=hcut;by_cases dy:y=0
  ·have ks:Hid (∀ w',Calls Tryz.prog 52 #[.agg #[.bool t,e,f,g,h]] w' (nc .i64 0 w')):=fun w'=>by have:=xP _ _ _ _ _ _ w' hy.1;rw[dy] at this;exact this
   have gB:=hide dy;clear hx hy dy ay;obtain⟨d0,d1,d2,d3,d4,_⟩:=av au;go_wp2_with (go_at_call 52;(with_reducible refine(ks.out _).mono ?_);rintro e' bp ⟨rfl,ad⟩;have aR:=aR.ext ad;have dZ:=dZ.ext ad;have bC:=bC.trans ad;obtain⟨i0,i1,i2,i3,i4,dm,cW,cL,dn,dG⟩:=av aR;obtain⟨iA,bQ,bY,cX,ev,ai,ah,aj,ap,nT⟩:=av dZ;clear ad)
   all_goals exact bodyPost_ret (v:=.tuple #[.agg #[false,(),(),(),()],.agg #[false,(),(),(),()],.bool false]) (by simp[results,Tryz.results67,go_sem,i0,i1,i2,i3,i4,iA,bQ,bY,cX,ev]) rfl (RM gB.out (dr (dr bC (by omega) _ _ _ _ _) (by omega) _ _ _ _ _))
  ·obtain⟨n,hn⟩:=aM x.natAbs;obtain⟨m,hm⟩:=aM y.natAbs;obtain⟨mx,zX⟩:=F8 hx;obtain⟨my,zY⟩:=F8 hy;rw[hn] at mx zX;rw[hm] at my zY;have k4:0<m:=by omega
   obtain⟨u,hu⟩:=aM (s != t);have xk:=Gr s t n m x y zX zY k4;rw[hu] at xk;have qY:=hide xk;have xr:=BJ s t u hu;have xD:Hid (∀ w',w.heap.size≤w'.heap.size→Calls Tryz.prog 60 #[.agg #[.bool s,a,b,c,d]] w' (r6 w.heap.size n w')):=fun w' bj=>by
    obtain⟨ha,hb,hc,hd,_⟩:=hx.1;rw[←mx];exact oR w.heap.size s a b c d w' bj ha hb hc hd
   have pz:Hid (∀ w',w.heap.size≤w'.heap.size→Calls Tryz.prog 60 #[.agg #[.bool t,e,f,g,h]] w' (r6 w.heap.size m w')):=fun w' bj=>by
    obtain⟨ha,hb,hc,hd,_⟩:=hy.1;rw[←my];exact oR w.heap.size t e f g h w' bj ha hb hc hd
   have FH:Hid (n<115792089237316195423570985008687907853269984665640564039457584007913129639936):=by rw[←mx];exact qM hx.1.1 hx.1.2.1 hx.1.2.2.1 hx.1.2.2.2.1
   have Qd:Hid (m<115792089237316195423570985008687907853269984665640564039457584007913129639936):=by rw[←my];exact qM hy.1.1 hy.1.2.1 hy.1.2.2.1 hy.1.2.2.2.1
   have tG:Hid ((bg n).length≤4):=ka.2 FH.out;have wH:Hid ((bg m).length≤4):=ka.2 Qd.out;obtain⟨ao,fW⟩:=aM y.sign;have xv:¬ (ao=0):=by rw[←fW];intro e;exact dy (Int.sign_eq_zero_iff_zero.1 e)
   have ks:Hid (∀ w',Calls Tryz.prog 52 #[.agg #[.bool t,e,f,g,h]] w' (nc .i64 ao w')):=fun w'=>by rw[←fW];exact xP _ _ _ _ _ _ w' hy.1
   have gB:=hide dy;clear hn hm mx my zX zY hu hx hy xk fW dy;obtain⟨bt,az,aU,a_,bK,_⟩:=av ay;obtain⟨d0,d1,d2,d3,d4,_⟩:=av au;go_upto_region 4 with (go_at_call 52;(with_reducible refine(ks.out _).mono ?_);rintro e' bp ⟨rfl,ad⟩;have ay:=ay.ext ad;have au:=au.ext ad;have aR:=aR.ext ad;have dZ:=dZ.ext ad;have bC:=bC.trans ad;obtain⟨bt,az,aU,a_,bK,_⟩:=av ay;obtain⟨d0,d1,d2,d3,d4,_⟩:=av au;clear ad)
   have s0:=bC.size;go_region_held3 (fun w'=>w'.cell? ⟨w.heap.size,0,none⟩=some (.bool s)∧w'.cell? ⟨w.heap.size,1,none⟩=some (.int .u64 (a:Int))∧w'.cell? ⟨w.heap.size,2,none⟩=some (.int .u64 (b:Int))∧w'.cell? ⟨w.heap.size,3,none⟩=some (.int .u64 (c:Int))∧w'.cell? ⟨w.heap.size,4,none⟩=some (.int .u64 (d:Int))∧w'.cell? ⟨w.heap.size+1,0,none⟩=some (.bool t)∧w'.cell? ⟨w.heap.size+1,1,none⟩=some (.int .u64 (e:Int))∧w'.cell? ⟨w.heap.size+1,2,none⟩=some (.int .u64 (f:Int))∧w'.cell? ⟨w.heap.size+1,3,none⟩=some (.int .u64 (g:Int))∧w'.cell? ⟨w.heap.size+1,4,none⟩=some (.int .u64 (h:Int))) (first|(with_reducible exact⟨bt,az,aU,a_,bK,d0,d1,d2,d3,d4⟩)|go_keep) (first
    | (go_at_call 60;(with_reducible refine(xD.out _ (by first|exact s0|exact Hb s0)).mono ?_);rintro e' nH ⟨v6,rfl,p6,ad⟩;(try (have p7:=p7.ext ad));have ay:Box nH w.heap.size s a b c d:=(by first|exact ay.ext ad|exact ay.drew.ext ad);have au:Box nH (w.heap.size+1) t e f g h:=(by first|exact au.ext ad|exact au.drew.ext ad);have aR:Box nH (w.heap.size+1+1) false 0 0 0 0:=(by first|exact aR.ext ad|exact aR.drew.ext ad);have dZ:Box nH (w.heap.size+1+1+1) false 0 0 0 0:=(by first|exact dZ.ext ad|exact dZ.drew.ext ad);have bC:Ext w nH:=(by first|exact bC.trans ad|exact(bC.trans (b5 _)).trans ad);have s0:=bC.size;obtain⟨bt,az,aU,a_,bK,_⟩:=av ay;obtain⟨d0,d1,d2,d3,d4,_⟩:=av au;clear ad)
    | (go_at_call 60;(with_reducible refine(pz.out _ (by first|exact s0|exact Hb s0)).mono ?_);rintro e' uv ⟨qg,rfl,p7,ad⟩;(try (have p6:=p6.ext ad));have ay:Box uv w.heap.size s a b c d:=(by first|exact ay.ext ad|exact ay.drew.ext ad);have au:Box uv (w.heap.size+1) t e f g h:=(by first|exact au.ext ad|exact au.drew.ext ad);have aR:Box uv (w.heap.size+1+1) false 0 0 0 0:=(by first|exact aR.ext ad|exact aR.drew.ext ad);have dZ:Box uv (w.heap.size+1+1+1) false 0 0 0 0:=(by first|exact dZ.ext ad|exact dZ.drew.ext ad);have bC:Ext w uv:=(by first|exact bC.trans ad|exact(bC.trans (b5 _)).trans ad);have s0:=bC.size;obtain⟨bt,az,aU,a_,bK,_⟩:=av ay;obtain⟨d0,d1,d2,d3,d4,_⟩:=av au;clear ad)
    | (go_at_call 88;have ap:=dZ.lt;refine(akd _ _ _ _ _ _ _ _ p6 p7 (Nat.le_refl _) (Nat.le_trans tG.out (by omega)) (Nat.le_trans wH.out (by omega)) k4).mono ?_;rintro e' pL ⟨wq,Pq,rfl,Ef,jw,ad⟩;have ay:=ay.ext ad;have au:=au.ext ad;have aR:=aR.ext ad;have dZ:=dZ.ext ad;have bC:=bC.trans ad;have s0:=bC.size;obtain⟨bt,az,aU,a_,bK,_⟩:=av ay;obtain⟨d0,d1,d2,d3,d4,_⟩:=av au;clear ad))
   have kZ:n / m<115792089237316195423570985008687907853269984665640564039457584007913129639936:=Nat.lt_of_le_of_lt (Nat.div_le_self _ _) FH.out;have fr:n%m<115792089237316195423570985008687907853269984665640564039457584007913129639936:=Nat.lt_of_le_of_lt (Nat.mod_le _ _) FH.out;obtain⟨L,br⟩:=aM ((bg (n%m)).length);obtain⟨ar,Gk,rfl,_,_,_⟩:=jw.shape L br;have GX:=Hc (n%m);rw[br] at GX;clear p6 p7 xD br;cases s
   ·have eQ:=hide (qY.out.1 (Or.inl rfl));have sY:Hid (∀ C' w',Words C' w' wq (bg (n / m))→Calls Tryz.prog 61 #[.bool u,wq] w' (yD (x / y) w')):=fun C' w' hw=>BQ C' _ u wq _ w' hw kZ eQ.out.1.symm
    have EA:Hid (∀ C' w',Words C' w' (.slice ar L Gk) (bg (n%m))→Calls Tryz.prog 61 #[.bool false,.slice ar L Gk] w' (yD (x%y) w')):=fun C' w' hw=>BQ C' _ false _ _ w' hw fr eQ.out.2.symm
    clear GX kZ fr pz;have mT:w.heap.size+1+1≠w.heap.size:=by omega
    have mU:w.heap.size+1+1≠w.heap.size+1:=by omega
    go_upto_region 10 with (go_at_call 61;(with_reducible refine(sY.out _ _ Ef).mono ?_);rintro e' wv ⟨e8,a7,dD,b8,d7,rfl,kn,ad⟩;have aR:=aR.ext ad;have dZ:=dZ.ext ad;have bC:=bC.trans ad;have jw:=jw.ext ad;obtain⟨i0,i1,i2,i3,i4,dm,cW,cL,dn,dG⟩:=av aR;clear ad)
    have ov:=hide kn;have ak:=aR.put (t:=e8) (a':=a7) (b':=dD) (c':=b8) (d':=d7);have aq:=dZ.cI (b':=w.heap.size+1+1) (by omega) (.bool e8) (.int .u64 (a7:Int)) (.int .u64 (dD:Int)) (.int .u64 (b8:Int)) (.int .u64 (d7:Int));have cC:=dr bC (b:=w.heap.size+1+1) (by omega) (.bool e8) (.int .u64 (a7:Int)) (.int .u64 (dD:Int)) (.int .u64 (b8:Int)) (.int .u64 (d7:Int));have jw:=jw.c7 (O1 (w.heap.size+1+1) wv (.bool e8) (.int .u64 (a7:Int)) (.int .u64 (dD:Int)) (.int .u64 (b8:Int)) (.int .u64 (d7:Int))) (jw.CD (by omega));generalize ((((wv.setCell ⟨w.heap.size+1+1,0,none⟩ (.bool e8)).setCell ⟨w.heap.size+1+1,1,none⟩ (.int .u64 (a7:Int))).setCell ⟨w.heap.size+1+1,2,none⟩ (.int .u64 (dD:Int))).setCell ⟨w.heap.size+1+1,3,none⟩ (.int .u64 (b8:Int))).setCell ⟨w.heap.size+1+1,4,none⟩ (.int .u64 (d7:Int))=Y at *;clear aR dZ bC kn;go_upto_region 11 with (go_at_call 61;(with_reducible refine(EA.out _ _ jw).mono ?_);rintro e' Fz ⟨s8,a8,cE,bR,d8,rfl,lO,ad⟩;have ak:=ak.ext ad;have aq:=aq.ext ad;have cC:=cC.trans ad;obtain⟨iA,bQ,bY,cX,ev,ai,ah,aj,ap,nT⟩:=av aq;clear ad)
    have jJ:=hide lO;have Q3:=aq.put (t:=s8) (a':=a8) (b':=cE) (c':=bR) (d':=d8);have Q2:=ak.cI (b':=w.heap.size+1+1+1) (by omega) (.bool s8) (.int .u64 (a8:Int)) (.int .u64 (cE:Int)) (.int .u64 (bR:Int)) (.int .u64 (d8:Int));have Cp:=dr cC (b:=w.heap.size+1+1+1) (by omega) (.bool s8) (.int .u64 (a8:Int)) (.int .u64 (cE:Int)) (.int .u64 (bR:Int)) (.int .u64 (d8:Int));generalize ((((Fz.setCell ⟨w.heap.size+1+1+1,0,none⟩ (.bool s8)).setCell ⟨w.heap.size+1+1+1,1,none⟩ (.int .u64 (a8:Int))).setCell ⟨w.heap.size+1+1+1,2,none⟩ (.int .u64 (cE:Int))).setCell ⟨w.heap.size+1+1+1,3,none⟩ (.int .u64 (bR:Int))).setCell ⟨w.heap.size+1+1+1,4,none⟩ (.int .u64 (d8:Int))=kL at *;clear ak aq cC lO;obtain⟨i0,i1,i2,i3,i4,dm,cW,cL,dn,dG⟩:=av Q2;obtain⟨iA,bQ,bY,cX,ev,ai,ah,aj,ap,nT⟩:=av Q3;go_region
    all_goals go_wp2_with fail
    all_goals exact bodyPost_ret (v:=.tuple #[.agg #[.bool e8,a7,dD,b8,d7],.agg #[.bool s8,a8,cE,bR,d8],.bool true]) (by simp[results,Tryz.results67,go_sem,i0,i1,i2,i3,i4,iA,bQ,bY,cX,ev]) rfl (A1 gB.out ov.out jJ.out ((dr (dr Cp (by omega) _ _ _ _ _) (by omega) _ _ _ _ _).trans (b5 _)))
   ·by_cases hz:n%m=0
    ·have eQ:=hide (qY.out.1 (Or.inr hz));have Be:L=0:=by omega
     subst Be;have sY:Hid (∀ C' w',Words C' w' wq (bg (n / m))→Calls Tryz.prog 61 #[.bool u,wq] w' (yD (x / y) w')):=fun C' w' hw=>BQ C' _ u wq _ w' hw kZ eQ.out.1.symm
     have EA:Hid (∀ C' w',Words C' w' (.slice ar 0 Gk) (bg (n%m))→Calls Tryz.prog 61 #[.bool false,.slice ar 0 Gk] w' (yD (x%y) w')):=fun C' w' hw=>BQ C' _ false _ _ w' hw fr eQ.out.2.symm
     clear GX kZ fr pz hz;have mT:w.heap.size+1+1≠w.heap.size:=by omega
     have mU:w.heap.size+1+1≠w.heap.size+1:=by omega
     go_upto_region 10 with (go_at_call 61;(with_reducible refine(sY.out _ _ Ef).mono ?_);rintro e' wv ⟨e8,a7,dD,b8,d7,rfl,kn,ad⟩;have aR:=aR.ext ad;have dZ:=dZ.ext ad;have bC:=bC.trans ad;have jw:=jw.ext ad;obtain⟨i0,i1,i2,i3,i4,dm,cW,cL,dn,dG⟩:=av aR;clear ad)
     have ov:=hide kn;have ak:=aR.put (t:=e8) (a':=a7) (b':=dD) (c':=b8) (d':=d7);have aq:=dZ.cI (b':=w.heap.size+1+1) (by omega) (.bool e8) (.int .u64 (a7:Int)) (.int .u64 (dD:Int)) (.int .u64 (b8:Int)) (.int .u64 (d7:Int));have cC:=dr bC (b:=w.heap.size+1+1) (by omega) (.bool e8) (.int .u64 (a7:Int)) (.int .u64 (dD:Int)) (.int .u64 (b8:Int)) (.int .u64 (d7:Int));have jw:=jw.c7 (O1 (w.heap.size+1+1) wv (.bool e8) (.int .u64 (a7:Int)) (.int .u64 (dD:Int)) (.int .u64 (b8:Int)) (.int .u64 (d7:Int))) (jw.CD (by omega));generalize ((((wv.setCell ⟨w.heap.size+1+1,0,none⟩ (.bool e8)).setCell ⟨w.heap.size+1+1,1,none⟩ (.int .u64 (a7:Int))).setCell ⟨w.heap.size+1+1,2,none⟩ (.int .u64 (dD:Int))).setCell ⟨w.heap.size+1+1,3,none⟩ (.int .u64 (b8:Int))).setCell ⟨w.heap.size+1+1,4,none⟩ (.int .u64 (d7:Int))=Y at *;clear aR dZ bC kn;go_upto_region 11 with (go_at_call 61;(with_reducible refine(EA.out _ _ jw).mono ?_);rintro e' Fz ⟨s8,a8,cE,bR,d8,rfl,lO,ad⟩;have ak:=ak.ext ad;have aq:=aq.ext ad;have cC:=cC.trans ad;obtain⟨iA,bQ,bY,cX,ev,ai,ah,aj,ap,nT⟩:=av aq;clear ad)
     have jJ:=hide lO;have Q3:=aq.put (t:=s8) (a':=a8) (b':=cE) (c':=bR) (d':=d8);have Q2:=ak.cI (b':=w.heap.size+1+1+1) (by omega) (.bool s8) (.int .u64 (a8:Int)) (.int .u64 (cE:Int)) (.int .u64 (bR:Int)) (.int .u64 (d8:Int));have Cp:=dr cC (b:=w.heap.size+1+1+1) (by omega) (.bool s8) (.int .u64 (a8:Int)) (.int .u64 (cE:Int)) (.int .u64 (bR:Int)) (.int .u64 (d8:Int));generalize ((((Fz.setCell ⟨w.heap.size+1+1+1,0,none⟩ (.bool s8)).setCell ⟨w.heap.size+1+1+1,1,none⟩ (.int .u64 (a8:Int))).setCell ⟨w.heap.size+1+1+1,2,none⟩ (.int .u64 (cE:Int))).setCell ⟨w.heap.size+1+1+1,3,none⟩ (.int .u64 (bR:Int))).setCell ⟨w.heap.size+1+1+1,4,none⟩ (.int .u64 (d8:Int))=kL at *;clear ak aq cC lO;obtain⟨i0,i1,i2,i3,i4,dm,cW,cL,dn,dG⟩:=av Q2;obtain⟨iA,bQ,bY,cX,ev,ai,ah,aj,ap,nT⟩:=av Q3;go_region
     all_goals go_wp2_with fail
     all_goals exact bodyPost_ret (v:=.tuple #[.agg #[.bool e8,a7,dD,b8,d7],.agg #[.bool s8,a8,cE,bR,d8],.bool true]) (by simp[results,Tryz.results67,go_sem,i0,i1,i2,i3,i4,iA,bQ,bY,cX,ev]) rfl (A1 gB.out ov.out jJ.out ((dr (dr Cp (by omega) _ _ _ _ _) (by omega) _ _ _ _ _).trans (b5 _)))
    ·have eQ:=hide (qY.out.2 ⟨rfl,hz⟩);have Be:(0:Int)<(L:Int):=by omega
     have R8:n / m+1<115792089237316195423570985008687907853269984665640564039457584007913129639936:=Vh n m k4 hz FH.out;have R9:m-n%m<115792089237316195423570985008687907853269984665640564039457584007913129639936:=Nat.lt_of_le_of_lt (Nat.sub_le _ _) Qd.out;have S8:n%m≤m:=Nat.le_of_lt (Nat.mod_lt _ k4);have Hh:Hid ((bg (n / m)).length≤4):=ka.2 kZ;have agv:Hid ((bg (n%m)).length≤4):=ka.2 fr;have ua:=T4 1 (by omega) (by omega);have ONE:=hide ua;have lone:Hid ((bg 1).length≤1000):=by rw[ua];unfold Hid;simp
     clear GX kZ fr hz ua;have s0:=bC.size;obtain⟨bt,az,aU,a_,bK,_⟩:=av ay;obtain⟨d0,d1,d2,d3,d4,_⟩:=av au;go_upto_region 6 with fail
     have gE:=Ic pL.drew.heap.size pL.drew 1 pL.drew.heap.size rfl (Nat.le_refl _) (by omega);rw[←ONE.out] at gE;have Qr:=hide gE;clear gE;have ahq:=World.new_ne pL _ (show pL.cell? ⟨w.heap.size+1,0,none⟩=some _ from d0);have ahr:=World.new_ne pL _ (show pL.cell? ⟨w.heap.size+1,1,none⟩=some _ from d1);have ahs:=World.new_ne pL _ (show pL.cell? ⟨w.heap.size+1,2,none⟩=some _ from d2);have aht:=World.new_ne pL _ (show pL.cell? ⟨w.heap.size+1,3,none⟩=some _ from d3);have ahu:=World.new_ne pL _ (show pL.cell? ⟨w.heap.size+1,4,none⟩=some _ from d4);go_region_held3 (fun w'=>w'.cell? ⟨w.heap.size+1,0,none⟩=some (.bool t)∧w'.cell? ⟨w.heap.size+1,1,none⟩=some (.int .u64 (e:Int))∧w'.cell? ⟨w.heap.size+1,2,none⟩=some (.int .u64 (f:Int))∧w'.cell? ⟨w.heap.size+1,3,none⟩=some (.int .u64 (g:Int))∧w'.cell? ⟨w.heap.size+1,4,none⟩=some (.int .u64 (h:Int))) (first|(with_reducible exact⟨d0,d1,d2,d3,d4⟩)|go_keep) (first
      | (go_at_call 62;refine(Vx _ _ _ _ _ (n / m) 1 _ (Ef.ext ((b5 _).trans (aA _ _))) Qr.out (Nat.le_refl _) (Nat.le_trans Hh.out (by omega)) lone.out).mono ?_;rintro e' atK ⟨v11,rfl,tU,pe⟩;have ad:=((b5 pL).trans (aA _ _)).trans pe;have ay:=ay.ext ad;have au:=au.ext ad;have aR:=aR.ext ad;have dZ:=dZ.ext ad;have bC:=bC.trans ad;have s0:=bC.size;have jw:=jw.ext ad;obtain⟨d0,d1,d2,d3,d4,_⟩:=av au;clear ad pe)
      | (go_at_call 60;(with_reducible refine(pz.out _ s0).mono ?_);rintro e' atL ⟨v12,rfl,Td,ad⟩;have tU:=tU.ext ad;have ay:=ay.ext ad;have au:=au.ext ad;have aR:=aR.ext ad;have dZ:=dZ.ext ad;have bC:=bC.trans ad;have s0:=bC.size;have jw:=jw.ext ad;obtain⟨d0,d1,d2,d3,d4,_⟩:=av au;clear ad)
      | (go_at_call 64;refine(HM _ _ _ _ _ m (n%m) _ Td jw (Nat.le_refl _) (Nat.le_trans wH.out (by omega)) (Nat.le_trans agv.out (by omega)) S8).mono ?_;rintro e' atM ⟨Wk,rfl,Te,ad⟩;have tU:=tU.ext ad;have ap:=dZ.lt;have ay:=ay.ext ad;have au:=au.ext ad;have aR:=aR.ext ad;have dZ:=dZ.ext ad;have bC:=bC.trans ad;have s0:=bC.size;have jw:=jw.ext ad;obtain⟨d0,d1,d2,d3,d4,_⟩:=av au;clear ad))
     have Ef:=tU;have jw:=Te;have sY:Hid (∀ C' w',Words C' w' v11 (bg (n / m+1))→Calls Tryz.prog 61 #[.bool u,v11] w' (yD (x / y) w')):=fun C' w' hw=>BQ C' _ u _ _ w' hw R8 eQ.out.1.symm
     have EA:Hid (∀ C' w',Words C' w' Wk (bg (m-n%m))→Calls Tryz.prog 61 #[.bool false,Wk] w' (yD (x%y) w')):=fun C' w' hw=>BQ C' _ false _ _ w' hw R9 eQ.out.2.symm
     clear R8 R9 S8 pz ahq ahr ahs aht ahu tU Te Td Qr;obtain⟨bt,az,aU,a_,bK,_⟩:=av ay;have mT:w.heap.size+1+1≠w.heap.size:=by omega
     have mU:w.heap.size+1+1≠w.heap.size+1:=by omega
     go_upto_region 10 with (go_at_call 61;(with_reducible refine(sY.out _ _ Ef).mono ?_);rintro e' wv ⟨e8,a7,dD,b8,d7,rfl,kn,ad⟩;have aR:=aR.ext ad;have dZ:=dZ.ext ad;have bC:=bC.trans ad;have jw:=jw.ext ad;obtain⟨i0,i1,i2,i3,i4,dm,cW,cL,dn,dG⟩:=av aR;clear ad)
     have ov:=hide kn;have ak:=aR.put (t:=e8) (a':=a7) (b':=dD) (c':=b8) (d':=d7);have aq:=dZ.cI (b':=w.heap.size+1+1) (by omega) (.bool e8) (.int .u64 (a7:Int)) (.int .u64 (dD:Int)) (.int .u64 (b8:Int)) (.int .u64 (d7:Int));have cC:=dr bC (b:=w.heap.size+1+1) (by omega) (.bool e8) (.int .u64 (a7:Int)) (.int .u64 (dD:Int)) (.int .u64 (b8:Int)) (.int .u64 (d7:Int));have jw:=jw.c7 (O1 (w.heap.size+1+1) wv (.bool e8) (.int .u64 (a7:Int)) (.int .u64 (dD:Int)) (.int .u64 (b8:Int)) (.int .u64 (d7:Int))) (jw.CD (by omega));generalize ((((wv.setCell ⟨w.heap.size+1+1,0,none⟩ (.bool e8)).setCell ⟨w.heap.size+1+1,1,none⟩ (.int .u64 (a7:Int))).setCell ⟨w.heap.size+1+1,2,none⟩ (.int .u64 (dD:Int))).setCell ⟨w.heap.size+1+1,3,none⟩ (.int .u64 (b8:Int))).setCell ⟨w.heap.size+1+1,4,none⟩ (.int .u64 (d7:Int))=Y at *;clear aR dZ bC kn;go_upto_region 11 with (go_at_call 61;(with_reducible refine(EA.out _ _ jw).mono ?_);rintro e' Fz ⟨s8,a8,cE,bR,d8,rfl,lO,ad⟩;have ak:=ak.ext ad;have aq:=aq.ext ad;have cC:=cC.trans ad;obtain⟨iA,bQ,bY,cX,ev,ai,ah,aj,ap,nT⟩:=av aq;clear ad)
     have jJ:=hide lO;have Q3:=aq.put (t:=s8) (a':=a8) (b':=cE) (c':=bR) (d':=d8);have Q2:=ak.cI (b':=w.heap.size+1+1+1) (by omega) (.bool s8) (.int .u64 (a8:Int)) (.int .u64 (cE:Int)) (.int .u64 (bR:Int)) (.int .u64 (d8:Int));have Cp:=dr cC (b:=w.heap.size+1+1+1) (by omega) (.bool s8) (.int .u64 (a8:Int)) (.int .u64 (cE:Int)) (.int .u64 (bR:Int)) (.int .u64 (d8:Int));generalize ((((Fz.setCell ⟨w.heap.size+1+1+1,0,none⟩ (.bool s8)).setCell ⟨w.heap.size+1+1+1,1,none⟩ (.int .u64 (a8:Int))).setCell ⟨w.heap.size+1+1+1,2,none⟩ (.int .u64 (cE:Int))).setCell ⟨w.heap.size+1+1+1,3,none⟩ (.int .u64 (bR:Int))).setCell ⟨w.heap.size+1+1+1,4,none⟩ (.int .u64 (d8:Int))=kL at *;clear ak aq cC lO;obtain⟨i0,i1,i2,i3,i4,dm,cW,cL,dn,dG⟩:=av Q2;obtain⟨iA,bQ,bY,cX,ev,ai,ah,aj,ap,nT⟩:=av Q3;go_region
     all_goals go_wp2_with fail
     all_goals exact bodyPost_ret (v:=.tuple #[.agg #[.bool e8,a7,dD,b8,d7],.agg #[.bool s8,a8,cE,bR,d8],.bool true]) (by simp[results,Tryz.results67,go_sem,i0,i1,i2,i3,i4,iA,bQ,bY,cX,ev]) rfl (A1 gB.out ov.out jJ.out ((dr (dr Cp (by omega) _ _ _ _ _) (by omega) _ _ _ _ _).trans (b5 _)))
end
section
open Go Go.RowKit
def ao (z:Int):Bool:=decide (z<0)
def ai (z:Int):Nat:=z.natAbs%18446744073709551616
def ah (z:Int):Nat:=z.natAbs / 18446744073709551616%18446744073709551616
def aj (z:Int):Nat:=z.natAbs / 340282366920938463463374607431768211456%18446744073709551616
def ap (z:Int):Nat:=z.natAbs / 6277101735386680763835789423207666416102355444464034512896%18446744073709551616
instance aoX:Coe Int Value:=⟨fun z=>.agg #[.bool (ao z),.int .u64 (ai z:Int),.int .u64 (ah z:Int),.int .u64 (aj z:Int),.int .u64 (ap z:Int)]⟩
instance aoV:Coe Int Obj:=⟨fun z=>.cells #[.bool (ao z),.int .u64 (ai z:Int),.int .u64 (ah z:Int),.int .u64 (aj z:Int),.int .u64 (ap z:Int)] 27⟩
def b4 (z:Int):Prop:=z.natAbs<115792089237316195423570985008687907853269984665640564039457584007913129639936
theorem sT {s:Bool}{a b c d:Nat}{z:Int} (h:cw s a b c d z):s=ao z∧a=ai z∧b=ah z∧c=aj z∧d=ap z:=by
 obtain⟨⟨h1,h2,h3,h4,h5⟩,h6⟩:=h;have hm:z.natAbs=b0 a b c d:=by cases s<;>simp at h5<;>omega
 simp only[b0,val] at hm h5;refine⟨?_,?_,?_,?_,?_⟩
 ·cases s
  ·simp at h5;unfold ao;symm;rw[decide_eq_false_iff_not];omega
  ·have:=h6 rfl;simp at h5;unfold ao;symm;rw[decide_eq_true_iff];omega
 ·unfold ai;omega
 ·unfold ah;omega
 ·unfold aj;omega
 ·unfold ap;omega
theorem e0 {z:Int} (h:b4 z):cw (ao z) (ai z) (ah z) (aj z) (ap z) z:=by
 obtain⟨s,a,b,c,d,k⟩:=Ms z h;obtain⟨rfl,rfl,rfl,rfl,rfl⟩:=sT k;exact k
theorem BU {z:Int}{w w':World}{e:Ending} (h:lR z w e w'):aP (z) w e w':=by
 obtain⟨s,a,b,c,d,rfl,k,ad⟩:=h;obtain⟨rfl,rfl,rfl,rfl,rfl⟩:=sT k;exact⟨rfl,ad⟩
theorem BS {z:Int}{w w':World}{e:Ending} (h:oG z w e w') (hz:b4 z):aP (.tuple #[z,.bool true]) w e w':=by
 obtain⟨s,a,b,c,d,o,rfl,aL,hC,ad⟩:=h;rw[if_pos (show z.natAbs<115792089237316195423570985008687907853269984665640564039457584007913129639936 from hz)] at hC;have:o=true:=by rw[aL,decide_eq_true_iff];exact hz
 subst this
 obtain⟨rfl,rfl,rfl,rfl,rfl⟩:=sT hC;exact⟨rfl,ad⟩
theorem VF {x y:Int}{w w':World}{e:Ending} (h:ux x y w e w') (hy:y≠0):aP (.tuple #[(x / y),(x%y),.bool true]) w e w':=by
 obtain⟨s,a,b,c,d,s',a',b',c',d',o,rfl,aL,bQ,bY,ad⟩:=h;rw[if_neg hy] at bQ bY;have:o=true:=by rw[aL,decide_eq_true_iff];exact hy
 subst this
 obtain⟨rfl,rfl,rfl,rfl,rfl⟩:=sT bQ;obtain⟨rfl,rfl,rfl,rfl,rfl⟩:=sT bY;exact⟨rfl,ad⟩
theorem JG {x y z:Int} (hx:b4 x) (hy:b4 y) (e:x+y=z) (hz:b4 z) (w:World):Calls Tryz.prog 111 #[x,y] w (aP (.tuple #[z,.bool true]) w):=
 (U1 _ _ _ _ _ _ _ _ _ _ x y w (e0 hx).1 (e0 hy).1).mono fun _ _ h=>BS (by rw[e] at h;exact h) hz
theorem Y' {x y z:Int} (hx:b4 x) (hy:b4 y) (e:x*y=z) (hz:b4 z) (w:World):Calls Tryz.prog 107 #[x,y] w (aP (.tuple #[z,.bool true]) w):=
 (N2 _ _ _ _ _ _ _ _ _ _ x y w (e0 hx).1 (e0 hy).1).mono fun _ _ h=>BS (by rw[e] at h;exact h) hz
theorem RA {x y q r:Int} (hx:b4 x) (hy:b4 y) (nY:y≠0) (bk:x / y=q) (e2:x%y=r) (w:World):Calls Tryz.prog 123 #[x,y] w (aP (.tuple #[q,r,.bool true]) w):=
 (Hu _ _ _ _ _ _ _ _ _ _ x y w (e0 hx).1 (e0 hy).1).mono fun _ _ h=>by have h:=VF h nY;rw[bk,e2] at h;exact h
theorem AY {x r:Int} (hx:b4 x) (e:x.sign=r) (w:World):Calls Tryz.prog 115 #[x] w (aP (.int .i64 r) w):=
 (uc _ _ _ _ _ x w (e0 hx).1).mono fun _ _ h=>by rw[e] at h;exact h
theorem Za {x z:Int} (hx:b4 x) (e:-x=z) (w:World):Calls Tryz.prog 121 #[x] w (aP (z) w):=
 (Hv _ _ _ _ _ x w (e0 hx).1).mono fun _ _ h=>by rw[e] at h;exact BU h
theorem CM {x:Int} (h1:-9223372036854775808≤x) (h2:x≤9223372036854775807) (w:World):Calls Tryz.prog 95 #[.int .i64 x] w (aP (x) w):=
 (NW x w h1 h2).mono fun _ _ h=>BU h
theorem Zc {n:Nat} (h:n<18446744073709551616) (w:World):Calls Tryz.prog 112 #[.int .u64 (n:Int)] w (aP ((n:Int)) w):=
 (NY n w h).mono fun _ _ h=>BU h
theorem Zd {x:Int} (hx:b4 x) (w:World):Calls Tryz.prog 120 #[x] w (aP (.bool true) w):=
 (ES _ _ _ _ _ x w (e0 hx).1).mono fun _ _ h=>by
  have:(!ao x||decide (x≠0))=true:=by
   have:=(e0 hx).2;cases hs:ao x<;>simp;exact this hs
  rw[this] at h;exact h
theorem JO {x y z:Int} (hx:b4 x) (hy:b4 y) (e:x+y=z) (hz:b4 z) (w:World):Calls Tryz.prog 24 #[x,y] w (aP (.tuple #[z,.bool true]) w):=
 (VD _ _ _ _ _ _ _ _ _ _ x y w (e0 hx).1 (e0 hy).1).mono fun _ _ h=>BS (by rw[e] at h;exact h) hz
theorem JS {x y z:Int} (hx:b4 x) (hy:b4 y) (e:x-y=z) (hz:b4 z) (w:World):Calls Tryz.prog 26 #[x,y] w (aP (.tuple #[z,.bool true]) w):=
 (akg _ _ _ _ _ _ _ _ _ _ x y w (e0 hx).1 (e0 hy).1).mono fun _ _ h=>BS (by rw[e] at h;exact h) hz
theorem JQ {x y r:Int} (hx:b4 x) (hy:b4 y) (e:f_ x y=r) (w:World):Calls Tryz.prog 28 #[x,y] w (aP (.int .i64 r) w):=
 (Vy _ _ _ _ _ _ _ _ _ _ x y w (e0 hx).1 (e0 hy).1).mono fun _ _ h=>by rw[e] at h;exact h
theorem CV {x:Int} (h1:-9223372036854775808≤x) (h2:x≤9223372036854775807) (w:World):Calls Tryz.prog 23 #[.int .i64 x] w (aP (x) w):=
 (Oh x w h1 h2).mono fun _ _ h=>BU h
theorem ZU {n:Nat} (h:n<18446744073709551616) (w:World):Calls Tryz.prog 58 #[.int .u64 (n:Int)] w (aP ((n:Int)) w):=
 (VA n w h).mono fun _ _ h=>BU h
theorem ZV {x:Int} (hx:b4 x) (w:World):Calls Tryz.prog 51 #[x] w (aP (.bool true) w):=
 (zS _ _ _ _ _ x w (e0 hx).1).mono fun _ _ h=>by
  have:(!ao x||decide (x≠0))=true:=by
   have:=(e0 hx).2;cases hs:ao x<;>simp;exact this hs
  rw[this] at h;exact h
end
section
open Go Go.RowKit
def Quot (B:World) (z:Int) (p:Value) (bP:World):Prop:=∃ g s a b c d,p=.pointer (some ⟨g,0,none⟩)∧cw s a b c d z∧Box bP g s a b c d∧B.heap.size≤g∧Ext B bP
section
variable {B U:World}{z:Int}{s:Bool}{a b c d:Nat}{o:Obj}{u0 u1 u2 u3 u4:Value}{g g':Nat}
theorem Ve (hC:cw s a b c d z) (ad:Ext B U):Quot B z (.pointer (some ⟨U.heap.size,0,none⟩)) ((U.alloc (.cells #[.bool s,a,b,c,d] 27)).alloc o):=
 ⟨_,s,a,b,c,d,rfl,hC,(Box.new U s a b c d).ext (aA _ _),ad.size,(ad.al _).al _⟩
theorem Vf (hC:cw s a b c d z) (ad:Ext B U):Quot B z (.pointer (some ⟨U.heap.size+1,0,none⟩)) ((U.alloc o).alloc (.cells #[.bool s,a,b,c,d] 27)):=
 ⟨_,s,a,b,c,d,rfl,hC,(e1 U _ _).2,Nat.le_succ_of_le ad.size,(ad.al _).al _⟩
theorem xM (hC:cw s a b c d z) (ad:Ext B U) (hz:Box U g false 0 0 0 0) (h1:B.heap.size≤g):Quot B z (.pointer (some ⟨g,0,none⟩)) ((((((U.setCell ⟨g,0,none⟩ (.bool s)).setCell ⟨g,1,none⟩ (.int .u64 (a:Int))).setCell ⟨g,2,none⟩ (.int .u64 (b:Int))).setCell ⟨g,3,none⟩ (.int .u64 (c:Int))).setCell ⟨g,4,none⟩ (.int .u64 (d:Int))).alloc o):=
 ⟨_,s,a,b,c,d,rfl,hC,(hz.put).ext (aA _ _),h1,(dr ad h1 _ _ _ _ _).al _⟩
theorem xN (hC:cw s a b c d z) (ad:Ext B U) (h1:B.heap.size≤g):Quot B z (.pointer (some ⟨U.heap.size,0,none⟩)) ((((((U.setCell ⟨g,0,none⟩ u0).setCell ⟨g,1,none⟩ u1).setCell ⟨g,2,none⟩ u2).setCell ⟨g,3,none⟩ u3).setCell ⟨g,4,none⟩ u4).alloc (.cells #[.bool s,a,b,c,d] 27)):=by
 have h:=Box.new (((((U.setCell ⟨g,0,none⟩ u0).setCell ⟨g,1,none⟩ u1).setCell ⟨g,2,none⟩ u2).setCell ⟨g,3,none⟩ u3).setCell ⟨g,4,none⟩ u4) s a b c d;simp only[World.size_setCell] at h;exact⟨_,s,a,b,c,d,rfl,hC,h,ad.size,(dr ad h1 _ _ _ _ _).al _⟩
theorem kC (hC:cw s a b c d z) (ad:Ext B U) (hz:Box U g false 0 0 0 0) (h1:B.heap.size≤g) (h2:B.heap.size≤g') (hn:g≠g'):Quot B z (.pointer (some ⟨g,0,none⟩)) ((((((((((U.setCell ⟨g,0,none⟩ (.bool s)).setCell ⟨g,1,none⟩ (.int .u64 (a:Int))).setCell ⟨g,2,none⟩ (.int .u64 (b:Int))).setCell ⟨g,3,none⟩ (.int .u64 (c:Int))).setCell ⟨g,4,none⟩ (.int .u64 (d:Int))).setCell ⟨g',0,none⟩ u0).setCell ⟨g',1,none⟩ u1).setCell ⟨g',2,none⟩ u2).setCell ⟨g',3,none⟩ u3).setCell ⟨g',4,none⟩ u4):=
 ⟨_,s,a,b,c,d,rfl,hC,(hz.put).cI hn _ _ _ _ _,h1,dr (dr ad h1 _ _ _ _ _) h2 _ _ _ _ _⟩
theorem ahQ (hC:cw s a b c d z) (ad:Ext B U):Quot B z (.pointer (some ⟨U.heap.size,0,none⟩)) (U.alloc (.cells #[.bool s,a,b,c,d] 27)):=
 ⟨_,s,a,b,c,d,rfl,hC,Box.new U s a b c d,ad.size,ad.al _⟩
theorem ua (hC:cw s a b c d z) (ad:Ext B U) (hz:Box U g false 0 0 0 0) (h1:B.heap.size≤g):Quot B z (.pointer (some ⟨g,0,none⟩)) (((((U.setCell ⟨g,0,none⟩ (.bool s)).setCell ⟨g,1,none⟩ (.int .u64 (a:Int))).setCell ⟨g,2,none⟩ (.int .u64 (b:Int))).setCell ⟨g,3,none⟩ (.int .u64 (c:Int))).setCell ⟨g,4,none⟩ (.int .u64 (d:Int))):=
 ⟨_,s,a,b,c,d,rfl,hC,hz.put,h1,dr ad h1 _ _ _ _ _⟩
end
end
section
open Go Go.RowKit
theorem Om {w:World}{b off:Nat} (ty:TypeId) (d:TypeDesc) (hu:Tryz.prog.underlying ty=some d) (hd:yG d) (cs:List Value) (hi:(Tryz.prog.info? ty).map (·.size)=some cs.length) (hc:∀ i u,cs[i]?=some u→w.cell? ⟨b,off+i,none⟩=some u) :
 (Instr.loadAt ty (.pointer (some ⟨b,off,none⟩))).run Tryz.prog w=.ok (.agg cs.toArray) w:=by
 have hl:(loadCells ⟨b,off,none⟩ cs.length).run Tryz.prog w=.ok cs.toArray w:=
  run_loadCells_list (P:=Tryz.prog) w ⟨b,off,none⟩ cs (fun j v aF=>by
   have p4:(⟨b,off,none⟩:Addr).add j=⟨b,off+j,none⟩:=Jq b off j;rw[p4];exact hc j v aF)
 cases aO:Tryz.prog.info? ty with
 | none=>simp[aO] at hi
 | some i =>
  have hs:i.size=cs.length:=by simpa [aO] using hi
  have Lq:(isAgg ty).run Tryz.prog w=.ok true w:=by
   unfold isAgg;rw[Sem.run_bind,run_underlying hu w];unfold yG at hd;cases d<;>simp_all
  simp[Instr.loadAt,Instr.sureAddr,loadVar,Sem.run_bind,Lq,sizeOf,typeInfo,aO,hs,hl]
namespace El
variable {α:Type}{E:El α}
theorem size (E:El α):(Tryz.prog.info? E.T).map (·.size)=some E.k:=by
 obtain⟨i0,j5,_,l3,_⟩:=Mq E.info;rw[j5];simp[l3]
theorem At.load {w:World}{b off:Nat}{l:List α} (h:E.At w (some ⟨b,off,none⟩) l) {j:Nat}{x:α} (aN:l[j]?=some x) {d:TypeDesc} (hu:Tryz.prog.underlying E.T=some d) (hd:yG d) :
 (Instr.loadAt E.T (.pointer (some ⟨b,off+j*E.k,none⟩))).run Tryz.prog w=.ok (.agg (E.enc x).toArray) w:=
 Om E.T d hu hd (E.enc x) (by rw[E.len];exact E.size) (fun i u hi=>by
  have:=h.row (E:=E) aN i u hi;rwa [←Nat.add_assoc] at this)
theorem At.part {w:World}{b off:Nat}{l:List α} (h:E.At w (some ⟨b,off,none⟩) l) {j:Nat}{x:α} (aN:l[j]?=some x) (ty:TypeId) {d:TypeDesc} (hu:Tryz.prog.underlying ty=some d) (hd:yG d) (i:Nat) (cs:List Value) (hi:(Tryz.prog.info? ty).map (·.size)=some cs.length) (hcs:((E.enc x).drop i).take cs.length=cs) :
 (Instr.loadAt ty (.pointer (some ⟨b,off+j*E.k+i,none⟩))).run Tryz.prog w=.ok (.agg cs.toArray) w:=
 Om ty d hu hd cs hi (fun m u hm=>by
  have sM:m<cs.length:=(List.getElem?_eq_some_iff.1 hm).1;have e:(E.enc x)[i+m]?=some u:=by
   rw[←hcs,List.getElem?_take_of_lt sM,List.getElem?_drop] at hm;exact hm
  have:=h.row (E:=E) aN (i+m) u e;rwa [show off+(j*E.k+(i+m))=off+j*E.k+i+m by omega] at this)
theorem elem (E:El α):Tryz.prog.elem E.S=E.T:=by
 unfold Program.elem;rw[E.B3]
theorem idx (E:El α) (b off N cap j:Nat) (h:j<N) (w:World):(Instr.indexAt E.S (.slice (some ⟨b,off,none⟩) N cap) (.int .i64 (j:Int))).run Tryz.prog w=.ok (.pointer (some ⟨b,off+j*E.k,none⟩)) w:=by
 obtain⟨i0,j5,bf,l3,lz⟩:=Mq E.info;have aD:=run_indexAt_slice (P:=Tryz.prog) (w:=w) E.S ⟨b,off,none⟩ N cap .i64 (j:Int) (by rw[E.elem];exact E.B3);rw[aD,if_pos ⟨by omega,by omega⟩,E.elem];simp[sizeOf,typeInfo,j5,l3,Result.andThen,Jq]
end El
end
section
open Go Go.RowKit
theorem Box.same {kd:List Tag}{tgt:Nat→Nat}{W w:World}{g:Nat}{s:Bool}{a b c d:Nat} (x:Box W g s a b c d) (h:Same kd tgt W w) (hc:∀ c,Tag.so c∈kd→tgt c≠g):Box w g s a b c d:=h.block x hc
theorem aku {w:World}{g:Nat}{s s':Bool}{a b c d a' b' c' d':Nat} (hz:Box w g s' a' b' c' d'):(Instr.storeAt 27 (ptrTo g) (.agg #[.bool s,a,b,c,d])).run Tryz.prog w=.ok () (((((w.setCell ⟨g,0,none⟩ (.bool s)).setCell ⟨g,1,none⟩ (.int .u64 (a:Int))).setCell ⟨g,2,none⟩ (.int .u64 (b:Int))).setCell ⟨g,3,none⟩ (.int .u64 (c:Int))).setCell ⟨g,4,none⟩ (.int .u64 (d:Int))):=by
 have qj:=av hz;unfold ptrTo;go_simp
theorem vX {ρ:Operand→Value}{o:Oper}{p x:Operand}{w:World}{g:Nat}{s s':Bool}{a b c d a' b' c' d':Nat} (hop:o.op=.store 27 p x) (hp:ρ p=ptrTo g) (hx:ρ x=.agg #[.bool s,a,b,c,d]) (hz:w.heap[g]?=some (.cells #[.bool s',a',b',c',d'] 27 (0,0))) :
 oC Tryz.prog ρ o w g (.cells #[.bool s,a,b,c,d] 27 (0,0)):=by
 have h1:(execOp ρ o).run Tryz.prog w=.ok .skip (((((w.setCell ⟨g,0,none⟩ (.bool s)).setCell ⟨g,1,none⟩ (.int .u64 (a:Int))).setCell ⟨g,2,none⟩ (.int .u64 (b:Int))).setCell ⟨g,3,none⟩ (.int .u64 (c:Int))).setCell ⟨g,4,none⟩ (.int .u64 (d:Int))):=by
  refine BV hop ?_;rw[hp,hx];exact aku (s:=s) (a:=a) (b:=b) (c:=c) (d:=d) (show Box w g s' a' b' c' d' from hz)
 have h2:Box (((((w.setCell ⟨g,0,none⟩ (.bool s)).setCell ⟨g,1,none⟩ (.int .u64 (a:Int))).setCell ⟨g,2,none⟩ (.int .u64 (b:Int))).setCell ⟨g,3,none⟩ (.int .u64 (c:Int))).setCell ⟨g,4,none⟩ (.int .u64 (d:Int))) g s a b c d:=Box.put (show Box w g s' a' b' c' d' from hz);refine⟨_,h1,h2,?_,?_,?_,?_,?_⟩
 ·intro k aE;rw[lY aE,lY aE,lY aE,lY aE,lY aE]
 ·simp only[World.size_setCell]
 ·simp only[NP]
 ·simp only[OI]
 ·simp only[NQ]
end
end Go.Proofs.YtojbopibfflnoaaGreat
