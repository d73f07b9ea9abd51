/- Contracts and plain facts; each states its conditions. -/
import Derived.Test.YtojbopibfflnoaaGreatPrY7
import Derived.Test.YtojbopibfflnoaaGreatPrY16
namespace Go.Proofs.YtojbopibfflnoaaGreat
open Go renaming World → w1, Value → Ax, Calls → AA, bodyPost_ret → B7, heap_setCell_other → axd, heap_alloc_new → axe, Ending → axa
open _root_.Go.Proofs.Tryz renaming prog → CW
set_option linter.unusedVariables false
set_option linter.unusedSimpArgs false
set_option maxHeartbeats 16000000
set_option maxRecDepth 100000
section
open Go Go.RowKit
instance (s:Bool) (z:Int):Decidable (Good s z):=by unfold Good;infer_instance
def o3(s:Bool)(x:Int)(t:Bool)(y:Int):Prop:=Good s x/\Good t y/\iW x y
instance (s:Bool) (x:Int) (t:Bool) (y:Int):Decidable (o3 s x t y):=by unfold o3;infer_instance
theorem Vp(s t:Bool)(a b c d e f g h:Nat)(x y:Int)(w:w1)(hx:dg s a b c d x)(hy:dg t e f g h y)(v:Bool)(aF:decide (o3 s x t y)=v) :
 AA CW 90 #[.agg #[.bool s,a,b,c,d,.bool t,e,f,g,h]] w (lN v w):=by
 have bN:=hide (aA w (.cells #[.bool s,a,b,c,d,.bool t,e,f,g,h] 29));have cK:cm (w.alloc (.cells #[.bool s,a,b,c,d,.bool t,e,f,g,h] 29)) w.heap.size s a b c d t e f g h:=axe w _;obtain⟨W,aK⟩:=eo (w.alloc (.cells #[.bool s,a,b,c,d,.bool t,e,f,g,h] 29));rw[<-aK] at bN cK;have aB:=hide aK;clear aK;obtain⟨bt,az,aU,a_,bK,cy,cF,b8,bR,c2,_⟩:=cv cK;by_cases af:Good s x/\Good t y/\y≠0
 ·have nS:cw s a b c d x:=⟨hx,af.1⟩;have sZ:cw t e f g h y:=⟨hy,af.2.1⟩;obtain⟨o,aL⟩:=aM (decide ((ig x y).natAbs<170141183460469231731687303715884105728/\(ik x y).natAbs<170141183460469231731687303715884105728));cases o
  ·have Et:Hid (∀ w',AA CW 105 #[.agg #[.bool s,a,b,c,d],.agg #[.bool t,e,f,g,h]] w' (wJ false 0 0 w')):=fun w'=>by have:=Oa s t a b c d e f g h x y w' nS sZ af.2.2 false aL;simpa using this
   have oN:v=false:=by
    rw[<-aF,decide_eq_false_iff_not];intro h1;have h2:=abS h1.2.2;exact(of_decide_eq_false aL) ⟨h2.2.1,h2.2.2⟩
   subst oN;clear aF aL af nS sZ hx hy;go_enter Tryz.func90,Tryz.ntmps90
   go_upto_region 1 with fail
   rw[<-aB.out];clear aB;go_wp2_with (go_at_call 105;(with_reducible refine(Et.out _).mono ?_);rintro e' bp ⟨s1,a1,bA,az,d1,t1,bk,f1,g1,h1,rfl,_,_,ad⟩;have EE:=hide ((bN.out.trans ad).trans (aA bp (.cells #[.bool s1,a1,bA,az,d1,.bool t1,bk,f1,g1,h1] 29)));clear ad)
   all_goals go_ret
   all_goals exact⟨rfl,EE.out⟩
  ·have Et:Hid (∀ w',AA CW 105 #[.agg #[.bool s,a,b,c,d],.agg #[.bool t,e,f,g,h]] w' (wJ true (ig x y) (ik x y) w')):=fun w'=>by have:=Oa s t a b c d e f g h x y w' nS sZ af.2.2 true aL;simpa using this
   have zi:I0 x y:=⟨af.2.2,of_decide_eq_true aL⟩;have Eg:v=(decide (ig x y=x)&&decide (ik x y=y)):=by
    rw[<-aF,<-Bool.decide_and,decide_eq_decide];constructor
    ·intro h1;exact R_ h1.2.2
    ·rintro⟨h1,h2⟩;have h3:=Uc zi;rw[h1,h2] at h3;exact⟨af.1,af.2.1,h3⟩
   have qs:=hide nS;have o0:=hide sZ;have IU:=hide Eg;clear aF aL af nS sZ hx hy zi Eg;go_enter Tryz.func90,Tryz.ntmps90
   go_upto_region 1 with fail
   rw[<-aB.out];clear aB;go_upto_region 2 with (go_at_call 105;(with_reducible refine(Et.out _).mono ?_);rintro e' bp ⟨s1,a1,bA,az,d1,t1,bk,f1,g1,h1,rfl,jX,oZ,ad⟩;have EE:=hide (bN.out.trans ad);have cK:=cK.ext ad;clear ad)
   have aS:cm (bp.alloc (.cells #[.bool s1,a1,bA,az,d1,.bool t1,bk,f1,g1,h1] 29)) bp.heap.size s1 a1 bA az d1 t1 bk f1 g1 h1:=axe bp _;have ad:=aA bp (.cells #[.bool s1,a1,bA,az,d1,.bool t1,bk,f1,g1,h1] 29);have cK:=cK.ext ad;have EE:=hide (EE.out.trans ad);have aO:=RU s1 s a1 bA az d1 a b c d t1 t bk f1 g1 h1 e f g h;rw[HP jX qs.out,HP oZ o0.out,<-IU.out] at aO;obtain⟨bt,nO,aU,a_,bK,cy,cF,b8,bR,c2,_⟩:=cv cK;have uq:=ct aS;clear jX oZ ad;go_wp2_with fail
   all_goals go_ret
   all_goals exact⟨rfl,EE.out⟩
 ·have Et:Hid (∀ w',AA CW 105 #[.agg #[.bool s,a,b,c,d],.agg #[.bool t,e,f,g,h]] w' (wJ false 0 0 w')):=fun w'=>ajM s t a b c d e f g h x y w' hx hy af
  have oN:v=false:=by
   rw[<-aF,decide_eq_false_iff_not];intro h1;exact af ⟨h1.1,h1.2.1,by have:=h1.2.2.1;omega⟩
  subst oN;clear aF af hx hy;go_enter Tryz.func90,Tryz.ntmps90
  go_upto_region 1 with fail
  rw[<-aB.out];clear aB;go_wp2_with (go_at_call 105;(with_reducible refine(Et.out _).mono ?_);rintro e' bp ⟨s1,a1,bA,az,d1,t1,bk,f1,g1,h1,rfl,_,_,ad⟩;have EE:=hide ((bN.out.trans ad).trans (aA bp (.cells #[.bool s1,a1,bA,az,d1,.bool t1,bk,f1,g1,h1] 29)));clear ad)
  all_goals go_ret
  all_goals exact⟨rfl,EE.out⟩
open Go Go.RowKit
def uK(n m:Int)(w:w1)(e:axa)(w':w1):Prop:=∃ (s:Bool) (a b c d:Nat) (t:Bool) (e' f g h:Nat),e=.returned (.agg #[.bool s,a,b,c,d,.bool t,e',f,g,h])/\cw s a b c d n/\cw t e' f g h m/\Ext w w'
theorem Vn(v:Int)(w:w1)(v1:-9223372036854775808<=v)(v2:v<=9223372036854775807):AA CW 98 #[.int .i64 v] w (uK v 1 w):=by
 have cC:cm (w.alloc (.cells #[false,(),(),(),(),false,(),(),(),()] 29)) w.heap.size false 0 0 0 0 false 0 0 0 0:=axe w _;have EE:=aA w (.cells #[false,(),(),(),(),false,(),(),(),()] 29);obtain⟨W,aK⟩:=eo (w.alloc (.cells #[false,(),(),(),(),false,(),(),(),()] 29));rw[<-aK] at cC EE;have aB:=hide aK;clear aK;have bQ:Hid (∀ w',AA CW 95 #[.int .i64 v] w' (lR v w')):=fun w'=>NW v w' v1 v2
 have bY:Hid (∀ w',AA CW 95 #[.int .i64 1] w' (lR 1 w')):=fun w'=>NW 1 w' (by omega) (by omega)
 clear v1 v2;go_enter Tryz.func98,Tryz.ntmps98
 go_upto_region 1 with fail
 rw[<-aB.out];clear aB;go_wp2_with (first
  | (go_at_call 95;(with_reducible refine(bQ.out _).mono ?_);rintro e' bp ⟨s1,a1,bA,az,d1,rfl,jX,ad⟩;have eN:=hide jX;have cC:=cC.ext ad;have EE:=EE.trans ad;obtain⟨i0,i1,i2,i3,i4,i5,i6,i7,i8,i9,dm,cW,cL,dn,dG,l5,l6,l7,l8,l9⟩:=cv cC;clear ad jX)
  | (go_at_call 95;(with_reducible refine(bY.out _).mono ?_);rintro e' w3 ⟨s2,a2,bX,aU,d2,rfl,ot,ad⟩;have eC:=hide ot;have cC:=cC.ext ad;have EE:=EE.trans ad;obtain⟨i0,i1,i2,i3,i4,i5,i6,i7,i8,i9,dm,cW,cL,dn,dG,l5,l6,l7,l8,l9⟩:=cv cC;clear ad ot))
 all_goals exact B7 (v:=.agg #[.bool s1,a1,bA,az,d1,.bool s2,a2,bX,aU,d2]) (by simp[results,Tryz.results98,go_sem,i0,i1,i2,i3,i4,i5,i6,i7,i8,i9]) rfl ⟨s1,a1,bA,az,d1,s2,a2,bX,aU,d2,rfl,eN.out,eC.out,kY EE (Nat.le_refl _) _ _ _ _ _ _ _ _ _ _⟩
def lU(v:Bool)(x:Int):Int:=if v then x else 0
def lm(v:Bool)(y:Int):Int:=if v then y else 1
theorem Vk(s t:Bool)(a b c d e f g h:Nat)(x y:Int)(w:w1)(hx:dg s a b c d x)(hy:dg t e f g h y)(v:Bool)(aF:decide (o3 s x t y)=v) :
 AA CW 106 #[.agg #[.bool s,a,b,c,d,.bool t,e,f,g,h]] w (uK (lU v x) (lm v y) w):=by
 have bz:=e1 w (.cells #[.bool s,a,b,c,d,.bool t,e,f,g,h] 29) (.cells #[false,(),(),(),(),false,(),(),(),()] 29);have EE:=hide ((aA w (.cells #[.bool s,a,b,c,d,.bool t,e,f,g,h] 29)).trans (aA _ (.cells #[false,(),(),(),(),false,(),(),(),()] 29)));obtain⟨W,aK⟩:=eo ((w.alloc (.cells #[.bool s,a,b,c,d,.bool t,e,f,g,h] 29)).alloc (.cells #[false,(),(),(),(),false,(),(),(),()] 29));rw[<-aK] at bz EE;have cC:cm W w.heap.size s a b c d t e f g h:=bz.1;have aS:cm W (w.heap.size+1) false 0 0 0 0 false 0 0 0 0:=bz.2;have aB:=hide aK;have kv:Hid (∀ w',AA CW 90 #[.agg #[.bool s,a,b,c,d,.bool t,e,f,g,h]] w' (lN v w')):=fun w'=>Vp s t a b c d e f g h x y w' hx hy v aF
 have KK:Hid (v=true->cw s a b c d x/\cw t e f g h y):=by
  intro h1;rw[h1] at aF;have h2:=of_decide_eq_true aF;exact⟨⟨hx,h2.1⟩,⟨hy,h2.2.1⟩⟩
 clear aK bz aF hx hy;obtain⟨bt,az,aU,a_,bK,cy,cF,b8,bR,c2,_⟩:=cv cC;go_enter Tryz.func106,Tryz.ntmps106
 go_upto_region 1 with fail
 rw[<-aB.out];clear aB;cases v
 ·go_wp2_with (first
   | (go_at_call 90;(with_reducible refine(kv.out _).mono ?_);rintro e' bp ⟨rfl,ad⟩;have aS:=aS.ext ad;have EE:=hide (EE.out.trans ad);clear ad)
   | (go_at_call 98;refine(Vn 0 _ (by omega) (by omega)).mono ?_;rintro e' w3 ⟨s1,a1,bA,az,d1,t1,bk,f1,g1,h1,rfl,jX,oZ,ad⟩;have eN:=hide jX;have eC:=hide oZ;have aS:=aS.ext ad;have EE:=hide (EE.out.trans ad);obtain⟨i0,i1,i2,i3,i4,i5,i6,i7,i8,i9,dm,cW,cL,dn,dG,l5,l6,l7,l8,l9⟩:=cv aS;clear ad jX oZ))
  all_goals exact B7 (v:=.agg #[.bool s1,a1,bA,az,d1,.bool t1,bk,f1,g1,h1]) (by simp[results,Tryz.results106,go_sem,i0,i1,i2,i3,i4,i5,i6,i7,i8,i9]) rfl ⟨s1,a1,bA,az,d1,t1,bk,f1,g1,h1,rfl,eN.out,eC.out,kY EE.out (by omega) _ _ _ _ _ _ _ _ _ _⟩
 ·obtain⟨eN,eC⟩:=KK.out rfl;have eN:=hide eN;have eC:=hide eC;go_wp2_with (go_at_call 90;(with_reducible refine(kv.out _).mono ?_);rintro e' bp ⟨rfl,ad⟩;have cC:=cC.ext ad;have aS:=aS.ext ad;have EE:=hide (EE.out.trans ad);obtain⟨bt,az,aU,a_,bK,cy,cF,b8,bR,c2,_⟩:=cv cC;obtain⟨i0,i1,i2,i3,i4,i5,i6,i7,i8,i9,dm,cW,cL,dn,dG,l5,l6,l7,l8,l9⟩:=cv aS;clear ad)
  all_goals exact B7 (v:=.agg #[.bool s,a,b,c,d,.bool t,e,f,g,h]) (by simp[results,Tryz.results106,go_sem,i0,i1,i2,i3,i4,i5,i6,i7,i8,i9]) rfl ⟨s,a,b,c,d,t,e,f,g,h,rfl,eN.out,eC.out,kY EE.out (by omega) _ _ _ _ _ _ _ _ _ _⟩
theorem cm.C7{w:w1}{k:Nat}{s:Bool}{a b c d:Nat}{t:Bool}{e f g h:Nat}{b':Nat}(x:cm w k s a b c d t e f g h)(hn:k≠b')(u0 u1 u2 u3 u4 u5 u6 u7 u8 u9:Ax):cm ((((((((((w.setCell ⟨b',0,none⟩ u0).setCell ⟨b',1,none⟩ u1).setCell ⟨b',2,none⟩ u2).setCell ⟨b',3,none⟩ u3).setCell ⟨b',4,none⟩ u4).setCell ⟨b',5,none⟩ u5).setCell ⟨b',6,none⟩ u6).setCell ⟨b',7,none⟩ u7).setCell ⟨b',8,none⟩ u8).setCell ⟨b',9,none⟩ u9) k s a b c d t e f g h:=by
 unfold cm at *;rw[axd _ _ _ _ (by simpa using hn),axd _ _ _ _ (by simpa using hn),axd _ _ _ _ (by simpa using hn),axd _ _ _ _ (by simpa using hn),axd _ _ _ _ (by simpa using hn),axd _ _ _ _ (by simpa using hn),axd _ _ _ _ (by simpa using hn),axd _ _ _ _ (by simpa using hn),axd _ _ _ _ (by simpa using hn),axd _ _ _ _ (by simpa using hn)];exact x
theorem akJ(v0 v1 v2 v3 v4 v5 v6 qg qh v9 u0 u1 u2 u3 u4 u5 u6 u7 u8 u9:Ax):((((((((((#[v0,v1,v2,v3,v4,v5,v6,qg,qh,v9]:Array Ax).setIfInBounds 0 u0).setIfInBounds 1 u1).setIfInBounds 2 u2).setIfInBounds 3 u3).setIfInBounds 4 u4).setIfInBounds 5 u5).setIfInBounds 6 u6).setIfInBounds 7 u7).setIfInBounds 8 u8).setIfInBounds 9 u9=#[u0,u1,u2,u3,u4,u5,u6,u7,u8,u9]:=by
 apply Array.ext'
 simp only[Array.toList_setIfInBounds,List.set_cons_zero,List.set_cons_succ]
theorem cm.put{w:w1}{k:Nat}{s:Bool}{a b c d:Nat}{t:Bool}{e f g h:Nat}{s':Bool}{a' b' c' d':Nat}{t':Bool}{e' f' g' h':Nat}(x:cm w k s a b c d t e f g h):cm ((((((((((w.setCell ⟨k,0,none⟩ (.bool s')).setCell ⟨k,1,none⟩ (.int .u64 (a':Int))).setCell ⟨k,2,none⟩ (.int .u64 (b':Int))).setCell ⟨k,3,none⟩ (.int .u64 (c':Int))).setCell ⟨k,4,none⟩ (.int .u64 (d':Int))).setCell ⟨k,5,none⟩ (.bool t')).setCell ⟨k,6,none⟩ (.int .u64 (e':Int))).setCell ⟨k,7,none⟩ (.int .u64 (f':Int))).setCell ⟨k,8,none⟩ (.int .u64 (g':Int))).setCell ⟨k,9,none⟩ (.int .u64 (h':Int))) k s' a' b' c' d' t' e' f' g' h':=by
 have y:=kE (kE (kE (kE (kE (kE (kE (kE (kE (kE x 0 (.bool s')) 1 (.int .u64 (a':Int))) 2 (.int .u64 (b':Int))) 3 (.int .u64 (c':Int))) 4 (.int .u64 (d':Int))) 5 (.bool t')) 6 (.int .u64 (e':Int))) 7 (.int .u64 (f':Int))) 8 (.int .u64 (g':Int))) 9 (.int .u64 (h':Int));rw[akJ] at y;exact y
theorem Ge{s:Bool}{x:Int}{t:Bool}{y:Int}{v:Bool}(aF:decide (o3 s x t y)=v):(lU v x).natAbs<170141183460469231731687303715884105728/\(lm v y).natAbs<170141183460469231731687303715884105728/\0<lm v y/\iW (lU v x) (lm v y):=by
 cases v
 ·simp[lU,lm,iW]
 ·have h:=(of_decide_eq_true aF).2.2;exact⟨h.2.1,h.2.2.1,h.1,h⟩
theorem Hk{n m:Int}(hn:n.natAbs<170141183460469231731687303715884105728)(hm:m.natAbs<170141183460469231731687303715884105728):(n*m).natAbs<115792089237316195423570985008687907853269984665640564039457584007913129639936:=by
 rw[Int.natAbs_mul];have h1:n.natAbs*m.natAbs<=170141183460469231731687303715884105728*m.natAbs:=Nat.mul_le_mul_right _ (by omega);omega
def QU(w:w1)(aC m1 aW m2:Int)(bP:w1):Prop:=∃ (s:Bool) (a b c d:Nat) (t:Bool) (e f g h:Nat) (s':Bool) (a' b' c' d':Nat) (t':Bool) (e' f' g' h':Nat),cw s a b c d aC/\cw t e f g h m1/\cw s' a' b' c' d' aW/\cw t' e' f' g' h' m2/\cm bP w.heap.size s a b c d t e f g h/\cm bP (w.heap.size+1) s' a' b' c' d' t' e' f' g' h'/\Ext w bP
def X4(z:Int)(w:w1)(e:axa)(w':w1):Prop:=∃ (s:Bool) (a b c d:Nat),e=.returned (.tuple #[.agg #[.bool s,a,b,c,d],.bool true])/\cw s a b c d z/\Ext w w'
theorem H'{z:Int}{w:w1}{e:axa}{w':w1}(h:oG z w e w')(hz:z.natAbs<115792089237316195423570985008687907853269984665640564039457584007913129639936):X4 z w e w':=by
 obtain⟨s,a,b,c,d,o,rfl,aL,hC,ad⟩:=h;rw[if_pos hz] at hC;have:o=true:=by rw[aL,decide_eq_true_iff];exact hz
 subst this
 exact⟨s,a,b,c,d,rfl,hC,ad⟩
theorem ajD(s1:Bool)(a1 bA az d1:Nat)(t1:Bool)(bk f1 g1 h1:Nat)(s2:Bool)(a2 bX aU d2:Nat)(t2:Bool)(e2 f2 g2 h2:Nat)(x1 y1 x2 gK:Int)(w:w1)(mP:dg s1 a1 bA az d1 x1)(oO:dg t1 bk f1 g1 h1 y1)(j6:dg s2 a2 bX aU d2 x2)(xy:dg t2 e2 f2 g2 h2 gK)(v1 v2:Bool)(l2:decide (o3 s1 x1 t1 y1)=v1)(ly:decide (o3 s2 x2 t2 gK)=v2) :
 AA CW 91 #[.agg #[.bool s1,a1,bA,az,d1,.bool t1,bk,f1,g1,h1],.agg #[.bool s2,a2,bX,aU,d2,.bool t2,e2,f2,g2,h2]] w (nc .i64 (f_ (lU v1 x1*lm v2 gK) (lU v2 x2*lm v1 y1)) w):=by
 have bz:=e1 w (.cells #[.bool s1,a1,bA,az,d1,.bool t1,bk,f1,g1,h1] 29) (.cells #[.bool s2,a2,bX,aU,d2,.bool t2,e2,f2,g2,h2] 29);have EE:=(aA w (.cells #[.bool s1,a1,bA,az,d1,.bool t1,bk,f1,g1,h1] 29)).trans (aA _ (.cells #[.bool s2,a2,bX,aU,d2,.bool t2,e2,f2,g2,h2] 29));obtain⟨W,aK⟩:=eo ((w.alloc (.cells #[.bool s1,a1,bA,az,d1,.bool t1,bk,f1,g1,h1] 29)).alloc (.cells #[.bool s2,a2,bX,aU,d2,.bool t2,e2,f2,g2,h2] 29));rw[<-aK] at bz EE;have aS:cm W w.heap.size s1 a1 bA az d1 t1 bk f1 g1 h1:=bz.1;have ak:cm W (w.heap.size+1) s2 a2 bX aU d2 t2 e2 f2 g2 h2:=bz.2;have aB:=hide aK;clear aK bz;have bQ:Hid (∀ w',AA CW 106 #[.agg #[.bool s1,a1,bA,az,d1,.bool t1,bk,f1,g1,h1]] w' (uK (lU v1 x1) (lm v1 y1) w')):=fun w'=>Vk _ _ _ _ _ _ _ _ _ _ x1 y1 w' mP oO v1 l2
 have bY:Hid (∀ w',AA CW 106 #[.agg #[.bool s2,a2,bX,aU,d2,.bool t2,e2,f2,g2,h2]] w' (uK (lU v2 x2) (lm v2 gK) w')):=fun w'=>Vk _ _ _ _ _ _ _ _ _ _ x2 gK w' j6 xy v2 ly
 obtain⟨yL,yI,N3,_⟩:=Ge l2;obtain⟨yM,yJ,N4,_⟩:=Ge ly;obtain⟨r,aD⟩:=aM (f_ (lU v1 x1*lm v2 gK) (lU v2 x2*lm v1 y1));rw[aD];obtain⟨q,aO⟩:=aM (ii s1 s2 a1 bA az d1 a2 bX aU d2&&ii t1 t2 bk f1 g1 h1 e2 f2 g2 h2);have D9:=RU s1 s2 a1 bA az d1 a2 bX aU d2 t1 t2 bk f1 g1 h1 e2 f2 g2 h2;rw[aO] at D9;have iz:Hid (q=true->r=0):=by
  intro h;rw[h] at aO;simp only[ii,Bool.and_eq_true,beq_iff_eq] at aO;obtain⟨⟨rfl,i1,i2,i3,i4⟩,rfl,i5,i6,i7,i8⟩:=aO;obtain rfl:a1=a2:=by omega
  obtain rfl:bA=bX:=by omega
  obtain rfl:az=aU:=by omega
  obtain rfl:d1=d2:=by omega
  obtain rfl:bk=e2:=by omega
  obtain rfl:f1=f2:=by omega
  obtain rfl:g1=g2:=by omega
  obtain rfl:h1=h2:=by omega
  obtain rfl:x1=x2:=mP.2.2.2.2.trans j6.2.2.2.2.symm;obtain rfl:y1=gK:=oO.2.2.2.2.trans xy.2.2.2.2.symm;rw[l2] at ly;subst ly;rw[<-aD];unfold f_;rw[if_neg (Int.lt_irrefl _),if_neg (Int.lt_irrefl _)]
 have bq:=hide aD;clear aD aO l2 ly mP oO j6 xy;obtain⟨aC,hJ⟩:∃ n,lU v1 x1=n:=⟨_,rfl⟩;obtain⟨m1,jt⟩:∃ n,lm v1 y1=n:=⟨_,rfl⟩;obtain⟨aW,fT⟩:∃ n,lU v2 x2=n:=⟨_,rfl⟩;obtain⟨m2,pn⟩:∃ n,lm v2 gK=n:=⟨_,rfl⟩;rw[hJ] at bQ bq yL;rw[jt] at bQ bq yI;rw[fT] at bY bq yM;rw[pn] at bY bq yJ;have Il:=hide (Hk yL yJ);have Io:=hide (Hk yM yI);clear hJ jt fT pn N3 N4 yL yM yI yJ;have uq:=cv aS;have qj:=cv ak;go_enter Tryz.func91,Tryz.ntmps91
 go_upto_region 1 with fail
 rw[<-aB.out];clear aB;cases q
 ·clear iz;go_upto_region 3 with fail
  clear D9;go_cut [] (fun bP=>QU w aC m1 aW m2 bP)
  case first =>
   go_region_with (first
    | (go_at_call 106;(with_reducible refine(bQ.out _).mono ?_);rintro e' bm ⟨iC,a5,c1,cy,d5,t5,tO,f5,g5,h5,rfl,Dz,Lh,ad⟩;have aS:cm bm w.heap.size s1 a1 bA az d1 t1 bk f1 g1 h1:=(by first|exact aS.ext ad|exact aS.drew.ext ad);have ak:cm bm (w.heap.size+1) s2 a2 bX aU d2 t2 e2 f2 g2 h2:=(by first|exact ak.ext ad|exact ak.drew.ext ad);have EE:Ext w bm:=(by first|exact EE.trans ad|exact(EE.trans (b5 _)).trans ad);have uq:=cv aS;have qj:=cv ak;clear ad)
    | (go_at_call 106;(with_reducible refine(bY.out _).mono ?_);rintro e' cg ⟨fq,a6,cH,cF,d6,t6,uX,f6,g6,h6,rfl,DA,Li,ad⟩;have aS:cm cg w.heap.size s1 a1 bA az d1 t1 bk f1 g1 h1:=(by first|exact aS.ext ad|exact aS.drew.ext ad);have ak:cm cg (w.heap.size+1) s2 a2 bX aU d2 t2 e2 f2 g2 h2:=(by first|exact ak.ext ad|exact ak.drew.ext ad);have EE:Ext w cg:=(by first|exact EE.trans ad|exact(EE.trans (b5 _)).trans ad);have uq:=cv aS;have qj:=cv ak;clear ad))
   all_goals go_wp2_with fail
   all_goals go_meet
   all_goals exact⟨iC,a5,c1,cy,d5,t5,tO,f5,g5,h5,fq,a6,cH,cF,d6,t6,uX,f6,g6,h6,Dz,Lh,DA,Li,(aS.put).C7 (by omega) _ _ _ _ _ _ _ _ _ _,(ak.C7 (by omega) _ _ _ _ _ _ _ _ _ _).put,kY (kY EE (Nat.le_refl _) _ _ _ _ _ _ _ _ _ _) (by omega) _ _ _ _ _ _ _ _ _ _⟩
  case rest =>
   clear aS ak EE;obtain⟨s1,a1,bA,az,d1,t1,bk,f1,g1,h1,s2,a2,bX,aU,d2,t2,e2,f2,g2,h2,jX,oZ,ot,B8,aS,ak,EE⟩:=hcut;have eN:=hide jX;have kq:=hide oZ;have eC:=hide ot;have AG:=hide B8;clear jX oZ ot B8 bQ bY;have gR:Hid (∀ (iC:Bool) (a5 c1 cy d5:Nat) (fq:Bool) (a6 cH cF d6:Nat) w',cw iC a5 c1 cy d5 (aC*m2)->cw fq a6 cH cF d6 (aW*m1)->AA CW 108 #[.agg #[.bool iC,a5,c1,cy,d5],.agg #[.bool fq,a6,cH,cF,d6]] w' (nc .i64 r w')):=fun iC a5 c1 cy d5 fq a6 cH cF d6 w' h5 h6=>by rw[<-bq.out];exact aiQ _ _ _ _ _ _ _ _ _ _ _ _ w' h5.1 h6.1
   have uq:=cv aS;have qj:=cv ak;go_upto_region 5 with (go_at_call 107;refine(N2 s1 t2 a1 bA az d1 e2 f2 g2 h2 aC m2 _ eN.out.1 AG.out.1).mono ?_;intro e' b6 Ea;obtain⟨iC,a5,c1,cy,d5,rfl,uw,ad⟩:=H' Ea Il.out;have aS:=aS.ext ad;have ak:=ak.ext ad;have EE:=EE.trans ad;clear ad Ea)
   have r1:=hide uw;have jG:Box (b6.alloc (.cells #[.bool iC,a5,c1,cy,d5] 27)) b6.heap.size iC a5 c1 cy d5:=axe b6 _;have ad:=aA b6 (.cells #[.bool iC,a5,c1,cy,d5] 27);have aS:=aS.ext ad;have ak:=ak.ext ad;have EE:=EE.trans ad;generalize b6.alloc (.cells #[.bool iC,a5,c1,cy,d5] 27)=oF at *;generalize b6.heap.size=g7 at *;clear uw ad;have uq:=cv aS;have qj:=cv ak;go_upto_region 6 with (go_at_call 107;refine(N2 s2 t1 a2 bX aU d2 bk f1 g1 h1 aW m1 _ eC.out.1 kq.out.1).mono ?_;intro e' c8 Eb;obtain⟨fq,a6,cH,cF,d6,rfl,qm,ad⟩:=H' Eb Io.out;have jG:=jG.ext ad;have EE:=EE.trans ad;clear ad Eb)
   have r2:=hide qm;have cZ:Box (c8.alloc (.cells #[.bool fq,a6,cH,cF,d6] 27)) c8.heap.size fq a6 cH cF d6:=axe c8 _;have ad:=aA c8 (.cells #[.bool fq,a6,cH,cF,d6] 27);have jG:=jG.ext ad;have EE:=EE.trans ad;generalize c8.alloc (.cells #[.bool fq,a6,cH,cF,d6] 27)=yC at *;generalize c8.heap.size=g8 at *;clear qm ad;have dY:=cx jG;have fa:=cx cZ;go_wp2_with (go_at_call 108;refine(gR.out _ _ _ _ _ _ _ _ _ _ _ r1.out r2.out).mono ?_;rintro e' cN ⟨rfl,ad⟩;have EE:=EE.trans ad;clear ad)
   all_goals go_ret
   all_goals exact⟨rfl,EE⟩
 ·have iz:=iz.out rfl;subst iz;go_wp2_with fail
  go_ret;exact⟨rfl,EE⟩
theorem Box.C7{w:w1}{k:Nat}{s:Bool}{a b c d:Nat}{b':Nat}(x:Box w k s a b c d)(hn:k≠b')(u0 u1 u2 u3 u4 u5 u6 u7 u8 u9:Ax):Box ((((((((((w.setCell ⟨b',0,none⟩ u0).setCell ⟨b',1,none⟩ u1).setCell ⟨b',2,none⟩ u2).setCell ⟨b',3,none⟩ u3).setCell ⟨b',4,none⟩ u4).setCell ⟨b',5,none⟩ u5).setCell ⟨b',6,none⟩ u6).setCell ⟨b',7,none⟩ u7).setCell ⟨b',8,none⟩ u8).setCell ⟨b',9,none⟩ u9) k s a b c d:=by
 unfold Box at *;rw[axd _ _ _ _ (by simpa using hn),axd _ _ _ _ (by simpa using hn),axd _ _ _ _ (by simpa using hn),axd _ _ _ _ (by simpa using hn),axd _ _ _ _ (by simpa using hn),axd _ _ _ _ (by simpa using hn),axd _ _ _ _ (by simpa using hn),axd _ _ _ _ (by simpa using hn),axd _ _ _ _ (by simpa using hn),axd _ _ _ _ (by simpa using hn)];exact x
open Go Go.RowKit
open Go Go.RowKit
end
end Go.Proofs.YtojbopibfflnoaaGreat
