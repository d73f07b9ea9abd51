/- Contracts and plain facts; each states its conditions. -/
import Derived.Test.YtojbopibfflnoaaGreatPrW2
import Derived.Test.YtojbopibfflnoaaGreatPrW3
import Derived.Below
import Derived.KernelRfl
namespace Go.Proofs.YtojbopibfflnoaaGreat
set_option linter.unusedVariables false
set_option linter.unusedSimpArgs false
set_option maxHeartbeats 16000000
section
open Go Go.RowKit
def uP (a:Int):Prop:=0≤a∧a≤18446744073709551615
theorem iT (n:Int):IntKind.u64.wrap n=n%18446744073709551616:=by simp[IntKind.wrap,IntKind.bits,IntKind.signed]
theorem m32 (n:Int):bits .and .u64 n 4294967295=n%4294967296:=by
 have h127:(BitVec.ofInt 64 4294967295).toNat=2 ^ 32-1:=by decide
 have key:(BitVec.ofInt 64 n &&& BitVec.ofInt 64 4294967295).toNat=(n%((2 ^ 64:Nat):Int)).toNat%2 ^ 32:=by
  rw[BitVec.toNat_and,BitVec.toNat_ofInt,h127,Nat.and_two_pow_sub_one_eq_mod]
 show IntKind.u64.wrap ((BitVec.ofInt 64 n &&& BitVec.ofInt 64 4294967295).toNat:Nat)=n%4294967296
 rw[key,iT];omega
theorem GZ {a b:Int} (ha:0≤a) (adP:a≤4294967295) (hb:0≤b) (Bi:b≤4294967295):0≤a*b∧a*b≤18446744065119617025:=by
 refine⟨Int.mul_nonneg ha hb,?_⟩;have h1:a*b≤4294967295*b:=Int.mul_le_mul_of_nonneg_right adP hb;omega
theorem agF (a b:Int) (a1:0≤a) (a2:a≤18446744073709551615) (bA:0≤b) (bX:b≤18446744073709551615) :
 (((a / 4294967296*(b / 4294967296))%18446744073709551616+((a / 4294967296*(b%4294967296))%18446744073709551616+((a%4294967296*(b%4294967296))%18446744073709551616) / 4294967296)%18446744073709551616 / 4294967296)%18446744073709551616+((((a / 4294967296*(b%4294967296))%18446744073709551616+((a%4294967296*(b%4294967296))%18446744073709551616) / 4294967296)%18446744073709551616)%4294967296+(a%4294967296*(b / 4294967296))%18446744073709551616)%18446744073709551616 / 4294967296)%18446744073709551616=a*b / 18446744073709551616:=by
 have bk:a=a / 4294967296*4294967296+a%4294967296:=by omega
 have e2:b=b / 4294967296*4294967296+b%4294967296:=by omega
 have h1:=GZ (a:=a / 4294967296) (b:=b / 4294967296) (by omega) (by omega) (by omega) (by omega);have h2:=GZ (a:=a / 4294967296) (b:=b%4294967296) (by omega) (by omega) (by omega) (by omega);have h3:=GZ (a:=a%4294967296) (b:=b / 4294967296) (by omega) (by omega) (by omega) (by omega);have h4:=GZ (a:=a%4294967296) (b:=b%4294967296) (by omega) (by omega) (by omega) (by omega);generalize a / 4294967296=x1 at *;generalize a%4294967296=x0 at *;generalize b / 4294967296=y1 at *;generalize b%4294967296=nY at *;have e:a*b=x1*y1*18446744073709551616+(x1*nY+x0*y1)*4294967296+x0*nY:=by rw[bk,e2];grind
 rw[e];generalize x1*y1=p at *;generalize x1*nY=q at *;generalize x0*y1=r at *;generalize x0*nY=s at *;clear bk e2 e;omega
theorem s9 {k j:IntKind}{a a':Int}{b b':Int} (h1:a=a') (h2:b=b'):Ending.returned (Value.tuple #[.int k a,.int j b])=.returned (.tuple #[.int k a',.int j b']):=by rw[h1,h2]
theorem agy (a:Int) (b:Int) (w:World) (ha:uP a) (hb:uP b) :
 Calls Tryz.prog 100 #[.int .u64 a,.int .u64 b] w fun e w'=>e=.returned (.tuple #[.int .u64 (a*b / 18446744073709551616),.int .u64 (a*b%18446744073709551616)])∧w=w':=by
 obtain⟨a1,a2⟩:=ha;obtain⟨bA,bX⟩:=hb;go_enter Tryz.func100,Tryz.ntmps100
 go_wp2
 go_ret2
 exact⟨s9 (by simp only[m32,iT];exact agF a b a1 a2 bA bX) (by simp only[iT]),rfl⟩
theorem Jx (a b h l:Nat) (w:World) (ha:a<18446744073709551616) (hb:b<18446744073709551616) (hh:Hid (a*b / 18446744073709551616=h)) (hl:Hid (a*b%18446744073709551616=l)) :
 Calls Tryz.prog 100 #[.int .u64 (a:Int),.int .u64 (b:Int)] w fun e w'=>e=.returned (.tuple #[h,l])∧w=w':=by
 refine(agy a b w (by unfold uP;omega) (by unfold uP;omega)).mono ?_;rintro e w' ⟨rfl,rfl⟩;exact⟨s9 (by rw[←hh.out,Int.natCast_ediv,Int.natCast_mul];rfl) (by rw[←hl.out,Int.natCast_emod,Int.natCast_mul];rfl),rfl⟩
theorem X9 (x y c l h:Nat) (hc:c≤1) (hl:(x+y+c)%18446744073709551616=l) (hh:(x+y+c) / 18446744073709551616=h) (w:World):(callFunc 85 #[.int .u64 (x:Int),.int .u64 (y:Int),.int .u64 (c:Int)]).run Tryz.prog w =
 .ok (.value (.tuple #[l,h])) w:=by rw[CA x y c hc,hl,hh]
theorem Cz (x y l h:Nat) (hl:(x+y)%18446744073709551616=l) (hh:(x+y) / 18446744073709551616=h) (w:World):(callFunc 85 #[.int .u64 (x:Int),.int .u64 (y:Int),.int .u64 0]).run Tryz.prog w =
 .ok (.value (.tuple #[l,h])) w:=X9 x y 0 l h (by omega) hl hh w
theorem V8 (x y c l h:Nat) (hc:c≤1) (hl:(x+18446744073709551616-y-c)%18446744073709551616=l) (hh:(if x<y+c then 1 else 0)=h) (w:World):(callFunc 86 #[.int .u64 (x:Int),.int .u64 (y:Int),.int .u64 (c:Int)]).run Tryz.prog w =
 .ok (.value (.tuple #[l,h])) w:=by rw[HS x y c hc,hl,hh]
theorem N6 {a b:Nat} (ha:a<18446744073709551616) (hb:b<18446744073709551616):a*b≤340282366920938463426481119284349108225:=by
 have h1:a*b≤18446744073709551615*b:=Nat.mul_le_mul_right _ (by omega);omega
end
section
open Go Go.RowKit
def de (a:Int):Prop:=-9223372036854775808≤a∧a≤9223372036854775807
def Ck (n v:Int):Prop:=0≤v∧(1≤n→v<n)∧(n<1→v=0)
def EF (a n:Int):Int:=if n<1 then 0 else if a.tmod n<0 then a.tmod n+n else a.tmod n
theorem agD (a n:Int):Ck n (EF a n):=by
 unfold Ck EF;have bd:=Wf a n;split
 ·omega
 ·have h2:=(bd (by omega)).2.1;split<;>omega
theorem alb (a n:Int) (w:World) (ha:de a) (hn:de n) :
 Calls Tryz.prog 74 #[.int .i64 a,.int .i64 n] w fun e w'=>e=.returned (.int .i64 (EF a n))∧w'=w:=by
 obtain⟨a1,a2⟩:=ha;obtain⟨aC,aW⟩:=hn;by_cases h:n<1
 ·go_enter Tryz.func74,Tryz.ntmps74
  go_wp2
  go_ret;exact⟨kD (by simp only[EF];omega),rfl⟩
 ·have t1:(a.tmod n).natAbs<n.natAbs:=(Wf a n (by omega)).2.1;go_enter Tryz.func74,Tryz.ntmps74
  go_wp2
  all_goals go_ret
  all_goals exact⟨kD (by simp only[EF];grind),rfl⟩
def fP (B:Nat) (w:World) (b:Nat):Prop:=
 B≤b∧b<w.heap.size∧∃ (a:Option Addr) (len cap at_:Nat),w.cell? ⟨b,0,none⟩=some (.slice a len cap)∧w.cell? ⟨b,1,none⟩=some (.int .i64 at_)∧w.frozen? ⟨b,1,none⟩=false∧at_≤9223372036854775807∧len≤9223372036854775807 ∧
  (len=0∨∃ jh la:Nat,a=some ⟨jh,la,none⟩∧jh<B∧len≤cap∧∀ i,i<len→∃ v:Int,de v∧w.cell? ⟨jh,la+i,none⟩=some (.int .i64 v))
theorem fP.below {B b:Nat}{w w':World} (h:fP B w b) (k:Below (b+1) w w'):fP B w' b:=by
 obtain⟨h1,h2,a,len,cap,at_,bt,az,f1,h3,h4,hx⟩:=h;have hs:=k.size;refine⟨h1,by omega,a,len,cap,at_,(k.cell (p:=⟨b,0,none⟩) (by simp)).trans bt,(k.cell (p:=⟨b,1,none⟩) (by simp)).trans az,(k.frozen (p:=⟨b,1,none⟩) (by simp)).trans f1,h3,h4,?_⟩;rcases hx with hx|⟨jh,la,e,hb,hl,hc⟩
 ·exact Or.inl hx
 ·refine Or.inr ⟨jh,la,e,hb,hl,fun i hi=>?_⟩;obtain⟨v,aF,jL⟩:=hc i hi;exact⟨v,aF,(k.cell (p:=⟨jh,la+i,none⟩) (by simp;omega)).trans jL⟩
theorem yK (B:Nat) (w:World) (n:Nat):Below B w (w.drewN n):=⟨rfl,rfl,rfl,Nat.le_refl _,fun _ _=>rfl⟩
theorem fP.bump {B b:Nat}{w:World} (h:fP B w b) (k:Int) (h0:0≤k) (aE:k≤9223372036854775807) :
 fP B (w.setCell ⟨b,1,none⟩ (.int .i64 k)) b∧Below B w (w.setCell ⟨b,1,none⟩ (.int .i64 k)):=by
 obtain⟨k,rfl⟩:=Int.eq_ofNat_of_zero_le h0;obtain⟨h1,h2,a,len,cap,at_,bt,az,f1,h3,h4,hx⟩:=h;have hb:Below B w (w.setCell ⟨b,1,none⟩ (.int .i64 k)):=(Below.refl B w).setCell (p:=⟨b,1,none⟩) h1 _;refine⟨⟨h1,by simpa [World.setCell] using h2,a,len,cap,k,?_,World.cell?_setCell_same _ _ _ az,?_,by omega,h4,?_⟩,hb⟩
 ·rw[World.cell?_setCell_other _ _ _ _ (by simp)];exact bt
 ·rw[World.frozen?_setCell];exact f1
 ·rcases hx with hx|⟨jh,la,e,iy,hl,hc⟩
  ·exact Or.inl hx
  ·refine Or.inr ⟨jh,la,e,iy,hl,fun i hi=>?_⟩;obtain⟨v,aF,jL⟩:=hc i hi;exact⟨v,aF,(hb.cell (p:=⟨jh,la+i,none⟩) iy).trans jL⟩
def AI (B b:Nat) (P:Int→Prop) (k:IntKind) (w:World) (e:Ending) (w':World):Prop:=∃ v:Int,e=.returned (.int k v)∧P v∧fP B w' b∧b3 b w w'
theorem lJ (B b:Nat) (n:Int) (w:World) (hn:de n) (aw:fP B w b) :
 Calls Tryz.prog 36 #[.pointer (some ⟨b,0,none⟩),.int .i64 n] w (AI B b (Ck n) .i64 w):=by
 have Bf:=aw;obtain⟨bF,hb,a,len,cap,at_,bt,az,f1,h1,h2,hx⟩:=Bf;by_cases cl:at_<len
 ·obtain⟨jh,la,rfl,ap1,hl,hc⟩:∃ jh la:Nat,a=some ⟨jh,la,none⟩∧jh<B∧len≤cap∧∀ i,i<len→∃ v:Int,de v∧w.cell? ⟨jh,la+i,none⟩=some (.int .i64 v):=by
   rcases hx with hx|hx
   ·omega
   ·exact hx
  obtain⟨v,aF,Gl⟩:=hc at_ cl;have aeb:((at_:Int)<(len:Int)):=by omega
  have dB:¬ (jh=b):=by omega
  clear hc hx;have aeU:IntKind.i64.wrap ((at_:Int)+1)=(at_:Int)+1:=by rw[IntKind.wrap_i64];omega
  go_enter Tryz.func36,Tryz.ntmps36
  go_wp2
  go_quiet (fail)
  go_wp2
  have gE:IntKind.i64.wrap ((at_:Int)+1-1)=(at_:Int):=by rw[IntKind.wrap_i64];omega
  have apU:(0:Int)≤(at_:Int):=by omega
  go_quiet ((go_at_call 74;exact Calls.quiet_of_same (alb _ _ _ aF hn)))
  go_wp2
  go_ret;exact⟨_,rfl,agD v n,(fP.bump (aw.below (yK (b+1) w _)) _ (by omega) (by omega)).1.below (yK _ _ _),(((b3.refl b w).drewN _).set 1 _).drewN _⟩
 ·have SS:((len:Int)≤(at_:Int)):=by omega
  clear hx;go_enter Tryz.func36,Tryz.ntmps36
  go_wp2
  go_quiet (fail)
  go_wp2
  go_ret;exact⟨0,rfl,by unfold Ck;omega,aw.below (yK _ _ _),(b3.refl _ _).drewN _⟩
theorem HW (B b:Nat) (w:World) (aw:fP B w b) :
 Calls Tryz.prog 46 #[.pointer (some ⟨b,0,none⟩)] w (AI B b uP .u64 w):=by
 go_enter Tryz.func46,Tryz.ntmps46
 go_wp2_with fail
 go_loopw [3,4] (fun t i wr=>∃ (k:Nat) (v:Int),k≤4∧i=.int .i64 k∧t=.int .u64 v∧uP v∧fP B wr b∧b3 b w wr) (fun _ i _=>4-(intOf i).toNat)
 case atStart=>exact⟨0,0,by omega,rfl,rfl,by unfold uP;omega,aw,b3.refl _ _⟩
 case round =>
  obtain⟨k,v,aE,rfl,rfl,aF,Bf,bF⟩:=hrel;by_cases cl:k<4
  ·go_wp2_with (go_at_call 36;refine(lJ _ _ _ _ ⟨by omega,by omega⟩ Bf).mono ?_;rintro e w' ⟨u,rfl,hu,tR,y8⟩)
   exact⟨⟨k+1,_,by omega,by go_num,rfl,by unfold uP;rw[iT];omega,tR,bF.trans y8⟩,by simp[intOf];omega⟩
  ·go_wp2
   go_ret;exact⟨_,rfl,aF,Bf,bF⟩
theorem OG (B b:Nat) (n:Int) (W w:World) (hn:de n) (aw:fP B w b) (aK:b3 b W w) :
 Calls Tryz.prog 36 #[.pointer (some ⟨b,0,none⟩),.int .i64 n] w (AI B b (Ck n) .i64 W):=
 (lJ B b n w hn aw).mono fun _ _ ⟨v,e,h,t,k⟩=>⟨v,e,h,t,aK.trans k⟩
theorem alg (B b:Nat) (W w:World) (aw:fP B w b) (aK:b3 b W w) :
 Calls Tryz.prog 46 #[.pointer (some ⟨b,0,none⟩)] w (AI B b uP .u64 W):=
 (HW B b w aw).mono fun _ _ ⟨v,e,h,t,k⟩=>⟨v,e,h,t,aK.trans k⟩
def QK (W:World) (e:Ending) (w':World):Prop:=e=.returned (.pointer (some ⟨W.heap.size,0,none⟩))∧fP W.heap.size w' W.heap.size∧Below W.heap.size W w'
def yq (w:World) (a:Option Addr) (len cap:Nat):Prop:=
 len≤9223372036854775807∧(len=0∨∃ jh la:Nat,a=some ⟨jh,la,none⟩∧jh<w.heap.size∧len≤cap∧∀ i,i<len→∃ v:Int,de v∧w.cell? ⟨jh,la+i,none⟩=some (.int .i64 v))
theorem alc (W:World) (a:Option Addr) (len cap:Nat) (h:yq W a len cap) :
 Calls Tryz.prog 8 #[.slice a len cap] W (QK W):=by
 go_enter Tryz.func8,Tryz.ntmps8
 go_wp2
 go_ret;obtain⟨hl,hx⟩:=h;have hb:∀ o,Below W.heap.size W (W.alloc o):=fun o=>(Below.refl _ _).alloc (Nat.le_refl _) o
 refine⟨rfl,⟨Nat.le_refl _,by simp,a,len,cap,0,by simp,by simp,?_,by omega,hl,?_⟩,hb _⟩
 ·go_simp
 ·rcases hx with hx|⟨jh,la,e,h1,h2,hc⟩
  ·exact Or.inl hx
  ·refine Or.inr ⟨jh,la,e,h1,h2,fun i hi=>?_⟩;obtain⟨v,aF,jL⟩:=hc i hi;exact⟨v,aF,((hb _).cell (p:=⟨jh,la+i,none⟩) h1).trans jL⟩
end
section
open Go Go.RowKit
theorem fP.store {B b g k:Nat}{w:World} (h:fP B w b) (af:b<g) (u:Value):fP B (w.setCell ⟨g,k,none⟩ u) b:=h.below ((Below.refl _ _).setCell (p:=⟨g,k,none⟩) af u)
theorem fP.alloc {B b:Nat}{w:World} (h:fP B w b) (o:Obj):fP B (w.alloc o) b:=h.below ((Below.refl _ _).alloc h.2.1 o)
theorem fP.ext {B b:Nat}{w w':World} (h:fP B w b) (k:Ext w w'):fP B w' b:=h.below (Below.mono k h.2.1)
theorem b3.store {b g k:Nat}{W w:World} (h:b3 b W w) (af:W.heap.size≤g) (u:Value):b3 b W (w.setCell ⟨g,k,none⟩ u):=
 ⟨h.1,h.2.1,h.2.2.1,by simpa [World.setCell] using h.2.2.2.1,fun i hi hn=>(heap_setCell_other w ⟨g,k,none⟩ i u (by simp;omega)).trans (h.2.2.2.2 i hi hn)⟩
theorem b3.more {b:Nat}{W w w':World} (h:b3 b W w) (k:Ext w w'):b3 b W w':=h.trans (k.c7 b)
theorem yq.ext {w w':World}{a:Option Addr}{len cap:Nat} (h:yq w a len cap) (k:Ext w w'):yq w' a len cap:=by
 obtain⟨h1,h2⟩:=h;refine⟨h1,?_⟩;rcases h2 with h2|⟨jh,la,e,hb,hl,hc⟩
 ·exact Or.inl h2
 ·refine Or.inr ⟨jh,la,e,Nat.lt_of_lt_of_le hb k.size,hl,fun i hi=>?_⟩;obtain⟨v,aF,jL⟩:=hc i hi;exact⟨v,aF,(k.cell (p:=⟨jh,la+i,none⟩) hb).trans jL⟩
end
section
open Go Go.RowKit
theorem oS:18446744073709551616 ^ 4=115792089237316195423570985008687907853269984665640564039457584007913129639936:=by decide
def Rh (n:Nat) (o:Bool) (w:World) (e:Ending) (w':World):Prop:=∃ a b c d:Nat,e=.returned (.tuple #[.agg #[a,b,c,d],.bool o])∧cp [a,b,c,d]∧b0 a b c d=n∧Ext w w'
def Rf (n:Nat) (w:World) (e:Ending) (w':World):Prop:=∃ a b c d:Nat,e=.returned (.agg #[a,b,c,d])∧cp [a,b,c,d]∧b0 a b c d=n∧Ext w w'
theorem Wd (w:World) (a b c d e f g h:Nat) (T:TypeId):∃ W,(((w.alloc (.cells #[a,b,c,d] 130)).alloc (.cells #[e,f,g,h] 130)).alloc (.cells #[(),(),(),()] T))=W ∧
 cn W w.heap.size 130 [a,b,c,d]∧cn W (w.heap.size+1) 130 [e,f,g,h]∧cn W (w.heap.size+1+1) T [0,0,0,0]∧Ext w W:=by
 have h:=kF w (.cells #[a,b,c,d] 130) (.cells #[e,f,g,h] 130) (.cells #[(),(),(),()] T);exact⟨_,rfl,h.1,h.2.1,h.2.2,((aA _ _).trans (aA _ _)).trans (aA _ _)⟩
theorem o9 {W w:World} (h:Ext W w) {b:Nat} (hb:W.heap.size≤b) (u0 u1 u2 u3:Value):Ext W ((((w.setCell ⟨b,0,none⟩ u0).setCell ⟨b,1,none⟩ u1).setCell ⟨b,2,none⟩ u2).setCell ⟨b,3,none⟩ u3):=
 ey (ey (ey (ey h hb _ _) hb _ _) hb _ _) hb _ _
theorem NT (a b c d e f g h n m:Nat) (hn:b0 a b c d=n) (hm:b0 e f g h=m) (w:World) (hw:cp [a,b,c,d]) (bj:cp [e,f,g,h]) :
 Calls Tryz.prog 128 #[.agg #[a,b,c,d],.agg #[e,f,g,h]] w
  (Rh ((n+m)%115792089237316195423570985008687907853269984665640564039457584007913129639936) (decide (n+m<115792089237316195423570985008687907853269984665640564039457584007913129639936)) w):=by
 obtain⟨W,aK,lM,cU,jF,bC⟩:=Wd w a b c d e f g h 130;obtain⟨o,aL⟩:=aM (decide (n+m<115792089237316195423570985008687907853269984665640564039457584007913129639936));have aB:=hide aK;have dO:=hide hn;have hW:=hide hm;have bM:=hide aL;rw[aL];clear aK hn hm aL;go_enter Tryz.func128,Tryz.ntmps128
 go_upto_region 1 with fail
 rw[aB.out];clear aB;go_region_with (go_at_call 137;refine(UQ w.heap.size 0 4 4 (w.heap.size+1) 0 4 4 130 [] [a,b,c,d] [] [e,f,g,h] _ lM.drew rfl rfl rfl ((show cn W _ _ ([]++[e,f,g,h]++[]) from cU).reads rfl |>.ext (b5 _)) (by omega) (by omega) (by omega) hw bj).mono ?_;rintro e' w' ⟨c',os,rfl,za,hl,Ei,aF,y6,ef⟩;obtain⟨a1,bA,az,d1,rfl⟩:=A8 hl;have ay:cn w' w.heap.size 130 [a1,bA,az,d1]:=y6;have aR:=jF.drew.c7 ef (by omega);have bS:=ef.ext (bC.trans (b5 _)) (Nat.le_refl _);have bV:=hide aF;clear aF y6 ef;obtain⟨bt,nO,aU,a_,f0,f1,f2,f3⟩:=ay.four;obtain⟨d0,lp,d2,d3,g0,g1,g2,g3⟩:=aR.four)
 all_goals go_wp2_with fail
 all_goals refine bodyPost_ret (v:=.tuple #[.agg #[a1,bA,az,d1],.bool ((c':Int)==0)]) (by simp[results,Tryz.results128,go_sem,d0,lp,d2,d3]) rfl ⟨a1,bA,az,d1,?_,Ei,?_,o9 bS (by omega) _ _ _ _⟩
 ·have h1:val [a1,bA,az,d1]+115792089237316195423570985008687907853269984665640564039457584007913129639936*c'=n+m:=by have aF:=bV.out;rw[oS] at aF;rw[←dO.out,←hW.out];exact aF
  have h2:val [a1,bA,az,d1]<115792089237316195423570985008687907853269984665640564039457584007913129639936:=by have h2:=wk _ Ei;rw[hl,oS] at h2;exact h2
  have e:((c':Int)==0)=o:=by
   rw[←bM.out];rcases(by omega:c'=0∨c'=1) with h0|h0
   ·rw[decide_eq_true (by omega),h0];rfl
   ·rw[decide_eq_false (by omega),h0];rfl
  rw[e]
 ·have h1:val [a1,bA,az,d1]+115792089237316195423570985008687907853269984665640564039457584007913129639936*c'=n+m:=by have aF:=bV.out;rw[oS] at aF;rw[←dO.out,←hW.out];exact aF
  have h2:val [a1,bA,az,d1]<115792089237316195423570985008687907853269984665640564039457584007913129639936:=by have h2:=wk _ Ei;rw[hl,oS] at h2;exact h2
  have h3:b0 a1 bA az d1=val [a1,bA,az,d1]:=rfl;rw[h3,←h1,Nat.add_mul_mod_self_left,Nat.mod_eq_of_lt h2]
theorem N1 (a b c d e f g h n m:Nat) (hn:b0 a b c d=n) (hm:b0 e f g h=m) (w:World) (hw:cp [a,b,c,d]) (bj:cp [e,f,g,h]) (hle:m≤n) :
 Calls Tryz.prog 129 #[.agg #[a,b,c,d],.agg #[e,f,g,h]] w (Rf (n-m) w):=by
 obtain⟨W,aK,lM,cU,jF,bC⟩:=Wd w a b c d e f g h 130;obtain⟨L,br⟩:=eo ([a,b,c,d]);obtain⟨M,hI⟩:=eo ([e,f,g,h]);have cz:Hid (L.length=4):=by rw[br];exact rfl
 have hW:Hid (M.length=4):=by rw[hI];exact rfl
 have q4:Hid (val L=n):=by rw[br];exact hn
 have AU:Hid (val M=m):=by rw[hI];exact hm
 rw[←br] at lM hw;rw[←hI] at cU bj;have aB:=hide aK;clear aK hn hm br hI;go_enter Tryz.func129,Tryz.ntmps129
 go_wp2_with fail
 rw[aB.out];clear aB;go_loopw [7,5] (fun i t wr=>∃ (k c:Nat) (os:List Nat),i=.int .i64 k∧t=.int .u64 c∧k≤4∧c≤1∧Hid (tI L M os k c)∧cp os∧cn wr w.heap.size 130 os∧b3 w.heap.size W wr) (fun i _ _=>4-(intOf i).toNat)
 case atStart=>exact⟨0,0,L,rfl,rfl,by omega,by omega,⟨rfl,rfl,by omega,by simp[val]⟩,hw,lM,b3.refl _ _⟩
 case round =>
  obtain⟨k,c,os,rfl,rfl,aE,hc,bq,gU,hA,ef⟩:=hrel;have bM:Hid (os.length=4):=bq.out.1.trans cz.out;have au:=cU.c7 ef (by omega);by_cases vC:k<4
  ·have kz:k<os.length:=by rw[bM.out];omega
   have fZ:=hA.at k kz;have lq:=hA.free k;have cb:=au.at k (by rw[hW.out];omega);obtain⟨x,hx⟩:=aM (os[k]);obtain⟨y,hy⟩:=aM (M[k]'(by rw[hW.out];omega));rw[hx] at fZ;rw[hy] at cb;have bN:Hid (x=L[k]'(by rw[cz.out];omega)):=by rw[←hx];exact(n4 bq.out.2.1 kz (by rw[cz.out];omega)).1
   have gB:Hid (M.getD k 0=y):=by rw[←hy];simp[Hid,List.getD,show k<M.length by rw[hW.out];omega]
   clear hx hy;have p4:=HS x y c hc;have cG:Hid (tI L M (os.set k ((x+18446744073709551616-y-c)%18446744073709551616)) (k+1) (if x<y+c then 1 else 0)):=by
    have:=bq.out.step (by rw[cz.out];omega) hw bj;rw[←bN.out,gB.out] at this
    exact this
   have c0:=hide (hA.set k ((x+18446744073709551616-y-c)%18446744073709551616));have dR:=hide (ef.set k (.int .u64 (((x+18446744073709551616-y-c)%18446744073709551616:Nat):Int)));have bp:=oU gU k ((x+18446744073709551616-y-c)%18446744073709551616) (by omega);go_wp2
   go_region
   go_wp2
   exact⟨⟨k+1,_,_,by go_num,by(first|rfl|go_num|simp),by omega,cG.out.2.2.1,cG,bp,c0.out,dR.out.drew⟩,by first|(simp[intOf];done)|(simp[intOf];omega)⟩
  ·obtain rfl:k=4:=by omega
   have H1:Hid (val os=n-m):=by
    have h1:=bq.out;rw[show 4=L.length from cz.out.symm] at h1;have:=h1.done (by rw[hW.out,cz.out];omega) gU (by rw[q4.out,AU.out];exact hle);rwa [q4.out,AU.out] at this
   have aR:=jF.c7 ef (by omega);have bS:=ef.ext bC (Nat.le_refl _);obtain⟨a1,bA,az,d1,rfl⟩:=A8 bM.out;obtain⟨bt,nO,aU,a_,f0,f1,f2,f3⟩:=hA.four;obtain⟨d0,lp,d2,d3,g0,g1,g2,g3⟩:=aR.four;clear ef hA aR au;go_wp2
   exact bodyPost_ret (v:=.agg #[a1,bA,az,d1]) (by simp[results,Tryz.results129,go_sem,d0,lp,d2,d3]) rfl ⟨a1,bA,az,d1,rfl,gU,H1.out,o9 bS (by omega) _ _ _ _⟩
open Go Go.RowKit
theorem dg.qi {s:Bool}{a b c d:Nat}{z:Int} (h:dg s a b c d z):cp [a,b,c,d]:=by
 obtain⟨ha,hb,hc,hd,_⟩:=h;intro x hx;simp at hx;omega
theorem dg.abs {s:Bool}{a b c d:Nat}{z:Int} (h:dg s a b c d z):b0 a b c d=z.natAbs:=by
 obtain⟨_,_,_,_,hz⟩:=h;cases s<;>simp at hz<;>omega
theorem ez {a b c d:Nat} (h:cp [a,b,c,d]):a<18446744073709551616∧b<18446744073709551616∧c<18446744073709551616∧d<18446744073709551616:=
 ⟨h a (by simp),h b (by simp),h c (by simp),h d (by simp)⟩
theorem uc (s:Bool) (a b c d:Nat) (z:Int) (w:World) (h:dg s a b c d z) :
 Calls Tryz.prog 115 #[.agg #[.bool s,a,b,c,d]] w (nc .i64 z.sign w):=by
 obtain⟨o,aL⟩:=aM (decide (b0 a b c d≠0));have aO:=A5 25 Tryz.underlying25 a b c d o aL;have hz:=h.2.2.2.2;cases o
 ·have hS:Hid (z.sign=0):=by
   have:b0 a b c d=0:=by simpa using aL
   rw[this] at hz;cases s<;>simp at hz<;>subst hz<;>rfl
  clear aL hz;go_enter Tryz.func115,Tryz.ntmps115
  go_wp2
  go_ret;exact⟨kD hS.out.symm,aA _ _⟩
 ·have hp:b0 a b c d≠0:=by simpa using aL
  cases s
  ·have hS:Hid (z.sign=1):=Int.sign_eq_one_of_pos (by simp at hz;omega);clear aL hz hp;go_enter Tryz.func115,Tryz.ntmps115
   go_wp2
   go_ret;exact⟨kD hS.out.symm,aA _ _⟩
  ·have hS:Hid (z.sign=-1):=Int.sign_eq_neg_one_of_neg (by simp at hz;omega);clear aL hz hp;go_enter Tryz.func115,Tryz.ntmps115
   go_wp2
   go_ret;exact⟨kD hS.out.symm,aA _ _⟩
theorem Hv (s:Bool) (a b c d:Nat) (z:Int) (w:World) (h:dg s a b c d z) :
 Calls Tryz.prog 121 #[.agg #[.bool s,a,b,c,d]] w (lR (-z) w):=by
 obtain⟨ha,hb,hc,hd,hz⟩:=h;have eQ:Hid ((if (!s)=true then -(b0 a b c d:Int) else (b0 a b c d:Int))=-z):=by unfold Hid;cases s<;>simp at hz ⊢<;>omega
 clear hz;have bN:=hide ((aA w (.cells #[.bool s,a,b,c,d] 27)).trans (aA _ (.cells #[false,(),(),(),()] 27)));go_enter Tryz.func121,Tryz.ntmps121
 go_wp2_with (go_at_call 113;refine(qN (!s) a b c d _ ha hb hc hd).mono ?_;rintro e' w' ⟨s',a',b',c',d',rfl,hC,ad⟩;rw[eQ.out] at hC;obtain⟨k7,q1⟩:=HY ad;obtain⟨d0,d1,d2,d3,d4,g0,g1,g2,g3,g4⟩:=av q1;have dc:=hide (bN.out.trans ad);clear k7 q1 ad)
 exact bodyPost_ret (v:=.agg #[.bool s',a',b',c',d']) (by simp[results,Tryz.results121,go_sem,d0,d1,d2,d3,d4]) rfl ⟨s',a',b',c',d',rfl,hC,dr dc.out (Nat.le_succ _) _ _ _ _ _⟩
theorem NY (n:Nat) (w:World) (hn:n<18446744073709551616):Calls Tryz.prog 112 #[.int .u64 (n:Int)] w (lR n w):=by
 have bN:=hide (aA w (.cells #[false,(),(),(),()] 27));have hI:Hid (((b0 n 0 0 0:Nat):Int)=n):=by simp[Hid,b0,val]
 have hs:=fun W=>qN false n 0 0 0 W hn (by omega) (by omega) (by omega)
 go_enter Tryz.func112,Tryz.ntmps112
 go_wp2_with (go_at_call 113;refine(hs _).mono ?_;rintro e' w' ⟨s',a',b',c',d',rfl,hC,ad⟩;simp only[Bool.false_eq_true,if_false] at hC;rw[hI.out] at hC;have q1:=zJ ad;obtain⟨d0,d1,d2,d3,d4,g0,g1,g2,g3,g4⟩:=av q1;have dc:=hide (bN.out.trans ad);clear q1 ad)
 exact bodyPost_ret (v:=.agg #[.bool s',a',b',c',d']) (by simp[results,Tryz.results112,go_sem,d0,d1,d2,d3,d4]) rfl ⟨s',a',b',c',d',rfl,hC,dr dc.out (Nat.le_refl _) _ _ _ _ _⟩
theorem NW (z:Int) (w:World) (h1:-9223372036854775808≤z) (h2:z≤9223372036854775807):Calls Tryz.prog 95 #[.int .i64 z] w (lR z w):=by
 obtain⟨n,hn⟩:=aM z.natAbs;have hb:n<18446744073709551616:=by omega
 have pq:z<0→IntKind.u64.wrap (-IntKind.u64.wrap z)=(n:Int):=by intro h;simp only[IntKind.wrap_u64];omega
 have pv:0≤z→IntKind.u64.wrap z=(n:Int):=by intro h;simp only[IntKind.wrap_u64];omega
 have bN:=hide (aA w (.cells #[false,(),(),(),()] 27));by_cases h:z<0
 ·have e:=pq h;have hI:Hid (-((b0 n 0 0 0:Nat):Int)=z):=by simp[Hid,b0,val];omega
  have hs:=fun W=>qN true n 0 0 0 W hb (by omega) (by omega) (by omega)
  clear pq pv hn;go_enter Tryz.func95,Tryz.ntmps95
  go_wp2_with (go_at_call 113;refine(hs _).mono ?_;rintro e' w' ⟨s',a',b',c',d',rfl,hC,ad⟩;simp only[if_true] at hC;rw[hI.out] at hC;have q1:=zJ ad;obtain⟨d0,d1,d2,d3,d4,g0,g1,g2,g3,g4⟩:=av q1;have dc:=hide (bN.out.trans ad);clear q1 ad)
  exact bodyPost_ret (v:=.agg #[.bool s',a',b',c',d']) (by simp[results,Tryz.results95,go_sem,d0,d1,d2,d3,d4]) rfl ⟨s',a',b',c',d',rfl,hC,dr dc.out (Nat.le_refl _) _ _ _ _ _⟩
 ·have e:=pv (by omega);have hI:Hid ((n:Int)=z):=by unfold Hid;omega
  clear pq pv hn;go_enter Tryz.func95,Tryz.ntmps95
  go_wp2_with (go_at_call 112;refine(NY n _ hb).mono ?_;rintro e' w' ⟨s',a',b',c',d',rfl,hC,ad⟩;rw[hI.out] at hC;have q1:=zJ ad;obtain⟨d0,d1,d2,d3,d4,g0,g1,g2,g3,g4⟩:=av q1;have dc:=hide (bN.out.trans ad);clear q1 ad)
  exact bodyPost_ret (v:=.agg #[.bool s',a',b',c',d']) (by simp[results,Tryz.results95,go_sem,d0,d1,d2,d3,d4]) rfl ⟨s',a',b',c',d',rfl,hC,dr dc.out (Nat.le_refl _) _ _ _ _ _⟩
set_option maxRecDepth 100000 in
theorem U0 (s:Bool) (a b c d:Nat) (z:Int) (w:World) (h:dg s a b c d z) :
 Calls Tryz.prog 131 #[.agg #[.bool s,a,b,c,d]] w (yA .u64 (if 0≤z∧z<18446744073709551616 then z else 0) (decide (0≤z∧z<18446744073709551616)) w):=by
 obtain⟨r,aD⟩:=aM (if 0≤z∧z<18446744073709551616 then z else 0);obtain⟨o,aL⟩:=aM (decide (0≤z∧z<18446744073709551616));rw[aD,aL];have GY:=h.abs;have rC:b0 a b c d<18446744073709551616→a=b0 a b c d:=by intro h;simp only[b0,val] at h ⊢;omega
 have hz:=h.2.2.2.2;have ha:=h.1;have HH:=hide h;have bN:=hide (aA w (.cells #[.bool s,a,b,c,d] 27));obtain⟨n,hn⟩:=aM (b0 a b c d);rw[hn] at GY rC hz;by_cases hb:n<18446744073709551616
 ·have eD:Hid (decide (b0 a b c d<18446744073709551616)=true):=by unfold Hid;rw[decide_eq_true_iff,hn];exact hb
  replace rC:=rC hb;by_cases bf:z<0
  ·have hS:Hid (z.sign=-1):=Int.sign_eq_neg_one_of_neg bf;have bq:Hid (0=r∧false=o):=⟨by rw[←aD,if_neg (by omega)],by rw[←aL];symm;rw[decide_eq_false_iff_not];omega⟩;clear hz GY rC bf h hn aD aL;go_enter Tryz.func131,Tryz.ntmps131
   go_wp2_with (first
    | (go_at_call 138;refine(NZ a b c d _ ha).mono ?_;rintro e' w' ⟨rfl,ad⟩;rw[eD.out];have q:=zJ ad;have dY:=av q;have dc:=hide (bN.out.trans ad);clear q ad)
    | (go_at_call 115;refine(uc s a b c d z _ HH.out).mono ?_;rintro e' w' ⟨rfl,ad⟩;rw[hS.out];have dc:=hide (dc.out.trans ad);clear ad))
   go_ret2
   exact⟨BO bq.out.1 bq.out.2,dc.out⟩
  ·have hS:Hid (z.sign=0∨z.sign=1):=by
    unfold Hid;rcases(by omega:z=0∨0<z) with h1|h1
    ·subst h1;exact Or.inl rfl
    ·exact Or.inr (Int.sign_eq_one_of_pos h1)
   have bq:Hid ((a:Int)=r∧true=o):=⟨by rw[←aD,if_pos (by omega)];omega,by rw[←aL];symm;rw[decide_eq_true_iff];omega⟩;obtain⟨q,aO⟩:=aM z.sign;have Ma:0≤q:=by rcases hS.out with h1|h1<;>omega
   have dQ:=hide aO;clear hz GY rC bf h hn aD aL aO hS;go_enter Tryz.func131,Tryz.ntmps131
   go_wp2_with (first
    | (go_at_call 138;refine(NZ a b c d _ ha).mono ?_;rintro e' w' ⟨rfl,ad⟩;rw[eD.out];have q:=zJ ad;have dY:=av q;have dc:=hide (bN.out.trans ad);clear q ad)
    | (go_at_call 115;refine(uc s a b c d z _ HH.out).mono ?_;rintro e' w' ⟨rfl,ad⟩;rw[dQ.out];have dc:=hide (dc.out.trans ad);clear ad))
   go_ret2
   exact⟨BO bq.out.1 bq.out.2,dc.out⟩
 ·have eD:Hid (decide (b0 a b c d<18446744073709551616)=false):=by unfold Hid;rw[decide_eq_false_iff_not,hn];exact hb
  have bq:Hid (0=r∧false=o):=⟨by rw[←aD,if_neg (by omega)],by rw[←aL];symm;rw[decide_eq_false_iff_not];omega⟩;clear hz GY rC h hn hb aD aL;go_enter Tryz.func131,Tryz.ntmps131
  go_wp2_with (go_at_call 138;refine(NZ a b c d _ ha).mono ?_;rintro e' w' ⟨rfl,ad⟩;rw[eD.out];have dc:=hide (bN.out.trans ad);clear ad)
  go_ret2
  exact⟨BO bq.out.1 bq.out.2,dc.out⟩
open Go Go.RowKit
theorem aiQ (s t:Bool) (a b c d e f g h:Nat) (x y:Int) (w:World) (hx:dg s a b c d x) (hy:dg t e f g h y) :
 Calls Tryz.prog 108 #[.agg #[.bool s,a,b,c,d],.agg #[.bool t,e,f,g,h]] w (nc .i64 (f_ x y) w):=by
 obtain⟨W,aK⟩:=eo (((w.alloc (.cells #[.bool s,a,b,c,d] 27)).alloc (.cells #[.bool t,e,f,g,h] 27)));have cO:=e1 w (.cells #[.bool s,a,b,c,d] 27) (.cells #[.bool t,e,f,g,h] 27);rw[←aK] at cO;have ay:Box W w.heap.size s a b c d:=cO.1;have au:Box W (w.heap.size+1) t e f g h:=cO.2;have bC:Ext w W:=by rw[aK];exact(aA _ _).trans (aA _ _)
 have aB:=hide aK;clear aK cO;have gL:=hide hx.abs;have hY:=hide hy.abs;have bP:=hx.qi;have nG:=hy.qi;have bN:=hide hx;have gB:=hide hy;have tD:=hide (@RI x y);obtain⟨p,hp⟩:=aM x.sign;obtain⟨q,aO⟩:=aM y.sign;have dL:=hide hp;have dQ:=hide aO;clear hp aO hx hy;have dY:=av ay;have fa:=av au;by_cases vJ:p=q
 ·subst vJ;have bq:Hid (f_ x y=p*fM x.natAbs y.natAbs):=by rw[←dL.out];exact tD.out.2.2 (by rw[dL.out,dQ.out])
  obtain⟨r,aD⟩:=aM (fM x.natAbs y.natAbs);have oe:-1≤r∧r≤1:=by rw[←aD];unfold fM;split<;>(try split)<;>omega
  have pu:p=-1∨p=0∨p=1:=by
   rw[←dL.out];rcases Int.lt_trichotomy x 0 with h|h|h
   ·exact Or.inl (Int.sign_eq_neg_one_of_neg h)
   ·subst h;exact Or.inr (Or.inl rfl)
   ·exact Or.inr (Or.inr (Int.sign_eq_one_of_pos h))
  have cG:=hide aD;have iH:Hid (wrap64 (p*r)=f_ x y):=by rw[bq.out,aD];rcases pu with rfl|rfl|rfl<;>simp[Hid,wrap64]<;>omega
  clear aD oe pu;go_enter Tryz.func108,Tryz.ntmps108
  go_upto_region 1 with fail
  rw[←aB.out];clear aB;go_wp2_with (first
   | (go_at_call_of 115 (Value.agg #[Value.bool s,Value.int IntKind.u64 (a:Int),Value.int IntKind.u64 (b:Int),Value.int IntKind.u64 (c:Int),Value.int IntKind.u64 (d:Int)]);refine(uc s a b c d x _ bN.out).mono ?_;rintro e' w' ⟨rfl,ad⟩;rw[dL.out];have cD:=ay.ext ad;have c5:=au.ext ad;have dY:=av cD;have fa:=av c5;have bS:=bC.trans ad;clear ad)
   | (go_at_call 115;refine(uc t e f g h y _ gB.out).mono ?_;rintro e' w' ⟨rfl,ad⟩;rw[dQ.out];have cD:=cD.ext ad;have c5:=c5.ext ad;have dY:=av cD;have fa:=av c5;have bS:=bS.trans ad;clear ad)
   | (go_at_call 127;refine(BM a b c d e f g h _ _ gL.out hY.out _ bP nG).mono ?_;rintro e' w' ⟨rfl,ad⟩;rw[cG.out];have bS:=bS.trans ad;clear ad))
  all_goals go_ret
  all_goals exact⟨kD (by first|exact iH.out|(rw[←iH.out,←IntKind.wrap_i64];rfl)|(rw[←iH.out];simp only[wrap64,IntKind.wrap_i64])),bS⟩
 ·have dB:(p != q)=true:=by simpa using vJ
  have bq:Hid (HQ p q=f_ x y):=by
   unfold Hid HQ;rcases(by omega:p<q∨q<p) with h1|h1
   ·rw[if_pos h1,tD.out.1 (by rw[dL.out,dQ.out];exact h1)]
   ·rw[if_neg (by omega),if_pos h1,tD.out.2.1 (by rw[dL.out,dQ.out];exact h1)]
  clear vJ;go_enter Tryz.func108,Tryz.ntmps108
  go_upto_region 1 with fail
  rw[←aB.out];clear aB;go_wp2_with (first
   | (go_at_call_of 115 (Value.agg #[Value.bool s,Value.int IntKind.u64 (a:Int),Value.int IntKind.u64 (b:Int),Value.int IntKind.u64 (c:Int),Value.int IntKind.u64 (d:Int)]);refine(uc s a b c d x _ bN.out).mono ?_;rintro e' w' ⟨rfl,ad⟩;rw[dL.out];have cD:=ay.ext ad;have c5:=au.ext ad;have dY:=av cD;have fa:=av c5;have bS:=bC.trans ad;clear ad)
   | (go_at_call 115;refine(uc t e f g h y _ gB.out).mono ?_;rintro e' w' ⟨rfl,ad⟩;rw[dQ.out];have cD:=cD.ext ad;have c5:=c5.ext ad;have dY:=av cD;have fa:=av c5;have bS:=bS.trans ad;clear ad)
   | (go_at_call 126;refine(Y9 p q _).mono ?_;rintro e' w' ⟨rfl,rfl⟩))
  all_goals go_ret
  all_goals exact⟨kD bq.out,bS⟩
end
section
def gg (a b c d n m:Int):Prop:=0<m∧a*m≤n*b∧n*d≤c*m∧∀ p q:Int,0<q→a*q≤p*b→p*d≤c*q→m≤q∧n.natAbs≤p.natAbs
theorem gg.neg {a b c d n m:Int} (h:gg a b c d n m):gg (-c) d (-a) b (-n) m:=by
 obtain⟨h0,h1,h2,h3⟩:=h;refine⟨h0,by rw[Int.neg_mul,Int.neg_mul];omega,by rw[Int.neg_mul,Int.neg_mul];omega,?_⟩;intro p q aO bQ bY;have:=h3 (-p) q aO (by rw[Int.neg_mul] at bY ⊢;omega) (by rw[Int.neg_mul] at bQ ⊢;omega);omega
theorem gg.zero {a b c d:Int} (h1:a≤0) (h2:0≤c):gg a b c d 0 1:=
 ⟨by omega,by omega,by omega,fun p q aO _ _=>⟨by omega,by simp⟩⟩
theorem gg.unique {a b c d n m n' dI:Int} (hb:0<b) (hd:0<d) (h:gg a b c d n m) (h':gg a b c d n' dI):n=n'∧m=dI:=by
 have bQ:=h.2.2.2 n' dI h'.1 h'.2.1 h'.2.2.1;have bY:=h'.2.2.2 n m h.1 h.2.1 h.2.2.1;have em:m=dI:=by omega
 refine⟨?_,em⟩;subst em;by_cases e:n=n'
 ·exact e
 ·exfalso
  have e2:n'=-n:=by omega
  subst e2;have a1:=h.2.1;have a2:=h'.2.1;have a3:=h.2.2.1;have a4:=h'.2.2.1;rw[Int.neg_mul] at a2 a4;have bA:a≤0:=by
   by_cases hp:0<a
   ·have:=Int.mul_pos hp h.1;omega
   ·omega
  have bX:0≤c:=by
   by_cases hp:c<0
   ·have:=Int.mul_neg_of_neg_of_pos hp h.1;omega
   ·omega
  have:=h.2.2.2 0 1 (by omega) (by omega) (by omega);omega
theorem gg.pos {a b c d n m:Int} (ha:0<a) (hb:0<b) (h:gg a b c d n m):0<n:=by
 have:=Int.mul_pos ha h.1;have h1:=h.2.1;by_cases hn:n≤0
 ·have:=Int.mul_nonpos_of_nonpos_of_nonneg hn (show 0≤b by omega);omega
 ·omega
theorem gg.gcd {a b c d n m:Int} (hb:0<b) (hd:0<d) (h:gg a b c d n m):Int.gcd n m=1:=by
 obtain⟨h0,h1,h2,h3⟩:=h;have ga:0<Int.gcd n m:=Int.gcd_pos_of_ne_zero_right n (by omega);obtain⟨x,hx⟩:=Int.gcd_dvd_left n m;obtain⟨y,hy⟩:=Int.gcd_dvd_right n m;generalize aV:(Int.gcd n m:Int)=g at *;have af:0<g:=by omega
 have dy:0<y:=by
  by_cases dy:0<y
  ·exact dy
  ·have:=Int.mul_nonpos_of_nonneg_of_nonpos (show 0≤g by omega) (show y≤0 by omega);omega
 have k:=h3 x y dy
  (Int.le_of_mul_le_mul_left (a:=g) (by
   have bk:g*(a*y)=a*m:=by rw[hy,←Int.mul_assoc,Int.mul_comm g a,Int.mul_assoc]
   have e2:g*(x*b)=n*b:=by rw[←Int.mul_assoc,←hx]
   omega) af)
  (Int.le_of_mul_le_mul_left (a:=g) (by
   have bk:g*(c*y)=c*m:=by rw[hy,←Int.mul_assoc,Int.mul_comm g c,Int.mul_assoc]
   have e2:g*(x*d)=n*d:=by rw[←Int.mul_assoc,←hx]
   omega) af)
 by_cases SN:g=1
 ·omega
 ·exfalso
  have:2*y≤g*y:=Int.mul_le_mul_of_nonneg_right (by omega) (by omega);omega
theorem JE {a b c d:Int} (ha:0<a) (hb:0<b) (hd:0<d) (hle:a*d≤c*b) (h:a%b=0):gg a b c d (a / b) 1:=by
 have e:=Int.emod_add_mul_ediv a b;rw[h] at e;generalize a / b=q at *;have ea:a=q*b:=by rw[Int.mul_comm];omega
 have aO:0<q:=by
  by_cases aO:0<q
  ·exact aO
  ·have:=Int.mul_nonpos_of_nonpos_of_nonneg (show q≤0 by omega) (show 0≤b by omega);omega
 refine⟨by omega,by omega,?_,?_⟩
 ·have:(q*d)*b≤c*b:=by rw[ea,Int.mul_assoc,Int.mul_comm b d,←Int.mul_assoc] at hle;exact hle
  have:=Int.le_of_mul_le_mul_right this hb
  omega
 ·intro p q' D7 bQ _;have bY:(q*q')*b≤p*b:=by rw[ea,Int.mul_assoc,Int.mul_comm b q',←Int.mul_assoc] at bQ;exact bQ
  have cX:=Int.le_of_mul_le_mul_right bY hb;have ev:q*1≤q*q':=Int.mul_le_mul_of_nonneg_left (by omega) (by omega);omega
theorem Gb {a b c d:Int} (ha:0<a) (hb:0<b) (hd:0<d) (hle:a*d≤c*b) (aD:a%b≠0) (h:a / b≠c / d):gg a b c d (a / b+1) 1:=by
 have bk:=Int.emod_add_mul_ediv a b;have e2:=Int.emod_add_mul_ediv c d;have m1:=Int.emod_nonneg a (show b≠0 by omega);have m2:=Int.emod_nonneg c (show d≠0 by omega);have ah:=Int.emod_lt_of_pos a hb;have aj:=Int.emod_lt_of_pos c hd;have aO:0≤a / b:=Int.ediv_nonneg (by omega) (by omega);generalize a / b=q at *;generalize c / d=s at *;generalize a%b=r at *;generalize c%d=t at *;have apN:q<s:=by
  by_cases cl:q<s
  ·exact cl
  ·exfalso
   have hs:s+1≤q:=by omega
   have x1:(s+1)*(b*d)≤q*(b*d):=Int.mul_le_mul_of_nonneg_right hs (Int.le_of_lt (Int.mul_pos hb hd));have x2:c*b<(s+1)*(b*d):=by
    have:c<(s+1)*d:=by rw[Int.add_mul,Int.one_mul,Int.mul_comm s d];omega
    have:=Int.mul_lt_mul_of_pos_right this hb
    have e:(s+1)*d*b=(s+1)*(b*d):=by rw[Int.mul_assoc,Int.mul_comm d b]
    omega
   have x3:q*(b*d)≤a*d:=by
    have:q*b≤a:=by rw[Int.mul_comm];omega
    have:=Int.mul_le_mul_of_nonneg_right this (Int.le_of_lt hd)
    rw[Int.mul_assoc] at this;exact this
   omega
 refine⟨by omega,?_,?_,?_⟩
 ·rw[Int.add_mul,Int.one_mul,Int.mul_comm q b];omega
 ·have:(q+1)*d≤s*d:=Int.mul_le_mul_of_nonneg_right (by omega) (by omega);have:s*d=d*s:=Int.mul_comm _ _;omega
 ·intro p q' D7 bQ _;have aeE:0<r*q':=Int.mul_pos (by omega) D7;have bY:(q*q')*b<p*b:=by
   have e:(q*q')*b=b*q*q':=by rw[Int.mul_assoc,Int.mul_comm q' b,←Int.mul_assoc,Int.mul_comm q b]
   have:a*q'=r*q'+b*q*q':=by rw[←bk,Int.add_mul]
   omega
  have cX:=Int.lt_of_mul_lt_mul_right bY (by omega);have ev:q*1≤q*q':=Int.mul_le_mul_of_nonneg_left (by omega) aO;omega
theorem JC {a b c d n m:Int} (ha:0<a) (hb:0<b) (hd:0<d) (aD:a%b≠0) (bd:0<c%d) (h:a / b=c / d) (k:gg d (c%d) b (a%b) n m):gg a b c d (a / b*n+m) n:=by
 have bk:=Int.emod_add_mul_ediv a b;have e2:=Int.emod_add_mul_ediv c d;have m1:=Int.emod_nonneg a (show b≠0 by omega);have aO:0≤a / b:=Int.ediv_nonneg (by omega) (by omega);have hn:=k.pos hd bd;rw[←h] at e2;generalize a / b=q at *;generalize a%b=r at *;generalize c%d=t at *;clear h;obtain⟨iA,bQ,bY,cX⟩:=k;have ea:∀ z,a*z=r*z+b*(q*z):=fun z=>by rw[←bk,Int.add_mul,Int.mul_assoc]
 have Gs:∀ z,c*z=t*z+d*(q*z):=fun z=>by rw[←e2,Int.add_mul,Int.mul_assoc]
 have ex:∀ x y z:Int,(q*x+y)*z=y*z+z*(q*x):=fun x y z=>by rw[Int.add_mul,Int.mul_comm (q*x) z];omega
 refine⟨hn,?_,?_,?_⟩
 ·rw[ea,ex];have:n*r=r*n:=Int.mul_comm _ _;have:b*m=m*b:=Int.mul_comm _ _;omega
 ·rw[Gs,ex];have:d*m=m*d:=Int.mul_comm _ _;have:n*t=t*n:=Int.mul_comm _ _;omega
 ·intro p q' D7 cW cL;obtain⟨p',rfl⟩:∃ p',p=q*q'+p':=⟨p-q*q',by omega⟩;rw[ea,ex] at cW;rw[Gs,ex] at cL;have aeE:0<r*q':=Int.mul_pos (by omega) D7;have D6:0<p':=by
   by_cases hp:0<p'
   ·exact hp
   ·have:=Int.mul_nonpos_of_nonpos_of_nonneg (show p'≤0 by omega) (show 0≤b by omega);omega
  have:=cX q' p' D6 (by rw[Int.mul_comm d,Int.mul_comm q'];omega) (by rw[Int.mul_comm q',Int.mul_comm b];omega);have aey:n≤q':=by omega
  have od:q*n≤q*q':=Int.mul_le_mul_of_nonneg_left aey aO;have h0:0≤q*n:=Int.mul_nonneg aO (by omega);have h1:0≤q*q':=by omega
  omega
theorem Oj {a b c d:Int} (ha:0<a) (hb:0<b) (hd:0<d) (hle:a*d≤c*b) (aD:a%b≠0) (h:a / b=c / d):0<a%b∧a%b<b∧0<c%d∧c%d<d∧d*(a%b)≤b*(c%d):=by
 have bk:=Int.emod_add_mul_ediv a b;have e2:=Int.emod_add_mul_ediv c d;have m1:=Int.emod_nonneg a (show b≠0 by omega);have m2:=Int.emod_nonneg c (show d≠0 by omega);have ah:=Int.emod_lt_of_pos a hb;have aj:=Int.emod_lt_of_pos c hd;rw[←h] at e2;generalize a / b=q at *;generalize a%b=r at *;generalize c%d=t at *;have k:r*d≤t*b:=by
  have x1:a*d=r*d+q*(b*d):=by rw[←bk,Int.add_mul,Int.mul_comm b q,Int.mul_assoc]
  have x2:c*b=t*b+q*(b*d):=by rw[←e2,Int.add_mul,Int.mul_comm d q,Int.mul_assoc,Int.mul_comm d b]
  omega
 have:=Int.mul_pos (show 0<r by omega) hd;refine⟨by omega,ah,?_,aj,by rw[Int.mul_comm d,Int.mul_comm b];exact k⟩;by_cases bd:0<t
 ·exact bd
 ·have:t=0:=by omega
  subst this;omega
theorem JD:∀ (k:Nat) (a b c d:Int),(b+d).toNat<k→0<a→0<b→0<d→a*d≤c*b→∃ n m,gg a b c d n m
 | 0,_,_,_,_,aE,_,_,_,_=>by omega
 | k+1,a,b,c,d,aE,ha,hb,hd,hle=>by
  by_cases aD:a%b=0
  ·exact⟨_,_,JE ha hb hd hle aD⟩
  ·by_cases h:a / b=c / d
   ·obtain⟨iB,i',t0,t1,hl⟩:=Oj ha hb hd hle aD h;obtain⟨n,m,bF⟩:=JD k d (c%d) b (a%b) (by omega) hd t0 iB hl;exact⟨_,_,JC ha hb hd aD t0 h bF⟩
   ·exact⟨_,_,Gb ha hb hd hle aD h⟩
theorem CH {a b c d:Int} (hb:0<b) (hd:0<d) (hle:a*d≤c*b):∃ n m,gg a b c d n m:=by
 by_cases ha:0<a
 ·exact JD _ a b c d (Nat.lt_succ_self _) ha hb hd hle
 ·by_cases hc:c<0
  ·obtain⟨n,m,h⟩:=JD _ (-c) d (-a) b (Nat.lt_succ_self _) (by omega) hd hb (by rw[Int.neg_mul,Int.neg_mul];omega);have:=h.neg;rw[Int.neg_neg,Int.neg_neg] at this
   exact⟨_,_,this⟩
  ·exact⟨0,1,gg.zero (by omega) (by omega)⟩
theorem gg.small {a b c d n m:Int} (hb:0<b) (hd:0<d) (hle:a*d≤c*b) (h:gg a b c d n m):(m≤b∧n.natAbs≤a.natAbs)∧(m≤d∧n.natAbs≤c.natAbs):=
 ⟨h.2.2.2 a b hb (Int.le_refl _) hle,h.2.2.2 c d hd hle (Int.le_refl _)⟩
end
section
open Go Go.RowKit
def t_ (l:List Oper) (kd:List ew) (nd:List Nat):Bool:=(List.range l.length).all fun i=>(match dv kd i with|.gO m=>nd.getD i 0==m|_=>true)&&(nd.getD i 0==0||(List.range l.length).any fun k=>dv kd k==.gO (nd.getD i 0-1)&&mK l l.length i k)
def uL (nd:List Nat) (R b1:Nat→Value):Nat→List Value→List Value→Prop
 | i,x :: xs,y :: ys=>((∀ m,m<nd.getD i 0→R m=b1 m)→x=y)∧uL nd R b1 (i+1) xs ys
 | _,[],[]=>True
 | _,_,_=>False
theorem uL.get {nd:List Nat}{R b1:Nat→Value}:∀ {xs ys:List Value}{k:Nat},uL nd R b1 k xs ys→∀ i,(∀ m,m<nd.getD (k+i) 0→R m=b1 m)→xs.getD i undef=ys.getD i undef
 | [],[],_,_,_,_=>rfl
 | x :: xs,y :: ys,k,h,0,hi=>by simpa using h.1 hi
 | x :: xs,y :: ys,k,h,i+1,hi=>by
  have:=uL.get h.2 i (fun m hm=>hi m (by rw[show k+(i+1)=k+1+i by omega];exact hm));simpa using this
 | [],_ :: _,_,h,_,_=>h.elim
 | _ :: _,[],_,h,_,_=>h.elim
section
variable {l:List Oper}{kd:List ew}{V:(Nat→Value)→List Value}
variable {T:Nat→(Nat→Value)→World→Prop}{E:Nat→Prop}{zero:Nat→Obj}{full:(Nat→Value)→Nat→Obj}{tgt:Nat→Nat}{a0:Act}{W:World}{S:List Nat}{s:Nat}{R:Nat→Value}{G:Nat→Nat}{w:World}{nd:List Nat}
theorem Ya (hc:∀ s∈S,∀ o,l[s]?=some o→∀ k,dep o k=true→k∈S) {i k n:Nat}{o:Oper} (aL:l[i]?=some o) (lu:∀ k,dep o k=true→k∈S) (h:mK l n i k=true):k∈S:=by
 cases n with
 | zero=>simp[mK] at h
 | succ n =>
  unfold mK at h;rw[aL] at h;simp only[Bool.or_eq_true,List.any_eq_true,Bool.and_eq_true] at h;rcases h with h|⟨m,_,hm,h⟩
  ·exact lu k h
  ·exact F' hc n m k (lu m hm) h
theorem Uj (ec:t_ l kd nd=true) (ae:lf T E l kd zero full tgt W S s R G w) {i:Nat}{o:Oper} (aL:l[i]?=some o) (lu:∀ k,dep o k=true→k∈S):nd.getD i 0≤s:=by
 unfold t_ at ec;rw[List.all_eq_true] at ec;have h:=ec i (List.mem_range.2 (List.getElem?_eq_some_iff.1 aL).1);simp only[Bool.and_eq_true,Bool.or_eq_true,List.any_eq_true,beq_iff_eq] at h;rcases h.2 with h|⟨k,aE,bd,ha⟩
 ·omega
 ·have sJ:=Ya ae.dU aL lu ha;have:=(ae.stage k (List.mem_range.1 aE) _ bd).1 sJ;omega
theorem Ui (ec:t_ l kd nd=true) (ae:lf T E l kd zero full tgt W S s R G w) {i:Nat} (hi:i∈S):nd.getD i 0≤s:=by
 have gY:=ae.lA i hi;exact Uj ec ae (List.getElem?_eq_getElem gY) (ae.dU i hi _ (List.getElem?_eq_getElem gY))
theorem agK (ec:t_ l kd nd=true) {i m:Nat} (hi:i<l.length) (bd:dv kd i=.gO m):nd.getD i 0=m:=by
 unfold t_ at ec;rw[List.all_eq_true] at ec;have h:=ec i (List.mem_range.2 hi);simp only[Bool.and_eq_true] at h;have:=h.1;rw[bd] at this
 simpa using this
variable {P:Program}{Q:Exit→Act→World→Prop}
theorem V4 (ec:qw l kd=true) (p5:t_ l kd nd=true) (np:sx l a0.tmps.size=true) (ad:∀ k,E k→k<W.heap.size) (pg:∀ c,ew.so c∈kd→¬ E (tgt c)) (e6:∀ c,ew.so c∈kd→tgt c<W.heap.size) (kA:∀ c c',ew.so c∈kd→ew.so c'∈kd→tgt c=tgt c'→c=c') (ry:∀ R b1,uL nd R b1 0 (V R) (V b1)) (tQ:∀ R b1 i,(∀ m,m<nd.getD i 0→R m=b1 m)→full R i=full b1 i)
 (qC:∀ s R w w',T s R w→Below w.heap.size w w'→T s R w')
 (mO:ql (pR P T E l kd nd V zero full tgt W (fun R=>eO l (dN kd V R (fun _=>0)) a0 (List.range l.length))) 0 l)
 (ae:lf T E l kd zero full tgt W S s R G w) {i:Nat}{o:Oper} (aL:l[i]?=some o) (hn:i ∉ S) (lu:∀ k,dep o k=true→k∈S)
 {K:Act→World→Prop} (cQ:∀ s' b1 iM w',lf T E l kd zero full tgt W (S++[i]) s' b1 iM w'→K (eO l (dN kd V b1 iM) a0 (S++[i])) w') :
 if Region.wanted o (yielded l.toArray (eO l (dN kd V R G) a0 S).tmps)=true then Oper.wp P o (eO l (dN kd V R G) a0 S) w K Q else K ((eO l (dN kd V R G) a0 S).put o.dst undef) w:=by
 have gY:=(List.getElem?_eq_some_iff.1 aL).1;obtain⟨ga,SN,hs,_,aO,Bk,hL,jv⟩:=E0 ec aL;have iZ:=mO.get i o aL;rw[Nat.zero_add] at iZ;obtain⟨ky,iZ⟩:=iZ;have hd:eH l i=o.dst:=by unfold eH;rw[aL];rfl
 have gy:∀ o,l[i]?=some o→∀ k,dep o k=true→k∈S:=by
  intro o' D5 k aE;rw[aL] at D5;obtain rfl:o=o':=by simpa using D5
  exact lu k aE
 have lx:=Uj p5 ae aL lu;have DL:∀ x,rm l kd o x=true→(eO l (dN kd V R G) a0 S).eval x=(eO l (dN kd V R (fun _=>0)) a0 (List.range l.length)).eval x:=fun x hx=>abb ec G _ a0 ae.nd lu hx
 have aeT:Region.wanted o (yielded l.toArray (eO l (dN kd V R G) a0 S).tmps)=(dv kd i != .hP):=by
  unfold Region.wanted;cases af:o.guard with
  | none =>
   have:=ga af;simp[this]
  | some p =>
   obtain⟨k,b⟩:=p;obtain⟨adZ,dP,⟨d,qD⟩,kz⟩:=SN k b af;have e:=De (dN kd V R G) d k qD S a0 ae.nd (lu k adZ) (fun j _ aN=>Hq ec j k d aN qD);rw[if_pos (JW np qD)] at e;have hy:yielded l.toArray (eO l (dN kd V R G) a0 S).tmps k=FA (dN kd V R G k):=by
    unfold yielded;have:(l.toArray[k]?).bind (·.dst)=some d:=by rw[List.getElem?_toArray];exact qD
    rw[this];simp only[Option.bind_some,e];unfold FA;cases dN kd V R G k<;>rfl
   show (yielded l.toArray (eO l (dN kd V R G) a0 S).tmps k==some b)=_
   rw[hy,Wi G (fun _=>0) kz];exact ky k b af R s w ae.holds lx
 rw[aeT];cases bd:dv kd i with
 | hP =>
  rw[if_neg (by simp)];have:=cQ s R G w (Mr ad pg e6 ae gY hn (by rw[bd];rfl) gy (Below.vk (Below.refl _ _)) (E3 ae (by simp[bd])) (fun _ _=>rfl) ae.holds);rw[A_,hd] at this
  have aF:dN kd V R G i=undef:=by unfold dN;rw[bd];rfl
  rw[aF] at this
  exact this
 | q =>
  rw[if_pos (by simp)];unfold Oper.wp;rw[bd] at iZ;have h1:=iZ R s w ae.holds lx ae.same (fun m c Mg ha=>ae.pC m (Rn ha) c Mg fun hs=>hn (F' ae.dU _ m i hs ha));rw[←execOp_congr o hs (fun x hx=>DL x (aO (Or.inl bd) x hx))] at h1;have aF:dN kd V R G i=(V R).getD i undef:=by unfold dN;rw[bd];rfl
  have k2:∀ w',Below w.heap.size w w'→K ((eO l (dN kd V R G) a0 S).put o.dst ((V R).getD i undef)) w':=by
   intro w' bF;have:=cQ s R G w' (Mr ad pg e6 ae gY hn (by rw[bd];rfl) gy (Below.vk bF) (E3 ae (by simp[bd])) (fun _ _=>rfl) (qC _ _ _ _ ae.holds bF));rw[A_,hd,aF] at this
   exact this
  generalize (execOp (eO l (dN kd V R G) a0 S).eval o).run P w=r at h1 ⊢;cases r with
  | ok n w' =>
   cases n<;>simp only[mg,Oper.upon] at h1 ⊢
   ·obtain⟨rfl,rfl⟩:=h1;exact k2 _ (Below.refl _ _)
   ·obtain⟨rfl,h2⟩:=h1;refine h2.mono ?_;rintro e iD ⟨rfl,bF⟩;exact k2 iD bF
  | halt x w'=>simp only[mg] at h1
 | gO m =>
  rw[if_pos (by simp)];unfold Oper.wp;rw[bd] at iZ;have aed:s=m:=by
   have h1:=agK p5 gY bd;have h2:¬ m<s:=fun h=>hn ((ae.stage i gY m bd).2 h)
   omega
  subst aed;have h1:=iZ R w ae.holds ae.same;rw[←execOp_congr o hs (fun x hx=>DL x (aO (Or.inr ⟨s,bd⟩) x hx))] at h1;have k2:∀ (r:Value) (iD:World),T (s+1) (mr R s r) iD→jI E w iD→K ((eO l (dN kd V R G) a0 S).put o.dst r) iD:=by
   intro r iD aw bF;have aeI:∀ j,j<l.length→∀ dI,dv kd j=.gO dI→(j∈S++[i]↔dI<s+1):=by
    intro j aN dI sM;constructor
    ·intro h;rcases List.mem_append.1 h with h|h
     ·have:=(ae.stage j aN dI sM).1 h;omega
     ·simp at h;subst h;rw[bd] at sM;obtain rfl:s=dI:=by simpa using sM
      omega
    ·intro h;by_cases e:dI=s
     ·have:=(Bk s bd j aN dI sM).1 e;simp[this]
     ·exact List.mem_append.2 (Or.inl ((ae.stage j aN dI sM).2 (by omega)))
   have:=cQ (s+1) (mr R s r) G iD (Mr ad pg e6 ae gY hn (by rw[bd];rfl) gy bF aeI (fun k aE=>tQ _ _ k (fun m hm=>by have:=Ui p5 ae aE;unfold mr;rw[if_neg (by omega)])) aw);have hc:eO l (dN kd V (mr R s r) G) a0 S=eO l (dN kd V R G) a0 S:=by
    refine Kr _ _ S a0 (fun k aE=>?_);have dP:=ae.lA k aE;have kz:=Ui p5 ae aE;have vz:∀ m,m<s→mr R s r m=R m:=fun m hm=>by unfold mr;rw[if_neg (by omega)]
    have dj:=(ry (mr R s r) R).get k (fun m hm=>vz m (by rw[Nat.zero_add] at hm;omega));unfold dN;rw[dj];cases zn:dv kd k with
    | gO dI=>exact vz dI ((ae.stage k dP dI zn).1 aE)
    | _=>rfl
   have aF:dN kd V (mr R s r) G i=r:=by unfold dN;rw[bd];simp[BX,mr]
   rw[A_,hd,aF,hc] at this
   exact this
  generalize (execOp (eO l (dN kd V R G) a0 S).eval o).run P w=r at h1 ⊢;cases r with
  | ok n w' =>
   cases n<;>simp only[A3,Oper.upon] at h1 ⊢
   ·exact k2 _ _ h1.1 h1.2
   ·obtain⟨rfl,h2⟩:=h1;refine h2.mono ?_;rintro e iD ⟨r,rfl,aw,bF⟩;exact k2 r iD aw bF
  | halt x w'=>simp only[A3] at h1
 | al =>
  rw[if_pos (by simp)];unfold Oper.wp;rw[bd] at iZ;rw[iZ];simp only[Oper.upon];have:=cQ s R _ _ (afi ad qC e6 ae gY hn bd gy);have hc:eO l (dN kd V R (fun k=>if k=i then w.heap.size else G k)) a0 S=eO l (dN kd V R G) a0 S:=by
   refine Kr _ _ S a0 (fun k aE=>?_);have e:k≠i:=(fun e=>hn (by rw[←e];exact aE));unfold dN;simp only[if_neg e]
  have aF:dN kd V R (fun k=>if k=i then w.heap.size else G k) i=ptrTo w.heap.size:=by unfold dN;rw[bd];simp[BX]
  rw[A_,hd,aF,hc] at this
  exact this
 | st j =>
  rw[if_pos (by simp)];unfold Oper.wp;obtain⟨T',t,x,hop,L6,zd,Lt,nn,vA,sQ⟩:=hL j bd;simp only[bd,hop] at iZ;have pk:=lu j Lt;have hp:(eO l (dN kd V R G) a0 S).eval (.tmp t)=ptrTo (G j):=by
   have bk:=De (dN kd V R G) t j zd S a0 ae.nd pk (fun k _ aE=>Hq ec k j t aE zd);rw[if_pos (JW np zd)] at bk;simp only[Act.eval,Array.getD_eq_getD_getElem?];rw[bk];unfold dN;rw[nn];rfl
  have hz:=ae.zeros j pk nn (fun s' dj e=>hn (sQ s' (ae.lA s' dj) e ▸ dj));obtain⟨⟨aT,aD,hF⟩,Ll⟩:=iZ R s (eO l (dN kd V R G) a0 S).eval w (G j) ae.holds lx hp (DL x vA) (ae.made j pk nn).1 hz;rw[aD];simp only[Oper.upon];have:=cQ s R G aT (afo ad e6 ec ae aL hn bd pk gy hF (Ll aT hF));have aF:dN kd V R G i=undef:=by unfold dN;rw[bd];rfl
  rw[A_,hd,aF] at this
  exact this
 | so c =>
  rw[if_pos (by simp)];unfold Oper.wp;obtain⟨T',p,x,hop,L6,jP,vA,_⟩:=jv c bd;simp only[bd,hop] at iZ;obtain⟨⟨aT,aD,hF⟩,Ll⟩:=iZ R s (eO l (dN kd V R G) a0 S).eval w ae.holds lx (DL p jP) (DL x vA) (ae.pC i gY c bd hn);rw[aD];simp only[Oper.upon];have:=cQ s R G aT (afm e6 kA ec ae aL hn bd gy hF (Ll aT hF));have aF:dN kd V R G i=undef:=by unfold dN;rw[bd];rfl
  rw[A_,hd,aF] at this
  exact this
theorem afj (ae:lf T E l kd zero full tgt W S s R G w) (y':∀ m,m<l.length→m∈S):S.Perm (List.range l.length)∧lf T E l kd zero full tgt W (List.range l.length) s R G w:=by
 have ju:S.Perm (List.range l.length):=(List.perm_ext_iff_of_nodup ae.nd List.nodup_range).2 (fun k=>⟨fun h=>List.mem_range.2 (ae.lA k h),fun h=>y' k (List.mem_range.1 h)⟩);refine⟨ju,List.nodup_range,fun i hi=>List.mem_range.1 hi,ae.same,fun i hi=>ae.made i (ju.mem_iff.2 hi),fun i hi j aN=>ae.apart i (ju.mem_iff.2 hi) j (ju.mem_iff.2 aN),fun i hi bd hs=>ae.zeros i (ju.mem_iff.2 hi) bd (fun s dj=>hs s (ju.mem_iff.1 dj)),fun s hs i hi=>?_,fun s hs c hc hn=>ae.pC s hs c hc (fun h=>hn (ju.mem_iff.1 h)),fun s hs=>ae.ep s (ju.mem_iff.2 hs),fun s hs o aL k aE=>ju.mem_iff.1 (ae.dU s (ju.mem_iff.2 hs) o aL k aE),fun i hi m hm=>by rw[←ae.stage i hi m hm];exact ju.mem_iff.symm,ae.holds⟩;obtain⟨a,b,c⟩:=ae.eV s (ju.mem_iff.2 hs) i hi;exact⟨ju.mem_iff.1 a,b,c⟩
theorem Yb (ec:qw l kd=true) (p5:t_ l kd nd=true) (np:sx l a0.tmps.size=true) (ad:∀ k,E k→k<W.heap.size) (pg:∀ c,ew.so c∈kd→¬ E (tgt c)) (e6:∀ c,ew.so c∈kd→tgt c<W.heap.size) (kA:∀ c c',ew.so c∈kd→ew.so c'∈kd→tgt c=tgt c'→c=c') (ry:∀ R b1,uL nd R b1 0 (V R) (V b1)) (tQ:∀ R b1 i,(∀ m,m<nd.getD i 0→R m=b1 m)→full R i=full b1 i)
 (qC:∀ s R w w',T s R w→Below w.heap.size w w'→T s R w')
 (mO:ql (pR P T E l kd nd V zero full tgt W (fun R=>eO l (dN kd V R (fun _=>0)) a0 (List.range l.length))) 0 l)
 (k2:∀ s R G w,lf T E l kd zero full tgt W (List.range l.length) s R G w→Q .normal (eO l (dN kd V R G) a0 (List.range l.length)) w) :
 ∀ (fuel:Nat) (S:List Nat) (s:Nat) (R:Nat→Value) (G:Nat→Nat) (w:World) (listed:Array Bool),listed.size=l.length→(∀ j,j<l.length→(listed.getD j true=decide (j∈S))∧listed.getD j false=decide (j∈S))→lf T E l kd zero full tgt W S s R G w→S.length+fuel=l.length→wpAny P .any l.toArray Q fuel listed (eO l (dN kd V R G) a0 S) w:=by
 have h1:=Hq ec;intro fuel;induction fuel with
 | zero =>
  intro S s R G w listed e5 br ae hlen;have y':∀ m,m<l.length→m∈S:=by
   intro m hm;refine Classical.byContradiction fun hn=>?_
   have h2:=EI (m :: S) (List.range l.length) (List.nodup_cons.2 ⟨hn,ae.nd⟩) (fun k aE=>by
    rcases List.mem_cons.1 aE with h|h
    ·subst h;exact List.mem_range.2 hm
    ·exact List.mem_range.2 (ae.lA k h))
   simp at h2;omega
  obtain⟨ju,xh⟩:=afj ae y';refine⟨?_,?_⟩
  ·cases aD:Region.ready .any l.toArray listed with
   | nil=>rfl
   | cons i r =>
    obtain⟨o,aL,rB,_⟩:=HJ (show i∈Region.ready .any l.toArray listed by rw[aD];simp);have hi:=(List.getElem?_eq_some_iff.1 aL).1;rw[(br i hi).1] at rB;simp[y' i hi] at rB
  ·rw[abQ _ a0 ju h1];exact k2 s R G w xh
 | succ fuel ih =>
  intro S s R G w listed e5 br ae hlen;refine⟨?_,?_⟩
  ·intro aD;have:∃ m,m<l.length∧m ∉ S:=by
    apply Classical.byContradiction
    intro iK;have:=EI (List.range l.length) S List.nodup_range (fun m hm=>Classical.byContradiction fun hn=>iK ⟨m,List.mem_range.1 hm,hn⟩);simp at this
    omega
   obtain⟨m,hm,zh⟩:=this
   exact absurd aD (aj_ ec br hm zh)
  ·intro i hi;obtain⟨o,aL,rB,lu⟩:=HJ hi;have gY:=(List.getElem?_eq_some_iff.1 aL).1;have hn:i ∉ S:=by
    intro h;rw[(br i gY).1] at rB;simp[h] at rB
   have Ls:∀ k,dep o k=true→k∈S:=by
    intro k aE;have h2:=lu k aE;by_cases dP:k<l.length
    ·rw[(br k dP).2] at h2;simpa using h2
    ·rw[Array.getD_eq_getD_getElem?,Array.getElem?_eq_none (by omega)] at h2;simp at h2
   have xw:=V4 (Q:=Q) ec p5 np ad pg e6 kA ry tQ qC mO ae aL hn Ls (K:=wpAny P .any l.toArray Q fuel (listed.setIfInBounds i true)) (by
    intro s' b1 iM w' xh;refine ih (S++[i]) s' b1 iM w' _ (by simpa using e5) ?_ xh (by simp;omega);intro j aN;have LG:j<listed.size:=by omega
    by_cases e:j=i
    ·subst e;simp[Array.getD_eq_getD_getElem?,LG]
    ·have e':i≠j:=fun h=>e h.symm
     have:=br j aN;simp only[Array.getD_eq_getD_getElem?] at this ⊢
     rw[Array.getElem?_setIfInBounds_ne e'];simpa [e] using this)
   show wpOp P l.toArray Q i _ _ _
   unfold wpOp;rw[List.getElem?_toArray,aL];simp only;by_cases hw:Region.wanted o (yielded l.toArray (eO l (dN kd V R G) a0 S).tmps)=true
   ·rw[if_pos hw] at xw;rw[if_pos hw];exact Or.inl xw
   ·rw[if_neg hw] at xw;rw[if_neg hw];exact xw
theorem T6 (ec:qw l kd=true) (p5:t_ l kd nd=true) (np:sx l a0.tmps.size=true) (ad:∀ k,E k→k<W.heap.size) (pg:∀ c,ew.so c∈kd→¬ E (tgt c)) (e6:∀ c,ew.so c∈kd→tgt c<W.heap.size) (kA:∀ c c',ew.so c∈kd→ew.so c'∈kd→tgt c=tgt c'→c=c') (ry:∀ R b1,uL nd R b1 0 (V R) (V b1)) (tQ:∀ R b1 i,(∀ m,m<nd.getD i 0→R m=b1 m)→full R i=full b1 i)
 (qC:∀ s R w w',T s R w→Below w.heap.size w w'→T s R w')
 (mO:ql (pR P T E l kd nd V zero full tgt W (fun R=>eO l (dN kd V R (fun _=>0)) a0 (List.range l.length))) 0 l)
 (k2:∀ s R G w,lf T E l kd zero full tgt W (List.range l.length) s R G w→Q .normal (eO l (dN kd V R G) a0 (List.range l.length)) w) :
 ∀ (l':List Oper) (k:Nat) (s:Nat) (R:Nat→Value) (G:Nat→Nat) (w:World),k+l'.length=l.length→(∀ i,l'[i]?=l[k+i]?)→lf T E l kd zero full tgt W (List.range k) s R G w→wpList P l.toArray Q l' (eO l (dN kd V R G) a0 (List.range k)) w
 | [],k,s,R,G,w,aE,_,ae=>by
  simp at aE;subst aE;exact k2 s R G w ae
 | o :: l',k,s,R,G,w,aE,hl,ae=>by
  have aL:l[k]?=some o:=by have:=hl 0;simpa using this.symm
  have dP:=(List.getElem?_eq_some_iff.1 aL).1;refine wpList_step fun K cQ=>?_
  refine V4 (Q:=Q) ec p5 np ad pg e6 kA ry tQ qC mO ae aL (by simp) (fun m hm=>?_) (fun s' b1 iM w' xh=>?_)
  ·unfold dep at hm;rw[Array.any_eq_true'] at hm;obtain⟨e,he,hb⟩:=hm;simp only[Bool.and_eq_true,beq_iff_eq] at hb;have:=(E0 ec aL).2.2.2.1 e he hb.1;rw[hb.2] at this
   exact List.mem_range.2 this
  ·refine cQ _ _ ?_;rw[←List.range_succ] at xh ⊢;exact T6 ec p5 np ad pg e6 kA ry tQ qC mO k2 l' (k+1) s' b1 iM w' (by simp at aE;omega) (fun i=>by have:=hl (i+1);simpa [Nat.add_assoc,Nat.add_comm 1 i] using this) xh
theorem TL {R:Nat→Value} (aw:T 0 R w) (hw:w.os=W.os∧w.tape=W.tape∧w.output=W.output∧w.heap=W.heap):lf T E l kd zero full tgt W [] 0 R (fun _=>0) w:=by
 obtain⟨h1,h2,h3,h4⟩:=hw;exact⟨List.nodup_nil,by simp,⟨h1,h2,h3,by rw[h4];exact Nat.le_refl _,fun _ _ _ _=>by rw[h4]⟩,by simp,by simp,by simp,by simp,fun s hs c hc _=>by rw[h4],by simp,by simp,fun i _ m _=>by simp,aw⟩
def bB:List Oper→List ew→List Value→(Nat→Value)→(Nat→Nat)→Nat→Act→Act
 | o :: l,t :: kd,v :: V,R,G,i,a=>bB l kd V R G (i+1) (a.put o.dst (BX t v (G i) R))
 | _,_,_,_,_,_,a=>a
theorem U6 (l:List Oper) (kd:List ew) (V:(Nat→Value)→List Value) (R:Nat→Value) (G:Nat→Nat):∀ (l':List Oper) (sU:List ew) (sj:List Value) (k:Nat) (a:Act),(∀ i,l'[i]?=l[k+i]?)→(∀ i,sU[i]?=kd[k+i]?)→(∀ i,sj[i]?=(V R)[k+i]?)→sU.length=l'.length→sj.length=l'.length→bB l' sU sj R G k a=(List.range' k l'.length).foldl (fun a i=>a.put (eH l i) (dN kd V R G i)) a
 | [],[],[],k,a,_,_,_,_,_=>rfl
 | o :: l',t :: sU,v :: sj,k,a,h1,h2,h3,h4,h5=>by
  have bk:l[k]?=some o:=by have:=h1 0;simpa using this.symm
  have e2:kd[k]?=some t:=by have:=h2 0;simpa using this.symm
  have fL:(V R)[k]?=some v:=by have:=h3 0;simpa using this.symm
  have ed:eH l k=o.dst:=by unfold eH;rw[bk];rfl
  have et:dv kd k=t:=by unfold dv;rw[List.getD_eq_getElem?_getD,e2];rfl
  have J0:(V R).getD k undef=v:=by rw[List.getD_eq_getElem?_getD,fL];rfl
  have gO:dN kd V R G k=BX t v (G k) R:=by
   unfold dN;rw[et,J0]
  rw[bB,List.length_cons,List.range'_succ,List.foldl_cons,ed,gO];exact U6 l kd V R G l' sU sj (k+1) _ (fun i=>by have:=h1 (i+1);simpa [Nat.add_assoc,Nat.add_comm 1 i] using this) (fun i=>by have:=h2 (i+1);simpa [Nat.add_assoc,Nat.add_comm 1 i] using this) (fun i=>by have:=h3 (i+1);simpa [Nat.add_assoc,Nat.add_comm 1 i] using this) (by simpa using h4) (by simpa using h5)
 | [],_ :: _,_,_,_,_,_,_,h,_=>by simp at h
 | [],[],_ :: _,_,_,_,_,_,_,h=>by simp at h
 | _ :: _,[],_,_,_,_,_,_,h,_=>by simp at h
 | _ :: _,_ :: _,[],_,_,_,_,_,_,h=>by simp at h
theorem Gw (a0:Act) (h4:kd.length=l.length) (R:Nat→Value) (h5:(V R).length=l.length):eO l (dN kd V R G) a0 (List.range l.length)=bB l kd (V R) R G 0 a0:=by
 rw[U6 l kd V R G l kd (V R) 0 a0 (by simp) (by simp) (by simp) h4 h5];unfold eO;rw[List.range_eq_range']
theorem kl {id:Nat} (kd:List ew) (nd:List Nat) (V:(Nat→Value)→List Value) (zero:Nat→Obj) (full:(Nat→Value)→Nat→Obj) (tgt:Nat→Nat) (T:Nat→(Nat→Value)→World→Prop) (E:Nat→Prop) (hm:P.follows .mixedOrders=true) (ec:qw l kd=true) (p5:t_ l kd nd=true) (np:sx l a0.tmps.size=true) (h4:kd.length=l.length) (h5:∀ R,(V R).length=l.length)
 (ad:∀ k,E k→k<W.heap.size) (pg:∀ c,ew.so c∈kd→¬ E (tgt c)) (e6:∀ c,ew.so c∈kd→tgt c<W.heap.size) (kA:∀ c c',ew.so c∈kd→ew.so c'∈kd→tgt c=tgt c'→c=c') (ry:∀ R b1,uL nd R b1 0 (V R) (V b1)) (tQ:∀ R b1 i,(∀ m,m<nd.getD i 0→R m=b1 m)→full R i=full b1 i)
 (qC:∀ s R w w',T s R w→Below w.heap.size w w'→T s R w') (Lk:T 0 (fun _=>undef) W.drew)
 (mO:ql (pR P T E l kd nd V zero full tgt W (fun R=>bB l kd (V R) R (fun _=>0) 0 a0)) 0 l)
 (k2:∀ s R G w,lf T E l kd zero full tgt W (List.range l.length) s R G w→Q .normal (bB l kd (V R) R G 0 a0) w) :
 (Code.region id l.toArray true).wp P Q a0 W:=by
 refine wp_region_any hm ?_;have e:(fun R=>eO l (dN kd V R (fun _=>0)) a0 (List.range l.length))=(fun R=>bB l kd (V R) R (fun _=>0) 0 a0):=funext fun R=>Gw a0 h4 R (h5 R)
 rw[←e] at mO;have h:=Yb (Q:=Q) ec p5 np ad pg e6 kA ry tQ qC mO (fun s R G w ae=>by rw[Gw a0 h4 R (h5 R)];exact k2 s R G w ae) l.length [] 0 (fun _=>undef) (fun _=>0) { W with drawn:=W.drawn+1 } (Array.replicate l.length false) (by simp) (fun j aN=>by simp[Array.getD_eq_getD_getElem?,aN]) (TL Lk ⟨rfl,rfl,rfl,rfl⟩) (by simp);simpa [eO] using h
theorem eB {id:Nat} (kd:List ew) (nd:List Nat) (V:(Nat→Value)→List Value) (zero:Nat→Obj) (full:(Nat→Value)→Nat→Obj) (tgt:Nat→Nat) (T:Nat→(Nat→Value)→World→Prop) (E:Nat→Prop) (ec:qw l kd=true) (p5:t_ l kd nd=true) (np:sx l a0.tmps.size=true) (h4:kd.length=l.length) (h5:∀ R,(V R).length=l.length)
 (ad:∀ k,E k→k<W.heap.size) (pg:∀ c,ew.so c∈kd→¬ E (tgt c)) (e6:∀ c,ew.so c∈kd→tgt c<W.heap.size) (kA:∀ c c',ew.so c∈kd→ew.so c'∈kd→tgt c=tgt c'→c=c') (ry:∀ R b1,uL nd R b1 0 (V R) (V b1)) (tQ:∀ R b1 i,(∀ m,m<nd.getD i 0→R m=b1 m)→full R i=full b1 i)
 (qC:∀ s R w w',T s R w→Below w.heap.size w w'→T s R w') (Lk:T 0 (fun _=>undef) W)
 (mO:ql (pR P T E l kd nd V zero full tgt W (fun R=>bB l kd (V R) R (fun _=>0) 0 a0)) 0 l)
 (k2:∀ s R G w,lf T E l kd zero full tgt W (List.range l.length) s R G w→Q .normal (bB l kd (V R) R G 0 a0) w) :
 (Code.region id l.toArray false).wp P Q a0 W:=by
 have e:(fun R=>eO l (dN kd V R (fun _=>0)) a0 (List.range l.length))=(fun R=>bB l kd (V R) R (fun _=>0) 0 a0):=funext fun R=>Gw a0 h4 R (h5 R)
 rw[←e] at mO;refine wp_region_lit ?_;have h:=T6 (Q:=Q) ec p5 np ad pg e6 kA ry tQ qC mO (fun s R G w ae=>by rw[Gw a0 h4 R (h5 R)];exact k2 s R G w ae) l 0 0 (fun _=>undef) (fun _=>0) W (by simp) (by simp) (TL Lk ⟨rfl,rfl,rfl,rfl⟩);simpa [eO] using h
end
end
end Go.Proofs.YtojbopibfflnoaaGreat
