/- Contracts and plain facts; each states its conditions. -/
import Derived.Test.YtojbopibfflnoaaGreatPrW38
import Derived.Shelf.Strconv.Itoa0
namespace Go.Proofs.YtojbopibfflnoaaGreat
set_option linter.unusedVariables false
set_option linter.unusedSimpArgs false
set_option maxHeartbeats 16000000
section
open Go Go.RowKit
theorem tB (x:Int):∃ p,wrap64 x=p∧IntKind.i64.wrap x=p∧de p:=⟨wrap64 x,rfl,by rw[IntKind.wrap_i64];simp only[wrap64],TG x⟩
theorem hE.cell {w:World}{b off:Nat}{l:List Int} (h:hE w (some ⟨b,off,none⟩) l) {j:Nat} (aN:j<l.length):w.cell? ⟨b,off+j,none⟩=some (.int .i64 (l.getD j 0)):=by
 obtain⟨b',UJ,he,_,hc⟩:=h.2.2 (by omega);cases he
 exact hc j aN
def QX (N B b:Nat) (W:World) (e:Ending) (w':World):Prop:=∃ A n cap l,e=.returned (.slice A n cap)∧l.length=n∧n≤N∧n≤cap∧cap≤9223372036854775807∧jx (l.map Prod.fst)=true∧hZ W.heap.size w' (.slice A n cap) l∧fP B w' b∧b3 b W w'
structure q0 (W:World) (B b au:Nat) (oq:Option Addr) (n cap:Nat) (m:List Int) (lv:Value) (ej:List (Int × Int)) (w:World):Prop where
 t:fP B w b
 u:b3 b W w
 s:hZ au w lv ej
 o:fJ W.heap.size w (.slice oq n cap) m
 o8:au≤w.heap.size
section
variable {W:World}{B b au:Nat}{oq:Option Addr}{n cap:Nat}{m:List Int}{lv:Value}{ej:List (Int × Int)}{w w':World}
theorem q0.c7 (h:q0 W B b au oq n cap m lv ej w) (hb:b<W.heap.size) (bF:W.heap.size≤au) (u:b3 b w w') (t:fP B w' b):q0 W B b au oq n cap m lv ej w':=
 ⟨t,h.u.trans u,h.s.c7 u (Nat.lt_of_lt_of_le hb bF),h.o.c7 u hb,Nat.le_trans h.o8 u.2.2.2.1⟩
theorem q0.alloc (h:q0 W B b au oq n cap m lv ej w) (o:Obj):q0 W B b au oq n cap m lv ej (w.alloc o):=
 ⟨h.t.alloc o,h.u.trans (Ext.c7 (aA w o) b),h.s.alloc o,h.o.alloc o,Nat.le_trans h.o8 (by simp)⟩
theorem q0.grow (h:q0 W B b au oq n cap m lv ej w) (hb:b<W.heap.size) (bF:W.heap.size≤au) (aO:(Value.slice oq n cap).ownBlock=none∨(Value.slice oq n cap).ownBlock≠lv.ownBlock) {v':Value}{l':List (Int × Int)} (eD:hZ au w' v' l') (aV:w.grownBy w' lv.ownBlock):q0 W B b au oq n cap m v' l' w':=
 ⟨h.t.below (GL aV (b+1) (Nat.lt_of_lt_of_le hb h.u.2.2.2.1) (fun k aE=>by have:=(h.s.1.lt k aE).1;omega)),Wj h.u aV (fun k aE=>Nat.le_trans bF (h.s.1.lt k aE).1),eD,h.o.kept aV aO,Nat.le_trans h.o8 (GL aV 0 (Nat.zero_le _) (fun _ _=>Nat.zero_le _)).size⟩
end
set_option maxRecDepth 100000 in
theorem ald (N B b:Nat) (jO:N≤1000) (W:World) (aw:fP B W b):Calls Tryz.prog 15 #[.pointer (some ⟨b,0,none⟩),.int .i64 (N:Int)] W (QX N B b W):=by
 have je:=aw.2.1;have i7:de 7:=⟨by omega,by omega⟩;have i41:de 41:=⟨by omega,by omega⟩;have i9:de 9:=⟨by omega,by omega⟩;have i3:de 3:=⟨by omega,by omega⟩;have ae9:de 400:=⟨by omega,by omega⟩;have i50:de 50:=⟨by omega,by omega⟩;have wF:=hide (ale N B b jO W aw);clear aw;go_enter Tryz.func15,Tryz.ntmps15
 go_upto_region 2 with (go_at_call 43;(with_reducible refine(wF.out).mono ?_);rintro e aT ⟨oq,n,cap,m,rfl,hm,apK,apL,apM,G2,eD,T1,u1⟩;have T1:=hide T1;have oE:=hide u1;have ox:=hide eD;have r0:=hide hm;have Xi:=hide G2;clear eD hm G2 u1)
 have kx:W.heap.size≤aT.heap.size:=oE.out.2.2.2.1;obtain⟨au,SA⟩:=aM aT.heap.size;have dQ:Hid (∀ w lv ej,hZ au w lv ej→(Value.slice oq n cap).ownBlock=none∨(Value.slice oq n cap).ownBlock≠lv.ownBlock):=hide (fun w lv ej aL=>by
  cases oq with
  | none=>exact Or.inl rfl
  | some a =>
   right
   intro e;have h1:=ox.out.1.lt a.block rfl;have h2:=aL.1.lt a.block (by rw[←e];rfl);omega)
 have jj:Hid (q0 W B b au oq n cap m (.slice none 0 0) [] aT):=hide ⟨T1.out,oE.out,hZ.jT _ _,ox.out,by omega⟩;rw[SA] at kx;clear SA T1 oE ox wF;go_upto_region 4 with (go_at_call 36;(with_reducible refine(lJ B b 7 _ i7 jj.out.t).mono ?_);rintro e bp ⟨s,rfl,hs,kr,u2⟩;obtain⟨kd,rfl⟩:=Int.eq_ofNat_of_zero_le hs.1;have ad':kd<7:=(by have:=hs.2.1 (by omega);omega);have iO:=hide (jj.out.c7 je kx u2 kr);clear hs u2 kr jj)
 go_upto_region 5 with (first
  | (go_at_call 44;(with_reducible refine(OE B b _ _ iO.out.t (b3.refl _ _)).mono ?_);rintro e w3 ⟨v0,rfl,oN,oD,u3⟩;have pS:=hide (iO.out.c7 je kx u3 oD);have Qv:=hide oN;clear u3 oD iO oN)
  | (go_at_call 36;(with_reducible refine(lJ B b 41 _ i41 pS.out.t).mono ?_);rintro e bZ ⟨s,rfl,hs,si,u4⟩;have sP:=hs.1;have py:=hs.2.1 (by omega);have Cv:=hide (pS.out.c7 je kx u4 si);obtain⟨sl,hsl⟩:=aM (s-20);clear hs u4 si pS))
 clear sP py hsl;go_wp2_with fail
 go_loopw [6,8,10] (fun lv Jv iv wr=>∃ (i:Nat) (gd:Int) (ej:List (Int × Int)),i≤n∧iv=.int .i64 (i:Int)∧Jv=.int .i64 gd∧Hid (de gd)∧Hid (ej.map Prod.fst=m.take i)∧Hid (q0 W B b au oq n cap m lv ej wr)) (fun _ _ iv _=>n-(intOf iv).toNat)
 case atStart=>exact⟨0,v0,[],by omega,rfl,rfl,Qv,hide (by simp),Cv⟩
 case round =>
  clear Cv Qv;obtain⟨i,gd,ej,hi,rfl,rfl,bV,cz,jk⟩:=hrel;by_cases h0:i<n
  ·have d0:decide ((i:Int)<(n:Int))=true:=decide_eq_true (by omega);have k3:i<m.length:=by rw[r0.out];exact h0
   obtain⟨j3,lG,rfl,_,_⟩:=(UO jk.out.o).2.2 (by omega);obtain⟨g_,G6⟩:=aM (m.getD i 0);have xC:de g_:=by rw[←G6];exact jk.out.o.2.get i
   have iI:Hid (∀ w v l',q0 W B b au (some ⟨j3,lG,none⟩) n cap m v l' w→w.cell? ⟨j3,lG+i,none⟩=some (.int .i64 g_)):=hide (fun w v l' s=>by rw[←G6];exact(UO s.o).cell k3);have Bx:=fun w=>Bv j3 lG n cap i h0 w
   have tE:Hid (∀ X,(ej++[(g_,X)]).map Prod.fst=m.take (i+1)):=hide (fun X=>by rw[List.map_append,cz.out,V' k3,G6];rfl);have zg:ej.length=i:=by
    have:=congrArg List.length cz.out;rw[List.length_map,List.length_take] at this
    omega
   have sL:Hid (∀ X:Int,ej.length+[(g_,X)].length≤8796093022208):=hide (fun X=>by simp;omega);have iv:=bV.out;clear G6 k3 zg cz;obtain rfl|rfl|rfl|rfl|rfl|rfl|rfl:kd=0∨kd=1∨kd=2∨kd=3∨kd=4∨kd=5∨kd=6:=by omega
   ·go_upto_region 24 with fail
    have afr:=iv;have qp:=hide iv;have eY:=hide (jk.out.alloc (.cells #[.int .i64 g_,.int .i64 gd] 23));have yQ:=iI.out _ _ _ jk.out;have nQ:=iI.out _ _ _ eY.out;have mN:=hide (xJ wr g_ gd xC afr);have e5:=eY.out.o8;clear jk;go_wp2_with (at_builtin;refine xY rfl (.tmp 81) (.tmp 88) rfl au _ ej [(g_,gd)] rfl eY.out.s _ 1 1 rfl mN.out rfl (sL.out gd) e5 ?_;intro v21 Ah k1 k0 hA21;have o4:=hide (eY.out.grow je kx (dQ.out _ _ _ eY.out.s) k1 k0);clear k1 k0 hA21)
    go_roundw
    case rel=>(repeat apply Exists.intro);exact⟨⟨i+1,gd,ej++[(g_,gd)],by omega,by go_num,by go_num,qp,tE.out gd,o4⟩,rfl⟩
    case measure=>simp[intOf];omega
   ·have qp:=hide iv;obtain⟨p,p1,p2,ip⟩:=tB ((i:Int)*sl);obtain⟨X,X1,kK,qH⟩:=tB (gd+p);go_upto_region 24 with fail
    have eY:=hide (jk.out.alloc (.cells #[.int .i64 g_,.int .i64 X] 23));have yQ:=iI.out _ _ _ jk.out;have nQ:=iI.out _ _ _ eY.out;have mN:=hide (xJ wr g_ X xC qH);have e5:=eY.out.o8;clear jk;go_wp2_with (at_builtin;refine xY rfl (.tmp 81) (.tmp 88) rfl au _ ej [(g_,X)] rfl eY.out.s _ 1 1 rfl mN.out rfl (sL.out X) e5 ?_;intro v21 Ah k1 k0 hA21;have o4:=hide (eY.out.grow je kx (dQ.out _ _ _ eY.out.s) k1 k0);clear k1 k0 hA21)
    go_roundw
    case rel=>(repeat apply Exists.intro);exact⟨⟨i+1,gd,ej++[(g_,X)],by omega,by go_num,by go_num,qp,tE.out X,o4⟩,rfl⟩
    case measure=>simp[intOf];omega
   ·have qp:=hide iv;obtain⟨p,p1,p2,ip⟩:=tB ((i:Int)*sl);obtain⟨q,q1,k8,ap3⟩:=tB (gd+p);go_upto_region 24 with (go_at_call 36;(with_reducible refine(lJ B b 7 _ i7 jk.out.t).mono ?_);rintro e cg ⟨s,rfl,hs,T,u⟩;obtain⟨y,rfl⟩:=Int.eq_ofNat_of_zero_le hs.1;have hy:y<7:=(by have:=hs.2.1 (by omega);omega);have lk:=hide (jk.out.c7 je kx u T);obtain⟨X,X1,kK,qH⟩:=tB (q+((y:Int)-3));clear hs u T jk)
    have eY:=hide (lk.out.alloc (.cells #[.int .i64 g_,.int .i64 X] 23));have yQ:=iI.out _ _ _ lk.out;have nQ:=iI.out _ _ _ eY.out;have mN:=hide (xJ cg g_ X xC qH);have e5:=eY.out.o8;clear lk;go_wp2_with (at_builtin;refine xY rfl (.tmp 81) (.tmp 88) rfl au _ ej [(g_,X)] rfl eY.out.s _ 1 1 rfl mN.out rfl (sL.out X) e5 ?_;intro v21 Ah k1 k0 hA21;have o4:=hide (eY.out.grow je kx (dQ.out _ _ _ eY.out.s) k1 k0);clear k1 k0 hA21)
    go_roundw
    case rel=>(repeat apply Exists.intro);exact⟨⟨i+1,gd,ej++[(g_,X)],by omega,by go_num,by go_num,qp,tE.out X,o4⟩,rfl⟩
    case measure=>simp[intOf];omega
   ·have qp:=hide iv;go_upto_region 24 with (go_at_call 36;(with_reducible refine(lJ B b 9 _ i9 jk.out.t).mono ?_);rintro e cg ⟨s,rfl,hs,T,u⟩;obtain⟨y,rfl⟩:=Int.eq_ofNat_of_zero_le hs.1;have hy:y<9:=(by have:=hs.2.1 (by omega);omega);have lk:=hide (jk.out.c7 je kx u T);obtain⟨X,X1,kK,qH⟩:=tB (gd+((y:Int)-4));clear hs u T jk)
    have eY:=hide (lk.out.alloc (.cells #[.int .i64 g_,.int .i64 X] 23));have yQ:=iI.out _ _ _ lk.out;have nQ:=iI.out _ _ _ eY.out;have mN:=hide (xJ cg g_ X xC qH);have e5:=eY.out.o8;clear lk;go_wp2_with (at_builtin;refine xY rfl (.tmp 81) (.tmp 88) rfl au _ ej [(g_,X)] rfl eY.out.s _ 1 1 rfl mN.out rfl (sL.out X) e5 ?_;intro v21 Ah k1 k0 hA21;have o4:=hide (eY.out.grow je kx (dQ.out _ _ _ eY.out.s) k1 k0);clear k1 k0 hA21)
    go_roundw
    case rel=>(repeat apply Exists.intro);exact⟨⟨i+1,gd,ej++[(g_,X)],by omega,by go_num,by go_num,qp,tE.out X,o4⟩,rfl⟩
    case measure=>simp[intOf];omega
   ·have qp:=hide iv;go_upto_region 24 with (go_at_call 44;(with_reducible refine(OE B b _ _ jk.out.t (b3.refl _ _)).mono ?_);rintro e cg ⟨X,rfl,qH,T,u⟩;have lk:=hide (jk.out.c7 je kx u T);clear u T jk)
    have eY:=hide (lk.out.alloc (.cells #[.int .i64 g_,.int .i64 X] 23));have yQ:=iI.out _ _ _ lk.out;have nQ:=iI.out _ _ _ eY.out;have mN:=hide (xJ cg g_ X xC qH);have e5:=eY.out.o8;clear lk;go_wp2_with (at_builtin;refine xY rfl (.tmp 81) (.tmp 88) rfl au _ ej [(g_,X)] rfl eY.out.s _ 1 1 rfl mN.out rfl (sL.out X) e5 ?_;intro v21 Ah k1 k0 hA21;have o4:=hide (eY.out.grow je kx (dQ.out _ _ _ eY.out.s) k1 k0);clear k1 k0 hA21)
    go_roundw
    case rel=>(repeat apply Exists.intro);exact⟨⟨i+1,gd,ej++[(g_,X)],by omega,by go_num,by go_num,qp,tE.out X,o4⟩,rfl⟩
    case measure=>simp[intOf];omega
   ·go_upto_if 62 with (go_at_call 45;(with_reducible refine(ala B b 5 _ _ (by omega) (by omega) jk.out.t (b3.refl _ _)).mono ?_);rintro e cg ⟨v,rfl,T,u⟩;have lk:=hide (jk.out.c7 je kx u T);clear u T jk)
    cases v with
    | false =>
     have qp:=hide iv;go_upto_region 24 with (go_at_call 36;(with_reducible refine(lJ B b 3 _ i3 lk.out.t).mono ?_);rintro e b6 ⟨s,rfl,hs,T,u⟩;obtain⟨z,rfl⟩:=Int.eq_ofNat_of_zero_le hs.1;have hz:z<3:=(by have:=hs.2.1 (by omega);omega);have pT:=hide (lk.out.c7 je kx u T);obtain⟨X,X1,kK,qH⟩:=tB (gd+(z:Int));clear hs u T lk)
     have eY:=hide (pT.out.alloc (.cells #[.int .i64 g_,.int .i64 X] 23));have yQ:=iI.out _ _ _ pT.out;have nQ:=iI.out _ _ _ eY.out;have mN:=hide (xJ b6 g_ X xC qH);have e5:=eY.out.o8;clear pT;go_wp2_with (at_builtin;refine xY rfl (.tmp 81) (.tmp 88) rfl au _ ej [(g_,X)] rfl eY.out.s _ 1 1 rfl mN.out rfl (sL.out X) e5 ?_;intro v21 Ah k1 k0 hA21;have o4:=hide (eY.out.grow je kx (dQ.out _ _ _ eY.out.s) k1 k0);clear k1 k0 hA21)
     go_roundw
     case rel=>(repeat apply Exists.intro);exact⟨⟨i+1,gd,ej++[(g_,X)],by omega,by go_num,by go_num,qp,tE.out X,o4⟩,rfl⟩
     case measure=>simp[intOf];omega
    | true =>
     go_upto_region 24 with (first|(go_at_call 36;(with_reducible refine(lJ B b 400 _ ae9 lk.out.t).mono ?_);rintro e b6 ⟨s,rfl,hs,T,u⟩;obtain⟨y,rfl⟩:=Int.eq_ofNat_of_zero_le hs.1;have hy:y<400:=(by have:=hs.2.1 (by omega);omega);have pT:=hide (lk.out.c7 je kx u T);obtain⟨Q8,XV,mG,afb⟩:=tB (gd+((y:Int)-200));have Xf:=hide afb;clear hs u T lk)|(go_at_call 36;(with_reducible refine(lJ B b 3 _ i3 pT.out.t).mono ?_);rintro e c8 ⟨s,rfl,hs,T,u⟩;obtain⟨z,rfl⟩:=Int.eq_ofNat_of_zero_le hs.1;have hz:z<3:=(by have:=hs.2.1 (by omega);omega);have AP:=hide (pT.out.c7 je kx u T);obtain⟨X,X1,kK,qH⟩:=tB (Q8+(z:Int));clear hs u T pT))
     have eY:=hide (AP.out.alloc (.cells #[.int .i64 g_,.int .i64 X] 23));have yQ:=iI.out _ _ _ AP.out;have nQ:=iI.out _ _ _ eY.out;have mN:=hide (xJ c8 g_ X xC qH);have e5:=eY.out.o8;clear AP;go_wp2_with (at_builtin;refine xY rfl (.tmp 81) (.tmp 88) rfl au _ ej [(g_,X)] rfl eY.out.s _ 1 1 rfl mN.out rfl (sL.out X) e5 ?_;intro v21 Ah k1 k0 hA21;have o4:=hide (eY.out.grow je kx (dQ.out _ _ _ eY.out.s) k1 k0);clear k1 k0 hA21)
     go_roundw
     case rel=>(repeat apply Exists.intro);exact⟨⟨i+1,Q8,ej++[(g_,X)],by omega,by go_num,by go_num,Xf,tE.out X,o4⟩,rfl⟩
     case measure=>simp[intOf];omega
   ·have qp:=hide iv;go_upto_region 24 with (first|(go_at_call 36;(with_reducible refine(lJ B b 50 _ i50 jk.out.t).mono ?_);rintro e cg ⟨s,rfl,hs,T,u⟩;obtain⟨y,rfl⟩:=Int.eq_ofNat_of_zero_le hs.1;have hy:y<50:=(by have:=hs.2.1 (by omega);omega);have lk:=hide (jk.out.c7 je kx u T);clear hs u T jk)|(go_at_call 36;(with_reducible refine(lJ B b 50 _ i50 lk.out.t).mono ?_);rintro e b6 ⟨s,rfl,hs,T,u⟩;obtain⟨z,rfl⟩:=Int.eq_ofNat_of_zero_le hs.1;have hz:z<50:=(by have:=hs.2.1 (by omega);omega);have pT:=hide (lk.out.c7 je kx u T);obtain⟨P,aS,ak,ap2⟩:=tB ((y:Int)*(z:Int));obtain⟨X,X1,kK,qH⟩:=tB (P*sl);clear hs u T lk))
    have eY:=hide (pT.out.alloc (.cells #[.int .i64 g_,.int .i64 X] 23));have yQ:=iI.out _ _ _ pT.out;have nQ:=iI.out _ _ _ eY.out;have mN:=hide (xJ b6 g_ X xC qH);have e5:=eY.out.o8;clear pT;go_wp2_with (at_builtin;refine xY rfl (.tmp 81) (.tmp 88) rfl au _ ej [(g_,X)] rfl eY.out.s _ 1 1 rfl mN.out rfl (sL.out X) e5 ?_;intro v21 Ah k1 k0 hA21;have o4:=hide (eY.out.grow je kx (dQ.out _ _ _ eY.out.s) k1 k0);clear k1 k0 hA21)
    go_roundw
    case rel=>(repeat apply Exists.intro);exact⟨⟨i+1,gd,ej++[(g_,X)],by omega,by go_num,by go_num,qp,tE.out X,o4⟩,rfl⟩
    case measure=>simp[intOf];omega
  ·obtain rfl:i=n:=by omega
   have d0:decide ((i:Int)<(i:Int))=false:=decide_eq_false (by omega);go_wp2_with fail
   go_ret;have br:=cz.out;rw[List.take_of_length_le (by have:=r0.out;omega)] at br;obtain⟨A,c,aF,h1,h2,h3⟩:=jk.out.s.at_;have eD:=jk.out.s;subst aF;have zg:ej.length=i:=by rw[←r0.out,←br,List.length_map]
   exact⟨A,_,c,ej,rfl,rfl,by omega,h1,h2,by rw[br];exact Xi.out,eD.less kx,jk.out.t,jk.out.u⟩
end
end Go.Proofs.YtojbopibfflnoaaGreat
