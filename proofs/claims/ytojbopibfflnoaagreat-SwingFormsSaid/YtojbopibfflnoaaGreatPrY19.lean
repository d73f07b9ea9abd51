/- Contracts and plain facts; each states its conditions. -/
import Derived.Test.YtojbopibfflnoaaGreatPrY18
namespace Go.Proofs.YtojbopibfflnoaaGreat
open Go renaming World → w1, Calls → AA, heap_alloc_new → axe
open _root_.Go.Proofs.Tryz renaming prog → CW
set_option linter.unusedVariables false
set_option linter.unusedSimpArgs false
set_option maxHeartbeats 16000000
set_option maxRecDepth 100000
section
open Go Go.RowKit
theorem aki(s1:Bool)(a1 bA az d1:Nat)(t1:Bool)(bk f1 g1 h1:Nat)(s2:Bool)(a2 bX aU d2:Nat)(t2:Bool)(e2 f2 g2 h2:Nat)(x1 y1 x2 gK:Int)(w:w1)(mP:dg s1 a1 bA az d1 x1)(oO:dg t1 bk f1 g1 h1 y1)(j6:dg s2 a2 bX aU d2 x2)(xy:dg t2 e2 f2 g2 h2 gK)(v1 v2:Bool)(l2:decide (o3 s1 x1 t1 y1)=v1)(ly:decide (o3 s2 x2 t2 gK)=v2) :
 AA CW 70 #[.agg #[.bool s1,a1,bA,az,d1,.bool t1,bk,f1,g1,h1],.agg #[.bool s2,a2,bX,aU,d2,.bool t2,e2,f2,g2,h2]] w (nc .i64 (f_ (lU v1 x1*lm v2 gK) (lU v2 x2*lm v1 y1)) w):=by
 have bz:=e1 w (.cells #[.bool s1,a1,bA,az,d1,.bool t1,bk,f1,g1,h1] 29) (.cells #[.bool s2,a2,bX,aU,d2,.bool t2,e2,f2,g2,h2] 29);have EE:=(aA w (.cells #[.bool s1,a1,bA,az,d1,.bool t1,bk,f1,g1,h1] 29)).trans (aA _ (.cells #[.bool s2,a2,bX,aU,d2,.bool t2,e2,f2,g2,h2] 29));obtain⟨W,aK⟩:=eo ((w.alloc (.cells #[.bool s1,a1,bA,az,d1,.bool t1,bk,f1,g1,h1] 29)).alloc (.cells #[.bool s2,a2,bX,aU,d2,.bool t2,e2,f2,g2,h2] 29));rw[<-aK] at bz EE;have aS:cm W w.heap.size s1 a1 bA az d1 t1 bk f1 g1 h1:=bz.1;have ak:cm W (w.heap.size+1) s2 a2 bX aU d2 t2 e2 f2 g2 h2:=bz.2;have aB:=hide aK;clear aK bz;have bQ:Hid (∀ w',AA CW 65 #[.agg #[.bool s1,a1,bA,az,d1,.bool t1,bk,f1,g1,h1]] w' (uK (lU v1 x1) (lm v1 y1) w')):=fun w'=>VI _ _ _ _ _ _ _ _ _ _ x1 y1 w' mP oO v1 l2
 have bY:Hid (∀ w',AA CW 65 #[.agg #[.bool s2,a2,bX,aU,d2,.bool t2,e2,f2,g2,h2]] w' (uK (lU v2 x2) (lm v2 gK) w')):=fun w'=>VI _ _ _ _ _ _ _ _ _ _ x2 gK w' j6 xy v2 ly
 obtain⟨yL,yI,N3,_⟩:=Ge l2;obtain⟨yM,yJ,N4,_⟩:=Ge ly;obtain⟨r,aD⟩:=aM (f_ (lU v1 x1*lm v2 gK) (lU v2 x2*lm v1 y1));rw[aD];have bq:=hide aD;clear aD l2 ly mP oO j6 xy;obtain⟨aC,hJ⟩:∃ n,lU v1 x1=n:=⟨_,rfl⟩;obtain⟨m1,jt⟩:∃ n,lm v1 y1=n:=⟨_,rfl⟩;obtain⟨aW,fT⟩:∃ n,lU v2 x2=n:=⟨_,rfl⟩;obtain⟨m2,pn⟩:∃ n,lm v2 gK=n:=⟨_,rfl⟩;rw[hJ] at bQ bq yL;rw[jt] at bQ bq yI;rw[fT] at bY bq yM;rw[pn] at bY bq yJ;have Il:=hide (Hk yL yJ);have Io:=hide (Hk yM yI);clear hJ jt fT pn N3 N4 yL yM yI yJ;have uq:=cv aS;have qj:=cv ak;go_enter Tryz.func70,Tryz.ntmps70
 go_upto_region 1 with fail
 rw[<-aB.out];clear aB;go_cut [] (fun bP=>QU w aC m1 aW m2 bP)
 case first =>
  go_region_with (first
   | (go_at_call 65;(with_reducible refine(bQ.out _).mono ?_);rintro e' bm ⟨iC,a5,c1,cy,d5,t5,tO,f5,g5,h5,rfl,Dz,Lh,ad⟩;have aS:cm bm w.heap.size s1 a1 bA az d1 t1 bk f1 g1 h1:=(by first|exact aS.ext ad|exact aS.drew.ext ad);have ak:cm bm (w.heap.size+1) s2 a2 bX aU d2 t2 e2 f2 g2 h2:=(by first|exact ak.ext ad|exact ak.drew.ext ad);have EE:Ext w bm:=(by first|exact EE.trans ad|exact(EE.trans (b5 _)).trans ad);have uq:=cv aS;have qj:=cv ak;clear ad)
   | (go_at_call 65;(with_reducible refine(bY.out _).mono ?_);rintro e' cg ⟨fq,a6,cH,cF,d6,t6,uX,f6,g6,h6,rfl,DA,Li,ad⟩;have aS:cm cg w.heap.size s1 a1 bA az d1 t1 bk f1 g1 h1:=(by first|exact aS.ext ad|exact aS.drew.ext ad);have ak:cm cg (w.heap.size+1) s2 a2 bX aU d2 t2 e2 f2 g2 h2:=(by first|exact ak.ext ad|exact ak.drew.ext ad);have EE:Ext w cg:=(by first|exact EE.trans ad|exact(EE.trans (b5 _)).trans ad);have uq:=cv aS;have qj:=cv ak;clear ad))
  all_goals go_wp2_with fail
  all_goals go_meet
  all_goals exact⟨iC,a5,c1,cy,d5,t5,tO,f5,g5,h5,fq,a6,cH,cF,d6,t6,uX,f6,g6,h6,Dz,Lh,DA,Li,(aS.put).C7 (by omega) _ _ _ _ _ _ _ _ _ _,(ak.C7 (by omega) _ _ _ _ _ _ _ _ _ _).put,kY (kY EE (Nat.le_refl _) _ _ _ _ _ _ _ _ _ _) (by omega) _ _ _ _ _ _ _ _ _ _⟩
 case rest =>
  clear aS ak EE;obtain⟨s1,a1,bA,az,d1,t1,bk,f1,g1,h1,s2,a2,bX,aU,d2,t2,e2,f2,g2,h2,jX,oZ,ot,B8,aS,ak,EE⟩:=hcut;have eN:=hide jX;have kq:=hide oZ;have eC:=hide ot;have AG:=hide B8;clear jX oZ ot B8 bQ bY;have gR:Hid (∀ (iC:Bool) (a5 c1 cy d5:Nat) (fq:Bool) (a6 cH cF d6:Nat) w',cw iC a5 c1 cy d5 (aC*m2)->cw fq a6 cH cF d6 (aW*m1)->AA CW 28 #[.agg #[.bool iC,a5,c1,cy,d5],.agg #[.bool fq,a6,cH,cF,d6]] w' (nc .i64 r w')):=fun iC a5 c1 cy d5 fq a6 cH cF d6 w' h5 h6=>by rw[<-bq.out];exact Vy _ _ _ _ _ _ _ _ _ _ _ _ w' h5.1 h6.1
  have uq:=cv aS;have qj:=cv ak;go_upto_region 3 with (go_at_call 66;refine(Oi s1 t2 a1 bA az d1 e2 f2 g2 h2 aC m2 _ eN.out.1 AG.out.1).mono ?_;intro e' b6 Ea;obtain⟨iC,a5,c1,cy,d5,rfl,uw,ad⟩:=H' Ea Il.out;have aS:=aS.ext ad;have ak:=ak.ext ad;have EE:=EE.trans ad;clear ad Ea)
  have r1:=hide uw;have jG:Box (b6.alloc (.cells #[.bool iC,a5,c1,cy,d5] 27)) b6.heap.size iC a5 c1 cy d5:=axe b6 _;have ad:=aA b6 (.cells #[.bool iC,a5,c1,cy,d5] 27);have aS:=aS.ext ad;have ak:=ak.ext ad;have EE:=EE.trans ad;generalize b6.alloc (.cells #[.bool iC,a5,c1,cy,d5] 27)=oF at *;generalize b6.heap.size=g7 at *;clear uw ad;have uq:=cv aS;have qj:=cv ak;go_upto_region 4 with (go_at_call 66;refine(Oi s2 t1 a2 bX aU d2 bk f1 g1 h1 aW m1 _ eC.out.1 kq.out.1).mono ?_;intro e' c8 Eb;obtain⟨fq,a6,cH,cF,d6,rfl,qm,ad⟩:=H' Eb Io.out;have jG:=jG.ext ad;have EE:=EE.trans ad;clear ad Eb)
  have r2:=hide qm;have cZ:Box (c8.alloc (.cells #[.bool fq,a6,cH,cF,d6] 27)) c8.heap.size fq a6 cH cF d6:=axe c8 _;have ad:=aA c8 (.cells #[.bool fq,a6,cH,cF,d6] 27);have jG:=jG.ext ad;have EE:=EE.trans ad;generalize c8.alloc (.cells #[.bool fq,a6,cH,cF,d6] 27)=yC at *;generalize c8.heap.size=g8 at *;clear qm ad;have dY:=cx jG;have fa:=cx cZ;go_wp2_with (go_at_call 28;refine(gR.out _ _ _ _ _ _ _ _ _ _ _ r1.out r2.out).mono ?_;rintro e' cN ⟨rfl,ad⟩;have EE:=EE.trans ad;clear ad)
  all_goals go_ret
  all_goals exact⟨rfl,EE⟩
end
end Go.Proofs.YtojbopibfflnoaaGreat
