/- Contracts and plain facts; each states its conditions. -/
import Derived.Test.YtojbopibfflnoaaGreatPrW5
import Derived.Test.YtojbopibfflnoaaGreatPrW14
namespace Go.Proofs.YtojbopibfflnoaaGreat
set_option linter.unusedVariables false
set_option linter.unusedSimpArgs false
set_option maxHeartbeats 16000000
section
open Go Go.RowKit
theorem akg (s t:Bool) (a b c d e f g h:Nat) (x y:Int) (w:World) (hx:dg s a b c d x) (hy:dg t e f g h y) :
 Calls Tryz.prog 26 #[.agg #[.bool s,a,b,c,d],.agg #[.bool t,e,f,g,h]] w (oG (x-y) w):=by
 obtain⟨W,aK⟩:=eo ((((w.alloc (.cells #[.bool s,a,b,c,d] 27)).alloc (.cells #[.bool t,e,f,g,h] 27)).alloc (.cells #[false,(),(),(),()] 27)));have cO:=kF w (.cells #[.bool s,a,b,c,d] 27) (.cells #[.bool t,e,f,g,h] 27) (.cells #[false,(),(),(),()] 27);rw[←aK] at cO;have ay:Box W w.heap.size s a b c d:=cO.1;have au:Box W (w.heap.size+1) t e f g h:=cO.2.1;have aR:Box W (w.heap.size+1+1) false 0 0 0 0:=cO.2.2;have bC:Ext w W:=by rw[aK];exact((aA _ _).trans (aA _ _)).trans (aA _ _)
 have aB:=hide aK;clear aK cO;go_enter Tryz.func26,Tryz.ntmps26
 go_upto_region 1 with fail
 rw[←aB.out];clear aB;have dY:=av ay;have fa:=av au;go_region_with (first
  | (go_at_call 68;refine(Og t e f g h y _ hy).mono ?_;rintro e' w' ⟨t1,bk,R6,Sc,h1,rfl,adG,ad⟩;have cD:=ay.drew.ext ad;have dz:=aR.drew.ext ad;have bS:=bC.CZ.trans ad;have dY:=av cD)
  | (go_at_call 24;refine(VD _ _ _ _ _ _ _ _ _ _ _ _ _ hx adG.1).mono ?_;rintro e' w' ⟨s',a',b',c',d',o',rfl,aL,hC,ad⟩;rw[←Int.sub_eq_add_neg] at aL hC;have jZ:=hide aL;clear aL;have eu:=dz.ext ad;obtain⟨i0,i1,i2,i3,i4,dm,cW,cL,dn,dG⟩:=av eu;have da:=bS.trans ad))
 all_goals go_wp2_with fail
 all_goals exact bodyPost_ret (v:=.tuple #[.agg #[.bool s',a',b',c',d'],.bool o']) (by simp[results,Tryz.results26,go_sem,i0,i1,i2,i3,i4]) rfl ⟨s',a',b',c',d',o',rfl,jZ.out,hC,dr da (Nat.le_trans (Nat.le_succ _) (Nat.le_succ _)) _ _ _ _ _⟩
end
end Go.Proofs.YtojbopibfflnoaaGreat
