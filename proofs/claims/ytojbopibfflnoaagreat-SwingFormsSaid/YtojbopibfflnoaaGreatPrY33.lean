/- Contracts and plain facts; each states its conditions. -/
import Derived.Test.YtojbopibfflnoaaGreatPrY32
namespace Go.Proofs.YtojbopibfflnoaaGreat
open Go renaming World → w1, Value → Ax, Calls → AA, bodyPost_ret → B7
open _root_.Go.Proofs.Tryz renaming prog → CW
set_option linter.unusedVariables false
set_option linter.unusedSimpArgs false
set_option maxHeartbeats 16000000
set_option maxRecDepth 100000
section
open Go Go.RowKit Go.Sort
def xG(mA nE eg dW:Bool)(gC gq fh fO:Array Ax)(az aU a_:Int):Array Ax × Bool:=
 if mA&&nE then (if eg then (bT dW fh fO,true) else if dW then (bT false gC gq,true) else if 0<a_ then (z21,false) else (bT false (if az<0 then fh else gC) (if 0<aU then fO else gq),true)) else (z21,false)
theorem Hy(eg dW:Bool)(gC gq fh fO:Array Ax)(zW:gC.size=10)(tf:gq.size=10)(tj:fh.size=10)(tg:fO.size=10)(OQ:gC.all (·.oneCell')=true)(OO:gq.all (·.oneCell')=true)(E8:fh.all (·.oneCell')=true)(E7:fO.all (·.oneCell')=true)(W:w1)(mA nE:Bool)(az aU a_:Int)
 (j0:∀ w,AA CW 76 #[.agg (bT eg gC gq)] w (aP (.bool mA) w)) (ij:mA=true->∀ w,AA CW 76 #[.agg (bT dW fh fO)] w (aP (.bool nE) w))
 (eN:mA=true->nE=true->eg=false->dW=false->∀ w,AA CW 91 #[.agg gC,.agg fh] w (aP (.int .i64 az) w)) (eC:mA=true->nE=true->eg=false->dW=false->∀ w,AA CW 91 #[.agg gq,.agg fO] w (aP (.int .i64 aU) w))
 (c4:mA=true->nE=true->eg=false->dW=false->∀ w,AA CW 91 #[.agg (if az<0 then fh else gC),.agg (if 0<aU then fO else gq)] w (aP (.int .i64 a_) w)) :
 AA CW 97 #[.agg (bT eg gC gq),.agg (bT dW fh fO)] W (aP (.tuple #[.agg (xG mA nE eg dW gC gq fh fO az aU a_).1,.bool (xG mA nE eg dW gC gq fh fO az aU a_).2]) W):=by
 have zZ:=lW eg zW tf;have z1:=lW dW tj tg;have EN:=su eg OQ OO;have EO:=su dW E8 E7;have nL:=fun w (h:aG w W.heap.size 31 (bT eg gC gq))=>nP h zW tf
 have r3:=fun w (h:aG w (W.heap.size+1) 31 (bT dW fh fO))=>nP h tj tg
 obtain⟨X,dk⟩:=aM (bT eg gC gq);obtain⟨Y,oJ⟩:=aM (bT dW fh fO);rw[dk] at j0 nL zZ EN |-;rw[oJ] at ij r3 z1 EO |-;have cC:=((aG.new W 31 X).alloc (.cells Y 31)).alloc (.cells #[false,false,(),(),(),(),false,(),(),(),(),false,(),(),(),(),false,(),(),(),()] 31);have aS:=(aG.new (W.alloc (.cells X 31)) 31 Y).alloc (.cells #[false,false,(),(),(),(),false,(),(),(),(),false,(),(),(),(),false,(),(),(),()] 31);have ak:=aG.new ((W.alloc (.cells X 31)).alloc (.cells Y 31)) 31 #[.bool false,.bool false,.int .u64 0,.int .u64 0,.int .u64 0,.int .u64 0,.bool false,.int .u64 0,.int .u64 0,.int .u64 0,.int .u64 0,.bool false,.int .u64 0,.int .u64 0,.int .u64 0,.int .u64 0,.bool false,.int .u64 0,.int .u64 0,.int .u64 0,.int .u64 0];have EE:=hide (Ext.trans (Ext.trans (aA W (.cells X 31)) (aA _ (.cells Y 31))) (aA _ (.cells #[false,false,(),(),(),(),false,(),(),(),(),false,(),(),(),(),false,(),(),(),()] 31)));rw[iY] at aS ak;rw[iY] at ak;obtain⟨bG,bD⟩:=aM (((W.alloc (.cells X 31)).alloc (.cells Y 31)).alloc (.cells #[false,false,(),(),(),(),false,(),(),(),(),false,(),(),(),(),false,(),(),(),()] 31));obtain⟨g,af⟩:=aM W.heap.size;rw[bD] at cC aS ak EE;rw[af] at cC aS ak nL r3;obtain⟨b,hb⟩:=aM (g+1);rw[hb] at aS ak r3;obtain⟨k,aE⟩:=aM (b+1);rw[aE] at ak;have l0:W.heap.size<=k:=by omega
 have DH:W.heap.size<=g:=by omega
 have pj:b≠g:=by omega
 have DQ:k≠g:=by omega
 have aB:=hide bD;have bW:=hide af;have rZ:=hide hb;have m':=hide aE;have fX:=hide (fun w (h:Ext bG w)=>And.intro (nL w (cC.ext h)).1 (And.intro (nL w (cC.ext h)).2.1 (And.intro (nL w (cC.ext h)).2.2.1 (And.intro (nL w (cC.ext h)).2.2.2 (r3 w (aS.ext h))))));have gN:=hide (fun w (h:Ext bG w)=>ak.ext h);have yx:=hide (fun w (h:Ext bG w)=>cC.ext h);have Cn:=hide (fun w (h:Ext bG w)=>aS.ext h);obtain⟨hG,-,-,-,-,-,-,-⟩:=fX.out bG (Ext.refl _);have hN:=hide j0;clear bD af hb aE cC aS ak nL r3 j0;cases mA with
 | false =>
  clear ij eN eC c4;go_enter Tryz.func97,Tryz.ntmps97
  go_upto_region 1 with fail
  rw[aB.out,bW.out,rZ.out,m'.out];go_upto_region 2 with (first
   | (refine dp (by kernel_rfl) rfl rfl hG ?_)
   | (go_at_call 76;(with_reducible refine(hN.out _).mono ?_);rintro e bp ⟨rfl,ad⟩;have da:=hide ad;have st:=rr (gN.out bp ad) rfl (ds:=z21) rfl iV;clear ad hG))
  go_wp2_with (refine kG (by kernel_rfl) rfl rfl rfl st ?_)
  exact B7 (kg (p:=4) (u:=5) (ty:=31) rfl _ _ k 31 z21 _ rfl ((gN.out bp da.out).setRow z21) fV rfl ei) rfl ⟨rfl,jN (EE.out.trans da.out) l0 _⟩
 | true =>
  have eM:=hide (ij rfl);clear ij;cases nE with
  | false =>
   clear eN eC c4;go_enter Tryz.func97,Tryz.ntmps97
   go_upto_region 1 with fail
   rw[aB.out,bW.out,rZ.out,m'.out];go_upto_region 2 with (first
    | (refine dp (by kernel_rfl) rfl rfl hG ?_)
    | (refine dp (by kernel_rfl) rfl rfl fy ?_)
    | (go_at_call 76;(with_reducible refine(hN.out _).mono ?_);rintro e bp ⟨rfl,ad⟩;have da:=hide ad;obtain⟨-,-,-,-,fy,-,-,-⟩:=fX.out bp ad;clear ad hG)
    | (go_at_call 76;(with_reducible refine(eM.out _).mono ?_);rintro e w3 ⟨rfl,ad⟩;have dw:=hide (Ext.trans da.out ad);have st:=rr (gN.out w3 dw.out) rfl (ds:=z21) rfl iV;clear ad fy))
   go_wp2_with (refine kG (by kernel_rfl) rfl rfl rfl st ?_)
   exact B7 (kg (p:=4) (u:=5) (ty:=31) rfl _ _ k 31 z21 _ rfl ((gN.out w3 dw.out).setRow z21) fV rfl ei) rfl ⟨rfl,jN (EE.out.trans dw.out) l0 _⟩
  | true =>
   cases eg with
   | true =>
    clear eN eC c4;go_enter Tryz.func97,Tryz.ntmps97
    go_upto_region 1 with fail
    rw[aB.out,bW.out,rZ.out,m'.out];go_upto_region 4 with (first
    | (refine dp (by kernel_rfl) rfl rfl hG ?_)
    | (refine dp (by kernel_rfl) rfl rfl fy ?_)
    | (go_at_call 76;(with_reducible refine(hN.out _).mono ?_);rintro e bp ⟨rfl,ad⟩;have da:=hide ad;obtain⟨-,-,-,-,fy,-,-,-⟩:=fX.out bp ad;clear ad hG)
    | (go_at_call 76;(with_reducible refine(eM.out _).mono ?_);rintro e w3 ⟨rfl,ad⟩;have dw:=hide (Ext.trans da.out ad);obtain⟨-,fo,-,-,Ks,-,-,-⟩:=fX.out w3 dw.out;have st:=rr (gN.out w3 dw.out) rfl z1 EO;clear ad fy))
    go_wp2_with (first
     | (refine dp (by kernel_rfl) rfl rfl Ks ?_)
     | (refine kG (by kernel_rfl) rfl rfl rfl st ?_))
    refine B7 (kg (p:=4) (u:=5) (ty:=31) rfl _ _ k 31 Y _ rfl ((gN.out w3 dw.out).setRow Y) fV rfl (by rw[ei,z1])) rfl ⟨?_,jN (EE.out.trans dw.out) l0 _⟩;rw[<-oJ];rfl
   | false =>
    have eN:=eN rfl rfl rfl;have eC:=eC rfl rfl rfl;have c4:=c4 rfl rfl rfl;cases dW with
    | true =>
     clear eN eC c4;go_enter Tryz.func97,Tryz.ntmps97
     go_upto_region 1 with fail
     rw[aB.out,bW.out,rZ.out,m'.out];go_upto_region 6 with (first
     | (refine dp (by kernel_rfl) rfl rfl hG ?_)
     | (refine dp (by kernel_rfl) rfl rfl fy ?_)
     | (go_at_call 76;(with_reducible refine(hN.out _).mono ?_);rintro e bp ⟨rfl,ad⟩;have da:=hide ad;obtain⟨-,-,-,-,fy,-,-,-⟩:=fX.out bp ad;clear ad hG)
     | (go_at_call 76;(with_reducible refine(eM.out _).mono ?_);rintro e w3 ⟨rfl,ad⟩;have dw:=hide (Ext.trans da.out ad);obtain⟨GD,fo,-,-,-,Dc,-,-⟩:=fX.out w3 dw.out;have st:=rr (gN.out w3 dw.out) rfl zZ EN;clear ad fy))
     go_wp2_with (first
      | (refine dp (by kernel_rfl) rfl rfl GD ?_)
      | (refine kG (by kernel_rfl) rfl rfl rfl st ?_))
     refine B7 (kg (p:=4) (u:=5) (ty:=31) rfl _ _ k 31 X _ rfl ((gN.out w3 dw.out).setRow X) fV rfl (by rw[ei,zZ])) rfl ⟨?_,jN (EE.out.trans dw.out) l0 _⟩;rw[<-dk];rfl
    | false =>
     have bQ:=hide (eN rfl);have bY:=hide (eC rfl);have cX:=hide (c4 rfl);clear eN eC c4;obtain⟨kq,lr⟩:=aM (if az<0 then fh else gC);obtain⟨H1,n_⟩:=aM (if 0<aU then fO else gq);rw[lr,n_] at cX;have ti:kq.size=10:=by rw[<-lr];split<;>assumption
     have zV:H1.size=10:=by rw[<-n_];split<;>assumption
     have OP:kq.all (·.oneCell')=true:=by rw[<-lr];split<;>assumption
     have OM:H1.all (·.oneCell')=true:=by rw[<-n_];split<;>assumption
     go_enter Tryz.func97,Tryz.ntmps97
     go_upto_region 1 with fail
     rw[aB.out,bW.out,rZ.out,m'.out];go_upto_region 7 with (first
     | (refine dp (by kernel_rfl) rfl rfl hG ?_)
     | (refine dp (by kernel_rfl) rfl rfl fy ?_)
     | (go_at_call 76;(with_reducible refine(hN.out _).mono ?_);rintro e bp ⟨rfl,ad⟩;have da:=hide ad;obtain⟨-,-,-,-,fy,-,-,-⟩:=fX.out bp ad;clear ad hG)
     | (go_at_call 76;(with_reducible refine(eM.out _).mono ?_);rintro e w3 ⟨rfl,ad⟩;have dw:=hide (Ext.trans da.out ad);obtain⟨-,fo,fla,-,-,Dc,flb,-⟩:=fX.out w3 dw.out;clear ad fy))
     clear fo Dc;go_upto_if 28 with (first
      | (refine dp (by kernel_rfl) rfl rfl fla ?_)
      | (refine dp (by kernel_rfl) rfl rfl flb ?_)
      | (go_at_call 91;(with_reducible refine(bQ.out _).mono ?_);rintro e bZ ⟨rfl,ad⟩;have iF:=hide (Ext.trans dw.out ad);clear ad fla flb))
     obtain⟨-,-,-,-,-,-,Da,-⟩:=fX.out bZ iF.out;have E1:=JN (o:=false) (dk ▸ yx.out bZ iF.out) zW tf tj E8;have qn:Hid (aG bZ g 31 (bT false gC gq)/\aG bZ b 31 (bT false fh fO)/\aG bZ k 31 z21/\Ext W bZ):=hide ⟨dk ▸ yx.out bZ iF.out,oJ ▸ Cn.out bZ iF.out,gN.out bZ iF.out,EE.out.trans iF.out⟩;clear hN eM bQ fX gN yx Cn;go_cut [] from 28 (fun bP=>Hid (aG bP g 31 (bT false kq gq)/\aG bP b 31 (bT false fh fO)/\aG bP k 31 z21/\Ext W bP))
     case first =>
      by_cases h1:az<0
      ·simp only[h1,decide_true,if_true] at lr |-;subst lr;go_wp2_with (first
        | (refine dp (by kernel_rfl) rfl rfl Da ?_)
        | (refine kG (by kernel_rfl) rfl rfl rfl E1 ?_))
       go_meet
       case rel=>exact hide ⟨qn.out.1.setRow _,qn.out.2.1.uf pj,qn.out.2.2.1.uf DQ,jN qn.out.2.2.2 DH _⟩
      ·simp only[h1,decide_false,if_false] at lr |-;subst lr;go_wp2_with fail
       go_meet
       case rel=>exact qn
     case rest =>
     clear E1 Da qn iF;obtain⟨-,-,-,sA⟩:=nP hcut.out.1 ti tf;obtain⟨-,-,-,C8⟩:=nP hcut.out.2.1 tj tg;go_upto_if 37 with (first
      | (refine dp (by kernel_rfl) rfl rfl sA ?_)
      | (refine dp (by kernel_rfl) rfl rfl C8 ?_)
      | (go_at_call 91;(with_reducible refine(bY.out _).mono ?_);rintro e bm ⟨rfl,ad⟩;have lP:=hide ad;clear ad sA C8))
     obtain⟨-,-,-,C9⟩:=nP (hcut.out.2.1.ext lP.out) tj tg;have vW:=JM (hcut.out.1.ext lP.out) ti tf tg E7;have qo:Hid (aG bm g 31 (bT false kq gq)/\aG bm b 31 (bT false fh fO)/\aG bm k 31 z21/\Ext W bm):=hide ⟨hcut.out.1.ext lP.out,hcut.out.2.1.ext lP.out,hcut.out.2.2.1.ext lP.out,hcut.out.2.2.2.trans lP.out⟩;clear bY lP hcut;go_cut [] from 37 (fun bP=>Hid (aG bP g 31 (bT false kq H1)/\aG bP b 31 (bT false fh fO)/\aG bP k 31 z21/\Ext W bP))
     case first =>
      by_cases h2:0<aU
      ·simp only[h2,decide_true,if_true] at n_ |-;subst n_;go_wp2_with (first
        | (refine dp (by kernel_rfl) rfl rfl C9 ?_)
        | (refine kG (by kernel_rfl) rfl rfl rfl vW ?_))
       go_meet
       case rel=>exact hide ⟨qo.out.1.setRow _,qo.out.2.1.uf pj,qo.out.2.2.1.uf DQ,jN qo.out.2.2.2 DH _⟩
      ·simp only[h2,decide_false,if_false] at n_ |-;subst n_;go_wp2_with fail
       go_meet
       case rel=>exact qo
     case rest =>
     clear vW C9 qo;obtain⟨-,-,f1,f2⟩:=nP hcut.out.1 ti zV;go_upto_if 46 with (first
      | (refine dp (by kernel_rfl) rfl rfl f1 ?_)
      | (refine dp (by kernel_rfl) rfl rfl f2 ?_)
      | (go_at_call 91;(with_reducible refine(cX.out _).mono ?_);rintro e cg ⟨rfl,ad⟩;have mZ:=hide ad;clear ad f1 f2))
     have E6:(bT false kq H1).size=21:=lW false ti zV;have Kt:=(nP (hcut.out.1.ext mZ.out) ti zV).1;have OB:=rr (hcut.out.2.2.1.ext mZ.out) rfl (ds:=z21) rfl iV;have OC:=rr (hcut.out.2.2.1.ext mZ.out) rfl E6 (su false OP OM);by_cases h3:0<a_
     ·simp only[h3,decide_true];rw[show xG true true false false gC gq fh fO az aU a_=(z21,false) from by simp[xG,h3]];go_wp2_with (refine kG (by kernel_rfl) rfl rfl rfl OB ?_)
      exact B7 (kg (p:=4) (u:=5) (ty:=31) rfl _ _ k 31 z21 _ rfl ((hcut.out.2.2.1.ext mZ.out).setRow z21) fV rfl ei) rfl ⟨rfl,jN (hcut.out.2.2.2.trans mZ.out) l0 _⟩
     ·simp only[h3,decide_false];go_wp2_with (first
       | (refine dp (by kernel_rfl) rfl rfl Kt ?_)
       | (refine kG (by kernel_rfl) rfl rfl rfl OC ?_))
      exact B7 (kg (p:=4) (u:=5) (ty:=31) rfl _ _ k 31 (bT false kq H1) _ rfl ((hcut.out.2.2.1.ext mZ.out).setRow _) fV rfl (by rw[ei,E6])) rfl ⟨by rw[show xG true true false false gC gq fh fO az aU a_=(bT false kq H1,true) from by simp[xG,h3,lr,n_]];rfl,jN (hcut.out.2.2.2.trans mZ.out) l0 _⟩
end
end Go.Proofs.YtojbopibfflnoaaGreat
