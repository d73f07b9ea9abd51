/- Contracts and plain facts; each states its conditions. -/
import Derived.Test.YtojbopibfflnoaaGreatPrW9
import Derived.Test.YtojbopibfflnoaaGreatPrW16
import Derived.Lib.QuietBelow
namespace Go.Proofs.YtojbopibfflnoaaGreat
set_option linter.unusedVariables false
set_option linter.unusedSimpArgs false
set_option maxHeartbeats 16000000
section
open Go Go.RowKit
section
variable {P:Program}{C:World→Prop}{l:List Oper}{kd:List Tag}{V:List Value}{zero full:Nat→Obj}{tgt:Nat→Nat}{W:World}{A:Act}{i:Nat}{o:Oper}
theorem Hr (v:Value) (h:fN kd i=.q) (aF:V.getD i undef=v) (aO:∀ w,C w→(∀ s c,fN kd s=.so c→mK l l.length s i=true→w.heap[tgt c]?=W.heap[tgt c]?)→mg P w v ((execOp A.eval o).run P w)):nN P C l kd V zero full tgt W A i o:=by
 unfold nN;rw[h];simp only[aF];exact fun w hw=>aO w hw.1 hw.2
end
end
section
open Go Go.RowKit Go.Sort
set_option maxRecDepth 100000 in
theorem Vu (o:Bool) (L H jj iO:Array Value) (br:L.size=10) (dh:H.size=10) (h1:jj.size=10) (KH:jj.all (·.oneCell')=true) (h2:iO.size=10) (xd:iO.all (·.oneCell')=true) (W:World) (vc bX:Bool)
 (KV:∀ w,Calls Tryz.prog 69 #[.agg (bT o L H)] w (aP (.bool vc) w)) (qq:vc=true→o=true→∀ w,Calls Tryz.prog 37 #[.int .i64 0] w (aP (.agg jj) w))
 (ij:vc=true→o=false→∀ w,Calls Tryz.prog 71 #[.agg L,.agg H] w (aP (.tuple #[.agg iO,.bool bX]) w)) :
 Calls Tryz.prog 31 #[.agg (bT o L H)] W (aP (.agg (if vc then (if o then jj else iO) else dq)) W):=by
 have ng:=fun w (h:aG w W.heap.size 31 (bT o L H))=>nP h br dh
 obtain⟨X,dk⟩:=aM (bT o L H);rw[dk] at KV ng ⊢;have cC:=(aG.new W 31 X).alloc (.cells #[false,(),(),(),(),false,(),(),(),()] 29);have aS:=aG.new (W.alloc (.cells X 31)) 29 #[.bool false,.int .u64 0,.int .u64 0,.int .u64 0,.int .u64 0,.bool false,.int .u64 0,.int .u64 0,.int .u64 0,.int .u64 0];have EE:=hide (Ext.trans (aA W (.cells X 31)) (aA _ (.cells #[false,(),(),(),(),false,(),(),(),()] 29)));rw[iY] at aS;obtain⟨bG,bD⟩:=aM ((W.alloc (.cells X 31)).alloc (.cells #[false,(),(),(),(),false,(),(),(),()] 29));obtain⟨g,af⟩:=aM W.heap.size;rw[bD] at cC aS EE;rw[af] at cC aS ng;have fX:=hide (fun w (h:Ext bG w)=>ng w (cC.ext h));have gN:=hide (fun w (h:Ext bG w)=>aS.ext h);obtain⟨k,aE⟩:=aM (g+1);have m':=hide aE;rw[aE] at gN aS;have l0:W.heap.size≤k:=by omega
 have aB:=hide bD;have bW:=hide af;have kv:=hide KV;obtain⟨hG,-,-,-⟩:=fX.out bG (Ext.refl _);clear bD af cC aS ng dk br dh KV aE;cases vc with
 | false =>
  clear qq ij;go_enter Tryz.func31,Tryz.ntmps31
  go_upto_region 1 with fail
  rw[aB.out,bW.out,m'.out];go_upto_region 2 with (first
   | (refine dp (by kernel_rfl) rfl rfl hG ?_)
   | (go_at_call 69;(with_reducible refine(kv.out _).mono ?_);rintro e bp ⟨rfl,ad⟩;have da:=hide ad;have st:=xO (gN.out bp ad) rfl (ds:=dq) rfl lL;clear ad hG))
  go_wp2_with (refine kG (by kernel_rfl) rfl rfl rfl st ?_)
  exact bodyPost_ret (results_cell_row (p:=2) (ty:=29) rfl _ _ k 29 dq (0,0) _ rfl ((gN.out bp da.out).setRow dq) tt rfl oP) rfl ⟨rfl,jN (EE.out.trans da.out) l0 _⟩
 | true =>
  have qq:=qq rfl;have ij:=ij rfl;cases o with
  | true =>
   have Ez:=hide (qq rfl);clear qq ij;go_enter Tryz.func31,Tryz.ntmps31
   go_upto_region 1 with fail
   rw[aB.out,bW.out,m'.out];go_upto_region 4 with (first
    | (refine dp (by kernel_rfl) rfl rfl hG ?_)
    | (go_at_call 69;(with_reducible refine(kv.out _).mono ?_);rintro e bp ⟨rfl,ad⟩;have da:=hide ad;obtain⟨-,mL,-,-⟩:=fX.out bp ad;clear ad hG))
   go_wp2_with (first
    | (refine kG (by kernel_rfl) rfl rfl rfl st ?_)
    | (go_at_call 37;(with_reducible refine(Ez.out _).mono ?_);rintro e w3 ⟨rfl,ad⟩;have dw:=hide (Ext.trans da.out ad);have st:=xO (gN.out w3 dw.out) rfl h1 KH;clear ad))
   exact bodyPost_ret (results_cell_row (p:=2) (ty:=29) rfl _ _ k 29 jj (0,0) _ rfl ((gN.out w3 dw.out).setRow jj) tt rfl (by rw[oP,h1])) rfl ⟨rfl,jN (EE.out.trans dw.out) l0 _⟩
  | false =>
   have eM:=hide (ij rfl);clear qq ij;go_enter Tryz.func31,Tryz.ntmps31
   go_upto_region 1 with fail
   rw[aB.out,bW.out,m'.out];go_upto_region 5 with (first
    | (refine dp (by kernel_rfl) rfl rfl hG ?_)
    | (go_at_call 69;(with_reducible refine(kv.out _).mono ?_);rintro e bp ⟨rfl,ad⟩;have da:=hide ad;obtain⟨-,mL,C_,sA⟩:=fX.out bp ad;clear ad hG))
   go_upto_region 6 with (first
    | (refine dp (by kernel_rfl) rfl rfl C_ ?_)
    | (refine dp (by kernel_rfl) rfl rfl sA ?_)
    | (go_at_call 71;(with_reducible refine(eM.out _).mono ?_);rintro e w3 ⟨rfl,ad⟩;have dw:=hide (Ext.trans da.out ad);have r4:=hide (aG.new w3 29 #[.bool false,.int .u64 0,.int .u64 0,.int .u64 0,.int .u64 0,.bool false,.int .u64 0,.int .u64 0,.int .u64 0,.int .u64 0]);have iF:=hide (Ext.trans dw.out (aA w3 (.cells #[false,(),(),(),(),false,(),(),(),()] 29)));have pN:=hide (gN.out _ iF.out);have dB:k≠w3.heap.size:=Nat.ne_of_lt (gN.out w3 dw.out).lt;have st:=xO r4.out rfl h2 xd;clear ad C_ sA)
    | (refine kG (by kernel_rfl) rfl rfl rfl st ?_))
   obtain⟨bZ,Br⟩:∃ w,w3.alloc (.cells #[false,(),(),(),(),false,(),(),(),()] 29)=w:=⟨_,rfl⟩;obtain⟨n,hn⟩:=aM w3.heap.size;rw[Br] at r4 iF pN ⊢;rw[hn] at r4 dB ⊢;have L4:W.heap.size≤n:=by have:=EE.out.size;have:=dw.out.size;omega
   have r5:=r4.out.setRow iO;have jG:=pN.out.uf (ds:=iO) dB;have lP:=hide (jN (EE.out.trans iF.out) L4 iO);obtain⟨bm,Eh⟩:∃ w,bZ.setRow n iO=w:=⟨_,rfl⟩;rw[Eh] at r5 jG lP ⊢;have MR:=Vq r5 h2;have vW:=xO jG rfl h2 xd;clear Br Eh hn r4 iF pN r5 st mL;go_wp2_with (first
    | (refine dp (by kernel_rfl) rfl rfl MR ?_)
    | (refine kG (by kernel_rfl) rfl rfl rfl vW ?_))
   exact bodyPost_ret (results_cell_row (p:=2) (ty:=29) rfl _ _ k 29 iO (0,0) _ rfl (jG.setRow iO) tt rfl (by rw[oP,h2])) rfl ⟨rfl,jN lP.out l0 _⟩
end
section
open Go Go.RowKit
theorem Gm {x y z:Int} (hx:b4 x) (hy:b4 y) (e:x*y=z) (hz:b4 z) (w:World):Calls Tryz.prog 66 #[x,y] w (aP (.tuple #[z,.bool true]) w):=
 (Oi _ _ _ _ _ _ _ _ _ _ x y w (e0 hx).1 (e0 hy).1).mono fun _ _ h=>BS (by rw[e] at h;exact h) hz
theorem ZS {x y q r:Int} (hx:b4 x) (hy:b4 y) (nY:y≠0) (bk:x / y=q) (e2:x%y=r) (w:World):Calls Tryz.prog 67 #[x,y] w (aP (.tuple #[q,r,.bool true]) w):=
 (qd _ _ _ _ _ _ _ _ _ _ x y w (e0 hx).1 (e0 hy).1).mono fun _ _ h=>by have h:=VF h nY;rw[bk,e2] at h;exact h
theorem w_ {x r:Int} (hx:b4 x) (e:x.sign=r) (w:World):Calls Tryz.prog 52 #[x] w (aP (.int .i64 r) w):=
 (xP _ _ _ _ _ x w (e0 hx).1).mono fun _ _ h=>by rw[e] at h;exact h
theorem JR {x z:Int} (hx:b4 x) (e:-x=z) (w:World):Calls Tryz.prog 68 #[x] w (aP (z) w):=
 (Og _ _ _ _ _ x w (e0 hx).1).mono fun _ _ h=>by rw[e] at h;exact BU h
end
end Go.Proofs.YtojbopibfflnoaaGreat
