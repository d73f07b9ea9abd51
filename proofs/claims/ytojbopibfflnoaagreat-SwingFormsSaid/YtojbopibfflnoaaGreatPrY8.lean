/- Contracts and plain facts; each states its conditions. -/
import Derived.Test.YtojbopibfflnoaaGreatPrY2
import Derived.Test.YtojbopibfflnoaaGreatPrY7
import Derived.Lib.QuietBelow
namespace Go.Proofs.YtojbopibfflnoaaGreat
open Go renaming World → w1, Value → Ax, Calls → AA, bodyPost_ret → B7, wpQuiet_nil → B', redrawn → aw5
open _root_.Go.Proofs.Tryz renaming prog → CW
set_option linter.unusedVariables false
set_option linter.unusedSimpArgs false
set_option maxHeartbeats 16000000
set_option maxRecDepth 100000
section
open Go Go.RowKit Go.Sort
def dq:Array Ax:=#[.bool false,.int .u64 0,.int .u64 0,.int .u64 0,.int .u64 0,.bool false,.int .u64 0,.int .u64 0,.int .u64 0,.int .u64 0]
def bT(o:Bool)(L H:Array Ax):Array Ax:=#[.bool o]++L++H
theorem lW(o:Bool){L H:Array Ax}(br:L.size=10)(dh:H.size=10):(bT o L H).size=21:=by simp[bT,br,dh]
theorem JL(o:Bool){L H:Array Ax}(br:L.size=10)(dh:H.size=10):(bT o L H).extract 1 (1+10)=L:=by
 apply Array.ext_getElem?
 intro i;simp only[bT,Array.getElem?_extract,Array.size_append,br,dh];by_cases h:i<10
 ·rw[if_pos (by simp;omega),Array.append_assoc,Array.getElem?_append_right (by simp),Array.getElem?_append_left (by simp;omega)];congr 1
  simp
 ·rw[if_neg (by simp<;>omega)];exact(Array.getElem?_eq_none (by omega)).symm
theorem JK(o:Bool){L H:Array Ax}(br:L.size=10)(dh:H.size=10):(bT o L H).extract 11 (11+10)=H:=by
 apply Array.ext_getElem?
 intro i;simp only[bT,Array.getElem?_extract,Array.size_append,br,dh];by_cases h:i<10
 ·rw[if_pos (by simp;omega),Array.getElem?_append_right (by simp[br]<;>omega)];congr 1;simp[br]
 ·rw[if_neg (by simp<;>omega)];exact(Array.getElem?_eq_none (by omega)).symm
theorem Zo(o:Bool){L H:Array Ax}(br:L.size=10)(dh:H.size=10):(bT o L H).extract 0 (0+21)=bT o L H:=by
 have:=lW o br dh;rw[Nat.zero_add,<-this];simp
theorem fV:Tryz.prog.underlying 31=some (.struct (Tryz.prog.fieldsOf 31)):=by kernel_rfl
theorem tt:Tryz.prog.underlying 29=some (.struct (Tryz.prog.fieldsOf 29)):=by kernel_rfl
theorem ei:(Tryz.prog.info? 31).map (·.size)=some 21:=by kernel_rfl
theorem oP:(Tryz.prog.info? 29).map (·.size)=some 10:=by kernel_rfl
theorem nP{w:w1}{g:Nat}{o:Bool}{L H:Array Ax}(h:aG w g 31 (bT o L H))(br:L.size=10)(dh:H.size=10) :
 (Instr.loadAt 31 (.pointer (some ⟨g,0,none⟩))).run CW w=.ok (.agg (bT o L H)) w/\w.cell? ⟨g,0,none⟩=some (.bool o)/\(Instr.loadAt 29 (.pointer (some ⟨g,1,none⟩))).run CW w=.ok (.agg L) w/\(Instr.loadAt 29 (.pointer (some ⟨g,11,none⟩))).run CW w=.ok (.agg H) w:=
 ⟨pH h _ _ fV rfl 0 21 ei (Nat.le_of_eq (by rw[lW o br dh])) _ (Zo o br dh),by rw[h.cell,bT,Array.append_assoc,Array.getElem?_append_left (by simp)];rfl,pH h _ _ tt rfl 1 10 oP (by rw[lW o br dh];omega) _ (JL o br dh),pH h _ _ tt rfl 11 10 oP (Nat.le_of_eq (by rw[lW o br dh])) _ (JK o br dh)⟩
def c9:Array Ax:=#[.bool true,.bool false,.int .u64 0,.int .u64 0,.int .u64 0,.int .u64 0,.bool false,.int .u64 0,.int .u64 0,.int .u64 0,.int .u64 0,.bool false,.int .u64 0,.int .u64 0,.int .u64 0,.int .u64 0,.bool false,.int .u64 0,.int .u64 0,.int .u64 0,.int .u64 0]
theorem Oz:c9=bT true dq dq:=rfl
def z21:Array Ax:=#[.bool false,.bool false,.int .u64 0,.int .u64 0,.int .u64 0,.int .u64 0,.bool false,.int .u64 0,.int .u64 0,.int .u64 0,.int .u64 0,.bool false,.int .u64 0,.int .u64 0,.int .u64 0,.int .u64 0,.bool false,.int .u64 0,.int .u64 0,.int .u64 0,.int .u64 0]
theorem WH:z21=bT false dq dq:=rfl
theorem HG(w:w1):AA CW 29 #[] w (aP (.agg c9) w):=by
 obtain⟨W,aK⟩:=aM (w.alloc (.cells z21 31));have cC:=aG.new w 31 z21;have EE:=aA w (.cells z21 31);rw[aK] at cC EE;unfold z21 at aK;have aB:=hide aK;clear aK;go_enter Tryz.func29,Tryz.ntmps29
 go_upto_region 1 with fail
 rw[aB.out];have cK:W.heap[w.heap.size]?=some (.cells z21 31 (0,0)):=cC;clear aB;have hz:z21.size=c9.size:=rfl;have ha:c9.all (·.oneCell')=true:=by kernel_rfl
 go_wp2_with (refine wpList_store_row rfl 31 (.tmp 0) (.tmp 1) rfl w.heap.size c9 rfl rfl 31 z21 cK ei hz ha ?_)
 exact B7 (results_cell_row (p:=0) (ty:=31) rfl _ _ w.heap.size 31 c9 (0,0) _ rfl (cC.setRow c9) fV rfl ei) rfl ⟨rfl,jN EE (Nat.le_refl _) _⟩
theorem zR(o:Bool)(L H:Array Ax)(br:L.size=10)(dh:H.size=10)(W:w1)(e pX q7:Bool)(r:Int)
 (aO:o=true->∀ w,(binOp .eql 31 (.agg (bT o L H)) (.agg c9)).run CW w=.ok (.bool e) w)
 (tF:o=false->∀ w,AA CW 20 #[.agg L] w (aP (.bool pX) w)) (yr:o=false->∀ w,AA CW 20 #[.agg H] w (aP (.bool q7) w))
 (iI:o=false->pX=true->q7=true->∀ w,AA CW 70 #[.agg L,.agg H] w (aP (.int .i64 r) w))
 (v:Bool) (aF:(if o then e else (pX&&(q7&&decide (r<=0))))=v) :
 AA CW 69 #[.agg (bT o L H)] W (aP (.bool v) W):=by
 have e5:=lW o br dh;have ng:=fun w (h:aG w W.heap.size 31 (bT o L H))=>nP h br dh
 obtain⟨X,dk⟩:=aM (bT o L H);rw[dk] at aO ng e5 |-;have cC:=aG.new W 31 X;have EE:=hide (aA W (.cells X 31));obtain⟨bG,bD⟩:=aM (W.alloc (.cells X 31));obtain⟨g,af⟩:=aM W.heap.size;rw[bD] at cC EE;rw[af] at cC ng;have fX:=hide (fun w (h:Ext bG w)=>ng w (cC.ext h));obtain⟨a1,a2,a3,a4⟩:=fX.out bG (Ext.refl _);have aB:=hide bD;have bW:=hide af;clear bD af cC ng dk br dh;cases o with
 | true =>
  obtain rfl:e=v:=aF;have aO:=aO rfl;have uF:=hide (fun w=>HG w);clear tF yr iI;go_enter Tryz.func69,Tryz.ntmps69
  go_upto_region 1 with fail
  rw[aB.out,bW.out];go_upto_region 2 with fail
  refine wp_region_quiet_below (by kernel_rfl) (by kernel_rfl) ?_;refine iE (by kernel_rfl) rfl rfl (fun w hw=>by obtain⟨⟨d,os⟩,rfl⟩:=hw;exact(fX.out _ (aX bG d os)).1) ?_;repeat (first|go_big_quiet_step (with_reducible exact dK (uF.out _))|quiet_step (with_reducible exact dK (uF.out _)))
  refine B' ?_;intro _ bj;obtain⟨⟨aQ,osq⟩,cq⟩:=bj;subst cq;have Cy:=hide (EE.out.trans (aX _ aQ osq));obtain⟨WI,Em⟩:∃ w,grow (aw5 bG aQ) osq=w:=⟨_,rfl⟩;rw[Em] at Cy |-;clear Em;go_wp2_with fail
  go_ret;exact⟨rfl,Cy.out⟩
 | false =>
  have og:=hide (tF rfl);have zv:=hide (yr rfl);clear tF yr;have aF:(pX&&(q7&&decide (r<=0)))=v:=aF;clear aO;cases pX with
  | false =>
   obtain rfl:false=v:=aF;clear iI zv;go_enter Tryz.func69,Tryz.ntmps69
   go_upto_region 1 with fail
   rw[aB.out,bW.out];go_wp2_with (first
    | (refine dp (by kernel_rfl) rfl rfl a3 ?_)
    | (go_at_call 20;(with_reducible refine(og.out _).mono ?_);rintro e bp ⟨rfl,ad⟩;have da:=hide (EE.out.trans ad);clear ad))
   go_ret;exact⟨rfl,da.out⟩
  | true =>
   cases q7 with
   | false =>
    obtain rfl:false=v:=aF;clear iI;go_enter Tryz.func69,Tryz.ntmps69
    go_upto_region 1 with fail
    rw[aB.out,bW.out];go_wp2_with (first
     | (refine dp (by kernel_rfl) rfl rfl a3 ?_)
     | (refine dp (by kernel_rfl) rfl rfl eZ ?_)
     | (refine dp (by kernel_rfl) rfl rfl a_ ?_)
     | (refine dp (by kernel_rfl) rfl rfl bK ?_)
     | (go_at_call 20;(with_reducible refine(og.out _).mono ?_);rintro e bp ⟨rfl,ad⟩;have da:=hide ad;obtain⟨bA,bX,en,eZ⟩:=fX.out bp ad;clear ad)
     | (go_at_call 20;(with_reducible refine(zv.out _).mono ?_);rintro e w3 ⟨rfl,ad⟩;have dw:=hide (da.out.trans ad);clear ad))
    go_ret;exact⟨rfl,EE.out.trans dw.out⟩
   | true =>
    obtain rfl:decide (r<=0)=v:=aF;have gR:=hide (iI rfl rfl rfl);clear iI;go_enter Tryz.func69,Tryz.ntmps69
    go_upto_region 1 with fail
    rw[aB.out,bW.out];go_wp2_with (first
     | (refine dp (by kernel_rfl) rfl rfl a3 ?_)
     | (refine dp (by kernel_rfl) rfl rfl eZ ?_)
     | (refine dp (by kernel_rfl) rfl rfl a_ ?_)
     | (refine dp (by kernel_rfl) rfl rfl bK ?_)
     | (go_at_call 20;(with_reducible refine(og.out _).mono ?_);rintro e bp ⟨rfl,ad⟩;have da:=hide ad;obtain⟨bA,bX,en,eZ⟩:=fX.out bp ad;clear ad)
     | (go_at_call 20;(with_reducible refine(zv.out _).mono ?_);rintro e w3 ⟨rfl,ad⟩;have dw:=hide (da.out.trans ad);obtain⟨az,aU,a_,bK⟩:=fX.out w3 dw.out;clear ad)
     | (go_at_call 70;(with_reducible refine(gR.out _).mono ?_);rintro e bZ ⟨rfl,ad⟩;have iF:=hide (dw.out.trans ad);clear ad))
    go_ret;exact⟨rfl,EE.out.trans iF.out⟩
theorem Vq{w:w1}{g:Nat}{S:Array Ax}(h:aG w g 29 S)(hS:S.size=10):(Instr.loadAt 29 (.pointer (some ⟨g,0,none⟩))).run CW w=.ok (.agg S) w:=
 pH h _ _ tt rfl 0 10 oP (by omega) _ (by rw[Nat.zero_add,<-hS];simp)
theorem iY(w:w1)(o:Obj):(w.alloc o).heap.size=w.heap.size+1:=Array.size_push ..
theorem xO{w:w1}{g:Nat}{cs ds:Array Ax}(h:aG w g 29 cs)(hc:cs.size=10)(hd:ds.size=10)(h1:ds.all (·.oneCell')=true):(Instr.storeAt 29 (.pointer (some ⟨g,0,none⟩)) (.agg ds)).run CW w=.ok () (w.setRow g ds):=
 zT h _ 0 10 oP (by omega) ds hd h1 ds (by
  have:cs.toList.drop (0+10)=[]:=List.drop_eq_nil_of_le (by simp;omega);rw[this];simp)
theorem lL:dq.all (·.oneCell')=true:=by kernel_rfl
theorem Vu(o:Bool)(L H jj iO:Array Ax)(br:L.size=10)(dh:H.size=10)(h1:jj.size=10)(KH:jj.all (·.oneCell')=true)(h2:iO.size=10)(xd:iO.all (·.oneCell')=true)(W:w1)(vc bX:Bool)
 (KV:∀ w,AA CW 69 #[.agg (bT o L H)] w (aP (.bool vc) w)) (qq:vc=true->o=true->∀ w,AA CW 37 #[.int .i64 0] w (aP (.agg jj) w))
 (ij:vc=true->o=false->∀ w,AA CW 71 #[.agg L,.agg H] w (aP (.tuple #[.agg iO,.bool bX]) w)) :
 AA CW 31 #[.agg (bT o L H)] W (aP (.agg (if vc then (if o then jj else iO) else dq)) W):=by
 have ng:=fun w (h:aG w W.heap.size 31 (bT o L H))=>nP h br dh
 obtain⟨X,dk⟩:=aM (bT o L H);rw[dk] at KV ng |-;have cC:=(aG.new W 31 X).alloc (.cells #[false,(),(),(),(),false,(),(),(),()] 29);have aS:=aG.new (W.alloc (.cells X 31)) 29 #[.bool false,.int .u64 0,.int .u64 0,.int .u64 0,.int .u64 0,.bool false,.int .u64 0,.int .u64 0,.int .u64 0,.int .u64 0];have EE:=hide (Ext.trans (aA W (.cells X 31)) (aA _ (.cells #[false,(),(),(),(),false,(),(),(),()] 29)));rw[iY] at aS;obtain⟨bG,bD⟩:=aM ((W.alloc (.cells X 31)).alloc (.cells #[false,(),(),(),(),false,(),(),(),()] 29));obtain⟨g,af⟩:=aM W.heap.size;rw[bD] at cC aS EE;rw[af] at cC aS ng;have fX:=hide (fun w (h:Ext bG w)=>ng w (cC.ext h));have gN:=hide (fun w (h:Ext bG w)=>aS.ext h);obtain⟨k,aE⟩:=aM (g+1);have m':=hide aE;rw[aE] at gN aS;have l0:W.heap.size<=k:=by omega
 have aB:=hide bD;have bW:=hide af;have kv:=hide KV;obtain⟨hG,-,-,-⟩:=fX.out bG (Ext.refl _);clear bD af cC aS ng dk br dh KV aE;cases vc with
 | false =>
  clear qq ij;go_enter Tryz.func31,Tryz.ntmps31
  go_upto_region 1 with fail
  rw[aB.out,bW.out,m'.out];go_upto_region 2 with (first
   | (refine dp (by kernel_rfl) rfl rfl hG ?_)
   | (go_at_call 69;(with_reducible refine(kv.out _).mono ?_);rintro e bp ⟨rfl,ad⟩;have da:=hide ad;have st:=xO (gN.out bp ad) rfl (ds:=dq) rfl lL;clear ad hG))
  go_wp2_with (refine kG (by kernel_rfl) rfl rfl rfl st ?_)
  exact B7 (results_cell_row (p:=2) (ty:=29) rfl _ _ k 29 dq (0,0) _ rfl ((gN.out bp da.out).setRow dq) tt rfl oP) rfl ⟨rfl,jN (EE.out.trans da.out) l0 _⟩
 | true =>
  have qq:=qq rfl;have ij:=ij rfl;cases o with
  | true =>
   have Ez:=hide (qq rfl);clear qq ij;go_enter Tryz.func31,Tryz.ntmps31
   go_upto_region 1 with fail
   rw[aB.out,bW.out,m'.out];go_upto_region 4 with (first
    | (refine dp (by kernel_rfl) rfl rfl hG ?_)
    | (go_at_call 69;(with_reducible refine(kv.out _).mono ?_);rintro e bp ⟨rfl,ad⟩;have da:=hide ad;obtain⟨-,mL,-,-⟩:=fX.out bp ad;clear ad hG))
   go_wp2_with (first
    | (refine kG (by kernel_rfl) rfl rfl rfl st ?_)
    | (go_at_call 37;(with_reducible refine(Ez.out _).mono ?_);rintro e w3 ⟨rfl,ad⟩;have dw:=hide (Ext.trans da.out ad);have st:=xO (gN.out w3 dw.out) rfl h1 KH;clear ad))
   exact B7 (results_cell_row (p:=2) (ty:=29) rfl _ _ k 29 jj (0,0) _ rfl ((gN.out w3 dw.out).setRow jj) tt rfl (by rw[oP,h1])) rfl ⟨rfl,jN (EE.out.trans dw.out) l0 _⟩
  | false =>
   have eM:=hide (ij rfl);clear qq ij;go_enter Tryz.func31,Tryz.ntmps31
   go_upto_region 1 with fail
   rw[aB.out,bW.out,m'.out];go_upto_region 5 with (first
    | (refine dp (by kernel_rfl) rfl rfl hG ?_)
    | (go_at_call 69;(with_reducible refine(kv.out _).mono ?_);rintro e bp ⟨rfl,ad⟩;have da:=hide ad;obtain⟨-,mL,C_,sA⟩:=fX.out bp ad;clear ad hG))
   go_upto_region 6 with (first
    | (refine dp (by kernel_rfl) rfl rfl C_ ?_)
    | (refine dp (by kernel_rfl) rfl rfl sA ?_)
    | (go_at_call 71;(with_reducible refine(eM.out _).mono ?_);rintro e w3 ⟨rfl,ad⟩;have dw:=hide (Ext.trans da.out ad);have r4:=hide (aG.new w3 29 #[.bool false,.int .u64 0,.int .u64 0,.int .u64 0,.int .u64 0,.bool false,.int .u64 0,.int .u64 0,.int .u64 0,.int .u64 0]);have iF:=hide (Ext.trans dw.out (aA w3 (.cells #[false,(),(),(),(),false,(),(),(),()] 29)));have pN:=hide (gN.out _ iF.out);have dB:k≠w3.heap.size:=Nat.ne_of_lt (gN.out w3 dw.out).lt;have st:=xO r4.out rfl h2 xd;clear ad C_ sA)
    | (refine kG (by kernel_rfl) rfl rfl rfl st ?_))
   obtain⟨bZ,Br⟩:∃ w,w3.alloc (.cells #[false,(),(),(),(),false,(),(),(),()] 29)=w:=⟨_,rfl⟩;obtain⟨n,hn⟩:=aM w3.heap.size;rw[Br] at r4 iF pN |-;rw[hn] at r4 dB |-;have L4:W.heap.size<=n:=by have:=EE.out.size;have:=dw.out.size;omega
   have r5:=r4.out.setRow iO;have jG:=pN.out.uf (ds:=iO) dB;have lP:=hide (jN (EE.out.trans iF.out) L4 iO);obtain⟨bm,Eh⟩:∃ w,bZ.setRow n iO=w:=⟨_,rfl⟩;rw[Eh] at r5 jG lP |-;have MR:=Vq r5 h2;have vW:=xO jG rfl h2 xd;clear Br Eh hn r4 iF pN r5 st mL;go_wp2_with (first
    | (refine dp (by kernel_rfl) rfl rfl MR ?_)
    | (refine kG (by kernel_rfl) rfl rfl rfl vW ?_))
   exact B7 (results_cell_row (p:=2) (ty:=29) rfl _ _ k 29 iO (0,0) _ rfl (jG.setRow iO) tt rfl (by rw[oP,h2])) rfl ⟨rfl,jN lP.out l0 _⟩
end
end Go.Proofs.YtojbopibfflnoaaGreat
