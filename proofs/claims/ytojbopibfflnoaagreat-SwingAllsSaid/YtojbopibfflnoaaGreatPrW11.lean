/- Contracts and plain facts; each states its conditions. -/
import Derived.Test.YtojbopibfflnoaaGreatPrW9
import Derived.Lib.QuietBelow
namespace Go.Proofs.YtojbopibfflnoaaGreat
set_option linter.unusedVariables false
set_option linter.unusedSimpArgs false
set_option maxHeartbeats 16000000
section
open Go Go.RowKit Go.Sort
def dq:Array Value:=#[.bool false,.int .u64 0,.int .u64 0,.int .u64 0,.int .u64 0,.bool false,.int .u64 0,.int .u64 0,.int .u64 0,.int .u64 0]
def bT (o:Bool) (L H:Array Value):Array Value:=#[.bool o]++L++H
theorem lW (o:Bool) {L H:Array Value} (br:L.size=10) (dh:H.size=10):(bT o L H).size=21:=by simp[bT,br,dh]
theorem JL (o:Bool) {L H:Array Value} (br:L.size=10) (dh:H.size=10):(bT o L H).extract 1 (1+10)=L:=by
 apply Array.ext_getElem?
 intro i;simp only[bT,Array.getElem?_extract,Array.size_append,br,dh];by_cases h:i<10
 ·rw[if_pos (by simp;omega),Array.append_assoc,Array.getElem?_append_right (by simp),Array.getElem?_append_left (by simp;omega)];congr 1
  simp
 ·rw[if_neg (by simp<;>omega)];exact(Array.getElem?_eq_none (by omega)).symm
theorem JK (o:Bool) {L H:Array Value} (br:L.size=10) (dh:H.size=10):(bT o L H).extract 11 (11+10)=H:=by
 apply Array.ext_getElem?
 intro i;simp only[bT,Array.getElem?_extract,Array.size_append,br,dh];by_cases h:i<10
 ·rw[if_pos (by simp;omega),Array.getElem?_append_right (by simp[br]<;>omega)];congr 1;simp[br]
 ·rw[if_neg (by simp<;>omega)];exact(Array.getElem?_eq_none (by omega)).symm
theorem Zo (o:Bool) {L H:Array Value} (br:L.size=10) (dh:H.size=10):(bT o L H).extract 0 (0+21)=bT o L H:=by
 have:=lW o br dh;rw[Nat.zero_add,←this];simp
theorem fV:Tryz.prog.underlying 31=some (.struct (Tryz.prog.fieldsOf 31)):=by kernel_rfl
theorem tt:Tryz.prog.underlying 29=some (.struct (Tryz.prog.fieldsOf 29)):=by kernel_rfl
theorem ei:(Tryz.prog.info? 31).map (·.size)=some 21:=by kernel_rfl
theorem oP:(Tryz.prog.info? 29).map (·.size)=some 10:=by kernel_rfl
theorem nP {w:World}{g:Nat}{o:Bool}{L H:Array Value} (h:aG w g 31 (bT o L H)) (br:L.size=10) (dh:H.size=10) :
 (Instr.loadAt 31 (.pointer (some ⟨g,0,none⟩))).run Tryz.prog w=.ok (.agg (bT o L H)) w∧w.cell? ⟨g,0,none⟩=some (.bool o)∧(Instr.loadAt 29 (.pointer (some ⟨g,1,none⟩))).run Tryz.prog w=.ok (.agg L) w∧(Instr.loadAt 29 (.pointer (some ⟨g,11,none⟩))).run Tryz.prog w=.ok (.agg H) w:=
 ⟨pH h _ _ fV rfl 0 21 ei (Nat.le_of_eq (by rw[lW o br dh])) _ (Zo o br dh),by rw[h.cell,bT,Array.append_assoc,Array.getElem?_append_left (by simp)];rfl,pH h _ _ tt rfl 1 10 oP (by rw[lW o br dh];omega) _ (JL o br dh),pH h _ _ tt rfl 11 10 oP (Nat.le_of_eq (by rw[lW o br dh])) _ (JK o br dh)⟩
def c9:Array Value:=#[.bool true,.bool false,.int .u64 0,.int .u64 0,.int .u64 0,.int .u64 0,.bool false,.int .u64 0,.int .u64 0,.int .u64 0,.int .u64 0,.bool false,.int .u64 0,.int .u64 0,.int .u64 0,.int .u64 0,.bool false,.int .u64 0,.int .u64 0,.int .u64 0,.int .u64 0]
theorem Oz:c9=bT true dq dq:=rfl
def z21:Array Value:=#[.bool false,.bool false,.int .u64 0,.int .u64 0,.int .u64 0,.int .u64 0,.bool false,.int .u64 0,.int .u64 0,.int .u64 0,.int .u64 0,.bool false,.int .u64 0,.int .u64 0,.int .u64 0,.int .u64 0,.bool false,.int .u64 0,.int .u64 0,.int .u64 0,.int .u64 0]
set_option maxRecDepth 100000 in
theorem HG (w:World):Calls Tryz.prog 29 #[] w (aP (.agg c9) w):=by
 obtain⟨W,aK⟩:=aM (w.alloc (.cells z21 31));have cC:=aG.new w 31 z21;have EE:=aA w (.cells z21 31);rw[aK] at cC EE;unfold z21 at aK;have aB:=hide aK;clear aK;go_enter Tryz.func29,Tryz.ntmps29
 go_upto_region 1 with fail
 rw[aB.out];have cK:W.heap[w.heap.size]?=some (.cells z21 31 (0,0)):=cC;clear aB;have hz:z21.size=c9.size:=rfl;have ha:c9.all (·.oneCell')=true:=by kernel_rfl
 go_wp2_with (refine wpList_store_row rfl 31 (.tmp 0) (.tmp 1) rfl w.heap.size c9 rfl rfl 31 z21 cK ei hz ha ?_)
 exact bodyPost_ret (results_cell_row (p:=0) (ty:=31) rfl _ _ w.heap.size 31 c9 (0,0) _ rfl (cC.setRow c9) fV rfl ei) rfl ⟨rfl,jN EE (Nat.le_refl _) _⟩
set_option maxRecDepth 100000 in
theorem zR (o:Bool) (L H:Array Value) (br:L.size=10) (dh:H.size=10) (W:World) (e pX q7:Bool) (r:Int)
 (aO:o=true→∀ w,(binOp .eql 31 (.agg (bT o L H)) (.agg c9)).run Tryz.prog w=.ok (.bool e) w)
 (tF:o=false→∀ w,Calls Tryz.prog 20 #[.agg L] w (aP (.bool pX) w)) (yr:o=false→∀ w,Calls Tryz.prog 20 #[.agg H] w (aP (.bool q7) w))
 (iI:o=false→pX=true→q7=true→∀ w,Calls Tryz.prog 70 #[.agg L,.agg H] w (aP (.int .i64 r) w))
 (v:Bool) (aF:(if o then e else (pX&&(q7&&decide (r≤0))))=v) :
 Calls Tryz.prog 69 #[.agg (bT o L H)] W (aP (.bool v) W):=by
 have e5:=lW o br dh;have ng:=fun w (h:aG w W.heap.size 31 (bT o L H))=>nP h br dh
 obtain⟨X,dk⟩:=aM (bT o L H);rw[dk] at aO ng e5 ⊢;have cC:=aG.new W 31 X;have EE:=hide (aA W (.cells X 31));obtain⟨bG,bD⟩:=aM (W.alloc (.cells X 31));obtain⟨g,af⟩:=aM W.heap.size;rw[bD] at cC EE;rw[af] at cC ng;have fX:=hide (fun w (h:Ext bG w)=>ng w (cC.ext h));obtain⟨a1,a2,a3,a4⟩:=fX.out bG (Ext.refl _);have aB:=hide bD;have bW:=hide af;clear bD af cC ng dk br dh;cases o with
 | true =>
  obtain rfl:e=v:=aF;have aO:=aO rfl;have uF:=hide (fun w=>HG w);clear tF yr iI;go_enter Tryz.func69,Tryz.ntmps69
  go_upto_region 1 with fail
  rw[aB.out,bW.out];go_upto_region 2 with fail
  refine wp_region_quiet_below (by kernel_rfl) (by kernel_rfl) ?_;refine iE (by kernel_rfl) rfl rfl (fun w hw=>by obtain⟨⟨d,os⟩,rfl⟩:=hw;exact(fX.out _ (aX bG d os)).1) ?_;repeat (first|go_big_quiet_step (with_reducible exact dK (uF.out _))|quiet_step (with_reducible exact dK (uF.out _)))
  refine wpQuiet_nil ?_;intro _ bj;obtain⟨⟨aQ,osq⟩,cq⟩:=bj;subst cq;have Cy:=hide (EE.out.trans (aX _ aQ osq));obtain⟨WI,Em⟩:∃ w,grow (redrawn bG aQ) osq=w:=⟨_,rfl⟩;rw[Em] at Cy ⊢;clear Em;go_wp2_with fail
  go_ret;exact⟨rfl,Cy.out⟩
 | false =>
  have og:=hide (tF rfl);have zv:=hide (yr rfl);clear tF yr;have aF:(pX&&(q7&&decide (r≤0)))=v:=aF;clear aO;cases pX with
  | false =>
   obtain rfl:false=v:=aF;clear iI zv;go_enter Tryz.func69,Tryz.ntmps69
   go_upto_region 1 with fail
   rw[aB.out,bW.out];go_wp2_with (first
    | (refine dp (by kernel_rfl) rfl rfl a3 ?_)
    | (go_at_call 20;(with_reducible refine(og.out _).mono ?_);rintro e bp ⟨rfl,ad⟩;have da:=hide (EE.out.trans ad);clear ad))
   go_ret;exact⟨rfl,da.out⟩
  | true =>
   cases q7 with
   | false =>
    obtain rfl:false=v:=aF;clear iI;go_enter Tryz.func69,Tryz.ntmps69
    go_upto_region 1 with fail
    rw[aB.out,bW.out];go_wp2_with (first
     | (refine dp (by kernel_rfl) rfl rfl a3 ?_)
     | (refine dp (by kernel_rfl) rfl rfl eZ ?_)
     | (refine dp (by kernel_rfl) rfl rfl a_ ?_)
     | (refine dp (by kernel_rfl) rfl rfl bK ?_)
     | (go_at_call 20;(with_reducible refine(og.out _).mono ?_);rintro e bp ⟨rfl,ad⟩;have da:=hide ad;obtain⟨bA,bX,en,eZ⟩:=fX.out bp ad;clear ad)
     | (go_at_call 20;(with_reducible refine(zv.out _).mono ?_);rintro e w3 ⟨rfl,ad⟩;have dw:=hide (da.out.trans ad);clear ad))
    go_ret;exact⟨rfl,EE.out.trans dw.out⟩
   | true =>
    obtain rfl:decide (r≤0)=v:=aF;have gR:=hide (iI rfl rfl rfl);clear iI;go_enter Tryz.func69,Tryz.ntmps69
    go_upto_region 1 with fail
    rw[aB.out,bW.out];go_wp2_with (first
     | (refine dp (by kernel_rfl) rfl rfl a3 ?_)
     | (refine dp (by kernel_rfl) rfl rfl eZ ?_)
     | (refine dp (by kernel_rfl) rfl rfl a_ ?_)
     | (refine dp (by kernel_rfl) rfl rfl bK ?_)
     | (go_at_call 20;(with_reducible refine(og.out _).mono ?_);rintro e bp ⟨rfl,ad⟩;have da:=hide ad;obtain⟨bA,bX,en,eZ⟩:=fX.out bp ad;clear ad)
     | (go_at_call 20;(with_reducible refine(zv.out _).mono ?_);rintro e w3 ⟨rfl,ad⟩;have dw:=hide (da.out.trans ad);obtain⟨az,aU,a_,bK⟩:=fX.out w3 dw.out;clear ad)
     | (go_at_call 70;(with_reducible refine(gR.out _).mono ?_);rintro e bZ ⟨rfl,ad⟩;have iF:=hide (dw.out.trans ad);clear ad))
    go_ret;exact⟨rfl,EE.out.trans iF.out⟩
end
end Go.Proofs.YtojbopibfflnoaaGreat
