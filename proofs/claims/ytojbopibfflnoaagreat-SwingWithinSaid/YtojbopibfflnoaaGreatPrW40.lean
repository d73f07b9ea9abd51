/- Contracts and plain facts; each states its conditions. -/
import Derived.Test.YtojbopibfflnoaaGreatPrW16
import Derived.Test.YtojbopibfflnoaaGreatPrW39
namespace Go.Proofs.YtojbopibfflnoaaGreat
set_option linter.unusedVariables false
set_option linter.unusedSimpArgs false
set_option maxHeartbeats 16000000
section
open Go Go.RowKit Go.Sort
set_option maxRecDepth 100000 in
theorem av0 (o:Bool) (L H S:Array Value) (br:L.size=10) (dh:H.size=10) (hS:S.size=10) (W:World) (vc vs:Bool) (i' dX:Int)
 (KV:∀ w,Calls Tryz.prog 69 #[.agg (bT o L H)] w (aP (.bool vc) w)) (uF:vc=true→∀ w,Calls Tryz.prog 20 #[.agg S] w (aP (.bool vs) w))
 (eN:vc=true→vs=true→o=false→∀ w,Calls Tryz.prog 70 #[.agg L,.agg S] w (aP (.int .i64 i') w)) (eC:vc=true→vs=true→o=false→∀ w,Calls Tryz.prog 70 #[.agg S,.agg H] w (aP (.int .i64 dX) w))
 (v:Bool) (aF:(vc&&(vs&&(o||(decide (i'≤0)&&decide (dX≤0)))))=v) :
 Calls Tryz.prog 27 #[.agg (bT o L H),.agg S] W (aP (.bool v) W):=by
 have ng:=fun w (h:aG w W.heap.size 31 (bT o L H))=>nP h br dh
 obtain⟨X,dk⟩:=aM (bT o L H);rw[dk] at KV ng ⊢;have cC:=(aG.new W 31 X).alloc (.cells S 29);have aS:=aG.new (W.alloc (.cells X 31)) 29 S;have EE:=hide (Ext.trans (aA W (.cells X 31)) (aA _ (.cells S 29)));rw[iY] at aS;obtain⟨bG,bD⟩:=aM ((W.alloc (.cells X 31)).alloc (.cells S 29));obtain⟨g,af⟩:=aM W.heap.size;rw[bD] at cC aS EE;rw[af] at cC aS ng;have fX:Hid (∀ w,Ext bG w→_∧_∧_∧_∧_):=hide (fun w (h:Ext bG w)=>⟨(ng w (cC.ext h)).1,(ng w (cC.ext h)).2.1,(ng w (cC.ext h)).2.2.1,(ng w (cC.ext h)).2.2.2,Vq (aS.ext h) hS⟩);have aB:=hide bD;have bW:=hide af;have kv:=hide KV;clear bD af cC aS ng dk br dh hS KV;cases vc with
 | false =>
  obtain rfl:false=v:=aF;clear uF eN eC;go_enter Tryz.func27,Tryz.ntmps27
  go_upto_region 1 with fail
  rw[aB.out,bW.out];have cb:=fun d os=>(fX.out _ (aX bG d os)).2.1
  refine eK ?_;repeat (first|go_big_quiet_step (first|with_reducible exact dK (kv.out _))|(refine iE (by kernel_rfl) rfl rfl (fun w hw=>by obtain⟨⟨d,os⟩,rfl⟩:=hw;exact(fX.out _ (aX bG d os)).1) ?_)|(refine iE (by kernel_rfl) rfl rfl (fun w hw=>by obtain⟨⟨d,os⟩,rfl⟩:=hw;exact(fX.out _ (aX bG d os)).2.2.1) ?_)|(refine iE (by kernel_rfl) rfl rfl (fun w hw=>by obtain⟨⟨d,os⟩,rfl⟩:=hw;exact(fX.out _ (aX bG d os)).2.2.2.1) ?_)|(refine iE (by kernel_rfl) rfl rfl (fun w hw=>by obtain⟨⟨d,os⟩,rfl⟩:=hw;exact(fX.out _ (aX bG d os)).2.2.2.2) ?_)|quiet_step (first|with_reducible exact dK (kv.out _)))
  refine wpQuiet_nil ?_;intro _ bj;obtain⟨⟨aQ,osq⟩,cq⟩:=bj;subst cq;have Cy:=hide (EE.out.trans (aX _ aQ osq));obtain⟨WI,Em⟩:∃ w,grow (redrawn bG aQ) osq=w:=⟨_,rfl⟩;rw[Em] at Cy ⊢;clear Em;go_wp2_with fail
  go_ret;exact⟨rfl,Cy.out⟩
 | true =>
  have ks:=hide (uF rfl);have eN:=eN rfl;have eC:=eC rfl;clear uF;cases vs with
  | false =>
   obtain rfl:false=v:=aF;clear eN eC;go_enter Tryz.func27,Tryz.ntmps27
   go_upto_region 1 with fail
   rw[aB.out,bW.out];have cb:=fun d os=>(fX.out _ (aX bG d os)).2.1
   refine eK ?_;repeat (first|go_big_quiet_step (first|with_reducible exact dK (kv.out _)|with_reducible exact dK (ks.out _))|(refine iE (by kernel_rfl) rfl rfl (fun w hw=>by obtain⟨⟨d,os⟩,rfl⟩:=hw;exact(fX.out _ (aX bG d os)).1) ?_)|(refine iE (by kernel_rfl) rfl rfl (fun w hw=>by obtain⟨⟨d,os⟩,rfl⟩:=hw;exact(fX.out _ (aX bG d os)).2.2.1) ?_)|(refine iE (by kernel_rfl) rfl rfl (fun w hw=>by obtain⟨⟨d,os⟩,rfl⟩:=hw;exact(fX.out _ (aX bG d os)).2.2.2.1) ?_)|(refine iE (by kernel_rfl) rfl rfl (fun w hw=>by obtain⟨⟨d,os⟩,rfl⟩:=hw;exact(fX.out _ (aX bG d os)).2.2.2.2) ?_)|quiet_step (first|with_reducible exact dK (kv.out _)|with_reducible exact dK (ks.out _)))
   refine wpQuiet_nil ?_;intro _ bj;obtain⟨⟨aQ,osq⟩,cq⟩:=bj;subst cq;have Cy:=hide (EE.out.trans (aX _ aQ osq));obtain⟨WI,Em⟩:∃ w,grow (redrawn bG aQ) osq=w:=⟨_,rfl⟩;rw[Em] at Cy ⊢;clear Em;go_wp2_with fail
   go_ret;exact⟨rfl,Cy.out⟩
  | true =>
   have eN:=eN rfl;have eC:=eC rfl;cases o with
   | true =>
    obtain rfl:true=v:=aF;clear eN eC;go_enter Tryz.func27,Tryz.ntmps27
    go_upto_region 1 with fail
    rw[aB.out,bW.out];have cb:=fun d os=>(fX.out _ (aX bG d os)).2.1
    refine eK ?_;repeat (first|go_big_quiet_step (first|with_reducible exact dK (kv.out _)|with_reducible exact dK (ks.out _))|(refine iE (by kernel_rfl) rfl rfl (fun w hw=>by obtain⟨⟨d,os⟩,rfl⟩:=hw;exact(fX.out _ (aX bG d os)).1) ?_)|(refine iE (by kernel_rfl) rfl rfl (fun w hw=>by obtain⟨⟨d,os⟩,rfl⟩:=hw;exact(fX.out _ (aX bG d os)).2.2.1) ?_)|(refine iE (by kernel_rfl) rfl rfl (fun w hw=>by obtain⟨⟨d,os⟩,rfl⟩:=hw;exact(fX.out _ (aX bG d os)).2.2.2.1) ?_)|(refine iE (by kernel_rfl) rfl rfl (fun w hw=>by obtain⟨⟨d,os⟩,rfl⟩:=hw;exact(fX.out _ (aX bG d os)).2.2.2.2) ?_)|quiet_step (first|with_reducible exact dK (kv.out _)|with_reducible exact dK (ks.out _)))
    refine wpQuiet_nil ?_;intro _ bj;obtain⟨⟨aQ,osq⟩,cq⟩:=bj;subst cq;have Cy:=hide (EE.out.trans (aX _ aQ osq));obtain⟨WI,Em⟩:∃ w,grow (redrawn bG aQ) osq=w:=⟨_,rfl⟩;rw[Em] at Cy ⊢;clear Em;go_wp2_with fail
    go_ret;exact⟨rfl,Cy.out⟩
   | false =>
    have bQ:=hide (eN rfl);have bY:=hide (eC rfl);clear eN eC;have aF:(decide (i'≤0)&&decide (dX≤0))=v:=aF;by_cases h1:i'≤0
    ·have d1:decide (i'≤0)=true:=decide_eq_true h1;obtain rfl:decide (dX≤0)=v:=by rw[←aF,d1];rfl
     clear aF;go_enter Tryz.func27,Tryz.ntmps27
     go_upto_region 1 with fail
     rw[aB.out,bW.out];have cb:=fun d os=>(fX.out _ (aX bG d os)).2.1
     refine eK ?_;repeat (first|go_big_quiet_step (first|with_reducible exact dK (kv.out _)|with_reducible exact dK (ks.out _)|with_reducible exact dK (bQ.out _)|with_reducible exact dK (bY.out _))|(refine iE (by kernel_rfl) rfl rfl (fun w hw=>by obtain⟨⟨d,os⟩,rfl⟩:=hw;exact(fX.out _ (aX bG d os)).1) ?_)|(refine iE (by kernel_rfl) rfl rfl (fun w hw=>by obtain⟨⟨d,os⟩,rfl⟩:=hw;exact(fX.out _ (aX bG d os)).2.2.1) ?_)|(refine iE (by kernel_rfl) rfl rfl (fun w hw=>by obtain⟨⟨d,os⟩,rfl⟩:=hw;exact(fX.out _ (aX bG d os)).2.2.2.1) ?_)|(refine iE (by kernel_rfl) rfl rfl (fun w hw=>by obtain⟨⟨d,os⟩,rfl⟩:=hw;exact(fX.out _ (aX bG d os)).2.2.2.2) ?_)|quiet_step (first|with_reducible exact dK (kv.out _)|with_reducible exact dK (ks.out _)|with_reducible exact dK (bQ.out _)|with_reducible exact dK (bY.out _)))
     refine wpQuiet_nil ?_;intro _ bj;obtain⟨⟨aQ,osq⟩,cq⟩:=bj;subst cq;have Cy:=hide (EE.out.trans (aX _ aQ osq));obtain⟨WI,Em⟩:∃ w,grow (redrawn bG aQ) osq=w:=⟨_,rfl⟩;rw[Em] at Cy ⊢;clear Em;go_wp2_with fail
     go_ret;exact⟨rfl,Cy.out⟩
    ·have d1:decide (i'≤0)=false:=decide_eq_false h1;obtain rfl:false=v:=by rw[←aF,d1];rfl
     clear aF;go_enter Tryz.func27,Tryz.ntmps27
     go_upto_region 1 with fail
     rw[aB.out,bW.out];have cb:=fun d os=>(fX.out _ (aX bG d os)).2.1
     refine eK ?_;repeat (first|go_big_quiet_step (first|with_reducible exact dK (kv.out _)|with_reducible exact dK (ks.out _)|with_reducible exact dK (bQ.out _))|(refine iE (by kernel_rfl) rfl rfl (fun w hw=>by obtain⟨⟨d,os⟩,rfl⟩:=hw;exact(fX.out _ (aX bG d os)).1) ?_)|(refine iE (by kernel_rfl) rfl rfl (fun w hw=>by obtain⟨⟨d,os⟩,rfl⟩:=hw;exact(fX.out _ (aX bG d os)).2.2.1) ?_)|(refine iE (by kernel_rfl) rfl rfl (fun w hw=>by obtain⟨⟨d,os⟩,rfl⟩:=hw;exact(fX.out _ (aX bG d os)).2.2.2.1) ?_)|(refine iE (by kernel_rfl) rfl rfl (fun w hw=>by obtain⟨⟨d,os⟩,rfl⟩:=hw;exact(fX.out _ (aX bG d os)).2.2.2.2) ?_)|quiet_step (first|with_reducible exact dK (kv.out _)|with_reducible exact dK (ks.out _)|with_reducible exact dK (bQ.out _)))
     refine wpQuiet_nil ?_;intro _ bj;obtain⟨⟨aQ,osq⟩,cq⟩:=bj;subst cq;have Cy:=hide (EE.out.trans (aX _ aQ osq));obtain⟨WI,Em⟩:∃ w,grow (redrawn bG aQ) osq=w:=⟨_,rfl⟩;rw[Em] at Cy ⊢;clear Em;go_wp2_with fail
     go_ret;exact⟨rfl,Cy.out⟩
end
end Go.Proofs.YtojbopibfflnoaaGreat
