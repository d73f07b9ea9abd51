/- Facts. -/
import Derived.Test.YtojbopibfflnoaaGreatPrY39
import Derived.Test.YtojbopibfflnoaaGreatPrY40
import Derived.Shelf.Strconv.Itoa0
import Derived.Deep.RegionLaw
namespace Go.Proofs.YtojbopibfflnoaaGreat
open Go renaming World → g, Value → a, Calls → i, Addr → aw6
open _root_.Go.Proofs.Tryz renaming prog → d
set_option linter.unusedVariables false
set_option linter.unusedSimpArgs false
set_option maxHeartbeats 16000000
set_option maxRecDepth 100000
section
open Go Go.RowKit Go.Sort
attribute [local go_sem] mg A3 bB BX
theorem abk:IsS pZ:=by
 intro p hp;simp only[pZ,List.mem_cons,List.not_mem_nil,or_false] at hp;rcases hp with rfl|rfl|rfl|rfl<;>exact⟨⟨by decide,by decide⟩,⟨by decide,by decide⟩⟩
theorem abj(w:g):fK (w.alloc (.cells #[.int .i64 0,.int .i64 0,.int .i64 1,.int .i64 10,.int .i64 2,.int .i64 20,.int .i64 3,.int .i64 31] 23)) (some ⟨w.heap.size,0,none⟩) pZ:=by
 refine⟨abk,by decide,fun _=>⟨w.heap.size,0,rfl,by simp,fun j aN=>?_⟩⟩;have hb:=aG.new w 23 #[.int .i64 0,.int .i64 0,.int .i64 1,.int .i64 10,.int .i64 2,.int .i64 20,.int .i64 3,.int .i64 31];have aN:j<4:=aN;rw[hb.cell,hb.cell];match j,aN with
 | 0,_=>exact⟨rfl,rfl⟩
 | 1,_=>exact⟨rfl,rfl⟩
 | 2,_=>exact⟨rfl,rfl⟩
 | 3,_=>exact⟨rfl,rfl⟩
theorem aa9(n v:Int)(f:Fr)(w:g):(binOp .eql 55 (.agg (fU (n,v,f))) (.agg (fU (n,v,f)))).run d w=.ok (.bool true) w:=R0 n v (gP f) w
theorem afU(W:g):i d 13 #[] W (aP (.bool true) W):=by
 have wG:Hid (∀ (A:Option aw6) (n c:Nat) (l:List Sa) (eps:Int) (w:g),fK w A l->l.length=n->n<=8796093022000->i d 17 #[.slice A n c,.int .i64 eps] w (gi w (fun z=>.tuple #[z,.int .i64 (mJ eps l)]) (o7 eps l))):=UR;obtain⟨bG,bD⟩:∃ w,W.alloc (.cells #[.int .i64 0,.int .i64 0,.int .i64 1,.int .i64 10,.int .i64 2,.int .i64 20,.int .i64 3,.int .i64 31] 23)=w:=⟨_,rfl⟩;have cU:=abj W;have bS:=aA W (.cells #[.int .i64 0,.int .i64 0,.int .i64 1,.int .i64 10,.int .i64 2,.int .i64 20,.int .i64 3,.int .i64 31] 23);rw[bD] at cU bS;have jj:=hide cU;have bS:=hide bS;have aB:=hide bD;obtain⟨v1,f1,lr⟩:=abf;have FN:=hide (fun w (h:Ext bG w)=>wG.out (some ⟨W.heap.size,0,none⟩) 4 4 pZ 0 w (jj.out.ext h) rfl (by decide));have eN:=hide (fun w (h:Ext bG w)=>wG.out (some ⟨W.heap.size,0,none⟩) 4 4 pZ 1 w (jj.out.ext h) rfl (by decide));rw[R2,abe] at FN;rw[R3,lr] at eN;have sk:Hid (Ext bG bG):=Ext.refl _;obtain⟨kM,sG⟩:∃ b,W.heap.size=b:=⟨_,rfl⟩;rw[sG] at FN eN;have dx:=hide sG;clear bD wG cU jj lr sG;go_enter Tryz.func13,Tryz.ntmps13
 go_upto_region 2 with fail
 rw[aB.out,dx.out];go_upto_region 3 with (go_at_call 17;(with_reducible refine(FN.out _ sk.out).mono ?_);rintro e anl ⟨aok,agJ,ca,SX,_,rfl,QN,B_⟩;have h2:agJ=2:=SX;clear SX;subst h2;have gC:=hide QN.tp;have yF:=hide (sk.out.trans B_);clear QN B_ sk FN)
 go_upto_region 4 with (go_at_call 17;(with_reducible refine(eN.out _ yF.out).mono ?_);rintro e wu ⟨aol,nb,cb,xr,_,rfl,QO,yi⟩;have h2:nb=1:=xr;clear xr;subst h2;have fh:=hide QO.tp;have FQ:=hide (gC.out.ext yi);have AW:=hide (yF.out.trans yi);clear QO yi yF eN gC)
 obtain⟨ba,eg,rfl,_,_⟩:=FQ.out.2.2 (by decide);obtain⟨bb,dW,rfl,_,_⟩:=fh.out.2.2 Nat.zero_lt_one;have EE:=hide (bS.out.trans AW.out);have jX:Hid (∀ w,Ext wu w->(Instr.loadAt 55 (.pointer (some ⟨ba,eg,none⟩))).run d w=.ok (.agg (fU (3,0,(10,1)))) w):=hide (fun w hw=>by
  exact(FQ.out.ext hw).load (j:=0) rfl HZ rfl)
 have ot:Hid (∀ w,Ext wu w->w.cell? ⟨ba,eg+13,none⟩=some (.int .i64 31)):=hide (fun w hw=>(FQ.out.ext hw).row (E:=eA) (j:=1) rfl 1 (.int .i64 31) rfl);have C3:Hid (∀ w,Ext wu w->w.cell? ⟨bb,dW,none⟩=some (.int .i64 4)):=hide (fun w hw=>(fh.out.ext hw).row (E:=eA) (j:=0) rfl 0 (.int .i64 4) rfl);have i1:Hid (∀ w,(Instr.indexAt 49 (.slice (some ⟨ba,eg,none⟩) 2 ca) (.int .i64 0)).run d w=.ok (.pointer (some ⟨ba,eg,none⟩)) w):=hide (fun w=>eA.idx ba eg 2 ca 0 (by decide) w);have i2:Hid (∀ w,(Instr.indexAt 49 (.slice (some ⟨ba,eg,none⟩) 2 ca) (.int .i64 1)).run d w=.ok (.pointer (some ⟨ba,eg+12,none⟩)) w):=hide (fun w=>eA.idx ba eg 2 ca 1 (by decide) w);have i3:Hid (∀ w,(Instr.indexAt 49 (.slice (some ⟨bb,dW,none⟩) 1 cb) (.int .i64 0)).run d w=.ok (.pointer (some ⟨bb,dW,none⟩)) w):=hide (fun w=>eA.idx bb dW 1 cb 0 (by decide) w);have Ez:=hide (fun w=>Lp (x:=10) (by decide) (by decide) w);have ajw:=hide (fun w=>aa9 3 0 (10,1) w);clear fh FQ AW bS;have Aw:=EE;clear EE;have EE:Hid (Ext wu wu):=Ext.refl _;refine kl [.q,.q,.q,.q,.q,.q,.q,.q,.q,.q,.q,.q,.q,.q,.q,.q,.q,.q,.q,.q,.q,.q,.q,.q,.q,.q,.q,.q,.q,.q,.q,.q,.q,.q,.q,.q,.q,.q,.q] [0,0,0,0,0,0,0,0,0,0,0,0,0,0,0,0,0,0,0,0,0,0,0,0,0,0,0,0,0,0,0,0,0,0,0,0,0,0,0] (fun R=>[.int .i64 0,.bool true,.bool true,.int .i64 0,.bool true,.bool true,.bool true,.slice (some ⟨ba,eg,none⟩) 2 ca,.int .i64 2,.bool true,.bool true,.bool true,.slice (some ⟨ba,eg,none⟩) 2 ca,(yj ba eg:Value),.agg (fU (3,0,(10,1))),.agg (cJ (10,1)),.agg (fU (3,0,(10,1))),.bool true,.bool true,.bool true,.slice (some ⟨ba,eg,none⟩) 2 ca,(yj ba (eg+12):Value),(yj ba (eg+13):Value),.int .i64 31,.bool true,.bool true,.bool true,.slice (some ⟨bb,dW,none⟩) 1 cb,.int .i64 1,.bool true,.bool true,.bool true,.slice (some ⟨bb,dW,none⟩) 1 cb,(yj bb dW:Value),(yj bb dW:Value),.int .i64 4,.bool true,.bool true,.bool true]) (fun _=>(.cells #[] 0 (0,0))) (fun R _=>(.cells #[] 0 (0,0))) (fun _=>0) (dA wu) (fun _=>False) (by kernel_rfl) (by kernel_rfl) (by kernel_rfl) (by kernel_rfl) rfl (fun _=>rfl) (fun _ h=>h.elim) (fun _ _ h=>h) (by simp) (by simp) (fun R b1=>⟨fun _=>rfl,fun _=>rfl,fun _=>rfl,fun _=>rfl,fun _=>rfl,fun _=>rfl,fun _=>rfl,fun _=>rfl,fun _=>rfl,fun _=>rfl,fun _=>rfl,fun _=>rfl,fun _=>rfl,fun _=>rfl,fun _=>rfl,fun _=>rfl,fun _=>rfl,fun _=>rfl,fun _=>rfl,fun _=>rfl,fun _=>rfl,fun _=>rfl,fun _=>rfl,fun _=>rfl,fun _=>rfl,fun _=>rfl,fun _=>rfl,fun _=>rfl,fun _=>rfl,fun _=>rfl,fun _=>rfl,fun _=>rfl,fun _=>rfl,fun _=>rfl,fun _=>rfl,fun _=>rfl,fun _=>rfl,fun _=>rfl,fun _=>rfl,trivial⟩) (fun _ _ _ _=>rfl) dH (EE.out.trans (b5 _)) ?ah1 ?aaO;case ah1 =>
  refine⟨aH,aH,aH,?_,?_,aH,aH,?_,?_,?_,aH,aH,?_,?_,?_,?_,?_,?_,aH,aH,?_,?_,?_,?_,?_,aH,aH,?_,?_,?_,aH,aH,?_,?_,?_,?_,?_,aH,aH,trivial⟩
  ·refine eL ?kj ?iQ ?j8 ?jn ?_;case iQ=>exact rfl
   case kj=>exact(fun R=>.int .i64 0)
   case j8=>exact(fun R=>rfl)
   case jn=>(refine du rfl ?_;intro R;kernel_rfl)
   intro R s w' aw hs hw ha;go_simp
  ·refine eL ?Af ?rE ?zy ?vj ?_;case rE=>exact rfl
   case Af=>exact(fun R=>.bool true)
   case zy=>exact(fun R=>rfl)
   case vj=>(refine du rfl ?_;intro R;kernel_rfl)
   intro R s w' aw hs hw ha;go_simp
  ·refine eL ?tw ?sO ?kn8 ?sC ?_;case sO=>exact rfl
   case tw=>exact(fun R=>.slice (some ⟨ba,eg,none⟩) 2 ca)
   case kn8=>exact(fun R=>rfl)
   case sC=>(refine du rfl ?_;intro R;kernel_rfl)
   intro R s w' aw hs hw ha;go_simp
  ·refine eL ?Pp ?L3 ?MP ?KF ?_;case L3=>exact rfl
   case Pp=>exact(fun R=>.int .i64 2)
   case MP=>exact(fun R=>rfl)
   case KF=>(refine du rfl ?_;intro R;kernel_rfl)
   intro R s w' aw hs hw ha;go_simp
  ·refine eL ?wm ?po ?sW ?o_ ?_;case po=>exact rfl
   case wm=>exact(fun R=>.bool true)
   case sW=>exact(fun R=>rfl)
   case o_=>(refine du rfl ?_;intro R;kernel_rfl)
   intro R s w' aw hs hw ha;go_simp
  ·refine eL ?Ae ?sN ?zw ?sB ?_;case sN=>exact rfl
   case Ae=>exact(fun R=>.slice (some ⟨ba,eg,none⟩) 2 ca)
   case zw=>exact(fun R=>rfl)
   case sB=>(refine du rfl ?_;intro R;kernel_rfl)
   intro R s w' aw hs hw ha;go_simp
  ·refine eL ?Pd ?LS ?MB ?Kv ?_;case LS=>exact rfl
   case Pd=>exact(fun R=>.pointer (some ⟨ba,eg,none⟩))
   case MB=>exact(fun R=>rfl)
   case Kv=>(refine du rfl ?_;intro R;kernel_rfl)
   intro R s w' aw hs hw ha;generalize hA:bB _ _ _ _ _ _ _=c3;refine BN rfl ?_ ?_ (i1.out w')
   ·subst hA;kernel_rfl
   ·subst hA;kernel_rfl
  ·refine eL ?amN ?LU ?afx ?Kw ?_;case LU=>exact rfl
   case amN=>exact(fun R=>.agg (fU (3,0,(10,1))))
   case afx=>exact(fun R=>rfl)
   case Kw=>(refine du rfl ?_;intro R;kernel_rfl)
   intro R s w' aw hs hw ha;have L:=jX.out w' aw;generalize hA:bB _ _ _ _ _ _ _=c3;refine e7 rfl ?_ L;subst hA;kernel_rfl
  ·refine eL ?tv ?ob ?sX ?n9 ?_;case ob=>exact rfl
   case tv=>exact(fun R=>.agg (cJ (10,1)))
   case sX=>exact(fun R=>rfl)
   case n9=>(refine du rfl ?_;intro R;kernel_rfl)
   intro R s w' aw hs hw ha;go_simp;exact Ez.out w'
  ·refine eL ?Pe ?vF ?MC ?vg ?_;case vF=>exact rfl
   case Pe=>exact(fun R=>.agg (fU (3,0,(10,1))))
   case MC=>exact(fun R=>rfl)
   case vg=>(refine du rfl ?_;intro R;kernel_rfl)
   intro R s w' aw hs hw ha;generalize hA:bB _ _ _ _ _ _ _=c3;refine pD (vs:=#[(0,.int .i64 3),(2,.agg (cJ (10,1)))]) rfl ?_ (show Tryz.prog.built 55 [(0,.int .i64 3),(2,.agg (cJ (10,1)))]=some (fU (3,0,(10,1))) from by kernel_rfl);subst hA;kernel_rfl
  ·refine eL ?Pf ?vG ?MD ?vh ?_;case vG=>exact rfl
   case Pf=>exact(fun R=>.bool true)
   case MD=>exact(fun R=>rfl)
   case vh=>(refine du rfl ?_;intro R;kernel_rfl)
   intro R s w' aw hs hw ha;have L:=ajw.out w';generalize hA:bB _ _ _ _ _ _ _=c3;refine N7 rfl ?_ ?_ (Kf _ _ (by kernel_rfl) _ _ _ _ w') L
   ·subst hA;kernel_rfl
   ·subst hA;kernel_rfl
  ·refine eL ?amQ ?LV ?ME ?Kx ?_;case LV=>exact rfl
   case amQ=>exact(fun R=>.slice (some ⟨ba,eg,none⟩) 2 ca)
   case ME=>exact(fun R=>rfl)
   case Kx=>(refine du rfl ?_;intro R;kernel_rfl)
   intro R s w' aw hs hw ha;go_simp
  ·refine eL ?Pg ?DZ ?Ev ?Dg ?_;case DZ=>exact rfl
   case Pg=>exact(fun R=>.pointer (some ⟨ba,eg+12,none⟩))
   case Ev=>exact(fun R=>rfl)
   case Dg=>(refine du rfl ?_;intro R;kernel_rfl)
   intro R s w' aw hs hw ha;generalize hA:bB _ _ _ _ _ _ _=c3;refine BN rfl ?_ ?_ (i2.out w')
   ·subst hA;kernel_rfl
   ·subst hA;kernel_rfl
  ·refine eL ?Ph ?LW ?MF ?Ky ?_;case LW=>exact rfl
   case Ph=>exact(fun R=>.pointer (some ⟨ba,eg+13,none⟩))
   case MF=>exact(fun R=>rfl)
   case Ky=>(refine du rfl ?_;intro R;kernel_rfl)
   intro R s w' aw hs hw ha;go_simp
  ·refine eL ?amR ?aeg ?afA ?abZ ?_;case aeg=>exact rfl
   case amR=>exact(fun R=>.int .i64 31)
   case afA=>exact(fun R=>rfl)
   case abZ=>(refine du rfl ?_;intro R;kernel_rfl)
   intro R s w' aw hs hw ha;have cc:=ot.out w' aw;go_simp
  ·refine eL ?amS ?aeh ?afB ?ab0 ?_;case aeh=>exact rfl
   case amS=>exact(fun R=>.bool true)
   case afB=>exact(fun R=>rfl)
   case ab0=>(refine du rfl ?_;intro R;kernel_rfl)
   intro R s w' aw hs hw ha;go_simp
  ·refine eL ?Fh ?vH ?vN ?vi ?_;case vH=>exact rfl
   case Fh=>exact(fun R=>.slice (some ⟨bb,dW,none⟩) 1 cb)
   case vN=>exact(fun R=>rfl)
   case vi=>(refine du rfl ?_;intro R;kernel_rfl)
   intro R s w' aw hs hw ha;go_simp
  ·refine eL ?Fi ?D1 ?Ew ?Di ?_;case D1=>exact rfl
   case Fi=>exact(fun R=>.int .i64 1)
   case Ew=>exact(fun R=>rfl)
   case Di=>(refine du rfl ?_;intro R;kernel_rfl)
   intro R s w' aw hs hw ha;go_simp
  ·refine eL ?Pj ?LX ?MH ?Kz ?_;case LX=>exact rfl
   case Pj=>exact(fun R=>.bool true)
   case MH=>exact(fun R=>rfl)
   case Kz=>(refine du rfl ?_;intro R;kernel_rfl)
   intro R s w' aw hs hw ha;go_simp
  ·refine eL ?Pk ?D2 ?Ex ?Dj ?_;case D2=>exact rfl
   case Pk=>exact(fun R=>.slice (some ⟨bb,dW,none⟩) 1 cb)
   case Ex=>exact(fun R=>rfl)
   case Dj=>(refine du rfl ?_;intro R;kernel_rfl)
   intro R s w' aw hs hw ha;go_simp
  ·refine eL ?Pl ?LY ?MI ?KA ?_;case LY=>exact rfl
   case Pl=>exact(fun R=>.pointer (some ⟨bb,dW,none⟩))
   case MI=>exact(fun R=>rfl)
   case KA=>(refine du rfl ?_;intro R;kernel_rfl)
   intro R s w' aw hs hw ha;generalize hA:bB _ _ _ _ _ _ _=c3;refine BN rfl ?_ ?_ (i3.out w')
   ·subst hA;kernel_rfl
   ·subst hA;kernel_rfl
  ·refine eL ?amT ?aek ?afD ?ab3 ?_;case aek=>exact rfl
   case amT=>exact(fun R=>.pointer (some ⟨bb,dW,none⟩))
   case afD=>exact(fun R=>rfl)
   case ab3=>(refine du rfl ?_;intro R;kernel_rfl)
   intro R s w' aw hs hw ha;go_simp
  ·refine eL ?amU ?ael ?afE ?ab4 ?_;case ael=>exact rfl
   case amU=>exact(fun R=>.int .i64 4)
   case afE=>exact(fun R=>rfl)
   case ab4=>(refine du rfl ?_;intro R;kernel_rfl)
   intro R s w' aw hs hw ha;have cc:=C3.out w' aw;go_simp
  ·refine eL ?amV ?aem ?afF ?ab5 ?_;case aem=>exact rfl
   case amV=>exact(fun R=>.bool true)
   case afF=>exact(fun R=>rfl)
   case ab5=>(refine du rfl ?_;intro R;kernel_rfl)
   intro R s w' aw hs hw ha;go_simp
 case aaO =>
  intro cY R G ate ae;have hS:=ae.same;have aZ:=ae.holds;have bf:=EE.out.size;replace EE:=hide (show Ext _ _ from aZ);clear hS bf aZ ae;generalize hF:bB _ _ _ _ _ _ _=bH;have bI:bH={ tmps:=#[.bool true,.slice (some ⟨kM,0,none⟩) 4 4,.slice (some ⟨ba,eg,none⟩) 2 ca,.int .i64 0,.slice (some ⟨bb,dW,none⟩) 1 cb,.int .i64 0,.agg (#[.int .i64 0,.int .i64 0]),.agg (#[.int .i64 1,.int .i64 10]),.agg (#[.int .i64 2,.int .i64 20]),.agg (#[.int .i64 3,.int .i64 31]),.slice (some ⟨kM,0,none⟩) 4 4,.tuple #[.slice (some ⟨ba,eg,none⟩) 2 ca,.int .i64 0],.slice (some ⟨kM,0,none⟩) 4 4,.tuple #[.slice (some ⟨ba,eg,none⟩) 2 ca,.int .i64 0],.slice (some ⟨ba,eg,none⟩) 2 ca,.int .i64 0,.tuple #[.slice (some ⟨bb,dW,none⟩) 1 cb,.int .i64 0],.slice (some ⟨kM,0,none⟩) 4 4,.tuple #[.slice (some ⟨bb,dW,none⟩) 1 cb,.int .i64 0],.slice (some ⟨bb,dW,none⟩) 1 cb,.int .i64 0,.int .i64 0,.bool true,.bool true,.int .i64 0,.bool true,.bool true,.bool true,.slice (some ⟨ba,eg,none⟩) 2 ca,.int .i64 2,.bool true,.bool true,.bool true,.slice (some ⟨ba,eg,none⟩) 2 ca,(yj ba eg:a),.agg (fU (3,0,(10,1))),.agg (cJ (10,1)),.agg (fU (3,0,(10,1))),.bool true,.bool true,.bool true,.slice (some ⟨ba,eg,none⟩) 2 ca,(yj ba (eg+12):a),(yj ba (eg+13):a),.int .i64 31,.bool true,.bool true,.bool true,.slice (some ⟨bb,dW,none⟩) 1 cb,.int .i64 1,.bool true,.bool true,.bool true,.slice (some ⟨bb,dW,none⟩) 1 cb,(yj bb dW:a),(yj bb dW:a),.int .i64 4,.bool true,.bool true],defers:=[] }:=by subst hF;kernel_rfl
  clear hF;subst bI;go_wp2_with fail
  go_ret;exact⟨rfl,Aw.out.trans EE.out⟩
end
end Go.Proofs.YtojbopibfflnoaaGreat
