/- Contracts and plain facts; each states its conditions. -/
import Derived.Test.YtojbopibfflnoaaGreatPrW46
import Derived.Test.YtojbopibfflnoaaGreatPrW47
import Derived.Shelf.Strconv.Itoa0
import Derived.Deep.RegionLaw
namespace Go.Proofs.YtojbopibfflnoaaGreat
set_option linter.unusedVariables false
set_option linter.unusedSimpArgs false
set_option maxHeartbeats 16000000
section
open Go Go.RowKit Go.Sort
attribute [local go_sem] mg A3 bB BX
set_option maxRecDepth 100000 in
theorem axd (y:Option Addr) (len cap:Nat) (W:World) (br:yq W y len cap) (Xn:Hid (∀ w,Calls Tryz.prog 13 #[] w (aP (.bool true) w))) :
 Calls Tryz.prog 6 #[.slice y len cap] W (aP (.bool true) W):=by
 have QC:Hid (Calls Tryz.prog 8 #[.slice y len cap] W (QK W)):=alc W y len cap br;clear br;go_enter Tryz.func6,Tryz.ntmps6
 go_upto_region 2 with (go_at_call 8;(with_reducible refine(QC.out).mono ?_);rintro e aT ⟨rfl,aw,ad⟩;have T1:=hide aw;have bS:=hide ad;clear aw ad)
 have tF:Hid (Calls Tryz.prog 15 #[.pointer (some ⟨W.heap.size,0,none⟩),.int .i64 30] aT (QX 30 W.heap.size W.heap.size aT)):=hide (ald 30 W.heap.size W.heap.size (by omega) aT T1.out);go_upto_region 3 with (first
  | (go_at_call 15;(with_reducible refine(tF.out).mono ?_);rintro e bp ⟨B7,m,gR,cs,rfl,hm,apI,SV,apJ,G2,eD,tR,DE⟩;have kr:=hide tR;have uO:=hide DE;have oy:=hide eD;have ou:=hide G2;have hW:=hide hm;clear eD tR DE G2 hm)
  | (go_at_call 16;(with_reducible refine(alf W.heap.size W.heap.size _ _ kr.out (b3.refl _ _)).mono ?_);rintro e w3 ⟨HX,rfl,apS,adL,Bg⟩;have w5:=hide (uO.out.trans Bg);have O3:=hide (oy.out.c7 Bg T1.out.2.1);have at0:=hide apS;clear adL Bg apS))
 have dw:Hid (Ext W w3):=hide (b3.ext w5.out bS.out (Nat.le_refl _));have pS:Hid (fK w3 B7 cs):=hide (aif O3.out);have auc:Hid (jb cs):=hide ((Mp cs).2 ou.out);have OK:Hid (∀ x∈cs,pU x):=hide (fun x hx=>O3.out.2 x hx);have c4:=hide (avw (c:=gR) pS.out hW.out apI ou.out at0.out);obtain⟨ls,at6⟩:=aM (uS HX cs);rw[at6] at c4;have uy:Hid (atU HX cs ls 0 0):=hide (by rw[←at6];exact avv HX cs);clear at6 QC tF T1 bS kr uO oy w5 O3 ou;go_upto_region 4 with (go_at_call 17;(with_reducible refine(c4.out).mono ?_);rintro e oV ⟨au,aC,az,rfl,hJ,kx,sE⟩;have dO:=hide hJ;have cz:=hide kx;have EE:=hide (dw.out.trans sE);have cG:=hide (pS.out.ext sE);clear hJ kx sE dw pS c4)
 have avy:aC≤ls.length∧ls.length≤aC:=by rw[←dO.out,List.length_map];exact⟨Nat.le_refl _,Nat.le_refl _⟩
 have avN:aC≤30:=by
  have h1:=uy.out;have:ls.length≤cs.length:=atU.len h1;have h2:=hW.out;omega
 clear SV apJ;go_wp2_with fail
 go_loopw [8,9] (fun Jv iv wr=>∃ k a:Nat,iv=.int .i64 (k:Int)∧Jv=.int .i64 (a:Int)∧Hid (atU HX cs ls k a)∧Hid (Ext oV wr)) (fun _ iv _=>aC-(intOf iv).toNat)
 case atStart=>exact⟨0,0,rfl,rfl,uy,hide (Ext.refl _)⟩
 case round =>
  obtain⟨k,a,rfl,rfl,jY,dc⟩:=hrel;obtain⟨gU,auO⟩:=eo wr;subst auO;have Aw:Hid (Ext W gU):=hide (EE.out.trans dc.out);have kz:k≤aC:=by have:=jY.out.2.1;omega
  by_cases ayu:k+1<aC
  ·have auL:decide ((k:Int)+1<(aC:Int))=true:=decide_eq_true (by omega);have cl:k<aC:=by omega
   obtain⟨n,c,x,aE,hx,DY,avJ,auA,gl,auN,Ay⟩:=jY.out.next (by omega)
   have hI:=hW.out;obtain⟨j3,lG,rfl,_,_⟩:=cG.out.2.2 (by omega);obtain⟨bX,cr,rfl,_,_⟩:=cz.out.2.2 (by rw[List.length_map];omega);obtain⟨nS,auo⟩:∃ q,cr+k*12=q:=⟨_,rfl⟩;obtain⟨zX,auq⟩:∃ q,lG+2*a=q:=⟨_,rfl⟩;obtain⟨Xo,kq,AG,QF⟩:=avm (cz.out.ext dc.out) (x:=gp (n,x.2,c)) (by rw[List.getElem?_map,aE];rfl) auo;obtain⟨Ri,X1⟩:=auH (cG.out.ext dc.out) hx auq;replace Xo:=hide Xo;replace kq:=hide kq;replace AG:=hide AG;replace QF:=hide QF;replace Ri:=hide Ri;replace X1:=hide X1;simp only[gp] at Xo kq AG QF;have auC:=hide (fun w=>avl bX cr aC az (k:=k) cl auo w);have qH:=hide (fun w=>auG j3 lG m gR (j:=a) (by omega) auq w);have kI:=hide auA;have auB:=OK.out x (List.mem_of_getElem? hx);have bN:=hide auB;have wE:=hide hx;have au5:=hide auN;replace Ay:=hide Ay;have d1:decide ((n:Int)<1)=false:=decide_eq_false (by omega);have auS:IntKind.i64.wrap ((m:Int)-(a:Int))=((m-a:Nat):Int):=by rw[IntKind.wrap_i64];omega
   obtain⟨r,aD⟩:=aM (m-a);rw[aD] at auS;have av3:IntKind.i64.wrap ((a:Int)+(n:Int))=((a+n:Nat):Int):=by rw[IntKind.wrap_i64];omega
   have ax6:IntKind.i64.wrap ((k:Int)+1)=((k+1:Nat):Int):=by rw[IntKind.wrap_i64];omega
   clear ax6;obtain⟨ayB,cc,xx,_,Tl,_,_,_,_,_,_⟩:=Ay.out.next (by omega)
   have ays:a+n<cs.length:=(List.getElem?_eq_some_iff.1 Tl).1;clear Tl;have d2:decide ((r:Int)≤(n:Int))=false:=decide_eq_false (by omega);have avC:decide (r≤n)=false:=decide_eq_false (by omega);have iI:Hid (∀ w,Calls Tryz.prog 29 #[] w (aP (.agg c9) w)):=fun w=>HG w
   have fe:=EE;replace EE:Hid (Ext gU gU):=Ext.refl _;go_upto_region 8 with fail
   refine aut [.q,.q,.q,.q,.q,.q] [0,0,0,0,0,0] (fun R=>[.slice (some ⟨bX,cr,none⟩) aC az,.int .i64 (k:Int),.pointer (some ⟨bX,nS,none⟩),.pointer (some ⟨bX,nS,none⟩),.int .i64 (n:Int),.int .i64 (n:Int)]) (fun _=>(.cells #[] 0 (0,0))) (fun R _=>(.cells #[] 0 (0,0))) (fun _=>0) (dA gU) (fun _=>False) _ (fun R G=>{ tmps:=#[.slice y len cap,undef,u2,.pointer (some ⟨W.heap.size,0,none⟩),.slice (some ⟨j3,lG,none⟩) m gR,.int .i64 HX,.slice (some ⟨bX,cr,none⟩) aC az,.int .i64 0,.int .i64 (a:Int),.int .i64 (k:Int),.int .i64 (n:Int),u11,u12,u13,u14,u15,.slice y len cap,.pointer (some ⟨W.heap.size,0,none⟩),.pointer (some ⟨W.heap.size,0,none⟩),.slice (some ⟨j3,lG,none⟩) m gR,.pointer (some ⟨W.heap.size,0,none⟩),.int .i64 HX,.tuple #[.slice (some ⟨bX,cr,none⟩) aC az,.int .i64 0],.slice (some ⟨j3,lG,none⟩) m gR,.int .i64 HX,.tuple #[.slice (some ⟨bX,cr,none⟩) aC az,.int .i64 0],.slice (some ⟨bX,cr,none⟩) aC az,.int .i64 0,.int .i64 (k:Int),.int .i64 ((k:Int)+1),.slice (some ⟨bX,cr,none⟩) aC az,.int .i64 (aC:Int),.bool true,u33,u34,.slice (some ⟨bX,cr,none⟩) aC az,.int .i64 (k:Int),.pointer (some ⟨bX,nS,none⟩),.pointer (some ⟨bX,nS,none⟩),.int .i64 (n:Int),u40,u41,u42,u43,u44,u45,u46,u47,u48,u49,u50,u51,u52,u53,u54,u55,u56,u57,u58,u59,u60,u61,u62,u63,u64,u65,u66,u67,u68,u69,u70,u71,u72,u73,u74,u75,u76,u77,u78,u79,u80,u81,u82,u83,u84,u85,u86,u87,u88,u89,u90,u91,u92,u93,u94,u95,u96,u97,u98,u99,u100,u101,u102,u103,undef,undef,undef,undef,undef],defers:=[] }) (by intro R G;kernel_rfl) (fun _=>rfl) (by kernel_rfl) (by kernel_rfl) (by kernel_rfl) rfl (fun _=>rfl) (fun _ h=>h.elim) (fun _ _ h=>h) (by simp) (by simp) (fun R b1=>⟨fun _=>rfl,fun _=>rfl,fun _=>rfl,fun _=>rfl,fun _=>rfl,fun _=>rfl,trivial⟩) (fun _ _ _ _=>rfl) dH EE.out ?ah8 ?aaV;case ah8 =>
    refine⟨aH,aH,?_,aH,?_,aH,trivial⟩
    ·refine cj fun R s w' aw hs hw ha=>?_
     refine BN rfl ?_ ?_ (auC.out w')
     ·kernel_rfl
     ·kernel_rfl
    ·refine cj fun R s w' aw hs hw ha=>?_
     have cc:=Xo.out w' aw;go_simp
   case aaV =>
    intro cY R G b6 ae bH atQ;have hS:=ae.same;have aZ:=ae.holds;have bf:=EE.out.size;replace EE:=hide (show Ext _ _ from aZ);clear hS bf aZ ae;dsimp only at atQ;subst atQ;go_upto_region 9 with fail
    refine eK ?_;repeat (first|go_big_quiet_step (fail)|quiet_step (fail))
    refine wpQuiet_nil ?_;intro _ bj;obtain⟨⟨aQ,osq⟩,cq⟩:=bj;subst cq;replace EE:=hide (EE.out.trans (aX b6 aQ osq));obtain⟨cN,auP⟩:∃ w,grow (redrawn b6 aQ) osq=w:=⟨_,rfl⟩;rw[auP] at EE  ⊢;clear auP;go_upto_region 11 with fail
    refine aut [.q,.al,.st 1,.q] [0,0,0,0] (fun R=>[.agg c9,undef,undef,.bool true]) (fun _=>(.cells z21 31 (0,0))) (fun R _=>(.cells c9 31 (0,0))) (fun _=>0) (dA gU) (fun _=>False) _ (fun R G=>{ tmps:=#[.slice y len cap,undef,u2,.pointer (some ⟨W.heap.size,0,none⟩),.slice (some ⟨j3,lG,none⟩) m gR,.int .i64 HX,.slice (some ⟨bX,cr,none⟩) aC az,.int .i64 0,.int .i64 (a:Int),.int .i64 (k:Int),.int .i64 (n:Int),.pointer (some ⟨G 1,0,none⟩),.bool true,u13,u14,u15,.slice y len cap,.pointer (some ⟨W.heap.size,0,none⟩),.pointer (some ⟨W.heap.size,0,none⟩),.slice (some ⟨j3,lG,none⟩) m gR,.pointer (some ⟨W.heap.size,0,none⟩),.int .i64 HX,.tuple #[.slice (some ⟨bX,cr,none⟩) aC az,.int .i64 0],.slice (some ⟨j3,lG,none⟩) m gR,.int .i64 HX,.tuple #[.slice (some ⟨bX,cr,none⟩) aC az,.int .i64 0],.slice (some ⟨bX,cr,none⟩) aC az,.int .i64 0,.int .i64 (k:Int),.int .i64 ((k:Int)+1),.slice (some ⟨bX,cr,none⟩) aC az,.int .i64 (aC:Int),.bool true,u33,u34,.slice (some ⟨bX,cr,none⟩) aC az,.int .i64 (k:Int),.pointer (some ⟨bX,nS,none⟩),.pointer (some ⟨bX,nS,none⟩),.int .i64 (n:Int),.int .i64 (n:Int),.bool false,.bool false,.int .i64 (n:Int),.slice (some ⟨j3,lG,none⟩) m gR,.int .i64 (m:Int),.int .i64 (a:Int),.int .i64 (r:Int),.bool false,.bool false,.agg c9,u51,u52,u53,u54,u55,u56,u57,u58,u59,u60,u61,u62,u63,u64,u65,u66,u67,u68,u69,u70,u71,u72,u73,u74,u75,u76,u77,u78,u79,u80,u81,u82,u83,u84,u85,u86,u87,u88,u89,u90,u91,u92,u93,u94,u95,u96,u97,u98,u99,u100,u101,u102,u103,undef,undef,undef,undef,undef],defers:=[] }) (by intro R G;kernel_rfl) (fun _=>rfl) (by kernel_rfl) (by kernel_rfl) (by kernel_rfl) rfl (fun _=>rfl) (fun _ h=>h.elim) (fun _ _ h=>h) (by simp) (by simp) (fun R b1=>⟨fun _=>rfl,fun _=>rfl,fun _=>rfl,fun _=>rfl,trivial⟩) (fun _ _ _ _=>rfl) dH EE.out ?ahT ?aaG;case ahT =>
     refine⟨d_ iI,?_,?_,aH,trivial⟩
     ·refine ia ?an_ ?oa ?qK ?n8 ?_;case an_=>exact(.cells z21 31 (0,0))
      case oa=>exact rfl
      case qK=>exact rfl
      case n8=>exact cu rfl
      intro ρ w';go_simp;exact⟨rfl,rfl⟩
     ·refine ib (j:=1) (Ty:=?av_) (p:=?axJ) (x:=?aya) ?ava ?an' ?Pc ?vE ?avs ?Eu ?avn ?vf ?au_ ?_;case vE=>exact rfl
      case avs=>exact rfl
      case ava=>exact(fun R=>(.cells c9 31 (0,0)))
      case an'=>exact(.cells z21 31 (0,0))
      case Pc=>exact(fun R=>.agg c9)
      case Eu=>exact(fun R=>rfl)
      case avn=>exact rfl
      case vf=>exact cu rfl
      case au_ =>
       intro R;kernel_rfl
      intro R s ρ w g aw hs hp hx af hz;exact⟨hQ rfl hp hx hz ei (av1) (E2),fun aT hF=>dM aw hF (Nat.le_trans EE.out.size af)⟩
    case aaG =>
     intro cY R G qT ae bH atQ;have hS:=ae.same;have aZ:=ae.holds;have bf:=EE.out.size;have bE:aG qT (G 1) 31 c9:=(ae.eV 2 (List.mem_range.2 (show 2<4 by decide)) 1 rfl).2.2;have xp:=(ae.made 1 (List.mem_range.2 (show 1<4 by decide)) rfl).1;have yv:gU.heap.size≤G 1:=Nat.le_trans bf xp;replace EE:=hide (show Ext _ _ from aZ);clear hS bf aZ ae;dsimp only at atQ;subst atQ;generalize G 1=g11 at *;have au7:Hid (aG qT g11 31 (e4 .op)):=bE;have au4:Hid (atS HX x .op ((cs.drop (a+1)).take (1-1))=some .op):=hide (by simp[atS]);have WR:=EE;clear EE bE;go_wp2_with fail
     go_loopw [12,13] (fun xK at8 wr=>∃ (j:Nat) (ok:Bool) (jX:Array Value),jX.size=21∧jX.all (·.oneCell')=true∧at8=.int .i64 (j:Int)∧xK=.bool ok∧1≤j∧j≤n+1∧Hid ((ok=true∧j≤n∧∃ c',atS HX x .op ((cs.drop (a+1)).take (j-1))=some c'∧jX=e4 c')∨(ok=false∧j=n+1))∧Hid (aG wr g11 31 jX)∧Hid (Ext gU wr)) (fun _ at8 _=>n+1-(intOf at8).toNat)
     case atStart=>exact⟨1,true,e4 .op,tN _,uU _,rfl,rfl,Nat.le_refl _,by omega,Or.inl ⟨rfl,DY,.op,au4,rfl⟩,au7,WR⟩
     case round =>
      obtain⟨j,ok,jX,s1,auD,rfl,rfl,Bl,ayt,bM,dL,EE⟩:=hrel;have bE:=dL.out;rcases bM.out with ⟨rfl,apC,c',hF,adG⟩|⟨rfl,rfl⟩
      ·have d3:decide ((j:Int)≤(n:Int))=true:=decide_eq_true (by omega);have auX:decide (j≤n)=true:=decide_eq_true (by omega);have fg:=hide hF;clear hF bM;obtain⟨q,aO⟩:∃ q,cs[a+j]?=some q:=⟨cs[a+j]'(by omega),List.getElem?_eq_getElem (by omega)⟩;obtain⟨atO,at7⟩:∃ q,lG+2*(a+j)=q:=⟨_,rfl⟩;obtain⟨at5,mH⟩:=auH (cG.out.ext dc.out) aO at7;replace at5:=hide at5;replace mH:=hide mH;have at3:=hide (fun w=>auG j3 lG m gR (j:=a+j) (by omega) at7 w);have auT:IntKind.i64.wrap ((a:Int)+(j:Int))=((a+j:Nat):Int):=by rw[IntKind.wrap_i64];omega
       obtain⟨atT,aua⟩:∃ q,a+j=q:=⟨_,rfl⟩;rw[aua] at at3 auT;have B5:IntKind.i64.wrap ((j:Int)+1)=((j+1:Nat):Int):=by rw[IntKind.wrap_i64];omega
       have aup:(cs.drop (a+1))[j-1]?=some q:=by rw[List.getElem?_drop,show a+1+(j-1)=a+j by omega];exact aO
       have at1:x.1<q.1:=atU.avo auc.out wE.out aO (by omega);have at2:=OK.out q (List.mem_of_getElem? aO);have G0:=atU.avq at0.out auc.out OK.out wE.out fg.out;have auM:=Wc at0.out bN.out at2 at1;have hL:=avD aup fg.out;rw[show j-1+1=j by omega] at hL;obtain⟨dt,bQ,bY,cX,ev,Ly,auz,ad1⟩:=avp (fo:=23) (fd:=21) (ft:=22) (fm:=30) at0.out bN.out at2 at1 G0 (fun z h w=>ZT h w) (fun a b w ha hb=>ajE a b w ha hb) ajW ajN;replace bQ:=hide bQ;replace bY:=hide bY;replace cX:=hide cX;have ayL:=tN c';have at9:=tN (mX HX x q);have aur:=uU (mX HX x q);obtain⟨ot,atX,s2,auv,zk,aez⟩:∃ (ot:Array Value) (atX:Bool),ot.size=21∧ot.all (·.oneCell')=true∧(xH (kB c' (mX HX x q))=ot∧(kB c' (mX HX x q)).isSome=atX)∧Hid (atX=decide (j<n)∧((atX=true∧j+1≤n∧∃ c',atS HX x .op ((cs.drop (a+1)).take (j+1-1))=some c'∧ot=e4 c')∨(atX=false∧j+1=n+1))):=by
        rcases Nat.lt_or_ge j n with jf|jf
        ·obtain⟨aU,zb⟩:=au' kI.out j (by omega);rw[hL] at zb;rw[zb] at hL ⊢;exact⟨e4 aU,true,tN _,uU _,⟨rfl,rfl⟩,(decide_eq_true jf).symm,Or.inl ⟨rfl,by omega,aU,by rw[show j+1-1=j by omega];exact hL,rfl⟩⟩
        ·obtain rfl:j=n:=by omega
         have Bj:c'=c:=Option.some.inj (fg.out.symm.trans kI.out);have:=au5.out q (by rw[aua];rw[aua] at aO;exact aO);rw[←Bj] at this
         rw[this];exact⟨xH none,false,rfl,iV,⟨rfl,rfl⟩,(decide_eq_false (by omega)).symm,Or.inr ⟨rfl,rfl⟩⟩
       rw[zk.1,zk.2] at ev;clear zk hL;rw[←adG] at ev;replace ev:=hide ev;obtain⟨atP,aZ⟩:∃ X,e4 (mX HX x q)=X:=⟨_,rfl⟩;rw[aZ] at cX ev at9 aur;have ZY:decide ((j:Int)<(n:Int))=atX:=by rw[aez.out.1];exact decide_eq_decide.2 (by omega)
       have ayr:decide (j<n)=atX:=aez.out.1.symm;have ayK:(atX != atX)=false:=by cases atX<;>rfl
       clear aZ adG G0 auM aup aO at2 at1 Ly auz ad1 at7 aua dL fg;go_upto_region 15 with fail
       have ji:=bE.lt;refine aus [.q,.q,.q,.q,.q,.q,.q,.q,.q,.q,.q,.q,.q,.q,.q,.q,.q,.q,.q,.q,.q,.q,.q,.q,.q,.q,.q,.q,.q,.q,.q,.al,.st 31,.q] [0,0,0,0,0,0,0,0,0,0,0,0,0,0,0,0,0,0,0,0,0,0,0,0,0,0,0,0,0,0,0,0,0,0] (fun R=>[.slice (some ⟨j3,lG,none⟩) m gR,.int .i64 (a:Int),.pointer (some ⟨j3,zX,none⟩),.pointer (some ⟨j3,zX+1,none⟩),.int .i64 x.2,.agg (dC x.2),.slice (some ⟨j3,lG,none⟩) m gR,.int .i64 (a:Int),.int .i64 (j:Int),.int .i64 (atT:Int),.pointer (some ⟨j3,atO,none⟩),.pointer (some ⟨j3,atO+1,none⟩),.int .i64 q.2,.int .i64 HX,.slice (some ⟨j3,lG,none⟩) m gR,.int .i64 (a:Int),.int .i64 (j:Int),.int .i64 (atT:Int),.pointer (some ⟨j3,atO,none⟩),.pointer (some ⟨j3,atO,none⟩),.int .i64 q.1,.slice (some ⟨j3,lG,none⟩) m gR,.int .i64 (a:Int),.pointer (some ⟨j3,zX,none⟩),.pointer (some ⟨j3,zX,none⟩),.int .i64 x.1,.int .u64 (dt:Int),.tuple #[.agg atP,true],.tuple #[.agg atP,true],.agg atP,.bool true,undef,undef,.bool true]) (fun _=>(.cells z21 31 (0,0))) (fun R _=>(.cells atP 31 (0,0))) (fun _=>0) (dA gU) (fun _=>False) _ (fun R G=>{ tmps:=#[.slice y len cap,undef,u2,.pointer (some ⟨W.heap.size,0,none⟩),.slice (some ⟨j3,lG,none⟩) m gR,.int .i64 HX,.slice (some ⟨bX,cr,none⟩) aC az,.int .i64 0,.int .i64 (a:Int),.int .i64 (k:Int),.int .i64 (n:Int),.pointer (some ⟨g11,0,none⟩),.bool true,.int .i64 (j:Int),.pointer (some ⟨G 31,0,none⟩),.bool true,.slice y len cap,.pointer (some ⟨W.heap.size,0,none⟩),.pointer (some ⟨W.heap.size,0,none⟩),.slice (some ⟨j3,lG,none⟩) m gR,.pointer (some ⟨W.heap.size,0,none⟩),.int .i64 HX,.tuple #[.slice (some ⟨bX,cr,none⟩) aC az,.int .i64 0],.slice (some ⟨j3,lG,none⟩) m gR,.int .i64 HX,.tuple #[.slice (some ⟨bX,cr,none⟩) aC az,.int .i64 0],.slice (some ⟨bX,cr,none⟩) aC az,.int .i64 0,.int .i64 (k:Int),.int .i64 ((k:Int)+1),.slice (some ⟨bX,cr,none⟩) aC az,.int .i64 (aC:Int),.bool true,u33,u34,.slice (some ⟨bX,cr,none⟩) aC az,.int .i64 (k:Int),.pointer (some ⟨bX,nS,none⟩),.pointer (some ⟨bX,nS,none⟩),.int .i64 (n:Int),.int .i64 (n:Int),.bool false,.bool false,.int .i64 (n:Int),.slice (some ⟨j3,lG,none⟩) m gR,.int .i64 (m:Int),.int .i64 (a:Int),.int .i64 (r:Int),.bool false,.bool false,.agg c9,.int .i64 (j:Int),.int .i64 (n:Int),.bool true,.bool true,.bool true,.bool true,u57,u58,.tuple #[.agg atP,true],.slice (some ⟨j3,lG,none⟩) m gR,.int .i64 (a:Int),.pointer (some ⟨j3,zX,none⟩),.pointer (some ⟨j3,zX+1,none⟩),.int .i64 x.2,.agg (dC x.2),.slice (some ⟨j3,lG,none⟩) m gR,.int .i64 (a:Int),.int .i64 (j:Int),.int .i64 (atT:Int),.pointer (some ⟨j3,atO,none⟩),.pointer (some ⟨j3,atO+1,none⟩),.int .i64 q.2,.int .i64 HX,.slice (some ⟨j3,lG,none⟩) m gR,.int .i64 (a:Int),.int .i64 (j:Int),.int .i64 (atT:Int),.pointer (some ⟨j3,atO,none⟩),.pointer (some ⟨j3,atO,none⟩),.int .i64 q.1,.slice (some ⟨j3,lG,none⟩) m gR,.int .i64 (a:Int),.pointer (some ⟨j3,zX,none⟩),.pointer (some ⟨j3,zX,none⟩),.int .i64 x.1,.int .u64 (dt:Int),.tuple #[.agg atP,true],.agg atP,.bool true,u90,u91,u92,u93,u94,u95,u96,u97,u98,u99,u100,u101,u102,u103,undef,undef,undef,undef,undef],defers:=[] }) (by intro R G;kernel_rfl) (fun _=>rfl) (by kernel_rfl) (by kernel_rfl) (by kernel_rfl) (by kernel_rfl) rfl (fun _=>rfl) (fun _ h=>h.elim) (fun _ _ h=>h) (by simp) (by simp) (fun R b1=>⟨fun _=>rfl,fun _=>rfl,fun _=>rfl,fun _=>rfl,fun _=>rfl,fun _=>rfl,fun _=>rfl,fun _=>rfl,fun _=>rfl,fun _=>rfl,fun _=>rfl,fun _=>rfl,fun _=>rfl,fun _=>rfl,fun _=>rfl,fun _=>rfl,fun _=>rfl,fun _=>rfl,fun _=>rfl,fun _=>rfl,fun _=>rfl,fun _=>rfl,fun _=>rfl,fun _=>rfl,fun _=>rfl,fun _=>rfl,fun _=>rfl,fun _=>rfl,fun _=>rfl,fun _=>rfl,fun _=>rfl,fun _=>rfl,fun _=>rfl,fun _=>rfl,trivial⟩) (fun _ _ _ _=>rfl) dH (EE.out.trans (b5 _)) ?axD ?awv;case axD =>
        refine⟨aH,aH,?_,aH,?_,d_ bQ,aH,aH,aH,aH,?_,aH,?_,aH,aH,aH,aH,aH,?_,aH,?_,aH,aH,?_,aH,?_,d_ bY,d_ cX,aH,aH,aH,?_,?_,aH,trivial⟩
        ·refine cj fun R s w' aw hs hw ha=>?_
         refine BN rfl ?_ ?_ (qH.out w')
         ·kernel_rfl
         ·kernel_rfl
        ·refine cj fun R s w' aw hs hw ha=>?_
         have cc:=X1.out w' aw;go_simp
        ·refine cj fun R s w' aw hs hw ha=>?_
         refine BN rfl ?_ ?_ (at3.out w')
         ·kernel_rfl
         ·kernel_rfl
        ·refine cj fun R s w' aw hs hw ha=>?_
         have cc:=mH.out w' aw;go_simp
        ·refine cj fun R s w' aw hs hw ha=>?_
         refine BN rfl ?_ ?_ (at3.out w')
         ·kernel_rfl
         ·kernel_rfl
        ·refine cj fun R s w' aw hs hw ha=>?_
         have cc:=at5.out w' aw;go_simp
        ·refine cj fun R s w' aw hs hw ha=>?_
         refine BN rfl ?_ ?_ (qH.out w')
         ·kernel_rfl
         ·kernel_rfl
        ·refine cj fun R s w' aw hs hw ha=>?_
         have cc:=Ri.out w' aw;go_simp
        ·refine ia ?avx ?avf ?avk ?avc ?_;case avx=>exact(.cells z21 31 (0,0))
         case avf=>exact rfl
         case avk=>exact rfl
         case avc=>exact cu rfl
         intro ρ w';go_simp;exact⟨rfl,rfl⟩
        ·refine ib (j:=31) (Ty:=?ayk) (p:=?ayG) (x:=?ayX) ?awH ?ayb ?ax0 ?aw1 ?axw ?aw_ ?axk ?awQ ?awn ?_;case aw1=>exact rfl
         case axw=>exact rfl
         case awH=>exact(fun R=>(.cells atP 31 (0,0)))
         case ayb=>exact(.cells z21 31 (0,0))
         case ax0=>exact(fun R=>.agg atP)
         case aw_=>exact(fun R=>rfl)
         case axk=>exact rfl
         case awQ=>exact cu rfl
         case awn =>
          intro R;kernel_rfl
         intro R s ρ w g aw hs hp hx af hz;exact⟨hQ rfl hp hx hz ei (at9) (aur),fun aT hF=>dM aw hF (Nat.le_trans EE.out.size af)⟩
       case awv =>
        intro cY R G atf ae bH atQ;have hS:=ae.same;have aZ:=ae.holds;have bf:=EE.out.size;replace bE:=bE.aY hS (fun h=>h) (by simp);have gV:aG atf (G 31) 31 atP:=(ae.eV 32 (List.mem_range.2 (show 32<34 by decide)) 31 rfl).2.2;have LO:=(ae.made 31 (List.mem_range.2 (show 31<34 by decide)) rfl).1;have Xx:gU.heap.size≤G 31:=Nat.le_trans bf LO;have aqw:g11≠G 31:=by omega
        replace EE:=hide (show Ext _ _ from aZ);clear hS bf aZ ae ji;dsimp only at atQ;subst atQ;generalize G 31=g14 at *;go_upto_region 16 with fail
        have ji:=bE.lt;have o1:=gV.lt;refine aut [.q,.q,.q,.q,.q,.q,.so 0,.q] [0,0,0,0,0,0,0,0] (fun R=>[.agg jX,.agg atP,.tuple #[.agg ot,.bool atX],.tuple #[.agg ot,.bool atX],.agg ot,.bool atX,undef,.bool atX]) (fun _=>(.cells #[] 0 (0,0))) (fun R _=>(.cells ot 31 (0,0))) (fun _=>g11) (dA gU) (fun _=>False) _ (fun R G=>{ tmps:=#[.slice y len cap,undef,u2,.pointer (some ⟨W.heap.size,0,none⟩),.slice (some ⟨j3,lG,none⟩) m gR,.int .i64 HX,.slice (some ⟨bX,cr,none⟩) aC az,.int .i64 0,.int .i64 (a:Int),.int .i64 (k:Int),.int .i64 (n:Int),.pointer (some ⟨g11,0,none⟩),.bool atX,.int .i64 (j:Int),.pointer (some ⟨g14,0,none⟩),.bool true,.slice y len cap,.pointer (some ⟨W.heap.size,0,none⟩),.pointer (some ⟨W.heap.size,0,none⟩),.slice (some ⟨j3,lG,none⟩) m gR,.pointer (some ⟨W.heap.size,0,none⟩),.int .i64 HX,.tuple #[.slice (some ⟨bX,cr,none⟩) aC az,.int .i64 0],.slice (some ⟨j3,lG,none⟩) m gR,.int .i64 HX,.tuple #[.slice (some ⟨bX,cr,none⟩) aC az,.int .i64 0],.slice (some ⟨bX,cr,none⟩) aC az,.int .i64 0,.int .i64 (k:Int),.int .i64 ((k:Int)+1),.slice (some ⟨bX,cr,none⟩) aC az,.int .i64 (aC:Int),.bool true,u33,u34,.slice (some ⟨bX,cr,none⟩) aC az,.int .i64 (k:Int),.pointer (some ⟨bX,nS,none⟩),.pointer (some ⟨bX,nS,none⟩),.int .i64 (n:Int),.int .i64 (n:Int),.bool false,.bool false,.int .i64 (n:Int),.slice (some ⟨j3,lG,none⟩) m gR,.int .i64 (m:Int),.int .i64 (a:Int),.int .i64 (r:Int),.bool false,.bool false,.agg c9,.int .i64 (j:Int),.int .i64 (n:Int),.bool true,.bool true,.bool true,.bool true,u57,u58,.tuple #[.agg atP,true],.slice (some ⟨j3,lG,none⟩) m gR,.int .i64 (a:Int),.pointer (some ⟨j3,zX,none⟩),.pointer (some ⟨j3,zX+1,none⟩),.int .i64 x.2,.agg (dC x.2),.slice (some ⟨j3,lG,none⟩) m gR,.int .i64 (a:Int),.int .i64 (j:Int),.int .i64 (atT:Int),.pointer (some ⟨j3,atO,none⟩),.pointer (some ⟨j3,atO+1,none⟩),.int .i64 q.2,.int .i64 HX,.slice (some ⟨j3,lG,none⟩) m gR,.int .i64 (a:Int),.int .i64 (j:Int),.int .i64 (atT:Int),.pointer (some ⟨j3,atO,none⟩),.pointer (some ⟨j3,atO,none⟩),.int .i64 q.1,.slice (some ⟨j3,lG,none⟩) m gR,.int .i64 (a:Int),.pointer (some ⟨j3,zX,none⟩),.pointer (some ⟨j3,zX,none⟩),.int .i64 x.1,.int .u64 (dt:Int),.tuple #[.agg atP,true],.agg atP,.bool true,.tuple #[.agg ot,.bool atX],.agg jX,.agg atP,.tuple #[.agg ot,.bool atX],.agg ot,.bool atX,u96,u97,u98,u99,u100,u101,u102,u103,undef,undef,undef,undef,undef],defers:=[] }) (by intro R G;kernel_rfl) (fun _=>rfl) (by kernel_rfl) (by kernel_rfl) (by kernel_rfl) rfl (fun _=>rfl) (fun _ h=>h.elim) (fun _ _ h=>h) (by intro c hc;simp at hc;(try subst hc);(try simp only);omega) (by intro c c' h1 h2 _;simp at h1 h2;omega) (fun R b1=>⟨fun _=>rfl,fun _=>rfl,fun _=>rfl,fun _=>rfl,fun _=>rfl,fun _=>rfl,fun _=>rfl,fun _=>rfl,trivial⟩) (fun _ _ _ _=>rfl) dH EE.out ?axF ?awx;case axF =>
         refine⟨?_,?_,d_ ev,aH,aH,aH,?_,aH,trivial⟩
         ·refine cj fun R s w' aw hs hw ha=>?_
          have L:=dF ((ha 6 0 rfl (by kernel_rfl)).trans bE) fV rfl ei s1;refine e7 rfl ?_ L;kernel_rfl
         ·refine cj fun R s w' aw hs hw ha=>?_
          have L:=dF (gV.aY hw (fun h=>h) (by intro c hc;simp at hc;(try subst hc);(try simp only);omega)) fV rfl ei at9;refine e7 rfl ?_ L;kernel_rfl
         ·refine il (c:=0) (Ty:=?ayl) (p:=?ayH) (x:=?ayY) g11 ?awI ?axS ?ax1 ?aw2 ?axx ?aw' ?axl ?awR ?awi ?awo ?_;case aw2=>exact rfl
          case axx=>exact rfl
          case awI=>exact(fun R=>(.cells ot 31 (0,0)))
          case axS=>exact(fun R=>.pointer (some ⟨g11,0,none⟩))
          case ax1=>exact(fun R=>.agg ot)
          case aw'=>exact(fun R=>rfl)
          case axl=>exact rfl
          case awR=>exact cu rfl
          case awi =>
           intro R;kernel_rfl
          case awo =>
           intro R;kernel_rfl
          intro R s ρ w aw hs hp hx hz;refine⟨lI (g:=g11) rfl hp hx (hz.trans bE) ei (s1) (s2) (auv),fun aT hF=>dM aw hF yv⟩
        case awx =>
         intro cY R G ax8 ae bH atQ;have hS:=ae.same;have aZ:=ae.holds;have bf:=EE.out.size;replace gV:=gV.aY hS (fun h=>h) (by intro c hc;simp at hc;(try subst hc);(try simp only);omega);replace bE:aG ax8 g11 31 ot:=ae.ep 6 (List.mem_range.2 (show 6<8 by decide)) 0 rfl;replace EE:=hide (show Ext _ _ from aZ);clear hS bf aZ ae ji o1;dsimp only at atQ;subst atQ;go_wp2_with fail
         go_roundw
         case rel=>exact⟨j+1,atX,ot,s2,auv,by go_num,rfl,by omega,by omega,hide aez.out.2,hide bE,EE⟩
         case measure=>simp[intOf];omega
      ·have d3:decide (((n+1:Nat):Int)≤(n:Int))=false:=decide_eq_false (by omega);have auX:decide (n+1≤n)=false:=decide_eq_false (by omega);go_wp2_with fail
       go_roundw
       case rel=>exact⟨k+1,a+n,by go_num,by go_num,Ay,hide (dc.out.trans EE.out)⟩
       case measure=>simp[intOf];omega
  ·have auL:decide ((k:Int)+1<(aC:Int))=false:=decide_eq_false (by omega);go_upto_region 20 with fail
   go_wp2_with (go_at_call 13;(with_reducible refine(Xn.out _).mono ?_);rintro e cN ⟨rfl,ad⟩)
   go_ret;exact⟨rfl,Aw.out.trans ad⟩
end
end Go.Proofs.YtojbopibfflnoaaGreat
