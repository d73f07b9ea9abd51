/- Facts. -/
import Derived.Test.YtojbopibfflnoaaGreatPrY28
import Derived.Test.YtojbopibfflnoaaGreatPrY35
import Derived.Test.YtojbopibfflnoaaGreatPrY37
import Derived.Test.YtojbopibfflnoaaGreatPrY40
import Derived.Shelf.Strconv.Itoa0
import Derived.Deep.RegionLaw
namespace Go.Proofs.YtojbopibfflnoaaGreat
open Go renaming undef → E, World → J, Value → F, Calls → M, bodyPost_ret → B7, wpQuiet_nil → B', redrawn → aw5, TypeId → aw7, Operand → axb, Oper → aw4, Ending → axa, Addr → aw6, execOp → axc
open _root_.Go.Proofs.Tryz renaming prog → I
set_option linter.unusedVariables false
set_option linter.unusedSimpArgs false
set_option maxHeartbeats 16000000
set_option maxRecDepth 100000
section
open Go Go.ChangeShapes Go.WideShapes Go.ChangeAt Go.RowKit
section
variable {H:Type}{enc:aw7 × F->H}{W:J}
theorem awk{t:aw7}{f0 f1 f2 f3 f4:Field}{fuel:Nat}{cs:List F}{x:DataW H × List MemPlace}(bd:Tryz.prog.underlying t=some (.struct #[f0,f1,f2,f3,f4]))(h:DataW.trod enc I W 0 (fun _=>true) true fuel t cs=some x) :
 ∃ nY y1 gK mB oW n,DataW.trod enc I W 0 (fun _=>true) true n f0.type ((cs.drop f0.offset).take (Tryz.prog.cellsOf f0.type))=some nY/\DataW.trod enc I W 0 (fun _=>true) true n f1.type ((cs.drop f1.offset).take (Tryz.prog.cellsOf f1.type))=some y1/\DataW.trod enc I W 0 (fun _=>true) true n f2.type ((cs.drop f2.offset).take (Tryz.prog.cellsOf f2.type))=some gK/\DataW.trod enc I W 0 (fun _=>true) true n f3.type ((cs.drop f3.offset).take (Tryz.prog.cellsOf f3.type))=some mB/\DataW.trod enc I W 0 (fun _=>true) true n f4.type ((cs.drop f4.offset).take (Tryz.prog.cellsOf f4.type))=some oW:=by
 obtain⟨xs,n,_,rfl,hl,hlen,hf⟩:=DataW.trod_struct bd h;match xs,hlen with
 | [nY,y1,gK,mB,oW],_=>exact⟨nY,y1,gK,mB,oW,n,by simpa using hf 0 f0 rfl,by simpa using hf 1 f1 rfl,by simpa using hf 2 f2 rfl,by simpa using hf 3 f3 rfl,by simpa using hf 4 f4 rfl⟩
theorem auA{α:Type}{cs:Array α}(h:cs.size=26):∃ a0 a1 a2 a3 a4 bt az aU a_ bK cy cF b8 bR c2 kN q8 pY q9 q_ rf rh ri rj rk rl,cs=#[a0,a1,a2,a3,a4,bt,az,aU,a_,bK,cy,cF,b8,bR,c2,kN,q8,pY,q9,q_,rf,rh,ri,rj,rk,rl]:=by
 obtain⟨l⟩:=cs;match l,h with
 | [a0,a1,a2,a3,a4,bt,az,aU,a_,bK,cy,cF,b8,bR,c2,kN,q8,pY,q9,q_,rf,rh,ri,rj,rk,rl],_=>exact⟨a0,a1,a2,a3,a4,bt,az,aU,a_,bK,cy,cF,b8,bR,c2,kN,q8,pY,q9,q_,rf,rh,ri,rj,rk,rl,rfl⟩
theorem array2{α:Type}{cs:Array α}(h:cs.size=2):∃ bt az,cs=#[bt,az]:=by
 obtain⟨l⟩:=cs;match l,h with
 | [bt,az],_=>exact⟨bt,az,rfl⟩
theorem auM:Tryz.prog.cellsOf 33=26:=by kernel_rfl
theorem at1:Tryz.prog.cellsOf 23=2:=by kernel_rfl
theorem RG:Tryz.prog.cellsOf 2=1:=by kernel_rfl
theorem auK:Tryz.prog.cellsOf 3=1:=by kernel_rfl
theorem Tk{t:aw7}(bd:Tryz.prog.underlying t=some (.int .i64)){n:Nat}{c:F}{x:DataW H × List MemPlace}(h:DataW.trod enc I W 0 (fun _=>true) true n t [c]=some x):∃ i:Int,c=.int .i64 i/\de i:=by
 obtain⟨i,hc,_,hw⟩:=DataW.trod_int bd h;obtain rfl:c=.int .i64 i:=by simpa using hc
 exact⟨i,rfl,bounds_i64 hw⟩
theorem auk{n:Nat}{bt az:F}{x:DataW H × List MemPlace}(h:DataW.trod enc I W 0 (fun _=>true) true n 23 [bt,az]=some x):∃ p:Sa,#[bt,az]=bO p.1 p.2/\pU p:=by
 obtain⟨nY,y1,m,_,_,h0,h1⟩:=trod_struct2 Tryz.underlying23 h;simp only[RG] at h0 h1;obtain⟨i,rfl,hi⟩:=Tk Tryz.underlying2 (show DataW.trod enc I W 0 (fun _=>true) true m 2 [bt]=some nY from h0);obtain⟨j,rfl,aN⟩:=Tk Tryz.underlying2 (show DataW.trod enc I W 0 (fun _=>true) true m 2 [az]=some y1 from h1);exact⟨(i,j),rfl,hi,aN⟩
theorem auP{n:Nat}{bt az aU a_ bK cy cF b8 bR c2 kN q8 pY q9 q_ rf rh ri rj rk rl:F}{x:DataW H × List MemPlace}(hf:DataW.trod enc I W 0 (fun _=>true) true n 31 [bt,az,aU,a_,bK,cy,cF,b8,bR,c2,kN,q8,pY,q9,q_,rf,rh,ri,rj,rk,rl]=some x):sh #[bt,az,aU,a_,bK,cy,cF,b8,bR,c2,kN,q8,pY,q9,q_,rf,rh,ri,rj,rk,rl]:=by
 obtain⟨nY,y1,gK,n,hx,hl,h0,h1,h2⟩:=Go.Deep.trod_struct3 Tryz.underlying31 hf;simp only[atZ,auL] at h0 h1 h2;have h0:DataW.trod enc I W 0 (fun _=>true) true n 4 [bt]=some nY:=h0;obtain⟨s,hs,_⟩:=DataW.trod_bool Tryz.underlying4 h0;obtain rfl:bt=.bool s:=by simpa using hs
 have i':=auh (show DataW.trod enc I W 0 (fun _=>true) true n 29 [az,aU,a_,bK,cy,cF,b8,bR,c2,kN]=some y1 from h1);have dX:=auh (show DataW.trod enc I W 0 (fun _=>true) true n 29 [q8,pY,q9,q_,rf,rh,ri,rj,rk,rl]=some gK from h2);exact aj2 s i' dX
theorem av'{base:Nat}{v:F}{d:DataW H}{p:List MemPlace}(aF:Value.okWide I W .any base 23 v)(h:DataW.Trod enc I W 0 (fun _=>true) true 23 v d p):∃ q:Sa,v=.agg (bO q.1 q.2)/\pU q:=by
 obtain⟨cs,rfl,e5⟩:=okWide_struct Tryz.underlying23 aF;obtain⟨bt,az,rfl⟩:=array2 (e5.trans at1);obtain⟨fuel,hf⟩:=h;obtain⟨q,e,aO⟩:=auk hf;exact⟨q,by rw[e],aO⟩
theorem awf{base:Nat}{v:F}{d:DataW H}{p:List MemPlace}(aF:Value.okWide I W .any base 33 v)(h:DataW.Trod enc I W 0 (fun _=>true) true 33 v d p):∃ X,v=.agg X/\Ct X:=by
 obtain⟨cs,rfl,e5⟩:=okWide_struct Tryz.underlying33 aF;obtain⟨a0,a1,a2,a3,a4,bt,az,aU,a_,bK,cy,cF,b8,bR,c2,kN,q8,pY,q9,q_,rf,rh,ri,rj,rk,rl,rfl⟩:=auA (e5.trans auM);obtain⟨fuel,hf⟩:=h;obtain⟨nY,y1,gK,mB,oW,n,h0,h1,h2,h3,h4⟩:=awk Tryz.underlying33 hf;simp only[RG,auK,at1,auJ] at h0 h1 h2 h3 h4;obtain⟨e,rfl,he⟩:=Tk Tryz.underlying2 (show DataW.trod enc I W 0 (fun _=>true) true n 2 [a0]=some nY from h0);obtain⟨k,rfl,aE⟩:=Tk Tryz.underlying3 (show DataW.trod enc I W 0 (fun _=>true) true n 3 [a1]=some y1 from h1);obtain⟨q,eq,aO⟩:=auk (show DataW.trod enc I W 0 (fun _=>true) true n 23 [a2,a3]=some gK from h2);obtain⟨l,rfl,hl⟩:=Tk Tryz.underlying2 (show DataW.trod enc I W 0 (fun _=>true) true n 2 [a4]=some mB from h3);have r:=auP (show DataW.trod enc I W 0 (fun _=>true) true n 31 [bt,az,aU,a_,bK,cy,cF,b8,bR,c2,kN,q8,pY,q9,q_,rf,rh,ri,rj,rk,rl]=some oW from h4);have e2:a2=.int .i64 q.1/\a3=.int .i64 q.2:=by
  have:=congrArg Array.toList eq;simp[bO] at this
  exact this
 obtain⟨rfl,rfl⟩:=e2;exact⟨_,rfl,e,k,q.1,q.2,l,_,he,aE,aO.1,aO.2,hl,r,by kernel_rfl⟩
end
end
section
open Go Go.RowKit Go.Sort
attribute [local go_sem] mg A3 bB BX
theorem agO(x:gD)(w:J):(binOp .neq 55 (.agg (fU x)) (.agg (fU x))).run I w=.ok (.bool false) w:=by
 have:=R0 x.1 x.2.1 (gP x.2.2) w;have h:(Op.equalIn 10000 55 (.agg (fU x)) (.agg (fU x))).run I w=.ok true w:=by
  rw[run_eql_struct] at this
  unfold fU;generalize (Op.equalIn 10000 55 (.agg (j_ x.1 x.2.1 (cJ x.2.2))) (.agg (j_ x.1 x.2.1 (cJ x.2.2)))).run I w=r at this |-
  cases r<;>simp_all [Result.andThen]
 simp only[binOp];simp[Op.equal,Op.maxDepth,h,Result.andThen]
theorem Ob(A A':Option aw6)(n c c':Nat)(ls:List gD)(W:J)(h1:eA.At W A ls)(h2:eA.At W A' ls)(hn:ls.length=n):M I 19 #[.slice A n c,.slice A' n c'] W (aP (.bool true) W):=by
 have hlen:=h1.2.1;rw[hn] at hlen;have H1:=hide h1;have bz:=hide h2;have n0:=hide hn;have hb:((n:Int) != (n:Int))=false:=by simp
 clear h1 h2 hn;go_enter Tryz.func19,Tryz.ntmps19
 go_wp2_with fail
 go_loopw [5] (fun i wr=>∃ k:Nat,k<=n/\i=.int .i64 k/\Hid (Ext W wr)) (fun i _=>n-(intOf i).toNat)
 case atStart=>exact⟨0,by omega,rfl,hide (Ext.refl _)⟩
 case round =>
  obtain⟨k,aE,rfl,EE⟩:=hrel;by_cases cl:k<n
  ·have d0:decide ((k:Int)<(n:Int))=true:=decide_eq_true (by omega);have dP:k<ls.length:=by rw[n0.out];exact cl
   obtain⟨x,hx⟩:∃ x,ls[k]?=some x:=⟨ls[k],by simp[dP]⟩;obtain⟨bA,b7,rfl,_,_⟩:=H1.out.2.2 (by omega);obtain⟨bX,cr,rfl,_,_⟩:=bz.out.2.2 (by omega);have jX:Hid (∀ w,Ext W w->(Instr.loadAt 55 (.pointer (some ⟨bA,b7+k*12,none⟩))).run I w=.ok (.agg (fU x)) w):=hide (fun w hw=>by
    have:=(H1.out.ext hw).load hx HZ rfl;simpa [eA,fU] using this)
   have ot:Hid (∀ w,Ext W w->(Instr.loadAt 55 (.pointer (some ⟨bX,cr+k*12,none⟩))).run I w=.ok (.agg (fU x)) w):=hide (fun w hw=>by
    have:=(bz.out.ext hw).load hx HZ rfl;simpa [eA,fU] using this)
   have i1:=hide (fun w=>eA.idx bA b7 n c k cl w);have i2:=hide (fun w=>eA.idx bX cr n c' k cl w);have cM:=hide (fun w=>agO x w);clear hx dP;go_upto_region 6 with fail
   refine kl [.q,.q,.q,.q,.q,.q,.q,.q,.q] [0,0,0,0,0,0,0,0,0] (fun R=>[.slice (some ⟨bA,b7,none⟩) n c,.int .i64 (k:Int),(yj bA (b7+k*12):Value),.agg (fU x),.slice (some ⟨bX,cr,none⟩) n c',.int .i64 (k:Int),(yj bX (cr+k*12):Value),.agg (fU x),.bool false]) (fun _=>(.cells #[] 0 (0,0))) (fun R _=>(.cells #[] 0 (0,0))) (fun _=>0) (dA W) (fun _=>False) (by kernel_rfl) (by kernel_rfl) (by kernel_rfl) (by kernel_rfl) rfl (fun _=>rfl) (fun _ h=>h.elim) (fun _ _ h=>h) (by simp) (by simp) (fun R b1=>⟨fun _=>rfl,fun _=>rfl,fun _=>rfl,fun _=>rfl,fun _=>rfl,fun _=>rfl,fun _=>rfl,fun _=>rfl,fun _=>rfl,trivial⟩) (fun _ _ _ _=>rfl) dH (EE.out.trans (b5 _)) ?NM ?Kd;case NM =>
    refine⟨aH,aH,?_,?_,aH,aH,?_,?_,?_,trivial⟩
    ·refine cj fun R s w' aw hs hw ha=>?_
     generalize hA:bB _ _ _ _ _ _ _=c3;refine BN rfl ?_ ?_ (i1.out w')
     ·subst hA;kernel_rfl
     ·subst hA;kernel_rfl
    ·refine cj fun R s w' aw hs hw ha=>?_
     have L:=jX.out w' aw;generalize hA:bB _ _ _ _ _ _ _=c3;refine e7 rfl ?_ L;subst hA;kernel_rfl
    ·refine cj fun R s w' aw hs hw ha=>?_
     generalize hA:bB _ _ _ _ _ _ _=c3;refine BN rfl ?_ ?_ (i2.out w')
     ·subst hA;kernel_rfl
     ·subst hA;kernel_rfl
    ·refine cj fun R s w' aw hs hw ha=>?_
     have L:=ot.out w' aw;generalize hA:bB _ _ _ _ _ _ _=c3;refine e7 rfl ?_ L;subst hA;kernel_rfl
    ·refine cj fun R s w' aw hs hw ha=>?_
     have L:=cM.out w';generalize hA:bB _ _ _ _ _ _ _=c3;refine N7 rfl ?_ ?_ (Kf _ _ (by kernel_rfl) _ _ _ _ w') L
     ·subst hA;kernel_rfl
     ·subst hA;kernel_rfl
   case Kd =>
    intro cY R G B4 ae;have hS:=ae.same;have aZ:=ae.holds;have bf:=EE.out.size;replace EE:=hide (show Ext _ _ from aZ);clear hS bf aZ ae;generalize hF:bB _ _ _ _ _ _ _=bH;have bI:bH={ tmps:=#[.slice (some ⟨bA,b7,none⟩) n c,.slice (some ⟨bX,cr,none⟩) n c',E,E,u4,.int .i64 (k:Int),.slice (some ⟨bA,b7,none⟩) n c,.int .i64 (n:Int),.slice (some ⟨bX,cr,none⟩) n c',.int .i64 (n:Int),.bool false,.int .i64 (k:Int),.slice (some ⟨bA,b7,none⟩) n c,.int .i64 (n:Int),.bool true,u15,u16,.slice (some ⟨bA,b7,none⟩) n c,.int .i64 (k:Int),(yj bA (b7+k*12):F),.agg (fU x),.slice (some ⟨bX,cr,none⟩) n c',.int .i64 (k:Int),(yj bX (cr+k*12):F),.agg (fU x),.bool false],defers:=[] }:=by subst hF;kernel_rfl
    clear hF;subst bI;clear jX ot i1 i2 cM;go_wp2_with fail
    go_roundw
    case rel=>exact⟨k+1,by omega,by go_num,EE⟩
    case measure=>simp[intOf];omega
  ·obtain rfl:k=n:=by omega
   go_wp2_with fail
   go_ret;exact⟨rfl,EE.out⟩
end
section
open Go Go.RowKit Go.Sort
theorem Tl{eps:Int}{s:Option jc}(he:o5 eps)(hs:mF s):Ct (mW eps s):=by
 have h1:=he.1;have h2:=he.2;have at3:de eps:=⟨by omega,by omega⟩;have z:de 0:=⟨by omega,by omega⟩;cases s with
 | none=>exact⟨eps,0,0,0,0,z21,at3,z,z,z,z,Vs,rfl⟩
 | some s =>
  have hl:=hs.le;exact⟨eps,s.count,s.first.1,s.first.2,s.last,e4 s.eG,at3,⟨by omega,by omega⟩,hs.1.1,hs.1.2,hs.2.1,Or.inl ⟨s.eG,hs.eG,rfl⟩,rfl⟩
theorem alh:Ct bL:=by
 have z:de 0:=⟨by omega,by omega⟩;exact⟨0,0,0,0,0,z21,z,z,z,z,z,Vs,awy⟩
theorem DP{X:Array F}(h:Ct X):X.size=26/\X.all (·.oneCell')=true/\∀ w,(binOp .eql 33 (.agg X) (.agg X)).run I w=.ok (.bool true) w:=by
 obtain⟨e,n,t,v,l,K,_,_,_,_,_,cQ,rfl⟩:=h;refine⟨hR (aj4 cQ),jU (aj3 cQ),fun w=>?_⟩;obtain⟨o,L,H,rfl,br,dh⟩:=Vr cQ;exact auX e n t v l o br dh w
theorem auE{X:Array F}(dk:Ct X){x:Sa}(hx:pU x):∃ (R:Array F) (oI:Int) (ls:List gD),Ct R/\(∀ W,M I 38 #[.agg X,.agg (bO x.1 x.2)] W (gi W (Hj R oI) ls))/\(∀ W,M I 33 #[.agg X,.agg (bO x.1 x.2)] W (gi W (Hj R oI) ls)):=by
 by_cases zk:FU X
 ·obtain⟨eps,s,he,hs,rfl⟩:=zk;refine⟨E5 eps s x,uh s x,E4 eps s x,?_,aug.2 eps s x he hs hx,ajU.2 eps s x he hs hx⟩;unfold E5;split
  ·rename_i h0;refine Tl he (akU he hs hx fun s' e=>?_);subst e;have h1:=hs.le;simp only[uh] at h0;split at h0
   ·omega
   ·split at h0<;>omega
  ·exact alh
 ·exact⟨bL,1,[],alh,aug.1 X x dk zk,ajU.1 X x dk zk⟩
theorem auC{X:Array F}(dk:Ct X):∃ (oI:Int) (ls:List gD),(∀ W,M I 39 #[.agg X] W (gi W (mk2 oI) ls))/\(∀ W,M I 40 #[.agg X] W (gi W (mk2 oI) ls)):=by
 by_cases zk:FU X
 ·obtain⟨eps,s,he,hs,rfl⟩:=zk;exact⟨0,(tP s).map gp,aue.2 eps s he hs,ajH.2 eps s he hs⟩
 ·exact⟨1,[],aue.1 X dk zk,ajH.1 X dk zk⟩
theorem auF{X:Array F}(dk:Ct X):∃ ok:Bool,(∀ w,M I 41 #[.agg X] w (aP (.bool ok) w))/\(∀ w,M I 42 #[.agg X] w (aP (.bool ok) w)):=by
 by_cases zk:FU X
 ·exact⟨true,QJ.1 X zk,HD.1 X zk⟩
 ·exact⟨false,QJ.2 X dk zk,HD.2 X dk zk⟩
theorem IX{w:J}{g:Nat}{cs ds:Array F}(h:aG w g 33 cs)(hc:cs.size=26)(hd:ds.size=26)(h1:ds.all (·.oneCell')=true):(Instr.storeAt 33 (.pointer (some ⟨g,0,none⟩)) (.agg ds)).run I w=.ok () (w.setRow g ds):=
 zT h _ 0 26 eW (by omega) ds hd h1 ds (by
  have:cs.toList.drop (0+26)=[]:=List.drop_eq_nil_of_le (by simp;omega);rw[this];simp)
end
section
open Go Go.RowKit Go.Sort
attribute [local go_sem] mg A3 bB BX
def ap0(X:Array F)(v:F):Prop:=∃ A n c,v=.tuple #[.agg X,.slice A n c,.int .i64 0]
theorem amP{B b:Nat}{bU:J}{X:Array F}{s:Nat}{R:Nat->F}{w bp:J}{a:Act}{o:aw4}{x:axb}(h:QZ B b bU (oH [ap0 X]) s R w)(hs:1<=s)(hx:a.eval x=R 0) :
 (o.op=.extract x 0->mg I bp (.agg X) ((axc a.eval o).run I bp))/\(o.op=.extract x 1->mg I bp (B2 (R 0)) ((axc a.eval o).run I bp))/\(o.op=.extract x 2->mg I bp (.int .i64 0) ((axc a.eval o).run I bp)):=by
 obtain⟨A,n,c,iJ⟩:=h.2.2.get 0 rfl hs;rw[iJ] at hx;refine⟨fun aL=>N8 aL hx rfl,fun aL=>?_,fun aL=>N8 aL hx rfl⟩;rw[iJ];exact N8 aL hx rfl
theorem FF{b g:Nat}{w w':J}{T:aw7}{X:Array F}(h:aG w g T X)(u:b3 b w w')(dB:g≠b):aG w' g T X:=(u.2.2.2.2 g h.lt dB).trans h
theorem av9{fn:Func}{p q:Tmp}{ty tz:aw7}(h:fn.results=#[.cell p ty,.cell q tz])(tmps:Array F)(w:J)(g k:Nat)(t u:aw7)(cs ds:Array F)(d e:TypeDesc)
 (hp:tmps.getD p E=.pointer (some ⟨g,0,none⟩)) (af:aG w g t cs) (aO:tmps.getD q E=.pointer (some ⟨k,0,none⟩)) (aE:aG w k u ds)
 (hu:Tryz.prog.underlying ty=some d) (hd:(match (generalizing:=false) d with|.struct _|.array _ _=>true|_=>false)=true) (hi:(Tryz.prog.info? ty).map (·.size)=some cs.size)
 (vL:Tryz.prog.underlying tz=some e) (SK:(match (generalizing:=false) e with|.struct _|.array _ _=>true|_=>false)=true) (avh:(Tryz.prog.info? tz).map (·.size)=some ds.size) :
 (results fn tmps).run I w=.ok (.tuple #[.agg cs,.agg ds]) w:=by
 have D6:tmps[p]?.getD E=.pointer (some ⟨g,0,none⟩):=by simpa using hp
 have D7:tmps[q]?.getD E=.pointer (some ⟨k,0,none⟩):=by simpa using aO
 simp[results,h,D6,D7,asAddr,run_loadVar_row w g t ty cs (0,0) d af hu (by cases d<;>first|rfl|exact hd) hi,run_loadVar_row w k u tz ds (0,0) e aE vL (by cases e<;>first|rfl|exact SK) avh,Sem.run_bind,Result.andThen]
def auv(B b:Nat)(W:J)(e:axa)(w':J):Prop:=∃ (HX:Int) (s:Option jc) (y:Sa),e=.returned (.tuple #[.agg (mW HX s),.agg (bO y.1 y.2)])/\o5 HX/\mF s/\pU y/\fP B w' b/\b3 b W w'
theorem awi(B b:Nat)(W:J)(aw:fP B W b):M I 9 #[(yj b 0:Value)] W (auv B b W):=by
 have iH:=hide aw;have ava:=aw.1;have je:=aw.2.1;have Lg:B<=W.heap.size:=by omega
 clear aw;have ak:=(aG.new W 33 bL).alloc (.cells z2 23);have aq:=aG.new (W.alloc (.cells bL 33)) 23 z2;rw[iY] at aq;have EE:=hide ((aA W (.cells bL 33)).trans (aA _ (.cells z2 23)));obtain⟨bG,bD⟩:=aM (((W.alloc (.cells bL 33)).alloc (.cells z2 23)));obtain⟨g0,af⟩:∃ g,W.heap.size=g:=⟨_,rfl⟩;rw[bD] at ak aq EE;rw[af] at ak aq;have lh:W.heap.size<=g0:=by omega
 have r9:W.heap.size<=g0+1:=by omega
 have aB:=hide bD;have bW:=hide af;clear bD af;go_enter Tryz.func9,Tryz.ntmps9
 go_upto_region 1 with fail
 unfold z2 bL at aB;rw[aB.out,bW.out];clear aB bW;obtain⟨g1,SN⟩:∃ q,g0+1=q:=⟨_,rfl⟩;rw[SN] at aq |-;have r9:W.heap.size<=g1:=by omega
 have UH:g0≠b:=by omega
 have V9:g1≠b:=by omega
 have awI:g0≠g1:=by omega
 have T1:=hide (iH.out.ext EE.out);have oE:=hide (EE.out.c7 b);clear SN EE;have yE:=hide ak;have Jk:=hide aq;clear ak aq;go_upto_region 2 with (first
  | (go_at_call 16;(with_reducible refine(alf B b _ _ T1.out (b3.refl _ _)).mono ?_);rintro e v1 ⟨HX,rfl,apS,tR,DE⟩;have kr:=hide tR;have uO:=hide DE;have at0:=hide apS;have wF:Hid (∀ w,M I 35 #[.int .i64 HX] w (aP (.bool true) w)):=(fun w=>by have:=HI HX w;rw[decide_eq_true at0.out.1,decide_eq_true at0.out.2] at this;exact this);have ks:=hide (fun w=>Oc HX w wF);obtain⟨Ri,Sz⟩:∃ X,aI HX 0 0 0 0 z21=X:=⟨_,rfl⟩;rw[Sz] at ks;have aui:Ri.size=26:=(by rw[<-Sz];exact hR rfl);have aua:Ri.all (·.oneCell')=true:=(by rw[<-Sz];exact jU iV);clear tR DE apS wF)
  | (go_at_call 11;(with_reducible refine(ks.out _).mono ?_);rintro e v2 ⟨rfl,ad⟩;have IZ:=hide ad;have st:=IX (aG.new v2 33 bL) rfl aui aua;unfold bL at st;clear ad)
  | (refine kG (by kernel_rfl) rfl rfl rfl st ?_))
 have ag:=(aG.new v2 33 bL).setRow Ri;have wA:Ext v1 _:=jN ((IZ.out).trans (aA v2 (.cells bL 33 (0,0)))) IZ.out.size Ri;unfold bL at ag wA;generalize aeO:World.setRow _ _ Ri=bp at ag wA |-;have ajC:W.heap.size<=v2.heap.size:=by have h1:=oE.out.2.2.2.1;have h2:=uO.out.2.2.2.1;have h3:=IZ.out.size;omega
 have at6:bG.heap.size<=v2.heap.size:=by have h2:=uO.out.2.2.2.1;have h3:=IZ.out.size;omega
 have adP:=yE.out.lt;have avd:=Jk.out.lt;generalize ajB:v2.heap.size=g4 at ag ajC at6 |-;have oD:=hide (kr.out.ext wA);have ak:=(FF yE.out uO.out UH).ext wA;have aq:=(FF Jk.out uO.out V9).ext wA;have w5:=hide ((oE.out.trans uO.out).trans (wA.c7 b));have lj:W.heap.size<=g4:=ajC;have Jl:g4≠b:=by omega
 have awO:g0≠g4:=by omega
 have n34:g1≠g4:=by omega
 clear aeO ajB st wA IZ T1 kr oE uO yE Jk ks adP avd ajC at6;have aup:Hid (M I 32 #[(yj b 0:Value),.int .i64 12] bp (atS 12 B b bp)):=awg 12 B b (by omega) bp oD.out;go_upto_region 3 with (go_at_call 32;(with_reducible refine(aup.out).mono ?_);rintro e w3 ⟨g6,n,cap,l,atV,rfl,hm,hJ,vE,G2,zk,FP,vz,SQ,RS,RT⟩;have si:=hide RS;have F4:=hide RT;have ou:=hide G2;have hW:=hide hm;have bq:=hide vz;have aou:Hid (∀ x∈l,pU x):=(fun x hx=>zk x hx);clear RS RT G2 hm vz zk)
 have n26:g0≠g6:=by have:=ak.lt;omega
 have n36:g1≠g6:=by have:=aq.lt;omega
 replace ak:=FF ak F4.out UH;replace aq:=FF aq F4.out V9;have n46:g4≠g6:=by have:=ag.lt;omega
 replace ag:=FF ag F4.out Jl;have Ws:g6≠b:=by have:=oD.out.2.1;omega
 have pW:=hide (w5.out.trans F4.out);have uM:=si.out;have auc:Hid (jb l):=(Mp l).2 ou.out;have ST:=hide (fun j aN=>V2 at0.out auc.out aou.out (by have:=hW.out;omega) j aN);have at2:Ri=mW HX (gS HX none (l.take 0)):=Sz.symm;have Q2:=hide ak;have Q3:=hide aq;have Q4:=hide ag;have att:=hide FP;have atP:=hide uM;clear oD si w5 F4 ou ak aq ag FP uM;go_wp2_with fail
 go_loopw [7] (fun iv wr=>∃ (j:Nat) (X1:Array F),j+1<=n/\iv=.int .i64 (j:Int)/\Hid (X1=mW HX (gS HX none (l.take j)))/\Hid (aG wr g0 33 bL)/\Hid (aG wr g1 23 z2)/\Hid (aG wr g4 33 X1)/\Hid (aG wr g6 23 atV)/\Hid (fP B wr b)/\Hid (b3 b W wr)) (fun iv _=>n-(intOf iv).toNat)
 case atStart=>exact⟨0,Ri,by omega,rfl,at2,Q2,Q3,Q4,att,atP,pW⟩
 case round =>
  clear Q2 Q3 Q4 att atP pW Sz at2 aui aua;obtain⟨j,X1,aN,rfl,afV,aoL,apw,apy,apI,Xc,pW⟩:=hrel;have ak:=aoL.out;have aq:=apw.out;have ag:=apy.out;have FP:=apI.out;have uM:=Xc.out;clear aoL apw apy apI Xc;obtain⟨z,hz⟩:∃ z,l[j]?=some z:=⟨l[j]'(by have:=hW.out;omega),List.getElem?_eq_getElem _⟩;obtain⟨s1,s2⟩:=ST.out j (by have:=hW.out;omega);have aap:=aou.out z (List.mem_of_getElem? hz);obtain⟨rP,YF⟩:=bq.out j z hz;obtain⟨QL,aub,-⟩:=DP (Tl at0.out s1);rw[<-afV.out] at QL aub;obtain⟨Y,oJ⟩:=aM (bO z.1 z.2);have N':Y.size=2:=by rw[<-oJ];rfl
  have ajX:Y.all (·.oneCell')=true:=by rw[<-oJ];exact aef _ _
  rw[oJ] at YF;obtain⟨QC,Z2⟩:∃ q,2*j=q:=⟨_,rfl⟩;have av_:atV.size=atV.size:=rfl;obtain⟨awB,ajz⟩:∃ q,atV.size=q:=⟨_,rfl⟩;rw[Z2] at rP YF;rw[ajz] at rP;clear av_;have Bx:=hide (fun w=>awb g6 n cap (j:=j) (by omega) Z2 w);have awG:=ag.lt;by_cases cl:j+1<n
  ·have d0:decide ((j:Int)+1<(n:Int))=true:=decide_eq_true (by omega);have jv:=akU at0.out s1 aap (s2 _ hz);have R1:uh (gS HX none (l.take j)) z=0:=by
    cases hs:gS HX none (l.take j) with
    | none=>rfl
    | some s=>have:=s2 _ hz s hs;simp only[uh];rw[if_neg (by omega),if_neg (by omega)]
   have hL:=(RO HX hz).2;obtain⟨auj,aud,-⟩:=DP (Tl at0.out jv);have uF:Hid (∀ w,M I 33 #[.agg X1,.agg Y] w (gi w (Hj (mW HX (gZ HX (gS HX none (l.take j)) z).1) 0) (E4 HX (gS HX none (l.take j)) z))):=hide (fun w=>by
    have:=ajU.2 HX _ z at0.out s1 aap w;unfold E5 at this
    rw[R1,if_pos rfl,oJ,<-afV.out] at this
    exact this)
   obtain⟨kK,ajA⟩:∃ X,mW HX (gZ HX (gS HX none (l.take j)) z).1=X:=⟨_,rfl⟩;rw[ajA] at uF auj aud;have Qs:Hid (kK=mW HX (gS HX none (l.take (j+1)))):=by rw[hL];exact ajA.symm
   clear ajA hL R1 jv s1 s2 hz aap oJ Z2;go_upto_region 6 with fail
   have gu:=ak.lt;have gM:=aq.lt;have cP:=ag.lt;have ahw:=FP.lt;refine kl [.q,.q,.q,.q,.q,.gO 0,.q,.q,.q,.q,.so 0] [0,0,0,0,0,0,1,1,1,1,0] (fun R=>[.agg X1,.slice (some ⟨g6,0,none⟩) n cap,.int .i64 (j:Int),(yj g6 QC:Value),.agg Y,E,(R 0),.agg kK,(B2 (R 0)),.int .i64 0,E]) (fun _=>(.cells #[] 0 (0,0))) (fun R _=>(.cells kK 33 (0,0))) (fun _=>g4) (QZ B b W (oH [ap0 kK])) (fun k=>k=b) (by kernel_rfl) (by kernel_rfl) (by kernel_rfl) (by kernel_rfl) rfl (fun _=>rfl) (fun k e=>by subst e;exact uM.2.1) (by intro c hc;simp at hc;(try subst hc);(try simp only);(intro e;omega)) (by intro c hc;simp at hc;(try subst hc);(try simp only);omega) (by intro c c' h1 h2 _;simp at h1 h2;omega) (fun R b1=>⟨fun _=>rfl,fun _=>rfl,fun _=>rfl,fun _=>rfl,fun _=>rfl,fun _=>rfl,fun h=>by simp only[h 0 (by decide)],fun _=>rfl,fun h=>by simp only[h 0 (by decide)],fun _=>rfl,fun _=>rfl,trivial⟩) (fun _ _ _ _=>rfl) aeH ⟨uM.ext (b5 _),pW.out.drew,oH.zero⟩ ?vT ?u_;case vT =>
    refine⟨?_,aH,aH,?_,?_,?_,aH,?_,?_,?_,?_,trivial⟩
    ·refine cj fun R s w' aw hs hw ha=>?_
     have L:=dF ((ha 10 0 rfl (by kernel_rfl)).trans ag) jC rfl eW QL;generalize hA:bB _ _ _ _ _ _ _=c3;refine e7 rfl ?_ L;subst hA;kernel_rfl
    ·refine cj fun R s w' aw hs hw ha=>?_
     generalize hA:bB _ _ _ _ _ _ _=c3;refine BN rfl ?_ ?_ (Bx.out w')
     ·subst hA;kernel_rfl
     ·subst hA;kernel_rfl
    ·refine cj fun R s w' aw hs hw ha=>?_
     have L:=pH (FP.aY hw Ws (by intro c hc;simp at hc;(try subst hc);(try simp only);omega)) _ _ xQ rfl QC 2 xB (by rw[ajz];first|decide|omega) _ (YF);generalize hA:bB _ _ _ _ _ _ _=c3;refine e7 rfl ?_ L;subst hA;kernel_rfl
    ·refine C6 (m:=0) ?iR ?jo ?_;case iR=>exact rfl
     case jo=>exact cu rfl
     intro R w' aw hw;go_simp;refine(uF.out w').mono ?_;rintro e bp ⟨cU,EH,CL,awN,_,rfl,_,ad⟩;exact⟨_,rfl,awj aw (aw.1.ext ad) (ad.c7 b) (aw.2.2.step rfl ⟨cU,EH,CL,rfl⟩)⟩
    ·refine cj fun R s w' aw hs hw ha=>?_
     have dj:1<=s:=hs;generalize hA:bB _ _ _ _ _ _ _=c3;have hx:c3.eval (.tmp 23)=R 0:=by subst hA;kernel_rfl
     exact(amP aw (show 1<=s from hs) hx).1 rfl
    ·refine cj fun R s w' aw hs hw ha=>?_
     have dj:1<=s:=hs;generalize hA:bB _ _ _ _ _ _ _=c3;have hx:c3.eval (.tmp 23)=R 0:=by subst hA;kernel_rfl
     exact(amP aw (show 1<=s from hs) hx).2.1 rfl
    ·refine cj fun R s w' aw hs hw ha=>?_
     have dj:1<=s:=hs;generalize hA:bB _ _ _ _ _ _ _=c3;have hx:c3.eval (.tmp 23)=R 0:=by subst hA;kernel_rfl
     exact(amP aw (show 1<=s from hs) hx).2.2 rfl
    ·refine il (c:=0) (Ty:=?F1) (p:=?Hz) (x:=?Ii) g4 ?vb ?z_ ?qS ?oa ?vR ?qK ?vP ?n8 ?yR ?uY ?_;case oa=>exact rfl
     case vR=>exact rfl
     case vb=>exact(fun R=>(.cells kK 33 (0,0)))
     case z_=>exact(fun R=>.pointer (some ⟨g4,0,none⟩))
     case qS=>exact(fun R=>.agg kK)
     case qK=>exact(fun R=>rfl)
     case vP=>exact rfl
     case n8=>exact cu rfl
     case yR =>
      intro R;kernel_rfl
     case uY =>
      intro R;kernel_rfl
     intro R s ρ w aw hs hp hx hz;refine⟨lI (g:=g4) rfl hp hx (hz.trans ag) eW (QL) (auj) (aud),fun aT hF=>TX aw hF lj Jl (by have:=lj;have:=Lg;omega)⟩
   case u_ =>
    intro cY R G e9 ae;have hS:=ae.same;have aZ:=ae.holds;have bf:=pW.out.2.2.2.1;have sP:0<cY:=(ae.stage 5 (show 5<11 by decide) 0 rfl).1 (List.mem_range.2 (show 5<11 by decide));obtain⟨cU,EH,CL,iJ⟩:=aZ.2.2.get 0 rfl sP;replace ak:=ak.aY hS UH (by intro c hc;simp at hc;(try subst hc);(try simp only);omega);replace aq:=aq.aY hS V9 (by intro c hc;simp at hc;(try subst hc);(try simp only);omega);replace FP:=FP.aY hS Ws (by intro c hc;simp at hc;(try subst hc);(try simp only);omega);replace ag:aG e9 g4 33 kK:=ae.ep 10 (List.mem_range.2 (show 10<11 by decide)) 0 rfl;replace uM:=aZ.1;replace pW:=hide aZ.2.1;clear hS bf aZ ae gu gM cP ahw;generalize hF:bB _ _ _ _ _ _ _=bH;have bI:bH={ tmps:=#[(yj b 0:F),E,(yj g0 0:F),(yj g1 0:F),(yj g4 0:F),.int .i64 0,.slice (some ⟨g6,0,none⟩) n cap,.int .i64 (j:Int),.tuple #[.agg Ri,.int .i64 0],(yj b 0:F),.int .i64 HX,.tuple #[.agg Ri,.int .i64 0],.agg Ri,.int .i64 0,(yj b 0:F),.slice (some ⟨g6,0,none⟩) n cap,.int .i64 (j:Int),.int .i64 ((j:Int)+1),.slice (some ⟨g6,0,none⟩) n cap,.int .i64 (n:Int),.bool true,u21,u22,(R 0),.agg X1,.slice (some ⟨g6,0,none⟩) n cap,.int .i64 (j:Int),(yj g6 QC:F),.agg Y,(R 0),.agg kK,(B2 (R 0)),.int .i64 0,E,E,E,E,E,E,E],defers:=[] }:=by subst hF;kernel_rfl
    clear hF;subst bI;(try simp only[iJ])
    go_wp2_with fail
    go_roundw
    case rel=>exact⟨j+1,kK,by omega,by go_num,Qs,hide ak,hide aq,hide ag,hide FP,hide uM,pW⟩
    case measure=>simp[intOf];omega
  ·have d0:decide ((j:Int)+1<(n:Int))=false:=decide_eq_false (by omega);have awY:IntKind.i64.wrap ((n:Int)-1)=(j:Int):=by rw[IntKind.wrap_i64];omega
   have SF:=afV.out;clear Z2 s2 hz;go_upto_region 7 with fail
   have gu:=ak.lt;have gM:=aq.lt;have cP:=ag.lt;have ahw:=FP.lt;refine kl [.q,.q,.q,.q,.q,.q,.q,.so 0,.so 1] [0,0,0,0,0,0,0,0,0] (fun R=>[.agg X1,.slice (some ⟨g6,0,none⟩) n cap,.slice (some ⟨g6,0,none⟩) n cap,.int .i64 (n:Int),.int .i64 (j:Int),(yj g6 QC:Value),.agg Y,E,E]) (fun _=>(.cells #[] 0 (0,0))) (fun R i=>match i with|7=>(.cells X1 33 (0,0))|_=>(.cells Y 23 (0,0))) (fun i=>match i with|0=>g0|_=>g1) (QZ B b W (oH [])) (fun k=>k=b) (by kernel_rfl) (by kernel_rfl) (by kernel_rfl) (by kernel_rfl) rfl (fun _=>rfl) (fun k e=>by subst e;exact uM.2.1) (by intro c hc;simp at hc;rcases hc with rfl|rfl<;>(try simp only)<;>(intro e;omega)) (by intro c hc;simp at hc;rcases hc with rfl|rfl<;>(try simp only)<;>omega) (by intro c c' h1 h2 h3;simp at h1 h2;rcases h1 with rfl|rfl<;>rcases h2 with rfl|rfl<;>simp only at h3<;>first|rfl|omega) (fun R b1=>⟨fun _=>rfl,fun _=>rfl,fun _=>rfl,fun _=>rfl,fun _=>rfl,fun _=>rfl,fun _=>rfl,fun _=>rfl,fun _=>rfl,trivial⟩) (fun _ _ _ _=>rfl) aeH ⟨uM.ext (b5 _),pW.out.drew,oH.zero⟩ ?avO ?auW;case avO =>
    refine⟨?_,aH,aH,aH,aH,?_,?_,?_,?_,trivial⟩
    ·refine cj fun R s w' aw hs hw ha=>?_
     have L:=dF (ag.aY hw Jl (by intro c hc;simp at hc;rcases hc with rfl|rfl<;>(try simp only)<;>omega)) jC rfl eW QL;generalize hA:bB _ _ _ _ _ _ _=c3;refine e7 rfl ?_ L;subst hA;kernel_rfl
    ·refine cj fun R s w' aw hs hw ha=>?_
     generalize hA:bB _ _ _ _ _ _ _=c3;refine BN rfl ?_ ?_ (Bx.out w')
     ·subst hA;kernel_rfl
     ·subst hA;kernel_rfl
    ·refine cj fun R s w' aw hs hw ha=>?_
     have L:=pH (FP.aY hw Ws (by intro c hc;simp at hc;rcases hc with rfl|rfl<;>(try simp only)<;>omega)) _ _ xQ rfl QC 2 xB (by rw[ajz];first|decide|omega) _ (YF);generalize hA:bB _ _ _ _ _ _ _=c3;refine e7 rfl ?_ L;subst hA;kernel_rfl
    ·refine il (c:=0) (Ty:=?awC) (p:=?awV) (x:=?awZ) g0 ?auZ ?awl ?aww ?avr ?avM ?avB ?avF ?au_ ?auR ?auT ?_;case avr=>exact rfl
     case avM=>exact rfl
     case auZ=>exact(fun R=>(.cells X1 33 (0,0)))
     case awl=>exact(fun R=>.pointer (some ⟨g0,0,none⟩))
     case aww=>exact(fun R=>.agg X1)
     case avB=>exact(fun R=>rfl)
     case avF=>exact rfl
     case au_=>exact cu rfl
     case auR =>
      intro R;kernel_rfl
     case auT =>
      intro R;kernel_rfl
     intro R s ρ w aw hs hp hx hz;refine⟨lI (g:=g0) rfl hp hx (hz.trans ak) eW (rfl) (QL) (aub),fun aT hF=>TX aw hF lh UH (by have:=lh;have:=Lg;omega)⟩
    ·refine il (c:=1) (Ty:=?awD) (p:=?awW) (x:=?aw3) g1 ?au0 ?awm ?awx ?avs ?avN ?avC ?avH ?au' ?auS ?auU ?_;case avs=>exact rfl
     case avN=>exact rfl
     case au0=>exact(fun R=>(.cells Y 23 (0,0)))
     case awm=>exact(fun R=>.pointer (some ⟨g1,0,none⟩))
     case awx=>exact(fun R=>.agg Y)
     case avC=>exact(fun R=>rfl)
     case avH=>exact rfl
     case au'=>exact cu rfl
     case auS =>
      intro R;kernel_rfl
     case auU =>
      intro R;kernel_rfl
     intro R s ρ w aw hs hp hx hz;refine⟨lI (g:=g1) rfl hp hx (hz.trans aq) xB (rfl) (N') (ajX),fun aT hF=>TX aw hF r9 V9 (by have:=r9;have:=Lg;omega)⟩
   case auW =>
    intro cY R G aum ae;have hS:=ae.same;have aZ:=ae.holds;have bf:=pW.out.2.2.2.1;replace ag:=ag.aY hS Jl (by intro c hc;simp at hc;rcases hc with rfl|rfl<;>(try simp only)<;>omega);replace FP:=FP.aY hS Ws (by intro c hc;simp at hc;rcases hc with rfl|rfl<;>(try simp only)<;>omega);replace ak:aG aum g0 33 X1:=ae.ep 7 (List.mem_range.2 (show 7<9 by decide)) 0 rfl;replace aq:aG aum g1 23 Y:=ae.ep 8 (List.mem_range.2 (show 8<9 by decide)) 1 rfl;replace uM:=aZ.1;replace pW:=hide aZ.2.1;clear hS bf aZ ae gu gM cP ahw;generalize hF:bB _ _ _ _ _ _ _=bH;have bI:bH={ tmps:=#[(yj b 0:F),E,(yj g0 0:F),(yj g1 0:F),(yj g4 0:F),.int .i64 0,.slice (some ⟨g6,0,none⟩) n cap,.int .i64 (j:Int),.tuple #[.agg Ri,.int .i64 0],(yj b 0:F),.int .i64 HX,.tuple #[.agg Ri,.int .i64 0],.agg Ri,.int .i64 0,(yj b 0:F),.slice (some ⟨g6,0,none⟩) n cap,.int .i64 (j:Int),.int .i64 ((j:Int)+1),.slice (some ⟨g6,0,none⟩) n cap,.int .i64 (n:Int),.bool false,u21,u22,u23,u24,u25,u26,u27,u28,u29,u30,u31,u32,.agg X1,.slice (some ⟨g6,0,none⟩) n cap,.slice (some ⟨g6,0,none⟩) n cap,.int .i64 (n:Int),.int .i64 (j:Int),(yj g6 QC:F),.agg Y],defers:=[] }:=by subst hF;kernel_rfl
    clear hF;subst bI;go_wp2_with fail
    exact B7 (av9 (p:=2) (q:=3) (ty:=33) (tz:=23) rfl _ _ g0 g1 33 23 X1 Y _ _ rfl ak rfl aq jC rfl (by rw[eW,QL]) xQ rfl (by rw[xB,N'])) rfl ⟨HX,_,z,by rw[SF,oJ],at0.out,s1,aap,uM,pW.out⟩
end
section
open Go Go.RowKit Go.Sort
theorem auB{B:Nat}{W w:J}{g:Nat}(h:Below B W w)(af:B<=g)(cs:Array F):Below B W (w.setRow g cs):=by
 refine⟨h.os,h.tape,h.output,?_,fun k aE=>?_⟩
 ·show W.heap.size<=(w.heap.modify g _).size
  rw[Array.size_modify];exact h.size
 ·show (w.heap.modify g _)[k]?=_
  rw[Array.getElem?_modify,if_neg (by omega)];exact h.block k aE
theorem fP.row{B b g:Nat}{w:J}(h:fP B w b)(af:b<g)(cs:Array F):fP B (w.setRow g cs) b:=h.below (auB (Below.refl _ _) af cs)
theorem b3.row{b g:Nat}{W w:J}(h:b3 b W w)(af:W.heap.size<=g)(cs:Array F):b3 b W (w.setRow g cs):=by
 refine⟨h.1,h.2.1,h.2.2.1,?_,fun k aE hn=>?_⟩
 ·show W.heap.size<=(w.heap.modify g _).size
  rw[Array.size_modify];exact h.2.2.2.1
 ·show (w.heap.modify g _)[k]?=_
  rw[Array.getElem?_modify,if_neg (by omega)];exact h.2.2.2.2 k aE hn
theorem atW:Ar dq:=by
 refine⟨false,0,0,0,0,false,0,0,0,0,0,0,rfl,⟨by omega,by omega,by omega,by omega,rfl⟩,⟨by omega,by omega,by omega,by omega,rfl⟩,fun h=>?_⟩;have:=h.2.2.1;omega
theorem av7{K:Array F}(h:sh K):∃ o L H,K=bT o L H/\wM L/\wM H:=by
 rcases h with ⟨c,hc,rfl⟩|⟨o,L,H,rfl,br,dh,_⟩
 ·cases c with
  | op=>exact⟨true,dq,dq,rfl,Or.inr atW,Or.inr atW⟩
  | dU a b=>exact⟨false,cJ a,cJ b,rfl,Or.inl ⟨a,hc.1,rfl⟩,Or.inl ⟨b,hc.2.1,rfl⟩⟩
 ·exact⟨o,L,H,rfl,br,dh⟩
section
variable {e n t v l:Int}{o:Bool}{L H:Array F}
theorem awc(br:RC L)(dh:RC H):(aI e n t v l (bT o L H))[5]?=some (.bool o)/\(aI e n t v l (bT o L H)).extract 6 (6+10)=L/\(aI e n t v l (bT o L H)).extract 16 (16+10)=H/\∀ q:Bool,(aI e n t v l (bT o L H)).setIfInBounds 5 (.bool q)=aI e n t v l (bT q L H):=by
 obtain⟨s,a,b,c,d,u,f,g,h,i,rfl⟩:=br;obtain⟨s',a',b',c',d',u',f',g',h',l4,rfl⟩:=dh;refine⟨?_,?_,?_,fun q=>?_⟩<;>kernel_rfl
theorem awe{w:J}{g:Nat}{D:Array F}(h:aG w g 33 (aI e n t v l (bT o L H)))(br:RC L)(dh:RC H)(hH:RC D):(Instr.storeAt 29 (.pointer (some ⟨g,6,none⟩)) (.agg D)).run I w=.ok () (w.setRow g (aI e n t v l (bT o D H))):=
 zT h _ 6 10 oP (by rw[hR (lW o br.size dh.size)];omega) D hH.size hH.one _ (by
  obtain⟨s,a,b,c,d,u,f,g,h,i,rfl⟩:=br;obtain⟨s',a',b',c',d',u',f',g',h',l4,rfl⟩:=dh;obtain⟨s2,a2,bX,aU,d2,u2,f2,g2,h2,i2,rfl⟩:=hH;kernel_rfl)
theorem awd{w:J}{g:Nat}{D:Array F}(h:aG w g 33 (aI e n t v l (bT o L H)))(br:RC L)(dh:RC H)(hH:RC D):(Instr.storeAt 29 (.pointer (some ⟨g,16,none⟩)) (.agg D)).run I w=.ok () (w.setRow g (aI e n t v l (bT o L D))):=
 zT h _ 16 10 oP (by rw[hR (lW o br.size dh.size)];omega) D hH.size hH.one _ (by
  obtain⟨s,a,b,c,d,u,f,g,h,i,rfl⟩:=br;obtain⟨s',a',b',c',d',u',f',g',h',l4,rfl⟩:=dh;obtain⟨s2,a2,bX,aU,d2,u2,f2,g2,h2,i2,rfl⟩:=hH;kernel_rfl)
end
theorem awa{w:J}{g:Nat}{cs ds:Array F}(h:aG w g 23 cs)(hc:cs.size=2)(hd:ds.size=2)(h1:ds.all (·.oneCell')=true):(Instr.storeAt 23 (.pointer (some ⟨g,0,none⟩)) (.agg ds)).run I w=.ok () (w.setRow g ds):=
 zT h _ 0 2 xB (by omega) ds hd h1 ds (by
  have:cs.toList.drop (0+2)=[]:=List.drop_eq_nil_of_le (by simp;omega);rw[this];simp)
theorem av8{X:Array F}(h:Ct X):∃ l,de l/\X[4]?=some (.int .i64 l):=by
 obtain⟨e,n,t,v,l,K,_,_,_,_,hl,cQ,rfl⟩:=h;exact⟨l,hl,(nX (aj4 cQ)).2.2.2.2.1⟩
end
section
open Go Go.RowKit Go.Sort
attribute [local go_sem] mg A3 bB BX
def atT(B b:Nat)(W:J)(e:axa)(w':J):Prop:=∃ Y,Ct Y/\e=.returned (.agg Y)/\fP B w' b/\b3 b W w'
theorem QS{B b g1:Nat}{W w:J}{Y Z:Array F}(vz:Ct Y)(atP:fP B w b)(pW:b3 b W w)(ag:aG w g1 33 Z)(hb:b<g1)(hl:W.heap.size<=g1){fn:Func}(hf:fn.results=#[.cell 4 33]) :
 (∀ (tm:Array F) (_:tm.getD 4 E=.pointer (some ⟨g1,0,none⟩)),(results fn tm).run I (w.setRow g1 Y)=.ok (.agg Y) (w.setRow g1 Y))/\atT B b W (.returned (.agg Y)) (w.setRow g1 Y):=
 ⟨fun tm bd=>results_cell_row hf tm _ g1 33 Y (0,0) _ bd (ag.setRow Y) jC rfl (by rw[eW,(DP vz).1]),Y,vz,rfl,atP.row hb Y,pW.row hl Y⟩
theorem awh(B b:Nat)(W:J)(aw:fP B W b)(X:Array F)(dk:Ct X):M I 12 #[(yj b 0:Value),.agg X] W (atT B b W):=by
 have iH:=hide aw;have ava:=aw.1;have je:=aw.2.1;have bN:=hide dk;obtain⟨e,n,t,v,l,K,i1,i2,i3,i4,i5,cQ,JB⟩:=dk;obtain⟨o,L,H,rfl,br,dh⟩:=av7 cQ;obtain⟨f0,f1,f2,f3,f4,-,-⟩:=nX (e:=e) (n:=n) (t:=t) (v:=v) (l:=l) (lW o br.rc.size dh.rc.size);obtain⟨f5,f6,f7,f8⟩:=awc (e:=e) (n:=n) (t:=t) (v:=v) (l:=l) (o:=o) br.rc dh.rc;obtain⟨q1,ET,k7⟩:=HU (e:=e) (n:=n) (t:=t) (v:=v) (l:=l) (lW o br.rc.size dh.rc.size) 0;have c5:Hid (∀ x:Int,de x->Ct (X.setIfInBounds 1 (.int .i64 x))):=fun x hx=>by rw[JB,(HU (lW o br.rc.size dh.rc.size) x).1];exact⟨_,_,_,_,_,_,i1,hx,i3,i4,i5,cQ,rfl⟩
 have AO:Hid (∀ x:Int,de x->Ct (X.setIfInBounds 4 (.int .i64 x))):=fun x hx=>by rw[JB,(HU (lW o br.rc.size dh.rc.size) x).2.1];exact⟨_,_,_,_,_,_,i1,i2,i3,i4,hx,cQ,rfl⟩
 have cD:Hid (∀ x:Int,de x->Ct (X.setIfInBounds 0 (.int .i64 x))):=fun x hx=>by rw[JB,(HU (lW o br.rc.size dh.rc.size) x).2.2];exact⟨_,_,_,_,_,_,hx,i2,i3,i4,i5,cQ,rfl⟩
 have aus:Hid (∀ q:Bool,Ct (X.setIfInBounds 5 (.bool q))):=fun q=>by rw[JB,f8];exact⟨_,_,_,_,_,_,i1,i2,i3,i4,i5,aj2 q br dh,rfl⟩
 have auu:Hid (Ct (aI e n t v l (bT o H L))):=⟨_,_,_,_,_,_,i1,i2,i3,i4,i5,aj2 o dh br,rfl⟩;have atX:=hide br.rc;have Xv:=hide dh.rc;have auo:=hide JB;have i6:Hid (de 6):=⟨by omega,by omega⟩;have i7:Hid (de 4):=⟨by omega,by omega⟩;have i8:Hid (de 2):=⟨by omega,by omega⟩;have it:=hide i3;have eX:=(DP bN.out).1;have kf:=(DP bN.out).2.1;rw[<-JB] at f0 f1 f2 f3 f4 f5 f6 f7;have au1:=hide f0;have Sc:=hide f1;have awM:=hide f2;have avG:=hide f4;have au2:=hide f5;have au3:=hide f6;have au4:=hide f7;clear aw cQ br dh JB f0 f1 f2 f3 f4 f5 f6 f7 f8 q1 ET k7 i1 i2 i3 i4 i5 bN;have aq:=(aG.new W 33 X).alloc (.cells bL 33);have ag:=aG.new (W.alloc (.cells X 33)) 33 bL;rw[iY] at ag;have EE:=hide ((aA W (.cells X 33)).trans (aA _ (.cells bL 33)));obtain⟨bG,bD⟩:=aM (((W.alloc (.cells X 33)).alloc (.cells bL 33)));obtain⟨g0,af⟩:∃ g,W.heap.size=g:=⟨_,rfl⟩;rw[bD] at aq ag EE;rw[af] at aq ag;have r9:W.heap.size<=g0:=by omega
 have lj:W.heap.size<=g0+1:=by omega
 have aB:=hide bD;have bW:=hide af;clear bD af;go_enter Tryz.func12,Tryz.ntmps12
 go_upto_region 1 with fail
 unfold bL at aB;rw[aB.out,bW.out];clear aB bW;obtain⟨g1,SN⟩:∃ q,g0+1=q:=⟨_,rfl⟩;rw[SN] at ag |-;have lj:W.heap.size<=g1:=by omega
 have sG:b<g0:=by omega
 have sH:b<g1:=by omega
 have h01:g1≠g0:=by omega
 have T1:=hide (iH.out.ext EE.out);have oE:=hide (EE.out.c7 b);clear SN EE;have Jk:=hide aq;have atU:=hide ag;clear aq ag;go_upto_region 3 with (go_at_call 36;(with_reducible refine(lJ B b 6 _ i6.out T1.out).mono ?_);rintro e bp ⟨y,rfl,hy,tR,DE⟩;have kr:=hide tR;have uO:=hide (oE.out.trans DE);have aq:=hide (FF Jk.out DE (Nat.ne_of_gt sG));have ag:=hide (FF atU.out DE (Nat.ne_of_gt sH));clear tR DE)
 clear T1 oE Jk atU;have avt:y=0\/y=1\/y=2\/y=3\/y=4\/y=5:=by have h1:=hy.1;have h2:=hy.2.1 (by omega);omega
 clear hy;rcases avt with rfl|rfl|rfl|rfl|rfl|rfl
 ·go_upto_region 4 with fail
  go_upto_region 13 with (go_at_call 36;(with_reducible refine(lJ B b 4 _ i7.out kr.out).mono ?_);rintro e w3 ⟨x,rfl,hx,adL,Bg⟩;have oD:=hide adL;have w5:=hide (uO.out.trans Bg);have dZ:=hide (FF aq.out Bg (Nat.ne_of_gt sG));have pN:=hide (FF ag.out Bg (Nat.ne_of_gt sH));have mP:=hx.1;have j6:=hx.2.1 (by omega);have hw:IntKind.i64.wrap (x-1)=x-1:=(by rw[IntKind.wrap_i64];omega);obtain⟨z,hz⟩:=aM (x-1);rw[hz] at hw;have Tj:Hid (de z):=(by rw[<-hz];exact⟨by omega,by omega⟩);have hc:=(dZ.out.cell 1).trans Sc.out;have hf:=dZ.out.frozen 1;clear adL Bg hx)
  have jG:=dZ.out.VR 1 (.int .i64 z);have cZ:=pN.out.cI (p:=⟨g0,1,none⟩) h01 (.int .i64 z);have QY:=oD.out.store (k:=1) sG (.int .i64 z);have Jh:=w5.out.store (k:=1) r9 (.int .i64 z);have vz:=c5.out z Tj.out;generalize Eh:World.setCell _ _ _=bm at jG cZ QY Jh |-;generalize oJ:X.setIfInBounds _ _=Y at jG vz;clear Eh oJ;have QH:=dF jG jC rfl eW (DP vz).1;have vW:=IX cZ rfl (DP vz).1 (DP vz).2.1;have fin:=hide (QS vz QY Jh cZ sH lj (fn:=Tryz.f12) rfl);clear jG QY Jh;go_wp2_with (first|(refine dp (by kernel_rfl) rfl rfl QH ?_)|(refine kG (by kernel_rfl) rfl rfl rfl vW ?_))
  exact B7 (fin.out.1 _ (by rfl)) rfl fin.out.2
 ·go_upto_region 6 with fail
  have hc:=(aq.out.cell 0).trans au1.out;have hf:=aq.out.frozen 0;go_upto_region 13 with fail
  have jG:=aq.out.VR 0 (.int .i64 (-1));have cZ:=ag.out.cI (p:=⟨g0,0,none⟩) h01 (.int .i64 (-1));have QY:=kr.out.store (k:=0) sG (.int .i64 (-1));have Jh:=uO.out.store (k:=0) r9 (.int .i64 (-1));have vz:=cD.out (-1) ⟨by omega,by omega⟩;generalize Eh:World.setCell _ _ _=bm at jG cZ QY Jh |-;generalize oJ:X.setIfInBounds _ _=Y at jG vz;clear Eh oJ;have QH:=dF jG jC rfl eW (DP vz).1;have vW:=IX cZ rfl (DP vz).1 (DP vz).2.1;have fin:=hide (QS vz QY Jh cZ sH lj (fn:=Tryz.f12) rfl);clear jG QY Jh;go_wp2_with (first|(refine dp (by kernel_rfl) rfl rfl QH ?_)|(refine kG (by kernel_rfl) rfl rfl rfl vW ?_))
  exact B7 (fin.out.1 _ (by rfl)) rfl fin.out.2
 ·go_upto_region 8 with fail
  have auw:=hide (kr.out.ext (b5 _));have auy:=hide (uO.out.more (b5 _));have atj:=hide (aq.out.ext (b5 _));have aur:=hide (ag.out.ext (b5 _));have hl:=(atj.out.cell 2).trans awM.out;clear kr uO aq ag;go_region_law (go_simp;go_at_call 36;(with_reducible refine(lJ B b 2 _ i8.out auw.out).mono ?_);rintro e w3 ⟨x,rfl,hx,adL,Bg⟩;have oD:=hide adL;have w5:=hide (auy.out.trans Bg);have dZ:=hide (FF atj.out Bg (Nat.ne_of_gt sG));have pN:=hide (FF aur.out Bg (Nat.ne_of_gt sH));have mP:=hx.1;have j6:=hx.2.1 (by omega);obtain⟨z,hz⟩:=aM (IntKind.i64.wrap (t-x));have Tj:Hid (de z):=(by rw[<-hz,IntKind.wrap_i64];exact⟨by omega,by omega⟩);have awK:=(dZ.out.cell 2).trans awM.out;have hc:=(dZ.out.cell 4).trans avG.out;have hf:=dZ.out.frozen 4;clear adL Bg hx)
  all_goals
   go_upto_region 13 with fail
   have jG:=dZ.out.VR 4 (.int .i64 z);have cZ:=pN.out.cI (p:=⟨g0,4,none⟩) h01 (.int .i64 z);have QY:=oD.out.store (k:=4) sG (.int .i64 z);have Jh:=w5.out.store (k:=4) r9 (.int .i64 z);have vz:=AO.out z Tj.out;generalize Eh:World.setCell _ _ _=bm at jG cZ QY Jh |-;generalize oJ:X.setIfInBounds _ _=Y at jG vz;clear Eh oJ;have QH:=dF jG jC rfl eW (DP vz).1;have vW:=IX cZ rfl (DP vz).1 (DP vz).2.1;have fin:=hide (QS vz QY Jh cZ sH lj (fn:=Tryz.f12) rfl);clear jG QY Jh;go_wp2_with (first|(refine dp (by kernel_rfl) rfl rfl QH ?_)|(refine kG (by kernel_rfl) rfl rfl rfl vW ?_))
   exact B7 (fin.out.1 _ (by rfl)) rfl fin.out.2
 ·go_upto_region 10 with fail
  have hc:=(aq.out.cell 5).trans au2.out;have hf:=aq.out.frozen 5;go_upto_region 13 with fail
  have jG:=aq.out.VR 5 (.bool (!o));have cZ:=ag.out.cI (p:=⟨g0,5,none⟩) h01 (.bool (!o));have QY:=kr.out.store (k:=5) sG (.bool (!o));have Jh:=uO.out.store (k:=5) r9 (.bool (!o));have vz:=aus.out (!o);generalize Eh:World.setCell _ _ _=bm at jG cZ QY Jh |-;generalize oJ:X.setIfInBounds _ _=Y at jG vz;clear Eh oJ;have QH:=dF jG jC rfl eW (DP vz).1;have vW:=IX cZ rfl (DP vz).1 (DP vz).2.1;have fin:=hide (QS vz QY Jh cZ sH lj (fn:=Tryz.f12) rfl);clear jG QY Jh;go_wp2_with (first|(refine dp (by kernel_rfl) rfl rfl QH ?_)|(refine kG (by kernel_rfl) rfl rfl rfl vW ?_))
  exact B7 (fin.out.1 _ (by rfl)) rfl fin.out.2
 ·go_upto_region 12 with fail
  have Q3:=aq.out;have tX:=pH Q3 29 _ tt rfl 6 10 oP (by rw[eX];omega) L au3.out;have tY:=pH Q3 29 _ tt rfl 16 10 oP (by rw[eX];omega) H au4.out;rw[auo.out] at Q3;have fq:=awe Q3 atX.out Xv.out Xv.out;have e8:=awd (Q3.setRow (aI e n t v l (bT o H H))) Xv.out Xv.out atX.out;have jG:=(Q3.setRow (aI e n t v l (bT o H H))).setRow (aI e n t v l (bT o H L));have cZ:=(ag.out.uf (ds:=aI e n t v l (bT o H H)) h01).uf (ds:=aI e n t v l (bT o H L)) h01;have QY:=(kr.out.row sG (aI e n t v l (bT o H H))).row sG (aI e n t v l (bT o H L));have Jh:=(uO.out.row r9 (aI e n t v l (bT o H H))).row r9 (aI e n t v l (bT o H L));have vz:=auu.out;go_upto_region 13 with (first
   | (refine dp (by kernel_rfl) rfl rfl tX ?_)
   | (refine dp (by kernel_rfl) rfl rfl tY ?_)
   | (refine kG (by kernel_rfl) rfl rfl rfl fq ?_)
   | (refine kG (by kernel_rfl) rfl rfl rfl e8 ?_))
  generalize Eh:World.setRow (World.setRow _ _ _) _ _=bm at jG cZ QY Jh |-;generalize oJ:aI e n t v l (bT o H L)=Y at jG vz;clear Eh oJ;have QH:=dF jG jC rfl eW (DP vz).1;have vW:=IX cZ rfl (DP vz).1 (DP vz).2.1;have fin:=hide (QS vz QY Jh cZ sH lj (fn:=Tryz.f12) rfl);clear jG QY Jh;go_wp2_with (first|(refine dp (by kernel_rfl) rfl rfl QH ?_)|(refine kG (by kernel_rfl) rfl rfl rfl vW ?_))
  exact B7 (fin.out.1 _ (by rfl)) rfl fin.out.2
 ·go_upto_region 2 with fail
  go_upto_region 13 with (go_at_call 36;(with_reducible refine(lJ B b 2 _ i8.out kr.out).mono ?_);rintro e w3 ⟨x,rfl,hx,adL,Bg⟩;have oD:=hide adL;have w5:=hide (uO.out.trans Bg);have dZ:=hide (FF aq.out Bg (Nat.ne_of_gt sG));have pN:=hide (FF ag.out Bg (Nat.ne_of_gt sH));have mP:=hx.1;have j6:=hx.2.1 (by omega);have hw:IntKind.i64.wrap (1073741824+x)=1073741824+x:=(by rw[IntKind.wrap_i64];omega);obtain⟨z,hz⟩:=aM (1073741824+x);rw[hz] at hw;have Tj:Hid (de z):=(by rw[<-hz];exact⟨by omega,by omega⟩);have hc:=(dZ.out.cell 1).trans Sc.out;have hf:=dZ.out.frozen 1;clear adL Bg hx)
  have jG:=dZ.out.VR 1 (.int .i64 z);have cZ:=pN.out.cI (p:=⟨g0,1,none⟩) h01 (.int .i64 z);have QY:=oD.out.store (k:=1) sG (.int .i64 z);have Jh:=w5.out.store (k:=1) r9 (.int .i64 z);have vz:=c5.out z Tj.out;generalize Eh:World.setCell _ _ _=bm at jG cZ QY Jh |-;generalize oJ:X.setIfInBounds _ _=Y at jG vz;clear Eh oJ;have QH:=dF jG jC rfl eW (DP vz).1;have vW:=IX cZ rfl (DP vz).1 (DP vz).2.1;have fin:=hide (QS vz QY Jh cZ sH lj (fn:=Tryz.f12) rfl);clear jG QY Jh;go_wp2_with (first|(refine dp (by kernel_rfl) rfl rfl QH ?_)|(refine kG (by kernel_rfl) rfl rfl rfl vW ?_))
  exact B7 (fin.out.1 _ (by rfl)) rfl fin.out.2
theorem avD(X:Array F)(dk:Ct X)(x:Sa)(hx:pU x)(W:J):M I 14 #[.agg X,.agg (bO x.1 x.2)] W (aP (.bool true) W):=by
 obtain⟨eX,kf,_⟩:=DP dk;obtain⟨R,oI,ls,vz,hN,eM⟩:=auE dk hx;obtain⟨axM,axs,qr⟩:=DP vz;obtain⟨Y8,ms,gR,kd⟩:=auC dk;obtain⟨ok,kv,kw⟩:=auF dk;have av5:=hide qr;replace hN:Hid (∀ W,M I 38 #[.agg X,.agg (bO x.1 x.2)] W (gi W (fun z=>.tuple #[.agg R,z,.int .i64 oI]) ls)):=hN;replace eM:Hid (∀ W,M I 33 #[.agg X,.agg (bO x.1 x.2)] W (gi W (fun z=>.tuple #[.agg R,z,.int .i64 oI]) ls)):=eM;replace gR:Hid (∀ W,M I 39 #[.agg X] W (gi W (fun z=>.tuple #[z,.int .i64 Y8]) ms)):=gR;replace kd:Hid (∀ W,M I 40 #[.agg X] W (gi W (fun z=>.tuple #[z,.int .i64 Y8]) ms)):=kd;replace kv:=hide kv;replace kw:=hide kw;have q1:(oI==oI)=true:=by simp
 have k8:(Y8==Y8)=true:=by simp
 have HB:(ok==ok)=true:=by simp
 obtain⟨Y,oJ⟩:=aM (bO x.1 x.2);have N':Y.size=2:=by rw[<-oJ];rfl
 have ajX:Y.all (·.oneCell')=true:=by rw[<-oJ];exact aef _ _
 rw[oJ] at hN eM |-;clear dk vz oJ hx qr;have ak:=(aG.new W 33 X).alloc (.cells Y 23);have aq:=aG.new (W.alloc (.cells X 33)) 23 Y;rw[iY] at aq;have EE:=hide ((aA W (.cells X 33)).trans (aA _ (.cells Y 23)));obtain⟨bG,bD⟩:=aM (((W.alloc (.cells X 33)).alloc (.cells Y 23)));obtain⟨g0,af⟩:∃ g,W.heap.size=g:=⟨_,rfl⟩;rw[bD] at ak aq EE;rw[af] at ak aq;have lh:W.heap.size<=g0:=by omega
 have r9:W.heap.size<=g0+1:=by omega
 have aB:=hide bD;have bW:=hide af;clear bD af;go_enter Tryz.func14,Tryz.ntmps14
 go_upto_region 1 with fail
 rw[aB.out,bW.out];clear aB bW;obtain⟨g1,SN⟩:∃ q,g0+1=q:=⟨_,rfl⟩;rw[SN] at aq |-;have awL:W.heap.size<=g1:=by omega
 have awJ:g1<bG.heap.size:=aq.lt;clear lh r9;have Qa:Hid (∀ w,Ext bG w->(Instr.loadAt 33 (.pointer (some ⟨g0,0,none⟩))).run I w=.ok (.agg X) w):=hide (fun w h=>dF (ak.ext h) jC rfl eW eX);have Qu:Hid (∀ w,Ext bG w->(Instr.loadAt 23 (.pointer (some ⟨g1,0,none⟩))).run I w=.ok (.agg Y) w):=hide (fun w h=>dF (aq.ext h) xQ rfl xB N');have aj:=Qa.out bG (Ext.refl _);have ap:=Qu.out bG (Ext.refl _);have auz:Hid (Ext bG bG):=Ext.refl _;have aR:=hide ak;have dZ:=hide aq;clear ak aq SN;go_upto_region 2 with (first
  | (refine dp (by kernel_rfl) rfl rfl aj ?_)
  | (refine dp (by kernel_rfl) rfl rfl ap ?_)
  | (go_at_call 38;(with_reducible refine(hN.out _).mono ?_);rintro e v1 ⟨cU,aC,az,hJ,_,rfl,ox,bS⟩;have kq:=hide ox.tp;have I3:=hide hJ;have wz:=hide bS;have st:=IX (aG.new v1 33 bL) rfl axM axs;unfold bL at st;clear aj ap hJ ox bS)
  | (refine kG (by kernel_rfl) rfl rfl rfl st ?_))
 have bn:=(aG.new v1 33 bL).setRow R;have wA:Ext bG _:=jN ((wz.out).trans (aA v1 (.cells bL 33 (0,0)))) wz.out.size R;have auV:Ext v1 _:=jN (aA v1 (.cells bL 33 (0,0))) (Nat.le_refl _) R;unfold bL at bn wA auV;generalize gE:World.setRow _ _ R=aT at bn wA auV |-;generalize avg:v1.heap.size=g5 at bn |-;have WQ:=hide (auz.out.trans wA);replace kq:=hide (kq.out.ext auV);clear gE avg auV st;clear wA wz;have aj:=Qa.out aT WQ.out;have ap:=Qu.out aT WQ.out;go_upto_region 3 with (first
  | (refine dp (by kernel_rfl) rfl rfl aj ?_)
  | (refine dp (by kernel_rfl) rfl rfl ap ?_)
  | (go_at_call 33;(with_reducible refine(eM.out _).mono ?_);rintro e v2 ⟨jF,aW,aU,fT,_,rfl,oy,da⟩;have AG:=hide oy.tp;have ar2:=hide fT;have IZ:=hide da;have st:=IX (aG.new v2 33 bL) rfl axM axs;unfold bL at st;clear aj ap fT oy da)
  | (refine kG (by kernel_rfl) rfl rfl rfl st ?_))
 have aJ:=(aG.new v2 33 bL).setRow R;have uz:Ext aT _:=jN ((IZ.out).trans (aA v2 (.cells bL 33 (0,0)))) IZ.out.size R;have auI:Ext v2 _:=jN (aA v2 (.cells bL 33 (0,0))) (Nat.le_refl _) R;unfold bL at aJ uz auI;generalize aeO:World.setRow _ _ R=bp at aJ uz auI |-;generalize ajB:v2.heap.size=g8 at aJ |-;have Qz:=hide (WQ.out.trans uz);replace AG:=hide (AG.out.ext auI);clear aeO ajB auI st;have bn:=bn.ext uz;have kq:=hide (kq.out.ext uz);clear uz IZ WQ;have aj:=Qa.out bp Qz.out;have ap:=Qu.out bp Qz.out;go_upto_region 4 with (first
  | (refine dp (by kernel_rfl) rfl rfl aj ?_)
  | (go_at_call 39;(with_reducible refine(gR.out _).mono ?_);rintro e w3 ⟨nI,EG,a_,tT,_,rfl,O3,dw⟩;have QF:=hide O3.tp;have I4:=hide tT;have OH:=hide dw;have aj:=Qa.out w3 (Qz.out.trans dw);have ap:=Qu.out w3 (Qz.out.trans dw);clear tT O3 dw))
 have Xo:=hide (Qz.out.trans OH.out);have bn:=bn.ext OH.out;have kq:=hide (kq.out.ext OH.out);have aJ:=aJ.ext OH.out;have AG:=hide (AG.out.ext OH.out);clear OH Qz;go_upto_region 5 with (first
  | (refine dp (by kernel_rfl) rfl rfl aj ?_)
  | (go_at_call 40;(with_reducible refine(kd.out _).mono ?_);rintro e bZ ⟨ya,Ug,bK,iQ,_,rfl,QM,iF⟩;have QG:=hide QM.tp;have r4:=hide iQ;have qn:=hide iF;have aj:=Qa.out bZ (Xo.out.trans iF);have ap:=Qu.out bZ (Xo.out.trans iF);clear iQ QM iF))
 have ahz:=hide (Xo.out.trans qn.out);have bn:=bn.ext qn.out;have kq:=hide (kq.out.ext qn.out);have aJ:=aJ.ext qn.out;have AG:=hide (AG.out.ext qn.out);have QF:=hide (QF.out.ext qn.out);clear qn Xo;clear aj ap;have Qx:=hide (fun w (h:Ext bZ w)=>Ob cU jF aC az aU ls w (kq.out.ext h) (AG.out.ext h) I3.out.symm);have Qy:=hide (fun w (h:Ext bZ w)=>Ob nI ya EG a_ bK ms w (QF.out.ext h) (QG.out.ext h) I4.out.symm);obtain rfl:aW=aC:=ar2.out.trans I3.out.symm;obtain rfl:Ug=EG:=r4.out.trans I4.out.symm;have ak:=aR.out.ext ahz.out;clear kq AG QF QG I3 ar2 I4 r4 Qa Qu aR dZ hN eM gR kd;replace EE:=hide (EE.out.trans ahz.out);clear ahz;have yN:=av5.out;refine wp_region_quiet_below (by kernel_rfl) (by kernel_rfl) ?_;repeat (first|go_big_quiet_step (first|with_reducible exact dK (kv.out _)|with_reducible exact dK (kw.out _)|with_reducible exact dK (Qx.out _ (aX bZ _ _))|with_reducible exact dK (Qy.out _ (aX bZ _ _)))|(refine iE (by kernel_rfl) rfl rfl (fun w hw=>by obtain⟨⟨d,os⟩,rfl⟩:=hw;exact dF ((ak).ext (aX bZ d os)) jC rfl eW eX) ?_)|(refine iE (by kernel_rfl) rfl rfl (fun w hw=>by obtain⟨⟨d,os⟩,rfl⟩:=hw;exact dF ((bn).ext (aX bZ d os)) jC rfl eW axM) ?_)|(refine iE (by kernel_rfl) rfl rfl (fun w hw=>by obtain⟨⟨d,os⟩,rfl⟩:=hw;exact dF ((aJ).ext (aX bZ d os)) jC rfl eW axM) ?_)|quiet_step (first|with_reducible exact dK (kv.out _)|with_reducible exact dK (kw.out _)|with_reducible exact dK (Qx.out _ (aX bZ _ _))|with_reducible exact dK (Qy.out _ (aX bZ _ _))))
 refine B' ?_;intro _ bj;obtain⟨⟨aQ,osq⟩,cq⟩:=bj;subst cq;replace ak:=(ak).ext (aX bZ aQ osq);replace bn:=(bn).ext (aX bZ aQ osq);replace aJ:=(aJ).ext (aX bZ aQ osq);replace EE:=hide (EE.out.trans (aX bZ aQ osq));obtain⟨bp,eF⟩:∃ w,grow (aw5 bZ aQ) osq=w:=⟨_,rfl⟩;rw[eF] at EE ak bn aJ |-;clear eF yN;go_wp2_with fail
 go_ret;exact⟨rfl,EE.out⟩
theorem auD(e:Int):∃ (S:Array F) (oI:Int),Ct S/\(∀ w,M I 10 #[.int .i64 e] w (aP (.tuple #[.agg S,.int .i64 oI]) w))/\(∀ w,M I 11 #[.int .i64 e] w (aP (.tuple #[.agg S,.int .i64 oI]) w)):=by
 by_cases h:o5 e
 ·have he:(decide (0<=e)&&decide (e<=4611686018427387904))=true:=by rw[decide_eq_true h.1,decide_eq_true h.2];rfl
  have kp:Hid (∀ w,M I 34 #[.int .i64 e] w (aP (.bool true) w)):=fun w=>by have:=ajb e w;rw[he] at this;exact this
  have EA:Hid (∀ w,M I 35 #[.int .i64 e] w (aP (.bool true) w)):=fun w=>by have:=HI e w;rw[he] at this;exact this
  exact⟨aI e 0 0 0 0 z21,0,Tl (s:=none) h trivial,fun w=>N0 e w kp,fun w=>Oc e w EA⟩
 ·have he:(decide (0<=e)&&decide (e<=4611686018427387904))=false:=by
   rw[Bool.and_eq_false_iff,decide_eq_false_iff_not,decide_eq_false_iff_not];rcases Classical.em (0<=e) with h1|h1
   ·exact Or.inr fun h2=>h ⟨h1,h2⟩
   ·exact Or.inl h1
  have kp:Hid (∀ w,M I 34 #[.int .i64 e] w (aP (.bool false) w)):=fun w=>by have:=ajb e w;rw[he] at this;exact this
  have EA:Hid (∀ w,M I 35 #[.int .i64 e] w (aP (.bool false) w)):=fun w=>by have:=HI e w;rw[he] at this;exact this
  exact⟨bL,9,alh,fun w=>ai7 e w kp,fun w=>ajO e w EA⟩
theorem auG(x y:Int){a:Act}{o:aw4}{w:J}{p q:axb}(aL:o.op=.build 23 #[(0,p),(1,q)])(hp:a.eval p=.int .i64 x)(aO:a.eval q=.int .i64 y):mg I w (.agg (bO x y)) ((axc a.eval o).run I w):=
 pD (vs:=#[(0,.int .i64 x),(1,.int .i64 y)]) aL (by simp[hp,aO]) (by kernel_rfl)
theorem avE(X:Array F)(dk:Ct X)(x:Sa)(hx:pU x)(eps:Int)(y:Option aw6)(len cap:Nat)(W:J)(br:yq W y len cap)(Xn:Hid (∀ w,M I 13 #[] w (aP (.bool true) w))) :
 M I 3 #[.agg X,.agg (bO x.1 x.2),.int .i64 eps,.slice y len cap] W (lN true W):=by
 have bN:=hide dk;have Hx:=hide hx;have cz:=hide br;obtain⟨eX,kf,_⟩:=DP dk;obtain⟨S,oI,hS,hN,eM⟩:=auD eps;obtain⟨tn,zH,abU⟩:=DP hS;have av6:=hide abU;have xD:Hid (∀ {X:Array F}{x:Sa},Ct X->pU x->∀ w,M I 14 #[.agg X,.agg (bO x.1 x.2)] w (aP (.bool true) w)):=fun dk hx w=>avD _ dk _ hx w
 have iA:=hide (xD.out dk hx);replace hN:=hide hN;replace eM:=hide eM;have q1:(oI==oI)=true:=by simp
 obtain⟨Y,oJ⟩:=aM (bO x.1 x.2);have N':Y.size=2:=by rw[<-oJ];rfl
 have ajX:Y.all (·.oneCell')=true:=by rw[<-oJ];exact aef _ _
 have auY:Y[1]?=some (.int .i64 x.2):=by rw[<-oJ];rfl
 rw[oJ] at iA |-;have gB:=hide oJ;clear dk hx br hS abU oJ;have ag:=(aG.new W 33 X).alloc (.cells Y 23);have bn:=aG.new (W.alloc (.cells X 33)) 23 Y;rw[iY] at bn;have EE:=hide ((aA W (.cells X 33)).trans (aA _ (.cells Y 23)));obtain⟨bG,bD⟩:=aM (((W.alloc (.cells X 33)).alloc (.cells Y 23)));obtain⟨g0,af⟩:∃ g,W.heap.size=g:=⟨_,rfl⟩;rw[bD] at ag bn EE;rw[af] at ag bn;have lj:W.heap.size<=g0:=by omega
 have Xz:W.heap.size<=g0+1:=by omega
 have aB:=hide bD;have bW:=hide af;clear bD af;go_enter Tryz.func3,Tryz.ntmps3
 go_upto_region 1 with fail
 rw[aB.out,bW.out];clear aB bW;go_upto_region 2 with (go_at_call 8;(with_reducible refine(alc bG y len cap (cz.out.ext EE.out)).mono ?_);rintro e aT ⟨rfl,uM,bF⟩)
 obtain⟨b,hb⟩:=aM bG.heap.size;rw[hb] at uM |-;have avR:=ag.lt;have avS:=bn.lt;replace ag:=ag.ext bF;replace bn:=bn.ext bF;have b2:=hide (EE.out.trans bF);have Bb:b<=aT.heap.size:=by have:=uM.2.1;omega
 have avb:W.heap.size<=b:=by omega
 have Jl:g0≠b:=by omega
 have QV:g0+1≠b:=by omega
 clear bF hb EE avR avS;have aul:=trivial;go_upto_region 3 with (first
  | (go_at_call 9;(with_reducible refine(awi b b _ uM).mono ?_);rintro e bp ⟨HX,s,z,rfl,apS,hs,hz,tR,DE⟩;have kr:=hide tR;have uO:=hide DE;have cG:=hide (Tl apS hs);have af5:=hide hz;have ft:=DP cG.out;obtain⟨FE,ajy⟩:∃ C,mW HX s=C:=⟨_,rfl⟩;rw[ajy] at cG ft;obtain⟨Z,Ta⟩:=aM (bO z.1 z.2);have eQ:=hide Ta;have abY:=ft.1;have avJ:=ft.2.1;have alj:Z.size=2:=(by rw[<-Ta];rfl);have avL:Z.all (·.oneCell')=true:=(by rw[<-Ta];exact aef _ _);have pN:=hide (FF ag DE Jl);have jG:=hide (FF bn DE QV);have RD:=(aG.new bp 33 bL).ext (aA _ (.cells z2 23));have Jo:=aG.new (bp.alloc (.cells bL 33)) 23 z2;rw[iY] at Jo;have ame:=IX RD rfl abY avJ;have TF:=awa (Jo.uf (g':=bp.heap.size) (ds:=FE) (by omega)) rfl alj avL;rw[ajy,Ta];unfold bL at ame TF;unfold z2 at TF;clear RD Jo tR DE apS hs hz ajy Ta ft)
  | (refine kG (by kernel_rfl) rfl rfl rfl ame ?_)
  | (refine kG (by kernel_rfl) rfl rfl rfl TF ?_))
 have RD:=(aG.new bp 33 bL).ext (aA _ (.cells z2 23));have Jo:=aG.new (bp.alloc (.cells bL 33)) 23 z2;rw[iY] at Jo;have bu:=(RD.setRow FE).uf (g':=bp.heap.size+1) (ds:=Z) (by omega);have bE:=(Jo.uf (g':=bp.heap.size) (ds:=FE) (by omega)).setRow Z;have wA:Ext bp _:=jN (jN ((aA bp (.cells bL 33 (0,0))).trans (aA _ (.cells z2 23 (0,0)))) (Nat.le_refl _) FE) (Nat.le_succ _) Z;unfold bL z2 at bu bE wA;generalize aeP:World.setRow (World.setRow _ _ _) _ _=w3 at bu bE wA |-;have Sp:b<bp.heap.size:=kr.out.2.1;have LL:aT.heap.size<=bp.heap.size:=uO.out.2.2.2.1;have avi:=ag.lt;have avj:=bn.lt;generalize SP:bp.heap.size=g10 at bu bE Sp LL |-;obtain⟨g11,at4⟩:∃ q,g10+1=q:=⟨_,rfl⟩;rw[at4] at bE |-;obtain⟨g5,at5⟩:∃ q,g0+1=q:=⟨_,rfl⟩;rw[at5] at QV jG |-;have FW:aT.heap.size<=g10:=LL;have yv:aT.heap.size<=g11:=by omega
 have agx:g10≠b:=by omega
 have agI:g11≠b:=by omega
 replace ag:=pN.out.ext wA;clear bn;have bn:=jG.out.ext wA;replace uM:=kr.out.ext wA;have pW:=hide (uO.out.trans (wA.c7 b));clear aeP SP at4 at5 ame TF RD Jo pN jG kr uO wA avi avj lj Xz;have cP:=ag.lt;have Cl:=bn.lt;have fj:=bu.lt;have ji:=bE.lt;refine aut [.q,.q,.q,.q,.q,.al,.st 5,.q] [0,0,0,0,0,0,0,0] (fun R=>[.int .i64 eps,.tuple #[.agg S,.int .i64 oI],.tuple #[.agg S,.int .i64 oI],.agg S,.int .i64 oI,E,E,.int .i64 oI]) (fun _=>(.cells bL 33 (0,0))) (fun R _=>(.cells S 33 (0,0))) (fun _=>0) (QZ b b aT (oH [])) (fun k=>k=b) _ (fun R G=>{ tmps:=#[.agg X,.agg Y,.int .i64 eps,.slice y len cap,(yj g0 0:F),(yj g5 0:F),E,E,.bool false,(yj b 0:F),(yj g10 0:F),(yj g11 0:F),(yj (G 5) 0:F),.int .i64 oI,E,E,E,.slice y len cap,(yj b 0:F),.tuple #[.agg FE,.agg Z],(yj b 0:F),.tuple #[.agg FE,.agg Z],.agg FE,.agg Z,.tuple #[.agg S,.int .i64 oI],.int .i64 eps,.tuple #[.agg S,.int .i64 oI],.agg S,.int .i64 oI,E,E,E,E,E,E,E,E,E,E,E,E,E,E,E,E,E,E,E,E,E,E,E,E,E,E,E,E,E,E,E,E,E,E,E,E,E,E,E,E,E,E,E,E,E,E,E,E,E],defers:=[] }) (by intro R G;kernel_rfl) (fun _=>rfl) (by kernel_rfl) (by kernel_rfl) (by kernel_rfl) rfl (fun _=>rfl) (fun k e=>by subst e;exact uM.2.1) (by simp) (by simp) (by simp) (fun R b1=>⟨fun _=>rfl,fun _=>rfl,fun _=>rfl,fun _=>rfl,fun _=>rfl,fun _=>rfl,fun _=>rfl,fun _=>rfl,trivial⟩) (fun _ _ _ _=>rfl) aeH ⟨uM,pW.out,oH.zero⟩ ?jA ?jm;case jA =>
  refine⟨aH,d_ hN,aH,aH,aH,?_,?_,aH,trivial⟩
  ·refine ia ?pM ?iR ?j9 ?jo ?_;case pM=>exact(.cells bL 33 (0,0))
   case iR=>exact rfl
   case j9=>exact rfl
   case jo=>exact cu rfl
   intro ρ w';go_simp;exact⟨rfl,rfl⟩
  ·refine ib (j:=5) (Ty:=?tK) (p:=?ud) (x:=?ur) ?lZ ?ld ?jE ?gA ?me ?hO ?mb ?gx ?lX ?_;case gA=>exact rfl
   case me=>exact rfl
   case lZ=>exact(fun R=>(.cells S 33 (0,0)))
   case ld=>exact(.cells bL 33 (0,0))
   case jE=>exact(fun R=>.agg S)
   case hO=>exact(fun R=>rfl)
   case mb=>exact rfl
   case gx=>exact cu rfl
   case lX =>
    intro R;kernel_rfl
   intro R s ρ w g aw hs hp hx af hz;exact⟨hQ rfl hp hx hz eW (tn) (zH),fun aT hF=>TX aw hF (Nat.le_trans pW.out.2.2.2.1 af) (by have:=uM.2.1;omega) (by have:=uM.1;have:=uM.2.1;omega)⟩
 case jm =>
  intro cY R G cN ae bH atQ;have hS:=ae.same;have aZ:=ae.holds;have bf:=pW.out.2.2.2.1;replace ag:=ag.aY hS Jl (by simp);replace bn:=bn.aY hS QV (by simp);replace bu:=bu.aY hS agx (by simp);replace bE:=bE.aY hS agI (by simp);have h_:aG cN (G 5) 33 S:=(ae.eV 6 (List.mem_range.2 (show 6<8 by decide)) 5 rfl).2.2;have LN:=(ae.made 5 (List.mem_range.2 (show 5<8 by decide)) rfl).1;have Xw:aT.heap.size<=G 5:=Nat.le_trans bf LN;have ati:G 5≠b:=by have:=uM.2.1;omega
  have ag8:g0≠G 5:=by omega
  have awT:g5≠G 5:=by omega
  have agQ:g10≠G 5:=by omega
  have aqv:g11≠G 5:=by omega
  replace uM:=aZ.1;replace pW:=hide aZ.2.1;clear hS bf aZ ae cP Cl fj ji;dsimp only at atQ;subst atQ;generalize G 5=g12 at *;go_upto_region 4 with fail
  have cP:=ag.lt;have Cl:=bn.lt;have fj:=bu.lt;have ji:=bE.lt;have ni:=h_.lt;refine aut [.q,.q,.q,.q,.q,.al,.st 5,.q] [0,0,0,0,0,0,0,0] (fun R=>[.int .i64 eps,.tuple #[.agg S,.int .i64 oI],.tuple #[.agg S,.int .i64 oI],.agg S,.int .i64 oI,E,E,.int .i64 oI]) (fun _=>(.cells bL 33 (0,0))) (fun R _=>(.cells S 33 (0,0))) (fun _=>0) (QZ b b aT (oH [])) (fun k=>k=b) _ (fun R G=>{ tmps:=#[.agg X,.agg Y,.int .i64 eps,.slice y len cap,(yj g0 0:F),(yj g5 0:F),E,E,.bool false,(yj b 0:F),(yj g10 0:F),(yj g11 0:F),(yj g12 0:F),.int .i64 oI,(yj (G 5) 0:F),.int .i64 oI,E,.slice y len cap,(yj b 0:F),.tuple #[.agg FE,.agg Z],(yj b 0:F),.tuple #[.agg FE,.agg Z],.agg FE,.agg Z,.tuple #[.agg S,.int .i64 oI],.int .i64 eps,.tuple #[.agg S,.int .i64 oI],.agg S,.int .i64 oI,.tuple #[.agg S,.int .i64 oI],.int .i64 eps,.tuple #[.agg S,.int .i64 oI],.agg S,.int .i64 oI,E,E,E,E,E,E,E,E,E,E,E,E,E,E,E,E,E,E,E,E,E,E,E,E,E,E,E,E,E,E,E,E,E,E,E,E,E,E,E,E,E,E,E,E],defers:=[] }) (by intro R G;kernel_rfl) (fun _=>rfl) (by kernel_rfl) (by kernel_rfl) (by kernel_rfl) rfl (fun _=>rfl) (fun k e=>by subst e;exact uM.2.1) (by simp) (by simp) (by simp) (fun R b1=>⟨fun _=>rfl,fun _=>rfl,fun _=>rfl,fun _=>rfl,fun _=>rfl,fun _=>rfl,fun _=>rfl,fun _=>rfl,trivial⟩) (fun _ _ _ _=>rfl) aeH ⟨uM,pW.out,oH.zero⟩ ?EP ?C2;case EP =>
   refine⟨aH,d_ eM,aH,aH,aH,?_,?_,aH,trivial⟩
   ·refine ia ?awz ?LU ?afx ?Kw ?_;case awz=>exact(.cells bL 33 (0,0))
    case LU=>exact rfl
    case afx=>exact rfl
    case Kw=>exact cu rfl
    intro ρ w';go_simp;exact⟨rfl,rfl⟩
   ·refine ib (j:=5) (Ty:=?Jg) (p:=?N5) (x:=?PT) ?yY ?awA ?tv ?ob ?zI ?sX ?zD ?n9 ?yU ?_;case ob=>exact rfl
    case zI=>exact rfl
    case yY=>exact(fun R=>(.cells S 33 (0,0)))
    case awA=>exact(.cells bL 33 (0,0))
    case tv=>exact(fun R=>.agg S)
    case sX=>exact(fun R=>rfl)
    case zD=>exact rfl
    case n9=>exact cu rfl
    case yU =>
     intro R;kernel_rfl
    intro R s ρ w g aw hs hp hx af hz;exact⟨hQ rfl hp hx hz eW (tn) (zH),fun aT hF=>TX aw hF (Nat.le_trans pW.out.2.2.2.1 af) (by have:=uM.2.1;omega) (by have:=uM.1;have:=uM.2.1;omega)⟩
  case C2 =>
   intro cY R G Fj ae bH atQ;have hS:=ae.same;have aZ:=ae.holds;have bf:=pW.out.2.2.2.1;replace ag:=ag.aY hS Jl (by simp);replace bn:=bn.aY hS QV (by simp);replace bu:=bu.aY hS agx (by simp);replace bE:=bE.aY hS agI (by simp);replace h_:=h_.aY hS ati (by simp);have gV:aG Fj (G 5) 33 S:=(ae.eV 6 (List.mem_range.2 (show 6<8 by decide)) 5 rfl).2.2;have LO:=(ae.made 5 (List.mem_range.2 (show 5<8 by decide)) rfl).1;have Xx:aT.heap.size<=G 5:=Nat.le_trans bf LO;have auq:G 5≠b:=by have:=uM.2.1;omega
   have ag9:g0≠G 5:=by omega
   have awU:g5≠G 5:=by omega
   have agR:g10≠G 5:=by omega
   have aqw:g11≠G 5:=by omega
   have agU:g12≠G 5:=by omega
   replace uM:=aZ.1;replace pW:=hide aZ.2.1;clear hS bf aZ ae cP Cl fj ji ni;dsimp only at atQ;subst atQ;generalize G 5=g14 at *;have at8:=dF bu jC rfl eW abY;have awH:=uM.2.1;go_upto_region 6 with (first
    | (refine dp (by kernel_rfl) rfl rfl at8 ?_)
    | (go_at_call 12;(with_reducible refine(awh b b _ uM FE cG.out).mono ?_);rintro e cN ⟨HO,Zg,rfl,adL,Bg⟩;have w5:=hide Bg;have TY:=hide Zg;have ali:=(DP Zg).1;have avK:=(DP Zg).2.1;have st:=IX (aG.new cN 33 bL) rfl ali avK;unfold bL at st;clear at8 adL Bg Zg)
    | (refine kG (by kernel_rfl) rfl rfl rfl st ?_))
   have ek:=(aG.new cN 33 bL).setRow HO;have uz:Ext cN _:=jN (aA cN (.cells bL 33 (0,0))) (Nat.le_refl _) HO;unfold bL at ek uz;generalize Eh:World.setRow _ _ HO=B4 at ek uz |-;generalize ave:cN.heap.size=g16 at ek |-;replace ag:=(FF ag w5.out Jl).ext uz;replace bn:=(FF bn w5.out QV).ext uz;replace bu:=(FF bu w5.out agx).ext uz;replace bE:=(FF bE w5.out agI).ext uz;replace h_:=(FF h_ w5.out ati).ext uz;replace gV:=(FF gV w5.out auq).ext uz;have Aw:=hide ((((pW.out.trans w5.out).trans (uz.c7 b)).ext b2.out avb));clear Eh ave st uz w5 pW uM;obtain⟨lb,iP,flb⟩:=av8 TY.out;obtain⟨fb,l3⟩:∃ q,IntKind.i64.wrap (lb+1)=q:=⟨_,rfl⟩;have at7:de fb:=by rw[<-l3,IntKind.wrap_i64];exact⟨by omega,by omega⟩
   have bQ:=xD.out cG.out af5.out;have bY:=xD.out cG.out Hx.out;have cX:=xD.out TY.out af5.out;have ev:=hide (xD.out (x:=(fb,x.2)) TY.out ⟨at7,Hx.out.2⟩);rw[eQ.out] at bQ cX;rw[gB.out] at bY;replace bQ:=hide bQ;replace bY:=hide bY;replace cX:=hide cX;clear iP at7 cG af5 Hx TY xD bN cz gB eQ;have EE:Hid (Ext B4 B4):=Ext.refl _;have cP:=ag.lt;have Cl:=bn.lt;have fj:=bu.lt;have ji:=bE.lt;have ni:=h_.lt;have o1:=gV.lt;have r8:=ek.lt;refine aut [.q,.q,.q,.q,.q,.q,.q,.q,.q,.q,.q,.q,.q,.q,.q,.q,.q,.q,.q,.q,.q,.q,.q,.q,.q,.q,.q,.q,.q,.q,.q,.q,.q,.q,.q,.q,.q,.q,.q,.q,.q,.q] [0,0,0,0,0,0,0,0,0,0,0,0,0,0,0,0,0,0,0,0,0,0,0,0,0,0,0,0,0,0,0,0,0,0,0,0,0,0,0,0,0,0] (fun R=>[.bool true,.bool true,.agg S,.agg S,.bool true,.bool true,.bool true,.int .i64 oI,.int .i64 oI,.bool true,.bool true,.bool true,.agg X,.agg Y,.bool true,.bool true,.bool true,.agg FE,.agg Z,.bool true,.bool true,.bool true,.agg FE,.agg Y,.bool true,.bool true,.bool true,.agg HO,.agg Z,.bool true,.bool true,.bool true,.agg HO,(yj g16 4:Value),.int .i64 lb,.int .i64 fb,(yj g5 1:Value),.int .i64 x.2,.agg (bO fb x.2),.bool true,.bool true,.bool true]) (fun _=>(.cells #[] 0 (0,0))) (fun R _=>(.cells #[] 0 (0,0))) (fun _=>0) (dA B4) (fun _=>False) _ (fun R G=>{ tmps:=#[.agg X,.agg Y,.int .i64 eps,.slice y len cap,(yj g0 0:F),(yj g5 0:F),E,E,.bool true,(yj b 0:F),(yj g10 0:F),(yj g11 0:F),(yj g12 0:F),.int .i64 oI,(yj g14 0:F),.int .i64 oI,(yj g16 0:F),.slice y len cap,(yj b 0:F),.tuple #[.agg FE,.agg Z],(yj b 0:F),.tuple #[.agg FE,.agg Z],.agg FE,.agg Z,.tuple #[.agg S,.int .i64 oI],.int .i64 eps,.tuple #[.agg S,.int .i64 oI],.agg S,.int .i64 oI,.tuple #[.agg S,.int .i64 oI],.int .i64 eps,.tuple #[.agg S,.int .i64 oI],.agg S,.int .i64 oI,(yj b 0:F),.agg FE,.agg HO,.bool true,.bool true,.agg S,.agg S,.bool true,.bool true,.bool true,.int .i64 oI,.int .i64 oI,.bool true,.bool true,.bool true,.agg X,.agg Y,.bool true,.bool true,.bool true,.agg FE,.agg Z,.bool true,.bool true,.bool true,.agg FE,.agg Y,.bool true,.bool true,.bool true,.agg HO,.agg Z,.bool true,.bool true,.bool true,.agg HO,(yj g16 4:F),.int .i64 lb,.int .i64 fb,(yj g5 1:F),.int .i64 x.2,.agg (bO fb x.2),.bool true,.bool true],defers:=[] }) (by intro R G;kernel_rfl) (fun _=>rfl) (by kernel_rfl) (by kernel_rfl) (by kernel_rfl) rfl (fun _=>rfl) (fun _ h=>h.elim) (fun _ _ h=>h) (by simp) (by simp) (fun R b1=>⟨fun _=>rfl,fun _=>rfl,fun _=>rfl,fun _=>rfl,fun _=>rfl,fun _=>rfl,fun _=>rfl,fun _=>rfl,fun _=>rfl,fun _=>rfl,fun _=>rfl,fun _=>rfl,fun _=>rfl,fun _=>rfl,fun _=>rfl,fun _=>rfl,fun _=>rfl,fun _=>rfl,fun _=>rfl,fun _=>rfl,fun _=>rfl,fun _=>rfl,fun _=>rfl,fun _=>rfl,fun _=>rfl,fun _=>rfl,fun _=>rfl,fun _=>rfl,fun _=>rfl,fun _=>rfl,fun _=>rfl,fun _=>rfl,fun _=>rfl,fun _=>rfl,fun _=>rfl,fun _=>rfl,fun _=>rfl,fun _=>rfl,fun _=>rfl,fun _=>rfl,fun _=>rfl,fun _=>rfl,trivial⟩) (fun _ _ _ _=>rfl) dH EE.out ?ah9 ?aaW;case ah9 =>
    refine⟨d_ Xn,aH,?_,?_,?_,aH,aH,?_,?_,?_,aH,aH,?_,?_,?_,aH,aH,?_,?_,?_,aH,aH,?_,?_,?_,aH,aH,?_,?_,?_,aH,aH,?_,?_,?_,?_,?_,?_,?_,?_,aH,aH,trivial⟩
    ·refine eL ?amQ ?LV ?ME ?Kx ?_;case LV=>exact rfl
     case amQ=>exact(fun R=>.agg S)
     case ME=>exact(fun R=>rfl)
     case Kx=>(refine du rfl ?_;intro R;kernel_rfl)
     intro R s w' aw hs hw ha;have L:=dF (h_.aY hw (fun h=>h) (by simp)) jC rfl eW tn;refine e7 rfl ?_ L;kernel_rfl
    ·refine eL ?Pg ?DZ ?Ev ?Dg ?_;case DZ=>exact rfl
     case Pg=>exact(fun R=>.agg S)
     case Ev=>exact(fun R=>rfl)
     case Dg=>(refine du rfl ?_;intro R;kernel_rfl)
     intro R s w' aw hs hw ha;have L:=dF (gV.aY hw (fun h=>h) (by simp)) jC rfl eW tn;refine e7 rfl ?_ L;kernel_rfl
    ·refine eL ?Ph ?LW ?MF ?Ky ?_;case LW=>exact rfl
     case Ph=>exact(fun R=>.bool true)
     case MF=>exact(fun R=>rfl)
     case Ky=>(refine du rfl ?_;intro R;kernel_rfl)
     intro R s w' aw hs hw ha;have L:=av6.out w';refine N7 rfl ?_ ?_ (Kf _ _ (by kernel_rfl) _ _ _ _ w') L
     ·kernel_rfl
     ·kernel_rfl
    ·refine eL ?axV ?aei ?aw8 ?ab1 ?_;case aei=>exact rfl
     case axV=>exact(fun R=>.int .i64 oI)
     case aw8=>exact(fun R=>rfl)
     case ab1=>(refine du rfl ?_;intro R;kernel_rfl)
     intro R s w' aw hs hw ha;go_simp
    ·refine eL ?axW ?D0 ?MG ?Dh ?_;case D0=>exact rfl
     case axW=>exact(fun R=>.int .i64 oI)
     case MG=>exact(fun R=>rfl)
     case Dh=>(refine du rfl ?_;intro R;kernel_rfl)
     intro R s w' aw hs hw ha;go_simp
    ·refine eL ?Fh ?vH ?vN ?vi ?_;case vH=>exact rfl
     case Fh=>exact(fun R=>.bool true)
     case vN=>exact(fun R=>rfl)
     case vi=>(refine du rfl ?_;intro R;kernel_rfl)
     intro R s w' aw hs hw ha;go_simp
    ·refine eL ?axX ?aw0 ?aw9 ?awP ?_;case aw0=>exact rfl
     case axX=>exact(fun R=>.agg X)
     case aw9=>exact(fun R=>rfl)
     case awP=>(refine du rfl ?_;intro R;kernel_rfl)
     intro R s w' aw hs hw ha;have L:=dF (ag.aY hw (fun h=>h) (by simp)) jC rfl eW eX;refine e7 rfl ?_ L;kernel_rfl
    ·refine eL ?axY ?aej ?afC ?ab2 ?_;case aej=>exact rfl
     case axY=>exact(fun R=>.agg Y)
     case afC=>exact(fun R=>rfl)
     case ab2=>(refine du rfl ?_;intro R;kernel_rfl)
     intro R s w' aw hs hw ha;have L:=dF (bn.aY hw (fun h=>h) (by simp)) xQ rfl xB N';refine e7 rfl ?_ L;kernel_rfl
    ·refine eL ?Pk ?D2 ?Ex ?Dj ?_;case D2=>exact rfl
     case Pk=>exact(fun R=>.bool true)
     case Ex=>exact(fun R=>rfl)
     case Dj=>(refine du rfl ?_;intro R;kernel_rfl)
     intro R s w' aw hs hw ha;go_simp;exact iA.out w'
    ·refine eL ?amU ?ael ?afE ?ab4 ?_;case ael=>exact rfl
     case amU=>exact(fun R=>.agg FE)
     case afE=>exact(fun R=>rfl)
     case ab4=>(refine du rfl ?_;intro R;kernel_rfl)
     intro R s w' aw hs hw ha;have L:=dF (bu.aY hw (fun h=>h) (by simp)) jC rfl eW abY;refine e7 rfl ?_ L;kernel_rfl
    ·refine eL ?amV ?aem ?afF ?ab5 ?_;case aem=>exact rfl
     case amV=>exact(fun R=>.agg Z)
     case afF=>exact(fun R=>rfl)
     case ab5=>(refine du rfl ?_;intro R;kernel_rfl)
     intro R s w' aw hs hw ha;have L:=dF (bE.aY hw (fun h=>h) (by simp)) xQ rfl xB alj;refine e7 rfl ?_ L;kernel_rfl
    ·refine eL ?awn ?LZ ?MJ ?KB ?_;case LZ=>exact rfl
     case awn=>exact(fun R=>.bool true)
     case MJ=>exact(fun R=>rfl)
     case KB=>(refine du rfl ?_;intro R;kernel_rfl)
     intro R s w' aw hs hw ha;go_simp;exact bQ.out w'
    ·refine eL ?awo ?avm ?avw ?au5 ?_;case avm=>exact rfl
     case awo=>exact(fun R=>.agg FE)
     case avw=>exact(fun R=>rfl)
     case au5=>(refine du rfl ?_;intro R;kernel_rfl)
     intro R s w' aw hs hw ha;have L:=dF (bu.aY hw (fun h=>h) (by simp)) jC rfl eW abY;refine e7 rfl ?_ L;kernel_rfl
    ·refine eL ?awp ?L1 ?ML ?KD ?_;case L1=>exact rfl
     case awp=>exact(fun R=>.agg Y)
     case ML=>exact(fun R=>rfl)
     case KD=>(refine du rfl ?_;intro R;kernel_rfl)
     intro R s w' aw hs hw ha;have L:=dF (bn.aY hw (fun h=>h) (by simp)) xQ rfl xB N';refine e7 rfl ?_ L;kernel_rfl
    ·refine eL ?Pn ?D3 ?Ey ?Dk ?_;case D3=>exact rfl
     case Pn=>exact(fun R=>.bool true)
     case Ey=>exact(fun R=>rfl)
     case Dk=>(refine du rfl ?_;intro R;kernel_rfl)
     intro R s w' aw hs hw ha;go_simp;exact bY.out w'
    ·refine eL ?axZ ?avf ?avk ?avc ?_;case avf=>exact rfl
     case axZ=>exact(fun R=>.agg HO)
     case avk=>exact(fun R=>rfl)
     case avc=>(refine du rfl ?_;intro R;kernel_rfl)
     intro R s w' aw hs hw ha;have L:=dF (ek.aY hw (fun h=>h) (by simp)) jC rfl eW ali;refine e7 rfl ?_ L;kernel_rfl
    ·refine eL ?ax0 ?aw1 ?aw_ ?awQ ?_;case aw1=>exact rfl
     case ax0=>exact(fun R=>.agg Z)
     case aw_=>exact(fun R=>rfl)
     case awQ=>(refine du rfl ?_;intro R;kernel_rfl)
     intro R s w' aw hs hw ha;have L:=dF (bE.aY hw (fun h=>h) (by simp)) xQ rfl xB alj;refine e7 rfl ?_ L;kernel_rfl
    ·refine eL ?awq ?avn ?avx ?au6 ?_;case avn=>exact rfl
     case awq=>exact(fun R=>.bool true)
     case avx=>exact(fun R=>rfl)
     case au6=>(refine du rfl ?_;intro R;kernel_rfl)
     intro R s w' aw hs hw ha;go_simp;exact cX.out w'
    ·refine eL ?amY ?aep ?afI ?ab8 ?_;case aep=>exact rfl
     case amY=>exact(fun R=>.agg HO)
     case afI=>exact(fun R=>rfl)
     case ab8=>(refine du rfl ?_;intro R;kernel_rfl)
     intro R s w' aw hs hw ha;have L:=dF (ek.aY hw (fun h=>h) (by simp)) jC rfl eW ali;refine e7 rfl ?_ L;kernel_rfl
    ·refine eL ?awr ?avo ?avy ?au7 ?_;case avo=>exact rfl
     case awr=>exact(fun R=>.pointer (some ⟨g16,4,none⟩))
     case avy=>exact(fun R=>rfl)
     case au7=>(refine du rfl ?_;intro R;kernel_rfl)
     intro R s w' aw hs hw ha;go_simp
    ·refine eL ?amZ ?aeq ?afJ ?ab9 ?_;case aeq=>exact rfl
     case amZ=>exact(fun R=>.int .i64 lb)
     case afJ=>exact(fun R=>rfl)
     case ab9=>(refine du rfl ?_;intro R;kernel_rfl)
     intro R s w' aw hs hw ha;have cc:=((show aG w' g16 _ HO from ek.aY hw (fun h=>h) (by simp)).cell 4).trans (flb);go_simp
    ·refine eL ?awt ?aer ?afK ?ab_ ?_;case aer=>exact rfl
     case awt=>exact(fun R=>.int .i64 fb)
     case afK=>exact(fun R=>rfl)
     case ab_=>(refine du rfl ?_;intro R;kernel_rfl)
     intro R s w' aw hs hw ha;go_simp
    ·refine eL ?am0 ?aes ?afL ?ab' ?_;case aes=>exact rfl
     case am0=>exact(fun R=>.pointer (some ⟨g5,1,none⟩))
     case afL=>exact(fun R=>rfl)
     case ab'=>(refine du rfl ?_;intro R;kernel_rfl)
     intro R s w' aw hs hw ha;go_simp
    ·refine eL ?ax1 ?aw2 ?aw' ?awR ?_;case aw2=>exact rfl
     case ax1=>exact(fun R=>.int .i64 x.2)
     case aw'=>exact(fun R=>rfl)
     case awR=>(refine du rfl ?_;intro R;kernel_rfl)
     intro R s w' aw hs hw ha;have cc:=((show aG w' g5 _ Y from bn.aY hw (fun h=>h) (by simp)).cell 1).trans (auY);go_simp
    ·refine eL ?awu ?avp ?avz ?au8 ?_;case avp=>exact rfl
     case awu=>exact(fun R=>.agg (bO fb x.2))
     case avz=>exact(fun R=>rfl)
     case au8=>(refine du rfl ?_;intro R;kernel_rfl)
     intro R s w' aw hs hw ha;refine auG fb x.2 rfl ?_ ?_
     ·kernel_rfl
     ·kernel_rfl
    ·refine eL ?awv ?avq ?avA ?au9 ?_;case avq=>exact rfl
     case awv=>exact(fun R=>.bool true)
     case avA=>exact(fun R=>rfl)
     case au9=>(refine du rfl ?_;intro R;kernel_rfl)
     intro R s w' aw hs hw ha;go_simp;exact ev.out w'
   case aaW =>
    intro cY R G anf ae bH atQ;have hS:=ae.same;have aZ:=ae.holds;have bf:=EE.out.size;replace ag:=ag.aY hS (fun h=>h) (by simp);replace bn:=bn.aY hS (fun h=>h) (by simp);replace bu:=bu.aY hS (fun h=>h) (by simp);replace bE:=bE.aY hS (fun h=>h) (by simp);replace h_:=h_.aY hS (fun h=>h) (by simp);replace gV:=gV.aY hS (fun h=>h) (by simp);replace ek:=ek.aY hS (fun h=>h) (by simp);replace EE:=hide (show Ext _ _ from aZ);clear hS bf aZ ae cP Cl fj ji ni o1 r8;dsimp only at atQ;subst atQ;go_wp2_with fail
    go_ret;refine⟨?_,Aw.out.trans EE.out⟩;kernel_rfl
end
end Go.Proofs.YtojbopibfflnoaaGreat
