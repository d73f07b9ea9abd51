/- Facts. -/
import Derived.Test.YtojbopibfflnoaaGreatPrY36
import Derived.Test.YtojbopibfflnoaaGreatPrY38
import Derived.Test.YtojbopibfflnoaaGreatPrY39
import Derived.Shelf.Strconv.Itoa0
import Derived.Deep.RegionLaw
namespace Go.Proofs.YtojbopibfflnoaaGreat
open Go renaming undef → m, World → z, Value → r, Calls → B, Operand → axb, Oper → aw4, Addr → aw6, execOp → axc
open _root_.Go.Proofs.Tryz renaming prog → y
set_option linter.unusedVariables false
set_option linter.unusedSimpArgs false
set_option maxHeartbeats 16000000
set_option maxRecDepth 100000
section
open Go Go.RowKit Go.Sort
attribute [local go_sem] mg A3 bB BX
structure Aq (eps:Int) (l:List Sa) (g:Nat) (k9:z) (j:Nat) (w:z):Prop where
 x:∃ di cM c6,aG w g 86 (cV (mW eps (gS eps none (l.take j))) (.slice di cM c6))/\eA.Own k9.heap.size w (.slice di cM c6) ((jl eps none (l.take j)).map gp)/\cM=((jl eps none (l.take j)).map gp).length/\cM<=c6/\(Value.slice di cM c6).ownBlock≠some g
 u:b3 g k9 w
theorem Aq.go{eps:Int}{l:List Sa}{g:Nat}{k9:z}{j:Nat}{w w':z}{di:Option aw6}{cM c6:Nat}{x:Sa}(hx:l[j]?=some x)(hu:b3 g k9 w)(bF:eA.Own k9.heap.size w (.slice di cM c6) ((jl eps none (l.take j)).map gp))(h:wy g k9.heap.size w (mW eps (gZ eps (gS eps none (l.take j)) x).1) (.slice di cM c6) ((jl eps none (l.take j)).map gp++(gZ eps (gS eps none (l.take j)) x).2.map gp) (.returned (.tuple #[])) w'):Aq eps l g k9 (j+1) w':=by
 obtain⟨_,A,n,c,h1,h2,h3,h4,h5,h6⟩:=h;obtain⟨d1,d2⟩:=RO eps hx;refine⟨⟨A,n,c,by rw[d2];exact h3,by rw[d1];exact h4,by rw[d1];exact h1,h2,h5⟩,⟨h6.1.trans hu.1,h6.2.1.trans hu.2.1,h6.2.2.1.trans hu.2.2.1,Nat.le_trans hu.2.2.2.1 h6.2.2.2.1,fun k aE hn=>(h6.2.2.2.2 k (Nat.lt_of_lt_of_le aE hu.2.2.2.1) (fun e=>e.elim hn (fun e=>by have:=(bF.1.lt k e).1;omega))).trans (hu.2.2.2.2 k aE hn)⟩⟩
theorem aiN(A:Option aw6)(n c:Nat)(l:List Sa)(eps:Int)(W:z)(hl:fK W A l)(hn:l.length=n)(fT:n<=8796093022000)(fl:Hid (∀ w,B y 34 #[.int .i64 eps] w (aP (.bool false) w))) :
 B y 17 #[.slice A n c,.int .i64 eps] W (gi W (mk2 9) []):=by
 have ks:=hide (fun w=>ai7 eps w fl);clear hl hn fT fl;have EE:Hid (Ext W W):=Ext.refl _;go_enter Tryz.func17,Tryz.ntmps17
 go_upto_region 1 with fail
 refine eB [.q,.q,.q,.q,.q,.al,.st 5,.q] [0,0,0,0,0,0,0,0] (fun R=>[.int .i64 eps,.tuple #[.agg bL,.int .i64 9],.tuple #[.agg bL,.int .i64 9],.agg bL,.int .i64 9,m,m,.int .i64 9]) (fun _=>(.cells bL 33 (0,0))) (fun R _=>(.cells bL 33 (0,0))) (fun _=>0) (dA W) (fun _=>False) (by kernel_rfl) (by kernel_rfl) (by kernel_rfl) rfl (fun _=>rfl) (fun _ h=>h.elim) (fun _ _ h=>h) (by simp) (by simp) (fun R b1=>⟨fun _=>rfl,fun _=>rfl,fun _=>rfl,fun _=>rfl,fun _=>rfl,fun _=>rfl,fun _=>rfl,fun _=>rfl,trivial⟩) (fun _ _ _ _=>rfl) dH EE.out ?jA ?jm;case jA =>
  refine⟨aH,d_ ks,aH,aH,aH,?_,?_,aH,trivial⟩
  ·refine ia ?pM ?iR ?j9 ?jo ?_;case pM=>exact(.cells bL 33 (0,0))
   case iR=>exact rfl
   case j9=>exact rfl
   case jo=>exact cu rfl
   intro ρ w';go_simp;exact⟨rfl,rfl⟩
  ·refine ib (j:=5) (Ty:=?tK) (p:=?ud) (x:=?ur) ?lZ ?ld ?jE ?gA ?me ?hO ?mb ?gx ?lX ?_;case gA=>exact rfl
   case me=>exact rfl
   case lZ=>exact(fun R=>(.cells bL 33 (0,0)))
   case ld=>exact(.cells bL 33 (0,0))
   case jE=>exact(fun R=>.agg bL)
   case hO=>exact(fun R=>rfl)
   case mb=>exact rfl
   case gx=>exact cu rfl
   case lX =>
    intro R;kernel_rfl
   intro R s ρ w g aw hs hp hx af hz;exact⟨hQ rfl hp hx hz eW (rfl) (Al),fun aT hF=>dM aw hF (Nat.le_trans EE.out.size af)⟩
 case jm =>
  intro cY R G cN ae;have hS:=ae.same;have aZ:=ae.holds;have bf:=EE.out.size;have bh:aG cN (G 5) 33 bL:=(ae.eV 6 (List.mem_range.2 (show 6<8 by decide)) 5 rfl).2.2;have oK:=(ae.made 5 (List.mem_range.2 (show 5<8 by decide)) rfl).1;have wL:W.heap.size<=G 5:=Nat.le_trans bf oK;replace EE:=hide (show Ext _ _ from aZ);clear hS bf aZ ae;generalize hF:bB _ _ _ _ _ _ _=bH;have bI:bH={ tmps:=#[.slice A n c,.int .i64 eps,m,m,.slice none 0 0,.int .i64 0,(yj (G 5) 0:r),.int .i64 9,m,m,m,m,.tuple #[.agg bL,.int .i64 9],.int .i64 eps,.tuple #[.agg bL,.int .i64 9],.agg bL,.int .i64 9,m,m,m,m,m,m,m,m,m,m,m,m,m,m,m,m,m,m,m,m,m,m,m,m,m],defers:=[] }:=by subst hF;kernel_rfl
  clear hF;subst bI;generalize G 5=g6 at *;go_wp2_with fail
  go_ret2
  exact gi.jT ⟨by kernel_rfl,EE.out⟩
theorem aiM(A:Option aw6)(n c:Nat)(l:List Sa)(eps:Int)(W:z)(hl:fK W A l)(hn:l.length=n)(fT:n<=8796093022000)(fl:Hid (∀ w,B y 34 #[.int .i64 eps] w (aP (.bool true) w)))(hc:lV l=7) :
 B y 17 #[.slice A n c,.int .i64 eps] W (gi W (mk2 7) []):=by
 have ks:=hide (fun w=>N0 eps w fl);clear fl;have EE:Hid (Ext W W):=Ext.refl _;go_enter Tryz.func17,Tryz.ntmps17
 go_upto_region 1 with fail
 refine eB [.q,.q,.q,.q,.q,.al,.st 5,.q] [0,0,0,0,0,0,0,0] (fun R=>[.int .i64 eps,.tuple #[.agg (aI eps 0 0 0 0 z21),.int .i64 0],.tuple #[.agg (aI eps 0 0 0 0 z21),.int .i64 0],.agg (aI eps 0 0 0 0 z21),.int .i64 0,m,m,.int .i64 0]) (fun _=>(.cells bL 33 (0,0))) (fun R _=>(.cells (aI eps 0 0 0 0 z21) 33 (0,0))) (fun _=>0) (dA W) (fun _=>False) (by kernel_rfl) (by kernel_rfl) (by kernel_rfl) rfl (fun _=>rfl) (fun _ h=>h.elim) (fun _ _ h=>h) (by simp) (by simp) (fun R b1=>⟨fun _=>rfl,fun _=>rfl,fun _=>rfl,fun _=>rfl,fun _=>rfl,fun _=>rfl,fun _=>rfl,fun _=>rfl,trivial⟩) (fun _ _ _ _=>rfl) dH EE.out ?jA ?jm;case jA =>
  refine⟨aH,d_ ks,aH,aH,aH,?_,?_,aH,trivial⟩
  ·refine ia ?pM ?iR ?j9 ?jo ?_;case pM=>exact(.cells bL 33 (0,0))
   case iR=>exact rfl
   case j9=>exact rfl
   case jo=>exact cu rfl
   intro ρ w';go_simp;exact⟨rfl,rfl⟩
  ·refine ib (j:=5) (Ty:=?tK) (p:=?ud) (x:=?ur) ?lZ ?ld ?jE ?gA ?me ?hO ?mb ?gx ?lX ?_;case gA=>exact rfl
   case me=>exact rfl
   case lZ=>exact(fun R=>(.cells (aI eps 0 0 0 0 z21) 33 (0,0)))
   case ld=>exact(.cells bL 33 (0,0))
   case jE=>exact(fun R=>.agg (aI eps 0 0 0 0 z21))
   case hO=>exact(fun R=>rfl)
   case mb=>exact rfl
   case gx=>exact cu rfl
   case lX =>
    intro R;kernel_rfl
   intro R s ρ w g aw hs hp hx af hz;exact⟨hQ rfl hp hx hz eW ((hR rfl)) ((jU iV)),fun aT hF=>dM aw hF (Nat.le_trans EE.out.size af)⟩
 case jm =>
  intro cY R G cN ae;have hS:=ae.same;have aZ:=ae.holds;have bf:=EE.out.size;have bh:aG cN (G 5) 33 (aI eps 0 0 0 0 z21):=(ae.eV 6 (List.mem_range.2 (show 6<8 by decide)) 5 rfl).2.2;have oK:=(ae.made 5 (List.mem_range.2 (show 5<8 by decide)) rfl).1;have wL:W.heap.size<=G 5:=Nat.le_trans bf oK;replace EE:=hide (show Ext _ _ from aZ);clear hS bf aZ ae;generalize hF:bB _ _ _ _ _ _ _=bH;have bI:bH={ tmps:=#[.slice A n c,.int .i64 eps,m,m,.slice none 0 0,.int .i64 0,(yj (G 5) 0:r),.int .i64 0,m,m,m,m,.tuple #[.agg (aI eps 0 0 0 0 z21),.int .i64 0],.int .i64 eps,.tuple #[.agg (aI eps 0 0 0 0 z21),.int .i64 0],.agg (aI eps 0 0 0 0 z21),.int .i64 0,m,m,m,m,m,m,m,m,m,m,m,m,m,m,m,m,m,m,m,m,m,m,m,m,m],defers:=[] }:=by subst hF;kernel_rfl
  clear hF;subst bI;generalize G 5=g6 at *;have pP:=hide hl;have gR:=hide (fun w (ad:Ext W w)=>NU A n c l w (pP.out.ext ad) hn fT 7 hc);clear hl;go_upto_region 5 with (go_at_call 47;(with_reducible refine(gR.out _ EE.out).mono ?_);rintro oI bm ⟨rfl,jd⟩;replace bh:=bh.ext jd;replace EE:=hide (EE.out.trans jd);clear jd)
  go_wp2_with fail
  go_ret2
  exact gi.jT ⟨by kernel_rfl,EE.out⟩
theorem aiL(A:Option aw6)(n c:Nat)(l:List Sa)(eps:Int)(W:z)(hl:fK W A l)(hn:l.length=n)(fT:n<=8796093022000)(fl:Hid (∀ w,B y 34 #[.int .i64 eps] w (aP (.bool true) w)))(hc:lV l=0)(hm:decide ((1073741824:Int)<(n:Int))=true) :
 B y 17 #[.slice A n c,.int .i64 eps] W (gi W (mk2 3) []):=by
 have ks:=hide (fun w=>N0 eps w fl);clear fl;have EE:Hid (Ext W W):=Ext.refl _;go_enter Tryz.func17,Tryz.ntmps17
 go_upto_region 1 with fail
 refine eB [.q,.q,.q,.q,.q,.al,.st 5,.q] [0,0,0,0,0,0,0,0] (fun R=>[.int .i64 eps,.tuple #[.agg (aI eps 0 0 0 0 z21),.int .i64 0],.tuple #[.agg (aI eps 0 0 0 0 z21),.int .i64 0],.agg (aI eps 0 0 0 0 z21),.int .i64 0,m,m,.int .i64 0]) (fun _=>(.cells bL 33 (0,0))) (fun R _=>(.cells (aI eps 0 0 0 0 z21) 33 (0,0))) (fun _=>0) (dA W) (fun _=>False) (by kernel_rfl) (by kernel_rfl) (by kernel_rfl) rfl (fun _=>rfl) (fun _ h=>h.elim) (fun _ _ h=>h) (by simp) (by simp) (fun R b1=>⟨fun _=>rfl,fun _=>rfl,fun _=>rfl,fun _=>rfl,fun _=>rfl,fun _=>rfl,fun _=>rfl,fun _=>rfl,trivial⟩) (fun _ _ _ _=>rfl) dH EE.out ?jA ?jm;case jA =>
  refine⟨aH,d_ ks,aH,aH,aH,?_,?_,aH,trivial⟩
  ·refine ia ?pM ?iR ?j9 ?jo ?_;case pM=>exact(.cells bL 33 (0,0))
   case iR=>exact rfl
   case j9=>exact rfl
   case jo=>exact cu rfl
   intro ρ w';go_simp;exact⟨rfl,rfl⟩
  ·refine ib (j:=5) (Ty:=?tK) (p:=?ud) (x:=?ur) ?lZ ?ld ?jE ?gA ?me ?hO ?mb ?gx ?lX ?_;case gA=>exact rfl
   case me=>exact rfl
   case lZ=>exact(fun R=>(.cells (aI eps 0 0 0 0 z21) 33 (0,0)))
   case ld=>exact(.cells bL 33 (0,0))
   case jE=>exact(fun R=>.agg (aI eps 0 0 0 0 z21))
   case hO=>exact(fun R=>rfl)
   case mb=>exact rfl
   case gx=>exact cu rfl
   case lX =>
    intro R;kernel_rfl
   intro R s ρ w g aw hs hp hx af hz;exact⟨hQ rfl hp hx hz eW ((hR rfl)) ((jU iV)),fun aT hF=>dM aw hF (Nat.le_trans EE.out.size af)⟩
 case jm =>
  intro cY R G cN ae;have hS:=ae.same;have aZ:=ae.holds;have bf:=EE.out.size;have bh:aG cN (G 5) 33 (aI eps 0 0 0 0 z21):=(ae.eV 6 (List.mem_range.2 (show 6<8 by decide)) 5 rfl).2.2;have oK:=(ae.made 5 (List.mem_range.2 (show 5<8 by decide)) rfl).1;have wL:W.heap.size<=G 5:=Nat.le_trans bf oK;replace EE:=hide (show Ext _ _ from aZ);clear hS bf aZ ae;generalize hF:bB _ _ _ _ _ _ _=bH;have bI:bH={ tmps:=#[.slice A n c,.int .i64 eps,m,m,.slice none 0 0,.int .i64 0,(yj (G 5) 0:r),.int .i64 0,m,m,m,m,.tuple #[.agg (aI eps 0 0 0 0 z21),.int .i64 0],.int .i64 eps,.tuple #[.agg (aI eps 0 0 0 0 z21),.int .i64 0],.agg (aI eps 0 0 0 0 z21),.int .i64 0,m,m,m,m,m,m,m,m,m,m,m,m,m,m,m,m,m,m,m,m,m,m,m,m,m],defers:=[] }:=by subst hF;kernel_rfl
  clear hF;subst bI;generalize G 5=g6 at *;have pP:=hide hl;have gR:=hide (fun w (ad:Ext W w)=>NU A n c l w (pP.out.ext ad) hn fT 0 hc);clear hl;go_upto_region 7 with (go_at_call 47;(with_reducible refine(gR.out _ EE.out).mono ?_);rintro oI bm ⟨rfl,jd⟩;replace bh:=bh.ext jd;replace EE:=hide (EE.out.trans jd);clear jd)
  go_wp2_with fail
  go_ret2
  exact gi.jT ⟨by kernel_rfl,EE.out⟩
theorem aiK(A:Option aw6)(n c:Nat)(l:List Sa)(eps:Int)(W:z)(hl:fK W A l)(hn:l.length=n)(fT:n<=8796093022000)(fl:Hid (∀ w,B y 34 #[.int .i64 eps] w (aP (.bool true) w)))(he:o5 eps)(hc:lV l=0)(hm:decide ((1073741824:Int)<(n:Int))=false) :
 B y 17 #[.slice A n c,.int .i64 eps] W (gi W (mk2 0) ((uS eps l).map gp)):=by
 have ks:=hide (fun w=>N0 eps w fl);have rD:n<=1073741824:=by have:=of_decide_eq_false hm;omega
 have vB:jb l/\∀ x∈l,pU x:=by
  refine⟨?_,fun x hx=>hl.1 x hx⟩;rw[Mp];unfold lV at hc;split at hc
  ·assumption
  ·cases hc
 have ST:=hide (fun j aN=>V2 he vB.1 vB.2 (by rw[hn];exact rD) j aN);have OK:=hide vB.2;clear fl vB;have EE:Hid (Ext W W):=Ext.refl _;go_enter Tryz.func17,Tryz.ntmps17
 go_upto_region 1 with fail
 refine eB [.q,.q,.q,.q,.q,.al,.st 5,.q] [0,0,0,0,0,0,0,0] (fun R=>[.int .i64 eps,.tuple #[.agg (aI eps 0 0 0 0 z21),.int .i64 0],.tuple #[.agg (aI eps 0 0 0 0 z21),.int .i64 0],.agg (aI eps 0 0 0 0 z21),.int .i64 0,m,m,.int .i64 0]) (fun _=>(.cells bL 33 (0,0))) (fun R _=>(.cells (aI eps 0 0 0 0 z21) 33 (0,0))) (fun _=>0) (dA W) (fun _=>False) (by kernel_rfl) (by kernel_rfl) (by kernel_rfl) rfl (fun _=>rfl) (fun _ h=>h.elim) (fun _ _ h=>h) (by simp) (by simp) (fun R b1=>⟨fun _=>rfl,fun _=>rfl,fun _=>rfl,fun _=>rfl,fun _=>rfl,fun _=>rfl,fun _=>rfl,fun _=>rfl,trivial⟩) (fun _ _ _ _=>rfl) dH EE.out ?jA ?jm;case jA =>
  refine⟨aH,d_ ks,aH,aH,aH,?_,?_,aH,trivial⟩
  ·refine ia ?pM ?iR ?j9 ?jo ?_;case pM=>exact(.cells bL 33 (0,0))
   case iR=>exact rfl
   case j9=>exact rfl
   case jo=>exact cu rfl
   intro ρ w';go_simp;exact⟨rfl,rfl⟩
  ·refine ib (j:=5) (Ty:=?tK) (p:=?ud) (x:=?ur) ?lZ ?ld ?jE ?gA ?me ?hO ?mb ?gx ?lX ?_;case gA=>exact rfl
   case me=>exact rfl
   case lZ=>exact(fun R=>(.cells (aI eps 0 0 0 0 z21) 33 (0,0)))
   case ld=>exact(.cells bL 33 (0,0))
   case jE=>exact(fun R=>.agg (aI eps 0 0 0 0 z21))
   case hO=>exact(fun R=>rfl)
   case mb=>exact rfl
   case gx=>exact cu rfl
   case lX =>
    intro R;kernel_rfl
   intro R s ρ w g aw hs hp hx af hz;exact⟨hQ rfl hp hx hz eW ((hR rfl)) ((jU iV)),fun aT hF=>dM aw hF (Nat.le_trans EE.out.size af)⟩
 case jm =>
  intro cY R G cN ae;have hS:=ae.same;have aZ:=ae.holds;have bf:=EE.out.size;have bh:aG cN (G 5) 33 (aI eps 0 0 0 0 z21):=(ae.eV 6 (List.mem_range.2 (show 6<8 by decide)) 5 rfl).2.2;have oK:=(ae.made 5 (List.mem_range.2 (show 5<8 by decide)) rfl).1;have wL:W.heap.size<=G 5:=Nat.le_trans bf oK;replace EE:=hide (show Ext _ _ from aZ);clear hS bf aZ ae;generalize hF:bB _ _ _ _ _ _ _=bH;have bI:bH={ tmps:=#[.slice A n c,.int .i64 eps,m,m,.slice none 0 0,.int .i64 0,(yj (G 5) 0:r),.int .i64 0,m,m,m,m,.tuple #[.agg (aI eps 0 0 0 0 z21),.int .i64 0],.int .i64 eps,.tuple #[.agg (aI eps 0 0 0 0 z21),.int .i64 0],.agg (aI eps 0 0 0 0 z21),.int .i64 0,m,m,m,m,m,m,m,m,m,m,m,m,m,m,m,m,m,m,m,m,m,m,m,m,m],defers:=[] }:=by subst hF;kernel_rfl
  clear hF;subst bI;generalize G 5=g6 at *;have pP:=hide hl;have gR:=hide (fun w (ad:Ext W w)=>NU A n c l w (pP.out.ext ad) hn fT 0 hc);clear hl;go_upto_region 9 with (go_at_call 47;(with_reducible refine(gR.out _ EE.out).mono ?_);rintro oI bm ⟨rfl,jd⟩;replace bh:=bh.ext jd;replace EE:=hide (EE.out.trans jd);clear jd)
  have FX:=bh.lt;refine eB [.q,.q,.al,.st 2] [0,0,0,0] (fun R=>[.agg (aI eps 0 0 0 0 z21),.agg (cV (aI eps 0 0 0 0 z21) (.slice none 0 0)),m,m]) (fun _=>(.cells z27 86 (0,0))) (fun R _=>(.cells (cV (aI eps 0 0 0 0 z21) (.slice none 0 0)) 86 (0,0))) (fun _=>0) (dA W) (fun _=>False) (by kernel_rfl) (by kernel_rfl) (by kernel_rfl) rfl (fun _=>rfl) (fun _ h=>h.elim) (fun _ _ h=>h) (by simp) (by simp) (fun R b1=>⟨fun _=>rfl,fun _=>rfl,fun _=>rfl,fun _=>rfl,trivial⟩) (fun _ _ _ _=>rfl) dH EE.out ?ahT ?aaG;case ahT =>
   refine⟨?_,?_,?_,?_,trivial⟩
   ·refine cj fun R s w' aw hs hw ha=>?_
    have L:=dF (bh.aY hw (fun h=>h) (by simp)) jC rfl eW (hR rfl);generalize hA:bB _ _ _ _ _ _ _=c3;refine e7 rfl ?_ L;subst hA;kernel_rfl
   ·refine cj fun R s w' aw hs hw ha=>?_
    generalize hA:bB _ _ _ _ _ _ _=c3;refine pD (vs:=#[(0,.agg (aI eps 0 0 0 0 z21))]) rfl ?_ (YE eps 0 0 0 0 rfl);subst hA;kernel_rfl
   ·refine ia ?an' ?vE ?Eu ?vf ?_;case an'=>exact(.cells z27 86 (0,0))
    case vE=>exact rfl
    case Eu=>exact rfl
    case vf=>exact cu rfl
    intro ρ w';go_simp;exact⟨rfl,rfl⟩
   ·refine ib (j:=2) (Ty:=?aos) (p:=?ar0) (x:=?atr) ?abw ?aoa ?Ae ?sN ?ahx ?zw ?af3 ?sB ?aan ?_;case sN=>exact rfl
    case ahx=>exact rfl
    case abw=>exact(fun R=>(.cells (cV (aI eps 0 0 0 0 z21) (.slice none 0 0)) 86 (0,0)))
    case aoa=>exact(.cells z27 86 (0,0))
    case Ae=>exact(fun R=>.agg (cV (aI eps 0 0 0 0 z21) (.slice none 0 0)))
    case zw=>exact(fun R=>rfl)
    case af3=>exact rfl
    case sB=>exact cu rfl
    case aan =>
     intro R;kernel_rfl
    intro R s ρ w g aw hs hp hx af hz;exact⟨hQ rfl hp hx hz afa ((qP rfl)) ((akM iV rfl)),fun aT hF=>dM aw hF (Nat.le_trans EE.out.size af)⟩
  case aaG =>
   intro cY R G qT ae;have hS:=ae.same;have aZ:=ae.holds;have bf:=EE.out.size;replace bh:=bh.aY hS (fun h=>h) (by simp);have bx:aG qT (G 2) 86 (cV (aI eps 0 0 0 0 z21) (.slice none 0 0)):=(ae.eV 3 (List.mem_range.2 (show 3<4 by decide)) 2 rfl).2.2;have DW:=(ae.made 2 (List.mem_range.2 (show 2<4 by decide)) rfl).1;have I7:W.heap.size<=G 2:=Nat.le_trans bf DW;have arA:g6≠G 2:=by omega
   replace EE:=hide (show Ext _ _ from aZ);clear hS bf aZ ae FX;generalize hF:bB _ _ _ _ _ _ _=bH;have bI:bH={ tmps:=#[.slice A n c,.int .i64 eps,m,m,.slice none 0 0,.int .i64 0,(yj g6 0:r),.int .i64 0,.int .i64 0,(yj (G 2) 0:r),m,m,.tuple #[.agg (aI eps 0 0 0 0 z21),.int .i64 0],.int .i64 eps,.tuple #[.agg (aI eps 0 0 0 0 z21),.int .i64 0],.agg (aI eps 0 0 0 0 z21),.int .i64 0,.int .i64 0,.bool false,m,.slice A n c,.int .i64 0,.int .i64 0,.bool false,m,.slice A n c,.int .i64 (n:Int),.bool false,.agg (aI eps 0 0 0 0 z21),.agg (cV (aI eps 0 0 0 0 z21) (.slice none 0 0)),m,m,m,m,m,m,m,m,m,m,m,m],defers:=[] }:=by subst hF;kernel_rfl
   clear hF;subst bI;generalize G 2=g9 at *;obtain⟨k9,aeS⟩:∃ w,w=qT:=⟨_,rfl⟩;subst aeS;have Sg:=bx.lt;have Qw:Hid (Aq eps l g9 k9 0 k9):=hide ⟨⟨none,0,0,bx,El.Own.jT eA _ _,rfl,Nat.le_refl _,by intro h;cases h⟩,b3.refl _ _⟩;have Iw:=EE;have n0:=hide hn;have Sd:W.heap.size<=g9:=I7;clear bh bx EE gR ks hn;go_wp2_with fail
   go_loopw [11,32] (fun bv iv wr=>∃ j:Nat,j<=n/\iv=.int .i64 (j:Int)/\Hid (Aq eps l g9 k9 j wr)) (fun bv iv wr=>n-(intOf iv).toNat)
   case atStart=>exact⟨0,by omega,rfl,Qw⟩
   case round =>
    clear Qw;obtain⟨j,aN,rfl,FM⟩:=hrel;by_cases cl:j<n
    ·have d0:decide ((j:Int)<(n:Int))=true:=decide_eq_true (by omega);have k3:j<l.length:=by rw[n0.out];exact cl
     obtain⟨x,hx⟩:∃ x,l[j]?=some x:=⟨l[j],by simp[k3]⟩;have hd:l.getD j (0,0)=x:=by rw[List.getD_eq_getElem?_getD,hx];rfl
     have Bs:=OK.out x (List.mem_of_getElem? hx);obtain⟨s1,s2⟩:=ST.out j (Nat.le_of_lt k3);obtain⟨⟨di,cM,c6,bJ,fY,od,oM,aO⟩,pW⟩:=FM.out;have Aw:Ext W wr:=R5 Iw.out pW Sd;obtain⟨j3,lG,rfl,_,Bj⟩:=(pP.out.ext Aw).2.2 (by omega);obtain⟨nQ,jL⟩:=Bj j k3;rw[hd] at nQ jL;rw[<-Nat.add_assoc] at jL;have Bx:=fun w=>G8 j3 lG n c j cl w
     obtain⟨pt,nB⟩:=x;have nQ:wr.cell? ⟨j3,lG+2*j,none⟩=some (.int .i64 pt):=nQ;have jL:wr.cell? ⟨j3,lG+2*j+1,none⟩=some (.int .i64 nB):=jL;have rz:=bJ.lt;obtain⟨aT,gE⟩:=eo (wr.alloc (.cells #[.int .i64 pt,.int .i64 nB] 23));have bk:Ext wr aT:=by rw[gE];exact aA _ _
     have Ji:b3 g9 k9 aT:=pW.more bk;have AL:=fY.ext bk;have j0:Hid (B y 48 #[yj g9 0,.agg #[.int .i64 pt,.int .i64 nB]] aT _):=hide (aiH he s1 Bs (s2 _ hx) g9 di cM c6 k9.heap.size _ aT (bJ.ext bk) AL od oM aO Ji.2.2.2.1 (by rw[List.length_map];exact Nat.le_trans (CY _ _ _) (by rw[List.length_take];omega)));rw[gE] at j0;have NX:Hid (∀ w',wy g9 k9.heap.size aT (mW eps (gZ eps (gS eps none (l.take j)) (pt,nB)).1) (.slice di cM c6) ((jl eps none (l.take j)).map gp++(gZ eps (gS eps none (l.take j)) (pt,nB)).2.map gp) (.returned (.tuple #[])) w'->Aq eps l g9 k9 (j+1) w'):=hide (fun w' h=>Aq.go hx Ji AL h);rw[gE] at NX;clear Bj hx hd Bs s1 s2 bJ fY AL od oM aO pW Ji Aw bk FM gE k3;go_upto_region 14 with (go_at_call 48;(with_reducible refine j0.out.mono ?_);rintro oI bp gj;obtain rfl:=gj.1;have I2:=hide (NX.out _ gj);clear gj NX j0)
     go_wp2_with fail
     go_roundw
     case rel=>exact⟨j+1,by omega,by go_num,I2⟩
     case measure=>simp[intOf];omega
    ·obtain rfl:j=n:=by omega
     have d0:decide ((j:Int)<(j:Int))=false:=decide_eq_false (by omega);have tk:l.take j=l:=List.take_of_length_le (by rw[n0.out];exact Nat.le_refl _);obtain⟨s1,_⟩:=ST.out j (by rw[n0.out];exact Nat.le_refl _);obtain⟨⟨di,cM,c6,bJ,fY,od,oM,aO⟩,pW⟩:=FM.out;have hX:=hide (ai0 s1 g9 di cM c6 k9.heap.size _ wr bJ fY od oM aO pW.2.2.2.1 (by rw[List.length_map];exact Nat.le_trans (CY _ _ _) (by rw[List.length_take];have:=n0.out;omega)));rw[tk] at hX s1 fY;rw[<-Rm] at hX;obtain⟨aW,t2,v2,aj,eC,e2,Ot,UI⟩:=HT (eps:=eps) s1;rw[e2] at hX;have fY:=hide fY;have pW:=hide pW;clear bJ od oM aO FM ST OK s1 e2 tk;go_upto_region 16 with (go_at_call 49;(with_reducible refine hX.out.mono ?_);rintro oI cN ⟨rfl,cU,aC,az,hJ,eS,bJ,r7,xt,uA⟩)
     have Zq:=(bJ.cell 26).trans (qe (q:=.slice cU aC az) Ot).2.2.2.2.2.1;have Iv:Ext W cN:=by
      have u9:b3 g9 k9 cN:=⟨uA.1.trans pW.out.1,uA.2.1.trans pW.out.2.1,uA.2.2.1.trans pW.out.2.2.1,Nat.le_trans pW.out.2.2.2.1 uA.2.2.2.1,fun k aE Bn=>(uA.2.2.2.2 k (Nat.lt_of_lt_of_le aE pW.out.2.2.2.1) (fun e=>e.elim Bn (fun e=>by have:=(fY.out.1.lt k e).1;omega))).trans (pW.out.2.2.2.2 k aE Bn)⟩;exact R5 Iw.out u9 Sd
     have Iv:=hide Iv;have r7:=hide r7;have Az:=hide hJ;clear hX uA bJ hJ xt pW fY;go_wp2_with fail
     go_ret2
     exact⟨cU,aC,az,Az.out,eS,by kernel_rfl,r7.out.less Iw.out.size,Iv.out⟩
theorem N8{a:Act}{o:aw4}{w:z}{x:axb}{i:Nat}{vs:Array r}{v:r}(aL:o.op=.extract x i)(hx:a.eval x=.tuple vs)(hi:vs[i]?=some v):mg y w v ((axc a.eval o).run y w):=by
 unfold axc;simp only[aL,hx];simp[Instr.extract,hi];exact⟨rfl,rfl⟩
def B2:r->r|.tuple #[_,q,_]=>q|_=>m
end
section
open Go Go.RowKit Go.Sort
def Ik(f:Nat):Prop:=∀ (A:Option aw6) (n c:Nat) (l:List Sa) (eps:Int) (W:z),fK W A l->l.length=n->n<=8796093022000->B y f #[.slice A n c,.int .i64 eps] W (gi W (mk2 (mJ eps l)) (o7 eps l))
theorem Zk(l:List Sa):lV l=0\/lV l=7:=by unfold lV;split<;>simp
theorem Rl{f ft:Nat}(aw:∀ e W,B y ft #[.int .i64 e] W (aP (.bool (decide (0<=e)&&decide (e<=4611686018427387904))) W))
 (h1:∀ (A:Option aw6) (n c:Nat) (l:List Sa) (eps:Int) (W:z),fK W A l->l.length=n->n<=8796093022000->Hid (∀ w,B y ft #[.int .i64 eps] w (aP (.bool false) w))->B y f #[.slice A n c,.int .i64 eps] W (gi W (mk2 9) []))
 (h2:∀ (A:Option aw6) (n c:Nat) (l:List Sa) (eps:Int) (W:z),fK W A l->l.length=n->n<=8796093022000->Hid (∀ w,B y ft #[.int .i64 eps] w (aP (.bool true) w))->lV l=7->B y f #[.slice A n c,.int .i64 eps] W (gi W (mk2 7) []))
 (h3:∀ (A:Option aw6) (n c:Nat) (l:List Sa) (eps:Int) (W:z),fK W A l->l.length=n->n<=8796093022000->Hid (∀ w,B y ft #[.int .i64 eps] w (aP (.bool true) w))->lV l=0->decide ((1073741824:Int)<(n:Int))=true->B y f #[.slice A n c,.int .i64 eps] W (gi W (mk2 3) []))
 (h4:∀ (A:Option aw6) (n c:Nat) (l:List Sa) (eps:Int) (W:z),fK W A l->l.length=n->n<=8796093022000->Hid (∀ w,B y ft #[.int .i64 eps] w (aP (.bool true) w))->o5 eps->lV l=0->decide ((1073741824:Int)<(n:Int))=false->B y f #[.slice A n c,.int .i64 eps] W (gi W (mk2 0) ((uS eps l).map gp))):Ik f:=fun A n c l eps W hl hn fT=>by
 by_cases bd:0<=eps/\eps<=4611686018427387904
 ·have fl:=hide (fun w=>by have:=aw eps w;rw[decide_eq_true bd.1,decide_eq_true bd.2] at this;exact this);rcases Zk l with hc|hc
  ·by_cases hm:1073741824<l.length
   ·have e:mJ eps l=3:=by unfold mJ;rw[if_pos bd,if_pos hc,if_pos hm]
    unfold o7;rw[e];exact h3 A n c l eps W hl hn fT fl hc (decide_eq_true (by omega))
   ·have e:mJ eps l=0:=by unfold mJ;rw[if_pos bd,if_pos hc,if_neg hm]
    unfold o7;rw[e];exact h4 A n c l eps W hl hn fT fl bd hc (decide_eq_false (by omega))
  ·have e:mJ eps l=7:=by unfold mJ;rw[if_pos bd,if_neg (by omega)]
   unfold o7;rw[e];exact h2 A n c l eps W hl hn fT fl hc
 ·have e:mJ eps l=9:=by unfold mJ;rw[if_neg bd]
  unfold o7;rw[e];refine h1 A n c l eps W hl hn fT (hide (fun w=>?_));have:=aw eps w;have hb:(decide (0<=eps)&&decide (eps<=4611686018427387904))=false:=by
   cases h:(decide (0<=eps)&&decide (eps<=4611686018427387904)) with
   | false=>rfl
   | true=>simp only[Bool.and_eq_true,decide_eq_true_eq] at h;exact absurd h bd
  rw[hb] at this
  exact this
theorem UR:Ik 17:=Rl (ft:=34) (fun e W=>ajb e W) (fun A n c l eps W a b d k=>aiN A n c l eps W a b d k) (fun A n c l eps W a b d k e=>aiM A n c l eps W a b d k e) (fun A n c l eps W a b d k e f=>aiL A n c l eps W a b d k e f) (fun A n c l eps W a b d k t e f=>aiK A n c l eps W a b d k t e f)
end
end Go.Proofs.YtojbopibfflnoaaGreat
