/- Contracts and plain facts; each states its conditions. -/
import Derived.Test.YtojbopibfflnoaaGreatPrW38
import Derived.Test.YtojbopibfflnoaaGreatPrW45
import Derived.Test.YtojbopibfflnoaaGreatPrW51
import Derived.Test.YtojbopibfflnoaaGreatPrW54
import Derived.Deep.SlicePairs
import Derived.SizedLaws
import Derived.Shelf.Strconv.Itoa0
import Derived.Deep.RegionLaw
namespace Go.Proofs.YtojbopibfflnoaaGreat
set_option linter.unusedVariables false
set_option linter.unusedSimpArgs false
set_option maxHeartbeats 16000000
section
open Go Go.ChangeShapes Go.WideShapes Go.ChangeAt Go.RowKit
theorem Zg:Tryz.prog.cellsOf 23=2:=by kernel_rfl
theorem Y8:Tryz.prog.bytesOf 23=16:=by kernel_rfl
def IX (W:World) (a:Option Addr) (len cap:Nat) (l:List (Int × Int)):Prop:=l.length=len∧len≤cap∧cap≤8796093022000∧fK W a l
theorem TF {H:Type}{enc:TypeId × Value→H}{W:World}{n:Nat}{v:Value}{x:DataW H × List MemPlace} (h:DataW.trod enc Tryz.prog W 0 (fun _=>true) true n 2 [v]=some x):∃ z:Int,v=.int .i64 z∧de z:=by
 obtain⟨z,hz,hx,hw⟩:=DataW.trod_int Tryz.underlying2 h;simp only[List.cons.injEq,and_true] at hz;exact⟨z,hz,ae_ hw⟩
theorem akH {H:Type}{enc:TypeId × Value→H}{W:World}{a:Option Addr}{len cap:Nat}{d:DataW H}{ps:List MemPlace}{ts:List TypeId}{ds:List (DataW H)}{j:Nat}
 (h:DataW.Trod enc Tryz.prog W 0 (fun _=>true) true 46 (.slice a len cap) d ps) (e5:(DataW.weightsEach Tryz.prog ts ds).all (·≤reachBytes)=true) (bd:ts[j]?=some 46) (hd:ds[j]?=some d):∃ l,IX W a len cap l:=by
 obtain⟨fuel,hf⟩:=h;rcases Go.Deep.open_slice_pairs Tryz.underlying46 Tryz.underlying23 Zg rfl rfl RG RG hf with ⟨hcs,_⟩|⟨x,n,c,m,fu,aoL,XV,aom,oZ,cC,aS,hcs,_,hl,hm,rD,hx,hcell⟩
 ·simp[Value.cells] at hcs;obtain⟨rfl,rfl,rfl⟩:=hcs;exact⟨[],rfl,Nat.le_refl _,by omega,fK.nil _ _⟩
 ·simp[Value.cells] at hcs;obtain⟨rfl,rfl,rfl⟩:=hcs;simp only[Prod.mk.injEq] at hx;obtain⟨rfl,_⟩:=hx;have SV:m=cap:=by simpa using rD
  subst SV;have hw:=sized_slice e5 (j:=j) (t:=46) (e:=23) bd hd Tryz.underlying46;rw[Y8] at hw;simp only[List.length_map,List.length_range,reachBytes] at hw;have each:∀ i,i<m→∃ q:Int × Int,W.cell? (x.add (i*2))=some (.int .i64 q.1)∧W.cell? (x.add (i*2+1))=some (.int .i64 q.2)∧de q.1∧de q.2:=fun i hi=>by
   obtain⟨h0,h1,h2,h3⟩:=hcell i hi;obtain⟨z0,iJ,i0⟩:=TF h2;obtain⟨fb,bk,i1⟩:=TF h3;rw[iJ] at h0;rw[bk] at h1;exact⟨(z0,fb),h0,h1,i0,i1⟩
  obtain⟨q,aO⟩:=Go.Deep.choose_lt each;have hlen:((List.range len).map q).length=len:=by simp
  have DP:∀ i,i<len→((List.range len).map q).getD i (0,0)=q i:=fun i hi=>by simp[List.getD_eq_getElem?_getD,hi]
  refine⟨(List.range len).map q,hlen,hl,by omega,?_,by rw[hlen];omega,fun hp=>?_⟩
  ·intro y hy;simp only[List.mem_map,List.mem_range] at hy;obtain⟨i,hi,rfl⟩:=hy;exact(aO i (by omega)).2.2
  ·rw[hlen] at hp ⊢;obtain⟨b,off,spot⟩:=x;have bt:=(aO 0 (by omega)).1;have aeH:spot=none:=by simpa [Addr.add] using World.cell?_spot bt
   subst aeH;refine⟨b,off,rfl,block_lt_of_cell (a:=⟨b,off+0*2,none⟩) (by rw[←Go.WideShapes.add_plain];exact bt),fun i hi=>?_⟩;obtain⟨h0,h1,_⟩:=aO i (by omega);rw[Go.WideShapes.add_plain] at h0 h1;rw[DP i hi,Nat.mul_comm 2 i];exact⟨h0,h1⟩
end
section
open Go Go.RowKit Go.Sort
attribute [local go_sem] mg A3 bB BX
theorem N8 {a:Act}{o:Oper}{w:World}{x:Operand}{i:Nat}{vs:Array Value}{v:Value} (aL:o.op=.extract x i) (hx:a.eval x=.tuple vs) (hi:vs[i]?=some v):mg Tryz.prog w v ((execOp a.eval o).run Tryz.prog w):=by
 unfold execOp;simp only[aL,hx];simp[Instr.extract,hi];exact⟨rfl,rfl⟩
def B2:Value→Value|.tuple #[_,q,_]=>q|_=>undef
def w1 (bU fQ:World) (B:Nat) (Q:Value) (os:List gD) (X:Array Value) (ls:List gD) (s:Nat) (R:Nat→Value) (w:World):Prop:=
 Ext bU w∧eA.Own B w Q os∧(1≤s→∃ A n c,R 0=.tuple #[.agg X,.slice A n c,.int .i64 0]∧n=ls.length∧n≤c∧eA.Own fQ.heap.size w (.slice A n c) ls)
section
variable {bU fQ:World}{B:Nat}{Q:Value}{os ls:List gD}{X:Array Value}
theorem alh:∀ s R w w',w1 bU fQ B Q os X ls s R w→Below w.heap.size w w'→w1 bU fQ B Q os X ls s R w':=fun s R w w' h k =>
 ⟨h.1.trans k,h.2.1.ext k,fun hs=>by
  obtain⟨A,n,c,h1,h2,h3,h4⟩:=h.2.2 hs;exact⟨A,n,c,h1,h2,h3,h4.ext k⟩⟩
theorem OH {s:Nat}{R:Nat→Value}{w bp:World}{a:Act}{o:Oper}{x:Operand} (h:w1 bU fQ B Q os X ls s R w) (hs:1≤s) (hx:a.eval x=R 0) :
 (o.op=.extract x 0→mg Tryz.prog bp (.agg X) ((execOp a.eval o).run Tryz.prog bp))∧(o.op=.extract x 1→mg Tryz.prog bp (B2 (R 0)) ((execOp a.eval o).run Tryz.prog bp))∧(o.op=.extract x 2→mg Tryz.prog bp (.int .i64 0) ((execOp a.eval o).run Tryz.prog bp)):=by
 obtain⟨A,n,c,iJ,_⟩:=h.2.2 hs;rw[iJ] at hx;refine⟨fun aL=>N8 aL hx rfl,fun aL=>?_,fun aL=>N8 aL hx rfl⟩;rw[iJ];exact N8 aL hx rfl
theorem alj {s g:Nat}{R:Nat→Value}{w aT:World}{f:Obj} (h:w1 bU fQ B Q os X ls s R w) (hF:m_ w aT g f) (af:bU.heap.size≤g) (apw:g<B) (apy:g<fQ.heap.size):w1 bU fQ B Q os X ls s R aT:=
 ⟨dM h.1 hF af,NR h.2.1 hF (fun e=>by have:=(h.2.1.1.lt g e).1;omega),fun hs=>by
  obtain⟨A,n,c,h1,h2,h3,h4⟩:=h.2.2 hs;exact⟨A,n,c,h1,h2,h3,NR h4 hF (fun e=>by have:=(h4.1.lt g e).1;omega)⟩⟩
theorem ali {R:Nat→Value}{w bp:World}{oI:Ending} (h:w1 bU fQ B Q os X ls 0 R w) (hs:fQ.heap.size≤w.heap.size) (k:gi w (Hj X 0) ls oI bp):∃ r,oI=.returned r∧w1 bU fQ B Q os X ls 1 (mr R 0 r) bp∧jI (fun _=>False) w bp:=by
 obtain⟨A,n,c,h1,h2,h3,h4,h5⟩:=k;exact⟨_,h3,⟨h.1.trans h5,h.2.1.ext h5,fun _=>⟨A,n,c,rfl,h1,h2,h4.less hs⟩⟩,Below.vk h5⟩
end
set_option maxRecDepth 100000 in
theorem ajC (A:Option Addr) (n c:Nat) (l:List Sa) (eps:Int) (W:World) (hl:fK W A l) (hn:l.length=n) (fT:n≤8796093022000) (fl:Hid (∀ w,Calls Tryz.prog 35 #[.int .i64 eps] w (aP (.bool false) w))) :
 Calls Tryz.prog 18 #[.slice A n c,.int .i64 eps] W (gi W (mk2 9) []):=by
 have ks:=hide (fun w=>ajO eps w fl);clear hl hn fT fl;have EE:Hid (Ext W W):=Ext.refl _;go_enter Tryz.func18,Tryz.ntmps18
 go_upto_region 1 with fail
 refine eB [.q,.q,.q,.q,.q,.al,.st 5,.q] [0,0,0,0,0,0,0,0] (fun R=>[.int .i64 eps,.tuple #[.agg bL,.int .i64 9],.tuple #[.agg bL,.int .i64 9],.agg bL,.int .i64 9,undef,undef,.int .i64 9]) (fun _=>(.cells bL 33 (0,0))) (fun R _=>(.cells bL 33 (0,0))) (fun _=>0) (dA W) (fun _=>False) (by kernel_rfl) (by kernel_rfl) (by kernel_rfl) rfl (fun _=>rfl) (fun _ h=>h.elim) (fun _ _ h=>h) (by simp) (by simp) (fun R b1=>⟨fun _=>rfl,fun _=>rfl,fun _=>rfl,fun _=>rfl,fun _=>rfl,fun _=>rfl,fun _=>rfl,fun _=>rfl,trivial⟩) (fun _ _ _ _=>rfl) dH EE.out ?jA ?jm;case jA =>
  refine⟨aH,d_ ks,aH,aH,aH,?_,?_,aH,trivial⟩
  ·refine ia ?pM ?iR ?j9 ?jo ?_;case pM=>exact(.cells bL 33 (0,0))
   case iR=>exact rfl
   case j9=>exact rfl
   case jo=>exact cu rfl
   intro ρ w';go_simp;exact⟨rfl,rfl⟩
  ·refine ib (j:=5) (Ty:=?tK) (p:=?ud) (x:=?ur) ?lZ ?ld ?jE ?gA ?me ?hO ?mb ?gx ?lX ?_;case gA=>exact rfl
   case me=>exact rfl
   case lZ=>exact(fun R=>(.cells bL 33 (0,0)))
   case ld=>exact(.cells bL 33 (0,0))
   case jE=>exact(fun R=>.agg bL)
   case hO=>exact(fun R=>rfl)
   case mb=>exact rfl
   case gx=>exact cu rfl
   case lX =>
    intro R;kernel_rfl
   intro R s ρ w g aw hs hp hx af hz;exact⟨hQ rfl hp hx hz eW (rfl) (Al),fun aT hF=>dM aw hF (Nat.le_trans EE.out.size af)⟩
 case jm =>
  intro cY R G cN ae;have hS:=ae.same;have aZ:=ae.holds;have bf:=EE.out.size;have bh:aG cN (G 5) 33 bL:=(ae.eV 6 (List.mem_range.2 (show 6<8 by decide)) 5 rfl).2.2;have oK:=(ae.made 5 (List.mem_range.2 (show 5<8 by decide)) rfl).1;have wL:W.heap.size≤G 5:=Nat.le_trans bf oK;replace EE:=hide (show Ext _ _ from aZ);clear hS bf aZ ae;generalize hF:bB _ _ _ _ _ _ _=bH;have bI:bH={ tmps:=#[.slice A n c,.int .i64 eps,undef,undef,.slice none 0 0,.int .i64 0,.pointer (some ⟨G 5,0,none⟩),.int .i64 9,undef,undef,undef,undef,undef,.tuple #[.agg bL,.int .i64 9],.int .i64 eps,.tuple #[.agg bL,.int .i64 9],.agg bL,.int .i64 9,undef,undef,undef,undef,undef,undef,undef,undef,undef,undef,undef,undef,undef,undef,undef,undef,undef,undef,undef,undef,undef,undef,undef,undef,undef,undef,undef,undef,undef,undef,undef,undef,undef,undef,undef,undef],defers:=[] }:=by subst hF;kernel_rfl
  clear hF;subst bI;generalize G 5=g6 at *;go_wp2_with fail
  go_ret2
  exact gi.jT ⟨by kernel_rfl,EE.out⟩
set_option maxRecDepth 100000 in
theorem ajB (A:Option Addr) (n c:Nat) (l:List Sa) (eps:Int) (W:World) (hl:fK W A l) (hn:l.length=n) (fT:n≤8796093022000) (fl:Hid (∀ w,Calls Tryz.prog 35 #[.int .i64 eps] w (aP (.bool true) w))) (hc:lV l=7) :
 Calls Tryz.prog 18 #[.slice A n c,.int .i64 eps] W (gi W (mk2 7) []):=by
 have ks:=hide (fun w=>Oc eps w fl);clear fl;have EE:Hid (Ext W W):=Ext.refl _;go_enter Tryz.func18,Tryz.ntmps18
 go_upto_region 1 with fail
 refine eB [.q,.q,.q,.q,.q,.al,.st 5,.q] [0,0,0,0,0,0,0,0] (fun R=>[.int .i64 eps,.tuple #[.agg (aI eps 0 0 0 0 z21),.int .i64 0],.tuple #[.agg (aI eps 0 0 0 0 z21),.int .i64 0],.agg (aI eps 0 0 0 0 z21),.int .i64 0,undef,undef,.int .i64 0]) (fun _=>(.cells bL 33 (0,0))) (fun R _=>(.cells (aI eps 0 0 0 0 z21) 33 (0,0))) (fun _=>0) (dA W) (fun _=>False) (by kernel_rfl) (by kernel_rfl) (by kernel_rfl) rfl (fun _=>rfl) (fun _ h=>h.elim) (fun _ _ h=>h) (by simp) (by simp) (fun R b1=>⟨fun _=>rfl,fun _=>rfl,fun _=>rfl,fun _=>rfl,fun _=>rfl,fun _=>rfl,fun _=>rfl,fun _=>rfl,trivial⟩) (fun _ _ _ _=>rfl) dH EE.out ?jA ?jm;case jA =>
  refine⟨aH,d_ ks,aH,aH,aH,?_,?_,aH,trivial⟩
  ·refine ia ?pM ?iR ?j9 ?jo ?_;case pM=>exact(.cells bL 33 (0,0))
   case iR=>exact rfl
   case j9=>exact rfl
   case jo=>exact cu rfl
   intro ρ w';go_simp;exact⟨rfl,rfl⟩
  ·refine ib (j:=5) (Ty:=?tK) (p:=?ud) (x:=?ur) ?lZ ?ld ?jE ?gA ?me ?hO ?mb ?gx ?lX ?_;case gA=>exact rfl
   case me=>exact rfl
   case lZ=>exact(fun R=>(.cells (aI eps 0 0 0 0 z21) 33 (0,0)))
   case ld=>exact(.cells bL 33 (0,0))
   case jE=>exact(fun R=>.agg (aI eps 0 0 0 0 z21))
   case hO=>exact(fun R=>rfl)
   case mb=>exact rfl
   case gx=>exact cu rfl
   case lX =>
    intro R;kernel_rfl
   intro R s ρ w g aw hs hp hx af hz;exact⟨hQ rfl hp hx hz eW ((hR rfl)) ((jU iV)),fun aT hF=>dM aw hF (Nat.le_trans EE.out.size af)⟩
 case jm =>
  intro cY R G cN ae;have hS:=ae.same;have aZ:=ae.holds;have bf:=EE.out.size;have bh:aG cN (G 5) 33 (aI eps 0 0 0 0 z21):=(ae.eV 6 (List.mem_range.2 (show 6<8 by decide)) 5 rfl).2.2;have oK:=(ae.made 5 (List.mem_range.2 (show 5<8 by decide)) rfl).1;have wL:W.heap.size≤G 5:=Nat.le_trans bf oK;replace EE:=hide (show Ext _ _ from aZ);clear hS bf aZ ae;generalize hF:bB _ _ _ _ _ _ _=bH;have bI:bH={ tmps:=#[.slice A n c,.int .i64 eps,undef,undef,.slice none 0 0,.int .i64 0,.pointer (some ⟨G 5,0,none⟩),.int .i64 0,undef,undef,undef,undef,undef,.tuple #[.agg (aI eps 0 0 0 0 z21),.int .i64 0],.int .i64 eps,.tuple #[.agg (aI eps 0 0 0 0 z21),.int .i64 0],.agg (aI eps 0 0 0 0 z21),.int .i64 0,undef,undef,undef,undef,undef,undef,undef,undef,undef,undef,undef,undef,undef,undef,undef,undef,undef,undef,undef,undef,undef,undef,undef,undef,undef,undef,undef,undef,undef,undef,undef,undef,undef,undef,undef,undef],defers:=[] }:=by subst hF;kernel_rfl
  clear hF;subst bI;generalize G 5=g6 at *;have pP:=hide hl;have gR:=hide (fun w (ad:Ext W w)=>N' A n c l w (pP.out.ext ad) hn fT 7 hc);clear hl;go_upto_region 5 with (go_at_call 50;(with_reducible refine(gR.out _ EE.out).mono ?_);rintro oI bm ⟨rfl,jd⟩;replace bh:=bh.ext jd;replace EE:=hide (EE.out.trans jd);clear jd)
  go_wp2_with fail
  go_ret2
  exact gi.jT ⟨by kernel_rfl,EE.out⟩
set_option maxRecDepth 100000 in
theorem ajA (A:Option Addr) (n c:Nat) (l:List Sa) (eps:Int) (W:World) (hl:fK W A l) (hn:l.length=n) (fT:n≤8796093022000) (fl:Hid (∀ w,Calls Tryz.prog 35 #[.int .i64 eps] w (aP (.bool true) w))) (hc:lV l=0) (hm:decide ((1073741824:Int)<(n:Int))=true) :
 Calls Tryz.prog 18 #[.slice A n c,.int .i64 eps] W (gi W (mk2 3) []):=by
 have ks:=hide (fun w=>Oc eps w fl);clear fl;have EE:Hid (Ext W W):=Ext.refl _;go_enter Tryz.func18,Tryz.ntmps18
 go_upto_region 1 with fail
 refine eB [.q,.q,.q,.q,.q,.al,.st 5,.q] [0,0,0,0,0,0,0,0] (fun R=>[.int .i64 eps,.tuple #[.agg (aI eps 0 0 0 0 z21),.int .i64 0],.tuple #[.agg (aI eps 0 0 0 0 z21),.int .i64 0],.agg (aI eps 0 0 0 0 z21),.int .i64 0,undef,undef,.int .i64 0]) (fun _=>(.cells bL 33 (0,0))) (fun R _=>(.cells (aI eps 0 0 0 0 z21) 33 (0,0))) (fun _=>0) (dA W) (fun _=>False) (by kernel_rfl) (by kernel_rfl) (by kernel_rfl) rfl (fun _=>rfl) (fun _ h=>h.elim) (fun _ _ h=>h) (by simp) (by simp) (fun R b1=>⟨fun _=>rfl,fun _=>rfl,fun _=>rfl,fun _=>rfl,fun _=>rfl,fun _=>rfl,fun _=>rfl,fun _=>rfl,trivial⟩) (fun _ _ _ _=>rfl) dH EE.out ?jA ?jm;case jA =>
  refine⟨aH,d_ ks,aH,aH,aH,?_,?_,aH,trivial⟩
  ·refine ia ?pM ?iR ?j9 ?jo ?_;case pM=>exact(.cells bL 33 (0,0))
   case iR=>exact rfl
   case j9=>exact rfl
   case jo=>exact cu rfl
   intro ρ w';go_simp;exact⟨rfl,rfl⟩
  ·refine ib (j:=5) (Ty:=?tK) (p:=?ud) (x:=?ur) ?lZ ?ld ?jE ?gA ?me ?hO ?mb ?gx ?lX ?_;case gA=>exact rfl
   case me=>exact rfl
   case lZ=>exact(fun R=>(.cells (aI eps 0 0 0 0 z21) 33 (0,0)))
   case ld=>exact(.cells bL 33 (0,0))
   case jE=>exact(fun R=>.agg (aI eps 0 0 0 0 z21))
   case hO=>exact(fun R=>rfl)
   case mb=>exact rfl
   case gx=>exact cu rfl
   case lX =>
    intro R;kernel_rfl
   intro R s ρ w g aw hs hp hx af hz;exact⟨hQ rfl hp hx hz eW ((hR rfl)) ((jU iV)),fun aT hF=>dM aw hF (Nat.le_trans EE.out.size af)⟩
 case jm =>
  intro cY R G cN ae;have hS:=ae.same;have aZ:=ae.holds;have bf:=EE.out.size;have bh:aG cN (G 5) 33 (aI eps 0 0 0 0 z21):=(ae.eV 6 (List.mem_range.2 (show 6<8 by decide)) 5 rfl).2.2;have oK:=(ae.made 5 (List.mem_range.2 (show 5<8 by decide)) rfl).1;have wL:W.heap.size≤G 5:=Nat.le_trans bf oK;replace EE:=hide (show Ext _ _ from aZ);clear hS bf aZ ae;generalize hF:bB _ _ _ _ _ _ _=bH;have bI:bH={ tmps:=#[.slice A n c,.int .i64 eps,undef,undef,.slice none 0 0,.int .i64 0,.pointer (some ⟨G 5,0,none⟩),.int .i64 0,undef,undef,undef,undef,undef,.tuple #[.agg (aI eps 0 0 0 0 z21),.int .i64 0],.int .i64 eps,.tuple #[.agg (aI eps 0 0 0 0 z21),.int .i64 0],.agg (aI eps 0 0 0 0 z21),.int .i64 0,undef,undef,undef,undef,undef,undef,undef,undef,undef,undef,undef,undef,undef,undef,undef,undef,undef,undef,undef,undef,undef,undef,undef,undef,undef,undef,undef,undef,undef,undef,undef,undef,undef,undef,undef,undef],defers:=[] }:=by subst hF;kernel_rfl
  clear hF;subst bI;generalize G 5=g6 at *;have pP:=hide hl;have gR:=hide (fun w (ad:Ext W w)=>N' A n c l w (pP.out.ext ad) hn fT 0 hc);clear hl;go_upto_region 7 with (go_at_call 50;(with_reducible refine(gR.out _ EE.out).mono ?_);rintro oI bm ⟨rfl,jd⟩;replace bh:=bh.ext jd;replace EE:=hide (EE.out.trans jd);clear jd)
  go_wp2_with fail
  go_ret2
  exact gi.jT ⟨by kernel_rfl,EE.out⟩
set_option maxRecDepth 100000 in
theorem ajz (A:Option Addr) (n c:Nat) (l:List Sa) (eps:Int) (W:World) (hl:fK W A l) (hn:l.length=n) (fT:n≤8796093022000) (fl:Hid (∀ w,Calls Tryz.prog 35 #[.int .i64 eps] w (aP (.bool true) w))) (he:o5 eps) (hc:lV l=0) (hm:decide ((1073741824:Int)<(n:Int))=false) :
 Calls Tryz.prog 18 #[.slice A n c,.int .i64 eps] W (gi W (mk2 0) ((uS eps l).map gp)):=by
 have ks:=hide (fun w=>Oc eps w fl);have rD:n≤1073741824:=by have:=of_decide_eq_false hm;omega
 have vB:jb l∧∀ x∈l,pU x:=by
  refine⟨?_,fun x hx=>hl.1 x hx⟩;rw[Mp];unfold lV at hc;split at hc
  ·assumption
  ·cases hc
 have ST:=hide (fun j aN=>V2 he vB.1 vB.2 (by rw[hn];exact rD) j aN);have OK:=hide vB.2;clear fl vB;have EE:Hid (Ext W W):=Ext.refl _;go_enter Tryz.func18,Tryz.ntmps18
 go_upto_region 1 with fail
 refine eB [.q,.q,.q,.q,.q,.al,.st 5,.q] [0,0,0,0,0,0,0,0] (fun R=>[.int .i64 eps,.tuple #[.agg (aI eps 0 0 0 0 z21),.int .i64 0],.tuple #[.agg (aI eps 0 0 0 0 z21),.int .i64 0],.agg (aI eps 0 0 0 0 z21),.int .i64 0,undef,undef,.int .i64 0]) (fun _=>(.cells bL 33 (0,0))) (fun R _=>(.cells (aI eps 0 0 0 0 z21) 33 (0,0))) (fun _=>0) (dA W) (fun _=>False) (by kernel_rfl) (by kernel_rfl) (by kernel_rfl) rfl (fun _=>rfl) (fun _ h=>h.elim) (fun _ _ h=>h) (by simp) (by simp) (fun R b1=>⟨fun _=>rfl,fun _=>rfl,fun _=>rfl,fun _=>rfl,fun _=>rfl,fun _=>rfl,fun _=>rfl,fun _=>rfl,trivial⟩) (fun _ _ _ _=>rfl) dH EE.out ?jA ?jm;case jA =>
  refine⟨aH,d_ ks,aH,aH,aH,?_,?_,aH,trivial⟩
  ·refine ia ?pM ?iR ?j9 ?jo ?_;case pM=>exact(.cells bL 33 (0,0))
   case iR=>exact rfl
   case j9=>exact rfl
   case jo=>exact cu rfl
   intro ρ w';go_simp;exact⟨rfl,rfl⟩
  ·refine ib (j:=5) (Ty:=?tK) (p:=?ud) (x:=?ur) ?lZ ?ld ?jE ?gA ?me ?hO ?mb ?gx ?lX ?_;case gA=>exact rfl
   case me=>exact rfl
   case lZ=>exact(fun R=>(.cells (aI eps 0 0 0 0 z21) 33 (0,0)))
   case ld=>exact(.cells bL 33 (0,0))
   case jE=>exact(fun R=>.agg (aI eps 0 0 0 0 z21))
   case hO=>exact(fun R=>rfl)
   case mb=>exact rfl
   case gx=>exact cu rfl
   case lX =>
    intro R;kernel_rfl
   intro R s ρ w g aw hs hp hx af hz;exact⟨hQ rfl hp hx hz eW ((hR rfl)) ((jU iV)),fun aT hF=>dM aw hF (Nat.le_trans EE.out.size af)⟩
 case jm =>
  intro cY R G cN ae;have hS:=ae.same;have aZ:=ae.holds;have bf:=EE.out.size;have bh:aG cN (G 5) 33 (aI eps 0 0 0 0 z21):=(ae.eV 6 (List.mem_range.2 (show 6<8 by decide)) 5 rfl).2.2;have oK:=(ae.made 5 (List.mem_range.2 (show 5<8 by decide)) rfl).1;have wL:W.heap.size≤G 5:=Nat.le_trans bf oK;replace EE:=hide (show Ext _ _ from aZ);clear hS bf aZ ae;generalize hF:bB _ _ _ _ _ _ _=bH;have bI:bH={ tmps:=#[.slice A n c,.int .i64 eps,undef,undef,.slice none 0 0,.int .i64 0,.pointer (some ⟨G 5,0,none⟩),.int .i64 0,undef,undef,undef,undef,undef,.tuple #[.agg (aI eps 0 0 0 0 z21),.int .i64 0],.int .i64 eps,.tuple #[.agg (aI eps 0 0 0 0 z21),.int .i64 0],.agg (aI eps 0 0 0 0 z21),.int .i64 0,undef,undef,undef,undef,undef,undef,undef,undef,undef,undef,undef,undef,undef,undef,undef,undef,undef,undef,undef,undef,undef,undef,undef,undef,undef,undef,undef,undef,undef,undef,undef,undef,undef,undef,undef,undef],defers:=[] }:=by subst hF;kernel_rfl
  clear hF;subst bI;generalize G 5=g6 at *;have pP:=hide hl;have gR:=hide (fun w (ad:Ext W w)=>N' A n c l w (pP.out.ext ad) hn fT 0 hc);clear hl;go_upto_region 9 with (go_at_call 50;(with_reducible refine(gR.out _ EE.out).mono ?_);rintro oI bm ⟨rfl,jd⟩;replace bh:=bh.ext jd;replace EE:=hide (EE.out.trans jd);clear jd)
  have agx:=bh.lt;obtain⟨B,bF⟩:=eo bm.heap.size;have QS:Hid (aG bm g6 33 (mW eps (gS eps none (l.take 0)))):=bh;have O0:Hid (eA.Own B bm (.slice none 0 0) ((jl eps none (l.take 0)).map gp)):=El.Own.jT eA _ _;have bC:=hide (show Ext W bm from EE.out);have FZ:B≤bm.heap.size:=Nat.le_of_eq bF;have Sz:g6<B:=by omega
  have Lg:W.heap.size≤B:=by rw[bF];exact EE.out.size
  have n0:=hide hn;have abU:W.heap.size≤g6:=wL;clear bh EE gR ks hn agx bF;go_wp2_with fail
  go_loopw [8,9,10] (fun xK iv _ wr=>∃ (j:Nat) (di:Option Addr) (cM c6:Nat),j≤n∧iv=.int .i64 (j:Int)∧xK=.slice di cM c6∧Hid (cM=((jl eps none (l.take j)).map gp).length)∧Hid (aG wr g6 33 (mW eps (gS eps none (l.take j))))∧Hid (eA.Own B wr (.slice di cM c6) ((jl eps none (l.take j)).map gp))∧Hid (Ext W wr)∧B≤wr.heap.size) (fun _ iv _ _=>n-(intOf iv).toNat)
  case atStart=>exact⟨0,none,0,0,by omega,rfl,rfl,rfl,QS,O0,bC,FZ⟩
  case round =>
   clear QS O0 bC FZ;obtain⟨j,di,cM,c6,aN,rfl,rfl,na,dL,bM,dc,cG⟩:=hrel;by_cases cl:j<n
   ·have d0:decide ((j:Int)<(n:Int))=true:=decide_eq_true (by omega);have k3:j<l.length:=by rw[n0.out];exact cl
    obtain⟨x,hx⟩:∃ x,l[j]?=some x:=⟨l[j],by simp[k3]⟩;have hd:l.getD j (0,0)=x:=by rw[List.getD_eq_getElem?_getD,hx];rfl
    have Bs:=OK.out x (List.mem_of_getElem? hx);obtain⟨s1,s2⟩:=ST.out j (Nat.le_of_lt k3);obtain⟨j3,lG,rfl,_,_⟩:=(pP.out.ext dc.out).2.2 (by omega);have tD:Hid (∀ w,Ext W w→(Instr.loadAt 23 (.pointer (some ⟨j3,lG+2*j,none⟩))).run Tryz.prog w=.ok (.agg (bO x.1 x.2)) w):=hide (fun w hw=>by
     obtain⟨b',o',e,_,Bj⟩:=(pP.out.ext hw).2.2 (by omega);cases e
     obtain⟨nQ,jL⟩:=Bj j k3;rw[hd] at nQ jL;rw[←Nat.add_assoc] at jL;exact Om 23 _ xQ rfl [.int .i64 x.1,.int .i64 x.2] xB (fun i u hi=>by
      match i,hi with
      | 0,hi=>simp only[List.getElem?_cons_zero,Option.some.injEq] at hi;rw[←hi];exact nQ
      | 1,hi=>simp only[List.getElem?_cons_succ,List.getElem?_cons_zero,Option.some.injEq] at hi;rw[←hi];exact jL))
    have Bx:=hide (fun w=>G8 j3 lG n c j cl w);obtain⟨aC,t1,v1,ah,eN,bk,HO,ahw⟩:=HT (eps:=eps) s1;obtain⟨aW,t2,v2,aj,eC,e2,Ot,UI⟩:=HT (eps:=eps) (akU he s1 Bs (s2 _ hx));have R1:uh (gS eps none (l.take j)) x=0:=by
     cases hs:gS eps none (l.take j) with
     | none=>rfl
     | some s=>have:=s2 _ hx s hs;simp only[uh];rw[if_neg (by omega),if_neg (by omega)]
    have uF:Hid (∀ w,Calls Tryz.prog 33 #[.agg (aI eps aC t1 v1 ah eN),.agg (bO x.1 x.2)] w (gi w (Hj (aI eps aW t2 v2 aj eC) 0) ((gZ eps (gS eps none (l.take j)) x).2.map gp))):=hide (fun w=>by
     have:=ajU.2 eps _ x he s1 Bs w;unfold E5 E4 at this
     rw[R1,if_pos rfl,if_pos rfl,bk,e2] at this
     exact this)
    obtain⟨d1,d2⟩:=RO eps hx;have eU:=hide d1;have wC:Hid (mW eps (gS eps none (l.take (j+1)))=aI eps aW t2 v2 aj eC):=hide (by rw[d2];exact e2);rw[bk] at dL;have bh:aG wr g6 33 (aI eps aC t1 v1 ah eN):=dL.out;have dl:((jl eps none (l.take j)).map gp).length≤1073741824:=by rw[List.length_map];exact Nat.le_trans (CY _ _ _) (by rw[List.length_take];omega)
    have CW:((gZ eps (gS eps none (l.take j)) x).2.map gp).length≤1:=by
     rw[List.length_map];cases hs:gS eps none (l.take j) with
     | none=>simp[gZ]
     | some s=>simp only[gZ];split<;>simp
    generalize (gZ eps (gS eps none (l.take j)) x).2.map gp=nl at uF eU CW;generalize (jl eps none (l.take j)).map gp=rM at na bM eU dl;clear hx hd Bs s1 s2 bk e2 R1 d1 d2 k3 dL;go_upto_region 13 with fail
    have FX:=bh.lt;refine kl [.q,.q,.q,.q,.q,.gO 0,.q,.q,.q,.q,.so 0,.q] [0,0,0,0,0,0,1,1,1,1,0,1] (fun R=>[.agg (aI eps aC t1 v1 ah eN),.slice (some ⟨j3,lG,none⟩) n c,.int .i64 (j:Int),.pointer (some ⟨j3,lG+2*j,none⟩),.agg (bO x.1 x.2),undef,(R 0),.agg (aI eps aW t2 v2 aj eC),(B2 (R 0)),.int .i64 0,undef,(B2 (R 0))]) (fun _=>(.cells #[] 0 (0,0))) (fun R _=>(.cells (aI eps aW t2 v2 aj eC) 33 (0,0))) (fun _=>g6) (w1 W wr B (.slice di cM c6) rM (aI eps aW t2 v2 aj eC) nl) (fun _=>False) (by kernel_rfl) (by kernel_rfl) (by kernel_rfl) (by kernel_rfl) rfl (fun _=>rfl) (fun _ h=>h.elim) (fun _ _ h=>h) (by intro c hc;simp at hc;(try subst hc);(try simp only);omega) (by intro c c' h1 h2 _;simp at h1 h2;omega) (fun R b1=>⟨fun _=>rfl,fun _=>rfl,fun _=>rfl,fun _=>rfl,fun _=>rfl,fun _=>rfl,fun h=>by simp only[h 0 (by decide)],fun _=>rfl,fun h=>by simp only[h 0 (by decide)],fun _=>rfl,fun _=>rfl,fun h=>by simp only[h 0 (by decide)],trivial⟩) (fun _ _ _ _=>rfl) alh ⟨dc.out.trans (b5 _),bM.out.ext (b5 _),fun h=>absurd h (by decide)⟩ ?vU ?va;case vU =>
     refine⟨?_,aH,aH,?_,?_,?_,aH,?_,?_,?_,?_,aH,trivial⟩
     ·refine cj fun R s w' aw hs hw ha=>?_
      have L:=dF ((ha 10 0 rfl (by kernel_rfl)).trans bh) jC rfl eW (hR HO);generalize hA:bB _ _ _ _ _ _ _=c3;refine e7 rfl ?_ L;subst hA;kernel_rfl
     ·refine cj fun R s w' aw hs hw ha=>?_
      generalize hA:bB _ _ _ _ _ _ _=c3;refine BN rfl ?_ ?_ (Bx.out w')
      ·subst hA;kernel_rfl
      ·subst hA;kernel_rfl
     ·refine cj fun R s w' aw hs hw ha=>?_
      have L:=tD.out w' aw.1;generalize hA:bB _ _ _ _ _ _ _=c3;refine e7 rfl ?_ L;subst hA;kernel_rfl
     ·refine C6 (m:=0) ?LU ?Kw ?_;case LU=>exact rfl
      case Kw=>exact cu rfl
      intro R w' aw hw;have hz:=hw.2.2.2.1;go_simp;refine(uF.out w').mono ?_;intro oI bp k;exact ali aw hz k
     ·refine cj fun R s w' aw hs hw ha=>?_
      have dj:1≤s:=hs;generalize hA:bB _ _ _ _ _ _ _=c3;have hx:c3.eval (.tmp 33)=R 0:=by subst hA;kernel_rfl
      exact(OH aw (show 1≤s from hs) hx).1 rfl
     ·refine cj fun R s w' aw hs hw ha=>?_
      have dj:1≤s:=hs;generalize hA:bB _ _ _ _ _ _ _=c3;have hx:c3.eval (.tmp 33)=R 0:=by subst hA;kernel_rfl
      exact(OH aw (show 1≤s from hs) hx).2.1 rfl
     ·refine cj fun R s w' aw hs hw ha=>?_
      have dj:1≤s:=hs;generalize hA:bB _ _ _ _ _ _ _=c3;have hx:c3.eval (.tmp 33)=R 0:=by subst hA;kernel_rfl
      exact(OH aw (show 1≤s from hs) hx).2.2 rfl
     ·refine il (c:=0) (Ty:=?aou) (p:=?ar2) (x:=?att) g6 ?aby ?ame ?amP ?aef ?ahz ?afz ?af5 ?abY ?Z2 ?aap ?_;case aef=>exact rfl
      case ahz=>exact rfl
      case aby=>exact(fun R=>(.cells (aI eps aW t2 v2 aj eC) 33 (0,0)))
      case ame=>exact(fun R=>.pointer (some ⟨g6,0,none⟩))
      case amP=>exact(fun R=>.agg (aI eps aW t2 v2 aj eC))
      case afz=>exact(fun R=>rfl)
      case af5=>exact rfl
      case abY=>exact cu rfl
      case Z2 =>
       intro R;kernel_rfl
      case aap =>
       intro R;kernel_rfl
      intro R s ρ w aw hs hp hx hz;refine⟨lI (g:=g6) rfl hp hx (hz.trans bh) eW ((hR HO)) ((hR Ot)) ((jU UI)),fun aT hF=>alj aw hF abU Sz FX⟩
    case va =>
     intro cY R G tA ae;have hS:=ae.same;have aZ:=ae.holds;have bf:=(Nat.le_refl wr.heap.size);have V9:=hS.2.2.2.1;have sP:0<cY:=(ae.stage 5 (show 5<12 by decide) 0 rfl).1 (List.mem_range.2 (show 5<12 by decide));obtain⟨cU,EH,CL,iJ,hJ,eS,ox⟩:=aZ.2.2 sP;replace bh:aG tA g6 33 (aI eps aW t2 v2 aj eC):=ae.ep 10 (List.mem_range.2 (show 10<12 by decide)) 0 rfl;have fY:=hide aZ.2.1;have FE:=hide aZ.1;clear hS bf aZ ae FX;generalize hF:bB _ _ _ _ _ _ _=bH;have bI:bH={ tmps:=#[.slice (some ⟨j3,lG,none⟩) n c,.int .i64 eps,undef,undef,.slice none 0 0,.int .i64 0,.pointer (some ⟨g6,0,none⟩),.int .i64 0,.slice di cM c6,.int .i64 (j:Int),(B2 (R 0)),undef,undef,.tuple #[.agg (aI eps 0 0 0 0 z21),.int .i64 0],.int .i64 eps,.tuple #[.agg (aI eps 0 0 0 0 z21),.int .i64 0],.agg (aI eps 0 0 0 0 z21),.int .i64 0,.int .i64 0,.bool false,undef,.slice (some ⟨j3,lG,none⟩) n c,.int .i64 0,.bool false,.slice (some ⟨j3,lG,none⟩) n c,.int .i64 (n:Int),.bool false,.int .i64 (j:Int),.slice (some ⟨j3,lG,none⟩) n c,.int .i64 (n:Int),.bool true,u31,u32,(R 0),.agg (aI eps aC t1 v1 ah eN),.slice (some ⟨j3,lG,none⟩) n c,.int .i64 (j:Int),.pointer (some ⟨j3,lG+2*j,none⟩),.agg (bO x.1 x.2),(R 0),.agg (aI eps aW t2 v2 aj eC),(B2 (R 0)),.int .i64 0,u43,u44,u45,undef,undef,undef,undef,undef,undef,undef,undef],defers:=[] }:=by subst hF;kernel_rfl
     clear hF;subst bI;(try simp only[iJ])
     have yT:B2 (.tuple #[.agg (aI eps aW t2 v2 aj eC),.slice cU EH CL,.int .i64 0])=.slice cU EH CL:=rfl;(try rw[yT])
     have hlen:(rM.length+nl.length)*eA.bytes≤140737488355328:=by show (rM.length+nl.length)*96≤_;omega
     have h63:rM.length+nl.length≤9223372036854775807:=by omega
     have Bb:B≤tA.heap.size:=Nat.le_trans cG (V9);obtain⟨k8,oc⟩:∃ q,(rM++nl).length=q:=⟨_,rfl⟩;have AA:=hide oc;have Az:=hide hJ.symm;clear hJ oc iJ yT dl CW bM dc;go_upto_region 11 with (refine eA.Ws rfl (.tmp 43) (.tmp 44) rfl B (.slice di cM c6) rM nl rfl fY.out cU EH CL rfl ox.tp Az.out hlen h63 Bb ?_;intro v2 w3 oy uz bX;obtain⟨jF,aU,gO,zb,_,_⟩:=oy.at_;rw[AA.out] at gO;subst gO;have oy:=hide oy;have uz:=hide uz;clear bX)
     have o8:=GL uz.out B Bb (fun k aE=>(fY.out.1.lt k aE).1);have bl:Hid (aG w3 g6 33 (mW eps (gS eps none (l.take (j+1))))):=hide (by rw[wC.out];exact(o8.block g6 Sz).trans bh);have WQ:Hid (Ext W w3):=hide (show Ext W w3 from eA.JB FE.out Lg fY.out uz.out);have nM:Hid (eA.Own B w3 (.slice jF k8 aU) ((jl eps none (l.take (j+1))).map gp)):=hide (by rw[eU.out];exact oy.out);have Vb:Hid (k8=((jl eps none (l.take (j+1))).map gp).length):=hide (by rw[eU.out];exact AA.out.symm);have e8:B≤w3.heap.size:=Nat.le_trans Bb o8.size;clear ox oy uz fY FE bh o8 hlen h63 Az eU wC AA Bb uF tD Bx zb na cG V9;go_wp2_with fail
     go_roundw
     case rel=>exact⟨j+1,jF,k8,aU,by omega,by go_num,rfl,Vb,bl,nM,WQ,e8⟩
     case measure=>simp[intOf];omega
   ·obtain rfl:j=n:=by omega
    have d0:decide ((j:Int)<(j:Int))=false:=decide_eq_false (by omega);have tk:l.take j=l:=List.take_of_length_le (by rw[n0.out];exact Nat.le_refl _);obtain⟨s1,_⟩:=ST.out j (by rw[n0.out];exact Nat.le_refl _);rw[tk] at s1 dL bM na;obtain⟨aC,t1,v1,ah,eN,bk,HO,ahw⟩:=HT (eps:=eps) s1;have IZ:Hid (∀ w,Calls Tryz.prog 40 #[.agg (aI eps aC t1 v1 ah eN)] w (gi w (fun z=>.tuple #[z,.int .i64 0]) ((tP (gS eps none l)).map gp))):=hide (fun w=>by
     have:=ajH.2 eps _ he s1 w;rw[bk] at this
     exact this)
    rw[bk] at dL;have bh:aG wr g6 33 (aI eps aC t1 v1 ah eN):=dL.out;have dl:((jl eps none l).map gp).length≤1073741824:=by rw[List.length_map];exact Nat.le_trans (CY _ _ _) (by rw[n0.out];exact rD)
    have CW:((tP (gS eps none l)).map gp).length≤1:=by
     rw[List.length_map];cases gS eps none l<;>simp[tP]
    have AS:=hide (Rm eps l);generalize (tP (gS eps none l)).map gp=nl at IZ CW AS;generalize (jl eps none l).map gp=rM at na bM dl AS;have hlen:(rM.length+nl.length)*eA.bytes≤140737488355328:=by show (rM.length+nl.length)*96≤_;omega
    have h63:rM.length+nl.length≤9223372036854775807:=by omega
    have xE:=dF bh jC rfl eW (hR HO);obtain⟨k8,oc⟩:∃ q,(rM++nl).length=q:=⟨_,rfl⟩;have AA:=hide oc;clear oc s1 bk tk dL ST OK dl CW;go_upto_region 16 with (first
     | (refine dp (by kernel_rfl) rfl rfl xE ?_)
     | (go_at_call 40;(with_reducible refine(IZ.out _).mono ?_);rintro oI cN ⟨cU,EH,CL,hJ,eS,rfl,ox,vy⟩;have ox:=hide ox;have Az:=hide hJ.symm;have fY:=hide (bM.out.ext vy);have FE:=hide (dc.out.trans vy);have Bb:=Nat.le_trans cG vy.size;clear hJ vy xE IZ bM dc bh))
    go_wp2_with (refine eA.Ws rfl (.tmp 51) (.tmp 52) rfl B (.slice di cM c6) rM nl rfl fY.out cU EH CL rfl ox.out.tp Az.out hlen h63 Bb ?_;intro v2 w3 oy uz bX;obtain⟨jF,aU,gO,zb,_,_⟩:=oy.at_;rw[AA.out] at gO zb;subst gO;have oy:=hide oy;have uz:=hide uz;clear bX)
    go_ret2
    refine⟨jF,k8,aU,by rw[AS.out];exact AA.out.symm,zb,by kernel_rfl,?_,eA.JB FE.out Lg fY.out uz.out⟩;rw[AS.out];exact oy.out.less Lg
end
section
open Go Go.RowKit Go.Sort
theorem ajy:Ik 18:=Rl (ft:=35) (fun e W=>HI e W) (fun A n c l eps W a b d k=>ajC A n c l eps W a b d k) (fun A n c l eps W a b d k e=>ajB A n c l eps W a b d k e) (fun A n c l eps W a b d k e f=>ajA A n c l eps W a b d k e f) (fun A n c l eps W a b d k t e f=>ajz A n c l eps W a b d k t e f)
end
section
open Go Go.RowKit Go.Sort
attribute [local go_sem] mg A3 bB BX
theorem agO (x:gD) (w:World):(binOp .neq 55 (.agg (fU x)) (.agg (fU x))).run Tryz.prog w=.ok (.bool false) w:=by
 have:=R0 x.1 x.2.1 (gP x.2.2) w;have h:(Op.equalIn 10000 55 (.agg (fU x)) (.agg (fU x))).run Tryz.prog w=.ok true w:=by
  rw[run_eql_struct] at this
  unfold fU;generalize (Op.equalIn 10000 55 (.agg (j_ x.1 x.2.1 (cJ x.2.2))) (.agg (j_ x.1 x.2.1 (cJ x.2.2)))).run Tryz.prog w=r at this ⊢
  cases r<;>simp_all [Result.andThen]
 simp only[binOp];simp[Op.equal,Op.maxDepth,h,Result.andThen]
set_option maxRecDepth 100000 in
theorem Ob (A A':Option Addr) (n c c':Nat) (ls:List gD) (W:World) (h1:eA.At W A ls) (h2:eA.At W A' ls) (hn:ls.length=n):Calls Tryz.prog 19 #[.slice A n c,.slice A' n c'] W (aP (.bool true) W):=by
 have hlen:=h1.2.1;rw[hn] at hlen;have H1:=hide h1;have bz:=hide h2;have n0:=hide hn;have hb:((n:Int) != (n:Int))=false:=by simp
 clear h1 h2 hn;go_enter Tryz.func19,Tryz.ntmps19
 go_wp2_with fail
 go_loopw [5] (fun i wr=>∃ k:Nat,k≤n∧i=.int .i64 k∧Hid (Ext W wr)) (fun i _=>n-(intOf i).toNat)
 case atStart=>exact⟨0,by omega,rfl,hide (Ext.refl _)⟩
 case round =>
  obtain⟨k,aE,rfl,EE⟩:=hrel;by_cases cl:k<n
  ·have d0:decide ((k:Int)<(n:Int))=true:=decide_eq_true (by omega);have dP:k<ls.length:=by rw[n0.out];exact cl
   obtain⟨x,hx⟩:∃ x,ls[k]?=some x:=⟨ls[k],by simp[dP]⟩;obtain⟨bA,b7,rfl,_,_⟩:=H1.out.2.2 (by omega);obtain⟨bX,cr,rfl,_,_⟩:=bz.out.2.2 (by omega);have jX:Hid (∀ w,Ext W w→(Instr.loadAt 55 (.pointer (some ⟨bA,b7+k*12,none⟩))).run Tryz.prog w=.ok (.agg (fU x)) w):=hide (fun w hw=>by
    have:=(H1.out.ext hw).load hx HZ rfl;simpa [eA,fU] using this)
   have ot:Hid (∀ w,Ext W w→(Instr.loadAt 55 (.pointer (some ⟨bX,cr+k*12,none⟩))).run Tryz.prog w=.ok (.agg (fU x)) w):=hide (fun w hw=>by
    have:=(bz.out.ext hw).load hx HZ rfl;simpa [eA,fU] using this)
   have i1:=hide (fun w=>eA.idx bA b7 n c k cl w);have i2:=hide (fun w=>eA.idx bX cr n c' k cl w);have cM:=hide (fun w=>agO x w);clear hx dP;go_upto_region 6 with fail
   refine kl [.q,.q,.q,.q,.q,.q,.q,.q,.q] [0,0,0,0,0,0,0,0,0] (fun R=>[.slice (some ⟨bA,b7,none⟩) n c,.int .i64 (k:Int),.pointer (some ⟨bA,b7+k*12,none⟩),.agg (fU x),.slice (some ⟨bX,cr,none⟩) n c',.int .i64 (k:Int),.pointer (some ⟨bX,cr+k*12,none⟩),.agg (fU x),.bool false]) (fun _=>(.cells #[] 0 (0,0))) (fun R _=>(.cells #[] 0 (0,0))) (fun _=>0) (dA W) (fun _=>False) (by kernel_rfl) (by kernel_rfl) (by kernel_rfl) (by kernel_rfl) rfl (fun _=>rfl) (fun _ h=>h.elim) (fun _ _ h=>h) (by simp) (by simp) (fun R b1=>⟨fun _=>rfl,fun _=>rfl,fun _=>rfl,fun _=>rfl,fun _=>rfl,fun _=>rfl,fun _=>rfl,fun _=>rfl,fun _=>rfl,trivial⟩) (fun _ _ _ _=>rfl) dH (EE.out.trans (b5 _)) ?NM ?Kd;case NM =>
    refine⟨aH,aH,?_,?_,aH,aH,?_,?_,?_,trivial⟩
    ·refine cj fun R s w' aw hs hw ha=>?_
     generalize hA:bB _ _ _ _ _ _ _=c3;refine BN rfl ?_ ?_ (i1.out w')
     ·subst hA;kernel_rfl
     ·subst hA;kernel_rfl
    ·refine cj fun R s w' aw hs hw ha=>?_
     have L:=jX.out w' aw;generalize hA:bB _ _ _ _ _ _ _=c3;refine e7 rfl ?_ L;subst hA;kernel_rfl
    ·refine cj fun R s w' aw hs hw ha=>?_
     generalize hA:bB _ _ _ _ _ _ _=c3;refine BN rfl ?_ ?_ (i2.out w')
     ·subst hA;kernel_rfl
     ·subst hA;kernel_rfl
    ·refine cj fun R s w' aw hs hw ha=>?_
     have L:=ot.out w' aw;generalize hA:bB _ _ _ _ _ _ _=c3;refine e7 rfl ?_ L;subst hA;kernel_rfl
    ·refine cj fun R s w' aw hs hw ha=>?_
     have L:=cM.out w';generalize hA:bB _ _ _ _ _ _ _=c3;refine N7 rfl ?_ ?_ (Kf _ _ (by kernel_rfl) _ _ _ _ w') L
     ·subst hA;kernel_rfl
     ·subst hA;kernel_rfl
   case Kd =>
    intro cY R G B4 ae;have hS:=ae.same;have aZ:=ae.holds;have bf:=EE.out.size;replace EE:=hide (show Ext _ _ from aZ);clear hS bf aZ ae;generalize hF:bB _ _ _ _ _ _ _=bH;have bI:bH={ tmps:=#[.slice (some ⟨bA,b7,none⟩) n c,.slice (some ⟨bX,cr,none⟩) n c',undef,undef,u4,.int .i64 (k:Int),.slice (some ⟨bA,b7,none⟩) n c,.int .i64 (n:Int),.slice (some ⟨bX,cr,none⟩) n c',.int .i64 (n:Int),.bool false,.int .i64 (k:Int),.slice (some ⟨bA,b7,none⟩) n c,.int .i64 (n:Int),.bool true,u15,u16,.slice (some ⟨bA,b7,none⟩) n c,.int .i64 (k:Int),.pointer (some ⟨bA,b7+k*12,none⟩),.agg (fU x),.slice (some ⟨bX,cr,none⟩) n c',.int .i64 (k:Int),.pointer (some ⟨bX,cr+k*12,none⟩),.agg (fU x),.bool false],defers:=[] }:=by subst hF;kernel_rfl
    clear hF;subst bI;clear jX ot i1 i2 cM;go_wp2_with fail
    go_roundw
    case rel=>exact⟨k+1,by omega,by go_num,EE⟩
    case measure=>simp[intOf];omega
  ·obtain rfl:k=n:=by omega
   go_wp2_with fail
   go_ret;exact⟨rfl,EE.out⟩
end
section
open Go Go.RowKit Go.Sort
set_option maxRecDepth 100000 in
theorem afV (x:Option Addr) (n c:Nat) (l:List Sa) (eps:Int) (y:Option Addr) (len cap:Nat) (W:World) (hx:IX W x n c l) (br:yq W y len cap) (Xn:Hid (∀ w,Calls Tryz.prog 13 #[] w (aP (.bool true) w))) :
 Calls Tryz.prog 4 #[.slice x n c,.int .i64 eps,.slice y len cap] W (aP (.bool true) W):=by
 have QC:Hid (Calls Tryz.prog 8 #[.slice y len cap] W (QK W)):=alc W y len cap br;obtain⟨mP,j6,ap0,Tj⟩:=hx;have Ri:=hide Tj;have wG:Hid (∀ (A:Option Addr) (n c:Nat) (l:List Sa) (eps:Int) (w:World),fK w A l→l.length=n→n≤8796093022000→Calls Tryz.prog 17 #[.slice A n c,.int .i64 eps] w (gi w (fun z=>.tuple #[z,.int .i64 (mJ eps l)]) (o7 eps l))):=UR;have FP:Hid (∀ (A:Option Addr) (n c:Nat) (l:List Sa) (eps:Int) (w:World),fK w A l→l.length=n→n≤8796093022000→Calls Tryz.prog 18 #[.slice A n c,.int .i64 eps] w (gi w (fun z=>.tuple #[z,.int .i64 (mJ eps l)]) (o7 eps l))):=ajy;have Tk:n≤8796093022000:=by omega
 clear br Tj;go_enter Tryz.func4,Tryz.ntmps4
 go_upto_region 2 with (go_at_call 8;(with_reducible refine(QC.out).mono ?_);rintro e aT ⟨rfl,aw,ad⟩;have T1:=hide aw;have bS:=hide ad;clear aw ad)
 have tF:Hid (Calls Tryz.prog 15 #[.pointer (some ⟨W.heap.size,0,none⟩),.int .i64 30] aT (QX 30 W.heap.size W.heap.size aT)):=hide (ald 30 W.heap.size W.heap.size (by omega) aT T1.out);go_upto_region 3 with (first
  | (go_at_call 15;(with_reducible refine(tF.out).mono ?_);rintro e bp ⟨B7,m,gR,cs,rfl,hm,apI,SV,apJ,G2,eD,tR,DE⟩;have kr:=hide tR;have uO:=hide DE;have oy:=hide eD;clear eD tR DE G2)
  | (go_at_call 16;(with_reducible refine(alf W.heap.size W.heap.size _ _ kr.out (b3.refl _ _)).mono ?_);rintro e w3 ⟨HX,rfl,apS,adL,Bg⟩;have w5:=hide (uO.out.trans Bg);have O3:=hide (oy.out.c7 Bg T1.out.2.1);clear adL Bg))
 have dw:Hid (Ext W w3):=hide (b3.ext w5.out bS.out (Nat.le_refl _));have pS:Hid (fK w3 B7 cs):=hide (aif O3.out);have lT:Hid (fK w3 x l):=hide (Ri.out.ext dw.out);obtain⟨RR,h1⟩:∃ e,mJ eps l=e:=⟨_,rfl⟩;obtain⟨RS,h2⟩:∃ e,mJ HX cs=e:=⟨_,rfl⟩;obtain⟨RT,h3⟩:∃ e,mJ eps cs=e:=⟨_,rfl⟩;have c4:=hide (fun w (h:Ext w3 w)=>wG.out x n c l eps w (lT.out.ext h) mP Tk);have AB:=hide (fun w (h:Ext w3 w)=>FP.out x n c l eps w (lT.out.ext h) mP Tk);have r1:=hide (fun w (h:Ext w3 w)=>wG.out B7 m gR cs HX w (pS.out.ext h) hm (by omega));have r2:=hide (fun w (h:Ext w3 w)=>FP.out B7 m gR cs HX w (pS.out.ext h) hm (by omega));have ov:=hide (fun w (h:Ext w3 w)=>wG.out B7 m gR cs eps w (pS.out.ext h) hm (by omega));have jJ:=hide (fun w (h:Ext w3 w)=>FP.out B7 m gR cs eps w (pS.out.ext h) hm (by omega));rw[h1] at c4 AB;rw[h2] at r1 r2;rw[h3] at ov jJ;generalize o7 eps l=ah at c4 AB;generalize o7 HX cs=aj at r1 r2;generalize o7 eps cs=ap at ov jJ;have q1:(RR==RR)=true:=by simp
 have k8:(RS==RS)=true:=by simp
 have HB:(RT==RT)=true:=by simp
 have Jk:Hid (Ext w3 w3):=Ext.refl _;clear wG FP QC tF T1 kr uO w5 oy O3 Ri pS lT h1 h2 h3 hm mP;go_upto_region 4 with (go_at_call 17;(with_reducible refine(c4.out _ Jk.out).mono ?_);rintro e anl ⟨cU,aC,az,hJ,_,rfl,ox,B_⟩;have kq:=hide ox.tp;have yF:=hide (Jk.out.trans B_);have I3:=hide hJ;clear hJ ox B_ Jk c4)
 go_upto_region 5 with (go_at_call 18;(with_reducible refine(AB.out _ yF.out).mono ?_);rintro e wu ⟨jF,aW,aU,fT,_,rfl,oy,yi⟩;obtain rfl:aW=aC:=fT.trans I3.out.symm;have AG:=hide oy.tp;have AH:=hide (kq.out.ext yi);have AW:=hide (yF.out.trans yi);clear fT oy yi yF AB kq)
 go_upto_region 6 with (go_at_call 17;(with_reducible refine(r1.out _ AW.out).mono ?_);rintro e wc ⟨nI,EG,a_,tT,_,rfl,O3,FF⟩;have QF:=hide O3.tp;have Jl:=hide (AW.out.trans FF);have I4:=hide tT;have aS:=hide (AH.out.ext FF);have ak:=hide (AG.out.ext FF);clear tT O3 FF AW r1 AH AG)
 go_upto_region 7 with (go_at_call 18;(with_reducible refine(r2.out _ Jl.out).mono ?_);rintro e wd ⟨ya,Ug,bK,iQ,_,rfl,QM,B'⟩;obtain rfl:Ug=EG:=iQ.trans I4.out.symm;have QG:=hide QM.tp;have QI:=hide (QF.out.ext B');have Jm:=hide (Jl.out.trans B');have Q1:=hide (aS.out.ext B');have Q2:=hide (ak.out.ext B');clear iQ QM B' Jl r2 QF aS ak)
 go_upto_region 8 with (go_at_call 17;(with_reducible refine(ov.out _ Jm.out).mono ?_);rintro e wf ⟨qk,agI,cy,rE,_,rfl,AJ,Ax⟩;have QH:=hide AJ.tp;have Jo:=hide (Jm.out.trans Ax);have r5:=hide rE;have c5:=hide (Q1.out.ext Ax);have dz:=hide (Q2.out.ext Ax);have eu:=hide (QI.out.ext Ax);have AO:=hide (QG.out.ext Ax);clear rE AJ Ax Jm ov QI QG Q1 Q2)
 go_upto_region 9 with (go_at_call 18;(with_reducible refine(jJ.out _ Jo.out).mono ?_);rintro e wg ⟨yb,M8,cF,iR,_,rfl,oz,yj⟩;obtain rfl:M8=agI:=iR.trans r5.out.symm;have tG:=hide oz.tp;have QJ:=hide (QH.out.ext yj);have Rj:=hide (Jo.out.trans yj);have jj:=hide (c5.out.ext yj);have iO:=hide (dz.out.ext yj);have pS:=hide (eu.out.ext yj);have Cv:=hide (AO.out.ext yj);clear iR oz yj Jo jJ QH c5 dz eu AO)
 have Qx:=hide (fun w (h:Ext wg w)=>Ob cU jF aW az aU ah w (jj.out.ext h) (iO.out.ext h) I3.out.symm);have Qy:=hide (fun w (h:Ext wg w)=>Ob nI ya Ug a_ bK aj w (pS.out.ext h) (Cv.out.ext h) I4.out.symm);have Qz:=hide (fun w (h:Ext wg w)=>Ob qk yb M8 cy cF ap w (QJ.out.ext h) (tG.out.ext h) r5.out.symm);have Aw:=hide (dw.out.trans Rj.out);clear jj iO pS Cv QJ tG Rj dw I3 I4 r5;go_wp2_with (first
  | (go_at_call 13;(with_reducible refine(Xn.out _).mono ?_);rintro e ati ⟨rfl,h⟩;have mH:=hide h;clear h)
  | (go_at_call 19;(with_reducible refine(Qx.out _ mH.out).mono ?_);rintro e wi ⟨rfl,h⟩;have kL:=hide (mH.out.trans h);clear h Qx)
  | (go_at_call 19;(with_reducible refine(Qy.out _ kL.out).mono ?_);rintro e atj ⟨rfl,h⟩;have mI:=hide (kL.out.trans h);clear h Qy)
  | (go_at_call 19;(with_reducible refine(Qz.out _ mI.out).mono ?_);rintro e atk ⟨rfl,h⟩;have nk:=hide (mI.out.trans h);clear h Qz))
 go_ret;exact⟨rfl,Aw.out.trans nk.out⟩
end
end Go.Proofs.YtojbopibfflnoaaGreat
