/- Contracts and plain facts; each states its conditions. -/
import Derived.Test.YtojbopibfflnoaaGreatPrW36
import Derived.Test.YtojbopibfflnoaaGreatPrW37
import Derived.Test.YtojbopibfflnoaaGreatPrW38
import Derived.Test.YtojbopibfflnoaaGreatPrW43
import Derived.Shelf.Strconv.Itoa0
import Derived.Deep.DeepAppendWide
import Derived.Deep.RegionLaw
namespace Go.Proofs.YtojbopibfflnoaaGreat
set_option linter.unusedVariables false
set_option linter.unusedSimpArgs false
set_option maxHeartbeats 16000000
section
open Go Go.RowKit Go.Sort
noncomputable def gp (x:wI):gD:=((x.1:Int),x.2.1,qQ x.2.2)
def mk2 (oI:Int):Value→Value:=fun z=>.tuple #[z,.int .i64 oI]
theorem akh {f:Nat}{a:Array Value}{v:Value} (h:∀ w,Calls Tryz.prog f a w (Cu v w)) (w:World):Calls Tryz.prog f a w (aP v w):=(h w).mono fun _ _ k=>⟨k.1,by rw[k.2];exact Ext.refl _⟩
theorem Ct.size {X:Array Value} (h:Ct X):∃ e n t v l K,X=aI e n t v l K∧K.size=21∧K.all (·.oneCell')=true:=by
 obtain⟨e,n,t,v,l,K,_,_,_,_,_,cQ,rfl⟩:=h;exact⟨e,n,t,v,l,K,rfl,aj4 cQ,aj3 cQ⟩
structure Xp (eps:Int) (s:jc) (x:Sa) (dt:Nat) (cb:Bool) (fo fd ft fm:Nat):Prop where
 bQ:∀ w,Calls Tryz.prog fo #[.int .i64 s.first.2] w (aP (.agg (dC s.first.2)) w)
 bY:∀ w,Calls Tryz.prog fd #[.int .i64 x.1,.int .i64 s.first.1] w (aP (.int .u64 (dt:Int)) w)
 cX:∀ w,Calls Tryz.prog ft #[.agg (dC s.first.2),.int .i64 x.2,.int .i64 eps,.int .u64 (dt:Int)] w (aP (.tuple #[.agg (e4 (mX eps s.first x)),.bool cb]) w)
 ev:∀ w,Calls Tryz.prog fm #[.agg (e4 s.eG),.agg (e4 (mX eps s.first x))] w (aP (.tuple #[.agg (xH (kB s.eG (mX eps s.first x))),.bool (kB s.eG (mX eps s.first x)).isSome]) w)
theorem alm {eps:Int}{s:jc}{x:Sa} (he:o5 eps) (hs:mF (some s)) (hx:pU x) (hl:s.last<x.1):pV s.first.2 eps (x.1-s.first.1).natAbs∧((x.1-s.first.1).natAbs:Int)=x.1-s.first.1∧(x.1-s.first.1).natAbs<18446744073709551616:=by
 have h1:=hs.le;obtain⟨⟨a,b⟩,c,d⟩:=hs.1;obtain⟨e,f⟩:=hx.1;have h2:=he.1;have h3:=he.2;refine⟨⟨by omega,h2,h3,by omega⟩,by omega,by omega⟩
theorem Ud {eps:Int}{s:jc}{x:Sa} (he:o5 eps) (hs:mF (some s)) (hx:pU x) (hl:s.last<x.1) {fo fd ft fm:Nat}
 (aL:∀ z,de z→∀ w,Calls Tryz.prog fo #[.int .i64 z] w (aP (.agg (dC z)) w)) (hd:∀ a b w,de a→de b→Calls Tryz.prog fd #[.int .i64 a,.int .i64 b] w (Cu (.int .u64 ((a-b).natAbs:Nat)) w)) (bd:I_ ft) (hm:I9 fm) :
 ∃ dt cb,Xp eps s x dt cb fo fd ft fm:=by
 obtain⟨g,e,cl⟩:=alm he hs hx hl;have h1:=hs.1;refine⟨(x.1-s.first.1).natAbs,true,⟨aL _ h1.2,akh fun w=>hd _ _ w hx.1 h1.1,fun w=>?_,hm _ _ hs.eG (Wc he h1 hx (by have:=hs.le;omega))⟩⟩;have hF:b4 s.first.2:=by have:=h1.2;unfold b4;obtain⟨a,b⟩:=this;omega
 have:=bd s.first.2 x.2 eps (x.1-s.first.1).natAbs hF hx.2.1 hx.2.2 (by have:=he.1;omega) (by have:=he.2;omega) cl w
 have bd:rR s.first.2 x.2 eps (x.1-s.first.1).natAbs=e4 (mX eps s.first x):=by
  rw[show rR s.first.2 x.2 eps (x.1-s.first.1).natAbs=e4 (B1 s.first.2 x.2 eps ((x.1-s.first.1).natAbs:Int)) from if_pos g,e];rfl
 rw[decide_eq_true g,bd] at this
 exact this
theorem TH {n:Nat} (h:n<1073741824):IntKind.i64.wrap ((n:Int)+1)=(n:Int)+1:=by rw[IntKind.wrap_i64];omega
theorem ZT {z:Int} (h:de z) (w:World):Calls Tryz.prog 23 #[.int .i64 z] w (aP (.agg (dC z)) w):=CV h.1 h.2 w
theorem Zb {z:Int} (h:de z) (w:World):Calls Tryz.prog 95 #[.int .i64 z] w (aP (.agg (dC z)) w):=CM h.1 h.2 w
end
section
open Go Go.RowKit Go.Sort
theorem aiH {eps:Int}{s:Option jc}{x:Sa} (he:o5 eps) (hs:mF s) (hx:pU x) (hl:∀ s',s=some s'→s'.last<x.1∧s'.count<1073741824) (g:Nat) (di:Option Addr) (cM c6 B:Nat) (ls:List gD) (W:World) (bJ:aG W g 86 (cV (mW eps s) (.slice di cM c6))) (fY:eA.Own B W (.slice di cM c6) ls) (od:cM=ls.length) (oM:cM≤c6) (aO:(Value.slice di cM c6).ownBlock≠some g) (bF:B≤W.heap.size) (hlen:ls.length≤1099511627776) :
 Calls Tryz.prog 48 #[.pointer (some ⟨g,0,none⟩),.agg (bO x.1 x.2)] W (wy g B W (mW eps (gZ eps s x).1) (.slice di cM c6) (ls++(gZ eps s x).2.map gp)):=by
 have ks:=hide (fun w=>U3 w);cases s with
 | none =>
  have:=aiG eps 0 0 0 0 z21 rfl iV g di cM c6 x.1 x.2 B ls W bJ fY od oM aO bF ks (decide_eq_false (by omega));rw[show (gZ eps none x).2.map gp=[] from rfl,List.append_nil];exact this
 | some s =>
  obtain⟨h1,h2⟩:=hl s rfl;have hle:=hs.le;have cS:=tN s.eG;have eI:=uU s.eG;have d0:decide ((0:Int)<(s.count:Int))=true:=decide_eq_true (by omega);obtain⟨dt,cb,M⟩:=Ud (fo:=95) (fd:=96) (ft:=94) (fm:=97) he hs hx h1 (fun z h w=>Zb h w) (fun a b w ha hb=>aiR a b w ha hb) ai_ ai5;have hc:=tN (mX eps s.first x);have EL:=uU (mX eps s.first x);have ev:=M.ev;simp only[gZ];cases hm:kB s.eG (mX eps s.first x) with
  | some m =>
   rw[hm] at ev;have nS:=hide (fun w (P:aG w g 86 (cV (aI eps (s.count:Int) s.first.1 s.first.2 s.last (e4 s.eG)) (.slice di cM c6)))=>ai2 eps s.count s.first.1 s.first.2 s.last (e4 s.eG) cS eI g (.slice di cM c6) x.1 x.2 (TH h2) dt (e4 (mX eps s.first x)) (e4 m) cb hc EL (tN m) (uU m) (hide M.bQ) (hide M.bY) (hide M.cX) (hide ev) w P);have:=aiJ eps s.count s.first.1 s.first.2 s.last (e4 s.eG) cS eI g di cM c6 x.1 x.2 B ls (e4 m) W bJ fY od oM aO bF d0 nS
   rw[show ([]:List wI).map gp=[] from rfl,List.append_nil];exact this
  | none =>
   rw[hm] at ev;have nS:=hide (fun w (P:aG w g 86 (cV (aI eps (s.count:Int) s.first.1 s.first.2 s.last (e4 s.eG)) (.slice di cM c6)))=>ai1 eps s.count s.first.1 s.first.2 s.last (e4 s.eG) cS eI g (.slice di cM c6) x.1 x.2 dt (e4 (mX eps s.first x)) z21 cb hc EL rfl iV (hide M.bQ) (hide M.bY) (hide M.cX) (hide ev) w P);exact aiF eps s.count s.first.1 s.first.2 s.last (e4 s.eG) cS eI g di cM c6 x.1 x.2 B ls (qQ s.eG) W bJ fY od oM aO bF ks hlen d0 nS (hide (fun w=>Gi US hs.eG w))
theorem HT {eps:Int}{s:Option jc} (h:mF s):∃ n t v l K,mW eps s=aI eps n t v l K∧K.size=21∧K.all (·.oneCell')=true:=by
 cases s with
 | none=>exact⟨0,0,0,0,z21,rfl,rfl,iV⟩
 | some s=>exact⟨_,_,_,_,_,rfl,tN _,uU _⟩
end
section
open Go Go.RowKit Go.Sort
attribute [local go_sem] mg A3 bB BX
theorem ai0 {eps:Int}{s:Option jc} (hs:mF s) (g:Nat) (di:Option Addr) (cM c6 B:Nat) (ls:List gD) (W:World) (bJ:aG W g 86 (cV (mW eps s) (.slice di cM c6))) (fY:eA.Own B W (.slice di cM c6) ls) (od:cM=ls.length) (oM:cM≤c6) (aO:(Value.slice di cM c6).ownBlock≠some g) (bF:B≤W.heap.size) (hlen:ls.length≤1099511627776) :
 Calls Tryz.prog 49 #[.pointer (some ⟨g,0,none⟩)] W (wy g B W (mW eps s) (.slice di cM c6) (ls++(tP s).map gp)):=by
 cases s with
 | none =>
  have:=UU eps 0 0 0 0 z21 rfl iV g (.slice di cM c6) W bJ (decide_eq_false (by omega));rw[show (tP none).map gp=[] from rfl,List.append_nil];exact this.mono fun e w' h=>⟨h.1,di,cM,c6,od,oM,bJ.ext h.2,fY.ext h.2,aO,Below.vk h.2⟩
 | some s =>
  have hle:=hs.le;exact UW eps s.count s.first.1 s.first.2 s.last (e4 s.eG) (tN _) (uU _) g (.slice di cM c6) B ls (qQ s.eG) W bJ fY aO bF hlen (decide_eq_true (by omega)) (hide (fun w=>Gi US hs.eG w))
end
section
open Go Go.RowKit Go.Sort
def lV (l:List (Int × Int)):Nat:=if jx (l.map Prod.fst)=true then 0 else 7
end
section
theorem Mp:∀ l:List Sa,jb l↔jx (l.map Prod.fst)=true
 | []=>by simp[jb,jx]
 | [x]=>by simp[jb,jx]
 | x :: y :: l=>by
  have ih:=Mp (y :: l);unfold jb;rw[ih];unfold jx;simp only[decide_eq_true_eq,List.length_map,List.length_cons,List.map_cons];constructor
  ·rintro⟨h1,h2⟩ i hi;cases i with
   | zero=>simpa using h1
   | succ i=>simpa using h2 i (by omega)
  ·intro h;exact⟨by simpa using h 0 (by omega),fun i hi=>by simpa using h (i+1) (by omega)⟩
theorem CY (eps:Int):∀ (l:List Sa) (s:Option jc),(jl eps s l).length≤l.length
 | [],_=>Nat.le_refl _
 | x :: l,s=>by
  have h1:(gZ eps s x).2.length≤1:=by
   cases s with
   | none=>simp[gZ]
   | some s=>simp only[gZ];split<;>simp
  have:=CY eps l (gZ eps s x).1;simp only[jl,List.length_append,List.length_cons];omega
theorem abX {x:Sa}{l:List Sa} (h:jb (x :: l)) {j:Nat}{y:Sa} (hy:l[j]?=some y):((((l.take j).getLast?).map (·.1)).getD x.1)<y.1:=by
 induction l generalizing x j with
 | nil=>simp at hy
 | cons z l ih =>
  cases j with
  | zero =>
   simp at hy;subst hy;simpa using h.1
  | succ j =>
   simp only[List.getElem?_cons_succ] at hy;have:=ih h.2 hy;simp only[List.take_succ_cons];have e:(z :: l.take j).getLast?.map (·.1)=some ((((l.take j).getLast?).map (·.1)).getD z.1):=by
    cases af:(l.take j).getLast? with
    | none =>
     have:l.take j=[]:=List.getLast?_eq_none_iff.1 af;rw[this];rfl
    | some w =>
     have:(z :: l.take j).getLast?=(l.take j).getLast?:=by
      cases hl:l.take j with
      | nil=>rw[hl] at af;simp at af
      | cons a b=>exact List.getLast?_cons_cons
     rw[this,af];rfl
   rw[e];exact this
theorem V2 {eps:Int} (he:o5 eps) {l:List Sa} (hi:jb l) (aL:∀ x∈l,pU x) (hn:l.length≤1073741824) (j:Nat) (aN:j≤l.length):mF (gS eps none (l.take j))∧∀ y,l[j]?=some y→∀ s',gS eps none (l.take j)=some s'→s'.last<y.1∧s'.count<1073741824:=by
 cases l with
 | nil =>
  simp only[List.take_nil];exact⟨trivial,fun y h=>by simp at h⟩
 | cons x l =>
  cases j with
  | zero=>exact⟨trivial,fun y _ s' h=>by simp[gS] at h⟩
  | succ j =>
   have hlen:(l.take j).length=j:=by simp at aN ⊢;omega
   have hit:∀ (m:List Sa),jb (x :: m)→∀ k,jb (m.take k):=by
    intro m hm k;have hb:jb m:=hm.tail;clear hm;induction m generalizing k with
    | nil=>simp[jb]
    | cons a m ih =>
     cases k with
     | zero=>simp[jb]
     | succ k =>
      cases m with
      | nil=>simp[jb]
      | cons b m =>
       cases k with
       | zero=>simp[jb]
       | succ k=>exact⟨hb.1,ih (k+1) hb.2⟩
   have cl:=jb.lt hi;simp at hn aN;obtain⟨s',bk,e2,fL,j4⟩:=V3 he (l.take j) (CG x) (Jz (aL x (by simp))) (hit l hi j) (fun y hy=>aL y (by simp[List.mem_of_mem_take hy])) (fun y hy=>cl y (List.mem_of_mem_take hy)) (by rw[hlen];show 1+j≤_;omega);have e:gS eps none ((x :: l).take (j+1))=some s':=bk;rw[e];refine⟨e2,fun y hy s h=>?_⟩;cases h
   simp only[List.getElem?_cons_succ] at hy;have jf:=(List.getElem?_eq_some_iff.1 hy).1;refine⟨?_,?_⟩
   ·rw[j4];exact abX hi hy
   ·rw[hlen] at fL;have:(CG x).count=1:=rfl;omega
def mJ (eps:Int) (l:List Sa):Int:=if 0≤eps∧eps≤4611686018427387904 then (if lV l=0 then (if 1073741824<l.length then 3 else 0) else 7) else 9
noncomputable def o7 (eps:Int) (l:List Sa):List gD:=if mJ eps l=0 then (uS eps l).map gp else []
theorem Rm (eps:Int) (l:List Sa):(uS eps l).map gp=(jl eps none l).map gp++(tP (gS eps none l)).map gp:=by
 unfold uS;rw[VM,List.map_append]
theorem RO (eps:Int) {l:List Sa}{j:Nat}{y:Sa} (h:l[j]?=some y):(jl eps none (l.take (j+1))).map gp=(jl eps none (l.take j)).map gp++(gZ eps (gS eps none (l.take j)) y).2.map gp∧gS eps none (l.take (j+1))=(gZ eps (gS eps none (l.take j)) y).1:=by
 have e:l.take (j+1)=l.take j++[y]:=by
  rw[List.take_add_one,h];rfl
 obtain⟨h1,h2⟩:=RN eps (l.take j) none y;rw[e,h1,h2,List.map_append];exact⟨rfl,rfl⟩
end
section
open Go Go.RowKit Go.Sort
def n1 (B:Nat) (w:World) (v:Value) (vs:List Value):Prop:=w.ownsRow B 46 1 v vs.length vs∧∀ u∈vs,u.oneCell'=true
theorem n1.jT (B:Nat) (w:World):n1 B w (.slice none 0 0) []:=⟨World.ownsRow_nil _ _ _ _,by simp⟩
theorem n1.kept {B:Nat}{w w':World}{v:Value}{l:List Value} (h:n1 B w v l) {row:Option Nat} (af:w.grownBy w' row) (dB:v.ownBlock=none∨v.ownBlock≠row):n1 B w' v l:=⟨h.1.kept af dB,h.2⟩
theorem n1.alloc {B:Nat}{w:World}{v:Value}{l:List Value} (h:n1 B w v l) (o:Obj):n1 B (w.alloc o) v l:=⟨h.1.alloc o,h.2⟩
theorem n1.ext {B:Nat}{w w':World}{v:Value}{l:List Value} (h:n1 B w v l) (e:Ext w w'):n1 B w' v l:=by
 refine⟨?_,h.2⟩;obtain⟨h1,h2|⟨g,cap,cur,aF,af,hh,r⟩⟩:=h.1
 ·exact⟨h1,Or.inl h2⟩
 ·exact⟨h1,Or.inr ⟨g,cap,cur,aF,af,by rw[e.block g (Array.getElem?_eq_some_iff.1 hh).1];exact hh,r⟩⟩
theorem n1.less {B fc:Nat}{w:World}{v:Value}{l:List Value} (h:n1 B w v l) (bF:fc≤B):n1 fc w v l:=by
 refine⟨?_,h.2⟩;obtain⟨h1,h2|⟨g,cap,cur,aF,af,r⟩⟩:=h.1
 ·exact⟨h1,Or.inl h2⟩
 ·exact⟨h1,Or.inr ⟨g,cap,cur,aF,by omega,r⟩⟩
theorem n1.at_ {B:Nat}{w:World}{v:Value}{l:List Value} (h:n1 B w v l):∃ A cap,v=.slice A l.length cap∧l.length≤cap∧cap≤9223372036854775807∧(0<l.length→∃ g,A=some ⟨g,0,none⟩∧B≤g∧g<w.heap.size∧∀ j u,l[j]?=some u→w.cell? ⟨g,j,none⟩=some u):=by
 rcases h.1.2 with ⟨rfl,h0⟩|⟨g,cap,cur,rfl,af,hh,nr,jP,hcs,Bp⟩
 ·exact⟨none,0,by rw[h0],by omega,by omega,fun hp=>by omega⟩
 ·unfold maxLen at jP;refine⟨_,cap,rfl,nr,jP,fun _=>⟨g,rfl,af,(Array.getElem?_eq_some_iff.1 hh).1,fun j u hu=>?_⟩⟩;have:=h.1.cells (g:=g) rfl j u hu;have e:(⟨g,0,none⟩:Addr).add j=⟨g,0+j,none⟩:=by unfold Addr.add;split<;>simp_all
  rw[e,Nat.zero_add] at this
  exact this
def FY (B:Nat) (w:World) (vs:List Value) (ps:List (List (Int × Int))):Prop:=vs.length=ps.length∧∀ i,i<vs.length→hZ B w (vs.getD i (.slice none 0 0)) (ps.getD i [])
theorem FY.ext {B:Nat}{w w':World}{vs:List Value}{ps:List (List (Int × Int))} (h:FY B w vs ps) (e:Ext w w'):FY B w' vs ps:=⟨h.1,fun i hi=>(h.2 i hi).ext e⟩
structure Cs (W:World) (w:World) (xK:Value) (vs:List Value) (ps:List (List (Int × Int))) (nB:Value) (p:List (Int × Int)):Prop where
 e:Ext W w
 o:n1 W.heap.size w xK vs
 p:hZ W.heap.size w nB p
 ps:FY W.heap.size w vs ps
 aC:∀ g,xK.ownBlock=some g→nB.ownBlock≠some g
 aW:∀ i,i<vs.length→∀ g,(vs.getD i (.slice none 0 0)).ownBlock=some g→nB.ownBlock≠some g∧xK.ownBlock≠some g
section
variable {W w w':World}{xK:Value}{vs:List Value}{ps:List (List (Int × Int))}{nB:Value}{p:List (Int × Int)}
theorem Cs.ext (s:Cs W w xK vs ps nB p) (k:Ext w w'):Cs W w' xK vs ps nB p:=⟨s.e.trans k,s.o.ext k,s.p.ext k,s.ps.ext k,s.aC,s.aW⟩
end
end
section
open Go Go.RowKit
def Q0 (l:List Int) (W:World) (e:Ending) (w':World):Prop:=∃ A c,e=.returned (.slice A l.length c)∧hE w' A l∧Ext W w'
def Jb (w:World) (A:Option Addr) (ps:List (List (Int × Int))):Prop:=
 0<ps.length→∃ g off,A=some ⟨g,off,none⟩∧g<w.heap.size∧∀ j,j<ps.length→∃ A' c',w.cell? ⟨g,off+j,none⟩=some (.slice A' (ps.getD j []).length c')∧fK w A' (ps.getD j [])
theorem Jb.ext {w w':World}{A:Option Addr}{ps:List (List (Int × Int))} (h:Jb w A ps) (e:Ext w w'):Jb w' A ps:=fun hp=>by
 obtain⟨g,off,hA,af,hc⟩:=h hp;refine⟨g,off,hA,Nat.lt_of_lt_of_le af e.size,fun j aN=>?_⟩;obtain⟨A',c',h1,h2⟩:=hc j aN;exact⟨A',c',(e.cell (p:=⟨g,off+j,none⟩) af).trans h1,h2.ext e⟩
end
section
open Go Go.RowKit
def j2 (B:Nat) (w:World) (v:Value) (l:List Int):Prop:=w.ownsRow B 3 1 v l.length (hT l)∧ko l
theorem j2.at_ {B:Nat}{w:World}{v:Value}{l:List Int} (h:j2 B w v l):∃ A cap,v=.slice A l.length cap∧l.length≤cap∧cap≤9223372036854775807∧hE w A l:=by
 rcases h.1.2 with ⟨rfl,h0⟩|⟨g,cap,cur,rfl,af,hh,nr,jP,hcs,Bp⟩
 ·obtain rfl:l=[]:=List.length_eq_zero_iff.1 h0;exact⟨none,0,rfl,Nat.le_refl _,by omega,hE.nil _ _⟩
 ·unfold maxLen at jP;refine⟨_,cap,rfl,nr,jP,h.2,by omega,fun _=>⟨g,0,rfl,(Array.getElem?_eq_some_iff.1 hh).1,fun j aN=>?_⟩⟩;have:=h.1.cells (g:=g) rfl j (Value.int .i64 (l.getD j 0)) (by rw[GI aN];simp[hT,aN]);have e:(⟨g,0,none⟩:Addr).add j=⟨g,0+j,none⟩:=by unfold Addr.add;split<;>simp_all
  rw[e] at this
  exact this
theorem j2.kept {B:Nat}{w w':World}{v:Value}{l:List Int} (h:j2 B w v l) {row:Option Nat} (af:w.grownBy w' row) (dB:v.ownBlock=none∨v.ownBlock≠row):j2 B w' v l:=⟨h.1.kept af dB,h.2⟩
theorem j2.alloc {B:Nat}{w:World}{v:Value}{l:List Int} (h:j2 B w v l) (o:Obj):j2 B (w.alloc o) v l:=⟨h.1.alloc o,h.2⟩
theorem j2.drew {B:Nat}{w:World}{v:Value}{l:List Int} (h:j2 B w v l):j2 B w.drew v l:=h
theorem j2.jT (B:Nat) (w:World):j2 B w (.slice none 0 0) []:=⟨World.ownsRow_nil _ _ _ _,ko.nil⟩
theorem j2.keep {B:Nat}{w w':World}{v:Value}{l:List Int} (h:j2 B w v l) (hs:w.heap.size≤w'.heap.size) (e:∀ g,v.ownBlock=some g→w'.heap[g]?=w.heap[g]?):j2 B w' v l:=by
 refine⟨?_,h.2⟩;obtain⟨h1,h2|⟨g,cap,cur,aF,af,hh,r⟩⟩:=h.1
 ·exact⟨h1,Or.inl h2⟩
 ·exact⟨h1,Or.inr ⟨g,cap,cur,aF,af,by rw[e g (by rw[aF];rfl)];exact hh,r⟩⟩
theorem j2.ext {B:Nat}{w w':World}{v:Value}{l:List Int} (h:j2 B w v l) (e:Ext w w'):j2 B w' v l:=by
 refine⟨?_,h.2⟩;obtain⟨h1,h2|⟨g,cap,cur,aF,af,hh,r⟩⟩:=h.1
 ·exact⟨h1,Or.inl h2⟩
 ·exact⟨h1,Or.inr ⟨g,cap,cur,aF,af,by rw[e.block g (Array.getElem?_eq_some_iff.1 hh).1];exact hh,r⟩⟩
theorem j2.less {B fc:Nat}{w:World}{v:Value}{l:List Int} (h:j2 B w v l) (bF:fc≤B):j2 fc w v l:=by
 refine⟨?_,h.2⟩;obtain⟨h1,h2|⟨g,cap,cur,aF,af,r⟩⟩:=h.1
 ·exact⟨h1,Or.inl h2⟩
 ·exact⟨h1,Or.inr ⟨g,cap,cur,aF,by omega,r⟩⟩
theorem j2.c7 {B b:Nat}{w w':World}{v:Value}{l:List Int} (h:j2 B w v l) (u:b3 b w w') (hb:b<B):j2 B w' v l:=by
 refine⟨?_,h.2⟩;obtain⟨h1,h2|⟨g,cap,cur,aF,af,hh,r⟩⟩:=h.1
 ·exact⟨h1,Or.inl h2⟩
 ·exact⟨h1,Or.inr ⟨g,cap,cur,aF,af,by rw[u.2.2.2.2 g (Array.getElem?_eq_some_iff.1 hh).1 (by omega)];exact hh,r⟩⟩
end
section
open Go Go.RowKit
theorem agE {α:Type} (l:List α) (pr:α→Int) (d:α) {j:Nat} (h:j<l.length):(l.take (j+1)).map pr=(l.take j).map pr++[pr (l.getD j d)]:=by
 rw[List.take_succ_eq_append_getElem h,List.map_append];simp[List.getD_eq_getElem?_getD,h]
set_option maxRecDepth 100000 in
theorem aiP (f:Nat) (pr:Int × Int→Int) (S6:∀ x y,de x→de y→de (pr (x,y))) (cQ:∀ x y w,de x→de y→Calls Tryz.prog f #[.agg #[.int .i64 x,.int .i64 y]] w (aP (.int .i64 (pr (x,y))) w)) (apt:∀ a w,(callFunc f a).run Tryz.prog w=.ok (.enter f a) w)
 (A:Option Addr) (n c:Nat) (l:List (Int × Int)) (W:World) (hl:fK W A l) (hn:l.length=n) (fT:n≤8796093022000) :
 Calls Tryz.prog 92 #[.slice A n c,.func (.func f) #[] #[]] W (Q0 (l.map pr) W):=by
 have Ci:=hide hl.1;have AH:=hide hl;have r0:=hide hn;have dL:=hide S6;have kI:=hide cQ;have zi:=aks n n (Nat.le_refl _) (by omega);rw[show List.replicate n 0=rS [] n from rfl] at zi;have bS:=hide (aA W (.cells (hT (rS [] n)).toArray 2));have au:=hide (aG.new W 2 (hT (rS [] n)).toArray);obtain⟨b,hb⟩:=aM W.heap.size;have fO:=hide hb;clear hl hn S6 cQ;go_enter Tryz.func92,Tryz.ntmps92
 go_wp2_with fail
 obtain⟨aT,gE⟩:=aM (W.alloc (.cells (hT (rS [] n)).toArray 2));rw[gE] at bS au ⊢;rw[hb] at au;have au:Hid (aG aT b 2 (hT (rS ((l.take 0).map pr) (n-0))).toArray):=au;clear gE zi hb;go_loopw [6,7,13] (fun _ _ iv wr=>∃ j:Nat,j≤n∧iv=.int .i64 (j:Int)∧Hid (aG wr b 2 (hT (rS ((l.take j).map pr) (n-j))).toArray)∧Hid (Ext W wr)) (fun _ _ iv _=>n-(intOf iv).toNat)
 case atStart=>exact⟨0,by omega,rfl,au,bS⟩
 case round =>
  clear au bS;obtain⟨j,aN,rfl,dx,dc⟩:=hrel;by_cases cl:j<n
  ·have d0:decide ((j:Int)<(n:Int))=true:=decide_eq_true (by omega);have k3:j<l.length:=by rw[r0.out];exact cl
   obtain⟨j3,lG,rfl,_,hc⟩:=(AH.out.ext dc.out).2.2 (by omega);have nQ:=(hc j k3).1;have jL:=(hc j k3).2;rw[←Nat.add_assoc] at jL;have Bx:=fun w=>G8 j3 lG n c j cl w
   have ap4:=fun w=>afc b n n j cl w
   have aN:=Ci.out.get j;have zn:=agE l pr (0,0) k3;obtain⟨pt,L9⟩:∃ z,(l.getD j (0,0)).1=z:=⟨_,rfl⟩;obtain⟨nB,L_⟩:∃ z,(l.getD j (0,0)).2=z:=⟨_,rfl⟩;have S5:l.getD j (0,0)=(pt,nB):=by rw[←L9,←L_]
   rw[S5] at zn;rw[L9] at nQ aN;rw[L_] at jL aN;have iI:=hide (fun w=>kI.out pt nB w aN.1 aN.2);obtain⟨q,aO⟩:=aM (pr (pt,nB));rw[aO] at iI zn;have zg:((l.take j).map pr).length=j:=by rw[List.length_map,List.length_take];omega
   have SY:n-j=(n-(j+1))+1:=by omega
   obtain⟨T,aw⟩:=aM ((l.take j).map pr);rw[aw] at dx zn zg;rw[SY] at dx;have WY:=hide (fun q=>alw T (n-(j+1)) q j zg);have Xk:=hide zn;have Gl:=dx.out.cell j;rw[alv T (n-(j+1)) j zg] at Gl;have fx:=dx.out.frozen j;have RK:=((aA wr (.cells #[.int .i64 pt,.int .i64 nB] 23)).cell (p:=⟨b,j,none⟩) dx.out.lt).trans Gl;have aR:=hide (dx.out.alloc (.cells #[.int .i64 pt,.int .i64 nB] 23));have da:=hide (Ext.trans dc.out (aA wr (.cells #[.int .i64 pt,.int .i64 nB] 23)));clear hc k3 L9 L_ S5 aw zn SY zg dx dc;go_wp2_with fail
   (with_reducible refine(iI.out _).mono ?_)
   rintro e w3 ⟨rfl,qA⟩;have aoZ:=(qA.cell (p:=⟨b,j,none⟩) aR.out.lt).trans RK;have dZ:=aR.out.ext qA;have GD:=dZ.frozen j;have pN:=dZ.VR j (.int .i64 q);rw[WY.out q,←Xk.out] at pN;have pN:=hide pN;have iF:=hide (Below.setCell (Ext.trans da.out qA) (p:=⟨b,j,none⟩) (by rw[←fO.out];exact Nat.le_refl _) (.int .i64 q));clear aR dZ da qA Gl RK fx;go_wp2_with fail
   go_roundw
   case rel=>exact⟨j+1,by omega,by go_num,pN,iF⟩
   case measure=>simp[intOf];omega
  ·obtain rfl:j=n:=by omega
   have d0:decide ((j:Int)<(j:Int))=false:=decide_eq_false (by omega);have bF:=dx.out;rw[List.take_of_length_le (by rw[r0.out];omega),show j-j=0 by omega] at bF;have bF:=hide bF;go_wp2_with fail
   go_ret;have adD:aG wr b 2 (hT (List.map pr l++[])).toArray:=by have:=bF.out;simpa [rS] using this
   have eD:=aie (cap:=j) (m:=[]) (Nat.le_refl b) adD (by rw[List.length_map];exact r0.out) rfl (by omega) (fun x hx=>by
    obtain⟨y,hy,rfl⟩:=List.mem_map.1 hx;exact dL.out _ _ (Ci.out y hy).1 (Ci.out y hy).2)
   obtain⟨cU,az,bk,_,_,hs⟩:=eD.at_;exact⟨cU,az,by rw[←bk];rfl,hs,dc.out⟩
theorem ai' (x y:Int) (w:World):Calls Tryz.prog 93 #[.agg #[.int .i64 x,.int .i64 y]] w (aP (.int .i64 x) w):=by
 go_enter Tryz.func93,Tryz.ntmps93
 go_wp2_with fail
 go_ret;exact⟨rfl,aA _ _⟩
theorem aja (A:Option Addr) (n c:Nat) (l:List (Int × Int)) (W:World) (hl:fK W A l) (hn:l.length=n) (fT:n≤8796093022000) :
 Calls Tryz.prog 78 #[.slice A n c] W (Q0 (l.map Prod.fst) W):=by
 have K:=hide (aiP 93 Prod.fst (fun x y h _=>h) (fun x y w _ _=>ai' x y w) (fun a w=>by go_simp) A n c l W hl hn fT);clear hl hn;go_enter Tryz.func78,Tryz.ntmps78
 go_wp2_with (go_at_call 92;(with_reducible refine(K.out).mono ?_);rintro e aT ⟨cU,az,rfl,h1,ad⟩)
 go_ret;exact⟨cU,az,by rw[List.length_map];rfl,h1,ad⟩
theorem NU (A:Option Addr) (n c:Nat) (l:List (Int × Int)) (W:World) (hl:fK W A l) (hn:l.length=n) (fT:n≤8796093022000) (v:Nat) (aF:lV l=v) :
 Calls Tryz.prog 47 #[.slice A n c] W (aP (.int .i64 (v:Int)) W):=by
 have wF:Hid (Calls Tryz.prog 78 #[.slice A n c] W fun e w'=>∃ cU az,e=.returned (.slice cU n az)∧hE w' cU (l.map Prod.fst)∧Ext W w'):=hide ((aja A n c l W hl hn fT).mono fun e w' h=>by
  obtain⟨cU,az,rfl,hw,ad⟩:=h;exact⟨cU,az,by rw[List.length_map,hn],hw,ad⟩)
 have pQ:Hid (∀ cU az w,hE w cU (l.map Prod.fst)→Calls Tryz.prog 77 #[.slice cU n az] w (aP (.bool (jx (l.map Prod.fst))) w)):=hide (fun cU az w h=>ai4 cU n az (l.map Prod.fst) w h (by rw[List.length_map];exact hn) _ rfl);unfold lV at aF;obtain⟨i,hi⟩:=aM (jx (l.map Prod.fst));rw[hi] at aF pQ;clear hl hn hi;cases i with
 | true =>
  rw[if_pos rfl] at aF;subst aF;go_enter Tryz.func47,Tryz.ntmps47
  go_wp2_with (first
   | (go_at_call 78;(with_reducible refine(wF.out).mono ?_);rintro e aT ⟨cU,az,rfl,h1,sE⟩;have eC:=hide (pQ.out cU az aT h1);have bS:=hide sE;clear h1 sE)
   | (go_at_call 77;(with_reducible refine(eC.out).mono ?_);rintro e bp ⟨rfl,gj⟩))
  go_ret;exact⟨rfl,bS.out.trans gj⟩
 | false =>
  rw[if_neg (by simp)] at aF;subst aF;go_enter Tryz.func47,Tryz.ntmps47
  go_wp2_with (first
   | (go_at_call 78;(with_reducible refine(wF.out).mono ?_);rintro e aT ⟨cU,az,rfl,h1,sE⟩;have eC:=hide (pQ.out cU az aT h1);have bS:=hide sE;clear h1 sE)
   | (go_at_call 77;(with_reducible refine(eC.out).mono ?_);rintro e bp ⟨rfl,gj⟩))
  go_ret;exact⟨rfl,bS.out.trans gj⟩
end
section
open Go Go.RowKit Go.Sort
def atU (eps:Int) (cs:List Sa) (ls:List wI) (k a:Nat):Prop:=a≤cs.length∧k≤ls.length∧atZ eps (cs.drop a) (ls.drop k)
theorem atZ.len {eps:Int}:∀ {l:List Sa}{ls:List wI},atZ eps l ls→ls.length≤l.length
 | [],[],_=>Nat.le_refl _
 | [],_ :: _,h=>absurd h (by simp[atZ])
 | _ :: _,[],h=>absurd h (by simp[atZ])
 | x :: l,(n,v,c) :: ls,h=>by
  simp only[atZ] at h;obtain⟨_,h1,h2,_,_,_,h7⟩:=h;have:=atZ.len h7;rw[List.length_drop] at this
  simp only[List.length_cons];omega
theorem atU.len {eps:Int}{cs:List Sa}{ls:List wI} (h:atU eps cs ls 0 0):ls.length≤cs.length:=by
 have:=atZ.len h.2.2;simpa using this
end
end Go.Proofs.YtojbopibfflnoaaGreat
