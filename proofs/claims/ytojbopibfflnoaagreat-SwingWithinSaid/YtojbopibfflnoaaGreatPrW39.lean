/- Contracts and plain facts; each states its conditions. -/
import Derived.Test.YtojbopibfflnoaaGreatPrW9
import Derived.Test.YtojbopibfflnoaaGreatPrW22
import Derived.Test.YtojbopibfflnoaaGreatPrW32
import Derived.Test.YtojbopibfflnoaaGreatPrW36
namespace Go.Proofs.YtojbopibfflnoaaGreat
set_option linter.unusedVariables false
set_option linter.unusedSimpArgs false
set_option maxHeartbeats 16000000
section
open Go Go.RowKit
instance (n d:Int):Decidable (iW n d):=by unfold iW;infer_instance
theorem awL {aC d1 aW d2 EG d3:Int} (h1:0<d1) (h2:0<d2) (h3:0<d3) (a:aC*d2≤aW*d1) (b:aW*d3≤EG*d2):aC*d3≤EG*d1:=by
 have bk:aC*d2*d3≤aW*d1*d3:=Int.mul_le_mul_of_nonneg_right a (by omega);have e2:aW*d3*d1≤EG*d2*d1:=Int.mul_le_mul_of_nonneg_right b (by omega);have fL:aC*d3*d2≤EG*d1*d2:=by
  have f1:aC*d3*d2=aC*d2*d3:=by grind
  have f2:EG*d1*d2=EG*d2*d1:=by grind
  have f3:aW*d1*d3=aW*d3*d1:=by grind
  omega
 exact Int.le_of_mul_le_mul_right fL h2
open Go Go.RowKit
end
section
open Go Go.RowKit
instance (s t:Fr):Decidable (jQ s t):=by unfold jQ;infer_instance
theorem avW (s t:Fr):jQ s t∨jQ t s:=by unfold jQ;omega
theorem auQ {a b c:Fr} (ha:okF a) (hb:okF b) (hc:okF c) (h:jQ a b) (k:jQ b c):jQ a c:=awL ha.1 hb.1 hc.1 h k
theorem avZ {a b x:Fr} (ha:okF a) (hb:okF b) (hx:okF x):jQ (p_ a b) x↔jQ a x∧jQ b x:=by
 unfold p_;split
 ·rename_i h;exact⟨fun k=>⟨k,auQ hb ha hx h k⟩,fun k=>k.1⟩
 ·rename_i h;have h':jQ a b:=(avW a b).resolve_right h;exact⟨fun k=>⟨auQ ha hb hx h' k,k⟩,fun k=>k.2⟩
theorem avX {a b x:Fr} (ha:okF a) (hb:okF b) (hx:okF x):jQ x (qa a b)↔jQ x a∧jQ x b:=by
 unfold qa;split
 ·rename_i h;exact⟨fun k=>⟨k,auQ hx ha hb k h⟩,fun k=>k.1⟩
 ·rename_i h;have h':jQ b a:=(avW a b).resolve_left h;exact⟨fun k=>⟨auQ hx hb ha k h',k⟩,fun k=>k.2⟩
instance (c:jH) (s:Fr):Decidable (Mn c s):=by cases c<;>unfold Mn<;>infer_instance
theorem axq {a b:jH}{s:Fr} (ha:nU a) (hb:nU b) (hs:okF s):(∃ m,kB a b=some m∧Mn m s)↔(Mn a s∧Mn b s):=by
 cases a with
 | op=>simp[kB,Mn]
 | dU ah h1 =>
  cases b with
  | op=>simp[kB,Mn]
  | dU aj h2 =>
   have hl:=M4 ha.1 hb.1;have hh:=M5 ha.2.1 hb.2.1;simp only[kB];constructor
   ·rintro⟨m,hm,hi⟩;split at hm
    ·simp only[Option.some.injEq] at hm;subst hm;obtain⟨i1,i2⟩:=hi;have cW:=(avZ ha.1 hb.1 hs).1 i1;have cL:=(avX ha.2.1 hb.2.1 hs).1 i2;exact⟨⟨cW.1,cL.1⟩,⟨cW.2,cL.2⟩⟩
    ·simp at hm
   ·rintro⟨⟨i1,i2⟩,⟨i3,i4⟩⟩;have cW:=(avZ ha.1 hb.1 hs).2 ⟨i1,i3⟩;have cL:=(avX ha.2.1 hb.2.1 hs).2 ⟨i2,i4⟩;rw[if_pos (auQ hl hs hh cW cL)];exact⟨_,rfl,cW,cL⟩
theorem axg {n d:Int} (hd:0<d) (s:Fr):jQ s (pG n d)↔s.1*d≤n*s.2:=by
 obtain⟨a,-,e⟩:=HK n d (by omega);obtain⟨x,y⟩:=s;show x*ik n d≤ig n d*y↔x*d≤n*y
 obtain⟨N,jO⟩:=aM (ig n d);obtain⟨D,hH⟩:=aM (ik n d);rw[jO,hH] at e ⊢;rw[hH] at a;have bk:N*y*d=n*y*D:=by
  have:N*y*d=N*d*y:=by grind
  rw[this,e];grind
 have e2:x*D*d=x*d*D:=by grind
 constructor
 ·intro h;have:=Int.mul_le_mul_of_nonneg_right h (Int.le_of_lt hd);rw[bk,e2] at this
  exact Int.le_of_mul_le_mul_right this a
 ·intro h;have:=Int.mul_le_mul_of_nonneg_right h (Int.le_of_lt a);rw[←bk,←e2] at this
  exact Int.le_of_mul_le_mul_right this hd
theorem axO {base v eps dt:Int} (hd:0<dt) (s:Fr):Mn (B1 base v eps dt) s↔((s.1*dt-(v-base)*s.2).natAbs:Int)≤eps*s.2:=by
 show jQ _ s∧jQ s _↔_
 rw[aka hd,axg hd];have bk:(v-base-eps)*s.2=(v-base)*s.2-eps*s.2:=by grind
 have e2:(v-base+eps)*s.2=(v-base)*s.2+eps*s.2:=by grind
 rw[bk,e2];omega
theorem axN {base v eps dt n d:Int} (hd:0<d) (h:((n*dt-(v-base)*d).natAbs:Int)≤eps*d):((base+((n+n)*dt+d) / (d+d)-v).natAbs:Int)≤eps:=by
 obtain⟨Q,sF⟩:=aM (v-base);rw[sF] at h;have iJ:(n+n)*dt+d=2*(n*dt)+d:=by grind
 rw[iJ];obtain⟨P,ie⟩:=aM (n*dt);rw[ie] at h ⊢;have Bm:(Q-eps)*(d+d)≤2*P+d:=by
  have:(Q-eps)*(d+d)=2*(Q*d)-2*(eps*d):=by grind
  omega
 have xm:2*P+d<(Q+eps+1)*(d+d):=by
  have:(Q+eps+1)*(d+d)=2*(Q*d)+2*(eps*d)+(d+d):=by grind
  omega
 have h1:=Int.le_ediv_of_mul_le (show 0<d+d by omega) Bm;have h2:=Int.ediv_lt_of_lt_mul (show 0<d+d by omega) xm;omega
end
section
theorem avb (eps:Int) (x:Sa):∀ (l r:List Sa) (c m:jH),atS eps x c l=some m→atS eps x c (l++r)=atS eps x m r
 | [],r,c,m,h=>by
  simp only[atS,Option.some.injEq] at h;subst h;rfl
 | y :: l,r,c,m,h=>by
  simp only[atS,List.cons_append] at h ⊢;cases hm:kB c (mX eps x y) with
  | none=>rw[hm] at h;cases h
  | some q=>rw[hm] at h;exact avb eps x l r q m h
theorem avt (eps:Int):∀ (l:List Sa) (s:jc) (p:List Sa),atS eps s.first .op p=some s.eG→s.count=p.length+1→atZ eps (s.first :: (p++l)) (EV eps (some s) l)
 | [],s,p,h,hc=>by
  simp only[EV,tP,T5,List.append_nil,atZ];have e:s.count-1=p.length:=by omega
  rw[e,List.take_length,List.drop_length];refine⟨by trivial,by omega,by omega,h,fun _=>by omega,fun y r q=>by simp at q,trivial⟩
 | x :: l,s,p,h,hc=>by
  simp only[EV,gZ];cases hm:kB s.eG (mX eps s.first x) with
  | some m =>
   simp only[List.nil_append];have h1:atS eps s.first .op (p++[x])=some m:=by
    rw[avb eps s.first p [x] .op s.eG h];simp only[atS,hm]
   have:=avt eps l ⟨s.first,x.1,s.count+1,m⟩ (p++[x]) h1 (by simp;omega);simpa using this
  | none =>
   have h1:=avt eps l (CG x) [] rfl rfl;simp only[List.nil_append] at h1;have e:s.count-1=p.length:=by omega
   simp only[T5,List.cons_append,List.nil_append,atZ];rw[e,List.take_left,List.drop_left];refine⟨by trivial,by omega,by simp;omega,h,fun q=>?_,fun y r q=>?_,h1⟩
   ·rw[q] at h1;simp[atZ,CG] at h1
   ·simp only[List.cons.injEq] at q;rw[←q.1];exact hm
theorem awb (eps:Int) (l:List Sa):atZ eps l (uS eps l):=by
 cases l with
 | nil=>simp[uS,EV,tP,atZ]
 | cons x l =>
  have:=avt eps l (CG x) [] rfl rfl;simp only[uS,EV,gZ,List.nil_append];exact this
theorem avE {eps:Int}{x:Sa} (hx:∀ y,nU (mX eps x y)→True):∀ {l:List Sa}{c m:jH},nU c→(∀ y∈l,nU (mX eps x y))→atS eps x c l=some m→nU m∧∀ f,okF f→(Mn m f↔Mn c f∧∀ y∈l,Mn (mX eps x y) f)
 | [],c,m,hc,_,h=>by
  simp only[atS,Option.some.injEq] at h;subst h;exact⟨hc,fun f _=>by simp⟩
 | y :: l,c,m,hc,hl,h=>by
  simp only[atS] at h;have hy:=hl y (by simp);cases hm:kB c (mX eps x y) with
  | none=>rw[hm] at h;cases h
  | some q =>
   rw[hm] at h;have aO:=agC hc hy hm;obtain⟨h1,h2⟩:=avE hx aO (fun z hz=>hl z (by simp[hz])) h;refine⟨h1,fun f hf=>?_⟩;have hi:=axq (a:=c) (b:=mX eps x y) hc hy hf;rw[h2 f hf];constructor
   ·rintro⟨a,b⟩;obtain⟨az,aU⟩:=hi.1 ⟨q,hm,a⟩;refine⟨az,fun z hz=>?_⟩;rcases List.mem_cons.1 hz with rfl|hz
    ·exact aU
    ·exact b z hz
   ·rintro⟨a,b⟩;obtain⟨q',e,D7⟩:=hi.2 ⟨a,b y (by simp)⟩;rw[hm] at e;cases e
    exact⟨D7,fun z hz=>b z (by simp[hz])⟩
end
section
open Go Go.RowKit Go.Sort
open Classical in
theorem avY {eps:Int} (he:o5 eps) {x:Sa}{l:List Sa}{c:jH} (hx:pU x) (aL:∀ y∈l,pU y) (hi:∀ y∈l,x.1<y.1) (h:atS eps x .op l=some c):nU c∧okF (qQ c)∧∀ y∈l,Mn (mX eps x y) (qQ c)∧((x.2+(((qQ c).1+(qQ c).1)*(y.1-x.1)+(qQ c).2) / ((qQ c).2+(qQ c).2)-y.2).natAbs:Int)≤eps:=by
 obtain⟨hc,hf⟩:=avE (eps:=eps) (x:=x) (fun _ _=>trivial) (l:=l) (c:=.op) (m:=c) trivial (fun y hy=>Wc he hx (aL y hy) (hi y hy)) h;have hs:=Zm hc (V0 hc);refine⟨hc,hs.2,fun y hy=>?_⟩;have h1:=((hf _ hs.2).1 hs.1).2 y hy;refine⟨h1,?_⟩;have h2:=(axO (base:=x.2) (v:=y.2) (eps:=eps) (dt:=y.1-x.1) (by have:=hi y hy;omega) (qQ c)).1 h1;exact axN hs.2.1 h2
end
section
open Go Go.RowKit
section
variable {l:List Oper}{a0:Act}{W:World}{P:Program}{Q:Exit→Act→World→Prop}
theorem aus {id:Nat} (kd:List ew) (nd:List Nat) (V:(Nat→Value)→List Value) (zero:Nat→Obj) (full:(Nat→Value)→Nat→Obj) (tgt:Nat→Nat) (T:Nat→(Nat→Value)→World→Prop) (E:Nat→Prop) (A:(Nat→Value)→Act) (F:(Nat→Value)→(Nat→Nat)→Act) (hF:∀ R G,bB l kd (V R) R G 0 a0=F R G) (hA:∀ R,F R (fun _=>0)=A R) (hm:P.follows .mixedOrders=true) (ec:qw l kd=true) (p5:t_ l kd nd=true) (np:sx l a0.tmps.size=true) (h4:kd.length=l.length) (h5:∀ R,(V R).length=l.length)
 (ad:∀ k,E k→k<W.heap.size) (pg:∀ c,ew.so c∈kd→¬ E (tgt c)) (e6:∀ c,ew.so c∈kd→tgt c<W.heap.size) (kA:∀ c c',ew.so c∈kd→ew.so c'∈kd→tgt c=tgt c'→c=c') (ry:∀ R b1,uL nd R b1 0 (V R) (V b1)) (tQ:∀ R b1 i,(∀ m,m<nd.getD i 0→R m=b1 m)→full R i=full b1 i)
 (qC:∀ s R w w',T s R w→Below w.heap.size w w'→T s R w') (Lk:T 0 (fun _=>undef) W.drew)
 (mO:ql (pR P T E l kd nd V zero full tgt W A) 0 l)
 (k2:∀ s R G w,lf T E l kd zero full tgt W (List.range l.length) s R G w→∀ f,f=F R G→Q .normal f w) :
 (Code.region id l.toArray true).wp P Q a0 W:=by
 have e:A=fun R=>bB l kd (V R) R (fun _=>0) 0 a0:=funext fun R=>((hF R _).trans (hA R)).symm
 rw[e] at mO;exact kl kd nd V zero full tgt T E hm ec p5 np h4 h5 ad pg e6 kA ry tQ qC Lk mO (fun s R G w ae=>k2 s R G w ae _ (hF R G))
theorem aut {id:Nat} (kd:List ew) (nd:List Nat) (V:(Nat→Value)→List Value) (zero:Nat→Obj) (full:(Nat→Value)→Nat→Obj) (tgt:Nat→Nat) (T:Nat→(Nat→Value)→World→Prop) (E:Nat→Prop) (A:(Nat→Value)→Act) (F:(Nat→Value)→(Nat→Nat)→Act) (hF:∀ R G,bB l kd (V R) R G 0 a0=F R G) (hA:∀ R,F R (fun _=>0)=A R) (ec:qw l kd=true) (p5:t_ l kd nd=true) (np:sx l a0.tmps.size=true) (h4:kd.length=l.length) (h5:∀ R,(V R).length=l.length)
 (ad:∀ k,E k→k<W.heap.size) (pg:∀ c,ew.so c∈kd→¬ E (tgt c)) (e6:∀ c,ew.so c∈kd→tgt c<W.heap.size) (kA:∀ c c',ew.so c∈kd→ew.so c'∈kd→tgt c=tgt c'→c=c') (ry:∀ R b1,uL nd R b1 0 (V R) (V b1)) (tQ:∀ R b1 i,(∀ m,m<nd.getD i 0→R m=b1 m)→full R i=full b1 i)
 (qC:∀ s R w w',T s R w→Below w.heap.size w w'→T s R w') (Lk:T 0 (fun _=>undef) W)
 (mO:ql (pR P T E l kd nd V zero full tgt W A) 0 l)
 (k2:∀ s R G w,lf T E l kd zero full tgt W (List.range l.length) s R G w→∀ f,f=F R G→Q .normal f w) :
 (Code.region id l.toArray false).wp P Q a0 W:=by
 have e:A=fun R=>bB l kd (V R) R (fun _=>0) 0 a0:=funext fun R=>((hF R _).trans (hA R)).symm
 rw[e] at mO;exact eB kd nd V zero full tgt T E ec p5 np h4 h5 ad pg e6 kA ry tQ qC Lk mO (fun s R G w ae=>k2 s R G w ae _ (hF R G))
end
end
end Go.Proofs.YtojbopibfflnoaaGreat
