/- Facts. -/
import Derived.Test.YtojbopibfflnoaaGreatPrY4
import Derived.Test.YtojbopibfflnoaaGreatPrY7
import Derived.Test.YtojbopibfflnoaaGreatPrY25
import Derived.Test.YtojbopibfflnoaaGreatPrY26
import Derived.Test.YtojbopibfflnoaaGreatPrY27
import Derived.Deep.Strs
import Derived.Shelf.Strconv.Itoa0
import Derived.Deep.DeepAppendWide
import Derived.Deep.RegionLaw
namespace Go.Proofs.YtojbopibfflnoaaGreat
open Go renaming World → G, Value → E, TypeId → aw7, run_underlying → axf, Ending → axa, Addr → aw6
open _root_.Go.Proofs.Tryz renaming prog → F
set_option linter.unusedVariables false
set_option linter.unusedSimpArgs false
set_option maxHeartbeats 16000000
set_option maxRecDepth 100000
section
open Go Go.ChangeShapes Go.WideShapes Go.ChangeAt Go.RowKit
theorem auJ:Tryz.prog.cellsOf 31=21:=by kernel_rfl
theorem auh{H:Type}{enc:aw7 × E->H}{W:G}{n:Nat}{bt az aU a_ bK cy cF b8 bR c2:E}{x:DataW H × List MemPlace}(hf:DataW.trod enc F W 0 (fun _=>true) true n 29 [bt,az,aU,a_,bK,cy,cF,b8,bR,c2]=some x) :
 wM #[bt,az,aU,a_,bK,cy,cF,b8,bR,c2]:=by
 obtain⟨nY,y1,n,hx,hl,h0,h1⟩:=trod_struct2 Tryz.underlying29 hf;simp only[auN] at h0 h1;obtain⟨s,a,b,c,e,x,rfl,rfl,rfl,rfl,rfl,hz⟩:=aun (show DataW.trod enc F W 0 (fun _=>true) true n 27 [bt,az,aU,a_,bK]=some nY from h0);obtain⟨t,a',b',c',e',y,rfl,rfl,rfl,rfl,rfl,Ek⟩:=aun (show DataW.trod enc F W 0 (fun _=>true) true n 27 [cy,cF,b8,bR,c2]=some y1 from h1);exact aj5 hz Ek
end
section
open Go Go.RowKit Go.Sort
section
theorem aa4(k:Nat)(s s':Bool)(a b c e a' b' c' e':Int)(w:G) :
 (Op.equalIn (k+4) 27 (.agg #[.bool s,.int .u64 a,.int .u64 b,.int .u64 c,.int .u64 e]) (.agg #[.bool s',.int .u64 a',.int .u64 b',.int .u64 c',.int .u64 e'])).run F w=.ok (ii s s' a b c e a' b' c' e') w:=by
 have hS:Tryz.prog.underlying 27=some (.struct (Tryz.prog.fieldsOf 27)):=by kernel_rfl
 have hp:Tryz.prog.stoodInHeld 27=false:=by kernel_rfl
 have u4:=Tryz.underlying4;have h4:=A4 (k+1) 25 Tryz.underlying25;have Ak:=Tryz.sizeOf25;rw[run_equalIn_agg w (k+3) 27 _ _ hS hp];simp only[Program.fieldsOf,Tryz.underlying27];simp[Op.eqFields,part,isAgg,axf u4,run_equalIn_bool',u4,h4,Ak,ii];by_cases h0:s=s'<;>by_cases h1:a=a'<;>by_cases h2:b=b'<;>by_cases h3:c=c'<;>by_cases h4:e=e'<;>simp[h0,h1,h2,h3,h4]
theorem aa0(k:Nat)(s s':Bool)(a b c e a' b' c' e':Int)(t t':Bool)(f g h i f' g' h' l4:Int)(w:G) :
 (Op.equalIn (k+5) 29 (.agg #[.bool s,.int .u64 a,.int .u64 b,.int .u64 c,.int .u64 e,.bool t,.int .u64 f,.int .u64 g,.int .u64 h,.int .u64 i]) (.agg #[.bool s',.int .u64 a',.int .u64 b',.int .u64 c',.int .u64 e',.bool t',.int .u64 f',.int .u64 g',.int .u64 h',.int .u64 l4])).run F w=.ok (ii s s' a b c e a' b' c' e'&&ii t t' f g h i f' g' h' l4) w:=by
 have hS:Tryz.prog.underlying 29=some (.struct (Tryz.prog.fieldsOf 29)):=by kernel_rfl
 have hp:Tryz.prog.stoodInHeld 29=false:=by kernel_rfl
 have z25:=Tryz.sizeOf27;have h5:=aa4 k;rw[run_equalIn_agg w (k+4) 29 _ _ hS hp];simp only[Program.fieldsOf,Tryz.underlying29];simp[Op.eqFields,part,isAgg,h5,z25];generalize ii s s' a b c e a' b' c' e'=p;generalize ii t t' f g h i f' g' h' l4=q;cases p<;>cases q<;>rfl
open Classical in
noncomputable def mV (L M:Array E):Bool:=if L=M then true else false
theorem HE(L M:Array E):mV L M=true↔L=M:=by unfold mV;split<;>simp_all
theorem Od(L:Array E):mV L L=true:=(HE L L).2 rfl
theorem Ke(k:Nat){L M:Array E}(br:RC L)(hI:RC M)(w:G):(Op.equalIn (k+5) 29 (.agg L) (.agg M)).run F w=.ok (mV L M) w:=by
 obtain⟨s,a,b,c,e,t,f,g,h,i,rfl⟩:=br;obtain⟨s',a',b',c',e',t',f',g',h',l4,rfl⟩:=hI;rw[aa0];congr 1
 rw[Bool.eq_iff_iff,HE];unfold ii;simp[and_assoc]
theorem RX(k:Nat)(o o':Bool){L H M N:Array E}(br:RC L)(dh:RC H)(hI:RC M)(jO:RC N)(w:G):(Op.equalIn (k+6) 31 (.agg (bT o L H)) (.agg (bT o' M N))).run F w=.ok ((o==o')&&(mV L M&&mV H N)) w:=by
 have hS:Tryz.prog.underlying 31=some (.struct (Tryz.prog.fieldsOf 31)):=by kernel_rfl
 have hp:Tryz.prog.stoodInHeld 31=false:=by kernel_rfl
 have u4:=Tryz.underlying4;have z25:=Tryz.sizeOf29;have h5:=Ke k br hI;have h6:=Ke k dh jO;have lo:=JL o br.size dh.size;have hi:=JK o br.size dh.size;have agm:=JL o' hI.size jO.size;have ad5:=JK o' hI.size jO.size;have iJ:(bT o L H)[0]?=some (.bool o):=by rw[bT,Array.append_assoc,Array.getElem?_append_left (by simp)];rfl
 have aaf:(bT o' M N)[0]?=some (.bool o'):=by rw[bT,Array.append_assoc,Array.getElem?_append_left (by simp)];rfl
 rw[run_equalIn_agg w (k+5) 31 _ _ hS hp];simp only[Program.fieldsOf,Tryz.underlying31];simp[Op.eqFields,part,isAgg,axf u4,run_equalIn_bool',u4,h5,h6,z25,lo,hi,agm,ad5,iJ,aaf];generalize mV L M=p;generalize mV H N=q;cases o<;>cases o'<;>cases p<;>cases q<;>rfl
theorem aa1(k:Nat)(t v t' v':Int)(w:G):(Op.equalIn (k+2) 23 (.agg #[.int .i64 t,.int .i64 v]) (.agg #[.int .i64 t',.int .i64 v'])).run F w=.ok ((t==t')&&(v==v')) w:=by
 have hS:Tryz.prog.underlying 23=some (.struct (Tryz.prog.fieldsOf 23)):=by kernel_rfl
 have hp:Tryz.prog.stoodInHeld 23=false:=by kernel_rfl
 have u:=Tryz.underlying2;have he:∀ (x y:Int) (w:G),(Op.equalIn (k+1) 2 (.int .i64 x) (.int .i64 y)).run F w=.ok (x==y) w:=fun x y w=>run_equalIn_int w k 2 .i64 .i64 x y u
 have z:=Tryz.sizeOf2;rw[run_equalIn_agg w (k+1) 23 _ _ hS hp];simp only[Program.fieldsOf,Tryz.underlying23];simp[Op.eqFields,part,isAgg,axf u,u,z,he];by_cases h0:t=t'<;>by_cases h1:v=v'<;>simp[h0,h1]
theorem aa_(e n t v l e' n' t' v' l':Int)(o o':Bool){L H M N:Array E}(br:RC L)(dh:RC H)(hI:RC M)(jO:RC N)(w:G):(binOp .eql 33 (.agg (aI e n t v l (bT o L H))) (.agg (aI e' n' t' v' l' (bT o' M N)))).run F w=.ok (.bool ((e==e')&&((n==n')&&(((t==t')&&(v==v'))&&((l==l')&&((o==o')&&(mV L M&&mV H N))))))) w:=by
 have hS:Tryz.prog.underlying 33=some (.struct (Tryz.prog.fieldsOf 33)):=by kernel_rfl
 have hp:Tryz.prog.stoodInHeld 33=false:=by kernel_rfl
 have u:=Tryz.underlying2;have u2:=Tryz.underlying3;have he:∀ (x y:Int) (w:G),(Op.equalIn 9999 2 (.int .i64 x) (.int .i64 y)).run F w=.ok (x==y) w:=fun x y w=>run_equalIn_int w 9998 2 .i64 .i64 x y u
 have ze:∀ (x y:Int) (w:G),(Op.equalIn 9999 3 (.int .i64 x) (.int .i64 y)).run F w=.ok (x==y) w:=fun x y w=>run_equalIn_int w 9998 3 .i64 .i64 x y u2
 have hs:∀ w,(Op.equalIn 9999 23 (.agg #[.int .i64 t,.int .i64 v]) (.agg #[.int .i64 t',.int .i64 v'])).run F w=.ok ((t==t')&&(v==v')) w:=fun w=>aa1 9997 t v t' v' w
 have hc:∀ w,(Op.equalIn 9999 31 (.agg (bT o L H)) (.agg (bT o' M N))).run F w=.ok ((o==o')&&(mV L M&&mV H N)) w:=fun w=>RX 9993 o o' br dh hI jO w
 have fb:=Tryz.sizeOf23;have z2:=Tryz.sizeOf31;have s1:=lW o br.size dh.size;have s2:=lW o' hI.size jO.size;obtain⟨a0,a1,_,_,a4,a5,a6⟩:=nX (e:=e) (n:=n) (t:=t) (v:=v) (l:=l) s1;obtain⟨kM,bA,_,_,eZ,c1,cH⟩:=nX (e:=e') (n:=n') (t:=t') (v:=v') (l:=l') s2;unfold bO at a5 c1;generalize mV L M=p at hc |-;generalize mV H N=q at hc |-;generalize aI e n t v l (bT o L H)=X at a0 a1 a4 a5 a6 |-;generalize aI e' n' t' v' l' (bT o' M N)=Y at kM bA eZ c1 cH |-;generalize bT o L H=C at a6 hc;generalize bT o' M N=D at cH hc;rw[run_eql_struct,show (10000:Nat)=9999+1 from rfl,run_equalIn_agg w 9999 33 _ _ hS hp];simp only[Program.fieldsOf,Tryz.underlying33];simp[Op.eqFields,part,isAgg,axf u,axf u2,he,ze,hs,hc,fb,z2,a0,a1,a4,a5,a6,kM,bA,eZ,c1,cH];by_cases h0:e=e'<;>by_cases h1:n=n'<;>by_cases h2:t=t'<;>by_cases h3:v=v'<;>by_cases h4:l=l'<;>by_cases h5:o=o'<;>cases p<;>cases q<;>simp[h0,h1,h2,h3,h4,h5]
theorem auX(e n t v l:Int)(o:Bool){L H:Array E}(br:RC L)(dh:RC H)(w:G):(binOp .eql 33 (.agg (aI e n t v l (bT o L H))) (.agg (aI e n t v l (bT o L H)))).run F w=.ok (.bool true) w:=by
 rw[aa_ e n t v l e n t v l o o br dh br dh w];simp[Od]
theorem R0(n v:Int){L:Array E}(br:RC L)(w:G):(binOp .eql 55 (.agg (j_ n v L)) (.agg (j_ n v L))).run F w=.ok (.bool true) w:=by
 have hS:Tryz.prog.underlying 55=some (.struct (Tryz.prog.fieldsOf 55)):=by kernel_rfl
 have hp:Tryz.prog.stoodInHeld 55=false:=by kernel_rfl
 have u:=Tryz.underlying2;have u2:=Tryz.underlying3;have he:∀ (x y:Int) (w:G),(Op.equalIn 9999 2 (.int .i64 x) (.int .i64 y)).run F w=.ok (x==y) w:=fun x y w=>run_equalIn_int w 9998 2 .i64 .i64 x y u
 have ze:∀ (x y:Int) (w:G),(Op.equalIn 9999 3 (.int .i64 x) (.int .i64 y)).run F w=.ok (x==y) w:=fun x y w=>run_equalIn_int w 9998 3 .i64 .i64 x y u2
 have hc:∀ w,(Op.equalIn 9999 29 (.agg L) (.agg L)).run F w=.ok true w:=fun w=>(Ke 9994 br br w).trans (by rw[Od])
 have fb:=Tryz.sizeOf29;obtain⟨a0,a1,a2⟩:=afZ (n:=n) (v:=v) br.size;generalize j_ n v L=X at a0 a1 a2 |-;rw[run_eql_struct,show (10000:Nat)=9999+1 from rfl,run_equalIn_agg w 9999 55 _ _ hS hp];simp only[Program.fieldsOf,Tryz.underlying55];simp[Op.eqFields,part,isAgg,axf u,axf u2,he,ze,hc,fb,a0,a1,a2]
end
end
section
def pU(x:Sa):Prop:=de x.1/\de x.2
def mF:Option jc->Prop
 | none=>True
 | some s=>pU s.first/\de s.last/\((s.count=1/\s.last=s.first.1/\s.eG=.op)\/(2<=s.count/\s.count<=1073741824/\s.first.1<s.last/\nU s.eG/\∃ a b,s.eG=.dU a b))
theorem mF.eG{s:jc}(h:mF (some s)):nU s.eG:=by
 rcases h.2.2 with ⟨_,_,e⟩|⟨_,_,_,h,_⟩
 ·rw[e];trivial
 ·exact h
theorem mF.le{s:jc}(h:mF (some s)):s.first.1<=s.last/\1<=s.count/\s.count<=1073741824:=by
 rcases h.2.2 with ⟨h1,h2,_⟩|⟨h1,h2,h3,_⟩<;>omega
theorem Jz{x:Sa}(hx:pU x):mF (some (CG x)):=⟨hx,hx.1,Or.inl ⟨rfl,rfl,rfl⟩⟩
theorem Wc{eps:Int}{x y:Sa}(he:o5 eps)(hx:pU x)(hy:pU y)(hl:x.1<y.1):nU (mX eps x y):=by
 obtain⟨⟨a,b⟩,c,d⟩:=hx;obtain⟨⟨e,f⟩,g,h⟩:=hy;exact OJ (by omega) g h he.1 he.2 (by omega) (by omega)
theorem agB{a m:jH}{l h:Fr}(e:kB a (.dU l h)=some m):∃ p q,m=.dU p q:=by
 cases a with
 | op=>simp only[kB,Option.some.injEq] at e;exact⟨l,h,e.symm⟩
 | dU p q =>
  simp only[kB] at e;split at e
  ·simp only[Option.some.injEq] at e;exact⟨_,_,e.symm⟩
  ·cases e
theorem V5{eps:Int}{s:jc}{x:Sa}(he:o5 eps)(h:mF (some s))(hx:pU x)(hl:s.last<x.1)(hc:s.count<1073741824):mF (gZ eps (some s) x).1:=by
 have aE:=h.le;have bd:=Wc he h.1 hx (show s.first.1<x.1 by omega);simp only[gZ];cases hm:kB s.eG (mX eps s.first x) with
 | none=>exact Jz hx
 | some m =>
  have zi:=agC h.eG bd hm;obtain⟨p,q,e⟩:=agB (show kB s.eG (.dU _ _)=some m from hm);exact⟨h.1,hx.1,Or.inr ⟨by show 2<=s.count+1;omega,by show s.count+1<=_;omega,by show s.first.1<x.1;omega,zi,p,q,e⟩⟩
def jb:List Sa->Prop
 | x :: y :: l=>x.1<y.1/\jb (y :: l)
 | _=>True
theorem jb.tail{x:Sa}{l:List Sa}(h:jb (x :: l)):jb l:=by
 cases l with
 | nil=>trivial
 | cons y l=>exact h.2
theorem jb.lt{x:Sa}:∀ {l:List Sa},jb (x :: l)->∀ y∈l,x.1<y.1
 | [],_,y,hy=>by simp at hy
 | z :: l,h,y,hy=>by
  rcases List.mem_cons.1 hy with rfl|hy
  ·exact h.1
  ·have:=jb.lt h.2 y hy;have:=h.1;omega
theorem jb.drop{l:List Sa}(h:jb l):∀ n,jb (l.drop n)
 | 0=>h
 | n+1=>by
  cases l with
  | nil=>exact trivial
  | cons x l=>exact jb.drop h.tail n
def gS(eps:Int)(s:Option jc)(l:List Sa):Option jc:=l.foldl (fun s x=>(gZ eps s x).1) s
def jl(eps:Int):Option jc->List Sa->List wI
 | _,[]=>[]
 | s,x :: l=>(gZ eps s x).2++jl eps (gZ eps s x).1 l
theorem VM(eps:Int):∀ (l:List Sa) (s:Option jc),EV eps s l=jl eps s l++tP (gS eps s l)
 | [],s=>by simp[EV,jl,gS]
 | x :: l,s=>by
  simp only[EV,jl,gS,List.foldl_cons,List.append_assoc];rw[VM eps l];rfl
theorem RN(eps:Int):∀ (l:List Sa) (s:Option jc) (x:Sa),jl eps s (l++[x])=jl eps s l++(gZ eps (gS eps s l) x).2/\gS eps s (l++[x])=(gZ eps (gS eps s l) x).1
 | [],s,x=>by simp[jl,gS]
 | y :: l,s,x=>by
  obtain⟨h1,h2⟩:=RN eps l (gZ eps s y).1 x;simp only[List.cons_append,jl,h1,List.append_assoc];refine⟨rfl,?_⟩;simp only[gS,List.foldl_cons,List.foldl_append,List.foldl_nil]
theorem V3{eps:Int}(he:o5 eps):∀ (l:List Sa) (s:jc),mF (some s)->jb l->(∀ x∈l,pU x)->(∀ x∈l,s.last<x.1)->s.count+l.length<=1073741824->∃ s',gS eps (some s) l=some s'/\mF (some s')/\s'.count<=s.count+l.length/\s'.last=(l.getLast?.map (·.1)).getD s.last
 | [],s,h,_,_,_,_=>⟨s,rfl,h,by simp,by simp⟩
 | x :: l,s,h,hi,aL,hl,hn=>by
  have hx:=aL x (by simp);have h1:=V5 he h hx (hl x (by simp)) (by simp at hn;omega);obtain⟨t,bd⟩:∃ t,(gZ eps (some s) x).1=some t:=by
   simp only[gZ];cases kB s.eG (mX eps s.first x)<;>exact⟨_,rfl⟩
  have hc:t.count<=s.count+1/\t.last=x.1:=by
   have aE:=h.le;simp only[gZ] at bd;cases hm:kB s.eG (mX eps s.first x) with
   | none=>rw[hm] at bd;simp only[Option.some.injEq] at bd;subst bd;exact⟨by show 1<=_;omega,rfl⟩
   | some m=>rw[hm] at bd;simp only[Option.some.injEq] at bd;subst bd;exact⟨Nat.le_refl _,rfl⟩
  rw[bd] at h1;obtain⟨s',bk,e2,fL,j4⟩:=V3 he l t h1 hi.tail (fun y hy=>aL y (by simp[hy])) (fun y hy=>by rw[hc.2];exact hi.lt y hy) (by simp at hn;omega);refine⟨s',by simp only[gS,List.foldl_cons,bd];exact bk,e2,by simp;omega,?_⟩;rw[j4,hc.2];cases l with
  | nil=>rfl
  | cons y l =>
   have:((x :: y :: l).getLast?)=(y :: l).getLast?:=List.getLast?_cons_cons;rw[this];cases af:(y :: l).getLast? with
   | none=>simp at af
   | some z=>rfl
end
section
open Go Go.RowKit Go.Sort
theorem Zn{c:jH}{s r:Fr}(hc:nU c)(h:yg c s)(k:yg c r):s=r:=by
 cases c with
 | op=>exact(show s=(0,1) from h).trans (show r=(0,1) from k).symm
 | dU l u =>
  obtain⟨e,f⟩:=gg.unique hc.1.1 hc.2.1.1 h k;exact Prod.ext e f
def lV(l:List (Int × Int)):Nat:=if jx (l.map Prod.fst)=true then 0 else 7
def n1(B:Nat)(w:G)(v:E)(vs:List E):Prop:=w.ownsRow B 46 1 v vs.length vs/\∀ u∈vs,u.oneCell'=true
theorem n1.jT(B:Nat)(w:G):n1 B w (.slice none 0 0) []:=⟨World.ownsRow_nil _ _ _ _,by simp⟩
theorem n1.alloc{B:Nat}{w:G}{v:E}{l:List E}(h:n1 B w v l)(o:Obj):n1 B (w.alloc o) v l:=⟨h.1.alloc o,h.2⟩
theorem n1.ext{B:Nat}{w w':G}{v:E}{l:List E}(h:n1 B w v l)(e:Ext w w'):n1 B w' v l:=by
 refine⟨?_,h.2⟩;obtain⟨h1,h2|⟨g,cap,cur,aF,af,hh,r⟩⟩:=h.1
 ·exact⟨h1,Or.inl h2⟩
 ·exact⟨h1,Or.inr ⟨g,cap,cur,aF,af,by rw[e.block g (Array.getElem?_eq_some_iff.1 hh).1];exact hh,r⟩⟩
theorem n1.less{B fc:Nat}{w:G}{v:E}{l:List E}(h:n1 B w v l)(bF:fc<=B):n1 fc w v l:=by
 refine⟨?_,h.2⟩;obtain⟨h1,h2|⟨g,cap,cur,aF,af,r⟩⟩:=h.1
 ·exact⟨h1,Or.inl h2⟩
 ·exact⟨h1,Or.inr ⟨g,cap,cur,aF,by omega,r⟩⟩
theorem n1.at_{B:Nat}{w:G}{v:E}{l:List E}(h:n1 B w v l):∃ A cap,v=.slice A l.length cap/\l.length<=cap/\cap<=9223372036854775807/\(0<l.length->∃ g,A=some ⟨g,0,none⟩/\B<=g/\g<w.heap.size/\∀ j u,l[j]?=some u->w.cell? ⟨g,j,none⟩=some u):=by
 rcases h.1.2 with ⟨rfl,h0⟩|⟨g,cap,cur,rfl,af,hh,nr,jP,hcs,Bp⟩
 ·exact⟨none,0,by rw[h0],by omega,by omega,fun hp=>by omega⟩
 ·unfold maxLen at jP;refine⟨_,cap,rfl,nr,jP,fun _=>⟨g,rfl,af,(Array.getElem?_eq_some_iff.1 hh).1,fun j u hu=>?_⟩⟩;have:=h.1.cells (g:=g) rfl j u hu;have e:(⟨g,0,none⟩:aw6).add j=⟨g,0+j,none⟩:=by unfold Addr.add;split<;>simp_all
  rw[e,Nat.zero_add] at this
  exact this
def FY(B:Nat)(w:G)(vs:List E)(ps:List (List (Int × Int))):Prop:=vs.length=ps.length/\∀ i,i<vs.length->hZ B w (vs.getD i (.slice none 0 0)) (ps.getD i [])
theorem FY.ext{B:Nat}{w w':G}{vs:List E}{ps:List (List (Int × Int))}(h:FY B w vs ps)(e:Ext w w'):FY B w' vs ps:=⟨h.1,fun i hi=>(h.2 i hi).ext e⟩
structure Cs (W:G) (w:G) (xK:E) (vs:List E) (ps:List (List (Int × Int))) (nB:E) (p:List (Int × Int)):Prop where
 e:Ext W w
 o:n1 W.heap.size w xK vs
 p:hZ W.heap.size w nB p
 ps:FY W.heap.size w vs ps
 aC:∀ g,xK.ownBlock=some g->nB.ownBlock≠some g
 aW:∀ i,i<vs.length->∀ g,(vs.getD i (.slice none 0 0)).ownBlock=some g->nB.ownBlock≠some g/\xK.ownBlock≠some g
section
variable {W w w':G}{xK:E}{vs:List E}{ps:List (List (Int × Int))}{nB:E}{p:List (Int × Int)}
theorem Cs.ext(s:Cs W w xK vs ps nB p)(k:Ext w w'):Cs W w' xK vs ps nB p:=⟨s.e.trans k,s.o.ext k,s.p.ext k,s.ps.ext k,s.aC,s.aW⟩
end
end
section
open Go Go.RowKit
def Q0(l:List Int)(W:G)(e:axa)(w':G):Prop:=∃ A c,e=.returned (.slice A l.length c)/\hE w' A l/\Ext W w'
def Jb(w:G)(A:Option aw6)(ps:List (List (Int × Int))):Prop:=
 0<ps.length->∃ g off,A=some ⟨g,off,none⟩/\g<w.heap.size/\∀ j,j<ps.length->∃ A' c',w.cell? ⟨g,off+j,none⟩=some (.slice A' (ps.getD j []).length c')/\fK w A' (ps.getD j [])
theorem Jb.ext{w w':G}{A:Option aw6}{ps:List (List (Int × Int))}(h:Jb w A ps)(e:Ext w w'):Jb w' A ps:=fun hp=>by
 obtain⟨g,off,hA,af,hc⟩:=h hp;refine⟨g,off,hA,Nat.lt_of_lt_of_le af e.size,fun j aN=>?_⟩;obtain⟨A',c',h1,h2⟩:=hc j aN;exact⟨A',c',(e.cell (p:=⟨g,off+j,none⟩) af).trans h1,h2.ext e⟩
end
end Go.Proofs.YtojbopibfflnoaaGreat
