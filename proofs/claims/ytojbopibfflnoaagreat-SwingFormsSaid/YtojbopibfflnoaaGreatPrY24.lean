/- Contracts and plain facts; each states its conditions. -/
import Derived.Test.YtojbopibfflnoaaGreatPrY7
import Derived.Test.YtojbopibfflnoaaGreatPrY9
import Derived.Test.YtojbopibfflnoaaGreatPrY10
import Derived.Test.YtojbopibfflnoaaGreatPrY21
import Derived.Test.YtojbopibfflnoaaGreatPrY22
namespace Go.Proofs.YtojbopibfflnoaaGreat
open Go renaming World → w1, Value → Ax, Calls → AA, bodyPost_ret → B7, TypeId → aw7, run_underlying → axf, Operand → axb, Ending → axa
open _root_.Go.Proofs.Tryz renaming prog → CW
set_option linter.unusedVariables false
set_option linter.unusedSimpArgs false
set_option maxHeartbeats 16000000
section
open Go Go.RowKit Go.Sort
theorem aa3(s s':Bool)(a b c e a' b' c' e':Int)(w:w1) :
 (Op.equalIn 9998 27 (.agg #[.bool s,.int .u64 a,.int .u64 b,.int .u64 c,.int .u64 e]) (.agg #[.bool s',.int .u64 a',.int .u64 b',.int .u64 c',.int .u64 e'])).run CW w=.ok (ii s s' a b c e a' b' c' e') w:=by
 have hS:Tryz.prog.underlying 27=some (.struct (Tryz.prog.fieldsOf 27)):=by kernel_rfl
 have hp:Tryz.prog.stoodInHeld 27=false:=by kernel_rfl
 have u4:=Tryz.underlying4;have h4:=A4 9995 25 Tryz.underlying25;have Ak:=Tryz.sizeOf25;rw[show (9998:Nat)=9997+1 from rfl,run_equalIn_agg w 9997 27 _ _ hS hp];simp only[Program.fieldsOf,Tryz.underlying27];simp[Op.eqFields,part,isAgg,axf u4,run_equalIn_bool',u4,h4,Ak,ii];by_cases h0:s=s'<;>by_cases h1:a=a'<;>by_cases h2:b=b'<;>by_cases h3:c=c'<;>by_cases h4:e=e'<;>simp[h0,h1,h2,h3,h4]
theorem RY(s s':Bool)(a b c e a' b' c' e':Int)(t t':Bool)(f g h i f' g' h' l4:Int)(w:w1) :
 (Op.equalIn 9999 29 (.agg #[.bool s,.int .u64 a,.int .u64 b,.int .u64 c,.int .u64 e,.bool t,.int .u64 f,.int .u64 g,.int .u64 h,.int .u64 i]) (.agg #[.bool s',.int .u64 a',.int .u64 b',.int .u64 c',.int .u64 e',.bool t',.int .u64 f',.int .u64 g',.int .u64 h',.int .u64 l4])).run CW w=.ok (ii s s' a b c e a' b' c' e'&&ii t t' f g h i f' g' h' l4) w:=by
 have hS:Tryz.prog.underlying 29=some (.struct (Tryz.prog.fieldsOf 29)):=by kernel_rfl
 have hp:Tryz.prog.stoodInHeld 29=false:=by kernel_rfl
 have z25:=Tryz.sizeOf27;have h5:=aa3;rw[show (9999:Nat)=9998+1 from rfl,run_equalIn_agg w 9998 29 _ _ hS hp];simp only[Program.fieldsOf,Tryz.underlying29];simp[Op.eqFields,part,isAgg,h5,z25];generalize ii s s' a b c e a' b' c' e'=p;generalize ii t t' f g h i f' g' h' l4=q;cases p<;>cases q<;>rfl
def RC(S:Array Ax):Prop:=∃ (s:Bool) (a b c d:Int) (t:Bool) (e f g h:Int),S=#[.bool s,.int .u64 a,.int .u64 b,.int .u64 c,.int .u64 d,.bool t,.int .u64 e,.int .u64 f,.int .u64 g,.int .u64 h]
theorem RC.size{S:Array Ax}(h:RC S):S.size=10:=by obtain⟨s,a,b,c,d,t,e,f,g,i,rfl⟩:=h;rfl
theorem RC.one{S:Array Ax}(h:RC S):S.all (·.oneCell')=true:=by obtain⟨s,a,b,c,d,t,e,f,g,i,rfl⟩:=h;kernel_rfl
theorem RC.zero:RC dq:=⟨false,0,0,0,0,false,0,0,0,0,rfl⟩
theorem Kf(X:Array Ax)(T:aw7)(h:Tryz.prog.eqGuardType Tryz.prog.depth T=false)(Y:Array Ax)(b:BinOp)(x y:axb)(w:w1):(eqGuard b T x y (.agg X) (.agg Y)).run CW w=.ok () w:=by
 have hp:∀ w,Sem.run CW (Sem.program Sem.pure) w=.ok CW w:=fun _=>rfl
 unfold eqGuard;cases b<;>simp[program,h,hp,Sem.run_bind,Result.andThen]
theorem E2:c9.all (·.oneCell')=true:=by kernel_rfl
theorem RZ{L H:Array Ax}(o:Bool)(br:RC L)(dh:RC H)(w:w1):(binOp .eql 31 (.agg (bT o L H)) (.agg (bT o L H))).run CW w=.ok (.bool true) w:=by
 obtain⟨s,a,b,c,e,t,f,g,h,i,rfl⟩:=br;obtain⟨s',a',b',c',e',t',f',g',h',l4,rfl⟩:=dh;have hS:Tryz.prog.underlying 31=some (.struct (Tryz.prog.fieldsOf 31)):=by kernel_rfl
 have hp:Tryz.prog.stoodInHeld 31=false:=by kernel_rfl
 have u4:=Tryz.underlying4;have z25:=Tryz.sizeOf29;have h5:=RY;rw[run_eql_struct,show (10000:Nat)=9999+1 from rfl,run_equalIn_agg w 9999 31 _ _ hS hp];simp only[Program.fieldsOf,Tryz.underlying31];simp[Op.eqFields,part,isAgg,axf u4,run_equalIn_bool',u4,h5,z25,ii,bT]
def cJ(f:Fr):Array Ax:=#[.bool (ao f.1),.int .u64 (ai f.1:Int),.int .u64 (ah f.1:Int),.int .u64 (aj f.1:Int),.int .u64 (ap f.1:Int),.bool (ao f.2),.int .u64 (ai f.2:Int),.int .u64 (ah f.2:Int),.int .u64 (aj f.2:Int),.int .u64 (ap f.2:Int)]
theorem gP(f:Fr):RC (cJ f):=⟨_,_,_,_,_,_,_,_,_,_,rfl⟩
def e4:jH->Array Ax
 | .op=>c9
 | .dU a b=>bT false (cJ a) (cJ b)
theorem JJ(c:jH):∃ o L H,e4 c=bT o L H/\RC L/\RC H:=by
 cases c with
 | op=>exact⟨true,dq,dq,Oz,RC.zero,RC.zero⟩
 | dU a b=>exact⟨false,_,_,rfl,gP a,gP b⟩
def z5:Array Ax:=#[.bool false,.int .u64 0,.int .u64 0,.int .u64 0,.int .u64 0]
theorem hU:Tryz.prog.underlying 27=some (.struct (Tryz.prog.fieldsOf 27)):=by kernel_rfl
theorem eT:(Tryz.prog.info? 27).map (·.size)=some 5:=by kernel_rfl
theorem dF{w:w1}{g:Nat}{t ty:aw7}{X:Array Ax}{n:Nat}{d:TypeDesc}(h:aG w g t X)(hu:Tryz.prog.underlying ty=some d)(hd:yG d)(hi:(Tryz.prog.info? ty).map (·.size)=some n)(hn:X.size=n):(Instr.loadAt ty (.pointer (some ⟨g,0,none⟩))).run CW w=.ok (.agg X) w:=
 pH h _ _ hu hd 0 n hi (by omega) _ (by rw[Nat.zero_add,<-hn];simp)
theorem adO{x y n d:Int}{o:Bool}(hx:b4 x)(hy:b4 y)(h0:y≠0)(aL:M6 x y=o)(hn:(if o then ig x y else 0)=n)(hd:(if o then ik x y else 0)=d)(w:w1):AA CW 57 #[x,y] w (aP (.tuple #[.agg #[ao n,ai n,ah n,aj n,ap n,ao d,ai d,ah d,aj d,ap d],.bool o]) w):=
 (akj _ _ _ _ _ _ _ _ _ _ x y w (e0 hx) (e0 hy) h0 o aL).mono fun _ _ k=>VG (by subst hn hd;exact k)
end
section
open Go Go.RowKit
theorem cm.c7{w w':w1}{k b:Nat}{s:Bool}{a b' c d:Nat}{t:Bool}{e f g h:Nat}(x:cm w k s a b' c d t e f g h)(u:b3 b w w')(hn:k≠b):cm w' k s a b' c d t e f g h:=by
 have:=x.lt;unfold cm;rw[u.2.2.2.2 k this hn];exact x
theorem oG.ext{z:Int}{w W:w1}{e:axa}{w':w1}(h:oG z W e w')(k:Ext w W):oG z w e w':=by
 obtain⟨s,a,b,c,d,o,h1,h2,h3,h4⟩:=h;exact⟨s,a,b,c,d,o,h1,h2,h3,k.trans h4⟩
theorem aje(s t:Bool)(a b c d e f g h:Nat)(x y:Int)(w:w1)(hx:dg s a b c d x)(hy:dg t e f g h y) :
 AA CW 110 #[.agg #[.bool s,a,b,c,d],.agg #[.bool t,e,f,g,h]] w (oG (x-y) w):=by
 obtain⟨W,aK⟩:=eo ((((w.alloc (.cells #[.bool s,a,b,c,d] 27)).alloc (.cells #[.bool t,e,f,g,h] 27)).alloc (.cells #[false,(),(),(),()] 27)));have cO:=kF w (.cells #[.bool s,a,b,c,d] 27) (.cells #[.bool t,e,f,g,h] 27) (.cells #[false,(),(),(),()] 27);rw[<-aK] at cO;have ay:Box W w.heap.size s a b c d:=cO.1;have au:Box W (w.heap.size+1) t e f g h:=cO.2.1;have aR:Box W (w.heap.size+1+1) false 0 0 0 0:=cO.2.2;have bC:Ext w W:=by rw[aK];exact((aA _ _).trans (aA _ _)).trans (aA _ _)
 have aB:=hide aK;clear aK cO;have eQ:Hid (x+-y=x-y):=by unfold Hid;omega
 have dY:=av ay;have fa:=av au;go_enter Tryz.func110,Tryz.ntmps110
 go_upto_region 1 with fail
 rw[<-aB.out];clear aB;go_region_with (first
  | (go_at_call 121;refine(Hv t e f g h y _ hy).mono ?_;rintro e' w' ⟨t',bk,R6,Sc,Dm,rfl,hC,ad⟩;have cD:=ay.drew.ext ad;have dz:=aR.drew.ext ad;have dY:=av cD;have bS:=(bC.trans (b5 _)).trans ad;clear ad)
  | (go_at_call 111;refine(U1 s t' a b c d bk R6 Sc Dm x (-y) _ hx hC.1).mono ?_;rintro e' w' ⟨s',a',b',c',d',o,rfl,aL,cQ,ad⟩;rw[eQ.out] at aL cQ;have jZ:=hide aL;clear aL;have da:=bS.trans ad;have eu:=dz.ext ad;obtain⟨i0,i1,i2,i3,i4,dm,cW,cL,dn,dG⟩:=av eu;clear ad))
 all_goals go_wp2_with fail
 all_goals exact B7 (v:=.tuple #[.agg #[.bool s',a',b',c',d'],.bool o]) (by simp[results,Tryz.results110,go_sem,i0,i1,i2,i3,i4]) rfl ⟨s',a',b',c',d',o,rfl,jZ.out,cQ,dr da (by omega) _ _ _ _ _⟩
end
section
def bA(v:Nat):BitVec 32:=BitVec.ofNat 32 (v%2)
end
end Go.Proofs.YtojbopibfflnoaaGreat
