/- Contracts and plain facts; each states its conditions. -/
import Derived.Test.YtojbopibfflnoaaGreatPrY11
import Derived.Laws.IdiomCopy
namespace Go.Proofs.YtojbopibfflnoaaGreat
open Go renaming World → w1, Calls → AA, bodyPost_ret → B7
open _root_.Go.Proofs.Tryz renaming prog → CW
set_option linter.unusedVariables false
set_option linter.unusedSimpArgs false
set_option maxHeartbeats 16000000
set_option maxRecDepth 100000
section
open Go Go.RowKit
theorem VY(T n g:Nat)(h:Int)(m:Nat)(hm:h=((m:Nat):Int))(aw:Tryz.prog.underlying T=some (.array (Tryz.prog.arrayLen T) (Tryz.prog.elem T)))(hn:Tryz.prog.arrayLen T=n)(he:Tryz.prog.elem T=24)(h2:m<=n)(h3:0<n)(w:w1) :
 (Instr.sliceAt T (.pointer (some ⟨g,0,none⟩)) none (some (.int .i64 h)) none).run CW w=.ok (.slice (some ⟨g,0,none⟩) m n) w:=by
 subst hm;rw[run_sliceAt_array_h w T ⟨g,0,none⟩ aw .i64 (m:Int) (by omega) (by rw[hn];omega),he,Tryz.sizeOf24,hn];simp only[Result.andThen_ok,slicedAt,Int.toNat_natCast,Nat.mul_one,Nat.sub_zero];rw[if_neg (by omega)];simp[Addr.add]
theorem abu{L:List Nat}(h:L.length=5):∃ a b c d e,L=[a,b,c,d,e]:=by
 match L,h with
 | [a,b,c,d,e],_=>exact⟨a,b,c,d,e,rfl⟩
theorem abv{a b c d e:Nat}(h:val [a,b,c,d,e]<115792089237316195423570985008687907853269984665640564039457584007913129639936):b0 a b c d=val [a,b,c,d,e]:=by
 simp only[b0,val] at h |-;omega
theorem Zp(w:w1)(g b:Nat)(v0 v1 v2 v3:Nat)(af:cn w g 152 [0,0,0,0,0])(hb:cn w b 130 [v0,v1,v2,v3]) :
 (Builtin.copy_ #[96,96] 3 #[.slice (some ⟨g,0,none⟩) 5 5,.slice (some ⟨b,0,none⟩) 4 4]).run CW w=.ok (.int .i64 4) ((((w.setCell ⟨g,0,none⟩ (.int .u64 (v0:Int))).setCell ⟨g,1,none⟩ (.int .u64 (v1:Int))).setCell ⟨g,2,none⟩ (.int .u64 (v2:Int))).setCell ⟨g,3,none⟩ (.int .u64 (v3:Int))):=by
 have h:=run_copy_cells (P:=CW) w 96 96 3 24 g 0 5 5 ⟨b,0,none⟩ 4 4 [.int .u64 (v0:Int),.int .u64 (v1:Int),.int .u64 (v2:Int),.int .u64 (v3:Int)] Tryz.underlying96 (by kernel_rfl) rfl
  (fun j v aN=>by
   have apB:j<4:=by have:=(List.getElem?_eq_some_iff.1 aN).1;simpa using this
   have:j=0\/j=1\/j=2\/j=3:=by omega
   obtain⟨i0,i1,i2,i3,_,_,_,_⟩:=hb.four;rcases this with rfl|rfl|rfl|rfl<;>(simp at aN;subst aN;simpa [Addr.add] using by assumption))
  (fun j aN=>by
   simp at aN;have:=af.at (0+j) (by simp;omega);rw[this];rfl)
  (fun j _=>af.free _) (fun v aF=>by simp at aF;rcases aF with rfl|rfl|rfl|rfl<;>rfl)
 simpa [World.setCells,goInt] using h
theorem aiY(a b c d e f g h n m k:Nat)(hn:b0 a b c d=n)(hm:b0 e f g h=m)(w:w1)(hw:cp [a,b,c,d])(bj:cp [e,f,g,h])(cl:¬ n<m)(hlen:(bg m).length=k+1)(qE:1<=k)(apE:k<=3) :
 AA CW 133 #[.agg #[a,b,c,d],.agg #[e,f,g,h]] w (F3 (n / m) (n%m) w):=by
 obtain⟨W,aK,lM,cU,jF,nI,bC⟩:=Kq w a b c d e f g h;have h01:(0:Int)<=fM n m:=by unfold fM;rw[if_neg cl];split<;>omega
 obtain⟨q,aO⟩:=aM (fM n m);rw[aO] at h01;have cG:=hide aO;have LJ:k<[e,f,g,h].length:=by simp;omega
 have FK:=hide (als [e,f,g,h] m k rfl bj hm hlen LJ);obtain⟨t,bd⟩:=aM ([e,f,g,h][k]);have iH:=hide bd;have w7:t<18446744073709551616:=by rw[<-bd];exact jg bj k LJ
 have YJ:0<t:=by have:=FK.out.1;rw[bd] at this;omega
 have IE:Hid (((bg m).length:Int)=(k:Int)+1):=by unfold Hid;rw[hlen];omega
 have apD:(((k:Int)+1)==1)=false:=by simp;omega
 have gE:IntKind.i64.wrap ((k:Int)+1-1)=(k:Int):=by rw[IntKind.wrap_i64];omega
 have aeO:(k:Int)+1-1=(k:Int):=by omega
 have aeP:IntKind.i64.wrap (4-((k:Int)+1))=4-((k:Int)+1):=by rw[IntKind.wrap_i64];omega
 have hsl:=fun g=>VY 130 4 g ((k:Int)+1) (k+1) (by omega) (by kernel_rfl) (by kernel_rfl) (by kernel_rfl) (by omega) (by omega)
 have aB:=hide aK;have dO:=hide hn;have hW:=hide hm;obtain⟨bt,az,aU,a_,f0,f1,f2,f3⟩:=lM.four;obtain⟨d0,d1,d2,d3,g0,g1,g2,g3⟩:=cU.four;clear aK hn hm cl aO hlen bd;go_enter Tryz.func133,Tryz.ntmps133
 go_upto_region 1 with fail
 rw[aB.out];clear aB;go_wp2_with (first
  | (go_at_call 127;refine(BM a b c d e f g h n m dO.out hW.out _ hw bj).mono ?_;rintro e' w' ⟨rfl,ad⟩;rw[cG.out];have cD:=lM.ext ad;have c5:=cU.ext ad;have dz:=jF.ext ad;have eu:=nI.ext ad;obtain⟨bt,az,aU,a_,f0,f1,f2,f3⟩:=cD.four;obtain⟨d0,d1,d2,d3,g0,g1,g2,g3⟩:=c5.four;have bS:=bC.trans ad;clear ad)
  | (go_at_call 139;refine(UX e f g h m hW.out _ bj).mono ?_;rintro e' w' ⟨rfl,ad⟩;rw[IE.out];have cD:=cD.ext ad;have c5:=c5.ext ad;have dz:=dz.ext ad;have eu:=eu.ext ad;obtain⟨bt,az,aU,a_,f0,f1,f2,f3⟩:=cD.four;obtain⟨d0,d1,d2,d3,g0,g1,g2,g3⟩:=c5.four;have ck:=c5.at k LJ;rw[iH.out] at ck;have bS:=bS.trans ad;clear ad)
  | (go_at_call 118;refine(Rv t _ w7 YJ).mono ?_;rintro e w' ⟨s,rfl,bQ,bY,cX,rfl⟩;have IA:=hide (FK.out.2.2 s bQ (by rw[iH.out];exact bY));clear bY cX)
  | (go_at_call_of 141 (Value.agg #[Value.int IntKind.u64 (e:Int),Value.int IntKind.u64 (f:Int),Value.int IntKind.u64 (g:Int),Value.int IntKind.u64 (h:Int)]);refine(UZ e f g h m s hW.out _ bj bQ).mono ?_;rintro e' w' ⟨u0,u1,u2,u3,r,rfl,anB,hu,aD,ad⟩;have dR:=hide hu;have cD:=cD.ext ad;have dz:=dz.ext ad;have eu:=eu.ext ad;obtain⟨bt,az,aU,a_,f0,f1,f2,f3⟩:=cD.four;have ai:=cD.lt;have bS:=bS.trans ad;clear ad hu)
  | (go_at_call 141;refine(UZ a b c d n s dO.out _ hw bQ).mono ?_;rintro e' iD ⟨v0,v1,v2,v3,o,rfl,anC,aF,aL,ad⟩;have bV:=hide aF;obtain⟨Rq,Rp⟩:=HY ad;have P5:cn iD w'.heap.size 130 [u0,u1,u2,u3]:=Rq;have AR:cn iD (w'.heap.size+1) 152 [0,0,0,0,0]:=Rp;have P4:=((dz.ext (aA _ _)).ext (aA _ _)).ext ad;have AT:=((eu.ext (aA _ _)).ext (aA _ _)).ext ad;have da:=((bS.trans (aA _ _)).trans (aA _ _)).trans ad;have ap7:=dz.lt;have ap6:=eu.lt;clear ad aF Rq Rp))
 have hA4:=Ju iD 130 [v0,v1,v2,v3] #[.int .u64 (v0:Int),.int .u64 (v1:Int),.int .u64 (v2:Int),.int .u64 (v3:Int)] rfl;have x1:=P5.ext (aA iD (.cells #[v0,v1,v2,v3] 130));have x2:=AR.ext (aA iD (.cells #[v0,v1,v2,v3] 130));have x3:=P4.ext (aA iD (.cells #[v0,v1,v2,v3] 130));have x4:=AT.ext (aA iD (.cells #[v0,v1,v2,v3] 130));have x5:=da.trans (aA iD (.cells #[v0,v1,v2,v3] 130));have ap5:=AR.lt;generalize iD.alloc (.cells #[v0,v1,v2,v3] 130)=mG at *;generalize iD.heap.size=Sg at *;have iB:=x2.at 0 (by simp);have i':=x2.at 1 (by simp);have dX:=x2.at 2 (by simp);have s7:=x2.at 3 (by simp);have qO:=x2.at 4 (by simp);simp only[List.getElem_cons_zero,List.getElem_cons_succ] at iB i' dX s7 qO;have k7:=x2.free 0;have q1:=x2.free 1;have k8:=x2.free 2;have HB:=x2.free 3;have ET:=x2.free 4;obtain⟨i0,i1,i2,i3,dm,cW,cL,dn⟩:=hA4.four;have jP:=Zp mG.drew (w'.heap.size+1) Sg v0 v1 v2 v3 x2.drew hA4.drew;have gK:=hide ((((x2.drew.set 0 v0).set 1 v1).set 2 v2).set 3 v3);have y1:=hide ((((x1.drew.cI (b:=w'.heap.size+1) (by omega) 0 (.int .u64 (v0:Int))).cI (b:=w'.heap.size+1) (by omega) 1 (.int .u64 (v1:Int))).cI (b:=w'.heap.size+1) (by omega) 2 (.int .u64 (v2:Int))).cI (b:=w'.heap.size+1) (by omega) 3 (.int .u64 (v3:Int)));have mB:=hide ((((x3.drew.cI (b:=w'.heap.size+1) (by omega) 0 (.int .u64 (v0:Int))).cI (b:=w'.heap.size+1) (by omega) 1 (.int .u64 (v1:Int))).cI (b:=w'.heap.size+1) (by omega) 2 (.int .u64 (v2:Int))).cI (b:=w'.heap.size+1) (by omega) 3 (.int .u64 (v3:Int)));have oW:=hide ((((x4.drew.cI (b:=w'.heap.size+1) (by omega) 0 (.int .u64 (v0:Int))).cI (b:=w'.heap.size+1) (by omega) 1 (.int .u64 (v1:Int))).cI (b:=w'.heap.size+1) (by omega) 2 (.int .u64 (v2:Int))).cI (b:=w'.heap.size+1) (by omega) 3 (.int .u64 (v3:Int)));have oX:=hide (o9 (x5.trans (b5 _)) (b:=w'.heap.size+1) (by have:=bS.size;omega) (.int .u64 (v0:Int)) (.int .u64 (v1:Int)) (.int .u64 (v2:Int)) (.int .u64 (v3:Int)));have Qk:=hide bS;clear P5 AR P4 AT da;go_cut [] (fun bP=>cn bP (w'.heap.size+1) 152 [v0,v1,v2,v3,0]/\cn bP w'.heap.size 130 [u0,u1,u2,u3]/\cn bP (w.heap.size+1+1) 130 [0,0,0,0]/\cn bP (w.heap.size+1+1+1) 130 [0,0,0,0]/\Ext w bP)
 case first =>
  go_region
  all_goals go_wp2_with fail
  all_goals go_meet
  all_goals exact⟨gK.out,y1.out,mB.out,oW.out,oX.out⟩
 case rest =>
  clear y1 gK mB oW oX x1 x2 x3 x4 x5 hA4 jP;obtain⟨gK,y1,mB,oW,oX⟩:=hcut;have qO:=gK.at 4 (by simp);have ET:=gK.free 4;simp only[List.getElem_cons_zero,List.getElem_cons_succ] at qO;have ou:=hide (ags [v0,v1,v2,v3] o n m s k rfl bV.out (by have:=qM (ez hw).1 (ez hw).2.1 (ez hw).2.2.1 (ez hw).2.2.2;rw[dO.out] at this;exact this) (by omega) FK.out.2.1);have Qq:=hide (ams [u0,u1,u2,u3] r (m*2 ^ s) (k+1) rfl (by omega) dR.out IA.out);have gU:o<18446744073709551616:=Nat.lt_of_lt_of_le aL (Nat.le_trans (Nat.pow_le_pow_right (by omega) (Nat.le_of_lt bQ)) (by decide));have ank:cp [v0,v1,v2,v3,o]:=by
   obtain⟨kM,bA,bX,en⟩:=ez anC;intro x hx;simp at hx;omega
  have z2:=hide (gK.set 4 o);have fb:=hide (y1.cI (b:=w'.heap.size+1) (by omega) 4 (.int .u64 (o:Int)));have z3:=hide (mB.cI (b:=w'.heap.size+1) (by omega) 4 (.int .u64 (o:Int)));have z4:=hide (oW.cI (b:=w'.heap.size+1) (by omega) 4 (.int .u64 (o:Int)));have z5:=hide (ey oX (g:=w'.heap.size+1) (by have:=Qk.out.size;omega) 4 (.int .u64 (o:Int)));have W1:Hid (0<m*2 ^ s):=by
   have h1:=FK.out.2.1;have h2:0<18446744073709551616 ^ k:=Nat.pow_pos (by omega);exact Nat.mul_pos (Nat.lt_of_lt_of_le h2 h1) (Nat.two_pow_pos s)
  have e5:=Qk.out.size;obtain⟨K,cQ⟩:=aM (18446744073709551616 ^ (k+1));have kI:=hide cQ;have Qi:Hid (m*2 ^ s<=K):=by rw[<-cQ];exact Nat.le_of_lt IA.out
  have Sm:w'.heap.size≠w'.heap.size+1:=by omega
  clear cQ y1 gK mB oW oX;go_wp2_with fail
  go_loopw [16] (fun i wr=>∃ (j:Nat) (R Q:List Nat),i=.int .i64 ((j:Int)-1)/\j<=4-k/\Hid (yt (n*2 ^ s) (m*2 ^ s) R Q j)/\cp R/\cp Q/\Hid (cn wr (w'.heap.size+1) 152 R)/\Hid (cn wr w'.heap.size 130 [u0,u1,u2,u3])/\Hid (cn wr (w.heap.size+1+1) 130 Q)/\Hid (cn wr (w.heap.size+1+1+1) 130 [0,0,0,0])/\Ext w wr) (fun i _=>(intOf i+1).toNat)
  case atStart=>exact⟨4-k,[v0,v1,v2,v3,o],[0,0,0,0],by go_num,by omega,ou.out,ank,(by intro x hx;simp at hx;omega),z2,fb,z3,z4,z5.out⟩
  case round =>
   clear fb z2 z3 z4 z5 qO ET;obtain⟨j,R,Q,rfl,aN,bq,uo,Wo,z2,fb,z3,z4,ad⟩:=hrel;by_cases rA:j=0
   ·subst rA;have fg:=hide (agr bq.out);obtain⟨iB,i',dX,s7,N_,rfl⟩:=abu bq.out.1;obtain⟨U8,U9,U_,Va,rfl⟩:=A8 bq.out.2.1;have anA:cp [iB,i',dX,s7]:=fun x hx=>uo x (by simp at hx |-;omega)
    have W_:Hid (b0 iB i' dX s7=val [iB,i',dX,s7,N_]):=by
     have h1:=fg.out.2.2;have h2:=IA.out;have h3:(18446744073709551616:Nat) ^ (k+1)<=115792089237316195423570985008687907853269984665640564039457584007913129639936:=by rw[<-oS];exact Nat.pow_le_pow_right (by omega) (by omega)
     have h4:val [iB,i',dX,s7,N_]<115792089237316195423570985008687907853269984665640564039457584007913129639936:=Nat.lt_of_lt_of_le (Nat.lt_trans h1 h2) h3;exact abv h4
    have x0:=z2.out.at 0 (by simp);have x1:=z2.out.at 1 (by simp);have x2:=z2.out.at 2 (by simp);have x3:=z2.out.at 3 (by simp);simp only[List.getElem_cons_zero,List.getElem_cons_succ] at x0 x1 x2 x3;obtain⟨i0,i1,i2,i3,dm,cW,cL,dn⟩:=z3.out.four;obtain⟨iA,TR,TS,TT,ai,ah,aj,ap⟩:=z4.out.four;have apP:=VY 152 5 (w'.heap.size+1) 4 4 (by omega) (by kernel_rfl) (by kernel_rfl) (by kernel_rfl) (by omega) (by omega);have adQ:∀ bp,(Instr.arrayAt 130 (.slice (some ⟨w'.heap.size+1,0,none⟩) 4 5)).run CW bp=.ok (.pointer (some ⟨w'.heap.size+1,0,none⟩)) bp:=fun bp=>run_arrayAt bp 130 _ 4 _ 4 5 Tryz.underlying130 (by omega)
    go_wp2_with fail
    go_region_with (go_at_call 143;refine(ai6 iB i' dX s7 _ s W_.out _ anA bQ).mono ?_;rintro e' wd ⟨kM,bA,bX,en,rfl,wu,hb,gj⟩;rw[fg.out.2.1] at hb;have dx:=hide hb;have mB:=(z3.out.drew.ext gj);have oW:=(z4.out.drew.ext gj);have oX:=(ad.trans (b5 _)).trans gj;obtain⟨i0,i1,i2,i3,dm,cW,cL,dn⟩:=mB.four;obtain⟨iA,TR,TS,TT,ai,ah,aj,ap⟩:=oW.four;clear hb gj)
    all_goals go_wp2_with fail
    all_goals exact B7 (v:=.tuple #[.agg #[U8,U9,U_,Va],.agg #[kM,bA,bX,en]]) (by simp[results,Tryz.results133,go_sem,i0,i1,i2,i3,iA,TR,TS,TT]) rfl ⟨U8,U9,U_,Va,kM,bA,bX,en,rfl,Wo,wu,fg.out.1,dx.out,o9 (o9 oX (by omega) _ _ _ _) (by omega) _ _ _ _⟩
   ·obtain⟨i,rfl⟩:∃ i,j=i+1:=⟨j-1,by omega⟩;have Mh:=T7 bq.out (k:=k+1) (by omega) kI.out Qi.out uo;have IL:Hid (∀ (os:List Nat) (d:Nat),os.length=k+1+1->val os=val ((R.drop i).take (k+1+1))%(m*2 ^ s)->d=val ((R.drop i).take (k+1+1)) / (m*2 ^ s)->yt (n*2 ^ s) (m*2 ^ s) (R.take i++os++R.drop (i+(k+1)+1)) (Q.set i d) i):=fun os d h1 h2 h3=>agt bq.out (by omega) (by omega) kI.out Qi.out W1.out uo h1 h2 h3
    have DC:Hid (R.length=5):=bq.out.1;have adK:Hid (Q.length=4):=bq.out.2.1;have Iz:Hid (R.take i++(R.drop i).take (k+1+1)++R.drop (i+(k+1)+1)=R):=by
     unfold Hid;rw[List.append_assoc,show i+(k+1)+1=i+(k+1+1) by omega,<-List.drop_drop,List.take_append_drop,List.take_append_drop]
    have IG:Hid (cn wr (w'.heap.size+1) 152 (R.take i++(R.drop i).take (k+1+1)++R.drop (i+(k+1)+1))):=by rw[Iz.out];exact z2
    have T1:Hid ((R.take i).length=i):=by unfold Hid;rw[List.length_take,DC.out];omega
    have kr:Hid (((R.drop i).take (k+1+1)).length=k+1+1):=by unfold Hid;rw[List.length_take,List.length_drop,DC.out];omega
    have oD:Hid (([u0,u1,u2,u3].take (k+1)).length=k+1):=by unfold Hid;rw[List.length_take];simp;omega
    have anv:cp ((R.drop i).take (k+1+1)):=um (Pv uo i) _;have anz:cp ([u0,u1,u2,u3].take (k+1)):=um anB _;have S7:Reads wr w'.heap.size 0 ([u0,u1,u2,u3].take (k+1)):=⟨fb.out.lt,fun x hx=>by
     have j6:x<[u0,u1,u2,u3].length:=by rw[List.length_take] at hx;omega
     rw[Nat.zero_add,fb.out.at x j6,List.getElem_take]⟩
    have W':=hide S7;have IF:Hid (val ((R.drop i).take (k+1+1))<val ([u0,u1,u2,u3].take (k+1))*18446744073709551616):=by
     unfold Hid;rw[Qq.out,Mh.1];exact Mh.2.1
    have aeG:=VZ 152 5 (w'.heap.size+1) i ((i:Int)+((k:Int)+1)+1) (i+(k+1)+1) (by omega) (by kernel_rfl) (by kernel_rfl) (by kernel_rfl) (by omega) (by omega) (by omega);rw[show i+(k+1)+1-i=k+1+1 by omega] at aeG;have ad6:i<Q.length:=by rw[adK.out];omega
    have Hh:=z3.out.lt;have apz:(i:Int)<4:=by omega
    clear Mh S7;go_wp2_with (go_at_call 142;refine(ai9 (w'.heap.size+1) i k (5-i) w'.heap.size 0 4 152 (R.take i) ((R.drop i).take (k+1+1)) (R.drop (i+(k+1)+1)) ([u0,u1,u2,u3].take (k+1)) _ IG.out T1.out kr.out oD.out W'.out Sm (by omega) anv anz IF.out).mono ?_;rintro e' wd ⟨AZ,os,rfl,Lv,ad0,rF,anu,L7,Sy,DF⟩;rw[Qq.out] at Lv L7;have W5:=hide (IL.out os AZ rF L7 Lv);have x1:=(fb.out.c7 DF Sm);have x3:=(z3.out.c7 DF (by omega));have x4:=(z4.out.c7 DF (by omega));have x5:=DF.ext ad (by omega);have Zq:=x3.at i ad6;have kZ:=x3.free i;have aqf:=x3.lt;have X1:=hide (x1.cI (b:=w.heap.size+1+1) (by omega) i (.int .u64 (AZ:Int)));have kK:=hide (Sy.cI (b:=w.heap.size+1+1) (by omega) i (.int .u64 (AZ:Int)));have lT:=hide (x3.set i AZ);have X5:=hide (x4.cI (b:=w.heap.size+1+1) (by omega) i (.int .u64 (AZ:Int)));have X6:=hide (ey x5 (g:=w.heap.size+1+1) (by omega) i (.int .u64 (AZ:Int)));have aop:=hide rF;clear Lv L7 Sy DF x1 x3 x4 x5 rF)
    exact⟨⟨i,_,_,by go_num,by omega,W5,H4 (H4 (um uo i) anu) (Pv uo _),oU Wo _ _ ad0,kK,X1,lT,X5,X6.out⟩,by first|(simp[intOf];done)|(simp[intOf];omega)⟩
theorem NV(a b c d e f g h n m:Nat)(hn:b0 a b c d=n)(hm:b0 e f g h=m)(w:w1)(hw:cp [a,b,c,d])(bj:cp [e,f,g,h])(k4:0<m) :
 AA CW 133 #[.agg #[a,b,c,d],.agg #[e,f,g,h]] w (F3 (n / m) (n%m) w):=by
 by_cases cl:n<m
 ·exact aiX a b c d e f g h n m hn hm w hw bj cl
 ·have DV:(bg m).length<=4:=ka.2 (by rw[oS,<-hm];exact qM (ez bj).1 (ez bj).2.1 (ez bj).2.2.1 (ez bj).2.2.2);have apH:(bg m).length≠0:=fun h0=>by
   have:=List.eq_nil_of_length_eq_zero h0;rw[Hf] at this;omega
  by_cases h1:(bg m).length=1
  ·exact aiZ a b c d e f g h n m hn hm w hw bj cl h1
  ·exact aiY a b c d e f g h n m ((bg m).length-1) hn hm w hw bj cl (by omega) (by omega) (by omega)
end
end Go.Proofs.YtojbopibfflnoaaGreat
