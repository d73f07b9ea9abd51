/- Layer 9: NumbersReads. Conditions: the slices read as bytes and numbers. -/
import Derived.Test.YtnmkmjfehgmlkaaNmL
import Derived.Test.YtnmkmjfehgmlkaaBpk2
import Derived.Test.YtnmkmjfehgmlkaaByD
namespace Go.Proofs.Ytnmkmjfehgmlkaa
set_option linter.unusedVariables false
set_option linter.unusedSimpArgs false
open Go Go.RowKit
theorem wl_append8q {ops : Array Oper} {rest : List Oper} {o : Oper} {a : Act} {Q : Exit → Act → World → Prop} {w : World} (hgd : Region.wanted o (yielded ops a.tmps) = true) (s x : Operand)
    (ho : o.op = .call { callee := .builtin .append, args := #[s, x], argTypes := #[28, 28] })
    (B : Nat) (v : Value) (l0 l : List Nat) (hs : a.eval s = v) (hown : OwnB B w v l0) (A : Option Addr) (m c : Nat) (hx : a.eval x = .slice A m c) (hb : BytesAt w A l) (hm : l.length = m) (hlen : l0.length + l.length ≤ 225179981368000) (hbase : B ≤ w.heap.size)
    (h : ∀ v' w', OwnB B w' v' (l0 ++ l) → w.grownBy w' v.ownBlock → OwnB B w' v l0 → wpList Try.prog ops Q rest (a.put o.dst v') w') : wpList Try.prog ops Q (o :: rest) a w :=
  wpList_step fun _ hK => by
    rw [if_pos hgd]
    obtain ⟨v', w', hrun, h2, h3, h4⟩ := run_append8w B w o.type v l0 l hown A m c hb hm hlen hbase
    unfold Oper.wp execOp
    simp only [ho, resolve, invoke, builtin, Sem.run_bind, Sem.run_pure, Result.andThen_ok, List.map_toArray, List.map_cons, List.map_nil, hs, hx, hrun]
    exact hK _ _ (h v' w' h2 h3 h4)
/-- A number's conversion that is guarded. -/
theorem wl_convq {ops : Array Oper} {rest : List Oper} {o : Oper} {a : Act} {Q : Exit → Act → World → Prop} {w : World} (hgd : Region.wanted o (yielded ops a.tmps) = true) (t1 t2 : TypeId) (x : Operand) (ho : o.op = .convert t1 t2 x) (v v' : Value) (hx : a.eval x = v) (hr : (convert t1 t2 v).run Try.prog w = .ok v' w)
    (h : wpList Try.prog ops Q rest (a.put o.dst v') w) : wpList Try.prog ops Q (o :: rest) a w :=
  wpList_step fun _ hK => by
    rw [if_pos hgd]
    unfold Oper.wp execOp
    simp only [ho, Sem.run_bind, Sem.run_pure, Result.andThen_ok, hx, hr]
    exact hK _ _ h
/-- What is kept while lists are read: the tape and its list, and three slices of bytes that the law owns. -/
structure Nr (W : World) (B : Nat) (A : Option Addr) (n cap : Nat) (m : List Nat) (Ab : Option Addr) (z cb : Nat) (F : List Nat) (A3 : Option Addr) (n3 c3 : Nat) (l3 : List Nat) (A4 : Option Addr) (n4 c4 : Nat) (l4 : List Nat) (w : World) : Prop where
  s : Bs W B A n cap m w
  b : OwnB B w (.slice Ab z cb) F
  p : OwnB B w (.slice A3 n3 c3) l3
  k : OwnB B w (.slice A4 n4 c4) l4
  bw : B ≤ w.heap.size
section
variable {W : World} {B : Nat} {A : Option Addr} {n cap : Nat} {m : List Nat} {Ab : Option Addr} {z cb : Nat} {F : List Nat} {A3 : Option Addr} {n3 c3 : Nat} {l3 : List Nat} {A4 : Option Addr} {n4 c4 : Nat} {l4 : List Nat} {w w' : World}
theorem Nr.ext (s : Nr W B A n cap m Ab z cb F A3 n3 c3 l3 A4 n4 c4 l4 w) (k : Ext w w') : Nr W B A n cap m Ab z cb F A3 n3 c3 l3 A4 n4 c4 l4 w' := ⟨s.s.ext k, s.b.ext k, s.p.ext k, s.k.ext k, Nat.le_trans s.bw k.size⟩
theorem Nr.upd (s : Nr W B A n cap m Ab z cb F A3 n3 c3 l3 A4 n4 c4 l4 w) (u : Upd W.heap.size w w') (t : TapeOk W.heap.size w' W.heap.size) : Nr W B A n cap m Ab z cb F A3 n3 c3 l3 A4 n4 c4 l4 w' :=
  ⟨s.s.upd u t, s.b.upd u s.s.gb, s.p.upd u s.s.gb, s.k.upd u s.s.gb, Nat.le_trans s.bw u.2.2.2.1⟩
/-- Bytes appended to a slice that was just made: new memory alone. -/
theorem ext_lit {w w5 w6 : World} {v : Value} {x : List Nat} (e : Ext w w5) (o : OwnB w.heap.size w5 v x) (g : w5.grownBy w6 v.ownBlock) : Ext w w6 := below_grown e (Nat.le_refl _) o g
end
theorem own_lit (w : World) (l : List Nat) (hl : IsB l) (hm : l.length ≤ 1048576) (cs : Array Value) (hc : cs = (u8s l).toArray) {n : Nat} (hn : l.length = n) : OwnB w.heap.size (w.alloc (.cells cs 5)) (.slice (some ⟨w.heap.size, 0, none⟩) n n) l := own_new8 w l hl hm cs hc (Nat.le_refl _) hn
set_option maxRecDepth 100000 in
set_option maxHeartbeats 64000000 in
theorem law_nreads (R : Option Addr) (cr capr : Nat) (lr : List Nat) (at_ nn : Int) (y : Option Addr) (len cap4 : Nat) (W : World)
    (hbr : BytesAt W R lr) (hcr : lr.length = cr) (hcr1 : cr ≤ capr) (hcr2 : capr ≤ 140737488351232) (hat : I64 at_) (hnn : I64 nn) (hL : IsList W y len cap4) :
    Calls Try.prog 4 #[.slice R cr capr, .int .i64 at_, .int .i64 nn, .slice y len cap4] W (Ret (.bool true) W) := by
  have KN : Hid (Calls Try.prog 9 #[.slice y len cap4] W (NewPost W)) := t_new W y len cap4 hL
  have KL := hide (fun w h => l_list9 W.heap.size W.heap.size w h)
  have KK := hide (fun w => l_known9 w)
  have i2 : I64 2 := ⟨by omega, by omega⟩
  have i3 : I64 3 := ⟨by omega, by omega⟩
  have i30 : I64 30 := ⟨by omega, by omega⟩
  have i0 : I64 0 := ⟨by omega, by omega⟩
  have KM := hide (fun w => t_modI nn 30 w hnn i30)
  have KX : Hid (∀ w, TapeOk W.heap.size w W.heap.size → Calls Try.prog 16 #[.pointer (some ⟨W.heap.size, 0, none⟩), .int .i64 3] w (NextPost W.heap.size W.heap.size (InN 3) .i64 w)) := hide (fun w h => t_next W.heap.size W.heap.size 3 w i3 h)
  have KX2 : Hid (∀ w, TapeOk W.heap.size w W.heap.size → Calls Try.prog 16 #[.pointer (some ⟨W.heap.size, 0, none⟩), .int .i64 2] w (NextPost W.heap.size W.heap.size (InN 2) .i64 w)) := hide (fun w h => t_next W.heap.size W.heap.size 2 w i2 h)
  have Hr := hide hbr
  have Hcr := hide hcr
  have KA : Hid (∀ w, Ext W w → Calls Try.prog 19 #[.slice R cr capr, .int .i64 at_, .int .i64 nn] w (Ret (.bool true) w)) := hide (fun w h => l_reads9 R cr capr lr at_ nn w (hbr.ext h) hcr hcr1 (by omega) hat hnn)
  have KB : Hid (∀ x : Int, I64 x → ∀ w, Ext W w → Calls Try.prog 19 #[.slice R cr capr, .int .i64 0, .int .i64 x] w (Ret (.bool true) w)) := hide (fun x hx w h => l_reads9 R cr capr lr 0 x w (hbr.ext h) hcr hcr1 (by omega) i0 hx)
  have KR : Hid (∀ (A : Option Addr) (c cap : Nat) (b : List Nat) (x : Int) (w : World), BytesAt w A b → b.length = c → c ≤ cap → c ≤ 4611686018427387904 → I64 x → Calls Try.prog 19 #[.slice A c cap, .int .i64 0, .int .i64 x] w (Ret (.bool true) w)) := hide (fun A c cap b x w hb hc h1 h2 hx => l_reads9 A c cap b 0 x w hb hc h1 h2 i0 hx)
  have KV : Hid (∀ (A : Option Addr) (c cap v : Nat) (l : List Nat) (w : World), BytesAt w A l → l.length = c → c ≤ 140737488355264 → v < 18446744073709551616 → Calls Try.prog 14 #[.slice A c cap, .int .u64 (v : Int)] w (OwnRet (l ++ encB v) w)) := hide (fun A c cap v l w h1 h2 h3 h4 => v_append A c cap v l w h1 h2 h3 h4)
  clear hL hbr hcr
  go_enter Try.func4, Try.ntmps4
  go_upto_region 3 with (first
    | (go_at_call 9; (with_reducible refine (KN.out).mono ?_); rintro e w1 ⟨rfl, hT, hE⟩; have T1 := hide hT; have E1 := hide hE; have kl := hide (KL.out w1 hT); clear hT hE)
    | (go_at_call 8; (with_reducible refine (kl.out).mono ?_); rintro e w2 ⟨Am, n, cap, m, rfl, hn, hn24, hncap, hO, hT2, hU2⟩; have hB2 : w1.heap.size ≤ w2.heap.size := hU2.2.2.2.1; have S2 := hide (Bs.of E1.out T1.out rfl hO hT2 hU2); clear hO hT2 hU2 hncap))
  obtain ⟨B, hB⟩ : ∃ B, w1.heap.size = B := ⟨_, rfl⟩
  rw [hB] at S2 hB2
  have hq := S2.out.o.2
  have hln : m.length ≤ 65536 := by omega
  have hV := encV_le hq
  have hw64 := wdt_le hq
  have hsz := enN_len hq hln
  obtain ⟨F, hF⟩ : ∃ F, (enN m).1 = F := ⟨_, rfl⟩
  rw [hF] at hsz
  obtain ⟨z, hz⟩ : ∃ z, F.length = z := ⟨_, rfl⟩
  rw [hz] at hsz
  have hz2 : z ≤ 1000 := by omega
  obtain ⟨ze, hze⟩ : ∃ ze, (enN m).2 = ze := ⟨_, rfl⟩
  have KE : Hid (Calls Try.prog 11 #[.slice Am n cap] w2 fun e w' => ∃ Ab cb, e = .returned (.tuple #[.slice Ab z cb, .int .i64 (ze : Int)]) ∧ z ≤ cb ∧ cb ≤ 9223372036854775807 ∧ OwnB B w' (.slice Ab z cb) F ∧ Ext w2 w') := hide ((r_encN Am n cap m w2 S2.out.words hn).mono fun e w' h => by
    obtain ⟨Ab, cb, rfl, h1, h2, ho, _, hE⟩ := h.parts
    simp only [hF, hz] at h1 ho
    exact ⟨Ab, cb, by rw [hF, hz, hze], h1, h2, ho.less hB2, hE⟩)
  obtain ⟨u, hu⟩ : ∃ u, wdt m = u := ⟨_, rfl⟩
  rw [hu] at hw64
  have KW : Hid (∀ w, Bs W B Am n cap m w → Calls Try.prog 15 #[.slice Am n cap] w (Ret (.int .i64 (u : Int)) w)) := hide (fun w s => by have := r_wd Am n cap m w s.words hn; rw [hu] at this; exact this)
  have KP : Hid (∀ g : Nat, u ≤ g → g ≤ 64 → ∃ (b : List Nat) (c : Nat), b.length = c ∧ c ≤ 1000 ∧ ∀ w, Bs W B Am n cap m w → Calls Try.prog 17 #[.slice Am n cap, .int .i64 (g : Int)] w fun e w' => ∃ A2 c2, e = .returned (.tuple #[.slice A2 c c2, .bool true]) ∧ BytesAt w' A2 b ∧ Ext w w') := hide (fun g h1 h2 => by
    have hgn : n * g ≤ 24 * 64 := Nat.mul_le_mul hn24 h2
    obtain ⟨b, hp⟩ : ∃ b, pkR m (g : Int) = some b := ⟨_, by unfold pkR; rw [if_neg (by omega)]⟩
    have hpb := (pkR_b hp).2.2.2.2
    rw [hn, siz_in (by omega) h2] at hpb
    refine ⟨b, b.length, rfl, by omega, fun w s => (r_pack Am n cap m g w s.words hn ⟨by omega, by omega⟩).mono fun e w' h => ?_⟩
    rw [hp] at h
    obtain ⟨A, cap, rfl, _, _, _, hb, hE⟩ := PkPost.parts h
    rw [show (some b).getD [] = b from rfl] at hb
    exact ⟨A, cap, rfl, hb, hE⟩)
  have HF := hide hz
  have Hn := hide hn
  have Hq := hide hq
  have inn : I64 (n : Int) := ⟨by omega, by omega⟩
  have hVn : (encV m).length ≤ 240 := by omega
  clear hB KN KL kl T1 E1 hn hq hln hsz hF hz hV hze hu
  go_upto_region 4 with (go_at_call 11; (with_reducible refine (KE.out).mono ?_); rintro e w3 ⟨Ab, cb, rfl, hzb, hzb2, hO3, hE3⟩; have S3 := hide (S2.out.ext hE3); have O3 := hide hO3; have hB3 : B ≤ w3.heap.size := Nat.le_trans hB2 hE3.size; clear hE3 hO3)
  have E4 := ext_alloc w3 (.cells #[.int .u8 0] 5)
  have S4 := hide (S3.out.ext E4)
  have Ob4 := hide (O3.out.ext E4)
  have P4 := hide ((own_lit w3 [0] (IsB.one (by omega)) (by simp) #[.int .u8 0] rfl (n := 1) rfl).less hB3)
  clear S3 O3 E4 KE S2
  go_wp2_with fail
  go_loopw [13, 14] (fun pv i wr => ∃ k : Nat, k ≤ n ∧ i = .int .i64 (k : Int) ∧ Hid (Bs W B Am n cap m wr) ∧ Hid (OwnB B wr (.slice Ab z cb) F) ∧ Hid (OwnB B wr pv (0 :: encV (m.take k))) ∧ Hid (B ≤ wr.heap.size)) (fun _ i _ => n - (intOf i).toNat)
  case atStart => exact ⟨0, by omega, rfl, S4, Ob4, P4, hide (Nat.le_trans hB3 (by simp))⟩
  case round =>
    clear S4 Ob4 P4
    obtain ⟨k, hk, rfl, HS, HO, HP, HB⟩ := hrel
    by_cases hlt : k < n
    · have hkl : k < m.length := by rw [Hn.out]; exact hlt
      obtain ⟨b, off, rfl, hb1, hc1⟩ := HS.out.words.2.2 (by omega)
      have dd := hc1 k hkl
      have hv := Hq.out.get k
      have hst := encV_take hkl
      have hvl := encV_take_le m k
      obtain ⟨v, hvv⟩ : ∃ v, m.getD k 0 = v := ⟨_, rfl⟩
      rw [hvv] at dd hst hv
      obtain ⟨Ap, cp, rfl, hp1, hp2, hp3⟩ := HP.out.at_
      obtain ⟨pn, hpn⟩ : ∃ pn, (0 :: encV (m.take k)).length = pn := ⟨_, rfl⟩
      have hpn2 : pn ≤ 140737488355264 := by rw [List.length_cons] at hpn; omega
      rw [hpn] at HP ⊢
      have kv := hide (KV.out Ap pn cp v _ wr hp3 hpn hpn2 hv)
      clear hb1 hc1 hvv hkl hp1 hp2 hp3 hpn hvl HP
      go_wp2_with (go_at_call 14; (with_reducible refine (kv.out).mono ?_); rintro e w5 ⟨v5, rfl, hO5, hE⟩)
      have HS5 := hide (HS.out.ext hE)
      have HO5 := hide (HO.out.ext hE)
      have HP5 : Hid (OwnB B w5 v5 (0 :: encV (m.take (k + 1)))) := hide (by rw [hst]; exact hO5.less HB.out)
      have HB5 := hide (Nat.le_trans HB.out hE.size)
      clear hE hO5
      go_roundw
      case rel => exact ⟨k + 1, by omega, by go_num, HS5, HO5, HP5, HB5⟩
      case measure => simp [intOf]; omega
    · obtain rfl : n = k := by omega
      have d0 : decide ((n : Int) < (n : Int)) = false := decide_eq_false (by omega)
      obtain ⟨A3, c3, rfl, hc3, hc3b, -⟩ := HP.out.at_
      rw [List.take_of_length_le (by have := Hn.out; omega)] at HP hc3 ⊢
      obtain ⟨l3, hl3⟩ : ∃ l3, 0 :: encV m = l3 := ⟨_, rfl⟩
      rw [hl3] at HP hc3 ⊢
      obtain ⟨n3, hn3⟩ : ∃ n3, l3.length = n3 := ⟨_, rfl⟩
      rw [hn3] at HP hc3 ⊢
      have hn32 : n3 ≤ 241 := by rw [← hn3, ← hl3, List.length_cons]; omega
      have Hn3 := hide hn3
      clear hl3 hn3
      go_upto_region 10 with (first
        | (go_at_call 15; (with_reducible refine (KW.out wr HS.out).mono ?_); rintro e w4 ⟨rfl, hE⟩; have S4 := hide (HS.out.ext hE); have O4 := hide (HO.out.ext hE); have P4 := hide (HP.out.ext hE); have hB4 := Nat.le_trans HB.out hE.size; have kx := hide (KX2.out w4 S4.out.t); clear hE)
        | (go_at_call 16; (with_reducible refine (kx.out).mono ?_); rintro e w5 ⟨x5, rfl, hx5, hT5, hU5⟩; have S5 := hide (S4.out.upd hU5 hT5); have O5 := hide (O4.out.upd hU5 S4.out.gb); have P5 := hide (P4.out.upd hU5 S4.out.gb); have hB5 := Nat.le_trans hB4 hU5.2.2.2.1; obtain ⟨x, rfl⟩ := Int.eq_ofNat_of_zero_le hx5.1; have hx2 : x < 2 := (by have := hx5.2.1 (by omega); omega); clear hx5 hT5 hU5))
      obtain ⟨g, hg⟩ : ∃ g, min 64 (u + x) = g := ⟨_, rfl⟩
      have em : min (64 : Int) ((u : Int) + (x : Int)) = (g : Int) := by omega
      have hug : u ≤ g := by omega
      have hg64 : g ≤ 64 := by omega
      rw [em]
      clear em hg HS HO HP S4 O4 P4 kx
      obtain ⟨pb, pc, hpc, hpc2, KPg⟩ := KP.out g hug hg64
      have KPg := hide (KPg w5 S5.out)
      have Hpc := hide hpc
      have hcvg : IntKind.u8.wrap (g : Int) = (g : Int) := by rw [wrap_8]; omega
      have hcvg2 : (g : Int) % 256 = (g : Int) := by omega
      obtain ⟨ab, hab, hab2⟩ : ∃ ab : Nat, at_ % 256 = (ab : Int) ∧ ab < 256 := ⟨(at_ % 256).toNat, by omega, by omega⟩
      have hcva : IntKind.u8.wrap at_ = (ab : Int) := by rw [wrap_8]; exact hab
      have hcw : Hid (∀ w, (convert 3 5 (.int .i64 at_)).run Try.prog w = .ok (.int .u8 (ab : Int)) w) := hide (fun w => by go_simp)
      clear hpc KP KW KX2 hcva hab
      have H6 : Hid (([1, g] ++ pb).length = 2 + pc) := hide (by rw [List.length_append, Hpc.out]; rfl)
      have hg256 : g < 256 := by omega
      have Hg2 := hide (show IsB [1, g] by intro q hq; simp at hq; omega)
      have Ha2 := hide (show IsB [1, ab] by intro q hq; simp at hq; omega)
      have H4a : Hid (([1, ab] ++ lr).length = 2 + cr) := hide (by rw [List.length_append, Hcr.out]; rfl)
      have H4b : Hid (([0] ++ lr).length = 1 + cr) := hide (by rw [List.length_append, Hcr.out]; rfl)
      have H4c : Hid ((F ++ lr).length = z + cr) := hide (by rw [List.length_append, HF.out, Hcr.out])
      have L6 : ([1, g] : List Nat).length + pb.length ≤ 225179981368000 := by rw [Hpc.out]; simp; omega
      have L4a : ([1, ab] : List Nat).length + lr.length ≤ 225179981368000 := by rw [Hcr.out]; simp; omega
      have L4b : ([0] : List Nat).length + lr.length ≤ 225179981368000 := by rw [Hcr.out]; simp; omega
      have L4c : F.length + lr.length ≤ 225179981368000 := by rw [HF.out, Hcr.out]; omega
      go_upto_region 12 with (first
        | (go_at_call 17; (with_reducible refine (KPg.out).mono ?_); rintro e w6 ⟨A6, c6, rfl, hb6, hE6⟩; have e6 := ext_alloc w6 (.cells #[.int .u8 1, .int .u8 (g : Int)] 5); have S6 := hide (S5.out.ext hE6); have O6 := hide (O5.out.ext hE6); have P6 := hide (P5.out.ext hE6); have b6 := hide (hb6.ext e6); have hB6 := Nat.le_trans hB5 hE6.size; have K6 := hide (own_lit w6 [1, g] Hg2.out (by simp) #[.int .u8 1, .int .u8 (g : Int)] rfl (n := 2) rfl); have hs6 := e6.size; clear hb6 hE6 e6)
        | (at_builtin; refine wl_append8q (by kernel_rfl) (.tmp 56) (.tmp 57) rfl w6.heap.size _ [1, g] pb rfl K6.out A6 pc c6 rfl b6.out Hpc.out L6 hs6 ?_; intro v7 w7 hO7 hG7 hA7; have hx7 := hide (ext_lit (ext_alloc w6 _) K6.out hG7); have K7 := hide (hO7.less hB6); clear hO7 hA7 hG7))
      obtain ⟨A4, c4, rfl, hc4, hc4b, -⟩ := K7.out.at_
      rw [H6.out] at K7 hc4 ⊢
      have S7 := hide (show Nr W B Am n cap m Ab z cb F A3 n3 c3 l3 A4 (2 + pc) c4 ([1, g] ++ pb) w7 from ⟨S6.out.ext hx7.out, O6.out.ext hx7.out, P6.out.ext hx7.out, K7.out, Nat.le_trans hB6 hx7.out.size⟩)
      clear S5 S6 O5 O6 P5 P6 K6 K7 b6 KPg hx7 hB4 hB5 hB6 hs6
      go_upto_region 13 with (go_at_call 18; (with_reducible refine (KM.out _).mono ?_); rintro e w8 ⟨mm, rfl, hmm, rfl⟩; have m0 := hmm.1; have m1 := hmm.2.1 (by omega); have imm : I64 mm := ⟨by omega, by omega⟩; clear hmm)
      simp only [List.append]
      go_wp2_with (first
        | (go_at_call 13; (with_reducible refine (KK.out _).mono ?_); rintro e w9 ⟨rfl, hE9⟩; have S9 := hide (S7.out.ext hE9); have k9 := hide (KA.out w9 S9.out.s.e); clear hE9)
        | (go_at_call 19; (with_reducible refine (k9.out).mono ?_); rintro e w10 ⟨rfl, hE10⟩; have S10 := hide (S9.out.ext hE10); clear hE10; have k10 := hide (KB.out mm imm w10 S10.out.s.e))
        | (go_at_call 19; (with_reducible refine (k10.out).mono ?_); rintro e w11 ⟨rfl, hE11⟩; have S11 := hide (S10.out.ext hE11); clear hE11; have e11 := ext_alloc w11 (.cells #[.int .u8 1, .int .u8 (ab : Int)] 5); have r11 := hide ((Hr.out.ext S11.out.s.e).ext e11); have K11 := hide (own_lit w11 [1, ab] Ha2.out (by simp) #[.int .u8 1, .int .u8 (ab : Int)] rfl (n := 2) rfl); have hs11 := e11.size; clear e11)
        | (refine wl_convq (by kernel_rfl) 3 5 (.tmp 74) rfl (.int .i64 at_) (.int .u8 (ab : Int)) rfl (hcw.out _) ?_)
        | (at_builtin; refine wl_append8q (by kernel_rfl) (.tmp 76) (.tmp 77) rfl w11.heap.size _ [1, ab] lr rfl K11.out R cr capr rfl r11.out Hcr.out L4a hs11 ?_; intro v12 w12 hO12 hG12 hA12; have hx12 := ext_lit (ext_alloc w11 _) K11.out hG12; have S12 := hide (S11.out.ext hx12); obtain ⟨A12, c12, rfl, hle12, -, hb12⟩ := hO12.at_; rw [H4a.out] at hle12 ⊢; have k12 := hide (KR.out A12 (2 + cr) c12 _ mm w12 hb12 H4a.out hle12 (by omega) imm); clear hO12 hG12 hA12 hx12 hb12)
        | (go_at_call 19; (with_reducible refine (k12.out).mono ?_); rintro e w13 ⟨rfl, hE13⟩; have S13 := hide (S12.out.ext hE13); clear hE13; have e13 := ext_alloc w13 (.cells #[.int .u8 0] 5); have r13 := hide ((Hr.out.ext S13.out.s.e).ext e13); have K13 := hide (own_lit w13 [0] (IsB.one (by omega)) (by simp) #[.int .u8 0] rfl (n := 1) rfl); have hs13 := e13.size; clear e13)
        | (at_builtin; refine wl_append8q (by kernel_rfl) (.tmp 83) (.tmp 84) rfl w13.heap.size _ [0] lr rfl K13.out R cr capr rfl r13.out Hcr.out L4b hs13 ?_; intro v14 w14 hO14 hG14 hA14; have hx14 := ext_lit (ext_alloc w13 _) K13.out hG14; have S14 := hide (S13.out.ext hx14); obtain ⟨A14, c14, rfl, hle14, -, hb14⟩ := hO14.at_; rw [H4b.out] at hle14 ⊢; have k14 := hide (KR.out A14 (1 + cr) c14 _ mm w14 hb14 H4b.out hle14 (by omega) imm); clear hO14 hG14 hA14 hx14 hb14)
        | (go_at_call 19; (with_reducible refine (k14.out).mono ?_); rintro e w15 ⟨rfl, hE15⟩; have S15 := hide (S14.out.ext hE15); clear hE15; have k15 := hide (KR.out Ab z cb F _ w15 (bytes_of_own S15.out.b HF.out).1 HF.out hzb (by omega) inn))
        | (go_at_call 19; (with_reducible refine (k15.out).mono ?_); rintro e w16 ⟨rfl, hE16⟩; have S16 := hide (S15.out.ext hE16); clear hE16; have k16 := hide (KR.out A3 n3 c3 l3 _ w16 (bytes_of_own S16.out.p Hn3.out).1 Hn3.out hc3 (by omega) inn))
        | (go_at_call 19; (with_reducible refine (k16.out).mono ?_); rintro e w17 ⟨rfl, hE17⟩; have S17 := hide (S16.out.ext hE17); clear hE17; have k17 := hide (KR.out A4 (2 + pc) c4 _ _ w17 (bytes_of_own S17.out.k H6.out).1 H6.out hc4 (by omega) inn))
        | (go_at_call 19; (with_reducible refine (k17.out).mono ?_); rintro e w18 ⟨rfl, hE18⟩; have S18 := hide (S17.out.ext hE18); clear hE18; have k18 := hide (t_spoiled W.heap.size W.heap.size Ab z cb F w18 S18.out.s.t (bytes_of_own S18.out.b HF.out).1 HF.out (by omega)))
        | (go_at_call 20; (with_reducible refine (k18.out).mono ?_); rintro e w19 ⟨As, ns, caps, ls, rfl, hls, hns1, -, hns2, hbs, -, hT19, hU19⟩; have S19 := hide (S18.out.upd hU19 hT19); have k19 := hide (KR.out As ns caps ls _ w19 hbs hls hns1 (by omega) inn); clear hls hbs hT19 hU19)
        | (go_at_call 19; (with_reducible refine (k19.out).mono ?_); rintro e w20 ⟨rfl, hE20⟩; have S20 := hide (S19.out.ext hE20); clear hE20; have r20 := hide (Hr.out.ext S20.out.s.e); have hs20 := S20.out.bw)
        | (at_builtin; refine wl_append8q (by kernel_rfl) (.tmp 116) (.tmp 117) rfl B _ F lr rfl S20.out.b R cr capr rfl r20.out Hcr.out L4c hs20 ?_; intro v21 w21 hO21 hG21 hA21; have gb := S20.out.s.gb; have T21 := hide (S20.out.s.t.below (grown_below hG21 (W.heap.size + 1) (Nat.le_trans gb hs20) (fun k hk => Nat.le_trans gb (S20.out.b.1.lt k hk).1))); have E21 := hide (below_grown S20.out.s.e (Nat.le_of_lt gb) S20.out.b hG21); have O21 := hide hO21; have k21 := hide (KX.out w21 T21.out); clear hO21 hG21 hA21)
        | (go_at_call 16; (with_reducible refine (k21.out).mono ?_); rintro e w22 ⟨z22, rfl, hz22, hT22, hU22⟩; have z22a := hz22.1; have z22b := hz22.2.1 (by omega); have i22 : I64 ((n : Int) + z22 - 1) := ⟨by omega, by omega⟩; have E22 := hide (Upd.ext hU22 E21.out (Nat.le_refl _)); obtain ⟨A22, c22, rfl, hle22, -, hb22⟩ := (O21.out.upd hU22 gb).at_; rw [H4c.out] at hle22 ⊢; have k22 := hide (KR.out A22 (z + cr) c22 _ _ w22 hb22 H4c.out hle22 (by omega) i22); clear hz22 hT22 hU22 hb22)
        | (go_at_call 19; (with_reducible refine (k22.out).mono ?_); rintro e w23 ⟨rfl, hE23⟩; have E23 := hide (Ext.trans E22.out hE23); clear hE23))
      go_ret
      exact ⟨rfl, E23.out⟩
end Go.Proofs.Ytnmkmjfehgmlkaa
