/- Layer 5: reads, VarintReads. Conditions: the slices read as bytes and numbers. -/
import Derived.Test.YtdboaogdanahkaaRvW
import Derived.Test.YtdboaogdanahkaaRvM
import Derived.Test.YtdboaogdanahkaaRvC
import Derived.Test.YtdboaogdanahkaaVarG
import Derived.Test.YtdboaogdanahkaaSpoA
import Derived.Test.YtdboaogdanahkaaTapeC
import Derived.Test.YtdboaogdanahkaaTapS
namespace Go.Proofs.Ytdboaogdanahkaa
set_option linter.unusedVariables false
set_option linter.unusedSimpArgs false
open Go Go.RowKit
/-- What ReadWide gives, of the program and of the reference. -/
def rdW (l : List Nat) (at_ : Int) : Value := match rdG l at_ 257 37 with
  | some g => rwW (decB g) at_.toNat g.length
  | none => .tuple #[.agg #[.bool false, .int .u64 0, .int .u64 0, .int .u64 0, .int .u64 0], .int .i64 0, .int .i64 (bhd l at_ 257 37).2]
theorem rdW_some {l g : List Nat} {at_ : Int} (h : rdG l at_ 257 37 = some g) : rdW l at_ = rwW (decB g) at_.toNat g.length := by unfold rdW; rw [h]
theorem rdW_none {l : List Nat} {at_ : Int} (h : rdG l at_ 257 37 = none) : rdW l at_ = .tuple #[.agg #[.bool false, .int .u64 0, .int .u64 0, .int .u64 0, .int .u64 0], .int .i64 0, .int .i64 (bhd l at_ 257 37).2] := by unfold rdW; rw [h]
theorem p_rdW (A : Option Addr) (c cap : Nat) (l : List Nat) (at_ : Int) (W : World) (hb : BytesAt W A l) (hc : l.length = c) (hcap : c ≤ cap) (hcap2 : c ≤ 140737488355328) (hat : I64 at_) :
    Calls Try.prog 23 #[.slice A c cap, .int .i64 at_] W (Ret (rdW l at_) W) := by
  cases hg : rdG l at_ 257 37 with
  | some g =>
    rw [rdW_some hg]
    obtain ⟨a, rfl, _⟩ := bhd_some hg
    exact p_rwide A c cap l a g W hb hc hcap (by omega) hg
  | none =>
    rw [rdW_none hg]
    obtain ⟨e, hbd, he⟩ := bhd_none hg
    rw [hbd]
    exact p_rwide_err A c cap l at_ e W hb hc hcap (by omega) hat hbd he
theorem v_rdW (A : Option Addr) (c cap : Nat) (l : List Nat) (at_ : Int) (W : World) (hb : BytesAt W A l) (hc : l.length = c) (hcap : c ≤ cap) (hcap2 : c ≤ 140737488355328) :
    Calls Try.prog 46 #[.slice A c cap, .int .i64 at_] W (Ret (rdW l at_) W) := by
  cases hg : rdG l at_ 257 37 with
  | some g =>
    rw [rdW_some hg]
    obtain ⟨a, rfl, _⟩ := bhd_some hg
    exact v_rwide A c cap a l g W hb hc hcap hcap2 hg
  | none =>
    rw [rdW_none hg]
    obtain ⟨e, hbd, he⟩ := bhd_none hg
    rw [hbd]
    exact v_rwide_err A c cap l at_ e W hb hc hcap hcap2 hg hbd he
theorem rdW_shape (l : List Nat) (at_ : Int) : ∃ (s : Bool) (a b c d : Nat) (n e : Int), rdW l at_ = .tuple #[.agg #[.bool s, .int .u64 (a : Int), .int .u64 (b : Int), .int .u64 (c : Int), .int .u64 (d : Int)], .int .i64 n, .int .i64 e] := by
  unfold rdW
  split
  · unfold rwW
    split
    · exact ⟨false, 0, 0, 0, 0, _, _, rfl⟩
    · exact ⟨_, _, _, _, _, _, _, rfl⟩
  · exact ⟨false, 0, 0, 0, 0, _, _, rfl⟩
set_option maxRecDepth 100000 in
set_option maxHeartbeats 6400000 in
theorem l_reads5 (A : Option Addr) (n cap : Nat) (l : List Nat) (at_ : Int) (W : World) (hb : BytesAt W A l) (hc : l.length = n) (hcap : n ≤ cap) (hcap2 : n ≤ 140737488355328) (hat : I64 at_) :
    Calls Try.prog 18 #[.slice A n cap, .int .i64 at_] W (Ret (.bool true) W) := by
  obtain ⟨⟨a1, a2, a3⟩, hr⟩ : ∃ x, rdV l at_ = x := ⟨_, rfl⟩
  obtain ⟨⟨b1, b2, b3⟩, hs⟩ : ∃ x, rdS l at_ = x := ⟨_, rfl⟩
  obtain ⟨s, a, b, c, d, m, e, hw⟩ := rdW_shape l at_
  have K1 := hide (fun w (h : Ext W w) => p_read A n cap l at_ w (hb.ext h) hc hcap (by omega) hat a1 a2 a3 hr)
  have K2 := hide (fun w (h : Ext W w) => v_read A n cap l at_ w (hb.ext h) hc hcap (by omega) hat a1 a2 a3 hr)
  have K3 := hide (fun w (h : Ext W w) => p_rsigned A n cap l at_ w (hb.ext h) hc hcap (by omega) hat b1 b2 b3 hs)
  have K4 := hide (fun w (h : Ext W w) => v_rsigned A n cap l at_ w (hb.ext h) hc hcap (by omega) hat b1 b2 b3 hs)
  have K5 := hide (fun w (h : Ext W w) => p_rdW A n cap l at_ w (hb.ext h) hc hcap hcap2 hat)
  have K6 := hide (fun w (h : Ext W w) => v_rdW A n cap l at_ w (hb.ext h) hc hcap hcap2)
  rw [hw] at K5 K6
  have E0 : Hid (Ext W W) := Ext.refl _
  have q := eq_same'
  clear hr hs hw hb hc
  go_enter Try.func18, Try.ntmps18
  go_upto_region 5 with (first
    | (go_at_call 20; (with_reducible refine (K1.out _ E0.out).mono ?_); rintro en w1 ⟨rfl, rfl⟩)
    | (go_at_call 43; (with_reducible refine (K2.out _ E0.out).mono ?_); rintro en w2 ⟨rfl, rfl⟩)
    | (go_at_call 44; (with_reducible refine (K3.out _ E0.out).mono ?_); rintro en w3 ⟨rfl, rfl⟩)
    | (go_at_call 45; (with_reducible refine (K4.out _ E0.out).mono ?_); rintro en w4 ⟨rfl, rfl⟩))
  go_upto_region 6 with (go_at_call 23; (with_reducible refine (K5.out _ E0.out).mono ?_); rintro en w5 ⟨rfl, hE5⟩)
  have Q5 := Blk.new w5 32 #[.bool s, .int .u64 (a : Int), .int .u64 (b : Int), .int .u64 (c : Int), .int .u64 (d : Int)]
  have E5 := Ext.trans hE5 (ext_alloc w5 (.cells #[.bool s, .int .u64 (a : Int), .int .u64 (b : Int), .int .u64 (c : Int), .int .u64 (d : Int)] 32))
  obtain ⟨w6, hw6⟩ : ∃ w, w5.alloc (.cells #[.bool s, .int .u64 (a : Int), .int .u64 (b : Int), .int .u64 (c : Int), .int .u64 (d : Int)] 32) = w := ⟨_, rfl⟩
  rw [hw6] at Q5 E5 ⊢
  obtain ⟨q5, hq5⟩ : ∃ g, w5.heap.size = g := ⟨_, rfl⟩
  rw [hq5] at Q5 ⊢
  have Q5 := hide Q5
  have E5 := hide E5
  clear hw6 hq5 hE5
  go_upto_region 7 with (go_at_call 46; (with_reducible refine (K6.out _ E5.out).mono ?_); rintro en w7 ⟨rfl, hE7⟩)
  have Q7 := Blk.new w7 32 #[.bool s, .int .u64 (a : Int), .int .u64 (b : Int), .int .u64 (c : Int), .int .u64 (d : Int)]
  have Q6 := (Q5.out.ext hE7).alloc (.cells #[.bool s, .int .u64 (a : Int), .int .u64 (b : Int), .int .u64 (c : Int), .int .u64 (d : Int)] 32)
  have E7 := Ext.trans (Ext.trans E5.out hE7) (ext_alloc w7 (.cells #[.bool s, .int .u64 (a : Int), .int .u64 (b : Int), .int .u64 (c : Int), .int .u64 (d : Int)] 32))
  obtain ⟨w8, hw8⟩ : ∃ w, w7.alloc (.cells #[.bool s, .int .u64 (a : Int), .int .u64 (b : Int), .int .u64 (c : Int), .int .u64 (d : Int)] 32) = w := ⟨_, rfl⟩
  rw [hw8] at Q6 Q7 E7 ⊢
  obtain ⟨q7, hq7⟩ : ∃ g, w7.heap.size = g := ⟨_, rfl⟩
  rw [hq7] at Q7 ⊢
  obtain ⟨c0, c1, c2, c3, c4, _⟩ := five_cells (show Box w8 q5 s a b c d from Q6)
  obtain ⟨k0, k1, k2, k3, k4, _⟩ := five_cells (show Box w8 q7 s a b c d from Q7)
  have E7 := hide E7
  clear hw8 hq7 hE7 Q5 Q6 Q7 E5 K1 K2 K3 K4 K5 K6
  go_wp2_with fail
  go_ret
  exact ⟨rfl, E7.out⟩
/-- What is kept while the readers are compared. -/
structure RS (W : World) (A5 : Option Addr) (lb : List Nat) (A9 : Option Addr) (ls : List Nat) (A8 : Option Addr) (ll : List Nat) (w : World) : Prop where
  e : Ext W w
  t : TapeOk W.heap.size w W.heap.size
  hb : BytesAt w A5 lb
  hs : BytesAt w A9 ls
  hl : BytesAt w A8 ll
  nb : ∀ g off, A5 = some ⟨g, off, none⟩ → g ≠ W.heap.size
  ns : ∀ g off, A9 = some ⟨g, off, none⟩ → g ≠ W.heap.size
  nl : ∀ g off, A8 = some ⟨g, off, none⟩ → g ≠ W.heap.size
section
variable {W : World} {A5 A9 A8 : Option Addr} {lb ls ll : List Nat} {w w' : World}
theorem RS.ext (s : RS W A5 lb A9 ls A8 ll w) (k : Ext w w') : RS W A5 lb A9 ls A8 ll w' :=
  ⟨s.e.trans k, s.t.ext k, s.hb.ext k, s.hs.ext k, s.hl.ext k, s.nb, s.ns, s.nl⟩
theorem RS.upd (s : RS W A5 lb A9 ls A8 ll w) (u : Upd W.heap.size w w') (t : TapeOk W.heap.size w' W.heap.size) : RS W A5 lb A9 ls A8 ll w' :=
  ⟨Upd.ext u s.e (Nat.le_refl _), t, s.hb.upd u s.nb, s.hs.upd u s.ns, s.hl.upd u s.nl, s.nb, s.ns, s.nl⟩
end
theorem run_mkS (n m : Nat) (hnm : n ≤ m) (hm : m ≤ 281474976710656) (w : World) : (Instr.makeSlice 22 (.int .i64 (n : Int)) (.int .i64 (m : Int))).run Try.prog w = .ok (.slice (some ⟨w.heap.size, 0, none⟩) n m) (w.alloc (.cells (u8s (List.replicate m 0)).toArray 5)) := run_make8 n m hnm hm w
set_option maxRecDepth 100000 in
set_option maxHeartbeats 64000000 in
theorem law_vreads (R : Option Addr) (cr capr : Nat) (lr : List Nat) (at_ : Int) (y : Option Addr) (len cap2 : Nat) (b8 : Nat) (n : Int) (W : World)
    (hbr : BytesAt W R lr) (hcr : lr.length = cr) (hcr1 : cr ≤ capr) (hcr2 : capr ≤ 140737488351232) (hat : I64 at_) (hL : IsList W y len cap2) (hb8 : b8 < 256) (hn : I64 n) :
    Calls Try.prog 3 #[.slice R cr capr, .int .i64 at_, .slice y len cap2, .int .u8 (b8 : Int), .int .i64 n] W (Ret (.bool true) W) := by
  have KN : Hid (Calls Try.prog 10 #[.slice y len cap2] W (NewPost W)) := t_new W y len cap2 hL
  have KW := hide (fun w (T : TapeOk W.heap.size w W.heap.size) => t_word' W.heap.size W.heap.size w w T (Upd.refl _ _))
  have KV := hide (fun w (T : TapeOk W.heap.size w W.heap.size) => t_wide W.heap.size W.heap.size w w T (Upd.refl _ _))
  have KA := hide (fun (x : Nat) w (hx : x < 18446744073709551616) => v_append none 0 0 x [] w (BytesAt.nil _ _) rfl (by omega) hx)
  have KB := hide (fun A m c l s a b c' d z w (hz : IsW s a b c' d z) (h : BytesAt w A l) (hc : l.length = m) (hm : m ≤ 140737488355264) => v_awide A m c l s a b c' d z w hz h hc hm)
  have KM : Hid (∀ w, Calls Try.prog 15 #[.int .i64 n, .int .i64 40] w (IntIn (InN 40) .i64 w)) := fun w => (t_mod n 40 w hn ⟨by omega, by omega⟩).mono fun _ _ q => ⟨_, q.1, modN_in _ _, q.2.symm⟩
  have Hr := hide hbr
  have Hcr := hide hcr
  have Hat := hide hat
  clear hbr hcr hat hL hn
  go_enter Try.func3, Try.ntmps3
  go_upto_region 2 with (go_at_call 10; (with_reducible refine (KN.out).mono ?_); rintro en w1 ⟨rfl, hT1, hE1⟩)
  have hg1 : W.heap.size < w1.heap.size := by
    obtain ⟨_, hlt, _⟩ := hT1
    exact hlt
  have kw := hide (KW.out w1 hT1)
  have E1 : Hid (Ext W w1) := hE1
  go_upto_region 3 with (first
    | (go_at_call 13; (with_reducible refine (kw.out).mono ?_); rintro en w2 ⟨wd, rfl, hwd, hT2, hU2⟩; obtain ⟨wd, rfl⟩ := Int.eq_ofNat_of_zero_le hwd.1; have ka := hide (KA.out wd w2 (by have := hwd.2; omega)); have U2 := hide hU2; have T2 := hide hT2)
    | (go_at_call 12; (with_reducible refine (ka.out).mono ?_); rintro en w3 ⟨v3, rfl, hO3, hE3⟩; have kv := hide (KV.out w3 (T2.out.ext hE3)); have O3 : Hid (OwnB w2.heap.size w3 v3 (encB wd)) := hO3; have E3 := hide hE3)
    | (go_at_call 14; (with_reducible refine (kv.out).mono ?_); rintro en w4 ⟨s, a, b, c, d, z, rfl, hz, hT4, hU4⟩; have T4 := hide hT4; have U4 := hide hU4; have hz := hide hz)
    | skip; fail)
  obtain ⟨A3, c3, rfl, hle3, -, -⟩ := O3.out.at_
  obtain ⟨hb3, hn3⟩ := bytes_of_own O3.out rfl
  have z12 := U2.out.2.2.2.1
  have hl3 : (encB wd).length ≤ 10 := encB_length_le wd 9 (by have := hwd.2; omega)
  have hb4 := hb3.upd U4.out (fun g off e => by have := hn3 g off e; omega)
  have kb := hide (KB.out A3 _ c3 (encB wd) s a b c d z w4 hz.out.1 hb4 rfl (by omega))
  have hl5 : (encB (cod z)).length ≤ 37 := encB_length_le (cod z) 36 (Nat.lt_trans (cod_lt hz.out.1) (by decide +kernel))
  obtain ⟨lb, hlb⟩ : ∃ l, encB wd ++ encB (cod z) = l := ⟨_, rfl⟩
  have hlbl : lb.length ≤ 47 := by rw [← hlb, List.length_append]; omega
  rw [hlb] at kb
  (with_reducible refine (kb.out).mono ?_)
  rintro en w5 ⟨v5, rfl, hO5, hE5⟩
  obtain ⟨A5, c5, rfl, hle5, -, -⟩ := hO5.at_
  obtain ⟨hb5, hn5⟩ := bytes_of_own hO5 rfl
  obtain ⟨m5, hm5⟩ : ∃ k, lb.length = k := ⟨_, rfl⟩
  rw [hm5] at hle5 hlbl ⊢
  have e2 : Ext W w2 := Upd.ext U2.out E1.out (Nat.le_refl _)
  have e3 : Ext W w3 := Ext.trans e2 E3.out
  have e4 : Ext W w4 := Upd.ext U4.out e3 (Nat.le_refl _)
  have E5 : Hid (Ext W w5) := Ext.trans e4 hE5
  have T5 := hide (T4.out.ext hE5)
  have z34 := E3.out.size
  have z45 := U4.out.2.2.2.1
  have z5 := hE5.size
  have hg5 : W.heap.size < w5.heap.size := by omega
  have N5 : Hid (∀ g off, A5 = some ⟨g, off, none⟩ → g ≠ W.heap.size) := fun g off e => by have := hn5 g off e; omega
  have B5 := hide hb5
  have Hm5 := hide hm5
  have hmk : ∀ w : World, (Instr.makeSlice 22 (.int .i64 0) (.int .i64 60)).run Try.prog w = .ok (.slice (some ⟨w.heap.size, 0, none⟩) 0 60) (w.alloc (.cells (u8s (List.replicate 60 0)).toArray 5)) := run_mkS 0 60 (by omega) (by omega)
  obtain ⟨Z, hZ⟩ : ∃ Z, u8s (List.replicate 60 0) = Z := ⟨_, rfl⟩
  have O6 := hide (own_of (B := w5.heap.size) (w := w5.alloc (.cells (u8s ([] ++ List.replicate 60 0)).toArray 5)) (g := w5.heap.size) (n := 0) (cap := 60) (l := []) (m := List.replicate 60 0) (Nat.le_refl _) (heap_alloc_new w5 _) rfl rfl (by omega) IsB.nil)
  rw [List.nil_append, hZ] at O6
  rw [hZ] at hmk
  have E6 : Hid (Ext w5 (w5.alloc (.cells Z.toArray 5))) := ext_alloc w5 _
  have hr6 := hide ((Hr.out.ext E5.out).ext E6.out)
  have hs6 := hide E6.out.size
  have ap1 : ([] : List Nat).length + lr.length ≤ 140737488355328 := by rw [Hcr.out]; simp; omega
  clear O3 E3 U2 T2 U4 T4 hz hwd kw ka kv kb KA KB KV KW hb3 hn3 hb4 hl3 hl5 hlb hO5 hE5 hb5 hn5 hm5 e2 e3 e4 hZ z12 z34 z45 z5 E1 hE1 hT1 KN
  go_upto_region 4 with (at_builtin; refine wl_append8 rfl (.tmp 24) (.tmp 25) rfl w5.heap.size (.slice (some ⟨w5.heap.size, 0, none⟩) 0 60) [] lr rfl O6.out R cr capr rfl hr6.out Hcr.out ap1 hs6.out ?_; intro v7 w7 hO7 hG7 _; have E7 := hide (below_grown E6.out (Nat.le_refl _) O6.out hG7); have hO7 := hide hO7; clear hG7)
  go_upto_region 5 with (go_at_call 15; (with_reducible refine (KM.out _).mono ?_); rintro en w7' ⟨k0, rfl, hk0, rfl⟩)
  have hk1 := hk0.1
  have hk2 := hk0.2.1 (by omega)
  obtain ⟨k0, rfl⟩ := Int.eq_ofNat_of_zero_le hk1
  have hk3 : k0 ≤ 40 := by omega
  clear hk0 hk1 hk2 O6 E6 hr6 hs6 ap1 hmk
  obtain ⟨yy, hyy⟩ : ∃ v, 128 + b8 % 128 = v := ⟨_, rfl⟩
  have hyl : yy < 256 := by omega
  have Hyy := hide hyy
  clear hyy
  go_loopw [13, 14] (fun v i wr => ∃ k j : Nat, k + j ≤ 40 ∧ i = .int .i64 (k : Int) ∧ Hid (OwnB w5.heap.size wr v ([] ++ lr ++ List.replicate j yy)) ∧ Hid (Ext w5 wr)) (fun _ i _ => (intOf i).toNat)
  case atStart => exact ⟨k0, 0, by omega, rfl, hide (by rw [List.replicate_zero, List.append_nil]; exact hO7.out), E7⟩
  case round =>
    clear hO7 E7
    obtain ⟨k, j, hkj, rfl, HO, HE⟩ := hrel
    by_cases hk1 : 0 < k
    · have g1 : (0 : Int) < (k : Int) := by omega
      have hu : Value.int .u8 (128 + (b8 : Int) % 128) = Value.int .u8 (yy : Int) := by rw [← Hyy.out]; congr 1
      have hone := hide (one_at wr yy hyl _ hu)
      have hO1 := hide (HO.out.alloc (.cells #[Value.int .u8 (128 + (b8 : Int) % 128)] 5))
      have hE1 := hide (Ext.trans HE.out (ext_alloc wr (.cells #[Value.int .u8 (128 + (b8 : Int) % 128)] 5)))
      have hs1 := hide hE1.out.size
      have ap2 : ([] ++ lr ++ List.replicate j yy).length + [yy].length ≤ 140737488355328 := by rw [List.nil_append, List.length_append, Hcr.out, List.length_replicate]; simp; omega
      clear hu
      go_wp2_with (at_builtin; refine wl_append8 rfl (.tmp 33) (.tmp 37) rfl w5.heap.size _ _ _ rfl hO1.out _ 1 1 rfl hone.out rfl ap2 hs1.out ?_; intro v2 w2 hO2 hG2 _; have hE2 := hide (below_grown hE1.out (Nat.le_refl _) hO1.out hG2); have hO2 := hide hO2; clear hG2)
      go_roundw
      case rel => exact ⟨k - 1, j + 1, by omega, by rw [show ((k - 1 : Nat) : Int) = (k : Int) - 1 by omega], hide (by rw [List.replicate_succ', ← List.append_assoc]; exact hO2.out), hE2⟩
      case measure => simp [intOf]; omega
    · have g1 : ¬ (0 : Int) < (k : Int) := by omega
      have g1b : decide ((0 : Int) < (k : Int)) = false := decide_eq_false g1
      obtain ⟨lq, hlq⟩ : ∃ l, [] ++ lr ++ List.replicate j yy = l := ⟨_, rfl⟩
      have hlql : lq.length ≤ cr + 40 := by rw [← hlq, List.nil_append, List.length_append, Hcr.out, List.length_replicate]; omega
      rw [hlq] at HO
      obtain ⟨x16, hx16⟩ : ∃ v, b8 / 16 = v := ⟨_, rfl⟩
      have hxl : x16 < 256 := by omega
      have hu : Value.int .u8 ((b8 : Int) / 16) = Value.int .u8 (x16 : Int) := by rw [← hx16]; congr 1
      have hone := hide (one_at wr x16 hxl _ hu)
      have hO1 := hide (HO.out.alloc (.cells #[Value.int .u8 ((b8 : Int) / 16)] 5))
      have hE1 := hide (Ext.trans HE.out (ext_alloc wr (.cells #[Value.int .u8 ((b8 : Int) / 16)] 5)))
      have hs1 := hide hE1.out.size
      have ap3 : lq.length + [x16].length ≤ 140737488355328 := by simp; omega
      clear hu hx16 HO HE hlq
      go_upto_region 9 with (at_builtin; refine wl_append8 rfl (.tmp 39) (.tmp 42) rfl w5.heap.size _ _ _ rfl hO1.out _ 1 1 rfl hone.out rfl ap3 hs1.out ?_; intro v9 w9 hO9 hG9 _; have hE9 := hide (below_grown hE1.out (Nat.le_refl _) hO1.out hG9); have hO9 := hide hO9; clear hG9)
      obtain ⟨ll, hll⟩ : ∃ l, lq ++ [x16] = l := ⟨_, rfl⟩
      have hlll : ll.length ≤ cr + 41 := by rw [← hll, List.length_append]; simp; omega
      rw [hll] at hO9
      obtain ⟨A8, c8, rfl, hle8, -, -⟩ := hO9.out.at_
      obtain ⟨hb8', hn8⟩ := bytes_of_own hO9.out rfl
      obtain ⟨n8, hn8e⟩ : ∃ k, ll.length = k := ⟨_, rfl⟩
      rw [hn8e] at hle8 hlll ⊢
      have Hn8 := hide hn8e
      have KP := hide (t_spoiled W.heap.size W.heap.size A5 m5 c5 lb w9 (T5.out.ext hE9.out) (B5.out.ext hE9.out) Hm5.out (by omega))
      clear hn8e hO1 hE1 hs1 hone ap3
      go_upto_region 10 with (go_at_call 16; (with_reducible refine (KP.out).mono ?_); rintro en w10 ⟨A9, n9, c9, ls, rfl, hl9, hle9, hcm9, hn9, hb9, hnw9, hT9, hU9⟩)
      have z59 := hE9.out.size
      have S0 : RS W A5 lb A9 ls A8 ll w10 :=
        ⟨Upd.ext hU9 (Ext.trans E5.out hE9.out) (Nat.le_refl _), hT9, (B5.out.ext hE9.out).upd hU9 N5.out, hb9, hb8'.upd hU9 (fun g off e => by have := hn8 g off e; omega), N5.out, fun g off e => by have := hnw9 g off e; omega, fun g off e => by have := hn8 g off e; omega⟩
      have S := hide S0
      have Hl9 := hide hl9
      have i0 : I64 0 := ⟨by omega, by omega⟩
      have hmx : cr ≤ 140737488355328 := by omega
      have hmx5 : m5 ≤ 140737488355328 := by omega
      have hmx9 : n9 ≤ 140737488355328 := by omega
      have hmx8 : n8 ≤ 140737488355328 := by omega
      have KK := hide (fun w => l_known5 w)
      have R1 := hide (fun w (h : Ext W w) => l_reads5 R cr capr lr at_ w (Hr.out.ext h) Hcr.out hcr1 hmx Hat.out)
      have R2 := hide (fun w (h : Ext W w) => l_reads5 R cr capr lr 0 w (Hr.out.ext h) Hcr.out hcr1 hmx i0)
      have RB := hide (fun w i (s : RS W A5 lb A9 ls A8 ll w) (h : I64 i) => l_reads5 A5 m5 c5 lb i w s.hb Hm5.out hle5 hmx5 h)
      have RB0 := hide (fun w (s : RS W A5 lb A9 ls A8 ll w) => RB.out w 0 s i0)
      have RC := hide (fun w i (s : RS W A5 lb A9 ls A8 ll w) (h : I64 i) => l_reads5 A9 n9 c9 ls i w s.hs Hl9.out hle9 hmx9 h)
      have RC0 := hide (fun w (s : RS W A5 lb A9 ls A8 ll w) => RC.out w 0 s i0)
      have icr : I64 (cr : Int) := ⟨by omega, by omega⟩
      have RL1 := hide (fun w (s : RS W A5 lb A9 ls A8 ll w) => l_reads5 A8 n8 c8 ll (cr : Int) w s.hl Hn8.out hle8 hmx8 icr)
      have RL0 := hide (fun w (s : RS W A5 lb A9 ls A8 ll w) => l_reads5 A8 n8 c8 ll 0 w s.hl Hn8.out hle8 hmx8 i0)
      have in1 : I64 ((m5 : Int) + 1) := ⟨by omega, by omega⟩
      have in2 : I64 ((n9 : Int) + 2) := ⟨by omega, by omega⟩
      have NX1 := hide (fun w (s : RS W A5 lb A9 ls A8 ll w) => t_next W.heap.size W.heap.size ((m5 : Int) + 1) w in1 s.t)
      have NX2 := hide (fun w (s : RS W A5 lb A9 ls A8 ll w) => t_next W.heap.size W.heap.size ((n9 : Int) + 2) w in2 s.t)
      have HI1 : Hid (∀ v : Int, InN ((m5 : Int) + 1) v → I64 v) := fun v hv => ⟨by have := hv.1; omega, by have := hv.2.1 (by omega); omega⟩
      have HI2 : Hid (∀ v : Int, InN ((n9 : Int) + 2) v → I64 (v - 1)) := fun v hv => ⟨by have := hv.1; omega, by have := hv.2.1 (by omega); omega⟩
      clear S0 hl9 hb9 hT9 hU9 hnw9 hn8 hb8' hO9 hE9 T5 B5 KP N5 z59
      go_wp2_with (first
        | (go_at_call 17; (with_reducible refine (KK.out _).mono ?_); rintro en w11 ⟨rfl, hE⟩; have S := hide (S.out.ext hE); clear hE)
        | (go_at_call 18; (with_reducible refine (R1.out _ S.out.e).mono ?_); rintro en w12 ⟨rfl, hE⟩; have S := hide (S.out.ext hE); clear hE)
        | (go_at_call 18; (with_reducible refine (R2.out _ S.out.e).mono ?_); rintro en w13 ⟨rfl, hE⟩; have S := hide (S.out.ext hE); clear hE)
        | (go_at_call 18; (with_reducible refine (RB0.out _ S.out).mono ?_); rintro en w14 ⟨rfl, hE⟩; have S14 := hide (S.out.ext hE); clear hE)
        | (go_at_call 19; (with_reducible refine (NX1.out _ S14.out).mono ?_); rintro en w15 ⟨v15, rfl, hv15, hT, hU⟩; have S15 := hide (S14.out.upd hU hT); have rb := hide (RB.out w15 v15 S15.out (HI1.out v15 hv15)); clear hT hU)
        | (go_at_call 18; (with_reducible refine (rb.out).mono ?_); rintro en w16 ⟨rfl, hE⟩; have S16 := hide (S15.out.ext hE); clear hE)
        | (go_at_call 18; (with_reducible refine (RC0.out _ S16.out).mono ?_); rintro en w17 ⟨rfl, hE⟩; have S17 := hide (S16.out.ext hE); clear hE)
        | (go_at_call 19; (with_reducible refine (NX2.out _ S17.out).mono ?_); rintro en w18 ⟨v18, rfl, hv18, hT, hU⟩; have S18 := hide (S17.out.upd hU hT); have rc := hide (RC.out w18 (v18 - 1) S18.out (HI2.out v18 hv18)); have b18 := hv18.1; have b18' := hv18.2.1 (by omega); clear hT hU)
        | (go_at_call 18; (with_reducible refine (rc.out).mono ?_); rintro en w19 ⟨rfl, hE⟩; have S19 := hide (S18.out.ext hE); clear hE)
        | (go_at_call 18; (with_reducible refine (RL1.out _ S19.out).mono ?_); rintro en w20 ⟨rfl, hE⟩; have S20 := hide (S19.out.ext hE); clear hE)
        | (go_at_call 18; (with_reducible refine (RL0.out _ S20.out).mono ?_); rintro en w21 ⟨rfl, hE⟩; have S21 := hide (S20.out.ext hE); clear hE))
      go_ret
      exact ⟨rfl, S21.out.e⟩
end Go.Proofs.Ytdboaogdanahkaa
