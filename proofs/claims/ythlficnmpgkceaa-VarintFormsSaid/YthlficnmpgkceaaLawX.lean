/- Layer 5: VarintForms. Conditions: the slices read as bytes and numbers. -/
import Derived.Test.YthlficnmpgkceaaRvC
import Derived.Test.YthlficnmpgkceaaRvB
import Derived.Test.YthlficnmpgkceaaVarG
import Derived.Test.YthlficnmpgkceaaSamA
import Derived.Test.YthlficnmpgkceaaTapeC
import Derived.Test.YthlficnmpgkceaaTapS
import Derived.Deep.RegionHeld3
namespace Go.Proofs.Ythlficnmpgkceaa
set_option linter.unusedVariables false
set_option linter.unusedSimpArgs false
open Go Go.RowKit
set_option maxRecDepth 100000 in
set_option maxHeartbeats 8000000 in
theorem l_forms (A : Option Addr) (n cap : Nat) (l : List Nat) (v : Nat) (sv : Int) (s : Bool) (a b c d : Nat) (z : Int) (y : Option Addr) (len cap2 : Nat) (W : World)
    (hb : BytesAt W A l) (hc : l.length = n) (hlen : n ≤ 140737488351232) (hv : v < 18446744073709551616) (hsv : I64 sv) (hz : IsW s a b c d z) (hL : IsList W y len cap2) :
    Calls Try.prog 3 #[.slice A n cap, .int .u64 (v : Int), .int .i64 sv, .agg #[.bool s, .int .u64 (a : Int), .int .u64 (b : Int), .int .u64 (c : Int), .int .u64 (d : Int)], .slice y len cap2] W (Ret (.bool true) W) := by
  have E0 := ext_alloc W (.cells #[.bool s, .int .u64 (a : Int), .int .u64 (b : Int), .int .u64 (c : Int), .int .u64 (d : Int)] 26)
  have P0 := Blk.new W 26 #[.bool s, .int .u64 (a : Int), .int .u64 (b : Int), .int .u64 (c : Int), .int .u64 (d : Int)]
  obtain ⟨W0, hW0⟩ : ∃ w, W.alloc (.cells #[.bool s, .int .u64 (a : Int), .int .u64 (b : Int), .int .u64 (c : Int), .int .u64 (d : Int)] 26) = w := ⟨_, rfl⟩
  rw [hW0] at E0 P0
  have KN : Hid (Calls Try.prog 14 #[.slice y len cap2] W0 (NewPost W0)) := t_new W0 y len cap2 (hL.ext E0)
  obtain ⟨gt, hgt⟩ : ∃ g, W0.heap.size = g := ⟨_, rfl⟩
  have KW : Hid (∀ w, TapeOk gt w gt → Calls Try.prog 15 #[.pointer (some ⟨gt, 0, none⟩)] w (NextPost gt gt U64 .u64 w)) := fun w T => t_word' gt gt w w T (Upd.refl _ _)
  have KX : Hid (∀ w, TapeOk gt w gt → Calls Try.prog 16 #[.pointer (some ⟨gt, 0, none⟩), .int .i64 64] w (NextPost gt gt (InN 64) .i64 w)) := fun w T => t_next' gt gt 64 w w ⟨by omega, by omega⟩ T (Upd.refl _ _)
  have HW0 := hide hW0
  have HE0 := hide E0
  have HP0 := hide P0
  have Hgt := hide hgt
  have HB := hide hb
  have HC := hide hc
  have HZ := hide hz
  have HS := hide hsv
  clear hW0 E0 P0 hgt hb hc hz hsv hL
  go_enter Try.func3, Try.ntmps3
  go_upto_region 1 with fail
  rw [HW0.out]
  go_upto_region 3 with (first
    | (go_at_call 14; (with_reducible refine (KN.out).mono ?_); rintro e w1 ⟨rfl, hT1, hE1⟩; rw [Hgt.out] at hT1 hE1; rw [Hgt.out]; have hT1 := hide hT1; have hE1 := hide hE1)
    | (go_at_call 15; (with_reducible refine (KW.out _ hT1.out).mono ?_); rintro e w2 ⟨wd, rfl, hwd, hT2, hU2⟩; have hT2 := hide hT2; have hU2 := hide hU2)
    | (go_at_call 16; (with_reducible refine (KX.out _ hT2.out).mono ?_); rintro e w3 ⟨nx, rfl, hnx, hT3, hU3⟩; have hU3 := hide hU3; have hT3 := hide hT3; have hnx := hide hnx; obtain ⟨nx, rfl⟩ := Int.eq_ofNat_of_zero_le hnx.out.1; obtain ⟨wd, rfl⟩ := Int.eq_ofNat_of_zero_le hwd.1))
  obtain ⟨x3, hx3, hx3l⟩ : ∃ x3 : Nat, (wd : Int) / 2 ^ min (IntKind.u64.wrap (nx : Int)).toNat 64 = (x3 : Int) ∧ x3 < 18446744073709551616 := by
    refine ⟨wd / 2 ^ min (IntKind.u64.wrap (nx : Int)).toNat 64, by simp, Nat.lt_of_le_of_lt (Nat.div_le_self _ _) (by have := hwd.2; omega)⟩
  obtain ⟨x2, hx2, hx2l⟩ : ∃ x2 : Nat, (v : Int) / 1099511627776 = (x2 : Int) ∧ x2 < 18446744073709551616 := ⟨v / 1099511627776, by simp, by omega⟩
  rw [hx3, hx2]
  have e1 : Ext W0 w3 := Upd.ext (hU2.out.trans hU3.out) (show Ext W0 w1 by have h := hE1.out; rw [← Hgt.out] at h; exact h) (by rw [Hgt.out]; exact Nat.le_refl _)
  have E4 := Ext.trans (Ext.trans HE0.out e1) (ext_alloc w3 (.cells #[.int .u64 (v : Int), .int .u64 (x2 : Int), .int .u64 (x3 : Int)] 23))
  have PL := Blk.new w3 23 #[.int .u64 (v : Int), .int .u64 (x2 : Int), .int .u64 (x3 : Int)]
  have P4 := (HP0.out.ext e1).alloc (.cells #[.int .u64 (v : Int), .int .u64 (x2 : Int), .int .u64 (x3 : Int)] 23)
  have T4 := hT3.out.ext (ext_alloc w3 (.cells #[.int .u64 (v : Int), .int .u64 (x2 : Int), .int .u64 (x3 : Int)] 23))
  obtain ⟨w4, hw4⟩ : ∃ w, w3.alloc (.cells #[.int .u64 (v : Int), .int .u64 (x2 : Int), .int .u64 (x3 : Int)] 23) = w := ⟨_, rfl⟩
  rw [hw4] at E4 PL P4 T4 ⊢
  obtain ⟨gl, hgl⟩ : ∃ g, w3.heap.size = g := ⟨_, rfl⟩
  rw [hgl] at PL ⊢
  obtain ⟨g0, hg0⟩ : ∃ g, W.heap.size = g := ⟨_, rfl⟩
  rw [hg0] at P4 ⊢
  have hgg : W.heap.size ≤ gt ∧ g0 < gt := by
    rw [← Hgt.out, ← hg0]
    have h := HP0.out.lt
    exact ⟨HE0.out.size, h⟩
  have E4 := hide E4
  have PL := hide PL
  have P4 := hide P4
  have T4 := hide T4
  clear hx3 hx2 e1 hw4 hgl hg0 hT1 hE1 hT2 hU2 hT3 hU3 hnx hwd KN KW KX HW0 HE0 HP0 Hgt
  go_upto_region 4 with fail
  go_loopw [13] (fun i wr => ∃ k : Nat, k ≤ 3 ∧ i = .int .i64 k ∧ Hid (Blk wr gl 23 #[.int .u64 (v : Int), .int .u64 (x2 : Int), .int .u64 (x3 : Int)]) ∧ Hid (Blk wr g0 26 #[.bool s, .int .u64 (a : Int), .int .u64 (b : Int), .int .u64 (c : Int), .int .u64 (d : Int)]) ∧ Hid (TapeOk gt wr gt) ∧ Hid (Ext W wr)) (fun i _ => 3 - (intOf i).toNat)
  case atStart => exact ⟨0, by omega, rfl, PL, P4, T4, E4⟩
  case round =>
    clear PL P4 T4 E4
    obtain ⟨k, hk, rfl, PL, P4, T4, E4⟩ := hrel
    by_cases hlt : k < 3
    · obtain ⟨x, hx, c0⟩ : ∃ x : Nat, x < 18446744073709551616 ∧ wr.cell? ⟨gl, k, none⟩ = some (.int .u64 (x : Int)) := by
        have h3 : k = 0 ∨ k = 1 ∨ k = 2 := by omega
        rcases h3 with rfl | rfl | rfl
        · exact ⟨v, hv, PL.out.cell 0⟩
        · exact ⟨x2, hx2l, PL.out.cell 1⟩
        · exact ⟨x3, hx3l, PL.out.cell 2⟩
      have K1 : Hid (∀ w, Ext W w → Calls Try.prog 18 #[.slice A n cap, .int .u64 (x : Int)] w (OwnRet (l ++ encB x) w)) := fun w h => p_vappend A n cap x l w (HB.out.ext h) HC.out (by omega) hx
      have K2 : Hid (∀ w, Ext W w → Calls Try.prog 19 #[.slice A n cap, .int .u64 (x : Int)] w (OwnRet (l ++ encB x) w)) := fun w h => v_append A n cap x l w (HB.out.ext h) HC.out (by omega) hx
      have K3 : Hid (∀ w, Calls Try.prog 20 #[.int .u64 (x : Int)] w (RetSame (.int .i64 ((encB x).length : Int)) w)) := fun w => p_size x w hx
      have K4 : Hid (∀ w, Calls Try.prog 21 #[.int .u64 (x : Int)] w (Ret (.int .i64 ((encB x).length : Int)) w)) := fun w => v_size x w hx
      have K5 : Hid (∀ w, Calls Try.prog 22 #[.int .u64 (x : Int)] w (RetSame (.int .i64 (zag x)) w)) := fun w => p_unzigzag x w hx
      have K6 : Hid (∀ w, Calls Try.prog 23 #[.int .u64 (x : Int)] w (RetSame (.int .i64 (zag x)) w)) := fun w => v_unzigzag x w hx
      obtain ⟨m, hm⟩ : ∃ m, l ++ encB x = m := ⟨_, rfl⟩
      obtain ⟨sz, hsz⟩ : ∃ m, (encB x).length = m := ⟨_, rfl⟩
      obtain ⟨uz, huz⟩ : ∃ m, zag x = m := ⟨_, rfl⟩
      rw [hm] at K1 K2
      rw [hsz] at K3 K4
      rw [huz] at K5 K6
      have CR := hide c0
      have LT := hide PL.out.lt
      have EE := hide (Ext.refl wr)
      have hk3 : (k : Int) < 3 := by omega
      have hk0 : (0 : Int) ≤ (k : Int) := by omega
      clear hm hsz huz hx hv hx2l hx3l
      go_upto_region 6 with fail
      go_region_held3 (fun w' => w'.cell? ⟨gl, k, none⟩ = some (.int .u64 (x : Int))) (first | (with_reducible exact c0) | go_keep) (first
        | (go_at_call 18; (with_reducible refine (K1.out _ (by first | exact E4.out.trans EE.out | exact (E4.out.trans EE.out).trans (ext_drew _))).mono ?_); rintro e z1 ⟨va, rfl, hO, hE⟩; have EE : Hid (Ext wr z1) := (by first | exact hide (EE.out.trans hE) | exact hide ((EE.out.trans (ext_drew _)).trans hE)); have c0 := (EE.out.cell (p := ⟨gl, k, none⟩) LT.out).trans CR.out; obtain ⟨A1, d1, rfl, -, -, hb1⟩ := hO.at_; have hb1 := hide hb1; clear hO hE)
        | (go_at_call 19; (with_reducible refine (K2.out _ (by first | exact E4.out.trans EE.out | exact (E4.out.trans EE.out).trans (ext_drew _))).mono ?_); rintro e z2 ⟨vb, rfl, hO, hE⟩; have EE : Hid (Ext wr z2) := (by first | exact hide (EE.out.trans hE) | exact hide ((EE.out.trans (ext_drew _)).trans hE)); have c0 := (EE.out.cell (p := ⟨gl, k, none⟩) LT.out).trans CR.out; obtain ⟨A2, d2, rfl, -, -, hb2⟩ := hO.at_; have hb2 := hide hb2; have hb1 := hide (hb1.out.ext hE); clear hO hE)
        | (go_at_call 17; (with_reducible refine (r_same A1 A2 _ _ d1 d2 m m _ hb1.out hb2.out rfl rfl true (decide_eq_true rfl)).mono ?_); rintro e z3 ⟨rfl, hE⟩; have EE : Hid (Ext wr z3) := (by first | exact hide (EE.out.trans hE) | exact hide ((EE.out.trans (ext_drew _)).trans hE)); have c0 := (EE.out.cell (p := ⟨gl, k, none⟩) LT.out).trans CR.out; clear hE)
        | (go_at_call 20; (with_reducible refine (K3.out _).mono ?_); rintro e z4 ⟨rfl, rfl⟩)
        | (go_at_call 21; (with_reducible refine (K4.out _).mono ?_); rintro e z5 ⟨rfl, hE⟩; have EE : Hid (Ext wr z5) := (by first | exact hide (EE.out.trans hE) | exact hide ((EE.out.trans (ext_drew _)).trans hE)); have c0 := (EE.out.cell (p := ⟨gl, k, none⟩) LT.out).trans CR.out; clear hE)
        | (go_at_call 22; (with_reducible refine (K5.out _).mono ?_); rintro e z6 ⟨rfl, rfl⟩)
        | (go_at_call 23; (with_reducible refine (K6.out _).mono ?_); rintro e z7 ⟨rfl, rfl⟩))
      clear c0 hk3 hk0 K1 K2 K3 K4 K5 K6 hb1 hb2 CR LT
      go_wp2_with fail
      go_roundw
      case rel => exact ⟨k + 1, by omega, by go_num, hide (PL.out.ext EE.out), hide (P4.out.ext EE.out), hide (T4.out.ext EE.out), hide (E4.out.trans EE.out)⟩
      case measure => simp [intOf]; omega
    · obtain rfl : k = 3 := by omega
      have KW : Hid (∀ w, TapeOk gt w gt → Calls Try.prog 24 #[.pointer (some ⟨gt, 0, none⟩)] w (TapeWide gt gt w)) := fun w T => t_wide gt gt w w T (Upd.refl _ _)
      have HG := hide hgg
      clear hlt hk PL
      go_upto_region 9 with (go_at_call 24; (with_reducible refine (KW.out _ T4.out).mono ?_); rintro e w5 ⟨s', a', b', c', d', z', rfl, hz', -, hU5⟩; have hz' := hide hz'; have hU5 := hide hU5)
      have u5 : Ext W w5 := Upd.ext hU5.out E4.out HG.out.1
      have P5 : Blk w5 g0 26 #[.bool s, .int .u64 (a : Int), .int .u64 (b : Int), .int .u64 (c : Int), .int .u64 (d : Int)] := (hU5.out.2.2.2.2 g0 P4.out.lt (by have := HG.out.2; omega)).trans P4.out
      have E6 := hide (Ext.trans u5 (ext_alloc w5 (.cells #[.bool s', .int .u64 (a' : Int), .int .u64 (b' : Int), .int .u64 (c' : Int), .int .u64 (d' : Int)] 26)))
      have P6 := hide (P5.alloc (.cells #[.bool s', .int .u64 (a' : Int), .int .u64 (b' : Int), .int .u64 (c' : Int), .int .u64 (d' : Int)] 26))
      have Q6 := hide (Blk.new w5 26 #[.bool s', .int .u64 (a' : Int), .int .u64 (b' : Int), .int .u64 (c' : Int), .int .u64 (d' : Int)])
      obtain ⟨w6, hw6⟩ : ∃ w, w5.alloc (.cells #[.bool s', .int .u64 (a' : Int), .int .u64 (b' : Int), .int .u64 (c' : Int), .int .u64 (d' : Int)] 26) = w := ⟨_, rfl⟩
      rw [hw6] at E6 P6 Q6 ⊢
      obtain ⟨gw, hgw⟩ : ∃ g, w5.heap.size = g := ⟨_, rfl⟩
      rw [hgw] at Q6 ⊢
      clear hw6 hgw P5 u5 hU5 T4 P4 E4 KW HG
      have K0 : Hid (∀ w, Calls Try.prog 25 #[] w (Ret (.bool true) w)) := fun w => l_known5 w
      have K1 : Hid (∀ w, Calls Try.prog 26 #[.int .i64 sv] w (RetSame (.int .u64 (zig sv : Int)) w)) := fun w => p_zigzag sv w HS.out.1 HS.out.2
      have K2 : Hid (∀ w, Calls Try.prog 27 #[.int .i64 sv] w (RetSame (.int .u64 (zig sv : Int)) w)) := fun w => v_zigzag sv w HS.out.1 HS.out.2
      have K3 : Hid (∀ w, Ext W w → Calls Try.prog 28 #[.slice A n cap, .int .i64 sv] w (OwnRet (l ++ encB (zig sv)) w)) := fun w h => p_asigned A n cap sv l w (HB.out.ext h) HC.out (by omega) HS.out
      have K4 : Hid (∀ w, Ext W w → Calls Try.prog 29 #[.slice A n cap, .int .i64 sv] w (OwnRet (l ++ encB (zig sv)) w)) := fun w h => v_asigned A n cap sv l w (HB.out.ext h) HC.out (by omega) HS.out
      have K5 : Hid (∀ w, Ext W w → Calls Try.prog 30 #[.slice A n cap, .agg #[.bool s, .int .u64 (a : Int), .int .u64 (b : Int), .int .u64 (c : Int), .int .u64 (d : Int)]] w (OwnRet (l ++ encB (cod z)) w)) := fun w h => p_wappend A n cap l s a b c d z w HZ.out (HB.out.ext h) HC.out (by omega)
      have K6 : Hid (∀ w, Ext W w → Calls Try.prog 31 #[.slice A n cap, .agg #[.bool s, .int .u64 (a : Int), .int .u64 (b : Int), .int .u64 (c : Int), .int .u64 (d : Int)]] w (OwnRet (l ++ encB (cod z)) w)) := fun w h => v_awide A n cap l s a b c d z w HZ.out (HB.out.ext h) HC.out (by omega)
      have K7 : Hid (∀ w, Ext W w → Calls Try.prog 30 #[.slice A n cap, .agg #[.bool s', .int .u64 (a' : Int), .int .u64 (b' : Int), .int .u64 (c' : Int), .int .u64 (d' : Int)]] w (OwnRet (l ++ encB (cod z')) w)) := fun w h => p_wappend A n cap l s' a' b' c' d' z' w hz'.out.1 (HB.out.ext h) HC.out (by omega)
      have K8 : Hid (∀ w, Ext W w → Calls Try.prog 31 #[.slice A n cap, .agg #[.bool s', .int .u64 (a' : Int), .int .u64 (b' : Int), .int .u64 (c' : Int), .int .u64 (d' : Int)]] w (OwnRet (l ++ encB (cod z')) w)) := fun w h => v_awide A n cap l s' a' b' c' d' z' w hz'.out.1 (HB.out.ext h) HC.out (by omega)
      obtain ⟨m1, hm1⟩ : ∃ m, l ++ encB (zig sv) = m := ⟨_, rfl⟩
      obtain ⟨zz, hzz⟩ : ∃ m, zig sv = m := ⟨_, rfl⟩
      obtain ⟨m2, hm2⟩ : ∃ m, l ++ encB (cod z) = m := ⟨_, rfl⟩
      obtain ⟨m3, hm3⟩ : ∃ m, l ++ encB (cod z') = m := ⟨_, rfl⟩
      rw [hm1] at K3 K4
      rw [hzz] at K1 K2
      rw [hm2] at K5 K6
      rw [hm3] at K7 K8
      clear hm1 hzz hm2 hm3 HB HC HZ HS hz'
      have EE := hide (Ext.refl w6)
      obtain ⟨p0, p1, p2, p3, p4, _⟩ := five_cells (show Box w6 g0 s a b c d from P6.out)
      obtain ⟨q0, q1, q2, q3, q4, _⟩ := five_cells (show Box w6 gw s' a' b' c' d' from Q6.out)
      go_region_held3 (fun w' => w'.cell? ⟨g0, 0, none⟩ = some (.bool s) ∧ w'.cell? ⟨g0, 1, none⟩ = some (.int .u64 (a : Int)) ∧ w'.cell? ⟨g0, 2, none⟩ = some (.int .u64 (b : Int)) ∧ w'.cell? ⟨g0, 3, none⟩ = some (.int .u64 (c : Int)) ∧ w'.cell? ⟨g0, 4, none⟩ = some (.int .u64 (d : Int)) ∧ w'.cell? ⟨gw, 0, none⟩ = some (.bool s') ∧ w'.cell? ⟨gw, 1, none⟩ = some (.int .u64 (a' : Int)) ∧ w'.cell? ⟨gw, 2, none⟩ = some (.int .u64 (b' : Int)) ∧ w'.cell? ⟨gw, 3, none⟩ = some (.int .u64 (c' : Int)) ∧ w'.cell? ⟨gw, 4, none⟩ = some (.int .u64 (d' : Int))) (first | (with_reducible exact ⟨p0, p1, p2, p3, p4, q0, q1, q2, q3, q4⟩) | go_keep) (first
        | (go_at_call 25; (with_reducible refine (K0.out _).mono ?_); rintro e z0 ⟨rfl, hE⟩; have EE : Hid (Ext w6 z0) := (by first | exact hide (EE.out.trans hE) | exact hide ((EE.out.trans (ext_drew _)).trans hE)); obtain ⟨p0, p1, p2, p3, p4, _⟩ := five_cells (show Box z0 g0 s a b c d from P6.out.ext EE.out); obtain ⟨q0, q1, q2, q3, q4, _⟩ := five_cells (show Box z0 gw s' a' b' c' d' from Q6.out.ext EE.out); clear hE)
        | (go_at_call 26; (with_reducible refine (K1.out _).mono ?_); rintro e z1 ⟨rfl, rfl⟩)
        | (go_at_call 27; (with_reducible refine (K2.out _).mono ?_); rintro e z2 ⟨rfl, rfl⟩)
        | (go_at_call 28; (with_reducible refine (K3.out _ (by first | exact E6.out.trans EE.out | exact (E6.out.trans EE.out).trans (ext_drew _))).mono ?_); rintro e z3 ⟨vv, rfl, hO, hE⟩; have EE : Hid (Ext w6 z3) := (by first | exact hide (EE.out.trans hE) | exact hide ((EE.out.trans (ext_drew _)).trans hE)); obtain ⟨p0, p1, p2, p3, p4, _⟩ := five_cells (show Box z3 g0 s a b c d from P6.out.ext EE.out); obtain ⟨q0, q1, q2, q3, q4, _⟩ := five_cells (show Box z3 gw s' a' b' c' d' from Q6.out.ext EE.out); obtain ⟨A1, d1, rfl, -, -, h1⟩ := hO.at_; have h1 := hide h1; clear hO hE)
        | (go_at_call 29; (with_reducible refine (K4.out _ (by first | exact E6.out.trans EE.out | exact (E6.out.trans EE.out).trans (ext_drew _))).mono ?_); rintro e z4 ⟨vv, rfl, hO, hE⟩; have EE : Hid (Ext w6 z4) := (by first | exact hide (EE.out.trans hE) | exact hide ((EE.out.trans (ext_drew _)).trans hE)); obtain ⟨p0, p1, p2, p3, p4, _⟩ := five_cells (show Box z4 g0 s a b c d from P6.out.ext EE.out); obtain ⟨q0, q1, q2, q3, q4, _⟩ := five_cells (show Box z4 gw s' a' b' c' d' from Q6.out.ext EE.out); obtain ⟨A2, d2, rfl, -, -, h2⟩ := hO.at_; have h2 := hide h2; have h1 := hide (h1.out.ext hE); clear hO hE)
        | (go_at_call 17; (with_reducible refine (r_same A1 A2 _ _ d1 d2 m1 m1 _ h1.out h2.out rfl rfl true (decide_eq_true rfl)).mono ?_); rintro e z5 ⟨rfl, hE⟩; have EE : Hid (Ext w6 z5) := (by first | exact hide (EE.out.trans hE) | exact hide ((EE.out.trans (ext_drew _)).trans hE)); obtain ⟨p0, p1, p2, p3, p4, _⟩ := five_cells (show Box z5 g0 s a b c d from P6.out.ext EE.out); obtain ⟨q0, q1, q2, q3, q4, _⟩ := five_cells (show Box z5 gw s' a' b' c' d' from Q6.out.ext EE.out); clear hE)
        | (go_at_call 30; (with_reducible refine (K5.out _ (by first | exact E6.out.trans EE.out | exact (E6.out.trans EE.out).trans (ext_drew _))).mono ?_); rintro e z6 ⟨vv, rfl, hO, hE⟩; have EE : Hid (Ext w6 z6) := (by first | exact hide (EE.out.trans hE) | exact hide ((EE.out.trans (ext_drew _)).trans hE)); obtain ⟨p0, p1, p2, p3, p4, _⟩ := five_cells (show Box z6 g0 s a b c d from P6.out.ext EE.out); obtain ⟨q0, q1, q2, q3, q4, _⟩ := five_cells (show Box z6 gw s' a' b' c' d' from Q6.out.ext EE.out); obtain ⟨A3, d3, rfl, -, -, h3⟩ := hO.at_; have h3 := hide h3; clear hO hE)
        | (go_at_call 31; (with_reducible refine (K6.out _ (by first | exact E6.out.trans EE.out | exact (E6.out.trans EE.out).trans (ext_drew _))).mono ?_); rintro e z7 ⟨vv, rfl, hO, hE⟩; have EE : Hid (Ext w6 z7) := (by first | exact hide (EE.out.trans hE) | exact hide ((EE.out.trans (ext_drew _)).trans hE)); obtain ⟨p0, p1, p2, p3, p4, _⟩ := five_cells (show Box z7 g0 s a b c d from P6.out.ext EE.out); obtain ⟨q0, q1, q2, q3, q4, _⟩ := five_cells (show Box z7 gw s' a' b' c' d' from Q6.out.ext EE.out); obtain ⟨A4, d4, rfl, -, -, h4⟩ := hO.at_; have h4 := hide h4; have h3 := hide (h3.out.ext hE); clear hO hE)
        | (go_at_call 17; (with_reducible refine (r_same A3 A4 _ _ d3 d4 m2 m2 _ h3.out h4.out rfl rfl true (decide_eq_true rfl)).mono ?_); rintro e z8 ⟨rfl, hE⟩; have EE : Hid (Ext w6 z8) := (by first | exact hide (EE.out.trans hE) | exact hide ((EE.out.trans (ext_drew _)).trans hE)); obtain ⟨p0, p1, p2, p3, p4, _⟩ := five_cells (show Box z8 g0 s a b c d from P6.out.ext EE.out); obtain ⟨q0, q1, q2, q3, q4, _⟩ := five_cells (show Box z8 gw s' a' b' c' d' from Q6.out.ext EE.out); clear hE)
        | (go_at_call 30; (with_reducible refine (K7.out _ (by first | exact E6.out.trans EE.out | exact (E6.out.trans EE.out).trans (ext_drew _))).mono ?_); rintro e z9 ⟨vv, rfl, hO, hE⟩; have EE : Hid (Ext w6 z9) := (by first | exact hide (EE.out.trans hE) | exact hide ((EE.out.trans (ext_drew _)).trans hE)); obtain ⟨p0, p1, p2, p3, p4, _⟩ := five_cells (show Box z9 g0 s a b c d from P6.out.ext EE.out); obtain ⟨q0, q1, q2, q3, q4, _⟩ := five_cells (show Box z9 gw s' a' b' c' d' from Q6.out.ext EE.out); obtain ⟨A5, d5, rfl, -, -, h5⟩ := hO.at_; have h5 := hide h5; clear hO hE)
        | (go_at_call 31; (with_reducible refine (K8.out _ (by first | exact E6.out.trans EE.out | exact (E6.out.trans EE.out).trans (ext_drew _))).mono ?_); rintro e y1 ⟨vv, rfl, hO, hE⟩; have EE : Hid (Ext w6 y1) := (by first | exact hide (EE.out.trans hE) | exact hide ((EE.out.trans (ext_drew _)).trans hE)); obtain ⟨p0, p1, p2, p3, p4, _⟩ := five_cells (show Box y1 g0 s a b c d from P6.out.ext EE.out); obtain ⟨q0, q1, q2, q3, q4, _⟩ := five_cells (show Box y1 gw s' a' b' c' d' from Q6.out.ext EE.out); obtain ⟨A6, d6, rfl, -, -, h6⟩ := hO.at_; have h6 := hide h6; have h5 := hide (h5.out.ext hE); clear hO hE)
        | (go_at_call 17; (with_reducible refine (r_same A5 A6 _ _ d5 d6 m3 m3 _ h5.out h6.out rfl rfl true (decide_eq_true rfl)).mono ?_); rintro e y2 ⟨rfl, hE⟩; have EE : Hid (Ext w6 y2) := (by first | exact hide (EE.out.trans hE) | exact hide ((EE.out.trans (ext_drew _)).trans hE)); obtain ⟨p0, p1, p2, p3, p4, _⟩ := five_cells (show Box y2 g0 s a b c d from P6.out.ext EE.out); obtain ⟨q0, q1, q2, q3, q4, _⟩ := five_cells (show Box y2 gw s' a' b' c' d' from Q6.out.ext EE.out); clear hE))
      all_goals go_wp2_with fail
      all_goals go_ret
      all_goals exact ⟨rfl, E6.out.trans EE.out⟩
end Go.Proofs.Ythlficnmpgkceaa
