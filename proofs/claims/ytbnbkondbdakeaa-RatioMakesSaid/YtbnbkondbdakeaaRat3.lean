/- Floor of the program's package ratio. Conditions: the cells stand for numbers. -/
import Derived.Test.YtbnbkondbdakeaaRatG
import Derived.Test.YtbnbkondbdakeaaQuoA
namespace Go.Proofs.Ytbnbkondbdakeaa
set_option linter.unusedVariables false
set_option linter.unusedSimpArgs false
open Go Go.RowKit
theorem Box.far10 {w : World} {k : Nat} {s : Bool} {a b c d : Nat} {b' : Nat} (x : Box w k s a b c d) (hn : k ≠ b') (u0 u1 u2 u3 u4 u5 u6 u7 u8 u9 : Value) : Box ((((((((((w.setCell ⟨b', 0, none⟩ u0).setCell ⟨b', 1, none⟩ u1).setCell ⟨b', 2, none⟩ u2).setCell ⟨b', 3, none⟩ u3).setCell ⟨b', 4, none⟩ u4).setCell ⟨b', 5, none⟩ u5).setCell ⟨b', 6, none⟩ u6).setCell ⟨b', 7, none⟩ u7).setCell ⟨b', 8, none⟩ u8).setCell ⟨b', 9, none⟩ u9) k s a b c d := by
  unfold Box at *
  rw [heap_setCell_other _ _ _ _ (by simpa using hn), heap_setCell_other _ _ _ _ (by simpa using hn), heap_setCell_other _ _ _ _ (by simpa using hn), heap_setCell_other _ _ _ _ (by simpa using hn), heap_setCell_other _ _ _ _ (by simpa using hn), heap_setCell_other _ _ _ _ (by simpa using hn), heap_setCell_other _ _ _ _ (by simpa using hn), heap_setCell_other _ _ _ _ (by simpa using hn), heap_setCell_other _ _ _ _ (by simpa using hn), heap_setCell_other _ _ _ _ (by simpa using hn)]
  exact x
set_option maxRecDepth 100000 in
set_option maxHeartbeats 8000000 in
theorem r_floor (s : Bool) (a b c d : Nat) (t : Bool) (e f g h : Nat) (x y : Int) (w : World) (hx : IsW s a b c d x) (hy : IsW t e f g h y) (v : Bool) (hv : decide (RatOk s x t y) = v) :
    Calls Try.prog 70 #[.agg #[.bool s, .int .u64 (a : Int), .int .u64 (b : Int), .int .u64 (c : Int), .int .u64 (d : Int), .bool t, .int .u64 (e : Int), .int .u64 (f : Int), .int .u64 (g : Int), .int .u64 (h : Int)]] w (WideOnly (cN v x / cD v y) w) := by
  have H2 := two_blocks w (.cells #[.bool s, .int .u64 (a : Int), .int .u64 (b : Int), .int .u64 (c : Int), .int .u64 (d : Int), .bool t, .int .u64 (e : Int), .int .u64 (f : Int), .int .u64 (g : Int), .int .u64 (h : Int)] 35) (.cells #[.bool false, .int .u64 0, .int .u64 0, .int .u64 0, .int .u64 0] 25)
  have EE := (ext_alloc w (.cells #[.bool s, .int .u64 (a : Int), .int .u64 (b : Int), .int .u64 (c : Int), .int .u64 (d : Int), .bool t, .int .u64 (e : Int), .int .u64 (f : Int), .int .u64 (g : Int), .int .u64 (h : Int)] 35)).trans (ext_alloc _ (.cells #[.bool false, .int .u64 0, .int .u64 0, .int .u64 0, .int .u64 0] 25))
  obtain ⟨W, hW⟩ : ∃ W, W = (w.alloc (.cells #[.bool s, .int .u64 (a : Int), .int .u64 (b : Int), .int .u64 (c : Int), .int .u64 (d : Int), .bool t, .int .u64 (e : Int), .int .u64 (f : Int), .int .u64 (g : Int), .int .u64 (h : Int)] 35)).alloc (.cells #[.bool false, .int .u64 0, .int .u64 0, .int .u64 0, .int .u64 0] 25) := ⟨_, rfl⟩
  rw [← hW] at H2 EE
  have P0 : Box10 W w.heap.size s a b c d t e f g h := H2.1
  have B2 : Box W (w.heap.size + 1) false 0 0 0 0 := H2.2
  have HW := hide hW
  clear hW H2
  have k1 : Hid (∀ w', Calls Try.prog 116 #[.agg #[.bool s, .int .u64 (a : Int), .int .u64 (b : Int), .int .u64 (c : Int), .int .u64 (d : Int), .bool t, .int .u64 (e : Int), .int .u64 (f : Int), .int .u64 (g : Int), .int .u64 (h : Int)]] w' (RatRet (cN v x) (cD v y) w')) := fun w' => r_counted _ _ _ _ _ _ _ _ _ _ x y w' hx hy v hv
  obtain ⟨bn, bd, pd, _⟩ := cBound hv
  obtain ⟨n, hn⟩ : ∃ n, cN v x = n := ⟨_, rfl⟩
  obtain ⟨m, hm⟩ : ∃ n, cD v y = n := ⟨_, rfl⟩
  rw [hn, hm] at k1 ⊢
  rw [hm] at pd
  have hm0 : Hid (m ≠ 0) := by unfold Hid; omega
  clear hn hm hv hx hy bn bd pd
  obtain ⟨p0, p1, p2, p3, p4, p5, p6, p7, p8, p9, pf0, pf1, pf2, pf3, pf4, pf5, pf6, pf7, pf8, pf9⟩ := ten_cells P0
  go_enter Try.func70, Try.ntmps70
  go_upto_region 1 with fail
  rw [← HW.out]
  clear HW
  go_upto_region 2 with (go_at_call 116; (with_reducible refine (k1.out _).mono ?_); rintro e' w2 ⟨s1, a1, b1, c1, d1, t1, e1, f1, g1, h1, rfl, C1, D1, hE⟩; have K1 := hide C1; have L1 := hide D1; have P0 := P0.ext hE; have B2 := B2.ext hE; have EE := EE.trans hE; obtain ⟨p0, p1, p2, p3, p4, p5, p6, p7, p8, p9, pf0, pf1, pf2, pf3, pf4, pf5, pf6, pf7, pf8, pf9⟩ := ten_cells P0; clear hE C1 D1)
  have Q0 := P0.put (s' := s1) (a' := a1) (b' := b1) (c' := c1) (d' := d1) (t' := t1) (e' := e1) (f' := f1) (g' := g1) (h' := h1)
  have Q2 := B2.far10 (b' := w.heap.size) (by omega) (.bool s1) (.int .u64 (a1 : Int)) (.int .u64 (b1 : Int)) (.int .u64 (c1 : Int)) (.int .u64 (d1 : Int)) (.bool t1) (.int .u64 (e1 : Int)) (.int .u64 (f1 : Int)) (.int .u64 (g1 : Int)) (.int .u64 (h1 : Int))
  have QE := ext_ten EE (b := w.heap.size) (Nat.le_refl _) (.bool s1) (.int .u64 (a1 : Int)) (.int .u64 (b1 : Int)) (.int .u64 (c1 : Int)) (.int .u64 (d1 : Int)) (.bool t1) (.int .u64 (e1 : Int)) (.int .u64 (f1 : Int)) (.int .u64 (g1 : Int)) (.int .u64 (h1 : Int))
  generalize (((((((((w2.setCell ⟨w.heap.size, 0, none⟩ (.bool s1)).setCell ⟨w.heap.size, 1, none⟩ (.int .u64 (a1 : Int))).setCell ⟨w.heap.size, 2, none⟩ (.int .u64 (b1 : Int))).setCell ⟨w.heap.size, 3, none⟩ (.int .u64 (c1 : Int))).setCell ⟨w.heap.size, 4, none⟩ (.int .u64 (d1 : Int))).setCell ⟨w.heap.size, 5, none⟩ (.bool t1)).setCell ⟨w.heap.size, 6, none⟩ (.int .u64 (e1 : Int))).setCell ⟨w.heap.size, 7, none⟩ (.int .u64 (f1 : Int))).setCell ⟨w.heap.size, 8, none⟩ (.int .u64 (g1 : Int))).setCell ⟨w.heap.size, 9, none⟩ (.int .u64 (h1 : Int)) = W3 at *
  clear P0 B2 EE
  obtain ⟨q0, q1, q2, q3, q4, q5, q6, q7, q8, q9, qf0, qf1, qf2, qf3, qf4, qf5, qf6, qf7, qf8, qf9⟩ := ten_cells Q0
  have l2 := Q2.lt
  go_upto_region 3 with (go_at_call 65; refine (p_divMod s1 t1 a1 b1 c1 d1 e1 f1 g1 h1 n m _ K1.out.1 L1.out.1).mono ?_; rintro e' w4 ⟨s3, a3, b3, c3, d3, s4, a4, b4, c4, d4, o3, rfl, ho, C3, C4, hE⟩; have Ho := hide ho; rw [if_neg hm0.out] at C3; have K3 := hide C3; have Q2 := Q2.ext hE; have QE := QE.trans hE; clear hE ho C3 C4)
  have H4 := two_blocks w4 (.cells #[.bool s3, .int .u64 (a3 : Int), .int .u64 (b3 : Int), .int .u64 (c3 : Int), .int .u64 (d3 : Int)] 25) (.cells #[.bool s4, .int .u64 (a4 : Int), .int .u64 (b4 : Int), .int .u64 (c4 : Int), .int .u64 (d4 : Int)] 25)
  have hE := (ext_alloc w4 (.cells #[.bool s3, .int .u64 (a3 : Int), .int .u64 (b3 : Int), .int .u64 (c3 : Int), .int .u64 (d3 : Int)] 25)).trans (ext_alloc _ (.cells #[.bool s4, .int .u64 (a4 : Int), .int .u64 (b4 : Int), .int .u64 (c4 : Int), .int .u64 (d4 : Int)] 25))
  have Q2 := Q2.ext hE
  have QE := QE.trans hE
  obtain ⟨W5, hW5⟩ : ∃ W, W = (w4.alloc (.cells #[.bool s3, .int .u64 (a3 : Int), .int .u64 (b3 : Int), .int .u64 (c3 : Int), .int .u64 (d3 : Int)] 25)).alloc (.cells #[.bool s4, .int .u64 (a4 : Int), .int .u64 (b4 : Int), .int .u64 (c4 : Int), .int .u64 (d4 : Int)] 25) := ⟨_, rfl⟩
  rw [← hW5] at H4 Q2 QE ⊢
  have B3 : Box W5 w4.heap.size s3 a3 b3 c3 d3 := H4.1
  generalize w4.heap.size = g4 at *
  clear hE hW5 H4
  obtain ⟨c0, c1', c2', c3', c4', _⟩ := five_cells B3
  obtain ⟨i0, i1, i2, i3, i4, j0, j1, j2, j3, j4⟩ := five_cells Q2
  go_wp2_with fail
  all_goals exact bodyPost_ret (v := .agg #[.bool s3, .int .u64 (a3 : Int), .int .u64 (b3 : Int), .int .u64 (c3 : Int), .int .u64 (d3 : Int)]) (by simp [results, Try.results70, go_sem, i0, i1, i2, i3, i4]) rfl ⟨s3, a3, b3, c3, d3, rfl, K3.out, ext_five QE (by omega) _ _ _ _ _⟩
end Go.Proofs.Ytbnbkondbdakeaa
/- Ceil of the program's package ratio. Conditions: the cells stand for numbers. -/
namespace Go.Proofs.Ytbnbkondbdakeaa
set_option linter.unusedVariables false
set_option linter.unusedSimpArgs false
open Go Go.RowKit
end Go.Proofs.Ytbnbkondbdakeaa
/- At of the program's package ratio. Conditions: the cells stand for numbers; the factor is of 64 bits. -/
namespace Go.Proofs.Ytbnbkondbdakeaa
set_option linter.unusedVariables false
set_option linter.unusedSimpArgs false
open Go Go.RowKit
set_option maxRecDepth 100000 in
set_option maxHeartbeats 8000000 in
theorem r_at (s : Bool) (a b c d : Nat) (t : Bool) (e f g h : Nat) (x y : Int) (w : World) (hx : IsW s a b c d x) (hy : IsW t e f g h y) (k : Nat) (hk : k < 18446744073709551616) (v : Bool) (hv : decide (RatOk s x t y) = v) :
    Calls Try.prog 71 #[.agg #[.bool s, .int .u64 (a : Int), .int .u64 (b : Int), .int .u64 (c : Int), .int .u64 (d : Int), .bool t, .int .u64 (e : Int), .int .u64 (f : Int), .int .u64 (g : Int), .int .u64 (h : Int)], .int .u64 (k : Int)] w (WideOnly (((cN v x + cN v x) * k + cD v y) / (cD v y + cD v y)) w) := by
  have H2 := two_blocks w (.cells #[.bool s, .int .u64 (a : Int), .int .u64 (b : Int), .int .u64 (c : Int), .int .u64 (d : Int), .bool t, .int .u64 (e : Int), .int .u64 (f : Int), .int .u64 (g : Int), .int .u64 (h : Int)] 35) (.cells #[.bool false, .int .u64 0, .int .u64 0, .int .u64 0, .int .u64 0] 25)
  have EE := (ext_alloc w (.cells #[.bool s, .int .u64 (a : Int), .int .u64 (b : Int), .int .u64 (c : Int), .int .u64 (d : Int), .bool t, .int .u64 (e : Int), .int .u64 (f : Int), .int .u64 (g : Int), .int .u64 (h : Int)] 35)).trans (ext_alloc _ (.cells #[.bool false, .int .u64 0, .int .u64 0, .int .u64 0, .int .u64 0] 25))
  obtain ⟨W, hW⟩ : ∃ W, W = (w.alloc (.cells #[.bool s, .int .u64 (a : Int), .int .u64 (b : Int), .int .u64 (c : Int), .int .u64 (d : Int), .bool t, .int .u64 (e : Int), .int .u64 (f : Int), .int .u64 (g : Int), .int .u64 (h : Int)] 35)).alloc (.cells #[.bool false, .int .u64 0, .int .u64 0, .int .u64 0, .int .u64 0] 25) := ⟨_, rfl⟩
  rw [← hW] at H2 EE
  have P0 : Box10 W w.heap.size s a b c d t e f g h := H2.1
  have B2 : Box W (w.heap.size + 1) false 0 0 0 0 := H2.2
  have HW := hide hW
  clear hW H2
  have k1 : Hid (∀ w', Calls Try.prog 116 #[.agg #[.bool s, .int .u64 (a : Int), .int .u64 (b : Int), .int .u64 (c : Int), .int .u64 (d : Int), .bool t, .int .u64 (e : Int), .int .u64 (f : Int), .int .u64 (g : Int), .int .u64 (h : Int)]] w' (RatRet (cN v x) (cD v y) w')) := fun w' => r_counted _ _ _ _ _ _ _ _ _ _ x y w' hx hy v hv
  obtain ⟨bn, bd, pd, _⟩ := cBound hv
  obtain ⟨n, hn⟩ : ∃ n, cN v x = n := ⟨_, rfl⟩
  obtain ⟨m, hm⟩ : ∃ n, cD v y = n := ⟨_, rfl⟩
  rw [hn, hm] at k1 ⊢
  rw [hm] at pd
  have hm0 : Hid (m ≠ 0) := by unfold Hid; omega
  rw [hn] at bn
  rw [hm] at bd
  have hmm0 : Hid (m + m ≠ 0) := by unfold Hid; omega
  obtain ⟨z1, hz1⟩ : ∃ z, n + n = z := ⟨_, rfl⟩
  obtain ⟨z2, hz2⟩ : ∃ z, z1 * (k : Int) = z := ⟨_, rfl⟩
  obtain ⟨z3, hz3⟩ : ∃ z, z2 + m = z := ⟨_, rfl⟩
  obtain ⟨z4, hz4⟩ : ∃ z, m + m = z := ⟨_, rfl⟩
  have g1' : z1.natAbs < 340282366920938463463374607431768211456 := by omega
  have g2' : z2.natAbs < 6277101735386680763835789423207666416102355444464034512896 := by
    rw [← hz2, Int.natAbs_mul, Int.natAbs_natCast]
    exact Nat.lt_of_lt_of_le (Nat.mul_lt_mul'' g1' hk) (by decide)
  have g3' : z3.natAbs < 115792089237316195423570985008687907853269984665640564039457584007913129639936 := by omega
  have g4' : z4.natAbs < 115792089237316195423570985008687907853269984665640564039457584007913129639936 := by omega
  rw [hz4] at hmm0
  rw [hz1, hz2, hz3, hz4]
  have ka : Hid (∀ w' s a b c d, IsW s a b c d n → Calls Try.prog 117 #[.agg #[.bool s, .int .u64 (a : Int), .int .u64 (b : Int), .int .u64 (c : Int), .int .u64 (d : Int)], .agg #[.bool s, .int .u64 (a : Int), .int .u64 (b : Int), .int .u64 (c : Int), .int .u64 (d : Int)]] w' (WideYes' z1 w')) := fun w' s a b c d h => (p_wadd s s a b c d a b c d n n w' h h).mono (fun _ _ q => wide_ret (by rw [hz1] at q; exact q) (by omega))
  have kb : Hid (∀ w' s a b c d t e f g h, IsW s a b c d z1 → IsW t e f g h (k : Int) → Calls Try.prog 118 #[.agg #[.bool s, .int .u64 (a : Int), .int .u64 (b : Int), .int .u64 (c : Int), .int .u64 (d : Int)], .agg #[.bool t, .int .u64 (e : Int), .int .u64 (f : Int), .int .u64 (g : Int), .int .u64 (h : Int)]] w' (WideYes' z2 w')) := fun w' s a b c d t e f g h h1 h2 => (p_wmul s t a b c d e f g h z1 k w' h1 h2).mono (fun _ _ q => wide_ret (by rw [hz2] at q; exact q) (by omega))
  have kc : Hid (∀ w' s a b c d t e f g h, IsW s a b c d z2 → IsW t e f g h m → Calls Try.prog 117 #[.agg #[.bool s, .int .u64 (a : Int), .int .u64 (b : Int), .int .u64 (c : Int), .int .u64 (d : Int)], .agg #[.bool t, .int .u64 (e : Int), .int .u64 (f : Int), .int .u64 (g : Int), .int .u64 (h : Int)]] w' (WideYes' z3 w')) := fun w' s a b c d t e f g h h1 h2 => (p_wadd s t a b c d e f g h z2 m w' h1 h2).mono (fun _ _ q => wide_ret (by rw [hz3] at q; exact q) g3')
  have kd : Hid (∀ w' s a b c d, IsW s a b c d m → Calls Try.prog 117 #[.agg #[.bool s, .int .u64 (a : Int), .int .u64 (b : Int), .int .u64 (c : Int), .int .u64 (d : Int)], .agg #[.bool s, .int .u64 (a : Int), .int .u64 (b : Int), .int .u64 (c : Int), .int .u64 (d : Int)]] w' (WideYes' z4 w')) := fun w' s a b c d h => (p_wadd s s a b c d a b c d m m w' h h).mono (fun _ _ q => wide_ret (by rw [hz4] at q; exact q) g4')
  have ku : Hid (∀ w', Calls Try.prog 111 #[.int .u64 (k : Int)] w' (WideOnly (k : Int) w')) := fun w' => p_ofu k w' hk
  clear hn hm hv hx hy bn bd pd hz1 hz2 hz3 hz4 g1' g2' g3' g4' hk
  obtain ⟨p0, p1, p2, p3, p4, p5, p6, p7, p8, p9, pf0, pf1, pf2, pf3, pf4, pf5, pf6, pf7, pf8, pf9⟩ := ten_cells P0
  go_enter Try.func71, Try.ntmps71
  go_upto_region 1 with fail
  rw [← HW.out]
  clear HW
  go_upto_region 2 with (go_at_call 116; (with_reducible refine (k1.out _).mono ?_); rintro e' w2 ⟨s1, a1, b1, c1, d1, t1, e1, f1, g1, h1, rfl, C1, D1, hE⟩; have K1 := hide C1; have L1 := hide D1; have P0 := P0.ext hE; have B2 := B2.ext hE; have EE := EE.trans hE; obtain ⟨p0, p1, p2, p3, p4, p5, p6, p7, p8, p9, pf0, pf1, pf2, pf3, pf4, pf5, pf6, pf7, pf8, pf9⟩ := ten_cells P0; clear hE C1 D1)
  have Q0 := P0.put (s' := s1) (a' := a1) (b' := b1) (c' := c1) (d' := d1) (t' := t1) (e' := e1) (f' := f1) (g' := g1) (h' := h1)
  have Q2 := B2.far10 (b' := w.heap.size) (by omega) (.bool s1) (.int .u64 (a1 : Int)) (.int .u64 (b1 : Int)) (.int .u64 (c1 : Int)) (.int .u64 (d1 : Int)) (.bool t1) (.int .u64 (e1 : Int)) (.int .u64 (f1 : Int)) (.int .u64 (g1 : Int)) (.int .u64 (h1 : Int))
  have QE := ext_ten EE (b := w.heap.size) (Nat.le_refl _) (.bool s1) (.int .u64 (a1 : Int)) (.int .u64 (b1 : Int)) (.int .u64 (c1 : Int)) (.int .u64 (d1 : Int)) (.bool t1) (.int .u64 (e1 : Int)) (.int .u64 (f1 : Int)) (.int .u64 (g1 : Int)) (.int .u64 (h1 : Int))
  generalize (((((((((w2.setCell ⟨w.heap.size, 0, none⟩ (.bool s1)).setCell ⟨w.heap.size, 1, none⟩ (.int .u64 (a1 : Int))).setCell ⟨w.heap.size, 2, none⟩ (.int .u64 (b1 : Int))).setCell ⟨w.heap.size, 3, none⟩ (.int .u64 (c1 : Int))).setCell ⟨w.heap.size, 4, none⟩ (.int .u64 (d1 : Int))).setCell ⟨w.heap.size, 5, none⟩ (.bool t1)).setCell ⟨w.heap.size, 6, none⟩ (.int .u64 (e1 : Int))).setCell ⟨w.heap.size, 7, none⟩ (.int .u64 (f1 : Int))).setCell ⟨w.heap.size, 8, none⟩ (.int .u64 (g1 : Int))).setCell ⟨w.heap.size, 9, none⟩ (.int .u64 (h1 : Int)) = W3 at *
  clear P0 B2 EE
  have V1 := hide K1.out.1
  have Y1 := hide L1.out.1
  obtain ⟨q0, q1, q2, q3, q4, q5, q6, q7, q8, q9, qf0, qf1, qf2, qf3, qf4, qf5, qf6, qf7, qf8, qf9⟩ := ten_cells Q0
  have l2 := Q2.lt
  go_upto_region 3 with (go_at_call 117; (with_reducible refine (ka.out _ _ _ _ _ _ V1.out).mono ?_); rintro e' w5 ⟨s5, a5, b5, c5, d5, rfl, C5, hE⟩; have K5 := hide C5; have V5 := hide C5.1; have Q0 := Q0.ext hE; have Q2 := Q2.ext hE; have QE := QE.trans hE; clear hE C5)
  have B5 : Box (w5.alloc (.cells #[.bool s5, .int .u64 (a5 : Int), .int .u64 (b5 : Int), .int .u64 (c5 : Int), .int .u64 (d5 : Int)] 25)) w5.heap.size s5 a5 b5 c5 d5 := Box.new w5 _ _ _ _ _
  have hE := ext_alloc w5 (.cells #[.bool s5, .int .u64 (a5 : Int), .int .u64 (b5 : Int), .int .u64 (c5 : Int), .int .u64 (d5 : Int)] 25)
  have Q0 := Q0.ext hE; have Q2 := Q2.ext hE; have QE := QE.trans hE
  clear hE
  generalize w5.alloc (.cells #[.bool s5, .int .u64 (a5 : Int), .int .u64 (b5 : Int), .int .u64 (c5 : Int), .int .u64 (d5 : Int)] 25) = W5 at *
  generalize w5.heap.size = g5 at *
  obtain ⟨q0, q1, q2, q3, q4, q5, q6, q7, q8, q9, qf0, qf1, qf2, qf3, qf4, qf5, qf6, qf7, qf8, qf9⟩ := ten_cells Q0
  obtain ⟨m0, m1, m2, m3, m4, _⟩ := five_cells B5
  have l5 := B5.lt
  go_cut [7] (fun p wx => Quot W5 z2 p wx)
  case first =>
   have EB := Ext.refl W5
   go_region_held3 (fun w' => w'.cell? ⟨g5, 0, none⟩ = some (.bool s5) ∧ w'.cell? ⟨g5, 1, none⟩ = some (.int .u64 (a5 : Int)) ∧ w'.cell? ⟨g5, 2, none⟩ = some (.int .u64 (b5 : Int)) ∧ w'.cell? ⟨g5, 3, none⟩ = some (.int .u64 (c5 : Int)) ∧ w'.cell? ⟨g5, 4, none⟩ = some (.int .u64 (d5 : Int))) (first | (with_reducible exact ⟨m0, m1, m2, m3, m4⟩) | go_keep) (first
     | (go_at_call 111; (with_reducible refine (ku.out _).mono ?_); rintro e' w6 ⟨s6, a6, b6, c6, d6, rfl, C6, hE⟩; have K6 := hide C6; have V6 := hide C6.1; clear C6; have hF : Ext W5 w6 := (by first | (with_reducible exact hE) | (with_reducible exact (ext_drew _).trans hE)); clear hE; have hG := hF; have B5 := B5.ext hG; have EB := EB.trans hG; obtain ⟨m0, m1, m2, m3, m4, mf0, mf1, mf2, mf3, mf4⟩ := five_cells B5; have szw6 := hG.size; have loB5 := B5.lt; clear hF hG)
     | (go_at_call 111; (with_reducible refine (ku.out _).mono ?_); rintro e' w6 ⟨s6, a6, b6, c6, d6, rfl, C6, hE⟩; have K6 := hide C6; have V6 := hide C6.1; clear C6; have hF : Ext (W5.alloc (.cells #[.bool false, .int .u64 0, .int .u64 0, .int .u64 0, .int .u64 0] 25)) w6 := (by first | (with_reducible exact hE) | (with_reducible exact (ext_drew _).trans hE)); clear hE; have hG := (ext_alloc W5 (.cells #[.bool false, .int .u64 0, .int .u64 0, .int .u64 0, .int .u64 0] 25)).trans hF; have Nw60 : Box w6 (W5.heap.size) false 0 0 0 0 := (Box.new0 W5).ext hF; have B5 := B5.ext hG; have EB := EB.trans hG; obtain ⟨m0, m1, m2, m3, m4, mf0, mf1, mf2, mf3, mf4⟩ := five_cells B5; obtain ⟨x0c0, x0c1, x0c2, x0c3, x0c4, x0f0, x0f1, x0f2, x0f3, x0f4⟩ := five_cells Nw60; have szw6 := hG.size; have loB5 := B5.lt; have loNw60 := Nw60.lt; have ne0 : W5.heap.size ≠ g5 := (by omega); clear hF hG)
     | (go_at_call 118; (with_reducible refine (kb.out _ _ _ _ _ _ _ _ _ _ _ V5.out V6.out).mono ?_); rintro e' w4 ⟨s3, a3, b3, c3, d3, rfl, C3, hE⟩; have K3 := hide C3; clear C3; have hF : Ext w6 w4 := (by first | (with_reducible exact hE) | (with_reducible exact (ext_drew _).trans hE)); clear hE; have hG := hF; have B5 := B5.ext hG; have EB := EB.trans hG; have Nw60 := Nw60.ext hG; obtain ⟨m0, m1, m2, m3, m4, mf0, mf1, mf2, mf3, mf4⟩ := five_cells B5; obtain ⟨x0c0, x0c1, x0c2, x0c3, x0c4, x0f0, x0f1, x0f2, x0f3, x0f4⟩ := five_cells Nw60; have szw4 := hG.size; have loB5 := B5.lt; have loNw60 := Nw60.lt; have ne0 : W5.heap.size ≠ g5 := (by omega); clear hF hG)
     | (go_at_call 118; (with_reducible refine (kb.out _ _ _ _ _ _ _ _ _ _ _ V5.out V6.out).mono ?_); rintro e' w4 ⟨s3, a3, b3, c3, d3, rfl, C3, hE⟩; have K3 := hide C3; clear C3; have hF : Ext w6 w4 := (by first | (with_reducible exact hE) | (with_reducible exact (ext_drew _).trans hE)); clear hE; have hG := hF; have B5 := B5.ext hG; have EB := EB.trans hG; obtain ⟨m0, m1, m2, m3, m4, mf0, mf1, mf2, mf3, mf4⟩ := five_cells B5; have szw4 := hG.size; have loB5 := B5.lt; clear hF hG)
     | (go_at_call 118; (with_reducible refine (kb.out _ _ _ _ _ _ _ _ _ _ _ V5.out V6.out).mono ?_); rintro e' w4 ⟨s3, a3, b3, c3, d3, rfl, C3, hE⟩; have K3 := hide C3; clear C3; have hF : Ext (w6.alloc (.cells #[.bool false, .int .u64 0, .int .u64 0, .int .u64 0, .int .u64 0] 25)) w4 := (by first | (with_reducible exact hE) | (with_reducible exact (ext_drew _).trans hE)); clear hE; have hG := (ext_alloc w6 (.cells #[.bool false, .int .u64 0, .int .u64 0, .int .u64 0, .int .u64 0] 25)).trans hF; have Nw40 : Box w4 (w6.heap.size) false 0 0 0 0 := (Box.new0 w6).ext hF; have B5 := B5.ext hG; have EB := EB.trans hG; obtain ⟨m0, m1, m2, m3, m4, mf0, mf1, mf2, mf3, mf4⟩ := five_cells B5; obtain ⟨x0c0, x0c1, x0c2, x0c3, x0c4, x0f0, x0f1, x0f2, x0f3, x0f4⟩ := five_cells Nw40; have szw4 := hG.size; have loB5 := B5.lt; have loNw40 := Nw40.lt; have ne0 : w6.heap.size ≠ g5 := (by omega); clear hF hG))
   all_goals go_wp2_with fail
   all_goals go_meet
   all_goals first
     | (with_reducible exact one0 K3.out EB)
     | (with_reducible exact one1 K3.out EB Nw40 (by omega))
     | (with_reducible exact one1 K3.out EB Nw60 (by omega))
  case rest =>
   obtain ⟨g7, s7, a7, b7, c7, d7, rfl, C7, B7, hg7, hE⟩ := hcut
   have K7 := hide C7
   have V7 := hide C7.1
   have Q0 := Q0.ext hE; have Q2 := Q2.ext hE; have QE := QE.trans hE
   clear C7 hE hg7 B5 l5
   obtain ⟨q0, q1, q2, q3, q4, q5, q6, q7, q8, q9, qf0, qf1, qf2, qf3, qf4, qf5, qf6, qf7, qf8, qf9⟩ := ten_cells Q0
   obtain ⟨n0, n1, n2, n3, n4, _⟩ := five_cells B7
   go_upto_region 5 with (go_at_call 117; (with_reducible refine (kc.out _ _ _ _ _ _ _ _ _ _ _ V7.out Y1.out).mono ?_); rintro e' w9 ⟨s9, a9, b9, c9, d9, rfl, C9, hE⟩; have K9 := hide C9; have V9 := hide C9.1; have Q0 := Q0.ext hE; have Q2 := Q2.ext hE; have QE := QE.trans hE; clear hE C9)
   have B9 : Box (w9.alloc (.cells #[.bool s9, .int .u64 (a9 : Int), .int .u64 (b9 : Int), .int .u64 (c9 : Int), .int .u64 (d9 : Int)] 25)) w9.heap.size s9 a9 b9 c9 d9 := Box.new w9 _ _ _ _ _
   have hE := ext_alloc w9 (.cells #[.bool s9, .int .u64 (a9 : Int), .int .u64 (b9 : Int), .int .u64 (c9 : Int), .int .u64 (d9 : Int)] 25)
   have Q0 := Q0.ext hE; have Q2 := Q2.ext hE; have QE := QE.trans hE
   clear hE
   generalize w9.alloc (.cells #[.bool s9, .int .u64 (a9 : Int), .int .u64 (b9 : Int), .int .u64 (c9 : Int), .int .u64 (d9 : Int)] 25) = W9 at *
   generalize w9.heap.size = g9 at *
   obtain ⟨q0, q1, q2, q3, q4, q5, q6, q7, q8, q9, qf0, qf1, qf2, qf3, qf4, qf5, qf6, qf7, qf8, qf9⟩ := ten_cells Q0
   obtain ⟨u0, u1, u2, u3, u4, _⟩ := five_cells B9
   go_upto_region 6 with (go_at_call 117; (with_reducible refine (kd.out _ _ _ _ _ _ Y1.out).mono ?_); rintro e' w11 ⟨s11, a11, b11, c11, d11, rfl, C11, hE⟩; have K11 := hide C11; have V11 := hide C11.1; have Q0 := Q0.ext hE; have Q2 := Q2.ext hE; have B9 := B9.ext hE; have QE := QE.trans hE; clear hE C11)
   have B11 : Box (w11.alloc (.cells #[.bool s11, .int .u64 (a11 : Int), .int .u64 (b11 : Int), .int .u64 (c11 : Int), .int .u64 (d11 : Int)] 25)) w11.heap.size s11 a11 b11 c11 d11 := Box.new w11 _ _ _ _ _
   have hE := ext_alloc w11 (.cells #[.bool s11, .int .u64 (a11 : Int), .int .u64 (b11 : Int), .int .u64 (c11 : Int), .int .u64 (d11 : Int)] 25)
   have Q0 := Q0.ext hE; have Q2 := Q2.ext hE; have B9 := B9.ext hE; have QE := QE.trans hE
   clear hE
   generalize w11.alloc (.cells #[.bool s11, .int .u64 (a11 : Int), .int .u64 (b11 : Int), .int .u64 (c11 : Int), .int .u64 (d11 : Int)] 25) = W11 at *
   generalize w11.heap.size = g11 at *
   obtain ⟨q0, q1, q2, q3, q4, q5, q6, q7, q8, q9, qf0, qf1, qf2, qf3, qf4, qf5, qf6, qf7, qf8, qf9⟩ := ten_cells Q0
   obtain ⟨u0, u1, u2, u3, u4, _⟩ := five_cells B9
   obtain ⟨r0, r1, r2, r3, r4, _⟩ := five_cells B11
   go_upto_region 7 with (go_at_call 65; refine (p_divMod s9 s11 a9 b9 c9 d9 a11 b11 c11 d11 z3 z4 _ K9.out.1 K11.out.1).mono ?_; rintro e' w13 ⟨s13, a13, b13, c13, d13, s14, a14, b14, c14, d14, o3, rfl, ho, C3, C4, hE⟩; have Ho := hide ho; rw [if_neg hmm0.out] at C3; have K3 := hide C3; have Q2 := Q2.ext hE; have QE := QE.trans hE; clear hE ho C3 C4)
   have l13 := Q2.lt
   have H4 := two_blocks w13 (.cells #[.bool s13, .int .u64 (a13 : Int), .int .u64 (b13 : Int), .int .u64 (c13 : Int), .int .u64 (d13 : Int)] 25) (.cells #[.bool s14, .int .u64 (a14 : Int), .int .u64 (b14 : Int), .int .u64 (c14 : Int), .int .u64 (d14 : Int)] 25)
   have hE := (ext_alloc w13 (.cells #[.bool s13, .int .u64 (a13 : Int), .int .u64 (b13 : Int), .int .u64 (c13 : Int), .int .u64 (d13 : Int)] 25)).trans (ext_alloc _ (.cells #[.bool s14, .int .u64 (a14 : Int), .int .u64 (b14 : Int), .int .u64 (c14 : Int), .int .u64 (d14 : Int)] 25))
   have Q2 := Q2.ext hE
   have QE := QE.trans hE
   generalize (w13.alloc (.cells #[.bool s13, .int .u64 (a13 : Int), .int .u64 (b13 : Int), .int .u64 (c13 : Int), .int .u64 (d13 : Int)] 25)).alloc (.cells #[.bool s14, .int .u64 (a14 : Int), .int .u64 (b14 : Int), .int .u64 (c14 : Int), .int .u64 (d14 : Int)] 25) = W13 at *
   have B13 : Box W13 w13.heap.size s13 a13 b13 c13 d13 := H4.1
   generalize w13.heap.size = g13 at *
   clear hE H4
   obtain ⟨v0, v1, v2, v3, v4, _⟩ := five_cells B13
   obtain ⟨i0, i1, i2, i3, i4, j0, j1, j2, j3, j4⟩ := five_cells Q2
   go_wp2_with fail
   all_goals exact bodyPost_ret (v := .agg #[.bool s13, .int .u64 (a13 : Int), .int .u64 (b13 : Int), .int .u64 (c13 : Int), .int .u64 (d13 : Int)]) (by simp [results, Try.results71, go_sem, i0, i1, i2, i3, i4]) rfl ⟨s13, a13, b13, c13, d13, rfl, K3.out, ext_five QE (by omega) _ _ _ _ _⟩
end Go.Proofs.Ytbnbkondbdakeaa
