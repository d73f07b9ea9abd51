/- What the program and the reference say about fractions is the same: the laws' 'alike', and their sanity check. Conditions: the cells stand for numbers. -/
import Derived.Test.YthcobijnhfflnaaFixR
namespace Go.Proofs.Ythcobijnhfflnaa
set_option linter.unusedVariables false
set_option linter.unusedSimpArgs false
open Go Go.RowKit Go.Sort
theorem cellR {w : World} {a : Addr} {v : Value} (h : w.cell? a = some v) : ∀ (d : Nat) (os : Array Obj), (grow (redrawn w d) os).cell? a = some v := fun d os => cell_regrown h d os
set_option maxRecDepth 100000 in
set_option maxHeartbeats 8000000 in
theorem p_alike3 (s1 : Bool) (a1 b1 c1 d1 : Nat) (t1 : Bool) (e1 f1 g1 h1 : Nat) (s2 : Bool) (a2 b2 c2 d2 : Nat) (t2 : Bool) (e2 f2 g2 h2 : Nat) (x1 y1 x2 y2 : Int) (k : Nat) (w : World) (hx1 : IsW s1 a1 b1 c1 d1 x1) (hy1 : IsW t1 e1 f1 g1 h1 y1) (hx2 : IsW s2 a2 b2 c2 d2 x2) (hy2 : IsW t2 e2 f2 g2 h2 y2) (hk : k < 18446744073709551616) :
    Calls Try.prog 18 #[.agg #[.bool s1, .int .u64 (a1 : Int), .int .u64 (b1 : Int), .int .u64 (c1 : Int), .int .u64 (d1 : Int), .bool t1, .int .u64 (e1 : Int), .int .u64 (f1 : Int), .int .u64 (g1 : Int), .int .u64 (h1 : Int)], .agg #[.bool s2, .int .u64 (a2 : Int), .int .u64 (b2 : Int), .int .u64 (c2 : Int), .int .u64 (d2 : Int), .bool t2, .int .u64 (e2 : Int), .int .u64 (f2 : Int), .int .u64 (g2 : Int), .int .u64 (h2 : Int)], .int .u64 (k : Int)] w (BoolRet true w) := by
  have H2 := two_blocks w (.cells #[.bool s1, .int .u64 (a1 : Int), .int .u64 (b1 : Int), .int .u64 (c1 : Int), .int .u64 (d1 : Int), .bool t1, .int .u64 (e1 : Int), .int .u64 (f1 : Int), .int .u64 (g1 : Int), .int .u64 (h1 : Int)] 27) (.cells #[.bool s2, .int .u64 (a2 : Int), .int .u64 (b2 : Int), .int .u64 (c2 : Int), .int .u64 (d2 : Int), .bool t2, .int .u64 (e2 : Int), .int .u64 (f2 : Int), .int .u64 (g2 : Int), .int .u64 (h2 : Int)] 27)
  have EE := (ext_alloc w (.cells #[.bool s1, .int .u64 (a1 : Int), .int .u64 (b1 : Int), .int .u64 (c1 : Int), .int .u64 (d1 : Int), .bool t1, .int .u64 (e1 : Int), .int .u64 (f1 : Int), .int .u64 (g1 : Int), .int .u64 (h1 : Int)] 27)).trans (ext_alloc _ (.cells #[.bool s2, .int .u64 (a2 : Int), .int .u64 (b2 : Int), .int .u64 (c2 : Int), .int .u64 (d2 : Int), .bool t2, .int .u64 (e2 : Int), .int .u64 (f2 : Int), .int .u64 (g2 : Int), .int .u64 (h2 : Int)] 27))
  obtain ⟨W0, hW0⟩ : ∃ W0, W0 = (w.alloc (.cells #[.bool s1, .int .u64 (a1 : Int), .int .u64 (b1 : Int), .int .u64 (c1 : Int), .int .u64 (d1 : Int), .bool t1, .int .u64 (e1 : Int), .int .u64 (f1 : Int), .int .u64 (g1 : Int), .int .u64 (h1 : Int)] 27)).alloc (.cells #[.bool s2, .int .u64 (a2 : Int), .int .u64 (b2 : Int), .int .u64 (c2 : Int), .int .u64 (d2 : Int), .bool t2, .int .u64 (e2 : Int), .int .u64 (f2 : Int), .int .u64 (g2 : Int), .int .u64 (h2 : Int)] 27) := ⟨_, rfl⟩
  rw [← hW0] at H2 EE
  obtain ⟨g, hg⟩ : ∃ g, w.heap.size = g := ⟨_, rfl⟩
  rw [hg] at H2
  obtain ⟨P1, P2⟩ : Box10 W0 g s1 a1 b1 c1 d1 t1 e1 f1 g1 h1 ∧ Box10 W0 (g + 1) s2 a2 b2 c2 d2 t2 e2 f2 g2 h2 := H2
  have HW0 := hide hW0
  have HG := hide hg
  obtain ⟨v1, hv1⟩ : ∃ v, decide (RatOk s1 x1 t1 y1) = v := ⟨_, rfl⟩
  obtain ⟨v2, hv2⟩ : ∃ v, decide (RatOk s2 x2 t2 y2) = v := ⟨_, rfl⟩
  obtain ⟨r, hr⟩ : ∃ r, cmpI (cN v1 x1 * cD v2 y2) (cN v2 x2 * cD v1 y1) = r := ⟨_, rfl⟩
  obtain ⟨z1, hz1⟩ : ∃ z, cN v1 x1 / cD v1 y1 = z := ⟨_, rfl⟩
  obtain ⟨z2, hz2⟩ : ∃ z, -(-cN v1 x1 / cD v1 y1) = z := ⟨_, rfl⟩
  obtain ⟨z3, hz3⟩ : ∃ z, ((cN v1 x1 + cN v1 x1) * k + cD v1 y1) / (cD v1 y1 + cD v1 y1) = z := ⟨_, rfl⟩
  have k1 : Hid (∀ w, Calls Try.prog 27 #[.agg #[.bool s1, .int .u64 (a1 : Int), .int .u64 (b1 : Int), .int .u64 (c1 : Int), .int .u64 (d1 : Int), .bool t1, .int .u64 (e1 : Int), .int .u64 (f1 : Int), .int .u64 (g1 : Int), .int .u64 (h1 : Int)]] w (Ret (.bool v1) w)) := fun w => r_valid _ _ _ _ _ _ _ _ _ _ x1 y1 w hx1 hy1 v1 hv1
  have k2 : Hid (∀ w, Calls Try.prog 29 #[.agg #[.bool s1, .int .u64 (a1 : Int), .int .u64 (b1 : Int), .int .u64 (c1 : Int), .int .u64 (d1 : Int), .bool t1, .int .u64 (e1 : Int), .int .u64 (f1 : Int), .int .u64 (g1 : Int), .int .u64 (h1 : Int)], .agg #[.bool s2, .int .u64 (a2 : Int), .int .u64 (b2 : Int), .int .u64 (c2 : Int), .int .u64 (d2 : Int), .bool t2, .int .u64 (e2 : Int), .int .u64 (f2 : Int), .int .u64 (g2 : Int), .int .u64 (h2 : Int)]] w (Ret (.int .i64 r) w)) := fun w => by rw [← hr]; exact r_compare _ _ _ _ _ _ _ _ _ _ _ _ _ _ _ _ _ _ _ _ x1 y1 x2 y2 w hx1 hy1 hx2 hy2 v1 v2 hv1 hv2
  have k3 : Hid (∀ w, Calls Try.prog 30 #[.agg #[.bool s1, .int .u64 (a1 : Int), .int .u64 (b1 : Int), .int .u64 (c1 : Int), .int .u64 (d1 : Int), .bool t1, .int .u64 (e1 : Int), .int .u64 (f1 : Int), .int .u64 (g1 : Int), .int .u64 (h1 : Int)]] w (Ret (.agg #[.bool (sg z1), .int .u64 (l0 z1 : Int), .int .u64 (l1 z1 : Int), .int .u64 (l2 z1 : Int), .int .u64 (l3 z1 : Int)]) w)) := fun w => (r_floor _ _ _ _ _ _ _ _ _ _ x1 y1 w hx1 hy1 v1 hv1).mono fun _ _ q => ret_wide (by rw [← hz1]; exact q)
  have k4 : Hid (∀ w, Calls Try.prog 31 #[.agg #[.bool s1, .int .u64 (a1 : Int), .int .u64 (b1 : Int), .int .u64 (c1 : Int), .int .u64 (d1 : Int), .bool t1, .int .u64 (e1 : Int), .int .u64 (f1 : Int), .int .u64 (g1 : Int), .int .u64 (h1 : Int)]] w (Ret (.agg #[.bool (sg z2), .int .u64 (l0 z2 : Int), .int .u64 (l1 z2 : Int), .int .u64 (l2 z2 : Int), .int .u64 (l3 z2 : Int)]) w)) := fun w => (r_ceil _ _ _ _ _ _ _ _ _ _ x1 y1 w hx1 hy1 v1 hv1).mono fun _ _ q => ret_wide (by rw [← hz2]; exact q)
  have k5 : Hid (∀ w, Calls Try.prog 33 #[.agg #[.bool s1, .int .u64 (a1 : Int), .int .u64 (b1 : Int), .int .u64 (c1 : Int), .int .u64 (d1 : Int), .bool t1, .int .u64 (e1 : Int), .int .u64 (f1 : Int), .int .u64 (g1 : Int), .int .u64 (h1 : Int)], .int .u64 (k : Int)] w (Ret (.agg #[.bool (sg z3), .int .u64 (l0 z3 : Int), .int .u64 (l1 z3 : Int), .int .u64 (l2 z3 : Int), .int .u64 (l3 z3 : Int)]) w)) := fun w => (r_at _ _ _ _ _ _ _ _ _ _ x1 y1 w hx1 hy1 k hk v1 hv1).mono fun _ _ q => ret_wide (by rw [← hz3]; exact q)
  have k6 : Hid (∀ w, Calls Try.prog 42 #[.agg #[.bool s1, .int .u64 (a1 : Int), .int .u64 (b1 : Int), .int .u64 (c1 : Int), .int .u64 (d1 : Int), .bool t1, .int .u64 (e1 : Int), .int .u64 (f1 : Int), .int .u64 (g1 : Int), .int .u64 (h1 : Int)]] w (Ret (.bool v1) w)) := fun w => rf_valid _ _ _ _ _ _ _ _ _ _ x1 y1 w hx1 hy1 v1 hv1
  have k7 : Hid (∀ w, Calls Try.prog 34 #[.agg #[.bool s1, .int .u64 (a1 : Int), .int .u64 (b1 : Int), .int .u64 (c1 : Int), .int .u64 (d1 : Int), .bool t1, .int .u64 (e1 : Int), .int .u64 (f1 : Int), .int .u64 (g1 : Int), .int .u64 (h1 : Int)], .agg #[.bool s2, .int .u64 (a2 : Int), .int .u64 (b2 : Int), .int .u64 (c2 : Int), .int .u64 (d2 : Int), .bool t2, .int .u64 (e2 : Int), .int .u64 (f2 : Int), .int .u64 (g2 : Int), .int .u64 (h2 : Int)]] w (Ret (.int .i64 r) w)) := fun w => by rw [← hr]; exact rf_compare _ _ _ _ _ _ _ _ _ _ _ _ _ _ _ _ _ _ _ _ x1 y1 x2 y2 w hx1 hy1 hx2 hy2 v1 v2 hv1 hv2
  have k8 : Hid (∀ w, Calls Try.prog 50 #[.agg #[.bool s1, .int .u64 (a1 : Int), .int .u64 (b1 : Int), .int .u64 (c1 : Int), .int .u64 (d1 : Int), .bool t1, .int .u64 (e1 : Int), .int .u64 (f1 : Int), .int .u64 (g1 : Int), .int .u64 (h1 : Int)]] w (Ret (.agg #[.bool (sg z1), .int .u64 (l0 z1 : Int), .int .u64 (l1 z1 : Int), .int .u64 (l2 z1 : Int), .int .u64 (l3 z1 : Int)]) w)) := fun w => (rf_floor _ _ _ _ _ _ _ _ _ _ x1 y1 w hx1 hy1 v1 hv1).mono fun _ _ q => ret_wide (by rw [← hz1]; exact q)
  have k9 : Hid (∀ w, Calls Try.prog 51 #[.agg #[.bool s1, .int .u64 (a1 : Int), .int .u64 (b1 : Int), .int .u64 (c1 : Int), .int .u64 (d1 : Int), .bool t1, .int .u64 (e1 : Int), .int .u64 (f1 : Int), .int .u64 (g1 : Int), .int .u64 (h1 : Int)]] w (Ret (.agg #[.bool (sg z2), .int .u64 (l0 z2 : Int), .int .u64 (l1 z2 : Int), .int .u64 (l2 z2 : Int), .int .u64 (l3 z2 : Int)]) w)) := fun w => (rf_ceil _ _ _ _ _ _ _ _ _ _ x1 y1 w hx1 hy1 v1 hv1).mono fun _ _ q => ret_wide (by rw [← hz2]; exact q)
  have k10 : Hid (∀ w, Calls Try.prog 52 #[.agg #[.bool s1, .int .u64 (a1 : Int), .int .u64 (b1 : Int), .int .u64 (c1 : Int), .int .u64 (d1 : Int), .bool t1, .int .u64 (e1 : Int), .int .u64 (f1 : Int), .int .u64 (g1 : Int), .int .u64 (h1 : Int)], .int .u64 (k : Int)] w (Ret (.agg #[.bool (sg z3), .int .u64 (l0 z3 : Int), .int .u64 (l1 z3 : Int), .int .u64 (l2 z3 : Int), .int .u64 (l3 z3 : Int)]) w)) := fun w => (rf_at _ _ _ _ _ _ _ _ _ _ x1 y1 w hx1 hy1 k hk v1 hv1).mono fun _ _ q => ret_wide (by rw [← hz3]; exact q)
  clear hg hW0 hv1 hv2 hr hz1 hz2 hz3 hx1 hy1 hx2 hy2 hk
  have q1 := eqWs z1
  have q2 := eqWs z2
  have q3 := eqWs z3
  obtain ⟨p0, p1, p2, p3, p4, p5, p6, p7, p8, p9, pf0, pf1, pf2, pf3, pf4, pf5, pf6, pf7, pf8, pf9⟩ := ten_cells P1
  obtain ⟨r0, r1, r2, r3, r4, r5, r6, r7, r8, r9, rf0, rf1, rf2, rf3, rf4, rf5, rf6, rf7, rf8, rf9⟩ := ten_cells P2
  clear pf0 rf0 pf1 rf1 pf2 rf2 pf3 rf3 pf4 rf4 pf5 rf5 pf6 rf6 pf7 rf7 pf8 rf8 pf9 rf9
  replace p0 := cellR p0
  replace r0 := cellR r0
  replace p1 := cellR p1
  replace r1 := cellR r1
  replace p2 := cellR p2
  replace r2 := cellR r2
  replace p3 := cellR p3
  replace r3 := cellR r3
  replace p4 := cellR p4
  replace r4 := cellR r4
  replace p5 := cellR p5
  replace r5 := cellR r5
  replace p6 := cellR p6
  replace r6 := cellR r6
  replace p7 := cellR p7
  replace r7 := cellR r7
  replace p8 := cellR p8
  replace r8 := cellR r8
  replace p9 := cellR p9
  replace r9 := cellR r9
  go_enter Try.func18, Try.ntmps18
  go_upto_region 1 with fail
  rw [← HW0.out, HG.out]
  clear HW0 HG
  refine wp_region_quiet_below (by kernel_rfl) (by kernel_rfl) ?_
  repeat (quiet_step (first | with_reducible exact quiet_ret (k1.out _) | with_reducible exact quiet_ret (k2.out _) | with_reducible exact quiet_ret (k3.out _) | with_reducible exact quiet_ret (k4.out _) | with_reducible exact quiet_ret (k5.out _) | with_reducible exact quiet_ret (k6.out _) | with_reducible exact quiet_ret (k7.out _) | with_reducible exact quiet_ret (k8.out _) | with_reducible exact quiet_ret (k9.out _) | with_reducible exact quiet_ret (k10.out _)))
  refine wpQuiet_nil ?_
  intro _ hw'
  obtain ⟨⟨dq, osq⟩, hw''⟩ := hw'
  subst hw''
  go_wp2_with fail
  all_goals go_ret
  all_goals exact ⟨rfl, EE.trans (ext_regrown _ _ _)⟩
end Go.Proofs.Ythcobijnhfflnaa
