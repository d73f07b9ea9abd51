/- The sanity check of layer 3's laws returns true. No condition. -/
import Derived.Test.YtbnbkondbdakeaaL3A
import Derived.Test.YtbnbkondbdakeaaFixM
namespace Go.Proofs.Ytbnbkondbdakeaa
set_option linter.unusedVariables false
set_option linter.unusedSimpArgs false
open Go Go.RowKit Go.Sort
set_option maxRecDepth 100000 in
set_option maxHeartbeats 8000000 in
theorem p_known3 (w : World) : Calls Try.prog 23 #[] w (BoolRet true w) := by
  have f23 : Frac (-3) 2 := by unfold Frac; decide +kernel
  obtain ⟨z6p, hz6p⟩ : ∃ z : Int, 6 = z := ⟨_, rfl⟩
  have kz6p : Hid (∀ w, Calls Try.prog 17 #[.int .i64 6] w (Ret (.agg #[.bool (sg z6p), .int .u64 (l0 z6p : Int), .int .u64 (l1 z6p : Int), .int .u64 (l2 z6p : Int), .int .u64 (l3 z6p : Int)]) w)) := fun w => by rw [← hz6p]; exact d_ofi (by omega) (by omega) w
  obtain ⟨z4m, hz4m⟩ : ∃ z : Int, (-4) = z := ⟨_, rfl⟩
  have kz4m : Hid (∀ w, Calls Try.prog 17 #[.int .i64 (-4)] w (Ret (.agg #[.bool (sg z4m), .int .u64 (l0 z4m : Int), .int .u64 (l1 z4m : Int), .int .u64 (l2 z4m : Int), .int .u64 (l3 z4m : Int)]) w)) := fun w => by rw [← hz4m]; exact d_ofi (by omega) (by omega) w
  obtain ⟨z3m, hz3m⟩ : ∃ z : Int, (-3) = z := ⟨_, rfl⟩
  have kz3m : Hid (∀ w, Calls Try.prog 17 #[.int .i64 (-3)] w (Ret (.agg #[.bool (sg z3m), .int .u64 (l0 z3m : Int), .int .u64 (l1 z3m : Int), .int .u64 (l2 z3m : Int), .int .u64 (l3 z3m : Int)]) w)) := fun w => by rw [← hz3m]; exact d_ofi (by omega) (by omega) w
  obtain ⟨z2p, hz2p⟩ : ∃ z : Int, 2 = z := ⟨_, rfl⟩
  have kz2p : Hid (∀ w, Calls Try.prog 17 #[.int .i64 2] w (Ret (.agg #[.bool (sg z2p), .int .u64 (l0 z2p : Int), .int .u64 (l1 z2p : Int), .int .u64 (l2 z2p : Int), .int .u64 (l3 z2p : Int)]) w)) := fun w => by rw [← hz2p]; exact d_ofi (by omega) (by omega) w
  obtain ⟨z2m, hz2m⟩ : ∃ z : Int, (-2) = z := ⟨_, rfl⟩
  have kz2m : Hid (∀ w, Calls Try.prog 17 #[.int .i64 (-2)] w (Ret (.agg #[.bool (sg z2m), .int .u64 (l0 z2m : Int), .int .u64 (l1 z2m : Int), .int .u64 (l2 z2m : Int), .int .u64 (l3 z2m : Int)]) w)) := fun w => by rw [← hz2m]; exact d_ofi (by omega) (by omega) w
  obtain ⟨z1m, hz1m⟩ : ∃ z : Int, (-1) = z := ⟨_, rfl⟩
  have kz1m : Hid (∀ w, Calls Try.prog 17 #[.int .i64 (-1)] w (Ret (.agg #[.bool (sg z1m), .int .u64 (l0 z1m : Int), .int .u64 (l1 z1m : Int), .int .u64 (l2 z1m : Int), .int .u64 (l3 z1m : Int)]) w)) := fun w => by rw [← hz1m]; exact d_ofi (by omega) (by omega) w
  have kM : Hid (∀ w, Calls Try.prog 20 #[.agg #[.bool (sg z6p), .int .u64 (l0 z6p : Int), .int .u64 (l1 z6p : Int), .int .u64 (l2 z6p : Int), .int .u64 (l3 z6p : Int)], .agg #[.bool (sg z4m), .int .u64 (l0 z4m : Int), .int .u64 (l1 z4m : Int), .int .u64 (l2 z4m : Int), .int .u64 (l3 z4m : Int)]] w (Ret (.tuple #[.agg #[.bool (sg z3m), .int .u64 (l0 z3m : Int), .int .u64 (l1 z3m : Int), .int .u64 (l2 z3m : Int), .int .u64 (l3 z3m : Int), .bool (sg z2p), .int .u64 (l0 z2p : Int), .int .u64 (l1 z2p : Int), .int .u64 (l2 z2p : Int), .int .u64 (l3 z2p : Int)], .bool true]) w)) := fun w => by
    rw [← hz6p, ← hz4m, ← hz3m, ← hz2p]
    exact g_make (by unfold F256; decide +kernel) (by unfold F256; decide +kernel) (by omega) (by decide +kernel) (by decide +kernel) (by decide +kernel) w
  have kF : Hid (∀ w, Calls Try.prog 70 #[.agg #[.bool (sg z3m), .int .u64 (l0 z3m : Int), .int .u64 (l1 z3m : Int), .int .u64 (l2 z3m : Int), .int .u64 (l3 z3m : Int), .bool (sg z2p), .int .u64 (l0 z2p : Int), .int .u64 (l1 z2p : Int), .int .u64 (l2 z2p : Int), .int .u64 (l3 z2p : Int)]] w (Ret (.agg #[.bool (sg z2m), .int .u64 (l0 z2m : Int), .int .u64 (l1 z2m : Int), .int .u64 (l2 z2m : Int), .int .u64 (l3 z2m : Int)]) w)) := fun w => by
    rw [← hz2m, ← hz3m, ← hz2p]; exact g_floor f23 (by decide +kernel) w
  have kA : Hid (∀ w, Calls Try.prog 71 #[.agg #[.bool (sg z3m), .int .u64 (l0 z3m : Int), .int .u64 (l1 z3m : Int), .int .u64 (l2 z3m : Int), .int .u64 (l3 z3m : Int), .bool (sg z2p), .int .u64 (l0 z2p : Int), .int .u64 (l1 z2p : Int), .int .u64 (l2 z2p : Int), .int .u64 (l3 z2p : Int)], .int .u64 1] w (Ret (.agg #[.bool (sg z1m), .int .u64 (l0 z1m : Int), .int .u64 (l1 z1m : Int), .int .u64 (l2 z1m : Int), .int .u64 (l3 z1m : Int)]) w)) := fun w => by
    rw [← hz1m, ← hz3m, ← hz2p]; exact g_at (k := 1) f23 (by omega) (by decide +kernel) w
  have q1 := eqWs z3m
  have q2 := eqWs z2p
  have q3 := eqWs z2m
  have q4 := eqWs z1m
  clear f23 hz6p hz4m hz3m hz2p hz2m hz1m
  have EE := hide (Ext.refl w)
  go_enter Try.func23, Try.ntmps23
  go_upto_region 2 with (first
    | (go_at_call 17; (with_reducible refine (kz6p.out _).mono ?_); rintro e' w1 ⟨rfl, hE⟩; have EE := hide (EE.out.trans hE); clear hE)
    | (go_at_call 17; (with_reducible refine (kz4m.out _).mono ?_); rintro e' w2 ⟨rfl, hE⟩; have EE := hide (EE.out.trans hE); clear hE)
    | (go_at_call 20; (with_reducible refine (kM.out _).mono ?_); rintro e' w3 ⟨rfl, hE⟩; have EE := hide (EE.out.trans hE); clear hE))
  have P1 : Box10 (w3.alloc (.cells #[.bool (sg z3m), .int .u64 (l0 z3m : Int), .int .u64 (l1 z3m : Int), .int .u64 (l2 z3m : Int), .int .u64 (l3 z3m : Int), .bool (sg z2p), .int .u64 (l0 z2p : Int), .int .u64 (l1 z2p : Int), .int .u64 (l2 z2p : Int), .int .u64 (l3 z2p : Int)] 35)) w3.heap.size (sg z3m) (l0 z3m) (l1 z3m) (l2 z3m) (l3 z3m) (sg z2p) (l0 z2p) (l1 z2p) (l2 z2p) (l3 z2p) := heap_alloc_new w3 _
  have EE := EE.out.trans (ext_alloc w3 (.cells #[.bool (sg z3m), .int .u64 (l0 z3m : Int), .int .u64 (l1 z3m : Int), .int .u64 (l2 z3m : Int), .int .u64 (l3 z3m : Int), .bool (sg z2p), .int .u64 (l0 z2p : Int), .int .u64 (l1 z2p : Int), .int .u64 (l2 z2p : Int), .int .u64 (l3 z2p : Int)] 35))
  generalize w3.alloc (.cells #[.bool (sg z3m), .int .u64 (l0 z3m : Int), .int .u64 (l1 z3m : Int), .int .u64 (l2 z3m : Int), .int .u64 (l3 z3m : Int), .bool (sg z2p), .int .u64 (l0 z2p : Int), .int .u64 (l1 z2p : Int), .int .u64 (l2 z2p : Int), .int .u64 (l3 z2p : Int)] 35) = W3 at *
  generalize w3.heap.size = g1 at *
  obtain ⟨p0, p1, p2, p3, p4, p5, p6, p7, p8, p9, pf0, pf1, pf2, pf3, pf4, pf5, pf6, pf7, pf8, pf9⟩ := ten_cells P1
  clear pf0 pf1 pf2 pf3 pf4 pf5 pf6 pf7 pf8 pf9
  replace p0 := cellR p0
  replace p1 := cellR p1
  replace p2 := cellR p2
  replace p3 := cellR p3
  replace p4 := cellR p4
  replace p5 := cellR p5
  replace p6 := cellR p6
  replace p7 := cellR p7
  replace p8 := cellR p8
  replace p9 := cellR p9
  refine wp_region_quiet_below (by kernel_rfl) (by kernel_rfl) ?_
  repeat (quiet_step (first | with_reducible exact quiet_ret (kz3m.out _) | with_reducible exact quiet_ret (kz2p.out _) | with_reducible exact quiet_ret (kz2m.out _) | with_reducible exact quiet_ret (kz1m.out _) | with_reducible exact quiet_ret (kF.out _) | with_reducible exact quiet_ret (kA.out _)))
  refine wpQuiet_nil ?_
  intro _ hw'
  obtain ⟨⟨dq, osq⟩, hw''⟩ := hw'
  subst hw''
  go_wp2_with fail
  all_goals go_ret
  all_goals exact ⟨rfl, EE.trans (ext_regrown _ _ _)⟩
end Go.Proofs.Ytbnbkondbdakeaa
