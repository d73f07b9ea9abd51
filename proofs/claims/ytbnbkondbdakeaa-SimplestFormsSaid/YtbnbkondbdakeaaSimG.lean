/- The statements about layer 4: the helpers fraction, known and alike. Conditions: the numbers fit. -/
import Derived.BigQuiet
import Derived.Test.YtbnbkondbdakeaaSimH
import Derived.Test.YtbnbkondbdakeaaFixM
namespace Go.Proofs.Ytbnbkondbdakeaa
set_option linter.unusedVariables false
set_option linter.unusedSimpArgs false
open Go Go.RowKit Go.Sort
attribute [local go_sem] qUpon putAll slotV
theorem mkB_small {x y : Int} (h0 : y ≠ 0) (hx : x.natAbs < 170141183460469231731687303715884105728) (hy : y.natAbs < 170141183460469231731687303715884105728) : mkB x y = true := by
  unfold mkB
  rw [decide_eq_true_iff]
  unfold numR denR
  have a := Int.natAbs_ediv_le_natAbs (if y < 0 then -x else x) (Int.gcd x y : Int)
  have b := Int.natAbs_ediv_le_natAbs (if y < 0 then -y else y) (Int.gcd x y : Int)
  constructor
  · refine Nat.lt_of_le_of_lt a ?_
    split <;> (first | exact hx | simpa using hx)
  · refine Nat.lt_of_le_of_lt b ?_
    split <;> (first | exact hy | simpa using hy)
set_option maxRecDepth 100000 in
set_option maxHeartbeats 8000000 in
theorem l_fraction {n d N D : Int} (hn : -9223372036854775808 ≤ n ∧ n ≤ 9223372036854775807) (hd : -9223372036854775808 ≤ d ∧ d ≤ 9223372036854775807) (h0 : d ≠ 0) (hN : numR n d = N) (hD : denR n d = D) (w : World) : Calls Try.prog 31 #[.int .i64 n, .int .i64 d] w (Ret (.agg #[.bool (sg N), .int .u64 (l0 N : Int), .int .u64 (l1 N : Int), .int .u64 (l2 N : Int), .int .u64 (l3 N : Int), .bool (sg D), .int .u64 (l0 D : Int), .int .u64 (l1 D : Int), .int .u64 (l2 D : Int), .int .u64 (l3 D : Int)]) w) := by
  have fn : F256 n := F256.mk (by omega)
  have fd : F256 d := F256.mk (by omega)
  have hm : mkB n d = true := mkB_small h0 (by omega) (by omega)
  have H1 := hide hn
  have H2 := hide hd
  have kO1 : Hid (∀ w, Calls Try.prog 17 #[.int .i64 n] w (Ret (.agg #[.bool (sg n), .int .u64 (l0 n : Int), .int .u64 (l1 n : Int), .int .u64 (l2 n : Int), .int .u64 (l3 n : Int)]) w)) := fun w => d_ofi H1.out.1 H1.out.2 w
  have kO2 : Hid (∀ w, Calls Try.prog 17 #[.int .i64 d] w (Ret (.agg #[.bool (sg d), .int .u64 (l0 d : Int), .int .u64 (l1 d : Int), .int .u64 (l2 d : Int), .int .u64 (l3 d : Int)]) w)) := fun w => d_ofi H2.out.1 H2.out.2 w
  have kM : Hid (∀ w, Calls Try.prog 21 #[.agg #[.bool (sg n), .int .u64 (l0 n : Int), .int .u64 (l1 n : Int), .int .u64 (l2 n : Int), .int .u64 (l3 n : Int)], .agg #[.bool (sg d), .int .u64 (l0 d : Int), .int .u64 (l1 d : Int), .int .u64 (l2 d : Int), .int .u64 (l3 d : Int)]] w (Ret (.tuple #[.agg #[.bool (sg N), .int .u64 (l0 N : Int), .int .u64 (l1 N : Int), .int .u64 (l2 N : Int), .int .u64 (l3 N : Int), .bool (sg D), .int .u64 (l0 D : Int), .int .u64 (l1 D : Int), .int .u64 (l2 D : Int), .int .u64 (l3 D : Int)], .bool true]) w)) := fun w => h_make fn fd h0 hm (by simpa using hN) (by simpa using hD) w
  clear fn fd hm hn hd h0 hN hD H1 H2
  obtain ⟨W0, hW0⟩ : ∃ W0, W0 = (w.alloc (.cells #[.bool false, .int .u64 0, .int .u64 0, .int .u64 0, .int .u64 0, .bool false, .int .u64 0, .int .u64 0, .int .u64 0, .int .u64 0] 35)) := ⟨_, rfl⟩
  have H2 := heap_alloc_new w (.cells #[.bool false, .int .u64 0, .int .u64 0, .int .u64 0, .int .u64 0, .bool false, .int .u64 0, .int .u64 0, .int .u64 0, .int .u64 0] 35)
  have EE0 : Ext w W0 := by rw [hW0]; exact (ext_alloc _ _)
  rw [← hW0] at H2
  have EE := hide EE0
  have HW := hide hW0
  have P4 : Box10 W0 (w.heap.size) false 0 0 0 0 false 0 0 0 0 := H2
  clear hW0 EE0
  go_enter Try.func31, Try.ntmps31
  go_upto_region 1 with fail
  rw [← HW.out]
  clear HW
  have hg0 : w.heap.size ≤ w.heap.size := Nat.le_refl _
  obtain ⟨g0, hg⟩ : ∃ g, w.heap.size = g := ⟨_, rfl⟩
  rw [hg] at P4 ⊢
  replace hg0 : w.heap.size ≤ g0 := Nat.le_of_eq hg
  clear hg
  go_upto_region 2 with (first
    | (go_at_call 17; (with_reducible refine (kO1.out _).mono ?_); rintro e w1 ⟨rfl, hE⟩; have P4 := P4.ext hE; have EE := hide (EE.out.trans hE); clear hE)
    | (go_at_call 17; (with_reducible refine (kO2.out _).mono ?_); rintro e w2 ⟨rfl, hE⟩; have P4 := P4.ext hE; have EE := hide (EE.out.trans hE); clear hE)
    | (go_at_call 21; (with_reducible refine (kM.out _).mono ?_); rintro e w3 ⟨rfl, hE⟩; have P4 := P4.ext hE; have EE := hide (EE.out.trans hE); clear hE))
  have H2 := heap_alloc_new w3 (.cells #[.bool (sg N), .int .u64 (l0 N : Int), .int .u64 (l1 N : Int), .int .u64 (l2 N : Int), .int .u64 (l3 N : Int), .bool (sg D), .int .u64 (l0 D : Int), .int .u64 (l1 D : Int), .int .u64 (l2 D : Int), .int .u64 (l3 D : Int)] 35)
  have lP4 := P4.lt
  have hE := (ext_alloc w3 (.cells #[.bool (sg N), .int .u64 (l0 N : Int), .int .u64 (l1 N : Int), .int .u64 (l2 N : Int), .int .u64 (l3 N : Int), .bool (sg D), .int .u64 (l0 D : Int), .int .u64 (l1 D : Int), .int .u64 (l2 D : Int), .int .u64 (l3 D : Int)] 35))
  have P4 := P4.ext hE
  have EE := hide (EE.out.trans hE)
  clear hE
  obtain ⟨W4, hW⟩ : ∃ W, W = (w3.alloc (.cells #[.bool (sg N), .int .u64 (l0 N : Int), .int .u64 (l1 N : Int), .int .u64 (l2 N : Int), .int .u64 (l3 N : Int), .bool (sg D), .int .u64 (l0 D : Int), .int .u64 (l1 D : Int), .int .u64 (l2 D : Int), .int .u64 (l3 D : Int)] 35)) := ⟨_, rfl⟩
  rw [← hW] at H2 EE P4 ⊢
  obtain ⟨g5, hg⟩ : ∃ g, w3.heap.size = g := ⟨_, rfl⟩
  rw [hg] at H2 lP4 ⊢
  have P5 : Box10 W4 g5 (sg N) (l0 N) (l1 N) (l2 N) (l3 N) (sg D) (l0 D) (l1 D) (l2 D) (l3 D) := H2
  clear hW hg
  have ngP4P5 : g0 ≠ g5 := by omega
  obtain ⟨xP50, xP51, xP52, xP53, xP54, xP55, xP56, xP57, xP58, xP59, -⟩ := ten_cells P5; obtain ⟨xP40, xP41, xP42, xP43, xP44, xP45, xP46, xP47, xP48, xP49, xP4f0, xP4f1, xP4f2, xP4f3, xP4f4, xP4f5, xP4f6, xP4f7, xP4f8, xP4f9⟩ := ten_cells P4
  go_wp2_with fail
  exact bodyPost_ret (v := .agg #[.bool (sg N), .int .u64 (l0 N : Int), .int .u64 (l1 N : Int), .int .u64 (l2 N : Int), .int .u64 (l3 N : Int), .bool (sg D), .int .u64 (l0 D : Int), .int .u64 (l1 D : Int), .int .u64 (l2 D : Int), .int .u64 (l3 D : Int)]) (by simp [results, Try.results31, go_sem, xP40, xP41, xP42, xP43, xP44, xP45, xP46, xP47, xP48, xP49]) rfl ⟨rfl, ext_ten EE.out (by omega) _ _ _ _ _ _ _ _ _ _⟩
theorem best_known : Best 157 50 63 20 22 7 := by
  refine ⟨by omega, by omega, by omega, fun p q hq h1 h2 => ?_⟩
  have : ¬ q = 1 ∧ ¬ q = 2 ∧ ¬ q = 3 ∧ ¬ q = 4 ∧ ¬ q = 5 ∧ ¬ q = 6 := by refine ⟨?_, ?_, ?_, ?_, ?_, ?_⟩ <;> (intro e; subst e; omega)
  omega
set_option maxRecDepth 100000 in
set_option maxHeartbeats 8000000 in
theorem l_known (w : World) : Calls Try.prog 25 #[] w (Ret (.bool true) w) := by
  have k1 : Hid (∀ w, Calls Try.prog 31 #[.int .i64 157, .int .i64 50] w (Ret (.agg #[.bool (sg 157), .int .u64 (l0 157 : Int), .int .u64 (l1 157 : Int), .int .u64 (l2 157 : Int), .int .u64 (l3 157 : Int), .bool (sg 50), .int .u64 (l0 50 : Int), .int .u64 (l1 50 : Int), .int .u64 (l2 50 : Int), .int .u64 (l3 50 : Int)]) w)) := fun w => l_fraction (by omega) (by omega) (by omega) (by decide +kernel) (by decide +kernel) w
  have fk1 : Frac 157 50 := by unfold Frac; decide +kernel
  have k2 : Hid (∀ w, Calls Try.prog 31 #[.int .i64 63, .int .i64 20] w (Ret (.agg #[.bool (sg 63), .int .u64 (l0 63 : Int), .int .u64 (l1 63 : Int), .int .u64 (l2 63 : Int), .int .u64 (l3 63 : Int), .bool (sg 20), .int .u64 (l0 20 : Int), .int .u64 (l1 20 : Int), .int .u64 (l2 20 : Int), .int .u64 (l3 20 : Int)]) w)) := fun w => l_fraction (by omega) (by omega) (by omega) (by decide +kernel) (by decide +kernel) w
  have fk2 : Frac 63 20 := by unfold Frac; decide +kernel
  have k3 : Hid (∀ w, Calls Try.prog 31 #[.int .i64 22, .int .i64 7] w (Ret (.agg #[.bool (sg 22), .int .u64 (l0 22 : Int), .int .u64 (l1 22 : Int), .int .u64 (l2 22 : Int), .int .u64 (l3 22 : Int), .bool (sg 7), .int .u64 (l0 7 : Int), .int .u64 (l1 7 : Int), .int .u64 (l2 7 : Int), .int .u64 (l3 7 : Int)]) w)) := fun w => l_fraction (by omega) (by omega) (by omega) (by decide +kernel) (by decide +kernel) w
  have fk3 : Frac 22 7 := by unfold Frac; decide +kernel
  have k4 : Hid (∀ w, Calls Try.prog 31 #[.int .i64 1, .int .i64 2] w (Ret (.agg #[.bool (sg 1), .int .u64 (l0 1 : Int), .int .u64 (l1 1 : Int), .int .u64 (l2 1 : Int), .int .u64 (l3 1 : Int), .bool (sg 2), .int .u64 (l0 2 : Int), .int .u64 (l1 2 : Int), .int .u64 (l2 2 : Int), .int .u64 (l3 2 : Int)]) w)) := fun w => l_fraction (by omega) (by omega) (by omega) (by decide +kernel) (by decide +kernel) w
  have fk4 : Frac 1 2 := by unfold Frac; decide +kernel
  have k5 : Hid (∀ w, Calls Try.prog 31 #[.int .i64 1, .int .i64 3] w (Ret (.agg #[.bool (sg 1), .int .u64 (l0 1 : Int), .int .u64 (l1 1 : Int), .int .u64 (l2 1 : Int), .int .u64 (l3 1 : Int), .bool (sg 3), .int .u64 (l0 3 : Int), .int .u64 (l1 3 : Int), .int .u64 (l2 3 : Int), .int .u64 (l3 3 : Int)]) w)) := fun w => l_fraction (by omega) (by omega) (by omega) (by decide +kernel) (by decide +kernel) w
  have fk5 : Frac 1 3 := by unfold Frac; decide +kernel
  have kB : Hid (∀ w, Calls Try.prog 27 #[.agg #[.bool (sg 157), .int .u64 (l0 157 : Int), .int .u64 (l1 157 : Int), .int .u64 (l2 157 : Int), .int .u64 (l3 157 : Int), .bool (sg 50), .int .u64 (l0 50 : Int), .int .u64 (l1 50 : Int), .int .u64 (l2 50 : Int), .int .u64 (l3 50 : Int)], .agg #[.bool (sg 63), .int .u64 (l0 63 : Int), .int .u64 (l1 63 : Int), .int .u64 (l2 63 : Int), .int .u64 (l3 63 : Int), .bool (sg 20), .int .u64 (l0 20 : Int), .int .u64 (l1 20 : Int), .int .u64 (l2 20 : Int), .int .u64 (l3 20 : Int)]] w (Ret (.tuple #[.agg #[.bool (sg 22), .int .u64 (l0 22 : Int), .int .u64 (l1 22 : Int), .int .u64 (l2 22 : Int), .int .u64 (l3 22 : Int), .bool (sg 7), .int .u64 (l0 7 : Int), .int .u64 (l1 7 : Int), .int .u64 (l2 7 : Int), .int .u64 (l3 7 : Int)], .bool true]) w)) := fun w => s_between fk1 fk2 (by omega) best_known w
  have kS : Hid (∀ w, Calls Try.prog 30 #[.agg #[.bool (sg 1), .int .u64 (l0 1 : Int), .int .u64 (l1 1 : Int), .int .u64 (l2 1 : Int), .int .u64 (l3 1 : Int), .bool (sg 2), .int .u64 (l0 2 : Int), .int .u64 (l1 2 : Int), .int .u64 (l2 2 : Int), .int .u64 (l3 2 : Int)], .agg #[.bool (sg 1), .int .u64 (l0 1 : Int), .int .u64 (l1 1 : Int), .int .u64 (l2 1 : Int), .int .u64 (l3 1 : Int), .bool (sg 3), .int .u64 (l0 3 : Int), .int .u64 (l1 3 : Int), .int .u64 (l2 3 : Int), .int .u64 (l3 3 : Int)]] w (Ret (.bool true) w)) := fun w => s_simpler fk4 fk5 true (by decide +kernel) w
  have qe := eqRs 22 7
  clear fk1 fk2 fk3 fk4 fk5
  have EE := hide (Ext.refl w)
  go_enter Try.func25, Try.ntmps25
  go_upto_region 1 with fail
  go_upto_region 2 with (first
    | (go_at_call 31; (with_reducible refine (k1.out _).mono ?_); rintro e w1 ⟨rfl, hE⟩; have EE := hide (EE.out.trans hE); clear hE)
    | (go_at_call 31; (with_reducible refine (k2.out _).mono ?_); rintro e w2 ⟨rfl, hE⟩; have EE := hide (EE.out.trans hE); clear hE)
    | (go_at_call 27; (with_reducible refine (kB.out _).mono ?_); rintro e w3 ⟨rfl, hE⟩; have EE := hide (EE.out.trans hE); clear hE))
  have H2 := heap_alloc_new w3 (.cells #[.bool (sg 22), .int .u64 (l0 22 : Int), .int .u64 (l1 22 : Int), .int .u64 (l2 22 : Int), .int .u64 (l3 22 : Int), .bool (sg 7), .int .u64 (l0 7 : Int), .int .u64 (l1 7 : Int), .int .u64 (l2 7 : Int), .int .u64 (l3 7 : Int)] 35)
  have hE := (ext_alloc w3 (.cells #[.bool (sg 22), .int .u64 (l0 22 : Int), .int .u64 (l1 22 : Int), .int .u64 (l2 22 : Int), .int .u64 (l3 22 : Int), .bool (sg 7), .int .u64 (l0 7 : Int), .int .u64 (l1 7 : Int), .int .u64 (l2 7 : Int), .int .u64 (l3 7 : Int)] 35))
  have EE := hide (EE.out.trans hE)
  clear hE
  obtain ⟨W4, hW⟩ : ∃ W, W = (w3.alloc (.cells #[.bool (sg 22), .int .u64 (l0 22 : Int), .int .u64 (l1 22 : Int), .int .u64 (l2 22 : Int), .int .u64 (l3 22 : Int), .bool (sg 7), .int .u64 (l0 7 : Int), .int .u64 (l1 7 : Int), .int .u64 (l2 7 : Int), .int .u64 (l3 7 : Int)] 35)) := ⟨_, rfl⟩
  rw [← hW] at H2 EE  ⊢
  obtain ⟨g5, hg⟩ : ∃ g, w3.heap.size = g := ⟨_, rfl⟩
  rw [hg] at H2  ⊢
  have P1 : Box10 W4 g5 (sg 22) (l0 22) (l1 22) (l2 22) (l3 22) (sg 7) (l0 7) (l1 7) (l2 7) (l3 7) := H2
  clear hW hg
  obtain ⟨yP10, yP11, yP12, yP13, yP14, yP15, yP16, yP17, yP18, yP19, yP1f0, yP1f1, yP1f2, yP1f3, yP1f4, yP1f5, yP1f6, yP1f7, yP1f8, yP1f9⟩ := ten_cells P1
  clear yP1f0 yP1f1 yP1f2 yP1f3 yP1f4 yP1f5 yP1f6 yP1f7 yP1f8 yP1f9
  replace yP10 := cellR yP10
  replace yP11 := cellR yP11
  replace yP12 := cellR yP12
  replace yP13 := cellR yP13
  replace yP14 := cellR yP14
  replace yP15 := cellR yP15
  replace yP16 := cellR yP16
  replace yP17 := cellR yP17
  replace yP18 := cellR yP18
  replace yP19 := cellR yP19
  refine wp_region_quiet_below (by kernel_rfl) (by kernel_rfl) ?_
  repeat (first | go_big_quiet_step (first | with_reducible exact quiet_ret (k3.out _) | with_reducible exact quiet_ret (k4.out _) | with_reducible exact quiet_ret (k5.out _) | with_reducible exact quiet_ret (kS.out _)) | quiet_step (first | with_reducible exact quiet_ret (k3.out _) | with_reducible exact quiet_ret (k4.out _) | with_reducible exact quiet_ret (k5.out _) | with_reducible exact quiet_ret (kS.out _)))
  refine wpQuiet_nil ?_
  intro _ hw'
  obtain ⟨⟨dq, osq⟩, hw''⟩ := hw'
  subst hw''
  clear yP10 yP11 yP12 yP13 yP14 yP15 yP16 yP17 yP18 yP19
  have hE := ext_regrown W4 dq osq
  have P1 := P1.ext hE
  have EE := hide (EE.out.trans hE)
  clear hE
  generalize grow (redrawn W4 dq) osq = W4q at *
  go_wp2_with fail
  go_ret
  exact ⟨rfl, EE.out⟩
theorem eqZZ (w : World) : (binOp .eql 35 (.agg #[.bool false, .int .u64 0, .int .u64 0, .int .u64 0, .int .u64 0, .bool false, .int .u64 0, .int .u64 0, .int .u64 0, .int .u64 0]) (.agg #[.bool false, .int .u64 0, .int .u64 0, .int .u64 0, .int .u64 0, .bool false, .int .u64 0, .int .u64 0, .int .u64 0, .int .u64 0])).run Try.prog w = .ok (.bool true) w := by
  have := eq10 false false 0 0 0 0 0 0 0 0 false false 0 0 0 0 0 0 0 0 w
  rw [this]; simp [same5]
set_option maxRecDepth 100000 in
set_option maxHeartbeats 8000000 in
theorem l_alike_yes {n1 m1 n2 m2 : Int} (h1 : Frac n1 m1) (h2 : Frac n2 m2) {n m : Int} (hle : n1 * m2 ≤ n2 * m1) (B : Best n1 m1 n2 m2 n m) (w : World) : Calls Try.prog 26 #[.agg #[.bool (sg n1), .int .u64 (l0 n1 : Int), .int .u64 (l1 n1 : Int), .int .u64 (l2 n1 : Int), .int .u64 (l3 n1 : Int), .bool (sg m1), .int .u64 (l0 m1 : Int), .int .u64 (l1 m1 : Int), .int .u64 (l2 m1 : Int), .int .u64 (l3 m1 : Int)], .agg #[.bool (sg n2), .int .u64 (l0 n2 : Int), .int .u64 (l1 n2 : Int), .int .u64 (l2 n2 : Int), .int .u64 (l3 n2 : Int), .bool (sg m2), .int .u64 (l0 m2 : Int), .int .u64 (l1 m2 : Int), .int .u64 (l2 m2 : Int), .int .u64 (l3 m2 : Int)]] w (Ret (.bool true) w) := by
  obtain ⟨s, hs⟩ : ∃ s, simB n1 m1 n2 m2 = s := ⟨_, rfl⟩
  have kB : Hid (∀ w, Calls Try.prog 27 #[.agg #[.bool (sg n1), .int .u64 (l0 n1 : Int), .int .u64 (l1 n1 : Int), .int .u64 (l2 n1 : Int), .int .u64 (l3 n1 : Int), .bool (sg m1), .int .u64 (l0 m1 : Int), .int .u64 (l1 m1 : Int), .int .u64 (l2 m1 : Int), .int .u64 (l3 m1 : Int)], .agg #[.bool (sg n2), .int .u64 (l0 n2 : Int), .int .u64 (l1 n2 : Int), .int .u64 (l2 n2 : Int), .int .u64 (l3 n2 : Int), .bool (sg m2), .int .u64 (l0 m2 : Int), .int .u64 (l1 m2 : Int), .int .u64 (l2 m2 : Int), .int .u64 (l3 m2 : Int)]] w (Ret (.tuple #[.agg #[.bool (sg n), .int .u64 (l0 n : Int), .int .u64 (l1 n : Int), .int .u64 (l2 n : Int), .int .u64 (l3 n : Int), .bool (sg m), .int .u64 (l0 m : Int), .int .u64 (l1 m : Int), .int .u64 (l2 m : Int), .int .u64 (l3 m : Int)], .bool true]) w)) := fun w => s_between h1 h2 hle B w
  have kC : Hid (∀ w, Calls Try.prog 73 #[.agg #[.bool (sg n1), .int .u64 (l0 n1 : Int), .int .u64 (l1 n1 : Int), .int .u64 (l2 n1 : Int), .int .u64 (l3 n1 : Int), .bool (sg m1), .int .u64 (l0 m1 : Int), .int .u64 (l1 m1 : Int), .int .u64 (l2 m1 : Int), .int .u64 (l3 m1 : Int)], .agg #[.bool (sg n2), .int .u64 (l0 n2 : Int), .int .u64 (l1 n2 : Int), .int .u64 (l2 n2 : Int), .int .u64 (l3 n2 : Int), .bool (sg m2), .int .u64 (l0 m2 : Int), .int .u64 (l1 m2 : Int), .int .u64 (l2 m2 : Int), .int .u64 (l3 m2 : Int)]] w (Ret (.tuple #[.agg #[.bool (sg n), .int .u64 (l0 n : Int), .int .u64 (l1 n : Int), .int .u64 (l2 n : Int), .int .u64 (l3 n : Int), .bool (sg m), .int .u64 (l0 m : Int), .int .u64 (l1 m : Int), .int .u64 (l2 m : Int), .int .u64 (l3 m : Int)], .bool true]) w)) := fun w => q_between h1 h2 hle B w
  have kS : Hid (∀ w, Calls Try.prog 30 #[.agg #[.bool (sg n1), .int .u64 (l0 n1 : Int), .int .u64 (l1 n1 : Int), .int .u64 (l2 n1 : Int), .int .u64 (l3 n1 : Int), .bool (sg m1), .int .u64 (l0 m1 : Int), .int .u64 (l1 m1 : Int), .int .u64 (l2 m1 : Int), .int .u64 (l3 m1 : Int)], .agg #[.bool (sg n2), .int .u64 (l0 n2 : Int), .int .u64 (l1 n2 : Int), .int .u64 (l2 n2 : Int), .int .u64 (l3 n2 : Int), .bool (sg m2), .int .u64 (l0 m2 : Int), .int .u64 (l1 m2 : Int), .int .u64 (l2 m2 : Int), .int .u64 (l3 m2 : Int)]] w (Ret (.bool s) w)) := fun w => s_simpler h1 h2 s hs w
  have kT : Hid (∀ w, Calls Try.prog 74 #[.agg #[.bool (sg n1), .int .u64 (l0 n1 : Int), .int .u64 (l1 n1 : Int), .int .u64 (l2 n1 : Int), .int .u64 (l3 n1 : Int), .bool (sg m1), .int .u64 (l0 m1 : Int), .int .u64 (l1 m1 : Int), .int .u64 (l2 m1 : Int), .int .u64 (l3 m1 : Int)], .agg #[.bool (sg n2), .int .u64 (l0 n2 : Int), .int .u64 (l1 n2 : Int), .int .u64 (l2 n2 : Int), .int .u64 (l3 n2 : Int), .bool (sg m2), .int .u64 (l0 m2 : Int), .int .u64 (l1 m2 : Int), .int .u64 (l2 m2 : Int), .int .u64 (l3 m2 : Int)]] w (Ret (.bool s) w)) := fun w => q_simpler h1 h2 s hs w
  clear h1 h2 hs hle B
  obtain ⟨W0, hW0⟩ : ∃ W0, W0 = ((w.alloc (.cells #[.bool (sg n1), .int .u64 (l0 n1 : Int), .int .u64 (l1 n1 : Int), .int .u64 (l2 n1 : Int), .int .u64 (l3 n1 : Int), .bool (sg m1), .int .u64 (l0 m1 : Int), .int .u64 (l1 m1 : Int), .int .u64 (l2 m1 : Int), .int .u64 (l3 m1 : Int)] 35)).alloc (.cells #[.bool (sg n2), .int .u64 (l0 n2 : Int), .int .u64 (l1 n2 : Int), .int .u64 (l2 n2 : Int), .int .u64 (l3 n2 : Int), .bool (sg m2), .int .u64 (l0 m2 : Int), .int .u64 (l1 m2 : Int), .int .u64 (l2 m2 : Int), .int .u64 (l3 m2 : Int)] 35)) := ⟨_, rfl⟩
  have H2 := two_blocks w (.cells #[.bool (sg n1), .int .u64 (l0 n1 : Int), .int .u64 (l1 n1 : Int), .int .u64 (l2 n1 : Int), .int .u64 (l3 n1 : Int), .bool (sg m1), .int .u64 (l0 m1 : Int), .int .u64 (l1 m1 : Int), .int .u64 (l2 m1 : Int), .int .u64 (l3 m1 : Int)] 35) (.cells #[.bool (sg n2), .int .u64 (l0 n2 : Int), .int .u64 (l1 n2 : Int), .int .u64 (l2 n2 : Int), .int .u64 (l3 n2 : Int), .bool (sg m2), .int .u64 (l0 m2 : Int), .int .u64 (l1 m2 : Int), .int .u64 (l2 m2 : Int), .int .u64 (l3 m2 : Int)] 35)
  have EE0 : Ext w W0 := by rw [hW0]; exact ((ext_alloc _ _).trans (ext_alloc _ _))
  rw [← hW0] at H2
  have EE := hide EE0
  have HW := hide hW0
  obtain ⟨P2, P3⟩ : Box10 W0 (w.heap.size) (sg n1) (l0 n1) (l1 n1) (l2 n1) (l3 n1) (sg m1) (l0 m1) (l1 m1) (l2 m1) (l3 m1) ∧ Box10 W0 ((w.heap.size + 1)) (sg n2) (l0 n2) (l1 n2) (l2 n2) (l3 n2) (sg m2) (l0 m2) (l1 m2) (l2 m2) (l3 m2) := H2
  clear hW0 EE0
  go_enter Try.func26, Try.ntmps26
  go_upto_region 1 with fail
  rw [← HW.out]
  clear HW
  have hg0 : w.heap.size ≤ w.heap.size := Nat.le_refl _
  obtain ⟨g0, hg⟩ : ∃ g, w.heap.size = g := ⟨_, rfl⟩
  rw [hg] at P2 P3 ⊢
  replace hg0 : w.heap.size ≤ g0 := Nat.le_of_eq hg
  clear hg
  obtain ⟨xP20, xP21, xP22, xP23, xP24, xP25, xP26, xP27, xP28, xP29, -⟩ := ten_cells P2; obtain ⟨xP30, xP31, xP32, xP33, xP34, xP35, xP36, xP37, xP38, xP39, -⟩ := ten_cells P3
  go_upto_region 2 with (go_at_call 27; (with_reducible refine (kB.out _).mono ?_); rintro e w1 ⟨rfl, hE⟩; clear xP20 xP21 xP22 xP23 xP24 xP25 xP26 xP27 xP28 xP29 xP30 xP31 xP32 xP33 xP34 xP35 xP36 xP37 xP38 xP39; have P2 := P2.ext hE; have P3 := P3.ext hE; have EE := hide (EE.out.trans hE); clear hE; obtain ⟨xP20, xP21, xP22, xP23, xP24, xP25, xP26, xP27, xP28, xP29, -⟩ := ten_cells P2; obtain ⟨xP30, xP31, xP32, xP33, xP34, xP35, xP36, xP37, xP38, xP39, -⟩ := ten_cells P3)
  clear xP20 xP21 xP22 xP23 xP24 xP25 xP26 xP27 xP28 xP29 xP30 xP31 xP32 xP33 xP34 xP35 xP36 xP37 xP38 xP39
  have H2 := heap_alloc_new w1 (.cells #[.bool (sg n), .int .u64 (l0 n : Int), .int .u64 (l1 n : Int), .int .u64 (l2 n : Int), .int .u64 (l3 n : Int), .bool (sg m), .int .u64 (l0 m : Int), .int .u64 (l1 m : Int), .int .u64 (l2 m : Int), .int .u64 (l3 m : Int)] 35)
  have lP2 := P2.lt
  have lP3 := P3.lt
  have hE := (ext_alloc w1 (.cells #[.bool (sg n), .int .u64 (l0 n : Int), .int .u64 (l1 n : Int), .int .u64 (l2 n : Int), .int .u64 (l3 n : Int), .bool (sg m), .int .u64 (l0 m : Int), .int .u64 (l1 m : Int), .int .u64 (l2 m : Int), .int .u64 (l3 m : Int)] 35))
  have P2 := P2.ext hE
  have P3 := P3.ext hE
  have EE := hide (EE.out.trans hE)
  clear hE
  obtain ⟨W2, hW⟩ : ∃ W, W = (w1.alloc (.cells #[.bool (sg n), .int .u64 (l0 n : Int), .int .u64 (l1 n : Int), .int .u64 (l2 n : Int), .int .u64 (l3 n : Int), .bool (sg m), .int .u64 (l0 m : Int), .int .u64 (l1 m : Int), .int .u64 (l2 m : Int), .int .u64 (l3 m : Int)] 35)) := ⟨_, rfl⟩
  rw [← hW] at H2 EE P2 P3 ⊢
  obtain ⟨g3, hg⟩ : ∃ g, w1.heap.size = g := ⟨_, rfl⟩
  rw [hg] at H2 lP2 lP3 ⊢
  have P5 : Box10 W2 g3 (sg n) (l0 n) (l1 n) (l2 n) (l3 n) (sg m) (l0 m) (l1 m) (l2 m) (l3 m) := H2
  clear hW hg
  have ngP2P5 : g0 ≠ g3 := by omega
  have ngP3P5 : g0 + 1 ≠ g3 := by omega
  obtain ⟨xP20, xP21, xP22, xP23, xP24, xP25, xP26, xP27, xP28, xP29, -⟩ := ten_cells P2; obtain ⟨xP30, xP31, xP32, xP33, xP34, xP35, xP36, xP37, xP38, xP39, -⟩ := ten_cells P3
  go_upto_region 3 with (go_at_call 73; (with_reducible refine (kC.out _).mono ?_); rintro e w4 ⟨rfl, hE⟩; clear xP20 xP21 xP22 xP23 xP24 xP25 xP26 xP27 xP28 xP29 xP30 xP31 xP32 xP33 xP34 xP35 xP36 xP37 xP38 xP39; have P2 := P2.ext hE; have P3 := P3.ext hE; have P5 := P5.ext hE; have EE := hide (EE.out.trans hE); clear hE; obtain ⟨xP20, xP21, xP22, xP23, xP24, xP25, xP26, xP27, xP28, xP29, -⟩ := ten_cells P2; obtain ⟨xP30, xP31, xP32, xP33, xP34, xP35, xP36, xP37, xP38, xP39, -⟩ := ten_cells P3)
  clear xP20 xP21 xP22 xP23 xP24 xP25 xP26 xP27 xP28 xP29 xP30 xP31 xP32 xP33 xP34 xP35 xP36 xP37 xP38 xP39
  have H2 := heap_alloc_new w4 (.cells #[.bool (sg n), .int .u64 (l0 n : Int), .int .u64 (l1 n : Int), .int .u64 (l2 n : Int), .int .u64 (l3 n : Int), .bool (sg m), .int .u64 (l0 m : Int), .int .u64 (l1 m : Int), .int .u64 (l2 m : Int), .int .u64 (l3 m : Int)] 35)
  have lP2 := P2.lt
  have lP3 := P3.lt
  have lP5 := P5.lt
  have hE := (ext_alloc w4 (.cells #[.bool (sg n), .int .u64 (l0 n : Int), .int .u64 (l1 n : Int), .int .u64 (l2 n : Int), .int .u64 (l3 n : Int), .bool (sg m), .int .u64 (l0 m : Int), .int .u64 (l1 m : Int), .int .u64 (l2 m : Int), .int .u64 (l3 m : Int)] 35))
  have P2 := P2.ext hE
  have P3 := P3.ext hE
  have P5 := P5.ext hE
  have EE := hide (EE.out.trans hE)
  clear hE
  obtain ⟨W5, hW⟩ : ∃ W, W = (w4.alloc (.cells #[.bool (sg n), .int .u64 (l0 n : Int), .int .u64 (l1 n : Int), .int .u64 (l2 n : Int), .int .u64 (l3 n : Int), .bool (sg m), .int .u64 (l0 m : Int), .int .u64 (l1 m : Int), .int .u64 (l2 m : Int), .int .u64 (l3 m : Int)] 35)) := ⟨_, rfl⟩
  rw [← hW] at H2 EE P2 P3 P5 ⊢
  obtain ⟨g6, hg⟩ : ∃ g, w4.heap.size = g := ⟨_, rfl⟩
  rw [hg] at H2 lP2 lP3 lP5 ⊢
  have P7 : Box10 W5 g6 (sg n) (l0 n) (l1 n) (l2 n) (l3 n) (sg m) (l0 m) (l1 m) (l2 m) (l3 m) := H2
  clear hW hg
  have ngP2P7 : g0 ≠ g6 := by omega
  have ngP3P7 : g0 + 1 ≠ g6 := by omega
  have ngP5P7 : g3 ≠ g6 := by omega
  have qe := eqRs n m
  have qb : ∀ w', (binOp .eql 4 (.bool s) (.bool s)).run Try.prog w' = .ok (.bool true) w' := by intro w'; cases s <;> rfl
  obtain ⟨yP20, yP21, yP22, yP23, yP24, yP25, yP26, yP27, yP28, yP29, yP2f0, yP2f1, yP2f2, yP2f3, yP2f4, yP2f5, yP2f6, yP2f7, yP2f8, yP2f9⟩ := ten_cells P2
  clear yP2f0 yP2f1 yP2f2 yP2f3 yP2f4 yP2f5 yP2f6 yP2f7 yP2f8 yP2f9
  replace yP20 := cellR yP20
  replace yP21 := cellR yP21
  replace yP22 := cellR yP22
  replace yP23 := cellR yP23
  replace yP24 := cellR yP24
  replace yP25 := cellR yP25
  replace yP26 := cellR yP26
  replace yP27 := cellR yP27
  replace yP28 := cellR yP28
  replace yP29 := cellR yP29
  obtain ⟨yP30, yP31, yP32, yP33, yP34, yP35, yP36, yP37, yP38, yP39, yP3f0, yP3f1, yP3f2, yP3f3, yP3f4, yP3f5, yP3f6, yP3f7, yP3f8, yP3f9⟩ := ten_cells P3
  clear yP3f0 yP3f1 yP3f2 yP3f3 yP3f4 yP3f5 yP3f6 yP3f7 yP3f8 yP3f9
  replace yP30 := cellR yP30
  replace yP31 := cellR yP31
  replace yP32 := cellR yP32
  replace yP33 := cellR yP33
  replace yP34 := cellR yP34
  replace yP35 := cellR yP35
  replace yP36 := cellR yP36
  replace yP37 := cellR yP37
  replace yP38 := cellR yP38
  replace yP39 := cellR yP39
  obtain ⟨yP50, yP51, yP52, yP53, yP54, yP55, yP56, yP57, yP58, yP59, yP5f0, yP5f1, yP5f2, yP5f3, yP5f4, yP5f5, yP5f6, yP5f7, yP5f8, yP5f9⟩ := ten_cells P5
  clear yP5f0 yP5f1 yP5f2 yP5f3 yP5f4 yP5f5 yP5f6 yP5f7 yP5f8 yP5f9
  replace yP50 := cellR yP50
  replace yP51 := cellR yP51
  replace yP52 := cellR yP52
  replace yP53 := cellR yP53
  replace yP54 := cellR yP54
  replace yP55 := cellR yP55
  replace yP56 := cellR yP56
  replace yP57 := cellR yP57
  replace yP58 := cellR yP58
  replace yP59 := cellR yP59
  obtain ⟨yP70, yP71, yP72, yP73, yP74, yP75, yP76, yP77, yP78, yP79, yP7f0, yP7f1, yP7f2, yP7f3, yP7f4, yP7f5, yP7f6, yP7f7, yP7f8, yP7f9⟩ := ten_cells P7
  clear yP7f0 yP7f1 yP7f2 yP7f3 yP7f4 yP7f5 yP7f6 yP7f7 yP7f8 yP7f9
  replace yP70 := cellR yP70
  replace yP71 := cellR yP71
  replace yP72 := cellR yP72
  replace yP73 := cellR yP73
  replace yP74 := cellR yP74
  replace yP75 := cellR yP75
  replace yP76 := cellR yP76
  replace yP77 := cellR yP77
  replace yP78 := cellR yP78
  replace yP79 := cellR yP79
  refine wp_region_quiet_below (by kernel_rfl) (by kernel_rfl) ?_
  repeat (first | go_big_quiet_step (first | with_reducible exact quiet_ret (kS.out _) | with_reducible exact quiet_ret (kT.out _)) | quiet_step (first | with_reducible exact quiet_ret (kS.out _) | with_reducible exact quiet_ret (kT.out _)))
  refine wpQuiet_nil ?_
  intro _ hw'
  obtain ⟨⟨dq, osq⟩, hw''⟩ := hw'
  subst hw''
  clear yP20 yP21 yP22 yP23 yP24 yP25 yP26 yP27 yP28 yP29 yP30 yP31 yP32 yP33 yP34 yP35 yP36 yP37 yP38 yP39 yP50 yP51 yP52 yP53 yP54 yP55 yP56 yP57 yP58 yP59 yP70 yP71 yP72 yP73 yP74 yP75 yP76 yP77 yP78 yP79
  have hE := ext_regrown W5 dq osq
  have P2 := P2.ext hE
  have P3 := P3.ext hE
  have P5 := P5.ext hE
  have P7 := P7.ext hE
  have EE := hide (EE.out.trans hE)
  clear hE
  generalize grow (redrawn W5 dq) osq = W5q at *
  go_wp2_with fail
  go_ret
  exact ⟨rfl, EE.out⟩
set_option maxRecDepth 100000 in
set_option maxHeartbeats 8000000 in
theorem l_alike_gt {n1 m1 n2 m2 : Int} (h1 : Frac n1 m1) (h2 : Frac n2 m2) (hgt : n2 * m1 < n1 * m2) (w : World) : Calls Try.prog 26 #[.agg #[.bool (sg n1), .int .u64 (l0 n1 : Int), .int .u64 (l1 n1 : Int), .int .u64 (l2 n1 : Int), .int .u64 (l3 n1 : Int), .bool (sg m1), .int .u64 (l0 m1 : Int), .int .u64 (l1 m1 : Int), .int .u64 (l2 m1 : Int), .int .u64 (l3 m1 : Int)], .agg #[.bool (sg n2), .int .u64 (l0 n2 : Int), .int .u64 (l1 n2 : Int), .int .u64 (l2 n2 : Int), .int .u64 (l3 n2 : Int), .bool (sg m2), .int .u64 (l0 m2 : Int), .int .u64 (l1 m2 : Int), .int .u64 (l2 m2 : Int), .int .u64 (l3 m2 : Int)]] w (Ret (.bool true) w) := by
  obtain ⟨s, hs⟩ : ∃ s, simB n1 m1 n2 m2 = s := ⟨_, rfl⟩
  have kB : Hid (∀ w, Calls Try.prog 27 #[.agg #[.bool (sg n1), .int .u64 (l0 n1 : Int), .int .u64 (l1 n1 : Int), .int .u64 (l2 n1 : Int), .int .u64 (l3 n1 : Int), .bool (sg m1), .int .u64 (l0 m1 : Int), .int .u64 (l1 m1 : Int), .int .u64 (l2 m1 : Int), .int .u64 (l3 m1 : Int)], .agg #[.bool (sg n2), .int .u64 (l0 n2 : Int), .int .u64 (l1 n2 : Int), .int .u64 (l2 n2 : Int), .int .u64 (l3 n2 : Int), .bool (sg m2), .int .u64 (l0 m2 : Int), .int .u64 (l1 m2 : Int), .int .u64 (l2 m2 : Int), .int .u64 (l3 m2 : Int)]] w (Ret (.tuple #[.agg #[.bool false, .int .u64 0, .int .u64 0, .int .u64 0, .int .u64 0, .bool false, .int .u64 0, .int .u64 0, .int .u64 0, .int .u64 0], .bool false]) w)) := fun w => s_between_gt h1 h2 hgt w
  have kC : Hid (∀ w, Calls Try.prog 73 #[.agg #[.bool (sg n1), .int .u64 (l0 n1 : Int), .int .u64 (l1 n1 : Int), .int .u64 (l2 n1 : Int), .int .u64 (l3 n1 : Int), .bool (sg m1), .int .u64 (l0 m1 : Int), .int .u64 (l1 m1 : Int), .int .u64 (l2 m1 : Int), .int .u64 (l3 m1 : Int)], .agg #[.bool (sg n2), .int .u64 (l0 n2 : Int), .int .u64 (l1 n2 : Int), .int .u64 (l2 n2 : Int), .int .u64 (l3 n2 : Int), .bool (sg m2), .int .u64 (l0 m2 : Int), .int .u64 (l1 m2 : Int), .int .u64 (l2 m2 : Int), .int .u64 (l3 m2 : Int)]] w (Ret (.tuple #[.agg #[.bool false, .int .u64 0, .int .u64 0, .int .u64 0, .int .u64 0, .bool false, .int .u64 0, .int .u64 0, .int .u64 0, .int .u64 0], .bool false]) w)) := fun w => q_between_gt h1 h2 hgt w
  have kS : Hid (∀ w, Calls Try.prog 30 #[.agg #[.bool (sg n1), .int .u64 (l0 n1 : Int), .int .u64 (l1 n1 : Int), .int .u64 (l2 n1 : Int), .int .u64 (l3 n1 : Int), .bool (sg m1), .int .u64 (l0 m1 : Int), .int .u64 (l1 m1 : Int), .int .u64 (l2 m1 : Int), .int .u64 (l3 m1 : Int)], .agg #[.bool (sg n2), .int .u64 (l0 n2 : Int), .int .u64 (l1 n2 : Int), .int .u64 (l2 n2 : Int), .int .u64 (l3 n2 : Int), .bool (sg m2), .int .u64 (l0 m2 : Int), .int .u64 (l1 m2 : Int), .int .u64 (l2 m2 : Int), .int .u64 (l3 m2 : Int)]] w (Ret (.bool s) w)) := fun w => s_simpler h1 h2 s hs w
  have kT : Hid (∀ w, Calls Try.prog 74 #[.agg #[.bool (sg n1), .int .u64 (l0 n1 : Int), .int .u64 (l1 n1 : Int), .int .u64 (l2 n1 : Int), .int .u64 (l3 n1 : Int), .bool (sg m1), .int .u64 (l0 m1 : Int), .int .u64 (l1 m1 : Int), .int .u64 (l2 m1 : Int), .int .u64 (l3 m1 : Int)], .agg #[.bool (sg n2), .int .u64 (l0 n2 : Int), .int .u64 (l1 n2 : Int), .int .u64 (l2 n2 : Int), .int .u64 (l3 n2 : Int), .bool (sg m2), .int .u64 (l0 m2 : Int), .int .u64 (l1 m2 : Int), .int .u64 (l2 m2 : Int), .int .u64 (l3 m2 : Int)]] w (Ret (.bool s) w)) := fun w => q_simpler h1 h2 s hs w
  clear h1 h2 hs hgt
  obtain ⟨W0, hW0⟩ : ∃ W0, W0 = ((w.alloc (.cells #[.bool (sg n1), .int .u64 (l0 n1 : Int), .int .u64 (l1 n1 : Int), .int .u64 (l2 n1 : Int), .int .u64 (l3 n1 : Int), .bool (sg m1), .int .u64 (l0 m1 : Int), .int .u64 (l1 m1 : Int), .int .u64 (l2 m1 : Int), .int .u64 (l3 m1 : Int)] 35)).alloc (.cells #[.bool (sg n2), .int .u64 (l0 n2 : Int), .int .u64 (l1 n2 : Int), .int .u64 (l2 n2 : Int), .int .u64 (l3 n2 : Int), .bool (sg m2), .int .u64 (l0 m2 : Int), .int .u64 (l1 m2 : Int), .int .u64 (l2 m2 : Int), .int .u64 (l3 m2 : Int)] 35)) := ⟨_, rfl⟩
  have H2 := two_blocks w (.cells #[.bool (sg n1), .int .u64 (l0 n1 : Int), .int .u64 (l1 n1 : Int), .int .u64 (l2 n1 : Int), .int .u64 (l3 n1 : Int), .bool (sg m1), .int .u64 (l0 m1 : Int), .int .u64 (l1 m1 : Int), .int .u64 (l2 m1 : Int), .int .u64 (l3 m1 : Int)] 35) (.cells #[.bool (sg n2), .int .u64 (l0 n2 : Int), .int .u64 (l1 n2 : Int), .int .u64 (l2 n2 : Int), .int .u64 (l3 n2 : Int), .bool (sg m2), .int .u64 (l0 m2 : Int), .int .u64 (l1 m2 : Int), .int .u64 (l2 m2 : Int), .int .u64 (l3 m2 : Int)] 35)
  have EE0 : Ext w W0 := by rw [hW0]; exact ((ext_alloc _ _).trans (ext_alloc _ _))
  rw [← hW0] at H2
  have EE := hide EE0
  have HW := hide hW0
  obtain ⟨P2, P3⟩ : Box10 W0 (w.heap.size) (sg n1) (l0 n1) (l1 n1) (l2 n1) (l3 n1) (sg m1) (l0 m1) (l1 m1) (l2 m1) (l3 m1) ∧ Box10 W0 ((w.heap.size + 1)) (sg n2) (l0 n2) (l1 n2) (l2 n2) (l3 n2) (sg m2) (l0 m2) (l1 m2) (l2 m2) (l3 m2) := H2
  clear hW0 EE0
  go_enter Try.func26, Try.ntmps26
  go_upto_region 1 with fail
  rw [← HW.out]
  clear HW
  have hg0 : w.heap.size ≤ w.heap.size := Nat.le_refl _
  obtain ⟨g0, hg⟩ : ∃ g, w.heap.size = g := ⟨_, rfl⟩
  rw [hg] at P2 P3 ⊢
  replace hg0 : w.heap.size ≤ g0 := Nat.le_of_eq hg
  clear hg
  obtain ⟨xP20, xP21, xP22, xP23, xP24, xP25, xP26, xP27, xP28, xP29, -⟩ := ten_cells P2; obtain ⟨xP30, xP31, xP32, xP33, xP34, xP35, xP36, xP37, xP38, xP39, -⟩ := ten_cells P3
  go_upto_region 2 with (go_at_call 27; (with_reducible refine (kB.out _).mono ?_); rintro e w1 ⟨rfl, hE⟩; clear xP20 xP21 xP22 xP23 xP24 xP25 xP26 xP27 xP28 xP29 xP30 xP31 xP32 xP33 xP34 xP35 xP36 xP37 xP38 xP39; have P2 := P2.ext hE; have P3 := P3.ext hE; have EE := hide (EE.out.trans hE); clear hE; obtain ⟨xP20, xP21, xP22, xP23, xP24, xP25, xP26, xP27, xP28, xP29, -⟩ := ten_cells P2; obtain ⟨xP30, xP31, xP32, xP33, xP34, xP35, xP36, xP37, xP38, xP39, -⟩ := ten_cells P3)
  clear xP20 xP21 xP22 xP23 xP24 xP25 xP26 xP27 xP28 xP29 xP30 xP31 xP32 xP33 xP34 xP35 xP36 xP37 xP38 xP39
  have H2 := heap_alloc_new w1 (.cells #[.bool false, .int .u64 0, .int .u64 0, .int .u64 0, .int .u64 0, .bool false, .int .u64 0, .int .u64 0, .int .u64 0, .int .u64 0] 35)
  have lP2 := P2.lt
  have lP3 := P3.lt
  have hE := (ext_alloc w1 (.cells #[.bool false, .int .u64 0, .int .u64 0, .int .u64 0, .int .u64 0, .bool false, .int .u64 0, .int .u64 0, .int .u64 0, .int .u64 0] 35))
  have P2 := P2.ext hE
  have P3 := P3.ext hE
  have EE := hide (EE.out.trans hE)
  clear hE
  obtain ⟨W2, hW⟩ : ∃ W, W = (w1.alloc (.cells #[.bool false, .int .u64 0, .int .u64 0, .int .u64 0, .int .u64 0, .bool false, .int .u64 0, .int .u64 0, .int .u64 0, .int .u64 0] 35)) := ⟨_, rfl⟩
  rw [← hW] at H2 EE P2 P3 ⊢
  obtain ⟨g3, hg⟩ : ∃ g, w1.heap.size = g := ⟨_, rfl⟩
  rw [hg] at H2 lP2 lP3 ⊢
  have P5 : Box10 W2 g3 false 0 0 0 0 false 0 0 0 0 := H2
  clear hW hg
  have ngP2P5 : g0 ≠ g3 := by omega
  have ngP3P5 : g0 + 1 ≠ g3 := by omega
  obtain ⟨xP20, xP21, xP22, xP23, xP24, xP25, xP26, xP27, xP28, xP29, -⟩ := ten_cells P2; obtain ⟨xP30, xP31, xP32, xP33, xP34, xP35, xP36, xP37, xP38, xP39, -⟩ := ten_cells P3
  go_upto_region 3 with (go_at_call 73; (with_reducible refine (kC.out _).mono ?_); rintro e w4 ⟨rfl, hE⟩; clear xP20 xP21 xP22 xP23 xP24 xP25 xP26 xP27 xP28 xP29 xP30 xP31 xP32 xP33 xP34 xP35 xP36 xP37 xP38 xP39; have P2 := P2.ext hE; have P3 := P3.ext hE; have P5 := P5.ext hE; have EE := hide (EE.out.trans hE); clear hE; obtain ⟨xP20, xP21, xP22, xP23, xP24, xP25, xP26, xP27, xP28, xP29, -⟩ := ten_cells P2; obtain ⟨xP30, xP31, xP32, xP33, xP34, xP35, xP36, xP37, xP38, xP39, -⟩ := ten_cells P3)
  clear xP20 xP21 xP22 xP23 xP24 xP25 xP26 xP27 xP28 xP29 xP30 xP31 xP32 xP33 xP34 xP35 xP36 xP37 xP38 xP39
  have H2 := heap_alloc_new w4 (.cells #[.bool false, .int .u64 0, .int .u64 0, .int .u64 0, .int .u64 0, .bool false, .int .u64 0, .int .u64 0, .int .u64 0, .int .u64 0] 35)
  have lP2 := P2.lt
  have lP3 := P3.lt
  have lP5 := P5.lt
  have hE := (ext_alloc w4 (.cells #[.bool false, .int .u64 0, .int .u64 0, .int .u64 0, .int .u64 0, .bool false, .int .u64 0, .int .u64 0, .int .u64 0, .int .u64 0] 35))
  have P2 := P2.ext hE
  have P3 := P3.ext hE
  have P5 := P5.ext hE
  have EE := hide (EE.out.trans hE)
  clear hE
  obtain ⟨W5, hW⟩ : ∃ W, W = (w4.alloc (.cells #[.bool false, .int .u64 0, .int .u64 0, .int .u64 0, .int .u64 0, .bool false, .int .u64 0, .int .u64 0, .int .u64 0, .int .u64 0] 35)) := ⟨_, rfl⟩
  rw [← hW] at H2 EE P2 P3 P5 ⊢
  obtain ⟨g6, hg⟩ : ∃ g, w4.heap.size = g := ⟨_, rfl⟩
  rw [hg] at H2 lP2 lP3 lP5 ⊢
  have P7 : Box10 W5 g6 false 0 0 0 0 false 0 0 0 0 := H2
  clear hW hg
  have ngP2P7 : g0 ≠ g6 := by omega
  have ngP3P7 : g0 + 1 ≠ g6 := by omega
  have ngP5P7 : g3 ≠ g6 := by omega
  have qe := eqZZ
  have qb : ∀ w', (binOp .eql 4 (.bool s) (.bool s)).run Try.prog w' = .ok (.bool true) w' := by intro w'; cases s <;> rfl
  obtain ⟨yP20, yP21, yP22, yP23, yP24, yP25, yP26, yP27, yP28, yP29, yP2f0, yP2f1, yP2f2, yP2f3, yP2f4, yP2f5, yP2f6, yP2f7, yP2f8, yP2f9⟩ := ten_cells P2
  clear yP2f0 yP2f1 yP2f2 yP2f3 yP2f4 yP2f5 yP2f6 yP2f7 yP2f8 yP2f9
  replace yP20 := cellR yP20
  replace yP21 := cellR yP21
  replace yP22 := cellR yP22
  replace yP23 := cellR yP23
  replace yP24 := cellR yP24
  replace yP25 := cellR yP25
  replace yP26 := cellR yP26
  replace yP27 := cellR yP27
  replace yP28 := cellR yP28
  replace yP29 := cellR yP29
  obtain ⟨yP30, yP31, yP32, yP33, yP34, yP35, yP36, yP37, yP38, yP39, yP3f0, yP3f1, yP3f2, yP3f3, yP3f4, yP3f5, yP3f6, yP3f7, yP3f8, yP3f9⟩ := ten_cells P3
  clear yP3f0 yP3f1 yP3f2 yP3f3 yP3f4 yP3f5 yP3f6 yP3f7 yP3f8 yP3f9
  replace yP30 := cellR yP30
  replace yP31 := cellR yP31
  replace yP32 := cellR yP32
  replace yP33 := cellR yP33
  replace yP34 := cellR yP34
  replace yP35 := cellR yP35
  replace yP36 := cellR yP36
  replace yP37 := cellR yP37
  replace yP38 := cellR yP38
  replace yP39 := cellR yP39
  obtain ⟨yP50, yP51, yP52, yP53, yP54, yP55, yP56, yP57, yP58, yP59, yP5f0, yP5f1, yP5f2, yP5f3, yP5f4, yP5f5, yP5f6, yP5f7, yP5f8, yP5f9⟩ := ten_cells P5
  clear yP5f0 yP5f1 yP5f2 yP5f3 yP5f4 yP5f5 yP5f6 yP5f7 yP5f8 yP5f9
  replace yP50 := cellR yP50
  replace yP51 := cellR yP51
  replace yP52 := cellR yP52
  replace yP53 := cellR yP53
  replace yP54 := cellR yP54
  replace yP55 := cellR yP55
  replace yP56 := cellR yP56
  replace yP57 := cellR yP57
  replace yP58 := cellR yP58
  replace yP59 := cellR yP59
  obtain ⟨yP70, yP71, yP72, yP73, yP74, yP75, yP76, yP77, yP78, yP79, yP7f0, yP7f1, yP7f2, yP7f3, yP7f4, yP7f5, yP7f6, yP7f7, yP7f8, yP7f9⟩ := ten_cells P7
  clear yP7f0 yP7f1 yP7f2 yP7f3 yP7f4 yP7f5 yP7f6 yP7f7 yP7f8 yP7f9
  replace yP70 := cellR yP70
  replace yP71 := cellR yP71
  replace yP72 := cellR yP72
  replace yP73 := cellR yP73
  replace yP74 := cellR yP74
  replace yP75 := cellR yP75
  replace yP76 := cellR yP76
  replace yP77 := cellR yP77
  replace yP78 := cellR yP78
  replace yP79 := cellR yP79
  refine wp_region_quiet_below (by kernel_rfl) (by kernel_rfl) ?_
  repeat (first | go_big_quiet_step (first | with_reducible exact quiet_ret (kS.out _) | with_reducible exact quiet_ret (kT.out _)) | quiet_step (first | with_reducible exact quiet_ret (kS.out _) | with_reducible exact quiet_ret (kT.out _)))
  refine wpQuiet_nil ?_
  intro _ hw'
  obtain ⟨⟨dq, osq⟩, hw''⟩ := hw'
  subst hw''
  clear yP20 yP21 yP22 yP23 yP24 yP25 yP26 yP27 yP28 yP29 yP30 yP31 yP32 yP33 yP34 yP35 yP36 yP37 yP38 yP39 yP50 yP51 yP52 yP53 yP54 yP55 yP56 yP57 yP58 yP59 yP70 yP71 yP72 yP73 yP74 yP75 yP76 yP77 yP78 yP79
  have hE := ext_regrown W5 dq osq
  have P2 := P2.ext hE
  have P3 := P3.ext hE
  have P5 := P5.ext hE
  have P7 := P7.ext hE
  have EE := hide (EE.out.trans hE)
  clear hE
  generalize grow (redrawn W5 dq) osq = W5q at *
  go_wp2_with fail
  go_ret
  exact ⟨rfl, EE.out⟩
set_option maxRecDepth 100000 in
set_option maxHeartbeats 8000000 in
theorem l_alike_no (s1 : Bool) (a1 b1 c1 d1 : Nat) (t1 : Bool) (e1 f1 g1 h1 : Nat) (n1 m1 : Int) (s2 : Bool) (a2 b2 c2 d2 : Nat) (t2 : Bool) (e2 f2 g2 h2 : Nat) (n2 m2 : Int) (w : World) (hx1 : IsW s1 a1 b1 c1 d1 n1) (hy1 : IsW t1 e1 f1 g1 h1 m1) (hx2 : IsW s2 a2 b2 c2 d2 n2) (hy2 : IsW t2 e2 f2 g2 h2 m2) (o1 o2 : Bool) (ho1 : decide (RatOk s1 n1 t1 m1) = o1) (ho2 : decide (RatOk s2 n2 t2 m2) = o2) (hno : (o1 && o2) = false) : Calls Try.prog 26 #[.agg #[.bool s1, .int .u64 (a1 : Int), .int .u64 (b1 : Int), .int .u64 (c1 : Int), .int .u64 (d1 : Int), .bool t1, .int .u64 (e1 : Int), .int .u64 (f1 : Int), .int .u64 (g1 : Int), .int .u64 (h1 : Int)], .agg #[.bool s2, .int .u64 (a2 : Int), .int .u64 (b2 : Int), .int .u64 (c2 : Int), .int .u64 (d2 : Int), .bool t2, .int .u64 (e2 : Int), .int .u64 (f2 : Int), .int .u64 (g2 : Int), .int .u64 (h2 : Int)]] w (Ret (.bool true) w) := by
  have kB : Hid (∀ w, Calls Try.prog 27 #[.agg #[.bool s1, .int .u64 (a1 : Int), .int .u64 (b1 : Int), .int .u64 (c1 : Int), .int .u64 (d1 : Int), .bool t1, .int .u64 (e1 : Int), .int .u64 (f1 : Int), .int .u64 (g1 : Int), .int .u64 (h1 : Int)], .agg #[.bool s2, .int .u64 (a2 : Int), .int .u64 (b2 : Int), .int .u64 (c2 : Int), .int .u64 (d2 : Int), .bool t2, .int .u64 (e2 : Int), .int .u64 (f2 : Int), .int .u64 (g2 : Int), .int .u64 (h2 : Int)]] w (Ret (.tuple #[.agg #[.bool false, .int .u64 0, .int .u64 0, .int .u64 0, .int .u64 0, .bool false, .int .u64 0, .int .u64 0, .int .u64 0, .int .u64 0], .bool false]) w)) := fun w => s_between_no _ _ _ _ _ _ _ _ _ _ _ _ _ _ _ _ _ _ _ _ _ _ _ _ w hx1 hy1 hx2 hy2 o1 o2 ho1 ho2 hno
  have kC : Hid (∀ w, Calls Try.prog 73 #[.agg #[.bool s1, .int .u64 (a1 : Int), .int .u64 (b1 : Int), .int .u64 (c1 : Int), .int .u64 (d1 : Int), .bool t1, .int .u64 (e1 : Int), .int .u64 (f1 : Int), .int .u64 (g1 : Int), .int .u64 (h1 : Int)], .agg #[.bool s2, .int .u64 (a2 : Int), .int .u64 (b2 : Int), .int .u64 (c2 : Int), .int .u64 (d2 : Int), .bool t2, .int .u64 (e2 : Int), .int .u64 (f2 : Int), .int .u64 (g2 : Int), .int .u64 (h2 : Int)]] w (Ret (.tuple #[.agg #[.bool false, .int .u64 0, .int .u64 0, .int .u64 0, .int .u64 0, .bool false, .int .u64 0, .int .u64 0, .int .u64 0, .int .u64 0], .bool false]) w)) := fun w => q_between_no _ _ _ _ _ _ _ _ _ _ _ _ _ _ _ _ _ _ _ _ _ _ _ _ w hx1 hy1 hx2 hy2 o1 o2 ho1 ho2 hno
  have kS : Hid (∀ w, Calls Try.prog 30 #[.agg #[.bool s1, .int .u64 (a1 : Int), .int .u64 (b1 : Int), .int .u64 (c1 : Int), .int .u64 (d1 : Int), .bool t1, .int .u64 (e1 : Int), .int .u64 (f1 : Int), .int .u64 (g1 : Int), .int .u64 (h1 : Int)], .agg #[.bool s2, .int .u64 (a2 : Int), .int .u64 (b2 : Int), .int .u64 (c2 : Int), .int .u64 (d2 : Int), .bool t2, .int .u64 (e2 : Int), .int .u64 (f2 : Int), .int .u64 (g2 : Int), .int .u64 (h2 : Int)]] w (Ret (.bool false) w)) := fun w => s_simpler_no _ _ _ _ _ _ _ _ _ _ _ _ _ _ _ _ _ _ _ _ _ _ _ _ w hx1 hy1 hx2 hy2 o1 o2 ho1 ho2 hno
  have kT : Hid (∀ w, Calls Try.prog 74 #[.agg #[.bool s1, .int .u64 (a1 : Int), .int .u64 (b1 : Int), .int .u64 (c1 : Int), .int .u64 (d1 : Int), .bool t1, .int .u64 (e1 : Int), .int .u64 (f1 : Int), .int .u64 (g1 : Int), .int .u64 (h1 : Int)], .agg #[.bool s2, .int .u64 (a2 : Int), .int .u64 (b2 : Int), .int .u64 (c2 : Int), .int .u64 (d2 : Int), .bool t2, .int .u64 (e2 : Int), .int .u64 (f2 : Int), .int .u64 (g2 : Int), .int .u64 (h2 : Int)]] w (Ret (.bool false) w)) := fun w => q_simpler_no _ _ _ _ _ _ _ _ _ _ _ _ _ _ _ _ _ _ _ _ _ _ _ _ w hx1 hy1 hx2 hy2 o1 o2 ho1 ho2 hno
  clear hx1 hy1 hx2 hy2 ho1 ho2 hno
  obtain ⟨W0, hW0⟩ : ∃ W0, W0 = ((w.alloc (.cells #[.bool s1, .int .u64 (a1 : Int), .int .u64 (b1 : Int), .int .u64 (c1 : Int), .int .u64 (d1 : Int), .bool t1, .int .u64 (e1 : Int), .int .u64 (f1 : Int), .int .u64 (g1 : Int), .int .u64 (h1 : Int)] 35)).alloc (.cells #[.bool s2, .int .u64 (a2 : Int), .int .u64 (b2 : Int), .int .u64 (c2 : Int), .int .u64 (d2 : Int), .bool t2, .int .u64 (e2 : Int), .int .u64 (f2 : Int), .int .u64 (g2 : Int), .int .u64 (h2 : Int)] 35)) := ⟨_, rfl⟩
  have H2 := two_blocks w (.cells #[.bool s1, .int .u64 (a1 : Int), .int .u64 (b1 : Int), .int .u64 (c1 : Int), .int .u64 (d1 : Int), .bool t1, .int .u64 (e1 : Int), .int .u64 (f1 : Int), .int .u64 (g1 : Int), .int .u64 (h1 : Int)] 35) (.cells #[.bool s2, .int .u64 (a2 : Int), .int .u64 (b2 : Int), .int .u64 (c2 : Int), .int .u64 (d2 : Int), .bool t2, .int .u64 (e2 : Int), .int .u64 (f2 : Int), .int .u64 (g2 : Int), .int .u64 (h2 : Int)] 35)
  have EE0 : Ext w W0 := by rw [hW0]; exact ((ext_alloc _ _).trans (ext_alloc _ _))
  rw [← hW0] at H2
  have EE := hide EE0
  have HW := hide hW0
  obtain ⟨P2, P3⟩ : Box10 W0 (w.heap.size) s1 a1 b1 c1 d1 t1 e1 f1 g1 h1 ∧ Box10 W0 ((w.heap.size + 1)) s2 a2 b2 c2 d2 t2 e2 f2 g2 h2 := H2
  clear hW0 EE0
  go_enter Try.func26, Try.ntmps26
  go_upto_region 1 with fail
  rw [← HW.out]
  clear HW
  have hg0 : w.heap.size ≤ w.heap.size := Nat.le_refl _
  obtain ⟨g0, hg⟩ : ∃ g, w.heap.size = g := ⟨_, rfl⟩
  rw [hg] at P2 P3 ⊢
  replace hg0 : w.heap.size ≤ g0 := Nat.le_of_eq hg
  clear hg
  obtain ⟨xP20, xP21, xP22, xP23, xP24, xP25, xP26, xP27, xP28, xP29, -⟩ := ten_cells P2; obtain ⟨xP30, xP31, xP32, xP33, xP34, xP35, xP36, xP37, xP38, xP39, -⟩ := ten_cells P3
  go_upto_region 2 with (go_at_call 27; (with_reducible refine (kB.out _).mono ?_); rintro e w1 ⟨rfl, hE⟩; clear xP20 xP21 xP22 xP23 xP24 xP25 xP26 xP27 xP28 xP29 xP30 xP31 xP32 xP33 xP34 xP35 xP36 xP37 xP38 xP39; have P2 := P2.ext hE; have P3 := P3.ext hE; have EE := hide (EE.out.trans hE); clear hE; obtain ⟨xP20, xP21, xP22, xP23, xP24, xP25, xP26, xP27, xP28, xP29, -⟩ := ten_cells P2; obtain ⟨xP30, xP31, xP32, xP33, xP34, xP35, xP36, xP37, xP38, xP39, -⟩ := ten_cells P3)
  clear xP20 xP21 xP22 xP23 xP24 xP25 xP26 xP27 xP28 xP29 xP30 xP31 xP32 xP33 xP34 xP35 xP36 xP37 xP38 xP39
  have H2 := heap_alloc_new w1 (.cells #[.bool false, .int .u64 0, .int .u64 0, .int .u64 0, .int .u64 0, .bool false, .int .u64 0, .int .u64 0, .int .u64 0, .int .u64 0] 35)
  have lP2 := P2.lt
  have lP3 := P3.lt
  have hE := (ext_alloc w1 (.cells #[.bool false, .int .u64 0, .int .u64 0, .int .u64 0, .int .u64 0, .bool false, .int .u64 0, .int .u64 0, .int .u64 0, .int .u64 0] 35))
  have P2 := P2.ext hE
  have P3 := P3.ext hE
  have EE := hide (EE.out.trans hE)
  clear hE
  obtain ⟨W2, hW⟩ : ∃ W, W = (w1.alloc (.cells #[.bool false, .int .u64 0, .int .u64 0, .int .u64 0, .int .u64 0, .bool false, .int .u64 0, .int .u64 0, .int .u64 0, .int .u64 0] 35)) := ⟨_, rfl⟩
  rw [← hW] at H2 EE P2 P3 ⊢
  obtain ⟨g3, hg⟩ : ∃ g, w1.heap.size = g := ⟨_, rfl⟩
  rw [hg] at H2 lP2 lP3 ⊢
  have P5 : Box10 W2 g3 false 0 0 0 0 false 0 0 0 0 := H2
  clear hW hg
  have ngP2P5 : g0 ≠ g3 := by omega
  have ngP3P5 : g0 + 1 ≠ g3 := by omega
  obtain ⟨xP20, xP21, xP22, xP23, xP24, xP25, xP26, xP27, xP28, xP29, -⟩ := ten_cells P2; obtain ⟨xP30, xP31, xP32, xP33, xP34, xP35, xP36, xP37, xP38, xP39, -⟩ := ten_cells P3
  go_upto_region 3 with (go_at_call 73; (with_reducible refine (kC.out _).mono ?_); rintro e w4 ⟨rfl, hE⟩; clear xP20 xP21 xP22 xP23 xP24 xP25 xP26 xP27 xP28 xP29 xP30 xP31 xP32 xP33 xP34 xP35 xP36 xP37 xP38 xP39; have P2 := P2.ext hE; have P3 := P3.ext hE; have P5 := P5.ext hE; have EE := hide (EE.out.trans hE); clear hE; obtain ⟨xP20, xP21, xP22, xP23, xP24, xP25, xP26, xP27, xP28, xP29, -⟩ := ten_cells P2; obtain ⟨xP30, xP31, xP32, xP33, xP34, xP35, xP36, xP37, xP38, xP39, -⟩ := ten_cells P3)
  clear xP20 xP21 xP22 xP23 xP24 xP25 xP26 xP27 xP28 xP29 xP30 xP31 xP32 xP33 xP34 xP35 xP36 xP37 xP38 xP39
  have H2 := heap_alloc_new w4 (.cells #[.bool false, .int .u64 0, .int .u64 0, .int .u64 0, .int .u64 0, .bool false, .int .u64 0, .int .u64 0, .int .u64 0, .int .u64 0] 35)
  have lP2 := P2.lt
  have lP3 := P3.lt
  have lP5 := P5.lt
  have hE := (ext_alloc w4 (.cells #[.bool false, .int .u64 0, .int .u64 0, .int .u64 0, .int .u64 0, .bool false, .int .u64 0, .int .u64 0, .int .u64 0, .int .u64 0] 35))
  have P2 := P2.ext hE
  have P3 := P3.ext hE
  have P5 := P5.ext hE
  have EE := hide (EE.out.trans hE)
  clear hE
  obtain ⟨W5, hW⟩ : ∃ W, W = (w4.alloc (.cells #[.bool false, .int .u64 0, .int .u64 0, .int .u64 0, .int .u64 0, .bool false, .int .u64 0, .int .u64 0, .int .u64 0, .int .u64 0] 35)) := ⟨_, rfl⟩
  rw [← hW] at H2 EE P2 P3 P5 ⊢
  obtain ⟨g6, hg⟩ : ∃ g, w4.heap.size = g := ⟨_, rfl⟩
  rw [hg] at H2 lP2 lP3 lP5 ⊢
  have P7 : Box10 W5 g6 false 0 0 0 0 false 0 0 0 0 := H2
  clear hW hg
  have ngP2P7 : g0 ≠ g6 := by omega
  have ngP3P7 : g0 + 1 ≠ g6 := by omega
  have ngP5P7 : g3 ≠ g6 := by omega
  have qe := eqZZ
  obtain ⟨yP20, yP21, yP22, yP23, yP24, yP25, yP26, yP27, yP28, yP29, yP2f0, yP2f1, yP2f2, yP2f3, yP2f4, yP2f5, yP2f6, yP2f7, yP2f8, yP2f9⟩ := ten_cells P2
  clear yP2f0 yP2f1 yP2f2 yP2f3 yP2f4 yP2f5 yP2f6 yP2f7 yP2f8 yP2f9
  replace yP20 := cellR yP20
  replace yP21 := cellR yP21
  replace yP22 := cellR yP22
  replace yP23 := cellR yP23
  replace yP24 := cellR yP24
  replace yP25 := cellR yP25
  replace yP26 := cellR yP26
  replace yP27 := cellR yP27
  replace yP28 := cellR yP28
  replace yP29 := cellR yP29
  obtain ⟨yP30, yP31, yP32, yP33, yP34, yP35, yP36, yP37, yP38, yP39, yP3f0, yP3f1, yP3f2, yP3f3, yP3f4, yP3f5, yP3f6, yP3f7, yP3f8, yP3f9⟩ := ten_cells P3
  clear yP3f0 yP3f1 yP3f2 yP3f3 yP3f4 yP3f5 yP3f6 yP3f7 yP3f8 yP3f9
  replace yP30 := cellR yP30
  replace yP31 := cellR yP31
  replace yP32 := cellR yP32
  replace yP33 := cellR yP33
  replace yP34 := cellR yP34
  replace yP35 := cellR yP35
  replace yP36 := cellR yP36
  replace yP37 := cellR yP37
  replace yP38 := cellR yP38
  replace yP39 := cellR yP39
  obtain ⟨yP50, yP51, yP52, yP53, yP54, yP55, yP56, yP57, yP58, yP59, yP5f0, yP5f1, yP5f2, yP5f3, yP5f4, yP5f5, yP5f6, yP5f7, yP5f8, yP5f9⟩ := ten_cells P5
  clear yP5f0 yP5f1 yP5f2 yP5f3 yP5f4 yP5f5 yP5f6 yP5f7 yP5f8 yP5f9
  replace yP50 := cellR yP50
  replace yP51 := cellR yP51
  replace yP52 := cellR yP52
  replace yP53 := cellR yP53
  replace yP54 := cellR yP54
  replace yP55 := cellR yP55
  replace yP56 := cellR yP56
  replace yP57 := cellR yP57
  replace yP58 := cellR yP58
  replace yP59 := cellR yP59
  obtain ⟨yP70, yP71, yP72, yP73, yP74, yP75, yP76, yP77, yP78, yP79, yP7f0, yP7f1, yP7f2, yP7f3, yP7f4, yP7f5, yP7f6, yP7f7, yP7f8, yP7f9⟩ := ten_cells P7
  clear yP7f0 yP7f1 yP7f2 yP7f3 yP7f4 yP7f5 yP7f6 yP7f7 yP7f8 yP7f9
  replace yP70 := cellR yP70
  replace yP71 := cellR yP71
  replace yP72 := cellR yP72
  replace yP73 := cellR yP73
  replace yP74 := cellR yP74
  replace yP75 := cellR yP75
  replace yP76 := cellR yP76
  replace yP77 := cellR yP77
  replace yP78 := cellR yP78
  replace yP79 := cellR yP79
  refine wp_region_quiet_below (by kernel_rfl) (by kernel_rfl) ?_
  repeat (first | go_big_quiet_step (first | with_reducible exact quiet_ret (kS.out _) | with_reducible exact quiet_ret (kT.out _)) | quiet_step (first | with_reducible exact quiet_ret (kS.out _) | with_reducible exact quiet_ret (kT.out _)))
  refine wpQuiet_nil ?_
  intro _ hw'
  obtain ⟨⟨dq, osq⟩, hw''⟩ := hw'
  subst hw''
  clear yP20 yP21 yP22 yP23 yP24 yP25 yP26 yP27 yP28 yP29 yP30 yP31 yP32 yP33 yP34 yP35 yP36 yP37 yP38 yP39 yP50 yP51 yP52 yP53 yP54 yP55 yP56 yP57 yP58 yP59 yP70 yP71 yP72 yP73 yP74 yP75 yP76 yP77 yP78 yP79
  have hE := ext_regrown W5 dq osq
  have P2 := P2.ext hE
  have P3 := P3.ext hE
  have P5 := P5.ext hE
  have P7 := P7.ext hE
  have EE := hide (EE.out.trans hE)
  clear hE
  generalize grow (redrawn W5 dq) osq = W5q at *
  go_wp2_with fail
  go_ret
  exact ⟨rfl, EE.out⟩
theorem l_alike {n1 m1 n2 m2 : Int} (h1 : Frac n1 m1) (h2 : Frac n2 m2) (w : World) : Calls Try.prog 26 #[.agg #[.bool (sg n1), .int .u64 (l0 n1 : Int), .int .u64 (l1 n1 : Int), .int .u64 (l2 n1 : Int), .int .u64 (l3 n1 : Int), .bool (sg m1), .int .u64 (l0 m1 : Int), .int .u64 (l1 m1 : Int), .int .u64 (l2 m1 : Int), .int .u64 (l3 m1 : Int)], .agg #[.bool (sg n2), .int .u64 (l0 n2 : Int), .int .u64 (l1 n2 : Int), .int .u64 (l2 n2 : Int), .int .u64 (l3 n2 : Int), .bool (sg m2), .int .u64 (l0 m2 : Int), .int .u64 (l1 m2 : Int), .int .u64 (l2 m2 : Int), .int .u64 (l3 m2 : Int)]] w (Ret (.bool true) w) := by
  by_cases hle : n1 * m2 ≤ n2 * m1
  · obtain ⟨n, m, B⟩ := best_some h1.1 h2.1 hle
    exact l_alike_yes h1 h2 hle B w
  · exact l_alike_gt h1 h2 (by omega) w
theorem l_alike_raw (s1 : Bool) (a1 b1 c1 d1 : Nat) (t1 : Bool) (e1 f1 g1 h1 : Nat) (n1 m1 : Int) (s2 : Bool) (a2 b2 c2 d2 : Nat) (t2 : Bool) (e2 f2 g2 h2 : Nat) (n2 m2 : Int) (w : World) (hx1 : IsW s1 a1 b1 c1 d1 n1) (hy1 : IsW t1 e1 f1 g1 h1 m1) (hx2 : IsW s2 a2 b2 c2 d2 n2) (hy2 : IsW t2 e2 f2 g2 h2 m2) : Calls Try.prog 26 #[.agg #[.bool s1, .int .u64 (a1 : Int), .int .u64 (b1 : Int), .int .u64 (c1 : Int), .int .u64 (d1 : Int), .bool t1, .int .u64 (e1 : Int), .int .u64 (f1 : Int), .int .u64 (g1 : Int), .int .u64 (h1 : Int)], .agg #[.bool s2, .int .u64 (a2 : Int), .int .u64 (b2 : Int), .int .u64 (c2 : Int), .int .u64 (d2 : Int), .bool t2, .int .u64 (e2 : Int), .int .u64 (f2 : Int), .int .u64 (g2 : Int), .int .u64 (h2 : Int)]] w (Ret (.bool true) w) := by
  obtain ⟨o1, ho1⟩ : ∃ o, decide (RatOk s1 n1 t1 m1) = o := ⟨_, rfl⟩
  obtain ⟨o2, ho2⟩ : ∃ o, decide (RatOk s2 n2 t2 m2) = o := ⟨_, rfl⟩
  by_cases hno : (o1 && o2) = false
  · exact l_alike_no _ _ _ _ _ _ _ _ _ _ _ _ _ _ _ _ _ _ _ _ _ _ _ _ w hx1 hy1 hx2 hy2 o1 o2 ho1 ho2 hno
  · have hb : o1 = true ∧ o2 = true := by cases o1 <;> cases o2 <;> simp at hno ⊢
    obtain ⟨rfl, rfl⟩ := hb
    have r1 := of_decide_eq_true ho1
    have r2 := of_decide_eq_true ho2
    obtain ⟨rfl, rfl, rfl, rfl, rfl⟩ := isC_fix ⟨hx1, r1.1⟩
    obtain ⟨rfl, rfl, rfl, rfl, rfl⟩ := isC_fix ⟨hy1, r1.2.1⟩
    obtain ⟨rfl, rfl, rfl, rfl, rfl⟩ := isC_fix ⟨hx2, r2.1⟩
    obtain ⟨rfl, rfl, rfl, rfl, rfl⟩ := isC_fix ⟨hy2, r2.2.1⟩
    exact l_alike r1.2.2 r2.2.2 w
end Go.Proofs.Ytbnbkondbdakeaa
