/- Part 6 of what these claims stand on: contracts of the program's and the reference's functions, and plain facts. Conditions: each states its own. -/
import Derived.Test.YthlbkidgdngblaaGreatPru5
import Derived.BigQuiet
namespace Go.Proofs.YthlbkidgdngblaaGreat
set_option linter.unusedVariables false
set_option linter.unusedSimpArgs false
section
open Go Go.RowKit Go.Sort
attribute [local go_sem] qUpon putAll slotV
theorem cmpI_lt {x y r : Int} (h : cmpI x y = r) : (r < 0 ↔ x < y) ∧ (r = 0 ↔ x = y) ∧ (0 < r ↔ y < x) := by
 rw [← h]; unfold cmpI; split <;> (try split) <;> omega
set_option maxRecDepth 100000 in
set_option maxHeartbeats 8000000 in
theorem s_between {n1 m1 n2 m2 : Int} (h1 : Frac n1 m1) (h2 : Frac n2 m2) {n m : Int} (hle : n1 * m2 ≤ n2 * m1) (B : Best n1 m1 n2 m2 n m) (w : World) : Calls Tryz.prog 40 #[.agg #[.bool (sg n1), .int .u64 (l0 n1 : Int), .int .u64 (l1 n1 : Int), .int .u64 (l2 n1 : Int), .int .u64 (l3 n1 : Int), .bool (sg m1), .int .u64 (l0 m1 : Int), .int .u64 (l1 m1 : Int), .int .u64 (l2 m1 : Int), .int .u64 (l3 m1 : Int)], .agg #[.bool (sg n2), .int .u64 (l0 n2 : Int), .int .u64 (l1 n2 : Int), .int .u64 (l2 n2 : Int), .int .u64 (l3 n2 : Int), .bool (sg m2), .int .u64 (l0 m2 : Int), .int .u64 (l1 m2 : Int), .int .u64 (l2 m2 : Int), .int .u64 (l3 m2 : Int)]] w (Ret (.tuple #[.agg #[.bool (sg n), .int .u64 (l0 n : Int), .int .u64 (l1 n : Int), .int .u64 (l2 n : Int), .int .u64 (l3 n : Int), .bool (sg m), .int .u64 (l0 m : Int), .int .u64 (l1 m : Int), .int .u64 (l2 m : Int), .int .u64 (l3 m : Int)], .bool true]) w) := by
 obtain ⟨c, hc⟩ : ∃ r, cmpI (n1 * m2) (n2 * m1) = r := ⟨_, rfl⟩
 have hc0 : ¬ 0 < c := by rw [(cmpI_lt hc).2.2]; omega
 have kV1 : Hid (∀ w, Calls Tryz.prog 42 #[.agg #[.bool (sg n1), .int .u64 (l0 n1 : Int), .int .u64 (l1 n1 : Int), .int .u64 (l2 n1 : Int), .int .u64 (l3 n1 : Int), .bool (sg m1), .int .u64 (l0 m1 : Int), .int .u64 (l1 m1 : Int), .int .u64 (l2 m1 : Int), .int .u64 (l3 m1 : Int)]] w (Ret (.bool true) w)) := fun w => g_valid h1 w
 have kV2 : Hid (∀ w, Calls Tryz.prog 42 #[.agg #[.bool (sg n2), .int .u64 (l0 n2 : Int), .int .u64 (l1 n2 : Int), .int .u64 (l2 n2 : Int), .int .u64 (l3 n2 : Int), .bool (sg m2), .int .u64 (l0 m2 : Int), .int .u64 (l1 m2 : Int), .int .u64 (l2 m2 : Int), .int .u64 (l3 m2 : Int)]] w (Ret (.bool true) w)) := fun w => g_valid h2 w
 have kC : Hid (∀ w, Calls Tryz.prog 38 #[.agg #[.bool (sg n1), .int .u64 (l0 n1 : Int), .int .u64 (l1 n1 : Int), .int .u64 (l2 n1 : Int), .int .u64 (l3 n1 : Int), .bool (sg m1), .int .u64 (l0 m1 : Int), .int .u64 (l1 m1 : Int), .int .u64 (l2 m1 : Int), .int .u64 (l3 m1 : Int)], .agg #[.bool (sg n2), .int .u64 (l0 n2 : Int), .int .u64 (l1 n2 : Int), .int .u64 (l2 n2 : Int), .int .u64 (l3 n2 : Int), .bool (sg m2), .int .u64 (l0 m2 : Int), .int .u64 (l1 m2 : Int), .int .u64 (l2 m2 : Int), .int .u64 (l3 m2 : Int)]] w (Ret (.int .i64 c) w)) := fun w => g_cmp h1 h2 hc w
 clear hc
 by_cases hp : 0 < n1
 · have kS : Hid (∀ w, Calls Tryz.prog 63 #[.agg #[.bool (sg n1), .int .u64 (l0 n1 : Int), .int .u64 (l1 n1 : Int), .int .u64 (l2 n1 : Int), .int .u64 (l3 n1 : Int)]] w (Ret (.int .i64 1) w)) := fun w => c_sign h1.fn (Int.sign_eq_one_of_pos hp) w
   have kB : Hid (∀ w, Calls Tryz.prog 70 #[.agg #[.bool (sg n1), .int .u64 (l0 n1 : Int), .int .u64 (l1 n1 : Int), .int .u64 (l2 n1 : Int), .int .u64 (l3 n1 : Int), .bool (sg m1), .int .u64 (l0 m1 : Int), .int .u64 (l1 m1 : Int), .int .u64 (l2 m1 : Int), .int .u64 (l3 m1 : Int)], .agg #[.bool (sg n2), .int .u64 (l0 n2 : Int), .int .u64 (l1 n2 : Int), .int .u64 (l2 n2 : Int), .int .u64 (l3 n2 : Int), .bool (sg m2), .int .u64 (l0 m2 : Int), .int .u64 (l1 m2 : Int), .int .u64 (l2 m2 : Int), .int .u64 (l3 m2 : Int)]] w (Ret (.agg #[.bool (sg n), .int .u64 (l0 n : Int), .int .u64 (l1 n : Int), .int .u64 (l2 n : Int), .int .u64 (l3 n : Int), .bool (sg m), .int .u64 (l0 m : Int), .int .u64 (l1 m : Int), .int .u64 (l2 m : Int), .int .u64 (l3 m : Int)]) w)) := fun w => s_bp _ n1 m1 n2 m2 n m (Nat.lt_succ_self _) hp h1.1 h2.1 hle h1.2.1 h1.2.2.1 h2.2.1 h2.2.2.1 B w
   clear h1 h2 hle B hp
   obtain ⟨W0, hW0⟩ : ∃ W0, W0 = (((w.alloc (.cells #[.bool (sg n1), .int .u64 (l0 n1 : Int), .int .u64 (l1 n1 : Int), .int .u64 (l2 n1 : Int), .int .u64 (l3 n1 : Int), .bool (sg m1), .int .u64 (l0 m1 : Int), .int .u64 (l1 m1 : Int), .int .u64 (l2 m1 : Int), .int .u64 (l3 m1 : Int)] 27)).alloc (.cells #[.bool (sg n2), .int .u64 (l0 n2 : Int), .int .u64 (l1 n2 : Int), .int .u64 (l2 n2 : Int), .int .u64 (l3 n2 : Int), .bool (sg m2), .int .u64 (l0 m2 : Int), .int .u64 (l1 m2 : Int), .int .u64 (l2 m2 : Int), .int .u64 (l3 m2 : Int)] 27)).alloc (.cells #[.bool false, .int .u64 0, .int .u64 0, .int .u64 0, .int .u64 0, .bool false, .int .u64 0, .int .u64 0, .int .u64 0, .int .u64 0] 27)) := ⟨_, rfl⟩
   have H2 := three_boxes w (.cells #[.bool (sg n1), .int .u64 (l0 n1 : Int), .int .u64 (l1 n1 : Int), .int .u64 (l2 n1 : Int), .int .u64 (l3 n1 : Int), .bool (sg m1), .int .u64 (l0 m1 : Int), .int .u64 (l1 m1 : Int), .int .u64 (l2 m1 : Int), .int .u64 (l3 m1 : Int)] 27) (.cells #[.bool (sg n2), .int .u64 (l0 n2 : Int), .int .u64 (l1 n2 : Int), .int .u64 (l2 n2 : Int), .int .u64 (l3 n2 : Int), .bool (sg m2), .int .u64 (l0 m2 : Int), .int .u64 (l1 m2 : Int), .int .u64 (l2 m2 : Int), .int .u64 (l3 m2 : Int)] 27) (.cells #[.bool false, .int .u64 0, .int .u64 0, .int .u64 0, .int .u64 0, .bool false, .int .u64 0, .int .u64 0, .int .u64 0, .int .u64 0] 27)
   have EE0 : Ext w W0 := by rw [hW0]; exact (((ext_alloc _ _).trans (ext_alloc _ _)).trans (ext_alloc _ _))
   rw [← hW0] at H2
   have EE := hide EE0
   have HW := hide hW0
   obtain ⟨P2, P3, P4⟩ : Box10 W0 (w.heap.size) (sg n1) (l0 n1) (l1 n1) (l2 n1) (l3 n1) (sg m1) (l0 m1) (l1 m1) (l2 m1) (l3 m1) ∧ Box10 W0 ((w.heap.size + 1)) (sg n2) (l0 n2) (l1 n2) (l2 n2) (l3 n2) (sg m2) (l0 m2) (l1 m2) (l2 m2) (l3 m2) ∧ Box10 W0 ((w.heap.size + 1 + 1)) false 0 0 0 0 false 0 0 0 0 := H2
   clear hW0 EE0
   go_enter Tryz.func40, Tryz.ntmps40
   go_upto_region 1 with fail
   rw [← HW.out]
   clear HW
   have hg0 : w.heap.size ≤ w.heap.size := Nat.le_refl _
   obtain ⟨g0, hg⟩ : ∃ g, w.heap.size = g := ⟨_, rfl⟩
   rw [hg] at P2 P3 P4 ⊢
   replace hg0 : w.heap.size ≤ g0 := Nat.le_of_eq hg
   clear hg
   obtain ⟨xP20, xP21, xP22, xP23, xP24, xP25, xP26, xP27, xP28, xP29, -⟩ := ten_cells P2; obtain ⟨xP30, xP31, xP32, xP33, xP34, xP35, xP36, xP37, xP38, xP39, -⟩ := ten_cells P3; obtain ⟨xP40, xP41, xP42, xP43, xP44, xP45, xP46, xP47, xP48, xP49, xP4f0, xP4f1, xP4f2, xP4f3, xP4f4, xP4f5, xP4f6, xP4f7, xP4f8, xP4f9⟩ := ten_cells P4
   go_wp2_with (first
     | (go_at_call 42; (with_reducible refine (kV1.out _).mono ?_); rintro e w1 ⟨rfl, hE⟩; clear xP20 xP21 xP22 xP23 xP24 xP25 xP26 xP27 xP28 xP29 xP30 xP31 xP32 xP33 xP34 xP35 xP36 xP37 xP38 xP39; clear xP40 xP41 xP42 xP43 xP44 xP45 xP46 xP47 xP48 xP49 xP4f0 xP4f1 xP4f2 xP4f3 xP4f4 xP4f5 xP4f6 xP4f7 xP4f8 xP4f9; have P2 := P2.ext hE; have P3 := P3.ext hE; have P4 := P4.ext hE; have EE := hide (EE.out.trans hE); clear hE; obtain ⟨xP20, xP21, xP22, xP23, xP24, xP25, xP26, xP27, xP28, xP29, -⟩ := ten_cells P2; obtain ⟨xP30, xP31, xP32, xP33, xP34, xP35, xP36, xP37, xP38, xP39, -⟩ := ten_cells P3; obtain ⟨xP40, xP41, xP42, xP43, xP44, xP45, xP46, xP47, xP48, xP49, xP4f0, xP4f1, xP4f2, xP4f3, xP4f4, xP4f5, xP4f6, xP4f7, xP4f8, xP4f9⟩ := ten_cells P4)
     | (go_at_call 42; (with_reducible refine (kV2.out _).mono ?_); rintro e w2 ⟨rfl, hE⟩; clear xP20 xP21 xP22 xP23 xP24 xP25 xP26 xP27 xP28 xP29 xP30 xP31 xP32 xP33 xP34 xP35 xP36 xP37 xP38 xP39; clear xP40 xP41 xP42 xP43 xP44 xP45 xP46 xP47 xP48 xP49 xP4f0 xP4f1 xP4f2 xP4f3 xP4f4 xP4f5 xP4f6 xP4f7 xP4f8 xP4f9; have P2 := P2.ext hE; have P3 := P3.ext hE; have P4 := P4.ext hE; have EE := hide (EE.out.trans hE); clear hE; obtain ⟨xP20, xP21, xP22, xP23, xP24, xP25, xP26, xP27, xP28, xP29, -⟩ := ten_cells P2; obtain ⟨xP30, xP31, xP32, xP33, xP34, xP35, xP36, xP37, xP38, xP39, -⟩ := ten_cells P3; obtain ⟨xP40, xP41, xP42, xP43, xP44, xP45, xP46, xP47, xP48, xP49, xP4f0, xP4f1, xP4f2, xP4f3, xP4f4, xP4f5, xP4f6, xP4f7, xP4f8, xP4f9⟩ := ten_cells P4)
     | (go_at_call 38; (with_reducible refine (kC.out _).mono ?_); rintro e w3 ⟨rfl, hE⟩; clear xP20 xP21 xP22 xP23 xP24 xP25 xP26 xP27 xP28 xP29 xP30 xP31 xP32 xP33 xP34 xP35 xP36 xP37 xP38 xP39; clear xP40 xP41 xP42 xP43 xP44 xP45 xP46 xP47 xP48 xP49 xP4f0 xP4f1 xP4f2 xP4f3 xP4f4 xP4f5 xP4f6 xP4f7 xP4f8 xP4f9; have P2 := P2.ext hE; have P3 := P3.ext hE; have P4 := P4.ext hE; have EE := hide (EE.out.trans hE); clear hE; obtain ⟨xP20, xP21, xP22, xP23, xP24, xP25, xP26, xP27, xP28, xP29, -⟩ := ten_cells P2; obtain ⟨xP30, xP31, xP32, xP33, xP34, xP35, xP36, xP37, xP38, xP39, -⟩ := ten_cells P3; obtain ⟨xP40, xP41, xP42, xP43, xP44, xP45, xP46, xP47, xP48, xP49, xP4f0, xP4f1, xP4f2, xP4f3, xP4f4, xP4f5, xP4f6, xP4f7, xP4f8, xP4f9⟩ := ten_cells P4)
     | (go_at_call 63; (with_reducible refine (kS.out _).mono ?_); rintro e w4 ⟨rfl, hE⟩; clear xP20 xP21 xP22 xP23 xP24 xP25 xP26 xP27 xP28 xP29 xP30 xP31 xP32 xP33 xP34 xP35 xP36 xP37 xP38 xP39; clear xP40 xP41 xP42 xP43 xP44 xP45 xP46 xP47 xP48 xP49 xP4f0 xP4f1 xP4f2 xP4f3 xP4f4 xP4f5 xP4f6 xP4f7 xP4f8 xP4f9; have P2 := P2.ext hE; have P3 := P3.ext hE; have P4 := P4.ext hE; have EE := hide (EE.out.trans hE); clear hE; obtain ⟨xP20, xP21, xP22, xP23, xP24, xP25, xP26, xP27, xP28, xP29, -⟩ := ten_cells P2; obtain ⟨xP30, xP31, xP32, xP33, xP34, xP35, xP36, xP37, xP38, xP39, -⟩ := ten_cells P3; obtain ⟨xP40, xP41, xP42, xP43, xP44, xP45, xP46, xP47, xP48, xP49, xP4f0, xP4f1, xP4f2, xP4f3, xP4f4, xP4f5, xP4f6, xP4f7, xP4f8, xP4f9⟩ := ten_cells P4)
     | (go_at_call 70; (with_reducible refine (kB.out _).mono ?_); rintro e w5 ⟨rfl, hE⟩; clear xP20 xP21 xP22 xP23 xP24 xP25 xP26 xP27 xP28 xP29 xP30 xP31 xP32 xP33 xP34 xP35 xP36 xP37 xP38 xP39; clear xP40 xP41 xP42 xP43 xP44 xP45 xP46 xP47 xP48 xP49 xP4f0 xP4f1 xP4f2 xP4f3 xP4f4 xP4f5 xP4f6 xP4f7 xP4f8 xP4f9; have P2 := P2.ext hE; have P3 := P3.ext hE; have P4 := P4.ext hE; have EE := hide (EE.out.trans hE); clear hE; obtain ⟨xP20, xP21, xP22, xP23, xP24, xP25, xP26, xP27, xP28, xP29, -⟩ := ten_cells P2; obtain ⟨xP30, xP31, xP32, xP33, xP34, xP35, xP36, xP37, xP38, xP39, -⟩ := ten_cells P3; obtain ⟨xP40, xP41, xP42, xP43, xP44, xP45, xP46, xP47, xP48, xP49, xP4f0, xP4f1, xP4f2, xP4f3, xP4f4, xP4f5, xP4f6, xP4f7, xP4f8, xP4f9⟩ := ten_cells P4))
   exact bodyPost_ret (v := .tuple #[.agg #[.bool (sg n), .int .u64 (l0 n : Int), .int .u64 (l1 n : Int), .int .u64 (l2 n : Int), .int .u64 (l3 n : Int), .bool (sg m), .int .u64 (l0 m : Int), .int .u64 (l1 m : Int), .int .u64 (l2 m : Int), .int .u64 (l3 m : Int)], .bool true]) (by simp [results, Tryz.results40, go_sem, xP40, xP41, xP42, xP43, xP44, xP45, xP46, xP47, xP48, xP49]) rfl ⟨rfl, ext_ten EE.out (by omega) _ _ _ _ _ _ _ _ _ _⟩
 · obtain ⟨j, hj, j1, j2, _⟩ := some_sign n1
   have hj0 : ¬ 0 < j := fun q => hp (j2.1 q)
   have kS : Hid (∀ w, Calls Tryz.prog 63 #[.agg #[.bool (sg n1), .int .u64 (l0 n1 : Int), .int .u64 (l1 n1 : Int), .int .u64 (l2 n1 : Int), .int .u64 (l3 n1 : Int)]] w (Ret (.int .i64 j) w)) := fun w => c_sign h1.fn hj w
   clear hj j1 j2
   by_cases hq : n2 < 0
   · obtain ⟨u1, hu1⟩ : ∃ u : Int, -n1 = u := ⟨_, rfl⟩
     obtain ⟨u2, hu2⟩ : ∃ u : Int, -n2 = u := ⟨_, rfl⟩
     obtain ⟨u, hu⟩ : ∃ u : Int, -n = u := ⟨_, rfl⟩
     have hun : -u = n := by omega
     have B' := B.neg
     rw [hu1, hu2, hu] at B'
     have hl' : u2 * m1 ≤ u1 * m2 := by rw [← hu1, ← hu2, Int.neg_mul, Int.neg_mul]; omega
     have S := (B.small h1.1 h2.1 hle).1
     have fu : F256 u := F256.mk (by have := h1.2.1; omega)
     have kT : Hid (∀ w, Calls Tryz.prog 63 #[.agg #[.bool (sg n2), .int .u64 (l0 n2 : Int), .int .u64 (l1 n2 : Int), .int .u64 (l2 n2 : Int), .int .u64 (l3 n2 : Int)]] w (Ret (.int .i64 (-1)) w)) := fun w => c_sign h2.fn (Int.sign_eq_neg_one_of_neg hq) w
     have kN1 : Hid (∀ w, Calls Tryz.prog 71 #[.agg #[.bool (sg n1), .int .u64 (l0 n1 : Int), .int .u64 (l1 n1 : Int), .int .u64 (l2 n1 : Int), .int .u64 (l3 n1 : Int), .bool (sg m1), .int .u64 (l0 m1 : Int), .int .u64 (l1 m1 : Int), .int .u64 (l2 m1 : Int), .int .u64 (l3 m1 : Int)]] w (Ret (.agg #[.bool (sg u1), .int .u64 (l0 u1 : Int), .int .u64 (l1 u1 : Int), .int .u64 (l2 u1 : Int), .int .u64 (l3 u1 : Int), .bool (sg m1), .int .u64 (l0 m1 : Int), .int .u64 (l1 m1 : Int), .int .u64 (l2 m1 : Int), .int .u64 (l3 m1 : Int)]) w)) := fun w => s_negative h1.fn hu1 w
     have kN2 : Hid (∀ w, Calls Tryz.prog 71 #[.agg #[.bool (sg n2), .int .u64 (l0 n2 : Int), .int .u64 (l1 n2 : Int), .int .u64 (l2 n2 : Int), .int .u64 (l3 n2 : Int), .bool (sg m2), .int .u64 (l0 m2 : Int), .int .u64 (l1 m2 : Int), .int .u64 (l2 m2 : Int), .int .u64 (l3 m2 : Int)]] w (Ret (.agg #[.bool (sg u2), .int .u64 (l0 u2 : Int), .int .u64 (l1 u2 : Int), .int .u64 (l2 u2 : Int), .int .u64 (l3 u2 : Int), .bool (sg m2), .int .u64 (l0 m2 : Int), .int .u64 (l1 m2 : Int), .int .u64 (l2 m2 : Int), .int .u64 (l3 m2 : Int)]) w)) := fun w => s_negative h2.fn hu2 w
     have kB : Hid (∀ w, Calls Tryz.prog 70 #[.agg #[.bool (sg u2), .int .u64 (l0 u2 : Int), .int .u64 (l1 u2 : Int), .int .u64 (l2 u2 : Int), .int .u64 (l3 u2 : Int), .bool (sg m2), .int .u64 (l0 m2 : Int), .int .u64 (l1 m2 : Int), .int .u64 (l2 m2 : Int), .int .u64 (l3 m2 : Int)], .agg #[.bool (sg u1), .int .u64 (l0 u1 : Int), .int .u64 (l1 u1 : Int), .int .u64 (l2 u1 : Int), .int .u64 (l3 u1 : Int), .bool (sg m1), .int .u64 (l0 m1 : Int), .int .u64 (l1 m1 : Int), .int .u64 (l2 m1 : Int), .int .u64 (l3 m1 : Int)]] w (Ret (.agg #[.bool (sg u), .int .u64 (l0 u : Int), .int .u64 (l1 u : Int), .int .u64 (l2 u : Int), .int .u64 (l3 u : Int), .bool (sg m), .int .u64 (l0 m : Int), .int .u64 (l1 m : Int), .int .u64 (l2 m : Int), .int .u64 (l3 m : Int)]) w)) := fun w => s_bp _ u2 m2 u1 m1 u m (Nat.lt_succ_self _) (by omega) h2.1 h1.1 hl' (by have := h2.2.1; omega) h2.2.2.1 (by have := h1.2.1; omega) h1.2.2.1 B' w
     have kN : Hid (∀ w, Calls Tryz.prog 71 #[.agg #[.bool (sg u), .int .u64 (l0 u : Int), .int .u64 (l1 u : Int), .int .u64 (l2 u : Int), .int .u64 (l3 u : Int), .bool (sg m), .int .u64 (l0 m : Int), .int .u64 (l1 m : Int), .int .u64 (l2 m : Int), .int .u64 (l3 m : Int)]] w (Ret (.agg #[.bool (sg n), .int .u64 (l0 n : Int), .int .u64 (l1 n : Int), .int .u64 (l2 n : Int), .int .u64 (l3 n : Int), .bool (sg m), .int .u64 (l0 m : Int), .int .u64 (l1 m : Int), .int .u64 (l2 m : Int), .int .u64 (l3 m : Int)]) w)) := fun w => s_negative fu hun w
     clear h1 h2 hle B hp hq hu1 hu2 hu hun B' hl' S fu
     obtain ⟨W0, hW0⟩ : ∃ W0, W0 = (((w.alloc (.cells #[.bool (sg n1), .int .u64 (l0 n1 : Int), .int .u64 (l1 n1 : Int), .int .u64 (l2 n1 : Int), .int .u64 (l3 n1 : Int), .bool (sg m1), .int .u64 (l0 m1 : Int), .int .u64 (l1 m1 : Int), .int .u64 (l2 m1 : Int), .int .u64 (l3 m1 : Int)] 27)).alloc (.cells #[.bool (sg n2), .int .u64 (l0 n2 : Int), .int .u64 (l1 n2 : Int), .int .u64 (l2 n2 : Int), .int .u64 (l3 n2 : Int), .bool (sg m2), .int .u64 (l0 m2 : Int), .int .u64 (l1 m2 : Int), .int .u64 (l2 m2 : Int), .int .u64 (l3 m2 : Int)] 27)).alloc (.cells #[.bool false, .int .u64 0, .int .u64 0, .int .u64 0, .int .u64 0, .bool false, .int .u64 0, .int .u64 0, .int .u64 0, .int .u64 0] 27)) := ⟨_, rfl⟩
     have H2 := three_boxes w (.cells #[.bool (sg n1), .int .u64 (l0 n1 : Int), .int .u64 (l1 n1 : Int), .int .u64 (l2 n1 : Int), .int .u64 (l3 n1 : Int), .bool (sg m1), .int .u64 (l0 m1 : Int), .int .u64 (l1 m1 : Int), .int .u64 (l2 m1 : Int), .int .u64 (l3 m1 : Int)] 27) (.cells #[.bool (sg n2), .int .u64 (l0 n2 : Int), .int .u64 (l1 n2 : Int), .int .u64 (l2 n2 : Int), .int .u64 (l3 n2 : Int), .bool (sg m2), .int .u64 (l0 m2 : Int), .int .u64 (l1 m2 : Int), .int .u64 (l2 m2 : Int), .int .u64 (l3 m2 : Int)] 27) (.cells #[.bool false, .int .u64 0, .int .u64 0, .int .u64 0, .int .u64 0, .bool false, .int .u64 0, .int .u64 0, .int .u64 0, .int .u64 0] 27)
     have EE0 : Ext w W0 := by rw [hW0]; exact (((ext_alloc _ _).trans (ext_alloc _ _)).trans (ext_alloc _ _))
     rw [← hW0] at H2
     have EE := hide EE0
     have HW := hide hW0
     obtain ⟨P2, P3, P4⟩ : Box10 W0 (w.heap.size) (sg n1) (l0 n1) (l1 n1) (l2 n1) (l3 n1) (sg m1) (l0 m1) (l1 m1) (l2 m1) (l3 m1) ∧ Box10 W0 ((w.heap.size + 1)) (sg n2) (l0 n2) (l1 n2) (l2 n2) (l3 n2) (sg m2) (l0 m2) (l1 m2) (l2 m2) (l3 m2) ∧ Box10 W0 ((w.heap.size + 1 + 1)) false 0 0 0 0 false 0 0 0 0 := H2
     clear hW0 EE0
     go_enter Tryz.func40, Tryz.ntmps40
     go_upto_region 1 with fail
     rw [← HW.out]
     clear HW
     have hg0 : w.heap.size ≤ w.heap.size := Nat.le_refl _
     obtain ⟨g0, hg⟩ : ∃ g, w.heap.size = g := ⟨_, rfl⟩
     rw [hg] at P2 P3 P4 ⊢
     replace hg0 : w.heap.size ≤ g0 := Nat.le_of_eq hg
     clear hg
     obtain ⟨xP20, xP21, xP22, xP23, xP24, xP25, xP26, xP27, xP28, xP29, -⟩ := ten_cells P2; obtain ⟨xP30, xP31, xP32, xP33, xP34, xP35, xP36, xP37, xP38, xP39, -⟩ := ten_cells P3
     go_upto_region 3 with (first
       | (go_at_call 42; (with_reducible refine (kV1.out _).mono ?_); rintro e w1 ⟨rfl, hE⟩; clear xP20 xP21 xP22 xP23 xP24 xP25 xP26 xP27 xP28 xP29 xP30 xP31 xP32 xP33 xP34 xP35 xP36 xP37 xP38 xP39; have P2 := P2.ext hE; have P3 := P3.ext hE; have P4 := P4.ext hE; have EE := hide (EE.out.trans hE); clear hE; obtain ⟨xP20, xP21, xP22, xP23, xP24, xP25, xP26, xP27, xP28, xP29, -⟩ := ten_cells P2; obtain ⟨xP30, xP31, xP32, xP33, xP34, xP35, xP36, xP37, xP38, xP39, -⟩ := ten_cells P3)
       | (go_at_call 42; (with_reducible refine (kV2.out _).mono ?_); rintro e w2 ⟨rfl, hE⟩; clear xP20 xP21 xP22 xP23 xP24 xP25 xP26 xP27 xP28 xP29 xP30 xP31 xP32 xP33 xP34 xP35 xP36 xP37 xP38 xP39; have P2 := P2.ext hE; have P3 := P3.ext hE; have P4 := P4.ext hE; have EE := hide (EE.out.trans hE); clear hE; obtain ⟨xP20, xP21, xP22, xP23, xP24, xP25, xP26, xP27, xP28, xP29, -⟩ := ten_cells P2; obtain ⟨xP30, xP31, xP32, xP33, xP34, xP35, xP36, xP37, xP38, xP39, -⟩ := ten_cells P3)
       | (go_at_call 38; (with_reducible refine (kC.out _).mono ?_); rintro e w3 ⟨rfl, hE⟩; clear xP20 xP21 xP22 xP23 xP24 xP25 xP26 xP27 xP28 xP29 xP30 xP31 xP32 xP33 xP34 xP35 xP36 xP37 xP38 xP39; have P2 := P2.ext hE; have P3 := P3.ext hE; have P4 := P4.ext hE; have EE := hide (EE.out.trans hE); clear hE; obtain ⟨xP20, xP21, xP22, xP23, xP24, xP25, xP26, xP27, xP28, xP29, -⟩ := ten_cells P2; obtain ⟨xP30, xP31, xP32, xP33, xP34, xP35, xP36, xP37, xP38, xP39, -⟩ := ten_cells P3))
     clear xP20 xP21 xP22 xP23 xP24 xP25 xP26 xP27 xP28 xP29 xP30 xP31 xP32 xP33 xP34 xP35 xP36 xP37 xP38 xP39
     obtain ⟨xP20, xP21, xP22, xP23, xP24, xP25, xP26, xP27, xP28, xP29, -⟩ := ten_cells P2
     go_upto_region 5 with (go_at_call 63; (with_reducible refine (kS.out _).mono ?_); rintro e w4 ⟨rfl, hE⟩; clear xP20 xP21 xP22 xP23 xP24 xP25 xP26 xP27 xP28 xP29; have P2 := P2.ext hE; have P3 := P3.ext hE; have P4 := P4.ext hE; have EE := hide (EE.out.trans hE); clear hE; obtain ⟨xP20, xP21, xP22, xP23, xP24, xP25, xP26, xP27, xP28, xP29, -⟩ := ten_cells P2)
     clear xP20 xP21 xP22 xP23 xP24 xP25 xP26 xP27 xP28 xP29
     obtain ⟨xP30, xP31, xP32, xP33, xP34, xP35, xP36, xP37, xP38, xP39, -⟩ := ten_cells P3
     go_upto_region 6 with (go_at_call 63; (with_reducible refine (kT.out _).mono ?_); rintro e w5 ⟨rfl, hE⟩; clear xP30 xP31 xP32 xP33 xP34 xP35 xP36 xP37 xP38 xP39; have P2 := P2.ext hE; have P3 := P3.ext hE; have P4 := P4.ext hE; have EE := hide (EE.out.trans hE); clear hE; obtain ⟨xP30, xP31, xP32, xP33, xP34, xP35, xP36, xP37, xP38, xP39, -⟩ := ten_cells P3)
     clear xP30 xP31 xP32 xP33 xP34 xP35 xP36 xP37 xP38 xP39
     have lbP2 := P2.lt
     have lbP3 := P3.lt
     have lbP4 := P4.lt
     have ltW0 : ∀ c, Tag.so c ∈ [.q, .q, .q, .q, .q, .q, .so 0, .q] → (fun _ => g0 + 1 + 1) c < w5.heap.size := by intro c hc; simp at hc; (try subst hc); (try simp only); omega
     refine wp_decl [.q, .q, .q, .q, .q, .q, .so 0, .q] [.agg #[.bool (sg n2), .int .u64 (l0 n2 : Int), .int .u64 (l1 n2 : Int), .int .u64 (l2 n2 : Int), .int .u64 (l3 n2 : Int), .bool (sg m2), .int .u64 (l0 m2 : Int), .int .u64 (l1 m2 : Int), .int .u64 (l2 m2 : Int), .int .u64 (l3 m2 : Int)], .agg #[.bool (sg u2), .int .u64 (l0 u2 : Int), .int .u64 (l1 u2 : Int), .int .u64 (l2 u2 : Int), .int .u64 (l3 u2 : Int), .bool (sg m2), .int .u64 (l0 m2 : Int), .int .u64 (l1 m2 : Int), .int .u64 (l2 m2 : Int), .int .u64 (l3 m2 : Int)], .agg #[.bool (sg n1), .int .u64 (l0 n1 : Int), .int .u64 (l1 n1 : Int), .int .u64 (l2 n1 : Int), .int .u64 (l3 n1 : Int), .bool (sg m1), .int .u64 (l0 m1 : Int), .int .u64 (l1 m1 : Int), .int .u64 (l2 m1 : Int), .int .u64 (l3 m1 : Int)], .agg #[.bool (sg u1), .int .u64 (l0 u1 : Int), .int .u64 (l1 u1 : Int), .int .u64 (l2 u1 : Int), .int .u64 (l3 u1 : Int), .bool (sg m1), .int .u64 (l0 m1 : Int), .int .u64 (l1 m1 : Int), .int .u64 (l2 m1 : Int), .int .u64 (l3 m1 : Int)], .agg #[.bool (sg u), .int .u64 (l0 u : Int), .int .u64 (l1 u : Int), .int .u64 (l2 u : Int), .int .u64 (l3 u : Int), .bool (sg m), .int .u64 (l0 m : Int), .int .u64 (l1 m : Int), .int .u64 (l2 m : Int), .int .u64 (l3 m : Int)], .agg #[.bool (sg n), .int .u64 (l0 n : Int), .int .u64 (l1 n : Int), .int .u64 (l2 n : Int), .int .u64 (l3 n : Int), .bool (sg m), .int .u64 (l0 m : Int), .int .u64 (l1 m : Int), .int .u64 (l2 m : Int), .int .u64 (l3 m : Int)], undef, .bool true] (fun _ => (.cells #[.bool false, .int .u64 0, .int .u64 0, .int .u64 0, .int .u64 0] 25 (0, 0))) (fun _ => (.cells #[.bool (sg n), .int .u64 (l0 n : Int), .int .u64 (l1 n : Int), .int .u64 (l2 n : Int), .int .u64 (l3 n : Int), .bool (sg m), .int .u64 (l0 m : Int), .int .u64 (l1 m : Int), .int .u64 (l2 m : Int), .int .u64 (l3 m : Int)] 27 (0, 0))) (fun _ => g0 + 1 + 1) (by kernel_rfl) (by kernel_rfl) (by kernel_rfl) rfl rfl ltW0 (by intro c c' h1 h2 _; simp at h1 h2; omega) ?_ ?_
     · refine ⟨?_, ?_, ?_, ?_, ?_, ?_, ?_, ?_, trivial⟩
       · refine op_q ?uvn2 ?h1n2 ?h2n2 ?h3n2
         case h1n2 => exact rfl
         case uvn2 => exact (.agg #[.bool (sg n2), .int .u64 (l0 n2 : Int), .int .u64 (l1 n2 : Int), .int .u64 (l2 n2 : Int), .int .u64 (l3 n2 : Int), .bool (sg m2), .int .u64 (l0 m2 : Int), .int .u64 (l1 m2 : Int), .int .u64 (l2 m2 : Int), .int .u64 (l3 m2 : Int)])
         case h2n2 => exact rfl
         intro w' hw'
         have P3 := P3.same hw' (by intro c hc; simp at hc; (try subst hc); (try simp only); omega)
         have xP3 := ten_cells P3
         go_simp
       · refine op_q ?uvn3 ?h1n3 ?h2n3 ?h3n3
         case h1n3 => exact rfl
         case uvn3 => exact (.agg #[.bool (sg u2), .int .u64 (l0 u2 : Int), .int .u64 (l1 u2 : Int), .int .u64 (l2 u2 : Int), .int .u64 (l3 u2 : Int), .bool (sg m2), .int .u64 (l0 m2 : Int), .int .u64 (l1 m2 : Int), .int .u64 (l2 m2 : Int), .int .u64 (l3 m2 : Int)])
         case h2n3 => exact rfl
         intro w' hw'
         go_simp
         exact kN2.out w'
       · refine op_q ?uvn4 ?h1n4 ?h2n4 ?h3n4
         case h1n4 => exact rfl
         case uvn4 => exact (.agg #[.bool (sg n1), .int .u64 (l0 n1 : Int), .int .u64 (l1 n1 : Int), .int .u64 (l2 n1 : Int), .int .u64 (l3 n1 : Int), .bool (sg m1), .int .u64 (l0 m1 : Int), .int .u64 (l1 m1 : Int), .int .u64 (l2 m1 : Int), .int .u64 (l3 m1 : Int)])
         case h2n4 => exact rfl
         intro w' hw'
         have P2 := P2.same hw' (by intro c hc; simp at hc; (try subst hc); (try simp only); omega)
         have xP2 := ten_cells P2
         go_simp
       · refine op_q ?uvn5 ?h1n5 ?h2n5 ?h3n5
         case h1n5 => exact rfl
         case uvn5 => exact (.agg #[.bool (sg u1), .int .u64 (l0 u1 : Int), .int .u64 (l1 u1 : Int), .int .u64 (l2 u1 : Int), .int .u64 (l3 u1 : Int), .bool (sg m1), .int .u64 (l0 m1 : Int), .int .u64 (l1 m1 : Int), .int .u64 (l2 m1 : Int), .int .u64 (l3 m1 : Int)])
         case h2n5 => exact rfl
         intro w' hw'
         go_simp
         exact kN1.out w'
       · refine op_q ?uvn6 ?h1n6 ?h2n6 ?h3n6
         case h1n6 => exact rfl
         case uvn6 => exact (.agg #[.bool (sg u), .int .u64 (l0 u : Int), .int .u64 (l1 u : Int), .int .u64 (l2 u : Int), .int .u64 (l3 u : Int), .bool (sg m), .int .u64 (l0 m : Int), .int .u64 (l1 m : Int), .int .u64 (l2 m : Int), .int .u64 (l3 m : Int)])
         case h2n6 => exact rfl
         intro w' hw'
         go_simp
         exact kB.out w'
       · refine op_q ?uvn7 ?h1n7 ?h2n7 ?h3n7
         case h1n7 => exact rfl
         case uvn7 => exact (.agg #[.bool (sg n), .int .u64 (l0 n : Int), .int .u64 (l1 n : Int), .int .u64 (l2 n : Int), .int .u64 (l3 n : Int), .bool (sg m), .int .u64 (l0 m : Int), .int .u64 (l1 m : Int), .int .u64 (l2 m : Int), .int .u64 (l3 m : Int)])
         case h2n7 => exact rfl
         intro w' hw'
         go_simp
         exact kN.out w'
       · refine op_so (c := 0) (T := ?uTn8) (p := ?upn8) (x := ?uxn8) ?ugn8 ?ufn8 ?uvn8 ?h1n8 ?h2n8 ?h3n8 ?h4n8 ?h5n8 ?h6n8 ?h7n8
         case h1n8 => exact rfl
         case h2n8 => exact rfl
         case ufn8 => exact (.cells #[.bool (sg n), .int .u64 (l0 n : Int), .int .u64 (l1 n : Int), .int .u64 (l2 n : Int), .int .u64 (l3 n : Int), .bool (sg m), .int .u64 (l0 m : Int), .int .u64 (l1 m : Int), .int .u64 (l2 m : Int), .int .u64 (l3 m : Int)] 27 (0, 0))
         case ugn8 => exact g0 + 1 + 1
         case uvn8 => exact (.agg #[.bool (sg n), .int .u64 (l0 n : Int), .int .u64 (l1 n : Int), .int .u64 (l2 n : Int), .int .u64 (l3 n : Int), .bool (sg m), .int .u64 (l0 m : Int), .int .u64 (l1 m : Int), .int .u64 (l2 m : Int), .int .u64 (l3 m : Int)])
         case h3n8 => exact rfl
         case h4n8 => exact rfl
         case h5n8 => go_simp; rfl
         case h6n8 => go_simp
         intro ρ w' hp hx hz
         exact store_ratio rfl hp hx (hz.trans P4)
       · refine op_q ?uvn9 ?h1n9 ?h2n9 ?h3n9
         case h1n9 => exact rfl
         case uvn9 => exact (.bool true)
         case h2n9 => exact rfl
         intro w' hw'
         go_simp
     · intro G W6 hI
       have hS := hI.same
       have P2 := P2.same hS (by intro c hc; simp at hc; (try subst hc); (try simp only); omega)
       have P3 := P3.same hS (by intro c hc; simp at hc; (try subst hc); (try simp only); omega)
       have hso : ∀ c, Tag.so c ∈ [.q, .q, .q, .q, .q, .q, .so 0, .q] → w.heap.size ≤ (fun _ => g0 + 1 + 1) c := by intro c hc; simp at hc; (try subst hc); (try simp only); omega
       have EE := hide (hS.ext' EE.out hso)
       have P4 : Box10 W6 (g0 + 1 + 1) (sg n) (l0 n) (l1 n) (l2 n) (l3 n) (sg m) (l0 m) (l1 m) (l2 m) (l3 m) := hI.olds' 6 (List.mem_range.2 (show 6 < 8 by decide)) 0 rfl
       clear hI hS
       simp only [putAll, slotV, ptrTo, Nat.zero_add, Nat.reduceAdd]
       go_wp2_with fail
       obtain ⟨xP40, xP41, xP42, xP43, xP44, xP45, xP46, xP47, xP48, xP49, xP4f0, xP4f1, xP4f2, xP4f3, xP4f4, xP4f5, xP4f6, xP4f7, xP4f8, xP4f9⟩ := ten_cells P4
       exact bodyPost_ret (v := .tuple #[.agg #[.bool (sg n), .int .u64 (l0 n : Int), .int .u64 (l1 n : Int), .int .u64 (l2 n : Int), .int .u64 (l3 n : Int), .bool (sg m), .int .u64 (l0 m : Int), .int .u64 (l1 m : Int), .int .u64 (l2 m : Int), .int .u64 (l3 m : Int)], .bool true]) (by simp [results, Tryz.results40, go_sem, xP40, xP41, xP42, xP43, xP44, xP45, xP46, xP47, xP48, xP49]) rfl ⟨rfl, EE.out⟩
   · obtain ⟨en, em⟩ := Best.unique h1.1 h2.1 B (Best.zero (by omega) (by omega))
     subst en em
     obtain ⟨i, hi, i1, i2, _⟩ := some_sign n2
     have hi0 : ¬ i < 0 := fun q => hq (i1.1 q)
     have kT : Hid (∀ w, Calls Tryz.prog 63 #[.agg #[.bool (sg n2), .int .u64 (l0 n2 : Int), .int .u64 (l1 n2 : Int), .int .u64 (l2 n2 : Int), .int .u64 (l3 n2 : Int)]] w (Ret (.int .i64 i) w)) := fun w => c_sign h2.fn hi w
     have kO : Hid (∀ w, Calls Tryz.prog 39 #[.int .i64 0] w (Ret (.agg #[.bool (sg 0), .int .u64 (l0 0 : Int), .int .u64 (l1 0 : Int), .int .u64 (l2 0 : Int), .int .u64 (l3 0 : Int), .bool (sg 1), .int .u64 (l0 1 : Int), .int .u64 (l1 1 : Int), .int .u64 (l2 1 : Int), .int .u64 (l3 1 : Int)]) w)) := fun w => g_of (by omega) (by omega) w
     clear h1 h2 hle B hp hq hi i1 i2
     obtain ⟨W0, hW0⟩ : ∃ W0, W0 = (((w.alloc (.cells #[.bool (sg n1), .int .u64 (l0 n1 : Int), .int .u64 (l1 n1 : Int), .int .u64 (l2 n1 : Int), .int .u64 (l3 n1 : Int), .bool (sg m1), .int .u64 (l0 m1 : Int), .int .u64 (l1 m1 : Int), .int .u64 (l2 m1 : Int), .int .u64 (l3 m1 : Int)] 27)).alloc (.cells #[.bool (sg n2), .int .u64 (l0 n2 : Int), .int .u64 (l1 n2 : Int), .int .u64 (l2 n2 : Int), .int .u64 (l3 n2 : Int), .bool (sg m2), .int .u64 (l0 m2 : Int), .int .u64 (l1 m2 : Int), .int .u64 (l2 m2 : Int), .int .u64 (l3 m2 : Int)] 27)).alloc (.cells #[.bool false, .int .u64 0, .int .u64 0, .int .u64 0, .int .u64 0, .bool false, .int .u64 0, .int .u64 0, .int .u64 0, .int .u64 0] 27)) := ⟨_, rfl⟩
     have H2 := three_boxes w (.cells #[.bool (sg n1), .int .u64 (l0 n1 : Int), .int .u64 (l1 n1 : Int), .int .u64 (l2 n1 : Int), .int .u64 (l3 n1 : Int), .bool (sg m1), .int .u64 (l0 m1 : Int), .int .u64 (l1 m1 : Int), .int .u64 (l2 m1 : Int), .int .u64 (l3 m1 : Int)] 27) (.cells #[.bool (sg n2), .int .u64 (l0 n2 : Int), .int .u64 (l1 n2 : Int), .int .u64 (l2 n2 : Int), .int .u64 (l3 n2 : Int), .bool (sg m2), .int .u64 (l0 m2 : Int), .int .u64 (l1 m2 : Int), .int .u64 (l2 m2 : Int), .int .u64 (l3 m2 : Int)] 27) (.cells #[.bool false, .int .u64 0, .int .u64 0, .int .u64 0, .int .u64 0, .bool false, .int .u64 0, .int .u64 0, .int .u64 0, .int .u64 0] 27)
     have EE0 : Ext w W0 := by rw [hW0]; exact (((ext_alloc _ _).trans (ext_alloc _ _)).trans (ext_alloc _ _))
     rw [← hW0] at H2
     have EE := hide EE0
     have HW := hide hW0
     obtain ⟨P2, P3, P4⟩ : Box10 W0 (w.heap.size) (sg n1) (l0 n1) (l1 n1) (l2 n1) (l3 n1) (sg m1) (l0 m1) (l1 m1) (l2 m1) (l3 m1) ∧ Box10 W0 ((w.heap.size + 1)) (sg n2) (l0 n2) (l1 n2) (l2 n2) (l3 n2) (sg m2) (l0 m2) (l1 m2) (l2 m2) (l3 m2) ∧ Box10 W0 ((w.heap.size + 1 + 1)) false 0 0 0 0 false 0 0 0 0 := H2
     clear hW0 EE0
     go_enter Tryz.func40, Tryz.ntmps40
     go_upto_region 1 with fail
     rw [← HW.out]
     clear HW
     have hg0 : w.heap.size ≤ w.heap.size := Nat.le_refl _
     obtain ⟨g0, hg⟩ : ∃ g, w.heap.size = g := ⟨_, rfl⟩
     rw [hg] at P2 P3 P4 ⊢
     replace hg0 : w.heap.size ≤ g0 := Nat.le_of_eq hg
     clear hg
     obtain ⟨xP20, xP21, xP22, xP23, xP24, xP25, xP26, xP27, xP28, xP29, -⟩ := ten_cells P2; obtain ⟨xP30, xP31, xP32, xP33, xP34, xP35, xP36, xP37, xP38, xP39, -⟩ := ten_cells P3; obtain ⟨xP40, xP41, xP42, xP43, xP44, xP45, xP46, xP47, xP48, xP49, xP4f0, xP4f1, xP4f2, xP4f3, xP4f4, xP4f5, xP4f6, xP4f7, xP4f8, xP4f9⟩ := ten_cells P4
     go_wp2_with (first
       | (go_at_call 42; (with_reducible refine (kV1.out _).mono ?_); rintro e w1 ⟨rfl, hE⟩; clear xP20 xP21 xP22 xP23 xP24 xP25 xP26 xP27 xP28 xP29 xP30 xP31 xP32 xP33 xP34 xP35 xP36 xP37 xP38 xP39; clear xP40 xP41 xP42 xP43 xP44 xP45 xP46 xP47 xP48 xP49 xP4f0 xP4f1 xP4f2 xP4f3 xP4f4 xP4f5 xP4f6 xP4f7 xP4f8 xP4f9; have P2 := P2.ext hE; have P3 := P3.ext hE; have P4 := P4.ext hE; have EE := hide (EE.out.trans hE); clear hE; obtain ⟨xP20, xP21, xP22, xP23, xP24, xP25, xP26, xP27, xP28, xP29, -⟩ := ten_cells P2; obtain ⟨xP30, xP31, xP32, xP33, xP34, xP35, xP36, xP37, xP38, xP39, -⟩ := ten_cells P3; obtain ⟨xP40, xP41, xP42, xP43, xP44, xP45, xP46, xP47, xP48, xP49, xP4f0, xP4f1, xP4f2, xP4f3, xP4f4, xP4f5, xP4f6, xP4f7, xP4f8, xP4f9⟩ := ten_cells P4)
       | (go_at_call 42; (with_reducible refine (kV2.out _).mono ?_); rintro e w2 ⟨rfl, hE⟩; clear xP20 xP21 xP22 xP23 xP24 xP25 xP26 xP27 xP28 xP29 xP30 xP31 xP32 xP33 xP34 xP35 xP36 xP37 xP38 xP39; clear xP40 xP41 xP42 xP43 xP44 xP45 xP46 xP47 xP48 xP49 xP4f0 xP4f1 xP4f2 xP4f3 xP4f4 xP4f5 xP4f6 xP4f7 xP4f8 xP4f9; have P2 := P2.ext hE; have P3 := P3.ext hE; have P4 := P4.ext hE; have EE := hide (EE.out.trans hE); clear hE; obtain ⟨xP20, xP21, xP22, xP23, xP24, xP25, xP26, xP27, xP28, xP29, -⟩ := ten_cells P2; obtain ⟨xP30, xP31, xP32, xP33, xP34, xP35, xP36, xP37, xP38, xP39, -⟩ := ten_cells P3; obtain ⟨xP40, xP41, xP42, xP43, xP44, xP45, xP46, xP47, xP48, xP49, xP4f0, xP4f1, xP4f2, xP4f3, xP4f4, xP4f5, xP4f6, xP4f7, xP4f8, xP4f9⟩ := ten_cells P4)
       | (go_at_call 38; (with_reducible refine (kC.out _).mono ?_); rintro e w3 ⟨rfl, hE⟩; clear xP20 xP21 xP22 xP23 xP24 xP25 xP26 xP27 xP28 xP29 xP30 xP31 xP32 xP33 xP34 xP35 xP36 xP37 xP38 xP39; clear xP40 xP41 xP42 xP43 xP44 xP45 xP46 xP47 xP48 xP49 xP4f0 xP4f1 xP4f2 xP4f3 xP4f4 xP4f5 xP4f6 xP4f7 xP4f8 xP4f9; have P2 := P2.ext hE; have P3 := P3.ext hE; have P4 := P4.ext hE; have EE := hide (EE.out.trans hE); clear hE; obtain ⟨xP20, xP21, xP22, xP23, xP24, xP25, xP26, xP27, xP28, xP29, -⟩ := ten_cells P2; obtain ⟨xP30, xP31, xP32, xP33, xP34, xP35, xP36, xP37, xP38, xP39, -⟩ := ten_cells P3; obtain ⟨xP40, xP41, xP42, xP43, xP44, xP45, xP46, xP47, xP48, xP49, xP4f0, xP4f1, xP4f2, xP4f3, xP4f4, xP4f5, xP4f6, xP4f7, xP4f8, xP4f9⟩ := ten_cells P4)
       | (go_at_call 63; (with_reducible refine (kS.out _).mono ?_); rintro e w4 ⟨rfl, hE⟩; clear xP20 xP21 xP22 xP23 xP24 xP25 xP26 xP27 xP28 xP29 xP30 xP31 xP32 xP33 xP34 xP35 xP36 xP37 xP38 xP39; clear xP40 xP41 xP42 xP43 xP44 xP45 xP46 xP47 xP48 xP49 xP4f0 xP4f1 xP4f2 xP4f3 xP4f4 xP4f5 xP4f6 xP4f7 xP4f8 xP4f9; have P2 := P2.ext hE; have P3 := P3.ext hE; have P4 := P4.ext hE; have EE := hide (EE.out.trans hE); clear hE; obtain ⟨xP20, xP21, xP22, xP23, xP24, xP25, xP26, xP27, xP28, xP29, -⟩ := ten_cells P2; obtain ⟨xP30, xP31, xP32, xP33, xP34, xP35, xP36, xP37, xP38, xP39, -⟩ := ten_cells P3; obtain ⟨xP40, xP41, xP42, xP43, xP44, xP45, xP46, xP47, xP48, xP49, xP4f0, xP4f1, xP4f2, xP4f3, xP4f4, xP4f5, xP4f6, xP4f7, xP4f8, xP4f9⟩ := ten_cells P4)
       | (go_at_call 63; (with_reducible refine (kT.out _).mono ?_); rintro e w5 ⟨rfl, hE⟩; clear xP20 xP21 xP22 xP23 xP24 xP25 xP26 xP27 xP28 xP29 xP30 xP31 xP32 xP33 xP34 xP35 xP36 xP37 xP38 xP39; clear xP40 xP41 xP42 xP43 xP44 xP45 xP46 xP47 xP48 xP49 xP4f0 xP4f1 xP4f2 xP4f3 xP4f4 xP4f5 xP4f6 xP4f7 xP4f8 xP4f9; have P2 := P2.ext hE; have P3 := P3.ext hE; have P4 := P4.ext hE; have EE := hide (EE.out.trans hE); clear hE; obtain ⟨xP20, xP21, xP22, xP23, xP24, xP25, xP26, xP27, xP28, xP29, -⟩ := ten_cells P2; obtain ⟨xP30, xP31, xP32, xP33, xP34, xP35, xP36, xP37, xP38, xP39, -⟩ := ten_cells P3; obtain ⟨xP40, xP41, xP42, xP43, xP44, xP45, xP46, xP47, xP48, xP49, xP4f0, xP4f1, xP4f2, xP4f3, xP4f4, xP4f5, xP4f6, xP4f7, xP4f8, xP4f9⟩ := ten_cells P4)
       | (go_at_call 39; (with_reducible refine (kO.out _).mono ?_); rintro e w6 ⟨rfl, hE⟩; clear xP20 xP21 xP22 xP23 xP24 xP25 xP26 xP27 xP28 xP29 xP30 xP31 xP32 xP33 xP34 xP35 xP36 xP37 xP38 xP39; clear xP40 xP41 xP42 xP43 xP44 xP45 xP46 xP47 xP48 xP49 xP4f0 xP4f1 xP4f2 xP4f3 xP4f4 xP4f5 xP4f6 xP4f7 xP4f8 xP4f9; have P2 := P2.ext hE; have P3 := P3.ext hE; have P4 := P4.ext hE; have EE := hide (EE.out.trans hE); clear hE; obtain ⟨xP20, xP21, xP22, xP23, xP24, xP25, xP26, xP27, xP28, xP29, -⟩ := ten_cells P2; obtain ⟨xP30, xP31, xP32, xP33, xP34, xP35, xP36, xP37, xP38, xP39, -⟩ := ten_cells P3; obtain ⟨xP40, xP41, xP42, xP43, xP44, xP45, xP46, xP47, xP48, xP49, xP4f0, xP4f1, xP4f2, xP4f3, xP4f4, xP4f5, xP4f6, xP4f7, xP4f8, xP4f9⟩ := ten_cells P4))
     exact bodyPost_ret (v := .tuple #[.agg #[.bool (sg 0), .int .u64 (l0 0 : Int), .int .u64 (l1 0 : Int), .int .u64 (l2 0 : Int), .int .u64 (l3 0 : Int), .bool (sg 1), .int .u64 (l0 1 : Int), .int .u64 (l1 1 : Int), .int .u64 (l2 1 : Int), .int .u64 (l3 1 : Int)], .bool true]) (by simp [results, Tryz.results40, go_sem, xP40, xP41, xP42, xP43, xP44, xP45, xP46, xP47, xP48, xP49]) rfl ⟨rfl, ext_ten EE.out (by omega) _ _ _ _ _ _ _ _ _ _⟩
end
section
open Go Go.RowKit
theorem neg_iff {s : Bool} {a b c d : Nat} {z : Int} (h : IsC s a b c d z) : s = decide (z < 0) := by
 obtain ⟨⟨h1, h2, h3, h4, h5⟩, h6⟩ := h
 cases s
 · simp at h5; symm; rw [decide_eq_false_iff_not]; omega
 · have := h6 rfl; simp at h5; symm; rw [decide_eq_true_iff]; omega
theorem make_parts {s t : Bool} {a b c d e f g h : Nat} {x y : Int} (hx : IsC s a b c d x) (hy : IsC t e f g h y) (hy0 : y ≠ 0) :
   numR x y = (if (s != t) = true then -((x.natAbs : Int) / ((Int.gcd (x.natAbs : Int) (y.natAbs : Int) : Nat) : Int)) else (x.natAbs : Int) / ((Int.gcd (x.natAbs : Int) (y.natAbs : Int) : Nat) : Int)) ∧ denR x y = (y.natAbs : Int) / ((Int.gcd (x.natAbs : Int) (y.natAbs : Int) : Nat) : Int) ∧ (0 : Int) < ((Int.gcd (x.natAbs : Int) (y.natAbs : Int) : Nat) : Int) := by
 rw [neg_iff hx, neg_iff hy]
 have e1 : Int.gcd (x.natAbs : Int) (y.natAbs : Int) = Int.gcd x y := by simp [Int.gcd]
 rw [e1]
 have hg : 0 < Int.gcd x y := Int.gcd_pos_of_ne_zero_right x hy0
 obtain ⟨u, hu⟩ := Int.gcd_dvd_left x y
 obtain ⟨v, hv⟩ := Int.gcd_dvd_right x y
 obtain ⟨G, hG⟩ : ∃ G : Int, ((Int.gcd x y : Nat) : Int) = G := ⟨_, rfl⟩
 unfold numR denR
 rw [hG] at hu hv ⊢
 have hG0 : 0 < G := by omega
 have hGn : G ≠ 0 := by omega
 have hnx : -x = G * (-u) := by rw [Int.mul_neg, ← hu]
 have hny : -y = G * (-v) := by rw [Int.mul_neg, ← hv]
 have q1 : x / G = u := by rw [hu]; exact Int.mul_ediv_cancel_left _ hGn
 have q2 : y / G = v := by rw [hv]; exact Int.mul_ediv_cancel_left _ hGn
 have q3 : (-x) / G = -u := by rw [hnx]; exact Int.mul_ediv_cancel_left _ hGn
 have q4 : (-y) / G = -v := by rw [hny]; exact Int.mul_ediv_cancel_left _ hGn
 have ax : (x.natAbs : Int) = if x < 0 then -x else x := by split <;> omega
 have ay : (y.natAbs : Int) = if y < 0 then -y else y := by split <;> omega
 rw [ax, ay]
 refine ⟨?_, ?_, hG0⟩
 · by_cases h1 : x < 0 <;> by_cases h2 : y < 0 <;> simp [h1, h2, q1, q2, q3, q4]
 · by_cases h2 : y < 0 <;> simp [h2]
theorem valid_make (x y : Int) (hy0 : y ≠ 0) : ∀ (s : Bool) (a b c d : Nat) (t : Bool) (e f g h : Nat), IsC s a b c d (numR x y) → IsC t e f g h (denR x y) → decide (RatOk s (numR x y) t (denR x y)) = decide ((numR x y).natAbs < 170141183460469231731687303715884105728 ∧ (denR x y).natAbs < 170141183460469231731687303715884105728) := by
 intro s a b c d t e f g h h1 h2
 obtain ⟨p1, p2, _⟩ := red_parts x y hy0
 rw [decide_eq_decide]
 constructor
 · intro q; exact ⟨q.2.2.2.1, q.2.2.2.2.1⟩
 · intro q; exact ⟨h1.2, h2.2, p1, q.1, q.2, p2⟩
end
section
open Go Go.RowKit
set_option maxRecDepth 100000 in
set_option maxHeartbeats 16000000 in
theorem rf_make_yes (s t : Bool) (a b c d e f g h : Nat) (x y : Int) (w : World) (hx : IsC s a b c d x) (hy : IsC t e f g h y) (hy0 : y ≠ 0) (o : Bool) (ho : decide ((numR x y).natAbs < 170141183460469231731687303715884105728 ∧ (denR x y).natAbs < 170141183460469231731687303715884105728) = o) :
   Calls Tryz.prog 29 #[.agg #[.bool s, .int .u64 (a : Int), .int .u64 (b : Int), .int .u64 (c : Int), .int .u64 (d : Int)], .agg #[.bool t, .int .u64 (e : Int), .int .u64 (f : Int), .int .u64 (g : Int), .int .u64 (h : Int)]] w (MakeRet o (if o then numR x y else 0) (if o then denR x y else 0) w) := by
 obtain ⟨N, hN⟩ : ∃ N, (if o then numR x y else 0) = N := ⟨_, rfl⟩
 obtain ⟨D, hD⟩ : ∃ D, (if o then denR x y else 0) = D := ⟨_, rfl⟩
 rw [hN, hD]
 have HN := hide hN
 have HD := hide hD
 clear hN hD
 obtain ⟨W, hW⟩ : ∃ W, W = (((w.alloc (.cells #[.bool s, .int .u64 (a : Int), .int .u64 (b : Int), .int .u64 (c : Int), .int .u64 (d : Int)] 25)).alloc (.cells #[.bool t, .int .u64 (e : Int), .int .u64 (f : Int), .int .u64 (g : Int), .int .u64 (h : Int)] 25)).alloc (.cells #[.bool false, .int .u64 0, .int .u64 0, .int .u64 0, .int .u64 0, .bool false, .int .u64 0, .int .u64 0, .int .u64 0, .int .u64 0] 27)) := ⟨_, rfl⟩
 have H3 := three_boxes w (.cells #[.bool s, .int .u64 (a : Int), .int .u64 (b : Int), .int .u64 (c : Int), .int .u64 (d : Int)] 25) (.cells #[.bool t, .int .u64 (e : Int), .int .u64 (f : Int), .int .u64 (g : Int), .int .u64 (h : Int)] 25) (.cells #[.bool false, .int .u64 0, .int .u64 0, .int .u64 0, .int .u64 0, .bool false, .int .u64 0, .int .u64 0, .int .u64 0, .int .u64 0] 27)
 rw [← hW] at H3
 have B0 : Box W w.heap.size s a b c d := H3.1
 have B1 : Box W (w.heap.size + 1) t e f g h := H3.2.1
 have B2 : Box10 W (w.heap.size + 1 + 1) false 0 0 0 0 false 0 0 0 0 := H3.2.2
 have EE : Ext w W := by rw [hW]; exact ((ext_alloc _ _).trans (ext_alloc _ _)).trans (ext_alloc _ _)
 have HW := hide hW
 obtain ⟨sg, hsg⟩ : ∃ sg, y.sign = sg := ⟨_, rfl⟩
 have hgx : (!s || decide (x ≠ 0)) = true := by have := hx.2; cases s <;> simp at this ⊢; exact this
 have hgy : (!t || decide (y ≠ 0)) = true := by simp [hy0]
 have k1 : Hid (∀ w', Calls Tryz.prog 50 #[.agg #[.bool s, .int .u64 (a : Int), .int .u64 (b : Int), .int .u64 (c : Int), .int .u64 (d : Int)]] w' (BoolRet true w')) := fun w' => by rw [← hgx]; exact ref_valid _ _ _ _ _ _ w' hx.1
 have k2 : Hid (∀ w', Calls Tryz.prog 50 #[.agg #[.bool t, .int .u64 (e : Int), .int .u64 (f : Int), .int .u64 (g : Int), .int .u64 (h : Int)]] w' (BoolRet true w')) := fun w' => by rw [← hgy]; exact ref_valid _ _ _ _ _ _ w' hy.1
 have k3 : Hid (∀ w', Calls Tryz.prog 51 #[.agg #[.bool t, .int .u64 (e : Int), .int .u64 (f : Int), .int .u64 (g : Int), .int .u64 (h : Int)]] w' (IntRet .i64 sg w')) := fun w' => by rw [← hsg]; exact ref_sign _ _ _ _ _ _ w' hy.1
 have hs0 : ¬ (sg = 0) := by rw [← hsg]; intro e; exact hy0 (Int.sign_eq_zero_iff_zero.1 e)
 obtain ⟨hn, hd, hG0⟩ := make_parts hx hy hy0
 have hG256 : ((Int.gcd (x.natAbs : Int) (y.natAbs : Int) : Nat) : Int).natAbs < 115792089237316195423570985008687907853269984665640564039457584007913129639936 := by
   have h1 := isW_fits hy.1
   have h2 : Int.gcd (x.natAbs : Int) (y.natAbs : Int) ≤ (y.natAbs : Int).natAbs := Nat.gcd_le_right _ (by simp; omega)
   simp at h2 ⊢
   omega
 obtain ⟨G, hG⟩ : ∃ G : Int, ((Int.gcd (x.natAbs : Int) (y.natAbs : Int) : Nat) : Int) = G := ⟨_, rfl⟩
 have hkg := fun w' => rf_gcd _ _ _ _ _ _ _ _ _ _ _ _ w' (abs_isC hx.1) (abs_isC hy.1) (by omega)
 rw [hG] at hn hd hG0 hG256 hkg
 obtain ⟨s8, a8, b8, c8, d8, k8⟩ := isC_some G hG256
 have hGne : Hid (G ≠ 0) := by unfold Hid; omega
 obtain ⟨df, hdf⟩ : ∃ q, (s != t) = q := ⟨_, rfl⟩
 have hne : ∀ w', (binOp .neq 4 (.bool s) (.bool t)).run Tryz.prog w' = .ok (.bool df) w' := by
   intro w'; rw [← hdf]; cases s <;> cases t <;> rfl
 rw [hdf] at hn
 obtain ⟨n, hnn⟩ : ∃ n, (x.natAbs : Int) / G = n := ⟨_, rfl⟩
 obtain ⟨m, hmm⟩ : ∃ n, (y.natAbs : Int) / G = n := ⟨_, rfl⟩
 rw [hnn] at hn
 rw [hmm] at hd
 have HNN := hide hnn
 have HMM := hide hmm
 have HN1 := hide hn
 have HD1 := hide hd
 have K8 := hide k8
 have V8 := hide k8.1
 have XA := hide (abs_isC hx.1).1
 have YA := hide (abs_isC hy.1).1
 obtain ⟨X, hX⟩ : ∃ X : Int, (x.natAbs : Int) = X := ⟨_, rfl⟩
 obtain ⟨Y, hY⟩ : ∃ X : Int, (y.natAbs : Int) = X := ⟨_, rfl⟩
 rw [hX] at XA HNN
 rw [hY] at YA HMM
 have HVV := hide (valid_make x y hy0)
 have HO := hide ho
 have ka : Hid (∀ w', Calls Tryz.prog 53 #[.agg #[.bool s, .int .u64 (a : Int), .int .u64 (b : Int), .int .u64 (c : Int), .int .u64 (d : Int)]] w' (FixRet false a b c d w')) := fun w' => (rf_abs _ _ _ _ _ _ w' hx.1).mono (fun _ _ q => fixed (abs_isC hx.1) q)
 have kb : Hid (∀ w', Calls Tryz.prog 53 #[.agg #[.bool t, .int .u64 (e : Int), .int .u64 (f : Int), .int .u64 (g : Int), .int .u64 (h : Int)]] w' (FixRet false e f g h w')) := fun w' => (rf_abs _ _ _ _ _ _ w' hy.1).mono (fun _ _ q => fixed (abs_isC hy.1) q)
 have kg : Hid (∀ w', Calls Tryz.prog 52 #[.agg #[.bool false, .int .u64 (a : Int), .int .u64 (b : Int), .int .u64 (c : Int), .int .u64 (d : Int)], .agg #[.bool false, .int .u64 (e : Int), .int .u64 (f : Int), .int .u64 (g : Int), .int .u64 (h : Int)]] w' (FixRet s8 a8 b8 c8 d8 w')) := fun w' => (hkg w').mono (fun _ _ q => fixed k8 q)
 clear hkg hn hd hG0 hG256 hG hdf hnn hmm k8 hX hY hW H3 hsg hgx hgy ho hx hy hy0
 obtain ⟨c0, c1, c2, c3, c4, f0, f1, f2, f3, f4⟩ := five_cells B0
 obtain ⟨d0, d1, d2, d3, d4, g0, g1, g2, g3, g4⟩ := five_cells B1
 go_enter Tryz.func29, Tryz.ntmps29
 go_upto_region 1 with fail
 rw [← HW.out]
 clear HW
 go_upto_region 3 with (first
   | (go_at_call 50; (with_reducible refine (k1.out _).mono ?_); rintro e' w2 ⟨rfl, hE⟩; have B0 := B0.ext hE; have B1 := B1.ext hE; have B2 := B2.ext hE; have EE := EE.trans hE; obtain ⟨c0, c1, c2, c3, c4, f0, f1, f2, f3, f4⟩ := five_cells B0; obtain ⟨d0, d1, d2, d3, d4, g0, g1, g2, g3, g4⟩ := five_cells B1; clear hE)
   | (go_at_call 50; (with_reducible refine (k2.out _).mono ?_); rintro e' w3 ⟨rfl, hE⟩; have B0 := B0.ext hE; have B1 := B1.ext hE; have B2 := B2.ext hE; have EE := EE.trans hE; obtain ⟨c0, c1, c2, c3, c4, f0, f1, f2, f3, f4⟩ := five_cells B0; obtain ⟨d0, d1, d2, d3, d4, g0, g1, g2, g3, g4⟩ := five_cells B1; clear hE)
   | (go_at_call 51; (with_reducible refine (k3.out _).mono ?_); rintro e' w4 ⟨rfl, hE⟩; have B0 := B0.ext hE; have B1 := B1.ext hE; have B2 := B2.ext hE; have EE := EE.trans hE; obtain ⟨c0, c1, c2, c3, c4, f0, f1, f2, f3, f4⟩ := five_cells B0; obtain ⟨d0, d1, d2, d3, d4, g0, g1, g2, g3, g4⟩ := five_cells B1; clear hE))
 clear k1 k2 k3
 have B2_lt := B2.lt
 go_cut [6] (fun p wx => Quot w4 G p wx)
 case first =>
  have EB := Ext.refl w4
  go_region_held3 (fun w' => w'.cell? ⟨w.heap.size, 0, none⟩ = some (.bool s) ∧ w'.cell? ⟨w.heap.size, 1, none⟩ = some (.int .u64 (a : Int)) ∧ w'.cell? ⟨w.heap.size, 2, none⟩ = some (.int .u64 (b : Int)) ∧ w'.cell? ⟨w.heap.size, 3, none⟩ = some (.int .u64 (c : Int)) ∧ w'.cell? ⟨w.heap.size, 4, none⟩ = some (.int .u64 (d : Int)) ∧ w'.cell? ⟨w.heap.size + 1, 0, none⟩ = some (.bool t) ∧ w'.cell? ⟨w.heap.size + 1, 1, none⟩ = some (.int .u64 (e : Int)) ∧ w'.cell? ⟨w.heap.size + 1, 2, none⟩ = some (.int .u64 (f : Int)) ∧ w'.cell? ⟨w.heap.size + 1, 3, none⟩ = some (.int .u64 (g : Int)) ∧ w'.cell? ⟨w.heap.size + 1, 4, none⟩ = some (.int .u64 (h : Int))) (first | (with_reducible exact ⟨c0, c1, c2, c3, c4, d0, d1, d2, d3, d4⟩) | go_keep) (first
    | (go_at_call 53; (with_reducible refine (ka.out _).mono ?_); rintro e' w5 ⟨rfl, hE⟩; have hF : Ext w6 w5 := (by first | (with_reducible exact hE) | (with_reducible exact (ext_drew _).trans hE)); clear hE; have hG := hF; have B0 := B0.ext hG; have B1 := B1.ext hG; have EB := EB.trans hG; have Nw60 := Nw60.ext hG; obtain ⟨c0, c1, c2, c3, c4, f0, f1, f2, f3, f4⟩ := five_cells B0; obtain ⟨d0, d1, d2, d3, d4, g0, g1, g2, g3, g4⟩ := five_cells B1; obtain ⟨x0c0, x0c1, x0c2, x0c3, x0c4, x0f0, x0f1, x0f2, x0f3, x0f4⟩ := five_cells Nw60; have szw5 := hG.size; have loB0 := B0.lt; have loB1 := B1.lt; have loNw60 := Nw60.lt; have ne0 : w4.heap.size ≠ w.heap.size := (by omega); have ne1 : w4.heap.size ≠ w.heap.size + 1 := (by omega); clear hF hG)
    | (go_at_call 53; (with_reducible refine (ka.out _).mono ?_); rintro e' w5 ⟨rfl, hE⟩; have hF : Ext w4 w5 := (by first | (with_reducible exact hE) | (with_reducible exact (ext_drew _).trans hE)); clear hE; have hG := hF; have B0 := B0.ext hG; have B1 := B1.ext hG; have EB := EB.trans hG; obtain ⟨c0, c1, c2, c3, c4, f0, f1, f2, f3, f4⟩ := five_cells B0; obtain ⟨d0, d1, d2, d3, d4, g0, g1, g2, g3, g4⟩ := five_cells B1; have szw5 := hG.size; have loB0 := B0.lt; have loB1 := B1.lt; clear hF hG)
    | (go_at_call 53; (with_reducible refine (ka.out _).mono ?_); rintro e' w5 ⟨rfl, hE⟩; have hF : Ext (w4.alloc (.cells #[.bool false, .int .u64 0, .int .u64 0, .int .u64 0, .int .u64 0] 25)) w5 := (by first | (with_reducible exact hE) | (with_reducible exact (ext_drew _).trans hE)); clear hE; have hG := (ext_alloc w4 (.cells #[.bool false, .int .u64 0, .int .u64 0, .int .u64 0, .int .u64 0] 25)).trans hF; have Nw50 : Box w5 (w4.heap.size) false 0 0 0 0 := (Box.new0 w4).ext hF; have B0 := B0.ext hG; have B1 := B1.ext hG; have EB := EB.trans hG; obtain ⟨c0, c1, c2, c3, c4, f0, f1, f2, f3, f4⟩ := five_cells B0; obtain ⟨d0, d1, d2, d3, d4, g0, g1, g2, g3, g4⟩ := five_cells B1; obtain ⟨x0c0, x0c1, x0c2, x0c3, x0c4, x0f0, x0f1, x0f2, x0f3, x0f4⟩ := five_cells Nw50; have szw5 := hG.size; have loB0 := B0.lt; have loB1 := B1.lt; have loNw50 := Nw50.lt; have ne0 : w4.heap.size ≠ w.heap.size := (by omega); have ne1 : w4.heap.size ≠ w.heap.size + 1 := (by omega); clear hF hG)
    | (go_at_call 53; (with_reducible refine (ka.out _).mono ?_); rintro e' w5 ⟨rfl, hE⟩; have hF : Ext w6 w5 := (by first | (with_reducible exact hE) | (with_reducible exact (ext_drew _).trans hE)); clear hE; have hG := hF; have B0 := B0.ext hG; have B1 := B1.ext hG; have EB := EB.trans hG; obtain ⟨c0, c1, c2, c3, c4, f0, f1, f2, f3, f4⟩ := five_cells B0; obtain ⟨d0, d1, d2, d3, d4, g0, g1, g2, g3, g4⟩ := five_cells B1; have szw5 := hG.size; have loB0 := B0.lt; have loB1 := B1.lt; clear hF hG)
    | (go_at_call 53; (with_reducible refine (ka.out _).mono ?_); rintro e' w5 ⟨rfl, hE⟩; have hF : Ext (w6.alloc (.cells #[.bool false, .int .u64 0, .int .u64 0, .int .u64 0, .int .u64 0] 25)) w5 := (by first | (with_reducible exact hE) | (with_reducible exact (ext_drew _).trans hE)); clear hE; have hG := (ext_alloc w6 (.cells #[.bool false, .int .u64 0, .int .u64 0, .int .u64 0, .int .u64 0] 25)).trans hF; have Nw50 : Box w5 (w6.heap.size) false 0 0 0 0 := (Box.new0 w6).ext hF; have B0 := B0.ext hG; have B1 := B1.ext hG; have EB := EB.trans hG; obtain ⟨c0, c1, c2, c3, c4, f0, f1, f2, f3, f4⟩ := five_cells B0; obtain ⟨d0, d1, d2, d3, d4, g0, g1, g2, g3, g4⟩ := five_cells B1; obtain ⟨x0c0, x0c1, x0c2, x0c3, x0c4, x0f0, x0f1, x0f2, x0f3, x0f4⟩ := five_cells Nw50; have szw5 := hG.size; have loB0 := B0.lt; have loB1 := B1.lt; have loNw50 := Nw50.lt; have ne0 : w6.heap.size ≠ w.heap.size := (by omega); have ne1 : w6.heap.size ≠ w.heap.size + 1 := (by omega); clear hF hG)
    | (go_at_call 53; (with_reducible refine (kb.out _).mono ?_); rintro e' w6 ⟨rfl, hE⟩; have hF : Ext w5 w6 := (by first | (with_reducible exact hE) | (with_reducible exact (ext_drew _).trans hE)); clear hE; have hG := hF; have B0 := B0.ext hG; have B1 := B1.ext hG; have EB := EB.trans hG; have Nw50 := Nw50.ext hG; obtain ⟨c0, c1, c2, c3, c4, f0, f1, f2, f3, f4⟩ := five_cells B0; obtain ⟨d0, d1, d2, d3, d4, g0, g1, g2, g3, g4⟩ := five_cells B1; obtain ⟨x0c0, x0c1, x0c2, x0c3, x0c4, x0f0, x0f1, x0f2, x0f3, x0f4⟩ := five_cells Nw50; have szw6 := hG.size; have loB0 := B0.lt; have loB1 := B1.lt; have loNw50 := Nw50.lt; have ne0 : w4.heap.size ≠ w.heap.size := (by omega); have ne1 : w4.heap.size ≠ w.heap.size + 1 := (by omega); clear hF hG)
    | (go_at_call 53; (with_reducible refine (kb.out _).mono ?_); rintro e' w6 ⟨rfl, hE⟩; have hF : Ext w5 w6 := (by first | (with_reducible exact hE) | (with_reducible exact (ext_drew _).trans hE)); clear hE; have hG := hF; have B0 := B0.ext hG; have B1 := B1.ext hG; have EB := EB.trans hG; obtain ⟨c0, c1, c2, c3, c4, f0, f1, f2, f3, f4⟩ := five_cells B0; obtain ⟨d0, d1, d2, d3, d4, g0, g1, g2, g3, g4⟩ := five_cells B1; have szw6 := hG.size; have loB0 := B0.lt; have loB1 := B1.lt; clear hF hG)
    | (go_at_call 53; (with_reducible refine (kb.out _).mono ?_); rintro e' w6 ⟨rfl, hE⟩; have hF : Ext (w5.alloc (.cells #[.bool false, .int .u64 0, .int .u64 0, .int .u64 0, .int .u64 0] 25)) w6 := (by first | (with_reducible exact hE) | (with_reducible exact (ext_drew _).trans hE)); clear hE; have hG := (ext_alloc w5 (.cells #[.bool false, .int .u64 0, .int .u64 0, .int .u64 0, .int .u64 0] 25)).trans hF; have Nw60 : Box w6 (w5.heap.size) false 0 0 0 0 := (Box.new0 w5).ext hF; have B0 := B0.ext hG; have B1 := B1.ext hG; have EB := EB.trans hG; obtain ⟨c0, c1, c2, c3, c4, f0, f1, f2, f3, f4⟩ := five_cells B0; obtain ⟨d0, d1, d2, d3, d4, g0, g1, g2, g3, g4⟩ := five_cells B1; obtain ⟨x0c0, x0c1, x0c2, x0c3, x0c4, x0f0, x0f1, x0f2, x0f3, x0f4⟩ := five_cells Nw60; have szw6 := hG.size; have loB0 := B0.lt; have loB1 := B1.lt; have loNw60 := Nw60.lt; have ne0 : w5.heap.size ≠ w.heap.size := (by omega); have ne1 : w5.heap.size ≠ w.heap.size + 1 := (by omega); clear hF hG)
    | (go_at_call 53; (with_reducible refine (kb.out _).mono ?_); rintro e' w6 ⟨rfl, hE⟩; have hF : Ext w4 w6 := (by first | (with_reducible exact hE) | (with_reducible exact (ext_drew _).trans hE)); clear hE; have hG := hF; have B0 := B0.ext hG; have B1 := B1.ext hG; have EB := EB.trans hG; obtain ⟨c0, c1, c2, c3, c4, f0, f1, f2, f3, f4⟩ := five_cells B0; obtain ⟨d0, d1, d2, d3, d4, g0, g1, g2, g3, g4⟩ := five_cells B1; have szw6 := hG.size; have loB0 := B0.lt; have loB1 := B1.lt; clear hF hG)
    | (go_at_call 53; (with_reducible refine (kb.out _).mono ?_); rintro e' w6 ⟨rfl, hE⟩; have hF : Ext (w4.alloc (.cells #[.bool false, .int .u64 0, .int .u64 0, .int .u64 0, .int .u64 0] 25)) w6 := (by first | (with_reducible exact hE) | (with_reducible exact (ext_drew _).trans hE)); clear hE; have hG := (ext_alloc w4 (.cells #[.bool false, .int .u64 0, .int .u64 0, .int .u64 0, .int .u64 0] 25)).trans hF; have Nw60 : Box w6 (w4.heap.size) false 0 0 0 0 := (Box.new0 w4).ext hF; have B0 := B0.ext hG; have B1 := B1.ext hG; have EB := EB.trans hG; obtain ⟨c0, c1, c2, c3, c4, f0, f1, f2, f3, f4⟩ := five_cells B0; obtain ⟨d0, d1, d2, d3, d4, g0, g1, g2, g3, g4⟩ := five_cells B1; obtain ⟨x0c0, x0c1, x0c2, x0c3, x0c4, x0f0, x0f1, x0f2, x0f3, x0f4⟩ := five_cells Nw60; have szw6 := hG.size; have loB0 := B0.lt; have loB1 := B1.lt; have loNw60 := Nw60.lt; have ne0 : w4.heap.size ≠ w.heap.size := (by omega); have ne1 : w4.heap.size ≠ w.heap.size + 1 := (by omega); clear hF hG)
    | (go_at_call 52; (with_reducible refine (kg.out _).mono ?_); rintro e' w7 ⟨rfl, hE⟩; have hF : Ext w6 w7 := (by first | (with_reducible exact hE) | (with_reducible exact (ext_drew _).trans hE)); clear hE; have hG := hF; have B0 := B0.ext hG; have B1 := B1.ext hG; have EB := EB.trans hG; have Nw60 := Nw60.ext hG; obtain ⟨c0, c1, c2, c3, c4, f0, f1, f2, f3, f4⟩ := five_cells B0; obtain ⟨d0, d1, d2, d3, d4, g0, g1, g2, g3, g4⟩ := five_cells B1; obtain ⟨x0c0, x0c1, x0c2, x0c3, x0c4, x0f0, x0f1, x0f2, x0f3, x0f4⟩ := five_cells Nw60; have szw7 := hG.size; have loB0 := B0.lt; have loB1 := B1.lt; have loNw60 := Nw60.lt; have ne0 : w5.heap.size ≠ w.heap.size := (by omega); have ne1 : w5.heap.size ≠ w.heap.size + 1 := (by omega); clear hF hG)
    | (go_at_call 52; (with_reducible refine (kg.out _).mono ?_); rintro e' w7 ⟨rfl, hE⟩; have hF : Ext w6 w7 := (by first | (with_reducible exact hE) | (with_reducible exact (ext_drew _).trans hE)); clear hE; have hG := hF; have B0 := B0.ext hG; have B1 := B1.ext hG; have EB := EB.trans hG; have Nw50 := Nw50.ext hG; obtain ⟨c0, c1, c2, c3, c4, f0, f1, f2, f3, f4⟩ := five_cells B0; obtain ⟨d0, d1, d2, d3, d4, g0, g1, g2, g3, g4⟩ := five_cells B1; obtain ⟨x0c0, x0c1, x0c2, x0c3, x0c4, x0f0, x0f1, x0f2, x0f3, x0f4⟩ := five_cells Nw50; have szw7 := hG.size; have loB0 := B0.lt; have loB1 := B1.lt; have loNw50 := Nw50.lt; have ne0 : w4.heap.size ≠ w.heap.size := (by omega); have ne1 : w4.heap.size ≠ w.heap.size + 1 := (by omega); clear hF hG)
    | (go_at_call 52; (with_reducible refine (kg.out _).mono ?_); rintro e' w7 ⟨rfl, hE⟩; have hF : Ext w5 w7 := (by first | (with_reducible exact hE) | (with_reducible exact (ext_drew _).trans hE)); clear hE; have hG := hF; have B0 := B0.ext hG; have B1 := B1.ext hG; have EB := EB.trans hG; have Nw50 := Nw50.ext hG; obtain ⟨c0, c1, c2, c3, c4, f0, f1, f2, f3, f4⟩ := five_cells B0; obtain ⟨d0, d1, d2, d3, d4, g0, g1, g2, g3, g4⟩ := five_cells B1; obtain ⟨x0c0, x0c1, x0c2, x0c3, x0c4, x0f0, x0f1, x0f2, x0f3, x0f4⟩ := five_cells Nw50; have szw7 := hG.size; have loB0 := B0.lt; have loB1 := B1.lt; have loNw50 := Nw50.lt; have ne0 : w6.heap.size ≠ w.heap.size := (by omega); have ne1 : w6.heap.size ≠ w.heap.size + 1 := (by omega); clear hF hG)
    | (go_at_call 52; (with_reducible refine (kg.out _).mono ?_); rintro e' w7 ⟨rfl, hE⟩; have hF : Ext w5 w7 := (by first | (with_reducible exact hE) | (with_reducible exact (ext_drew _).trans hE)); clear hE; have hG := hF; have B0 := B0.ext hG; have B1 := B1.ext hG; have EB := EB.trans hG; have Nw60 := Nw60.ext hG; obtain ⟨c0, c1, c2, c3, c4, f0, f1, f2, f3, f4⟩ := five_cells B0; obtain ⟨d0, d1, d2, d3, d4, g0, g1, g2, g3, g4⟩ := five_cells B1; obtain ⟨x0c0, x0c1, x0c2, x0c3, x0c4, x0f0, x0f1, x0f2, x0f3, x0f4⟩ := five_cells Nw60; have szw7 := hG.size; have loB0 := B0.lt; have loB1 := B1.lt; have loNw60 := Nw60.lt; have ne0 : w4.heap.size ≠ w.heap.size := (by omega); have ne1 : w4.heap.size ≠ w.heap.size + 1 := (by omega); clear hF hG)
    | (go_at_call 52; (with_reducible refine (kg.out _).mono ?_); rintro e' w7 ⟨rfl, hE⟩; have hF : Ext w6 w7 := (by first | (with_reducible exact hE) | (with_reducible exact (ext_drew _).trans hE)); clear hE; have hG := hF; have B0 := B0.ext hG; have B1 := B1.ext hG; have EB := EB.trans hG; obtain ⟨c0, c1, c2, c3, c4, f0, f1, f2, f3, f4⟩ := five_cells B0; obtain ⟨d0, d1, d2, d3, d4, g0, g1, g2, g3, g4⟩ := five_cells B1; have szw7 := hG.size; have loB0 := B0.lt; have loB1 := B1.lt; clear hF hG)
    | (go_at_call 52; (with_reducible refine (kg.out _).mono ?_); rintro e' w7 ⟨rfl, hE⟩; have hF : Ext (w6.alloc (.cells #[.bool false, .int .u64 0, .int .u64 0, .int .u64 0, .int .u64 0] 25)) w7 := (by first | (with_reducible exact hE) | (with_reducible exact (ext_drew _).trans hE)); clear hE; have hG := (ext_alloc w6 (.cells #[.bool false, .int .u64 0, .int .u64 0, .int .u64 0, .int .u64 0] 25)).trans hF; have Nw70 : Box w7 (w6.heap.size) false 0 0 0 0 := (Box.new0 w6).ext hF; have B0 := B0.ext hG; have B1 := B1.ext hG; have EB := EB.trans hG; obtain ⟨c0, c1, c2, c3, c4, f0, f1, f2, f3, f4⟩ := five_cells B0; obtain ⟨d0, d1, d2, d3, d4, g0, g1, g2, g3, g4⟩ := five_cells B1; obtain ⟨x0c0, x0c1, x0c2, x0c3, x0c4, x0f0, x0f1, x0f2, x0f3, x0f4⟩ := five_cells Nw70; have szw7 := hG.size; have loB0 := B0.lt; have loB1 := B1.lt; have loNw70 := Nw70.lt; have ne0 : w6.heap.size ≠ w.heap.size := (by omega); have ne1 : w6.heap.size ≠ w.heap.size + 1 := (by omega); clear hF hG)
    | (go_at_call 52; (with_reducible refine (kg.out _).mono ?_); rintro e' w7 ⟨rfl, hE⟩; have hF : Ext w5 w7 := (by first | (with_reducible exact hE) | (with_reducible exact (ext_drew _).trans hE)); clear hE; have hG := hF; have B0 := B0.ext hG; have B1 := B1.ext hG; have EB := EB.trans hG; obtain ⟨c0, c1, c2, c3, c4, f0, f1, f2, f3, f4⟩ := five_cells B0; obtain ⟨d0, d1, d2, d3, d4, g0, g1, g2, g3, g4⟩ := five_cells B1; have szw7 := hG.size; have loB0 := B0.lt; have loB1 := B1.lt; clear hF hG)
    | (go_at_call 52; (with_reducible refine (kg.out _).mono ?_); rintro e' w7 ⟨rfl, hE⟩; have hF : Ext (w5.alloc (.cells #[.bool false, .int .u64 0, .int .u64 0, .int .u64 0, .int .u64 0] 25)) w7 := (by first | (with_reducible exact hE) | (with_reducible exact (ext_drew _).trans hE)); clear hE; have hG := (ext_alloc w5 (.cells #[.bool false, .int .u64 0, .int .u64 0, .int .u64 0, .int .u64 0] 25)).trans hF; have Nw70 : Box w7 (w5.heap.size) false 0 0 0 0 := (Box.new0 w5).ext hF; have B0 := B0.ext hG; have B1 := B1.ext hG; have EB := EB.trans hG; obtain ⟨c0, c1, c2, c3, c4, f0, f1, f2, f3, f4⟩ := five_cells B0; obtain ⟨d0, d1, d2, d3, d4, g0, g1, g2, g3, g4⟩ := five_cells B1; obtain ⟨x0c0, x0c1, x0c2, x0c3, x0c4, x0f0, x0f1, x0f2, x0f3, x0f4⟩ := five_cells Nw70; have szw7 := hG.size; have loB0 := B0.lt; have loB1 := B1.lt; have loNw70 := Nw70.lt; have ne0 : w5.heap.size ≠ w.heap.size := (by omega); have ne1 : w5.heap.size ≠ w.heap.size + 1 := (by omega); clear hF hG))
  all_goals go_wp2_with fail
  all_goals go_meet
  all_goals first
    | (with_reducible exact one0 K8.out EB)
    | (with_reducible exact one1 K8.out EB (g := w4.heap.size) Nw50 (by omega))
    | (with_reducible exact one1 K8.out EB (g := w6.heap.size) Nw50 (by omega))
    | (with_reducible exact one1 K8.out EB (g := w4.heap.size) Nw60 (by omega))
    | (with_reducible exact one1 K8.out EB (g := w5.heap.size) Nw60 (by omega))
    | (with_reducible exact one1 K8.out EB (g := w5.heap.size) Nw70 (by omega))
    | (with_reducible exact one1 K8.out EB (g := w6.heap.size) Nw70 (by omega))
 case rest =>
  obtain ⟨g6, s6, a6, b6, c6, d6, rfl, C6, B6, hg6, hE⟩ := hcut
  obtain ⟨rfl, rfl, rfl, rfl, rfl⟩ := K8.out.uniq C6
  have B0 := B0.ext hE; have B1 := B1.ext hE; have B2 := B2.ext hE; have EE := EE.trans hE
  have l6 := B6.lt
  have n6 : w.heap.size + 1 + 1 < g6 := Nat.lt_of_lt_of_le B2_lt hg6
  clear C6 hE hg6 B2_lt kg
  obtain ⟨c0, c1, c2, c3, c4, f0, f1, f2, f3, f4⟩ := five_cells B0
  obtain ⟨d0, d1, d2, d3, d4, g0, g1, g2, g3, g4⟩ := five_cells B1
  obtain ⟨m0, m1, m2, m3, m4, mf0, mf1, mf2, mf3, mf4⟩ := five_cells B6
  go_upto_region 4 with fail
  go_cut [7] (fun p wx => Quot wc n p wx)
  case first =>
   have EB := Ext.refl wc
   go_region_held3 (fun w' => w'.cell? ⟨w.heap.size, 0, none⟩ = some (.bool s) ∧ w'.cell? ⟨w.heap.size, 1, none⟩ = some (.int .u64 (a : Int)) ∧ w'.cell? ⟨w.heap.size, 2, none⟩ = some (.int .u64 (b : Int)) ∧ w'.cell? ⟨w.heap.size, 3, none⟩ = some (.int .u64 (c : Int)) ∧ w'.cell? ⟨w.heap.size, 4, none⟩ = some (.int .u64 (d : Int)) ∧ w'.cell? ⟨g6, 0, none⟩ = some (.bool s8) ∧ w'.cell? ⟨g6, 1, none⟩ = some (.int .u64 (a8 : Int)) ∧ w'.cell? ⟨g6, 2, none⟩ = some (.int .u64 (b8 : Int)) ∧ w'.cell? ⟨g6, 3, none⟩ = some (.int .u64 (c8 : Int)) ∧ w'.cell? ⟨g6, 4, none⟩ = some (.int .u64 (d8 : Int))) (first | (with_reducible exact ⟨c0, c1, c2, c3, c4, m0, m1, m2, m3, m4⟩) | go_keep) (first
     | (go_at_call 53; (with_reducible refine (ka.out _).mono ?_); rintro e' w5 ⟨rfl, hE⟩; have hF : Ext wc w5 := (by first | (with_reducible exact hE) | (with_reducible exact (ext_drew _).trans hE)); clear hE; have hG := hF; have B0 := B0.ext hG; have B6 := B6.ext hG; have EB := EB.trans hG; obtain ⟨c0, c1, c2, c3, c4, f0, f1, f2, f3, f4⟩ := five_cells B0; obtain ⟨m0, m1, m2, m3, m4, mf0, mf1, mf2, mf3, mf4⟩ := five_cells B6; have szw5 := hG.size; have loB0 := B0.lt; have loB6 := B6.lt; clear hF hG)
     | (go_at_call 53; (with_reducible refine (ka.out _).mono ?_); rintro e' w5 ⟨rfl, hE⟩; have hF : Ext (wc.alloc (.cells #[.bool false, .int .u64 0, .int .u64 0, .int .u64 0, .int .u64 0] 25)) w5 := (by first | (with_reducible exact hE) | (with_reducible exact (ext_drew _).trans hE)); clear hE; have hG := (ext_alloc wc (.cells #[.bool false, .int .u64 0, .int .u64 0, .int .u64 0, .int .u64 0] 25)).trans hF; have Nw50 : Box w5 (wc.heap.size) false 0 0 0 0 := (Box.new0 wc).ext hF; have B0 := B0.ext hG; have B6 := B6.ext hG; have EB := EB.trans hG; obtain ⟨c0, c1, c2, c3, c4, f0, f1, f2, f3, f4⟩ := five_cells B0; obtain ⟨m0, m1, m2, m3, m4, mf0, mf1, mf2, mf3, mf4⟩ := five_cells B6; obtain ⟨x0c0, x0c1, x0c2, x0c3, x0c4, x0f0, x0f1, x0f2, x0f3, x0f4⟩ := five_cells Nw50; have szw5 := hG.size; have loB0 := B0.lt; have loB6 := B6.lt; have loNw50 := Nw50.lt; have ne0 : wc.heap.size ≠ w.heap.size := (by omega); have ne1 : wc.heap.size ≠ g6 := (by omega); clear hF hG)
     | (go_at_call 53; (with_reducible refine (ka.out _).mono ?_); rintro e' w5 ⟨rfl, hE⟩; have hF : Ext ((wc.alloc (.cells #[.bool false, .int .u64 0, .int .u64 0, .int .u64 0, .int .u64 0] 25)).alloc (.cells #[.bool false, .int .u64 0, .int .u64 0, .int .u64 0, .int .u64 0] 25)) w5 := (by first | (with_reducible exact hE) | (with_reducible exact (ext_drew _).trans hE)); clear hE; have hG := ((ext_alloc wc (.cells #[.bool false, .int .u64 0, .int .u64 0, .int .u64 0, .int .u64 0] 25)).trans (ext_alloc _ (.cells #[.bool false, .int .u64 0, .int .u64 0, .int .u64 0, .int .u64 0] 25))).trans hF; have Nw50 : Box w5 (wc.heap.size) false 0 0 0 0 := ((Box.new0 wc).ext (ext_alloc _ _)).ext hF; have Nw51 : Box w5 (wc.heap.size + 1) false 0 0 0 0 := (show Box ((wc.alloc (.cells #[.bool false, .int .u64 0, .int .u64 0, .int .u64 0, .int .u64 0] 25)).alloc (.cells #[.bool false, .int .u64 0, .int .u64 0, .int .u64 0, .int .u64 0] 25)) (wc.heap.size + 1) false 0 0 0 0 from (two_blocks wc (.cells #[.bool false, .int .u64 0, .int .u64 0, .int .u64 0, .int .u64 0] 25) (.cells #[.bool false, .int .u64 0, .int .u64 0, .int .u64 0, .int .u64 0] 25)).2).ext hF; have B0 := B0.ext hG; have B6 := B6.ext hG; have EB := EB.trans hG; obtain ⟨c0, c1, c2, c3, c4, f0, f1, f2, f3, f4⟩ := five_cells B0; obtain ⟨m0, m1, m2, m3, m4, mf0, mf1, mf2, mf3, mf4⟩ := five_cells B6; obtain ⟨x0c0, x0c1, x0c2, x0c3, x0c4, x0f0, x0f1, x0f2, x0f3, x0f4⟩ := five_cells Nw50; obtain ⟨x1c0, x1c1, x1c2, x1c3, x1c4, x1f0, x1f1, x1f2, x1f3, x1f4⟩ := five_cells Nw51; have szw5 := hG.size; have loB0 := B0.lt; have loB6 := B6.lt; have loNw50 := Nw50.lt; have loNw51 := Nw51.lt; have ne0 : wc.heap.size ≠ w.heap.size := (by omega); have ne1 : wc.heap.size + 1 ≠ w.heap.size := (by omega); have ne2 : wc.heap.size ≠ g6 := (by omega); have ne3 : wc.heap.size + 1 ≠ g6 := (by omega); have ne4 : wc.heap.size + 1 ≠ wc.heap.size := (by omega); clear hF hG)
     | (go_at_call 54; refine (ref_wdiv false s8 a b c d a8 b8 c8 d8 X G _ XA.out V8.out).mono ?_; rintro e' w9 ⟨s3, a3, b3, c3, d3, s9, a9, b9, c9, d9, o3, rfl, ho, C3, C4, hE⟩; have Ho := hide ho; rw [if_neg hGne.out] at C3; rw [HNN.out] at C3; have K3 := hide C3; clear ho C3 C4; have hF : Ext w5 w9 := (by first | (with_reducible exact hE) | (with_reducible exact (ext_drew _).trans hE)); clear hE; have hG := hF; have B0 := B0.ext hG; have B6 := B6.ext hG; have EB := EB.trans hG; have Nw50 := Nw50.ext hG; have Nw51 := Nw51.ext hG; obtain ⟨c0, c1, c2, c3, c4, f0, f1, f2, f3, f4⟩ := five_cells B0; obtain ⟨m0, m1, m2, m3, m4, mf0, mf1, mf2, mf3, mf4⟩ := five_cells B6; obtain ⟨x0c0, x0c1, x0c2, x0c3, x0c4, x0f0, x0f1, x0f2, x0f3, x0f4⟩ := five_cells Nw50; obtain ⟨x1c0, x1c1, x1c2, x1c3, x1c4, x1f0, x1f1, x1f2, x1f3, x1f4⟩ := five_cells Nw51; have szw9 := hG.size; have loB0 := B0.lt; have loB6 := B6.lt; have loNw50 := Nw50.lt; have loNw51 := Nw51.lt; have ne0 : wc.heap.size ≠ w.heap.size := (by omega); have ne1 : wc.heap.size + 1 ≠ w.heap.size := (by omega); have ne2 : wc.heap.size ≠ g6 := (by omega); have ne3 : wc.heap.size + 1 ≠ g6 := (by omega); have ne4 : wc.heap.size + 1 ≠ wc.heap.size := (by omega); clear hF hG)
     | (go_at_call 54; refine (ref_wdiv false s8 a b c d a8 b8 c8 d8 X G _ XA.out V8.out).mono ?_; rintro e' w9 ⟨s3, a3, b3, c3, d3, s9, a9, b9, c9, d9, o3, rfl, ho, C3, C4, hE⟩; have Ho := hide ho; rw [if_neg hGne.out] at C3; rw [HNN.out] at C3; have K3 := hide C3; clear ho C3 C4; have hF : Ext w5 w9 := (by first | (with_reducible exact hE) | (with_reducible exact (ext_drew _).trans hE)); clear hE; have hG := hF; have B0 := B0.ext hG; have B6 := B6.ext hG; have EB := EB.trans hG; have Nw50 := Nw50.ext hG; obtain ⟨c0, c1, c2, c3, c4, f0, f1, f2, f3, f4⟩ := five_cells B0; obtain ⟨m0, m1, m2, m3, m4, mf0, mf1, mf2, mf3, mf4⟩ := five_cells B6; obtain ⟨x0c0, x0c1, x0c2, x0c3, x0c4, x0f0, x0f1, x0f2, x0f3, x0f4⟩ := five_cells Nw50; have szw9 := hG.size; have loB0 := B0.lt; have loB6 := B6.lt; have loNw50 := Nw50.lt; have ne0 : wc.heap.size ≠ w.heap.size := (by omega); have ne1 : wc.heap.size ≠ g6 := (by omega); clear hF hG)
     | (go_at_call 54; refine (ref_wdiv false s8 a b c d a8 b8 c8 d8 X G _ XA.out V8.out).mono ?_; rintro e' w9 ⟨s3, a3, b3, c3, d3, s9, a9, b9, c9, d9, o3, rfl, ho, C3, C4, hE⟩; have Ho := hide ho; rw [if_neg hGne.out] at C3; rw [HNN.out] at C3; have K3 := hide C3; clear ho C3 C4; have hF : Ext (w5.alloc (.cells #[.bool false, .int .u64 0, .int .u64 0, .int .u64 0, .int .u64 0] 25)) w9 := (by first | (with_reducible exact hE) | (with_reducible exact (ext_drew _).trans hE)); clear hE; have hG := (ext_alloc w5 (.cells #[.bool false, .int .u64 0, .int .u64 0, .int .u64 0, .int .u64 0] 25)).trans hF; have Nw90 : Box w9 (w5.heap.size) false 0 0 0 0 := (Box.new0 w5).ext hF; have B0 := B0.ext hG; have B6 := B6.ext hG; have EB := EB.trans hG; have Nw50 := Nw50.ext hG; obtain ⟨c0, c1, c2, c3, c4, f0, f1, f2, f3, f4⟩ := five_cells B0; obtain ⟨m0, m1, m2, m3, m4, mf0, mf1, mf2, mf3, mf4⟩ := five_cells B6; obtain ⟨x0c0, x0c1, x0c2, x0c3, x0c4, x0f0, x0f1, x0f2, x0f3, x0f4⟩ := five_cells Nw50; obtain ⟨x1c0, x1c1, x1c2, x1c3, x1c4, x1f0, x1f1, x1f2, x1f3, x1f4⟩ := five_cells Nw90; have szw9 := hG.size; have loB0 := B0.lt; have loB6 := B6.lt; have loNw50 := Nw50.lt; have loNw90 := Nw90.lt; have ne0 : wc.heap.size ≠ w.heap.size := (by omega); have ne1 : w5.heap.size ≠ w.heap.size := (by omega); have ne2 : wc.heap.size ≠ g6 := (by omega); have ne3 : w5.heap.size ≠ g6 := (by omega); have ne4 : w5.heap.size ≠ wc.heap.size := (by omega); clear hF hG)
     | (go_at_call 54; refine (ref_wdiv false s8 a b c d a8 b8 c8 d8 X G _ XA.out V8.out).mono ?_; rintro e' w9 ⟨s3, a3, b3, c3, d3, s9, a9, b9, c9, d9, o3, rfl, ho, C3, C4, hE⟩; have Ho := hide ho; rw [if_neg hGne.out] at C3; rw [HNN.out] at C3; have K3 := hide C3; clear ho C3 C4; have hF : Ext w5 w9 := (by first | (with_reducible exact hE) | (with_reducible exact (ext_drew _).trans hE)); clear hE; have hG := hF; have B0 := B0.ext hG; have B6 := B6.ext hG; have EB := EB.trans hG; obtain ⟨c0, c1, c2, c3, c4, f0, f1, f2, f3, f4⟩ := five_cells B0; obtain ⟨m0, m1, m2, m3, m4, mf0, mf1, mf2, mf3, mf4⟩ := five_cells B6; have szw9 := hG.size; have loB0 := B0.lt; have loB6 := B6.lt; clear hF hG)
     | (go_at_call 54; refine (ref_wdiv false s8 a b c d a8 b8 c8 d8 X G _ XA.out V8.out).mono ?_; rintro e' w9 ⟨s3, a3, b3, c3, d3, s9, a9, b9, c9, d9, o3, rfl, ho, C3, C4, hE⟩; have Ho := hide ho; rw [if_neg hGne.out] at C3; rw [HNN.out] at C3; have K3 := hide C3; clear ho C3 C4; have hF : Ext (w5.alloc (.cells #[.bool false, .int .u64 0, .int .u64 0, .int .u64 0, .int .u64 0] 25)) w9 := (by first | (with_reducible exact hE) | (with_reducible exact (ext_drew _).trans hE)); clear hE; have hG := (ext_alloc w5 (.cells #[.bool false, .int .u64 0, .int .u64 0, .int .u64 0, .int .u64 0] 25)).trans hF; have Nw90 : Box w9 (w5.heap.size) false 0 0 0 0 := (Box.new0 w5).ext hF; have B0 := B0.ext hG; have B6 := B6.ext hG; have EB := EB.trans hG; obtain ⟨c0, c1, c2, c3, c4, f0, f1, f2, f3, f4⟩ := five_cells B0; obtain ⟨m0, m1, m2, m3, m4, mf0, mf1, mf2, mf3, mf4⟩ := five_cells B6; obtain ⟨x0c0, x0c1, x0c2, x0c3, x0c4, x0f0, x0f1, x0f2, x0f3, x0f4⟩ := five_cells Nw90; have szw9 := hG.size; have loB0 := B0.lt; have loB6 := B6.lt; have loNw90 := Nw90.lt; have ne0 : w5.heap.size ≠ w.heap.size := (by omega); have ne1 : w5.heap.size ≠ g6 := (by omega); clear hF hG)
     | (go_at_call 54; refine (ref_wdiv false s8 a b c d a8 b8 c8 d8 X G _ XA.out V8.out).mono ?_; rintro e' w9 ⟨s3, a3, b3, c3, d3, s9, a9, b9, c9, d9, o3, rfl, ho, C3, C4, hE⟩; have Ho := hide ho; rw [if_neg hGne.out] at C3; rw [HNN.out] at C3; have K3 := hide C3; clear ho C3 C4; have hF : Ext ((w5.alloc (.cells #[.bool false, .int .u64 0, .int .u64 0, .int .u64 0, .int .u64 0] 25)).alloc (.cells #[.bool false, .int .u64 0, .int .u64 0, .int .u64 0, .int .u64 0] 25)) w9 := (by first | (with_reducible exact hE) | (with_reducible exact (ext_drew _).trans hE)); clear hE; have hG := ((ext_alloc w5 (.cells #[.bool false, .int .u64 0, .int .u64 0, .int .u64 0, .int .u64 0] 25)).trans (ext_alloc _ (.cells #[.bool false, .int .u64 0, .int .u64 0, .int .u64 0, .int .u64 0] 25))).trans hF; have Nw90 : Box w9 (w5.heap.size) false 0 0 0 0 := ((Box.new0 w5).ext (ext_alloc _ _)).ext hF; have Nw91 : Box w9 (w5.heap.size + 1) false 0 0 0 0 := (show Box ((w5.alloc (.cells #[.bool false, .int .u64 0, .int .u64 0, .int .u64 0, .int .u64 0] 25)).alloc (.cells #[.bool false, .int .u64 0, .int .u64 0, .int .u64 0, .int .u64 0] 25)) (w5.heap.size + 1) false 0 0 0 0 from (two_blocks w5 (.cells #[.bool false, .int .u64 0, .int .u64 0, .int .u64 0, .int .u64 0] 25) (.cells #[.bool false, .int .u64 0, .int .u64 0, .int .u64 0, .int .u64 0] 25)).2).ext hF; have B0 := B0.ext hG; have B6 := B6.ext hG; have EB := EB.trans hG; obtain ⟨c0, c1, c2, c3, c4, f0, f1, f2, f3, f4⟩ := five_cells B0; obtain ⟨m0, m1, m2, m3, m4, mf0, mf1, mf2, mf3, mf4⟩ := five_cells B6; obtain ⟨x0c0, x0c1, x0c2, x0c3, x0c4, x0f0, x0f1, x0f2, x0f3, x0f4⟩ := five_cells Nw90; obtain ⟨x1c0, x1c1, x1c2, x1c3, x1c4, x1f0, x1f1, x1f2, x1f3, x1f4⟩ := five_cells Nw91; have szw9 := hG.size; have loB0 := B0.lt; have loB6 := B6.lt; have loNw90 := Nw90.lt; have loNw91 := Nw91.lt; have ne0 : w5.heap.size ≠ w.heap.size := (by omega); have ne1 : w5.heap.size + 1 ≠ w.heap.size := (by omega); have ne2 : w5.heap.size ≠ g6 := (by omega); have ne3 : w5.heap.size + 1 ≠ g6 := (by omega); have ne4 : w5.heap.size + 1 ≠ w5.heap.size := (by omega); clear hF hG))
   all_goals go_wp2_with fail
   all_goals go_meet
   all_goals first
     | (with_reducible exact quo0 K3.out EB)
     | (with_reducible exact quo0' K3.out EB)
     | (with_reducible exact quo1 K3.out EB Nw50 (by omega))
     | (with_reducible exact quo1 K3.out EB Nw51 (by omega))
     | (with_reducible exact quo1 K3.out EB Nw90 (by omega))
     | (with_reducible exact quo1 K3.out EB Nw91 (by omega))
     | (with_reducible exact quo1' K3.out EB (g := wc.heap.size) (by omega))
     | (with_reducible exact quo1' K3.out EB (g := wc.heap.size + 1) (by omega))
     | (with_reducible exact quo1' K3.out EB (g := w5.heap.size) (by omega))
     | (with_reducible exact quo1' K3.out EB (g := w5.heap.size + 1) (by omega))
     | (with_reducible exact quo2 K3.out EB Nw50 (g' := wc.heap.size + 1) (by omega) (by omega) (by omega))
     | (with_reducible exact quo2 K3.out EB Nw50 (g' := w5.heap.size) (by omega) (by omega) (by omega))
     | (with_reducible exact quo2 K3.out EB Nw50 (g' := w5.heap.size + 1) (by omega) (by omega) (by omega))
     | (with_reducible exact quo2 K3.out EB Nw51 (g' := wc.heap.size) (by omega) (by omega) (by omega))
     | (with_reducible exact quo2 K3.out EB Nw51 (g' := w5.heap.size) (by omega) (by omega) (by omega))
     | (with_reducible exact quo2 K3.out EB Nw51 (g' := w5.heap.size + 1) (by omega) (by omega) (by omega))
     | (with_reducible exact quo2 K3.out EB Nw90 (g' := wc.heap.size) (by omega) (by omega) (by omega))
     | (with_reducible exact quo2 K3.out EB Nw90 (g' := wc.heap.size + 1) (by omega) (by omega) (by omega))
     | (with_reducible exact quo2 K3.out EB Nw90 (g' := w5.heap.size + 1) (by omega) (by omega) (by omega))
     | (with_reducible exact quo2 K3.out EB Nw91 (g' := wc.heap.size) (by omega) (by omega) (by omega))
     | (with_reducible exact quo2 K3.out EB Nw91 (g' := wc.heap.size + 1) (by omega) (by omega) (by omega))
     | (with_reducible exact quo2 K3.out EB Nw91 (g' := w5.heap.size) (by omega) (by omega) (by omega))
  case rest =>
   obtain ⟨g7, s7, a7, b7, c7, d7, rfl, C7, B7, hg7, hE⟩ := hcut
   have K7 := hide C7
   have B0 := B0.ext hE; have B1 := B1.ext hE; have B2 := B2.ext hE; have B6 := B6.ext hE; have EE := EE.trans hE
   have l7 := B7.lt
   have n7 : g6 < g7 := Nat.lt_of_lt_of_le l6 hg7
   clear C7 hE hg7 l6 XA ka
   obtain ⟨c0, c1, c2, c3, c4, f0, f1, f2, f3, f4⟩ := five_cells B0
   obtain ⟨d0, d1, d2, d3, d4, g0, g1, g2, g3, g4⟩ := five_cells B1
   obtain ⟨m0, m1, m2, m3, m4, mf0, mf1, mf2, mf3, mf4⟩ := five_cells B6
   go_upto_region 5 with fail
   go_cut [10] (fun p wx => Quot wc m p wx)
   case first =>
    have EB := Ext.refl wc
    go_region_held3 (fun w' => w'.cell? ⟨w.heap.size + 1, 0, none⟩ = some (.bool t) ∧ w'.cell? ⟨w.heap.size + 1, 1, none⟩ = some (.int .u64 (e : Int)) ∧ w'.cell? ⟨w.heap.size + 1, 2, none⟩ = some (.int .u64 (f : Int)) ∧ w'.cell? ⟨w.heap.size + 1, 3, none⟩ = some (.int .u64 (g : Int)) ∧ w'.cell? ⟨w.heap.size + 1, 4, none⟩ = some (.int .u64 (h : Int)) ∧ w'.cell? ⟨g6, 0, none⟩ = some (.bool s8) ∧ w'.cell? ⟨g6, 1, none⟩ = some (.int .u64 (a8 : Int)) ∧ w'.cell? ⟨g6, 2, none⟩ = some (.int .u64 (b8 : Int)) ∧ w'.cell? ⟨g6, 3, none⟩ = some (.int .u64 (c8 : Int)) ∧ w'.cell? ⟨g6, 4, none⟩ = some (.int .u64 (d8 : Int))) (first | (with_reducible exact ⟨d0, d1, d2, d3, d4, m0, m1, m2, m3, m4⟩) | go_keep) (first
      | (go_at_call 53; (with_reducible refine (kb.out _).mono ?_); rintro e' w5 ⟨rfl, hE⟩; have hF : Ext wc w5 := (by first | (with_reducible exact hE) | (with_reducible exact (ext_drew _).trans hE)); clear hE; have hG := hF; have B1 := B1.ext hG; have B6 := B6.ext hG; have EB := EB.trans hG; obtain ⟨d0, d1, d2, d3, d4, g0, g1, g2, g3, g4⟩ := five_cells B1; obtain ⟨m0, m1, m2, m3, m4, mf0, mf1, mf2, mf3, mf4⟩ := five_cells B6; have szw5 := hG.size; have loB1 := B1.lt; have loB6 := B6.lt; clear hF hG)
      | (go_at_call 53; (with_reducible refine (kb.out _).mono ?_); rintro e' w5 ⟨rfl, hE⟩; have hF : Ext (wc.alloc (.cells #[.bool false, .int .u64 0, .int .u64 0, .int .u64 0, .int .u64 0] 25)) w5 := (by first | (with_reducible exact hE) | (with_reducible exact (ext_drew _).trans hE)); clear hE; have hG := (ext_alloc wc (.cells #[.bool false, .int .u64 0, .int .u64 0, .int .u64 0, .int .u64 0] 25)).trans hF; have Nw50 : Box w5 (wc.heap.size) false 0 0 0 0 := (Box.new0 wc).ext hF; have B1 := B1.ext hG; have B6 := B6.ext hG; have EB := EB.trans hG; obtain ⟨d0, d1, d2, d3, d4, g0, g1, g2, g3, g4⟩ := five_cells B1; obtain ⟨m0, m1, m2, m3, m4, mf0, mf1, mf2, mf3, mf4⟩ := five_cells B6; obtain ⟨x0c0, x0c1, x0c2, x0c3, x0c4, x0f0, x0f1, x0f2, x0f3, x0f4⟩ := five_cells Nw50; have szw5 := hG.size; have loB1 := B1.lt; have loB6 := B6.lt; have loNw50 := Nw50.lt; have ne0 : wc.heap.size ≠ w.heap.size + 1 := (by omega); have ne1 : wc.heap.size ≠ g6 := (by omega); clear hF hG)
      | (go_at_call 53; (with_reducible refine (kb.out _).mono ?_); rintro e' w5 ⟨rfl, hE⟩; have hF : Ext ((wc.alloc (.cells #[.bool false, .int .u64 0, .int .u64 0, .int .u64 0, .int .u64 0] 25)).alloc (.cells #[.bool false, .int .u64 0, .int .u64 0, .int .u64 0, .int .u64 0] 25)) w5 := (by first | (with_reducible exact hE) | (with_reducible exact (ext_drew _).trans hE)); clear hE; have hG := ((ext_alloc wc (.cells #[.bool false, .int .u64 0, .int .u64 0, .int .u64 0, .int .u64 0] 25)).trans (ext_alloc _ (.cells #[.bool false, .int .u64 0, .int .u64 0, .int .u64 0, .int .u64 0] 25))).trans hF; have Nw50 : Box w5 (wc.heap.size) false 0 0 0 0 := ((Box.new0 wc).ext (ext_alloc _ _)).ext hF; have Nw51 : Box w5 (wc.heap.size + 1) false 0 0 0 0 := (show Box ((wc.alloc (.cells #[.bool false, .int .u64 0, .int .u64 0, .int .u64 0, .int .u64 0] 25)).alloc (.cells #[.bool false, .int .u64 0, .int .u64 0, .int .u64 0, .int .u64 0] 25)) (wc.heap.size + 1) false 0 0 0 0 from (two_blocks wc (.cells #[.bool false, .int .u64 0, .int .u64 0, .int .u64 0, .int .u64 0] 25) (.cells #[.bool false, .int .u64 0, .int .u64 0, .int .u64 0, .int .u64 0] 25)).2).ext hF; have B1 := B1.ext hG; have B6 := B6.ext hG; have EB := EB.trans hG; obtain ⟨d0, d1, d2, d3, d4, g0, g1, g2, g3, g4⟩ := five_cells B1; obtain ⟨m0, m1, m2, m3, m4, mf0, mf1, mf2, mf3, mf4⟩ := five_cells B6; obtain ⟨x0c0, x0c1, x0c2, x0c3, x0c4, x0f0, x0f1, x0f2, x0f3, x0f4⟩ := five_cells Nw50; obtain ⟨x1c0, x1c1, x1c2, x1c3, x1c4, x1f0, x1f1, x1f2, x1f3, x1f4⟩ := five_cells Nw51; have szw5 := hG.size; have loB1 := B1.lt; have loB6 := B6.lt; have loNw50 := Nw50.lt; have loNw51 := Nw51.lt; have ne0 : wc.heap.size ≠ w.heap.size + 1 := (by omega); have ne1 : wc.heap.size + 1 ≠ w.heap.size + 1 := (by omega); have ne2 : wc.heap.size ≠ w.heap.size := (by omega); have ne3 : wc.heap.size ≠ g6 := (by omega); have ne4 : wc.heap.size + 1 ≠ g6 := (by omega); have ne5 : wc.heap.size + 1 ≠ wc.heap.size := (by omega); clear hF hG)
      | (go_at_call 54; refine (ref_wdiv false s8 e f g h a8 b8 c8 d8 Y G _ YA.out V8.out).mono ?_; rintro e' w9 ⟨s3, a3, b3, c3, d3, s9, a9, b9, c9, d9, o3, rfl, ho, C3, C4, hE⟩; have Ho := hide ho; rw [if_neg hGne.out] at C3; rw [HMM.out] at C3; have K3 := hide C3; clear ho C3 C4; have hF : Ext w5 w9 := (by first | (with_reducible exact hE) | (with_reducible exact (ext_drew _).trans hE)); clear hE; have hG := hF; have B1 := B1.ext hG; have B6 := B6.ext hG; have EB := EB.trans hG; have Nw50 := Nw50.ext hG; have Nw51 := Nw51.ext hG; obtain ⟨d0, d1, d2, d3, d4, g0, g1, g2, g3, g4⟩ := five_cells B1; obtain ⟨m0, m1, m2, m3, m4, mf0, mf1, mf2, mf3, mf4⟩ := five_cells B6; obtain ⟨x0c0, x0c1, x0c2, x0c3, x0c4, x0f0, x0f1, x0f2, x0f3, x0f4⟩ := five_cells Nw50; obtain ⟨x1c0, x1c1, x1c2, x1c3, x1c4, x1f0, x1f1, x1f2, x1f3, x1f4⟩ := five_cells Nw51; have szw9 := hG.size; have loB1 := B1.lt; have loB6 := B6.lt; have loNw50 := Nw50.lt; have loNw51 := Nw51.lt; have ne0 : wc.heap.size ≠ w.heap.size + 1 := (by omega); have ne1 : wc.heap.size + 1 ≠ w.heap.size + 1 := (by omega); have ne2 : wc.heap.size ≠ w.heap.size := (by omega); have ne3 : wc.heap.size ≠ g6 := (by omega); have ne4 : wc.heap.size + 1 ≠ g6 := (by omega); have ne5 : wc.heap.size + 1 ≠ wc.heap.size := (by omega); clear hF hG)
      | (go_at_call 54; refine (ref_wdiv false s8 e f g h a8 b8 c8 d8 Y G _ YA.out V8.out).mono ?_; rintro e' w9 ⟨s3, a3, b3, c3, d3, s9, a9, b9, c9, d9, o3, rfl, ho, C3, C4, hE⟩; have Ho := hide ho; rw [if_neg hGne.out] at C3; rw [HMM.out] at C3; have K3 := hide C3; clear ho C3 C4; have hF : Ext w5 w9 := (by first | (with_reducible exact hE) | (with_reducible exact (ext_drew _).trans hE)); clear hE; have hG := hF; have B1 := B1.ext hG; have B6 := B6.ext hG; have EB := EB.trans hG; have Nw50 := Nw50.ext hG; obtain ⟨d0, d1, d2, d3, d4, g0, g1, g2, g3, g4⟩ := five_cells B1; obtain ⟨m0, m1, m2, m3, m4, mf0, mf1, mf2, mf3, mf4⟩ := five_cells B6; obtain ⟨x0c0, x0c1, x0c2, x0c3, x0c4, x0f0, x0f1, x0f2, x0f3, x0f4⟩ := five_cells Nw50; have szw9 := hG.size; have loB1 := B1.lt; have loB6 := B6.lt; have loNw50 := Nw50.lt; have ne0 : wc.heap.size ≠ w.heap.size + 1 := (by omega); have ne1 : wc.heap.size ≠ g6 := (by omega); clear hF hG)
      | (go_at_call 54; refine (ref_wdiv false s8 e f g h a8 b8 c8 d8 Y G _ YA.out V8.out).mono ?_; rintro e' w9 ⟨s3, a3, b3, c3, d3, s9, a9, b9, c9, d9, o3, rfl, ho, C3, C4, hE⟩; have Ho := hide ho; rw [if_neg hGne.out] at C3; rw [HMM.out] at C3; have K3 := hide C3; clear ho C3 C4; have hF : Ext (w5.alloc (.cells #[.bool false, .int .u64 0, .int .u64 0, .int .u64 0, .int .u64 0] 25)) w9 := (by first | (with_reducible exact hE) | (with_reducible exact (ext_drew _).trans hE)); clear hE; have hG := (ext_alloc w5 (.cells #[.bool false, .int .u64 0, .int .u64 0, .int .u64 0, .int .u64 0] 25)).trans hF; have Nw90 : Box w9 (w5.heap.size) false 0 0 0 0 := (Box.new0 w5).ext hF; have B1 := B1.ext hG; have B6 := B6.ext hG; have EB := EB.trans hG; have Nw50 := Nw50.ext hG; obtain ⟨d0, d1, d2, d3, d4, g0, g1, g2, g3, g4⟩ := five_cells B1; obtain ⟨m0, m1, m2, m3, m4, mf0, mf1, mf2, mf3, mf4⟩ := five_cells B6; obtain ⟨x0c0, x0c1, x0c2, x0c3, x0c4, x0f0, x0f1, x0f2, x0f3, x0f4⟩ := five_cells Nw50; obtain ⟨x1c0, x1c1, x1c2, x1c3, x1c4, x1f0, x1f1, x1f2, x1f3, x1f4⟩ := five_cells Nw90; have szw9 := hG.size; have loB1 := B1.lt; have loB6 := B6.lt; have loNw50 := Nw50.lt; have loNw90 := Nw90.lt; have ne0 : wc.heap.size ≠ w.heap.size + 1 := (by omega); have ne1 : w5.heap.size ≠ w.heap.size + 1 := (by omega); have ne2 : wc.heap.size ≠ g6 := (by omega); have ne3 : w5.heap.size ≠ g6 := (by omega); have ne4 : w5.heap.size ≠ wc.heap.size := (by omega); clear hF hG)
      | (go_at_call 54; refine (ref_wdiv false s8 e f g h a8 b8 c8 d8 Y G _ YA.out V8.out).mono ?_; rintro e' w9 ⟨s3, a3, b3, c3, d3, s9, a9, b9, c9, d9, o3, rfl, ho, C3, C4, hE⟩; have Ho := hide ho; rw [if_neg hGne.out] at C3; rw [HMM.out] at C3; have K3 := hide C3; clear ho C3 C4; have hF : Ext w5 w9 := (by first | (with_reducible exact hE) | (with_reducible exact (ext_drew _).trans hE)); clear hE; have hG := hF; have B1 := B1.ext hG; have B6 := B6.ext hG; have EB := EB.trans hG; obtain ⟨d0, d1, d2, d3, d4, g0, g1, g2, g3, g4⟩ := five_cells B1; obtain ⟨m0, m1, m2, m3, m4, mf0, mf1, mf2, mf3, mf4⟩ := five_cells B6; have szw9 := hG.size; have loB1 := B1.lt; have loB6 := B6.lt; clear hF hG)
      | (go_at_call 54; refine (ref_wdiv false s8 e f g h a8 b8 c8 d8 Y G _ YA.out V8.out).mono ?_; rintro e' w9 ⟨s3, a3, b3, c3, d3, s9, a9, b9, c9, d9, o3, rfl, ho, C3, C4, hE⟩; have Ho := hide ho; rw [if_neg hGne.out] at C3; rw [HMM.out] at C3; have K3 := hide C3; clear ho C3 C4; have hF : Ext (w5.alloc (.cells #[.bool false, .int .u64 0, .int .u64 0, .int .u64 0, .int .u64 0] 25)) w9 := (by first | (with_reducible exact hE) | (with_reducible exact (ext_drew _).trans hE)); clear hE; have hG := (ext_alloc w5 (.cells #[.bool false, .int .u64 0, .int .u64 0, .int .u64 0, .int .u64 0] 25)).trans hF; have Nw90 : Box w9 (w5.heap.size) false 0 0 0 0 := (Box.new0 w5).ext hF; have B1 := B1.ext hG; have B6 := B6.ext hG; have EB := EB.trans hG; obtain ⟨d0, d1, d2, d3, d4, g0, g1, g2, g3, g4⟩ := five_cells B1; obtain ⟨m0, m1, m2, m3, m4, mf0, mf1, mf2, mf3, mf4⟩ := five_cells B6; obtain ⟨x0c0, x0c1, x0c2, x0c3, x0c4, x0f0, x0f1, x0f2, x0f3, x0f4⟩ := five_cells Nw90; have szw9 := hG.size; have loB1 := B1.lt; have loB6 := B6.lt; have loNw90 := Nw90.lt; have ne0 : w5.heap.size ≠ w.heap.size + 1 := (by omega); have ne1 : w5.heap.size ≠ g6 := (by omega); clear hF hG)
      | (go_at_call 54; refine (ref_wdiv false s8 e f g h a8 b8 c8 d8 Y G _ YA.out V8.out).mono ?_; rintro e' w9 ⟨s3, a3, b3, c3, d3, s9, a9, b9, c9, d9, o3, rfl, ho, C3, C4, hE⟩; have Ho := hide ho; rw [if_neg hGne.out] at C3; rw [HMM.out] at C3; have K3 := hide C3; clear ho C3 C4; have hF : Ext ((w5.alloc (.cells #[.bool false, .int .u64 0, .int .u64 0, .int .u64 0, .int .u64 0] 25)).alloc (.cells #[.bool false, .int .u64 0, .int .u64 0, .int .u64 0, .int .u64 0] 25)) w9 := (by first | (with_reducible exact hE) | (with_reducible exact (ext_drew _).trans hE)); clear hE; have hG := ((ext_alloc w5 (.cells #[.bool false, .int .u64 0, .int .u64 0, .int .u64 0, .int .u64 0] 25)).trans (ext_alloc _ (.cells #[.bool false, .int .u64 0, .int .u64 0, .int .u64 0, .int .u64 0] 25))).trans hF; have Nw90 : Box w9 (w5.heap.size) false 0 0 0 0 := ((Box.new0 w5).ext (ext_alloc _ _)).ext hF; have Nw91 : Box w9 (w5.heap.size + 1) false 0 0 0 0 := (show Box ((w5.alloc (.cells #[.bool false, .int .u64 0, .int .u64 0, .int .u64 0, .int .u64 0] 25)).alloc (.cells #[.bool false, .int .u64 0, .int .u64 0, .int .u64 0, .int .u64 0] 25)) (w5.heap.size + 1) false 0 0 0 0 from (two_blocks w5 (.cells #[.bool false, .int .u64 0, .int .u64 0, .int .u64 0, .int .u64 0] 25) (.cells #[.bool false, .int .u64 0, .int .u64 0, .int .u64 0, .int .u64 0] 25)).2).ext hF; have B1 := B1.ext hG; have B6 := B6.ext hG; have EB := EB.trans hG; obtain ⟨d0, d1, d2, d3, d4, g0, g1, g2, g3, g4⟩ := five_cells B1; obtain ⟨m0, m1, m2, m3, m4, mf0, mf1, mf2, mf3, mf4⟩ := five_cells B6; obtain ⟨x0c0, x0c1, x0c2, x0c3, x0c4, x0f0, x0f1, x0f2, x0f3, x0f4⟩ := five_cells Nw90; obtain ⟨x1c0, x1c1, x1c2, x1c3, x1c4, x1f0, x1f1, x1f2, x1f3, x1f4⟩ := five_cells Nw91; have szw9 := hG.size; have loB1 := B1.lt; have loB6 := B6.lt; have loNw90 := Nw90.lt; have loNw91 := Nw91.lt; have ne0 : w5.heap.size ≠ w.heap.size + 1 := (by omega); have ne1 : w5.heap.size + 1 ≠ w.heap.size + 1 := (by omega); have ne2 : w5.heap.size ≠ w.heap.size := (by omega); have ne3 : w5.heap.size ≠ g6 := (by omega); have ne4 : w5.heap.size + 1 ≠ g6 := (by omega); have ne5 : w5.heap.size + 1 ≠ w5.heap.size := (by omega); clear hF hG))
    all_goals go_wp2_with fail
    all_goals go_meet
    all_goals first
      | (with_reducible exact quo0 K3.out EB)
      | (with_reducible exact quo0' K3.out EB)
      | (with_reducible exact quo1 K3.out EB Nw50 (by omega))
      | (with_reducible exact quo1 K3.out EB Nw51 (by omega))
      | (with_reducible exact quo1 K3.out EB Nw90 (by omega))
      | (with_reducible exact quo1 K3.out EB Nw91 (by omega))
      | (with_reducible exact quo1' K3.out EB (g := wc.heap.size) (by omega))
      | (with_reducible exact quo1' K3.out EB (g := wc.heap.size + 1) (by omega))
      | (with_reducible exact quo1' K3.out EB (g := w5.heap.size) (by omega))
      | (with_reducible exact quo1' K3.out EB (g := w5.heap.size + 1) (by omega))
      | (with_reducible exact quo2 K3.out EB Nw50 (g' := wc.heap.size + 1) (by omega) (by omega) (by omega))
      | (with_reducible exact quo2 K3.out EB Nw50 (g' := w5.heap.size) (by omega) (by omega) (by omega))
      | (with_reducible exact quo2 K3.out EB Nw50 (g' := w5.heap.size + 1) (by omega) (by omega) (by omega))
      | (with_reducible exact quo2 K3.out EB Nw51 (g' := wc.heap.size) (by omega) (by omega) (by omega))
      | (with_reducible exact quo2 K3.out EB Nw51 (g' := w5.heap.size) (by omega) (by omega) (by omega))
      | (with_reducible exact quo2 K3.out EB Nw51 (g' := w5.heap.size + 1) (by omega) (by omega) (by omega))
      | (with_reducible exact quo2 K3.out EB Nw90 (g' := wc.heap.size) (by omega) (by omega) (by omega))
      | (with_reducible exact quo2 K3.out EB Nw90 (g' := wc.heap.size + 1) (by omega) (by omega) (by omega))
      | (with_reducible exact quo2 K3.out EB Nw90 (g' := w5.heap.size + 1) (by omega) (by omega) (by omega))
      | (with_reducible exact quo2 K3.out EB Nw91 (g' := wc.heap.size) (by omega) (by omega) (by omega))
      | (with_reducible exact quo2 K3.out EB Nw91 (g' := wc.heap.size + 1) (by omega) (by omega) (by omega))
      | (with_reducible exact quo2 K3.out EB Nw91 (g' := w5.heap.size) (by omega) (by omega) (by omega))
   case rest =>
    obtain ⟨g10, s10, a10, b10, c10, d10, rfl, C10, B10, hg10, hE⟩ := hcut
    have K10 := hide C10
    have B0 := B0.ext hE; have B1 := B1.ext hE; have B2 := B2.ext hE; have B7 := B7.ext hE; have EE := EE.trans hE
    have n10 : g7 < g10 := Nat.lt_of_lt_of_le l7 hg10
    clear C10 hE hg10 l7 YA kb B6
    obtain ⟨c0, c1, c2, c3, c4, f0, f1, f2, f3, f4⟩ := five_cells B0
    obtain ⟨d0, d1, d2, d3, d4, g0, g1, g2, g3, g4⟩ := five_cells B1
    obtain ⟨m0, m1, m2, m3, m4, mf0, mf1, mf2, mf3, mf4⟩ := five_cells B7
    go_upto_if 53 with fail
    go_cut [] (fun wx => ∃ (s' : Bool) (a' b' c' d' : Nat), IsC s' a' b' c' d' (numR x y) ∧ Box wx g7 s' a' b' c' d' ∧ Box wx g10 s10 a10 b10 c10 d10 ∧ Box10 wx (w.heap.size + 1 + 1) false 0 0 0 0 false 0 0 0 0 ∧ Ext w wx)
    case first =>
     cases df
     · have h1 := HN1.out
       rw [if_neg (by simp)] at h1
       have HR : Hid (IsC s7 a7 b7 c7 d7 (numR x y)) := by rw [h1]; exact K7.out
       clear h1
       go_wp2_with fail
       all_goals go_meet
       all_goals exact ⟨s7, a7, b7, c7, d7, HR.out, B7, B10, B2, EE⟩
     · have h1 := HN1.out
       rw [if_pos rfl] at h1
       have kn : Hid (∀ w', Calls Tryz.prog 55 #[.agg #[.bool s7, .int .u64 (a7 : Int), .int .u64 (b7 : Int), .int .u64 (c7 : Int), .int .u64 (d7 : Int)]] w' (WideOnly (numR x y) w')) := fun w' => by rw [h1]; exact ref_neg _ _ _ _ _ _ w' K7.out.1
       clear h1
       go_wp2_with (go_at_call 55; (with_reducible refine (kn.out _).mono ?_); rintro e' w12 ⟨s12, a12, b12, c12, d12, rfl, C12, hE⟩; have K12 := hide C12; have B7 := B7.ext hE; have B10 := B10.ext hE; have B2 := B2.ext hE; have EE := EE.trans hE; obtain ⟨m0, m1, m2, m3, m4, mf0, mf1, mf2, mf3, mf4⟩ := five_cells B7; clear hE C12)
       all_goals go_meet
       all_goals exact ⟨s12, a12, b12, c12, d12, K12.out, B7.put, B10.far (by omega) _ _ _ _ _, B2.far (by omega) _ _ _ _ _, ext_five EE (by omega) _ _ _ _ _⟩
    case rest =>
     clear B0 B1 B7 B10 B2 EE K7
     obtain ⟨s7, a7, b7, c7, d7, C7, B7, B10, B2, EE⟩ := hcut
     have K10' : IsC s10 a10 b10 c10 d10 (denR x y) := by rw [HD1.out]; exact K10.out
     have hvo := HVV.out _ _ _ _ _ _ _ _ _ _ C7 K10'
     rw [HO.out] at hvo
     have kv : Hid (∀ w', Calls Tryz.prog 43 #[.agg #[.bool s7, .int .u64 (a7 : Int), .int .u64 (b7 : Int), .int .u64 (c7 : Int), .int .u64 (d7 : Int), .bool s10, .int .u64 (a10 : Int), .int .u64 (b10 : Int), .int .u64 (c10 : Int), .int .u64 (d10 : Int)]] w' (BoolRet o w')) := fun w' => rf_valid _ _ _ _ _ _ _ _ _ _ _ _ w' C7.1 K10'.1 o hvo
     have K7 := hide C7
     have K11 := hide K10'
     clear hvo C7 K10' K10
     obtain ⟨m0, m1, m2, m3, m4, mf0, mf1, mf2, mf3, mf4⟩ := five_cells B7
     obtain ⟨n0, n1, n2, n3, n4, nf0, nf1, nf2, nf3, nf4⟩ := five_cells B10
     go_upto_region 9 with fail
     have B13 : Box10 (wc.alloc (.cells #[.bool s7, .int .u64 (a7 : Int), .int .u64 (b7 : Int), .int .u64 (c7 : Int), .int .u64 (d7 : Int), .bool s10, .int .u64 (a10 : Int), .int .u64 (b10 : Int), .int .u64 (c10 : Int), .int .u64 (d10 : Int)] 27)) wc.heap.size s7 a7 b7 c7 d7 s10 a10 b10 c10 d10 := heap_alloc_new wc _
     have hE := ext_alloc wc (.cells #[.bool s7, .int .u64 (a7 : Int), .int .u64 (b7 : Int), .int .u64 (c7 : Int), .int .u64 (d7 : Int), .bool s10, .int .u64 (a10 : Int), .int .u64 (b10 : Int), .int .u64 (c10 : Int), .int .u64 (d10 : Int)] 27)
     have l2 := B2.lt
     have B2 := B2.ext hE; have EE := EE.trans hE
     generalize wc.alloc (.cells #[.bool s7, .int .u64 (a7 : Int), .int .u64 (b7 : Int), .int .u64 (c7 : Int), .int .u64 (d7 : Int), .bool s10, .int .u64 (a10 : Int), .int .u64 (b10 : Int), .int .u64 (c10 : Int), .int .u64 (d10 : Int)] 27) = W13 at *
     generalize wc.heap.size = g13 at *
     clear hE
     obtain ⟨q0, q1, q2, q3, q4, q5, q6, q7, q8, q9, qf0, qf1, qf2, qf3, qf4, qf5, qf6, qf7, qf8, qf9⟩ := ten_cells B13
     cases o
     · have KR : Hid (N = 0 ∧ D = 0) := ⟨HN.out.symm, HD.out.symm⟩
       go_wp2_with (go_at_call 43; (with_reducible refine (kv.out _).mono ?_); rintro e' w14 ⟨rfl, hE⟩; have B13 := B13.ext hE; have B2 := B2.ext hE; have EE := EE.trans hE; obtain ⟨q0, q1, q2, q3, q4, q5, q6, q7, q8, q9, qf0, qf1, qf2, qf3, qf4, qf5, qf6, qf7, qf8, qf9⟩ := ten_cells B13; obtain ⟨i0, i1, i2, i3, i4, i5, i6, i7, i8, i9, j0, j1, j2, j3, j4, j5, j6, j7, j8, j9⟩ := ten_cells B2; clear hE)
       all_goals exact bodyPost_ret (v := .tuple #[.agg #[.bool false, .int .u64 0, .int .u64 0, .int .u64 0, .int .u64 0, .bool false, .int .u64 0, .int .u64 0, .int .u64 0, .int .u64 0], .bool false]) (by simp [results, Tryz.results29, go_sem, i0, i1, i2, i3, i4, i5, i6, i7, i8, i9]) rfl (by rw [KR.out.1, KR.out.2]; exact makeRet_no (ext_ten EE (by omega) _ _ _ _ _ _ _ _ _ _))
     · have KR : Hid (IsC s7 a7 b7 c7 d7 N ∧ IsC s10 a10 b10 c10 d10 D) := by
         have h1 := HN.out
         have h2 := HD.out
         rw [if_pos rfl] at h1 h2
         rw [← h1, ← h2]
         exact ⟨K7.out, K11.out⟩
       go_wp2_with (go_at_call 43; (with_reducible refine (kv.out _).mono ?_); rintro e' w14 ⟨rfl, hE⟩; have B13 := B13.ext hE; have B2 := B2.ext hE; have EE := EE.trans hE; obtain ⟨q0, q1, q2, q3, q4, q5, q6, q7, q8, q9, qf0, qf1, qf2, qf3, qf4, qf5, qf6, qf7, qf8, qf9⟩ := ten_cells B13; obtain ⟨i0, i1, i2, i3, i4, i5, i6, i7, i8, i9, j0, j1, j2, j3, j4, j5, j6, j7, j8, j9⟩ := ten_cells B2; clear hE)
       all_goals exact bodyPost_ret (v := .tuple #[.agg #[.bool s7, .int .u64 (a7 : Int), .int .u64 (b7 : Int), .int .u64 (c7 : Int), .int .u64 (d7 : Int), .bool s10, .int .u64 (a10 : Int), .int .u64 (b10 : Int), .int .u64 (c10 : Int), .int .u64 (d10 : Int)], .bool true]) (by simp [results, Tryz.results29, go_sem, i0, i1, i2, i3, i4, i5, i6, i7, i8, i9]) rfl ⟨s7, a7, b7, c7, d7, s10, a10, b10, c10, d10, rfl, KR.out.1, KR.out.2, ext_ten EE (by omega) _ _ _ _ _ _ _ _ _ _⟩
end
section
open Go Go.RowKit Go.Sort
theorem cnC_size (c : Cn) : (cnC c).size = 21 := by
 obtain ⟨o, L, H, e, hL, hH⟩ := cnC_form c
 rw [e]; exact coneC_size o hL.size hH.size
theorem cnC_one (c : Cn) : (cnC c).all (·.oneCell') = true := by
 obtain ⟨o, L, H, e, hL, hH⟩ := cnC_form c
 rw [e]; exact cone_one o hL.one hH.one
theorem cnC_eq (c : Cn) (w : World) : (binOp .eql 29 (.agg (cnC c)) (.agg (cnC c))).run Tryz.prog w = .ok (.bool true) w := by
 obtain ⟨o, L, H, e, hL, hH⟩ := cnC_form c
 rw [e]; exact eq_cone o hL hH w
def moC : Option Cn → Array Value
 | some c => cnC c
 | none => z21
theorem moC_size (m : Option Cn) : (moC m).size = 21 := by
 cases m with
 | none => rfl
 | some c => exact cnC_size c
theorem moC_one (m : Option Cn) : (moC m).all (·.oneCell') = true := by
 cases m with
 | none => exact z21_one
 | some c => exact cnC_one c
theorem moC_eq (m : Option Cn) (w : World) : (binOp .eql 29 (.agg (moC m)) (.agg (moC m))).run Tryz.prog w = .ok (.bool true) w := by
 cases m with
 | none => exact eq_cone false RC.zero RC.zero w
 | some c => exact cnC_eq c w
def PVal (f : Nat) : Prop := ∀ c, okC c → ∀ w, Calls Tryz.prog f #[.agg (cnC c)] w (Ret (.bool true) w)
def PCon (f : Nat) : Prop := ∀ c s, okC c → okF s → ∀ w, Calls Tryz.prog f #[.agg (cnC c), .agg (frC s)] w (Ret (.bool (decide (inC c s))) w)
def PCho (f : Nat) : Prop := ∀ c, okC c → ∃ s, ChC c s ∧ ∀ w, Calls Tryz.prog f #[.agg (cnC c)] w (Ret (.agg (frC s)) w)
def PMee (f : Nat) : Prop := ∀ a b, okC a → okC b → ∀ w, Calls Tryz.prog f #[.agg (cnC a), .agg (cnC b)] w (Ret (.tuple #[.agg (moC (meetC a b)), .bool (meetC a b).isSome]) w)
def IsCn (v : Value) : Prop := ∃ c : Cn, v = .agg (cnC c) ∧ okC c
theorem h_cmpC {r s : Fr} (hr : okF r) (hs : okF s) {k : Int} (hk : cmpI (r.1 * s.2) (s.1 * r.2) = k) (w : World) : Calls Tryz.prog 12 #[.agg (frC r), .agg (frC s)] w (Ret (.int .i64 k) w) := h_cmp hr hs hk w
end
section
open Go Go.RowKit Go.Sort
attribute [local go_sem] qUpon putAll slotV
theorem four_objs (w : World) (o p q r : Obj) : ((((w.alloc o).alloc p).alloc q).alloc r).heap[w.heap.size]? = some o ∧ ((((w.alloc o).alloc p).alloc q).alloc r).heap[w.heap.size + 1]? = some p ∧ ((((w.alloc o).alloc p).alloc q).alloc r).heap[w.heap.size + 1 + 1]? = some q ∧ ((((w.alloc o).alloc p).alloc q).alloc r).heap[w.heap.size + 1 + 1 + 1]? = some r := by
 obtain ⟨h1, h2, h3⟩ := three_boxes w o p q
 have h4 := heap_alloc_new (((w.alloc o).alloc p).alloc q) r
 have hs : (((w.alloc o).alloc p).alloc q).heap.size = w.heap.size + 1 + 1 + 1 := by simp
 rw [hs] at h4
 exact ⟨keep5 (ext_alloc _ _) h1, keep5 (ext_alloc _ _) h2, keep5 (ext_alloc _ _) h3, h4⟩
theorem six_objs (w : World) (o p q r s t : Obj) : ((((((w.alloc o).alloc p).alloc q).alloc r).alloc s).alloc t).heap[w.heap.size]? = some o ∧ ((((((w.alloc o).alloc p).alloc q).alloc r).alloc s).alloc t).heap[w.heap.size + 1]? = some p ∧ ((((((w.alloc o).alloc p).alloc q).alloc r).alloc s).alloc t).heap[w.heap.size + 1 + 1]? = some q ∧ ((((((w.alloc o).alloc p).alloc q).alloc r).alloc s).alloc t).heap[w.heap.size + 1 + 1 + 1]? = some r ∧ ((((((w.alloc o).alloc p).alloc q).alloc r).alloc s).alloc t).heap[w.heap.size + 1 + 1 + 1 + 1]? = some s ∧ ((((((w.alloc o).alloc p).alloc q).alloc r).alloc s).alloc t).heap[w.heap.size + 1 + 1 + 1 + 1 + 1]? = some t := by
 obtain ⟨h1, h2, h3, h4⟩ := four_objs w o p q r
 have hs : ((((w.alloc o).alloc p).alloc q).alloc r).heap.size = w.heap.size + 1 + 1 + 1 + 1 := by simp
 obtain ⟨h5, h6⟩ := two_blocks ((((w.alloc o).alloc p).alloc q).alloc r) s t
 rw [hs] at h5 h6
 have E := (ext_alloc ((((w.alloc o).alloc p).alloc q).alloc r) s).trans (ext_alloc _ t)
 exact ⟨keep5 E h1, keep5 E h2, keep5 E h3, keep5 E h4, h5, h6⟩
theorem above_iff {a b c d u v : Int} (ha : 0 < a) (hb : 0 < b) (hd : 0 < d) (hle : a * d ≤ c * b) (hr0 : a % b ≠ 0) (hu : a / b + 1 = u) (hv : u * d = v) : v ≤ c ↔ a / b ≠ c / d := by
 constructor
 · intro h e
   have e2 := Int.emod_add_mul_ediv c d
   have l2 := Int.emod_lt_of_pos c hd
   rw [← e] at e2
   rw [← hv, ← hu, Int.add_mul, Int.one_mul, Int.mul_comm (a / b) d] at h
   omega
 · intro h
   have := (best_next ha hb hd hle hr0 h).2.2.1
   rw [hu, hv] at this
   omega
set_option maxRecDepth 100000 in
set_option maxHeartbeats 8000000 in
theorem q_pos : ∀ (k : Nat) (a b c d n m : Int), (b + d).toNat < k → 0 < a → 0 < b → 0 < d → a * d ≤ c * b → a.natAbs < 170141183460469231731687303715884105728 → b.natAbs < 170141183460469231731687303715884105728 → c.natAbs < 170141183460469231731687303715884105728 → d.natAbs < 170141183460469231731687303715884105728 → Best a b c d n m → ∀ w : World, Calls Tryz.prog 73 #[.agg #[.bool (sg a), .int .u64 (l0 a : Int), .int .u64 (l1 a : Int), .int .u64 (l2 a : Int), .int .u64 (l3 a : Int)], .agg #[.bool (sg b), .int .u64 (l0 b : Int), .int .u64 (l1 b : Int), .int .u64 (l2 b : Int), .int .u64 (l3 b : Int)], .agg #[.bool (sg c), .int .u64 (l0 c : Int), .int .u64 (l1 c : Int), .int .u64 (l2 c : Int), .int .u64 (l3 c : Int)], .agg #[.bool (sg d), .int .u64 (l0 d : Int), .int .u64 (l1 d : Int), .int .u64 (l2 d : Int), .int .u64 (l3 d : Int)]] w (Ret (.tuple #[.agg #[.bool (sg n), .int .u64 (l0 n : Int), .int .u64 (l1 n : Int), .int .u64 (l2 n : Int), .int .u64 (l3 n : Int)], .agg #[.bool (sg m), .int .u64 (l0 m : Int), .int .u64 (l1 m : Int), .int .u64 (l2 m : Int), .int .u64 (l3 m : Int)]]) w)
 | 0, _, _, _, _, _, _, hk, _, _, _, _, _, _, _, _, _, _ => by omega
 | k + 1, a, b, c, d, n, m, hk, ha, hb, hd, hle, sa, sb, sc, sd, B, w => by
   obtain ⟨q, hq⟩ : ∃ q, a / b = q := ⟨_, rfl⟩
   obtain ⟨r, hr⟩ : ∃ q, a % b = q := ⟨_, rfl⟩
   have q0 : 0 ≤ q := by rw [← hq]; exact Int.ediv_nonneg (by omega) (by omega)
   have qa : q ≤ a := by rw [← hq]; exact Int.ediv_le_self _ (by omega)
   have r0 : 0 ≤ r := by rw [← hr]; exact Int.emod_nonneg _ (by omega)
   have rb : r < b := by rw [← hr]; exact Int.emod_lt_of_pos _ hb
   have fa := f256_of sa
   have fb := f256_of sb
   have fc := f256_of sc
   have fd := f256_of sd
   have fq : F256 q := f256_of (by omega)
   have fr : F256 r := f256_of (by omega)
   have BS := (B.small hb hd hle).1
   have n0 := B.pos ha hb
   have m0 := B.1
   have c0 : 0 < c := by
     have h1 := Int.mul_pos ha hd
     by_cases hc : 0 < c
     · exact hc
     · have := Int.mul_nonpos_of_nonpos_of_nonneg (show c ≤ 0 by omega) (show 0 ≤ b by omega); omega
   have fbig : ∀ z y : Int, 0 ≤ z → z ≤ 170141183460469231731687303715884105728 → 0 ≤ y → y ≤ 170141183460469231731687303715884105728 → F256 (z * y) := by
     intro z y z0 z1 y0 y1
     have h1 : z * y ≤ 170141183460469231731687303715884105728 * 170141183460469231731687303715884105728 := Int.le_trans (Int.mul_le_mul_of_nonneg_right z1 y0) (Int.mul_le_mul_of_nonneg_left y1 (by omega))
     have h2 : 0 ≤ z * y := Int.mul_nonneg z0 y0
     unfold F256; omega
   have kD : Hid (∀ w, Calls Tryz.prog 54 #[.agg #[.bool (sg a), .int .u64 (l0 a : Int), .int .u64 (l1 a : Int), .int .u64 (l2 a : Int), .int .u64 (l3 a : Int)], .agg #[.bool (sg b), .int .u64 (l0 b : Int), .int .u64 (l1 b : Int), .int .u64 (l2 b : Int), .int .u64 (l3 b : Int)]] w (Ret (.tuple #[.agg #[.bool (sg q), .int .u64 (l0 q : Int), .int .u64 (l1 q : Int), .int .u64 (l2 q : Int), .int .u64 (l3 q : Int)], .agg #[.bool (sg r), .int .u64 (l0 r : Int), .int .u64 (l1 r : Int), .int .u64 (l2 r : Int), .int .u64 (l3 r : Int)], .bool true]) w)) := fun w => d_div fa fb (by omega) hq hr w
   by_cases h0 : r = 0
   · obtain ⟨en, em⟩ := Best.unique hb hd B (best_whole ha hb hd hle (by rw [hr]; exact h0))
     rw [hq] at en
     subst en em
     obtain ⟨v, hv⟩ : ∃ v, n * d = v := ⟨_, rfl⟩
     have fv : F256 v := by rw [← hv]; exact fbig n d (by omega) (by omega) (by omega) (by omega)
     have hvc : v ≤ c := by rw [← hv]; have := B.2.2.1; rw [Int.mul_one] at this; exact this
     obtain ⟨j, hj⟩ : ∃ j, cmpI v c = j := ⟨_, rfl⟩
     have hj0 : j ≤ 0 := by rcases Int.lt_or_le 0 j with h | h; · have := (cmpI_lt hj).2.2.1 h; omega
                            · exact h
     have kS : Hid (∀ w, Calls Tryz.prog 51 #[.agg #[.bool (sg r), .int .u64 (l0 r : Int), .int .u64 (l1 r : Int), .int .u64 (l2 r : Int), .int .u64 (l3 r : Int)]] w (Ret (.int .i64 0) w)) := fun w => d_sign fr (by rw [h0]; simp) w
     have kM : Hid (∀ w, Calls Tryz.prog 28 #[.agg #[.bool (sg n), .int .u64 (l0 n : Int), .int .u64 (l1 n : Int), .int .u64 (l2 n : Int), .int .u64 (l3 n : Int)], .agg #[.bool (sg d), .int .u64 (l0 d : Int), .int .u64 (l1 d : Int), .int .u64 (l2 d : Int), .int .u64 (l3 d : Int)]] w (Ret (.tuple #[.agg #[.bool (sg v), .int .u64 (l0 v : Int), .int .u64 (l1 v : Int), .int .u64 (l2 v : Int), .int .u64 (l3 v : Int)], .bool true]) w)) := fun w => d_mul fq fd hv fv w
     have kC : Hid (∀ w, Calls Tryz.prog 31 #[.agg #[.bool (sg v), .int .u64 (l0 v : Int), .int .u64 (l1 v : Int), .int .u64 (l2 v : Int), .int .u64 (l3 v : Int)], .agg #[.bool (sg c), .int .u64 (l0 c : Int), .int .u64 (l1 c : Int), .int .u64 (l2 c : Int), .int .u64 (l3 c : Int)]] w (Ret (.int .i64 j) w)) := fun w => d_cmp fv fc hj w
     have kO : Hid (∀ w, Calls Tryz.prog 14 #[.int .i64 1] w (Ret (.agg #[.bool (sg 1), .int .u64 (l0 1 : Int), .int .u64 (l1 1 : Int), .int .u64 (l2 1 : Int), .int .u64 (l3 1 : Int)]) w)) := fun w => d_ofi (by omega) (by omega) w
     clear hq hr q0 qa r0 rb fa fb fc fd fq fr BS n0 m0 c0 fbig hk ha hb hd hle sa sb sc sd B h0 hv fv hvc hj
     obtain ⟨W0, hW0⟩ : ∃ W0, W0 = ((((((w.alloc (.cells #[.bool (sg a), .int .u64 (l0 a : Int), .int .u64 (l1 a : Int), .int .u64 (l2 a : Int), .int .u64 (l3 a : Int)] 25)).alloc (.cells #[.bool (sg b), .int .u64 (l0 b : Int), .int .u64 (l1 b : Int), .int .u64 (l2 b : Int), .int .u64 (l3 b : Int)] 25)).alloc (.cells #[.bool (sg c), .int .u64 (l0 c : Int), .int .u64 (l1 c : Int), .int .u64 (l2 c : Int), .int .u64 (l3 c : Int)] 25)).alloc (.cells #[.bool (sg d), .int .u64 (l0 d : Int), .int .u64 (l1 d : Int), .int .u64 (l2 d : Int), .int .u64 (l3 d : Int)] 25)).alloc (.cells #[.bool false, .int .u64 0, .int .u64 0, .int .u64 0, .int .u64 0] 25)).alloc (.cells #[.bool false, .int .u64 0, .int .u64 0, .int .u64 0, .int .u64 0] 25)) := ⟨_, rfl⟩
     have H2 := six_objs w (.cells #[.bool (sg a), .int .u64 (l0 a : Int), .int .u64 (l1 a : Int), .int .u64 (l2 a : Int), .int .u64 (l3 a : Int)] 25) (.cells #[.bool (sg b), .int .u64 (l0 b : Int), .int .u64 (l1 b : Int), .int .u64 (l2 b : Int), .int .u64 (l3 b : Int)] 25) (.cells #[.bool (sg c), .int .u64 (l0 c : Int), .int .u64 (l1 c : Int), .int .u64 (l2 c : Int), .int .u64 (l3 c : Int)] 25) (.cells #[.bool (sg d), .int .u64 (l0 d : Int), .int .u64 (l1 d : Int), .int .u64 (l2 d : Int), .int .u64 (l3 d : Int)] 25) (.cells #[.bool false, .int .u64 0, .int .u64 0, .int .u64 0, .int .u64 0] 25) (.cells #[.bool false, .int .u64 0, .int .u64 0, .int .u64 0, .int .u64 0] 25)
     have EE0 : Ext w W0 := by rw [hW0]; exact ((((((ext_alloc _ _).trans (ext_alloc _ _)).trans (ext_alloc _ _)).trans (ext_alloc _ _)).trans (ext_alloc _ _)).trans (ext_alloc _ _))
     rw [← hW0] at H2
     have EE := hide EE0
     have HW := hide hW0
     obtain ⟨P4, P5, P6, P7, P8, P9⟩ : Box W0 (w.heap.size) (sg a) (l0 a) (l1 a) (l2 a) (l3 a) ∧ Box W0 ((w.heap.size + 1)) (sg b) (l0 b) (l1 b) (l2 b) (l3 b) ∧ Box W0 ((w.heap.size + 1 + 1)) (sg c) (l0 c) (l1 c) (l2 c) (l3 c) ∧ Box W0 ((w.heap.size + 1 + 1 + 1)) (sg d) (l0 d) (l1 d) (l2 d) (l3 d) ∧ Box W0 ((w.heap.size + 1 + 1 + 1 + 1)) false 0 0 0 0 ∧ Box W0 ((w.heap.size + 1 + 1 + 1 + 1 + 1)) false 0 0 0 0 := H2
     clear hW0 EE0
     go_enter Tryz.func73, Tryz.ntmps73
     go_upto_region 1 with fail
     rw [← HW.out]
     clear HW
     have hg0 : w.heap.size ≤ w.heap.size := Nat.le_refl _
     obtain ⟨g0, hg⟩ : ∃ g, w.heap.size = g := ⟨_, rfl⟩
     rw [hg] at P4 P5 P6 P7 P8 P9 ⊢
     replace hg0 : w.heap.size ≤ g0 := Nat.le_of_eq hg
     clear hg
     obtain ⟨xP40, xP41, xP42, xP43, xP44, -⟩ := five_cells P4; obtain ⟨xP50, xP51, xP52, xP53, xP54, -⟩ := five_cells P5
     go_upto_region 2 with (go_at_call 54; (with_reducible refine (kD.out _).mono ?_); rintro e w1 ⟨rfl, hE⟩; clear xP40 xP41 xP42 xP43 xP44 xP50 xP51 xP52 xP53 xP54; have P4 := P4.ext hE; have P5 := P5.ext hE; have P6 := P6.ext hE; have P7 := P7.ext hE; have P8 := P8.ext hE; have P9 := P9.ext hE; have EE := hide (EE.out.trans hE); clear hE; obtain ⟨xP40, xP41, xP42, xP43, xP44, -⟩ := five_cells P4; obtain ⟨xP50, xP51, xP52, xP53, xP54, -⟩ := five_cells P5)
     clear xP40 xP41 xP42 xP43 xP44 xP50 xP51 xP52 xP53 xP54
     have H2 := two_blocks w1 (.cells #[.bool (sg n), .int .u64 (l0 n : Int), .int .u64 (l1 n : Int), .int .u64 (l2 n : Int), .int .u64 (l3 n : Int)] 25) (.cells #[.bool (sg r), .int .u64 (l0 r : Int), .int .u64 (l1 r : Int), .int .u64 (l2 r : Int), .int .u64 (l3 r : Int)] 25)
     have lP4 := P4.lt
     have lP5 := P5.lt
     have lP6 := P6.lt
     have lP7 := P7.lt
     have lP8 := P8.lt
     have lP9 := P9.lt
     have hE := ((ext_alloc w1 (.cells #[.bool (sg n), .int .u64 (l0 n : Int), .int .u64 (l1 n : Int), .int .u64 (l2 n : Int), .int .u64 (l3 n : Int)] 25)).trans (ext_alloc _ (.cells #[.bool (sg r), .int .u64 (l0 r : Int), .int .u64 (l1 r : Int), .int .u64 (l2 r : Int), .int .u64 (l3 r : Int)] 25)))
     have P4 := P4.ext hE
     have P5 := P5.ext hE
     have P6 := P6.ext hE
     have P7 := P7.ext hE
     have P8 := P8.ext hE
     have P9 := P9.ext hE
     have EE := hide (EE.out.trans hE)
     clear hE
     obtain ⟨W2, hW⟩ : ∃ W, W = ((w1.alloc (.cells #[.bool (sg n), .int .u64 (l0 n : Int), .int .u64 (l1 n : Int), .int .u64 (l2 n : Int), .int .u64 (l3 n : Int)] 25)).alloc (.cells #[.bool (sg r), .int .u64 (l0 r : Int), .int .u64 (l1 r : Int), .int .u64 (l2 r : Int), .int .u64 (l3 r : Int)] 25)) := ⟨_, rfl⟩
     rw [← hW] at H2 EE P4 P5 P6 P7 P8 P9 ⊢
     obtain ⟨g3, hg⟩ : ∃ g, w1.heap.size = g := ⟨_, rfl⟩
     rw [hg] at H2 lP4 lP5 lP6 lP7 lP8 lP9 ⊢
     obtain ⟨P10, P11⟩ : Box W2 g3 (sg n) (l0 n) (l1 n) (l2 n) (l3 n) ∧ Box W2 (g3 + 1) (sg r) (l0 r) (l1 r) (l2 r) (l3 r) := H2
     clear hW hg
     have ngP4P10 : g0 ≠ g3 := by omega
     have ngP4P11 : g0 ≠ g3 + 1 := by omega
     have ngP5P10 : g0 + 1 ≠ g3 := by omega
     have ngP5P11 : g0 + 1 ≠ g3 + 1 := by omega
     have ngP6P10 : g0 + 1 + 1 ≠ g3 := by omega
     have ngP6P11 : g0 + 1 + 1 ≠ g3 + 1 := by omega
     have ngP7P10 : g0 + 1 + 1 + 1 ≠ g3 := by omega
     have ngP7P11 : g0 + 1 + 1 + 1 ≠ g3 + 1 := by omega
     have ngP8P10 : g0 + 1 + 1 + 1 + 1 ≠ g3 := by omega
     have ngP8P11 : g0 + 1 + 1 + 1 + 1 ≠ g3 + 1 := by omega
     have ngP9P10 : g0 + 1 + 1 + 1 + 1 + 1 ≠ g3 := by omega
     have ngP9P11 : g0 + 1 + 1 + 1 + 1 + 1 ≠ g3 + 1 := by omega
     obtain ⟨xP110, xP111, xP112, xP113, xP114, -⟩ := five_cells P11
     go_upto_region 4 with (go_at_call 51; (with_reducible refine (kS.out _).mono ?_); rintro e w4 ⟨rfl, hE⟩; clear xP110 xP111 xP112 xP113 xP114; have P4 := P4.ext hE; have P5 := P5.ext hE; have P6 := P6.ext hE; have P7 := P7.ext hE; have P8 := P8.ext hE; have P9 := P9.ext hE; have P10 := P10.ext hE; have P11 := P11.ext hE; have EE := hide (EE.out.trans hE); clear hE; obtain ⟨xP110, xP111, xP112, xP113, xP114, -⟩ := five_cells P11)
     clear xP110 xP111 xP112 xP113 xP114
     obtain ⟨xP70, xP71, xP72, xP73, xP74, -⟩ := five_cells P7; obtain ⟨xP100, xP101, xP102, xP103, xP104, -⟩ := five_cells P10
     go_upto_region 5 with (go_at_call 28; (with_reducible refine (kM.out _).mono ?_); rintro e w5 ⟨rfl, hE⟩; clear xP70 xP71 xP72 xP73 xP74 xP100 xP101 xP102 xP103 xP104; have P4 := P4.ext hE; have P5 := P5.ext hE; have P6 := P6.ext hE; have P7 := P7.ext hE; have P8 := P8.ext hE; have P9 := P9.ext hE; have P10 := P10.ext hE; have P11 := P11.ext hE; have EE := hide (EE.out.trans hE); clear hE; obtain ⟨xP70, xP71, xP72, xP73, xP74, -⟩ := five_cells P7; obtain ⟨xP100, xP101, xP102, xP103, xP104, -⟩ := five_cells P10)
     clear xP70 xP71 xP72 xP73 xP74 xP100 xP101 xP102 xP103 xP104
     have H2 := heap_alloc_new w5 (.cells #[.bool (sg v), .int .u64 (l0 v : Int), .int .u64 (l1 v : Int), .int .u64 (l2 v : Int), .int .u64 (l3 v : Int)] 25)
     have lP4 := P4.lt
     have lP5 := P5.lt
     have lP6 := P6.lt
     have lP7 := P7.lt
     have lP8 := P8.lt
     have lP9 := P9.lt
     have lP10 := P10.lt
     have lP11 := P11.lt
     have hE := (ext_alloc w5 (.cells #[.bool (sg v), .int .u64 (l0 v : Int), .int .u64 (l1 v : Int), .int .u64 (l2 v : Int), .int .u64 (l3 v : Int)] 25))
     have P4 := P4.ext hE
     have P5 := P5.ext hE
     have P6 := P6.ext hE
     have P7 := P7.ext hE
     have P8 := P8.ext hE
     have P9 := P9.ext hE
     have P10 := P10.ext hE
     have P11 := P11.ext hE
     have EE := hide (EE.out.trans hE)
     clear hE
     obtain ⟨W6, hW⟩ : ∃ W, W = (w5.alloc (.cells #[.bool (sg v), .int .u64 (l0 v : Int), .int .u64 (l1 v : Int), .int .u64 (l2 v : Int), .int .u64 (l3 v : Int)] 25)) := ⟨_, rfl⟩
     rw [← hW] at H2 EE P4 P5 P6 P7 P8 P9 P10 P11 ⊢
     obtain ⟨g7, hg⟩ : ∃ g, w5.heap.size = g := ⟨_, rfl⟩
     rw [hg] at H2 lP4 lP5 lP6 lP7 lP8 lP9 lP10 lP11 ⊢
     have P13 : Box W6 g7 (sg v) (l0 v) (l1 v) (l2 v) (l3 v) := H2
     clear hW hg
     have ngP4P13 : g0 ≠ g7 := by omega
     have ngP5P13 : g0 + 1 ≠ g7 := by omega
     have ngP6P13 : g0 + 1 + 1 ≠ g7 := by omega
     have ngP7P13 : g0 + 1 + 1 + 1 ≠ g7 := by omega
     have ngP8P13 : g0 + 1 + 1 + 1 + 1 ≠ g7 := by omega
     have ngP9P13 : g0 + 1 + 1 + 1 + 1 + 1 ≠ g7 := by omega
     have ngP10P13 : g3 ≠ g7 := by omega
     have ngP11P13 : g3 + 1 ≠ g7 := by omega
     obtain ⟨xP60, xP61, xP62, xP63, xP64, -⟩ := five_cells P6; obtain ⟨xP130, xP131, xP132, xP133, xP134, -⟩ := five_cells P13
     go_upto_region 6 with (go_at_call 31; (with_reducible refine (kC.out _).mono ?_); rintro e w8 ⟨rfl, hE⟩; clear xP60 xP61 xP62 xP63 xP64 xP130 xP131 xP132 xP133 xP134; have P4 := P4.ext hE; have P5 := P5.ext hE; have P6 := P6.ext hE; have P7 := P7.ext hE; have P8 := P8.ext hE; have P9 := P9.ext hE; have P10 := P10.ext hE; have P11 := P11.ext hE; have P13 := P13.ext hE; have EE := hide (EE.out.trans hE); clear hE; obtain ⟨xP60, xP61, xP62, xP63, xP64, -⟩ := five_cells P6; obtain ⟨xP130, xP131, xP132, xP133, xP134, -⟩ := five_cells P13)
     clear xP60 xP61 xP62 xP63 xP64 xP130 xP131 xP132 xP133 xP134
     have lbP4 := P4.lt
     have lbP5 := P5.lt
     have lbP6 := P6.lt
     have lbP7 := P7.lt
     have lbP8 := P8.lt
     have lbP9 := P9.lt
     have lbP10 := P10.lt
     have lbP11 := P11.lt
     have lbP13 := P13.lt
     have ltW0 : ∀ c, Tag.so c ∈ [.q, .q, .so 0, .so 1] → (fun i => match i with | 0 => g0 + 1 + 1 + 1 + 1 | _ => g0 + 1 + 1 + 1 + 1 + 1) c < w8.heap.size := by intro c hc; simp at hc; rcases hc with rfl | rfl <;> (try simp only) <;> omega
     refine wp_decl [.q, .q, .so 0, .so 1] [.agg #[.bool (sg n), .int .u64 (l0 n : Int), .int .u64 (l1 n : Int), .int .u64 (l2 n : Int), .int .u64 (l3 n : Int)], .agg #[.bool (sg 1), .int .u64 (l0 1 : Int), .int .u64 (l1 1 : Int), .int .u64 (l2 1 : Int), .int .u64 (l3 1 : Int)], undef, undef] (fun _ => (.cells #[.bool false, .int .u64 0, .int .u64 0, .int .u64 0, .int .u64 0] 25 (0, 0))) (fun i => match i with | 2 => (.cells #[.bool (sg n), .int .u64 (l0 n : Int), .int .u64 (l1 n : Int), .int .u64 (l2 n : Int), .int .u64 (l3 n : Int)] 25 (0, 0)) | _ => (.cells #[.bool (sg 1), .int .u64 (l0 1 : Int), .int .u64 (l1 1 : Int), .int .u64 (l2 1 : Int), .int .u64 (l3 1 : Int)] 25 (0, 0))) (fun i => match i with | 0 => g0 + 1 + 1 + 1 + 1 | _ => g0 + 1 + 1 + 1 + 1 + 1) (by kernel_rfl) (by kernel_rfl) (by kernel_rfl) rfl rfl ltW0 (by intro c c' h1 h2 h3; simp at h1 h2; rcases h1 with rfl | rfl <;> rcases h2 with rfl | rfl <;> simp only at h3 <;> omega) ?_ ?_
     · refine ⟨?_, ?_, ?_, ?_, trivial⟩
       · refine op_q ?uvn2 ?h1n2 ?h2n2 ?h3n2
         case h1n2 => exact rfl
         case uvn2 => exact (.agg #[.bool (sg n), .int .u64 (l0 n : Int), .int .u64 (l1 n : Int), .int .u64 (l2 n : Int), .int .u64 (l3 n : Int)])
         case h2n2 => exact rfl
         intro w' hw'
         have P10 := P10.same hw' (by intro c hc; simp at hc; rcases hc with rfl | rfl <;> (try simp only) <;> omega)
         have xP10 := five_cells P10
         go_simp
       · refine op_q ?uvn3 ?h1n3 ?h2n3 ?h3n3
         case h1n3 => exact rfl
         case uvn3 => exact (.agg #[.bool (sg 1), .int .u64 (l0 1 : Int), .int .u64 (l1 1 : Int), .int .u64 (l2 1 : Int), .int .u64 (l3 1 : Int)])
         case h2n3 => exact rfl
         intro w' hw'
         go_simp
         exact kO.out w'
       · refine op_so (c := 0) (T := ?uTn4) (p := ?upn4) (x := ?uxn4) ?ugn4 ?ufn4 ?uvn4 ?h1n4 ?h2n4 ?h3n4 ?h4n4 ?h5n4 ?h6n4 ?h7n4
         case h1n4 => exact rfl
         case h2n4 => exact rfl
         case ufn4 => exact (.cells #[.bool (sg n), .int .u64 (l0 n : Int), .int .u64 (l1 n : Int), .int .u64 (l2 n : Int), .int .u64 (l3 n : Int)] 25 (0, 0))
         case ugn4 => exact g0 + 1 + 1 + 1 + 1
         case uvn4 => exact (.agg #[.bool (sg n), .int .u64 (l0 n : Int), .int .u64 (l1 n : Int), .int .u64 (l2 n : Int), .int .u64 (l3 n : Int)])
         case h3n4 => exact rfl
         case h4n4 => exact rfl
         case h5n4 => go_simp; rfl
         case h6n4 => go_simp
         intro ρ w' hp hx hz
         exact store_wide rfl hp hx (hz.trans P8)
       · refine op_so (c := 1) (T := ?uTn5) (p := ?upn5) (x := ?uxn5) ?ugn5 ?ufn5 ?uvn5 ?h1n5 ?h2n5 ?h3n5 ?h4n5 ?h5n5 ?h6n5 ?h7n5
         case h1n5 => exact rfl
         case h2n5 => exact rfl
         case ufn5 => exact (.cells #[.bool (sg 1), .int .u64 (l0 1 : Int), .int .u64 (l1 1 : Int), .int .u64 (l2 1 : Int), .int .u64 (l3 1 : Int)] 25 (0, 0))
         case ugn5 => exact g0 + 1 + 1 + 1 + 1 + 1
         case uvn5 => exact (.agg #[.bool (sg 1), .int .u64 (l0 1 : Int), .int .u64 (l1 1 : Int), .int .u64 (l2 1 : Int), .int .u64 (l3 1 : Int)])
         case h3n5 => exact rfl
         case h4n5 => exact rfl
         case h5n5 => go_simp; rfl
         case h6n5 => go_simp
         intro ρ w' hp hx hz
         exact store_wide rfl hp hx (hz.trans P9)
     · intro G W9 hI
       have hS := hI.same
       have P4 := P4.same hS (by intro c hc; simp at hc; rcases hc with rfl | rfl <;> (try simp only) <;> omega)
       have P5 := P5.same hS (by intro c hc; simp at hc; rcases hc with rfl | rfl <;> (try simp only) <;> omega)
       have P6 := P6.same hS (by intro c hc; simp at hc; rcases hc with rfl | rfl <;> (try simp only) <;> omega)
       have P7 := P7.same hS (by intro c hc; simp at hc; rcases hc with rfl | rfl <;> (try simp only) <;> omega)
       have P10 := P10.same hS (by intro c hc; simp at hc; rcases hc with rfl | rfl <;> (try simp only) <;> omega)
       have P11 := P11.same hS (by intro c hc; simp at hc; rcases hc with rfl | rfl <;> (try simp only) <;> omega)
       have P13 := P13.same hS (by intro c hc; simp at hc; rcases hc with rfl | rfl <;> (try simp only) <;> omega)
       have hso : ∀ c, Tag.so c ∈ [.q, .q, .so 0, .so 1] → w.heap.size ≤ (fun i => match i with | 0 => g0 + 1 + 1 + 1 + 1 | _ => g0 + 1 + 1 + 1 + 1 + 1) c := by intro c hc; simp at hc; rcases hc with rfl | rfl <;> (try simp only) <;> omega
       have EE := hide (hS.ext' EE.out hso)
       have P8 : Box W9 (g0 + 1 + 1 + 1 + 1) (sg n) (l0 n) (l1 n) (l2 n) (l3 n) := hI.olds' 2 (List.mem_range.2 (show 2 < 4 by decide)) 0 rfl
       have P9 : Box W9 (g0 + 1 + 1 + 1 + 1 + 1) (sg 1) (l0 1) (l1 1) (l2 1) (l3 1) := hI.olds' 3 (List.mem_range.2 (show 3 < 4 by decide)) 1 rfl
       clear hI hS
       simp only [putAll, slotV, ptrTo, Nat.zero_add, Nat.reduceAdd]
       go_wp2_with fail
       obtain ⟨xP80, xP81, xP82, xP83, xP84, xP8f0, xP8f1, xP8f2, xP8f3, xP8f4⟩ := five_cells P8; obtain ⟨xP90, xP91, xP92, xP93, xP94, xP9f0, xP9f1, xP9f2, xP9f3, xP9f4⟩ := five_cells P9
       exact bodyPost_ret (v := .tuple #[.agg #[.bool (sg n), .int .u64 (l0 n : Int), .int .u64 (l1 n : Int), .int .u64 (l2 n : Int), .int .u64 (l3 n : Int)], .agg #[.bool (sg 1), .int .u64 (l0 1 : Int), .int .u64 (l1 1 : Int), .int .u64 (l2 1 : Int), .int .u64 (l3 1 : Int)]]) (by simp [results, Tryz.results73, go_sem, xP80, xP81, xP82, xP83, xP84, xP90, xP91, xP92, xP93, xP94]) rfl ⟨rfl, EE.out⟩
   · have hr0 : a % b ≠ 0 := by rw [hr]; exact h0
     obtain ⟨u, hu⟩ : ∃ u, q + 1 = u := ⟨_, rfl⟩
     have fu : F256 u := by unfold F256; omega
     have f1 : F256 1 := by unfold F256; decide
     obtain ⟨v, hv⟩ : ∃ v, u * d = v := ⟨_, rfl⟩
     have fv : F256 v := by rw [← hv]; exact fbig u d (by omega) (by omega) (by omega) (by omega)
     obtain ⟨j, hj⟩ : ∃ j, cmpI v c = j := ⟨_, rfl⟩
     have hpos : v ≤ c ↔ a / b ≠ c / d := above_iff ha hb hd hle hr0 (by rw [hq]; exact hu) hv
     have kS : Hid (∀ w, Calls Tryz.prog 51 #[.agg #[.bool (sg r), .int .u64 (l0 r : Int), .int .u64 (l1 r : Int), .int .u64 (l2 r : Int), .int .u64 (l3 r : Int)]] w (Ret (.int .i64 1) w)) := fun w => d_sign fr (Int.sign_eq_one_of_pos (by omega)) w
     have kO : Hid (∀ w, Calls Tryz.prog 14 #[.int .i64 1] w (Ret (.agg #[.bool (sg 1), .int .u64 (l0 1 : Int), .int .u64 (l1 1 : Int), .int .u64 (l2 1 : Int), .int .u64 (l3 1 : Int)]) w)) := fun w => d_ofi (by omega) (by omega) w
     have kU : Hid (∀ w, Calls Tryz.prog 90 #[.agg #[.bool (sg q), .int .u64 (l0 q : Int), .int .u64 (l1 q : Int), .int .u64 (l2 q : Int), .int .u64 (l3 q : Int)], .agg #[.bool (sg 1), .int .u64 (l0 1 : Int), .int .u64 (l1 1 : Int), .int .u64 (l2 1 : Int), .int .u64 (l3 1 : Int)]] w (Ret (.tuple #[.agg #[.bool (sg u), .int .u64 (l0 u : Int), .int .u64 (l1 u : Int), .int .u64 (l2 u : Int), .int .u64 (l3 u : Int)], .bool true]) w)) := fun w => d_add fq f1 hu fu w
     have kM : Hid (∀ w, Calls Tryz.prog 28 #[.agg #[.bool (sg u), .int .u64 (l0 u : Int), .int .u64 (l1 u : Int), .int .u64 (l2 u : Int), .int .u64 (l3 u : Int)], .agg #[.bool (sg d), .int .u64 (l0 d : Int), .int .u64 (l1 d : Int), .int .u64 (l2 d : Int), .int .u64 (l3 d : Int)]] w (Ret (.tuple #[.agg #[.bool (sg v), .int .u64 (l0 v : Int), .int .u64 (l1 v : Int), .int .u64 (l2 v : Int), .int .u64 (l3 v : Int)], .bool true]) w)) := fun w => d_mul fu fd hv fv w
     have kC : Hid (∀ w, Calls Tryz.prog 31 #[.agg #[.bool (sg v), .int .u64 (l0 v : Int), .int .u64 (l1 v : Int), .int .u64 (l2 v : Int), .int .u64 (l3 v : Int)], .agg #[.bool (sg c), .int .u64 (l0 c : Int), .int .u64 (l1 c : Int), .int .u64 (l2 c : Int), .int .u64 (l3 c : Int)]] w (Ret (.int .i64 j) w)) := fun w => d_cmp fv fc hj w
     by_cases h1 : q = c / d
     · have hqp : a / b = c / d := by rw [hq]; exact h1
       have hvc : ¬ v ≤ c := fun e => hpos.1 e hqp
       have hj0 : ¬ j ≤ 0 := by
         intro e
         rcases Int.lt_or_eq_of_le e with h | h
         · have := (cmpI_lt hj).1.1 h; omega
         · have := (cmpI_lt hj).2.1.1 h; omega
       obtain ⟨t, ht⟩ : ∃ q, c % d = q := ⟨_, rfl⟩
       obtain ⟨z1, z2, t1, td, hl⟩ := rest_ways ha hb hd hle hr0 hqp
       rw [hr, ht] at hl
       rw [ht] at t1 td
       have ft : F256 t := f256_of (by omega)
       obtain ⟨g, hg⟩ : ∃ g, q * d = g := ⟨_, rfl⟩
       have hgc : c - g = t := by
         have e := Int.emod_add_mul_ediv c d
         rw [← h1, ht, Int.mul_comm d q, hg] at e
         omega
       have fg : F256 g := by rw [← hg]; exact fbig q d (by omega) (by omega) (by omega) (by omega)
       obtain ⟨n', m', B'⟩ := best_some (a := d) (b := t) (c := b) (d := r) t1 (by omega) hl
       have BS' := (B'.small t1 (by omega) hl).1
       have n'0 := B'.pos hd t1
       have m'0 := B'.1
       obtain ⟨en, em⟩ := Best.unique hb hd B (best_rec ha hb hd hr0 (by rw [ht]; exact t1) hqp (by rw [hr, ht]; exact B'))
       rw [hq] at en
       subst em
       obtain ⟨p, hp⟩ : ∃ v, q * m = v := ⟨_, rfl⟩
       rw [hp] at en
       have p0 : 0 ≤ p := by rw [← hp]; exact Int.mul_nonneg q0 (by omega)
       have fp : F256 p := f256_of (by omega)
       have fm : F256 m := f256_of (by omega)
       have fm' : F256 m' := f256_of (by omega)
       have fn : F256 n := f256_of (by omega)
       have kG : Hid (∀ w, Calls Tryz.prog 28 #[.agg #[.bool (sg q), .int .u64 (l0 q : Int), .int .u64 (l1 q : Int), .int .u64 (l2 q : Int), .int .u64 (l3 q : Int)], .agg #[.bool (sg d), .int .u64 (l0 d : Int), .int .u64 (l1 d : Int), .int .u64 (l2 d : Int), .int .u64 (l3 d : Int)]] w (Ret (.tuple #[.agg #[.bool (sg g), .int .u64 (l0 g : Int), .int .u64 (l1 g : Int), .int .u64 (l2 g : Int), .int .u64 (l3 g : Int)], .bool true]) w)) := fun w => d_mul fq fd hg fg w
       have kT : Hid (∀ w, Calls Tryz.prog 91 #[.agg #[.bool (sg c), .int .u64 (l0 c : Int), .int .u64 (l1 c : Int), .int .u64 (l2 c : Int), .int .u64 (l3 c : Int)], .agg #[.bool (sg g), .int .u64 (l0 g : Int), .int .u64 (l1 g : Int), .int .u64 (l2 g : Int), .int .u64 (l3 g : Int)]] w (Ret (.tuple #[.agg #[.bool (sg t), .int .u64 (l0 t : Int), .int .u64 (l1 t : Int), .int .u64 (l2 t : Int), .int .u64 (l3 t : Int)], .bool true]) w)) := fun w => d_sub fc fg hgc ft w
       have kR : Hid (∀ w, Calls Tryz.prog 73 #[.agg #[.bool (sg d), .int .u64 (l0 d : Int), .int .u64 (l1 d : Int), .int .u64 (l2 d : Int), .int .u64 (l3 d : Int)], .agg #[.bool (sg t), .int .u64 (l0 t : Int), .int .u64 (l1 t : Int), .int .u64 (l2 t : Int), .int .u64 (l3 t : Int)], .agg #[.bool (sg b), .int .u64 (l0 b : Int), .int .u64 (l1 b : Int), .int .u64 (l2 b : Int), .int .u64 (l3 b : Int)], .agg #[.bool (sg r), .int .u64 (l0 r : Int), .int .u64 (l1 r : Int), .int .u64 (l2 r : Int), .int .u64 (l3 r : Int)]] w (Ret (.tuple #[.agg #[.bool (sg m), .int .u64 (l0 m : Int), .int .u64 (l1 m : Int), .int .u64 (l2 m : Int), .int .u64 (l3 m : Int)], .agg #[.bool (sg m'), .int .u64 (l0 m' : Int), .int .u64 (l1 m' : Int), .int .u64 (l2 m' : Int), .int .u64 (l3 m' : Int)]]) w)) := fun w => q_pos k d t b r m m' (by omega) hd t1 (by omega) hl sd (by omega) sb (by omega) B' w
       have kP : Hid (∀ w, Calls Tryz.prog 28 #[.agg #[.bool (sg q), .int .u64 (l0 q : Int), .int .u64 (l1 q : Int), .int .u64 (l2 q : Int), .int .u64 (l3 q : Int)], .agg #[.bool (sg m), .int .u64 (l0 m : Int), .int .u64 (l1 m : Int), .int .u64 (l2 m : Int), .int .u64 (l3 m : Int)]] w (Ret (.tuple #[.agg #[.bool (sg p), .int .u64 (l0 p : Int), .int .u64 (l1 p : Int), .int .u64 (l2 p : Int), .int .u64 (l3 p : Int)], .bool true]) w)) := fun w => d_mul fq fm hp fp w
       have kN : Hid (∀ w, Calls Tryz.prog 90 #[.agg #[.bool (sg p), .int .u64 (l0 p : Int), .int .u64 (l1 p : Int), .int .u64 (l2 p : Int), .int .u64 (l3 p : Int)], .agg #[.bool (sg m'), .int .u64 (l0 m' : Int), .int .u64 (l1 m' : Int), .int .u64 (l2 m' : Int), .int .u64 (l3 m' : Int)]] w (Ret (.tuple #[.agg #[.bool (sg n), .int .u64 (l0 n : Int), .int .u64 (l1 n : Int), .int .u64 (l2 n : Int), .int .u64 (l3 n : Int)], .bool true]) w)) := fun w => d_add fp fm' en.symm fn w
       clear hq hr q0 qa r0 rb fa fb fc fd fq fr BS n0 m0 c0 fbig hk ha hb hd hle sa sb sc sd B z1 z2 hr0 h0 h1 hpos hqp hvc t1 td hl ft hg hgc fg B' BS' n'0 m'0 en hp p0 fp fm fm' fn hu fu f1 hv fv hj ht
       obtain ⟨W0, hW0⟩ : ∃ W0, W0 = ((((((w.alloc (.cells #[.bool (sg a), .int .u64 (l0 a : Int), .int .u64 (l1 a : Int), .int .u64 (l2 a : Int), .int .u64 (l3 a : Int)] 25)).alloc (.cells #[.bool (sg b), .int .u64 (l0 b : Int), .int .u64 (l1 b : Int), .int .u64 (l2 b : Int), .int .u64 (l3 b : Int)] 25)).alloc (.cells #[.bool (sg c), .int .u64 (l0 c : Int), .int .u64 (l1 c : Int), .int .u64 (l2 c : Int), .int .u64 (l3 c : Int)] 25)).alloc (.cells #[.bool (sg d), .int .u64 (l0 d : Int), .int .u64 (l1 d : Int), .int .u64 (l2 d : Int), .int .u64 (l3 d : Int)] 25)).alloc (.cells #[.bool false, .int .u64 0, .int .u64 0, .int .u64 0, .int .u64 0] 25)).alloc (.cells #[.bool false, .int .u64 0, .int .u64 0, .int .u64 0, .int .u64 0] 25)) := ⟨_, rfl⟩
       have H2 := six_objs w (.cells #[.bool (sg a), .int .u64 (l0 a : Int), .int .u64 (l1 a : Int), .int .u64 (l2 a : Int), .int .u64 (l3 a : Int)] 25) (.cells #[.bool (sg b), .int .u64 (l0 b : Int), .int .u64 (l1 b : Int), .int .u64 (l2 b : Int), .int .u64 (l3 b : Int)] 25) (.cells #[.bool (sg c), .int .u64 (l0 c : Int), .int .u64 (l1 c : Int), .int .u64 (l2 c : Int), .int .u64 (l3 c : Int)] 25) (.cells #[.bool (sg d), .int .u64 (l0 d : Int), .int .u64 (l1 d : Int), .int .u64 (l2 d : Int), .int .u64 (l3 d : Int)] 25) (.cells #[.bool false, .int .u64 0, .int .u64 0, .int .u64 0, .int .u64 0] 25) (.cells #[.bool false, .int .u64 0, .int .u64 0, .int .u64 0, .int .u64 0] 25)
       have EE0 : Ext w W0 := by rw [hW0]; exact ((((((ext_alloc _ _).trans (ext_alloc _ _)).trans (ext_alloc _ _)).trans (ext_alloc _ _)).trans (ext_alloc _ _)).trans (ext_alloc _ _))
       rw [← hW0] at H2
       have EE := hide EE0
       have HW := hide hW0
       obtain ⟨P4, P5, P6, P7, P8, P9⟩ : Box W0 (w.heap.size) (sg a) (l0 a) (l1 a) (l2 a) (l3 a) ∧ Box W0 ((w.heap.size + 1)) (sg b) (l0 b) (l1 b) (l2 b) (l3 b) ∧ Box W0 ((w.heap.size + 1 + 1)) (sg c) (l0 c) (l1 c) (l2 c) (l3 c) ∧ Box W0 ((w.heap.size + 1 + 1 + 1)) (sg d) (l0 d) (l1 d) (l2 d) (l3 d) ∧ Box W0 ((w.heap.size + 1 + 1 + 1 + 1)) false 0 0 0 0 ∧ Box W0 ((w.heap.size + 1 + 1 + 1 + 1 + 1)) false 0 0 0 0 := H2
       clear hW0 EE0
       go_enter Tryz.func73, Tryz.ntmps73
       go_upto_region 1 with fail
       rw [← HW.out]
       clear HW
       have hg0 : w.heap.size ≤ w.heap.size := Nat.le_refl _
       obtain ⟨g0, hg⟩ : ∃ g, w.heap.size = g := ⟨_, rfl⟩
       rw [hg] at P4 P5 P6 P7 P8 P9 ⊢
       replace hg0 : w.heap.size ≤ g0 := Nat.le_of_eq hg
       clear hg
       obtain ⟨xP40, xP41, xP42, xP43, xP44, -⟩ := five_cells P4; obtain ⟨xP50, xP51, xP52, xP53, xP54, -⟩ := five_cells P5
       go_upto_region 2 with (go_at_call 54; (with_reducible refine (kD.out _).mono ?_); rintro e w1 ⟨rfl, hE⟩; clear xP40 xP41 xP42 xP43 xP44 xP50 xP51 xP52 xP53 xP54; have P4 := P4.ext hE; have P5 := P5.ext hE; have P6 := P6.ext hE; have P7 := P7.ext hE; have P8 := P8.ext hE; have P9 := P9.ext hE; have EE := hide (EE.out.trans hE); clear hE; obtain ⟨xP40, xP41, xP42, xP43, xP44, -⟩ := five_cells P4; obtain ⟨xP50, xP51, xP52, xP53, xP54, -⟩ := five_cells P5)
       clear xP40 xP41 xP42 xP43 xP44 xP50 xP51 xP52 xP53 xP54
       have H2 := two_blocks w1 (.cells #[.bool (sg q), .int .u64 (l0 q : Int), .int .u64 (l1 q : Int), .int .u64 (l2 q : Int), .int .u64 (l3 q : Int)] 25) (.cells #[.bool (sg r), .int .u64 (l0 r : Int), .int .u64 (l1 r : Int), .int .u64 (l2 r : Int), .int .u64 (l3 r : Int)] 25)
       have lP4 := P4.lt
       have lP5 := P5.lt
       have lP6 := P6.lt
       have lP7 := P7.lt
       have lP8 := P8.lt
       have lP9 := P9.lt
       have hE := ((ext_alloc w1 (.cells #[.bool (sg q), .int .u64 (l0 q : Int), .int .u64 (l1 q : Int), .int .u64 (l2 q : Int), .int .u64 (l3 q : Int)] 25)).trans (ext_alloc _ (.cells #[.bool (sg r), .int .u64 (l0 r : Int), .int .u64 (l1 r : Int), .int .u64 (l2 r : Int), .int .u64 (l3 r : Int)] 25)))
       have P4 := P4.ext hE
       have P5 := P5.ext hE
       have P6 := P6.ext hE
       have P7 := P7.ext hE
       have P8 := P8.ext hE
       have P9 := P9.ext hE
       have EE := hide (EE.out.trans hE)
       clear hE
       obtain ⟨W2, hW⟩ : ∃ W, W = ((w1.alloc (.cells #[.bool (sg q), .int .u64 (l0 q : Int), .int .u64 (l1 q : Int), .int .u64 (l2 q : Int), .int .u64 (l3 q : Int)] 25)).alloc (.cells #[.bool (sg r), .int .u64 (l0 r : Int), .int .u64 (l1 r : Int), .int .u64 (l2 r : Int), .int .u64 (l3 r : Int)] 25)) := ⟨_, rfl⟩
       rw [← hW] at H2 EE P4 P5 P6 P7 P8 P9 ⊢
       obtain ⟨g3, hg⟩ : ∃ g, w1.heap.size = g := ⟨_, rfl⟩
       rw [hg] at H2 lP4 lP5 lP6 lP7 lP8 lP9 ⊢
       obtain ⟨P10, P11⟩ : Box W2 g3 (sg q) (l0 q) (l1 q) (l2 q) (l3 q) ∧ Box W2 (g3 + 1) (sg r) (l0 r) (l1 r) (l2 r) (l3 r) := H2
       clear hW hg
       have ngP4P10 : g0 ≠ g3 := by omega
       have ngP4P11 : g0 ≠ g3 + 1 := by omega
       have ngP5P10 : g0 + 1 ≠ g3 := by omega
       have ngP5P11 : g0 + 1 ≠ g3 + 1 := by omega
       have ngP6P10 : g0 + 1 + 1 ≠ g3 := by omega
       have ngP6P11 : g0 + 1 + 1 ≠ g3 + 1 := by omega
       have ngP7P10 : g0 + 1 + 1 + 1 ≠ g3 := by omega
       have ngP7P11 : g0 + 1 + 1 + 1 ≠ g3 + 1 := by omega
       have ngP8P10 : g0 + 1 + 1 + 1 + 1 ≠ g3 := by omega
       have ngP8P11 : g0 + 1 + 1 + 1 + 1 ≠ g3 + 1 := by omega
       have ngP9P10 : g0 + 1 + 1 + 1 + 1 + 1 ≠ g3 := by omega
       have ngP9P11 : g0 + 1 + 1 + 1 + 1 + 1 ≠ g3 + 1 := by omega
       obtain ⟨xP110, xP111, xP112, xP113, xP114, -⟩ := five_cells P11
       go_upto_region 3 with (go_at_call 51; (with_reducible refine (kS.out _).mono ?_); rintro e w4 ⟨rfl, hE⟩; clear xP110 xP111 xP112 xP113 xP114; have P4 := P4.ext hE; have P5 := P5.ext hE; have P6 := P6.ext hE; have P7 := P7.ext hE; have P8 := P8.ext hE; have P9 := P9.ext hE; have P10 := P10.ext hE; have P11 := P11.ext hE; have EE := hide (EE.out.trans hE); clear hE; obtain ⟨xP110, xP111, xP112, xP113, xP114, -⟩ := five_cells P11)
       clear xP110 xP111 xP112 xP113 xP114
       have lbP4 := P4.lt
       have lbP5 := P5.lt
       have lbP6 := P6.lt
       have lbP7 := P7.lt
       have lbP8 := P8.lt
       have lbP9 := P9.lt
       have lbP10 := P10.lt
       have lbP11 := P11.lt
       have ltW0 : ∀ c, Tag.so c ∈ [.q, .q, .q, .q, .q, .q, .so 0] → (fun _ => g3) c < w4.heap.size := by intro c hc; simp at hc; (try subst hc); (try simp only); omega
       refine wp_decl [.q, .q, .q, .q, .q, .q, .so 0] [.agg #[.bool (sg q), .int .u64 (l0 q : Int), .int .u64 (l1 q : Int), .int .u64 (l2 q : Int), .int .u64 (l3 q : Int)], .agg #[.bool (sg 1), .int .u64 (l0 1 : Int), .int .u64 (l1 1 : Int), .int .u64 (l2 1 : Int), .int .u64 (l3 1 : Int)], .tuple #[.agg #[.bool (sg u), .int .u64 (l0 u : Int), .int .u64 (l1 u : Int), .int .u64 (l2 u : Int), .int .u64 (l3 u : Int)], .bool true], .tuple #[.agg #[.bool (sg u), .int .u64 (l0 u : Int), .int .u64 (l1 u : Int), .int .u64 (l2 u : Int), .int .u64 (l3 u : Int)], .bool true], .agg #[.bool (sg u), .int .u64 (l0 u : Int), .int .u64 (l1 u : Int), .int .u64 (l2 u : Int), .int .u64 (l3 u : Int)], .bool true, undef] (fun _ => (.cells #[.bool false, .int .u64 0, .int .u64 0, .int .u64 0, .int .u64 0] 25 (0, 0))) (fun _ => (.cells #[.bool (sg u), .int .u64 (l0 u : Int), .int .u64 (l1 u : Int), .int .u64 (l2 u : Int), .int .u64 (l3 u : Int)] 25 (0, 0))) (fun _ => g3) (by kernel_rfl) (by kernel_rfl) (by kernel_rfl) rfl rfl ltW0 (by intro c c' h1 h2 _; simp at h1 h2; omega) ?_ ?_
       · refine ⟨?_, ?_, ?_, ?_, ?_, ?_, ?_, trivial⟩
         · refine op_qa ?uvn7 ?h1n7 ?h2n7 ?h3n7
           case h1n7 => exact rfl
           case uvn7 => exact (.agg #[.bool (sg q), .int .u64 (l0 q : Int), .int .u64 (l1 q : Int), .int .u64 (l2 q : Int), .int .u64 (l3 q : Int)])
           case h2n7 => exact rfl
           intro w' hw' ha
           have P10 : Box w' g3 (sg q) (l0 q) (l1 q) (l2 q) (l3 q) := (ha 6 0 rfl (by kernel_rfl)).trans P10
           have xP10 := five_cells P10
           go_simp
         · refine op_q ?uvn8 ?h1n8 ?h2n8 ?h3n8
           case h1n8 => exact rfl
           case uvn8 => exact (.agg #[.bool (sg 1), .int .u64 (l0 1 : Int), .int .u64 (l1 1 : Int), .int .u64 (l2 1 : Int), .int .u64 (l3 1 : Int)])
           case h2n8 => exact rfl
           intro w' hw'
           go_simp
           exact kO.out w'
         · refine op_q ?uvn9 ?h1n9 ?h2n9 ?h3n9
           case h1n9 => exact rfl
           case uvn9 => exact (.tuple #[.agg #[.bool (sg u), .int .u64 (l0 u : Int), .int .u64 (l1 u : Int), .int .u64 (l2 u : Int), .int .u64 (l3 u : Int)], .bool true])
           case h2n9 => exact rfl
           intro w' hw'
           go_simp
           exact kU.out w'
         · refine op_q ?uvn10 ?h1n10 ?h2n10 ?h3n10
           case h1n10 => exact rfl
           case uvn10 => exact (.tuple #[.agg #[.bool (sg u), .int .u64 (l0 u : Int), .int .u64 (l1 u : Int), .int .u64 (l2 u : Int), .int .u64 (l3 u : Int)], .bool true])
           case h2n10 => exact rfl
           intro w' hw'
           go_simp
         · refine op_q ?uvn11 ?h1n11 ?h2n11 ?h3n11
           case h1n11 => exact rfl
           case uvn11 => exact (.agg #[.bool (sg u), .int .u64 (l0 u : Int), .int .u64 (l1 u : Int), .int .u64 (l2 u : Int), .int .u64 (l3 u : Int)])
           case h2n11 => exact rfl
           intro w' hw'
           go_simp
         · refine op_q ?uvn12 ?h1n12 ?h2n12 ?h3n12
           case h1n12 => exact rfl
           case uvn12 => exact (.bool true)
           case h2n12 => exact rfl
           intro w' hw'
           go_simp
         · refine op_so (c := 0) (T := ?uTn13) (p := ?upn13) (x := ?uxn13) ?ugn13 ?ufn13 ?uvn13 ?h1n13 ?h2n13 ?h3n13 ?h4n13 ?h5n13 ?h6n13 ?h7n13
           case h1n13 => exact rfl
           case h2n13 => exact rfl
           case ufn13 => exact (.cells #[.bool (sg u), .int .u64 (l0 u : Int), .int .u64 (l1 u : Int), .int .u64 (l2 u : Int), .int .u64 (l3 u : Int)] 25 (0, 0))
           case ugn13 => exact g3
           case uvn13 => exact (.agg #[.bool (sg u), .int .u64 (l0 u : Int), .int .u64 (l1 u : Int), .int .u64 (l2 u : Int), .int .u64 (l3 u : Int)])
           case h3n13 => exact rfl
           case h4n13 => exact rfl
           case h5n13 => go_simp; rfl
           case h6n13 => go_simp
           intro ρ w' hp hx hz
           exact store_wide rfl hp hx (hz.trans P10)
       · intro G W5 hI
         have hS := hI.same
         have P4 := P4.same hS (by intro c hc; simp at hc; (try subst hc); (try simp only); omega)
         have P5 := P5.same hS (by intro c hc; simp at hc; (try subst hc); (try simp only); omega)
         have P6 := P6.same hS (by intro c hc; simp at hc; (try subst hc); (try simp only); omega)
         have P7 := P7.same hS (by intro c hc; simp at hc; (try subst hc); (try simp only); omega)
         have P8 := P8.same hS (by intro c hc; simp at hc; (try subst hc); (try simp only); omega)
         have P9 := P9.same hS (by intro c hc; simp at hc; (try subst hc); (try simp only); omega)
         have P11 := P11.same hS (by intro c hc; simp at hc; (try subst hc); (try simp only); omega)
         have hso : ∀ c, Tag.so c ∈ [.q, .q, .q, .q, .q, .q, .so 0] → w.heap.size ≤ (fun _ => g3) c := by intro c hc; simp at hc; (try subst hc); (try simp only); omega
         have EE := hide (hS.ext' EE.out hso)
         have P10 : Box W5 g3 (sg u) (l0 u) (l1 u) (l2 u) (l3 u) := hI.olds' 6 (List.mem_range.2 (show 6 < 7 by decide)) 0 rfl
         clear hI hS
         simp only [putAll, slotV, ptrTo, Nat.zero_add, Nat.reduceAdd]
         go_upto_region 4 with fail
         obtain ⟨xP70, xP71, xP72, xP73, xP74, -⟩ := five_cells P7; obtain ⟨xP100, xP101, xP102, xP103, xP104, -⟩ := five_cells P10
         go_upto_region 5 with (go_at_call 28; (with_reducible refine (kM.out _).mono ?_); rintro e w6 ⟨rfl, hE⟩; clear xP70 xP71 xP72 xP73 xP74 xP100 xP101 xP102 xP103 xP104; have P4 := P4.ext hE; have P5 := P5.ext hE; have P6 := P6.ext hE; have P7 := P7.ext hE; have P8 := P8.ext hE; have P9 := P9.ext hE; have P10 := P10.ext hE; have P11 := P11.ext hE; have EE := hide (EE.out.trans hE); clear hE; obtain ⟨xP70, xP71, xP72, xP73, xP74, -⟩ := five_cells P7; obtain ⟨xP100, xP101, xP102, xP103, xP104, -⟩ := five_cells P10)
         clear xP70 xP71 xP72 xP73 xP74 xP100 xP101 xP102 xP103 xP104
         have H2 := heap_alloc_new w6 (.cells #[.bool (sg v), .int .u64 (l0 v : Int), .int .u64 (l1 v : Int), .int .u64 (l2 v : Int), .int .u64 (l3 v : Int)] 25)
         have lP4 := P4.lt
         have lP5 := P5.lt
         have lP6 := P6.lt
         have lP7 := P7.lt
         have lP8 := P8.lt
         have lP9 := P9.lt
         have lP10 := P10.lt
         have lP11 := P11.lt
         have hE := (ext_alloc w6 (.cells #[.bool (sg v), .int .u64 (l0 v : Int), .int .u64 (l1 v : Int), .int .u64 (l2 v : Int), .int .u64 (l3 v : Int)] 25))
         have P4 := P4.ext hE
         have P5 := P5.ext hE
         have P6 := P6.ext hE
         have P7 := P7.ext hE
         have P8 := P8.ext hE
         have P9 := P9.ext hE
         have P10 := P10.ext hE
         have P11 := P11.ext hE
         have EE := hide (EE.out.trans hE)
         clear hE
         obtain ⟨W7, hW⟩ : ∃ W, W = (w6.alloc (.cells #[.bool (sg v), .int .u64 (l0 v : Int), .int .u64 (l1 v : Int), .int .u64 (l2 v : Int), .int .u64 (l3 v : Int)] 25)) := ⟨_, rfl⟩
         rw [← hW] at H2 EE P4 P5 P6 P7 P8 P9 P10 P11 ⊢
         obtain ⟨g8, hg⟩ : ∃ g, w6.heap.size = g := ⟨_, rfl⟩
         rw [hg] at H2 lP4 lP5 lP6 lP7 lP8 lP9 lP10 lP11 ⊢
         have P13 : Box W7 g8 (sg v) (l0 v) (l1 v) (l2 v) (l3 v) := H2
         clear hW hg
         have ngP4P13 : g0 ≠ g8 := by omega
         have ngP5P13 : g0 + 1 ≠ g8 := by omega
         have ngP6P13 : g0 + 1 + 1 ≠ g8 := by omega
         have ngP7P13 : g0 + 1 + 1 + 1 ≠ g8 := by omega
         have ngP8P13 : g0 + 1 + 1 + 1 + 1 ≠ g8 := by omega
         have ngP9P13 : g0 + 1 + 1 + 1 + 1 + 1 ≠ g8 := by omega
         have ngP10P13 : g3 ≠ g8 := by omega
         have ngP11P13 : g3 + 1 ≠ g8 := by omega
         obtain ⟨xP60, xP61, xP62, xP63, xP64, -⟩ := five_cells P6; obtain ⟨xP130, xP131, xP132, xP133, xP134, -⟩ := five_cells P13
         go_upto_region 7 with (go_at_call 31; (with_reducible refine (kC.out _).mono ?_); rintro e w9 ⟨rfl, hE⟩; clear xP60 xP61 xP62 xP63 xP64 xP130 xP131 xP132 xP133 xP134; have P4 := P4.ext hE; have P5 := P5.ext hE; have P6 := P6.ext hE; have P7 := P7.ext hE; have P8 := P8.ext hE; have P9 := P9.ext hE; have P10 := P10.ext hE; have P11 := P11.ext hE; have P13 := P13.ext hE; have EE := hide (EE.out.trans hE); clear hE; obtain ⟨xP60, xP61, xP62, xP63, xP64, -⟩ := five_cells P6; obtain ⟨xP130, xP131, xP132, xP133, xP134, -⟩ := five_cells P13)
         clear xP60 xP61 xP62 xP63 xP64 xP130 xP131 xP132 xP133 xP134
         obtain ⟨xP40, xP41, xP42, xP43, xP44, -⟩ := five_cells P4; obtain ⟨xP50, xP51, xP52, xP53, xP54, -⟩ := five_cells P5
         go_upto_region 8 with (go_at_call 54; (with_reducible refine (kD.out _).mono ?_); rintro e w10 ⟨rfl, hE⟩; clear xP40 xP41 xP42 xP43 xP44 xP50 xP51 xP52 xP53 xP54; have P4 := P4.ext hE; have P5 := P5.ext hE; have P6 := P6.ext hE; have P7 := P7.ext hE; have P8 := P8.ext hE; have P9 := P9.ext hE; have P10 := P10.ext hE; have P11 := P11.ext hE; have P13 := P13.ext hE; have EE := hide (EE.out.trans hE); clear hE; obtain ⟨xP40, xP41, xP42, xP43, xP44, -⟩ := five_cells P4; obtain ⟨xP50, xP51, xP52, xP53, xP54, -⟩ := five_cells P5)
         clear xP40 xP41 xP42 xP43 xP44 xP50 xP51 xP52 xP53 xP54
         have H2 := two_blocks w10 (.cells #[.bool (sg q), .int .u64 (l0 q : Int), .int .u64 (l1 q : Int), .int .u64 (l2 q : Int), .int .u64 (l3 q : Int)] 25) (.cells #[.bool (sg r), .int .u64 (l0 r : Int), .int .u64 (l1 r : Int), .int .u64 (l2 r : Int), .int .u64 (l3 r : Int)] 25)
         have lP4 := P4.lt
         have lP5 := P5.lt
         have lP6 := P6.lt
         have lP7 := P7.lt
         have lP8 := P8.lt
         have lP9 := P9.lt
         have lP10 := P10.lt
         have lP11 := P11.lt
         have lP13 := P13.lt
         have hE := ((ext_alloc w10 (.cells #[.bool (sg q), .int .u64 (l0 q : Int), .int .u64 (l1 q : Int), .int .u64 (l2 q : Int), .int .u64 (l3 q : Int)] 25)).trans (ext_alloc _ (.cells #[.bool (sg r), .int .u64 (l0 r : Int), .int .u64 (l1 r : Int), .int .u64 (l2 r : Int), .int .u64 (l3 r : Int)] 25)))
         have P4 := P4.ext hE
         have P5 := P5.ext hE
         have P6 := P6.ext hE
         have P7 := P7.ext hE
         have P8 := P8.ext hE
         have P9 := P9.ext hE
         have P10 := P10.ext hE
         have P11 := P11.ext hE
         have P13 := P13.ext hE
         have EE := hide (EE.out.trans hE)
         clear hE
         obtain ⟨W11, hW⟩ : ∃ W, W = ((w10.alloc (.cells #[.bool (sg q), .int .u64 (l0 q : Int), .int .u64 (l1 q : Int), .int .u64 (l2 q : Int), .int .u64 (l3 q : Int)] 25)).alloc (.cells #[.bool (sg r), .int .u64 (l0 r : Int), .int .u64 (l1 r : Int), .int .u64 (l2 r : Int), .int .u64 (l3 r : Int)] 25)) := ⟨_, rfl⟩
         rw [← hW] at H2 EE P4 P5 P6 P7 P8 P9 P10 P11 P13 ⊢
         obtain ⟨g12, hg⟩ : ∃ g, w10.heap.size = g := ⟨_, rfl⟩
         rw [hg] at H2 lP4 lP5 lP6 lP7 lP8 lP9 lP10 lP11 lP13 ⊢
         obtain ⟨P15, P16⟩ : Box W11 g12 (sg q) (l0 q) (l1 q) (l2 q) (l3 q) ∧ Box W11 (g12 + 1) (sg r) (l0 r) (l1 r) (l2 r) (l3 r) := H2
         clear hW hg
         have ngP4P15 : g0 ≠ g12 := by omega
         have ngP4P16 : g0 ≠ g12 + 1 := by omega
         have ngP5P15 : g0 + 1 ≠ g12 := by omega
         have ngP5P16 : g0 + 1 ≠ g12 + 1 := by omega
         have ngP6P15 : g0 + 1 + 1 ≠ g12 := by omega
         have ngP6P16 : g0 + 1 + 1 ≠ g12 + 1 := by omega
         have ngP7P15 : g0 + 1 + 1 + 1 ≠ g12 := by omega
         have ngP7P16 : g0 + 1 + 1 + 1 ≠ g12 + 1 := by omega
         have ngP8P15 : g0 + 1 + 1 + 1 + 1 ≠ g12 := by omega
         have ngP8P16 : g0 + 1 + 1 + 1 + 1 ≠ g12 + 1 := by omega
         have ngP9P15 : g0 + 1 + 1 + 1 + 1 + 1 ≠ g12 := by omega
         have ngP9P16 : g0 + 1 + 1 + 1 + 1 + 1 ≠ g12 + 1 := by omega
         have ngP10P15 : g3 ≠ g12 := by omega
         have ngP10P16 : g3 ≠ g12 + 1 := by omega
         have ngP11P15 : g3 + 1 ≠ g12 := by omega
         have ngP11P16 : g3 + 1 ≠ g12 + 1 := by omega
         have ngP13P15 : g8 ≠ g12 := by omega
         have ngP13P16 : g8 ≠ g12 + 1 := by omega
         obtain ⟨xP70, xP71, xP72, xP73, xP74, -⟩ := five_cells P7; obtain ⟨xP150, xP151, xP152, xP153, xP154, -⟩ := five_cells P15
         go_upto_region 9 with (go_at_call 28; (with_reducible refine (kG.out _).mono ?_); rintro e w13 ⟨rfl, hE⟩; clear xP70 xP71 xP72 xP73 xP74 xP150 xP151 xP152 xP153 xP154; have P4 := P4.ext hE; have P5 := P5.ext hE; have P6 := P6.ext hE; have P7 := P7.ext hE; have P8 := P8.ext hE; have P9 := P9.ext hE; have P10 := P10.ext hE; have P11 := P11.ext hE; have P13 := P13.ext hE; have P15 := P15.ext hE; have P16 := P16.ext hE; have EE := hide (EE.out.trans hE); clear hE; obtain ⟨xP70, xP71, xP72, xP73, xP74, -⟩ := five_cells P7; obtain ⟨xP150, xP151, xP152, xP153, xP154, -⟩ := five_cells P15)
         clear xP70 xP71 xP72 xP73 xP74 xP150 xP151 xP152 xP153 xP154
         have H2 := heap_alloc_new w13 (.cells #[.bool (sg g), .int .u64 (l0 g : Int), .int .u64 (l1 g : Int), .int .u64 (l2 g : Int), .int .u64 (l3 g : Int)] 25)
         have lP4 := P4.lt
         have lP5 := P5.lt
         have lP6 := P6.lt
         have lP7 := P7.lt
         have lP8 := P8.lt
         have lP9 := P9.lt
         have lP10 := P10.lt
         have lP11 := P11.lt
         have lP13 := P13.lt
         have lP15 := P15.lt
         have lP16 := P16.lt
         have hE := (ext_alloc w13 (.cells #[.bool (sg g), .int .u64 (l0 g : Int), .int .u64 (l1 g : Int), .int .u64 (l2 g : Int), .int .u64 (l3 g : Int)] 25))
         have P4 := P4.ext hE
         have P5 := P5.ext hE
         have P6 := P6.ext hE
         have P7 := P7.ext hE
         have P8 := P8.ext hE
         have P9 := P9.ext hE
         have P10 := P10.ext hE
         have P11 := P11.ext hE
         have P13 := P13.ext hE
         have P15 := P15.ext hE
         have P16 := P16.ext hE
         have EE := hide (EE.out.trans hE)
         clear hE
         obtain ⟨W14, hW⟩ : ∃ W, W = (w13.alloc (.cells #[.bool (sg g), .int .u64 (l0 g : Int), .int .u64 (l1 g : Int), .int .u64 (l2 g : Int), .int .u64 (l3 g : Int)] 25)) := ⟨_, rfl⟩
         rw [← hW] at H2 EE P4 P5 P6 P7 P8 P9 P10 P11 P13 P15 P16 ⊢
         obtain ⟨g15, hg⟩ : ∃ g, w13.heap.size = g := ⟨_, rfl⟩
         rw [hg] at H2 lP4 lP5 lP6 lP7 lP8 lP9 lP10 lP11 lP13 lP15 lP16 ⊢
         have P18 : Box W14 g15 (sg g) (l0 g) (l1 g) (l2 g) (l3 g) := H2
         clear hW hg
         have ngP4P18 : g0 ≠ g15 := by omega
         have ngP5P18 : g0 + 1 ≠ g15 := by omega
         have ngP6P18 : g0 + 1 + 1 ≠ g15 := by omega
         have ngP7P18 : g0 + 1 + 1 + 1 ≠ g15 := by omega
         have ngP8P18 : g0 + 1 + 1 + 1 + 1 ≠ g15 := by omega
         have ngP9P18 : g0 + 1 + 1 + 1 + 1 + 1 ≠ g15 := by omega
         have ngP10P18 : g3 ≠ g15 := by omega
         have ngP11P18 : g3 + 1 ≠ g15 := by omega
         have ngP13P18 : g8 ≠ g15 := by omega
         have ngP15P18 : g12 ≠ g15 := by omega
         have ngP16P18 : g12 + 1 ≠ g15 := by omega
         obtain ⟨xP60, xP61, xP62, xP63, xP64, -⟩ := five_cells P6; obtain ⟨xP180, xP181, xP182, xP183, xP184, -⟩ := five_cells P18
         go_upto_region 10 with (go_at_call 91; (with_reducible refine (kT.out _).mono ?_); rintro e w16 ⟨rfl, hE⟩; clear xP60 xP61 xP62 xP63 xP64 xP180 xP181 xP182 xP183 xP184; have P4 := P4.ext hE; have P5 := P5.ext hE; have P6 := P6.ext hE; have P7 := P7.ext hE; have P8 := P8.ext hE; have P9 := P9.ext hE; have P10 := P10.ext hE; have P11 := P11.ext hE; have P13 := P13.ext hE; have P15 := P15.ext hE; have P16 := P16.ext hE; have P18 := P18.ext hE; have EE := hide (EE.out.trans hE); clear hE; obtain ⟨xP60, xP61, xP62, xP63, xP64, -⟩ := five_cells P6; obtain ⟨xP180, xP181, xP182, xP183, xP184, -⟩ := five_cells P18)
         clear xP60 xP61 xP62 xP63 xP64 xP180 xP181 xP182 xP183 xP184
         have H2 := heap_alloc_new w16 (.cells #[.bool (sg t), .int .u64 (l0 t : Int), .int .u64 (l1 t : Int), .int .u64 (l2 t : Int), .int .u64 (l3 t : Int)] 25)
         have lP4 := P4.lt
         have lP5 := P5.lt
         have lP6 := P6.lt
         have lP7 := P7.lt
         have lP8 := P8.lt
         have lP9 := P9.lt
         have lP10 := P10.lt
         have lP11 := P11.lt
         have lP13 := P13.lt
         have lP15 := P15.lt
         have lP16 := P16.lt
         have lP18 := P18.lt
         have hE := (ext_alloc w16 (.cells #[.bool (sg t), .int .u64 (l0 t : Int), .int .u64 (l1 t : Int), .int .u64 (l2 t : Int), .int .u64 (l3 t : Int)] 25))
         have P4 := P4.ext hE
         have P5 := P5.ext hE
         have P6 := P6.ext hE
         have P7 := P7.ext hE
         have P8 := P8.ext hE
         have P9 := P9.ext hE
         have P10 := P10.ext hE
         have P11 := P11.ext hE
         have P13 := P13.ext hE
         have P15 := P15.ext hE
         have P16 := P16.ext hE
         have P18 := P18.ext hE
         have EE := hide (EE.out.trans hE)
         clear hE
         obtain ⟨W17, hW⟩ : ∃ W, W = (w16.alloc (.cells #[.bool (sg t), .int .u64 (l0 t : Int), .int .u64 (l1 t : Int), .int .u64 (l2 t : Int), .int .u64 (l3 t : Int)] 25)) := ⟨_, rfl⟩
         rw [← hW] at H2 EE P4 P5 P6 P7 P8 P9 P10 P11 P13 P15 P16 P18 ⊢
         obtain ⟨g18, hg⟩ : ∃ g, w16.heap.size = g := ⟨_, rfl⟩
         rw [hg] at H2 lP4 lP5 lP6 lP7 lP8 lP9 lP10 lP11 lP13 lP15 lP16 lP18 ⊢
         have P20 : Box W17 g18 (sg t) (l0 t) (l1 t) (l2 t) (l3 t) := H2
         clear hW hg
         have ngP4P20 : g0 ≠ g18 := by omega
         have ngP5P20 : g0 + 1 ≠ g18 := by omega
         have ngP6P20 : g0 + 1 + 1 ≠ g18 := by omega
         have ngP7P20 : g0 + 1 + 1 + 1 ≠ g18 := by omega
         have ngP8P20 : g0 + 1 + 1 + 1 + 1 ≠ g18 := by omega
         have ngP9P20 : g0 + 1 + 1 + 1 + 1 + 1 ≠ g18 := by omega
         have ngP10P20 : g3 ≠ g18 := by omega
         have ngP11P20 : g3 + 1 ≠ g18 := by omega
         have ngP13P20 : g8 ≠ g18 := by omega
         have ngP15P20 : g12 ≠ g18 := by omega
         have ngP16P20 : g12 + 1 ≠ g18 := by omega
         have ngP18P20 : g15 ≠ g18 := by omega
         obtain ⟨xP50, xP51, xP52, xP53, xP54, -⟩ := five_cells P5; obtain ⟨xP70, xP71, xP72, xP73, xP74, -⟩ := five_cells P7; obtain ⟨xP160, xP161, xP162, xP163, xP164, -⟩ := five_cells P16; obtain ⟨xP200, xP201, xP202, xP203, xP204, -⟩ := five_cells P20
         go_upto_region 11 with (go_at_call 73; (with_reducible refine (kR.out _).mono ?_); rintro e w19 ⟨rfl, hE⟩; clear xP50 xP51 xP52 xP53 xP54 xP70 xP71 xP72 xP73 xP74 xP160 xP161 xP162 xP163 xP164 xP200 xP201 xP202 xP203 xP204; have P4 := P4.ext hE; have P5 := P5.ext hE; have P6 := P6.ext hE; have P7 := P7.ext hE; have P8 := P8.ext hE; have P9 := P9.ext hE; have P10 := P10.ext hE; have P11 := P11.ext hE; have P13 := P13.ext hE; have P15 := P15.ext hE; have P16 := P16.ext hE; have P18 := P18.ext hE; have P20 := P20.ext hE; have EE := hide (EE.out.trans hE); clear hE; obtain ⟨xP50, xP51, xP52, xP53, xP54, -⟩ := five_cells P5; obtain ⟨xP70, xP71, xP72, xP73, xP74, -⟩ := five_cells P7; obtain ⟨xP160, xP161, xP162, xP163, xP164, -⟩ := five_cells P16; obtain ⟨xP200, xP201, xP202, xP203, xP204, -⟩ := five_cells P20)
         clear xP50 xP51 xP52 xP53 xP54 xP70 xP71 xP72 xP73 xP74 xP160 xP161 xP162 xP163 xP164 xP200 xP201 xP202 xP203 xP204
         have H2 := two_blocks w19 (.cells #[.bool (sg m), .int .u64 (l0 m : Int), .int .u64 (l1 m : Int), .int .u64 (l2 m : Int), .int .u64 (l3 m : Int)] 25) (.cells #[.bool (sg m'), .int .u64 (l0 m' : Int), .int .u64 (l1 m' : Int), .int .u64 (l2 m' : Int), .int .u64 (l3 m' : Int)] 25)
         have lP4 := P4.lt
         have lP5 := P5.lt
         have lP6 := P6.lt
         have lP7 := P7.lt
         have lP8 := P8.lt
         have lP9 := P9.lt
         have lP10 := P10.lt
         have lP11 := P11.lt
         have lP13 := P13.lt
         have lP15 := P15.lt
         have lP16 := P16.lt
         have lP18 := P18.lt
         have lP20 := P20.lt
         have hE := ((ext_alloc w19 (.cells #[.bool (sg m), .int .u64 (l0 m : Int), .int .u64 (l1 m : Int), .int .u64 (l2 m : Int), .int .u64 (l3 m : Int)] 25)).trans (ext_alloc _ (.cells #[.bool (sg m'), .int .u64 (l0 m' : Int), .int .u64 (l1 m' : Int), .int .u64 (l2 m' : Int), .int .u64 (l3 m' : Int)] 25)))
         have P4 := P4.ext hE
         have P5 := P5.ext hE
         have P6 := P6.ext hE
         have P7 := P7.ext hE
         have P8 := P8.ext hE
         have P9 := P9.ext hE
         have P10 := P10.ext hE
         have P11 := P11.ext hE
         have P13 := P13.ext hE
         have P15 := P15.ext hE
         have P16 := P16.ext hE
         have P18 := P18.ext hE
         have P20 := P20.ext hE
         have EE := hide (EE.out.trans hE)
         clear hE
         obtain ⟨W20, hW⟩ : ∃ W, W = ((w19.alloc (.cells #[.bool (sg m), .int .u64 (l0 m : Int), .int .u64 (l1 m : Int), .int .u64 (l2 m : Int), .int .u64 (l3 m : Int)] 25)).alloc (.cells #[.bool (sg m'), .int .u64 (l0 m' : Int), .int .u64 (l1 m' : Int), .int .u64 (l2 m' : Int), .int .u64 (l3 m' : Int)] 25)) := ⟨_, rfl⟩
         rw [← hW] at H2 EE P4 P5 P6 P7 P8 P9 P10 P11 P13 P15 P16 P18 P20 ⊢
         obtain ⟨g21, hg⟩ : ∃ g, w19.heap.size = g := ⟨_, rfl⟩
         rw [hg] at H2 lP4 lP5 lP6 lP7 lP8 lP9 lP10 lP11 lP13 lP15 lP16 lP18 lP20 ⊢
         obtain ⟨P22, P23⟩ : Box W20 g21 (sg m) (l0 m) (l1 m) (l2 m) (l3 m) ∧ Box W20 (g21 + 1) (sg m') (l0 m') (l1 m') (l2 m') (l3 m') := H2
         clear hW hg
         have ngP4P22 : g0 ≠ g21 := by omega
         have ngP4P23 : g0 ≠ g21 + 1 := by omega
         have ngP5P22 : g0 + 1 ≠ g21 := by omega
         have ngP5P23 : g0 + 1 ≠ g21 + 1 := by omega
         have ngP6P22 : g0 + 1 + 1 ≠ g21 := by omega
         have ngP6P23 : g0 + 1 + 1 ≠ g21 + 1 := by omega
         have ngP7P22 : g0 + 1 + 1 + 1 ≠ g21 := by omega
         have ngP7P23 : g0 + 1 + 1 + 1 ≠ g21 + 1 := by omega
         have ngP8P22 : g0 + 1 + 1 + 1 + 1 ≠ g21 := by omega
         have ngP8P23 : g0 + 1 + 1 + 1 + 1 ≠ g21 + 1 := by omega
         have ngP9P22 : g0 + 1 + 1 + 1 + 1 + 1 ≠ g21 := by omega
         have ngP9P23 : g0 + 1 + 1 + 1 + 1 + 1 ≠ g21 + 1 := by omega
         have ngP10P22 : g3 ≠ g21 := by omega
         have ngP10P23 : g3 ≠ g21 + 1 := by omega
         have ngP11P22 : g3 + 1 ≠ g21 := by omega
         have ngP11P23 : g3 + 1 ≠ g21 + 1 := by omega
         have ngP13P22 : g8 ≠ g21 := by omega
         have ngP13P23 : g8 ≠ g21 + 1 := by omega
         have ngP15P22 : g12 ≠ g21 := by omega
         have ngP15P23 : g12 ≠ g21 + 1 := by omega
         have ngP16P22 : g12 + 1 ≠ g21 := by omega
         have ngP16P23 : g12 + 1 ≠ g21 + 1 := by omega
         have ngP18P22 : g15 ≠ g21 := by omega
         have ngP18P23 : g15 ≠ g21 + 1 := by omega
         have ngP20P22 : g18 ≠ g21 := by omega
         have ngP20P23 : g18 ≠ g21 + 1 := by omega
         obtain ⟨xP150, xP151, xP152, xP153, xP154, -⟩ := five_cells P15; obtain ⟨xP220, xP221, xP222, xP223, xP224, -⟩ := five_cells P22
         go_upto_region 12 with (go_at_call 28; (with_reducible refine (kP.out _).mono ?_); rintro e w22 ⟨rfl, hE⟩; clear xP150 xP151 xP152 xP153 xP154 xP220 xP221 xP222 xP223 xP224; have P4 := P4.ext hE; have P5 := P5.ext hE; have P6 := P6.ext hE; have P7 := P7.ext hE; have P8 := P8.ext hE; have P9 := P9.ext hE; have P10 := P10.ext hE; have P11 := P11.ext hE; have P13 := P13.ext hE; have P15 := P15.ext hE; have P16 := P16.ext hE; have P18 := P18.ext hE; have P20 := P20.ext hE; have P22 := P22.ext hE; have P23 := P23.ext hE; have EE := hide (EE.out.trans hE); clear hE; obtain ⟨xP150, xP151, xP152, xP153, xP154, -⟩ := five_cells P15; obtain ⟨xP220, xP221, xP222, xP223, xP224, -⟩ := five_cells P22)
         clear xP150 xP151 xP152 xP153 xP154 xP220 xP221 xP222 xP223 xP224
         have H2 := heap_alloc_new w22 (.cells #[.bool (sg p), .int .u64 (l0 p : Int), .int .u64 (l1 p : Int), .int .u64 (l2 p : Int), .int .u64 (l3 p : Int)] 25)
         have lP4 := P4.lt
         have lP5 := P5.lt
         have lP6 := P6.lt
         have lP7 := P7.lt
         have lP8 := P8.lt
         have lP9 := P9.lt
         have lP10 := P10.lt
         have lP11 := P11.lt
         have lP13 := P13.lt
         have lP15 := P15.lt
         have lP16 := P16.lt
         have lP18 := P18.lt
         have lP20 := P20.lt
         have lP22 := P22.lt
         have lP23 := P23.lt
         have hE := (ext_alloc w22 (.cells #[.bool (sg p), .int .u64 (l0 p : Int), .int .u64 (l1 p : Int), .int .u64 (l2 p : Int), .int .u64 (l3 p : Int)] 25))
         have P4 := P4.ext hE
         have P5 := P5.ext hE
         have P6 := P6.ext hE
         have P7 := P7.ext hE
         have P8 := P8.ext hE
         have P9 := P9.ext hE
         have P10 := P10.ext hE
         have P11 := P11.ext hE
         have P13 := P13.ext hE
         have P15 := P15.ext hE
         have P16 := P16.ext hE
         have P18 := P18.ext hE
         have P20 := P20.ext hE
         have P22 := P22.ext hE
         have P23 := P23.ext hE
         have EE := hide (EE.out.trans hE)
         clear hE
         obtain ⟨W23, hW⟩ : ∃ W, W = (w22.alloc (.cells #[.bool (sg p), .int .u64 (l0 p : Int), .int .u64 (l1 p : Int), .int .u64 (l2 p : Int), .int .u64 (l3 p : Int)] 25)) := ⟨_, rfl⟩
         rw [← hW] at H2 EE P4 P5 P6 P7 P8 P9 P10 P11 P13 P15 P16 P18 P20 P22 P23 ⊢
         obtain ⟨g24, hg⟩ : ∃ g, w22.heap.size = g := ⟨_, rfl⟩
         rw [hg] at H2 lP4 lP5 lP6 lP7 lP8 lP9 lP10 lP11 lP13 lP15 lP16 lP18 lP20 lP22 lP23 ⊢
         have P24 : Box W23 g24 (sg p) (l0 p) (l1 p) (l2 p) (l3 p) := H2
         clear hW hg
         have ngP4P24 : g0 ≠ g24 := by omega
         have ngP5P24 : g0 + 1 ≠ g24 := by omega
         have ngP6P24 : g0 + 1 + 1 ≠ g24 := by omega
         have ngP7P24 : g0 + 1 + 1 + 1 ≠ g24 := by omega
         have ngP8P24 : g0 + 1 + 1 + 1 + 1 ≠ g24 := by omega
         have ngP9P24 : g0 + 1 + 1 + 1 + 1 + 1 ≠ g24 := by omega
         have ngP10P24 : g3 ≠ g24 := by omega
         have ngP11P24 : g3 + 1 ≠ g24 := by omega
         have ngP13P24 : g8 ≠ g24 := by omega
         have ngP15P24 : g12 ≠ g24 := by omega
         have ngP16P24 : g12 + 1 ≠ g24 := by omega
         have ngP18P24 : g15 ≠ g24 := by omega
         have ngP20P24 : g18 ≠ g24 := by omega
         have ngP22P24 : g21 ≠ g24 := by omega
         have ngP23P24 : g21 + 1 ≠ g24 := by omega
         obtain ⟨xP230, xP231, xP232, xP233, xP234, -⟩ := five_cells P23; obtain ⟨xP240, xP241, xP242, xP243, xP244, xP24f0, xP24f1, xP24f2, xP24f3, xP24f4⟩ := five_cells P24
         go_upto_region 13 with (go_at_call 90; (with_reducible refine (kN.out _).mono ?_); rintro e w25 ⟨rfl, hE⟩; clear xP230 xP231 xP232 xP233 xP234; clear xP240 xP241 xP242 xP243 xP244 xP24f0 xP24f1 xP24f2 xP24f3 xP24f4; have P4 := P4.ext hE; have P5 := P5.ext hE; have P6 := P6.ext hE; have P7 := P7.ext hE; have P8 := P8.ext hE; have P9 := P9.ext hE; have P10 := P10.ext hE; have P11 := P11.ext hE; have P13 := P13.ext hE; have P15 := P15.ext hE; have P16 := P16.ext hE; have P18 := P18.ext hE; have P20 := P20.ext hE; have P22 := P22.ext hE; have P23 := P23.ext hE; have P24 := P24.ext hE; have EE := hide (EE.out.trans hE); clear hE; obtain ⟨xP230, xP231, xP232, xP233, xP234, -⟩ := five_cells P23; obtain ⟨xP240, xP241, xP242, xP243, xP244, xP24f0, xP24f1, xP24f2, xP24f3, xP24f4⟩ := five_cells P24)
         clear xP230 xP231 xP232 xP233 xP234; clear xP240 xP241 xP242 xP243 xP244 xP24f0 xP24f1 xP24f2 xP24f3 xP24f4
         have hn : g0 ≠ g24 := by omega
         have P4 := P4.far hn (.bool (sg n)) (.int .u64 (l0 n : Int)) (.int .u64 (l1 n : Int)) (.int .u64 (l2 n : Int)) (.int .u64 (l3 n : Int))
         clear hn
         have hn : g0 + 1 ≠ g24 := by omega
         have P5 := P5.far hn (.bool (sg n)) (.int .u64 (l0 n : Int)) (.int .u64 (l1 n : Int)) (.int .u64 (l2 n : Int)) (.int .u64 (l3 n : Int))
         clear hn
         have hn : g0 + 1 + 1 ≠ g24 := by omega
         have P6 := P6.far hn (.bool (sg n)) (.int .u64 (l0 n : Int)) (.int .u64 (l1 n : Int)) (.int .u64 (l2 n : Int)) (.int .u64 (l3 n : Int))
         clear hn
         have hn : g0 + 1 + 1 + 1 ≠ g24 := by omega
         have P7 := P7.far hn (.bool (sg n)) (.int .u64 (l0 n : Int)) (.int .u64 (l1 n : Int)) (.int .u64 (l2 n : Int)) (.int .u64 (l3 n : Int))
         clear hn
         have hn : g0 + 1 + 1 + 1 + 1 ≠ g24 := by omega
         have P8 := P8.far hn (.bool (sg n)) (.int .u64 (l0 n : Int)) (.int .u64 (l1 n : Int)) (.int .u64 (l2 n : Int)) (.int .u64 (l3 n : Int))
         clear hn
         have hn : g0 + 1 + 1 + 1 + 1 + 1 ≠ g24 := by omega
         have P9 := P9.far hn (.bool (sg n)) (.int .u64 (l0 n : Int)) (.int .u64 (l1 n : Int)) (.int .u64 (l2 n : Int)) (.int .u64 (l3 n : Int))
         clear hn
         have hn : g3 ≠ g24 := by omega
         have P10 := P10.far hn (.bool (sg n)) (.int .u64 (l0 n : Int)) (.int .u64 (l1 n : Int)) (.int .u64 (l2 n : Int)) (.int .u64 (l3 n : Int))
         clear hn
         have hn : g3 + 1 ≠ g24 := by omega
         have P11 := P11.far hn (.bool (sg n)) (.int .u64 (l0 n : Int)) (.int .u64 (l1 n : Int)) (.int .u64 (l2 n : Int)) (.int .u64 (l3 n : Int))
         clear hn
         have hn : g8 ≠ g24 := by omega
         have P13 := P13.far hn (.bool (sg n)) (.int .u64 (l0 n : Int)) (.int .u64 (l1 n : Int)) (.int .u64 (l2 n : Int)) (.int .u64 (l3 n : Int))
         clear hn
         have hn : g12 ≠ g24 := by omega
         have P15 := P15.far hn (.bool (sg n)) (.int .u64 (l0 n : Int)) (.int .u64 (l1 n : Int)) (.int .u64 (l2 n : Int)) (.int .u64 (l3 n : Int))
         clear hn
         have hn : g12 + 1 ≠ g24 := by omega
         have P16 := P16.far hn (.bool (sg n)) (.int .u64 (l0 n : Int)) (.int .u64 (l1 n : Int)) (.int .u64 (l2 n : Int)) (.int .u64 (l3 n : Int))
         clear hn
         have hn : g15 ≠ g24 := by omega
         have P18 := P18.far hn (.bool (sg n)) (.int .u64 (l0 n : Int)) (.int .u64 (l1 n : Int)) (.int .u64 (l2 n : Int)) (.int .u64 (l3 n : Int))
         clear hn
         have hn : g18 ≠ g24 := by omega
         have P20 := P20.far hn (.bool (sg n)) (.int .u64 (l0 n : Int)) (.int .u64 (l1 n : Int)) (.int .u64 (l2 n : Int)) (.int .u64 (l3 n : Int))
         clear hn
         have hn : g21 ≠ g24 := by omega
         have P22 := P22.far hn (.bool (sg n)) (.int .u64 (l0 n : Int)) (.int .u64 (l1 n : Int)) (.int .u64 (l2 n : Int)) (.int .u64 (l3 n : Int))
         clear hn
         have hn : g21 + 1 ≠ g24 := by omega
         have P23 := P23.far hn (.bool (sg n)) (.int .u64 (l0 n : Int)) (.int .u64 (l1 n : Int)) (.int .u64 (l2 n : Int)) (.int .u64 (l3 n : Int))
         clear hn
         have P24 := P24.put (t := sg n) (a' := l0 n) (b' := l1 n) (c' := l2 n) (d' := l3 n)
         have EE := hide (ext_five EE.out (b := g24) (by omega) (.bool (sg n)) (.int .u64 (l0 n : Int)) (.int .u64 (l1 n : Int)) (.int .u64 (l2 n : Int)) (.int .u64 (l3 n : Int)))
         obtain ⟨W26, hW⟩ : ∃ W, W = (((((w25.setCell ⟨g24, 0, none⟩ (.bool (sg n))).setCell ⟨g24, 1, none⟩ (.int .u64 (l0 n : Int))).setCell ⟨g24, 2, none⟩ (.int .u64 (l1 n : Int))).setCell ⟨g24, 3, none⟩ (.int .u64 (l2 n : Int))).setCell ⟨g24, 4, none⟩ (.int .u64 (l3 n : Int))) := ⟨_, rfl⟩
         rw [← hW] at EE P4 P5 P6 P7 P8 P9 P10 P11 P13 P15 P16 P18 P20 P22 P23 P24 ⊢
         clear hW
         have lbP4 := P4.lt
         have lbP5 := P5.lt
         have lbP6 := P6.lt
         have lbP7 := P7.lt
         have lbP8 := P8.lt
         have lbP9 := P9.lt
         have lbP10 := P10.lt
         have lbP11 := P11.lt
         have lbP13 := P13.lt
         have lbP15 := P15.lt
         have lbP16 := P16.lt
         have lbP18 := P18.lt
         have lbP20 := P20.lt
         have lbP22 := P22.lt
         have lbP23 := P23.lt
         have lbP24 := P24.lt
         have ltW0 : ∀ c, Tag.so c ∈ [.q, .q, .so 0, .so 1] → (fun i => match i with | 0 => g0 + 1 + 1 + 1 + 1 | _ => g0 + 1 + 1 + 1 + 1 + 1) c < W26.heap.size := by intro c hc; simp at hc; rcases hc with rfl | rfl <;> (try simp only) <;> omega
         refine wp_decl [.q, .q, .so 0, .so 1] [.agg #[.bool (sg n), .int .u64 (l0 n : Int), .int .u64 (l1 n : Int), .int .u64 (l2 n : Int), .int .u64 (l3 n : Int)], .agg #[.bool (sg m), .int .u64 (l0 m : Int), .int .u64 (l1 m : Int), .int .u64 (l2 m : Int), .int .u64 (l3 m : Int)], undef, undef] (fun _ => (.cells #[.bool false, .int .u64 0, .int .u64 0, .int .u64 0, .int .u64 0] 25 (0, 0))) (fun i => match i with | 2 => (.cells #[.bool (sg n), .int .u64 (l0 n : Int), .int .u64 (l1 n : Int), .int .u64 (l2 n : Int), .int .u64 (l3 n : Int)] 25 (0, 0)) | _ => (.cells #[.bool (sg m), .int .u64 (l0 m : Int), .int .u64 (l1 m : Int), .int .u64 (l2 m : Int), .int .u64 (l3 m : Int)] 25 (0, 0))) (fun i => match i with | 0 => g0 + 1 + 1 + 1 + 1 | _ => g0 + 1 + 1 + 1 + 1 + 1) (by kernel_rfl) (by kernel_rfl) (by kernel_rfl) rfl rfl ltW0 (by intro c c' h1 h2 h3; simp at h1 h2; rcases h1 with rfl | rfl <;> rcases h2 with rfl | rfl <;> simp only at h3 <;> omega) ?_ ?_
         · refine ⟨?_, ?_, ?_, ?_, trivial⟩
           · refine op_q ?uvn15 ?h1n15 ?h2n15 ?h3n15
             case h1n15 => exact rfl
             case uvn15 => exact (.agg #[.bool (sg n), .int .u64 (l0 n : Int), .int .u64 (l1 n : Int), .int .u64 (l2 n : Int), .int .u64 (l3 n : Int)])
             case h2n15 => exact rfl
             intro w' hw'
             have P24 := P24.same hw' (by intro c hc; simp at hc; rcases hc with rfl | rfl <;> (try simp only) <;> omega)
             have xP24 := five_cells P24
             go_simp
           · refine op_q ?uvn16 ?h1n16 ?h2n16 ?h3n16
             case h1n16 => exact rfl
             case uvn16 => exact (.agg #[.bool (sg m), .int .u64 (l0 m : Int), .int .u64 (l1 m : Int), .int .u64 (l2 m : Int), .int .u64 (l3 m : Int)])
             case h2n16 => exact rfl
             intro w' hw'
             have P22 := P22.same hw' (by intro c hc; simp at hc; rcases hc with rfl | rfl <;> (try simp only) <;> omega)
             have xP22 := five_cells P22
             go_simp
           · refine op_so (c := 0) (T := ?uTn17) (p := ?upn17) (x := ?uxn17) ?ugn17 ?ufn17 ?uvn17 ?h1n17 ?h2n17 ?h3n17 ?h4n17 ?h5n17 ?h6n17 ?h7n17
             case h1n17 => exact rfl
             case h2n17 => exact rfl
             case ufn17 => exact (.cells #[.bool (sg n), .int .u64 (l0 n : Int), .int .u64 (l1 n : Int), .int .u64 (l2 n : Int), .int .u64 (l3 n : Int)] 25 (0, 0))
             case ugn17 => exact g0 + 1 + 1 + 1 + 1
             case uvn17 => exact (.agg #[.bool (sg n), .int .u64 (l0 n : Int), .int .u64 (l1 n : Int), .int .u64 (l2 n : Int), .int .u64 (l3 n : Int)])
             case h3n17 => exact rfl
             case h4n17 => exact rfl
             case h5n17 => go_simp; rfl
             case h6n17 => go_simp
             intro ρ w' hp hx hz
             exact store_wide rfl hp hx (hz.trans P8)
           · refine op_so (c := 1) (T := ?uTn18) (p := ?upn18) (x := ?uxn18) ?ugn18 ?ufn18 ?uvn18 ?h1n18 ?h2n18 ?h3n18 ?h4n18 ?h5n18 ?h6n18 ?h7n18
             case h1n18 => exact rfl
             case h2n18 => exact rfl
             case ufn18 => exact (.cells #[.bool (sg m), .int .u64 (l0 m : Int), .int .u64 (l1 m : Int), .int .u64 (l2 m : Int), .int .u64 (l3 m : Int)] 25 (0, 0))
             case ugn18 => exact g0 + 1 + 1 + 1 + 1 + 1
             case uvn18 => exact (.agg #[.bool (sg m), .int .u64 (l0 m : Int), .int .u64 (l1 m : Int), .int .u64 (l2 m : Int), .int .u64 (l3 m : Int)])
             case h3n18 => exact rfl
             case h4n18 => exact rfl
             case h5n18 => go_simp; rfl
             case h6n18 => go_simp
             intro ρ w' hp hx hz
             exact store_wide rfl hp hx (hz.trans P9)
         · intro G W27 hI
           have hS := hI.same
           have P4 := P4.same hS (by intro c hc; simp at hc; rcases hc with rfl | rfl <;> (try simp only) <;> omega)
           have P5 := P5.same hS (by intro c hc; simp at hc; rcases hc with rfl | rfl <;> (try simp only) <;> omega)
           have P6 := P6.same hS (by intro c hc; simp at hc; rcases hc with rfl | rfl <;> (try simp only) <;> omega)
           have P7 := P7.same hS (by intro c hc; simp at hc; rcases hc with rfl | rfl <;> (try simp only) <;> omega)
           have P10 := P10.same hS (by intro c hc; simp at hc; rcases hc with rfl | rfl <;> (try simp only) <;> omega)
           have P11 := P11.same hS (by intro c hc; simp at hc; rcases hc with rfl | rfl <;> (try simp only) <;> omega)
           have P13 := P13.same hS (by intro c hc; simp at hc; rcases hc with rfl | rfl <;> (try simp only) <;> omega)
           have P15 := P15.same hS (by intro c hc; simp at hc; rcases hc with rfl | rfl <;> (try simp only) <;> omega)
           have P16 := P16.same hS (by intro c hc; simp at hc; rcases hc with rfl | rfl <;> (try simp only) <;> omega)
           have P18 := P18.same hS (by intro c hc; simp at hc; rcases hc with rfl | rfl <;> (try simp only) <;> omega)
           have P20 := P20.same hS (by intro c hc; simp at hc; rcases hc with rfl | rfl <;> (try simp only) <;> omega)
           have P22 := P22.same hS (by intro c hc; simp at hc; rcases hc with rfl | rfl <;> (try simp only) <;> omega)
           have P23 := P23.same hS (by intro c hc; simp at hc; rcases hc with rfl | rfl <;> (try simp only) <;> omega)
           have P24 := P24.same hS (by intro c hc; simp at hc; rcases hc with rfl | rfl <;> (try simp only) <;> omega)
           have hso : ∀ c, Tag.so c ∈ [.q, .q, .so 0, .so 1] → w.heap.size ≤ (fun i => match i with | 0 => g0 + 1 + 1 + 1 + 1 | _ => g0 + 1 + 1 + 1 + 1 + 1) c := by intro c hc; simp at hc; rcases hc with rfl | rfl <;> (try simp only) <;> omega
           have EE := hide (hS.ext' EE.out hso)
           have P8 : Box W27 (g0 + 1 + 1 + 1 + 1) (sg n) (l0 n) (l1 n) (l2 n) (l3 n) := hI.olds' 2 (List.mem_range.2 (show 2 < 4 by decide)) 0 rfl
           have P9 : Box W27 (g0 + 1 + 1 + 1 + 1 + 1) (sg m) (l0 m) (l1 m) (l2 m) (l3 m) := hI.olds' 3 (List.mem_range.2 (show 3 < 4 by decide)) 1 rfl
           clear hI hS
           simp only [putAll, slotV, ptrTo, Nat.zero_add, Nat.reduceAdd]
           go_wp2_with fail
           obtain ⟨xP80, xP81, xP82, xP83, xP84, xP8f0, xP8f1, xP8f2, xP8f3, xP8f4⟩ := five_cells P8; obtain ⟨xP90, xP91, xP92, xP93, xP94, xP9f0, xP9f1, xP9f2, xP9f3, xP9f4⟩ := five_cells P9
           exact bodyPost_ret (v := .tuple #[.agg #[.bool (sg n), .int .u64 (l0 n : Int), .int .u64 (l1 n : Int), .int .u64 (l2 n : Int), .int .u64 (l3 n : Int)], .agg #[.bool (sg m), .int .u64 (l0 m : Int), .int .u64 (l1 m : Int), .int .u64 (l2 m : Int), .int .u64 (l3 m : Int)]]) (by simp [results, Tryz.results73, go_sem, xP80, xP81, xP82, xP83, xP84, xP90, xP91, xP92, xP93, xP94]) rfl ⟨rfl, EE.out⟩
     · have hqp : a / b ≠ c / d := by rw [hq]; exact h1
       have hvc : v ≤ c := hpos.2 hqp
       have hj0 : j ≤ 0 := by rcases Int.lt_or_le 0 j with h | h; · have := (cmpI_lt hj).2.2.1 h; omega
                              · exact h
       obtain ⟨en, em⟩ := Best.unique hb hd B (best_next ha hb hd hle hr0 hqp)
       rw [hq, hu] at en
       subst en em
       clear hq hr q0 qa r0 rb fa fb fc fd fq fr BS n0 m0 c0 fbig hk ha hb hd hle sa sb sc sd B hr0 h0 h1 hpos hqp hvc hu fu f1 hv fv hj
       obtain ⟨W0, hW0⟩ : ∃ W0, W0 = ((((((w.alloc (.cells #[.bool (sg a), .int .u64 (l0 a : Int), .int .u64 (l1 a : Int), .int .u64 (l2 a : Int), .int .u64 (l3 a : Int)] 25)).alloc (.cells #[.bool (sg b), .int .u64 (l0 b : Int), .int .u64 (l1 b : Int), .int .u64 (l2 b : Int), .int .u64 (l3 b : Int)] 25)).alloc (.cells #[.bool (sg c), .int .u64 (l0 c : Int), .int .u64 (l1 c : Int), .int .u64 (l2 c : Int), .int .u64 (l3 c : Int)] 25)).alloc (.cells #[.bool (sg d), .int .u64 (l0 d : Int), .int .u64 (l1 d : Int), .int .u64 (l2 d : Int), .int .u64 (l3 d : Int)] 25)).alloc (.cells #[.bool false, .int .u64 0, .int .u64 0, .int .u64 0, .int .u64 0] 25)).alloc (.cells #[.bool false, .int .u64 0, .int .u64 0, .int .u64 0, .int .u64 0] 25)) := ⟨_, rfl⟩
       have H2 := six_objs w (.cells #[.bool (sg a), .int .u64 (l0 a : Int), .int .u64 (l1 a : Int), .int .u64 (l2 a : Int), .int .u64 (l3 a : Int)] 25) (.cells #[.bool (sg b), .int .u64 (l0 b : Int), .int .u64 (l1 b : Int), .int .u64 (l2 b : Int), .int .u64 (l3 b : Int)] 25) (.cells #[.bool (sg c), .int .u64 (l0 c : Int), .int .u64 (l1 c : Int), .int .u64 (l2 c : Int), .int .u64 (l3 c : Int)] 25) (.cells #[.bool (sg d), .int .u64 (l0 d : Int), .int .u64 (l1 d : Int), .int .u64 (l2 d : Int), .int .u64 (l3 d : Int)] 25) (.cells #[.bool false, .int .u64 0, .int .u64 0, .int .u64 0, .int .u64 0] 25) (.cells #[.bool false, .int .u64 0, .int .u64 0, .int .u64 0, .int .u64 0] 25)
       have EE0 : Ext w W0 := by rw [hW0]; exact ((((((ext_alloc _ _).trans (ext_alloc _ _)).trans (ext_alloc _ _)).trans (ext_alloc _ _)).trans (ext_alloc _ _)).trans (ext_alloc _ _))
       rw [← hW0] at H2
       have EE := hide EE0
       have HW := hide hW0
       obtain ⟨P4, P5, P6, P7, P8, P9⟩ : Box W0 (w.heap.size) (sg a) (l0 a) (l1 a) (l2 a) (l3 a) ∧ Box W0 ((w.heap.size + 1)) (sg b) (l0 b) (l1 b) (l2 b) (l3 b) ∧ Box W0 ((w.heap.size + 1 + 1)) (sg c) (l0 c) (l1 c) (l2 c) (l3 c) ∧ Box W0 ((w.heap.size + 1 + 1 + 1)) (sg d) (l0 d) (l1 d) (l2 d) (l3 d) ∧ Box W0 ((w.heap.size + 1 + 1 + 1 + 1)) false 0 0 0 0 ∧ Box W0 ((w.heap.size + 1 + 1 + 1 + 1 + 1)) false 0 0 0 0 := H2
       clear hW0 EE0
       go_enter Tryz.func73, Tryz.ntmps73
       go_upto_region 1 with fail
       rw [← HW.out]
       clear HW
       have hg0 : w.heap.size ≤ w.heap.size := Nat.le_refl _
       obtain ⟨g0, hg⟩ : ∃ g, w.heap.size = g := ⟨_, rfl⟩
       rw [hg] at P4 P5 P6 P7 P8 P9 ⊢
       replace hg0 : w.heap.size ≤ g0 := Nat.le_of_eq hg
       clear hg
       obtain ⟨xP40, xP41, xP42, xP43, xP44, -⟩ := five_cells P4; obtain ⟨xP50, xP51, xP52, xP53, xP54, -⟩ := five_cells P5
       go_upto_region 2 with (go_at_call 54; (with_reducible refine (kD.out _).mono ?_); rintro e w1 ⟨rfl, hE⟩; clear xP40 xP41 xP42 xP43 xP44 xP50 xP51 xP52 xP53 xP54; have P4 := P4.ext hE; have P5 := P5.ext hE; have P6 := P6.ext hE; have P7 := P7.ext hE; have P8 := P8.ext hE; have P9 := P9.ext hE; have EE := hide (EE.out.trans hE); clear hE; obtain ⟨xP40, xP41, xP42, xP43, xP44, -⟩ := five_cells P4; obtain ⟨xP50, xP51, xP52, xP53, xP54, -⟩ := five_cells P5)
       clear xP40 xP41 xP42 xP43 xP44 xP50 xP51 xP52 xP53 xP54
       have H2 := two_blocks w1 (.cells #[.bool (sg q), .int .u64 (l0 q : Int), .int .u64 (l1 q : Int), .int .u64 (l2 q : Int), .int .u64 (l3 q : Int)] 25) (.cells #[.bool (sg r), .int .u64 (l0 r : Int), .int .u64 (l1 r : Int), .int .u64 (l2 r : Int), .int .u64 (l3 r : Int)] 25)
       have lP4 := P4.lt
       have lP5 := P5.lt
       have lP6 := P6.lt
       have lP7 := P7.lt
       have lP8 := P8.lt
       have lP9 := P9.lt
       have hE := ((ext_alloc w1 (.cells #[.bool (sg q), .int .u64 (l0 q : Int), .int .u64 (l1 q : Int), .int .u64 (l2 q : Int), .int .u64 (l3 q : Int)] 25)).trans (ext_alloc _ (.cells #[.bool (sg r), .int .u64 (l0 r : Int), .int .u64 (l1 r : Int), .int .u64 (l2 r : Int), .int .u64 (l3 r : Int)] 25)))
       have P4 := P4.ext hE
       have P5 := P5.ext hE
       have P6 := P6.ext hE
       have P7 := P7.ext hE
       have P8 := P8.ext hE
       have P9 := P9.ext hE
       have EE := hide (EE.out.trans hE)
       clear hE
       obtain ⟨W2, hW⟩ : ∃ W, W = ((w1.alloc (.cells #[.bool (sg q), .int .u64 (l0 q : Int), .int .u64 (l1 q : Int), .int .u64 (l2 q : Int), .int .u64 (l3 q : Int)] 25)).alloc (.cells #[.bool (sg r), .int .u64 (l0 r : Int), .int .u64 (l1 r : Int), .int .u64 (l2 r : Int), .int .u64 (l3 r : Int)] 25)) := ⟨_, rfl⟩
       rw [← hW] at H2 EE P4 P5 P6 P7 P8 P9 ⊢
       obtain ⟨g3, hg⟩ : ∃ g, w1.heap.size = g := ⟨_, rfl⟩
       rw [hg] at H2 lP4 lP5 lP6 lP7 lP8 lP9 ⊢
       obtain ⟨P10, P11⟩ : Box W2 g3 (sg q) (l0 q) (l1 q) (l2 q) (l3 q) ∧ Box W2 (g3 + 1) (sg r) (l0 r) (l1 r) (l2 r) (l3 r) := H2
       clear hW hg
       have ngP4P10 : g0 ≠ g3 := by omega
       have ngP4P11 : g0 ≠ g3 + 1 := by omega
       have ngP5P10 : g0 + 1 ≠ g3 := by omega
       have ngP5P11 : g0 + 1 ≠ g3 + 1 := by omega
       have ngP6P10 : g0 + 1 + 1 ≠ g3 := by omega
       have ngP6P11 : g0 + 1 + 1 ≠ g3 + 1 := by omega
       have ngP7P10 : g0 + 1 + 1 + 1 ≠ g3 := by omega
       have ngP7P11 : g0 + 1 + 1 + 1 ≠ g3 + 1 := by omega
       have ngP8P10 : g0 + 1 + 1 + 1 + 1 ≠ g3 := by omega
       have ngP8P11 : g0 + 1 + 1 + 1 + 1 ≠ g3 + 1 := by omega
       have ngP9P10 : g0 + 1 + 1 + 1 + 1 + 1 ≠ g3 := by omega
       have ngP9P11 : g0 + 1 + 1 + 1 + 1 + 1 ≠ g3 + 1 := by omega
       obtain ⟨xP110, xP111, xP112, xP113, xP114, -⟩ := five_cells P11
       go_upto_region 3 with (go_at_call 51; (with_reducible refine (kS.out _).mono ?_); rintro e w4 ⟨rfl, hE⟩; clear xP110 xP111 xP112 xP113 xP114; have P4 := P4.ext hE; have P5 := P5.ext hE; have P6 := P6.ext hE; have P7 := P7.ext hE; have P8 := P8.ext hE; have P9 := P9.ext hE; have P10 := P10.ext hE; have P11 := P11.ext hE; have EE := hide (EE.out.trans hE); clear hE; obtain ⟨xP110, xP111, xP112, xP113, xP114, -⟩ := five_cells P11)
       clear xP110 xP111 xP112 xP113 xP114
       have lbP4 := P4.lt
       have lbP5 := P5.lt
       have lbP6 := P6.lt
       have lbP7 := P7.lt
       have lbP8 := P8.lt
       have lbP9 := P9.lt
       have lbP10 := P10.lt
       have lbP11 := P11.lt
       have ltW0 : ∀ c, Tag.so c ∈ [.q, .q, .q, .q, .q, .q, .so 0] → (fun _ => g3) c < w4.heap.size := by intro c hc; simp at hc; (try subst hc); (try simp only); omega
       refine wp_decl [.q, .q, .q, .q, .q, .q, .so 0] [.agg #[.bool (sg q), .int .u64 (l0 q : Int), .int .u64 (l1 q : Int), .int .u64 (l2 q : Int), .int .u64 (l3 q : Int)], .agg #[.bool (sg 1), .int .u64 (l0 1 : Int), .int .u64 (l1 1 : Int), .int .u64 (l2 1 : Int), .int .u64 (l3 1 : Int)], .tuple #[.agg #[.bool (sg n), .int .u64 (l0 n : Int), .int .u64 (l1 n : Int), .int .u64 (l2 n : Int), .int .u64 (l3 n : Int)], .bool true], .tuple #[.agg #[.bool (sg n), .int .u64 (l0 n : Int), .int .u64 (l1 n : Int), .int .u64 (l2 n : Int), .int .u64 (l3 n : Int)], .bool true], .agg #[.bool (sg n), .int .u64 (l0 n : Int), .int .u64 (l1 n : Int), .int .u64 (l2 n : Int), .int .u64 (l3 n : Int)], .bool true, undef] (fun _ => (.cells #[.bool false, .int .u64 0, .int .u64 0, .int .u64 0, .int .u64 0] 25 (0, 0))) (fun _ => (.cells #[.bool (sg n), .int .u64 (l0 n : Int), .int .u64 (l1 n : Int), .int .u64 (l2 n : Int), .int .u64 (l3 n : Int)] 25 (0, 0))) (fun _ => g3) (by kernel_rfl) (by kernel_rfl) (by kernel_rfl) rfl rfl ltW0 (by intro c c' h1 h2 _; simp at h1 h2; omega) ?_ ?_
       · refine ⟨?_, ?_, ?_, ?_, ?_, ?_, ?_, trivial⟩
         · refine op_qa ?uvn20 ?h1n20 ?h2n20 ?h3n20
           case h1n20 => exact rfl
           case uvn20 => exact (.agg #[.bool (sg q), .int .u64 (l0 q : Int), .int .u64 (l1 q : Int), .int .u64 (l2 q : Int), .int .u64 (l3 q : Int)])
           case h2n20 => exact rfl
           intro w' hw' ha
           have P10 : Box w' g3 (sg q) (l0 q) (l1 q) (l2 q) (l3 q) := (ha 6 0 rfl (by kernel_rfl)).trans P10
           have xP10 := five_cells P10
           go_simp
         · refine op_q ?uvn21 ?h1n21 ?h2n21 ?h3n21
           case h1n21 => exact rfl
           case uvn21 => exact (.agg #[.bool (sg 1), .int .u64 (l0 1 : Int), .int .u64 (l1 1 : Int), .int .u64 (l2 1 : Int), .int .u64 (l3 1 : Int)])
           case h2n21 => exact rfl
           intro w' hw'
           go_simp
           exact kO.out w'
         · refine op_q ?uvn22 ?h1n22 ?h2n22 ?h3n22
           case h1n22 => exact rfl
           case uvn22 => exact (.tuple #[.agg #[.bool (sg n), .int .u64 (l0 n : Int), .int .u64 (l1 n : Int), .int .u64 (l2 n : Int), .int .u64 (l3 n : Int)], .bool true])
           case h2n22 => exact rfl
           intro w' hw'
           go_simp
           exact kU.out w'
         · refine op_q ?uvn23 ?h1n23 ?h2n23 ?h3n23
           case h1n23 => exact rfl
           case uvn23 => exact (.tuple #[.agg #[.bool (sg n), .int .u64 (l0 n : Int), .int .u64 (l1 n : Int), .int .u64 (l2 n : Int), .int .u64 (l3 n : Int)], .bool true])
           case h2n23 => exact rfl
           intro w' hw'
           go_simp
         · refine op_q ?uvn24 ?h1n24 ?h2n24 ?h3n24
           case h1n24 => exact rfl
           case uvn24 => exact (.agg #[.bool (sg n), .int .u64 (l0 n : Int), .int .u64 (l1 n : Int), .int .u64 (l2 n : Int), .int .u64 (l3 n : Int)])
           case h2n24 => exact rfl
           intro w' hw'
           go_simp
         · refine op_q ?uvn25 ?h1n25 ?h2n25 ?h3n25
           case h1n25 => exact rfl
           case uvn25 => exact (.bool true)
           case h2n25 => exact rfl
           intro w' hw'
           go_simp
         · refine op_so (c := 0) (T := ?uTn26) (p := ?upn26) (x := ?uxn26) ?ugn26 ?ufn26 ?uvn26 ?h1n26 ?h2n26 ?h3n26 ?h4n26 ?h5n26 ?h6n26 ?h7n26
           case h1n26 => exact rfl
           case h2n26 => exact rfl
           case ufn26 => exact (.cells #[.bool (sg n), .int .u64 (l0 n : Int), .int .u64 (l1 n : Int), .int .u64 (l2 n : Int), .int .u64 (l3 n : Int)] 25 (0, 0))
           case ugn26 => exact g3
           case uvn26 => exact (.agg #[.bool (sg n), .int .u64 (l0 n : Int), .int .u64 (l1 n : Int), .int .u64 (l2 n : Int), .int .u64 (l3 n : Int)])
           case h3n26 => exact rfl
           case h4n26 => exact rfl
           case h5n26 => go_simp; rfl
           case h6n26 => go_simp
           intro ρ w' hp hx hz
           exact store_wide rfl hp hx (hz.trans P10)
       · intro G W5 hI
         have hS := hI.same
         have P4 := P4.same hS (by intro c hc; simp at hc; (try subst hc); (try simp only); omega)
         have P5 := P5.same hS (by intro c hc; simp at hc; (try subst hc); (try simp only); omega)
         have P6 := P6.same hS (by intro c hc; simp at hc; (try subst hc); (try simp only); omega)
         have P7 := P7.same hS (by intro c hc; simp at hc; (try subst hc); (try simp only); omega)
         have P8 := P8.same hS (by intro c hc; simp at hc; (try subst hc); (try simp only); omega)
         have P9 := P9.same hS (by intro c hc; simp at hc; (try subst hc); (try simp only); omega)
         have P11 := P11.same hS (by intro c hc; simp at hc; (try subst hc); (try simp only); omega)
         have hso : ∀ c, Tag.so c ∈ [.q, .q, .q, .q, .q, .q, .so 0] → w.heap.size ≤ (fun _ => g3) c := by intro c hc; simp at hc; (try subst hc); (try simp only); omega
         have EE := hide (hS.ext' EE.out hso)
         have P10 : Box W5 g3 (sg n) (l0 n) (l1 n) (l2 n) (l3 n) := hI.olds' 6 (List.mem_range.2 (show 6 < 7 by decide)) 0 rfl
         clear hI hS
         simp only [putAll, slotV, ptrTo, Nat.zero_add, Nat.reduceAdd]
         go_upto_region 4 with fail
         obtain ⟨xP70, xP71, xP72, xP73, xP74, -⟩ := five_cells P7; obtain ⟨xP100, xP101, xP102, xP103, xP104, -⟩ := five_cells P10
         go_upto_region 5 with (go_at_call 28; (with_reducible refine (kM.out _).mono ?_); rintro e w6 ⟨rfl, hE⟩; clear xP70 xP71 xP72 xP73 xP74 xP100 xP101 xP102 xP103 xP104; have P4 := P4.ext hE; have P5 := P5.ext hE; have P6 := P6.ext hE; have P7 := P7.ext hE; have P8 := P8.ext hE; have P9 := P9.ext hE; have P10 := P10.ext hE; have P11 := P11.ext hE; have EE := hide (EE.out.trans hE); clear hE; obtain ⟨xP70, xP71, xP72, xP73, xP74, -⟩ := five_cells P7; obtain ⟨xP100, xP101, xP102, xP103, xP104, -⟩ := five_cells P10)
         clear xP70 xP71 xP72 xP73 xP74 xP100 xP101 xP102 xP103 xP104
         have H2 := heap_alloc_new w6 (.cells #[.bool (sg v), .int .u64 (l0 v : Int), .int .u64 (l1 v : Int), .int .u64 (l2 v : Int), .int .u64 (l3 v : Int)] 25)
         have lP4 := P4.lt
         have lP5 := P5.lt
         have lP6 := P6.lt
         have lP7 := P7.lt
         have lP8 := P8.lt
         have lP9 := P9.lt
         have lP10 := P10.lt
         have lP11 := P11.lt
         have hE := (ext_alloc w6 (.cells #[.bool (sg v), .int .u64 (l0 v : Int), .int .u64 (l1 v : Int), .int .u64 (l2 v : Int), .int .u64 (l3 v : Int)] 25))
         have P4 := P4.ext hE
         have P5 := P5.ext hE
         have P6 := P6.ext hE
         have P7 := P7.ext hE
         have P8 := P8.ext hE
         have P9 := P9.ext hE
         have P10 := P10.ext hE
         have P11 := P11.ext hE
         have EE := hide (EE.out.trans hE)
         clear hE
         obtain ⟨W7, hW⟩ : ∃ W, W = (w6.alloc (.cells #[.bool (sg v), .int .u64 (l0 v : Int), .int .u64 (l1 v : Int), .int .u64 (l2 v : Int), .int .u64 (l3 v : Int)] 25)) := ⟨_, rfl⟩
         rw [← hW] at H2 EE P4 P5 P6 P7 P8 P9 P10 P11 ⊢
         obtain ⟨g8, hg⟩ : ∃ g, w6.heap.size = g := ⟨_, rfl⟩
         rw [hg] at H2 lP4 lP5 lP6 lP7 lP8 lP9 lP10 lP11 ⊢
         have P13 : Box W7 g8 (sg v) (l0 v) (l1 v) (l2 v) (l3 v) := H2
         clear hW hg
         have ngP4P13 : g0 ≠ g8 := by omega
         have ngP5P13 : g0 + 1 ≠ g8 := by omega
         have ngP6P13 : g0 + 1 + 1 ≠ g8 := by omega
         have ngP7P13 : g0 + 1 + 1 + 1 ≠ g8 := by omega
         have ngP8P13 : g0 + 1 + 1 + 1 + 1 ≠ g8 := by omega
         have ngP9P13 : g0 + 1 + 1 + 1 + 1 + 1 ≠ g8 := by omega
         have ngP10P13 : g3 ≠ g8 := by omega
         have ngP11P13 : g3 + 1 ≠ g8 := by omega
         obtain ⟨xP60, xP61, xP62, xP63, xP64, -⟩ := five_cells P6; obtain ⟨xP130, xP131, xP132, xP133, xP134, -⟩ := five_cells P13
         go_upto_region 6 with (go_at_call 31; (with_reducible refine (kC.out _).mono ?_); rintro e w9 ⟨rfl, hE⟩; clear xP60 xP61 xP62 xP63 xP64 xP130 xP131 xP132 xP133 xP134; have P4 := P4.ext hE; have P5 := P5.ext hE; have P6 := P6.ext hE; have P7 := P7.ext hE; have P8 := P8.ext hE; have P9 := P9.ext hE; have P10 := P10.ext hE; have P11 := P11.ext hE; have P13 := P13.ext hE; have EE := hide (EE.out.trans hE); clear hE; obtain ⟨xP60, xP61, xP62, xP63, xP64, -⟩ := five_cells P6; obtain ⟨xP130, xP131, xP132, xP133, xP134, -⟩ := five_cells P13)
         clear xP60 xP61 xP62 xP63 xP64 xP130 xP131 xP132 xP133 xP134
         have lbP4 := P4.lt
         have lbP5 := P5.lt
         have lbP6 := P6.lt
         have lbP7 := P7.lt
         have lbP8 := P8.lt
         have lbP9 := P9.lt
         have lbP10 := P10.lt
         have lbP11 := P11.lt
         have lbP13 := P13.lt
         have ltW0 : ∀ c, Tag.so c ∈ [.q, .q, .so 0, .so 1] → (fun i => match i with | 0 => g0 + 1 + 1 + 1 + 1 | _ => g0 + 1 + 1 + 1 + 1 + 1) c < w9.heap.size := by intro c hc; simp at hc; rcases hc with rfl | rfl <;> (try simp only) <;> omega
         refine wp_decl [.q, .q, .so 0, .so 1] [.agg #[.bool (sg n), .int .u64 (l0 n : Int), .int .u64 (l1 n : Int), .int .u64 (l2 n : Int), .int .u64 (l3 n : Int)], .agg #[.bool (sg 1), .int .u64 (l0 1 : Int), .int .u64 (l1 1 : Int), .int .u64 (l2 1 : Int), .int .u64 (l3 1 : Int)], undef, undef] (fun _ => (.cells #[.bool false, .int .u64 0, .int .u64 0, .int .u64 0, .int .u64 0] 25 (0, 0))) (fun i => match i with | 2 => (.cells #[.bool (sg n), .int .u64 (l0 n : Int), .int .u64 (l1 n : Int), .int .u64 (l2 n : Int), .int .u64 (l3 n : Int)] 25 (0, 0)) | _ => (.cells #[.bool (sg 1), .int .u64 (l0 1 : Int), .int .u64 (l1 1 : Int), .int .u64 (l2 1 : Int), .int .u64 (l3 1 : Int)] 25 (0, 0))) (fun i => match i with | 0 => g0 + 1 + 1 + 1 + 1 | _ => g0 + 1 + 1 + 1 + 1 + 1) (by kernel_rfl) (by kernel_rfl) (by kernel_rfl) rfl rfl ltW0 (by intro c c' h1 h2 h3; simp at h1 h2; rcases h1 with rfl | rfl <;> rcases h2 with rfl | rfl <;> simp only at h3 <;> omega) ?_ ?_
         · refine ⟨?_, ?_, ?_, ?_, trivial⟩
           · refine op_q ?uvn28 ?h1n28 ?h2n28 ?h3n28
             case h1n28 => exact rfl
             case uvn28 => exact (.agg #[.bool (sg n), .int .u64 (l0 n : Int), .int .u64 (l1 n : Int), .int .u64 (l2 n : Int), .int .u64 (l3 n : Int)])
             case h2n28 => exact rfl
             intro w' hw'
             have P10 := P10.same hw' (by intro c hc; simp at hc; rcases hc with rfl | rfl <;> (try simp only) <;> omega)
             have xP10 := five_cells P10
             go_simp
           · refine op_q ?uvn29 ?h1n29 ?h2n29 ?h3n29
             case h1n29 => exact rfl
             case uvn29 => exact (.agg #[.bool (sg 1), .int .u64 (l0 1 : Int), .int .u64 (l1 1 : Int), .int .u64 (l2 1 : Int), .int .u64 (l3 1 : Int)])
             case h2n29 => exact rfl
             intro w' hw'
             go_simp
             exact kO.out w'
           · refine op_so (c := 0) (T := ?uTn30) (p := ?upn30) (x := ?uxn30) ?ugn30 ?ufn30 ?uvn30 ?h1n30 ?h2n30 ?h3n30 ?h4n30 ?h5n30 ?h6n30 ?h7n30
             case h1n30 => exact rfl
             case h2n30 => exact rfl
             case ufn30 => exact (.cells #[.bool (sg n), .int .u64 (l0 n : Int), .int .u64 (l1 n : Int), .int .u64 (l2 n : Int), .int .u64 (l3 n : Int)] 25 (0, 0))
             case ugn30 => exact g0 + 1 + 1 + 1 + 1
             case uvn30 => exact (.agg #[.bool (sg n), .int .u64 (l0 n : Int), .int .u64 (l1 n : Int), .int .u64 (l2 n : Int), .int .u64 (l3 n : Int)])
             case h3n30 => exact rfl
             case h4n30 => exact rfl
             case h5n30 => go_simp; rfl
             case h6n30 => go_simp
             intro ρ w' hp hx hz
             exact store_wide rfl hp hx (hz.trans P8)
           · refine op_so (c := 1) (T := ?uTn31) (p := ?upn31) (x := ?uxn31) ?ugn31 ?ufn31 ?uvn31 ?h1n31 ?h2n31 ?h3n31 ?h4n31 ?h5n31 ?h6n31 ?h7n31
             case h1n31 => exact rfl
             case h2n31 => exact rfl
             case ufn31 => exact (.cells #[.bool (sg 1), .int .u64 (l0 1 : Int), .int .u64 (l1 1 : Int), .int .u64 (l2 1 : Int), .int .u64 (l3 1 : Int)] 25 (0, 0))
             case ugn31 => exact g0 + 1 + 1 + 1 + 1 + 1
             case uvn31 => exact (.agg #[.bool (sg 1), .int .u64 (l0 1 : Int), .int .u64 (l1 1 : Int), .int .u64 (l2 1 : Int), .int .u64 (l3 1 : Int)])
             case h3n31 => exact rfl
             case h4n31 => exact rfl
             case h5n31 => go_simp; rfl
             case h6n31 => go_simp
             intro ρ w' hp hx hz
             exact store_wide rfl hp hx (hz.trans P9)
         · intro G W10 hI
           have hS := hI.same
           have P4 := P4.same hS (by intro c hc; simp at hc; rcases hc with rfl | rfl <;> (try simp only) <;> omega)
           have P5 := P5.same hS (by intro c hc; simp at hc; rcases hc with rfl | rfl <;> (try simp only) <;> omega)
           have P6 := P6.same hS (by intro c hc; simp at hc; rcases hc with rfl | rfl <;> (try simp only) <;> omega)
           have P7 := P7.same hS (by intro c hc; simp at hc; rcases hc with rfl | rfl <;> (try simp only) <;> omega)
           have P10 := P10.same hS (by intro c hc; simp at hc; rcases hc with rfl | rfl <;> (try simp only) <;> omega)
           have P11 := P11.same hS (by intro c hc; simp at hc; rcases hc with rfl | rfl <;> (try simp only) <;> omega)
           have P13 := P13.same hS (by intro c hc; simp at hc; rcases hc with rfl | rfl <;> (try simp only) <;> omega)
           have hso : ∀ c, Tag.so c ∈ [.q, .q, .so 0, .so 1] → w.heap.size ≤ (fun i => match i with | 0 => g0 + 1 + 1 + 1 + 1 | _ => g0 + 1 + 1 + 1 + 1 + 1) c := by intro c hc; simp at hc; rcases hc with rfl | rfl <;> (try simp only) <;> omega
           have EE := hide (hS.ext' EE.out hso)
           have P8 : Box W10 (g0 + 1 + 1 + 1 + 1) (sg n) (l0 n) (l1 n) (l2 n) (l3 n) := hI.olds' 2 (List.mem_range.2 (show 2 < 4 by decide)) 0 rfl
           have P9 : Box W10 (g0 + 1 + 1 + 1 + 1 + 1) (sg 1) (l0 1) (l1 1) (l2 1) (l3 1) := hI.olds' 3 (List.mem_range.2 (show 3 < 4 by decide)) 1 rfl
           clear hI hS
           simp only [putAll, slotV, ptrTo, Nat.zero_add, Nat.reduceAdd]
           go_wp2_with fail
           obtain ⟨xP80, xP81, xP82, xP83, xP84, xP8f0, xP8f1, xP8f2, xP8f3, xP8f4⟩ := five_cells P8; obtain ⟨xP90, xP91, xP92, xP93, xP94, xP9f0, xP9f1, xP9f2, xP9f3, xP9f4⟩ := five_cells P9
           exact bodyPost_ret (v := .tuple #[.agg #[.bool (sg n), .int .u64 (l0 n : Int), .int .u64 (l1 n : Int), .int .u64 (l2 n : Int), .int .u64 (l3 n : Int)], .agg #[.bool (sg 1), .int .u64 (l0 1 : Int), .int .u64 (l1 1 : Int), .int .u64 (l2 1 : Int), .int .u64 (l3 1 : Int)]]) (by simp [results, Tryz.results73, go_sem, xP80, xP81, xP82, xP83, xP84, xP90, xP91, xP92, xP93, xP94]) rfl ⟨rfl, EE.out⟩
end
end Go.Proofs.YthlbkidgdngblaaGreat
