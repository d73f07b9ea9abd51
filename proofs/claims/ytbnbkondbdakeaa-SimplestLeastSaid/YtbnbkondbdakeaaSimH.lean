/- The simplest fraction: the reference of layer 4: Between. Conditions: the numbers fit. -/
import Derived.Test.YtbnbkondbdakeaaSimE
import Derived.Test.YtbnbkondbdakeaaSimF
namespace Go.Proofs.Ytbnbkondbdakeaa
set_option linter.unusedVariables false
set_option linter.unusedSimpArgs false
open Go Go.RowKit Go.Sort
attribute [local go_sem] qUpon putAll slotV
theorem set5 (v0 v1 v2 v3 v4 v5 v6 v7 v8 v9 u0 u1 u2 u3 u4 : Value) : (((((#[v0, v1, v2, v3, v4, v5, v6, v7, v8, v9] : Array Value).setIfInBounds 0 u0).setIfInBounds 1 u1).setIfInBounds 2 u2).setIfInBounds 3 u3).setIfInBounds 4 u4 = #[u0, u1, u2, u3, u4, v5, v6, v7, v8, v9] := by
  apply Array.ext'
  simp only [Array.toList_setIfInBounds, List.set_cons_zero, List.set_cons_succ]
/-- A Wide is stored into a fraction's numerator. -/
theorem Box10.num {w : World} {k : Nat} {s : Bool} {a b c d : Nat} {t : Bool} {e f g h : Nat} {s' : Bool} {a' b' c' d' : Nat} (x : Box10 w k s a b c d t e f g h) : Box10 (((((w.setCell ⟨k, 0, none⟩ (.bool s')).setCell ⟨k, 1, none⟩ (.int .u64 (a' : Int))).setCell ⟨k, 2, none⟩ (.int .u64 (b' : Int))).setCell ⟨k, 3, none⟩ (.int .u64 (c' : Int))).setCell ⟨k, 4, none⟩ (.int .u64 (d' : Int))) k s' a' b' c' d' t e f g h := by
  have y := store_block (store_block (store_block (store_block (store_block x 0 (.bool s')) 1 (.int .u64 (a' : Int))) 2 (.int .u64 (b' : Int))) 3 (.int .u64 (c' : Int))) 4 (.int .u64 (d' : Int))
  rw [set5] at y
  exact y
/-- The store of a Wide fills the numerator of an elder fraction. -/
theorem store_num {ρ : Operand → Value} {o : Oper} {p x : Operand} {w : World} {g : Nat} {s s' t : Bool} {a b c d a' b' c' d' e f h i : Nat} (hop : o.op = .store 25 p x) (hp : ρ p = ptrTo g) (hx : ρ x = .agg #[.bool s, .int .u64 (a : Int), .int .u64 (b : Int), .int .u64 (c : Int), .int .u64 (d : Int)]) (hz : w.heap[g]? = some (.cells #[.bool s', .int .u64 (a' : Int), .int .u64 (b' : Int), .int .u64 (c' : Int), .int .u64 (d' : Int), .bool t, .int .u64 (e : Int), .int .u64 (f : Int), .int .u64 (h : Int), .int .u64 (i : Int)] 35 (0, 0))) :
    Stores Try.prog ρ o w g (.cells #[.bool s, .int .u64 (a : Int), .int .u64 (b : Int), .int .u64 (c : Int), .int .u64 (d : Int), .bool t, .int .u64 (e : Int), .int .u64 (f : Int), .int .u64 (h : Int), .int .u64 (i : Int)] 35 (0, 0)) := by
  have h1 : (execOp ρ o).run Try.prog w = .ok .skip (((((w.setCell ⟨g, 0, none⟩ (.bool s)).setCell ⟨g, 1, none⟩ (.int .u64 (a : Int))).setCell ⟨g, 2, none⟩ (.int .u64 (b : Int))).setCell ⟨g, 3, none⟩ (.int .u64 (c : Int))).setCell ⟨g, 4, none⟩ (.int .u64 (d : Int))) := by
    refine run_storeOp hop ?_
    rw [hp, hx]
    obtain ⟨q0, q1, q2, q3, q4, q5, q6, q7, q8, q9, r0, r1, r2, r3, r4, r5, r6, r7, r8, r9⟩ := ten_cells (show Box10 w g s' a' b' c' d' t e f h i from hz)
    unfold ptrTo
    go_simp
  have h2 : Box10 (((((w.setCell ⟨g, 0, none⟩ (.bool s)).setCell ⟨g, 1, none⟩ (.int .u64 (a : Int))).setCell ⟨g, 2, none⟩ (.int .u64 (b : Int))).setCell ⟨g, 3, none⟩ (.int .u64 (c : Int))).setCell ⟨g, 4, none⟩ (.int .u64 (d : Int))) g s a b c d t e f h i := Box10.num (show Box10 w g s' a' b' c' d' t e f h i from hz)
  refine ⟨_, h1, h2, ?_, ?_, ?_, ?_, ?_⟩
  · intro k hk
    rw [far_set hk, far_set hk, far_set hk, far_set hk, far_set hk]
  · simp only [World.size_setCell]
  · simp only [os_set]
  · simp only [tape_set]
  · simp only [output_set]
set_option maxRecDepth 100000 in
set_option maxHeartbeats 8000000 in
theorem q_between_gt {n1 m1 n2 m2 : Int} (h1 : Frac n1 m1) (h2 : Frac n2 m2) (hgt : n2 * m1 < n1 * m2) (w : World) : Calls Try.prog 73 #[.agg #[.bool (sg n1), .int .u64 (l0 n1 : Int), .int .u64 (l1 n1 : Int), .int .u64 (l2 n1 : Int), .int .u64 (l3 n1 : Int), .bool (sg m1), .int .u64 (l0 m1 : Int), .int .u64 (l1 m1 : Int), .int .u64 (l2 m1 : Int), .int .u64 (l3 m1 : Int)], .agg #[.bool (sg n2), .int .u64 (l0 n2 : Int), .int .u64 (l1 n2 : Int), .int .u64 (l2 n2 : Int), .int .u64 (l3 n2 : Int), .bool (sg m2), .int .u64 (l0 m2 : Int), .int .u64 (l1 m2 : Int), .int .u64 (l2 m2 : Int), .int .u64 (l3 m2 : Int)]] w (Ret (.tuple #[.agg #[.bool false, .int .u64 0, .int .u64 0, .int .u64 0, .int .u64 0, .bool false, .int .u64 0, .int .u64 0, .int .u64 0, .int .u64 0], .bool false]) w) := by
  have kV1 : Hid (∀ w, Calls Try.prog 28 #[.agg #[.bool (sg n1), .int .u64 (l0 n1 : Int), .int .u64 (l1 n1 : Int), .int .u64 (l2 n1 : Int), .int .u64 (l3 n1 : Int), .bool (sg m1), .int .u64 (l0 m1 : Int), .int .u64 (l1 m1 : Int), .int .u64 (l2 m1 : Int), .int .u64 (l3 m1 : Int)]] w (Ret (.bool true) w)) := fun w => h_valid h1 w
  have kV2 : Hid (∀ w, Calls Try.prog 28 #[.agg #[.bool (sg n2), .int .u64 (l0 n2 : Int), .int .u64 (l1 n2 : Int), .int .u64 (l2 n2 : Int), .int .u64 (l3 n2 : Int), .bool (sg m2), .int .u64 (l0 m2 : Int), .int .u64 (l1 m2 : Int), .int .u64 (l2 m2 : Int), .int .u64 (l3 m2 : Int)]] w (Ret (.bool true) w)) := fun w => h_valid h2 w
  have kC : Hid (∀ w, Calls Try.prog 29 #[.agg #[.bool (sg n1), .int .u64 (l0 n1 : Int), .int .u64 (l1 n1 : Int), .int .u64 (l2 n1 : Int), .int .u64 (l3 n1 : Int), .bool (sg m1), .int .u64 (l0 m1 : Int), .int .u64 (l1 m1 : Int), .int .u64 (l2 m1 : Int), .int .u64 (l3 m1 : Int)], .agg #[.bool (sg n2), .int .u64 (l0 n2 : Int), .int .u64 (l1 n2 : Int), .int .u64 (l2 n2 : Int), .int .u64 (l3 n2 : Int), .bool (sg m2), .int .u64 (l0 m2 : Int), .int .u64 (l1 m2 : Int), .int .u64 (l2 m2 : Int), .int .u64 (l3 m2 : Int)]] w (Ret (.int .i64 1) w)) := fun w => h_cmp h1 h2 (by unfold cmpI; split <;> (try split) <;> omega) w
  clear h1 h2 hgt
  obtain ⟨W0, hW0⟩ : ∃ W0, W0 = (((w.alloc (.cells #[.bool (sg n1), .int .u64 (l0 n1 : Int), .int .u64 (l1 n1 : Int), .int .u64 (l2 n1 : Int), .int .u64 (l3 n1 : Int), .bool (sg m1), .int .u64 (l0 m1 : Int), .int .u64 (l1 m1 : Int), .int .u64 (l2 m1 : Int), .int .u64 (l3 m1 : Int)] 35)).alloc (.cells #[.bool (sg n2), .int .u64 (l0 n2 : Int), .int .u64 (l1 n2 : Int), .int .u64 (l2 n2 : Int), .int .u64 (l3 n2 : Int), .bool (sg m2), .int .u64 (l0 m2 : Int), .int .u64 (l1 m2 : Int), .int .u64 (l2 m2 : Int), .int .u64 (l3 m2 : Int)] 35)).alloc (.cells #[.bool false, .int .u64 0, .int .u64 0, .int .u64 0, .int .u64 0, .bool false, .int .u64 0, .int .u64 0, .int .u64 0, .int .u64 0] 35)) := ⟨_, rfl⟩
  have H2 := three_boxes w (.cells #[.bool (sg n1), .int .u64 (l0 n1 : Int), .int .u64 (l1 n1 : Int), .int .u64 (l2 n1 : Int), .int .u64 (l3 n1 : Int), .bool (sg m1), .int .u64 (l0 m1 : Int), .int .u64 (l1 m1 : Int), .int .u64 (l2 m1 : Int), .int .u64 (l3 m1 : Int)] 35) (.cells #[.bool (sg n2), .int .u64 (l0 n2 : Int), .int .u64 (l1 n2 : Int), .int .u64 (l2 n2 : Int), .int .u64 (l3 n2 : Int), .bool (sg m2), .int .u64 (l0 m2 : Int), .int .u64 (l1 m2 : Int), .int .u64 (l2 m2 : Int), .int .u64 (l3 m2 : Int)] 35) (.cells #[.bool false, .int .u64 0, .int .u64 0, .int .u64 0, .int .u64 0, .bool false, .int .u64 0, .int .u64 0, .int .u64 0, .int .u64 0] 35)
  have EE0 : Ext w W0 := by rw [hW0]; exact (((ext_alloc _ _).trans (ext_alloc _ _)).trans (ext_alloc _ _))
  rw [← hW0] at H2
  have EE := hide EE0
  have HW := hide hW0
  obtain ⟨P2, P3, P4⟩ : Box10 W0 (w.heap.size) (sg n1) (l0 n1) (l1 n1) (l2 n1) (l3 n1) (sg m1) (l0 m1) (l1 m1) (l2 m1) (l3 m1) ∧ Box10 W0 ((w.heap.size + 1)) (sg n2) (l0 n2) (l1 n2) (l2 n2) (l3 n2) (sg m2) (l0 m2) (l1 m2) (l2 m2) (l3 m2) ∧ Box10 W0 ((w.heap.size + 1 + 1)) false 0 0 0 0 false 0 0 0 0 := H2
  clear hW0 EE0
  go_enter Try.func73, Try.ntmps73
  go_upto_region 1 with fail
  rw [← HW.out]
  clear HW
  have hg0 : w.heap.size ≤ w.heap.size := Nat.le_refl _
  obtain ⟨g0, hg⟩ : ∃ g, w.heap.size = g := ⟨_, rfl⟩
  rw [hg] at P2 P3 P4 ⊢
  replace hg0 : w.heap.size ≤ g0 := Nat.le_of_eq hg
  clear hg
  obtain ⟨xP20, xP21, xP22, xP23, xP24, xP25, xP26, xP27, xP28, xP29, -⟩ := ten_cells P2; obtain ⟨xP30, xP31, xP32, xP33, xP34, xP35, xP36, xP37, xP38, xP39, -⟩ := ten_cells P3; obtain ⟨xP40, xP41, xP42, xP43, xP44, xP45, xP46, xP47, xP48, xP49, xP4f0, xP4f1, xP4f2, xP4f3, xP4f4, xP4f5, xP4f6, xP4f7, xP4f8, xP4f9⟩ := ten_cells P4
  go_wp2_with (first
    | (go_at_call 28; (with_reducible refine (kV1.out _).mono ?_); rintro e w1 ⟨rfl, hE⟩; clear xP20 xP21 xP22 xP23 xP24 xP25 xP26 xP27 xP28 xP29 xP30 xP31 xP32 xP33 xP34 xP35 xP36 xP37 xP38 xP39; clear xP40 xP41 xP42 xP43 xP44 xP45 xP46 xP47 xP48 xP49 xP4f0 xP4f1 xP4f2 xP4f3 xP4f4 xP4f5 xP4f6 xP4f7 xP4f8 xP4f9; have P2 := P2.ext hE; have P3 := P3.ext hE; have P4 := P4.ext hE; have EE := hide (EE.out.trans hE); clear hE; obtain ⟨xP20, xP21, xP22, xP23, xP24, xP25, xP26, xP27, xP28, xP29, -⟩ := ten_cells P2; obtain ⟨xP30, xP31, xP32, xP33, xP34, xP35, xP36, xP37, xP38, xP39, -⟩ := ten_cells P3; obtain ⟨xP40, xP41, xP42, xP43, xP44, xP45, xP46, xP47, xP48, xP49, xP4f0, xP4f1, xP4f2, xP4f3, xP4f4, xP4f5, xP4f6, xP4f7, xP4f8, xP4f9⟩ := ten_cells P4)
    | (go_at_call 28; (with_reducible refine (kV2.out _).mono ?_); rintro e w2 ⟨rfl, hE⟩; clear xP20 xP21 xP22 xP23 xP24 xP25 xP26 xP27 xP28 xP29 xP30 xP31 xP32 xP33 xP34 xP35 xP36 xP37 xP38 xP39; clear xP40 xP41 xP42 xP43 xP44 xP45 xP46 xP47 xP48 xP49 xP4f0 xP4f1 xP4f2 xP4f3 xP4f4 xP4f5 xP4f6 xP4f7 xP4f8 xP4f9; have P2 := P2.ext hE; have P3 := P3.ext hE; have P4 := P4.ext hE; have EE := hide (EE.out.trans hE); clear hE; obtain ⟨xP20, xP21, xP22, xP23, xP24, xP25, xP26, xP27, xP28, xP29, -⟩ := ten_cells P2; obtain ⟨xP30, xP31, xP32, xP33, xP34, xP35, xP36, xP37, xP38, xP39, -⟩ := ten_cells P3; obtain ⟨xP40, xP41, xP42, xP43, xP44, xP45, xP46, xP47, xP48, xP49, xP4f0, xP4f1, xP4f2, xP4f3, xP4f4, xP4f5, xP4f6, xP4f7, xP4f8, xP4f9⟩ := ten_cells P4)
    | (go_at_call 29; (with_reducible refine (kC.out _).mono ?_); rintro e w3 ⟨rfl, hE⟩; clear xP20 xP21 xP22 xP23 xP24 xP25 xP26 xP27 xP28 xP29 xP30 xP31 xP32 xP33 xP34 xP35 xP36 xP37 xP38 xP39; clear xP40 xP41 xP42 xP43 xP44 xP45 xP46 xP47 xP48 xP49 xP4f0 xP4f1 xP4f2 xP4f3 xP4f4 xP4f5 xP4f6 xP4f7 xP4f8 xP4f9; have P2 := P2.ext hE; have P3 := P3.ext hE; have P4 := P4.ext hE; have EE := hide (EE.out.trans hE); clear hE; obtain ⟨xP20, xP21, xP22, xP23, xP24, xP25, xP26, xP27, xP28, xP29, -⟩ := ten_cells P2; obtain ⟨xP30, xP31, xP32, xP33, xP34, xP35, xP36, xP37, xP38, xP39, -⟩ := ten_cells P3; obtain ⟨xP40, xP41, xP42, xP43, xP44, xP45, xP46, xP47, xP48, xP49, xP4f0, xP4f1, xP4f2, xP4f3, xP4f4, xP4f5, xP4f6, xP4f7, xP4f8, xP4f9⟩ := ten_cells P4))
  exact bodyPost_ret (v := .tuple #[.agg #[.bool false, .int .u64 0, .int .u64 0, .int .u64 0, .int .u64 0, .bool false, .int .u64 0, .int .u64 0, .int .u64 0, .int .u64 0], .bool false]) (by simp [results, Try.results73, go_sem, xP40, xP41, xP42, xP43, xP44, xP45, xP46, xP47, xP48, xP49]) rfl ⟨rfl, ext_ten EE.out (by omega) _ _ _ _ _ _ _ _ _ _⟩
set_option maxRecDepth 100000 in
set_option maxHeartbeats 8000000 in
theorem q_between {n1 m1 n2 m2 : Int} (h1 : Frac n1 m1) (h2 : Frac n2 m2) {n m : Int} (hle : n1 * m2 ≤ n2 * m1) (B : Best n1 m1 n2 m2 n m) (w : World) : Calls Try.prog 73 #[.agg #[.bool (sg n1), .int .u64 (l0 n1 : Int), .int .u64 (l1 n1 : Int), .int .u64 (l2 n1 : Int), .int .u64 (l3 n1 : Int), .bool (sg m1), .int .u64 (l0 m1 : Int), .int .u64 (l1 m1 : Int), .int .u64 (l2 m1 : Int), .int .u64 (l3 m1 : Int)], .agg #[.bool (sg n2), .int .u64 (l0 n2 : Int), .int .u64 (l1 n2 : Int), .int .u64 (l2 n2 : Int), .int .u64 (l3 n2 : Int), .bool (sg m2), .int .u64 (l0 m2 : Int), .int .u64 (l1 m2 : Int), .int .u64 (l2 m2 : Int), .int .u64 (l3 m2 : Int)]] w (Ret (.tuple #[.agg #[.bool (sg n), .int .u64 (l0 n : Int), .int .u64 (l1 n : Int), .int .u64 (l2 n : Int), .int .u64 (l3 n : Int), .bool (sg m), .int .u64 (l0 m : Int), .int .u64 (l1 m : Int), .int .u64 (l2 m : Int), .int .u64 (l3 m : Int)], .bool true]) w) := by
  obtain ⟨c, hc⟩ : ∃ r, cmpI (n1 * m2) (n2 * m1) = r := ⟨_, rfl⟩
  have hc0 : ¬ 0 < c := by rw [(cmpI_lt hc).2.2]; omega
  have kV1 : Hid (∀ w, Calls Try.prog 28 #[.agg #[.bool (sg n1), .int .u64 (l0 n1 : Int), .int .u64 (l1 n1 : Int), .int .u64 (l2 n1 : Int), .int .u64 (l3 n1 : Int), .bool (sg m1), .int .u64 (l0 m1 : Int), .int .u64 (l1 m1 : Int), .int .u64 (l2 m1 : Int), .int .u64 (l3 m1 : Int)]] w (Ret (.bool true) w)) := fun w => h_valid h1 w
  have kV2 : Hid (∀ w, Calls Try.prog 28 #[.agg #[.bool (sg n2), .int .u64 (l0 n2 : Int), .int .u64 (l1 n2 : Int), .int .u64 (l2 n2 : Int), .int .u64 (l3 n2 : Int), .bool (sg m2), .int .u64 (l0 m2 : Int), .int .u64 (l1 m2 : Int), .int .u64 (l2 m2 : Int), .int .u64 (l3 m2 : Int)]] w (Ret (.bool true) w)) := fun w => h_valid h2 w
  have kC : Hid (∀ w, Calls Try.prog 29 #[.agg #[.bool (sg n1), .int .u64 (l0 n1 : Int), .int .u64 (l1 n1 : Int), .int .u64 (l2 n1 : Int), .int .u64 (l3 n1 : Int), .bool (sg m1), .int .u64 (l0 m1 : Int), .int .u64 (l1 m1 : Int), .int .u64 (l2 m1 : Int), .int .u64 (l3 m1 : Int)], .agg #[.bool (sg n2), .int .u64 (l0 n2 : Int), .int .u64 (l1 n2 : Int), .int .u64 (l2 n2 : Int), .int .u64 (l3 n2 : Int), .bool (sg m2), .int .u64 (l0 m2 : Int), .int .u64 (l1 m2 : Int), .int .u64 (l2 m2 : Int), .int .u64 (l3 m2 : Int)]] w (Ret (.int .i64 c) w)) := fun w => h_cmp h1 h2 hc w
  clear hc
  by_cases hp : 0 < n1
  · have kS : Hid (∀ w, Calls Try.prog 35 #[.agg #[.bool (sg n1), .int .u64 (l0 n1 : Int), .int .u64 (l1 n1 : Int), .int .u64 (l2 n1 : Int), .int .u64 (l3 n1 : Int)]] w (Ret (.int .i64 1) w)) := fun w => d_sign h1.fn (Int.sign_eq_one_of_pos hp) w
    have hp2 : 0 < n2 := by
      have := Int.mul_pos hp h2.1
      by_cases h : 0 < n2
      · exact h
      · have := Int.mul_nonpos_of_nonpos_of_nonneg (show n2 ≤ 0 by omega) (show 0 ≤ m1 by have := h1.1; omega); omega
    have kT : Hid (∀ w, Calls Try.prog 35 #[.agg #[.bool (sg n2), .int .u64 (l0 n2 : Int), .int .u64 (l1 n2 : Int), .int .u64 (l2 n2 : Int), .int .u64 (l3 n2 : Int)]] w (Ret (.int .i64 1) w)) := fun w => d_sign h2.fn (Int.sign_eq_one_of_pos hp2) w
    have kB : Hid (∀ w, Calls Try.prog 119 #[.agg #[.bool (sg n1), .int .u64 (l0 n1 : Int), .int .u64 (l1 n1 : Int), .int .u64 (l2 n1 : Int), .int .u64 (l3 n1 : Int)], .agg #[.bool (sg m1), .int .u64 (l0 m1 : Int), .int .u64 (l1 m1 : Int), .int .u64 (l2 m1 : Int), .int .u64 (l3 m1 : Int)], .agg #[.bool (sg n2), .int .u64 (l0 n2 : Int), .int .u64 (l1 n2 : Int), .int .u64 (l2 n2 : Int), .int .u64 (l3 n2 : Int)], .agg #[.bool (sg m2), .int .u64 (l0 m2 : Int), .int .u64 (l1 m2 : Int), .int .u64 (l2 m2 : Int), .int .u64 (l3 m2 : Int)]] w (Ret (.tuple #[.agg #[.bool (sg n), .int .u64 (l0 n : Int), .int .u64 (l1 n : Int), .int .u64 (l2 n : Int), .int .u64 (l3 n : Int)], .agg #[.bool (sg m), .int .u64 (l0 m : Int), .int .u64 (l1 m : Int), .int .u64 (l2 m : Int), .int .u64 (l3 m : Int)]]) w)) := fun w => q_pos _ n1 m1 n2 m2 n m (Nat.lt_succ_self _) hp h1.1 h2.1 hle h1.2.1 h1.2.2.1 h2.2.1 h2.2.2.1 B w
    clear h1 h2 hle B hp hp2
    obtain ⟨W0, hW0⟩ : ∃ W0, W0 = (((w.alloc (.cells #[.bool (sg n1), .int .u64 (l0 n1 : Int), .int .u64 (l1 n1 : Int), .int .u64 (l2 n1 : Int), .int .u64 (l3 n1 : Int), .bool (sg m1), .int .u64 (l0 m1 : Int), .int .u64 (l1 m1 : Int), .int .u64 (l2 m1 : Int), .int .u64 (l3 m1 : Int)] 35)).alloc (.cells #[.bool (sg n2), .int .u64 (l0 n2 : Int), .int .u64 (l1 n2 : Int), .int .u64 (l2 n2 : Int), .int .u64 (l3 n2 : Int), .bool (sg m2), .int .u64 (l0 m2 : Int), .int .u64 (l1 m2 : Int), .int .u64 (l2 m2 : Int), .int .u64 (l3 m2 : Int)] 35)).alloc (.cells #[.bool false, .int .u64 0, .int .u64 0, .int .u64 0, .int .u64 0, .bool false, .int .u64 0, .int .u64 0, .int .u64 0, .int .u64 0] 35)) := ⟨_, rfl⟩
    have H2 := three_boxes w (.cells #[.bool (sg n1), .int .u64 (l0 n1 : Int), .int .u64 (l1 n1 : Int), .int .u64 (l2 n1 : Int), .int .u64 (l3 n1 : Int), .bool (sg m1), .int .u64 (l0 m1 : Int), .int .u64 (l1 m1 : Int), .int .u64 (l2 m1 : Int), .int .u64 (l3 m1 : Int)] 35) (.cells #[.bool (sg n2), .int .u64 (l0 n2 : Int), .int .u64 (l1 n2 : Int), .int .u64 (l2 n2 : Int), .int .u64 (l3 n2 : Int), .bool (sg m2), .int .u64 (l0 m2 : Int), .int .u64 (l1 m2 : Int), .int .u64 (l2 m2 : Int), .int .u64 (l3 m2 : Int)] 35) (.cells #[.bool false, .int .u64 0, .int .u64 0, .int .u64 0, .int .u64 0, .bool false, .int .u64 0, .int .u64 0, .int .u64 0, .int .u64 0] 35)
    have EE0 : Ext w W0 := by rw [hW0]; exact (((ext_alloc _ _).trans (ext_alloc _ _)).trans (ext_alloc _ _))
    rw [← hW0] at H2
    have EE := hide EE0
    have HW := hide hW0
    obtain ⟨P2, P3, P4⟩ : Box10 W0 (w.heap.size) (sg n1) (l0 n1) (l1 n1) (l2 n1) (l3 n1) (sg m1) (l0 m1) (l1 m1) (l2 m1) (l3 m1) ∧ Box10 W0 ((w.heap.size + 1)) (sg n2) (l0 n2) (l1 n2) (l2 n2) (l3 n2) (sg m2) (l0 m2) (l1 m2) (l2 m2) (l3 m2) ∧ Box10 W0 ((w.heap.size + 1 + 1)) false 0 0 0 0 false 0 0 0 0 := H2
    clear hW0 EE0
    go_enter Try.func73, Try.ntmps73
    go_upto_region 1 with fail
    rw [← HW.out]
    clear HW
    have hg0 : w.heap.size ≤ w.heap.size := Nat.le_refl _
    obtain ⟨g0, hg⟩ : ∃ g, w.heap.size = g := ⟨_, rfl⟩
    rw [hg] at P2 P3 P4 ⊢
    replace hg0 : w.heap.size ≤ g0 := Nat.le_of_eq hg
    clear hg
    obtain ⟨xP20, xP21, xP22, xP23, xP24, xP25, xP26, xP27, xP28, xP29, -⟩ := ten_cells P2; obtain ⟨xP30, xP31, xP32, xP33, xP34, xP35, xP36, xP37, xP38, xP39, -⟩ := ten_cells P3
    go_upto_region 3 with (first
      | (go_at_call 28; (with_reducible refine (kV1.out _).mono ?_); rintro e w1 ⟨rfl, hE⟩; clear xP20 xP21 xP22 xP23 xP24 xP25 xP26 xP27 xP28 xP29 xP30 xP31 xP32 xP33 xP34 xP35 xP36 xP37 xP38 xP39; have P2 := P2.ext hE; have P3 := P3.ext hE; have P4 := P4.ext hE; have EE := hide (EE.out.trans hE); clear hE; obtain ⟨xP20, xP21, xP22, xP23, xP24, xP25, xP26, xP27, xP28, xP29, -⟩ := ten_cells P2; obtain ⟨xP30, xP31, xP32, xP33, xP34, xP35, xP36, xP37, xP38, xP39, -⟩ := ten_cells P3)
      | (go_at_call 28; (with_reducible refine (kV2.out _).mono ?_); rintro e w2 ⟨rfl, hE⟩; clear xP20 xP21 xP22 xP23 xP24 xP25 xP26 xP27 xP28 xP29 xP30 xP31 xP32 xP33 xP34 xP35 xP36 xP37 xP38 xP39; have P2 := P2.ext hE; have P3 := P3.ext hE; have P4 := P4.ext hE; have EE := hide (EE.out.trans hE); clear hE; obtain ⟨xP20, xP21, xP22, xP23, xP24, xP25, xP26, xP27, xP28, xP29, -⟩ := ten_cells P2; obtain ⟨xP30, xP31, xP32, xP33, xP34, xP35, xP36, xP37, xP38, xP39, -⟩ := ten_cells P3)
      | (go_at_call 29; (with_reducible refine (kC.out _).mono ?_); rintro e w3 ⟨rfl, hE⟩; clear xP20 xP21 xP22 xP23 xP24 xP25 xP26 xP27 xP28 xP29 xP30 xP31 xP32 xP33 xP34 xP35 xP36 xP37 xP38 xP39; have P2 := P2.ext hE; have P3 := P3.ext hE; have P4 := P4.ext hE; have EE := hide (EE.out.trans hE); clear hE; obtain ⟨xP20, xP21, xP22, xP23, xP24, xP25, xP26, xP27, xP28, xP29, -⟩ := ten_cells P2; obtain ⟨xP30, xP31, xP32, xP33, xP34, xP35, xP36, xP37, xP38, xP39, -⟩ := ten_cells P3))
    clear xP20 xP21 xP22 xP23 xP24 xP25 xP26 xP27 xP28 xP29 xP30 xP31 xP32 xP33 xP34 xP35 xP36 xP37 xP38 xP39
    obtain ⟨xP20, xP21, xP22, xP23, xP24, xP25, xP26, xP27, xP28, xP29, -⟩ := ten_cells P2
    go_upto_region 5 with (go_at_call 35; (with_reducible refine (kS.out _).mono ?_); rintro e w4 ⟨rfl, hE⟩; clear xP20 xP21 xP22 xP23 xP24 xP25 xP26 xP27 xP28 xP29; have P2 := P2.ext hE; have P3 := P3.ext hE; have P4 := P4.ext hE; have EE := hide (EE.out.trans hE); clear hE; obtain ⟨xP20, xP21, xP22, xP23, xP24, xP25, xP26, xP27, xP28, xP29, -⟩ := ten_cells P2)
    clear xP20 xP21 xP22 xP23 xP24 xP25 xP26 xP27 xP28 xP29
    obtain ⟨xP30, xP31, xP32, xP33, xP34, xP35, xP36, xP37, xP38, xP39, -⟩ := ten_cells P3
    go_upto_region 10 with (go_at_call 35; (with_reducible refine (kT.out _).mono ?_); rintro e w5 ⟨rfl, hE⟩; clear xP30 xP31 xP32 xP33 xP34 xP35 xP36 xP37 xP38 xP39; have P2 := P2.ext hE; have P3 := P3.ext hE; have P4 := P4.ext hE; have EE := hide (EE.out.trans hE); clear hE; obtain ⟨xP30, xP31, xP32, xP33, xP34, xP35, xP36, xP37, xP38, xP39, -⟩ := ten_cells P3)
    clear xP30 xP31 xP32 xP33 xP34 xP35 xP36 xP37 xP38 xP39
    obtain ⟨xP20, xP21, xP22, xP23, xP24, xP25, xP26, xP27, xP28, xP29, -⟩ := ten_cells P2; obtain ⟨xP30, xP31, xP32, xP33, xP34, xP35, xP36, xP37, xP38, xP39, -⟩ := ten_cells P3
    go_upto_region 11 with (go_at_call 119; (with_reducible refine (kB.out _).mono ?_); rintro e w6 ⟨rfl, hE⟩; clear xP20 xP21 xP22 xP23 xP24 xP25 xP26 xP27 xP28 xP29 xP30 xP31 xP32 xP33 xP34 xP35 xP36 xP37 xP38 xP39; have P2 := P2.ext hE; have P3 := P3.ext hE; have P4 := P4.ext hE; have EE := hide (EE.out.trans hE); clear hE; obtain ⟨xP20, xP21, xP22, xP23, xP24, xP25, xP26, xP27, xP28, xP29, -⟩ := ten_cells P2; obtain ⟨xP30, xP31, xP32, xP33, xP34, xP35, xP36, xP37, xP38, xP39, -⟩ := ten_cells P3)
    clear xP20 xP21 xP22 xP23 xP24 xP25 xP26 xP27 xP28 xP29 xP30 xP31 xP32 xP33 xP34 xP35 xP36 xP37 xP38 xP39
    have H2 := two_blocks w6 (.cells #[.bool (sg n), .int .u64 (l0 n : Int), .int .u64 (l1 n : Int), .int .u64 (l2 n : Int), .int .u64 (l3 n : Int)] 25) (.cells #[.bool (sg m), .int .u64 (l0 m : Int), .int .u64 (l1 m : Int), .int .u64 (l2 m : Int), .int .u64 (l3 m : Int)] 25)
    have lP2 := P2.lt
    have lP3 := P3.lt
    have lP4 := P4.lt
    have hE := ((ext_alloc w6 (.cells #[.bool (sg n), .int .u64 (l0 n : Int), .int .u64 (l1 n : Int), .int .u64 (l2 n : Int), .int .u64 (l3 n : Int)] 25)).trans (ext_alloc _ (.cells #[.bool (sg m), .int .u64 (l0 m : Int), .int .u64 (l1 m : Int), .int .u64 (l2 m : Int), .int .u64 (l3 m : Int)] 25)))
    have P2 := P2.ext hE
    have P3 := P3.ext hE
    have P4 := P4.ext hE
    have EE := hide (EE.out.trans hE)
    clear hE
    obtain ⟨W7, hW⟩ : ∃ W, W = ((w6.alloc (.cells #[.bool (sg n), .int .u64 (l0 n : Int), .int .u64 (l1 n : Int), .int .u64 (l2 n : Int), .int .u64 (l3 n : Int)] 25)).alloc (.cells #[.bool (sg m), .int .u64 (l0 m : Int), .int .u64 (l1 m : Int), .int .u64 (l2 m : Int), .int .u64 (l3 m : Int)] 25)) := ⟨_, rfl⟩
    rw [← hW] at H2 EE P2 P3 P4 ⊢
    obtain ⟨g8, hg⟩ : ∃ g, w6.heap.size = g := ⟨_, rfl⟩
    rw [hg] at H2 lP2 lP3 lP4 ⊢
    obtain ⟨P10, P11⟩ : Box W7 g8 (sg n) (l0 n) (l1 n) (l2 n) (l3 n) ∧ Box W7 (g8 + 1) (sg m) (l0 m) (l1 m) (l2 m) (l3 m) := H2
    clear hW hg
    have ngP2P10 : g0 ≠ g8 := by omega
    have ngP2P11 : g0 ≠ g8 + 1 := by omega
    have ngP3P10 : g0 + 1 ≠ g8 := by omega
    have ngP3P11 : g0 + 1 ≠ g8 + 1 := by omega
    have ngP4P10 : g0 + 1 + 1 ≠ g8 := by omega
    have ngP4P11 : g0 + 1 + 1 ≠ g8 + 1 := by omega
    obtain ⟨xP100, xP101, xP102, xP103, xP104, -⟩ := five_cells P10; obtain ⟨xP110, xP111, xP112, xP113, xP114, -⟩ := five_cells P11; obtain ⟨xP40, xP41, xP42, xP43, xP44, xP45, xP46, xP47, xP48, xP49, xP4f0, xP4f1, xP4f2, xP4f3, xP4f4, xP4f5, xP4f6, xP4f7, xP4f8, xP4f9⟩ := ten_cells P4
    go_wp2_with fail
    exact bodyPost_ret (v := .tuple #[.agg #[.bool (sg n), .int .u64 (l0 n : Int), .int .u64 (l1 n : Int), .int .u64 (l2 n : Int), .int .u64 (l3 n : Int), .bool (sg m), .int .u64 (l0 m : Int), .int .u64 (l1 m : Int), .int .u64 (l2 m : Int), .int .u64 (l3 m : Int)], .bool true]) (by simp [results, Try.results73, go_sem, xP40, xP41, xP42, xP43, xP44, xP45, xP46, xP47, xP48, xP49]) rfl ⟨rfl, ext_ten EE.out (by omega) _ _ _ _ _ _ _ _ _ _⟩
  · by_cases hq : n2 < 0
    · have hn1 : n1 < 0 := by
        by_cases h : n1 < 0
        · exact h
        · have e : n1 = 0 := by omega
          subst e
          have := Int.mul_neg_of_neg_of_pos hq h1.1
          omega
      obtain ⟨u1, hu1⟩ : ∃ u : Int, -n1 = u := ⟨_, rfl⟩
      obtain ⟨u2, hu2⟩ : ∃ u : Int, -n2 = u := ⟨_, rfl⟩
      obtain ⟨u, hu⟩ : ∃ u : Int, -n = u := ⟨_, rfl⟩
      have hun : -u = n := by omega
      have B' := B.neg
      rw [hu1, hu2, hu] at B'
      have hl' : u2 * m1 ≤ u1 * m2 := by rw [← hu1, ← hu2, Int.neg_mul, Int.neg_mul]; omega
      have S := (B.small h1.1 h2.1 hle).1
      have fu : F256 u := F256.mk (by have := h1.2.1; omega)
      have kS : Hid (∀ w, Calls Try.prog 35 #[.agg #[.bool (sg n1), .int .u64 (l0 n1 : Int), .int .u64 (l1 n1 : Int), .int .u64 (l2 n1 : Int), .int .u64 (l3 n1 : Int)]] w (Ret (.int .i64 (-1)) w)) := fun w => d_sign h1.fn (Int.sign_eq_neg_one_of_neg hn1) w
      have kT : Hid (∀ w, Calls Try.prog 35 #[.agg #[.bool (sg n2), .int .u64 (l0 n2 : Int), .int .u64 (l1 n2 : Int), .int .u64 (l2 n2 : Int), .int .u64 (l3 n2 : Int)]] w (Ret (.int .i64 (-1)) w)) := fun w => d_sign h2.fn (Int.sign_eq_neg_one_of_neg hq) w
      have kN1 : Hid (∀ w, Calls Try.prog 36 #[.agg #[.bool (sg n1), .int .u64 (l0 n1 : Int), .int .u64 (l1 n1 : Int), .int .u64 (l2 n1 : Int), .int .u64 (l3 n1 : Int)]] w (Ret (.agg #[.bool (sg u1), .int .u64 (l0 u1 : Int), .int .u64 (l1 u1 : Int), .int .u64 (l2 u1 : Int), .int .u64 (l3 u1 : Int)]) w)) := fun w => d_neg h1.fn hu1 w
      have kN2 : Hid (∀ w, Calls Try.prog 36 #[.agg #[.bool (sg n2), .int .u64 (l0 n2 : Int), .int .u64 (l1 n2 : Int), .int .u64 (l2 n2 : Int), .int .u64 (l3 n2 : Int)]] w (Ret (.agg #[.bool (sg u2), .int .u64 (l0 u2 : Int), .int .u64 (l1 u2 : Int), .int .u64 (l2 u2 : Int), .int .u64 (l3 u2 : Int)]) w)) := fun w => d_neg h2.fn hu2 w
      have kB : Hid (∀ w, Calls Try.prog 119 #[.agg #[.bool (sg u2), .int .u64 (l0 u2 : Int), .int .u64 (l1 u2 : Int), .int .u64 (l2 u2 : Int), .int .u64 (l3 u2 : Int)], .agg #[.bool (sg m2), .int .u64 (l0 m2 : Int), .int .u64 (l1 m2 : Int), .int .u64 (l2 m2 : Int), .int .u64 (l3 m2 : Int)], .agg #[.bool (sg u1), .int .u64 (l0 u1 : Int), .int .u64 (l1 u1 : Int), .int .u64 (l2 u1 : Int), .int .u64 (l3 u1 : Int)], .agg #[.bool (sg m1), .int .u64 (l0 m1 : Int), .int .u64 (l1 m1 : Int), .int .u64 (l2 m1 : Int), .int .u64 (l3 m1 : Int)]] w (Ret (.tuple #[.agg #[.bool (sg u), .int .u64 (l0 u : Int), .int .u64 (l1 u : Int), .int .u64 (l2 u : Int), .int .u64 (l3 u : Int)], .agg #[.bool (sg m), .int .u64 (l0 m : Int), .int .u64 (l1 m : Int), .int .u64 (l2 m : Int), .int .u64 (l3 m : Int)]]) w)) := fun w => q_pos _ u2 m2 u1 m1 u m (Nat.lt_succ_self _) (by omega) h2.1 h1.1 hl' (by have := h2.2.1; omega) h2.2.2.1 (by have := h1.2.1; omega) h1.2.2.1 B' w
      have kN : Hid (∀ w, Calls Try.prog 36 #[.agg #[.bool (sg u), .int .u64 (l0 u : Int), .int .u64 (l1 u : Int), .int .u64 (l2 u : Int), .int .u64 (l3 u : Int)]] w (Ret (.agg #[.bool (sg n), .int .u64 (l0 n : Int), .int .u64 (l1 n : Int), .int .u64 (l2 n : Int), .int .u64 (l3 n : Int)]) w)) := fun w => d_neg fu hun w
      clear h1 h2 hle B hp hq hn1 hu1 hu2 hu hun B' hl' S fu
      obtain ⟨W0, hW0⟩ : ∃ W0, W0 = (((w.alloc (.cells #[.bool (sg n1), .int .u64 (l0 n1 : Int), .int .u64 (l1 n1 : Int), .int .u64 (l2 n1 : Int), .int .u64 (l3 n1 : Int), .bool (sg m1), .int .u64 (l0 m1 : Int), .int .u64 (l1 m1 : Int), .int .u64 (l2 m1 : Int), .int .u64 (l3 m1 : Int)] 35)).alloc (.cells #[.bool (sg n2), .int .u64 (l0 n2 : Int), .int .u64 (l1 n2 : Int), .int .u64 (l2 n2 : Int), .int .u64 (l3 n2 : Int), .bool (sg m2), .int .u64 (l0 m2 : Int), .int .u64 (l1 m2 : Int), .int .u64 (l2 m2 : Int), .int .u64 (l3 m2 : Int)] 35)).alloc (.cells #[.bool false, .int .u64 0, .int .u64 0, .int .u64 0, .int .u64 0, .bool false, .int .u64 0, .int .u64 0, .int .u64 0, .int .u64 0] 35)) := ⟨_, rfl⟩
      have H2 := three_boxes w (.cells #[.bool (sg n1), .int .u64 (l0 n1 : Int), .int .u64 (l1 n1 : Int), .int .u64 (l2 n1 : Int), .int .u64 (l3 n1 : Int), .bool (sg m1), .int .u64 (l0 m1 : Int), .int .u64 (l1 m1 : Int), .int .u64 (l2 m1 : Int), .int .u64 (l3 m1 : Int)] 35) (.cells #[.bool (sg n2), .int .u64 (l0 n2 : Int), .int .u64 (l1 n2 : Int), .int .u64 (l2 n2 : Int), .int .u64 (l3 n2 : Int), .bool (sg m2), .int .u64 (l0 m2 : Int), .int .u64 (l1 m2 : Int), .int .u64 (l2 m2 : Int), .int .u64 (l3 m2 : Int)] 35) (.cells #[.bool false, .int .u64 0, .int .u64 0, .int .u64 0, .int .u64 0, .bool false, .int .u64 0, .int .u64 0, .int .u64 0, .int .u64 0] 35)
      have EE0 : Ext w W0 := by rw [hW0]; exact (((ext_alloc _ _).trans (ext_alloc _ _)).trans (ext_alloc _ _))
      rw [← hW0] at H2
      have EE := hide EE0
      have HW := hide hW0
      obtain ⟨P2, P3, P4⟩ : Box10 W0 (w.heap.size) (sg n1) (l0 n1) (l1 n1) (l2 n1) (l3 n1) (sg m1) (l0 m1) (l1 m1) (l2 m1) (l3 m1) ∧ Box10 W0 ((w.heap.size + 1)) (sg n2) (l0 n2) (l1 n2) (l2 n2) (l3 n2) (sg m2) (l0 m2) (l1 m2) (l2 m2) (l3 m2) ∧ Box10 W0 ((w.heap.size + 1 + 1)) false 0 0 0 0 false 0 0 0 0 := H2
      clear hW0 EE0
      go_enter Try.func73, Try.ntmps73
      go_upto_region 1 with fail
      rw [← HW.out]
      clear HW
      have hg0 : w.heap.size ≤ w.heap.size := Nat.le_refl _
      obtain ⟨g0, hg⟩ : ∃ g, w.heap.size = g := ⟨_, rfl⟩
      rw [hg] at P2 P3 P4 ⊢
      replace hg0 : w.heap.size ≤ g0 := Nat.le_of_eq hg
      clear hg
      obtain ⟨xP20, xP21, xP22, xP23, xP24, xP25, xP26, xP27, xP28, xP29, -⟩ := ten_cells P2; obtain ⟨xP30, xP31, xP32, xP33, xP34, xP35, xP36, xP37, xP38, xP39, -⟩ := ten_cells P3
      go_upto_region 3 with (first
        | (go_at_call 28; (with_reducible refine (kV1.out _).mono ?_); rintro e w1 ⟨rfl, hE⟩; clear xP20 xP21 xP22 xP23 xP24 xP25 xP26 xP27 xP28 xP29 xP30 xP31 xP32 xP33 xP34 xP35 xP36 xP37 xP38 xP39; have P2 := P2.ext hE; have P3 := P3.ext hE; have P4 := P4.ext hE; have EE := hide (EE.out.trans hE); clear hE; obtain ⟨xP20, xP21, xP22, xP23, xP24, xP25, xP26, xP27, xP28, xP29, -⟩ := ten_cells P2; obtain ⟨xP30, xP31, xP32, xP33, xP34, xP35, xP36, xP37, xP38, xP39, -⟩ := ten_cells P3)
        | (go_at_call 28; (with_reducible refine (kV2.out _).mono ?_); rintro e w2 ⟨rfl, hE⟩; clear xP20 xP21 xP22 xP23 xP24 xP25 xP26 xP27 xP28 xP29 xP30 xP31 xP32 xP33 xP34 xP35 xP36 xP37 xP38 xP39; have P2 := P2.ext hE; have P3 := P3.ext hE; have P4 := P4.ext hE; have EE := hide (EE.out.trans hE); clear hE; obtain ⟨xP20, xP21, xP22, xP23, xP24, xP25, xP26, xP27, xP28, xP29, -⟩ := ten_cells P2; obtain ⟨xP30, xP31, xP32, xP33, xP34, xP35, xP36, xP37, xP38, xP39, -⟩ := ten_cells P3)
        | (go_at_call 29; (with_reducible refine (kC.out _).mono ?_); rintro e w3 ⟨rfl, hE⟩; clear xP20 xP21 xP22 xP23 xP24 xP25 xP26 xP27 xP28 xP29 xP30 xP31 xP32 xP33 xP34 xP35 xP36 xP37 xP38 xP39; have P2 := P2.ext hE; have P3 := P3.ext hE; have P4 := P4.ext hE; have EE := hide (EE.out.trans hE); clear hE; obtain ⟨xP20, xP21, xP22, xP23, xP24, xP25, xP26, xP27, xP28, xP29, -⟩ := ten_cells P2; obtain ⟨xP30, xP31, xP32, xP33, xP34, xP35, xP36, xP37, xP38, xP39, -⟩ := ten_cells P3))
      clear xP20 xP21 xP22 xP23 xP24 xP25 xP26 xP27 xP28 xP29 xP30 xP31 xP32 xP33 xP34 xP35 xP36 xP37 xP38 xP39
      obtain ⟨xP20, xP21, xP22, xP23, xP24, xP25, xP26, xP27, xP28, xP29, -⟩ := ten_cells P2; obtain ⟨xP30, xP31, xP32, xP33, xP34, xP35, xP36, xP37, xP38, xP39, -⟩ := ten_cells P3
      go_upto_region 5 with (first
        | (go_at_call 35; (with_reducible refine (kS.out _).mono ?_); rintro e w4 ⟨rfl, hE⟩; clear xP20 xP21 xP22 xP23 xP24 xP25 xP26 xP27 xP28 xP29 xP30 xP31 xP32 xP33 xP34 xP35 xP36 xP37 xP38 xP39; have P2 := P2.ext hE; have P3 := P3.ext hE; have P4 := P4.ext hE; have EE := hide (EE.out.trans hE); clear hE; obtain ⟨xP20, xP21, xP22, xP23, xP24, xP25, xP26, xP27, xP28, xP29, -⟩ := ten_cells P2; obtain ⟨xP30, xP31, xP32, xP33, xP34, xP35, xP36, xP37, xP38, xP39, -⟩ := ten_cells P3)
        | (go_at_call 35; (with_reducible refine (kT.out _).mono ?_); rintro e w5 ⟨rfl, hE⟩; clear xP20 xP21 xP22 xP23 xP24 xP25 xP26 xP27 xP28 xP29 xP30 xP31 xP32 xP33 xP34 xP35 xP36 xP37 xP38 xP39; have P2 := P2.ext hE; have P3 := P3.ext hE; have P4 := P4.ext hE; have EE := hide (EE.out.trans hE); clear hE; obtain ⟨xP20, xP21, xP22, xP23, xP24, xP25, xP26, xP27, xP28, xP29, -⟩ := ten_cells P2; obtain ⟨xP30, xP31, xP32, xP33, xP34, xP35, xP36, xP37, xP38, xP39, -⟩ := ten_cells P3))
      clear xP20 xP21 xP22 xP23 xP24 xP25 xP26 xP27 xP28 xP29 xP30 xP31 xP32 xP33 xP34 xP35 xP36 xP37 xP38 xP39
      obtain ⟨xP30, xP31, xP32, xP33, xP34, xP35, xP36, xP37, xP38, xP39, -⟩ := ten_cells P3
      go_upto_region 6 with (go_at_call 35; (with_reducible refine (kT.out _).mono ?_); rintro e w6 ⟨rfl, hE⟩; clear xP30 xP31 xP32 xP33 xP34 xP35 xP36 xP37 xP38 xP39; have P2 := P2.ext hE; have P3 := P3.ext hE; have P4 := P4.ext hE; have EE := hide (EE.out.trans hE); clear hE; obtain ⟨xP30, xP31, xP32, xP33, xP34, xP35, xP36, xP37, xP38, xP39, -⟩ := ten_cells P3)
      clear xP30 xP31 xP32 xP33 xP34 xP35 xP36 xP37 xP38 xP39
      have lbP2 := P2.lt
      have lbP3 := P3.lt
      have lbP4 := P4.lt
      refine wp_decl [.q, .q, .al, .al, .st 2, .st 3] [.agg #[.bool (sg n2), .int .u64 (l0 n2 : Int), .int .u64 (l1 n2 : Int), .int .u64 (l2 n2 : Int), .int .u64 (l3 n2 : Int), .bool (sg m2), .int .u64 (l0 m2 : Int), .int .u64 (l1 m2 : Int), .int .u64 (l2 m2 : Int), .int .u64 (l3 m2 : Int)], .agg #[.bool (sg n1), .int .u64 (l0 n1 : Int), .int .u64 (l1 n1 : Int), .int .u64 (l2 n1 : Int), .int .u64 (l3 n1 : Int), .bool (sg m1), .int .u64 (l0 m1 : Int), .int .u64 (l1 m1 : Int), .int .u64 (l2 m1 : Int), .int .u64 (l3 m1 : Int)], undef, undef, undef, undef] (fun i => match i with | 2 => (.cells #[.bool false, .int .u64 0, .int .u64 0, .int .u64 0, .int .u64 0, .bool false, .int .u64 0, .int .u64 0, .int .u64 0, .int .u64 0] 35 (0, 0)) | _ => (.cells #[.bool false, .int .u64 0, .int .u64 0, .int .u64 0, .int .u64 0, .bool false, .int .u64 0, .int .u64 0, .int .u64 0, .int .u64 0] 35 (0, 0))) (fun i => match i with | 4 => (.cells #[.bool (sg n2), .int .u64 (l0 n2 : Int), .int .u64 (l1 n2 : Int), .int .u64 (l2 n2 : Int), .int .u64 (l3 n2 : Int), .bool (sg m2), .int .u64 (l0 m2 : Int), .int .u64 (l1 m2 : Int), .int .u64 (l2 m2 : Int), .int .u64 (l3 m2 : Int)] 35 (0, 0)) | _ => (.cells #[.bool (sg n1), .int .u64 (l0 n1 : Int), .int .u64 (l1 n1 : Int), .int .u64 (l2 n1 : Int), .int .u64 (l3 n1 : Int), .bool (sg m1), .int .u64 (l0 m1 : Int), .int .u64 (l1 m1 : Int), .int .u64 (l2 m1 : Int), .int .u64 (l3 m1 : Int)] 35 (0, 0))) (fun _ => 0) (by kernel_rfl) (by kernel_rfl) (by kernel_rfl) rfl rfl (by simp) (by simp) ?_ ?_
      · refine ⟨?_, ?_, ?_, ?_, ?_, ?_, trivial⟩
        · refine op_q ?uvn2 ?h1n2 ?h2n2 ?h3n2
          case h1n2 => exact rfl
          case uvn2 => exact (.agg #[.bool (sg n2), .int .u64 (l0 n2 : Int), .int .u64 (l1 n2 : Int), .int .u64 (l2 n2 : Int), .int .u64 (l3 n2 : Int), .bool (sg m2), .int .u64 (l0 m2 : Int), .int .u64 (l1 m2 : Int), .int .u64 (l2 m2 : Int), .int .u64 (l3 m2 : Int)])
          case h2n2 => exact rfl
          intro w' hw'
          have P3 := P3.same hw' (by simp)
          have xP3 := ten_cells P3
          go_simp
        · refine op_q ?uvn3 ?h1n3 ?h2n3 ?h3n3
          case h1n3 => exact rfl
          case uvn3 => exact (.agg #[.bool (sg n1), .int .u64 (l0 n1 : Int), .int .u64 (l1 n1 : Int), .int .u64 (l2 n1 : Int), .int .u64 (l3 n1 : Int), .bool (sg m1), .int .u64 (l0 m1 : Int), .int .u64 (l1 m1 : Int), .int .u64 (l2 m1 : Int), .int .u64 (l3 m1 : Int)])
          case h2n3 => exact rfl
          intro w' hw'
          have P2 := P2.same hw' (by simp)
          have xP2 := ten_cells P2
          go_simp
        · refine op_al ?uzn4 ?h1n4 ?h2n4 ?h3n4
          case h1n4 => exact rfl
          case h2n4 => exact rfl
          intro ρ w'
          go_simp
          rfl
        · refine op_al ?uzn5 ?h1n5 ?h2n5 ?h3n5
          case h1n5 => exact rfl
          case h2n5 => exact rfl
          intro ρ w'
          go_simp
          rfl
        · refine op_st (j := 2) (T := ?uTn6) (p := ?upn6) (x := ?uxn6) ?ufn6 ?uzn6 ?uvn6 ?h1n6 ?h2n6 ?h3n6 ?h4n6 ?h5n6 ?h6n6
          case h1n6 => exact rfl
          case h2n6 => exact rfl
          case ufn6 => exact (.cells #[.bool (sg n2), .int .u64 (l0 n2 : Int), .int .u64 (l1 n2 : Int), .int .u64 (l2 n2 : Int), .int .u64 (l3 n2 : Int), .bool (sg m2), .int .u64 (l0 m2 : Int), .int .u64 (l1 m2 : Int), .int .u64 (l2 m2 : Int), .int .u64 (l3 m2 : Int)] 35 (0, 0))
          case uzn6 => exact (.cells #[.bool false, .int .u64 0, .int .u64 0, .int .u64 0, .int .u64 0, .bool false, .int .u64 0, .int .u64 0, .int .u64 0, .int .u64 0] 35 (0, 0))
          case uvn6 => exact (.agg #[.bool (sg n2), .int .u64 (l0 n2 : Int), .int .u64 (l1 n2 : Int), .int .u64 (l2 n2 : Int), .int .u64 (l3 n2 : Int), .bool (sg m2), .int .u64 (l0 m2 : Int), .int .u64 (l1 m2 : Int), .int .u64 (l2 m2 : Int), .int .u64 (l3 m2 : Int)])
          case h3n6 => exact rfl
          case h4n6 => exact rfl
          case h5n6 => go_simp
          intro ρ w' g' hp hx hz
          exact store_ratio rfl hp hx hz
        · refine op_st (j := 3) (T := ?uTn7) (p := ?upn7) (x := ?uxn7) ?ufn7 ?uzn7 ?uvn7 ?h1n7 ?h2n7 ?h3n7 ?h4n7 ?h5n7 ?h6n7
          case h1n7 => exact rfl
          case h2n7 => exact rfl
          case ufn7 => exact (.cells #[.bool (sg n1), .int .u64 (l0 n1 : Int), .int .u64 (l1 n1 : Int), .int .u64 (l2 n1 : Int), .int .u64 (l3 n1 : Int), .bool (sg m1), .int .u64 (l0 m1 : Int), .int .u64 (l1 m1 : Int), .int .u64 (l2 m1 : Int), .int .u64 (l3 m1 : Int)] 35 (0, 0))
          case uzn7 => exact (.cells #[.bool false, .int .u64 0, .int .u64 0, .int .u64 0, .int .u64 0, .bool false, .int .u64 0, .int .u64 0, .int .u64 0, .int .u64 0] 35 (0, 0))
          case uvn7 => exact (.agg #[.bool (sg n1), .int .u64 (l0 n1 : Int), .int .u64 (l1 n1 : Int), .int .u64 (l2 n1 : Int), .int .u64 (l3 n1 : Int), .bool (sg m1), .int .u64 (l0 m1 : Int), .int .u64 (l1 m1 : Int), .int .u64 (l2 m1 : Int), .int .u64 (l3 m1 : Int)])
          case h3n7 => exact rfl
          case h4n7 => exact rfl
          case h5n7 => go_simp
          intro ρ w' g' hp hx hz
          exact store_ratio rfl hp hx hz
      · intro G W7 hI
        have hS := hI.same
        have P2 := P2.same hS (by simp)
        have P3 := P3.same hS (by simp)
        have P4 := P4.same hS (by simp)
        have EE := hide (hS.ext' EE.out (by simp))
        have P6 : Box10 W7 (G 2) (sg n2) (l0 n2) (l1 n2) (l2 n2) (l3 n2) (sg m2) (l0 m2) (l1 m2) (l2 m2) (l3 m2) := (hI.fulls 4 (List.mem_range.2 (show 4 < 6 by decide)) 2 rfl).2.2
        have hmP6 := (hI.made 2 (List.mem_range.2 (show 2 < 6 by decide)) rfl).1
        have P7 : Box10 W7 (G 3) (sg n1) (l0 n1) (l1 n1) (l2 n1) (l3 n1) (sg m1) (l0 m1) (l1 m1) (l2 m1) (l3 m1) := (hI.fulls 5 (List.mem_range.2 (show 5 < 6 by decide)) 3 rfl).2.2
        have hmP7 := (hI.made 3 (List.mem_range.2 (show 3 < 6 by decide)) rfl).1
        have ngP6P7 : G 2 ≠ G 3 := fun e => by have := hI.apart 2 (List.mem_range.2 (show 2 < 6 by decide)) 3 (List.mem_range.2 (show 3 < 6 by decide)) rfl rfl e; omega
        have ngP2P6 : g0 ≠ G 2 := by omega
        have ngP2P7 : g0 ≠ G 3 := by omega
        have ngP3P6 : g0 + 1 ≠ G 2 := by omega
        have ngP3P7 : g0 + 1 ≠ G 3 := by omega
        have ngP4P6 : g0 + 1 + 1 ≠ G 2 := by omega
        have ngP4P7 : g0 + 1 + 1 ≠ G 3 := by omega
        clear hI hS
        simp only [putAll, slotV, ptrTo, Nat.zero_add, Nat.reduceAdd]
        generalize G 2 = gP6 at *
        generalize G 3 = gP7 at *
        go_upto_region 7 with fail
        have lbP2 := P2.lt
        have lbP3 := P3.lt
        have lbP4 := P4.lt
        have lbP6 := P6.lt
        have lbP7 := P7.lt
        have ltW0 : ∀ c, Tag.so c ∈ [.q, .q, .q, .q, .q, .q, .q, .so 0, .q, .so 1] → (fun i => match i with | 0 => gP6 | _ => gP7) c < W7.heap.size := by intro c hc; simp at hc; rcases hc with rfl | rfl <;> (try simp only) <;> omega
        refine wp_decl [.q, .q, .q, .q, .q, .q, .q, .so 0, .q, .so 1] [.pointer (some ⟨gP6, 0, none⟩), .agg #[.bool (sg n2), .int .u64 (l0 n2 : Int), .int .u64 (l1 n2 : Int), .int .u64 (l2 n2 : Int), .int .u64 (l3 n2 : Int)], .agg #[.bool (sg u2), .int .u64 (l0 u2 : Int), .int .u64 (l1 u2 : Int), .int .u64 (l2 u2 : Int), .int .u64 (l3 u2 : Int)], .pointer (some ⟨gP7, 0, none⟩), .agg #[.bool (sg n1), .int .u64 (l0 n1 : Int), .int .u64 (l1 n1 : Int), .int .u64 (l2 n1 : Int), .int .u64 (l3 n1 : Int)], .agg #[.bool (sg u1), .int .u64 (l0 u1 : Int), .int .u64 (l1 u1 : Int), .int .u64 (l2 u1 : Int), .int .u64 (l3 u1 : Int)], .pointer (some ⟨gP6, 0, none⟩), undef, .pointer (some ⟨gP7, 0, none⟩), undef] (fun _ => (.cells #[.bool false, .int .u64 0, .int .u64 0, .int .u64 0, .int .u64 0] 25 (0, 0))) (fun i => match i with | 7 => (.cells #[.bool (sg u2), .int .u64 (l0 u2 : Int), .int .u64 (l1 u2 : Int), .int .u64 (l2 u2 : Int), .int .u64 (l3 u2 : Int), .bool (sg m2), .int .u64 (l0 m2 : Int), .int .u64 (l1 m2 : Int), .int .u64 (l2 m2 : Int), .int .u64 (l3 m2 : Int)] 35 (0, 0)) | _ => (.cells #[.bool (sg u1), .int .u64 (l0 u1 : Int), .int .u64 (l1 u1 : Int), .int .u64 (l2 u1 : Int), .int .u64 (l3 u1 : Int), .bool (sg m1), .int .u64 (l0 m1 : Int), .int .u64 (l1 m1 : Int), .int .u64 (l2 m1 : Int), .int .u64 (l3 m1 : Int)] 35 (0, 0))) (fun i => match i with | 0 => gP6 | _ => gP7) (by kernel_rfl) (by kernel_rfl) (by kernel_rfl) rfl rfl ltW0 (by intro c c' h1 h2 h3; simp at h1 h2; rcases h1 with rfl | rfl <;> rcases h2 with rfl | rfl <;> simp only at h3 <;> omega) ?_ ?_
        · refine ⟨?_, ?_, ?_, ?_, ?_, ?_, ?_, ?_, ?_, ?_, trivial⟩
          · refine op_q ?uvn9 ?h1n9 ?h2n9 ?h3n9
            case h1n9 => exact rfl
            case uvn9 => exact (.pointer (some ⟨gP6, 0, none⟩))
            case h2n9 => exact rfl
            intro w' hw'
            go_simp
          · refine op_qa ?uvn10 ?h1n10 ?h2n10 ?h3n10
            case h1n10 => exact rfl
            case uvn10 => exact (.agg #[.bool (sg n2), .int .u64 (l0 n2 : Int), .int .u64 (l1 n2 : Int), .int .u64 (l2 n2 : Int), .int .u64 (l3 n2 : Int)])
            case h2n10 => exact rfl
            intro w' hw' ha
            have P6 : Box10 w' gP6 (sg n2) (l0 n2) (l1 n2) (l2 n2) (l3 n2) (sg m2) (l0 m2) (l1 m2) (l2 m2) (l3 m2) := (ha 7 0 rfl (by kernel_rfl)).trans P6
            have xP6 := ten_cells P6
            go_simp
          · refine op_q ?uvn11 ?h1n11 ?h2n11 ?h3n11
            case h1n11 => exact rfl
            case uvn11 => exact (.agg #[.bool (sg u2), .int .u64 (l0 u2 : Int), .int .u64 (l1 u2 : Int), .int .u64 (l2 u2 : Int), .int .u64 (l3 u2 : Int)])
            case h2n11 => exact rfl
            intro w' hw'
            go_simp
            exact kN2.out w'
          · refine op_q ?uvn12 ?h1n12 ?h2n12 ?h3n12
            case h1n12 => exact rfl
            case uvn12 => exact (.pointer (some ⟨gP7, 0, none⟩))
            case h2n12 => exact rfl
            intro w' hw'
            go_simp
          · refine op_qa ?uvn13 ?h1n13 ?h2n13 ?h3n13
            case h1n13 => exact rfl
            case uvn13 => exact (.agg #[.bool (sg n1), .int .u64 (l0 n1 : Int), .int .u64 (l1 n1 : Int), .int .u64 (l2 n1 : Int), .int .u64 (l3 n1 : Int)])
            case h2n13 => exact rfl
            intro w' hw' ha
            have P7 : Box10 w' gP7 (sg n1) (l0 n1) (l1 n1) (l2 n1) (l3 n1) (sg m1) (l0 m1) (l1 m1) (l2 m1) (l3 m1) := (ha 9 1 rfl (by kernel_rfl)).trans P7
            have xP7 := ten_cells P7
            go_simp
          · refine op_q ?uvn14 ?h1n14 ?h2n14 ?h3n14
            case h1n14 => exact rfl
            case uvn14 => exact (.agg #[.bool (sg u1), .int .u64 (l0 u1 : Int), .int .u64 (l1 u1 : Int), .int .u64 (l2 u1 : Int), .int .u64 (l3 u1 : Int)])
            case h2n14 => exact rfl
            intro w' hw'
            go_simp
            exact kN1.out w'
          · refine op_q ?uvn15 ?h1n15 ?h2n15 ?h3n15
            case h1n15 => exact rfl
            case uvn15 => exact (.pointer (some ⟨gP6, 0, none⟩))
            case h2n15 => exact rfl
            intro w' hw'
            go_simp
          · refine op_so (c := 0) (T := ?uTn16) (p := ?upn16) (x := ?uxn16) ?ugn16 ?ufn16 ?uvn16 ?h1n16 ?h2n16 ?h3n16 ?h4n16 ?h5n16 ?h6n16 ?h7n16
            case h1n16 => exact rfl
            case h2n16 => exact rfl
            case ufn16 => exact (.cells #[.bool (sg u2), .int .u64 (l0 u2 : Int), .int .u64 (l1 u2 : Int), .int .u64 (l2 u2 : Int), .int .u64 (l3 u2 : Int), .bool (sg m2), .int .u64 (l0 m2 : Int), .int .u64 (l1 m2 : Int), .int .u64 (l2 m2 : Int), .int .u64 (l3 m2 : Int)] 35 (0, 0))
            case ugn16 => exact gP6
            case uvn16 => exact (.agg #[.bool (sg u2), .int .u64 (l0 u2 : Int), .int .u64 (l1 u2 : Int), .int .u64 (l2 u2 : Int), .int .u64 (l3 u2 : Int)])
            case h3n16 => exact rfl
            case h4n16 => exact rfl
            case h5n16 => go_simp; rfl
            case h6n16 => go_simp
            intro ρ w' hp hx hz
            exact store_num rfl hp hx (hz.trans P6)
          · refine op_q ?uvn17 ?h1n17 ?h2n17 ?h3n17
            case h1n17 => exact rfl
            case uvn17 => exact (.pointer (some ⟨gP7, 0, none⟩))
            case h2n17 => exact rfl
            intro w' hw'
            go_simp
          · refine op_so (c := 1) (T := ?uTn18) (p := ?upn18) (x := ?uxn18) ?ugn18 ?ufn18 ?uvn18 ?h1n18 ?h2n18 ?h3n18 ?h4n18 ?h5n18 ?h6n18 ?h7n18
            case h1n18 => exact rfl
            case h2n18 => exact rfl
            case ufn18 => exact (.cells #[.bool (sg u1), .int .u64 (l0 u1 : Int), .int .u64 (l1 u1 : Int), .int .u64 (l2 u1 : Int), .int .u64 (l3 u1 : Int), .bool (sg m1), .int .u64 (l0 m1 : Int), .int .u64 (l1 m1 : Int), .int .u64 (l2 m1 : Int), .int .u64 (l3 m1 : Int)] 35 (0, 0))
            case ugn18 => exact gP7
            case uvn18 => exact (.agg #[.bool (sg u1), .int .u64 (l0 u1 : Int), .int .u64 (l1 u1 : Int), .int .u64 (l2 u1 : Int), .int .u64 (l3 u1 : Int)])
            case h3n18 => exact rfl
            case h4n18 => exact rfl
            case h5n18 => go_simp; rfl
            case h6n18 => go_simp
            intro ρ w' hp hx hz
            exact store_num rfl hp hx (hz.trans P7)
        · intro G W8 hI
          have hS := hI.same
          have P2 := P2.same hS (by intro c hc; simp at hc; rcases hc with rfl | rfl <;> (try simp only) <;> omega)
          have P3 := P3.same hS (by intro c hc; simp at hc; rcases hc with rfl | rfl <;> (try simp only) <;> omega)
          have P4 := P4.same hS (by intro c hc; simp at hc; rcases hc with rfl | rfl <;> (try simp only) <;> omega)
          have hso : ∀ c, Tag.so c ∈ [.q, .q, .q, .q, .q, .q, .q, .so 0, .q, .so 1] → w.heap.size ≤ (fun i => match i with | 0 => gP6 | _ => gP7) c := by intro c hc; simp at hc; rcases hc with rfl | rfl <;> (try simp only) <;> omega
          have EE := hide (hS.ext' EE.out hso)
          have P6 : Box10 W8 gP6 (sg u2) (l0 u2) (l1 u2) (l2 u2) (l3 u2) (sg m2) (l0 m2) (l1 m2) (l2 m2) (l3 m2) := hI.olds' 7 (List.mem_range.2 (show 7 < 10 by decide)) 0 rfl
          have P7 : Box10 W8 gP7 (sg u1) (l0 u1) (l1 u1) (l2 u1) (l3 u1) (sg m1) (l0 m1) (l1 m1) (l2 m1) (l3 m1) := hI.olds' 9 (List.mem_range.2 (show 9 < 10 by decide)) 1 rfl
          clear hI hS
          simp only [putAll, slotV, ptrTo, Nat.zero_add, Nat.reduceAdd]
          go_upto_region 8 with fail
          obtain ⟨xP60, xP61, xP62, xP63, xP64, xP65, xP66, xP67, xP68, xP69, -⟩ := ten_cells P6; obtain ⟨xP70, xP71, xP72, xP73, xP74, xP75, xP76, xP77, xP78, xP79, -⟩ := ten_cells P7
          go_upto_region 9 with (go_at_call 119; (with_reducible refine (kB.out _).mono ?_); rintro e w9 ⟨rfl, hE⟩; clear xP60 xP61 xP62 xP63 xP64 xP65 xP66 xP67 xP68 xP69 xP70 xP71 xP72 xP73 xP74 xP75 xP76 xP77 xP78 xP79; have P2 := P2.ext hE; have P3 := P3.ext hE; have P4 := P4.ext hE; have P6 := P6.ext hE; have P7 := P7.ext hE; have EE := hide (EE.out.trans hE); clear hE; obtain ⟨xP60, xP61, xP62, xP63, xP64, xP65, xP66, xP67, xP68, xP69, -⟩ := ten_cells P6; obtain ⟨xP70, xP71, xP72, xP73, xP74, xP75, xP76, xP77, xP78, xP79, -⟩ := ten_cells P7)
          clear xP60 xP61 xP62 xP63 xP64 xP65 xP66 xP67 xP68 xP69 xP70 xP71 xP72 xP73 xP74 xP75 xP76 xP77 xP78 xP79
          have H2 := two_blocks w9 (.cells #[.bool (sg u), .int .u64 (l0 u : Int), .int .u64 (l1 u : Int), .int .u64 (l2 u : Int), .int .u64 (l3 u : Int)] 25) (.cells #[.bool (sg m), .int .u64 (l0 m : Int), .int .u64 (l1 m : Int), .int .u64 (l2 m : Int), .int .u64 (l3 m : Int)] 25)
          have lP2 := P2.lt
          have lP3 := P3.lt
          have lP4 := P4.lt
          have lP6 := P6.lt
          have lP7 := P7.lt
          have hE := ((ext_alloc w9 (.cells #[.bool (sg u), .int .u64 (l0 u : Int), .int .u64 (l1 u : Int), .int .u64 (l2 u : Int), .int .u64 (l3 u : Int)] 25)).trans (ext_alloc _ (.cells #[.bool (sg m), .int .u64 (l0 m : Int), .int .u64 (l1 m : Int), .int .u64 (l2 m : Int), .int .u64 (l3 m : Int)] 25)))
          have P2 := P2.ext hE
          have P3 := P3.ext hE
          have P4 := P4.ext hE
          have P6 := P6.ext hE
          have P7 := P7.ext hE
          have EE := hide (EE.out.trans hE)
          clear hE
          obtain ⟨W10, hW⟩ : ∃ W, W = ((w9.alloc (.cells #[.bool (sg u), .int .u64 (l0 u : Int), .int .u64 (l1 u : Int), .int .u64 (l2 u : Int), .int .u64 (l3 u : Int)] 25)).alloc (.cells #[.bool (sg m), .int .u64 (l0 m : Int), .int .u64 (l1 m : Int), .int .u64 (l2 m : Int), .int .u64 (l3 m : Int)] 25)) := ⟨_, rfl⟩
          rw [← hW] at H2 EE P2 P3 P4 P6 P7 ⊢
          obtain ⟨g11, hg⟩ : ∃ g, w9.heap.size = g := ⟨_, rfl⟩
          rw [hg] at H2 lP2 lP3 lP4 lP6 lP7 ⊢
          obtain ⟨P8, P9⟩ : Box W10 g11 (sg u) (l0 u) (l1 u) (l2 u) (l3 u) ∧ Box W10 (g11 + 1) (sg m) (l0 m) (l1 m) (l2 m) (l3 m) := H2
          clear hW hg
          have ngP2P8 : g0 ≠ g11 := by omega
          have ngP2P9 : g0 ≠ g11 + 1 := by omega
          have ngP3P8 : g0 + 1 ≠ g11 := by omega
          have ngP3P9 : g0 + 1 ≠ g11 + 1 := by omega
          have ngP4P8 : g0 + 1 + 1 ≠ g11 := by omega
          have ngP4P9 : g0 + 1 + 1 ≠ g11 + 1 := by omega
          have ngP6P8 : gP6 ≠ g11 := by omega
          have ngP6P9 : gP6 ≠ g11 + 1 := by omega
          have ngP7P8 : gP7 ≠ g11 := by omega
          have ngP7P9 : gP7 ≠ g11 + 1 := by omega
          have lbP2 := P2.lt
          have lbP3 := P3.lt
          have lbP4 := P4.lt
          have lbP6 := P6.lt
          have lbP7 := P7.lt
          have lbP8 := P8.lt
          have lbP9 := P9.lt
          have ltW0 : ∀ c, Tag.so c ∈ [.q, .q, .q, .q, .so 0, .q] → (fun _ => g0 + 1 + 1) c < W10.heap.size := by intro c hc; simp at hc; (try subst hc); (try simp only); omega
          refine wp_decl [.q, .q, .q, .q, .so 0, .q] [.agg #[.bool (sg u), .int .u64 (l0 u : Int), .int .u64 (l1 u : Int), .int .u64 (l2 u : Int), .int .u64 (l3 u : Int)], .agg #[.bool (sg n), .int .u64 (l0 n : Int), .int .u64 (l1 n : Int), .int .u64 (l2 n : Int), .int .u64 (l3 n : Int)], .agg #[.bool (sg m), .int .u64 (l0 m : Int), .int .u64 (l1 m : Int), .int .u64 (l2 m : Int), .int .u64 (l3 m : Int)], .agg #[.bool (sg n), .int .u64 (l0 n : Int), .int .u64 (l1 n : Int), .int .u64 (l2 n : Int), .int .u64 (l3 n : Int), .bool (sg m), .int .u64 (l0 m : Int), .int .u64 (l1 m : Int), .int .u64 (l2 m : Int), .int .u64 (l3 m : Int)], undef, .bool true] (fun _ => (.cells #[.bool false, .int .u64 0, .int .u64 0, .int .u64 0, .int .u64 0] 25 (0, 0))) (fun _ => (.cells #[.bool (sg n), .int .u64 (l0 n : Int), .int .u64 (l1 n : Int), .int .u64 (l2 n : Int), .int .u64 (l3 n : Int), .bool (sg m), .int .u64 (l0 m : Int), .int .u64 (l1 m : Int), .int .u64 (l2 m : Int), .int .u64 (l3 m : Int)] 35 (0, 0))) (fun _ => g0 + 1 + 1) (by kernel_rfl) (by kernel_rfl) (by kernel_rfl) rfl rfl ltW0 (by intro c c' h1 h2 _; simp at h1 h2; omega) ?_ ?_
          · refine ⟨?_, ?_, ?_, ?_, ?_, ?_, trivial⟩
            · refine op_q ?uvn20 ?h1n20 ?h2n20 ?h3n20
              case h1n20 => exact rfl
              case uvn20 => exact (.agg #[.bool (sg u), .int .u64 (l0 u : Int), .int .u64 (l1 u : Int), .int .u64 (l2 u : Int), .int .u64 (l3 u : Int)])
              case h2n20 => exact rfl
              intro w' hw'
              have P8 := P8.same hw' (by intro c hc; simp at hc; (try subst hc); (try simp only); omega)
              have xP8 := five_cells P8
              go_simp
            · refine op_q ?uvn21 ?h1n21 ?h2n21 ?h3n21
              case h1n21 => exact rfl
              case uvn21 => exact (.agg #[.bool (sg n), .int .u64 (l0 n : Int), .int .u64 (l1 n : Int), .int .u64 (l2 n : Int), .int .u64 (l3 n : Int)])
              case h2n21 => exact rfl
              intro w' hw'
              go_simp
              exact kN.out w'
            · refine op_q ?uvn22 ?h1n22 ?h2n22 ?h3n22
              case h1n22 => exact rfl
              case uvn22 => exact (.agg #[.bool (sg m), .int .u64 (l0 m : Int), .int .u64 (l1 m : Int), .int .u64 (l2 m : Int), .int .u64 (l3 m : Int)])
              case h2n22 => exact rfl
              intro w' hw'
              have P9 := P9.same hw' (by intro c hc; simp at hc; (try subst hc); (try simp only); omega)
              have xP9 := five_cells P9
              go_simp
            · refine op_q ?uvn23 ?h1n23 ?h2n23 ?h3n23
              case h1n23 => exact rfl
              case uvn23 => exact (.agg #[.bool (sg n), .int .u64 (l0 n : Int), .int .u64 (l1 n : Int), .int .u64 (l2 n : Int), .int .u64 (l3 n : Int), .bool (sg m), .int .u64 (l0 m : Int), .int .u64 (l1 m : Int), .int .u64 (l2 m : Int), .int .u64 (l3 m : Int)])
              case h2n23 => exact rfl
              intro w' hw'
              go_simp
            · refine op_so (c := 0) (T := ?uTn24) (p := ?upn24) (x := ?uxn24) ?ugn24 ?ufn24 ?uvn24 ?h1n24 ?h2n24 ?h3n24 ?h4n24 ?h5n24 ?h6n24 ?h7n24
              case h1n24 => exact rfl
              case h2n24 => exact rfl
              case ufn24 => exact (.cells #[.bool (sg n), .int .u64 (l0 n : Int), .int .u64 (l1 n : Int), .int .u64 (l2 n : Int), .int .u64 (l3 n : Int), .bool (sg m), .int .u64 (l0 m : Int), .int .u64 (l1 m : Int), .int .u64 (l2 m : Int), .int .u64 (l3 m : Int)] 35 (0, 0))
              case ugn24 => exact g0 + 1 + 1
              case uvn24 => exact (.agg #[.bool (sg n), .int .u64 (l0 n : Int), .int .u64 (l1 n : Int), .int .u64 (l2 n : Int), .int .u64 (l3 n : Int), .bool (sg m), .int .u64 (l0 m : Int), .int .u64 (l1 m : Int), .int .u64 (l2 m : Int), .int .u64 (l3 m : Int)])
              case h3n24 => exact rfl
              case h4n24 => exact rfl
              case h5n24 => go_simp; rfl
              case h6n24 => go_simp
              intro ρ w' hp hx hz
              exact store_ratio rfl hp hx (hz.trans P4)
            · refine op_q ?uvn25 ?h1n25 ?h2n25 ?h3n25
              case h1n25 => exact rfl
              case uvn25 => exact (.bool true)
              case h2n25 => exact rfl
              intro w' hw'
              go_simp
          · intro G W12 hI
            have hS := hI.same
            have P2 := P2.same hS (by intro c hc; simp at hc; (try subst hc); (try simp only); omega)
            have P3 := P3.same hS (by intro c hc; simp at hc; (try subst hc); (try simp only); omega)
            have P6 := P6.same hS (by intro c hc; simp at hc; (try subst hc); (try simp only); omega)
            have P7 := P7.same hS (by intro c hc; simp at hc; (try subst hc); (try simp only); omega)
            have P8 := P8.same hS (by intro c hc; simp at hc; (try subst hc); (try simp only); omega)
            have P9 := P9.same hS (by intro c hc; simp at hc; (try subst hc); (try simp only); omega)
            have hso : ∀ c, Tag.so c ∈ [.q, .q, .q, .q, .so 0, .q] → w.heap.size ≤ (fun _ => g0 + 1 + 1) c := by intro c hc; simp at hc; (try subst hc); (try simp only); omega
            have EE := hide (hS.ext' EE.out hso)
            have P4 : Box10 W12 (g0 + 1 + 1) (sg n) (l0 n) (l1 n) (l2 n) (l3 n) (sg m) (l0 m) (l1 m) (l2 m) (l3 m) := hI.olds' 4 (List.mem_range.2 (show 4 < 6 by decide)) 0 rfl
            clear hI hS
            simp only [putAll, slotV, ptrTo, Nat.zero_add, Nat.reduceAdd]
            go_wp2_with fail
            obtain ⟨xP40, xP41, xP42, xP43, xP44, xP45, xP46, xP47, xP48, xP49, xP4f0, xP4f1, xP4f2, xP4f3, xP4f4, xP4f5, xP4f6, xP4f7, xP4f8, xP4f9⟩ := ten_cells P4
            exact bodyPost_ret (v := .tuple #[.agg #[.bool (sg n), .int .u64 (l0 n : Int), .int .u64 (l1 n : Int), .int .u64 (l2 n : Int), .int .u64 (l3 n : Int), .bool (sg m), .int .u64 (l0 m : Int), .int .u64 (l1 m : Int), .int .u64 (l2 m : Int), .int .u64 (l3 m : Int)], .bool true]) (by simp [results, Try.results73, go_sem, xP40, xP41, xP42, xP43, xP44, xP45, xP46, xP47, xP48, xP49]) rfl ⟨rfl, EE.out⟩
    · obtain ⟨en, em⟩ := Best.unique h1.1 h2.1 B (Best.zero (by omega) (by omega))
      subst en em
      obtain ⟨i, hi, i1, i2, _⟩ := some_sign n2
      have hi0 : 0 ≤ i := by rcases Int.lt_or_le i 0 with h | h; · exact absurd (i1.1 h) hq
                             · exact h
      obtain ⟨j, hj, j1, j2, _⟩ := some_sign n1
      have hj0 : j ≤ 0 := by rcases Int.lt_or_le 0 j with h | h; · exact absurd (j2.1 h) hp
                             · exact h
      have kS : Hid (∀ w, Calls Try.prog 35 #[.agg #[.bool (sg n1), .int .u64 (l0 n1 : Int), .int .u64 (l1 n1 : Int), .int .u64 (l2 n1 : Int), .int .u64 (l3 n1 : Int)]] w (Ret (.int .i64 j) w)) := fun w => d_sign h1.fn hj w
      have kT : Hid (∀ w, Calls Try.prog 35 #[.agg #[.bool (sg n2), .int .u64 (l0 n2 : Int), .int .u64 (l1 n2 : Int), .int .u64 (l2 n2 : Int), .int .u64 (l3 n2 : Int)]] w (Ret (.int .i64 i) w)) := fun w => d_sign h2.fn hi w
      have kO : Hid (∀ w, Calls Try.prog 92 #[.int .i64 0] w (Ret (.agg #[.bool (sg 0), .int .u64 (l0 0 : Int), .int .u64 (l1 0 : Int), .int .u64 (l2 0 : Int), .int .u64 (l3 0 : Int), .bool (sg 1), .int .u64 (l0 1 : Int), .int .u64 (l1 1 : Int), .int .u64 (l2 1 : Int), .int .u64 (l3 1 : Int)]) w)) := fun w => h_of (by omega) (by omega) w
      clear h1 h2 hle B hp hq hi i1 i2 hj j1 j2
      obtain ⟨W0, hW0⟩ : ∃ W0, W0 = (((w.alloc (.cells #[.bool (sg n1), .int .u64 (l0 n1 : Int), .int .u64 (l1 n1 : Int), .int .u64 (l2 n1 : Int), .int .u64 (l3 n1 : Int), .bool (sg m1), .int .u64 (l0 m1 : Int), .int .u64 (l1 m1 : Int), .int .u64 (l2 m1 : Int), .int .u64 (l3 m1 : Int)] 35)).alloc (.cells #[.bool (sg n2), .int .u64 (l0 n2 : Int), .int .u64 (l1 n2 : Int), .int .u64 (l2 n2 : Int), .int .u64 (l3 n2 : Int), .bool (sg m2), .int .u64 (l0 m2 : Int), .int .u64 (l1 m2 : Int), .int .u64 (l2 m2 : Int), .int .u64 (l3 m2 : Int)] 35)).alloc (.cells #[.bool false, .int .u64 0, .int .u64 0, .int .u64 0, .int .u64 0, .bool false, .int .u64 0, .int .u64 0, .int .u64 0, .int .u64 0] 35)) := ⟨_, rfl⟩
      have H2 := three_boxes w (.cells #[.bool (sg n1), .int .u64 (l0 n1 : Int), .int .u64 (l1 n1 : Int), .int .u64 (l2 n1 : Int), .int .u64 (l3 n1 : Int), .bool (sg m1), .int .u64 (l0 m1 : Int), .int .u64 (l1 m1 : Int), .int .u64 (l2 m1 : Int), .int .u64 (l3 m1 : Int)] 35) (.cells #[.bool (sg n2), .int .u64 (l0 n2 : Int), .int .u64 (l1 n2 : Int), .int .u64 (l2 n2 : Int), .int .u64 (l3 n2 : Int), .bool (sg m2), .int .u64 (l0 m2 : Int), .int .u64 (l1 m2 : Int), .int .u64 (l2 m2 : Int), .int .u64 (l3 m2 : Int)] 35) (.cells #[.bool false, .int .u64 0, .int .u64 0, .int .u64 0, .int .u64 0, .bool false, .int .u64 0, .int .u64 0, .int .u64 0, .int .u64 0] 35)
      have EE0 : Ext w W0 := by rw [hW0]; exact (((ext_alloc _ _).trans (ext_alloc _ _)).trans (ext_alloc _ _))
      rw [← hW0] at H2
      have EE := hide EE0
      have HW := hide hW0
      obtain ⟨P2, P3, P4⟩ : Box10 W0 (w.heap.size) (sg n1) (l0 n1) (l1 n1) (l2 n1) (l3 n1) (sg m1) (l0 m1) (l1 m1) (l2 m1) (l3 m1) ∧ Box10 W0 ((w.heap.size + 1)) (sg n2) (l0 n2) (l1 n2) (l2 n2) (l3 n2) (sg m2) (l0 m2) (l1 m2) (l2 m2) (l3 m2) ∧ Box10 W0 ((w.heap.size + 1 + 1)) false 0 0 0 0 false 0 0 0 0 := H2
      clear hW0 EE0
      go_enter Try.func73, Try.ntmps73
      go_upto_region 1 with fail
      rw [← HW.out]
      clear HW
      have hg0 : w.heap.size ≤ w.heap.size := Nat.le_refl _
      obtain ⟨g0, hg⟩ : ∃ g, w.heap.size = g := ⟨_, rfl⟩
      rw [hg] at P2 P3 P4 ⊢
      replace hg0 : w.heap.size ≤ g0 := Nat.le_of_eq hg
      clear hg
      obtain ⟨xP20, xP21, xP22, xP23, xP24, xP25, xP26, xP27, xP28, xP29, -⟩ := ten_cells P2; obtain ⟨xP30, xP31, xP32, xP33, xP34, xP35, xP36, xP37, xP38, xP39, -⟩ := ten_cells P3
      go_upto_region 3 with (first
        | (go_at_call 28; (with_reducible refine (kV1.out _).mono ?_); rintro e w1 ⟨rfl, hE⟩; clear xP20 xP21 xP22 xP23 xP24 xP25 xP26 xP27 xP28 xP29 xP30 xP31 xP32 xP33 xP34 xP35 xP36 xP37 xP38 xP39; have P2 := P2.ext hE; have P3 := P3.ext hE; have P4 := P4.ext hE; have EE := hide (EE.out.trans hE); clear hE; obtain ⟨xP20, xP21, xP22, xP23, xP24, xP25, xP26, xP27, xP28, xP29, -⟩ := ten_cells P2; obtain ⟨xP30, xP31, xP32, xP33, xP34, xP35, xP36, xP37, xP38, xP39, -⟩ := ten_cells P3)
        | (go_at_call 28; (with_reducible refine (kV2.out _).mono ?_); rintro e w2 ⟨rfl, hE⟩; clear xP20 xP21 xP22 xP23 xP24 xP25 xP26 xP27 xP28 xP29 xP30 xP31 xP32 xP33 xP34 xP35 xP36 xP37 xP38 xP39; have P2 := P2.ext hE; have P3 := P3.ext hE; have P4 := P4.ext hE; have EE := hide (EE.out.trans hE); clear hE; obtain ⟨xP20, xP21, xP22, xP23, xP24, xP25, xP26, xP27, xP28, xP29, -⟩ := ten_cells P2; obtain ⟨xP30, xP31, xP32, xP33, xP34, xP35, xP36, xP37, xP38, xP39, -⟩ := ten_cells P3)
        | (go_at_call 29; (with_reducible refine (kC.out _).mono ?_); rintro e w3 ⟨rfl, hE⟩; clear xP20 xP21 xP22 xP23 xP24 xP25 xP26 xP27 xP28 xP29 xP30 xP31 xP32 xP33 xP34 xP35 xP36 xP37 xP38 xP39; have P2 := P2.ext hE; have P3 := P3.ext hE; have P4 := P4.ext hE; have EE := hide (EE.out.trans hE); clear hE; obtain ⟨xP20, xP21, xP22, xP23, xP24, xP25, xP26, xP27, xP28, xP29, -⟩ := ten_cells P2; obtain ⟨xP30, xP31, xP32, xP33, xP34, xP35, xP36, xP37, xP38, xP39, -⟩ := ten_cells P3))
      clear xP20 xP21 xP22 xP23 xP24 xP25 xP26 xP27 xP28 xP29 xP30 xP31 xP32 xP33 xP34 xP35 xP36 xP37 xP38 xP39
      obtain ⟨xP20, xP21, xP22, xP23, xP24, xP25, xP26, xP27, xP28, xP29, -⟩ := ten_cells P2; obtain ⟨xP30, xP31, xP32, xP33, xP34, xP35, xP36, xP37, xP38, xP39, -⟩ := ten_cells P3
      go_upto_region 4 with (first
        | (go_at_call 35; (with_reducible refine (kS.out _).mono ?_); rintro e w4 ⟨rfl, hE⟩; clear xP20 xP21 xP22 xP23 xP24 xP25 xP26 xP27 xP28 xP29 xP30 xP31 xP32 xP33 xP34 xP35 xP36 xP37 xP38 xP39; have P2 := P2.ext hE; have P3 := P3.ext hE; have P4 := P4.ext hE; have EE := hide (EE.out.trans hE); clear hE; obtain ⟨xP20, xP21, xP22, xP23, xP24, xP25, xP26, xP27, xP28, xP29, -⟩ := ten_cells P2; obtain ⟨xP30, xP31, xP32, xP33, xP34, xP35, xP36, xP37, xP38, xP39, -⟩ := ten_cells P3)
        | (go_at_call 35; (with_reducible refine (kT.out _).mono ?_); rintro e w5 ⟨rfl, hE⟩; clear xP20 xP21 xP22 xP23 xP24 xP25 xP26 xP27 xP28 xP29 xP30 xP31 xP32 xP33 xP34 xP35 xP36 xP37 xP38 xP39; have P2 := P2.ext hE; have P3 := P3.ext hE; have P4 := P4.ext hE; have EE := hide (EE.out.trans hE); clear hE; obtain ⟨xP20, xP21, xP22, xP23, xP24, xP25, xP26, xP27, xP28, xP29, -⟩ := ten_cells P2; obtain ⟨xP30, xP31, xP32, xP33, xP34, xP35, xP36, xP37, xP38, xP39, -⟩ := ten_cells P3))
      clear xP20 xP21 xP22 xP23 xP24 xP25 xP26 xP27 xP28 xP29 xP30 xP31 xP32 xP33 xP34 xP35 xP36 xP37 xP38 xP39
      obtain ⟨xP40, xP41, xP42, xP43, xP44, xP45, xP46, xP47, xP48, xP49, xP4f0, xP4f1, xP4f2, xP4f3, xP4f4, xP4f5, xP4f6, xP4f7, xP4f8, xP4f9⟩ := ten_cells P4
      go_wp2_with (first
        | (go_at_call 92; (with_reducible refine (kO.out _).mono ?_); rintro e w6 ⟨rfl, hE⟩; clear xP40 xP41 xP42 xP43 xP44 xP45 xP46 xP47 xP48 xP49 xP4f0 xP4f1 xP4f2 xP4f3 xP4f4 xP4f5 xP4f6 xP4f7 xP4f8 xP4f9; have P2 := P2.ext hE; have P3 := P3.ext hE; have P4 := P4.ext hE; have EE := hide (EE.out.trans hE); clear hE; obtain ⟨xP40, xP41, xP42, xP43, xP44, xP45, xP46, xP47, xP48, xP49, xP4f0, xP4f1, xP4f2, xP4f3, xP4f4, xP4f5, xP4f6, xP4f7, xP4f8, xP4f9⟩ := ten_cells P4))
      exact bodyPost_ret (v := .tuple #[.agg #[.bool (sg 0), .int .u64 (l0 0 : Int), .int .u64 (l1 0 : Int), .int .u64 (l2 0 : Int), .int .u64 (l3 0 : Int), .bool (sg 1), .int .u64 (l0 1 : Int), .int .u64 (l1 1 : Int), .int .u64 (l2 1 : Int), .int .u64 (l3 1 : Int)], .bool true]) (by simp [results, Try.results73, go_sem, xP40, xP41, xP42, xP43, xP44, xP45, xP46, xP47, xP48, xP49]) rfl ⟨rfl, ext_ten EE.out (by omega) _ _ _ _ _ _ _ _ _ _⟩
end Go.Proofs.Ytbnbkondbdakeaa
