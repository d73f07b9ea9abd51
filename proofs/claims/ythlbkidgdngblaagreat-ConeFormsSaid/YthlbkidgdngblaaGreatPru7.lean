/- Part 7 of what these claims stand on: contracts of the program's and the reference's functions, and plain facts. Conditions: each states its own. -/
import Derived.Test.YthlbkidgdngblaaGreatPru6
import Derived.Deep.Strs
namespace Go.Proofs.YthlbkidgdngblaaGreat
set_option linter.unusedVariables false
set_option linter.unusedSimpArgs false
section
open Go Go.RowKit Go.Sort
attribute [local go_sem] qUpon putAll slotV
theorem set5 (v0 v1 v2 v3 v4 v5 v6 v7 v8 v9 u0 u1 u2 u3 u4 : Value) : (((((#[v0, v1, v2, v3, v4, v5, v6, v7, v8, v9] : Array Value).setIfInBounds 0 u0).setIfInBounds 1 u1).setIfInBounds 2 u2).setIfInBounds 3 u3).setIfInBounds 4 u4 = #[u0, u1, u2, u3, u4, v5, v6, v7, v8, v9] := by
 apply Array.ext'
 simp only [Array.toList_setIfInBounds, List.set_cons_zero, List.set_cons_succ]
theorem Box10.num {w : World} {k : Nat} {s : Bool} {a b c d : Nat} {t : Bool} {e f g h : Nat} {s' : Bool} {a' b' c' d' : Nat} (x : Box10 w k s a b c d t e f g h) : Box10 (((((w.setCell ⟨k, 0, none⟩ (.bool s')).setCell ⟨k, 1, none⟩ (.int .u64 (a' : Int))).setCell ⟨k, 2, none⟩ (.int .u64 (b' : Int))).setCell ⟨k, 3, none⟩ (.int .u64 (c' : Int))).setCell ⟨k, 4, none⟩ (.int .u64 (d' : Int))) k s' a' b' c' d' t e f g h := by
 have y := store_block (store_block (store_block (store_block (store_block x 0 (.bool s')) 1 (.int .u64 (a' : Int))) 2 (.int .u64 (b' : Int))) 3 (.int .u64 (c' : Int))) 4 (.int .u64 (d' : Int))
 rw [set5] at y
 exact y
theorem store_num {ρ : Operand → Value} {o : Oper} {p x : Operand} {w : World} {g : Nat} {s s' t : Bool} {a b c d a' b' c' d' e f h i : Nat} (hop : o.op = .store 25 p x) (hp : ρ p = ptrTo g) (hx : ρ x = .agg #[.bool s, .int .u64 (a : Int), .int .u64 (b : Int), .int .u64 (c : Int), .int .u64 (d : Int)]) (hz : w.heap[g]? = some (.cells #[.bool s', .int .u64 (a' : Int), .int .u64 (b' : Int), .int .u64 (c' : Int), .int .u64 (d' : Int), .bool t, .int .u64 (e : Int), .int .u64 (f : Int), .int .u64 (h : Int), .int .u64 (i : Int)] 27 (0, 0))) :
   Stores Tryz.prog ρ o w g (.cells #[.bool s, .int .u64 (a : Int), .int .u64 (b : Int), .int .u64 (c : Int), .int .u64 (d : Int), .bool t, .int .u64 (e : Int), .int .u64 (f : Int), .int .u64 (h : Int), .int .u64 (i : Int)] 27 (0, 0)) := by
 have h1 : (execOp ρ o).run Tryz.prog w = .ok .skip (((((w.setCell ⟨g, 0, none⟩ (.bool s)).setCell ⟨g, 1, none⟩ (.int .u64 (a : Int))).setCell ⟨g, 2, none⟩ (.int .u64 (b : Int))).setCell ⟨g, 3, none⟩ (.int .u64 (c : Int))).setCell ⟨g, 4, none⟩ (.int .u64 (d : Int))) := by
   refine run_storeOp hop ?_
   rw [hp, hx]
   obtain ⟨q0, q1, q2, q3, q4, q5, q6, q7, q8, q9, r0, r1, r2, r3, r4, r5, r6, r7, r8, r9⟩ := ten_cells (show Box10 w g s' a' b' c' d' t e f h i from hz)
   unfold ptrTo
   go_simp
 have h2 : Box10 (((((w.setCell ⟨g, 0, none⟩ (.bool s)).setCell ⟨g, 1, none⟩ (.int .u64 (a : Int))).setCell ⟨g, 2, none⟩ (.int .u64 (b : Int))).setCell ⟨g, 3, none⟩ (.int .u64 (c : Int))).setCell ⟨g, 4, none⟩ (.int .u64 (d : Int))) g s a b c d t e f h i := Box10.num (show Box10 w g s' a' b' c' d' t e f h i from hz)
 refine ⟨_, h1, h2, ?_, ?_, ?_, ?_, ?_⟩
 · intro k hk
   rw [far_set hk, far_set hk, far_set hk, far_set hk, far_set hk]
 · simp only [World.size_setCell]
 · simp only [os_set]
 · simp only [tape_set]
 · simp only [output_set]
set_option maxRecDepth 100000 in
set_option maxHeartbeats 8000000 in
theorem q_between {n1 m1 n2 m2 : Int} (h1 : Frac n1 m1) (h2 : Frac n2 m2) {n m : Int} (hle : n1 * m2 ≤ n2 * m1) (B : Best n1 m1 n2 m2 n m) (w : World) : Calls Tryz.prog 44 #[.agg #[.bool (sg n1), .int .u64 (l0 n1 : Int), .int .u64 (l1 n1 : Int), .int .u64 (l2 n1 : Int), .int .u64 (l3 n1 : Int), .bool (sg m1), .int .u64 (l0 m1 : Int), .int .u64 (l1 m1 : Int), .int .u64 (l2 m1 : Int), .int .u64 (l3 m1 : Int)], .agg #[.bool (sg n2), .int .u64 (l0 n2 : Int), .int .u64 (l1 n2 : Int), .int .u64 (l2 n2 : Int), .int .u64 (l3 n2 : Int), .bool (sg m2), .int .u64 (l0 m2 : Int), .int .u64 (l1 m2 : Int), .int .u64 (l2 m2 : Int), .int .u64 (l3 m2 : Int)]] w (Ret (.tuple #[.agg #[.bool (sg n), .int .u64 (l0 n : Int), .int .u64 (l1 n : Int), .int .u64 (l2 n : Int), .int .u64 (l3 n : Int), .bool (sg m), .int .u64 (l0 m : Int), .int .u64 (l1 m : Int), .int .u64 (l2 m : Int), .int .u64 (l3 m : Int)], .bool true]) w) := by
 obtain ⟨c, hc⟩ : ∃ r, cmpI (n1 * m2) (n2 * m1) = r := ⟨_, rfl⟩
 have hc0 : ¬ 0 < c := by rw [(cmpI_lt hc).2.2]; omega
 have kV1 : Hid (∀ w, Calls Tryz.prog 43 #[.agg #[.bool (sg n1), .int .u64 (l0 n1 : Int), .int .u64 (l1 n1 : Int), .int .u64 (l2 n1 : Int), .int .u64 (l3 n1 : Int), .bool (sg m1), .int .u64 (l0 m1 : Int), .int .u64 (l1 m1 : Int), .int .u64 (l2 m1 : Int), .int .u64 (l3 m1 : Int)]] w (Ret (.bool true) w)) := fun w => h_valid h1 w
 have kV2 : Hid (∀ w, Calls Tryz.prog 43 #[.agg #[.bool (sg n2), .int .u64 (l0 n2 : Int), .int .u64 (l1 n2 : Int), .int .u64 (l2 n2 : Int), .int .u64 (l3 n2 : Int), .bool (sg m2), .int .u64 (l0 m2 : Int), .int .u64 (l1 m2 : Int), .int .u64 (l2 m2 : Int), .int .u64 (l3 m2 : Int)]] w (Ret (.bool true) w)) := fun w => h_valid h2 w
 have kC : Hid (∀ w, Calls Tryz.prog 12 #[.agg #[.bool (sg n1), .int .u64 (l0 n1 : Int), .int .u64 (l1 n1 : Int), .int .u64 (l2 n1 : Int), .int .u64 (l3 n1 : Int), .bool (sg m1), .int .u64 (l0 m1 : Int), .int .u64 (l1 m1 : Int), .int .u64 (l2 m1 : Int), .int .u64 (l3 m1 : Int)], .agg #[.bool (sg n2), .int .u64 (l0 n2 : Int), .int .u64 (l1 n2 : Int), .int .u64 (l2 n2 : Int), .int .u64 (l3 n2 : Int), .bool (sg m2), .int .u64 (l0 m2 : Int), .int .u64 (l1 m2 : Int), .int .u64 (l2 m2 : Int), .int .u64 (l3 m2 : Int)]] w (Ret (.int .i64 c) w)) := fun w => h_cmp h1 h2 hc w
 clear hc
 by_cases hp : 0 < n1
 · have kS : Hid (∀ w, Calls Tryz.prog 51 #[.agg #[.bool (sg n1), .int .u64 (l0 n1 : Int), .int .u64 (l1 n1 : Int), .int .u64 (l2 n1 : Int), .int .u64 (l3 n1 : Int)]] w (Ret (.int .i64 1) w)) := fun w => d_sign h1.fn (Int.sign_eq_one_of_pos hp) w
   have hp2 : 0 < n2 := by
     have := Int.mul_pos hp h2.1
     by_cases h : 0 < n2
     · exact h
     · have := Int.mul_nonpos_of_nonpos_of_nonneg (show n2 ≤ 0 by omega) (show 0 ≤ m1 by have := h1.1; omega); omega
   have kT : Hid (∀ w, Calls Tryz.prog 51 #[.agg #[.bool (sg n2), .int .u64 (l0 n2 : Int), .int .u64 (l1 n2 : Int), .int .u64 (l2 n2 : Int), .int .u64 (l3 n2 : Int)]] w (Ret (.int .i64 1) w)) := fun w => d_sign h2.fn (Int.sign_eq_one_of_pos hp2) w
   have kB : Hid (∀ w, Calls Tryz.prog 73 #[.agg #[.bool (sg n1), .int .u64 (l0 n1 : Int), .int .u64 (l1 n1 : Int), .int .u64 (l2 n1 : Int), .int .u64 (l3 n1 : Int)], .agg #[.bool (sg m1), .int .u64 (l0 m1 : Int), .int .u64 (l1 m1 : Int), .int .u64 (l2 m1 : Int), .int .u64 (l3 m1 : Int)], .agg #[.bool (sg n2), .int .u64 (l0 n2 : Int), .int .u64 (l1 n2 : Int), .int .u64 (l2 n2 : Int), .int .u64 (l3 n2 : Int)], .agg #[.bool (sg m2), .int .u64 (l0 m2 : Int), .int .u64 (l1 m2 : Int), .int .u64 (l2 m2 : Int), .int .u64 (l3 m2 : Int)]] w (Ret (.tuple #[.agg #[.bool (sg n), .int .u64 (l0 n : Int), .int .u64 (l1 n : Int), .int .u64 (l2 n : Int), .int .u64 (l3 n : Int)], .agg #[.bool (sg m), .int .u64 (l0 m : Int), .int .u64 (l1 m : Int), .int .u64 (l2 m : Int), .int .u64 (l3 m : Int)]]) w)) := fun w => q_pos _ n1 m1 n2 m2 n m (Nat.lt_succ_self _) hp h1.1 h2.1 hle h1.2.1 h1.2.2.1 h2.2.1 h2.2.2.1 B w
   clear h1 h2 hle B hp hp2
   obtain ⟨W0, hW0⟩ : ∃ W0, W0 = (((w.alloc (.cells #[.bool (sg n1), .int .u64 (l0 n1 : Int), .int .u64 (l1 n1 : Int), .int .u64 (l2 n1 : Int), .int .u64 (l3 n1 : Int), .bool (sg m1), .int .u64 (l0 m1 : Int), .int .u64 (l1 m1 : Int), .int .u64 (l2 m1 : Int), .int .u64 (l3 m1 : Int)] 27)).alloc (.cells #[.bool (sg n2), .int .u64 (l0 n2 : Int), .int .u64 (l1 n2 : Int), .int .u64 (l2 n2 : Int), .int .u64 (l3 n2 : Int), .bool (sg m2), .int .u64 (l0 m2 : Int), .int .u64 (l1 m2 : Int), .int .u64 (l2 m2 : Int), .int .u64 (l3 m2 : Int)] 27)).alloc (.cells #[.bool false, .int .u64 0, .int .u64 0, .int .u64 0, .int .u64 0, .bool false, .int .u64 0, .int .u64 0, .int .u64 0, .int .u64 0] 27)) := ⟨_, rfl⟩
   have H2 := three_boxes w (.cells #[.bool (sg n1), .int .u64 (l0 n1 : Int), .int .u64 (l1 n1 : Int), .int .u64 (l2 n1 : Int), .int .u64 (l3 n1 : Int), .bool (sg m1), .int .u64 (l0 m1 : Int), .int .u64 (l1 m1 : Int), .int .u64 (l2 m1 : Int), .int .u64 (l3 m1 : Int)] 27) (.cells #[.bool (sg n2), .int .u64 (l0 n2 : Int), .int .u64 (l1 n2 : Int), .int .u64 (l2 n2 : Int), .int .u64 (l3 n2 : Int), .bool (sg m2), .int .u64 (l0 m2 : Int), .int .u64 (l1 m2 : Int), .int .u64 (l2 m2 : Int), .int .u64 (l3 m2 : Int)] 27) (.cells #[.bool false, .int .u64 0, .int .u64 0, .int .u64 0, .int .u64 0, .bool false, .int .u64 0, .int .u64 0, .int .u64 0, .int .u64 0] 27)
   have EE0 : Ext w W0 := by rw [hW0]; exact (((ext_alloc _ _).trans (ext_alloc _ _)).trans (ext_alloc _ _))
   rw [← hW0] at H2
   have EE := hide EE0
   have HW := hide hW0
   obtain ⟨P2, P3, P4⟩ : Box10 W0 (w.heap.size) (sg n1) (l0 n1) (l1 n1) (l2 n1) (l3 n1) (sg m1) (l0 m1) (l1 m1) (l2 m1) (l3 m1) ∧ Box10 W0 ((w.heap.size + 1)) (sg n2) (l0 n2) (l1 n2) (l2 n2) (l3 n2) (sg m2) (l0 m2) (l1 m2) (l2 m2) (l3 m2) ∧ Box10 W0 ((w.heap.size + 1 + 1)) false 0 0 0 0 false 0 0 0 0 := H2
   clear hW0 EE0
   go_enter Tryz.func44, Tryz.ntmps44
   go_upto_region 1 with fail
   rw [← HW.out]
   clear HW
   have hg0 : w.heap.size ≤ w.heap.size := Nat.le_refl _
   obtain ⟨g0, hg⟩ : ∃ g, w.heap.size = g := ⟨_, rfl⟩
   rw [hg] at P2 P3 P4 ⊢
   replace hg0 : w.heap.size ≤ g0 := Nat.le_of_eq hg
   clear hg
   obtain ⟨xP20, xP21, xP22, xP23, xP24, xP25, xP26, xP27, xP28, xP29, -⟩ := ten_cells P2; obtain ⟨xP30, xP31, xP32, xP33, xP34, xP35, xP36, xP37, xP38, xP39, -⟩ := ten_cells P3
   go_upto_region 3 with (first
     | (go_at_call 43; (with_reducible refine (kV1.out _).mono ?_); rintro e w1 ⟨rfl, hE⟩; clear xP20 xP21 xP22 xP23 xP24 xP25 xP26 xP27 xP28 xP29 xP30 xP31 xP32 xP33 xP34 xP35 xP36 xP37 xP38 xP39; have P2 := P2.ext hE; have P3 := P3.ext hE; have P4 := P4.ext hE; have EE := hide (EE.out.trans hE); clear hE; obtain ⟨xP20, xP21, xP22, xP23, xP24, xP25, xP26, xP27, xP28, xP29, -⟩ := ten_cells P2; obtain ⟨xP30, xP31, xP32, xP33, xP34, xP35, xP36, xP37, xP38, xP39, -⟩ := ten_cells P3)
     | (go_at_call 43; (with_reducible refine (kV2.out _).mono ?_); rintro e w2 ⟨rfl, hE⟩; clear xP20 xP21 xP22 xP23 xP24 xP25 xP26 xP27 xP28 xP29 xP30 xP31 xP32 xP33 xP34 xP35 xP36 xP37 xP38 xP39; have P2 := P2.ext hE; have P3 := P3.ext hE; have P4 := P4.ext hE; have EE := hide (EE.out.trans hE); clear hE; obtain ⟨xP20, xP21, xP22, xP23, xP24, xP25, xP26, xP27, xP28, xP29, -⟩ := ten_cells P2; obtain ⟨xP30, xP31, xP32, xP33, xP34, xP35, xP36, xP37, xP38, xP39, -⟩ := ten_cells P3)
     | (go_at_call 12; (with_reducible refine (kC.out _).mono ?_); rintro e w3 ⟨rfl, hE⟩; clear xP20 xP21 xP22 xP23 xP24 xP25 xP26 xP27 xP28 xP29 xP30 xP31 xP32 xP33 xP34 xP35 xP36 xP37 xP38 xP39; have P2 := P2.ext hE; have P3 := P3.ext hE; have P4 := P4.ext hE; have EE := hide (EE.out.trans hE); clear hE; obtain ⟨xP20, xP21, xP22, xP23, xP24, xP25, xP26, xP27, xP28, xP29, -⟩ := ten_cells P2; obtain ⟨xP30, xP31, xP32, xP33, xP34, xP35, xP36, xP37, xP38, xP39, -⟩ := ten_cells P3))
   clear xP20 xP21 xP22 xP23 xP24 xP25 xP26 xP27 xP28 xP29 xP30 xP31 xP32 xP33 xP34 xP35 xP36 xP37 xP38 xP39
   obtain ⟨xP20, xP21, xP22, xP23, xP24, xP25, xP26, xP27, xP28, xP29, -⟩ := ten_cells P2
   go_upto_region 5 with (go_at_call 51; (with_reducible refine (kS.out _).mono ?_); rintro e w4 ⟨rfl, hE⟩; clear xP20 xP21 xP22 xP23 xP24 xP25 xP26 xP27 xP28 xP29; have P2 := P2.ext hE; have P3 := P3.ext hE; have P4 := P4.ext hE; have EE := hide (EE.out.trans hE); clear hE; obtain ⟨xP20, xP21, xP22, xP23, xP24, xP25, xP26, xP27, xP28, xP29, -⟩ := ten_cells P2)
   clear xP20 xP21 xP22 xP23 xP24 xP25 xP26 xP27 xP28 xP29
   obtain ⟨xP30, xP31, xP32, xP33, xP34, xP35, xP36, xP37, xP38, xP39, -⟩ := ten_cells P3
   go_upto_region 10 with (go_at_call 51; (with_reducible refine (kT.out _).mono ?_); rintro e w5 ⟨rfl, hE⟩; clear xP30 xP31 xP32 xP33 xP34 xP35 xP36 xP37 xP38 xP39; have P2 := P2.ext hE; have P3 := P3.ext hE; have P4 := P4.ext hE; have EE := hide (EE.out.trans hE); clear hE; obtain ⟨xP30, xP31, xP32, xP33, xP34, xP35, xP36, xP37, xP38, xP39, -⟩ := ten_cells P3)
   clear xP30 xP31 xP32 xP33 xP34 xP35 xP36 xP37 xP38 xP39
   obtain ⟨xP20, xP21, xP22, xP23, xP24, xP25, xP26, xP27, xP28, xP29, -⟩ := ten_cells P2; obtain ⟨xP30, xP31, xP32, xP33, xP34, xP35, xP36, xP37, xP38, xP39, -⟩ := ten_cells P3
   go_upto_region 11 with (go_at_call 73; (with_reducible refine (kB.out _).mono ?_); rintro e w6 ⟨rfl, hE⟩; clear xP20 xP21 xP22 xP23 xP24 xP25 xP26 xP27 xP28 xP29 xP30 xP31 xP32 xP33 xP34 xP35 xP36 xP37 xP38 xP39; have P2 := P2.ext hE; have P3 := P3.ext hE; have P4 := P4.ext hE; have EE := hide (EE.out.trans hE); clear hE; obtain ⟨xP20, xP21, xP22, xP23, xP24, xP25, xP26, xP27, xP28, xP29, -⟩ := ten_cells P2; obtain ⟨xP30, xP31, xP32, xP33, xP34, xP35, xP36, xP37, xP38, xP39, -⟩ := ten_cells P3)
   clear xP20 xP21 xP22 xP23 xP24 xP25 xP26 xP27 xP28 xP29 xP30 xP31 xP32 xP33 xP34 xP35 xP36 xP37 xP38 xP39
   have H2 := two_blocks w6 (.cells #[.bool (sg n), .int .u64 (l0 n : Int), .int .u64 (l1 n : Int), .int .u64 (l2 n : Int), .int .u64 (l3 n : Int)] 25) (.cells #[.bool (sg m), .int .u64 (l0 m : Int), .int .u64 (l1 m : Int), .int .u64 (l2 m : Int), .int .u64 (l3 m : Int)] 25)
   have lP2 := P2.lt
   have lP3 := P3.lt
   have lP4 := P4.lt
   have hE := ((ext_alloc w6 (.cells #[.bool (sg n), .int .u64 (l0 n : Int), .int .u64 (l1 n : Int), .int .u64 (l2 n : Int), .int .u64 (l3 n : Int)] 25)).trans (ext_alloc _ (.cells #[.bool (sg m), .int .u64 (l0 m : Int), .int .u64 (l1 m : Int), .int .u64 (l2 m : Int), .int .u64 (l3 m : Int)] 25)))
   have P2 := P2.ext hE
   have P3 := P3.ext hE
   have P4 := P4.ext hE
   have EE := hide (EE.out.trans hE)
   clear hE
   obtain ⟨W7, hW⟩ : ∃ W, W = ((w6.alloc (.cells #[.bool (sg n), .int .u64 (l0 n : Int), .int .u64 (l1 n : Int), .int .u64 (l2 n : Int), .int .u64 (l3 n : Int)] 25)).alloc (.cells #[.bool (sg m), .int .u64 (l0 m : Int), .int .u64 (l1 m : Int), .int .u64 (l2 m : Int), .int .u64 (l3 m : Int)] 25)) := ⟨_, rfl⟩
   rw [← hW] at H2 EE P2 P3 P4 ⊢
   obtain ⟨g8, hg⟩ : ∃ g, w6.heap.size = g := ⟨_, rfl⟩
   rw [hg] at H2 lP2 lP3 lP4 ⊢
   obtain ⟨P10, P11⟩ : Box W7 g8 (sg n) (l0 n) (l1 n) (l2 n) (l3 n) ∧ Box W7 (g8 + 1) (sg m) (l0 m) (l1 m) (l2 m) (l3 m) := H2
   clear hW hg
   have ngP2P10 : g0 ≠ g8 := by omega
   have ngP2P11 : g0 ≠ g8 + 1 := by omega
   have ngP3P10 : g0 + 1 ≠ g8 := by omega
   have ngP3P11 : g0 + 1 ≠ g8 + 1 := by omega
   have ngP4P10 : g0 + 1 + 1 ≠ g8 := by omega
   have ngP4P11 : g0 + 1 + 1 ≠ g8 + 1 := by omega
   obtain ⟨xP100, xP101, xP102, xP103, xP104, -⟩ := five_cells P10; obtain ⟨xP110, xP111, xP112, xP113, xP114, -⟩ := five_cells P11; obtain ⟨xP40, xP41, xP42, xP43, xP44, xP45, xP46, xP47, xP48, xP49, xP4f0, xP4f1, xP4f2, xP4f3, xP4f4, xP4f5, xP4f6, xP4f7, xP4f8, xP4f9⟩ := ten_cells P4
   go_wp2_with fail
   exact bodyPost_ret (v := .tuple #[.agg #[.bool (sg n), .int .u64 (l0 n : Int), .int .u64 (l1 n : Int), .int .u64 (l2 n : Int), .int .u64 (l3 n : Int), .bool (sg m), .int .u64 (l0 m : Int), .int .u64 (l1 m : Int), .int .u64 (l2 m : Int), .int .u64 (l3 m : Int)], .bool true]) (by simp [results, Tryz.results44, go_sem, xP40, xP41, xP42, xP43, xP44, xP45, xP46, xP47, xP48, xP49]) rfl ⟨rfl, ext_ten EE.out (by omega) _ _ _ _ _ _ _ _ _ _⟩
 · by_cases hq : n2 < 0
   · have hn1 : n1 < 0 := by
       by_cases h : n1 < 0
       · exact h
       · have e : n1 = 0 := by omega
         subst e
         have := Int.mul_neg_of_neg_of_pos hq h1.1
         omega
     obtain ⟨u1, hu1⟩ : ∃ u : Int, -n1 = u := ⟨_, rfl⟩
     obtain ⟨u2, hu2⟩ : ∃ u : Int, -n2 = u := ⟨_, rfl⟩
     obtain ⟨u, hu⟩ : ∃ u : Int, -n = u := ⟨_, rfl⟩
     have hun : -u = n := by omega
     have B' := B.neg
     rw [hu1, hu2, hu] at B'
     have hl' : u2 * m1 ≤ u1 * m2 := by rw [← hu1, ← hu2, Int.neg_mul, Int.neg_mul]; omega
     have S := (B.small h1.1 h2.1 hle).1
     have fu : F256 u := F256.mk (by have := h1.2.1; omega)
     have kS : Hid (∀ w, Calls Tryz.prog 51 #[.agg #[.bool (sg n1), .int .u64 (l0 n1 : Int), .int .u64 (l1 n1 : Int), .int .u64 (l2 n1 : Int), .int .u64 (l3 n1 : Int)]] w (Ret (.int .i64 (-1)) w)) := fun w => d_sign h1.fn (Int.sign_eq_neg_one_of_neg hn1) w
     have kT : Hid (∀ w, Calls Tryz.prog 51 #[.agg #[.bool (sg n2), .int .u64 (l0 n2 : Int), .int .u64 (l1 n2 : Int), .int .u64 (l2 n2 : Int), .int .u64 (l3 n2 : Int)]] w (Ret (.int .i64 (-1)) w)) := fun w => d_sign h2.fn (Int.sign_eq_neg_one_of_neg hq) w
     have kN1 : Hid (∀ w, Calls Tryz.prog 55 #[.agg #[.bool (sg n1), .int .u64 (l0 n1 : Int), .int .u64 (l1 n1 : Int), .int .u64 (l2 n1 : Int), .int .u64 (l3 n1 : Int)]] w (Ret (.agg #[.bool (sg u1), .int .u64 (l0 u1 : Int), .int .u64 (l1 u1 : Int), .int .u64 (l2 u1 : Int), .int .u64 (l3 u1 : Int)]) w)) := fun w => d_neg h1.fn hu1 w
     have kN2 : Hid (∀ w, Calls Tryz.prog 55 #[.agg #[.bool (sg n2), .int .u64 (l0 n2 : Int), .int .u64 (l1 n2 : Int), .int .u64 (l2 n2 : Int), .int .u64 (l3 n2 : Int)]] w (Ret (.agg #[.bool (sg u2), .int .u64 (l0 u2 : Int), .int .u64 (l1 u2 : Int), .int .u64 (l2 u2 : Int), .int .u64 (l3 u2 : Int)]) w)) := fun w => d_neg h2.fn hu2 w
     have kB : Hid (∀ w, Calls Tryz.prog 73 #[.agg #[.bool (sg u2), .int .u64 (l0 u2 : Int), .int .u64 (l1 u2 : Int), .int .u64 (l2 u2 : Int), .int .u64 (l3 u2 : Int)], .agg #[.bool (sg m2), .int .u64 (l0 m2 : Int), .int .u64 (l1 m2 : Int), .int .u64 (l2 m2 : Int), .int .u64 (l3 m2 : Int)], .agg #[.bool (sg u1), .int .u64 (l0 u1 : Int), .int .u64 (l1 u1 : Int), .int .u64 (l2 u1 : Int), .int .u64 (l3 u1 : Int)], .agg #[.bool (sg m1), .int .u64 (l0 m1 : Int), .int .u64 (l1 m1 : Int), .int .u64 (l2 m1 : Int), .int .u64 (l3 m1 : Int)]] w (Ret (.tuple #[.agg #[.bool (sg u), .int .u64 (l0 u : Int), .int .u64 (l1 u : Int), .int .u64 (l2 u : Int), .int .u64 (l3 u : Int)], .agg #[.bool (sg m), .int .u64 (l0 m : Int), .int .u64 (l1 m : Int), .int .u64 (l2 m : Int), .int .u64 (l3 m : Int)]]) w)) := fun w => q_pos _ u2 m2 u1 m1 u m (Nat.lt_succ_self _) (by omega) h2.1 h1.1 hl' (by have := h2.2.1; omega) h2.2.2.1 (by have := h1.2.1; omega) h1.2.2.1 B' w
     have kN : Hid (∀ w, Calls Tryz.prog 55 #[.agg #[.bool (sg u), .int .u64 (l0 u : Int), .int .u64 (l1 u : Int), .int .u64 (l2 u : Int), .int .u64 (l3 u : Int)]] w (Ret (.agg #[.bool (sg n), .int .u64 (l0 n : Int), .int .u64 (l1 n : Int), .int .u64 (l2 n : Int), .int .u64 (l3 n : Int)]) w)) := fun w => d_neg fu hun w
     clear h1 h2 hle B hp hq hn1 hu1 hu2 hu hun B' hl' S fu
     obtain ⟨W0, hW0⟩ : ∃ W0, W0 = (((w.alloc (.cells #[.bool (sg n1), .int .u64 (l0 n1 : Int), .int .u64 (l1 n1 : Int), .int .u64 (l2 n1 : Int), .int .u64 (l3 n1 : Int), .bool (sg m1), .int .u64 (l0 m1 : Int), .int .u64 (l1 m1 : Int), .int .u64 (l2 m1 : Int), .int .u64 (l3 m1 : Int)] 27)).alloc (.cells #[.bool (sg n2), .int .u64 (l0 n2 : Int), .int .u64 (l1 n2 : Int), .int .u64 (l2 n2 : Int), .int .u64 (l3 n2 : Int), .bool (sg m2), .int .u64 (l0 m2 : Int), .int .u64 (l1 m2 : Int), .int .u64 (l2 m2 : Int), .int .u64 (l3 m2 : Int)] 27)).alloc (.cells #[.bool false, .int .u64 0, .int .u64 0, .int .u64 0, .int .u64 0, .bool false, .int .u64 0, .int .u64 0, .int .u64 0, .int .u64 0] 27)) := ⟨_, rfl⟩
     have H2 := three_boxes w (.cells #[.bool (sg n1), .int .u64 (l0 n1 : Int), .int .u64 (l1 n1 : Int), .int .u64 (l2 n1 : Int), .int .u64 (l3 n1 : Int), .bool (sg m1), .int .u64 (l0 m1 : Int), .int .u64 (l1 m1 : Int), .int .u64 (l2 m1 : Int), .int .u64 (l3 m1 : Int)] 27) (.cells #[.bool (sg n2), .int .u64 (l0 n2 : Int), .int .u64 (l1 n2 : Int), .int .u64 (l2 n2 : Int), .int .u64 (l3 n2 : Int), .bool (sg m2), .int .u64 (l0 m2 : Int), .int .u64 (l1 m2 : Int), .int .u64 (l2 m2 : Int), .int .u64 (l3 m2 : Int)] 27) (.cells #[.bool false, .int .u64 0, .int .u64 0, .int .u64 0, .int .u64 0, .bool false, .int .u64 0, .int .u64 0, .int .u64 0, .int .u64 0] 27)
     have EE0 : Ext w W0 := by rw [hW0]; exact (((ext_alloc _ _).trans (ext_alloc _ _)).trans (ext_alloc _ _))
     rw [← hW0] at H2
     have EE := hide EE0
     have HW := hide hW0
     obtain ⟨P2, P3, P4⟩ : Box10 W0 (w.heap.size) (sg n1) (l0 n1) (l1 n1) (l2 n1) (l3 n1) (sg m1) (l0 m1) (l1 m1) (l2 m1) (l3 m1) ∧ Box10 W0 ((w.heap.size + 1)) (sg n2) (l0 n2) (l1 n2) (l2 n2) (l3 n2) (sg m2) (l0 m2) (l1 m2) (l2 m2) (l3 m2) ∧ Box10 W0 ((w.heap.size + 1 + 1)) false 0 0 0 0 false 0 0 0 0 := H2
     clear hW0 EE0
     go_enter Tryz.func44, Tryz.ntmps44
     go_upto_region 1 with fail
     rw [← HW.out]
     clear HW
     have hg0 : w.heap.size ≤ w.heap.size := Nat.le_refl _
     obtain ⟨g0, hg⟩ : ∃ g, w.heap.size = g := ⟨_, rfl⟩
     rw [hg] at P2 P3 P4 ⊢
     replace hg0 : w.heap.size ≤ g0 := Nat.le_of_eq hg
     clear hg
     obtain ⟨xP20, xP21, xP22, xP23, xP24, xP25, xP26, xP27, xP28, xP29, -⟩ := ten_cells P2; obtain ⟨xP30, xP31, xP32, xP33, xP34, xP35, xP36, xP37, xP38, xP39, -⟩ := ten_cells P3
     go_upto_region 3 with (first
       | (go_at_call 43; (with_reducible refine (kV1.out _).mono ?_); rintro e w1 ⟨rfl, hE⟩; clear xP20 xP21 xP22 xP23 xP24 xP25 xP26 xP27 xP28 xP29 xP30 xP31 xP32 xP33 xP34 xP35 xP36 xP37 xP38 xP39; have P2 := P2.ext hE; have P3 := P3.ext hE; have P4 := P4.ext hE; have EE := hide (EE.out.trans hE); clear hE; obtain ⟨xP20, xP21, xP22, xP23, xP24, xP25, xP26, xP27, xP28, xP29, -⟩ := ten_cells P2; obtain ⟨xP30, xP31, xP32, xP33, xP34, xP35, xP36, xP37, xP38, xP39, -⟩ := ten_cells P3)
       | (go_at_call 43; (with_reducible refine (kV2.out _).mono ?_); rintro e w2 ⟨rfl, hE⟩; clear xP20 xP21 xP22 xP23 xP24 xP25 xP26 xP27 xP28 xP29 xP30 xP31 xP32 xP33 xP34 xP35 xP36 xP37 xP38 xP39; have P2 := P2.ext hE; have P3 := P3.ext hE; have P4 := P4.ext hE; have EE := hide (EE.out.trans hE); clear hE; obtain ⟨xP20, xP21, xP22, xP23, xP24, xP25, xP26, xP27, xP28, xP29, -⟩ := ten_cells P2; obtain ⟨xP30, xP31, xP32, xP33, xP34, xP35, xP36, xP37, xP38, xP39, -⟩ := ten_cells P3)
       | (go_at_call 12; (with_reducible refine (kC.out _).mono ?_); rintro e w3 ⟨rfl, hE⟩; clear xP20 xP21 xP22 xP23 xP24 xP25 xP26 xP27 xP28 xP29 xP30 xP31 xP32 xP33 xP34 xP35 xP36 xP37 xP38 xP39; have P2 := P2.ext hE; have P3 := P3.ext hE; have P4 := P4.ext hE; have EE := hide (EE.out.trans hE); clear hE; obtain ⟨xP20, xP21, xP22, xP23, xP24, xP25, xP26, xP27, xP28, xP29, -⟩ := ten_cells P2; obtain ⟨xP30, xP31, xP32, xP33, xP34, xP35, xP36, xP37, xP38, xP39, -⟩ := ten_cells P3))
     clear xP20 xP21 xP22 xP23 xP24 xP25 xP26 xP27 xP28 xP29 xP30 xP31 xP32 xP33 xP34 xP35 xP36 xP37 xP38 xP39
     obtain ⟨xP20, xP21, xP22, xP23, xP24, xP25, xP26, xP27, xP28, xP29, -⟩ := ten_cells P2; obtain ⟨xP30, xP31, xP32, xP33, xP34, xP35, xP36, xP37, xP38, xP39, -⟩ := ten_cells P3
     go_upto_region 5 with (first
       | (go_at_call 51; (with_reducible refine (kS.out _).mono ?_); rintro e w4 ⟨rfl, hE⟩; clear xP20 xP21 xP22 xP23 xP24 xP25 xP26 xP27 xP28 xP29 xP30 xP31 xP32 xP33 xP34 xP35 xP36 xP37 xP38 xP39; have P2 := P2.ext hE; have P3 := P3.ext hE; have P4 := P4.ext hE; have EE := hide (EE.out.trans hE); clear hE; obtain ⟨xP20, xP21, xP22, xP23, xP24, xP25, xP26, xP27, xP28, xP29, -⟩ := ten_cells P2; obtain ⟨xP30, xP31, xP32, xP33, xP34, xP35, xP36, xP37, xP38, xP39, -⟩ := ten_cells P3)
       | (go_at_call 51; (with_reducible refine (kT.out _).mono ?_); rintro e w5 ⟨rfl, hE⟩; clear xP20 xP21 xP22 xP23 xP24 xP25 xP26 xP27 xP28 xP29 xP30 xP31 xP32 xP33 xP34 xP35 xP36 xP37 xP38 xP39; have P2 := P2.ext hE; have P3 := P3.ext hE; have P4 := P4.ext hE; have EE := hide (EE.out.trans hE); clear hE; obtain ⟨xP20, xP21, xP22, xP23, xP24, xP25, xP26, xP27, xP28, xP29, -⟩ := ten_cells P2; obtain ⟨xP30, xP31, xP32, xP33, xP34, xP35, xP36, xP37, xP38, xP39, -⟩ := ten_cells P3))
     clear xP20 xP21 xP22 xP23 xP24 xP25 xP26 xP27 xP28 xP29 xP30 xP31 xP32 xP33 xP34 xP35 xP36 xP37 xP38 xP39
     obtain ⟨xP30, xP31, xP32, xP33, xP34, xP35, xP36, xP37, xP38, xP39, -⟩ := ten_cells P3
     go_upto_region 6 with (go_at_call 51; (with_reducible refine (kT.out _).mono ?_); rintro e w6 ⟨rfl, hE⟩; clear xP30 xP31 xP32 xP33 xP34 xP35 xP36 xP37 xP38 xP39; have P2 := P2.ext hE; have P3 := P3.ext hE; have P4 := P4.ext hE; have EE := hide (EE.out.trans hE); clear hE; obtain ⟨xP30, xP31, xP32, xP33, xP34, xP35, xP36, xP37, xP38, xP39, -⟩ := ten_cells P3)
     clear xP30 xP31 xP32 xP33 xP34 xP35 xP36 xP37 xP38 xP39
     have lbP2 := P2.lt
     have lbP3 := P3.lt
     have lbP4 := P4.lt
     refine wp_decl [.q, .q, .al, .al, .st 2, .st 3] [.agg #[.bool (sg n2), .int .u64 (l0 n2 : Int), .int .u64 (l1 n2 : Int), .int .u64 (l2 n2 : Int), .int .u64 (l3 n2 : Int), .bool (sg m2), .int .u64 (l0 m2 : Int), .int .u64 (l1 m2 : Int), .int .u64 (l2 m2 : Int), .int .u64 (l3 m2 : Int)], .agg #[.bool (sg n1), .int .u64 (l0 n1 : Int), .int .u64 (l1 n1 : Int), .int .u64 (l2 n1 : Int), .int .u64 (l3 n1 : Int), .bool (sg m1), .int .u64 (l0 m1 : Int), .int .u64 (l1 m1 : Int), .int .u64 (l2 m1 : Int), .int .u64 (l3 m1 : Int)], undef, undef, undef, undef] (fun i => match i with | 2 => (.cells #[.bool false, .int .u64 0, .int .u64 0, .int .u64 0, .int .u64 0, .bool false, .int .u64 0, .int .u64 0, .int .u64 0, .int .u64 0] 27 (0, 0)) | _ => (.cells #[.bool false, .int .u64 0, .int .u64 0, .int .u64 0, .int .u64 0, .bool false, .int .u64 0, .int .u64 0, .int .u64 0, .int .u64 0] 27 (0, 0))) (fun i => match i with | 4 => (.cells #[.bool (sg n2), .int .u64 (l0 n2 : Int), .int .u64 (l1 n2 : Int), .int .u64 (l2 n2 : Int), .int .u64 (l3 n2 : Int), .bool (sg m2), .int .u64 (l0 m2 : Int), .int .u64 (l1 m2 : Int), .int .u64 (l2 m2 : Int), .int .u64 (l3 m2 : Int)] 27 (0, 0)) | _ => (.cells #[.bool (sg n1), .int .u64 (l0 n1 : Int), .int .u64 (l1 n1 : Int), .int .u64 (l2 n1 : Int), .int .u64 (l3 n1 : Int), .bool (sg m1), .int .u64 (l0 m1 : Int), .int .u64 (l1 m1 : Int), .int .u64 (l2 m1 : Int), .int .u64 (l3 m1 : Int)] 27 (0, 0))) (fun _ => 0) (by kernel_rfl) (by kernel_rfl) (by kernel_rfl) rfl rfl (by simp) (by simp) ?_ ?_
     · refine ⟨?_, ?_, ?_, ?_, ?_, ?_, trivial⟩
       · refine op_q ?uvn2 ?h1n2 ?h2n2 ?h3n2
         case h1n2 => exact rfl
         case uvn2 => exact (.agg #[.bool (sg n2), .int .u64 (l0 n2 : Int), .int .u64 (l1 n2 : Int), .int .u64 (l2 n2 : Int), .int .u64 (l3 n2 : Int), .bool (sg m2), .int .u64 (l0 m2 : Int), .int .u64 (l1 m2 : Int), .int .u64 (l2 m2 : Int), .int .u64 (l3 m2 : Int)])
         case h2n2 => exact rfl
         intro w' hw'
         have P3 := P3.same hw' (by simp)
         have xP3 := ten_cells P3
         go_simp
       · refine op_q ?uvn3 ?h1n3 ?h2n3 ?h3n3
         case h1n3 => exact rfl
         case uvn3 => exact (.agg #[.bool (sg n1), .int .u64 (l0 n1 : Int), .int .u64 (l1 n1 : Int), .int .u64 (l2 n1 : Int), .int .u64 (l3 n1 : Int), .bool (sg m1), .int .u64 (l0 m1 : Int), .int .u64 (l1 m1 : Int), .int .u64 (l2 m1 : Int), .int .u64 (l3 m1 : Int)])
         case h2n3 => exact rfl
         intro w' hw'
         have P2 := P2.same hw' (by simp)
         have xP2 := ten_cells P2
         go_simp
       · refine op_al ?uzn4 ?h1n4 ?h2n4 ?h3n4
         case h1n4 => exact rfl
         case h2n4 => exact rfl
         intro ρ w'
         go_simp
         rfl
       · refine op_al ?uzn5 ?h1n5 ?h2n5 ?h3n5
         case h1n5 => exact rfl
         case h2n5 => exact rfl
         intro ρ w'
         go_simp
         rfl
       · refine op_st (j := 2) (T := ?uTn6) (p := ?upn6) (x := ?uxn6) ?ufn6 ?uzn6 ?uvn6 ?h1n6 ?h2n6 ?h3n6 ?h4n6 ?h5n6 ?h6n6
         case h1n6 => exact rfl
         case h2n6 => exact rfl
         case ufn6 => exact (.cells #[.bool (sg n2), .int .u64 (l0 n2 : Int), .int .u64 (l1 n2 : Int), .int .u64 (l2 n2 : Int), .int .u64 (l3 n2 : Int), .bool (sg m2), .int .u64 (l0 m2 : Int), .int .u64 (l1 m2 : Int), .int .u64 (l2 m2 : Int), .int .u64 (l3 m2 : Int)] 27 (0, 0))
         case uzn6 => exact (.cells #[.bool false, .int .u64 0, .int .u64 0, .int .u64 0, .int .u64 0, .bool false, .int .u64 0, .int .u64 0, .int .u64 0, .int .u64 0] 27 (0, 0))
         case uvn6 => exact (.agg #[.bool (sg n2), .int .u64 (l0 n2 : Int), .int .u64 (l1 n2 : Int), .int .u64 (l2 n2 : Int), .int .u64 (l3 n2 : Int), .bool (sg m2), .int .u64 (l0 m2 : Int), .int .u64 (l1 m2 : Int), .int .u64 (l2 m2 : Int), .int .u64 (l3 m2 : Int)])
         case h3n6 => exact rfl
         case h4n6 => exact rfl
         case h5n6 => go_simp
         intro ρ w' g' hp hx hz
         exact store_ratio rfl hp hx hz
       · refine op_st (j := 3) (T := ?uTn7) (p := ?upn7) (x := ?uxn7) ?ufn7 ?uzn7 ?uvn7 ?h1n7 ?h2n7 ?h3n7 ?h4n7 ?h5n7 ?h6n7
         case h1n7 => exact rfl
         case h2n7 => exact rfl
         case ufn7 => exact (.cells #[.bool (sg n1), .int .u64 (l0 n1 : Int), .int .u64 (l1 n1 : Int), .int .u64 (l2 n1 : Int), .int .u64 (l3 n1 : Int), .bool (sg m1), .int .u64 (l0 m1 : Int), .int .u64 (l1 m1 : Int), .int .u64 (l2 m1 : Int), .int .u64 (l3 m1 : Int)] 27 (0, 0))
         case uzn7 => exact (.cells #[.bool false, .int .u64 0, .int .u64 0, .int .u64 0, .int .u64 0, .bool false, .int .u64 0, .int .u64 0, .int .u64 0, .int .u64 0] 27 (0, 0))
         case uvn7 => exact (.agg #[.bool (sg n1), .int .u64 (l0 n1 : Int), .int .u64 (l1 n1 : Int), .int .u64 (l2 n1 : Int), .int .u64 (l3 n1 : Int), .bool (sg m1), .int .u64 (l0 m1 : Int), .int .u64 (l1 m1 : Int), .int .u64 (l2 m1 : Int), .int .u64 (l3 m1 : Int)])
         case h3n7 => exact rfl
         case h4n7 => exact rfl
         case h5n7 => go_simp
         intro ρ w' g' hp hx hz
         exact store_ratio rfl hp hx hz
     · intro G W7 hI
       have hS := hI.same
       have P2 := P2.same hS (by simp)
       have P3 := P3.same hS (by simp)
       have P4 := P4.same hS (by simp)
       have EE := hide (hS.ext' EE.out (by simp))
       have P6 : Box10 W7 (G 2) (sg n2) (l0 n2) (l1 n2) (l2 n2) (l3 n2) (sg m2) (l0 m2) (l1 m2) (l2 m2) (l3 m2) := (hI.fulls 4 (List.mem_range.2 (show 4 < 6 by decide)) 2 rfl).2.2
       have hmP6 := (hI.made 2 (List.mem_range.2 (show 2 < 6 by decide)) rfl).1
       have P7 : Box10 W7 (G 3) (sg n1) (l0 n1) (l1 n1) (l2 n1) (l3 n1) (sg m1) (l0 m1) (l1 m1) (l2 m1) (l3 m1) := (hI.fulls 5 (List.mem_range.2 (show 5 < 6 by decide)) 3 rfl).2.2
       have hmP7 := (hI.made 3 (List.mem_range.2 (show 3 < 6 by decide)) rfl).1
       have ngP6P7 : G 2 ≠ G 3 := fun e => by have := hI.apart 2 (List.mem_range.2 (show 2 < 6 by decide)) 3 (List.mem_range.2 (show 3 < 6 by decide)) rfl rfl e; omega
       have ngP2P6 : g0 ≠ G 2 := by omega
       have ngP2P7 : g0 ≠ G 3 := by omega
       have ngP3P6 : g0 + 1 ≠ G 2 := by omega
       have ngP3P7 : g0 + 1 ≠ G 3 := by omega
       have ngP4P6 : g0 + 1 + 1 ≠ G 2 := by omega
       have ngP4P7 : g0 + 1 + 1 ≠ G 3 := by omega
       clear hI hS
       simp only [putAll, slotV, ptrTo, Nat.zero_add, Nat.reduceAdd]
       generalize G 2 = gP6 at *
       generalize G 3 = gP7 at *
       go_upto_region 7 with fail
       have lbP2 := P2.lt
       have lbP3 := P3.lt
       have lbP4 := P4.lt
       have lbP6 := P6.lt
       have lbP7 := P7.lt
       have ltW0 : ∀ c, Tag.so c ∈ [.q, .q, .q, .q, .q, .q, .q, .so 0, .q, .so 1] → (fun i => match i with | 0 => gP6 | _ => gP7) c < W7.heap.size := by intro c hc; simp at hc; rcases hc with rfl | rfl <;> (try simp only) <;> omega
       refine wp_decl [.q, .q, .q, .q, .q, .q, .q, .so 0, .q, .so 1] [.pointer (some ⟨gP6, 0, none⟩), .agg #[.bool (sg n2), .int .u64 (l0 n2 : Int), .int .u64 (l1 n2 : Int), .int .u64 (l2 n2 : Int), .int .u64 (l3 n2 : Int)], .agg #[.bool (sg u2), .int .u64 (l0 u2 : Int), .int .u64 (l1 u2 : Int), .int .u64 (l2 u2 : Int), .int .u64 (l3 u2 : Int)], .pointer (some ⟨gP7, 0, none⟩), .agg #[.bool (sg n1), .int .u64 (l0 n1 : Int), .int .u64 (l1 n1 : Int), .int .u64 (l2 n1 : Int), .int .u64 (l3 n1 : Int)], .agg #[.bool (sg u1), .int .u64 (l0 u1 : Int), .int .u64 (l1 u1 : Int), .int .u64 (l2 u1 : Int), .int .u64 (l3 u1 : Int)], .pointer (some ⟨gP6, 0, none⟩), undef, .pointer (some ⟨gP7, 0, none⟩), undef] (fun _ => (.cells #[.bool false, .int .u64 0, .int .u64 0, .int .u64 0, .int .u64 0] 25 (0, 0))) (fun i => match i with | 7 => (.cells #[.bool (sg u2), .int .u64 (l0 u2 : Int), .int .u64 (l1 u2 : Int), .int .u64 (l2 u2 : Int), .int .u64 (l3 u2 : Int), .bool (sg m2), .int .u64 (l0 m2 : Int), .int .u64 (l1 m2 : Int), .int .u64 (l2 m2 : Int), .int .u64 (l3 m2 : Int)] 27 (0, 0)) | _ => (.cells #[.bool (sg u1), .int .u64 (l0 u1 : Int), .int .u64 (l1 u1 : Int), .int .u64 (l2 u1 : Int), .int .u64 (l3 u1 : Int), .bool (sg m1), .int .u64 (l0 m1 : Int), .int .u64 (l1 m1 : Int), .int .u64 (l2 m1 : Int), .int .u64 (l3 m1 : Int)] 27 (0, 0))) (fun i => match i with | 0 => gP6 | _ => gP7) (by kernel_rfl) (by kernel_rfl) (by kernel_rfl) rfl rfl ltW0 (by intro c c' h1 h2 h3; simp at h1 h2; rcases h1 with rfl | rfl <;> rcases h2 with rfl | rfl <;> simp only at h3 <;> omega) ?_ ?_
       · refine ⟨?_, ?_, ?_, ?_, ?_, ?_, ?_, ?_, ?_, ?_, trivial⟩
         · refine op_q ?uvn9 ?h1n9 ?h2n9 ?h3n9
           case h1n9 => exact rfl
           case uvn9 => exact (.pointer (some ⟨gP6, 0, none⟩))
           case h2n9 => exact rfl
           intro w' hw'
           go_simp
         · refine op_qa ?uvn10 ?h1n10 ?h2n10 ?h3n10
           case h1n10 => exact rfl
           case uvn10 => exact (.agg #[.bool (sg n2), .int .u64 (l0 n2 : Int), .int .u64 (l1 n2 : Int), .int .u64 (l2 n2 : Int), .int .u64 (l3 n2 : Int)])
           case h2n10 => exact rfl
           intro w' hw' ha
           have P6 : Box10 w' gP6 (sg n2) (l0 n2) (l1 n2) (l2 n2) (l3 n2) (sg m2) (l0 m2) (l1 m2) (l2 m2) (l3 m2) := (ha 7 0 rfl (by kernel_rfl)).trans P6
           have xP6 := ten_cells P6
           go_simp
         · refine op_q ?uvn11 ?h1n11 ?h2n11 ?h3n11
           case h1n11 => exact rfl
           case uvn11 => exact (.agg #[.bool (sg u2), .int .u64 (l0 u2 : Int), .int .u64 (l1 u2 : Int), .int .u64 (l2 u2 : Int), .int .u64 (l3 u2 : Int)])
           case h2n11 => exact rfl
           intro w' hw'
           go_simp
           exact kN2.out w'
         · refine op_q ?uvn12 ?h1n12 ?h2n12 ?h3n12
           case h1n12 => exact rfl
           case uvn12 => exact (.pointer (some ⟨gP7, 0, none⟩))
           case h2n12 => exact rfl
           intro w' hw'
           go_simp
         · refine op_qa ?uvn13 ?h1n13 ?h2n13 ?h3n13
           case h1n13 => exact rfl
           case uvn13 => exact (.agg #[.bool (sg n1), .int .u64 (l0 n1 : Int), .int .u64 (l1 n1 : Int), .int .u64 (l2 n1 : Int), .int .u64 (l3 n1 : Int)])
           case h2n13 => exact rfl
           intro w' hw' ha
           have P7 : Box10 w' gP7 (sg n1) (l0 n1) (l1 n1) (l2 n1) (l3 n1) (sg m1) (l0 m1) (l1 m1) (l2 m1) (l3 m1) := (ha 9 1 rfl (by kernel_rfl)).trans P7
           have xP7 := ten_cells P7
           go_simp
         · refine op_q ?uvn14 ?h1n14 ?h2n14 ?h3n14
           case h1n14 => exact rfl
           case uvn14 => exact (.agg #[.bool (sg u1), .int .u64 (l0 u1 : Int), .int .u64 (l1 u1 : Int), .int .u64 (l2 u1 : Int), .int .u64 (l3 u1 : Int)])
           case h2n14 => exact rfl
           intro w' hw'
           go_simp
           exact kN1.out w'
         · refine op_q ?uvn15 ?h1n15 ?h2n15 ?h3n15
           case h1n15 => exact rfl
           case uvn15 => exact (.pointer (some ⟨gP6, 0, none⟩))
           case h2n15 => exact rfl
           intro w' hw'
           go_simp
         · refine op_so (c := 0) (T := ?uTn16) (p := ?upn16) (x := ?uxn16) ?ugn16 ?ufn16 ?uvn16 ?h1n16 ?h2n16 ?h3n16 ?h4n16 ?h5n16 ?h6n16 ?h7n16
           case h1n16 => exact rfl
           case h2n16 => exact rfl
           case ufn16 => exact (.cells #[.bool (sg u2), .int .u64 (l0 u2 : Int), .int .u64 (l1 u2 : Int), .int .u64 (l2 u2 : Int), .int .u64 (l3 u2 : Int), .bool (sg m2), .int .u64 (l0 m2 : Int), .int .u64 (l1 m2 : Int), .int .u64 (l2 m2 : Int), .int .u64 (l3 m2 : Int)] 27 (0, 0))
           case ugn16 => exact gP6
           case uvn16 => exact (.agg #[.bool (sg u2), .int .u64 (l0 u2 : Int), .int .u64 (l1 u2 : Int), .int .u64 (l2 u2 : Int), .int .u64 (l3 u2 : Int)])
           case h3n16 => exact rfl
           case h4n16 => exact rfl
           case h5n16 => go_simp; rfl
           case h6n16 => go_simp
           intro ρ w' hp hx hz
           exact store_num rfl hp hx (hz.trans P6)
         · refine op_q ?uvn17 ?h1n17 ?h2n17 ?h3n17
           case h1n17 => exact rfl
           case uvn17 => exact (.pointer (some ⟨gP7, 0, none⟩))
           case h2n17 => exact rfl
           intro w' hw'
           go_simp
         · refine op_so (c := 1) (T := ?uTn18) (p := ?upn18) (x := ?uxn18) ?ugn18 ?ufn18 ?uvn18 ?h1n18 ?h2n18 ?h3n18 ?h4n18 ?h5n18 ?h6n18 ?h7n18
           case h1n18 => exact rfl
           case h2n18 => exact rfl
           case ufn18 => exact (.cells #[.bool (sg u1), .int .u64 (l0 u1 : Int), .int .u64 (l1 u1 : Int), .int .u64 (l2 u1 : Int), .int .u64 (l3 u1 : Int), .bool (sg m1), .int .u64 (l0 m1 : Int), .int .u64 (l1 m1 : Int), .int .u64 (l2 m1 : Int), .int .u64 (l3 m1 : Int)] 27 (0, 0))
           case ugn18 => exact gP7
           case uvn18 => exact (.agg #[.bool (sg u1), .int .u64 (l0 u1 : Int), .int .u64 (l1 u1 : Int), .int .u64 (l2 u1 : Int), .int .u64 (l3 u1 : Int)])
           case h3n18 => exact rfl
           case h4n18 => exact rfl
           case h5n18 => go_simp; rfl
           case h6n18 => go_simp
           intro ρ w' hp hx hz
           exact store_num rfl hp hx (hz.trans P7)
       · intro G W8 hI
         have hS := hI.same
         have P2 := P2.same hS (by intro c hc; simp at hc; rcases hc with rfl | rfl <;> (try simp only) <;> omega)
         have P3 := P3.same hS (by intro c hc; simp at hc; rcases hc with rfl | rfl <;> (try simp only) <;> omega)
         have P4 := P4.same hS (by intro c hc; simp at hc; rcases hc with rfl | rfl <;> (try simp only) <;> omega)
         have hso : ∀ c, Tag.so c ∈ [.q, .q, .q, .q, .q, .q, .q, .so 0, .q, .so 1] → w.heap.size ≤ (fun i => match i with | 0 => gP6 | _ => gP7) c := by intro c hc; simp at hc; rcases hc with rfl | rfl <;> (try simp only) <;> omega
         have EE := hide (hS.ext' EE.out hso)
         have P6 : Box10 W8 gP6 (sg u2) (l0 u2) (l1 u2) (l2 u2) (l3 u2) (sg m2) (l0 m2) (l1 m2) (l2 m2) (l3 m2) := hI.olds' 7 (List.mem_range.2 (show 7 < 10 by decide)) 0 rfl
         have P7 : Box10 W8 gP7 (sg u1) (l0 u1) (l1 u1) (l2 u1) (l3 u1) (sg m1) (l0 m1) (l1 m1) (l2 m1) (l3 m1) := hI.olds' 9 (List.mem_range.2 (show 9 < 10 by decide)) 1 rfl
         clear hI hS
         simp only [putAll, slotV, ptrTo, Nat.zero_add, Nat.reduceAdd]
         go_upto_region 8 with fail
         obtain ⟨xP60, xP61, xP62, xP63, xP64, xP65, xP66, xP67, xP68, xP69, -⟩ := ten_cells P6; obtain ⟨xP70, xP71, xP72, xP73, xP74, xP75, xP76, xP77, xP78, xP79, -⟩ := ten_cells P7
         go_upto_region 9 with (go_at_call 73; (with_reducible refine (kB.out _).mono ?_); rintro e w9 ⟨rfl, hE⟩; clear xP60 xP61 xP62 xP63 xP64 xP65 xP66 xP67 xP68 xP69 xP70 xP71 xP72 xP73 xP74 xP75 xP76 xP77 xP78 xP79; have P2 := P2.ext hE; have P3 := P3.ext hE; have P4 := P4.ext hE; have P6 := P6.ext hE; have P7 := P7.ext hE; have EE := hide (EE.out.trans hE); clear hE; obtain ⟨xP60, xP61, xP62, xP63, xP64, xP65, xP66, xP67, xP68, xP69, -⟩ := ten_cells P6; obtain ⟨xP70, xP71, xP72, xP73, xP74, xP75, xP76, xP77, xP78, xP79, -⟩ := ten_cells P7)
         clear xP60 xP61 xP62 xP63 xP64 xP65 xP66 xP67 xP68 xP69 xP70 xP71 xP72 xP73 xP74 xP75 xP76 xP77 xP78 xP79
         have H2 := two_blocks w9 (.cells #[.bool (sg u), .int .u64 (l0 u : Int), .int .u64 (l1 u : Int), .int .u64 (l2 u : Int), .int .u64 (l3 u : Int)] 25) (.cells #[.bool (sg m), .int .u64 (l0 m : Int), .int .u64 (l1 m : Int), .int .u64 (l2 m : Int), .int .u64 (l3 m : Int)] 25)
         have lP2 := P2.lt
         have lP3 := P3.lt
         have lP4 := P4.lt
         have lP6 := P6.lt
         have lP7 := P7.lt
         have hE := ((ext_alloc w9 (.cells #[.bool (sg u), .int .u64 (l0 u : Int), .int .u64 (l1 u : Int), .int .u64 (l2 u : Int), .int .u64 (l3 u : Int)] 25)).trans (ext_alloc _ (.cells #[.bool (sg m), .int .u64 (l0 m : Int), .int .u64 (l1 m : Int), .int .u64 (l2 m : Int), .int .u64 (l3 m : Int)] 25)))
         have P2 := P2.ext hE
         have P3 := P3.ext hE
         have P4 := P4.ext hE
         have P6 := P6.ext hE
         have P7 := P7.ext hE
         have EE := hide (EE.out.trans hE)
         clear hE
         obtain ⟨W10, hW⟩ : ∃ W, W = ((w9.alloc (.cells #[.bool (sg u), .int .u64 (l0 u : Int), .int .u64 (l1 u : Int), .int .u64 (l2 u : Int), .int .u64 (l3 u : Int)] 25)).alloc (.cells #[.bool (sg m), .int .u64 (l0 m : Int), .int .u64 (l1 m : Int), .int .u64 (l2 m : Int), .int .u64 (l3 m : Int)] 25)) := ⟨_, rfl⟩
         rw [← hW] at H2 EE P2 P3 P4 P6 P7 ⊢
         obtain ⟨g11, hg⟩ : ∃ g, w9.heap.size = g := ⟨_, rfl⟩
         rw [hg] at H2 lP2 lP3 lP4 lP6 lP7 ⊢
         obtain ⟨P8, P9⟩ : Box W10 g11 (sg u) (l0 u) (l1 u) (l2 u) (l3 u) ∧ Box W10 (g11 + 1) (sg m) (l0 m) (l1 m) (l2 m) (l3 m) := H2
         clear hW hg
         have ngP2P8 : g0 ≠ g11 := by omega
         have ngP2P9 : g0 ≠ g11 + 1 := by omega
         have ngP3P8 : g0 + 1 ≠ g11 := by omega
         have ngP3P9 : g0 + 1 ≠ g11 + 1 := by omega
         have ngP4P8 : g0 + 1 + 1 ≠ g11 := by omega
         have ngP4P9 : g0 + 1 + 1 ≠ g11 + 1 := by omega
         have ngP6P8 : gP6 ≠ g11 := by omega
         have ngP6P9 : gP6 ≠ g11 + 1 := by omega
         have ngP7P8 : gP7 ≠ g11 := by omega
         have ngP7P9 : gP7 ≠ g11 + 1 := by omega
         have lbP2 := P2.lt
         have lbP3 := P3.lt
         have lbP4 := P4.lt
         have lbP6 := P6.lt
         have lbP7 := P7.lt
         have lbP8 := P8.lt
         have lbP9 := P9.lt
         have ltW0 : ∀ c, Tag.so c ∈ [.q, .q, .q, .q, .so 0, .q] → (fun _ => g0 + 1 + 1) c < W10.heap.size := by intro c hc; simp at hc; (try subst hc); (try simp only); omega
         refine wp_decl [.q, .q, .q, .q, .so 0, .q] [.agg #[.bool (sg u), .int .u64 (l0 u : Int), .int .u64 (l1 u : Int), .int .u64 (l2 u : Int), .int .u64 (l3 u : Int)], .agg #[.bool (sg n), .int .u64 (l0 n : Int), .int .u64 (l1 n : Int), .int .u64 (l2 n : Int), .int .u64 (l3 n : Int)], .agg #[.bool (sg m), .int .u64 (l0 m : Int), .int .u64 (l1 m : Int), .int .u64 (l2 m : Int), .int .u64 (l3 m : Int)], .agg #[.bool (sg n), .int .u64 (l0 n : Int), .int .u64 (l1 n : Int), .int .u64 (l2 n : Int), .int .u64 (l3 n : Int), .bool (sg m), .int .u64 (l0 m : Int), .int .u64 (l1 m : Int), .int .u64 (l2 m : Int), .int .u64 (l3 m : Int)], undef, .bool true] (fun _ => (.cells #[.bool false, .int .u64 0, .int .u64 0, .int .u64 0, .int .u64 0] 25 (0, 0))) (fun _ => (.cells #[.bool (sg n), .int .u64 (l0 n : Int), .int .u64 (l1 n : Int), .int .u64 (l2 n : Int), .int .u64 (l3 n : Int), .bool (sg m), .int .u64 (l0 m : Int), .int .u64 (l1 m : Int), .int .u64 (l2 m : Int), .int .u64 (l3 m : Int)] 27 (0, 0))) (fun _ => g0 + 1 + 1) (by kernel_rfl) (by kernel_rfl) (by kernel_rfl) rfl rfl ltW0 (by intro c c' h1 h2 _; simp at h1 h2; omega) ?_ ?_
         · refine ⟨?_, ?_, ?_, ?_, ?_, ?_, trivial⟩
           · refine op_q ?uvn20 ?h1n20 ?h2n20 ?h3n20
             case h1n20 => exact rfl
             case uvn20 => exact (.agg #[.bool (sg u), .int .u64 (l0 u : Int), .int .u64 (l1 u : Int), .int .u64 (l2 u : Int), .int .u64 (l3 u : Int)])
             case h2n20 => exact rfl
             intro w' hw'
             have P8 := P8.same hw' (by intro c hc; simp at hc; (try subst hc); (try simp only); omega)
             have xP8 := five_cells P8
             go_simp
           · refine op_q ?uvn21 ?h1n21 ?h2n21 ?h3n21
             case h1n21 => exact rfl
             case uvn21 => exact (.agg #[.bool (sg n), .int .u64 (l0 n : Int), .int .u64 (l1 n : Int), .int .u64 (l2 n : Int), .int .u64 (l3 n : Int)])
             case h2n21 => exact rfl
             intro w' hw'
             go_simp
             exact kN.out w'
           · refine op_q ?uvn22 ?h1n22 ?h2n22 ?h3n22
             case h1n22 => exact rfl
             case uvn22 => exact (.agg #[.bool (sg m), .int .u64 (l0 m : Int), .int .u64 (l1 m : Int), .int .u64 (l2 m : Int), .int .u64 (l3 m : Int)])
             case h2n22 => exact rfl
             intro w' hw'
             have P9 := P9.same hw' (by intro c hc; simp at hc; (try subst hc); (try simp only); omega)
             have xP9 := five_cells P9
             go_simp
           · refine op_q ?uvn23 ?h1n23 ?h2n23 ?h3n23
             case h1n23 => exact rfl
             case uvn23 => exact (.agg #[.bool (sg n), .int .u64 (l0 n : Int), .int .u64 (l1 n : Int), .int .u64 (l2 n : Int), .int .u64 (l3 n : Int), .bool (sg m), .int .u64 (l0 m : Int), .int .u64 (l1 m : Int), .int .u64 (l2 m : Int), .int .u64 (l3 m : Int)])
             case h2n23 => exact rfl
             intro w' hw'
             go_simp
           · refine op_so (c := 0) (T := ?uTn24) (p := ?upn24) (x := ?uxn24) ?ugn24 ?ufn24 ?uvn24 ?h1n24 ?h2n24 ?h3n24 ?h4n24 ?h5n24 ?h6n24 ?h7n24
             case h1n24 => exact rfl
             case h2n24 => exact rfl
             case ufn24 => exact (.cells #[.bool (sg n), .int .u64 (l0 n : Int), .int .u64 (l1 n : Int), .int .u64 (l2 n : Int), .int .u64 (l3 n : Int), .bool (sg m), .int .u64 (l0 m : Int), .int .u64 (l1 m : Int), .int .u64 (l2 m : Int), .int .u64 (l3 m : Int)] 27 (0, 0))
             case ugn24 => exact g0 + 1 + 1
             case uvn24 => exact (.agg #[.bool (sg n), .int .u64 (l0 n : Int), .int .u64 (l1 n : Int), .int .u64 (l2 n : Int), .int .u64 (l3 n : Int), .bool (sg m), .int .u64 (l0 m : Int), .int .u64 (l1 m : Int), .int .u64 (l2 m : Int), .int .u64 (l3 m : Int)])
             case h3n24 => exact rfl
             case h4n24 => exact rfl
             case h5n24 => go_simp; rfl
             case h6n24 => go_simp
             intro ρ w' hp hx hz
             exact store_ratio rfl hp hx (hz.trans P4)
           · refine op_q ?uvn25 ?h1n25 ?h2n25 ?h3n25
             case h1n25 => exact rfl
             case uvn25 => exact (.bool true)
             case h2n25 => exact rfl
             intro w' hw'
             go_simp
         · intro G W12 hI
           have hS := hI.same
           have P2 := P2.same hS (by intro c hc; simp at hc; (try subst hc); (try simp only); omega)
           have P3 := P3.same hS (by intro c hc; simp at hc; (try subst hc); (try simp only); omega)
           have P6 := P6.same hS (by intro c hc; simp at hc; (try subst hc); (try simp only); omega)
           have P7 := P7.same hS (by intro c hc; simp at hc; (try subst hc); (try simp only); omega)
           have P8 := P8.same hS (by intro c hc; simp at hc; (try subst hc); (try simp only); omega)
           have P9 := P9.same hS (by intro c hc; simp at hc; (try subst hc); (try simp only); omega)
           have hso : ∀ c, Tag.so c ∈ [.q, .q, .q, .q, .so 0, .q] → w.heap.size ≤ (fun _ => g0 + 1 + 1) c := by intro c hc; simp at hc; (try subst hc); (try simp only); omega
           have EE := hide (hS.ext' EE.out hso)
           have P4 : Box10 W12 (g0 + 1 + 1) (sg n) (l0 n) (l1 n) (l2 n) (l3 n) (sg m) (l0 m) (l1 m) (l2 m) (l3 m) := hI.olds' 4 (List.mem_range.2 (show 4 < 6 by decide)) 0 rfl
           clear hI hS
           simp only [putAll, slotV, ptrTo, Nat.zero_add, Nat.reduceAdd]
           go_wp2_with fail
           obtain ⟨xP40, xP41, xP42, xP43, xP44, xP45, xP46, xP47, xP48, xP49, xP4f0, xP4f1, xP4f2, xP4f3, xP4f4, xP4f5, xP4f6, xP4f7, xP4f8, xP4f9⟩ := ten_cells P4
           exact bodyPost_ret (v := .tuple #[.agg #[.bool (sg n), .int .u64 (l0 n : Int), .int .u64 (l1 n : Int), .int .u64 (l2 n : Int), .int .u64 (l3 n : Int), .bool (sg m), .int .u64 (l0 m : Int), .int .u64 (l1 m : Int), .int .u64 (l2 m : Int), .int .u64 (l3 m : Int)], .bool true]) (by simp [results, Tryz.results44, go_sem, xP40, xP41, xP42, xP43, xP44, xP45, xP46, xP47, xP48, xP49]) rfl ⟨rfl, EE.out⟩
   · obtain ⟨en, em⟩ := Best.unique h1.1 h2.1 B (Best.zero (by omega) (by omega))
     subst en em
     obtain ⟨i, hi, i1, i2, _⟩ := some_sign n2
     have hi0 : 0 ≤ i := by rcases Int.lt_or_le i 0 with h | h; · exact absurd (i1.1 h) hq
                            · exact h
     obtain ⟨j, hj, j1, j2, _⟩ := some_sign n1
     have hj0 : j ≤ 0 := by rcases Int.lt_or_le 0 j with h | h; · exact absurd (j2.1 h) hp
                            · exact h
     have kS : Hid (∀ w, Calls Tryz.prog 51 #[.agg #[.bool (sg n1), .int .u64 (l0 n1 : Int), .int .u64 (l1 n1 : Int), .int .u64 (l2 n1 : Int), .int .u64 (l3 n1 : Int)]] w (Ret (.int .i64 j) w)) := fun w => d_sign h1.fn hj w
     have kT : Hid (∀ w, Calls Tryz.prog 51 #[.agg #[.bool (sg n2), .int .u64 (l0 n2 : Int), .int .u64 (l1 n2 : Int), .int .u64 (l2 n2 : Int), .int .u64 (l3 n2 : Int)]] w (Ret (.int .i64 i) w)) := fun w => d_sign h2.fn hi w
     have kO : Hid (∀ w, Calls Tryz.prog 17 #[.int .i64 0] w (Ret (.agg #[.bool (sg 0), .int .u64 (l0 0 : Int), .int .u64 (l1 0 : Int), .int .u64 (l2 0 : Int), .int .u64 (l3 0 : Int), .bool (sg 1), .int .u64 (l0 1 : Int), .int .u64 (l1 1 : Int), .int .u64 (l2 1 : Int), .int .u64 (l3 1 : Int)]) w)) := fun w => h_of (by omega) (by omega) w
     clear h1 h2 hle B hp hq hi i1 i2 hj j1 j2
     obtain ⟨W0, hW0⟩ : ∃ W0, W0 = (((w.alloc (.cells #[.bool (sg n1), .int .u64 (l0 n1 : Int), .int .u64 (l1 n1 : Int), .int .u64 (l2 n1 : Int), .int .u64 (l3 n1 : Int), .bool (sg m1), .int .u64 (l0 m1 : Int), .int .u64 (l1 m1 : Int), .int .u64 (l2 m1 : Int), .int .u64 (l3 m1 : Int)] 27)).alloc (.cells #[.bool (sg n2), .int .u64 (l0 n2 : Int), .int .u64 (l1 n2 : Int), .int .u64 (l2 n2 : Int), .int .u64 (l3 n2 : Int), .bool (sg m2), .int .u64 (l0 m2 : Int), .int .u64 (l1 m2 : Int), .int .u64 (l2 m2 : Int), .int .u64 (l3 m2 : Int)] 27)).alloc (.cells #[.bool false, .int .u64 0, .int .u64 0, .int .u64 0, .int .u64 0, .bool false, .int .u64 0, .int .u64 0, .int .u64 0, .int .u64 0] 27)) := ⟨_, rfl⟩
     have H2 := three_boxes w (.cells #[.bool (sg n1), .int .u64 (l0 n1 : Int), .int .u64 (l1 n1 : Int), .int .u64 (l2 n1 : Int), .int .u64 (l3 n1 : Int), .bool (sg m1), .int .u64 (l0 m1 : Int), .int .u64 (l1 m1 : Int), .int .u64 (l2 m1 : Int), .int .u64 (l3 m1 : Int)] 27) (.cells #[.bool (sg n2), .int .u64 (l0 n2 : Int), .int .u64 (l1 n2 : Int), .int .u64 (l2 n2 : Int), .int .u64 (l3 n2 : Int), .bool (sg m2), .int .u64 (l0 m2 : Int), .int .u64 (l1 m2 : Int), .int .u64 (l2 m2 : Int), .int .u64 (l3 m2 : Int)] 27) (.cells #[.bool false, .int .u64 0, .int .u64 0, .int .u64 0, .int .u64 0, .bool false, .int .u64 0, .int .u64 0, .int .u64 0, .int .u64 0] 27)
     have EE0 : Ext w W0 := by rw [hW0]; exact (((ext_alloc _ _).trans (ext_alloc _ _)).trans (ext_alloc _ _))
     rw [← hW0] at H2
     have EE := hide EE0
     have HW := hide hW0
     obtain ⟨P2, P3, P4⟩ : Box10 W0 (w.heap.size) (sg n1) (l0 n1) (l1 n1) (l2 n1) (l3 n1) (sg m1) (l0 m1) (l1 m1) (l2 m1) (l3 m1) ∧ Box10 W0 ((w.heap.size + 1)) (sg n2) (l0 n2) (l1 n2) (l2 n2) (l3 n2) (sg m2) (l0 m2) (l1 m2) (l2 m2) (l3 m2) ∧ Box10 W0 ((w.heap.size + 1 + 1)) false 0 0 0 0 false 0 0 0 0 := H2
     clear hW0 EE0
     go_enter Tryz.func44, Tryz.ntmps44
     go_upto_region 1 with fail
     rw [← HW.out]
     clear HW
     have hg0 : w.heap.size ≤ w.heap.size := Nat.le_refl _
     obtain ⟨g0, hg⟩ : ∃ g, w.heap.size = g := ⟨_, rfl⟩
     rw [hg] at P2 P3 P4 ⊢
     replace hg0 : w.heap.size ≤ g0 := Nat.le_of_eq hg
     clear hg
     obtain ⟨xP20, xP21, xP22, xP23, xP24, xP25, xP26, xP27, xP28, xP29, -⟩ := ten_cells P2; obtain ⟨xP30, xP31, xP32, xP33, xP34, xP35, xP36, xP37, xP38, xP39, -⟩ := ten_cells P3
     go_upto_region 3 with (first
       | (go_at_call 43; (with_reducible refine (kV1.out _).mono ?_); rintro e w1 ⟨rfl, hE⟩; clear xP20 xP21 xP22 xP23 xP24 xP25 xP26 xP27 xP28 xP29 xP30 xP31 xP32 xP33 xP34 xP35 xP36 xP37 xP38 xP39; have P2 := P2.ext hE; have P3 := P3.ext hE; have P4 := P4.ext hE; have EE := hide (EE.out.trans hE); clear hE; obtain ⟨xP20, xP21, xP22, xP23, xP24, xP25, xP26, xP27, xP28, xP29, -⟩ := ten_cells P2; obtain ⟨xP30, xP31, xP32, xP33, xP34, xP35, xP36, xP37, xP38, xP39, -⟩ := ten_cells P3)
       | (go_at_call 43; (with_reducible refine (kV2.out _).mono ?_); rintro e w2 ⟨rfl, hE⟩; clear xP20 xP21 xP22 xP23 xP24 xP25 xP26 xP27 xP28 xP29 xP30 xP31 xP32 xP33 xP34 xP35 xP36 xP37 xP38 xP39; have P2 := P2.ext hE; have P3 := P3.ext hE; have P4 := P4.ext hE; have EE := hide (EE.out.trans hE); clear hE; obtain ⟨xP20, xP21, xP22, xP23, xP24, xP25, xP26, xP27, xP28, xP29, -⟩ := ten_cells P2; obtain ⟨xP30, xP31, xP32, xP33, xP34, xP35, xP36, xP37, xP38, xP39, -⟩ := ten_cells P3)
       | (go_at_call 12; (with_reducible refine (kC.out _).mono ?_); rintro e w3 ⟨rfl, hE⟩; clear xP20 xP21 xP22 xP23 xP24 xP25 xP26 xP27 xP28 xP29 xP30 xP31 xP32 xP33 xP34 xP35 xP36 xP37 xP38 xP39; have P2 := P2.ext hE; have P3 := P3.ext hE; have P4 := P4.ext hE; have EE := hide (EE.out.trans hE); clear hE; obtain ⟨xP20, xP21, xP22, xP23, xP24, xP25, xP26, xP27, xP28, xP29, -⟩ := ten_cells P2; obtain ⟨xP30, xP31, xP32, xP33, xP34, xP35, xP36, xP37, xP38, xP39, -⟩ := ten_cells P3))
     clear xP20 xP21 xP22 xP23 xP24 xP25 xP26 xP27 xP28 xP29 xP30 xP31 xP32 xP33 xP34 xP35 xP36 xP37 xP38 xP39
     obtain ⟨xP20, xP21, xP22, xP23, xP24, xP25, xP26, xP27, xP28, xP29, -⟩ := ten_cells P2; obtain ⟨xP30, xP31, xP32, xP33, xP34, xP35, xP36, xP37, xP38, xP39, -⟩ := ten_cells P3
     go_upto_region 4 with (first
       | (go_at_call 51; (with_reducible refine (kS.out _).mono ?_); rintro e w4 ⟨rfl, hE⟩; clear xP20 xP21 xP22 xP23 xP24 xP25 xP26 xP27 xP28 xP29 xP30 xP31 xP32 xP33 xP34 xP35 xP36 xP37 xP38 xP39; have P2 := P2.ext hE; have P3 := P3.ext hE; have P4 := P4.ext hE; have EE := hide (EE.out.trans hE); clear hE; obtain ⟨xP20, xP21, xP22, xP23, xP24, xP25, xP26, xP27, xP28, xP29, -⟩ := ten_cells P2; obtain ⟨xP30, xP31, xP32, xP33, xP34, xP35, xP36, xP37, xP38, xP39, -⟩ := ten_cells P3)
       | (go_at_call 51; (with_reducible refine (kT.out _).mono ?_); rintro e w5 ⟨rfl, hE⟩; clear xP20 xP21 xP22 xP23 xP24 xP25 xP26 xP27 xP28 xP29 xP30 xP31 xP32 xP33 xP34 xP35 xP36 xP37 xP38 xP39; have P2 := P2.ext hE; have P3 := P3.ext hE; have P4 := P4.ext hE; have EE := hide (EE.out.trans hE); clear hE; obtain ⟨xP20, xP21, xP22, xP23, xP24, xP25, xP26, xP27, xP28, xP29, -⟩ := ten_cells P2; obtain ⟨xP30, xP31, xP32, xP33, xP34, xP35, xP36, xP37, xP38, xP39, -⟩ := ten_cells P3))
     clear xP20 xP21 xP22 xP23 xP24 xP25 xP26 xP27 xP28 xP29 xP30 xP31 xP32 xP33 xP34 xP35 xP36 xP37 xP38 xP39
     obtain ⟨xP40, xP41, xP42, xP43, xP44, xP45, xP46, xP47, xP48, xP49, xP4f0, xP4f1, xP4f2, xP4f3, xP4f4, xP4f5, xP4f6, xP4f7, xP4f8, xP4f9⟩ := ten_cells P4
     go_wp2_with (first
       | (go_at_call 17; (with_reducible refine (kO.out _).mono ?_); rintro e w6 ⟨rfl, hE⟩; clear xP40 xP41 xP42 xP43 xP44 xP45 xP46 xP47 xP48 xP49 xP4f0 xP4f1 xP4f2 xP4f3 xP4f4 xP4f5 xP4f6 xP4f7 xP4f8 xP4f9; have P2 := P2.ext hE; have P3 := P3.ext hE; have P4 := P4.ext hE; have EE := hide (EE.out.trans hE); clear hE; obtain ⟨xP40, xP41, xP42, xP43, xP44, xP45, xP46, xP47, xP48, xP49, xP4f0, xP4f1, xP4f2, xP4f3, xP4f4, xP4f5, xP4f6, xP4f7, xP4f8, xP4f9⟩ := ten_cells P4))
     exact bodyPost_ret (v := .tuple #[.agg #[.bool (sg 0), .int .u64 (l0 0 : Int), .int .u64 (l1 0 : Int), .int .u64 (l2 0 : Int), .int .u64 (l3 0 : Int), .bool (sg 1), .int .u64 (l0 1 : Int), .int .u64 (l1 1 : Int), .int .u64 (l2 1 : Int), .int .u64 (l3 1 : Int)], .bool true]) (by simp [results, Tryz.results44, go_sem, xP40, xP41, xP42, xP43, xP44, xP45, xP46, xP47, xP48, xP49]) rfl ⟨rfl, ext_ten EE.out (by omega) _ _ _ _ _ _ _ _ _ _⟩
end
section
open Go Go.RowKit Go.Sort
theorem cmpF_le {r s : Fr} {k : Int} (h : cmpI (r.1 * s.2) (s.1 * r.2) = k) : decide (k ≤ 0) = decide (leF r s) := by
 have := cmpI_lt h
 unfold leF
 by_cases hl : r.1 * s.2 ≤ s.1 * r.2
 · rw [decide_eq_true hl, decide_eq_true (by omega)]
 · rw [decide_eq_false hl, decide_eq_false (by omega)]
theorem r_val : PVal 21 := fun c hc w => by
 cases c with
 | op => exact rc_valid true zR zR rfl rfl w true false false 0 (fun _ w => eq_cone true RC.zero RC.zero w) (fun h => by cases h) (fun h => by cases h) (fun h => by cases h) true rfl
 | cl a b =>
   obtain ⟨r, hr⟩ : ∃ r, cmpI (a.1 * b.2) (b.1 * a.2) = r := ⟨_, rfl⟩
   exact rc_valid false (frC a) (frC b) rfl rfl w true true true r (fun h => by cases h) (fun _ w => h_valid hc.1 w) (fun _ w => h_valid hc.2.1 w) (fun _ _ _ w => h_cmpC hc.1 hc.2.1 hr w) true (by rw [cmpF_le hr, decide_eq_true hc.2.2]; rfl)
theorem r_con : PCon 22 := fun c s hc hs w => by
 have kv := fun w => r_val c hc w
 cases c with
 | op => exact rc_contains true zR zR (frC s) rfl rfl rfl w true true 0 0 kv (fun _ w => h_valid hs w) (fun _ _ h => by cases h) (fun _ _ h => by cases h) _ (by simp [inC]; exact decide_eq_true trivial)
 | cl a b =>
   obtain ⟨r1, h1⟩ : ∃ r, cmpI (a.1 * s.2) (s.1 * a.2) = r := ⟨_, rfl⟩
   obtain ⟨r2, h2⟩ : ∃ r, cmpI (s.1 * b.2) (b.1 * s.2) = r := ⟨_, rfl⟩
   exact rc_contains false (frC a) (frC b) (frC s) rfl rfl rfl w true true r1 r2 kv (fun _ w => h_valid hs w) (fun _ _ _ w => h_cmpC hc.1 hs h1 w) (fun _ _ _ w => h_cmpC hs hc.2.1 h2 w) _ (by
     rw [cmpF_le h1, cmpF_le h2]
     unfold inC
     by_cases p : leF a s <;> by_cases q : leF s b <;> simp [p, q])
theorem r_cho : PCho 23 := fun c hc => by
 cases c with
 | op => exact ⟨(0, 1), rfl, fun w => rc_choose true zR zR (frC (0, 1)) zR rfl rfl rfl (frC_rc _).one rfl zR_one w true false (fun w => r_val .op trivial w) (fun _ _ w => h_of (by omega) (by omega) w) (fun _ h => by cases h)⟩
 | cl a b =>
   obtain ⟨n, m, B⟩ := best_some hc.1.1 hc.2.1.1 hc.2.2
   exact ⟨(n, m), B, fun w => rc_choose false (frC a) (frC b) zR (frC (n, m)) rfl rfl rfl zR_one rfl (frC_rc _).one w true true (fun w => r_val (.cl a b) hc w) (fun _ h => by cases h) (fun _ _ w => q_between hc.1 hc.2.1 hc.2.2 B w)⟩
theorem cmpF_lt {r s : Fr} {k : Int} (h : cmpI (r.1 * s.2) (s.1 * r.2) = k) : (0 < k ↔ ¬ leF r s) ∧ (k < 0 ↔ ¬ leF s r) := by
 have := cmpI_lt h
 unfold leF
 constructor <;> constructor <;> intro q <;> omega
theorem r_mee : PMee 20 := fun a b ha hb w => by
 have ka := fun w => r_val a ha w
 have kb := fun w => r_val b hb w
 cases a with
 | op =>
   cases b with
   | op => exact rc_meet true true zR zR zR zR rfl rfl rfl rfl zR_one zR_one zR_one zR_one w true true 0 0 0 ka (fun _ => kb) (fun _ _ h => by cases h) (fun _ _ h => by cases h) (fun _ _ h => by cases h)
   | cl lb hb' => exact rc_meet true false zR zR (frC lb) (frC hb') rfl rfl rfl rfl zR_one zR_one (frC_rc _).one (frC_rc _).one w true true 0 0 0 ka (fun _ => kb) (fun _ _ h => by cases h) (fun _ _ h => by cases h) (fun _ _ h => by cases h)
 | cl la ha' =>
   cases b with
   | op => exact rc_meet false true (frC la) (frC ha') zR zR rfl rfl rfl rfl (frC_rc _).one (frC_rc _).one zR_one zR_one w true true 0 0 0 ka (fun _ => kb) (fun _ _ _ h => by cases h) (fun _ _ _ h => by cases h) (fun _ _ _ h => by cases h)
   | cl lb hb' =>
     obtain ⟨c1, h1⟩ : ∃ r, cmpI (lb.1 * la.2) (la.1 * lb.2) = r := ⟨_, rfl⟩
     obtain ⟨c2, h2⟩ : ∃ r, cmpI (hb'.1 * ha'.2) (ha'.1 * hb'.2) = r := ⟨_, rfl⟩
     have e1 : (if 0 < c1 then frC lb else frC la) = frC (maxF la lb) := by
       unfold maxF
       by_cases p : leF lb la
       · rw [if_pos p, if_neg (fun q => (cmpF_lt h1).1.1 q p)]
       · rw [if_neg p, if_pos ((cmpF_lt h1).1.2 p)]
     have e2 : (if c2 < 0 then frC hb' else frC ha') = frC (minF ha' hb') := by
       unfold minF
       by_cases p : leF ha' hb'
       · rw [if_pos p, if_neg (fun q => (cmpF_lt h2).2.1 q p)]
       · rw [if_neg p, if_pos ((cmpF_lt h2).2.2 p)]
     obtain ⟨c3, h3⟩ : ∃ r, cmpI ((maxF la lb).1 * (minF ha' hb').2) ((minF ha' hb').1 * (maxF la lb).2) = r := ⟨_, rfl⟩
     have hm := maxF_ok ha.1 hb.1
     have hn := minF_ok ha.2.1 hb.2.1
     have := rc_meet false false (frC la) (frC ha') (frC lb) (frC hb') rfl rfl rfl rfl (frC_rc _).one (frC_rc _).one (frC_rc _).one (frC_rc _).one w true true c1 c2 c3 ka (fun _ => kb) (fun _ _ _ _ w => h_cmpC hb.1 ha.1 h1 w) (fun _ _ _ _ w => h_cmpC hb.2.1 ha.2.1 h2 w) (fun _ _ _ _ w => by rw [e1, e2]; exact h_cmpC hm hn h3 w)
     have em : metC true true false false (frC la) (frC ha') (frC lb) (frC hb') c1 c2 c3 = (moC (meetC (.cl la ha') (.cl lb hb')), (meetC (.cl la ha') (.cl lb hb')).isSome) := by
       unfold metC
       rw [e1, e2]
       simp only [meetC]
       by_cases p : leF (maxF la lb) (minF ha' hb')
       · rw [if_pos p]
         have : ¬ 0 < c3 := fun q => (cmpF_lt h3).1.1 q p
         simp [this, moC, cnC]
       · rw [if_neg p]
         have : 0 < c3 := (cmpF_lt h3).1.2 p
         simp [this, moC]
     rw [em] at this
     exact this
end
section
open Go Go.RowKit Go.Sort
theorem rz_eq (s : Bool) (a b c e : Int) (t : Bool) (f g h i : Int) : ((#[.bool s, .int .u64 a, .int .u64 b, .int .u64 c, .int .u64 e, .bool t, .int .u64 f, .int .u64 g, .int .u64 h, .int .u64 i] : Array Value) = zR) ↔ (same5 s false a b c e 0 0 0 0 && same5 t false f g h i 0 0 0 0) = true := by
 simp [zR, same5, and_assoc]
theorem eq_cone_open {L H : Array Value} (hL : RC L) (hH : RC H) (v : Bool) (hv : (L = zR ∧ H = zR) ↔ v = true) (w : World) : (binOp .eql 29 (.agg (coneC true L H)) (.agg stC)).run Tryz.prog w = .ok (.bool v) w := by
 obtain ⟨s, a, b, c, e, t, f, g, h, i, rfl⟩ := hL
 obtain ⟨s', a', b', c', e', t', f', g', h', i', rfl⟩ := hH
 have hS : Tryz.prog.underlying 29 = some (.struct (Tryz.prog.fieldsOf 29)) := by kernel_rfl
 have hp : Tryz.prog.stoodInHeld 29 = false := by kernel_rfl
 have u4 := Tryz.underlying4
 have z25 := Tryz.sizeOf27
 have h5 := eqInR9
 rw [run_eql_struct, show (10000 : Nat) = 9999 + 1 from rfl, run_equalIn_agg w 9999 29 _ _ hS hp]
 simp only [Program.fieldsOf, Tryz.underlying29, stC]
 simp [Op.eqFields, part, isAgg, run_underlying u4, run_equalIn_bool', u4, h5, z25, coneC]
 rw [rz_eq, rz_eq] at hv
 revert hv
 generalize same5 s false a b c e 0 0 0 0 = p
 generalize same5 t false f g h i 0 0 0 0 = q
 generalize same5 s' false a' b' c' e' 0 0 0 0 = r
 generalize same5 t' false f' g' h' i' 0 0 0 0 = u
 intro hv
 cases p <;> cases q <;> cases r <;> cases u <;> cases v <;> simp at hv ⊢
def BadR (S : Array Value) : Prop := ∃ (s : Bool) (a b c d : Nat) (t : Bool) (e f g h : Nat) (n m : Int), S = #[.bool s, .int .u64 (a : Int), .int .u64 (b : Int), .int .u64 (c : Int), .int .u64 (d : Int), .bool t, .int .u64 (e : Int), .int .u64 (f : Int), .int .u64 (g : Int), .int .u64 (h : Int)] ∧ IsW s a b c d n ∧ IsW t e f g h m ∧ ¬ RatOk s n t m
def OkR (S : Array Value) : Prop := ∃ f, okF f ∧ S = frC f
def RawR (S : Array Value) : Prop := OkR S ∨ BadR S
theorem rawR_of {s : Bool} {a b c d : Nat} {t : Bool} {e f g h : Nat} {n m : Int} (hx : IsW s a b c d n) (hy : IsW t e f g h m) : RawR #[.bool s, .int .u64 (a : Int), .int .u64 (b : Int), .int .u64 (c : Int), .int .u64 (d : Int), .bool t, .int .u64 (e : Int), .int .u64 (f : Int), .int .u64 (g : Int), .int .u64 (h : Int)] := by
 by_cases hr : RatOk s n t m
 · obtain ⟨g1, g2, hF⟩ := hr
   obtain ⟨rfl, rfl, rfl, rfl, rfl⟩ := isC_fix ⟨hx, g1⟩
   obtain ⟨rfl, rfl, rfl, rfl, rfl⟩ := isC_fix ⟨hy, g2⟩
   exact Or.inl ⟨(n, m), hF, rfl⟩
 · exact Or.inr ⟨_, _, _, _, _, _, _, _, _, _, n, m, rfl, hx, hy, hr⟩
theorem RawR.rc {S : Array Value} (h : RawR S) : RC S := by
 rcases h with ⟨f, _, rfl⟩ | ⟨s, a, b, c, d, t, e, f, g, h, n, m, rfl, _⟩
 · exact frC_rc f
 · exact ⟨_, _, _, _, _, _, _, _, _, _, rfl⟩
def BadC (X : Array Value) : Prop := ∃ o L H, X = coneC o L H ∧ RawR L ∧ RawR H ∧ ((o = true ∧ ¬ (L = zR ∧ H = zR)) ∨ (o = false ∧ (BadR L ∨ (OkR L ∧ BadR H) ∨ ∃ f g, okF f ∧ okF g ∧ L = frC f ∧ H = frC g ∧ ¬ leF f g)))
def OkC (X : Array Value) : Prop := ∃ c, okC c ∧ X = cnC c
def RawC (X : Array Value) : Prop := OkC X ∨ BadC X
theorem rawC_of (o : Bool) {L H : Array Value} (hL : RawR L) (hH : RawR H) : RawC (coneC o L H) := by
 cases o with
 | true =>
   by_cases h : L = zR ∧ H = zR
   · obtain ⟨rfl, rfl⟩ := h
     exact Or.inl ⟨.op, trivial, rfl⟩
   · exact Or.inr ⟨true, L, H, rfl, hL, hH, Or.inl ⟨rfl, h⟩⟩
 | false =>
   have bad : (BadR L ∨ (OkR L ∧ BadR H) ∨ ∃ f g, okF f ∧ okF g ∧ L = frC f ∧ H = frC g ∧ ¬ leF f g) → RawC (coneC false L H) := fun h => Or.inr ⟨false, L, H, rfl, hL, hH, Or.inr ⟨rfl, h⟩⟩
   rcases hL with hL' | hL'
   · rcases hH with hH' | hH'
     · obtain ⟨f, hf, rfl⟩ := hL'
       obtain ⟨g, hg, rfl⟩ := hH'
       by_cases h : leF f g
       · exact Or.inl ⟨.cl f g, ⟨hf, hg, h⟩, rfl⟩
       · exact bad (Or.inr (Or.inr ⟨f, g, hf, hg, rfl, rfl, h⟩))
     · exact bad (Or.inr (Or.inl ⟨hL', hH'⟩))
   · exact bad (Or.inl hL')
theorem r_ratB {S : Array Value} (h : BadR S) (w : World) : Calls Tryz.prog 43 #[.agg S] w (Ret (.bool false) w) := by
 obtain ⟨s, a, b, c, d, t, e, f, g, i, n, m, rfl, hx, hy, hr⟩ := h
 exact rf_valid s t a b c d e f g i n m w hx hy false (decide_eq_false hr)
theorem r_ratO {S : Array Value} (h : OkR S) (w : World) : Calls Tryz.prog 43 #[.agg S] w (Ret (.bool true) w) := by
 obtain ⟨f, hf, rfl⟩ := h
 exact h_valid hf w
theorem r_valB {X : Array Value} (h : BadC X) (w : World) : Calls Tryz.prog 21 #[.agg X] w (Ret (.bool false) w) := by
 obtain ⟨o, L, H, rfl, hL, hH, hb⟩ := h
 have sL := hL.rc.size
 have sH := hH.rc.size
 rcases hb with ⟨rfl, hb⟩ | ⟨rfl, hb⟩
 · exact rc_valid true L H sL sH w false false false 0 (fun _ w => eq_cone_open hL.rc hH.rc false (by simp [hb]) w) (fun h => by cases h) (fun h => by cases h) (fun h => by cases h) false rfl
 · rcases hb with hb | ⟨ho, hb⟩ | ⟨f, g, hf, hg, rfl, rfl, hl⟩
   · rcases hH with hH' | hH'
     · exact rc_valid false L H sL sH w false false true 0 (fun h => by cases h) (fun _ w => r_ratB hb w) (fun _ w => r_ratO hH' w) (fun _ h => by cases h) false rfl
     · exact rc_valid false L H sL sH w false false false 0 (fun h => by cases h) (fun _ w => r_ratB hb w) (fun _ w => r_ratB hH' w) (fun _ h => by cases h) false rfl
   · exact rc_valid false L H sL sH w false true false 0 (fun h => by cases h) (fun _ w => r_ratO ho w) (fun _ w => r_ratB hb w) (fun _ _ h => by cases h) false rfl
   · obtain ⟨r, hr⟩ : ∃ r, cmpI (f.1 * g.2) (g.1 * f.2) = r := ⟨_, rfl⟩
     exact rc_valid false (frC f) (frC g) rfl rfl w false true true r (fun h => by cases h) (fun _ w => h_valid hf w) (fun _ w => h_valid hg w) (fun _ _ _ w => h_cmpC hf hg hr w) false (by rw [cmpF_le hr, decide_eq_false hl]; rfl)
end
section
open Go Go.ChangeShapes Go.WideShapes Go.ChangeAt Go.RowKit
theorem array21 {α : Type} {cs : Array α} (h : cs.size = 21) : ∃ c0 c1 c2 c3 c4 c5 c6 c7 c8 c9 c10 c11 c12 c13 c14 c15 c16 c17 c18 c19 c20, cs = #[c0, c1, c2, c3, c4, c5, c6, c7, c8, c9, c10, c11, c12, c13, c14, c15, c16, c17, c18, c19, c20] := by
 obtain ⟨l⟩ := cs
 match l, h with
 | [c0, c1, c2, c3, c4, c5, c6, c7, c8, c9, c10, c11, c12, c13, c14, c15, c16, c17, c18, c19, c20], _ => exact ⟨c0, c1, c2, c3, c4, c5, c6, c7, c8, c9, c10, c11, c12, c13, c14, c15, c16, c17, c18, c19, c20, rfl⟩
theorem cellsCone : Tryz.prog.cellsOf 29 = 21 := by kernel_rfl
set_option maxRecDepth 100000 in
theorem ratio_trod {H : Type} {enc : TypeId × Value → H} {W : World} {n : Nat} {c0 c1 c2 c3 c4 c5 c6 c7 c8 c9 : Value} {x : DataW H × List MemPlace} (hf : DataW.trod enc Tryz.prog W 0 (fun _ => true) true n 27 [c0, c1, c2, c3, c4, c5, c6, c7, c8, c9] = some x) :
   RawR #[c0, c1, c2, c3, c4, c5, c6, c7, c8, c9] := by
 obtain ⟨y0, y1, n, hx, hl, h0, h1⟩ := trod_struct2 Tryz.underlying27 hf
 simp only [cellsWide] at h0 h1
 obtain ⟨s, a, b, c, e, x, rfl, rfl, rfl, rfl, rfl, hz⟩ := wide_trod (show DataW.trod enc Tryz.prog W 0 (fun _ => true) true n 25 [c0, c1, c2, c3, c4] = some y0 from h0)
 obtain ⟨t, a', b', c', e', y, rfl, rfl, rfl, rfl, rfl, hz'⟩ := wide_trod (show DataW.trod enc Tryz.prog W 0 (fun _ => true) true n 25 [c5, c6, c7, c8, c9] = some y1 from h1)
 exact rawR_of hz hz'
set_option maxRecDepth 100000 in
theorem rat_open {H : Type} {enc : TypeId × Value → H} {W : World} {base : Nat} {v : Value} {d : DataW H} {p : List MemPlace} (hv : Value.okWide Tryz.prog W .any base 27 v) (h : DataW.Trod enc Tryz.prog W 0 (fun _ => true) true 27 v d p) : ∃ X, v = .agg X ∧ RawR X := by
 obtain ⟨cs, rfl, hsz⟩ := okWide_struct Tryz.underlying27 hv
 obtain ⟨c0, c1, c2, c3, c4, c5, c6, c7, c8, c9, rfl⟩ := array10 (hsz.trans cellsRatio)
 obtain ⟨fuel, hf⟩ := h
 exact ⟨_, rfl, ratio_trod hf⟩
set_option maxRecDepth 100000 in
theorem cone_open {H : Type} {enc : TypeId × Value → H} {W : World} {base : Nat} {v : Value} {d : DataW H} {p : List MemPlace} (hv : Value.okWide Tryz.prog W .any base 29 v) (h : DataW.Trod enc Tryz.prog W 0 (fun _ => true) true 29 v d p) : ∃ X, v = .agg X ∧ RawC X := by
 obtain ⟨cs, rfl, hsz⟩ := okWide_struct Tryz.underlying29 hv
 obtain ⟨c0, c1, c2, c3, c4, c5, c6, c7, c8, c9, c10, c11, c12, c13, c14, c15, c16, c17, c18, c19, c20, rfl⟩ := array21 (hsz.trans cellsCone)
 obtain ⟨fuel, hf⟩ := h
 obtain ⟨y0, y1, y2, n, hx, hl, h0, h1, h2⟩ := Go.Deep.trod_struct3 Tryz.underlying29 hf
 simp only [cellsBool, cellsRatio] at h0 h1 h2
 have h0 : DataW.trod enc Tryz.prog W 0 (fun _ => true) true n 4 [c0] = some y0 := h0
 obtain ⟨s, hs, _⟩ := DataW.trod_bool Tryz.underlying4 h0
 obtain rfl : c0 = .bool s := by simpa using hs
 have r1 := ratio_trod (show DataW.trod enc Tryz.prog W 0 (fun _ => true) true n 27 [c1, c2, c3, c4, c5, c6, c7, c8, c9, c10] = some y1 from h1)
 have r2 := ratio_trod (show DataW.trod enc Tryz.prog W 0 (fun _ => true) true n 27 [c11, c12, c13, c14, c15, c16, c17, c18, c19, c20] = some y2 from h2)
 exact ⟨_, (by kernel_rfl : _ = Value.agg (coneC s #[c1, c2, c3, c4, c5, c6, c7, c8, c9, c10] #[c11, c12, c13, c14, c15, c16, c17, c18, c19, c20])), rawC_of s r1 r2⟩
end
section
open Go Go.RowKit Go.Sort
attribute [local go_sem] qUpon eUpon putE slE
set_option maxHeartbeats 3200000 in
set_option maxRecDepth 100000 in
theorem l_alike13 (a b c M D : Array Value) (ok va vc : Bool) (W : World) (sa : a.size = 21) (oa : a.all (·.oneCell') = true) (sb : b.size = 21) (ob : b.all (·.oneCell') = true) (sc : c.size = 10) (oc : c.all (·.oneCell') = true) (sM : M.size = 21) (oM : M.all (·.oneCell') = true)
   (qM : ∀ w, (binOp .eql 29 (.agg M) (.agg M)).run Tryz.prog w = .ok (.bool true) w) (qD : ∀ w, (binOp .eql 27 (.agg D) (.agg D)).run Tryz.prog w = .ok (.bool true) w)
   (k1 : Hid (∀ w, Calls Tryz.prog 15 #[.agg a, .agg b] w (Ret (.tuple #[.agg M, .bool ok]) w))) (k2 : Hid (∀ w, Calls Tryz.prog 20 #[.agg a, .agg b] w (Ret (.tuple #[.agg M, .bool ok]) w)))
   (k3 : Hid (∀ w, Calls Tryz.prog 18 #[.agg a] w (Ret (.bool va) w))) (k4 : Hid (∀ w, Calls Tryz.prog 21 #[.agg a] w (Ret (.bool va) w)))
   (k5 : Hid (∀ w, Calls Tryz.prog 19 #[.agg a, .agg c] w (Ret (.bool vc) w))) (k6 : Hid (∀ w, Calls Tryz.prog 22 #[.agg a, .agg c] w (Ret (.bool vc) w)))
   (k7 : Hid (∀ w, Calls Tryz.prog 16 #[.agg a] w (Ret (.agg D) w))) (k8 : Hid (∀ w, Calls Tryz.prog 23 #[.agg a] w (Ret (.agg D) w))) :
   Calls Tryz.prog 9 #[.agg a, .agg b, .agg c] W (Ret (.bool true) W) := by
 replace qM := hide qM
 replace qD := hide qD
 have bk : (ok == ok) = true := by simp
 have bv : (va == va) = true := by simp
 have bc : (vc == vc) = true := by simp
 have P3 := ((Blk.new W 29 a).alloc (.cells b 29)).alloc (.cells c 27)
 have P4 := (Blk.new (W.alloc (.cells a 29)) 29 b).alloc (.cells c 27)
 rw [alloc_size] at P4
 have P5 := Blk.new ((W.alloc (.cells a 29)).alloc (.cells b 29)) 27 c
 simp only [alloc_size] at P5
 have EE := hide (((ext_alloc W (.cells a 29)).trans (ext_alloc _ (.cells b 29))).trans (ext_alloc _ (.cells c 27)))
 obtain ⟨W1, hW1⟩ : ∃ W1, (((W.alloc (.cells a 29)).alloc (.cells b 29)).alloc (.cells c 27)) = W1 := ⟨_, rfl⟩
 obtain ⟨g0, hg⟩ : ∃ g, W.heap.size = g := ⟨_, rfl⟩
 rw [hW1] at P3 P4 P5 EE
 rw [hg] at P3 P4 P5
 have P3_lo : W.heap.size ≤ g0 := by omega
 have P4_lo : W.heap.size ≤ g0 + 1 := by omega
 have P5_lo : W.heap.size ≤ g0 + 1 + 1 := by omega
 have HW := hide hW1
 have Hg := hide hg
 clear hW1 hg
 go_enter Tryz.func9, Tryz.ntmps9
 go_upto_region 1 with fail
 rw [HW.out, Hg.out]
 clear HW Hg
 have P3_lt := P3.lt
 have P4_lt := P4.lt
 have P5_lt := P5.lt
 refine wp_evs [.q, .q, .q, .q, .q, .q, .al, .st 6, .q] [0, 0, 0, 0, 0, 0, 0, 0, 0] (fun R => [.agg a, .agg b, .tuple #[.agg M, .bool ok], .tuple #[.agg M, .bool ok], .agg M, .bool ok, undef, undef, .bool ok]) (fun _ => (.cells z21 29 (0, 0))) (fun R _ => (.cells M 29 (0, 0))) (fun _ => 0) (XE W) (fun _ => False) (by kernel_rfl) (by kernel_rfl) (by kernel_rfl) rfl (fun _ => rfl) (fun _ h => h.elim) (fun _ _ h => h) (by simp) (by simp) (fun R R' => ⟨fun _ => rfl, fun _ => rfl, fun _ => rfl, fun _ => rfl, fun _ => rfl, fun _ => rfl, fun _ => rfl, fun _ => rfl, fun _ => rfl, trivial⟩) (fun _ _ _ _ => rfl) xe_below EE.out ?ops9 ?end9
 case ops9 =>
   refine ⟨?_, ?_, ?_, ?_, ?_, ?_, ?_, ?_, ?_, trivial⟩
   · refine er_q ?vn1 ?hn1 ?kn1 ?gn1 ?_
     case hn1 => exact rfl
     case vn1 => exact (fun R => .agg a)
     case kn1 => exact (fun R => rfl)
     case gn1 => exact gd_none rfl
     intro R s w' hT hs hw ha
     have L := ld_all (P3.sameE hw (fun h => h) (by simp)) uCone rfl iCone sa
     generalize hA : putE _ _ _ _ _ _ _ = AA
     refine q_load rfl ?_ L
     subst hA
     kernel_rfl
   · refine er_q ?vn2 ?hn2 ?kn2 ?gn2 ?_
     case hn2 => exact rfl
     case vn2 => exact (fun R => .agg b)
     case kn2 => exact (fun R => rfl)
     case gn2 => exact gd_none rfl
     intro R s w' hT hs hw ha
     have L := ld_all (P4.sameE hw (fun h => h) (by simp)) uCone rfl iCone sb
     generalize hA : putE _ _ _ _ _ _ _ = AA
     refine q_load rfl ?_ L
     subst hA
     kernel_rfl
   · refine er_q ?vn3 ?hn3 ?kn3 ?gn3 ?_
     case hn3 => exact rfl
     case vn3 => exact (fun R => .tuple #[.agg M, .bool ok])
     case kn3 => exact (fun R => rfl)
     case gn3 => exact gd_none rfl
     intro R s w' hT hs hw ha
     go_simp
     exact k1.out w'
   · refine er_q ?vn4 ?hn4 ?kn4 ?gn4 ?_
     case hn4 => exact rfl
     case vn4 => exact (fun R => .tuple #[.agg M, .bool ok])
     case kn4 => exact (fun R => rfl)
     case gn4 => exact gd_none rfl
     intro R s w' hT hs hw ha
     go_simp
   · refine er_q ?vn5 ?hn5 ?kn5 ?gn5 ?_
     case hn5 => exact rfl
     case vn5 => exact (fun R => .agg M)
     case kn5 => exact (fun R => rfl)
     case gn5 => exact gd_none rfl
     intro R s w' hT hs hw ha
     go_simp
   · refine er_q ?vn6 ?hn6 ?kn6 ?gn6 ?_
     case hn6 => exact rfl
     case vn6 => exact (fun R => .bool ok)
     case kn6 => exact (fun R => rfl)
     case gn6 => exact gd_none rfl
     intro R s w' hT hs hw ha
     go_simp
   · refine er_al ?zn7 ?hn7 ?kn7 ?gn7 ?_
     case zn7 => exact (.cells z21 29 (0, 0))
     case hn7 => exact rfl
     case kn7 => exact rfl
     case gn7 => exact gd_none rfl
     intro ρ w'
     go_simp
     exact ⟨rfl, rfl⟩
   · refine er_st (j := 6) (Ty := ?Tn8) (p := ?pn8) (x := ?xn8) ?fn8 ?zn8 ?vn8 ?hn8 ?on8 ?kn8 ?ln8 ?gn8 ?en8 ?_
     case hn8 => exact rfl
     case on8 => exact rfl
     case fn8 => exact (fun R => (.cells M 29 (0, 0)))
     case zn8 => exact (.cells z21 29 (0, 0))
     case vn8 => exact (fun R => .agg M)
     case kn8 => exact (fun R => rfl)
     case ln8 => exact rfl
     case gn8 => exact gd_none rfl
     case en8 =>
       intro R
       kernel_rfl
     intro R s ρ w g hT hs hp hx hg hz
     exact ⟨store_row rfl hp hx hz iCone (sM) (oM), fun w1 hF => ext_filled hT hF (Nat.le_trans EE.out.size hg)⟩
   · refine er_q ?vn9 ?hn9 ?kn9 ?gn9 ?_
     case hn9 => exact rfl
     case vn9 => exact (fun R => .bool ok)
     case kn9 => exact (fun R => rfl)
     case gn9 => exact gd_none rfl
     intro R s w' hT hs hw ha
     go_simp
 case end9 =>
  intro s R G w10 hI
  have hS := hI.same
  have hTT := hI.holds
  have hz0 := EE.out.size
  have P3 := P3.sameE hS (fun h => h) (by simp)
  have P4 := P4.sameE hS (fun h => h) (by simp)
  have P5 := P5.sameE hS (fun h => h) (by simp)
  have P7 : Blk w10 (G 6) 29 M := (hI.fulls 7 (List.mem_range.2 (show 7 < 9 by decide)) 6 rfl).2.2
  have hmP7 := (hI.made 6 (List.mem_range.2 (show 6 < 9 by decide)) rfl).1
  have P7_lo : W.heap.size ≤ G 6 := Nat.le_trans hz0 hmP7
  have ngP3_7 : g0 ≠ G 6 := by omega
  have ngP4_7 : g0 + 1 ≠ G 6 := by omega
  have ngP5_7 : g0 + 1 + 1 ≠ G 6 := by omega
  have EE := hide (show Ext _ _ from hTT)
  clear hS hz0 hTT hI
  generalize hF : putE _ _ _ _ _ _ _ = FF
  have hF2 : FF = { tmps := #[.agg a, .agg b, .agg c, .pointer (some ⟨g0, 0, none⟩), .pointer (some ⟨g0 + 1, 0, none⟩), .pointer (some ⟨g0 + 1 + 1, 0, none⟩), .bool false, .pointer (some ⟨G 6, 0, none⟩), .bool ok, undef, undef, .tuple #[.agg M, .bool ok], .agg a, .agg b, .tuple #[.agg M, .bool ok], .agg M, .bool ok, undef, undef, undef, undef, undef, undef, undef, undef, undef, undef, undef, undef, undef, undef, undef, undef, undef, undef, undef, undef, undef, undef, undef, undef, undef, undef, undef, undef, undef, undef, undef, undef, undef, undef, undef, undef, undef], defers := [] } := by subst hF; kernel_rfl
  clear hF
  subst hF2
  generalize G 6 = g7 at *
  go_upto_region 2 with fail
  have P3_lt := P3.lt
  have P4_lt := P4.lt
  have P5_lt := P5.lt
  have P7_lt := P7.lt
  refine wp_evs [.q, .q, .q, .q, .q, .q, .al, .st 6, .q] [0, 0, 0, 0, 0, 0, 0, 0, 0] (fun R => [.agg a, .agg b, .tuple #[.agg M, .bool ok], .tuple #[.agg M, .bool ok], .agg M, .bool ok, undef, undef, .bool ok]) (fun _ => (.cells z21 29 (0, 0))) (fun R _ => (.cells M 29 (0, 0))) (fun _ => 0) (XE W) (fun _ => False) (by kernel_rfl) (by kernel_rfl) (by kernel_rfl) rfl (fun _ => rfl) (fun _ h => h.elim) (fun _ _ h => h) (by simp) (by simp) (fun R R' => ⟨fun _ => rfl, fun _ => rfl, fun _ => rfl, fun _ => rfl, fun _ => rfl, fun _ => rfl, fun _ => rfl, fun _ => rfl, fun _ => rfl, trivial⟩) (fun _ _ _ _ => rfl) xe_below EE.out ?ops19 ?end19
  case ops19 =>
    refine ⟨?_, ?_, ?_, ?_, ?_, ?_, ?_, ?_, ?_, trivial⟩
    · refine er_q ?vn11 ?hn11 ?kn11 ?gn11 ?_
      case hn11 => exact rfl
      case vn11 => exact (fun R => .agg a)
      case kn11 => exact (fun R => rfl)
      case gn11 => exact gd_none rfl
      intro R s w' hT hs hw ha
      have L := ld_all (P3.sameE hw (fun h => h) (by simp)) uCone rfl iCone sa
      generalize hA : putE _ _ _ _ _ _ _ = AA
      refine q_load rfl ?_ L
      subst hA
      kernel_rfl
    · refine er_q ?vn12 ?hn12 ?kn12 ?gn12 ?_
      case hn12 => exact rfl
      case vn12 => exact (fun R => .agg b)
      case kn12 => exact (fun R => rfl)
      case gn12 => exact gd_none rfl
      intro R s w' hT hs hw ha
      have L := ld_all (P4.sameE hw (fun h => h) (by simp)) uCone rfl iCone sb
      generalize hA : putE _ _ _ _ _ _ _ = AA
      refine q_load rfl ?_ L
      subst hA
      kernel_rfl
    · refine er_q ?vn13 ?hn13 ?kn13 ?gn13 ?_
      case hn13 => exact rfl
      case vn13 => exact (fun R => .tuple #[.agg M, .bool ok])
      case kn13 => exact (fun R => rfl)
      case gn13 => exact gd_none rfl
      intro R s w' hT hs hw ha
      go_simp
      exact k2.out w'
    · refine er_q ?vn14 ?hn14 ?kn14 ?gn14 ?_
      case hn14 => exact rfl
      case vn14 => exact (fun R => .tuple #[.agg M, .bool ok])
      case kn14 => exact (fun R => rfl)
      case gn14 => exact gd_none rfl
      intro R s w' hT hs hw ha
      go_simp
    · refine er_q ?vn15 ?hn15 ?kn15 ?gn15 ?_
      case hn15 => exact rfl
      case vn15 => exact (fun R => .agg M)
      case kn15 => exact (fun R => rfl)
      case gn15 => exact gd_none rfl
      intro R s w' hT hs hw ha
      go_simp
    · refine er_q ?vn16 ?hn16 ?kn16 ?gn16 ?_
      case hn16 => exact rfl
      case vn16 => exact (fun R => .bool ok)
      case kn16 => exact (fun R => rfl)
      case gn16 => exact gd_none rfl
      intro R s w' hT hs hw ha
      go_simp
    · refine er_al ?zn17 ?hn17 ?kn17 ?gn17 ?_
      case zn17 => exact (.cells z21 29 (0, 0))
      case hn17 => exact rfl
      case kn17 => exact rfl
      case gn17 => exact gd_none rfl
      intro ρ w'
      go_simp
      exact ⟨rfl, rfl⟩
    · refine er_st (j := 6) (Ty := ?Tn18) (p := ?pn18) (x := ?xn18) ?fn18 ?zn18 ?vn18 ?hn18 ?on18 ?kn18 ?ln18 ?gn18 ?en18 ?_
      case hn18 => exact rfl
      case on18 => exact rfl
      case fn18 => exact (fun R => (.cells M 29 (0, 0)))
      case zn18 => exact (.cells z21 29 (0, 0))
      case vn18 => exact (fun R => .agg M)
      case kn18 => exact (fun R => rfl)
      case ln18 => exact rfl
      case gn18 => exact gd_none rfl
      case en18 =>
        intro R
        kernel_rfl
      intro R s ρ w g hT hs hp hx hg hz
      exact ⟨store_row rfl hp hx hz iCone (sM) (oM), fun w1 hF => ext_filled hT hF (Nat.le_trans EE.out.size hg)⟩
    · refine er_q ?vn19 ?hn19 ?kn19 ?gn19 ?_
      case hn19 => exact rfl
      case vn19 => exact (fun R => .bool ok)
      case kn19 => exact (fun R => rfl)
      case gn19 => exact gd_none rfl
      intro R s w' hT hs hw ha
      go_simp
  case end19 =>
   intro s R G w20 hI
   have hS := hI.same
   have hTT := hI.holds
   have hz0 := EE.out.size
   have P3 := P3.sameE hS (fun h => h) (by simp)
   have P4 := P4.sameE hS (fun h => h) (by simp)
   have P5 := P5.sameE hS (fun h => h) (by simp)
   have P7 := P7.sameE hS (fun h => h) (by simp)
   have P9 : Blk w20 (G 6) 29 M := (hI.fulls 7 (List.mem_range.2 (show 7 < 9 by decide)) 6 rfl).2.2
   have hmP9 := (hI.made 6 (List.mem_range.2 (show 6 < 9 by decide)) rfl).1
   have P9_lo : W.heap.size ≤ G 6 := Nat.le_trans hz0 hmP9
   have ngP3_9 : g0 ≠ G 6 := by omega
   have ngP4_9 : g0 + 1 ≠ G 6 := by omega
   have ngP5_9 : g0 + 1 + 1 ≠ G 6 := by omega
   have ngP7_9 : g7 ≠ G 6 := by omega
   have EE := hide (show Ext _ _ from hTT)
   clear hS hz0 hTT hI
   generalize hF : putE _ _ _ _ _ _ _ = FF
   have hF2 : FF = { tmps := #[.agg a, .agg b, .agg c, .pointer (some ⟨g0, 0, none⟩), .pointer (some ⟨g0 + 1, 0, none⟩), .pointer (some ⟨g0 + 1 + 1, 0, none⟩), .bool false, .pointer (some ⟨g7, 0, none⟩), .bool ok, .pointer (some ⟨G 6, 0, none⟩), .bool ok, .tuple #[.agg M, .bool ok], .agg a, .agg b, .tuple #[.agg M, .bool ok], .agg M, .bool ok, .tuple #[.agg M, .bool ok], .agg a, .agg b, .tuple #[.agg M, .bool ok], .agg M, .bool ok, undef, undef, undef, undef, undef, undef, undef, undef, undef, undef, undef, undef, undef, undef, undef, undef, undef, undef, undef, undef, undef, undef, undef, undef, undef, undef, undef, undef, undef, undef, undef], defers := [] } := by subst hF; kernel_rfl
   clear hF
   subst hF2
   generalize G 6 = g9 at *
   go_upto_region 3 with fail
   have P3_lt := P3.lt
   have P4_lt := P4.lt
   have P5_lt := P5.lt
   have P7_lt := P7.lt
   have P9_lt := P9.lt
   refine wp_ev [.q, .q, .q, .q, .q, .q, .q, .q, .q, .q, .q, .q, .q, .q, .q, .q, .q, .q, .q, .q, .q, .q, .q, .q, .q, .q, .q, .q, .q, .q, .q, .q] [0, 0, 0, 0, 0, 0, 0, 0, 0, 0, 0, 0, 0, 0, 0, 0, 0, 0, 0, 0, 0, 0, 0, 0, 0, 0, 0, 0, 0, 0, 0, 0] (fun R => [.agg M, .agg M, .bool true, .bool true, .bool ok, .bool ok, .bool true, .bool true, .bool true, .agg a, .bool va, .agg a, .bool va, .bool true, .bool true, .bool true, .agg a, .agg c, .bool vc, .agg a, .agg c, .bool vc, .bool true, .bool true, .bool true, .agg a, .agg D, .agg a, .agg D, .bool true, .bool true, .bool true]) (fun _ => (.cells #[] 0 (0, 0))) (fun R _ => (.cells #[] 0 (0, 0))) (fun _ => 0) (XE W) (fun _ => False) (by kernel_rfl) (by kernel_rfl) (by kernel_rfl) (by kernel_rfl) rfl (fun _ => rfl) (fun _ h => h.elim) (fun _ _ h => h) (by simp) (by simp) (fun R R' => ⟨fun _ => rfl, fun _ => rfl, fun _ => rfl, fun _ => rfl, fun _ => rfl, fun _ => rfl, fun _ => rfl, fun _ => rfl, fun _ => rfl, fun _ => rfl, fun _ => rfl, fun _ => rfl, fun _ => rfl, fun _ => rfl, fun _ => rfl, fun _ => rfl, fun _ => rfl, fun _ => rfl, fun _ => rfl, fun _ => rfl, fun _ => rfl, fun _ => rfl, fun _ => rfl, fun _ => rfl, fun _ => rfl, fun _ => rfl, fun _ => rfl, fun _ => rfl, fun _ => rfl, fun _ => rfl, fun _ => rfl, fun _ => rfl, trivial⟩) (fun _ _ _ _ => rfl) xe_below (EE.out.trans (ext_drew _)) ?ops52 ?end52
   case ops52 =>
     refine ⟨?_, ?_, ?_, ?_, ?_, ?_, ?_, ?_, ?_, ?_, ?_, ?_, ?_, ?_, ?_, ?_, ?_, ?_, ?_, ?_, ?_, ?_, ?_, ?_, ?_, ?_, ?_, ?_, ?_, ?_, ?_, ?_, trivial⟩
     · refine er_q ?vn21 ?hn21 ?kn21 ?gn21 ?_
       case hn21 => exact rfl
       case vn21 => exact (fun R => .agg M)
       case kn21 => exact (fun R => rfl)
       case gn21 => exact gd_none rfl
       intro R s w' hT hs hw ha
       have L := ld_all (P7.sameE hw (fun h => h) (by simp)) uCone rfl iCone sM
       generalize hA : putE _ _ _ _ _ _ _ = AA
       refine q_load rfl ?_ L
       subst hA
       kernel_rfl
     · refine er_q ?vn22 ?hn22 ?kn22 ?gn22 ?_
       case hn22 => exact rfl
       case vn22 => exact (fun R => .agg M)
       case kn22 => exact (fun R => rfl)
       case gn22 => exact gd_none rfl
       intro R s w' hT hs hw ha
       have L := ld_all (P9.sameE hw (fun h => h) (by simp)) uCone rfl iCone sM
       generalize hA : putE _ _ _ _ _ _ _ = AA
       refine q_load rfl ?_ L
       subst hA
       kernel_rfl
     · refine er_q ?vn23 ?hn23 ?kn23 ?gn23 ?_
       case hn23 => exact rfl
       case vn23 => exact (fun R => .bool true)
       case kn23 => exact (fun R => rfl)
       case gn23 => exact gd_none rfl
       intro R s w' hT hs hw ha
       have L := qM.out w'
       generalize hA : putE _ _ _ _ _ _ _ = AA
       refine q_bin rfl ?_ ?_ (eq_agg _ _ (by kernel_rfl) _ _ _ _ w') L
       · subst hA; kernel_rfl
       · subst hA; kernel_rfl
     · refine er_q ?vn24 ?hn24 ?kn24 ?gn24 ?_
       case hn24 => exact rfl
       case vn24 => exact (fun R => .bool true)
       case kn24 => exact (fun R => rfl)
       case gn24 => exact gd_none rfl
       intro R s w' hT hs hw ha
       go_simp
     · refine er_q ?vn25 ?hn25 ?kn25 ?gn25 ?_
       case hn25 => exact rfl
       case vn25 => exact (fun R => .bool ok)
       case kn25 => exact (fun R => rfl)
       case gn25 => (refine gd_some rfl ?_; intro R; kernel_rfl)
       intro R s w' hT hs hw ha
       go_simp
     · refine er_q ?vn26 ?hn26 ?kn26 ?gn26 ?_
       case hn26 => exact rfl
       case vn26 => exact (fun R => .bool ok)
       case kn26 => exact (fun R => rfl)
       case gn26 => (refine gd_some rfl ?_; intro R; kernel_rfl)
       intro R s w' hT hs hw ha
       go_simp
     · refine er_q ?vn27 ?hn27 ?kn27 ?gn27 ?_
       case hn27 => exact rfl
       case vn27 => exact (fun R => .bool true)
       case kn27 => exact (fun R => rfl)
       case gn27 => (refine gd_some rfl ?_; intro R; kernel_rfl)
       intro R s w' hT hs hw ha
       go_simp
     · refine er_q ?vn28 ?hn28 ?kn28 ?gn28 ?_
       case hn28 => exact rfl
       case vn28 => exact (fun R => .bool true)
       case kn28 => exact (fun R => rfl)
       case gn28 => exact gd_none rfl
       intro R s w' hT hs hw ha
       go_simp
     · refine er_q ?vn29 ?hn29 ?kn29 ?gn29 ?_
       case hn29 => exact rfl
       case vn29 => exact (fun R => .bool true)
       case kn29 => exact (fun R => rfl)
       case gn29 => exact gd_none rfl
       intro R s w' hT hs hw ha
       go_simp
     · refine er_q ?vn30 ?hn30 ?kn30 ?gn30 ?_
       case hn30 => exact rfl
       case vn30 => exact (fun R => .agg a)
       case kn30 => exact (fun R => rfl)
       case gn30 => (refine gd_some rfl ?_; intro R; kernel_rfl)
       intro R s w' hT hs hw ha
       have L := ld_all (P3.sameE hw (fun h => h) (by simp)) uCone rfl iCone sa
       generalize hA : putE _ _ _ _ _ _ _ = AA
       refine q_load rfl ?_ L
       subst hA
       kernel_rfl
     · refine er_q ?vn31 ?hn31 ?kn31 ?gn31 ?_
       case hn31 => exact rfl
       case vn31 => exact (fun R => .bool va)
       case kn31 => exact (fun R => rfl)
       case gn31 => (refine gd_some rfl ?_; intro R; kernel_rfl)
       intro R s w' hT hs hw ha
       go_simp
       exact k3.out w'
     · refine er_q ?vn32 ?hn32 ?kn32 ?gn32 ?_
       case hn32 => exact rfl
       case vn32 => exact (fun R => .agg a)
       case kn32 => exact (fun R => rfl)
       case gn32 => (refine gd_some rfl ?_; intro R; kernel_rfl)
       intro R s w' hT hs hw ha
       have L := ld_all (P3.sameE hw (fun h => h) (by simp)) uCone rfl iCone sa
       generalize hA : putE _ _ _ _ _ _ _ = AA
       refine q_load rfl ?_ L
       subst hA
       kernel_rfl
     · refine er_q ?vn33 ?hn33 ?kn33 ?gn33 ?_
       case hn33 => exact rfl
       case vn33 => exact (fun R => .bool va)
       case kn33 => exact (fun R => rfl)
       case gn33 => (refine gd_some rfl ?_; intro R; kernel_rfl)
       intro R s w' hT hs hw ha
       go_simp
       exact k4.out w'
     · refine er_q ?vn34 ?hn34 ?kn34 ?gn34 ?_
       case hn34 => exact rfl
       case vn34 => exact (fun R => .bool true)
       case kn34 => exact (fun R => rfl)
       case gn34 => (refine gd_some rfl ?_; intro R; kernel_rfl)
       intro R s w' hT hs hw ha
       go_simp
     · refine er_q ?vn35 ?hn35 ?kn35 ?gn35 ?_
       case hn35 => exact rfl
       case vn35 => exact (fun R => .bool true)
       case kn35 => exact (fun R => rfl)
       case gn35 => exact gd_none rfl
       intro R s w' hT hs hw ha
       go_simp
     · refine er_q ?vn36 ?hn36 ?kn36 ?gn36 ?_
       case hn36 => exact rfl
       case vn36 => exact (fun R => .bool true)
       case kn36 => exact (fun R => rfl)
       case gn36 => exact gd_none rfl
       intro R s w' hT hs hw ha
       go_simp
     · refine er_q ?vn37 ?hn37 ?kn37 ?gn37 ?_
       case hn37 => exact rfl
       case vn37 => exact (fun R => .agg a)
       case kn37 => exact (fun R => rfl)
       case gn37 => (refine gd_some rfl ?_; intro R; kernel_rfl)
       intro R s w' hT hs hw ha
       have L := ld_all (P3.sameE hw (fun h => h) (by simp)) uCone rfl iCone sa
       generalize hA : putE _ _ _ _ _ _ _ = AA
       refine q_load rfl ?_ L
       subst hA
       kernel_rfl
     · refine er_q ?vn38 ?hn38 ?kn38 ?gn38 ?_
       case hn38 => exact rfl
       case vn38 => exact (fun R => .agg c)
       case kn38 => exact (fun R => rfl)
       case gn38 => (refine gd_some rfl ?_; intro R; kernel_rfl)
       intro R s w' hT hs hw ha
       have L := ld_all (P5.sameE hw (fun h => h) (by simp)) uRat rfl iRat sc
       generalize hA : putE _ _ _ _ _ _ _ = AA
       refine q_load rfl ?_ L
       subst hA
       kernel_rfl
     · refine er_q ?vn39 ?hn39 ?kn39 ?gn39 ?_
       case hn39 => exact rfl
       case vn39 => exact (fun R => .bool vc)
       case kn39 => exact (fun R => rfl)
       case gn39 => (refine gd_some rfl ?_; intro R; kernel_rfl)
       intro R s w' hT hs hw ha
       go_simp
       exact k5.out w'
     · refine er_q ?vn40 ?hn40 ?kn40 ?gn40 ?_
       case hn40 => exact rfl
       case vn40 => exact (fun R => .agg a)
       case kn40 => exact (fun R => rfl)
       case gn40 => (refine gd_some rfl ?_; intro R; kernel_rfl)
       intro R s w' hT hs hw ha
       have L := ld_all (P3.sameE hw (fun h => h) (by simp)) uCone rfl iCone sa
       generalize hA : putE _ _ _ _ _ _ _ = AA
       refine q_load rfl ?_ L
       subst hA
       kernel_rfl
     · refine er_q ?vn41 ?hn41 ?kn41 ?gn41 ?_
       case hn41 => exact rfl
       case vn41 => exact (fun R => .agg c)
       case kn41 => exact (fun R => rfl)
       case gn41 => (refine gd_some rfl ?_; intro R; kernel_rfl)
       intro R s w' hT hs hw ha
       have L := ld_all (P5.sameE hw (fun h => h) (by simp)) uRat rfl iRat sc
       generalize hA : putE _ _ _ _ _ _ _ = AA
       refine q_load rfl ?_ L
       subst hA
       kernel_rfl
     · refine er_q ?vn42 ?hn42 ?kn42 ?gn42 ?_
       case hn42 => exact rfl
       case vn42 => exact (fun R => .bool vc)
       case kn42 => exact (fun R => rfl)
       case gn42 => (refine gd_some rfl ?_; intro R; kernel_rfl)
       intro R s w' hT hs hw ha
       go_simp
       exact k6.out w'
     · refine er_q ?vn43 ?hn43 ?kn43 ?gn43 ?_
       case hn43 => exact rfl
       case vn43 => exact (fun R => .bool true)
       case kn43 => exact (fun R => rfl)
       case gn43 => (refine gd_some rfl ?_; intro R; kernel_rfl)
       intro R s w' hT hs hw ha
       go_simp
     · refine er_q ?vn44 ?hn44 ?kn44 ?gn44 ?_
       case hn44 => exact rfl
       case vn44 => exact (fun R => .bool true)
       case kn44 => exact (fun R => rfl)
       case gn44 => exact gd_none rfl
       intro R s w' hT hs hw ha
       go_simp
     · refine er_q ?vn45 ?hn45 ?kn45 ?gn45 ?_
       case hn45 => exact rfl
       case vn45 => exact (fun R => .bool true)
       case kn45 => exact (fun R => rfl)
       case gn45 => exact gd_none rfl
       intro R s w' hT hs hw ha
       go_simp
     · refine er_q ?vn46 ?hn46 ?kn46 ?gn46 ?_
       case hn46 => exact rfl
       case vn46 => exact (fun R => .agg a)
       case kn46 => exact (fun R => rfl)
       case gn46 => (refine gd_some rfl ?_; intro R; kernel_rfl)
       intro R s w' hT hs hw ha
       have L := ld_all (P3.sameE hw (fun h => h) (by simp)) uCone rfl iCone sa
       generalize hA : putE _ _ _ _ _ _ _ = AA
       refine q_load rfl ?_ L
       subst hA
       kernel_rfl
     · refine er_q ?vn47 ?hn47 ?kn47 ?gn47 ?_
       case hn47 => exact rfl
       case vn47 => exact (fun R => .agg D)
       case kn47 => exact (fun R => rfl)
       case gn47 => (refine gd_some rfl ?_; intro R; kernel_rfl)
       intro R s w' hT hs hw ha
       go_simp
       exact k7.out w'
     · refine er_q ?vn48 ?hn48 ?kn48 ?gn48 ?_
       case hn48 => exact rfl
       case vn48 => exact (fun R => .agg a)
       case kn48 => exact (fun R => rfl)
       case gn48 => (refine gd_some rfl ?_; intro R; kernel_rfl)
       intro R s w' hT hs hw ha
       have L := ld_all (P3.sameE hw (fun h => h) (by simp)) uCone rfl iCone sa
       generalize hA : putE _ _ _ _ _ _ _ = AA
       refine q_load rfl ?_ L
       subst hA
       kernel_rfl
     · refine er_q ?vn49 ?hn49 ?kn49 ?gn49 ?_
       case hn49 => exact rfl
       case vn49 => exact (fun R => .agg D)
       case kn49 => exact (fun R => rfl)
       case gn49 => (refine gd_some rfl ?_; intro R; kernel_rfl)
       intro R s w' hT hs hw ha
       go_simp
       exact k8.out w'
     · refine er_q ?vn50 ?hn50 ?kn50 ?gn50 ?_
       case hn50 => exact rfl
       case vn50 => exact (fun R => .bool true)
       case kn50 => exact (fun R => rfl)
       case gn50 => (refine gd_some rfl ?_; intro R; kernel_rfl)
       intro R s w' hT hs hw ha
       have L := qD.out w'
       generalize hA : putE _ _ _ _ _ _ _ = AA
       refine q_bin rfl ?_ ?_ (eq_agg _ _ (by kernel_rfl) _ _ _ _ w') L
       · subst hA; kernel_rfl
       · subst hA; kernel_rfl
     · refine er_q ?vn51 ?hn51 ?kn51 ?gn51 ?_
       case hn51 => exact rfl
       case vn51 => exact (fun R => .bool true)
       case kn51 => exact (fun R => rfl)
       case gn51 => exact gd_none rfl
       intro R s w' hT hs hw ha
       go_simp
     · refine er_q ?vn52 ?hn52 ?kn52 ?gn52 ?_
       case hn52 => exact rfl
       case vn52 => exact (fun R => .bool true)
       case kn52 => exact (fun R => rfl)
       case gn52 => exact gd_none rfl
       intro R s w' hT hs hw ha
       go_simp
   case end52 =>
    intro s R G w53 hI
    have hS := hI.same
    have hTT := hI.holds
    have hz0 := EE.out.size
    have P3 := P3.sameE hS (fun h => h) (by simp)
    have P4 := P4.sameE hS (fun h => h) (by simp)
    have P5 := P5.sameE hS (fun h => h) (by simp)
    have P7 := P7.sameE hS (fun h => h) (by simp)
    have P9 := P9.sameE hS (fun h => h) (by simp)
    have EE := hide (show Ext _ _ from hTT)
    clear hS hz0 hTT hI
    generalize hF : putE _ _ _ _ _ _ _ = FF
    have hF2 : FF = { tmps := #[.agg a, .agg b, .agg c, .pointer (some ⟨g0, 0, none⟩), .pointer (some ⟨g0 + 1, 0, none⟩), .pointer (some ⟨g0 + 1 + 1, 0, none⟩), .bool true, .pointer (some ⟨g7, 0, none⟩), .bool ok, .pointer (some ⟨g9, 0, none⟩), .bool ok, .tuple #[.agg M, .bool ok], .agg a, .agg b, .tuple #[.agg M, .bool ok], .agg M, .bool ok, .tuple #[.agg M, .bool ok], .agg a, .agg b, .tuple #[.agg M, .bool ok], .agg M, .bool ok, .agg M, .agg M, .bool true, .bool true, .bool ok, .bool ok, .bool true, .bool true, .bool true, .agg a, .bool va, .agg a, .bool va, .bool true, .bool true, .bool true, .agg a, .agg c, .bool vc, .agg a, .agg c, .bool vc, .bool true, .bool true, .bool true, .agg a, .agg D, .agg a, .agg D, .bool true, .bool true], defers := [] } := by subst hF; kernel_rfl
    clear hF
    subst hF2
    go_wp2_with fail
    go_ret
    refine ⟨?_, EE.out⟩
    kernel_rfl
end
section
open Go Go.RowKit Go.Sort
def RVal (f : Nat) : Prop := ∀ X, BadC X → ∀ w, Calls Tryz.prog f #[.agg X] w (Ret (.bool false) w)
def RCon (f : Nat) : Prop := (∀ X S, BadC X → RawR S → ∀ w, Calls Tryz.prog f #[.agg X, .agg S] w (Ret (.bool false) w)) ∧ (∀ c S, okC c → BadR S → ∀ w, Calls Tryz.prog f #[.agg (cnC c), .agg S] w (Ret (.bool false) w))
def RCho (f : Nat) : Prop := ∀ X, BadC X → ∀ w, Calls Tryz.prog f #[.agg X] w (Ret (.agg zR) w)
def RMee (f : Nat) : Prop := ∀ X Y, RawC X → RawC Y → (BadC X ∨ BadC Y) → ∀ w, Calls Tryz.prog f #[.agg X, .agg Y] w (Ret (.tuple #[.agg z21, .bool false]) w)
theorem BadR.raw {S : Array Value} (h : BadR S) : RawR S := Or.inr h
theorem r_valR : RVal 21 := fun _ h w => r_valB h w
theorem r_conR : RCon 22 := by
 refine ⟨fun X S hX hS w => ?_, fun c S hc hS w => ?_⟩
 · have kv := fun w => r_valB hX w
   obtain ⟨o, L, H, rfl, hL, hH, hb⟩ := hX
   exact rc_contains o L H S hL.rc.size hH.rc.size hS.rc.size w false false 0 0 kv (fun h => by cases h) (fun h => by cases h) (fun h => by cases h) false rfl
 · have kv := fun w => r_val c hc w
   obtain ⟨o, L, H, e, hL, hH⟩ := cnC_form c
   rw [e] at kv ⊢
   exact rc_contains o L H S hL.size hH.size hS.raw.rc.size w true false 0 0 kv (fun _ w => r_ratB hS w) (fun _ h => by cases h) (fun _ h => by cases h) false rfl
theorem r_choR : RCho 23 := fun X hX w => by
 have kv := fun w => r_valB hX w
 obtain ⟨o, L, H, rfl, hL, hH, hb⟩ := hX
 exact rc_choose o L H zR zR hL.rc.size hH.rc.size rfl zR_one rfl zR_one w false false kv (fun h => by cases h) (fun h => by cases h)
theorem raw_form {X : Array Value} (h : RawC X) : ∃ o L H, X = coneC o L H ∧ RC L ∧ RC H := by
 rcases h with ⟨c, _, rfl⟩ | ⟨o, L, H, rfl, hL, hH, _⟩
 · exact cnC_form c
 · exact ⟨o, L, H, rfl, hL.rc, hH.rc⟩
theorem raw_val {X : Array Value} (h : RawC X) : ∃ v, (v = true → OkC X) ∧ (BadC X → v = false) ∧ ∀ w, Calls Tryz.prog 21 #[.agg X] w (Ret (.bool v) w) := by
 by_cases hb : BadC X
 · exact ⟨false, fun h => (by cases h), fun _ => rfl, fun w => r_valB hb w⟩
 · rcases h with ⟨c, hc, rfl⟩ | h
   · exact ⟨true, fun _ => ⟨c, hc, rfl⟩, fun h => absurd h hb, fun w => r_val c hc w⟩
   · exact absurd h hb
theorem r_meeR : RMee 20 := fun X Y hX hY hb w => by
 obtain ⟨va, _, a2, a3⟩ := raw_val hX
 obtain ⟨vb, _, b2, b3⟩ := raw_val hY
 obtain ⟨oa, La, Ha, rfl, hLa, hHa⟩ := raw_form hX
 obtain ⟨ob, Lb, Hb, rfl, hLb, hHb⟩ := raw_form hY
 have hv : (va && vb) = false := by
   rcases hb with h | h
   · rw [a2 h]; rfl
   · rw [b2 h, Bool.and_false]
 have hn : va = true → vb = true → False := fun p q => by rw [p, q] at hv; cases hv
 have := rc_meet oa ob La Ha Lb Hb hLa.size hHa.size hLb.size hHb.size hLa.one hHa.one hLb.one hHb.one w va vb 0 0 0 a3 (fun _ => b3) (fun p q => (hn p q).elim) (fun p q => (hn p q).elim) (fun p q => (hn p q).elim)
 unfold metC at this
 rw [hv] at this
 exact this
structure PAll (fv fc fh fm : Nat) : Prop where
 v : PVal fv
 c : PCon fc
 h : PCho fh
 m : PMee fm
 v' : RVal fv
 c' : RCon fc
 h' : RCho fh
 m' : RMee fm
end
section
open Go Go.RowKit Go.Sort
theorem h_make {x y n d : Int} {o : Bool} (hx : F256 x) (hy : F256 y) (h0 : y ≠ 0) (ho : mkB x y = o) (hn : (if o then numR x y else 0) = n) (hd : (if o then denR x y else 0) = d) (w : World) : Calls Tryz.prog 29 #[.agg #[.bool (sg x), .int .u64 (l0 x : Int), .int .u64 (l1 x : Int), .int .u64 (l2 x : Int), .int .u64 (l3 x : Int)], .agg #[.bool (sg y), .int .u64 (l0 y : Int), .int .u64 (l1 y : Int), .int .u64 (l2 y : Int), .int .u64 (l3 y : Int)]] w (Ret (.tuple #[.agg #[.bool (sg n), .int .u64 (l0 n : Int), .int .u64 (l1 n : Int), .int .u64 (l2 n : Int), .int .u64 (l3 n : Int), .bool (sg d), .int .u64 (l0 d : Int), .int .u64 (l1 d : Int), .int .u64 (l2 d : Int), .int .u64 (l3 d : Int)], .bool o]) w) :=
 (rf_make_yes _ _ _ _ _ _ _ _ _ _ x y w (isC_of hx) (isC_of hy) h0 o ho).mono fun _ _ k => ret_make (by subst hn hd; exact k)
end
section
open Go Go.RowKit Go.Sort
def wC (z : Int) : Array Value := #[.bool (sg z), .int .u64 (l0 z : Int), .int .u64 (l1 z : Int), .int .u64 (l2 z : Int), .int .u64 (l3 z : Int)]
theorem wC_one (z : Int) : (wC z).all (·.oneCell') = true := by unfold wC; kernel_rfl
def ThrGood (base eps : Int) (dt : Nat) : Prop := base.natAbs < 73786976294838206464 ∧ 0 ≤ eps ∧ eps ≤ 4611686018427387904 ∧ 0 < dt
instance (base eps : Int) (dt : Nat) : Decidable (ThrGood base eps dt) := by unfold ThrGood; infer_instance
theorem redF_mkB {n d : Int} (h : okF (redF n d)) : mkB n d = true := decide_eq_true ⟨h.2.1, h.2.2.1⟩
end
section
open Go Go.RowKit Go.Sort
theorem raw_size {X : Array Value} (h : RawC X) : X.size = 21 ∧ X.all (·.oneCell') = true := by
 obtain ⟨o, L, H, rfl, hL, hH⟩ := raw_form h
 exact ⟨coneC_size o hL.size hH.size, cone_one o hL.one hH.one⟩
theorem choose_uniq {c : Cn} {s r : Fr} (hc : okC c) (h : ChC c s) (k : ChC c r) : s = r := by
 cases c with
 | op => exact (show s = (0, 1) from h).trans (show r = (0, 1) from k).symm
 | cl l u =>
   obtain ⟨e, f⟩ := Best.unique hc.1.1 hc.2.1.1 h k
   exact Prod.ext e f
theorem both_meet {f g : Nat} (hf : PMee f) (hf' : RMee f) (hg : PMee g) (hg' : RMee g) {X Y : Array Value} (hX : RawC X) (hY : RawC Y) : ∃ (M : Array Value) (ok : Bool), M.size = 21 ∧ M.all (·.oneCell') = true ∧ (∀ w, (binOp .eql 29 (.agg M) (.agg M)).run Tryz.prog w = .ok (.bool true) w) ∧ (∀ w, Calls Tryz.prog f #[.agg X, .agg Y] w (Ret (.tuple #[.agg M, .bool ok]) w)) ∧ (∀ w, Calls Tryz.prog g #[.agg X, .agg Y] w (Ret (.tuple #[.agg M, .bool ok]) w)) := by
 by_cases hb : BadC X ∨ BadC Y
 · exact ⟨z21, false, rfl, z21_one, fun w => eq_cone false RC.zero RC.zero w, hf' X Y hX hY hb, hg' X Y hX hY hb⟩
 · rcases hX with ⟨a, ha, rfl⟩ | h
   · rcases hY with ⟨b, hb', rfl⟩ | h
     · exact ⟨moC (meetC a b), (meetC a b).isSome, moC_size _, moC_one _, moC_eq _, hf a b ha hb', hg a b ha hb'⟩
     · exact absurd (Or.inr h) hb
   · exact absurd (Or.inl h) hb
theorem both_val {f g : Nat} (hf : PVal f) (hf' : RVal f) (hg : PVal g) (hg' : RVal g) {X : Array Value} (hX : RawC X) : ∃ ok : Bool, (∀ w, Calls Tryz.prog f #[.agg X] w (Ret (.bool ok) w)) ∧ (∀ w, Calls Tryz.prog g #[.agg X] w (Ret (.bool ok) w)) := by
 rcases hX with ⟨a, ha, rfl⟩ | h
 · exact ⟨true, hf a ha, hg a ha⟩
 · exact ⟨false, hf' X h, hg' X h⟩
theorem both_con {f g : Nat} (hf : PCon f) (hf' : RCon f) (hg : PCon g) (hg' : RCon g) {X S : Array Value} (hX : RawC X) (hS : RawR S) : ∃ ok : Bool, (∀ w, Calls Tryz.prog f #[.agg X, .agg S] w (Ret (.bool ok) w)) ∧ (∀ w, Calls Tryz.prog g #[.agg X, .agg S] w (Ret (.bool ok) w)) := by
 rcases hX with ⟨a, ha, rfl⟩ | h
 · rcases hS with ⟨s, hs, rfl⟩ | k
   · exact ⟨decide (inC a s), hf a s ha hs, hg a s ha hs⟩
   · exact ⟨false, hf'.2 a S ha k, hg'.2 a S ha k⟩
 · exact ⟨false, hf'.1 X S h hS, hg'.1 X S h hS⟩
theorem both_cho {f g : Nat} (hf : PCho f) (hf' : RCho f) (hg : PCho g) (hg' : RCho g) {X : Array Value} (hX : RawC X) : ∃ D : Array Value, (∀ w, (binOp .eql 27 (.agg D) (.agg D)).run Tryz.prog w = .ok (.bool true) w) ∧ (∀ w, Calls Tryz.prog f #[.agg X] w (Ret (.agg D) w)) ∧ (∀ w, Calls Tryz.prog g #[.agg X] w (Ret (.agg D) w)) := by
 rcases hX with ⟨a, ha, rfl⟩ | h
 · obtain ⟨s, hs, ks⟩ := hf a ha
   obtain ⟨r, hr, kr⟩ := hg a ha
   obtain rfl := choose_uniq ha hs hr
   exact ⟨frC s, fun w => eq_rat (frC_rc s) w, ks, kr⟩
 · exact ⟨zR, fun w => eq_rat RC.zero w, hf' X h, hg' X h⟩
theorem l_alk (P : PAll 18 19 16 15) {X Y S : Array Value} (hX : RawC X) (hY : RawC Y) (hS : RawR S) (W : World) : Calls Tryz.prog 9 #[.agg X, .agg Y, .agg S] W (Ret (.bool true) W) := by
 obtain ⟨M, ok, sM, oM, qM, k1, k2⟩ := both_meet P.m P.m' r_mee r_meeR hX hY
 obtain ⟨va, k3, k4⟩ := both_val P.v P.v' r_val r_valR hX
 obtain ⟨vc, k5, k6⟩ := both_con P.c P.c' r_con r_conR hX hS
 obtain ⟨D, qD, k7, k8⟩ := both_cho P.h P.h' r_cho r_choR hX
 exact l_alike13 X Y S M D ok va vc W (raw_size hX).1 (raw_size hX).2 (raw_size hY).1 (raw_size hY).2 hS.rc.size hS.rc.one sM oM qM qD (hide k1) (hide k2) (hide k3) (hide k4) (hide k5) (hide k6) (hide k7) (hide k8)
end
section
open Go Go.RowKit Go.Sort
attribute [local go_sem] qUpon eUpon putE slE
set_option maxHeartbeats 3200000 in
set_option maxRecDepth 100000 in
theorem l_known13r (B C D E F : Array Value) (W : World) (sC : C.size = 21) (oC : C.all (·.oneCell') = true)
   (qC : ∀ w, (binOp .eql 29 (.agg C) (.agg C)).run Tryz.prog w = .ok (.bool true) w) (qD : ∀ w, (binOp .eql 27 (.agg D) (.agg D)).run Tryz.prog w = .ok (.bool true) w)
   (k1 : Hid (∀ w, Calls Tryz.prog 14 #[.int .i64 10] w (Ret (.agg B) w))) (k2 : Hid (∀ w, Calls Tryz.prog 13 #[.agg B, .int .i64 20, .int .i64 2, .int .u64 4] w (Ret (.tuple #[.agg C, .bool true]) w)))
   (k3 : Hid (∀ w, Calls Tryz.prog 7 #[] w (Ret (.agg stC) w))) (k4 : Hid (∀ w, Calls Tryz.prog 15 #[.agg C, .agg stC] w (Ret (.tuple #[.agg C, .bool true]) w)))
   (k5 : Hid (∀ w, Calls Tryz.prog 16 #[.agg C] w (Ret (.agg D) w))) (k6 : Hid (∀ w, Calls Tryz.prog 17 #[.int .i64 2] w (Ret (.agg D) w)))
   (k7 : Hid (∀ w, Calls Tryz.prog 18 #[.agg C] w (Ret (.bool true) w))) (k8 : Hid (∀ w, Calls Tryz.prog 17 #[.int .i64 3] w (Ret (.agg E) w))) (k9 : Hid (∀ w, Calls Tryz.prog 17 #[.int .i64 4] w (Ret (.agg F) w)))
   (k10 : Hid (∀ w, Calls Tryz.prog 19 #[.agg C, .agg E] w (Ret (.bool true) w))) (k11 : Hid (∀ w, Calls Tryz.prog 19 #[.agg C, .agg F] w (Ret (.bool false) w))) :
   Calls Tryz.prog 6 #[] W (Ret (.bool true) W) := by
 replace qC := hide qC
 replace qD := hide qD
 have EE : Hid (Ext W W) := Ext.refl _
 go_enter Tryz.func6, Tryz.ntmps6
 go_upto_region 1 with fail
 refine wp_evs [.q, .q, .q, .q, .q, .al, .st 5, .q] [0, 0, 0, 0, 0, 0, 0, 0] (fun R => [.agg B, .tuple #[.agg C, .bool true], .tuple #[.agg C, .bool true], .agg C, .bool true, undef, undef, .bool true]) (fun _ => (.cells z21 29 (0, 0))) (fun R _ => (.cells C 29 (0, 0))) (fun _ => 0) (XE W) (fun _ => False) (by kernel_rfl) (by kernel_rfl) (by kernel_rfl) rfl (fun _ => rfl) (fun _ h => h.elim) (fun _ _ h => h) (by simp) (by simp) (fun R R' => ⟨fun _ => rfl, fun _ => rfl, fun _ => rfl, fun _ => rfl, fun _ => rfl, fun _ => rfl, fun _ => rfl, fun _ => rfl, trivial⟩) (fun _ _ _ _ => rfl) xe_below EE.out ?ops8 ?end8
 case ops8 =>
   refine ⟨?_, ?_, ?_, ?_, ?_, ?_, ?_, ?_, trivial⟩
   · refine er_q ?vn1 ?hn1 ?kn1 ?gn1 ?_
     case hn1 => exact rfl
     case vn1 => exact (fun R => .agg B)
     case kn1 => exact (fun R => rfl)
     case gn1 => exact gd_none rfl
     intro R s w' hT hs hw ha
     go_simp
     exact k1.out w'
   · refine er_q ?vn2 ?hn2 ?kn2 ?gn2 ?_
     case hn2 => exact rfl
     case vn2 => exact (fun R => .tuple #[.agg C, .bool true])
     case kn2 => exact (fun R => rfl)
     case gn2 => exact gd_none rfl
     intro R s w' hT hs hw ha
     go_simp
     exact k2.out w'
   · refine er_q ?vn3 ?hn3 ?kn3 ?gn3 ?_
     case hn3 => exact rfl
     case vn3 => exact (fun R => .tuple #[.agg C, .bool true])
     case kn3 => exact (fun R => rfl)
     case gn3 => exact gd_none rfl
     intro R s w' hT hs hw ha
     go_simp
   · refine er_q ?vn4 ?hn4 ?kn4 ?gn4 ?_
     case hn4 => exact rfl
     case vn4 => exact (fun R => .agg C)
     case kn4 => exact (fun R => rfl)
     case gn4 => exact gd_none rfl
     intro R s w' hT hs hw ha
     go_simp
   · refine er_q ?vn5 ?hn5 ?kn5 ?gn5 ?_
     case hn5 => exact rfl
     case vn5 => exact (fun R => .bool true)
     case kn5 => exact (fun R => rfl)
     case gn5 => exact gd_none rfl
     intro R s w' hT hs hw ha
     go_simp
   · refine er_al ?zn6 ?hn6 ?kn6 ?gn6 ?_
     case zn6 => exact (.cells z21 29 (0, 0))
     case hn6 => exact rfl
     case kn6 => exact rfl
     case gn6 => exact gd_none rfl
     intro ρ w'
     go_simp
     exact ⟨rfl, rfl⟩
   · refine er_st (j := 5) (Ty := ?Tn7) (p := ?pn7) (x := ?xn7) ?fn7 ?zn7 ?vn7 ?hn7 ?on7 ?kn7 ?ln7 ?gn7 ?en7 ?_
     case hn7 => exact rfl
     case on7 => exact rfl
     case fn7 => exact (fun R => (.cells C 29 (0, 0)))
     case zn7 => exact (.cells z21 29 (0, 0))
     case vn7 => exact (fun R => .agg C)
     case kn7 => exact (fun R => rfl)
     case ln7 => exact rfl
     case gn7 => exact gd_none rfl
     case en7 =>
       intro R
       kernel_rfl
     intro R s ρ w g hT hs hp hx hg hz
     exact ⟨store_row rfl hp hx hz iCone (sC) (oC), fun w1 hF => ext_filled hT hF (Nat.le_trans EE.out.size hg)⟩
   · refine er_q ?vn8 ?hn8 ?kn8 ?gn8 ?_
     case hn8 => exact rfl
     case vn8 => exact (fun R => .bool true)
     case kn8 => exact (fun R => rfl)
     case gn8 => exact gd_none rfl
     intro R s w' hT hs hw ha
     go_simp
 case end8 =>
  intro sI R G w9 hI
  have hS := hI.same
  have hTT := hI.holds
  have hz0 := EE.out.size
  have P1 : Blk w9 (G 5) 29 C := (hI.fulls 6 (List.mem_range.2 (show 6 < 8 by decide)) 5 rfl).2.2
  have hmP1 := (hI.made 5 (List.mem_range.2 (show 5 < 8 by decide)) rfl).1
  have P1_lo : W.heap.size ≤ G 5 := Nat.le_trans hz0 hmP1
  have EE := hide (show Ext _ _ from hTT)
  clear hS hz0 hTT hI
  generalize hF : putE _ _ _ _ _ _ _ = FF
  have hF2 : FF = { tmps := #[.bool false, .pointer (some ⟨G 5, 0, none⟩), .bool true, undef, undef, .tuple #[.agg C, .bool true], .agg B, .tuple #[.agg C, .bool true], .agg C, .bool true, undef, undef, undef, undef, undef, undef, undef, undef, undef, undef, undef, undef, undef, undef, undef, undef, undef, undef, undef, undef, undef, undef, undef, undef, undef, undef, undef, undef, undef, undef, undef, undef, undef, undef, undef, undef], defers := [] } := by subst hF; kernel_rfl
  clear hF
  subst hF2
  generalize G 5 = g1 at *
  go_upto_region 2 with fail
  have P1_lt := P1.lt
  refine wp_ev [.q, .q, .q, .q, .q, .q, .al, .st 6, .q] [0, 0, 0, 0, 0, 0, 0, 0, 0] (fun R => [.agg C, .agg stC, .tuple #[.agg C, .bool true], .tuple #[.agg C, .bool true], .agg C, .bool true, undef, undef, .bool true]) (fun _ => (.cells z21 29 (0, 0))) (fun R _ => (.cells C 29 (0, 0))) (fun _ => 0) (XE W) (fun _ => False) (by kernel_rfl) (by kernel_rfl) (by kernel_rfl) (by kernel_rfl) rfl (fun _ => rfl) (fun _ h => h.elim) (fun _ _ h => h) (by simp) (by simp) (fun R R' => ⟨fun _ => rfl, fun _ => rfl, fun _ => rfl, fun _ => rfl, fun _ => rfl, fun _ => rfl, fun _ => rfl, fun _ => rfl, fun _ => rfl, trivial⟩) (fun _ _ _ _ => rfl) xe_below (EE.out.trans (ext_drew _)) ?ops18 ?end18
  case ops18 =>
    refine ⟨?_, ?_, ?_, ?_, ?_, ?_, ?_, ?_, ?_, trivial⟩
    · refine er_q ?vn10 ?hn10 ?kn10 ?gn10 ?_
      case hn10 => exact rfl
      case vn10 => exact (fun R => .agg C)
      case kn10 => exact (fun R => rfl)
      case gn10 => exact gd_none rfl
      intro R s w' hT hs hw ha
      have L := ld_all (P1.sameE hw (fun h => h) (by simp)) uCone rfl iCone sC
      generalize hA : putE _ _ _ _ _ _ _ = AA
      refine q_load rfl ?_ L
      subst hA
      kernel_rfl
    · refine er_q ?vn11 ?hn11 ?kn11 ?gn11 ?_
      case hn11 => exact rfl
      case vn11 => exact (fun R => .agg stC)
      case kn11 => exact (fun R => rfl)
      case gn11 => exact gd_none rfl
      intro R s w' hT hs hw ha
      go_simp
      exact k3.out w'
    · refine er_q ?vn12 ?hn12 ?kn12 ?gn12 ?_
      case hn12 => exact rfl
      case vn12 => exact (fun R => .tuple #[.agg C, .bool true])
      case kn12 => exact (fun R => rfl)
      case gn12 => exact gd_none rfl
      intro R s w' hT hs hw ha
      go_simp
      exact k4.out w'
    · refine er_q ?vn13 ?hn13 ?kn13 ?gn13 ?_
      case hn13 => exact rfl
      case vn13 => exact (fun R => .tuple #[.agg C, .bool true])
      case kn13 => exact (fun R => rfl)
      case gn13 => exact gd_none rfl
      intro R s w' hT hs hw ha
      go_simp
    · refine er_q ?vn14 ?hn14 ?kn14 ?gn14 ?_
      case hn14 => exact rfl
      case vn14 => exact (fun R => .agg C)
      case kn14 => exact (fun R => rfl)
      case gn14 => exact gd_none rfl
      intro R s w' hT hs hw ha
      go_simp
    · refine er_q ?vn15 ?hn15 ?kn15 ?gn15 ?_
      case hn15 => exact rfl
      case vn15 => exact (fun R => .bool true)
      case kn15 => exact (fun R => rfl)
      case gn15 => exact gd_none rfl
      intro R s w' hT hs hw ha
      go_simp
    · refine er_al ?zn16 ?hn16 ?kn16 ?gn16 ?_
      case zn16 => exact (.cells z21 29 (0, 0))
      case hn16 => exact rfl
      case kn16 => exact rfl
      case gn16 => exact gd_none rfl
      intro ρ w'
      go_simp
      exact ⟨rfl, rfl⟩
    · refine er_st (j := 6) (Ty := ?Tn17) (p := ?pn17) (x := ?xn17) ?fn17 ?zn17 ?vn17 ?hn17 ?on17 ?kn17 ?ln17 ?gn17 ?en17 ?_
      case hn17 => exact rfl
      case on17 => exact rfl
      case fn17 => exact (fun R => (.cells C 29 (0, 0)))
      case zn17 => exact (.cells z21 29 (0, 0))
      case vn17 => exact (fun R => .agg C)
      case kn17 => exact (fun R => rfl)
      case ln17 => exact rfl
      case gn17 => exact gd_none rfl
      case en17 =>
        intro R
        kernel_rfl
      intro R s ρ w g hT hs hp hx hg hz
      exact ⟨store_row rfl hp hx hz iCone (sC) (oC), fun w1 hF => ext_filled hT hF (Nat.le_trans EE.out.size hg)⟩
    · refine er_q ?vn18 ?hn18 ?kn18 ?gn18 ?_
      case hn18 => exact rfl
      case vn18 => exact (fun R => .bool true)
      case kn18 => exact (fun R => rfl)
      case gn18 => exact gd_none rfl
      intro R s w' hT hs hw ha
      go_simp
  case end18 =>
   intro sI R G w19 hI
   have hS := hI.same
   have hTT := hI.holds
   have hz0 := EE.out.size
   have P1 := P1.sameE hS (fun h => h) (by simp)
   have P3 : Blk w19 (G 6) 29 C := (hI.fulls 7 (List.mem_range.2 (show 7 < 9 by decide)) 6 rfl).2.2
   have hmP3 := (hI.made 6 (List.mem_range.2 (show 6 < 9 by decide)) rfl).1
   have P3_lo : W.heap.size ≤ G 6 := Nat.le_trans hz0 hmP3
   have ngP1_3 : g1 ≠ G 6 := by omega
   have EE := hide (show Ext _ _ from hTT)
   clear hS hz0 hTT hI
   generalize hF : putE _ _ _ _ _ _ _ = FF
   have hF2 : FF = { tmps := #[.bool false, .pointer (some ⟨g1, 0, none⟩), .bool true, .pointer (some ⟨G 6, 0, none⟩), .bool true, .tuple #[.agg C, .bool true], .agg B, .tuple #[.agg C, .bool true], .agg C, .bool true, .tuple #[.agg C, .bool true], .agg C, .agg stC, .tuple #[.agg C, .bool true], .agg C, .bool true, undef, undef, undef, undef, undef, undef, undef, undef, undef, undef, undef, undef, undef, undef, undef, undef, undef, undef, undef, undef, undef, undef, undef, undef, undef, undef, undef, undef, undef, undef], defers := [] } := by subst hF; kernel_rfl
   clear hF
   subst hF2
   generalize G 6 = g3 at *
   go_upto_region 3 with fail
   have P1_lt := P1.lt
   have P3_lt := P3.lt
   refine wp_ev [.q, .q, .q, .q, .q, .q, .q, .q, .q, .q, .q, .q, .q, .q, .q, .q, .q, .q, .q, .q, .q, .q, .q, .q, .q, .q, .q, .q, .q, .q, .q] [0, 0, 0, 0, 0, 0, 0, 0, 0, 0, 0, 0, 0, 0, 0, 0, 0, 0, 0, 0, 0, 0, 0, 0, 0, 0, 0, 0, 0, 0, 0] (fun R => [.bool true, .bool true, .bool true, .bool true, .bool true, .agg C, .agg C, .bool true, .bool true, .bool true, .agg C, .agg D, .agg D, .bool true, .bool true, .bool true, .agg C, .bool true, .bool true, .bool true, .agg C, .agg E, .bool true, .bool true, .bool true, .agg C, .agg F, .bool false, .bool true, .bool true, .bool true]) (fun _ => (.cells #[] 0 (0, 0))) (fun R _ => (.cells #[] 0 (0, 0))) (fun _ => 0) (XE W) (fun _ => False) (by kernel_rfl) (by kernel_rfl) (by kernel_rfl) (by kernel_rfl) rfl (fun _ => rfl) (fun _ h => h.elim) (fun _ _ h => h) (by simp) (by simp) (fun R R' => ⟨fun _ => rfl, fun _ => rfl, fun _ => rfl, fun _ => rfl, fun _ => rfl, fun _ => rfl, fun _ => rfl, fun _ => rfl, fun _ => rfl, fun _ => rfl, fun _ => rfl, fun _ => rfl, fun _ => rfl, fun _ => rfl, fun _ => rfl, fun _ => rfl, fun _ => rfl, fun _ => rfl, fun _ => rfl, fun _ => rfl, fun _ => rfl, fun _ => rfl, fun _ => rfl, fun _ => rfl, fun _ => rfl, fun _ => rfl, fun _ => rfl, fun _ => rfl, fun _ => rfl, fun _ => rfl, fun _ => rfl, trivial⟩) (fun _ _ _ _ => rfl) xe_below (EE.out.trans (ext_drew _)) ?ops50 ?end50
   case ops50 =>
     refine ⟨?_, ?_, ?_, ?_, ?_, ?_, ?_, ?_, ?_, ?_, ?_, ?_, ?_, ?_, ?_, ?_, ?_, ?_, ?_, ?_, ?_, ?_, ?_, ?_, ?_, ?_, ?_, ?_, ?_, ?_, ?_, trivial⟩
     · refine er_q ?vn20 ?hn20 ?kn20 ?gn20 ?_
       case hn20 => exact rfl
       case vn20 => exact (fun R => .bool true)
       case kn20 => exact (fun R => rfl)
       case gn20 => exact gd_none rfl
       intro R s w' hT hs hw ha
       go_simp
     · refine er_q ?vn21 ?hn21 ?kn21 ?gn21 ?_
       case hn21 => exact rfl
       case vn21 => exact (fun R => .bool true)
       case kn21 => exact (fun R => rfl)
       case gn21 => exact gd_none rfl
       intro R s w' hT hs hw ha
       go_simp
     · refine er_q ?vn22 ?hn22 ?kn22 ?gn22 ?_
       case hn22 => exact rfl
       case vn22 => exact (fun R => .bool true)
       case kn22 => exact (fun R => rfl)
       case gn22 => (refine gd_some rfl ?_; intro R; kernel_rfl)
       intro R s w' hT hs hw ha
       go_simp
     · refine er_q ?vn23 ?hn23 ?kn23 ?gn23 ?_
       case hn23 => exact rfl
       case vn23 => exact (fun R => .bool true)
       case kn23 => exact (fun R => rfl)
       case gn23 => exact gd_none rfl
       intro R s w' hT hs hw ha
       go_simp
     · refine er_q ?vn24 ?hn24 ?kn24 ?gn24 ?_
       case hn24 => exact rfl
       case vn24 => exact (fun R => .bool true)
       case kn24 => exact (fun R => rfl)
       case gn24 => exact gd_none rfl
       intro R s w' hT hs hw ha
       go_simp
     · refine er_q ?vn25 ?hn25 ?kn25 ?gn25 ?_
       case hn25 => exact rfl
       case vn25 => exact (fun R => .agg C)
       case kn25 => exact (fun R => rfl)
       case gn25 => (refine gd_some rfl ?_; intro R; kernel_rfl)
       intro R s w' hT hs hw ha
       have L := ld_all (P3.sameE hw (fun h => h) (by simp)) uCone rfl iCone sC
       generalize hA : putE _ _ _ _ _ _ _ = AA
       refine q_load rfl ?_ L
       subst hA
       kernel_rfl
     · refine er_q ?vn26 ?hn26 ?kn26 ?gn26 ?_
       case hn26 => exact rfl
       case vn26 => exact (fun R => .agg C)
       case kn26 => exact (fun R => rfl)
       case gn26 => (refine gd_some rfl ?_; intro R; kernel_rfl)
       intro R s w' hT hs hw ha
       have L := ld_all (P1.sameE hw (fun h => h) (by simp)) uCone rfl iCone sC
       generalize hA : putE _ _ _ _ _ _ _ = AA
       refine q_load rfl ?_ L
       subst hA
       kernel_rfl
     · refine er_q ?vn27 ?hn27 ?kn27 ?gn27 ?_
       case hn27 => exact rfl
       case vn27 => exact (fun R => .bool true)
       case kn27 => exact (fun R => rfl)
       case gn27 => (refine gd_some rfl ?_; intro R; kernel_rfl)
       intro R s w' hT hs hw ha
       have L := qC.out w'
       generalize hA : putE _ _ _ _ _ _ _ = AA
       refine q_bin rfl ?_ ?_ (eq_agg _ _ (by kernel_rfl) _ _ _ _ w') L
       · subst hA; kernel_rfl
       · subst hA; kernel_rfl
     · refine er_q ?vn28 ?hn28 ?kn28 ?gn28 ?_
       case hn28 => exact rfl
       case vn28 => exact (fun R => .bool true)
       case kn28 => exact (fun R => rfl)
       case gn28 => exact gd_none rfl
       intro R s w' hT hs hw ha
       go_simp
     · refine er_q ?vn29 ?hn29 ?kn29 ?gn29 ?_
       case hn29 => exact rfl
       case vn29 => exact (fun R => .bool true)
       case kn29 => exact (fun R => rfl)
       case gn29 => exact gd_none rfl
       intro R s w' hT hs hw ha
       go_simp
     · refine er_q ?vn30 ?hn30 ?kn30 ?gn30 ?_
       case hn30 => exact rfl
       case vn30 => exact (fun R => .agg C)
       case kn30 => exact (fun R => rfl)
       case gn30 => (refine gd_some rfl ?_; intro R; kernel_rfl)
       intro R s w' hT hs hw ha
       have L := ld_all (P1.sameE hw (fun h => h) (by simp)) uCone rfl iCone sC
       generalize hA : putE _ _ _ _ _ _ _ = AA
       refine q_load rfl ?_ L
       subst hA
       kernel_rfl
     · refine er_q ?vn31 ?hn31 ?kn31 ?gn31 ?_
       case hn31 => exact rfl
       case vn31 => exact (fun R => .agg D)
       case kn31 => exact (fun R => rfl)
       case gn31 => (refine gd_some rfl ?_; intro R; kernel_rfl)
       intro R s w' hT hs hw ha
       go_simp
       exact k5.out w'
     · refine er_q ?vn32 ?hn32 ?kn32 ?gn32 ?_
       case hn32 => exact rfl
       case vn32 => exact (fun R => .agg D)
       case kn32 => exact (fun R => rfl)
       case gn32 => (refine gd_some rfl ?_; intro R; kernel_rfl)
       intro R s w' hT hs hw ha
       go_simp
       exact k6.out w'
     · refine er_q ?vn33 ?hn33 ?kn33 ?gn33 ?_
       case hn33 => exact rfl
       case vn33 => exact (fun R => .bool true)
       case kn33 => exact (fun R => rfl)
       case gn33 => (refine gd_some rfl ?_; intro R; kernel_rfl)
       intro R s w' hT hs hw ha
       have L := qD.out w'
       generalize hA : putE _ _ _ _ _ _ _ = AA
       refine q_bin rfl ?_ ?_ (eq_agg _ _ (by kernel_rfl) _ _ _ _ w') L
       · subst hA; kernel_rfl
       · subst hA; kernel_rfl
     · refine er_q ?vn34 ?hn34 ?kn34 ?gn34 ?_
       case hn34 => exact rfl
       case vn34 => exact (fun R => .bool true)
       case kn34 => exact (fun R => rfl)
       case gn34 => exact gd_none rfl
       intro R s w' hT hs hw ha
       go_simp
     · refine er_q ?vn35 ?hn35 ?kn35 ?gn35 ?_
       case hn35 => exact rfl
       case vn35 => exact (fun R => .bool true)
       case kn35 => exact (fun R => rfl)
       case gn35 => exact gd_none rfl
       intro R s w' hT hs hw ha
       go_simp
     · refine er_q ?vn36 ?hn36 ?kn36 ?gn36 ?_
       case hn36 => exact rfl
       case vn36 => exact (fun R => .agg C)
       case kn36 => exact (fun R => rfl)
       case gn36 => (refine gd_some rfl ?_; intro R; kernel_rfl)
       intro R s w' hT hs hw ha
       have L := ld_all (P1.sameE hw (fun h => h) (by simp)) uCone rfl iCone sC
       generalize hA : putE _ _ _ _ _ _ _ = AA
       refine q_load rfl ?_ L
       subst hA
       kernel_rfl
     · refine er_q ?vn37 ?hn37 ?kn37 ?gn37 ?_
       case hn37 => exact rfl
       case vn37 => exact (fun R => .bool true)
       case kn37 => exact (fun R => rfl)
       case gn37 => (refine gd_some rfl ?_; intro R; kernel_rfl)
       intro R s w' hT hs hw ha
       go_simp
       exact k7.out w'
     · refine er_q ?vn38 ?hn38 ?kn38 ?gn38 ?_
       case hn38 => exact rfl
       case vn38 => exact (fun R => .bool true)
       case kn38 => exact (fun R => rfl)
       case gn38 => exact gd_none rfl
       intro R s w' hT hs hw ha
       go_simp
     · refine er_q ?vn39 ?hn39 ?kn39 ?gn39 ?_
       case hn39 => exact rfl
       case vn39 => exact (fun R => .bool true)
       case kn39 => exact (fun R => rfl)
       case gn39 => exact gd_none rfl
       intro R s w' hT hs hw ha
       go_simp
     · refine er_q ?vn40 ?hn40 ?kn40 ?gn40 ?_
       case hn40 => exact rfl
       case vn40 => exact (fun R => .agg C)
       case kn40 => exact (fun R => rfl)
       case gn40 => (refine gd_some rfl ?_; intro R; kernel_rfl)
       intro R s w' hT hs hw ha
       have L := ld_all (P1.sameE hw (fun h => h) (by simp)) uCone rfl iCone sC
       generalize hA : putE _ _ _ _ _ _ _ = AA
       refine q_load rfl ?_ L
       subst hA
       kernel_rfl
     · refine er_q ?vn41 ?hn41 ?kn41 ?gn41 ?_
       case hn41 => exact rfl
       case vn41 => exact (fun R => .agg E)
       case kn41 => exact (fun R => rfl)
       case gn41 => (refine gd_some rfl ?_; intro R; kernel_rfl)
       intro R s w' hT hs hw ha
       go_simp
       exact k8.out w'
     · refine er_q ?vn42 ?hn42 ?kn42 ?gn42 ?_
       case hn42 => exact rfl
       case vn42 => exact (fun R => .bool true)
       case kn42 => exact (fun R => rfl)
       case gn42 => (refine gd_some rfl ?_; intro R; kernel_rfl)
       intro R s w' hT hs hw ha
       go_simp
       exact k10.out w'
     · refine er_q ?vn43 ?hn43 ?kn43 ?gn43 ?_
       case hn43 => exact rfl
       case vn43 => exact (fun R => .bool true)
       case kn43 => exact (fun R => rfl)
       case gn43 => exact gd_none rfl
       intro R s w' hT hs hw ha
       go_simp
     · refine er_q ?vn44 ?hn44 ?kn44 ?gn44 ?_
       case hn44 => exact rfl
       case vn44 => exact (fun R => .bool true)
       case kn44 => exact (fun R => rfl)
       case gn44 => exact gd_none rfl
       intro R s w' hT hs hw ha
       go_simp
     · refine er_q ?vn45 ?hn45 ?kn45 ?gn45 ?_
       case hn45 => exact rfl
       case vn45 => exact (fun R => .agg C)
       case kn45 => exact (fun R => rfl)
       case gn45 => (refine gd_some rfl ?_; intro R; kernel_rfl)
       intro R s w' hT hs hw ha
       have L := ld_all (P1.sameE hw (fun h => h) (by simp)) uCone rfl iCone sC
       generalize hA : putE _ _ _ _ _ _ _ = AA
       refine q_load rfl ?_ L
       subst hA
       kernel_rfl
     · refine er_q ?vn46 ?hn46 ?kn46 ?gn46 ?_
       case hn46 => exact rfl
       case vn46 => exact (fun R => .agg F)
       case kn46 => exact (fun R => rfl)
       case gn46 => (refine gd_some rfl ?_; intro R; kernel_rfl)
       intro R s w' hT hs hw ha
       go_simp
       exact k9.out w'
     · refine er_q ?vn47 ?hn47 ?kn47 ?gn47 ?_
       case hn47 => exact rfl
       case vn47 => exact (fun R => .bool false)
       case kn47 => exact (fun R => rfl)
       case gn47 => (refine gd_some rfl ?_; intro R; kernel_rfl)
       intro R s w' hT hs hw ha
       go_simp
       exact k11.out w'
     · refine er_q ?vn48 ?hn48 ?kn48 ?gn48 ?_
       case hn48 => exact rfl
       case vn48 => exact (fun R => .bool true)
       case kn48 => exact (fun R => rfl)
       case gn48 => (refine gd_some rfl ?_; intro R; kernel_rfl)
       intro R s w' hT hs hw ha
       go_simp
     · refine er_q ?vn49 ?hn49 ?kn49 ?gn49 ?_
       case hn49 => exact rfl
       case vn49 => exact (fun R => .bool true)
       case kn49 => exact (fun R => rfl)
       case gn49 => exact gd_none rfl
       intro R s w' hT hs hw ha
       go_simp
     · refine er_q ?vn50 ?hn50 ?kn50 ?gn50 ?_
       case hn50 => exact rfl
       case vn50 => exact (fun R => .bool true)
       case kn50 => exact (fun R => rfl)
       case gn50 => exact gd_none rfl
       intro R s w' hT hs hw ha
       go_simp
   case end50 =>
    intro sI R G w51 hI
    have hS := hI.same
    have hTT := hI.holds
    have hz0 := EE.out.size
    have P1 := P1.sameE hS (fun h => h) (by simp)
    have P3 := P3.sameE hS (fun h => h) (by simp)
    have EE := hide (show Ext _ _ from hTT)
    clear hS hz0 hTT hI
    generalize hF : putE _ _ _ _ _ _ _ = FF
    have hF2 : FF = { tmps := #[.bool true, .pointer (some ⟨g1, 0, none⟩), .bool true, .pointer (some ⟨g3, 0, none⟩), .bool true, .tuple #[.agg C, .bool true], .agg B, .tuple #[.agg C, .bool true], .agg C, .bool true, .tuple #[.agg C, .bool true], .agg C, .agg stC, .tuple #[.agg C, .bool true], .agg C, .bool true, .bool true, .bool true, .bool true, .bool true, .bool true, .agg C, .agg C, .bool true, .bool true, .bool true, .agg C, .agg D, .agg D, .bool true, .bool true, .bool true, .agg C, .bool true, .bool true, .bool true, .agg C, .agg E, .bool true, .bool true, .bool true, .agg C, .agg F, .bool false, .bool true, .bool true], defers := [] } := by subst hF; kernel_rfl
    clear hF
    subst hF2
    go_wp2_with fail
    go_ret
    refine ⟨?_, EE.out⟩
    kernel_rfl
theorem best_known : ChC (.cl (2, 1) (3, 1)) (2, 1) := ⟨by decide, by decide, by decide, fun p q h h1 h2 => by simp only at h1 h2 ⊢; omega⟩
end
section
open Go Go.RowKit Go.Sort
set_option maxRecDepth 100000 in
theorem pc_start (w : World) : Calls Tryz.prog 7 #[] w (Ret (.agg stC) w) := by
 obtain ⟨W, hW⟩ : ∃ W, w.alloc (.cells z21 29) = W := ⟨_, rfl⟩
 have P0 := Blk.new w 29 z21
 have EE := ext_alloc w (.cells z21 29)
 rw [hW] at P0 EE
 unfold z21 at hW
 have HW := hide hW
 clear hW
 go_enter Tryz.func7, Tryz.ntmps7
 go_upto_region 1 with fail
 rw [HW.out]
 have H0 : W.heap[w.heap.size]? = some (.cells z21 29 (0, 0)) := P0
 clear HW
 have hz : z21.size = stC.size := rfl
 have ha : stC.all (·.oneCell') = true := by kernel_rfl
 go_wp2_with (refine wpList_store_row rfl 29 (.tmp 0) (.tmp 1) rfl w.heap.size stC rfl rfl 29 z21 H0 iCone hz ha ?_)
 exact bodyPost_ret (results_cell_row (p := 0) (ty := 29) rfl _ _ w.heap.size 29 stC (0, 0) _ rfl (P0.setRow stC) uCone rfl iCone) rfl ⟨rfl, ext_row EE (Nat.le_refl _) _⟩
set_option maxRecDepth 100000 in
set_option maxHeartbeats 3200000 in
theorem pc_valid (o : Bool) (L H : Array Value) (hL : L.size = 10) (hH : H.size = 10) (W : World) (e bl bh : Bool) (r : Int)
   (hq : o = true → ∀ w, (binOp .eql 29 (.agg (coneC o L H)) (.agg stC)).run Tryz.prog w = .ok (.bool e) w)
   (KL : o = false → ∀ w, Calls Tryz.prog 42 #[.agg L] w (Ret (.bool bl) w)) (KH : o = false → ∀ w, Calls Tryz.prog 42 #[.agg H] w (Ret (.bool bh) w))
   (KC : o = false → bl = true → bh = true → ∀ w, Calls Tryz.prog 38 #[.agg L, .agg H] w (Ret (.int .i64 r) w))
   (v : Bool) (hv : (if o then e else (bl && (bh && decide (r ≤ 0)))) = v) :
   Calls Tryz.prog 18 #[.agg (coneC o L H)] W (Ret (.bool v) W) := by
 have hsz := coneC_size o hL hH
 have LD0 := fun w (h : Blk w W.heap.size 29 (coneC o L H)) => cone_loads h hL hH
 obtain ⟨X, hX⟩ : ∃ X, coneC o L H = X := ⟨_, rfl⟩
 rw [hX] at hq LD0 hsz ⊢
 have P0 := Blk.new W 29 X
 have EE := hide (ext_alloc W (.cells X 29))
 obtain ⟨W1, hW1⟩ : ∃ W1, W.alloc (.cells X 29) = W1 := ⟨_, rfl⟩
 obtain ⟨g, hg⟩ : ∃ g, W.heap.size = g := ⟨_, rfl⟩
 rw [hW1] at P0 EE
 rw [hg] at P0 LD0
 have LD := hide (fun w (h : Ext W1 w) => LD0 w (P0.ext h))
 obtain ⟨a1, a2, a3, a4⟩ := LD.out W1 (Ext.refl _)
 have HW := hide hW1
 have Hg := hide hg
 clear hW1 hg P0 LD0 hX hL hH
 cases o with
 | true =>
   obtain rfl : e = v := hv
   have hq := hq rfl
   have KS := hide (fun w => pc_start w)
   clear KL KH KC
   go_enter Tryz.func18, Tryz.ntmps18
   go_upto_region 1 with fail
   rw [HW.out, Hg.out]
   go_upto_region 2 with fail
   refine wp_region_quiet_below (by kernel_rfl) (by kernel_rfl) ?_
   refine wq_load (by kernel_rfl) rfl rfl (fun w hw => by obtain ⟨⟨d, os⟩, rfl⟩ := hw; exact (LD.out _ (ext_regrown W1 d os)).1) ?_
   repeat (first | go_big_quiet_step (with_reducible exact quiet_ret (KS.out _)) | quiet_step (with_reducible exact quiet_ret (KS.out _)))
   refine wpQuiet_nil ?_
   intro _ hw'
   obtain ⟨⟨dq, osq⟩, hw''⟩ := hw'
   subst hw''
   have X6 := hide (EE.out.trans (ext_regrown _ dq osq))
   obtain ⟨z6, hz6⟩ : ∃ w, grow (redrawn W1 dq) osq = w := ⟨_, rfl⟩
   rw [hz6] at X6 ⊢
   clear hz6
   go_wp2_with fail
   go_ret
   exact ⟨rfl, X6.out⟩
 | false =>
   have kl := hide (KL rfl)
   have kh := hide (KH rfl)
   clear KL KH
   have hv : (bl && (bh && decide (r ≤ 0))) = v := hv
   clear hq
   cases bl with
   | false =>
     obtain rfl : false = v := hv
     clear KC kh
     go_enter Tryz.func18, Tryz.ntmps18
     go_upto_region 1 with fail
     rw [HW.out, Hg.out]
     go_wp2_with (first
       | (refine wl_load (by kernel_rfl) rfl rfl a3 ?_)
       | (go_at_call 42; (with_reducible refine (kl.out _).mono ?_); rintro e w2 ⟨rfl, hE⟩; have E2 := hide (EE.out.trans hE); clear hE))
     go_ret
     exact ⟨rfl, E2.out⟩
   | true =>
     cases bh with
     | false =>
       obtain rfl : false = v := hv
       clear KC
       go_enter Tryz.func18, Tryz.ntmps18
       go_upto_region 1 with fail
       rw [HW.out, Hg.out]
       go_wp2_with (first
         | (refine wl_load (by kernel_rfl) rfl rfl a3 ?_)
         | (refine wl_load (by kernel_rfl) rfl rfl b4 ?_)
         | (refine wl_load (by kernel_rfl) rfl rfl c3 ?_)
         | (refine wl_load (by kernel_rfl) rfl rfl c4 ?_)
         | (go_at_call 42; (with_reducible refine (kl.out _).mono ?_); rintro e w2 ⟨rfl, hE⟩; have E2 := hide hE; obtain ⟨b1, b2, b3, b4⟩ := LD.out w2 hE; clear hE)
         | (go_at_call 42; (with_reducible refine (kh.out _).mono ?_); rintro e w3 ⟨rfl, hE⟩; have E3 := hide (E2.out.trans hE); clear hE))
       go_ret
       exact ⟨rfl, EE.out.trans E3.out⟩
     | true =>
       obtain rfl : decide (r ≤ 0) = v := hv
       have kc := hide (KC rfl rfl rfl)
       clear KC
       go_enter Tryz.func18, Tryz.ntmps18
       go_upto_region 1 with fail
       rw [HW.out, Hg.out]
       go_wp2_with (first
         | (refine wl_load (by kernel_rfl) rfl rfl a3 ?_)
         | (refine wl_load (by kernel_rfl) rfl rfl b4 ?_)
         | (refine wl_load (by kernel_rfl) rfl rfl c3 ?_)
         | (refine wl_load (by kernel_rfl) rfl rfl c4 ?_)
         | (go_at_call 42; (with_reducible refine (kl.out _).mono ?_); rintro e w2 ⟨rfl, hE⟩; have E2 := hide hE; obtain ⟨b1, b2, b3, b4⟩ := LD.out w2 hE; clear hE)
         | (go_at_call 42; (with_reducible refine (kh.out _).mono ?_); rintro e w3 ⟨rfl, hE⟩; have E3 := hide (E2.out.trans hE); obtain ⟨c1, c2, c3, c4⟩ := LD.out w3 E3.out; clear hE)
         | (go_at_call 38; (with_reducible refine (kc.out _).mono ?_); rintro e w4 ⟨rfl, hE⟩; have E4 := hide (E3.out.trans hE); clear hE))
       go_ret
       exact ⟨rfl, EE.out.trans E4.out⟩
set_option maxRecDepth 100000 in
set_option maxHeartbeats 3200000 in
theorem pc_choose (o : Bool) (L H S1 S2 : Array Value) (hL : L.size = 10) (hH : H.size = 10) (h1 : S1.size = 10) (h1a : S1.all (·.oneCell') = true) (h2 : S2.size = 10) (h2a : S2.all (·.oneCell') = true) (W : World) (vc b2 : Bool)
   (KV : ∀ w, Calls Tryz.prog 18 #[.agg (coneC o L H)] w (Ret (.bool vc) w)) (KO : vc = true → o = true → ∀ w, Calls Tryz.prog 39 #[.int .i64 0] w (Ret (.agg S1) w))
   (KB : vc = true → o = false → ∀ w, Calls Tryz.prog 40 #[.agg L, .agg H] w (Ret (.tuple #[.agg S2, .bool b2]) w)) :
   Calls Tryz.prog 16 #[.agg (coneC o L H)] W (Ret (.agg (if vc then (if o then S1 else S2) else zR)) W) := by
 have LD0 := fun w (h : Blk w W.heap.size 29 (coneC o L H)) => cone_loads h hL hH
 obtain ⟨X, hX⟩ : ∃ X, coneC o L H = X := ⟨_, rfl⟩
 rw [hX] at KV LD0 ⊢
 have P0 := (Blk.new W 29 X).alloc (.cells #[.bool false, .int .u64 0, .int .u64 0, .int .u64 0, .int .u64 0, .bool false, .int .u64 0, .int .u64 0, .int .u64 0, .int .u64 0] 27)
 have P1 := Blk.new (W.alloc (.cells X 29)) 27 #[.bool false, .int .u64 0, .int .u64 0, .int .u64 0, .int .u64 0, .bool false, .int .u64 0, .int .u64 0, .int .u64 0, .int .u64 0]
 have EE := hide (Ext.trans (ext_alloc W (.cells X 29)) (ext_alloc _ (.cells #[.bool false, .int .u64 0, .int .u64 0, .int .u64 0, .int .u64 0, .bool false, .int .u64 0, .int .u64 0, .int .u64 0, .int .u64 0] 27)))
 rw [alloc_size] at P1
 obtain ⟨W1, hW1⟩ : ∃ W1, (W.alloc (.cells X 29)).alloc (.cells #[.bool false, .int .u64 0, .int .u64 0, .int .u64 0, .int .u64 0, .bool false, .int .u64 0, .int .u64 0, .int .u64 0, .int .u64 0] 27) = W1 := ⟨_, rfl⟩
 obtain ⟨g, hg⟩ : ∃ g, W.heap.size = g := ⟨_, rfl⟩
 rw [hW1] at P0 P1 EE
 rw [hg] at P0 P1 LD0
 have LD := hide (fun w (h : Ext W1 w) => LD0 w (P0.ext h))
 have RB := hide (fun w (h : Ext W1 w) => P1.ext h)
 obtain ⟨k, hk⟩ : ∃ k, g + 1 = k := ⟨_, rfl⟩
 have Hk := hide hk
 rw [hk] at RB P1
 have hWk : W.heap.size ≤ k := by omega
 have HW := hide hW1
 have Hg := hide hg
 have kv := hide KV
 obtain ⟨fx0, -, -, -⟩ := LD.out W1 (Ext.refl _)
 clear hW1 hg P0 P1 LD0 hX hL hH KV hk
 cases vc with
 | false =>
   clear KO KB
   go_enter Tryz.func16, Tryz.ntmps16
   go_upto_region 1 with fail
   rw [HW.out, Hg.out, Hk.out]
   go_upto_region 2 with (first
     | (refine wl_load (by kernel_rfl) rfl rfl fx0 ?_)
     | (go_at_call 18; (with_reducible refine (kv.out _).mono ?_); rintro e w2 ⟨rfl, hE⟩; have E2 := hide hE; have st := rat_store (RB.out w2 hE) rfl (ds := zR) rfl zR_one; clear hE fx0))
   go_wp2_with (refine wl_store (by kernel_rfl) rfl rfl rfl st ?_)
   exact bodyPost_ret (results_cell_row (p := 2) (ty := 27) rfl _ _ k 27 zR (0, 0) _ rfl ((RB.out w2 E2.out).setRow zR) uRat rfl iRat) rfl ⟨rfl, ext_row (EE.out.trans E2.out) hWk _⟩
 | true =>
   have KO := KO rfl
   have KB := KB rfl
   cases o with
   | true =>
     have ko := hide (KO rfl)
     clear KO KB
     go_enter Tryz.func16, Tryz.ntmps16
     go_upto_region 1 with fail
     rw [HW.out, Hg.out, Hk.out]
     go_upto_region 4 with (first
       | (refine wl_load (by kernel_rfl) rfl rfl fx0 ?_)
       | (go_at_call 18; (with_reducible refine (kv.out _).mono ?_); rintro e w2 ⟨rfl, hE⟩; have E2 := hide hE; obtain ⟨-, fb, -, -⟩ := LD.out w2 hE; clear hE fx0))
     go_wp2_with (first
       | (refine wl_store (by kernel_rfl) rfl rfl rfl st ?_)
       | (go_at_call 39; (with_reducible refine (ko.out _).mono ?_); rintro e w3 ⟨rfl, hE⟩; have E3 := hide (Ext.trans E2.out hE); have st := rat_store (RB.out w3 E3.out) rfl h1 h1a; clear hE))
     exact bodyPost_ret (results_cell_row (p := 2) (ty := 27) rfl _ _ k 27 S1 (0, 0) _ rfl ((RB.out w3 E3.out).setRow S1) uRat rfl (by rw [iRat, h1])) rfl ⟨rfl, ext_row (EE.out.trans E3.out) hWk _⟩
   | false =>
     have kb := hide (KB rfl)
     clear KO KB
     go_enter Tryz.func16, Tryz.ntmps16
     go_upto_region 1 with fail
     rw [HW.out, Hg.out, Hk.out]
     go_upto_region 5 with (first
       | (refine wl_load (by kernel_rfl) rfl rfl fx0 ?_)
       | (go_at_call 18; (with_reducible refine (kv.out _).mono ?_); rintro e w2 ⟨rfl, hE⟩; have E2 := hide hE; obtain ⟨-, fb, fl, fh⟩ := LD.out w2 hE; clear hE fx0))
     go_upto_region 6 with (first
       | (refine wl_load (by kernel_rfl) rfl rfl fl ?_)
       | (refine wl_load (by kernel_rfl) rfl rfl fh ?_)
       | (go_at_call 40; (with_reducible refine (kb.out _).mono ?_); rintro e w3 ⟨rfl, hE⟩; have E3 := hide (Ext.trans E2.out hE); have N4 := hide (Blk.new w3 27 #[.bool false, .int .u64 0, .int .u64 0, .int .u64 0, .int .u64 0, .bool false, .int .u64 0, .int .u64 0, .int .u64 0, .int .u64 0]); have E4 := hide (Ext.trans E3.out (ext_alloc w3 (.cells #[.bool false, .int .u64 0, .int .u64 0, .int .u64 0, .int .u64 0, .bool false, .int .u64 0, .int .u64 0, .int .u64 0, .int .u64 0] 27))); have B4 := hide (RB.out _ E4.out); have hne : k ≠ w3.heap.size := Nat.ne_of_lt (RB.out w3 E3.out).lt; have st := rat_store N4.out rfl h2 h2a; clear hE fl fh)
       | (refine wl_store (by kernel_rfl) rfl rfl rfl st ?_))
     obtain ⟨w4, hw4⟩ : ∃ w, w3.alloc (.cells #[.bool false, .int .u64 0, .int .u64 0, .int .u64 0, .int .u64 0, .bool false, .int .u64 0, .int .u64 0, .int .u64 0, .int .u64 0] 27) = w := ⟨_, rfl⟩
     obtain ⟨n, hn⟩ : ∃ n, w3.heap.size = n := ⟨_, rfl⟩
     rw [hw4] at N4 E4 B4 ⊢
     rw [hn] at N4 hne ⊢
     have hnW : W.heap.size ≤ n := by have := EE.out.size; have := E3.out.size; omega
     have N5 := N4.out.setRow S2
     have B5 := B4.out.rowN (ds := S2) hne
     have E5 := hide (ext_row (EE.out.trans E4.out) hnW S2)
     obtain ⟨w5, hw5⟩ : ∃ w, w4.setRow n S2 = w := ⟨_, rfl⟩
     rw [hw5] at N5 B5 E5 ⊢
     have ld5 := rat_load N5 h2
     have st5 := rat_store B5 rfl h2 h2a
     clear hw4 hw5 hn N4 E4 B4 N5 st fb
     go_wp2_with (first
       | (refine wl_load (by kernel_rfl) rfl rfl ld5 ?_)
       | (refine wl_store (by kernel_rfl) rfl rfl rfl st5 ?_))
     exact bodyPost_ret (results_cell_row (p := 2) (ty := 27) rfl _ _ k 27 S2 (0, 0) _ rfl (B5.setRow S2) uRat rfl (by rw [iRat, h2])) rfl ⟨rfl, ext_row E5.out hWk _⟩
end
section
open Go Go.RowKit Go.Sort
def metP (va vb oa ob : Bool) (La Ha Lb Hb : Array Value) (c1 c2 c3 : Int) : Array Value × Bool :=
 if va && vb then (if oa then (coneC ob Lb Hb, true) else if ob then (coneC false La Ha, true) else if 0 < c3 then (z21, false) else (coneC false (if c1 < 0 then Lb else La) (if 0 < c2 then Hb else Ha), true)) else (z21, false)
set_option maxRecDepth 100000 in
set_option maxHeartbeats 6400000 in
theorem pc_meet (oa ob : Bool) (La Ha Lb Hb : Array Value) (sLa : La.size = 10) (sHa : Ha.size = 10) (sLb : Lb.size = 10) (sHb : Hb.size = 10) (uLa : La.all (·.oneCell') = true) (uHa : Ha.all (·.oneCell') = true) (uLb : Lb.all (·.oneCell') = true) (uHb : Hb.all (·.oneCell') = true) (W : World) (va vb : Bool) (c1 c2 c3 : Int)
   (KA : ∀ w, Calls Tryz.prog 18 #[.agg (coneC oa La Ha)] w (Ret (.bool va) w)) (KB : va = true → ∀ w, Calls Tryz.prog 18 #[.agg (coneC ob Lb Hb)] w (Ret (.bool vb) w))
   (K1 : va = true → vb = true → oa = false → ob = false → ∀ w, Calls Tryz.prog 38 #[.agg La, .agg Lb] w (Ret (.int .i64 c1) w)) (K2 : va = true → vb = true → oa = false → ob = false → ∀ w, Calls Tryz.prog 38 #[.agg Ha, .agg Hb] w (Ret (.int .i64 c2) w))
   (K3 : va = true → vb = true → oa = false → ob = false → ∀ w, Calls Tryz.prog 38 #[.agg (if c1 < 0 then Lb else La), .agg (if 0 < c2 then Hb else Ha)] w (Ret (.int .i64 c3) w)) :
   Calls Tryz.prog 15 #[.agg (coneC oa La Ha), .agg (coneC ob Lb Hb)] W (Ret (.tuple #[.agg (metP va vb oa ob La Ha Lb Hb c1 c2 c3).1, .bool (metP va vb oa ob La Ha Lb Hb c1 c2 c3).2]) W) := by
 have szX := coneC_size oa sLa sHa
 have szY := coneC_size ob sLb sHb
 have onX := cone_one oa uLa uHa
 have onY := cone_one ob uLb uHb
 have LA := fun w (h : Blk w W.heap.size 29 (coneC oa La Ha)) => cone_loads h sLa sHa
 have LB := fun w (h : Blk w (W.heap.size + 1) 29 (coneC ob Lb Hb)) => cone_loads h sLb sHb
 obtain ⟨X, hX⟩ : ∃ X, coneC oa La Ha = X := ⟨_, rfl⟩
 obtain ⟨Y, hY⟩ : ∃ Y, coneC ob Lb Hb = Y := ⟨_, rfl⟩
 rw [hX] at KA LA szX onX ⊢
 rw [hY] at KB LB szY onY ⊢
 have P0 := ((Blk.new W 29 X).alloc (.cells Y 29)).alloc (.cells #[.bool false, .bool false, .int .u64 0, .int .u64 0, .int .u64 0, .int .u64 0, .bool false, .int .u64 0, .int .u64 0, .int .u64 0, .int .u64 0, .bool false, .int .u64 0, .int .u64 0, .int .u64 0, .int .u64 0, .bool false, .int .u64 0, .int .u64 0, .int .u64 0, .int .u64 0] 29)
 have P1 := (Blk.new (W.alloc (.cells X 29)) 29 Y).alloc (.cells #[.bool false, .bool false, .int .u64 0, .int .u64 0, .int .u64 0, .int .u64 0, .bool false, .int .u64 0, .int .u64 0, .int .u64 0, .int .u64 0, .bool false, .int .u64 0, .int .u64 0, .int .u64 0, .int .u64 0, .bool false, .int .u64 0, .int .u64 0, .int .u64 0, .int .u64 0] 29)
 have P2 := Blk.new ((W.alloc (.cells X 29)).alloc (.cells Y 29)) 29 #[.bool false, .bool false, .int .u64 0, .int .u64 0, .int .u64 0, .int .u64 0, .bool false, .int .u64 0, .int .u64 0, .int .u64 0, .int .u64 0, .bool false, .int .u64 0, .int .u64 0, .int .u64 0, .int .u64 0, .bool false, .int .u64 0, .int .u64 0, .int .u64 0, .int .u64 0]
 have EE := hide (Ext.trans (Ext.trans (ext_alloc W (.cells X 29)) (ext_alloc _ (.cells Y 29))) (ext_alloc _ (.cells #[.bool false, .bool false, .int .u64 0, .int .u64 0, .int .u64 0, .int .u64 0, .bool false, .int .u64 0, .int .u64 0, .int .u64 0, .int .u64 0, .bool false, .int .u64 0, .int .u64 0, .int .u64 0, .int .u64 0, .bool false, .int .u64 0, .int .u64 0, .int .u64 0, .int .u64 0] 29)))
 rw [alloc_size] at P1 P2
 rw [alloc_size] at P2
 obtain ⟨W1, hW1⟩ : ∃ W1, ((W.alloc (.cells X 29)).alloc (.cells Y 29)).alloc (.cells #[.bool false, .bool false, .int .u64 0, .int .u64 0, .int .u64 0, .int .u64 0, .bool false, .int .u64 0, .int .u64 0, .int .u64 0, .int .u64 0, .bool false, .int .u64 0, .int .u64 0, .int .u64 0, .int .u64 0, .bool false, .int .u64 0, .int .u64 0, .int .u64 0, .int .u64 0] 29) = W1 := ⟨_, rfl⟩
 obtain ⟨g, hg⟩ : ∃ g, W.heap.size = g := ⟨_, rfl⟩
 rw [hW1] at P0 P1 P2 EE
 rw [hg] at P0 P1 P2 LA LB
 obtain ⟨b, hb⟩ : ∃ b, g + 1 = b := ⟨_, rfl⟩
 rw [hb] at P1 P2 LB
 obtain ⟨k, hk⟩ : ∃ k, b + 1 = k := ⟨_, rfl⟩
 rw [hk] at P2
 have hWk : W.heap.size ≤ k := by omega
 have hWg : W.heap.size ≤ g := by omega
 have hgb : b ≠ g := by omega
 have hgk : k ≠ g := by omega
 have HW := hide hW1
 have Hg := hide hg
 have HbE := hide hb
 have Hk := hide hk
 have LD := hide (fun w (h : Ext W1 w) => And.intro (LA w (P0.ext h)).1 (And.intro (LA w (P0.ext h)).2.1 (And.intro (LA w (P0.ext h)).2.2.1 (And.intro (LA w (P0.ext h)).2.2.2 (LB w (P1.ext h))))))
 have RB := hide (fun w (h : Ext W1 w) => P2.ext h)
 have PA := hide (fun w (h : Ext W1 w) => P0.ext h)
 have PB := hide (fun w (h : Ext W1 w) => P1.ext h)
 obtain ⟨fx0, -, -, -, -, -, -, -⟩ := LD.out W1 (Ext.refl _)
 have ka := hide KA
 clear hW1 hg hb hk P0 P1 P2 LA LB KA
 cases va with
 | false =>
   clear KB K1 K2 K3
   go_enter Tryz.func15, Tryz.ntmps15
   go_upto_region 1 with fail
   rw [HW.out, Hg.out, HbE.out, Hk.out]
   go_upto_region 2 with (first
     | (refine wl_load (by kernel_rfl) rfl rfl fx0 ?_)
     | (go_at_call 18; (with_reducible refine (ka.out _).mono ?_); rintro e w2 ⟨rfl, hE⟩; have E2 := hide hE; have st := cone_store (RB.out w2 hE) rfl (ds := z21) rfl z21_one; clear hE fx0))
   go_wp2_with (refine wl_store (by kernel_rfl) rfl rfl rfl st ?_)
   exact bodyPost_ret (res_row2 (p := 4) (u := 5) (ty := 29) rfl _ _ k 29 z21 _ rfl ((RB.out w2 E2.out).setRow z21) uCone rfl iCone) rfl ⟨rfl, ext_row (EE.out.trans E2.out) hWk _⟩
 | true =>
   have kb := hide (KB rfl)
   clear KB
   cases vb with
   | false =>
     clear K1 K2 K3
     go_enter Tryz.func15, Tryz.ntmps15
     go_upto_region 1 with fail
     rw [HW.out, Hg.out, HbE.out, Hk.out]
     go_upto_region 2 with (first
       | (refine wl_load (by kernel_rfl) rfl rfl fx0 ?_)
       | (refine wl_load (by kernel_rfl) rfl rfl fy ?_)
       | (go_at_call 18; (with_reducible refine (ka.out _).mono ?_); rintro e w2 ⟨rfl, hE⟩; have E2 := hide hE; obtain ⟨-, -, -, -, fy, -, -, -⟩ := LD.out w2 hE; clear hE fx0)
       | (go_at_call 18; (with_reducible refine (kb.out _).mono ?_); rintro e w3 ⟨rfl, hE⟩; have E3 := hide (Ext.trans E2.out hE); have st := cone_store (RB.out w3 E3.out) rfl (ds := z21) rfl z21_one; clear hE fy))
     go_wp2_with (refine wl_store (by kernel_rfl) rfl rfl rfl st ?_)
     exact bodyPost_ret (res_row2 (p := 4) (u := 5) (ty := 29) rfl _ _ k 29 z21 _ rfl ((RB.out w3 E3.out).setRow z21) uCone rfl iCone) rfl ⟨rfl, ext_row (EE.out.trans E3.out) hWk _⟩
   | true =>
     cases oa with
     | true =>
       clear K1 K2 K3
       go_enter Tryz.func15, Tryz.ntmps15
       go_upto_region 1 with fail
       rw [HW.out, Hg.out, HbE.out, Hk.out]
       go_upto_region 4 with (first
       | (refine wl_load (by kernel_rfl) rfl rfl fx0 ?_)
       | (refine wl_load (by kernel_rfl) rfl rfl fy ?_)
       | (go_at_call 18; (with_reducible refine (ka.out _).mono ?_); rintro e w2 ⟨rfl, hE⟩; have E2 := hide hE; obtain ⟨-, -, -, -, fy, -, -, -⟩ := LD.out w2 hE; clear hE fx0)
       | (go_at_call 18; (with_reducible refine (kb.out _).mono ?_); rintro e w3 ⟨rfl, hE⟩; have E3 := hide (Ext.trans E2.out hE); obtain ⟨-, fo, -, -, fy3, -, -, -⟩ := LD.out w3 E3.out; have st := cone_store (RB.out w3 E3.out) rfl szY onY; clear hE fy))
       go_wp2_with (first
         | (refine wl_load (by kernel_rfl) rfl rfl fy3 ?_)
         | (refine wl_store (by kernel_rfl) rfl rfl rfl st ?_))
       refine bodyPost_ret (res_row2 (p := 4) (u := 5) (ty := 29) rfl _ _ k 29 Y _ rfl ((RB.out w3 E3.out).setRow Y) uCone rfl (by rw [iCone, szY])) rfl ⟨?_, ext_row (EE.out.trans E3.out) hWk _⟩
       rw [← hY]; rfl
     | false =>
       have K1 := K1 rfl rfl rfl
       have K2 := K2 rfl rfl rfl
       have K3 := K3 rfl rfl rfl
       cases ob with
       | true =>
         clear K1 K2 K3
         go_enter Tryz.func15, Tryz.ntmps15
         go_upto_region 1 with fail
         rw [HW.out, Hg.out, HbE.out, Hk.out]
         go_upto_region 6 with (first
         | (refine wl_load (by kernel_rfl) rfl rfl fx0 ?_)
         | (refine wl_load (by kernel_rfl) rfl rfl fy ?_)
         | (go_at_call 18; (with_reducible refine (ka.out _).mono ?_); rintro e w2 ⟨rfl, hE⟩; have E2 := hide hE; obtain ⟨-, -, -, -, fy, -, -, -⟩ := LD.out w2 hE; clear hE fx0)
         | (go_at_call 18; (with_reducible refine (kb.out _).mono ?_); rintro e w3 ⟨rfl, hE⟩; have E3 := hide (Ext.trans E2.out hE); obtain ⟨fx3, fo, -, -, -, fob, -, -⟩ := LD.out w3 E3.out; have st := cone_store (RB.out w3 E3.out) rfl szX onX; clear hE fy))
         go_wp2_with (first
           | (refine wl_load (by kernel_rfl) rfl rfl fx3 ?_)
           | (refine wl_store (by kernel_rfl) rfl rfl rfl st ?_))
         refine bodyPost_ret (res_row2 (p := 4) (u := 5) (ty := 29) rfl _ _ k 29 X _ rfl ((RB.out w3 E3.out).setRow X) uCone rfl (by rw [iCone, szX])) rfl ⟨?_, ext_row (EE.out.trans E3.out) hWk _⟩
         rw [← hX]; rfl
       | false =>
         have k1 := hide (K1 rfl)
         have k2 := hide (K2 rfl)
         have k3 := hide (K3 rfl)
         clear K1 K2 K3
         obtain ⟨L1, hL1⟩ : ∃ L1, (if c1 < 0 then Lb else La) = L1 := ⟨_, rfl⟩
         obtain ⟨H1, hH1⟩ : ∃ H1, (if 0 < c2 then Hb else Ha) = H1 := ⟨_, rfl⟩
         rw [hL1, hH1] at k3
         have sL1 : L1.size = 10 := by rw [← hL1]; split <;> assumption
         have sH1 : H1.size = 10 := by rw [← hH1]; split <;> assumption
         have uL1 : L1.all (·.oneCell') = true := by rw [← hL1]; split <;> assumption
         have uH1 : H1.all (·.oneCell') = true := by rw [← hH1]; split <;> assumption
         go_enter Tryz.func15, Tryz.ntmps15
         go_upto_region 1 with fail
         rw [HW.out, Hg.out, HbE.out, Hk.out]
         go_upto_region 7 with (first
         | (refine wl_load (by kernel_rfl) rfl rfl fx0 ?_)
         | (refine wl_load (by kernel_rfl) rfl rfl fy ?_)
         | (go_at_call 18; (with_reducible refine (ka.out _).mono ?_); rintro e w2 ⟨rfl, hE⟩; have E2 := hide hE; obtain ⟨-, -, -, -, fy, -, -, -⟩ := LD.out w2 hE; clear hE fx0)
         | (go_at_call 18; (with_reducible refine (kb.out _).mono ?_); rintro e w3 ⟨rfl, hE⟩; have E3 := hide (Ext.trans E2.out hE); obtain ⟨-, fo, fla, -, -, fob, flb, -⟩ := LD.out w3 E3.out; clear hE fy))
         clear fo fob
         go_upto_if 28 with (first
           | (refine wl_load (by kernel_rfl) rfl rfl fla ?_)
           | (refine wl_load (by kernel_rfl) rfl rfl flb ?_)
           | (go_at_call 38; (with_reducible refine (k1.out _).mono ?_); rintro e w4 ⟨rfl, hE⟩; have E4 := hide (Ext.trans E3.out hE); clear hE fla flb))
         obtain ⟨-, -, -, -, -, -, flb4, -⟩ := LD.out w4 E4.out
         have st4 := cone_store_lo (o := false) (hX ▸ PA.out w4 E4.out) sLa sHa sLb uLb
         have F4 : Hid (Blk w4 g 29 (coneC false La Ha) ∧ Blk w4 b 29 (coneC false Lb Hb) ∧ Blk w4 k 29 z21 ∧ Ext W w4) := hide ⟨hX ▸ PA.out w4 E4.out, hY ▸ PB.out w4 E4.out, RB.out w4 E4.out, EE.out.trans E4.out⟩
         clear ka kb k1 LD RB PA PB
         go_cut [] from 28 (fun wx => Hid (Blk wx g 29 (coneC false L1 Ha) ∧ Blk wx b 29 (coneC false Lb Hb) ∧ Blk wx k 29 z21 ∧ Ext W wx))
         case first =>
           by_cases h1 : c1 < 0
           · simp only [h1, decide_true, if_true] at hL1 ⊢
             subst hL1
             go_wp2_with (first
               | (refine wl_load (by kernel_rfl) rfl rfl flb4 ?_)
               | (refine wl_store (by kernel_rfl) rfl rfl rfl st4 ?_))
             go_meet
             case rel => exact hide ⟨F4.out.1.setRow _, F4.out.2.1.rowN hgb, F4.out.2.2.1.rowN hgk, ext_row F4.out.2.2.2 hWg _⟩
           · simp only [h1, decide_false, if_false] at hL1 ⊢
             subst hL1
             go_wp2_with fail
             go_meet
             case rel => exact F4
         case rest =>
         clear st4 flb4 F4 E4
         obtain ⟨-, -, -, fh⟩ := cone_loads hcut.out.1 sL1 sHa
         obtain ⟨-, -, -, fhb⟩ := cone_loads hcut.out.2.1 sLb sHb
         go_upto_if 37 with (first
           | (refine wl_load (by kernel_rfl) rfl rfl fh ?_)
           | (refine wl_load (by kernel_rfl) rfl rfl fhb ?_)
           | (go_at_call 38; (with_reducible refine (k2.out _).mono ?_); rintro e w5 ⟨rfl, hE⟩; have E5 := hide hE; clear hE fh fhb))
         obtain ⟨-, -, -, fhb5⟩ := cone_loads (hcut.out.2.1.ext E5.out) sLb sHb
         have st5 := cone_store_hi (hcut.out.1.ext E5.out) sL1 sHa sHb uHb
         have F5 : Hid (Blk w5 g 29 (coneC false L1 Ha) ∧ Blk w5 b 29 (coneC false Lb Hb) ∧ Blk w5 k 29 z21 ∧ Ext W w5) := hide ⟨hcut.out.1.ext E5.out, hcut.out.2.1.ext E5.out, hcut.out.2.2.1.ext E5.out, hcut.out.2.2.2.trans E5.out⟩
         clear k2 E5 hcut
         go_cut [] from 37 (fun wx => Hid (Blk wx g 29 (coneC false L1 H1) ∧ Blk wx b 29 (coneC false Lb Hb) ∧ Blk wx k 29 z21 ∧ Ext W wx))
         case first =>
           by_cases h2 : 0 < c2
           · simp only [h2, decide_true, if_true] at hH1 ⊢
             subst hH1
             go_wp2_with (first
               | (refine wl_load (by kernel_rfl) rfl rfl fhb5 ?_)
               | (refine wl_store (by kernel_rfl) rfl rfl rfl st5 ?_))
             go_meet
             case rel => exact hide ⟨F5.out.1.setRow _, F5.out.2.1.rowN hgb, F5.out.2.2.1.rowN hgk, ext_row F5.out.2.2.2 hWg _⟩
           · simp only [h2, decide_false, if_false] at hH1 ⊢
             subst hH1
             go_wp2_with fail
             go_meet
             case rel => exact F5
         case rest =>
         clear st5 fhb5 F5
         obtain ⟨-, -, f1, f2⟩ := cone_loads hcut.out.1 sL1 sH1
         go_upto_if 46 with (first
           | (refine wl_load (by kernel_rfl) rfl rfl f1 ?_)
           | (refine wl_load (by kernel_rfl) rfl rfl f2 ?_)
           | (go_at_call 38; (with_reducible refine (k3.out _).mono ?_); rintro e w6 ⟨rfl, hE⟩; have E6 := hide hE; clear hE f1 f2))
         have szZ : (coneC false L1 H1).size = 21 := coneC_size false sL1 sH1
         have fz := (cone_loads (hcut.out.1.ext E6.out) sL1 sH1).1
         have sz0 := cone_store (hcut.out.2.2.1.ext E6.out) rfl (ds := z21) rfl z21_one
         have sz1 := cone_store (hcut.out.2.2.1.ext E6.out) rfl szZ (cone_one false uL1 uH1)
         by_cases h3 : 0 < c3
         · simp only [h3, decide_true]
           rw [show metP true true false false La Ha Lb Hb c1 c2 c3 = (z21, false) from by simp [metP, h3]]
           go_wp2_with (refine wl_store (by kernel_rfl) rfl rfl rfl sz0 ?_)
           exact bodyPost_ret (res_row2 (p := 4) (u := 5) (ty := 29) rfl _ _ k 29 z21 _ rfl ((hcut.out.2.2.1.ext E6.out).setRow z21) uCone rfl iCone) rfl ⟨rfl, ext_row (hcut.out.2.2.2.trans E6.out) hWk _⟩
         · simp only [h3, decide_false]
           go_wp2_with (first
             | (refine wl_load (by kernel_rfl) rfl rfl fz ?_)
             | (refine wl_store (by kernel_rfl) rfl rfl rfl sz1 ?_))
           exact bodyPost_ret (res_row2 (p := 4) (u := 5) (ty := 29) rfl _ _ k 29 (coneC false L1 H1) _ rfl ((hcut.out.2.2.1.ext E6.out).setRow _) uCone rfl (by rw [iCone, szZ])) rfl ⟨by rw [show metP true true false false La Ha Lb Hb c1 c2 c3 = (coneC false L1 H1, true) from by simp [metP, h3, hL1, hH1]]; rfl, ext_row (hcut.out.2.2.2.trans E6.out) hWk _⟩
end
end Go.Proofs.YthlbkidgdngblaaGreat
