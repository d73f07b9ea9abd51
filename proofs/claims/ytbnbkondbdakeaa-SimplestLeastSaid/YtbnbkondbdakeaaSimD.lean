/- The program's package simplest: Simpler and Between. Conditions: the numbers fit. -/
import Derived.Test.YtbnbkondbdakeaaSimC
import Derived.Test.YtbnbkondbdakeaaDeclW
import Derived.Test.YtbnbkondbdakeaaBest
import Derived.Test.YtbnbkondbdakeaaL3A
import Derived.BigQuiet
namespace Go.Proofs.Ytbnbkondbdakeaa
set_option linter.unusedVariables false
set_option linter.unusedSimpArgs false
open Go Go.RowKit Go.Sort
attribute [local go_sem] qUpon putAll slotV
/-- A fraction is simpler than another one. -/
def simB (a b c d : Int) : Bool := decide (b < d ∨ b = d ∧ a.natAbs < c.natAbs)
theorem cmpI_lt {x y r : Int} (h : cmpI x y = r) : (r < 0 ↔ x < y) ∧ (r = 0 ↔ x = y) ∧ (0 < r ↔ y < x) := by
  rw [← h]; unfold cmpI; split <;> (try split) <;> omega
set_option maxRecDepth 100000 in
set_option maxHeartbeats 8000000 in
theorem s_simpler_no (s1 : Bool) (a1 b1 c1 d1 : Nat) (t1 : Bool) (e1 f1 g1 h1 : Nat) (n1 m1 : Int) (s2 : Bool) (a2 b2 c2 d2 : Nat) (t2 : Bool) (e2 f2 g2 h2 : Nat) (n2 m2 : Int) (w : World) (hx1 : IsW s1 a1 b1 c1 d1 n1) (hy1 : IsW t1 e1 f1 g1 h1 m1) (hx2 : IsW s2 a2 b2 c2 d2 n2) (hy2 : IsW t2 e2 f2 g2 h2 m2) (o1 o2 : Bool) (ho1 : decide (RatOk s1 n1 t1 m1) = o1) (ho2 : decide (RatOk s2 n2 t2 m2) = o2) (hno : (o1 && o2) = false) : Calls Try.prog 30 #[.agg #[.bool s1, .int .u64 (a1 : Int), .int .u64 (b1 : Int), .int .u64 (c1 : Int), .int .u64 (d1 : Int), .bool t1, .int .u64 (e1 : Int), .int .u64 (f1 : Int), .int .u64 (g1 : Int), .int .u64 (h1 : Int)], .agg #[.bool s2, .int .u64 (a2 : Int), .int .u64 (b2 : Int), .int .u64 (c2 : Int), .int .u64 (d2 : Int), .bool t2, .int .u64 (e2 : Int), .int .u64 (f2 : Int), .int .u64 (g2 : Int), .int .u64 (h2 : Int)]] w (Ret (.bool false) w) := by
  have k1 : Hid (∀ w, Calls Try.prog 22 #[.agg #[.bool s1, .int .u64 (a1 : Int), .int .u64 (b1 : Int), .int .u64 (c1 : Int), .int .u64 (d1 : Int), .bool t1, .int .u64 (e1 : Int), .int .u64 (f1 : Int), .int .u64 (g1 : Int), .int .u64 (h1 : Int)]] w (Ret (.bool o1) w)) := fun w => r_valid _ _ _ _ _ _ _ _ _ _ n1 m1 w hx1 hy1 o1 ho1
  have k2 : Hid (∀ w, Calls Try.prog 22 #[.agg #[.bool s2, .int .u64 (a2 : Int), .int .u64 (b2 : Int), .int .u64 (c2 : Int), .int .u64 (d2 : Int), .bool t2, .int .u64 (e2 : Int), .int .u64 (f2 : Int), .int .u64 (g2 : Int), .int .u64 (h2 : Int)]] w (Ret (.bool o2) w)) := fun w => r_valid _ _ _ _ _ _ _ _ _ _ n2 m2 w hx2 hy2 o2 ho2
  obtain ⟨W, hW⟩ : ∃ W, W = ((w.alloc (.cells #[.bool s1, .int .u64 (a1 : Int), .int .u64 (b1 : Int), .int .u64 (c1 : Int), .int .u64 (d1 : Int), .bool t1, .int .u64 (e1 : Int), .int .u64 (f1 : Int), .int .u64 (g1 : Int), .int .u64 (h1 : Int)] 35)).alloc (.cells #[.bool s2, .int .u64 (a2 : Int), .int .u64 (b2 : Int), .int .u64 (c2 : Int), .int .u64 (d2 : Int), .bool t2, .int .u64 (e2 : Int), .int .u64 (f2 : Int), .int .u64 (g2 : Int), .int .u64 (h2 : Int)] 35)) := ⟨_, rfl⟩
  have H3 := two_blocks w (.cells #[.bool s1, .int .u64 (a1 : Int), .int .u64 (b1 : Int), .int .u64 (c1 : Int), .int .u64 (d1 : Int), .bool t1, .int .u64 (e1 : Int), .int .u64 (f1 : Int), .int .u64 (g1 : Int), .int .u64 (h1 : Int)] 35) (.cells #[.bool s2, .int .u64 (a2 : Int), .int .u64 (b2 : Int), .int .u64 (c2 : Int), .int .u64 (d2 : Int), .bool t2, .int .u64 (e2 : Int), .int .u64 (f2 : Int), .int .u64 (g2 : Int), .int .u64 (h2 : Int)] 35)
  rw [← hW] at H3
  have B0 : Box10 W w.heap.size s1 a1 b1 c1 d1 t1 e1 f1 g1 h1 := H3.1
  have B1 : Box10 W (w.heap.size + 1) s2 a2 b2 c2 d2 t2 e2 f2 g2 h2 := H3.2
  have EE : Ext w W := by rw [hW]; exact (ext_alloc _ _).trans (ext_alloc _ _)
  have HW := hide hW
  have hways : o1 = false ∨ (o1 = true ∧ o2 = false) := by cases o1 <;> cases o2 <;> simp at hno ⊢
  clear hW H3 ho1 ho2 hx1 hy1 hx2 hy2 hno
  obtain ⟨x0, x1, x2, x3, x4, x5, x6, x7, x8, x9, xf0, xf1, xf2, xf3, xf4, xf5, xf6, xf7, xf8, xf9⟩ := ten_cells B0
  obtain ⟨y0, y1, y2, y3, y4, y5, y6, y7, y8, y9, yf0, yf1, yf2, yf3, yf4, yf5, yf6, yf7, yf8, yf9⟩ := ten_cells B1
  go_enter Try.func30, Try.ntmps30
  go_upto_region 1 with fail
  rw [← HW.out]
  clear HW
  rcases hways with rfl | ⟨rfl, rfl⟩
  all_goals go_wp2_with (first
    | (go_at_call 22; (with_reducible refine (k1.out _).mono ?_); rintro e' w2 ⟨rfl, hE⟩; have B0 := B0.ext hE; have B1 := B1.ext hE; have EE := EE.trans hE; obtain ⟨y0, y1, y2, y3, y4, y5, y6, y7, y8, y9, yf0, yf1, yf2, yf3, yf4, yf5, yf6, yf7, yf8, yf9⟩ := ten_cells B1; clear hE)
    | (go_at_call 22; (with_reducible refine (k2.out _).mono ?_); rintro e' w3 ⟨rfl, hE⟩; have B0 := B0.ext hE; have B1 := B1.ext hE; have EE := EE.trans hE; obtain ⟨y0, y1, y2, y3, y4, y5, y6, y7, y8, y9, yf0, yf1, yf2, yf3, yf4, yf5, yf6, yf7, yf8, yf9⟩ := ten_cells B1; clear hE))
  all_goals go_ret
  all_goals exact ⟨rfl, EE⟩
set_option maxRecDepth 100000 in
set_option maxHeartbeats 8000000 in
theorem s_between_no (s1 : Bool) (a1 b1 c1 d1 : Nat) (t1 : Bool) (e1 f1 g1 h1 : Nat) (n1 m1 : Int) (s2 : Bool) (a2 b2 c2 d2 : Nat) (t2 : Bool) (e2 f2 g2 h2 : Nat) (n2 m2 : Int) (w : World) (hx1 : IsW s1 a1 b1 c1 d1 n1) (hy1 : IsW t1 e1 f1 g1 h1 m1) (hx2 : IsW s2 a2 b2 c2 d2 n2) (hy2 : IsW t2 e2 f2 g2 h2 m2) (o1 o2 : Bool) (ho1 : decide (RatOk s1 n1 t1 m1) = o1) (ho2 : decide (RatOk s2 n2 t2 m2) = o2) (hno : (o1 && o2) = false) : Calls Try.prog 27 #[.agg #[.bool s1, .int .u64 (a1 : Int), .int .u64 (b1 : Int), .int .u64 (c1 : Int), .int .u64 (d1 : Int), .bool t1, .int .u64 (e1 : Int), .int .u64 (f1 : Int), .int .u64 (g1 : Int), .int .u64 (h1 : Int)], .agg #[.bool s2, .int .u64 (a2 : Int), .int .u64 (b2 : Int), .int .u64 (c2 : Int), .int .u64 (d2 : Int), .bool t2, .int .u64 (e2 : Int), .int .u64 (f2 : Int), .int .u64 (g2 : Int), .int .u64 (h2 : Int)]] w (Ret (.tuple #[.agg #[.bool false, .int .u64 0, .int .u64 0, .int .u64 0, .int .u64 0, .bool false, .int .u64 0, .int .u64 0, .int .u64 0, .int .u64 0], .bool false]) w) := by
  have k1 : Hid (∀ w, Calls Try.prog 22 #[.agg #[.bool s1, .int .u64 (a1 : Int), .int .u64 (b1 : Int), .int .u64 (c1 : Int), .int .u64 (d1 : Int), .bool t1, .int .u64 (e1 : Int), .int .u64 (f1 : Int), .int .u64 (g1 : Int), .int .u64 (h1 : Int)]] w (Ret (.bool o1) w)) := fun w => r_valid _ _ _ _ _ _ _ _ _ _ n1 m1 w hx1 hy1 o1 ho1
  have k2 : Hid (∀ w, Calls Try.prog 22 #[.agg #[.bool s2, .int .u64 (a2 : Int), .int .u64 (b2 : Int), .int .u64 (c2 : Int), .int .u64 (d2 : Int), .bool t2, .int .u64 (e2 : Int), .int .u64 (f2 : Int), .int .u64 (g2 : Int), .int .u64 (h2 : Int)]] w (Ret (.bool o2) w)) := fun w => r_valid _ _ _ _ _ _ _ _ _ _ n2 m2 w hx2 hy2 o2 ho2
  obtain ⟨W, hW⟩ : ∃ W, W = (((w.alloc (.cells #[.bool s1, .int .u64 (a1 : Int), .int .u64 (b1 : Int), .int .u64 (c1 : Int), .int .u64 (d1 : Int), .bool t1, .int .u64 (e1 : Int), .int .u64 (f1 : Int), .int .u64 (g1 : Int), .int .u64 (h1 : Int)] 35)).alloc (.cells #[.bool s2, .int .u64 (a2 : Int), .int .u64 (b2 : Int), .int .u64 (c2 : Int), .int .u64 (d2 : Int), .bool t2, .int .u64 (e2 : Int), .int .u64 (f2 : Int), .int .u64 (g2 : Int), .int .u64 (h2 : Int)] 35)).alloc (.cells #[.bool false, .int .u64 0, .int .u64 0, .int .u64 0, .int .u64 0, .bool false, .int .u64 0, .int .u64 0, .int .u64 0, .int .u64 0] 35)) := ⟨_, rfl⟩
  have H3 := three_boxes w (.cells #[.bool s1, .int .u64 (a1 : Int), .int .u64 (b1 : Int), .int .u64 (c1 : Int), .int .u64 (d1 : Int), .bool t1, .int .u64 (e1 : Int), .int .u64 (f1 : Int), .int .u64 (g1 : Int), .int .u64 (h1 : Int)] 35) (.cells #[.bool s2, .int .u64 (a2 : Int), .int .u64 (b2 : Int), .int .u64 (c2 : Int), .int .u64 (d2 : Int), .bool t2, .int .u64 (e2 : Int), .int .u64 (f2 : Int), .int .u64 (g2 : Int), .int .u64 (h2 : Int)] 35) (.cells #[.bool false, .int .u64 0, .int .u64 0, .int .u64 0, .int .u64 0, .bool false, .int .u64 0, .int .u64 0, .int .u64 0, .int .u64 0] 35)
  rw [← hW] at H3
  have B0 : Box10 W w.heap.size s1 a1 b1 c1 d1 t1 e1 f1 g1 h1 := H3.1
  have B1 : Box10 W (w.heap.size + 1) s2 a2 b2 c2 d2 t2 e2 f2 g2 h2 := H3.2.1
  have B2 : Box10 W (w.heap.size + 1 + 1) false 0 0 0 0 false 0 0 0 0 := H3.2.2
  have EE : Ext w W := by rw [hW]; exact ((ext_alloc _ _).trans (ext_alloc _ _)).trans (ext_alloc _ _)
  have HW := hide hW
  have hways : o1 = false ∨ (o1 = true ∧ o2 = false) := by cases o1 <;> cases o2 <;> simp at hno ⊢
  clear hW H3 ho1 ho2 hx1 hy1 hx2 hy2 hno
  obtain ⟨x0, x1, x2, x3, x4, x5, x6, x7, x8, x9, xf0, xf1, xf2, xf3, xf4, xf5, xf6, xf7, xf8, xf9⟩ := ten_cells B0
  obtain ⟨y0, y1, y2, y3, y4, y5, y6, y7, y8, y9, yf0, yf1, yf2, yf3, yf4, yf5, yf6, yf7, yf8, yf9⟩ := ten_cells B1
  go_enter Try.func27, Try.ntmps27
  go_upto_region 1 with fail
  rw [← HW.out]
  clear HW
  rcases hways with rfl | ⟨rfl, rfl⟩
  all_goals go_wp2_with (first
    | (go_at_call 22; (with_reducible refine (k1.out _).mono ?_); rintro e' w2 ⟨rfl, hE⟩; have B0 := B0.ext hE; have B1 := B1.ext hE; have B2 := B2.ext hE; have EE := EE.trans hE; obtain ⟨y0, y1, y2, y3, y4, y5, y6, y7, y8, y9, yf0, yf1, yf2, yf3, yf4, yf5, yf6, yf7, yf8, yf9⟩ := ten_cells B1; obtain ⟨z0, z1, z2, z3, z4, z5, z6, z7, z8, z9, zf0, zf1, zf2, zf3, zf4, zf5, zf6, zf7, zf8, zf9⟩ := ten_cells B2; clear hE)
    | (go_at_call 22; (with_reducible refine (k2.out _).mono ?_); rintro e' w3 ⟨rfl, hE⟩; have B0 := B0.ext hE; have B1 := B1.ext hE; have B2 := B2.ext hE; have EE := EE.trans hE; obtain ⟨y0, y1, y2, y3, y4, y5, y6, y7, y8, y9, yf0, yf1, yf2, yf3, yf4, yf5, yf6, yf7, yf8, yf9⟩ := ten_cells B1; obtain ⟨z0, z1, z2, z3, z4, z5, z6, z7, z8, z9, zf0, zf1, zf2, zf3, zf4, zf5, zf6, zf7, zf8, zf9⟩ := ten_cells B2; clear hE))
  all_goals exact bodyPost_ret (v := .tuple #[.agg #[.bool false, .int .u64 0, .int .u64 0, .int .u64 0, .int .u64 0, .bool false, .int .u64 0, .int .u64 0, .int .u64 0, .int .u64 0], .bool false]) (by simp [results, Try.results27, go_sem, z0, z1, z2, z3, z4, z5, z6, z7, z8, z9]) rfl ⟨rfl, ext_ten EE (by omega) _ _ _ _ _ _ _ _ _ _⟩
set_option maxRecDepth 100000 in
set_option maxHeartbeats 8000000 in
theorem s_simpler {n1 m1 n2 m2 : Int} (h1 : Frac n1 m1) (h2 : Frac n2 m2) (o : Bool) (ho : simB n1 m1 n2 m2 = o) (w : World) : Calls Try.prog 30 #[.agg #[.bool (sg n1), .int .u64 (l0 n1 : Int), .int .u64 (l1 n1 : Int), .int .u64 (l2 n1 : Int), .int .u64 (l3 n1 : Int), .bool (sg m1), .int .u64 (l0 m1 : Int), .int .u64 (l1 m1 : Int), .int .u64 (l2 m1 : Int), .int .u64 (l3 m1 : Int)], .agg #[.bool (sg n2), .int .u64 (l0 n2 : Int), .int .u64 (l1 n2 : Int), .int .u64 (l2 n2 : Int), .int .u64 (l3 n2 : Int), .bool (sg m2), .int .u64 (l0 m2 : Int), .int .u64 (l1 m2 : Int), .int .u64 (l2 m2 : Int), .int .u64 (l3 m2 : Int)]] w (Ret (.bool o) w) := by
  have kV1 : Hid (∀ w, Calls Try.prog 22 #[.agg #[.bool (sg n1), .int .u64 (l0 n1 : Int), .int .u64 (l1 n1 : Int), .int .u64 (l2 n1 : Int), .int .u64 (l3 n1 : Int), .bool (sg m1), .int .u64 (l0 m1 : Int), .int .u64 (l1 m1 : Int), .int .u64 (l2 m1 : Int), .int .u64 (l3 m1 : Int)]] w (Ret (.bool true) w)) := fun w => g_valid h1 w
  have kV2 : Hid (∀ w, Calls Try.prog 22 #[.agg #[.bool (sg n2), .int .u64 (l0 n2 : Int), .int .u64 (l1 n2 : Int), .int .u64 (l2 n2 : Int), .int .u64 (l3 n2 : Int), .bool (sg m2), .int .u64 (l0 m2 : Int), .int .u64 (l1 m2 : Int), .int .u64 (l2 m2 : Int), .int .u64 (l3 m2 : Int)]] w (Ret (.bool true) w)) := fun w => g_valid h2 w
  by_cases he : m1 = m2
  · subst he
    obtain ⟨u, hu⟩ : ∃ u : Int, (n1.natAbs : Int) = u := ⟨_, rfl⟩
    obtain ⟨v, hv⟩ : ∃ v : Int, (n2.natAbs : Int) = v := ⟨_, rfl⟩
    obtain ⟨r, hr⟩ : ∃ r, cmpI u v = r := ⟨_, rfl⟩
    have hrl : decide (r < 0) = o := by
      rw [← ho]; unfold simB; rw [decide_eq_decide, (cmpI_lt hr).1, ← hu, ← hv]; omega
    have fu : F256 u := by rw [← hu]; exact h1.fn.abs
    have fv : F256 v := by rw [← hv]; exact h2.fn.abs
    have kA1 : Hid (∀ w, Calls Try.prog 83 #[.agg #[.bool (sg n1), .int .u64 (l0 n1 : Int), .int .u64 (l1 n1 : Int), .int .u64 (l2 n1 : Int), .int .u64 (l3 n1 : Int)]] w (Ret (.agg #[.bool (sg u), .int .u64 (l0 u : Int), .int .u64 (l1 u : Int), .int .u64 (l2 u : Int), .int .u64 (l3 u : Int)]) w)) := fun w => s_absolute h1.fn hu w
    have kA2 : Hid (∀ w, Calls Try.prog 83 #[.agg #[.bool (sg n2), .int .u64 (l0 n2 : Int), .int .u64 (l1 n2 : Int), .int .u64 (l2 n2 : Int), .int .u64 (l3 n2 : Int)]] w (Ret (.agg #[.bool (sg v), .int .u64 (l0 v : Int), .int .u64 (l1 v : Int), .int .u64 (l2 v : Int), .int .u64 (l3 v : Int)]) w)) := fun w => s_absolute h2.fn hv w
    have kC : Hid (∀ w, Calls Try.prog 82 #[.agg #[.bool (sg u), .int .u64 (l0 u : Int), .int .u64 (l1 u : Int), .int .u64 (l2 u : Int), .int .u64 (l3 u : Int)], .agg #[.bool (sg v), .int .u64 (l0 v : Int), .int .u64 (l1 v : Int), .int .u64 (l2 v : Int), .int .u64 (l3 v : Int)]] w (Ret (.int .i64 r) w)) := fun w => c_cmp fu fv hr w
    have qe := neWs m1
    clear ho hu hv hr fu fv h1 h2
    obtain ⟨W0, hW0⟩ : ∃ W0, W0 = ((w.alloc (.cells #[.bool (sg n1), .int .u64 (l0 n1 : Int), .int .u64 (l1 n1 : Int), .int .u64 (l2 n1 : Int), .int .u64 (l3 n1 : Int), .bool (sg m1), .int .u64 (l0 m1 : Int), .int .u64 (l1 m1 : Int), .int .u64 (l2 m1 : Int), .int .u64 (l3 m1 : Int)] 35)).alloc (.cells #[.bool (sg n2), .int .u64 (l0 n2 : Int), .int .u64 (l1 n2 : Int), .int .u64 (l2 n2 : Int), .int .u64 (l3 n2 : Int), .bool (sg m1), .int .u64 (l0 m1 : Int), .int .u64 (l1 m1 : Int), .int .u64 (l2 m1 : Int), .int .u64 (l3 m1 : Int)] 35)) := ⟨_, rfl⟩
    have H2 := two_blocks w (.cells #[.bool (sg n1), .int .u64 (l0 n1 : Int), .int .u64 (l1 n1 : Int), .int .u64 (l2 n1 : Int), .int .u64 (l3 n1 : Int), .bool (sg m1), .int .u64 (l0 m1 : Int), .int .u64 (l1 m1 : Int), .int .u64 (l2 m1 : Int), .int .u64 (l3 m1 : Int)] 35) (.cells #[.bool (sg n2), .int .u64 (l0 n2 : Int), .int .u64 (l1 n2 : Int), .int .u64 (l2 n2 : Int), .int .u64 (l3 n2 : Int), .bool (sg m1), .int .u64 (l0 m1 : Int), .int .u64 (l1 m1 : Int), .int .u64 (l2 m1 : Int), .int .u64 (l3 m1 : Int)] 35)
    have EE0 : Ext w W0 := by rw [hW0]; exact ((ext_alloc _ _).trans (ext_alloc _ _))
    rw [← hW0] at H2
    have EE := hide EE0
    have HW := hide hW0
    obtain ⟨P2, P3⟩ : Box10 W0 (w.heap.size) (sg n1) (l0 n1) (l1 n1) (l2 n1) (l3 n1) (sg m1) (l0 m1) (l1 m1) (l2 m1) (l3 m1) ∧ Box10 W0 ((w.heap.size + 1)) (sg n2) (l0 n2) (l1 n2) (l2 n2) (l3 n2) (sg m1) (l0 m1) (l1 m1) (l2 m1) (l3 m1) := H2
    clear hW0 EE0
    go_enter Try.func30, Try.ntmps30
    go_upto_region 1 with fail
    rw [← HW.out]
    clear HW
    have hg0 : w.heap.size ≤ w.heap.size := Nat.le_refl _
    obtain ⟨g0, hg⟩ : ∃ g, w.heap.size = g := ⟨_, rfl⟩
    rw [hg] at P2 P3 ⊢
    replace hg0 : w.heap.size ≤ g0 := Nat.le_of_eq hg
    clear hg
    obtain ⟨xP20, xP21, xP22, xP23, xP24, xP25, xP26, xP27, xP28, xP29, -⟩ := ten_cells P2; obtain ⟨xP30, xP31, xP32, xP33, xP34, xP35, xP36, xP37, xP38, xP39, -⟩ := ten_cells P3
    go_upto_region 3 with (first
      | (go_at_call 22; (with_reducible refine (kV1.out _).mono ?_); rintro e w1 ⟨rfl, hE⟩; clear xP20 xP21 xP22 xP23 xP24 xP25 xP26 xP27 xP28 xP29 xP30 xP31 xP32 xP33 xP34 xP35 xP36 xP37 xP38 xP39; have P2 := P2.ext hE; have P3 := P3.ext hE; have EE := hide (EE.out.trans hE); clear hE; obtain ⟨xP20, xP21, xP22, xP23, xP24, xP25, xP26, xP27, xP28, xP29, -⟩ := ten_cells P2; obtain ⟨xP30, xP31, xP32, xP33, xP34, xP35, xP36, xP37, xP38, xP39, -⟩ := ten_cells P3)
      | (go_at_call 22; (with_reducible refine (kV2.out _).mono ?_); rintro e w2 ⟨rfl, hE⟩; clear xP20 xP21 xP22 xP23 xP24 xP25 xP26 xP27 xP28 xP29 xP30 xP31 xP32 xP33 xP34 xP35 xP36 xP37 xP38 xP39; have P2 := P2.ext hE; have P3 := P3.ext hE; have EE := hide (EE.out.trans hE); clear hE; obtain ⟨xP20, xP21, xP22, xP23, xP24, xP25, xP26, xP27, xP28, xP29, -⟩ := ten_cells P2; obtain ⟨xP30, xP31, xP32, xP33, xP34, xP35, xP36, xP37, xP38, xP39, -⟩ := ten_cells P3))
    clear xP20 xP21 xP22 xP23 xP24 xP25 xP26 xP27 xP28 xP29 xP30 xP31 xP32 xP33 xP34 xP35 xP36 xP37 xP38 xP39
    obtain ⟨xP20, xP21, xP22, xP23, xP24, xP25, xP26, xP27, xP28, xP29, -⟩ := ten_cells P2; obtain ⟨xP30, xP31, xP32, xP33, xP34, xP35, xP36, xP37, xP38, xP39, -⟩ := ten_cells P3
    go_upto_region 5 with fail
    clear xP20 xP21 xP22 xP23 xP24 xP25 xP26 xP27 xP28 xP29 xP30 xP31 xP32 xP33 xP34 xP35 xP36 xP37 xP38 xP39
    clear qe
    obtain ⟨yP20, yP21, yP22, yP23, yP24, yP25, yP26, yP27, yP28, yP29, yP2f0, yP2f1, yP2f2, yP2f3, yP2f4, yP2f5, yP2f6, yP2f7, yP2f8, yP2f9⟩ := ten_cells P2
    clear yP2f0 yP2f1 yP2f2 yP2f3 yP2f4 yP2f5 yP2f6 yP2f7 yP2f8 yP2f9
    replace yP20 := cellR yP20
    replace yP21 := cellR yP21
    replace yP22 := cellR yP22
    replace yP23 := cellR yP23
    replace yP24 := cellR yP24
    replace yP25 := cellR yP25
    replace yP26 := cellR yP26
    replace yP27 := cellR yP27
    replace yP28 := cellR yP28
    replace yP29 := cellR yP29
    obtain ⟨yP30, yP31, yP32, yP33, yP34, yP35, yP36, yP37, yP38, yP39, yP3f0, yP3f1, yP3f2, yP3f3, yP3f4, yP3f5, yP3f6, yP3f7, yP3f8, yP3f9⟩ := ten_cells P3
    clear yP3f0 yP3f1 yP3f2 yP3f3 yP3f4 yP3f5 yP3f6 yP3f7 yP3f8 yP3f9
    replace yP30 := cellR yP30
    replace yP31 := cellR yP31
    replace yP32 := cellR yP32
    replace yP33 := cellR yP33
    replace yP34 := cellR yP34
    replace yP35 := cellR yP35
    replace yP36 := cellR yP36
    replace yP37 := cellR yP37
    replace yP38 := cellR yP38
    replace yP39 := cellR yP39
    refine wp_region_quiet_below (by kernel_rfl) (by kernel_rfl) ?_
    repeat (first | go_big_quiet_step (first | with_reducible exact quiet_ret (kA1.out _) | with_reducible exact quiet_ret (kA2.out _) | with_reducible exact quiet_ret (kC.out _)) | quiet_step (first | with_reducible exact quiet_ret (kA1.out _) | with_reducible exact quiet_ret (kA2.out _) | with_reducible exact quiet_ret (kC.out _)))
    refine wpQuiet_nil ?_
    intro _ hw'
    obtain ⟨⟨dq, osq⟩, hw''⟩ := hw'
    subst hw''
    clear yP20 yP21 yP22 yP23 yP24 yP25 yP26 yP27 yP28 yP29 yP30 yP31 yP32 yP33 yP34 yP35 yP36 yP37 yP38 yP39
    have hE := ext_regrown w2 dq osq
    have P2 := P2.ext hE
    have P3 := P3.ext hE
    have EE := hide (EE.out.trans hE)
    clear hE
    generalize grow (redrawn w2 dq) osq = w2q at *
    go_wp2_with fail
    go_ret
    exact ⟨by first | rfl | rw [hrl], EE.out⟩
  · obtain ⟨r, hr⟩ : ∃ r, cmpI m1 m2 = r := ⟨_, rfl⟩
    have hrl : decide (r < 0) = o := by
      rw [← ho]; unfold simB; rw [decide_eq_decide, (cmpI_lt hr).1]; omega
    have kC : Hid (∀ w, Calls Try.prog 82 #[.agg #[.bool (sg m1), .int .u64 (l0 m1 : Int), .int .u64 (l1 m1 : Int), .int .u64 (l2 m1 : Int), .int .u64 (l3 m1 : Int)], .agg #[.bool (sg m2), .int .u64 (l0 m2 : Int), .int .u64 (l1 m2 : Int), .int .u64 (l2 m2 : Int), .int .u64 (l3 m2 : Int)]] w (Ret (.int .i64 r) w)) := fun w => c_cmp h1.fd h2.fd hr w
    have qe := neWW h1.fd h2.fd
    rw [decide_eq_true he] at qe
    clear ho hr h1 h2 he
    obtain ⟨W0, hW0⟩ : ∃ W0, W0 = ((w.alloc (.cells #[.bool (sg n1), .int .u64 (l0 n1 : Int), .int .u64 (l1 n1 : Int), .int .u64 (l2 n1 : Int), .int .u64 (l3 n1 : Int), .bool (sg m1), .int .u64 (l0 m1 : Int), .int .u64 (l1 m1 : Int), .int .u64 (l2 m1 : Int), .int .u64 (l3 m1 : Int)] 35)).alloc (.cells #[.bool (sg n2), .int .u64 (l0 n2 : Int), .int .u64 (l1 n2 : Int), .int .u64 (l2 n2 : Int), .int .u64 (l3 n2 : Int), .bool (sg m2), .int .u64 (l0 m2 : Int), .int .u64 (l1 m2 : Int), .int .u64 (l2 m2 : Int), .int .u64 (l3 m2 : Int)] 35)) := ⟨_, rfl⟩
    have H2 := two_blocks w (.cells #[.bool (sg n1), .int .u64 (l0 n1 : Int), .int .u64 (l1 n1 : Int), .int .u64 (l2 n1 : Int), .int .u64 (l3 n1 : Int), .bool (sg m1), .int .u64 (l0 m1 : Int), .int .u64 (l1 m1 : Int), .int .u64 (l2 m1 : Int), .int .u64 (l3 m1 : Int)] 35) (.cells #[.bool (sg n2), .int .u64 (l0 n2 : Int), .int .u64 (l1 n2 : Int), .int .u64 (l2 n2 : Int), .int .u64 (l3 n2 : Int), .bool (sg m2), .int .u64 (l0 m2 : Int), .int .u64 (l1 m2 : Int), .int .u64 (l2 m2 : Int), .int .u64 (l3 m2 : Int)] 35)
    have EE0 : Ext w W0 := by rw [hW0]; exact ((ext_alloc _ _).trans (ext_alloc _ _))
    rw [← hW0] at H2
    have EE := hide EE0
    have HW := hide hW0
    obtain ⟨P2, P3⟩ : Box10 W0 (w.heap.size) (sg n1) (l0 n1) (l1 n1) (l2 n1) (l3 n1) (sg m1) (l0 m1) (l1 m1) (l2 m1) (l3 m1) ∧ Box10 W0 ((w.heap.size + 1)) (sg n2) (l0 n2) (l1 n2) (l2 n2) (l3 n2) (sg m2) (l0 m2) (l1 m2) (l2 m2) (l3 m2) := H2
    clear hW0 EE0
    go_enter Try.func30, Try.ntmps30
    go_upto_region 1 with fail
    rw [← HW.out]
    clear HW
    have hg0 : w.heap.size ≤ w.heap.size := Nat.le_refl _
    obtain ⟨g0, hg⟩ : ∃ g, w.heap.size = g := ⟨_, rfl⟩
    rw [hg] at P2 P3 ⊢
    replace hg0 : w.heap.size ≤ g0 := Nat.le_of_eq hg
    clear hg
    obtain ⟨xP20, xP21, xP22, xP23, xP24, xP25, xP26, xP27, xP28, xP29, -⟩ := ten_cells P2; obtain ⟨xP30, xP31, xP32, xP33, xP34, xP35, xP36, xP37, xP38, xP39, -⟩ := ten_cells P3
    go_upto_region 3 with (first
      | (go_at_call 22; (with_reducible refine (kV1.out _).mono ?_); rintro e w1 ⟨rfl, hE⟩; clear xP20 xP21 xP22 xP23 xP24 xP25 xP26 xP27 xP28 xP29 xP30 xP31 xP32 xP33 xP34 xP35 xP36 xP37 xP38 xP39; have P2 := P2.ext hE; have P3 := P3.ext hE; have EE := hide (EE.out.trans hE); clear hE; obtain ⟨xP20, xP21, xP22, xP23, xP24, xP25, xP26, xP27, xP28, xP29, -⟩ := ten_cells P2; obtain ⟨xP30, xP31, xP32, xP33, xP34, xP35, xP36, xP37, xP38, xP39, -⟩ := ten_cells P3)
      | (go_at_call 22; (with_reducible refine (kV2.out _).mono ?_); rintro e w2 ⟨rfl, hE⟩; clear xP20 xP21 xP22 xP23 xP24 xP25 xP26 xP27 xP28 xP29 xP30 xP31 xP32 xP33 xP34 xP35 xP36 xP37 xP38 xP39; have P2 := P2.ext hE; have P3 := P3.ext hE; have EE := hide (EE.out.trans hE); clear hE; obtain ⟨xP20, xP21, xP22, xP23, xP24, xP25, xP26, xP27, xP28, xP29, -⟩ := ten_cells P2; obtain ⟨xP30, xP31, xP32, xP33, xP34, xP35, xP36, xP37, xP38, xP39, -⟩ := ten_cells P3))
    clear xP20 xP21 xP22 xP23 xP24 xP25 xP26 xP27 xP28 xP29 xP30 xP31 xP32 xP33 xP34 xP35 xP36 xP37 xP38 xP39
    obtain ⟨xP20, xP21, xP22, xP23, xP24, xP25, xP26, xP27, xP28, xP29, -⟩ := ten_cells P2; obtain ⟨xP30, xP31, xP32, xP33, xP34, xP35, xP36, xP37, xP38, xP39, -⟩ := ten_cells P3
    go_upto_region 4 with fail
    clear xP20 xP21 xP22 xP23 xP24 xP25 xP26 xP27 xP28 xP29 xP30 xP31 xP32 xP33 xP34 xP35 xP36 xP37 xP38 xP39
    clear qe
    obtain ⟨xP20, xP21, xP22, xP23, xP24, xP25, xP26, xP27, xP28, xP29, -⟩ := ten_cells P2; obtain ⟨xP30, xP31, xP32, xP33, xP34, xP35, xP36, xP37, xP38, xP39, -⟩ := ten_cells P3
    go_wp2_with (first
      | (go_at_call 82; (with_reducible refine (kC.out _).mono ?_); rintro e w3 ⟨rfl, hE⟩; clear xP20 xP21 xP22 xP23 xP24 xP25 xP26 xP27 xP28 xP29 xP30 xP31 xP32 xP33 xP34 xP35 xP36 xP37 xP38 xP39; have P2 := P2.ext hE; have P3 := P3.ext hE; have EE := hide (EE.out.trans hE); clear hE; obtain ⟨xP20, xP21, xP22, xP23, xP24, xP25, xP26, xP27, xP28, xP29, -⟩ := ten_cells P2; obtain ⟨xP30, xP31, xP32, xP33, xP34, xP35, xP36, xP37, xP38, xP39, -⟩ := ten_cells P3))
    go_ret
    exact ⟨by first | rfl | rw [hrl], EE.out⟩
set_option maxRecDepth 100000 in
set_option maxHeartbeats 8000000 in
theorem s_between_gt {n1 m1 n2 m2 : Int} (h1 : Frac n1 m1) (h2 : Frac n2 m2) (hgt : n2 * m1 < n1 * m2) (w : World) : Calls Try.prog 27 #[.agg #[.bool (sg n1), .int .u64 (l0 n1 : Int), .int .u64 (l1 n1 : Int), .int .u64 (l2 n1 : Int), .int .u64 (l3 n1 : Int), .bool (sg m1), .int .u64 (l0 m1 : Int), .int .u64 (l1 m1 : Int), .int .u64 (l2 m1 : Int), .int .u64 (l3 m1 : Int)], .agg #[.bool (sg n2), .int .u64 (l0 n2 : Int), .int .u64 (l1 n2 : Int), .int .u64 (l2 n2 : Int), .int .u64 (l3 n2 : Int), .bool (sg m2), .int .u64 (l0 m2 : Int), .int .u64 (l1 m2 : Int), .int .u64 (l2 m2 : Int), .int .u64 (l3 m2 : Int)]] w (Ret (.tuple #[.agg #[.bool false, .int .u64 0, .int .u64 0, .int .u64 0, .int .u64 0, .bool false, .int .u64 0, .int .u64 0, .int .u64 0, .int .u64 0], .bool false]) w) := by
  have kV1 : Hid (∀ w, Calls Try.prog 22 #[.agg #[.bool (sg n1), .int .u64 (l0 n1 : Int), .int .u64 (l1 n1 : Int), .int .u64 (l2 n1 : Int), .int .u64 (l3 n1 : Int), .bool (sg m1), .int .u64 (l0 m1 : Int), .int .u64 (l1 m1 : Int), .int .u64 (l2 m1 : Int), .int .u64 (l3 m1 : Int)]] w (Ret (.bool true) w)) := fun w => g_valid h1 w
  have kV2 : Hid (∀ w, Calls Try.prog 22 #[.agg #[.bool (sg n2), .int .u64 (l0 n2 : Int), .int .u64 (l1 n2 : Int), .int .u64 (l2 n2 : Int), .int .u64 (l3 n2 : Int), .bool (sg m2), .int .u64 (l0 m2 : Int), .int .u64 (l1 m2 : Int), .int .u64 (l2 m2 : Int), .int .u64 (l3 m2 : Int)]] w (Ret (.bool true) w)) := fun w => g_valid h2 w
  have kC : Hid (∀ w, Calls Try.prog 75 #[.agg #[.bool (sg n1), .int .u64 (l0 n1 : Int), .int .u64 (l1 n1 : Int), .int .u64 (l2 n1 : Int), .int .u64 (l3 n1 : Int), .bool (sg m1), .int .u64 (l0 m1 : Int), .int .u64 (l1 m1 : Int), .int .u64 (l2 m1 : Int), .int .u64 (l3 m1 : Int)], .agg #[.bool (sg n2), .int .u64 (l0 n2 : Int), .int .u64 (l1 n2 : Int), .int .u64 (l2 n2 : Int), .int .u64 (l3 n2 : Int), .bool (sg m2), .int .u64 (l0 m2 : Int), .int .u64 (l1 m2 : Int), .int .u64 (l2 m2 : Int), .int .u64 (l3 m2 : Int)]] w (Ret (.int .i64 1) w)) := fun w => g_cmp h1 h2 (by unfold cmpI; split <;> (try split) <;> omega) w
  clear h1 h2 hgt
  obtain ⟨W0, hW0⟩ : ∃ W0, W0 = (((w.alloc (.cells #[.bool (sg n1), .int .u64 (l0 n1 : Int), .int .u64 (l1 n1 : Int), .int .u64 (l2 n1 : Int), .int .u64 (l3 n1 : Int), .bool (sg m1), .int .u64 (l0 m1 : Int), .int .u64 (l1 m1 : Int), .int .u64 (l2 m1 : Int), .int .u64 (l3 m1 : Int)] 35)).alloc (.cells #[.bool (sg n2), .int .u64 (l0 n2 : Int), .int .u64 (l1 n2 : Int), .int .u64 (l2 n2 : Int), .int .u64 (l3 n2 : Int), .bool (sg m2), .int .u64 (l0 m2 : Int), .int .u64 (l1 m2 : Int), .int .u64 (l2 m2 : Int), .int .u64 (l3 m2 : Int)] 35)).alloc (.cells #[.bool false, .int .u64 0, .int .u64 0, .int .u64 0, .int .u64 0, .bool false, .int .u64 0, .int .u64 0, .int .u64 0, .int .u64 0] 35)) := ⟨_, rfl⟩
  have H2 := three_boxes w (.cells #[.bool (sg n1), .int .u64 (l0 n1 : Int), .int .u64 (l1 n1 : Int), .int .u64 (l2 n1 : Int), .int .u64 (l3 n1 : Int), .bool (sg m1), .int .u64 (l0 m1 : Int), .int .u64 (l1 m1 : Int), .int .u64 (l2 m1 : Int), .int .u64 (l3 m1 : Int)] 35) (.cells #[.bool (sg n2), .int .u64 (l0 n2 : Int), .int .u64 (l1 n2 : Int), .int .u64 (l2 n2 : Int), .int .u64 (l3 n2 : Int), .bool (sg m2), .int .u64 (l0 m2 : Int), .int .u64 (l1 m2 : Int), .int .u64 (l2 m2 : Int), .int .u64 (l3 m2 : Int)] 35) (.cells #[.bool false, .int .u64 0, .int .u64 0, .int .u64 0, .int .u64 0, .bool false, .int .u64 0, .int .u64 0, .int .u64 0, .int .u64 0] 35)
  have EE0 : Ext w W0 := by rw [hW0]; exact (((ext_alloc _ _).trans (ext_alloc _ _)).trans (ext_alloc _ _))
  rw [← hW0] at H2
  have EE := hide EE0
  have HW := hide hW0
  obtain ⟨P2, P3, P4⟩ : Box10 W0 (w.heap.size) (sg n1) (l0 n1) (l1 n1) (l2 n1) (l3 n1) (sg m1) (l0 m1) (l1 m1) (l2 m1) (l3 m1) ∧ Box10 W0 ((w.heap.size + 1)) (sg n2) (l0 n2) (l1 n2) (l2 n2) (l3 n2) (sg m2) (l0 m2) (l1 m2) (l2 m2) (l3 m2) ∧ Box10 W0 ((w.heap.size + 1 + 1)) false 0 0 0 0 false 0 0 0 0 := H2
  clear hW0 EE0
  go_enter Try.func27, Try.ntmps27
  go_upto_region 1 with fail
  rw [← HW.out]
  clear HW
  have hg0 : w.heap.size ≤ w.heap.size := Nat.le_refl _
  obtain ⟨g0, hg⟩ : ∃ g, w.heap.size = g := ⟨_, rfl⟩
  rw [hg] at P2 P3 P4 ⊢
  replace hg0 : w.heap.size ≤ g0 := Nat.le_of_eq hg
  clear hg
  obtain ⟨xP20, xP21, xP22, xP23, xP24, xP25, xP26, xP27, xP28, xP29, -⟩ := ten_cells P2; obtain ⟨xP30, xP31, xP32, xP33, xP34, xP35, xP36, xP37, xP38, xP39, -⟩ := ten_cells P3; obtain ⟨xP40, xP41, xP42, xP43, xP44, xP45, xP46, xP47, xP48, xP49, xP4f0, xP4f1, xP4f2, xP4f3, xP4f4, xP4f5, xP4f6, xP4f7, xP4f8, xP4f9⟩ := ten_cells P4
  go_wp2_with (first
    | (go_at_call 22; (with_reducible refine (kV1.out _).mono ?_); rintro e w1 ⟨rfl, hE⟩; clear xP20 xP21 xP22 xP23 xP24 xP25 xP26 xP27 xP28 xP29 xP30 xP31 xP32 xP33 xP34 xP35 xP36 xP37 xP38 xP39; clear xP40 xP41 xP42 xP43 xP44 xP45 xP46 xP47 xP48 xP49 xP4f0 xP4f1 xP4f2 xP4f3 xP4f4 xP4f5 xP4f6 xP4f7 xP4f8 xP4f9; have P2 := P2.ext hE; have P3 := P3.ext hE; have P4 := P4.ext hE; have EE := hide (EE.out.trans hE); clear hE; obtain ⟨xP20, xP21, xP22, xP23, xP24, xP25, xP26, xP27, xP28, xP29, -⟩ := ten_cells P2; obtain ⟨xP30, xP31, xP32, xP33, xP34, xP35, xP36, xP37, xP38, xP39, -⟩ := ten_cells P3; obtain ⟨xP40, xP41, xP42, xP43, xP44, xP45, xP46, xP47, xP48, xP49, xP4f0, xP4f1, xP4f2, xP4f3, xP4f4, xP4f5, xP4f6, xP4f7, xP4f8, xP4f9⟩ := ten_cells P4)
    | (go_at_call 22; (with_reducible refine (kV2.out _).mono ?_); rintro e w2 ⟨rfl, hE⟩; clear xP20 xP21 xP22 xP23 xP24 xP25 xP26 xP27 xP28 xP29 xP30 xP31 xP32 xP33 xP34 xP35 xP36 xP37 xP38 xP39; clear xP40 xP41 xP42 xP43 xP44 xP45 xP46 xP47 xP48 xP49 xP4f0 xP4f1 xP4f2 xP4f3 xP4f4 xP4f5 xP4f6 xP4f7 xP4f8 xP4f9; have P2 := P2.ext hE; have P3 := P3.ext hE; have P4 := P4.ext hE; have EE := hide (EE.out.trans hE); clear hE; obtain ⟨xP20, xP21, xP22, xP23, xP24, xP25, xP26, xP27, xP28, xP29, -⟩ := ten_cells P2; obtain ⟨xP30, xP31, xP32, xP33, xP34, xP35, xP36, xP37, xP38, xP39, -⟩ := ten_cells P3; obtain ⟨xP40, xP41, xP42, xP43, xP44, xP45, xP46, xP47, xP48, xP49, xP4f0, xP4f1, xP4f2, xP4f3, xP4f4, xP4f5, xP4f6, xP4f7, xP4f8, xP4f9⟩ := ten_cells P4)
    | (go_at_call 75; (with_reducible refine (kC.out _).mono ?_); rintro e w3 ⟨rfl, hE⟩; clear xP20 xP21 xP22 xP23 xP24 xP25 xP26 xP27 xP28 xP29 xP30 xP31 xP32 xP33 xP34 xP35 xP36 xP37 xP38 xP39; clear xP40 xP41 xP42 xP43 xP44 xP45 xP46 xP47 xP48 xP49 xP4f0 xP4f1 xP4f2 xP4f3 xP4f4 xP4f5 xP4f6 xP4f7 xP4f8 xP4f9; have P2 := P2.ext hE; have P3 := P3.ext hE; have P4 := P4.ext hE; have EE := hide (EE.out.trans hE); clear hE; obtain ⟨xP20, xP21, xP22, xP23, xP24, xP25, xP26, xP27, xP28, xP29, -⟩ := ten_cells P2; obtain ⟨xP30, xP31, xP32, xP33, xP34, xP35, xP36, xP37, xP38, xP39, -⟩ := ten_cells P3; obtain ⟨xP40, xP41, xP42, xP43, xP44, xP45, xP46, xP47, xP48, xP49, xP4f0, xP4f1, xP4f2, xP4f3, xP4f4, xP4f5, xP4f6, xP4f7, xP4f8, xP4f9⟩ := ten_cells P4))
  exact bodyPost_ret (v := .tuple #[.agg #[.bool false, .int .u64 0, .int .u64 0, .int .u64 0, .int .u64 0, .bool false, .int .u64 0, .int .u64 0, .int .u64 0, .int .u64 0], .bool false]) (by simp [results, Try.results27, go_sem, xP40, xP41, xP42, xP43, xP44, xP45, xP46, xP47, xP48, xP49]) rfl ⟨rfl, ext_ten EE.out (by omega) _ _ _ _ _ _ _ _ _ _⟩
set_option maxRecDepth 100000 in
set_option maxHeartbeats 8000000 in
theorem s_between {n1 m1 n2 m2 : Int} (h1 : Frac n1 m1) (h2 : Frac n2 m2) {n m : Int} (hle : n1 * m2 ≤ n2 * m1) (B : Best n1 m1 n2 m2 n m) (w : World) : Calls Try.prog 27 #[.agg #[.bool (sg n1), .int .u64 (l0 n1 : Int), .int .u64 (l1 n1 : Int), .int .u64 (l2 n1 : Int), .int .u64 (l3 n1 : Int), .bool (sg m1), .int .u64 (l0 m1 : Int), .int .u64 (l1 m1 : Int), .int .u64 (l2 m1 : Int), .int .u64 (l3 m1 : Int)], .agg #[.bool (sg n2), .int .u64 (l0 n2 : Int), .int .u64 (l1 n2 : Int), .int .u64 (l2 n2 : Int), .int .u64 (l3 n2 : Int), .bool (sg m2), .int .u64 (l0 m2 : Int), .int .u64 (l1 m2 : Int), .int .u64 (l2 m2 : Int), .int .u64 (l3 m2 : Int)]] w (Ret (.tuple #[.agg #[.bool (sg n), .int .u64 (l0 n : Int), .int .u64 (l1 n : Int), .int .u64 (l2 n : Int), .int .u64 (l3 n : Int), .bool (sg m), .int .u64 (l0 m : Int), .int .u64 (l1 m : Int), .int .u64 (l2 m : Int), .int .u64 (l3 m : Int)], .bool true]) w) := by
  obtain ⟨c, hc⟩ : ∃ r, cmpI (n1 * m2) (n2 * m1) = r := ⟨_, rfl⟩
  have hc0 : ¬ 0 < c := by rw [(cmpI_lt hc).2.2]; omega
  have kV1 : Hid (∀ w, Calls Try.prog 22 #[.agg #[.bool (sg n1), .int .u64 (l0 n1 : Int), .int .u64 (l1 n1 : Int), .int .u64 (l2 n1 : Int), .int .u64 (l3 n1 : Int), .bool (sg m1), .int .u64 (l0 m1 : Int), .int .u64 (l1 m1 : Int), .int .u64 (l2 m1 : Int), .int .u64 (l3 m1 : Int)]] w (Ret (.bool true) w)) := fun w => g_valid h1 w
  have kV2 : Hid (∀ w, Calls Try.prog 22 #[.agg #[.bool (sg n2), .int .u64 (l0 n2 : Int), .int .u64 (l1 n2 : Int), .int .u64 (l2 n2 : Int), .int .u64 (l3 n2 : Int), .bool (sg m2), .int .u64 (l0 m2 : Int), .int .u64 (l1 m2 : Int), .int .u64 (l2 m2 : Int), .int .u64 (l3 m2 : Int)]] w (Ret (.bool true) w)) := fun w => g_valid h2 w
  have kC : Hid (∀ w, Calls Try.prog 75 #[.agg #[.bool (sg n1), .int .u64 (l0 n1 : Int), .int .u64 (l1 n1 : Int), .int .u64 (l2 n1 : Int), .int .u64 (l3 n1 : Int), .bool (sg m1), .int .u64 (l0 m1 : Int), .int .u64 (l1 m1 : Int), .int .u64 (l2 m1 : Int), .int .u64 (l3 m1 : Int)], .agg #[.bool (sg n2), .int .u64 (l0 n2 : Int), .int .u64 (l1 n2 : Int), .int .u64 (l2 n2 : Int), .int .u64 (l3 n2 : Int), .bool (sg m2), .int .u64 (l0 m2 : Int), .int .u64 (l1 m2 : Int), .int .u64 (l2 m2 : Int), .int .u64 (l3 m2 : Int)]] w (Ret (.int .i64 c) w)) := fun w => g_cmp h1 h2 hc w
  clear hc
  by_cases hp : 0 < n1
  · have kS : Hid (∀ w, Calls Try.prog 62 #[.agg #[.bool (sg n1), .int .u64 (l0 n1 : Int), .int .u64 (l1 n1 : Int), .int .u64 (l2 n1 : Int), .int .u64 (l3 n1 : Int)]] w (Ret (.int .i64 1) w)) := fun w => c_sign h1.fn (Int.sign_eq_one_of_pos hp) w
    have kB : Hid (∀ w, Calls Try.prog 76 #[.agg #[.bool (sg n1), .int .u64 (l0 n1 : Int), .int .u64 (l1 n1 : Int), .int .u64 (l2 n1 : Int), .int .u64 (l3 n1 : Int), .bool (sg m1), .int .u64 (l0 m1 : Int), .int .u64 (l1 m1 : Int), .int .u64 (l2 m1 : Int), .int .u64 (l3 m1 : Int)], .agg #[.bool (sg n2), .int .u64 (l0 n2 : Int), .int .u64 (l1 n2 : Int), .int .u64 (l2 n2 : Int), .int .u64 (l3 n2 : Int), .bool (sg m2), .int .u64 (l0 m2 : Int), .int .u64 (l1 m2 : Int), .int .u64 (l2 m2 : Int), .int .u64 (l3 m2 : Int)]] w (Ret (.agg #[.bool (sg n), .int .u64 (l0 n : Int), .int .u64 (l1 n : Int), .int .u64 (l2 n : Int), .int .u64 (l3 n : Int), .bool (sg m), .int .u64 (l0 m : Int), .int .u64 (l1 m : Int), .int .u64 (l2 m : Int), .int .u64 (l3 m : Int)]) w)) := fun w => s_bp _ n1 m1 n2 m2 n m (Nat.lt_succ_self _) hp h1.1 h2.1 hle h1.2.1 h1.2.2.1 h2.2.1 h2.2.2.1 B w
    clear h1 h2 hle B hp
    obtain ⟨W0, hW0⟩ : ∃ W0, W0 = (((w.alloc (.cells #[.bool (sg n1), .int .u64 (l0 n1 : Int), .int .u64 (l1 n1 : Int), .int .u64 (l2 n1 : Int), .int .u64 (l3 n1 : Int), .bool (sg m1), .int .u64 (l0 m1 : Int), .int .u64 (l1 m1 : Int), .int .u64 (l2 m1 : Int), .int .u64 (l3 m1 : Int)] 35)).alloc (.cells #[.bool (sg n2), .int .u64 (l0 n2 : Int), .int .u64 (l1 n2 : Int), .int .u64 (l2 n2 : Int), .int .u64 (l3 n2 : Int), .bool (sg m2), .int .u64 (l0 m2 : Int), .int .u64 (l1 m2 : Int), .int .u64 (l2 m2 : Int), .int .u64 (l3 m2 : Int)] 35)).alloc (.cells #[.bool false, .int .u64 0, .int .u64 0, .int .u64 0, .int .u64 0, .bool false, .int .u64 0, .int .u64 0, .int .u64 0, .int .u64 0] 35)) := ⟨_, rfl⟩
    have H2 := three_boxes w (.cells #[.bool (sg n1), .int .u64 (l0 n1 : Int), .int .u64 (l1 n1 : Int), .int .u64 (l2 n1 : Int), .int .u64 (l3 n1 : Int), .bool (sg m1), .int .u64 (l0 m1 : Int), .int .u64 (l1 m1 : Int), .int .u64 (l2 m1 : Int), .int .u64 (l3 m1 : Int)] 35) (.cells #[.bool (sg n2), .int .u64 (l0 n2 : Int), .int .u64 (l1 n2 : Int), .int .u64 (l2 n2 : Int), .int .u64 (l3 n2 : Int), .bool (sg m2), .int .u64 (l0 m2 : Int), .int .u64 (l1 m2 : Int), .int .u64 (l2 m2 : Int), .int .u64 (l3 m2 : Int)] 35) (.cells #[.bool false, .int .u64 0, .int .u64 0, .int .u64 0, .int .u64 0, .bool false, .int .u64 0, .int .u64 0, .int .u64 0, .int .u64 0] 35)
    have EE0 : Ext w W0 := by rw [hW0]; exact (((ext_alloc _ _).trans (ext_alloc _ _)).trans (ext_alloc _ _))
    rw [← hW0] at H2
    have EE := hide EE0
    have HW := hide hW0
    obtain ⟨P2, P3, P4⟩ : Box10 W0 (w.heap.size) (sg n1) (l0 n1) (l1 n1) (l2 n1) (l3 n1) (sg m1) (l0 m1) (l1 m1) (l2 m1) (l3 m1) ∧ Box10 W0 ((w.heap.size + 1)) (sg n2) (l0 n2) (l1 n2) (l2 n2) (l3 n2) (sg m2) (l0 m2) (l1 m2) (l2 m2) (l3 m2) ∧ Box10 W0 ((w.heap.size + 1 + 1)) false 0 0 0 0 false 0 0 0 0 := H2
    clear hW0 EE0
    go_enter Try.func27, Try.ntmps27
    go_upto_region 1 with fail
    rw [← HW.out]
    clear HW
    have hg0 : w.heap.size ≤ w.heap.size := Nat.le_refl _
    obtain ⟨g0, hg⟩ : ∃ g, w.heap.size = g := ⟨_, rfl⟩
    rw [hg] at P2 P3 P4 ⊢
    replace hg0 : w.heap.size ≤ g0 := Nat.le_of_eq hg
    clear hg
    obtain ⟨xP20, xP21, xP22, xP23, xP24, xP25, xP26, xP27, xP28, xP29, -⟩ := ten_cells P2; obtain ⟨xP30, xP31, xP32, xP33, xP34, xP35, xP36, xP37, xP38, xP39, -⟩ := ten_cells P3; obtain ⟨xP40, xP41, xP42, xP43, xP44, xP45, xP46, xP47, xP48, xP49, xP4f0, xP4f1, xP4f2, xP4f3, xP4f4, xP4f5, xP4f6, xP4f7, xP4f8, xP4f9⟩ := ten_cells P4
    go_wp2_with (first
      | (go_at_call 22; (with_reducible refine (kV1.out _).mono ?_); rintro e w1 ⟨rfl, hE⟩; clear xP20 xP21 xP22 xP23 xP24 xP25 xP26 xP27 xP28 xP29 xP30 xP31 xP32 xP33 xP34 xP35 xP36 xP37 xP38 xP39; clear xP40 xP41 xP42 xP43 xP44 xP45 xP46 xP47 xP48 xP49 xP4f0 xP4f1 xP4f2 xP4f3 xP4f4 xP4f5 xP4f6 xP4f7 xP4f8 xP4f9; have P2 := P2.ext hE; have P3 := P3.ext hE; have P4 := P4.ext hE; have EE := hide (EE.out.trans hE); clear hE; obtain ⟨xP20, xP21, xP22, xP23, xP24, xP25, xP26, xP27, xP28, xP29, -⟩ := ten_cells P2; obtain ⟨xP30, xP31, xP32, xP33, xP34, xP35, xP36, xP37, xP38, xP39, -⟩ := ten_cells P3; obtain ⟨xP40, xP41, xP42, xP43, xP44, xP45, xP46, xP47, xP48, xP49, xP4f0, xP4f1, xP4f2, xP4f3, xP4f4, xP4f5, xP4f6, xP4f7, xP4f8, xP4f9⟩ := ten_cells P4)
      | (go_at_call 22; (with_reducible refine (kV2.out _).mono ?_); rintro e w2 ⟨rfl, hE⟩; clear xP20 xP21 xP22 xP23 xP24 xP25 xP26 xP27 xP28 xP29 xP30 xP31 xP32 xP33 xP34 xP35 xP36 xP37 xP38 xP39; clear xP40 xP41 xP42 xP43 xP44 xP45 xP46 xP47 xP48 xP49 xP4f0 xP4f1 xP4f2 xP4f3 xP4f4 xP4f5 xP4f6 xP4f7 xP4f8 xP4f9; have P2 := P2.ext hE; have P3 := P3.ext hE; have P4 := P4.ext hE; have EE := hide (EE.out.trans hE); clear hE; obtain ⟨xP20, xP21, xP22, xP23, xP24, xP25, xP26, xP27, xP28, xP29, -⟩ := ten_cells P2; obtain ⟨xP30, xP31, xP32, xP33, xP34, xP35, xP36, xP37, xP38, xP39, -⟩ := ten_cells P3; obtain ⟨xP40, xP41, xP42, xP43, xP44, xP45, xP46, xP47, xP48, xP49, xP4f0, xP4f1, xP4f2, xP4f3, xP4f4, xP4f5, xP4f6, xP4f7, xP4f8, xP4f9⟩ := ten_cells P4)
      | (go_at_call 75; (with_reducible refine (kC.out _).mono ?_); rintro e w3 ⟨rfl, hE⟩; clear xP20 xP21 xP22 xP23 xP24 xP25 xP26 xP27 xP28 xP29 xP30 xP31 xP32 xP33 xP34 xP35 xP36 xP37 xP38 xP39; clear xP40 xP41 xP42 xP43 xP44 xP45 xP46 xP47 xP48 xP49 xP4f0 xP4f1 xP4f2 xP4f3 xP4f4 xP4f5 xP4f6 xP4f7 xP4f8 xP4f9; have P2 := P2.ext hE; have P3 := P3.ext hE; have P4 := P4.ext hE; have EE := hide (EE.out.trans hE); clear hE; obtain ⟨xP20, xP21, xP22, xP23, xP24, xP25, xP26, xP27, xP28, xP29, -⟩ := ten_cells P2; obtain ⟨xP30, xP31, xP32, xP33, xP34, xP35, xP36, xP37, xP38, xP39, -⟩ := ten_cells P3; obtain ⟨xP40, xP41, xP42, xP43, xP44, xP45, xP46, xP47, xP48, xP49, xP4f0, xP4f1, xP4f2, xP4f3, xP4f4, xP4f5, xP4f6, xP4f7, xP4f8, xP4f9⟩ := ten_cells P4)
      | (go_at_call 62; (with_reducible refine (kS.out _).mono ?_); rintro e w4 ⟨rfl, hE⟩; clear xP20 xP21 xP22 xP23 xP24 xP25 xP26 xP27 xP28 xP29 xP30 xP31 xP32 xP33 xP34 xP35 xP36 xP37 xP38 xP39; clear xP40 xP41 xP42 xP43 xP44 xP45 xP46 xP47 xP48 xP49 xP4f0 xP4f1 xP4f2 xP4f3 xP4f4 xP4f5 xP4f6 xP4f7 xP4f8 xP4f9; have P2 := P2.ext hE; have P3 := P3.ext hE; have P4 := P4.ext hE; have EE := hide (EE.out.trans hE); clear hE; obtain ⟨xP20, xP21, xP22, xP23, xP24, xP25, xP26, xP27, xP28, xP29, -⟩ := ten_cells P2; obtain ⟨xP30, xP31, xP32, xP33, xP34, xP35, xP36, xP37, xP38, xP39, -⟩ := ten_cells P3; obtain ⟨xP40, xP41, xP42, xP43, xP44, xP45, xP46, xP47, xP48, xP49, xP4f0, xP4f1, xP4f2, xP4f3, xP4f4, xP4f5, xP4f6, xP4f7, xP4f8, xP4f9⟩ := ten_cells P4)
      | (go_at_call 76; (with_reducible refine (kB.out _).mono ?_); rintro e w5 ⟨rfl, hE⟩; clear xP20 xP21 xP22 xP23 xP24 xP25 xP26 xP27 xP28 xP29 xP30 xP31 xP32 xP33 xP34 xP35 xP36 xP37 xP38 xP39; clear xP40 xP41 xP42 xP43 xP44 xP45 xP46 xP47 xP48 xP49 xP4f0 xP4f1 xP4f2 xP4f3 xP4f4 xP4f5 xP4f6 xP4f7 xP4f8 xP4f9; have P2 := P2.ext hE; have P3 := P3.ext hE; have P4 := P4.ext hE; have EE := hide (EE.out.trans hE); clear hE; obtain ⟨xP20, xP21, xP22, xP23, xP24, xP25, xP26, xP27, xP28, xP29, -⟩ := ten_cells P2; obtain ⟨xP30, xP31, xP32, xP33, xP34, xP35, xP36, xP37, xP38, xP39, -⟩ := ten_cells P3; obtain ⟨xP40, xP41, xP42, xP43, xP44, xP45, xP46, xP47, xP48, xP49, xP4f0, xP4f1, xP4f2, xP4f3, xP4f4, xP4f5, xP4f6, xP4f7, xP4f8, xP4f9⟩ := ten_cells P4))
    exact bodyPost_ret (v := .tuple #[.agg #[.bool (sg n), .int .u64 (l0 n : Int), .int .u64 (l1 n : Int), .int .u64 (l2 n : Int), .int .u64 (l3 n : Int), .bool (sg m), .int .u64 (l0 m : Int), .int .u64 (l1 m : Int), .int .u64 (l2 m : Int), .int .u64 (l3 m : Int)], .bool true]) (by simp [results, Try.results27, go_sem, xP40, xP41, xP42, xP43, xP44, xP45, xP46, xP47, xP48, xP49]) rfl ⟨rfl, ext_ten EE.out (by omega) _ _ _ _ _ _ _ _ _ _⟩
  · obtain ⟨j, hj, j1, j2, _⟩ := some_sign n1
    have hj0 : ¬ 0 < j := fun q => hp (j2.1 q)
    have kS : Hid (∀ w, Calls Try.prog 62 #[.agg #[.bool (sg n1), .int .u64 (l0 n1 : Int), .int .u64 (l1 n1 : Int), .int .u64 (l2 n1 : Int), .int .u64 (l3 n1 : Int)]] w (Ret (.int .i64 j) w)) := fun w => c_sign h1.fn hj w
    clear hj j1 j2
    by_cases hq : n2 < 0
    · obtain ⟨u1, hu1⟩ : ∃ u : Int, -n1 = u := ⟨_, rfl⟩
      obtain ⟨u2, hu2⟩ : ∃ u : Int, -n2 = u := ⟨_, rfl⟩
      obtain ⟨u, hu⟩ : ∃ u : Int, -n = u := ⟨_, rfl⟩
      have hun : -u = n := by omega
      have B' := B.neg
      rw [hu1, hu2, hu] at B'
      have hl' : u2 * m1 ≤ u1 * m2 := by rw [← hu1, ← hu2, Int.neg_mul, Int.neg_mul]; omega
      have S := (B.small h1.1 h2.1 hle).1
      have fu : F256 u := F256.mk (by have := h1.2.1; omega)
      have kT : Hid (∀ w, Calls Try.prog 62 #[.agg #[.bool (sg n2), .int .u64 (l0 n2 : Int), .int .u64 (l1 n2 : Int), .int .u64 (l2 n2 : Int), .int .u64 (l3 n2 : Int)]] w (Ret (.int .i64 (-1)) w)) := fun w => c_sign h2.fn (Int.sign_eq_neg_one_of_neg hq) w
      have kN1 : Hid (∀ w, Calls Try.prog 77 #[.agg #[.bool (sg n1), .int .u64 (l0 n1 : Int), .int .u64 (l1 n1 : Int), .int .u64 (l2 n1 : Int), .int .u64 (l3 n1 : Int), .bool (sg m1), .int .u64 (l0 m1 : Int), .int .u64 (l1 m1 : Int), .int .u64 (l2 m1 : Int), .int .u64 (l3 m1 : Int)]] w (Ret (.agg #[.bool (sg u1), .int .u64 (l0 u1 : Int), .int .u64 (l1 u1 : Int), .int .u64 (l2 u1 : Int), .int .u64 (l3 u1 : Int), .bool (sg m1), .int .u64 (l0 m1 : Int), .int .u64 (l1 m1 : Int), .int .u64 (l2 m1 : Int), .int .u64 (l3 m1 : Int)]) w)) := fun w => s_negative h1.fn hu1 w
      have kN2 : Hid (∀ w, Calls Try.prog 77 #[.agg #[.bool (sg n2), .int .u64 (l0 n2 : Int), .int .u64 (l1 n2 : Int), .int .u64 (l2 n2 : Int), .int .u64 (l3 n2 : Int), .bool (sg m2), .int .u64 (l0 m2 : Int), .int .u64 (l1 m2 : Int), .int .u64 (l2 m2 : Int), .int .u64 (l3 m2 : Int)]] w (Ret (.agg #[.bool (sg u2), .int .u64 (l0 u2 : Int), .int .u64 (l1 u2 : Int), .int .u64 (l2 u2 : Int), .int .u64 (l3 u2 : Int), .bool (sg m2), .int .u64 (l0 m2 : Int), .int .u64 (l1 m2 : Int), .int .u64 (l2 m2 : Int), .int .u64 (l3 m2 : Int)]) w)) := fun w => s_negative h2.fn hu2 w
      have kB : Hid (∀ w, Calls Try.prog 76 #[.agg #[.bool (sg u2), .int .u64 (l0 u2 : Int), .int .u64 (l1 u2 : Int), .int .u64 (l2 u2 : Int), .int .u64 (l3 u2 : Int), .bool (sg m2), .int .u64 (l0 m2 : Int), .int .u64 (l1 m2 : Int), .int .u64 (l2 m2 : Int), .int .u64 (l3 m2 : Int)], .agg #[.bool (sg u1), .int .u64 (l0 u1 : Int), .int .u64 (l1 u1 : Int), .int .u64 (l2 u1 : Int), .int .u64 (l3 u1 : Int), .bool (sg m1), .int .u64 (l0 m1 : Int), .int .u64 (l1 m1 : Int), .int .u64 (l2 m1 : Int), .int .u64 (l3 m1 : Int)]] w (Ret (.agg #[.bool (sg u), .int .u64 (l0 u : Int), .int .u64 (l1 u : Int), .int .u64 (l2 u : Int), .int .u64 (l3 u : Int), .bool (sg m), .int .u64 (l0 m : Int), .int .u64 (l1 m : Int), .int .u64 (l2 m : Int), .int .u64 (l3 m : Int)]) w)) := fun w => s_bp _ u2 m2 u1 m1 u m (Nat.lt_succ_self _) (by omega) h2.1 h1.1 hl' (by have := h2.2.1; omega) h2.2.2.1 (by have := h1.2.1; omega) h1.2.2.1 B' w
      have kN : Hid (∀ w, Calls Try.prog 77 #[.agg #[.bool (sg u), .int .u64 (l0 u : Int), .int .u64 (l1 u : Int), .int .u64 (l2 u : Int), .int .u64 (l3 u : Int), .bool (sg m), .int .u64 (l0 m : Int), .int .u64 (l1 m : Int), .int .u64 (l2 m : Int), .int .u64 (l3 m : Int)]] w (Ret (.agg #[.bool (sg n), .int .u64 (l0 n : Int), .int .u64 (l1 n : Int), .int .u64 (l2 n : Int), .int .u64 (l3 n : Int), .bool (sg m), .int .u64 (l0 m : Int), .int .u64 (l1 m : Int), .int .u64 (l2 m : Int), .int .u64 (l3 m : Int)]) w)) := fun w => s_negative fu hun w
      clear h1 h2 hle B hp hq hu1 hu2 hu hun B' hl' S fu
      obtain ⟨W0, hW0⟩ : ∃ W0, W0 = (((w.alloc (.cells #[.bool (sg n1), .int .u64 (l0 n1 : Int), .int .u64 (l1 n1 : Int), .int .u64 (l2 n1 : Int), .int .u64 (l3 n1 : Int), .bool (sg m1), .int .u64 (l0 m1 : Int), .int .u64 (l1 m1 : Int), .int .u64 (l2 m1 : Int), .int .u64 (l3 m1 : Int)] 35)).alloc (.cells #[.bool (sg n2), .int .u64 (l0 n2 : Int), .int .u64 (l1 n2 : Int), .int .u64 (l2 n2 : Int), .int .u64 (l3 n2 : Int), .bool (sg m2), .int .u64 (l0 m2 : Int), .int .u64 (l1 m2 : Int), .int .u64 (l2 m2 : Int), .int .u64 (l3 m2 : Int)] 35)).alloc (.cells #[.bool false, .int .u64 0, .int .u64 0, .int .u64 0, .int .u64 0, .bool false, .int .u64 0, .int .u64 0, .int .u64 0, .int .u64 0] 35)) := ⟨_, rfl⟩
      have H2 := three_boxes w (.cells #[.bool (sg n1), .int .u64 (l0 n1 : Int), .int .u64 (l1 n1 : Int), .int .u64 (l2 n1 : Int), .int .u64 (l3 n1 : Int), .bool (sg m1), .int .u64 (l0 m1 : Int), .int .u64 (l1 m1 : Int), .int .u64 (l2 m1 : Int), .int .u64 (l3 m1 : Int)] 35) (.cells #[.bool (sg n2), .int .u64 (l0 n2 : Int), .int .u64 (l1 n2 : Int), .int .u64 (l2 n2 : Int), .int .u64 (l3 n2 : Int), .bool (sg m2), .int .u64 (l0 m2 : Int), .int .u64 (l1 m2 : Int), .int .u64 (l2 m2 : Int), .int .u64 (l3 m2 : Int)] 35) (.cells #[.bool false, .int .u64 0, .int .u64 0, .int .u64 0, .int .u64 0, .bool false, .int .u64 0, .int .u64 0, .int .u64 0, .int .u64 0] 35)
      have EE0 : Ext w W0 := by rw [hW0]; exact (((ext_alloc _ _).trans (ext_alloc _ _)).trans (ext_alloc _ _))
      rw [← hW0] at H2
      have EE := hide EE0
      have HW := hide hW0
      obtain ⟨P2, P3, P4⟩ : Box10 W0 (w.heap.size) (sg n1) (l0 n1) (l1 n1) (l2 n1) (l3 n1) (sg m1) (l0 m1) (l1 m1) (l2 m1) (l3 m1) ∧ Box10 W0 ((w.heap.size + 1)) (sg n2) (l0 n2) (l1 n2) (l2 n2) (l3 n2) (sg m2) (l0 m2) (l1 m2) (l2 m2) (l3 m2) ∧ Box10 W0 ((w.heap.size + 1 + 1)) false 0 0 0 0 false 0 0 0 0 := H2
      clear hW0 EE0
      go_enter Try.func27, Try.ntmps27
      go_upto_region 1 with fail
      rw [← HW.out]
      clear HW
      have hg0 : w.heap.size ≤ w.heap.size := Nat.le_refl _
      obtain ⟨g0, hg⟩ : ∃ g, w.heap.size = g := ⟨_, rfl⟩
      rw [hg] at P2 P3 P4 ⊢
      replace hg0 : w.heap.size ≤ g0 := Nat.le_of_eq hg
      clear hg
      obtain ⟨xP20, xP21, xP22, xP23, xP24, xP25, xP26, xP27, xP28, xP29, -⟩ := ten_cells P2; obtain ⟨xP30, xP31, xP32, xP33, xP34, xP35, xP36, xP37, xP38, xP39, -⟩ := ten_cells P3
      go_upto_region 3 with (first
        | (go_at_call 22; (with_reducible refine (kV1.out _).mono ?_); rintro e w1 ⟨rfl, hE⟩; clear xP20 xP21 xP22 xP23 xP24 xP25 xP26 xP27 xP28 xP29 xP30 xP31 xP32 xP33 xP34 xP35 xP36 xP37 xP38 xP39; have P2 := P2.ext hE; have P3 := P3.ext hE; have P4 := P4.ext hE; have EE := hide (EE.out.trans hE); clear hE; obtain ⟨xP20, xP21, xP22, xP23, xP24, xP25, xP26, xP27, xP28, xP29, -⟩ := ten_cells P2; obtain ⟨xP30, xP31, xP32, xP33, xP34, xP35, xP36, xP37, xP38, xP39, -⟩ := ten_cells P3)
        | (go_at_call 22; (with_reducible refine (kV2.out _).mono ?_); rintro e w2 ⟨rfl, hE⟩; clear xP20 xP21 xP22 xP23 xP24 xP25 xP26 xP27 xP28 xP29 xP30 xP31 xP32 xP33 xP34 xP35 xP36 xP37 xP38 xP39; have P2 := P2.ext hE; have P3 := P3.ext hE; have P4 := P4.ext hE; have EE := hide (EE.out.trans hE); clear hE; obtain ⟨xP20, xP21, xP22, xP23, xP24, xP25, xP26, xP27, xP28, xP29, -⟩ := ten_cells P2; obtain ⟨xP30, xP31, xP32, xP33, xP34, xP35, xP36, xP37, xP38, xP39, -⟩ := ten_cells P3)
        | (go_at_call 75; (with_reducible refine (kC.out _).mono ?_); rintro e w3 ⟨rfl, hE⟩; clear xP20 xP21 xP22 xP23 xP24 xP25 xP26 xP27 xP28 xP29 xP30 xP31 xP32 xP33 xP34 xP35 xP36 xP37 xP38 xP39; have P2 := P2.ext hE; have P3 := P3.ext hE; have P4 := P4.ext hE; have EE := hide (EE.out.trans hE); clear hE; obtain ⟨xP20, xP21, xP22, xP23, xP24, xP25, xP26, xP27, xP28, xP29, -⟩ := ten_cells P2; obtain ⟨xP30, xP31, xP32, xP33, xP34, xP35, xP36, xP37, xP38, xP39, -⟩ := ten_cells P3))
      clear xP20 xP21 xP22 xP23 xP24 xP25 xP26 xP27 xP28 xP29 xP30 xP31 xP32 xP33 xP34 xP35 xP36 xP37 xP38 xP39
      obtain ⟨xP20, xP21, xP22, xP23, xP24, xP25, xP26, xP27, xP28, xP29, -⟩ := ten_cells P2
      go_upto_region 5 with (go_at_call 62; (with_reducible refine (kS.out _).mono ?_); rintro e w4 ⟨rfl, hE⟩; clear xP20 xP21 xP22 xP23 xP24 xP25 xP26 xP27 xP28 xP29; have P2 := P2.ext hE; have P3 := P3.ext hE; have P4 := P4.ext hE; have EE := hide (EE.out.trans hE); clear hE; obtain ⟨xP20, xP21, xP22, xP23, xP24, xP25, xP26, xP27, xP28, xP29, -⟩ := ten_cells P2)
      clear xP20 xP21 xP22 xP23 xP24 xP25 xP26 xP27 xP28 xP29
      obtain ⟨xP30, xP31, xP32, xP33, xP34, xP35, xP36, xP37, xP38, xP39, -⟩ := ten_cells P3
      go_upto_region 6 with (go_at_call 62; (with_reducible refine (kT.out _).mono ?_); rintro e w5 ⟨rfl, hE⟩; clear xP30 xP31 xP32 xP33 xP34 xP35 xP36 xP37 xP38 xP39; have P2 := P2.ext hE; have P3 := P3.ext hE; have P4 := P4.ext hE; have EE := hide (EE.out.trans hE); clear hE; obtain ⟨xP30, xP31, xP32, xP33, xP34, xP35, xP36, xP37, xP38, xP39, -⟩ := ten_cells P3)
      clear xP30 xP31 xP32 xP33 xP34 xP35 xP36 xP37 xP38 xP39
      have lbP2 := P2.lt
      have lbP3 := P3.lt
      have lbP4 := P4.lt
      have ltW0 : ∀ c, Tag.so c ∈ [.q, .q, .q, .q, .q, .q, .so 0, .q] → (fun _ => g0 + 1 + 1) c < w5.heap.size := by intro c hc; simp at hc; (try subst hc); (try simp only); omega
      refine wp_decl [.q, .q, .q, .q, .q, .q, .so 0, .q] [.agg #[.bool (sg n2), .int .u64 (l0 n2 : Int), .int .u64 (l1 n2 : Int), .int .u64 (l2 n2 : Int), .int .u64 (l3 n2 : Int), .bool (sg m2), .int .u64 (l0 m2 : Int), .int .u64 (l1 m2 : Int), .int .u64 (l2 m2 : Int), .int .u64 (l3 m2 : Int)], .agg #[.bool (sg u2), .int .u64 (l0 u2 : Int), .int .u64 (l1 u2 : Int), .int .u64 (l2 u2 : Int), .int .u64 (l3 u2 : Int), .bool (sg m2), .int .u64 (l0 m2 : Int), .int .u64 (l1 m2 : Int), .int .u64 (l2 m2 : Int), .int .u64 (l3 m2 : Int)], .agg #[.bool (sg n1), .int .u64 (l0 n1 : Int), .int .u64 (l1 n1 : Int), .int .u64 (l2 n1 : Int), .int .u64 (l3 n1 : Int), .bool (sg m1), .int .u64 (l0 m1 : Int), .int .u64 (l1 m1 : Int), .int .u64 (l2 m1 : Int), .int .u64 (l3 m1 : Int)], .agg #[.bool (sg u1), .int .u64 (l0 u1 : Int), .int .u64 (l1 u1 : Int), .int .u64 (l2 u1 : Int), .int .u64 (l3 u1 : Int), .bool (sg m1), .int .u64 (l0 m1 : Int), .int .u64 (l1 m1 : Int), .int .u64 (l2 m1 : Int), .int .u64 (l3 m1 : Int)], .agg #[.bool (sg u), .int .u64 (l0 u : Int), .int .u64 (l1 u : Int), .int .u64 (l2 u : Int), .int .u64 (l3 u : Int), .bool (sg m), .int .u64 (l0 m : Int), .int .u64 (l1 m : Int), .int .u64 (l2 m : Int), .int .u64 (l3 m : Int)], .agg #[.bool (sg n), .int .u64 (l0 n : Int), .int .u64 (l1 n : Int), .int .u64 (l2 n : Int), .int .u64 (l3 n : Int), .bool (sg m), .int .u64 (l0 m : Int), .int .u64 (l1 m : Int), .int .u64 (l2 m : Int), .int .u64 (l3 m : Int)], undef, .bool true] (fun _ => (.cells #[.bool false, .int .u64 0, .int .u64 0, .int .u64 0, .int .u64 0] 25 (0, 0))) (fun _ => (.cells #[.bool (sg n), .int .u64 (l0 n : Int), .int .u64 (l1 n : Int), .int .u64 (l2 n : Int), .int .u64 (l3 n : Int), .bool (sg m), .int .u64 (l0 m : Int), .int .u64 (l1 m : Int), .int .u64 (l2 m : Int), .int .u64 (l3 m : Int)] 35 (0, 0))) (fun _ => g0 + 1 + 1) (by kernel_rfl) (by kernel_rfl) (by kernel_rfl) rfl rfl ltW0 (by intro c c' h1 h2 _; simp at h1 h2; omega) ?_ ?_
      · refine ⟨?_, ?_, ?_, ?_, ?_, ?_, ?_, ?_, trivial⟩
        · refine op_q ?uvn2 ?h1n2 ?h2n2 ?h3n2
          case h1n2 => exact rfl
          case uvn2 => exact (.agg #[.bool (sg n2), .int .u64 (l0 n2 : Int), .int .u64 (l1 n2 : Int), .int .u64 (l2 n2 : Int), .int .u64 (l3 n2 : Int), .bool (sg m2), .int .u64 (l0 m2 : Int), .int .u64 (l1 m2 : Int), .int .u64 (l2 m2 : Int), .int .u64 (l3 m2 : Int)])
          case h2n2 => exact rfl
          intro w' hw'
          have P3 := P3.same hw' (by intro c hc; simp at hc; (try subst hc); (try simp only); omega)
          have xP3 := ten_cells P3
          go_simp
        · refine op_q ?uvn3 ?h1n3 ?h2n3 ?h3n3
          case h1n3 => exact rfl
          case uvn3 => exact (.agg #[.bool (sg u2), .int .u64 (l0 u2 : Int), .int .u64 (l1 u2 : Int), .int .u64 (l2 u2 : Int), .int .u64 (l3 u2 : Int), .bool (sg m2), .int .u64 (l0 m2 : Int), .int .u64 (l1 m2 : Int), .int .u64 (l2 m2 : Int), .int .u64 (l3 m2 : Int)])
          case h2n3 => exact rfl
          intro w' hw'
          go_simp
          exact kN2.out w'
        · refine op_q ?uvn4 ?h1n4 ?h2n4 ?h3n4
          case h1n4 => exact rfl
          case uvn4 => exact (.agg #[.bool (sg n1), .int .u64 (l0 n1 : Int), .int .u64 (l1 n1 : Int), .int .u64 (l2 n1 : Int), .int .u64 (l3 n1 : Int), .bool (sg m1), .int .u64 (l0 m1 : Int), .int .u64 (l1 m1 : Int), .int .u64 (l2 m1 : Int), .int .u64 (l3 m1 : Int)])
          case h2n4 => exact rfl
          intro w' hw'
          have P2 := P2.same hw' (by intro c hc; simp at hc; (try subst hc); (try simp only); omega)
          have xP2 := ten_cells P2
          go_simp
        · refine op_q ?uvn5 ?h1n5 ?h2n5 ?h3n5
          case h1n5 => exact rfl
          case uvn5 => exact (.agg #[.bool (sg u1), .int .u64 (l0 u1 : Int), .int .u64 (l1 u1 : Int), .int .u64 (l2 u1 : Int), .int .u64 (l3 u1 : Int), .bool (sg m1), .int .u64 (l0 m1 : Int), .int .u64 (l1 m1 : Int), .int .u64 (l2 m1 : Int), .int .u64 (l3 m1 : Int)])
          case h2n5 => exact rfl
          intro w' hw'
          go_simp
          exact kN1.out w'
        · refine op_q ?uvn6 ?h1n6 ?h2n6 ?h3n6
          case h1n6 => exact rfl
          case uvn6 => exact (.agg #[.bool (sg u), .int .u64 (l0 u : Int), .int .u64 (l1 u : Int), .int .u64 (l2 u : Int), .int .u64 (l3 u : Int), .bool (sg m), .int .u64 (l0 m : Int), .int .u64 (l1 m : Int), .int .u64 (l2 m : Int), .int .u64 (l3 m : Int)])
          case h2n6 => exact rfl
          intro w' hw'
          go_simp
          exact kB.out w'
        · refine op_q ?uvn7 ?h1n7 ?h2n7 ?h3n7
          case h1n7 => exact rfl
          case uvn7 => exact (.agg #[.bool (sg n), .int .u64 (l0 n : Int), .int .u64 (l1 n : Int), .int .u64 (l2 n : Int), .int .u64 (l3 n : Int), .bool (sg m), .int .u64 (l0 m : Int), .int .u64 (l1 m : Int), .int .u64 (l2 m : Int), .int .u64 (l3 m : Int)])
          case h2n7 => exact rfl
          intro w' hw'
          go_simp
          exact kN.out w'
        · refine op_so (c := 0) (T := ?uTn8) (p := ?upn8) (x := ?uxn8) ?ugn8 ?ufn8 ?uvn8 ?h1n8 ?h2n8 ?h3n8 ?h4n8 ?h5n8 ?h6n8 ?h7n8
          case h1n8 => exact rfl
          case h2n8 => exact rfl
          case ufn8 => exact (.cells #[.bool (sg n), .int .u64 (l0 n : Int), .int .u64 (l1 n : Int), .int .u64 (l2 n : Int), .int .u64 (l3 n : Int), .bool (sg m), .int .u64 (l0 m : Int), .int .u64 (l1 m : Int), .int .u64 (l2 m : Int), .int .u64 (l3 m : Int)] 35 (0, 0))
          case ugn8 => exact g0 + 1 + 1
          case uvn8 => exact (.agg #[.bool (sg n), .int .u64 (l0 n : Int), .int .u64 (l1 n : Int), .int .u64 (l2 n : Int), .int .u64 (l3 n : Int), .bool (sg m), .int .u64 (l0 m : Int), .int .u64 (l1 m : Int), .int .u64 (l2 m : Int), .int .u64 (l3 m : Int)])
          case h3n8 => exact rfl
          case h4n8 => exact rfl
          case h5n8 => go_simp; rfl
          case h6n8 => go_simp
          intro ρ w' hp hx hz
          exact store_ratio rfl hp hx (hz.trans P4)
        · refine op_q ?uvn9 ?h1n9 ?h2n9 ?h3n9
          case h1n9 => exact rfl
          case uvn9 => exact (.bool true)
          case h2n9 => exact rfl
          intro w' hw'
          go_simp
      · intro G W6 hI
        have hS := hI.same
        have P2 := P2.same hS (by intro c hc; simp at hc; (try subst hc); (try simp only); omega)
        have P3 := P3.same hS (by intro c hc; simp at hc; (try subst hc); (try simp only); omega)
        have hso : ∀ c, Tag.so c ∈ [.q, .q, .q, .q, .q, .q, .so 0, .q] → w.heap.size ≤ (fun _ => g0 + 1 + 1) c := by intro c hc; simp at hc; (try subst hc); (try simp only); omega
        have EE := hide (hS.ext' EE.out hso)
        have P4 : Box10 W6 (g0 + 1 + 1) (sg n) (l0 n) (l1 n) (l2 n) (l3 n) (sg m) (l0 m) (l1 m) (l2 m) (l3 m) := hI.olds' 6 (List.mem_range.2 (show 6 < 8 by decide)) 0 rfl
        clear hI hS
        simp only [putAll, slotV, ptrTo, Nat.zero_add, Nat.reduceAdd]
        go_wp2_with fail
        obtain ⟨xP40, xP41, xP42, xP43, xP44, xP45, xP46, xP47, xP48, xP49, xP4f0, xP4f1, xP4f2, xP4f3, xP4f4, xP4f5, xP4f6, xP4f7, xP4f8, xP4f9⟩ := ten_cells P4
        exact bodyPost_ret (v := .tuple #[.agg #[.bool (sg n), .int .u64 (l0 n : Int), .int .u64 (l1 n : Int), .int .u64 (l2 n : Int), .int .u64 (l3 n : Int), .bool (sg m), .int .u64 (l0 m : Int), .int .u64 (l1 m : Int), .int .u64 (l2 m : Int), .int .u64 (l3 m : Int)], .bool true]) (by simp [results, Try.results27, go_sem, xP40, xP41, xP42, xP43, xP44, xP45, xP46, xP47, xP48, xP49]) rfl ⟨rfl, EE.out⟩
    · obtain ⟨en, em⟩ := Best.unique h1.1 h2.1 B (Best.zero (by omega) (by omega))
      subst en em
      obtain ⟨i, hi, i1, i2, _⟩ := some_sign n2
      have hi0 : ¬ i < 0 := fun q => hq (i1.1 q)
      have kT : Hid (∀ w, Calls Try.prog 62 #[.agg #[.bool (sg n2), .int .u64 (l0 n2 : Int), .int .u64 (l1 n2 : Int), .int .u64 (l2 n2 : Int), .int .u64 (l3 n2 : Int)]] w (Ret (.int .i64 i) w)) := fun w => c_sign h2.fn hi w
      have kO : Hid (∀ w, Calls Try.prog 78 #[.int .i64 0] w (Ret (.agg #[.bool (sg 0), .int .u64 (l0 0 : Int), .int .u64 (l1 0 : Int), .int .u64 (l2 0 : Int), .int .u64 (l3 0 : Int), .bool (sg 1), .int .u64 (l0 1 : Int), .int .u64 (l1 1 : Int), .int .u64 (l2 1 : Int), .int .u64 (l3 1 : Int)]) w)) := fun w => g_of (by omega) (by omega) w
      clear h1 h2 hle B hp hq hi i1 i2
      obtain ⟨W0, hW0⟩ : ∃ W0, W0 = (((w.alloc (.cells #[.bool (sg n1), .int .u64 (l0 n1 : Int), .int .u64 (l1 n1 : Int), .int .u64 (l2 n1 : Int), .int .u64 (l3 n1 : Int), .bool (sg m1), .int .u64 (l0 m1 : Int), .int .u64 (l1 m1 : Int), .int .u64 (l2 m1 : Int), .int .u64 (l3 m1 : Int)] 35)).alloc (.cells #[.bool (sg n2), .int .u64 (l0 n2 : Int), .int .u64 (l1 n2 : Int), .int .u64 (l2 n2 : Int), .int .u64 (l3 n2 : Int), .bool (sg m2), .int .u64 (l0 m2 : Int), .int .u64 (l1 m2 : Int), .int .u64 (l2 m2 : Int), .int .u64 (l3 m2 : Int)] 35)).alloc (.cells #[.bool false, .int .u64 0, .int .u64 0, .int .u64 0, .int .u64 0, .bool false, .int .u64 0, .int .u64 0, .int .u64 0, .int .u64 0] 35)) := ⟨_, rfl⟩
      have H2 := three_boxes w (.cells #[.bool (sg n1), .int .u64 (l0 n1 : Int), .int .u64 (l1 n1 : Int), .int .u64 (l2 n1 : Int), .int .u64 (l3 n1 : Int), .bool (sg m1), .int .u64 (l0 m1 : Int), .int .u64 (l1 m1 : Int), .int .u64 (l2 m1 : Int), .int .u64 (l3 m1 : Int)] 35) (.cells #[.bool (sg n2), .int .u64 (l0 n2 : Int), .int .u64 (l1 n2 : Int), .int .u64 (l2 n2 : Int), .int .u64 (l3 n2 : Int), .bool (sg m2), .int .u64 (l0 m2 : Int), .int .u64 (l1 m2 : Int), .int .u64 (l2 m2 : Int), .int .u64 (l3 m2 : Int)] 35) (.cells #[.bool false, .int .u64 0, .int .u64 0, .int .u64 0, .int .u64 0, .bool false, .int .u64 0, .int .u64 0, .int .u64 0, .int .u64 0] 35)
      have EE0 : Ext w W0 := by rw [hW0]; exact (((ext_alloc _ _).trans (ext_alloc _ _)).trans (ext_alloc _ _))
      rw [← hW0] at H2
      have EE := hide EE0
      have HW := hide hW0
      obtain ⟨P2, P3, P4⟩ : Box10 W0 (w.heap.size) (sg n1) (l0 n1) (l1 n1) (l2 n1) (l3 n1) (sg m1) (l0 m1) (l1 m1) (l2 m1) (l3 m1) ∧ Box10 W0 ((w.heap.size + 1)) (sg n2) (l0 n2) (l1 n2) (l2 n2) (l3 n2) (sg m2) (l0 m2) (l1 m2) (l2 m2) (l3 m2) ∧ Box10 W0 ((w.heap.size + 1 + 1)) false 0 0 0 0 false 0 0 0 0 := H2
      clear hW0 EE0
      go_enter Try.func27, Try.ntmps27
      go_upto_region 1 with fail
      rw [← HW.out]
      clear HW
      have hg0 : w.heap.size ≤ w.heap.size := Nat.le_refl _
      obtain ⟨g0, hg⟩ : ∃ g, w.heap.size = g := ⟨_, rfl⟩
      rw [hg] at P2 P3 P4 ⊢
      replace hg0 : w.heap.size ≤ g0 := Nat.le_of_eq hg
      clear hg
      obtain ⟨xP20, xP21, xP22, xP23, xP24, xP25, xP26, xP27, xP28, xP29, -⟩ := ten_cells P2; obtain ⟨xP30, xP31, xP32, xP33, xP34, xP35, xP36, xP37, xP38, xP39, -⟩ := ten_cells P3; obtain ⟨xP40, xP41, xP42, xP43, xP44, xP45, xP46, xP47, xP48, xP49, xP4f0, xP4f1, xP4f2, xP4f3, xP4f4, xP4f5, xP4f6, xP4f7, xP4f8, xP4f9⟩ := ten_cells P4
      go_wp2_with (first
        | (go_at_call 22; (with_reducible refine (kV1.out _).mono ?_); rintro e w1 ⟨rfl, hE⟩; clear xP20 xP21 xP22 xP23 xP24 xP25 xP26 xP27 xP28 xP29 xP30 xP31 xP32 xP33 xP34 xP35 xP36 xP37 xP38 xP39; clear xP40 xP41 xP42 xP43 xP44 xP45 xP46 xP47 xP48 xP49 xP4f0 xP4f1 xP4f2 xP4f3 xP4f4 xP4f5 xP4f6 xP4f7 xP4f8 xP4f9; have P2 := P2.ext hE; have P3 := P3.ext hE; have P4 := P4.ext hE; have EE := hide (EE.out.trans hE); clear hE; obtain ⟨xP20, xP21, xP22, xP23, xP24, xP25, xP26, xP27, xP28, xP29, -⟩ := ten_cells P2; obtain ⟨xP30, xP31, xP32, xP33, xP34, xP35, xP36, xP37, xP38, xP39, -⟩ := ten_cells P3; obtain ⟨xP40, xP41, xP42, xP43, xP44, xP45, xP46, xP47, xP48, xP49, xP4f0, xP4f1, xP4f2, xP4f3, xP4f4, xP4f5, xP4f6, xP4f7, xP4f8, xP4f9⟩ := ten_cells P4)
        | (go_at_call 22; (with_reducible refine (kV2.out _).mono ?_); rintro e w2 ⟨rfl, hE⟩; clear xP20 xP21 xP22 xP23 xP24 xP25 xP26 xP27 xP28 xP29 xP30 xP31 xP32 xP33 xP34 xP35 xP36 xP37 xP38 xP39; clear xP40 xP41 xP42 xP43 xP44 xP45 xP46 xP47 xP48 xP49 xP4f0 xP4f1 xP4f2 xP4f3 xP4f4 xP4f5 xP4f6 xP4f7 xP4f8 xP4f9; have P2 := P2.ext hE; have P3 := P3.ext hE; have P4 := P4.ext hE; have EE := hide (EE.out.trans hE); clear hE; obtain ⟨xP20, xP21, xP22, xP23, xP24, xP25, xP26, xP27, xP28, xP29, -⟩ := ten_cells P2; obtain ⟨xP30, xP31, xP32, xP33, xP34, xP35, xP36, xP37, xP38, xP39, -⟩ := ten_cells P3; obtain ⟨xP40, xP41, xP42, xP43, xP44, xP45, xP46, xP47, xP48, xP49, xP4f0, xP4f1, xP4f2, xP4f3, xP4f4, xP4f5, xP4f6, xP4f7, xP4f8, xP4f9⟩ := ten_cells P4)
        | (go_at_call 75; (with_reducible refine (kC.out _).mono ?_); rintro e w3 ⟨rfl, hE⟩; clear xP20 xP21 xP22 xP23 xP24 xP25 xP26 xP27 xP28 xP29 xP30 xP31 xP32 xP33 xP34 xP35 xP36 xP37 xP38 xP39; clear xP40 xP41 xP42 xP43 xP44 xP45 xP46 xP47 xP48 xP49 xP4f0 xP4f1 xP4f2 xP4f3 xP4f4 xP4f5 xP4f6 xP4f7 xP4f8 xP4f9; have P2 := P2.ext hE; have P3 := P3.ext hE; have P4 := P4.ext hE; have EE := hide (EE.out.trans hE); clear hE; obtain ⟨xP20, xP21, xP22, xP23, xP24, xP25, xP26, xP27, xP28, xP29, -⟩ := ten_cells P2; obtain ⟨xP30, xP31, xP32, xP33, xP34, xP35, xP36, xP37, xP38, xP39, -⟩ := ten_cells P3; obtain ⟨xP40, xP41, xP42, xP43, xP44, xP45, xP46, xP47, xP48, xP49, xP4f0, xP4f1, xP4f2, xP4f3, xP4f4, xP4f5, xP4f6, xP4f7, xP4f8, xP4f9⟩ := ten_cells P4)
        | (go_at_call 62; (with_reducible refine (kS.out _).mono ?_); rintro e w4 ⟨rfl, hE⟩; clear xP20 xP21 xP22 xP23 xP24 xP25 xP26 xP27 xP28 xP29 xP30 xP31 xP32 xP33 xP34 xP35 xP36 xP37 xP38 xP39; clear xP40 xP41 xP42 xP43 xP44 xP45 xP46 xP47 xP48 xP49 xP4f0 xP4f1 xP4f2 xP4f3 xP4f4 xP4f5 xP4f6 xP4f7 xP4f8 xP4f9; have P2 := P2.ext hE; have P3 := P3.ext hE; have P4 := P4.ext hE; have EE := hide (EE.out.trans hE); clear hE; obtain ⟨xP20, xP21, xP22, xP23, xP24, xP25, xP26, xP27, xP28, xP29, -⟩ := ten_cells P2; obtain ⟨xP30, xP31, xP32, xP33, xP34, xP35, xP36, xP37, xP38, xP39, -⟩ := ten_cells P3; obtain ⟨xP40, xP41, xP42, xP43, xP44, xP45, xP46, xP47, xP48, xP49, xP4f0, xP4f1, xP4f2, xP4f3, xP4f4, xP4f5, xP4f6, xP4f7, xP4f8, xP4f9⟩ := ten_cells P4)
        | (go_at_call 62; (with_reducible refine (kT.out _).mono ?_); rintro e w5 ⟨rfl, hE⟩; clear xP20 xP21 xP22 xP23 xP24 xP25 xP26 xP27 xP28 xP29 xP30 xP31 xP32 xP33 xP34 xP35 xP36 xP37 xP38 xP39; clear xP40 xP41 xP42 xP43 xP44 xP45 xP46 xP47 xP48 xP49 xP4f0 xP4f1 xP4f2 xP4f3 xP4f4 xP4f5 xP4f6 xP4f7 xP4f8 xP4f9; have P2 := P2.ext hE; have P3 := P3.ext hE; have P4 := P4.ext hE; have EE := hide (EE.out.trans hE); clear hE; obtain ⟨xP20, xP21, xP22, xP23, xP24, xP25, xP26, xP27, xP28, xP29, -⟩ := ten_cells P2; obtain ⟨xP30, xP31, xP32, xP33, xP34, xP35, xP36, xP37, xP38, xP39, -⟩ := ten_cells P3; obtain ⟨xP40, xP41, xP42, xP43, xP44, xP45, xP46, xP47, xP48, xP49, xP4f0, xP4f1, xP4f2, xP4f3, xP4f4, xP4f5, xP4f6, xP4f7, xP4f8, xP4f9⟩ := ten_cells P4)
        | (go_at_call 78; (with_reducible refine (kO.out _).mono ?_); rintro e w6 ⟨rfl, hE⟩; clear xP20 xP21 xP22 xP23 xP24 xP25 xP26 xP27 xP28 xP29 xP30 xP31 xP32 xP33 xP34 xP35 xP36 xP37 xP38 xP39; clear xP40 xP41 xP42 xP43 xP44 xP45 xP46 xP47 xP48 xP49 xP4f0 xP4f1 xP4f2 xP4f3 xP4f4 xP4f5 xP4f6 xP4f7 xP4f8 xP4f9; have P2 := P2.ext hE; have P3 := P3.ext hE; have P4 := P4.ext hE; have EE := hide (EE.out.trans hE); clear hE; obtain ⟨xP20, xP21, xP22, xP23, xP24, xP25, xP26, xP27, xP28, xP29, -⟩ := ten_cells P2; obtain ⟨xP30, xP31, xP32, xP33, xP34, xP35, xP36, xP37, xP38, xP39, -⟩ := ten_cells P3; obtain ⟨xP40, xP41, xP42, xP43, xP44, xP45, xP46, xP47, xP48, xP49, xP4f0, xP4f1, xP4f2, xP4f3, xP4f4, xP4f5, xP4f6, xP4f7, xP4f8, xP4f9⟩ := ten_cells P4))
      exact bodyPost_ret (v := .tuple #[.agg #[.bool (sg 0), .int .u64 (l0 0 : Int), .int .u64 (l1 0 : Int), .int .u64 (l2 0 : Int), .int .u64 (l3 0 : Int), .bool (sg 1), .int .u64 (l0 1 : Int), .int .u64 (l1 1 : Int), .int .u64 (l2 1 : Int), .int .u64 (l3 1 : Int)], .bool true]) (by simp [results, Try.results27, go_sem, xP40, xP41, xP42, xP43, xP44, xP45, xP46, xP47, xP48, xP49]) rfl ⟨rfl, ext_ten EE.out (by omega) _ _ _ _ _ _ _ _ _ _⟩
end Go.Proofs.Ytbnbkondbdakeaa
