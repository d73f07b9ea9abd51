/- Make of the reference of layer 3. Conditions: the cells stand for numbers. -/
import Derived.Test.YtbnbkondbdakeaaRef2
namespace Go.Proofs.Ytbnbkondbdakeaa
set_option linter.unusedVariables false
set_option linter.unusedSimpArgs false
open Go Go.RowKit
set_option maxRecDepth 100000 in
set_option maxHeartbeats 4000000 in
theorem rf_make_no (s t : Bool) (a b c d e f g h : Nat) (x y : Int) (w : World) (hx : IsW s a b c d x) (hy : IsW t e f g h y) (hno : ¬ (Good s x ∧ Good t y ∧ y ≠ 0)) :
    Calls Try.prog 21 #[.agg #[.bool s, .int .u64 (a : Int), .int .u64 (b : Int), .int .u64 (c : Int), .int .u64 (d : Int)], .agg #[.bool t, .int .u64 (e : Int), .int .u64 (f : Int), .int .u64 (g : Int), .int .u64 (h : Int)]] w (MakeRet false 0 0 w) := by
  obtain ⟨W, hW⟩ : ∃ W, W = (((w.alloc (.cells #[.bool s, .int .u64 (a : Int), .int .u64 (b : Int), .int .u64 (c : Int), .int .u64 (d : Int)] 25)).alloc (.cells #[.bool t, .int .u64 (e : Int), .int .u64 (f : Int), .int .u64 (g : Int), .int .u64 (h : Int)] 25)).alloc (.cells #[.bool false, .int .u64 0, .int .u64 0, .int .u64 0, .int .u64 0, .bool false, .int .u64 0, .int .u64 0, .int .u64 0, .int .u64 0] 35)) := ⟨_, rfl⟩
  have H3 := three_boxes w (.cells #[.bool s, .int .u64 (a : Int), .int .u64 (b : Int), .int .u64 (c : Int), .int .u64 (d : Int)] 25) (.cells #[.bool t, .int .u64 (e : Int), .int .u64 (f : Int), .int .u64 (g : Int), .int .u64 (h : Int)] 25) (.cells #[.bool false, .int .u64 0, .int .u64 0, .int .u64 0, .int .u64 0, .bool false, .int .u64 0, .int .u64 0, .int .u64 0, .int .u64 0] 35)
  rw [← hW] at H3
  have B0 : Box W w.heap.size s a b c d := H3.1
  have B1 : Box W (w.heap.size + 1) t e f g h := H3.2.1
  have B2 : Box10 W (w.heap.size + 1 + 1) false 0 0 0 0 false 0 0 0 0 := H3.2.2
  have EE : Ext w W := by rw [hW]; exact ((ext_alloc _ _).trans (ext_alloc _ _)).trans (ext_alloc _ _)
  have HW := hide hW
  obtain ⟨o1, ho1⟩ : ∃ o, (!s || decide (x ≠ 0)) = o := ⟨_, rfl⟩
  obtain ⟨o2, ho2⟩ : ∃ o, (!t || decide (y ≠ 0)) = o := ⟨_, rfl⟩
  obtain ⟨sg, hsg⟩ : ∃ sg, y.sign = sg := ⟨_, rfl⟩
  have k1 : Hid (∀ w', Calls Try.prog 67 #[.agg #[.bool s, .int .u64 (a : Int), .int .u64 (b : Int), .int .u64 (c : Int), .int .u64 (d : Int)]] w' (BoolRet o1 w')) := fun w' => by rw [← ho1]; exact ref_valid _ _ _ _ _ _ w' hx
  have k2 : Hid (∀ w', Calls Try.prog 67 #[.agg #[.bool t, .int .u64 (e : Int), .int .u64 (f : Int), .int .u64 (g : Int), .int .u64 (h : Int)]] w' (BoolRet o2 w')) := fun w' => by rw [← ho2]; exact ref_valid _ _ _ _ _ _ w' hy
  have k3 : Hid (∀ w', Calls Try.prog 35 #[.agg #[.bool t, .int .u64 (e : Int), .int .u64 (f : Int), .int .u64 (g : Int), .int .u64 (h : Int)]] w' (IntRet .i64 sg w')) := fun w' => by rw [← hsg]; exact ref_sign _ _ _ _ _ _ w' hy
  have hways : o1 = false ∨ (o1 = true ∧ o2 = false) ∨ (o1 = true ∧ o2 = true ∧ sg = 0) := by
    unfold Good at hno
    rw [← ho1, ← ho2, ← hsg]
    by_cases hx0 : x = 0 <;> by_cases hy0 : y = 0 <;> cases s <;> cases t <;> simp [hx0, hy0] at hno ⊢
  clear hW H3 ho1 ho2 hsg hx hy hno
  obtain ⟨c0, c1, c2, c3, c4, _⟩ := five_cells B0
  obtain ⟨d0, d1, d2, d3, d4, _⟩ := five_cells B1
  go_enter Try.func21, Try.ntmps21
  go_upto_region 1 with fail
  rw [← HW.out]
  clear HW
  rcases hways with rfl | ⟨rfl, rfl⟩ | ⟨rfl, rfl, rfl⟩
  all_goals go_wp2_with (first
    | (go_at_call 67; (with_reducible refine (k1.out _).mono ?_); rintro e' w2 ⟨rfl, hE⟩; have B1 := B1.ext hE; have B2 := B2.ext hE; have EE := EE.trans hE; obtain ⟨d0, d1, d2, d3, d4, _⟩ := five_cells B1; obtain ⟨i0, i1, i2, i3, i4, i5, i6, i7, i8, i9, j0, j1, j2, j3, j4, j5, j6, j7, j8, j9⟩ := ten_cells B2; clear hE)
    | (go_at_call 67; (with_reducible refine (k2.out _).mono ?_); rintro e' w3 ⟨rfl, hE⟩; have B1 := B1.ext hE; have B2 := B2.ext hE; have EE := EE.trans hE; obtain ⟨d0, d1, d2, d3, d4, _⟩ := five_cells B1; obtain ⟨i0, i1, i2, i3, i4, i5, i6, i7, i8, i9, j0, j1, j2, j3, j4, j5, j6, j7, j8, j9⟩ := ten_cells B2; clear hE)
    | (go_at_call 35; (with_reducible refine (k3.out _).mono ?_); rintro e' w4 ⟨rfl, hE⟩; have B1 := B1.ext hE; have B2 := B2.ext hE; have EE := EE.trans hE; obtain ⟨d0, d1, d2, d3, d4, _⟩ := five_cells B1; obtain ⟨i0, i1, i2, i3, i4, i5, i6, i7, i8, i9, j0, j1, j2, j3, j4, j5, j6, j7, j8, j9⟩ := ten_cells B2; clear hE))
  all_goals exact bodyPost_ret (v := .tuple #[.agg #[.bool false, .int .u64 0, .int .u64 0, .int .u64 0, .int .u64 0, .bool false, .int .u64 0, .int .u64 0, .int .u64 0, .int .u64 0], .bool false]) (by simp [results, Try.results21, go_sem, i0, i1, i2, i3, i4, i5, i6, i7, i8, i9]) rfl (makeRet_no (ext_ten EE (by omega) _ _ _ _ _ _ _ _ _ _))
theorem neg_iff {s : Bool} {a b c d : Nat} {z : Int} (h : IsC s a b c d z) : s = decide (z < 0) := by
  obtain ⟨⟨h1, h2, h3, h4, h5⟩, h6⟩ := h
  cases s
  · simp at h5; symm; rw [decide_eq_false_iff_not]; omega
  · have := h6 rfl; simp at h5; symm; rw [decide_eq_true_iff]; omega
theorem make_parts {s t : Bool} {a b c d e f g h : Nat} {x y : Int} (hx : IsC s a b c d x) (hy : IsC t e f g h y) (hy0 : y ≠ 0) :
    numR x y = (if (s != t) = true then -((x.natAbs : Int) / ((Int.gcd (x.natAbs : Int) (y.natAbs : Int) : Nat) : Int)) else (x.natAbs : Int) / ((Int.gcd (x.natAbs : Int) (y.natAbs : Int) : Nat) : Int)) ∧ denR x y = (y.natAbs : Int) / ((Int.gcd (x.natAbs : Int) (y.natAbs : Int) : Nat) : Int) ∧ (0 : Int) < ((Int.gcd (x.natAbs : Int) (y.natAbs : Int) : Nat) : Int) := by
  rw [neg_iff hx, neg_iff hy]
  have e1 : Int.gcd (x.natAbs : Int) (y.natAbs : Int) = Int.gcd x y := by simp [Int.gcd]
  rw [e1]
  have hg : 0 < Int.gcd x y := Int.gcd_pos_of_ne_zero_right x hy0
  obtain ⟨u, hu⟩ := Int.gcd_dvd_left x y
  obtain ⟨v, hv⟩ := Int.gcd_dvd_right x y
  obtain ⟨G, hG⟩ : ∃ G : Int, ((Int.gcd x y : Nat) : Int) = G := ⟨_, rfl⟩
  unfold numR denR
  rw [hG] at hu hv ⊢
  have hG0 : 0 < G := by omega
  have hGn : G ≠ 0 := by omega
  have hnx : -x = G * (-u) := by rw [Int.mul_neg, ← hu]
  have hny : -y = G * (-v) := by rw [Int.mul_neg, ← hv]
  have q1 : x / G = u := by rw [hu]; exact Int.mul_ediv_cancel_left _ hGn
  have q2 : y / G = v := by rw [hv]; exact Int.mul_ediv_cancel_left _ hGn
  have q3 : (-x) / G = -u := by rw [hnx]; exact Int.mul_ediv_cancel_left _ hGn
  have q4 : (-y) / G = -v := by rw [hny]; exact Int.mul_ediv_cancel_left _ hGn
  have ax : (x.natAbs : Int) = if x < 0 then -x else x := by split <;> omega
  have ay : (y.natAbs : Int) = if y < 0 then -y else y := by split <;> omega
  rw [ax, ay]
  refine ⟨?_, ?_, hG0⟩
  · by_cases h1 : x < 0 <;> by_cases h2 : y < 0 <;> simp [h1, h2, q1, q2, q3, q4]
  · by_cases h2 : y < 0 <;> simp [h2]
theorem valid_make (x y : Int) (hy0 : y ≠ 0) : ∀ (s : Bool) (a b c d : Nat) (t : Bool) (e f g h : Nat), IsC s a b c d (numR x y) → IsC t e f g h (denR x y) → decide (RatOk s (numR x y) t (denR x y)) = decide ((numR x y).natAbs < 170141183460469231731687303715884105728 ∧ (denR x y).natAbs < 170141183460469231731687303715884105728) := by
  intro s a b c d t e f g h h1 h2
  obtain ⟨p1, p2, _⟩ := red_parts x y hy0
  rw [decide_eq_decide]
  constructor
  · intro q; exact ⟨q.2.2.2.1, q.2.2.2.2.1⟩
  · intro q; exact ⟨h1.2, h2.2, p1, q.1, q.2, p2⟩
end Go.Proofs.Ytbnbkondbdakeaa
