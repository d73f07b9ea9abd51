/- Make of the program's package ratio. Conditions: the cells stand for numbers. -/
import Derived.Test.YtbnbkondbdakeaaRatB
import Derived.Test.YtbnbkondbdakeaaEqs
namespace Go.Proofs.Ytbnbkondbdakeaa
set_option linter.unusedVariables false
set_option linter.unusedSimpArgs false
open Go Go.RowKit
/-- Block k holds a fraction. -/
def Box10 (W : World) (k : Nat) (s : Bool) (a b c d : Nat) (t : Bool) (e f g h : Nat) : Prop := W.heap[k]? = some (.cells #[.bool s, .int .u64 (a : Int), .int .u64 (b : Int), .int .u64 (c : Int), .int .u64 (d : Int), .bool t, .int .u64 (e : Int), .int .u64 (f : Int), .int .u64 (g : Int), .int .u64 (h : Int)] 35 (0, 0))
theorem Box10.ext {w w' : World} {k : Nat} {s : Bool} {a b c d : Nat} {t : Bool} {e f g h : Nat} (x : Box10 w k s a b c d t e f g h) (y : Ext w w') : Box10 w' k s a b c d t e f g h := keep5 y x
theorem Box10.drew {w : World} {k : Nat} {s : Bool} {a b c d : Nat} {t : Bool} {e f g h : Nat} (x : Box10 w k s a b c d t e f g h) : Box10 w.drew k s a b c d t e f g h := x
theorem Box10.lt {w : World} {k : Nat} {s : Bool} {a b c d : Nat} {t : Bool} {e f g h : Nat} (x : Box10 w k s a b c d t e f g h) : k < w.heap.size := (Array.getElem?_eq_some_iff.1 x).1
theorem ten_cells {w : World} {b : Nat} {v0 v1 v2 v3 v4 v5 v6 v7 v8 v9 : Value} {e : TypeId} (h : w.heap[b]? = some (.cells #[v0, v1, v2, v3, v4, v5, v6, v7, v8, v9] e (0, 0))) :
    w.cell? ⟨b, 0, none⟩ = some v0 ∧ w.cell? ⟨b, 1, none⟩ = some v1 ∧ w.cell? ⟨b, 2, none⟩ = some v2 ∧ w.cell? ⟨b, 3, none⟩ = some v3 ∧ w.cell? ⟨b, 4, none⟩ = some v4 ∧ w.cell? ⟨b, 5, none⟩ = some v5 ∧ w.cell? ⟨b, 6, none⟩ = some v6 ∧ w.cell? ⟨b, 7, none⟩ = some v7 ∧ w.cell? ⟨b, 8, none⟩ = some v8 ∧ w.cell? ⟨b, 9, none⟩ = some v9 ∧
    w.frozen? ⟨b, 0, none⟩ = false ∧ w.frozen? ⟨b, 1, none⟩ = false ∧ w.frozen? ⟨b, 2, none⟩ = false ∧ w.frozen? ⟨b, 3, none⟩ = false ∧ w.frozen? ⟨b, 4, none⟩ = false ∧ w.frozen? ⟨b, 5, none⟩ = false ∧ w.frozen? ⟨b, 6, none⟩ = false ∧ w.frozen? ⟨b, 7, none⟩ = false ∧ w.frozen? ⟨b, 8, none⟩ = false ∧ w.frozen? ⟨b, 9, none⟩ = false := by
  refine ⟨?_, ?_, ?_, ?_, ?_, ?_, ?_, ?_, ?_, ?_, free_of_block h 0, free_of_block h 1, free_of_block h 2, free_of_block h 3, free_of_block h 4, free_of_block h 5, free_of_block h 6, free_of_block h 7, free_of_block h 8, free_of_block h 9⟩ <;> (rw [cell_of_block h]; rfl)
theorem ext_ten {W w : World} (h : Ext W w) {b : Nat} (hb : W.heap.size ≤ b) (u0 u1 u2 u3 u4 u5 u6 u7 u8 u9 : Value) : Ext W ((((((((((w.setCell ⟨b, 0, none⟩ u0).setCell ⟨b, 1, none⟩ u1).setCell ⟨b, 2, none⟩ u2).setCell ⟨b, 3, none⟩ u3).setCell ⟨b, 4, none⟩ u4).setCell ⟨b, 5, none⟩ u5).setCell ⟨b, 6, none⟩ u6).setCell ⟨b, 7, none⟩ u7).setCell ⟨b, 8, none⟩ u8).setCell ⟨b, 9, none⟩ u9) :=
  ext_set (ext_set (ext_set (ext_set (ext_set (ext_set (ext_set (ext_set (ext_set (ext_set h hb _ _) hb _ _) hb _ _) hb _ _) hb _ _) hb _ _) hb _ _) hb _ _) hb _ _) hb _ _
/-- What Make says of two integers. -/
def MakeRet (o : Bool) (n d : Int) (w : World) (e : Ending) (w' : World) : Prop := ∃ (s : Bool) (a b c d' : Nat) (t : Bool) (e' f g h : Nat), e = .returned (.tuple #[.agg #[.bool s, .int .u64 (a : Int), .int .u64 (b : Int), .int .u64 (c : Int), .int .u64 (d' : Int), .bool t, .int .u64 (e' : Int), .int .u64 (f : Int), .int .u64 (g : Int), .int .u64 (h : Int)], .bool o]) ∧ IsC s a b c d' n ∧ IsC t e' f g h d ∧ Ext w w'
theorem makeRet_no {w w' : World} (h : Ext w w') : MakeRet false 0 0 w (.returned (.tuple #[.agg #[.bool false, .int .u64 0, .int .u64 0, .int .u64 0, .int .u64 0, .bool false, .int .u64 0, .int .u64 0, .int .u64 0, .int .u64 0], .bool false])) w' :=
  ⟨false, 0, 0, 0, 0, false, 0, 0, 0, 0, rfl, isC_zero, isC_zero, h⟩
def Good (s : Bool) (z : Int) : Prop := s = true → z ≠ 0
set_option maxRecDepth 100000 in
set_option maxHeartbeats 4000000 in
theorem r_make_no (s t : Bool) (a b c d e f g h : Nat) (x y : Int) (w : World) (hx : IsW s a b c d x) (hy : IsW t e f g h y) (hno : ¬ (Good s x ∧ Good t y ∧ y ≠ 0)) :
    Calls Try.prog 20 #[.agg #[.bool s, .int .u64 (a : Int), .int .u64 (b : Int), .int .u64 (c : Int), .int .u64 (d : Int)], .agg #[.bool t, .int .u64 (e : Int), .int .u64 (f : Int), .int .u64 (g : Int), .int .u64 (h : Int)]] w (MakeRet false 0 0 w) := by
  obtain ⟨W, hW⟩ : ∃ W, W = (((w.alloc (.cells #[.bool s, .int .u64 (a : Int), .int .u64 (b : Int), .int .u64 (c : Int), .int .u64 (d : Int)] 25)).alloc (.cells #[.bool t, .int .u64 (e : Int), .int .u64 (f : Int), .int .u64 (g : Int), .int .u64 (h : Int)] 25)).alloc (.cells #[.bool false, .int .u64 0, .int .u64 0, .int .u64 0, .int .u64 0, .bool false, .int .u64 0, .int .u64 0, .int .u64 0, .int .u64 0] 35)) := ⟨_, rfl⟩
  have H3 := three_boxes w (.cells #[.bool s, .int .u64 (a : Int), .int .u64 (b : Int), .int .u64 (c : Int), .int .u64 (d : Int)] 25) (.cells #[.bool t, .int .u64 (e : Int), .int .u64 (f : Int), .int .u64 (g : Int), .int .u64 (h : Int)] 25) (.cells #[.bool false, .int .u64 0, .int .u64 0, .int .u64 0, .int .u64 0, .bool false, .int .u64 0, .int .u64 0, .int .u64 0, .int .u64 0] 35)
  rw [← hW] at H3
  have B0 : Box W w.heap.size s a b c d := H3.1
  have B1 : Box W (w.heap.size + 1) t e f g h := H3.2.1
  have B2 : Box10 W (w.heap.size + 1 + 1) false 0 0 0 0 false 0 0 0 0 := H3.2.2
  have EE : Ext w W := by rw [hW]; exact ((ext_alloc _ _).trans (ext_alloc _ _)).trans (ext_alloc _ _)
  have HW := hide hW
  obtain ⟨o1, ho1⟩ : ∃ o, (!s || decide (x ≠ 0)) = o := ⟨_, rfl⟩
  obtain ⟨o2, ho2⟩ : ∃ o, (!t || decide (y ≠ 0)) = o := ⟨_, rfl⟩
  obtain ⟨sg, hsg⟩ : ∃ sg, y.sign = sg := ⟨_, rfl⟩
  have k1 : Hid (∀ w', Calls Try.prog 61 #[.agg #[.bool s, .int .u64 (a : Int), .int .u64 (b : Int), .int .u64 (c : Int), .int .u64 (d : Int)]] w' (BoolRet o1 w')) := fun w' => by rw [← ho1]; exact p_valid _ _ _ _ _ _ w' hx
  have k2 : Hid (∀ w', Calls Try.prog 61 #[.agg #[.bool t, .int .u64 (e : Int), .int .u64 (f : Int), .int .u64 (g : Int), .int .u64 (h : Int)]] w' (BoolRet o2 w')) := fun w' => by rw [← ho2]; exact p_valid _ _ _ _ _ _ w' hy
  have k3 : Hid (∀ w', Calls Try.prog 62 #[.agg #[.bool t, .int .u64 (e : Int), .int .u64 (f : Int), .int .u64 (g : Int), .int .u64 (h : Int)]] w' (IntRet .i64 sg w')) := fun w' => by rw [← hsg]; exact p_sign _ _ _ _ _ _ w' hy
  have hways : o1 = false ∨ (o1 = true ∧ o2 = false) ∨ (o1 = true ∧ o2 = true ∧ sg = 0) := by
    unfold Good at hno
    rw [← ho1, ← ho2, ← hsg]
    by_cases hx0 : x = 0 <;> by_cases hy0 : y = 0 <;> cases s <;> cases t <;> simp [hx0, hy0] at hno ⊢
  clear hW H3 ho1 ho2 hsg hx hy hno
  obtain ⟨c0, c1, c2, c3, c4, _⟩ := five_cells B0
  obtain ⟨d0, d1, d2, d3, d4, _⟩ := five_cells B1
  go_enter Try.func20, Try.ntmps20
  go_upto_region 1 with fail
  rw [← HW.out]
  clear HW
  rcases hways with rfl | ⟨rfl, rfl⟩ | ⟨rfl, rfl, rfl⟩
  all_goals go_wp2_with (first
    | (go_at_call 61; (with_reducible refine (k1.out _).mono ?_); rintro e' w2 ⟨rfl, hE⟩; have B1 := B1.ext hE; have B2 := B2.ext hE; have EE := EE.trans hE; obtain ⟨d0, d1, d2, d3, d4, _⟩ := five_cells B1; obtain ⟨i0, i1, i2, i3, i4, i5, i6, i7, i8, i9, j0, j1, j2, j3, j4, j5, j6, j7, j8, j9⟩ := ten_cells B2; clear hE)
    | (go_at_call 61; (with_reducible refine (k2.out _).mono ?_); rintro e' w3 ⟨rfl, hE⟩; have B1 := B1.ext hE; have B2 := B2.ext hE; have EE := EE.trans hE; obtain ⟨d0, d1, d2, d3, d4, _⟩ := five_cells B1; obtain ⟨i0, i1, i2, i3, i4, i5, i6, i7, i8, i9, j0, j1, j2, j3, j4, j5, j6, j7, j8, j9⟩ := ten_cells B2; clear hE)
    | (go_at_call 62; (with_reducible refine (k3.out _).mono ?_); rintro e' w4 ⟨rfl, hE⟩; have B1 := B1.ext hE; have B2 := B2.ext hE; have EE := EE.trans hE; obtain ⟨d0, d1, d2, d3, d4, _⟩ := five_cells B1; obtain ⟨i0, i1, i2, i3, i4, i5, i6, i7, i8, i9, j0, j1, j2, j3, j4, j5, j6, j7, j8, j9⟩ := ten_cells B2; clear hE))
  all_goals exact bodyPost_ret (v := .tuple #[.agg #[.bool false, .int .u64 0, .int .u64 0, .int .u64 0, .int .u64 0, .bool false, .int .u64 0, .int .u64 0, .int .u64 0, .int .u64 0], .bool false]) (by simp [results, Try.results20, go_sem, i0, i1, i2, i3, i4, i5, i6, i7, i8, i9]) rfl (makeRet_no (ext_ten EE (by omega) _ _ _ _ _ _ _ _ _ _))
/-- A Wide's store leaves a fraction's block as it was. -/
theorem Box10.far {w : World} {k b' : Nat} {s : Bool} {a b c d : Nat} {t : Bool} {e f g h : Nat} (x : Box10 w k s a b c d t e f g h) (hn : k ≠ b') (u0 u1 u2 u3 u4 : Value) : Box10 (((((w.setCell ⟨b', 0, none⟩ u0).setCell ⟨b', 1, none⟩ u1).setCell ⟨b', 2, none⟩ u2).setCell ⟨b', 3, none⟩ u3).setCell ⟨b', 4, none⟩ u4) k s a b c d t e f g h := by
  unfold Box10 at *
  rw [heap_setCell_other _ _ _ _ (by simpa using hn), heap_setCell_other _ _ _ _ (by simpa using hn), heap_setCell_other _ _ _ _ (by simpa using hn), heap_setCell_other _ _ _ _ (by simpa using hn), heap_setCell_other _ _ _ _ (by simpa using hn)]
  exact x
def Three (w : World) (x y : Int) (wx : World) : Prop := ∃ (s : Bool) (a b c d : Nat) (t : Bool) (e f g h : Nat), IsC s a b c d x ∧ IsC t e f g h y ∧ Box wx w.heap.size s a b c d ∧ Box wx (w.heap.size + 1) t e f g h ∧ Box10 wx (w.heap.size + 1 + 1) false 0 0 0 0 false 0 0 0 0 ∧ Ext w wx
set_option maxRecDepth 100000 in
set_option maxHeartbeats 16000000 in
theorem r_make_yes (s t : Bool) (a b c d e f g h : Nat) (x y : Int) (w : World) (hx : IsC s a b c d x) (hy : IsC t e f g h y) (hy0 : y ≠ 0) (o : Bool) (ho : decide ((numR x y).natAbs < 170141183460469231731687303715884105728 ∧ (denR x y).natAbs < 170141183460469231731687303715884105728) = o) :
    Calls Try.prog 20 #[.agg #[.bool s, .int .u64 (a : Int), .int .u64 (b : Int), .int .u64 (c : Int), .int .u64 (d : Int)], .agg #[.bool t, .int .u64 (e : Int), .int .u64 (f : Int), .int .u64 (g : Int), .int .u64 (h : Int)]] w (MakeRet o (if o then numR x y else 0) (if o then denR x y else 0) w) := by
  obtain ⟨N, hN⟩ : ∃ N, (if o then numR x y else 0) = N := ⟨_, rfl⟩
  obtain ⟨D, hD⟩ : ∃ D, (if o then denR x y else 0) = D := ⟨_, rfl⟩
  rw [hN, hD]
  have HN := hide hN
  have HD := hide hD
  obtain ⟨x', hx'⟩ : ∃ x', (if y < 0 then -x else x) = x' := ⟨_, rfl⟩
  have HX' := hide hx'
  clear hN hD hx'
  obtain ⟨W, hW⟩ : ∃ W, W = (((w.alloc (.cells #[.bool s, .int .u64 (a : Int), .int .u64 (b : Int), .int .u64 (c : Int), .int .u64 (d : Int)] 25)).alloc (.cells #[.bool t, .int .u64 (e : Int), .int .u64 (f : Int), .int .u64 (g : Int), .int .u64 (h : Int)] 25)).alloc (.cells #[.bool false, .int .u64 0, .int .u64 0, .int .u64 0, .int .u64 0, .bool false, .int .u64 0, .int .u64 0, .int .u64 0, .int .u64 0] 35)) := ⟨_, rfl⟩
  have H3 := three_boxes w (.cells #[.bool s, .int .u64 (a : Int), .int .u64 (b : Int), .int .u64 (c : Int), .int .u64 (d : Int)] 25) (.cells #[.bool t, .int .u64 (e : Int), .int .u64 (f : Int), .int .u64 (g : Int), .int .u64 (h : Int)] 25) (.cells #[.bool false, .int .u64 0, .int .u64 0, .int .u64 0, .int .u64 0, .bool false, .int .u64 0, .int .u64 0, .int .u64 0, .int .u64 0] 35)
  rw [← hW] at H3
  have B0 : Box W w.heap.size s a b c d := H3.1
  have B1 : Box W (w.heap.size + 1) t e f g h := H3.2.1
  have B2 : Box10 W (w.heap.size + 1 + 1) false 0 0 0 0 false 0 0 0 0 := H3.2.2
  have EE : Ext w W := by rw [hW]; exact ((ext_alloc _ _).trans (ext_alloc _ _)).trans (ext_alloc _ _)
  have HW := hide hW
  obtain ⟨sg, hsg⟩ : ∃ sg, y.sign = sg := ⟨_, rfl⟩
  have hgx : (!s || decide (x ≠ 0)) = true := by have := hx.2; cases s <;> simp at this ⊢; exact this
  have hgy : (!t || decide (y ≠ 0)) = true := by simp [hy0]
  have k1 : Hid (∀ w', Calls Try.prog 61 #[.agg #[.bool s, .int .u64 (a : Int), .int .u64 (b : Int), .int .u64 (c : Int), .int .u64 (d : Int)]] w' (BoolRet true w')) := fun w' => by rw [← hgx]; exact p_valid _ _ _ _ _ _ w' hx.1
  have k2 : Hid (∀ w', Calls Try.prog 61 #[.agg #[.bool t, .int .u64 (e : Int), .int .u64 (f : Int), .int .u64 (g : Int), .int .u64 (h : Int)]] w' (BoolRet true w')) := fun w' => by rw [← hgy]; exact p_valid _ _ _ _ _ _ w' hy.1
  have k3 : Hid (∀ w', Calls Try.prog 62 #[.agg #[.bool t, .int .u64 (e : Int), .int .u64 (f : Int), .int .u64 (g : Int), .int .u64 (h : Int)]] w' (IntRet .i64 sg w')) := fun w' => by rw [← hsg]; exact p_sign _ _ _ _ _ _ w' hy.1
  have hs0 : ¬ (sg = 0) := by rw [← hsg]; intro e; exact hy0 (Int.sign_eq_zero_iff_zero.1 e)
  have hsn : sg < 0 ↔ y < 0 := by
    rw [← hsg]
    rcases Int.lt_trichotomy y 0 with h1 | h1 | h1
    · rw [Int.sign_eq_neg_one_of_neg h1]; omega
    · exact absurd h1 hy0
    · rw [Int.sign_eq_one_of_pos h1]; omega
  have kn1 : Hid (∀ w', Calls Try.prog 63 #[.agg #[.bool s, .int .u64 (a : Int), .int .u64 (b : Int), .int .u64 (c : Int), .int .u64 (d : Int)]] w' (WideOnly (-x) w')) := fun w' => p_neg _ _ _ _ _ _ w' hx.1
  have kn2 : Hid (∀ w', Calls Try.prog 63 #[.agg #[.bool t, .int .u64 (e : Int), .int .u64 (f : Int), .int .u64 (g : Int), .int .u64 (h : Int)]] w' (WideOnly (-y) w')) := fun w' => p_neg _ _ _ _ _ _ w' hy.1
  have HO := hide ho
  have HSN := hide hsn
  have KX := hide hx
  have KY := hide hy
  clear hW H3 hsg hx hy hgx hgy ho hsn
  obtain ⟨c0, c1, c2, c3, c4, f0, f1, f2, f3, f4⟩ := five_cells B0
  obtain ⟨d0, d1, d2, d3, d4, g0, g1, g2, g3, g4⟩ := five_cells B1
  go_enter Try.func20, Try.ntmps20
  go_upto_region 1 with fail
  rw [← HW.out]
  clear HW
  go_upto_if 23 with (first
    | (go_at_call 61; (with_reducible refine (k1.out _).mono ?_); rintro e' w2 ⟨rfl, hE⟩; have B0 := B0.ext hE; have B1 := B1.ext hE; have B2 := B2.ext hE; have EE := EE.trans hE; obtain ⟨c0, c1, c2, c3, c4, f0, f1, f2, f3, f4⟩ := five_cells B0; obtain ⟨d0, d1, d2, d3, d4, g0, g1, g2, g3, g4⟩ := five_cells B1; obtain ⟨i0, i1, i2, i3, i4, i5, i6, i7, i8, i9, j0, j1, j2, j3, j4, j5, j6, j7, j8, j9⟩ := ten_cells B2; clear hE)
    | (go_at_call 61; (with_reducible refine (k2.out _).mono ?_); rintro e' w3 ⟨rfl, hE⟩; have B0 := B0.ext hE; have B1 := B1.ext hE; have B2 := B2.ext hE; have EE := EE.trans hE; obtain ⟨c0, c1, c2, c3, c4, f0, f1, f2, f3, f4⟩ := five_cells B0; obtain ⟨d0, d1, d2, d3, d4, g0, g1, g2, g3, g4⟩ := five_cells B1; obtain ⟨i0, i1, i2, i3, i4, i5, i6, i7, i8, i9, j0, j1, j2, j3, j4, j5, j6, j7, j8, j9⟩ := ten_cells B2; clear hE)
    | (go_at_call 62; (with_reducible refine (k3.out _).mono ?_); rintro e' w4 ⟨rfl, hE⟩; have B0 := B0.ext hE; have B1 := B1.ext hE; have B2 := B2.ext hE; have EE := EE.trans hE; obtain ⟨c0, c1, c2, c3, c4, f0, f1, f2, f3, f4⟩ := five_cells B0; obtain ⟨d0, d1, d2, d3, d4, g0, g1, g2, g3, g4⟩ := five_cells B1; obtain ⟨i0, i1, i2, i3, i4, i5, i6, i7, i8, i9, j0, j1, j2, j3, j4, j5, j6, j7, j8, j9⟩ := ten_cells B2; clear hE))
  obtain ⟨y', hy'⟩ : ∃ y', (if y < 0 then -y else y) = y' := ⟨_, rfl⟩
  have HY' := hide hy'
  clear hy'
  have HY0 := hide hy0
  clear hy0
  go_cut [] (fun wx => Three w x' y' wx)
  case first =>
    by_cases hn : sg < 0
    · have hneg := HSN.out.1 hn
      have hx1 : Hid (x' = -x) := by rw [← HX'.out, if_pos hneg]; exact rfl
      have hy1 : Hid (y' = -y) := by rw [← HY'.out, if_pos hneg]; exact rfl
      clear hneg
      go_wp2_with fail
      go_region_with (first
        | (go_at_call 63; (with_reducible refine (kn1.out _).mono ?_); rintro e' w5 ⟨s5, a5, b5, c5, d5, rfl, hC5, hE⟩; have B0 : Box w5 w.heap.size s a b c d := (by first | exact B0.ext hE | exact B0.drew.ext hE); have B1 : Box w5 (w.heap.size + 1) t e f g h := (by first | exact B1.ext hE | exact B1.drew.ext hE); have B2 : Box10 w5 (w.heap.size + 1 + 1) false 0 0 0 0 false 0 0 0 0 := (by first | exact B2.ext hE | exact B2.drew.ext hE); have EE : Ext w w5 := (by first | exact EE.trans hE | exact (EE.trans (ext_drew _)).trans hE); obtain ⟨c0, c1, c2, c3, c4, f0, f1, f2, f3, f4⟩ := five_cells B0; obtain ⟨d0, d1, d2, d3, d4, g0, g1, g2, g3, g4⟩ := five_cells B1; clear hE)
        | (go_at_call 63; (with_reducible refine (kn2.out _).mono ?_); rintro e' w6 ⟨s6, a6, b6, c6, d6, rfl, hC6, hE⟩; have B0 : Box w6 w.heap.size s a b c d := (by first | exact B0.ext hE | exact B0.drew.ext hE); have B1 : Box w6 (w.heap.size + 1) t e f g h := (by first | exact B1.ext hE | exact B1.drew.ext hE); have B2 : Box10 w6 (w.heap.size + 1 + 1) false 0 0 0 0 false 0 0 0 0 := (by first | exact B2.ext hE | exact B2.drew.ext hE); have EE : Ext w w6 := (by first | exact EE.trans hE | exact (EE.trans (ext_drew _)).trans hE); obtain ⟨c0, c1, c2, c3, c4, f0, f1, f2, f3, f4⟩ := five_cells B0; obtain ⟨d0, d1, d2, d3, d4, g0, g1, g2, g3, g4⟩ := five_cells B1; clear hE))
      all_goals go_wp2_with fail
      all_goals go_meet
      all_goals exact ⟨s5, a5, b5, c5, d5, s6, a6, b6, c6, d6, by rw [hx1.out]; exact hC5, by rw [hy1.out]; exact hC6, (B0.put).far (by omega) _ _ _ _ _, (B1.far (by omega) _ _ _ _ _).put, (B2.far (by omega) _ _ _ _ _).far (by omega) _ _ _ _ _, ext_five (ext_five EE (Nat.le_refl _) _ _ _ _ _) (by omega) _ _ _ _ _⟩
    · have hneg : ¬ y < 0 := fun e => hn (HSN.out.2 e)
      have hx1 : Hid (x' = x) := by rw [← HX'.out, if_neg hneg]; exact rfl
      have hy1 : Hid (y' = y) := by rw [← HY'.out, if_neg hneg]; exact rfl
      clear hneg
      go_wp2_with fail
      all_goals go_meet
      all_goals exact ⟨s, a, b, c, d, t, e, f, g, h, by rw [hx1.out]; exact KX.out, by rw [hy1.out]; exact KY.out, B0, B1, B2, EE⟩
  case rest =>
    clear B0 B1 B2 EE k1 k2 k3 kn1 kn2
    obtain ⟨s, a, b, c, d, t, e, f, g, h, hx, hy, B0, B1, B2, EE⟩ := hcut
    have hyp : 0 < y' := by
      have h1 := HY'.out
      have h2 := HY0.out
      split at h1 <;> omega
    have hgg : Int.gcd x' y' = Int.gcd x y := by
      rw [← HX'.out, ← HY'.out]
      by_cases hn : y < 0
      · rw [if_pos hn, if_pos hn, Int.gcd_neg, Int.neg_gcd]
      · rw [if_neg hn, if_neg hn]
    obtain ⟨G, hG⟩ : ∃ G : Int, (Int.gcd x' y' : Int) = G := ⟨_, rfl⟩
    have hG0 : 0 < G := by rw [← hG]; have := Int.gcd_pos_of_ne_zero_right x' (show y' ≠ 0 by omega); omega
    have hn1 : numR x y = x' / G := by unfold numR; rw [HX'.out, ← hgg, hG]
    have hd1 : denR x y = y' / G := by unfold denR; rw [HY'.out, ← hgg, hG]
    obtain ⟨n, hn⟩ : ∃ n, x' / G = n := ⟨_, rfl⟩
    obtain ⟨m, hm⟩ : ∃ m, y' / G = m := ⟨_, rfl⟩
    rw [hn] at hn1
    rw [hm] at hd1
    have HN1 := hide hn1
    have HD1 := hide hd1
    have HGG := hide hG
    have HNN := hide hn
    have HMM := hide hm
    have hGne : Hid (G ≠ 0) := by unfold Hid; omega
    have HYP := hide hyp
    have KX' := hide hx
    have KY' := hide hy
    clear hn1 hd1 hG hn hm hG0 hgg hx hy hyp
    obtain ⟨c0, c1, c2, c3, c4, f0, f1, f2, f3, f4⟩ := five_cells B0
    obtain ⟨d0, d1, d2, d3, d4, g0, g1, g2, g3, g4⟩ := five_cells B1
    go_upto_region 6 with (go_at_call 64; refine (r_gcd s t a b c d e f g h x' y' _ KX'.out KY'.out HYP.out).mono ?_; rintro e' w5 ⟨s5, a5, b5, c5, d5, rfl, C5, hE⟩; rw [HGG.out] at C5; have B0 := B0.ext hE; have B1 := B1.ext hE; have B2 := B2.ext hE; have EE := EE.trans hE; clear hE)
    have K5 := hide C5
    have B5 : Box (w5.alloc (.cells #[.bool s5, .int .u64 (a5 : Int), .int .u64 (b5 : Int), .int .u64 (c5 : Int), .int .u64 (d5 : Int)] 25)) w5.heap.size s5 a5 b5 c5 d5 := heap_alloc_new w5 _
    have hE := ext_alloc w5 (.cells #[.bool s5, .int .u64 (a5 : Int), .int .u64 (b5 : Int), .int .u64 (c5 : Int), .int .u64 (d5 : Int)] 25)
    have l2 := B2.lt
    have B0 := B0.ext hE
    have B1 := B1.ext hE
    have B2 := B2.ext hE
    have EE := EE.trans hE
    generalize w5.alloc (.cells #[.bool s5, .int .u64 (a5 : Int), .int .u64 (b5 : Int), .int .u64 (c5 : Int), .int .u64 (d5 : Int)] 25) = W5 at *
    generalize w5.heap.size = g5 at *
    clear C5 hE
    obtain ⟨c0, c1, c2, c3, c4, f0, f1, f2, f3, f4⟩ := five_cells B0
    obtain ⟨i0, i1, i2, i3, i4, _⟩ := five_cells B5
    go_upto_region 7 with (go_at_call 65; refine (p_divMod s s5 a b c d a5 b5 c5 d5 x' G _ KX'.out.1 K5.out.1).mono ?_; rintro e' w6 ⟨s6, a6, b6, c6, d6, s7, a7, b7, c7, d7, o7, rfl, ho7, C6, C7, hE⟩; have Ho7 := hide ho7; rw [if_neg hGne.out] at C6; rw [HNN.out] at C6; have K6 := hide C6; clear ho7 C6 C7; have B0 := B0.ext hE; have B1 := B1.ext hE; have B2 := B2.ext hE; have B5 := B5.ext hE; have EE := EE.trans hE; clear hE; obtain ⟨c0, c1, c2, c3, c4, f0, f1, f2, f3, f4⟩ := five_cells B0)
    have B1 := B1.far (b' := w.heap.size) (by omega) (.bool s6) (.int .u64 (a6 : Int)) (.int .u64 (b6 : Int)) (.int .u64 (c6 : Int)) (.int .u64 (d6 : Int))
    have B2 := B2.far (b' := w.heap.size) (by omega) (.bool s6) (.int .u64 (a6 : Int)) (.int .u64 (b6 : Int)) (.int .u64 (c6 : Int)) (.int .u64 (d6 : Int))
    have B5 := B5.far (b' := w.heap.size) (by omega) (.bool s6) (.int .u64 (a6 : Int)) (.int .u64 (b6 : Int)) (.int .u64 (c6 : Int)) (.int .u64 (d6 : Int))
    have B0 := B0.put (t := s6) (a' := a6) (b' := b6) (c' := c6) (d' := d6)
    have EE := ext_five EE (b := w.heap.size) (Nat.le_refl _) (.bool s6) (.int .u64 (a6 : Int)) (.int .u64 (b6 : Int)) (.int .u64 (c6 : Int)) (.int .u64 (d6 : Int))
    generalize ((((w6.setCell ⟨w.heap.size, 0, none⟩ (.bool s6)).setCell ⟨w.heap.size, 1, none⟩ (.int .u64 (a6 : Int))).setCell ⟨w.heap.size, 2, none⟩ (.int .u64 (b6 : Int))).setCell ⟨w.heap.size, 3, none⟩ (.int .u64 (c6 : Int))).setCell ⟨w.heap.size, 4, none⟩ (.int .u64 (d6 : Int)) = W6 at *
    obtain ⟨d0, d1, d2, d3, d4, g0, g1, g2, g3, g4⟩ := five_cells B1
    obtain ⟨i0, i1, i2, i3, i4, _⟩ := five_cells B5
    go_upto_region 8 with (go_at_call 65; refine (p_divMod t s5 e f g h a5 b5 c5 d5 y' G _ KY'.out.1 K5.out.1).mono ?_; rintro e' w7 ⟨s8, a8, b8, c8, d8, s9, a9, b9, c9, d9, o9, rfl, ho9, C8, C9, hE⟩; have Ho9 := hide ho9; rw [if_neg hGne.out] at C8; rw [HMM.out] at C8; have K8 := hide C8; clear ho9 C8 C9; have B0 := B0.ext hE; have B1 := B1.ext hE; have B2 := B2.ext hE; have EE := EE.trans hE; clear hE; obtain ⟨d0, d1, d2, d3, d4, g0, g1, g2, g3, g4⟩ := five_cells B1)
    have B0 := B0.far (b' := w.heap.size + 1) (by omega) (.bool s8) (.int .u64 (a8 : Int)) (.int .u64 (b8 : Int)) (.int .u64 (c8 : Int)) (.int .u64 (d8 : Int))
    have B2 := B2.far (b' := w.heap.size + 1) (by omega) (.bool s8) (.int .u64 (a8 : Int)) (.int .u64 (b8 : Int)) (.int .u64 (c8 : Int)) (.int .u64 (d8 : Int))
    have B1 := B1.put (t := s8) (a' := a8) (b' := b8) (c' := c8) (d' := d8)
    have EE := ext_five EE (b := w.heap.size + 1) (by omega) (.bool s8) (.int .u64 (a8 : Int)) (.int .u64 (b8 : Int)) (.int .u64 (c8 : Int)) (.int .u64 (d8 : Int))
    generalize ((((w7.setCell ⟨w.heap.size + 1, 0, none⟩ (.bool s8)).setCell ⟨w.heap.size + 1, 1, none⟩ (.int .u64 (a8 : Int))).setCell ⟨w.heap.size + 1, 2, none⟩ (.int .u64 (b8 : Int))).setCell ⟨w.heap.size + 1, 3, none⟩ (.int .u64 (c8 : Int))).setCell ⟨w.heap.size + 1, 4, none⟩ (.int .u64 (d8 : Int)) = W8 at *
    obtain ⟨q1, hq1⟩ : ∃ o, decide (n.natAbs < 170141183460469231731687303715884105728) = o := ⟨_, rfl⟩
    obtain ⟨q2, hq2⟩ : ∃ o, decide (m.natAbs < 170141183460469231731687303715884105728) = o := ⟨_, rfl⟩
    have kf1 : Hid (∀ w', Calls Try.prog 66 #[.agg #[.bool s6, .int .u64 (a6 : Int), .int .u64 (b6 : Int), .int .u64 (c6 : Int), .int .u64 (d6 : Int)]] w' (BoolRet q1 w')) := fun w' => by rw [← hq1]; exact r_fits _ _ _ _ _ _ w' K6.out
    have kf2 : Hid (∀ w', Calls Try.prog 66 #[.agg #[.bool s8, .int .u64 (a8 : Int), .int .u64 (b8 : Int), .int .u64 (c8 : Int), .int .u64 (d8 : Int)]] w' (BoolRet q2 w')) := fun w' => by rw [← hq2]; exact r_fits _ _ _ _ _ _ w' K8.out
    have hoq : o = (q1 && q2) := by
      rw [← HO.out, HN1.out, HD1.out, ← hq1, ← hq2, Bool.decide_and]
    clear HO
    obtain ⟨c0, c1, c2, c3, c4, f0, f1, f2, f3, f4⟩ := five_cells B0
    obtain ⟨d0, d1, d2, d3, d4, g0, g1, g2, g3, g4⟩ := five_cells B1
    obtain ⟨i0, i1, i2, i3, i4, i5, i6, i7, i8, i9, j0, j1, j2, j3, j4, j5, j6, j7, j8, j9⟩ := ten_cells B2
    have hways : (q1 = false ∧ o = false) ∨ (q1 = true ∧ q2 = false ∧ o = false) ∨ (q1 = true ∧ q2 = true ∧ o = true) := by
      rw [hoq]; cases q1 <;> cases q2 <;> simp
    clear hoq hq1 hq2
    rcases hways with ⟨rfl, rfl⟩ | ⟨rfl, rfl, rfl⟩ | ⟨rfl, rfl, rfl⟩
    · have KR : Hid (N = 0 ∧ D = 0) := ⟨HN.out.symm, HD.out.symm⟩
      go_wp2_with (first
        | (go_at_call 66; (with_reducible refine (kf1.out _).mono ?_); rintro e' w8 ⟨rfl, hE⟩; have B0 := B0.ext hE; have B1 := B1.ext hE; have B2 := B2.ext hE; have EE := EE.trans hE; obtain ⟨c0, c1, c2, c3, c4, f0, f1, f2, f3, f4⟩ := five_cells B0; obtain ⟨d0, d1, d2, d3, d4, g0, g1, g2, g3, g4⟩ := five_cells B1; obtain ⟨i0, i1, i2, i3, i4, i5, i6, i7, i8, i9, j0, j1, j2, j3, j4, j5, j6, j7, j8, j9⟩ := ten_cells B2; clear hE))
      all_goals exact bodyPost_ret (v := .tuple #[.agg #[.bool false, .int .u64 0, .int .u64 0, .int .u64 0, .int .u64 0, .bool false, .int .u64 0, .int .u64 0, .int .u64 0, .int .u64 0], .bool false]) (by simp [results, Try.results20, go_sem, i0, i1, i2, i3, i4, i5, i6, i7, i8, i9]) rfl (by rw [KR.out.1, KR.out.2]; exact makeRet_no (ext_ten EE (by omega) _ _ _ _ _ _ _ _ _ _))
    · have KR : Hid (N = 0 ∧ D = 0) := ⟨HN.out.symm, HD.out.symm⟩
      go_wp2_with (first
        | (go_at_call 66; (with_reducible refine (kf1.out _).mono ?_); rintro e' w8 ⟨rfl, hE⟩; have B0 := B0.ext hE; have B1 := B1.ext hE; have B2 := B2.ext hE; have EE := EE.trans hE; obtain ⟨c0, c1, c2, c3, c4, f0, f1, f2, f3, f4⟩ := five_cells B0; obtain ⟨d0, d1, d2, d3, d4, g0, g1, g2, g3, g4⟩ := five_cells B1; obtain ⟨i0, i1, i2, i3, i4, i5, i6, i7, i8, i9, j0, j1, j2, j3, j4, j5, j6, j7, j8, j9⟩ := ten_cells B2; clear hE)
        | (go_at_call 66; (with_reducible refine (kf2.out _).mono ?_); rintro e' w9 ⟨rfl, hE⟩; have B0 := B0.ext hE; have B1 := B1.ext hE; have B2 := B2.ext hE; have EE := EE.trans hE; obtain ⟨c0, c1, c2, c3, c4, f0, f1, f2, f3, f4⟩ := five_cells B0; obtain ⟨d0, d1, d2, d3, d4, g0, g1, g2, g3, g4⟩ := five_cells B1; obtain ⟨i0, i1, i2, i3, i4, i5, i6, i7, i8, i9, j0, j1, j2, j3, j4, j5, j6, j7, j8, j9⟩ := ten_cells B2; clear hE))
      all_goals exact bodyPost_ret (v := .tuple #[.agg #[.bool false, .int .u64 0, .int .u64 0, .int .u64 0, .int .u64 0, .bool false, .int .u64 0, .int .u64 0, .int .u64 0, .int .u64 0], .bool false]) (by simp [results, Try.results20, go_sem, i0, i1, i2, i3, i4, i5, i6, i7, i8, i9]) rfl (by rw [KR.out.1, KR.out.2]; exact makeRet_no (ext_ten EE (by omega) _ _ _ _ _ _ _ _ _ _))
    · have KR : Hid (IsC s6 a6 b6 c6 d6 N ∧ IsC s8 a8 b8 c8 d8 D) := by
        have h1 := HN.out
        have h2 := HD.out
        rw [if_pos rfl] at h1 h2
        rw [← h1, ← h2, HN1.out, HD1.out]
        exact ⟨K6.out, K8.out⟩
      go_wp2_with (first
        | (go_at_call 66; (with_reducible refine (kf1.out _).mono ?_); rintro e' w8 ⟨rfl, hE⟩; have B0 := B0.ext hE; have B1 := B1.ext hE; have B2 := B2.ext hE; have EE := EE.trans hE; obtain ⟨c0, c1, c2, c3, c4, f0, f1, f2, f3, f4⟩ := five_cells B0; obtain ⟨d0, d1, d2, d3, d4, g0, g1, g2, g3, g4⟩ := five_cells B1; obtain ⟨i0, i1, i2, i3, i4, i5, i6, i7, i8, i9, j0, j1, j2, j3, j4, j5, j6, j7, j8, j9⟩ := ten_cells B2; clear hE)
        | (go_at_call 66; (with_reducible refine (kf2.out _).mono ?_); rintro e' w9 ⟨rfl, hE⟩; have B0 := B0.ext hE; have B1 := B1.ext hE; have B2 := B2.ext hE; have EE := EE.trans hE; obtain ⟨c0, c1, c2, c3, c4, f0, f1, f2, f3, f4⟩ := five_cells B0; obtain ⟨d0, d1, d2, d3, d4, g0, g1, g2, g3, g4⟩ := five_cells B1; obtain ⟨i0, i1, i2, i3, i4, i5, i6, i7, i8, i9, j0, j1, j2, j3, j4, j5, j6, j7, j8, j9⟩ := ten_cells B2; clear hE))
      all_goals exact bodyPost_ret (v := .tuple #[.agg #[.bool s6, .int .u64 (a6 : Int), .int .u64 (b6 : Int), .int .u64 (c6 : Int), .int .u64 (d6 : Int), .bool s8, .int .u64 (a8 : Int), .int .u64 (b8 : Int), .int .u64 (c8 : Int), .int .u64 (d8 : Int)], .bool true]) (by simp [results, Try.results20, go_sem, i0, i1, i2, i3, i4, i5, i6, i7, i8, i9]) rfl ⟨s6, a6, b6, c6, d6, s8, a8, b8, c8, d8, rfl, KR.out.1, KR.out.2, ext_ten EE (by omega) _ _ _ _ _ _ _ _ _ _⟩
end Go.Proofs.Ytbnbkondbdakeaa
