/- Part 4 of what these claims stand on: contracts of the program's and the reference's functions, and plain facts. Conditions: each states its own. -/
import Derived.Test.YthlbkidgdngblaaPrH3
import Derived.Lib.QuietBelow
import Derived.Orders
import Derived.Below
import Derived.KernelRfl
namespace Go.Proofs.Ythlbkidgdngblaa
set_option linter.unusedVariables false
set_option linter.unusedSimpArgs false
section
open Go Go.RowKit
def Box10 (W : World) (k : Nat) (s : Bool) (a b c d : Nat) (t : Bool) (e f g h : Nat) : Prop := W.heap[k]? = some (.cells #[.bool s, .int .u64 (a : Int), .int .u64 (b : Int), .int .u64 (c : Int), .int .u64 (d : Int), .bool t, .int .u64 (e : Int), .int .u64 (f : Int), .int .u64 (g : Int), .int .u64 (h : Int)] 40 (0, 0))
theorem Box10.ext {w w' : World} {k : Nat} {s : Bool} {a b c d : Nat} {t : Bool} {e f g h : Nat} (x : Box10 w k s a b c d t e f g h) (y : Ext w w') : Box10 w' k s a b c d t e f g h := keep5 y x
theorem Box10.drew {w : World} {k : Nat} {s : Bool} {a b c d : Nat} {t : Bool} {e f g h : Nat} (x : Box10 w k s a b c d t e f g h) : Box10 w.drew k s a b c d t e f g h := x
theorem Box10.lt {w : World} {k : Nat} {s : Bool} {a b c d : Nat} {t : Bool} {e f g h : Nat} (x : Box10 w k s a b c d t e f g h) : k < w.heap.size := (Array.getElem?_eq_some_iff.1 x).1
theorem ten_cells {w : World} {b : Nat} {v0 v1 v2 v3 v4 v5 v6 v7 v8 v9 : Value} {e : TypeId} (h : w.heap[b]? = some (.cells #[v0, v1, v2, v3, v4, v5, v6, v7, v8, v9] e (0, 0))) :
   w.cell? ⟨b, 0, none⟩ = some v0 ∧ w.cell? ⟨b, 1, none⟩ = some v1 ∧ w.cell? ⟨b, 2, none⟩ = some v2 ∧ w.cell? ⟨b, 3, none⟩ = some v3 ∧ w.cell? ⟨b, 4, none⟩ = some v4 ∧ w.cell? ⟨b, 5, none⟩ = some v5 ∧ w.cell? ⟨b, 6, none⟩ = some v6 ∧ w.cell? ⟨b, 7, none⟩ = some v7 ∧ w.cell? ⟨b, 8, none⟩ = some v8 ∧ w.cell? ⟨b, 9, none⟩ = some v9 ∧
   w.frozen? ⟨b, 0, none⟩ = false ∧ w.frozen? ⟨b, 1, none⟩ = false ∧ w.frozen? ⟨b, 2, none⟩ = false ∧ w.frozen? ⟨b, 3, none⟩ = false ∧ w.frozen? ⟨b, 4, none⟩ = false ∧ w.frozen? ⟨b, 5, none⟩ = false ∧ w.frozen? ⟨b, 6, none⟩ = false ∧ w.frozen? ⟨b, 7, none⟩ = false ∧ w.frozen? ⟨b, 8, none⟩ = false ∧ w.frozen? ⟨b, 9, none⟩ = false := by
 refine ⟨?_, ?_, ?_, ?_, ?_, ?_, ?_, ?_, ?_, ?_, free_of_block h 0, free_of_block h 1, free_of_block h 2, free_of_block h 3, free_of_block h 4, free_of_block h 5, free_of_block h 6, free_of_block h 7, free_of_block h 8, free_of_block h 9⟩ <;> (rw [cell_of_block h]; rfl)
theorem ext_ten {W w : World} (h : Ext W w) {b : Nat} (hb : W.heap.size ≤ b) (u0 u1 u2 u3 u4 u5 u6 u7 u8 u9 : Value) : Ext W ((((((((((w.setCell ⟨b, 0, none⟩ u0).setCell ⟨b, 1, none⟩ u1).setCell ⟨b, 2, none⟩ u2).setCell ⟨b, 3, none⟩ u3).setCell ⟨b, 4, none⟩ u4).setCell ⟨b, 5, none⟩ u5).setCell ⟨b, 6, none⟩ u6).setCell ⟨b, 7, none⟩ u7).setCell ⟨b, 8, none⟩ u8).setCell ⟨b, 9, none⟩ u9) :=
 ext_set (ext_set (ext_set (ext_set (ext_set (ext_set (ext_set (ext_set (ext_set (ext_set h hb _ _) hb _ _) hb _ _) hb _ _) hb _ _) hb _ _) hb _ _) hb _ _) hb _ _) hb _ _
def MakeRet (o : Bool) (n d : Int) (w : World) (e : Ending) (w' : World) : Prop := ∃ (s : Bool) (a b c d' : Nat) (t : Bool) (e' f g h : Nat), e = .returned (.tuple #[.agg #[.bool s, .int .u64 (a : Int), .int .u64 (b : Int), .int .u64 (c : Int), .int .u64 (d' : Int), .bool t, .int .u64 (e' : Int), .int .u64 (f : Int), .int .u64 (g : Int), .int .u64 (h : Int)], .bool o]) ∧ IsC s a b c d' n ∧ IsC t e' f g h d ∧ Ext w w'
theorem makeRet_no {w w' : World} (h : Ext w w') : MakeRet false 0 0 w (.returned (.tuple #[.agg #[.bool false, .int .u64 0, .int .u64 0, .int .u64 0, .int .u64 0, .bool false, .int .u64 0, .int .u64 0, .int .u64 0, .int .u64 0], .bool false])) w' :=
 ⟨false, 0, 0, 0, 0, false, 0, 0, 0, 0, rfl, isC_zero, isC_zero, h⟩
def Good (s : Bool) (z : Int) : Prop := s = true → z ≠ 0
set_option maxRecDepth 100000 in
set_option maxHeartbeats 4000000 in
theorem r_make_no (s t : Bool) (a b c d e f g h : Nat) (x y : Int) (w : World) (hx : IsW s a b c d x) (hy : IsW t e f g h y) (hno : ¬ (Good s x ∧ Good t y ∧ y ≠ 0)) :
   Calls Try.prog 41 #[.agg #[.bool s, .int .u64 (a : Int), .int .u64 (b : Int), .int .u64 (c : Int), .int .u64 (d : Int)], .agg #[.bool t, .int .u64 (e : Int), .int .u64 (f : Int), .int .u64 (g : Int), .int .u64 (h : Int)]] w (MakeRet false 0 0 w) := by
 obtain ⟨W, hW⟩ : ∃ W, W = (((w.alloc (.cells #[.bool s, .int .u64 (a : Int), .int .u64 (b : Int), .int .u64 (c : Int), .int .u64 (d : Int)] 25)).alloc (.cells #[.bool t, .int .u64 (e : Int), .int .u64 (f : Int), .int .u64 (g : Int), .int .u64 (h : Int)] 25)).alloc (.cells #[.bool false, .int .u64 0, .int .u64 0, .int .u64 0, .int .u64 0, .bool false, .int .u64 0, .int .u64 0, .int .u64 0, .int .u64 0] 40)) := ⟨_, rfl⟩
 have H3 := three_boxes w (.cells #[.bool s, .int .u64 (a : Int), .int .u64 (b : Int), .int .u64 (c : Int), .int .u64 (d : Int)] 25) (.cells #[.bool t, .int .u64 (e : Int), .int .u64 (f : Int), .int .u64 (g : Int), .int .u64 (h : Int)] 25) (.cells #[.bool false, .int .u64 0, .int .u64 0, .int .u64 0, .int .u64 0, .bool false, .int .u64 0, .int .u64 0, .int .u64 0, .int .u64 0] 40)
 rw [← hW] at H3
 have B0 : Box W w.heap.size s a b c d := H3.1
 have B1 : Box W (w.heap.size + 1) t e f g h := H3.2.1
 have B2 : Box10 W (w.heap.size + 1 + 1) false 0 0 0 0 false 0 0 0 0 := H3.2.2
 have EE : Ext w W := by rw [hW]; exact ((ext_alloc _ _).trans (ext_alloc _ _)).trans (ext_alloc _ _)
 have HW := hide hW
 obtain ⟨o1, ho1⟩ : ∃ o, (!s || decide (x ≠ 0)) = o := ⟨_, rfl⟩
 obtain ⟨o2, ho2⟩ : ∃ o, (!t || decide (y ≠ 0)) = o := ⟨_, rfl⟩
 obtain ⟨sg, hsg⟩ : ∃ sg, y.sign = sg := ⟨_, rfl⟩
 have k1 : Hid (∀ w', Calls Try.prog 64 #[.agg #[.bool s, .int .u64 (a : Int), .int .u64 (b : Int), .int .u64 (c : Int), .int .u64 (d : Int)]] w' (BoolRet o1 w')) := fun w' => by rw [← ho1]; exact p_valid _ _ _ _ _ _ w' hx
 have k2 : Hid (∀ w', Calls Try.prog 64 #[.agg #[.bool t, .int .u64 (e : Int), .int .u64 (f : Int), .int .u64 (g : Int), .int .u64 (h : Int)]] w' (BoolRet o2 w')) := fun w' => by rw [← ho2]; exact p_valid _ _ _ _ _ _ w' hy
 have k3 : Hid (∀ w', Calls Try.prog 70 #[.agg #[.bool t, .int .u64 (e : Int), .int .u64 (f : Int), .int .u64 (g : Int), .int .u64 (h : Int)]] w' (IntRet .i64 sg w')) := fun w' => by rw [← hsg]; exact p_sign _ _ _ _ _ _ w' hy
 have hways : o1 = false ∨ (o1 = true ∧ o2 = false) ∨ (o1 = true ∧ o2 = true ∧ sg = 0) := by
   unfold Good at hno
   rw [← ho1, ← ho2, ← hsg]
   by_cases hx0 : x = 0 <;> by_cases hy0 : y = 0 <;> cases s <;> cases t <;> simp [hx0, hy0] at hno ⊢
 clear hW H3 ho1 ho2 hsg hx hy hno
 obtain ⟨c0, c1, c2, c3, c4, _⟩ := five_cells B0
 obtain ⟨d0, d1, d2, d3, d4, _⟩ := five_cells B1
 go_enter Try.func41, Try.ntmps41
 go_upto_region 1 with fail
 rw [← HW.out]
 clear HW
 rcases hways with rfl | ⟨rfl, rfl⟩ | ⟨rfl, rfl, rfl⟩
 all_goals go_wp2_with (first
   | (go_at_call 64; (with_reducible refine (k1.out _).mono ?_); rintro e' w2 ⟨rfl, hE⟩; have B1 := B1.ext hE; have B2 := B2.ext hE; have EE := EE.trans hE; obtain ⟨d0, d1, d2, d3, d4, _⟩ := five_cells B1; obtain ⟨i0, i1, i2, i3, i4, i5, i6, i7, i8, i9, j0, j1, j2, j3, j4, j5, j6, j7, j8, j9⟩ := ten_cells B2; clear hE)
   | (go_at_call 64; (with_reducible refine (k2.out _).mono ?_); rintro e' w3 ⟨rfl, hE⟩; have B1 := B1.ext hE; have B2 := B2.ext hE; have EE := EE.trans hE; obtain ⟨d0, d1, d2, d3, d4, _⟩ := five_cells B1; obtain ⟨i0, i1, i2, i3, i4, i5, i6, i7, i8, i9, j0, j1, j2, j3, j4, j5, j6, j7, j8, j9⟩ := ten_cells B2; clear hE)
   | (go_at_call 70; (with_reducible refine (k3.out _).mono ?_); rintro e' w4 ⟨rfl, hE⟩; have B1 := B1.ext hE; have B2 := B2.ext hE; have EE := EE.trans hE; obtain ⟨d0, d1, d2, d3, d4, _⟩ := five_cells B1; obtain ⟨i0, i1, i2, i3, i4, i5, i6, i7, i8, i9, j0, j1, j2, j3, j4, j5, j6, j7, j8, j9⟩ := ten_cells B2; clear hE))
 all_goals exact bodyPost_ret (v := .tuple #[.agg #[.bool false, .int .u64 0, .int .u64 0, .int .u64 0, .int .u64 0, .bool false, .int .u64 0, .int .u64 0, .int .u64 0, .int .u64 0], .bool false]) (by simp [results, Try.results41, go_sem, i0, i1, i2, i3, i4, i5, i6, i7, i8, i9]) rfl (makeRet_no (ext_ten EE (by omega) _ _ _ _ _ _ _ _ _ _))
theorem Box10.far {w : World} {k b' : Nat} {s : Bool} {a b c d : Nat} {t : Bool} {e f g h : Nat} (x : Box10 w k s a b c d t e f g h) (hn : k ≠ b') (u0 u1 u2 u3 u4 : Value) : Box10 (((((w.setCell ⟨b', 0, none⟩ u0).setCell ⟨b', 1, none⟩ u1).setCell ⟨b', 2, none⟩ u2).setCell ⟨b', 3, none⟩ u3).setCell ⟨b', 4, none⟩ u4) k s a b c d t e f g h := by
 unfold Box10 at *
 rw [heap_setCell_other _ _ _ _ (by simpa using hn), heap_setCell_other _ _ _ _ (by simpa using hn), heap_setCell_other _ _ _ _ (by simpa using hn), heap_setCell_other _ _ _ _ (by simpa using hn), heap_setCell_other _ _ _ _ (by simpa using hn)]
 exact x
def Three (w : World) (x y : Int) (wx : World) : Prop := ∃ (s : Bool) (a b c d : Nat) (t : Bool) (e f g h : Nat), IsC s a b c d x ∧ IsC t e f g h y ∧ Box wx w.heap.size s a b c d ∧ Box wx (w.heap.size + 1) t e f g h ∧ Box10 wx (w.heap.size + 1 + 1) false 0 0 0 0 false 0 0 0 0 ∧ Ext w wx
set_option maxRecDepth 100000 in
set_option maxHeartbeats 16000000 in
theorem r_make_yes (s t : Bool) (a b c d e f g h : Nat) (x y : Int) (w : World) (hx : IsC s a b c d x) (hy : IsC t e f g h y) (hy0 : y ≠ 0) (o : Bool) (ho : decide ((numR x y).natAbs < 170141183460469231731687303715884105728 ∧ (denR x y).natAbs < 170141183460469231731687303715884105728) = o) :
   Calls Try.prog 41 #[.agg #[.bool s, .int .u64 (a : Int), .int .u64 (b : Int), .int .u64 (c : Int), .int .u64 (d : Int)], .agg #[.bool t, .int .u64 (e : Int), .int .u64 (f : Int), .int .u64 (g : Int), .int .u64 (h : Int)]] w (MakeRet o (if o then numR x y else 0) (if o then denR x y else 0) w) := by
 obtain ⟨N, hN⟩ : ∃ N, (if o then numR x y else 0) = N := ⟨_, rfl⟩
 obtain ⟨D, hD⟩ : ∃ D, (if o then denR x y else 0) = D := ⟨_, rfl⟩
 rw [hN, hD]
 have HN := hide hN
 have HD := hide hD
 obtain ⟨x', hx'⟩ : ∃ x', (if y < 0 then -x else x) = x' := ⟨_, rfl⟩
 have HX' := hide hx'
 clear hN hD hx'
 obtain ⟨W, hW⟩ : ∃ W, W = (((w.alloc (.cells #[.bool s, .int .u64 (a : Int), .int .u64 (b : Int), .int .u64 (c : Int), .int .u64 (d : Int)] 25)).alloc (.cells #[.bool t, .int .u64 (e : Int), .int .u64 (f : Int), .int .u64 (g : Int), .int .u64 (h : Int)] 25)).alloc (.cells #[.bool false, .int .u64 0, .int .u64 0, .int .u64 0, .int .u64 0, .bool false, .int .u64 0, .int .u64 0, .int .u64 0, .int .u64 0] 40)) := ⟨_, rfl⟩
 have H3 := three_boxes w (.cells #[.bool s, .int .u64 (a : Int), .int .u64 (b : Int), .int .u64 (c : Int), .int .u64 (d : Int)] 25) (.cells #[.bool t, .int .u64 (e : Int), .int .u64 (f : Int), .int .u64 (g : Int), .int .u64 (h : Int)] 25) (.cells #[.bool false, .int .u64 0, .int .u64 0, .int .u64 0, .int .u64 0, .bool false, .int .u64 0, .int .u64 0, .int .u64 0, .int .u64 0] 40)
 rw [← hW] at H3
 have B0 : Box W w.heap.size s a b c d := H3.1
 have B1 : Box W (w.heap.size + 1) t e f g h := H3.2.1
 have B2 : Box10 W (w.heap.size + 1 + 1) false 0 0 0 0 false 0 0 0 0 := H3.2.2
 have EE : Ext w W := by rw [hW]; exact ((ext_alloc _ _).trans (ext_alloc _ _)).trans (ext_alloc _ _)
 have HW := hide hW
 obtain ⟨sg, hsg⟩ : ∃ sg, y.sign = sg := ⟨_, rfl⟩
 have hgx : (!s || decide (x ≠ 0)) = true := by have := hx.2; cases s <;> simp at this ⊢; exact this
 have hgy : (!t || decide (y ≠ 0)) = true := by simp [hy0]
 have k1 : Hid (∀ w', Calls Try.prog 64 #[.agg #[.bool s, .int .u64 (a : Int), .int .u64 (b : Int), .int .u64 (c : Int), .int .u64 (d : Int)]] w' (BoolRet true w')) := fun w' => by rw [← hgx]; exact p_valid _ _ _ _ _ _ w' hx.1
 have k2 : Hid (∀ w', Calls Try.prog 64 #[.agg #[.bool t, .int .u64 (e : Int), .int .u64 (f : Int), .int .u64 (g : Int), .int .u64 (h : Int)]] w' (BoolRet true w')) := fun w' => by rw [← hgy]; exact p_valid _ _ _ _ _ _ w' hy.1
 have k3 : Hid (∀ w', Calls Try.prog 70 #[.agg #[.bool t, .int .u64 (e : Int), .int .u64 (f : Int), .int .u64 (g : Int), .int .u64 (h : Int)]] w' (IntRet .i64 sg w')) := fun w' => by rw [← hsg]; exact p_sign _ _ _ _ _ _ w' hy.1
 have hs0 : ¬ (sg = 0) := by rw [← hsg]; intro e; exact hy0 (Int.sign_eq_zero_iff_zero.1 e)
 have hsn : sg < 0 ↔ y < 0 := by
   rw [← hsg]
   rcases Int.lt_trichotomy y 0 with h1 | h1 | h1
   · rw [Int.sign_eq_neg_one_of_neg h1]; omega
   · exact absurd h1 hy0
   · rw [Int.sign_eq_one_of_pos h1]; omega
 have kn1 : Hid (∀ w', Calls Try.prog 65 #[.agg #[.bool s, .int .u64 (a : Int), .int .u64 (b : Int), .int .u64 (c : Int), .int .u64 (d : Int)]] w' (WideOnly (-x) w')) := fun w' => p_neg _ _ _ _ _ _ w' hx.1
 have kn2 : Hid (∀ w', Calls Try.prog 65 #[.agg #[.bool t, .int .u64 (e : Int), .int .u64 (f : Int), .int .u64 (g : Int), .int .u64 (h : Int)]] w' (WideOnly (-y) w')) := fun w' => p_neg _ _ _ _ _ _ w' hy.1
 have HO := hide ho
 have HSN := hide hsn
 have KX := hide hx
 have KY := hide hy
 clear hW H3 hsg hx hy hgx hgy ho hsn
 obtain ⟨c0, c1, c2, c3, c4, f0, f1, f2, f3, f4⟩ := five_cells B0
 obtain ⟨d0, d1, d2, d3, d4, g0, g1, g2, g3, g4⟩ := five_cells B1
 go_enter Try.func41, Try.ntmps41
 go_upto_region 1 with fail
 rw [← HW.out]
 clear HW
 go_upto_if 23 with (first
   | (go_at_call 64; (with_reducible refine (k1.out _).mono ?_); rintro e' w2 ⟨rfl, hE⟩; have B0 := B0.ext hE; have B1 := B1.ext hE; have B2 := B2.ext hE; have EE := EE.trans hE; obtain ⟨c0, c1, c2, c3, c4, f0, f1, f2, f3, f4⟩ := five_cells B0; obtain ⟨d0, d1, d2, d3, d4, g0, g1, g2, g3, g4⟩ := five_cells B1; obtain ⟨i0, i1, i2, i3, i4, i5, i6, i7, i8, i9, j0, j1, j2, j3, j4, j5, j6, j7, j8, j9⟩ := ten_cells B2; clear hE)
   | (go_at_call 64; (with_reducible refine (k2.out _).mono ?_); rintro e' w3 ⟨rfl, hE⟩; have B0 := B0.ext hE; have B1 := B1.ext hE; have B2 := B2.ext hE; have EE := EE.trans hE; obtain ⟨c0, c1, c2, c3, c4, f0, f1, f2, f3, f4⟩ := five_cells B0; obtain ⟨d0, d1, d2, d3, d4, g0, g1, g2, g3, g4⟩ := five_cells B1; obtain ⟨i0, i1, i2, i3, i4, i5, i6, i7, i8, i9, j0, j1, j2, j3, j4, j5, j6, j7, j8, j9⟩ := ten_cells B2; clear hE)
   | (go_at_call 70; (with_reducible refine (k3.out _).mono ?_); rintro e' w4 ⟨rfl, hE⟩; have B0 := B0.ext hE; have B1 := B1.ext hE; have B2 := B2.ext hE; have EE := EE.trans hE; obtain ⟨c0, c1, c2, c3, c4, f0, f1, f2, f3, f4⟩ := five_cells B0; obtain ⟨d0, d1, d2, d3, d4, g0, g1, g2, g3, g4⟩ := five_cells B1; obtain ⟨i0, i1, i2, i3, i4, i5, i6, i7, i8, i9, j0, j1, j2, j3, j4, j5, j6, j7, j8, j9⟩ := ten_cells B2; clear hE))
 obtain ⟨y', hy'⟩ : ∃ y', (if y < 0 then -y else y) = y' := ⟨_, rfl⟩
 have HY' := hide hy'
 clear hy'
 have HY0 := hide hy0
 clear hy0
 go_cut [] (fun wx => Three w x' y' wx)
 case first =>
   by_cases hn : sg < 0
   · have hneg := HSN.out.1 hn
     have hx1 : Hid (x' = -x) := by rw [← HX'.out, if_pos hneg]; exact rfl
     have hy1 : Hid (y' = -y) := by rw [← HY'.out, if_pos hneg]; exact rfl
     clear hneg
     go_wp2_with fail
     go_region_with (first
       | (go_at_call 65; (with_reducible refine (kn1.out _).mono ?_); rintro e' w5 ⟨s5, a5, b5, c5, d5, rfl, hC5, hE⟩; have B0 : Box w5 w.heap.size s a b c d := (by first | exact B0.ext hE | exact B0.drew.ext hE); have B1 : Box w5 (w.heap.size + 1) t e f g h := (by first | exact B1.ext hE | exact B1.drew.ext hE); have B2 : Box10 w5 (w.heap.size + 1 + 1) false 0 0 0 0 false 0 0 0 0 := (by first | exact B2.ext hE | exact B2.drew.ext hE); have EE : Ext w w5 := (by first | exact EE.trans hE | exact (EE.trans (ext_drew _)).trans hE); obtain ⟨c0, c1, c2, c3, c4, f0, f1, f2, f3, f4⟩ := five_cells B0; obtain ⟨d0, d1, d2, d3, d4, g0, g1, g2, g3, g4⟩ := five_cells B1; clear hE)
       | (go_at_call 65; (with_reducible refine (kn2.out _).mono ?_); rintro e' w6 ⟨s6, a6, b6, c6, d6, rfl, hC6, hE⟩; have B0 : Box w6 w.heap.size s a b c d := (by first | exact B0.ext hE | exact B0.drew.ext hE); have B1 : Box w6 (w.heap.size + 1) t e f g h := (by first | exact B1.ext hE | exact B1.drew.ext hE); have B2 : Box10 w6 (w.heap.size + 1 + 1) false 0 0 0 0 false 0 0 0 0 := (by first | exact B2.ext hE | exact B2.drew.ext hE); have EE : Ext w w6 := (by first | exact EE.trans hE | exact (EE.trans (ext_drew _)).trans hE); obtain ⟨c0, c1, c2, c3, c4, f0, f1, f2, f3, f4⟩ := five_cells B0; obtain ⟨d0, d1, d2, d3, d4, g0, g1, g2, g3, g4⟩ := five_cells B1; clear hE))
     all_goals go_wp2_with fail
     all_goals go_meet
     all_goals exact ⟨s5, a5, b5, c5, d5, s6, a6, b6, c6, d6, by rw [hx1.out]; exact hC5, by rw [hy1.out]; exact hC6, (B0.put).far (by omega) _ _ _ _ _, (B1.far (by omega) _ _ _ _ _).put, (B2.far (by omega) _ _ _ _ _).far (by omega) _ _ _ _ _, ext_five (ext_five EE (Nat.le_refl _) _ _ _ _ _) (by omega) _ _ _ _ _⟩
   · have hneg : ¬ y < 0 := fun e => hn (HSN.out.2 e)
     have hx1 : Hid (x' = x) := by rw [← HX'.out, if_neg hneg]; exact rfl
     have hy1 : Hid (y' = y) := by rw [← HY'.out, if_neg hneg]; exact rfl
     clear hneg
     go_wp2_with fail
     all_goals go_meet
     all_goals exact ⟨s, a, b, c, d, t, e, f, g, h, by rw [hx1.out]; exact KX.out, by rw [hy1.out]; exact KY.out, B0, B1, B2, EE⟩
 case rest =>
   clear B0 B1 B2 EE k1 k2 k3 kn1 kn2
   obtain ⟨s, a, b, c, d, t, e, f, g, h, hx, hy, B0, B1, B2, EE⟩ := hcut
   have hyp : 0 < y' := by
     have h1 := HY'.out
     have h2 := HY0.out
     split at h1 <;> omega
   have hgg : Int.gcd x' y' = Int.gcd x y := by
     rw [← HX'.out, ← HY'.out]
     by_cases hn : y < 0
     · rw [if_pos hn, if_pos hn, Int.gcd_neg, Int.neg_gcd]
     · rw [if_neg hn, if_neg hn]
   obtain ⟨G, hG⟩ : ∃ G : Int, (Int.gcd x' y' : Int) = G := ⟨_, rfl⟩
   have hG0 : 0 < G := by rw [← hG]; have := Int.gcd_pos_of_ne_zero_right x' (show y' ≠ 0 by omega); omega
   have hn1 : numR x y = x' / G := by unfold numR; rw [HX'.out, ← hgg, hG]
   have hd1 : denR x y = y' / G := by unfold denR; rw [HY'.out, ← hgg, hG]
   obtain ⟨n, hn⟩ : ∃ n, x' / G = n := ⟨_, rfl⟩
   obtain ⟨m, hm⟩ : ∃ m, y' / G = m := ⟨_, rfl⟩
   rw [hn] at hn1
   rw [hm] at hd1
   have HN1 := hide hn1
   have HD1 := hide hd1
   have HGG := hide hG
   have HNN := hide hn
   have HMM := hide hm
   have hGne : Hid (G ≠ 0) := by unfold Hid; omega
   have HYP := hide hyp
   have KX' := hide hx
   have KY' := hide hy
   clear hn1 hd1 hG hn hm hG0 hgg hx hy hyp
   obtain ⟨c0, c1, c2, c3, c4, f0, f1, f2, f3, f4⟩ := five_cells B0
   obtain ⟨d0, d1, d2, d3, d4, g0, g1, g2, g3, g4⟩ := five_cells B1
   go_upto_region 6 with (go_at_call 71; refine (r_gcd s t a b c d e f g h x' y' _ KX'.out KY'.out HYP.out).mono ?_; rintro e' w5 ⟨s5, a5, b5, c5, d5, rfl, C5, hE⟩; rw [HGG.out] at C5; have B0 := B0.ext hE; have B1 := B1.ext hE; have B2 := B2.ext hE; have EE := EE.trans hE; clear hE)
   have K5 := hide C5
   have B5 : Box (w5.alloc (.cells #[.bool s5, .int .u64 (a5 : Int), .int .u64 (b5 : Int), .int .u64 (c5 : Int), .int .u64 (d5 : Int)] 25)) w5.heap.size s5 a5 b5 c5 d5 := heap_alloc_new w5 _
   have hE := ext_alloc w5 (.cells #[.bool s5, .int .u64 (a5 : Int), .int .u64 (b5 : Int), .int .u64 (c5 : Int), .int .u64 (d5 : Int)] 25)
   have l2 := B2.lt
   have B0 := B0.ext hE
   have B1 := B1.ext hE
   have B2 := B2.ext hE
   have EE := EE.trans hE
   generalize w5.alloc (.cells #[.bool s5, .int .u64 (a5 : Int), .int .u64 (b5 : Int), .int .u64 (c5 : Int), .int .u64 (d5 : Int)] 25) = W5 at *
   generalize w5.heap.size = g5 at *
   clear C5 hE
   obtain ⟨c0, c1, c2, c3, c4, f0, f1, f2, f3, f4⟩ := five_cells B0
   obtain ⟨i0, i1, i2, i3, i4, _⟩ := five_cells B5
   go_upto_region 7 with (go_at_call 72; refine (p_divMod s s5 a b c d a5 b5 c5 d5 x' G _ KX'.out.1 K5.out.1).mono ?_; rintro e' w6 ⟨s6, a6, b6, c6, d6, s7, a7, b7, c7, d7, o7, rfl, ho7, C6, C7, hE⟩; have Ho7 := hide ho7; rw [if_neg hGne.out] at C6; rw [HNN.out] at C6; have K6 := hide C6; clear ho7 C6 C7; have B0 := B0.ext hE; have B1 := B1.ext hE; have B2 := B2.ext hE; have B5 := B5.ext hE; have EE := EE.trans hE; clear hE; obtain ⟨c0, c1, c2, c3, c4, f0, f1, f2, f3, f4⟩ := five_cells B0)
   have B1 := B1.far (b' := w.heap.size) (by omega) (.bool s6) (.int .u64 (a6 : Int)) (.int .u64 (b6 : Int)) (.int .u64 (c6 : Int)) (.int .u64 (d6 : Int))
   have B2 := B2.far (b' := w.heap.size) (by omega) (.bool s6) (.int .u64 (a6 : Int)) (.int .u64 (b6 : Int)) (.int .u64 (c6 : Int)) (.int .u64 (d6 : Int))
   have B5 := B5.far (b' := w.heap.size) (by omega) (.bool s6) (.int .u64 (a6 : Int)) (.int .u64 (b6 : Int)) (.int .u64 (c6 : Int)) (.int .u64 (d6 : Int))
   have B0 := B0.put (t := s6) (a' := a6) (b' := b6) (c' := c6) (d' := d6)
   have EE := ext_five EE (b := w.heap.size) (Nat.le_refl _) (.bool s6) (.int .u64 (a6 : Int)) (.int .u64 (b6 : Int)) (.int .u64 (c6 : Int)) (.int .u64 (d6 : Int))
   generalize ((((w6.setCell ⟨w.heap.size, 0, none⟩ (.bool s6)).setCell ⟨w.heap.size, 1, none⟩ (.int .u64 (a6 : Int))).setCell ⟨w.heap.size, 2, none⟩ (.int .u64 (b6 : Int))).setCell ⟨w.heap.size, 3, none⟩ (.int .u64 (c6 : Int))).setCell ⟨w.heap.size, 4, none⟩ (.int .u64 (d6 : Int)) = W6 at *
   obtain ⟨d0, d1, d2, d3, d4, g0, g1, g2, g3, g4⟩ := five_cells B1
   obtain ⟨i0, i1, i2, i3, i4, _⟩ := five_cells B5
   go_upto_region 8 with (go_at_call 72; refine (p_divMod t s5 e f g h a5 b5 c5 d5 y' G _ KY'.out.1 K5.out.1).mono ?_; rintro e' w7 ⟨s8, a8, b8, c8, d8, s9, a9, b9, c9, d9, o9, rfl, ho9, C8, C9, hE⟩; have Ho9 := hide ho9; rw [if_neg hGne.out] at C8; rw [HMM.out] at C8; have K8 := hide C8; clear ho9 C8 C9; have B0 := B0.ext hE; have B1 := B1.ext hE; have B2 := B2.ext hE; have EE := EE.trans hE; clear hE; obtain ⟨d0, d1, d2, d3, d4, g0, g1, g2, g3, g4⟩ := five_cells B1)
   have B0 := B0.far (b' := w.heap.size + 1) (by omega) (.bool s8) (.int .u64 (a8 : Int)) (.int .u64 (b8 : Int)) (.int .u64 (c8 : Int)) (.int .u64 (d8 : Int))
   have B2 := B2.far (b' := w.heap.size + 1) (by omega) (.bool s8) (.int .u64 (a8 : Int)) (.int .u64 (b8 : Int)) (.int .u64 (c8 : Int)) (.int .u64 (d8 : Int))
   have B1 := B1.put (t := s8) (a' := a8) (b' := b8) (c' := c8) (d' := d8)
   have EE := ext_five EE (b := w.heap.size + 1) (by omega) (.bool s8) (.int .u64 (a8 : Int)) (.int .u64 (b8 : Int)) (.int .u64 (c8 : Int)) (.int .u64 (d8 : Int))
   generalize ((((w7.setCell ⟨w.heap.size + 1, 0, none⟩ (.bool s8)).setCell ⟨w.heap.size + 1, 1, none⟩ (.int .u64 (a8 : Int))).setCell ⟨w.heap.size + 1, 2, none⟩ (.int .u64 (b8 : Int))).setCell ⟨w.heap.size + 1, 3, none⟩ (.int .u64 (c8 : Int))).setCell ⟨w.heap.size + 1, 4, none⟩ (.int .u64 (d8 : Int)) = W8 at *
   obtain ⟨q1, hq1⟩ : ∃ o, decide (n.natAbs < 170141183460469231731687303715884105728) = o := ⟨_, rfl⟩
   obtain ⟨q2, hq2⟩ : ∃ o, decide (m.natAbs < 170141183460469231731687303715884105728) = o := ⟨_, rfl⟩
   have kf1 : Hid (∀ w', Calls Try.prog 73 #[.agg #[.bool s6, .int .u64 (a6 : Int), .int .u64 (b6 : Int), .int .u64 (c6 : Int), .int .u64 (d6 : Int)]] w' (BoolRet q1 w')) := fun w' => by rw [← hq1]; exact r_fits _ _ _ _ _ _ w' K6.out
   have kf2 : Hid (∀ w', Calls Try.prog 73 #[.agg #[.bool s8, .int .u64 (a8 : Int), .int .u64 (b8 : Int), .int .u64 (c8 : Int), .int .u64 (d8 : Int)]] w' (BoolRet q2 w')) := fun w' => by rw [← hq2]; exact r_fits _ _ _ _ _ _ w' K8.out
   have hoq : o = (q1 && q2) := by
     rw [← HO.out, HN1.out, HD1.out, ← hq1, ← hq2, Bool.decide_and]
   clear HO
   obtain ⟨c0, c1, c2, c3, c4, f0, f1, f2, f3, f4⟩ := five_cells B0
   obtain ⟨d0, d1, d2, d3, d4, g0, g1, g2, g3, g4⟩ := five_cells B1
   obtain ⟨i0, i1, i2, i3, i4, i5, i6, i7, i8, i9, j0, j1, j2, j3, j4, j5, j6, j7, j8, j9⟩ := ten_cells B2
   have hways : (q1 = false ∧ o = false) ∨ (q1 = true ∧ q2 = false ∧ o = false) ∨ (q1 = true ∧ q2 = true ∧ o = true) := by
     rw [hoq]; cases q1 <;> cases q2 <;> simp
   clear hoq hq1 hq2
   rcases hways with ⟨rfl, rfl⟩ | ⟨rfl, rfl, rfl⟩ | ⟨rfl, rfl, rfl⟩
   · have KR : Hid (N = 0 ∧ D = 0) := ⟨HN.out.symm, HD.out.symm⟩
     go_wp2_with (first
       | (go_at_call 73; (with_reducible refine (kf1.out _).mono ?_); rintro e' w8 ⟨rfl, hE⟩; have B0 := B0.ext hE; have B1 := B1.ext hE; have B2 := B2.ext hE; have EE := EE.trans hE; obtain ⟨c0, c1, c2, c3, c4, f0, f1, f2, f3, f4⟩ := five_cells B0; obtain ⟨d0, d1, d2, d3, d4, g0, g1, g2, g3, g4⟩ := five_cells B1; obtain ⟨i0, i1, i2, i3, i4, i5, i6, i7, i8, i9, j0, j1, j2, j3, j4, j5, j6, j7, j8, j9⟩ := ten_cells B2; clear hE))
     all_goals exact bodyPost_ret (v := .tuple #[.agg #[.bool false, .int .u64 0, .int .u64 0, .int .u64 0, .int .u64 0, .bool false, .int .u64 0, .int .u64 0, .int .u64 0, .int .u64 0], .bool false]) (by simp [results, Try.results41, go_sem, i0, i1, i2, i3, i4, i5, i6, i7, i8, i9]) rfl (by rw [KR.out.1, KR.out.2]; exact makeRet_no (ext_ten EE (by omega) _ _ _ _ _ _ _ _ _ _))
   · have KR : Hid (N = 0 ∧ D = 0) := ⟨HN.out.symm, HD.out.symm⟩
     go_wp2_with (first
       | (go_at_call 73; (with_reducible refine (kf1.out _).mono ?_); rintro e' w8 ⟨rfl, hE⟩; have B0 := B0.ext hE; have B1 := B1.ext hE; have B2 := B2.ext hE; have EE := EE.trans hE; obtain ⟨c0, c1, c2, c3, c4, f0, f1, f2, f3, f4⟩ := five_cells B0; obtain ⟨d0, d1, d2, d3, d4, g0, g1, g2, g3, g4⟩ := five_cells B1; obtain ⟨i0, i1, i2, i3, i4, i5, i6, i7, i8, i9, j0, j1, j2, j3, j4, j5, j6, j7, j8, j9⟩ := ten_cells B2; clear hE)
       | (go_at_call 73; (with_reducible refine (kf2.out _).mono ?_); rintro e' w9 ⟨rfl, hE⟩; have B0 := B0.ext hE; have B1 := B1.ext hE; have B2 := B2.ext hE; have EE := EE.trans hE; obtain ⟨c0, c1, c2, c3, c4, f0, f1, f2, f3, f4⟩ := five_cells B0; obtain ⟨d0, d1, d2, d3, d4, g0, g1, g2, g3, g4⟩ := five_cells B1; obtain ⟨i0, i1, i2, i3, i4, i5, i6, i7, i8, i9, j0, j1, j2, j3, j4, j5, j6, j7, j8, j9⟩ := ten_cells B2; clear hE))
     all_goals exact bodyPost_ret (v := .tuple #[.agg #[.bool false, .int .u64 0, .int .u64 0, .int .u64 0, .int .u64 0, .bool false, .int .u64 0, .int .u64 0, .int .u64 0, .int .u64 0], .bool false]) (by simp [results, Try.results41, go_sem, i0, i1, i2, i3, i4, i5, i6, i7, i8, i9]) rfl (by rw [KR.out.1, KR.out.2]; exact makeRet_no (ext_ten EE (by omega) _ _ _ _ _ _ _ _ _ _))
   · have KR : Hid (IsC s6 a6 b6 c6 d6 N ∧ IsC s8 a8 b8 c8 d8 D) := by
       have h1 := HN.out
       have h2 := HD.out
       rw [if_pos rfl] at h1 h2
       rw [← h1, ← h2, HN1.out, HD1.out]
       exact ⟨K6.out, K8.out⟩
     go_wp2_with (first
       | (go_at_call 73; (with_reducible refine (kf1.out _).mono ?_); rintro e' w8 ⟨rfl, hE⟩; have B0 := B0.ext hE; have B1 := B1.ext hE; have B2 := B2.ext hE; have EE := EE.trans hE; obtain ⟨c0, c1, c2, c3, c4, f0, f1, f2, f3, f4⟩ := five_cells B0; obtain ⟨d0, d1, d2, d3, d4, g0, g1, g2, g3, g4⟩ := five_cells B1; obtain ⟨i0, i1, i2, i3, i4, i5, i6, i7, i8, i9, j0, j1, j2, j3, j4, j5, j6, j7, j8, j9⟩ := ten_cells B2; clear hE)
       | (go_at_call 73; (with_reducible refine (kf2.out _).mono ?_); rintro e' w9 ⟨rfl, hE⟩; have B0 := B0.ext hE; have B1 := B1.ext hE; have B2 := B2.ext hE; have EE := EE.trans hE; obtain ⟨c0, c1, c2, c3, c4, f0, f1, f2, f3, f4⟩ := five_cells B0; obtain ⟨d0, d1, d2, d3, d4, g0, g1, g2, g3, g4⟩ := five_cells B1; obtain ⟨i0, i1, i2, i3, i4, i5, i6, i7, i8, i9, j0, j1, j2, j3, j4, j5, j6, j7, j8, j9⟩ := ten_cells B2; clear hE))
     all_goals exact bodyPost_ret (v := .tuple #[.agg #[.bool s6, .int .u64 (a6 : Int), .int .u64 (b6 : Int), .int .u64 (c6 : Int), .int .u64 (d6 : Int), .bool s8, .int .u64 (a8 : Int), .int .u64 (b8 : Int), .int .u64 (c8 : Int), .int .u64 (d8 : Int)], .bool true]) (by simp [results, Try.results41, go_sem, i0, i1, i2, i3, i4, i5, i6, i7, i8, i9]) rfl ⟨s6, a6, b6, c6, d6, s8, a8, b8, c8, d8, rfl, KR.out.1, KR.out.2, ext_ten EE (by omega) _ _ _ _ _ _ _ _ _ _⟩
end
section
open Go Go.RowKit
instance (s : Bool) (z : Int) : Decidable (Good s z) := by unfold Good; infer_instance
def RatOk (s : Bool) (x : Int) (t : Bool) (y : Int) : Prop := Good s x ∧ Good t y ∧ Frac x y
instance (s : Bool) (x : Int) (t : Bool) (y : Int) : Decidable (RatOk s x t y) := by unfold RatOk; infer_instance
set_option maxRecDepth 100000 in
set_option maxHeartbeats 8000000 in
theorem r_valid (s t : Bool) (a b c d e f g h : Nat) (x y : Int) (w : World) (hx : IsW s a b c d x) (hy : IsW t e f g h y) (v : Bool) (hv : decide (RatOk s x t y) = v) :
   Calls Try.prog 50 #[.agg #[.bool s, .int .u64 (a : Int), .int .u64 (b : Int), .int .u64 (c : Int), .int .u64 (d : Int), .bool t, .int .u64 (e : Int), .int .u64 (f : Int), .int .u64 (g : Int), .int .u64 (h : Int)]] w (BoolRet v w) := by
 have HX := hide (ext_alloc w (.cells #[.bool s, .int .u64 (a : Int), .int .u64 (b : Int), .int .u64 (c : Int), .int .u64 (d : Int), .bool t, .int .u64 (e : Int), .int .u64 (f : Int), .int .u64 (g : Int), .int .u64 (h : Int)] 40))
 have H0 : Box10 (w.alloc (.cells #[.bool s, .int .u64 (a : Int), .int .u64 (b : Int), .int .u64 (c : Int), .int .u64 (d : Int), .bool t, .int .u64 (e : Int), .int .u64 (f : Int), .int .u64 (g : Int), .int .u64 (h : Int)] 40)) w.heap.size s a b c d t e f g h := heap_alloc_new w _
 obtain ⟨W, hW⟩ : ∃ W, W = w.alloc (.cells #[.bool s, .int .u64 (a : Int), .int .u64 (b : Int), .int .u64 (c : Int), .int .u64 (d : Int), .bool t, .int .u64 (e : Int), .int .u64 (f : Int), .int .u64 (g : Int), .int .u64 (h : Int)] 40) := ⟨_, rfl⟩
 rw [← hW] at HX H0
 have HW := hide hW
 clear hW
 obtain ⟨c0, c1, c2, c3, c4, c5, c6, c7, c8, c9, _⟩ := ten_cells H0
 by_cases hg : Good s x ∧ Good t y ∧ y ≠ 0
 · have kx : IsC s a b c d x := ⟨hx, hg.1⟩
   have ky : IsC t e f g h y := ⟨hy, hg.2.1⟩
   obtain ⟨o, ho⟩ : ∃ o, decide ((numR x y).natAbs < 170141183460469231731687303715884105728 ∧ (denR x y).natAbs < 170141183460469231731687303715884105728) = o := ⟨_, rfl⟩
   cases o
   · have km : Hid (∀ w', Calls Try.prog 41 #[.agg #[.bool s, .int .u64 (a : Int), .int .u64 (b : Int), .int .u64 (c : Int), .int .u64 (d : Int)], .agg #[.bool t, .int .u64 (e : Int), .int .u64 (f : Int), .int .u64 (g : Int), .int .u64 (h : Int)]] w' (MakeRet false 0 0 w')) := fun w' => by have := r_make_yes s t a b c d e f g h x y w' kx ky hg.2.2 false ho; simpa using this
     have hv0 : v = false := by
       rw [← hv, decide_eq_false_iff_not]
       intro h1
       have h2 := frac_makes h1.2.2
       exact (of_decide_eq_false ho) ⟨h2.2.1, h2.2.2⟩
     subst hv0
     clear hv ho hg kx ky hx hy
     go_enter Try.func50, Try.ntmps50
     go_upto_region 1 with fail
     rw [← HW.out]
     clear HW
     go_wp2_with (go_at_call 41; (with_reducible refine (km.out _).mono ?_); rintro e' w2 ⟨s1, a1, b1, c1, d1, t1, e1, f1, g1, h1, rfl, _, _, hE⟩; have EE := hide ((HX.out.trans hE).trans (ext_alloc w2 (.cells #[.bool s1, .int .u64 (a1 : Int), .int .u64 (b1 : Int), .int .u64 (c1 : Int), .int .u64 (d1 : Int), .bool t1, .int .u64 (e1 : Int), .int .u64 (f1 : Int), .int .u64 (g1 : Int), .int .u64 (h1 : Int)] 40))); clear hE)
     all_goals go_ret
     all_goals exact ⟨rfl, EE.out⟩
   · have km : Hid (∀ w', Calls Try.prog 41 #[.agg #[.bool s, .int .u64 (a : Int), .int .u64 (b : Int), .int .u64 (c : Int), .int .u64 (d : Int)], .agg #[.bool t, .int .u64 (e : Int), .int .u64 (f : Int), .int .u64 (g : Int), .int .u64 (h : Int)]] w' (MakeRet true (numR x y) (denR x y) w')) := fun w' => by have := r_make_yes s t a b c d e f g h x y w' kx ky hg.2.2 true ho; simpa using this
     have hmk : Makes x y := ⟨hg.2.2, of_decide_eq_true ho⟩
     have hvv : v = (decide (numR x y = x) && decide (denR x y = y)) := by
       rw [← hv, ← Bool.decide_and, decide_eq_decide]
       constructor
       · intro h1; exact frac_red h1.2.2
       · rintro ⟨h1, h2⟩
         have h3 := makes_frac hmk
         rw [h1, h2] at h3
         exact ⟨hg.1, hg.2.1, h3⟩
     have KX := hide kx
     have KY := hide ky
     have HVV := hide hvv
     clear hv ho hg kx ky hx hy hmk hvv
     go_enter Try.func50, Try.ntmps50
     go_upto_region 1 with fail
     rw [← HW.out]
     clear HW
     go_upto_region 2 with (go_at_call 41; (with_reducible refine (km.out _).mono ?_); rintro e' w2 ⟨s1, a1, b1, c1, d1, t1, e1, f1, g1, h1, rfl, C1, D1, hE⟩; have EE := hide (HX.out.trans hE); have H0 := H0.ext hE; clear hE)
     have P1 : Box10 (w2.alloc (.cells #[.bool s1, .int .u64 (a1 : Int), .int .u64 (b1 : Int), .int .u64 (c1 : Int), .int .u64 (d1 : Int), .bool t1, .int .u64 (e1 : Int), .int .u64 (f1 : Int), .int .u64 (g1 : Int), .int .u64 (h1 : Int)] 40)) w2.heap.size s1 a1 b1 c1 d1 t1 e1 f1 g1 h1 := heap_alloc_new w2 _
     have hE := ext_alloc w2 (.cells #[.bool s1, .int .u64 (a1 : Int), .int .u64 (b1 : Int), .int .u64 (c1 : Int), .int .u64 (d1 : Int), .bool t1, .int .u64 (e1 : Int), .int .u64 (f1 : Int), .int .u64 (g1 : Int), .int .u64 (h1 : Int)] 40)
     have H0 := H0.ext hE
     have EE := hide (EE.out.trans hE)
     have hq := eq10 s1 s a1 b1 c1 d1 a b c d t1 t e1 f1 g1 h1 e f g h
     rw [same_isC C1 KX.out, same_isC D1 KY.out, ← HVV.out] at hq
     obtain ⟨c0, c1', c2, c3, c4, c5, c6, c7, c8, c9, _⟩ := ten_cells H0
     obtain ⟨p0, p1, p2, p3, p4, p5, p6, p7, p8, p9, _⟩ := ten_cells P1
     clear C1 D1 hE
     go_wp2_with fail
     all_goals go_ret
     all_goals exact ⟨rfl, EE.out⟩
 · have km : Hid (∀ w', Calls Try.prog 41 #[.agg #[.bool s, .int .u64 (a : Int), .int .u64 (b : Int), .int .u64 (c : Int), .int .u64 (d : Int)], .agg #[.bool t, .int .u64 (e : Int), .int .u64 (f : Int), .int .u64 (g : Int), .int .u64 (h : Int)]] w' (MakeRet false 0 0 w')) := fun w' => r_make_no s t a b c d e f g h x y w' hx hy hg
   have hv0 : v = false := by
     rw [← hv, decide_eq_false_iff_not]
     intro h1
     exact hg ⟨h1.1, h1.2.1, by have := h1.2.2.1; omega⟩
   subst hv0
   clear hv hg hx hy
   go_enter Try.func50, Try.ntmps50
   go_upto_region 1 with fail
   rw [← HW.out]
   clear HW
   go_wp2_with (go_at_call 41; (with_reducible refine (km.out _).mono ?_); rintro e' w2 ⟨s1, a1, b1, c1, d1, t1, e1, f1, g1, h1, rfl, _, _, hE⟩; have EE := hide ((HX.out.trans hE).trans (ext_alloc w2 (.cells #[.bool s1, .int .u64 (a1 : Int), .int .u64 (b1 : Int), .int .u64 (c1 : Int), .int .u64 (d1 : Int), .bool t1, .int .u64 (e1 : Int), .int .u64 (f1 : Int), .int .u64 (g1 : Int), .int .u64 (h1 : Int)] 40))); clear hE)
   all_goals go_ret
   all_goals exact ⟨rfl, EE.out⟩
open Go Go.RowKit
def RatRet (n m : Int) (w : World) (e : Ending) (w' : World) : Prop := ∃ (s : Bool) (a b c d : Nat) (t : Bool) (e' f g h : Nat), e = .returned (.agg #[.bool s, .int .u64 (a : Int), .int .u64 (b : Int), .int .u64 (c : Int), .int .u64 (d : Int), .bool t, .int .u64 (e' : Int), .int .u64 (f : Int), .int .u64 (g : Int), .int .u64 (h : Int)]) ∧ IsC s a b c d n ∧ IsC t e' f g h m ∧ Ext w w'
set_option maxRecDepth 100000 in
set_option maxHeartbeats 4000000 in
theorem r_of (v : Int) (w : World) (v1 : -9223372036854775808 ≤ v) (v2 : v ≤ 9223372036854775807) : Calls Try.prog 43 #[.int .i64 v] w (RatRet v 1 w) := by
 have P0 : Box10 (w.alloc (.cells #[.bool false, .int .u64 0, .int .u64 0, .int .u64 0, .int .u64 0, .bool false, .int .u64 0, .int .u64 0, .int .u64 0, .int .u64 0] 40)) w.heap.size false 0 0 0 0 false 0 0 0 0 := heap_alloc_new w _
 have EE := ext_alloc w (.cells #[.bool false, .int .u64 0, .int .u64 0, .int .u64 0, .int .u64 0, .bool false, .int .u64 0, .int .u64 0, .int .u64 0, .int .u64 0] 40)
 obtain ⟨W, hW⟩ : ∃ W, W = w.alloc (.cells #[.bool false, .int .u64 0, .int .u64 0, .int .u64 0, .int .u64 0, .bool false, .int .u64 0, .int .u64 0, .int .u64 0, .int .u64 0] 40) := ⟨_, rfl⟩
 rw [← hW] at P0 EE
 have HW := hide hW
 clear hW
 have k1 : Hid (∀ w', Calls Try.prog 39 #[.int .i64 v] w' (WideOnly v w')) := fun w' => p_ofi v w' v1 v2
 have k2 : Hid (∀ w', Calls Try.prog 39 #[.int .i64 1] w' (WideOnly 1 w')) := fun w' => p_ofi 1 w' (by omega) (by omega)
 clear v1 v2
 go_enter Try.func43, Try.ntmps43
 go_upto_region 1 with fail
 rw [← HW.out]
 clear HW
 go_wp2_with (first
   | (go_at_call 39; (with_reducible refine (k1.out _).mono ?_); rintro e' w2 ⟨s1, a1, b1, c1, d1, rfl, C1, hE⟩; have K1 := hide C1; have P0 := P0.ext hE; have EE := EE.trans hE; obtain ⟨i0, i1, i2, i3, i4, i5, i6, i7, i8, i9, j0, j1, j2, j3, j4, j5, j6, j7, j8, j9⟩ := ten_cells P0; clear hE C1)
   | (go_at_call 39; (with_reducible refine (k2.out _).mono ?_); rintro e' w3 ⟨s2, a2, b2, c2, d2, rfl, C2, hE⟩; have K2 := hide C2; have P0 := P0.ext hE; have EE := EE.trans hE; obtain ⟨i0, i1, i2, i3, i4, i5, i6, i7, i8, i9, j0, j1, j2, j3, j4, j5, j6, j7, j8, j9⟩ := ten_cells P0; clear hE C2))
 all_goals exact bodyPost_ret (v := .agg #[.bool s1, .int .u64 (a1 : Int), .int .u64 (b1 : Int), .int .u64 (c1 : Int), .int .u64 (d1 : Int), .bool s2, .int .u64 (a2 : Int), .int .u64 (b2 : Int), .int .u64 (c2 : Int), .int .u64 (d2 : Int)]) (by simp [results, Try.results43, go_sem, i0, i1, i2, i3, i4, i5, i6, i7, i8, i9]) rfl ⟨s1, a1, b1, c1, d1, s2, a2, b2, c2, d2, rfl, K1.out, K2.out, ext_ten EE (Nat.le_refl _) _ _ _ _ _ _ _ _ _ _⟩
def cN (v : Bool) (x : Int) : Int := if v then x else 0
def cD (v : Bool) (y : Int) : Int := if v then y else 1
set_option maxRecDepth 100000 in
set_option maxHeartbeats 4000000 in
theorem r_counted (s t : Bool) (a b c d e f g h : Nat) (x y : Int) (w : World) (hx : IsW s a b c d x) (hy : IsW t e f g h y) (v : Bool) (hv : decide (RatOk s x t y) = v) :
   Calls Try.prog 80 #[.agg #[.bool s, .int .u64 (a : Int), .int .u64 (b : Int), .int .u64 (c : Int), .int .u64 (d : Int), .bool t, .int .u64 (e : Int), .int .u64 (f : Int), .int .u64 (g : Int), .int .u64 (h : Int)]] w (RatRet (cN v x) (cD v y) w) := by
 have H2 := two_blocks w (.cells #[.bool s, .int .u64 (a : Int), .int .u64 (b : Int), .int .u64 (c : Int), .int .u64 (d : Int), .bool t, .int .u64 (e : Int), .int .u64 (f : Int), .int .u64 (g : Int), .int .u64 (h : Int)] 40) (.cells #[.bool false, .int .u64 0, .int .u64 0, .int .u64 0, .int .u64 0, .bool false, .int .u64 0, .int .u64 0, .int .u64 0, .int .u64 0] 40)
 have EE := hide ((ext_alloc w (.cells #[.bool s, .int .u64 (a : Int), .int .u64 (b : Int), .int .u64 (c : Int), .int .u64 (d : Int), .bool t, .int .u64 (e : Int), .int .u64 (f : Int), .int .u64 (g : Int), .int .u64 (h : Int)] 40)).trans (ext_alloc _ (.cells #[.bool false, .int .u64 0, .int .u64 0, .int .u64 0, .int .u64 0, .bool false, .int .u64 0, .int .u64 0, .int .u64 0, .int .u64 0] 40)))
 obtain ⟨W, hW⟩ : ∃ W, W = (w.alloc (.cells #[.bool s, .int .u64 (a : Int), .int .u64 (b : Int), .int .u64 (c : Int), .int .u64 (d : Int), .bool t, .int .u64 (e : Int), .int .u64 (f : Int), .int .u64 (g : Int), .int .u64 (h : Int)] 40)).alloc (.cells #[.bool false, .int .u64 0, .int .u64 0, .int .u64 0, .int .u64 0, .bool false, .int .u64 0, .int .u64 0, .int .u64 0, .int .u64 0] 40) := ⟨_, rfl⟩
 rw [← hW] at H2 EE
 have P0 : Box10 W w.heap.size s a b c d t e f g h := H2.1
 have P1 : Box10 W (w.heap.size + 1) false 0 0 0 0 false 0 0 0 0 := H2.2
 have HW := hide hW
 have kv : Hid (∀ w', Calls Try.prog 50 #[.agg #[.bool s, .int .u64 (a : Int), .int .u64 (b : Int), .int .u64 (c : Int), .int .u64 (d : Int), .bool t, .int .u64 (e : Int), .int .u64 (f : Int), .int .u64 (g : Int), .int .u64 (h : Int)]] w' (BoolRet v w')) := fun w' => r_valid s t a b c d e f g h x y w' hx hy v hv
 have KK : Hid (v = true → IsC s a b c d x ∧ IsC t e f g h y) := by
   intro h1
   rw [h1] at hv
   have h2 := of_decide_eq_true hv
   exact ⟨⟨hx, h2.1⟩, ⟨hy, h2.2.1⟩⟩
 clear hW H2 hv hx hy
 obtain ⟨c0, c1, c2, c3, c4, c5, c6, c7, c8, c9, _⟩ := ten_cells P0
 go_enter Try.func80, Try.ntmps80
 go_upto_region 1 with fail
 rw [← HW.out]
 clear HW
 cases v
 · go_wp2_with (first
     | (go_at_call 50; (with_reducible refine (kv.out _).mono ?_); rintro e' w2 ⟨rfl, hE⟩; have P1 := P1.ext hE; have EE := hide (EE.out.trans hE); clear hE)
     | (go_at_call 43; refine (r_of 0 _ (by omega) (by omega)).mono ?_; rintro e' w3 ⟨s1, a1, b1, c1, d1, t1, e1, f1, g1, h1, rfl, C1, D1, hE⟩; have K1 := hide C1; have K2 := hide D1; have P1 := P1.ext hE; have EE := hide (EE.out.trans hE); obtain ⟨i0, i1, i2, i3, i4, i5, i6, i7, i8, i9, j0, j1, j2, j3, j4, j5, j6, j7, j8, j9⟩ := ten_cells P1; clear hE C1 D1))
   all_goals exact bodyPost_ret (v := .agg #[.bool s1, .int .u64 (a1 : Int), .int .u64 (b1 : Int), .int .u64 (c1 : Int), .int .u64 (d1 : Int), .bool t1, .int .u64 (e1 : Int), .int .u64 (f1 : Int), .int .u64 (g1 : Int), .int .u64 (h1 : Int)]) (by simp [results, Try.results80, go_sem, i0, i1, i2, i3, i4, i5, i6, i7, i8, i9]) rfl ⟨s1, a1, b1, c1, d1, t1, e1, f1, g1, h1, rfl, K1.out, K2.out, ext_ten EE.out (by omega) _ _ _ _ _ _ _ _ _ _⟩
 · obtain ⟨K1, K2⟩ := KK.out rfl
   have K1 := hide K1
   have K2 := hide K2
   go_wp2_with (go_at_call 50; (with_reducible refine (kv.out _).mono ?_); rintro e' w2 ⟨rfl, hE⟩; have P0 := P0.ext hE; have P1 := P1.ext hE; have EE := hide (EE.out.trans hE); obtain ⟨c0, c1, c2, c3, c4, c5, c6, c7, c8, c9, _⟩ := ten_cells P0; obtain ⟨i0, i1, i2, i3, i4, i5, i6, i7, i8, i9, j0, j1, j2, j3, j4, j5, j6, j7, j8, j9⟩ := ten_cells P1; clear hE)
   all_goals exact bodyPost_ret (v := .agg #[.bool s, .int .u64 (a : Int), .int .u64 (b : Int), .int .u64 (c : Int), .int .u64 (d : Int), .bool t, .int .u64 (e : Int), .int .u64 (f : Int), .int .u64 (g : Int), .int .u64 (h : Int)]) (by simp [results, Try.results80, go_sem, i0, i1, i2, i3, i4, i5, i6, i7, i8, i9]) rfl ⟨s, a, b, c, d, t, e, f, g, h, rfl, K1.out, K2.out, ext_ten EE.out (by omega) _ _ _ _ _ _ _ _ _ _⟩
end
section
open Go Go.RowKit
theorem Box10.far10 {w : World} {k : Nat} {s : Bool} {a b c d : Nat} {t : Bool} {e f g h : Nat} {b' : Nat} (x : Box10 w k s a b c d t e f g h) (hn : k ≠ b') (u0 u1 u2 u3 u4 u5 u6 u7 u8 u9 : Value) : Box10 ((((((((((w.setCell ⟨b', 0, none⟩ u0).setCell ⟨b', 1, none⟩ u1).setCell ⟨b', 2, none⟩ u2).setCell ⟨b', 3, none⟩ u3).setCell ⟨b', 4, none⟩ u4).setCell ⟨b', 5, none⟩ u5).setCell ⟨b', 6, none⟩ u6).setCell ⟨b', 7, none⟩ u7).setCell ⟨b', 8, none⟩ u8).setCell ⟨b', 9, none⟩ u9) k s a b c d t e f g h := by
 unfold Box10 at *
 rw [heap_setCell_other _ _ _ _ (by simpa using hn), heap_setCell_other _ _ _ _ (by simpa using hn), heap_setCell_other _ _ _ _ (by simpa using hn), heap_setCell_other _ _ _ _ (by simpa using hn), heap_setCell_other _ _ _ _ (by simpa using hn), heap_setCell_other _ _ _ _ (by simpa using hn), heap_setCell_other _ _ _ _ (by simpa using hn), heap_setCell_other _ _ _ _ (by simpa using hn), heap_setCell_other _ _ _ _ (by simpa using hn), heap_setCell_other _ _ _ _ (by simpa using hn)]
 exact x
theorem set10 (v0 v1 v2 v3 v4 v5 v6 v7 v8 v9 u0 u1 u2 u3 u4 u5 u6 u7 u8 u9 : Value) : ((((((((((#[v0, v1, v2, v3, v4, v5, v6, v7, v8, v9] : Array Value).setIfInBounds 0 u0).setIfInBounds 1 u1).setIfInBounds 2 u2).setIfInBounds 3 u3).setIfInBounds 4 u4).setIfInBounds 5 u5).setIfInBounds 6 u6).setIfInBounds 7 u7).setIfInBounds 8 u8).setIfInBounds 9 u9 = #[u0, u1, u2, u3, u4, u5, u6, u7, u8, u9] := by
 apply Array.ext'
 simp only [Array.toList_setIfInBounds, List.set_cons_zero, List.set_cons_succ]
theorem Box10.put {w : World} {k : Nat} {s : Bool} {a b c d : Nat} {t : Bool} {e f g h : Nat} {s' : Bool} {a' b' c' d' : Nat} {t' : Bool} {e' f' g' h' : Nat} (x : Box10 w k s a b c d t e f g h) : Box10 ((((((((((w.setCell ⟨k, 0, none⟩ (.bool s')).setCell ⟨k, 1, none⟩ (.int .u64 (a' : Int))).setCell ⟨k, 2, none⟩ (.int .u64 (b' : Int))).setCell ⟨k, 3, none⟩ (.int .u64 (c' : Int))).setCell ⟨k, 4, none⟩ (.int .u64 (d' : Int))).setCell ⟨k, 5, none⟩ (.bool t')).setCell ⟨k, 6, none⟩ (.int .u64 (e' : Int))).setCell ⟨k, 7, none⟩ (.int .u64 (f' : Int))).setCell ⟨k, 8, none⟩ (.int .u64 (g' : Int))).setCell ⟨k, 9, none⟩ (.int .u64 (h' : Int))) k s' a' b' c' d' t' e' f' g' h' := by
 have y := store_block (store_block (store_block (store_block (store_block (store_block (store_block (store_block (store_block (store_block x 0 (.bool s')) 1 (.int .u64 (a' : Int))) 2 (.int .u64 (b' : Int))) 3 (.int .u64 (c' : Int))) 4 (.int .u64 (d' : Int))) 5 (.bool t')) 6 (.int .u64 (e' : Int))) 7 (.int .u64 (f' : Int))) 8 (.int .u64 (g' : Int))) 9 (.int .u64 (h' : Int))
 rw [set10] at y
 exact y
theorem cBound {s : Bool} {x : Int} {t : Bool} {y : Int} {v : Bool} (hv : decide (RatOk s x t y) = v) : (cN v x).natAbs < 170141183460469231731687303715884105728 ∧ (cD v y).natAbs < 170141183460469231731687303715884105728 ∧ 0 < cD v y ∧ Frac (cN v x) (cD v y) := by
 cases v
 · simp [cN, cD, Frac]
 · have h := (of_decide_eq_true hv).2.2
   exact ⟨h.2.1, h.2.2.1, h.1, h⟩
theorem mul_bound {n m : Int} (hn : n.natAbs < 170141183460469231731687303715884105728) (hm : m.natAbs < 170141183460469231731687303715884105728) : (n * m).natAbs < 115792089237316195423570985008687907853269984665640564039457584007913129639936 := by
 rw [Int.natAbs_mul]
 have h1 : n.natAbs * m.natAbs ≤ 170141183460469231731687303715884105728 * m.natAbs := Nat.mul_le_mul_right _ (by omega)
 omega
def PairR (w : World) (n1 m1 n2 m2 : Int) (wx : World) : Prop := ∃ (s : Bool) (a b c d : Nat) (t : Bool) (e f g h : Nat) (s' : Bool) (a' b' c' d' : Nat) (t' : Bool) (e' f' g' h' : Nat), IsC s a b c d n1 ∧ IsC t e f g h m1 ∧ IsC s' a' b' c' d' n2 ∧ IsC t' e' f' g' h' m2 ∧ Box10 wx w.heap.size s a b c d t e f g h ∧ Box10 wx (w.heap.size + 1) s' a' b' c' d' t' e' f' g' h' ∧ Ext w wx
def WideYes' (z : Int) (w : World) (e : Ending) (w' : World) : Prop := ∃ (s : Bool) (a b c d : Nat), e = .returned (.tuple #[.agg #[.bool s, .int .u64 (a : Int), .int .u64 (b : Int), .int .u64 (c : Int), .int .u64 (d : Int)], .bool true]) ∧ IsC s a b c d z ∧ Ext w w'
theorem wide_ret {z : Int} {w : World} {e : Ending} {w' : World} (h : WideRet z w e w') (hz : z.natAbs < 115792089237316195423570985008687907853269984665640564039457584007913129639936) : WideYes' z w e w' := by
 obtain ⟨s, a, b, c, d, o, rfl, ho, hC, hE⟩ := h
 rw [if_pos hz] at hC
 have : o = true := by rw [ho, decide_eq_true_iff]; exact hz
 subst this
 exact ⟨s, a, b, c, d, rfl, hC, hE⟩
set_option maxRecDepth 100000 in
set_option maxHeartbeats 16000000 in
theorem r_compare (s1 : Bool) (a1 b1 c1 d1 : Nat) (t1 : Bool) (e1 f1 g1 h1 : Nat) (s2 : Bool) (a2 b2 c2 d2 : Nat) (t2 : Bool) (e2 f2 g2 h2 : Nat) (x1 y1 x2 y2 : Int) (w : World) (hx1 : IsW s1 a1 b1 c1 d1 x1) (hy1 : IsW t1 e1 f1 g1 h1 y1) (hx2 : IsW s2 a2 b2 c2 d2 x2) (hy2 : IsW t2 e2 f2 g2 h2 y2) (v1 v2 : Bool) (hv1 : decide (RatOk s1 x1 t1 y1) = v1) (hv2 : decide (RatOk s2 x2 t2 y2) = v2) :
   Calls Try.prog 51 #[.agg #[.bool s1, .int .u64 (a1 : Int), .int .u64 (b1 : Int), .int .u64 (c1 : Int), .int .u64 (d1 : Int), .bool t1, .int .u64 (e1 : Int), .int .u64 (f1 : Int), .int .u64 (g1 : Int), .int .u64 (h1 : Int)], .agg #[.bool s2, .int .u64 (a2 : Int), .int .u64 (b2 : Int), .int .u64 (c2 : Int), .int .u64 (d2 : Int), .bool t2, .int .u64 (e2 : Int), .int .u64 (f2 : Int), .int .u64 (g2 : Int), .int .u64 (h2 : Int)]] w (IntRet .i64 (cmpI (cN v1 x1 * cD v2 y2) (cN v2 x2 * cD v1 y1)) w) := by
 have H2 := two_blocks w (.cells #[.bool s1, .int .u64 (a1 : Int), .int .u64 (b1 : Int), .int .u64 (c1 : Int), .int .u64 (d1 : Int), .bool t1, .int .u64 (e1 : Int), .int .u64 (f1 : Int), .int .u64 (g1 : Int), .int .u64 (h1 : Int)] 40) (.cells #[.bool s2, .int .u64 (a2 : Int), .int .u64 (b2 : Int), .int .u64 (c2 : Int), .int .u64 (d2 : Int), .bool t2, .int .u64 (e2 : Int), .int .u64 (f2 : Int), .int .u64 (g2 : Int), .int .u64 (h2 : Int)] 40)
 have EE := (ext_alloc w (.cells #[.bool s1, .int .u64 (a1 : Int), .int .u64 (b1 : Int), .int .u64 (c1 : Int), .int .u64 (d1 : Int), .bool t1, .int .u64 (e1 : Int), .int .u64 (f1 : Int), .int .u64 (g1 : Int), .int .u64 (h1 : Int)] 40)).trans (ext_alloc _ (.cells #[.bool s2, .int .u64 (a2 : Int), .int .u64 (b2 : Int), .int .u64 (c2 : Int), .int .u64 (d2 : Int), .bool t2, .int .u64 (e2 : Int), .int .u64 (f2 : Int), .int .u64 (g2 : Int), .int .u64 (h2 : Int)] 40))
 obtain ⟨W, hW⟩ : ∃ W, W = (w.alloc (.cells #[.bool s1, .int .u64 (a1 : Int), .int .u64 (b1 : Int), .int .u64 (c1 : Int), .int .u64 (d1 : Int), .bool t1, .int .u64 (e1 : Int), .int .u64 (f1 : Int), .int .u64 (g1 : Int), .int .u64 (h1 : Int)] 40)).alloc (.cells #[.bool s2, .int .u64 (a2 : Int), .int .u64 (b2 : Int), .int .u64 (c2 : Int), .int .u64 (d2 : Int), .bool t2, .int .u64 (e2 : Int), .int .u64 (f2 : Int), .int .u64 (g2 : Int), .int .u64 (h2 : Int)] 40) := ⟨_, rfl⟩
 rw [← hW] at H2 EE
 have P1 : Box10 W w.heap.size s1 a1 b1 c1 d1 t1 e1 f1 g1 h1 := H2.1
 have P2 : Box10 W (w.heap.size + 1) s2 a2 b2 c2 d2 t2 e2 f2 g2 h2 := H2.2
 have HW := hide hW
 clear hW H2
 have k1 : Hid (∀ w', Calls Try.prog 80 #[.agg #[.bool s1, .int .u64 (a1 : Int), .int .u64 (b1 : Int), .int .u64 (c1 : Int), .int .u64 (d1 : Int), .bool t1, .int .u64 (e1 : Int), .int .u64 (f1 : Int), .int .u64 (g1 : Int), .int .u64 (h1 : Int)]] w' (RatRet (cN v1 x1) (cD v1 y1) w')) := fun w' => r_counted _ _ _ _ _ _ _ _ _ _ x1 y1 w' hx1 hy1 v1 hv1
 have k2 : Hid (∀ w', Calls Try.prog 80 #[.agg #[.bool s2, .int .u64 (a2 : Int), .int .u64 (b2 : Int), .int .u64 (c2 : Int), .int .u64 (d2 : Int), .bool t2, .int .u64 (e2 : Int), .int .u64 (f2 : Int), .int .u64 (g2 : Int), .int .u64 (h2 : Int)]] w' (RatRet (cN v2 x2) (cD v2 y2) w')) := fun w' => r_counted _ _ _ _ _ _ _ _ _ _ x2 y2 w' hx2 hy2 v2 hv2
 obtain ⟨bn1, bd1, pd1, _⟩ := cBound hv1
 obtain ⟨bn2, bd2, pd2, _⟩ := cBound hv2
 obtain ⟨r, hr⟩ : ∃ r, cmpI (cN v1 x1 * cD v2 y2) (cN v2 x2 * cD v1 y1) = r := ⟨_, rfl⟩
 rw [hr]
 obtain ⟨q, hq⟩ : ∃ q, (same5 s1 s2 a1 b1 c1 d1 a2 b2 c2 d2 && same5 t1 t2 e1 f1 g1 h1 e2 f2 g2 h2) = q := ⟨_, rfl⟩
 have hqq := eq10 s1 s2 a1 b1 c1 d1 a2 b2 c2 d2 t1 t2 e1 f1 g1 h1 e2 f2 g2 h2
 rw [hq] at hqq
 have hr0 : Hid (q = true → r = 0) := by
   intro h
   rw [h] at hq
   simp only [same5, Bool.and_eq_true, beq_iff_eq] at hq
   obtain ⟨⟨rfl, i1, i2, i3, i4⟩, rfl, i5, i6, i7, i8⟩ := hq
   obtain rfl : a1 = a2 := by omega
   obtain rfl : b1 = b2 := by omega
   obtain rfl : c1 = c2 := by omega
   obtain rfl : d1 = d2 := by omega
   obtain rfl : e1 = e2 := by omega
   obtain rfl : f1 = f2 := by omega
   obtain rfl : g1 = g2 := by omega
   obtain rfl : h1 = h2 := by omega
   obtain rfl : x1 = x2 := hx1.2.2.2.2.trans hx2.2.2.2.2.symm
   obtain rfl : y1 = y2 := hy1.2.2.2.2.trans hy2.2.2.2.2.symm
   rw [hv1] at hv2
   subst hv2
   rw [← hr]; unfold cmpI
   rw [if_neg (Int.lt_irrefl _), if_neg (Int.lt_irrefl _)]
 have HR := hide hr
 clear hr hq hv1 hv2 hx1 hy1 hx2 hy2
 obtain ⟨n1, hn1⟩ : ∃ n, cN v1 x1 = n := ⟨_, rfl⟩
 obtain ⟨m1, hm1⟩ : ∃ n, cD v1 y1 = n := ⟨_, rfl⟩
 obtain ⟨n2, hn2⟩ : ∃ n, cN v2 x2 = n := ⟨_, rfl⟩
 obtain ⟨m2, hm2⟩ : ∃ n, cD v2 y2 = n := ⟨_, rfl⟩
 rw [hn1] at k1 HR bn1
 rw [hm1] at k1 HR bd1
 rw [hn2] at k2 HR bn2
 rw [hm2] at k2 HR bd2
 have B12 := hide (mul_bound bn1 bd2)
 have B21 := hide (mul_bound bn2 bd1)
 clear hn1 hm1 hn2 hm2 pd1 pd2 bn1 bn2 bd1 bd2
 obtain ⟨p0, p1, p2, p3, p4, p5, p6, p7, p8, p9, pf0, pf1, pf2, pf3, pf4, pf5, pf6, pf7, pf8, pf9⟩ := ten_cells P1
 obtain ⟨q0, q1, q2, q3, q4, q5, q6, q7, q8, q9, qf0, qf1, qf2, qf3, qf4, qf5, qf6, qf7, qf8, qf9⟩ := ten_cells P2
 go_enter Try.func51, Try.ntmps51
 go_upto_region 1 with fail
 rw [← HW.out]
 clear HW
 cases q
 · clear hr0
   go_upto_region 3 with fail
   clear hqq
   go_cut [] (fun wx => PairR w n1 m1 n2 m2 wx)
   case first =>
     go_region_with (first
       | (go_at_call 80; (with_reducible refine (k1.out _).mono ?_); rintro e' w5 ⟨s5, a5, b5, c5, d5, t5, e5, f5, g5, h5, rfl, hC5, hD5, hE⟩; have P1 : Box10 w5 w.heap.size s1 a1 b1 c1 d1 t1 e1 f1 g1 h1 := (by first | exact P1.ext hE | exact P1.drew.ext hE); have P2 : Box10 w5 (w.heap.size + 1) s2 a2 b2 c2 d2 t2 e2 f2 g2 h2 := (by first | exact P2.ext hE | exact P2.drew.ext hE); have EE : Ext w w5 := (by first | exact EE.trans hE | exact (EE.trans (ext_drew _)).trans hE); obtain ⟨p0, p1, p2, p3, p4, p5, p6, p7, p8, p9, pf0, pf1, pf2, pf3, pf4, pf5, pf6, pf7, pf8, pf9⟩ := ten_cells P1; obtain ⟨q0, q1, q2, q3, q4, q5, q6, q7, q8, q9, qf0, qf1, qf2, qf3, qf4, qf5, qf6, qf7, qf8, qf9⟩ := ten_cells P2; clear hE)
       | (go_at_call 80; (with_reducible refine (k2.out _).mono ?_); rintro e' w6 ⟨s6, a6, b6, c6, d6, t6, e6, f6, g6, h6, rfl, hC6, hD6, hE⟩; have P1 : Box10 w6 w.heap.size s1 a1 b1 c1 d1 t1 e1 f1 g1 h1 := (by first | exact P1.ext hE | exact P1.drew.ext hE); have P2 : Box10 w6 (w.heap.size + 1) s2 a2 b2 c2 d2 t2 e2 f2 g2 h2 := (by first | exact P2.ext hE | exact P2.drew.ext hE); have EE : Ext w w6 := (by first | exact EE.trans hE | exact (EE.trans (ext_drew _)).trans hE); obtain ⟨p0, p1, p2, p3, p4, p5, p6, p7, p8, p9, pf0, pf1, pf2, pf3, pf4, pf5, pf6, pf7, pf8, pf9⟩ := ten_cells P1; obtain ⟨q0, q1, q2, q3, q4, q5, q6, q7, q8, q9, qf0, qf1, qf2, qf3, qf4, qf5, qf6, qf7, qf8, qf9⟩ := ten_cells P2; clear hE))
     all_goals go_wp2_with fail
     all_goals go_meet
     all_goals exact ⟨s5, a5, b5, c5, d5, t5, e5, f5, g5, h5, s6, a6, b6, c6, d6, t6, e6, f6, g6, h6, hC5, hD5, hC6, hD6, (P1.put).far10 (by omega) _ _ _ _ _ _ _ _ _ _, (P2.far10 (by omega) _ _ _ _ _ _ _ _ _ _).put, ext_ten (ext_ten EE (Nat.le_refl _) _ _ _ _ _ _ _ _ _ _) (by omega) _ _ _ _ _ _ _ _ _ _⟩
   case rest =>
     clear P1 P2 EE
     obtain ⟨s1, a1, b1, c1, d1, t1, e1, f1, g1, h1, s2, a2, b2, c2, d2, t2, e2, f2, g2, h2, C1, D1, C2, D2, P1, P2, EE⟩ := hcut
     have K1 := hide C1
     have L1 := hide D1
     have K2 := hide C2
     have L2 := hide D2
     clear C1 D1 C2 D2 k1 k2
     have kc : Hid (∀ (s5 : Bool) (a5 b5 c5 d5 : Nat) (s6 : Bool) (a6 b6 c6 d6 : Nat) w', IsC s5 a5 b5 c5 d5 (n1 * m2) → IsC s6 a6 b6 c6 d6 (n2 * m1) → Calls Try.prog 82 #[.agg #[.bool s5, .int .u64 (a5 : Int), .int .u64 (b5 : Int), .int .u64 (c5 : Int), .int .u64 (d5 : Int)], .agg #[.bool s6, .int .u64 (a6 : Int), .int .u64 (b6 : Int), .int .u64 (c6 : Int), .int .u64 (d6 : Int)]] w' (IntRet .i64 r w')) := fun s5 a5 b5 c5 d5 s6 a6 b6 c6 d6 w' h5 h6 => by rw [← HR.out]; exact p_compare _ _ _ _ _ _ _ _ _ _ _ _ w' h5.1 h6.1
     obtain ⟨p0, p1, p2, p3, p4, p5, p6, p7, p8, p9, pf0, pf1, pf2, pf3, pf4, pf5, pf6, pf7, pf8, pf9⟩ := ten_cells P1
     obtain ⟨q0, q1, q2, q3, q4, q5, q6, q7, q8, q9, qf0, qf1, qf2, qf3, qf4, qf5, qf6, qf7, qf8, qf9⟩ := ten_cells P2
     go_upto_region 5 with (go_at_call 81; refine (p_wmul s1 t2 a1 b1 c1 d1 e2 f2 g2 h2 n1 m2 _ K1.out.1 L2.out.1).mono ?_; intro e' w7 hr7; obtain ⟨s5, a5, b5, c5, d5, rfl, C5, hE⟩ := wide_ret hr7 B12.out; have P1 := P1.ext hE; have P2 := P2.ext hE; have EE := EE.trans hE; clear hE hr7)
     have K5 := hide C5
     have B5 : Box (w7.alloc (.cells #[.bool s5, .int .u64 (a5 : Int), .int .u64 (b5 : Int), .int .u64 (c5 : Int), .int .u64 (d5 : Int)] 25)) w7.heap.size s5 a5 b5 c5 d5 := heap_alloc_new w7 _
     have hE := ext_alloc w7 (.cells #[.bool s5, .int .u64 (a5 : Int), .int .u64 (b5 : Int), .int .u64 (c5 : Int), .int .u64 (d5 : Int)] 25)
     have P1 := P1.ext hE
     have P2 := P2.ext hE
     have EE := EE.trans hE
     generalize w7.alloc (.cells #[.bool s5, .int .u64 (a5 : Int), .int .u64 (b5 : Int), .int .u64 (c5 : Int), .int .u64 (d5 : Int)] 25) = W7 at *
     generalize w7.heap.size = g7 at *
     clear C5 hE
     obtain ⟨p0, p1, p2, p3, p4, p5, p6, p7, p8, p9, pf0, pf1, pf2, pf3, pf4, pf5, pf6, pf7, pf8, pf9⟩ := ten_cells P1
     obtain ⟨q0, q1, q2, q3, q4, q5, q6, q7, q8, q9, qf0, qf1, qf2, qf3, qf4, qf5, qf6, qf7, qf8, qf9⟩ := ten_cells P2
     go_upto_region 6 with (go_at_call 81; refine (p_wmul s2 t1 a2 b2 c2 d2 e1 f1 g1 h1 n2 m1 _ K2.out.1 L1.out.1).mono ?_; intro e' w8 hr8; obtain ⟨s6, a6, b6, c6, d6, rfl, C6, hE⟩ := wide_ret hr8 B21.out; have B5 := B5.ext hE; have EE := EE.trans hE; clear hE hr8)
     have K6 := hide C6
     have B6 : Box (w8.alloc (.cells #[.bool s6, .int .u64 (a6 : Int), .int .u64 (b6 : Int), .int .u64 (c6 : Int), .int .u64 (d6 : Int)] 25)) w8.heap.size s6 a6 b6 c6 d6 := heap_alloc_new w8 _
     have hE := ext_alloc w8 (.cells #[.bool s6, .int .u64 (a6 : Int), .int .u64 (b6 : Int), .int .u64 (c6 : Int), .int .u64 (d6 : Int)] 25)
     have B5 := B5.ext hE
     have EE := EE.trans hE
     generalize w8.alloc (.cells #[.bool s6, .int .u64 (a6 : Int), .int .u64 (b6 : Int), .int .u64 (c6 : Int), .int .u64 (d6 : Int)] 25) = W8 at *
     generalize w8.heap.size = g8 at *
     clear C6 hE
     obtain ⟨c0, c1', c2', c3, c4, _⟩ := five_cells B5
     obtain ⟨d0, d1', d2', d3, d4, _⟩ := five_cells B6
     go_wp2_with (go_at_call 82; refine (kc.out _ _ _ _ _ _ _ _ _ _ _ K5.out K6.out).mono ?_; rintro e' w9 ⟨rfl, hE⟩; have EE := EE.trans hE; clear hE)
     all_goals go_ret
     all_goals exact ⟨rfl, EE⟩
 · have hr0 := hr0.out rfl
   subst hr0
   go_wp2_with fail
   go_ret
   exact ⟨rfl, EE⟩
end
section
open Go Go.RowKit
def Quot (B : World) (z : Int) (p : Value) (wx : World) : Prop := ∃ g s a b c d, p = .pointer (some ⟨g, 0, none⟩) ∧ IsC s a b c d z ∧ Box wx g s a b c d ∧ B.heap.size ≤ g ∧ Ext B wx
section
variable {B U : World} {z : Int} {s : Bool} {a b c d : Nat} {o : Obj} {u0 u1 u2 u3 u4 : Value} {g g' : Nat}
theorem quo0 (hC : IsC s a b c d z) (hE : Ext B U) : Quot B z (.pointer (some ⟨U.heap.size, 0, none⟩)) ((U.alloc (.cells #[.bool s, .int .u64 (a : Int), .int .u64 (b : Int), .int .u64 (c : Int), .int .u64 (d : Int)] 25)).alloc o) :=
 ⟨_, s, a, b, c, d, rfl, hC, (Box.new U s a b c d).ext (ext_alloc _ _), hE.size, (hE.al _).al _⟩
theorem quo0' (hC : IsC s a b c d z) (hE : Ext B U) : Quot B z (.pointer (some ⟨U.heap.size + 1, 0, none⟩)) ((U.alloc o).alloc (.cells #[.bool s, .int .u64 (a : Int), .int .u64 (b : Int), .int .u64 (c : Int), .int .u64 (d : Int)] 25)) :=
 ⟨_, s, a, b, c, d, rfl, hC, (two_blocks U _ _).2, Nat.le_succ_of_le hE.size, (hE.al _).al _⟩
theorem quo1 (hC : IsC s a b c d z) (hE : Ext B U) (hz : Box U g false 0 0 0 0) (h1 : B.heap.size ≤ g) : Quot B z (.pointer (some ⟨g, 0, none⟩)) ((((((U.setCell ⟨g, 0, none⟩ (.bool s)).setCell ⟨g, 1, none⟩ (.int .u64 (a : Int))).setCell ⟨g, 2, none⟩ (.int .u64 (b : Int))).setCell ⟨g, 3, none⟩ (.int .u64 (c : Int))).setCell ⟨g, 4, none⟩ (.int .u64 (d : Int))).alloc o) :=
 ⟨_, s, a, b, c, d, rfl, hC, (hz.put).ext (ext_alloc _ _), h1, (ext_five hE h1 _ _ _ _ _).al _⟩
theorem quo1' (hC : IsC s a b c d z) (hE : Ext B U) (h1 : B.heap.size ≤ g) : Quot B z (.pointer (some ⟨U.heap.size, 0, none⟩)) ((((((U.setCell ⟨g, 0, none⟩ u0).setCell ⟨g, 1, none⟩ u1).setCell ⟨g, 2, none⟩ u2).setCell ⟨g, 3, none⟩ u3).setCell ⟨g, 4, none⟩ u4).alloc (.cells #[.bool s, .int .u64 (a : Int), .int .u64 (b : Int), .int .u64 (c : Int), .int .u64 (d : Int)] 25)) := by
 have h := Box.new (((((U.setCell ⟨g, 0, none⟩ u0).setCell ⟨g, 1, none⟩ u1).setCell ⟨g, 2, none⟩ u2).setCell ⟨g, 3, none⟩ u3).setCell ⟨g, 4, none⟩ u4) s a b c d
 simp only [World.size_setCell] at h
 exact ⟨_, s, a, b, c, d, rfl, hC, h, hE.size, (ext_five hE h1 _ _ _ _ _).al _⟩
theorem quo2 (hC : IsC s a b c d z) (hE : Ext B U) (hz : Box U g false 0 0 0 0) (h1 : B.heap.size ≤ g) (h2 : B.heap.size ≤ g') (hn : g ≠ g') : Quot B z (.pointer (some ⟨g, 0, none⟩)) ((((((((((U.setCell ⟨g, 0, none⟩ (.bool s)).setCell ⟨g, 1, none⟩ (.int .u64 (a : Int))).setCell ⟨g, 2, none⟩ (.int .u64 (b : Int))).setCell ⟨g, 3, none⟩ (.int .u64 (c : Int))).setCell ⟨g, 4, none⟩ (.int .u64 (d : Int))).setCell ⟨g', 0, none⟩ u0).setCell ⟨g', 1, none⟩ u1).setCell ⟨g', 2, none⟩ u2).setCell ⟨g', 3, none⟩ u3).setCell ⟨g', 4, none⟩ u4) :=
 ⟨_, s, a, b, c, d, rfl, hC, (hz.put).far hn _ _ _ _ _, h1, ext_five (ext_five hE h1 _ _ _ _ _) h2 _ _ _ _ _⟩
theorem one0 (hC : IsC s a b c d z) (hE : Ext B U) : Quot B z (.pointer (some ⟨U.heap.size, 0, none⟩)) (U.alloc (.cells #[.bool s, .int .u64 (a : Int), .int .u64 (b : Int), .int .u64 (c : Int), .int .u64 (d : Int)] 25)) :=
 ⟨_, s, a, b, c, d, rfl, hC, Box.new U s a b c d, hE.size, hE.al _⟩
theorem one1 (hC : IsC s a b c d z) (hE : Ext B U) (hz : Box U g false 0 0 0 0) (h1 : B.heap.size ≤ g) : Quot B z (.pointer (some ⟨g, 0, none⟩)) (((((U.setCell ⟨g, 0, none⟩ (.bool s)).setCell ⟨g, 1, none⟩ (.int .u64 (a : Int))).setCell ⟨g, 2, none⟩ (.int .u64 (b : Int))).setCell ⟨g, 3, none⟩ (.int .u64 (c : Int))).setCell ⟨g, 4, none⟩ (.int .u64 (d : Int))) :=
 ⟨_, s, a, b, c, d, rfl, hC, hz.put, h1, ext_five hE h1 _ _ _ _ _⟩
end
end
section
open Go Go.RowKit
theorem Box.far10 {w : World} {k : Nat} {s : Bool} {a b c d : Nat} {b' : Nat} (x : Box w k s a b c d) (hn : k ≠ b') (u0 u1 u2 u3 u4 u5 u6 u7 u8 u9 : Value) : Box ((((((((((w.setCell ⟨b', 0, none⟩ u0).setCell ⟨b', 1, none⟩ u1).setCell ⟨b', 2, none⟩ u2).setCell ⟨b', 3, none⟩ u3).setCell ⟨b', 4, none⟩ u4).setCell ⟨b', 5, none⟩ u5).setCell ⟨b', 6, none⟩ u6).setCell ⟨b', 7, none⟩ u7).setCell ⟨b', 8, none⟩ u8).setCell ⟨b', 9, none⟩ u9) k s a b c d := by
 unfold Box at *
 rw [heap_setCell_other _ _ _ _ (by simpa using hn), heap_setCell_other _ _ _ _ (by simpa using hn), heap_setCell_other _ _ _ _ (by simpa using hn), heap_setCell_other _ _ _ _ (by simpa using hn), heap_setCell_other _ _ _ _ (by simpa using hn), heap_setCell_other _ _ _ _ (by simpa using hn), heap_setCell_other _ _ _ _ (by simpa using hn), heap_setCell_other _ _ _ _ (by simpa using hn), heap_setCell_other _ _ _ _ (by simpa using hn), heap_setCell_other _ _ _ _ (by simpa using hn)]
 exact x
open Go Go.RowKit
open Go Go.RowKit
end
section
open Go Go.RowKit
set_option maxHeartbeats 1000000 in
theorem rf_small (s : Bool) (a b c d : Nat) (z : Int) (w : World) (h : IsC s a b c d z) :
   Calls Try.prog 85 #[.agg #[.bool s, .int .u64 (a : Int), .int .u64 (b : Int), .int .u64 (c : Int), .int .u64 (d : Int)]] w (BoolRet (decide (z.natAbs < 170141183460469231731687303715884105728)) w) := by
 have hf := fits_cells h
 have HX := hide (ext_alloc w (.cells #[.bool s, .int .u64 (a : Int), .int .u64 (b : Int), .int .u64 (c : Int), .int .u64 (d : Int)] 25))
 by_cases h3 : d = 0
 · by_cases h2 : c = 0
   · by_cases h1 : b < 9223372036854775808
     · have HB : Hid (decide (z.natAbs < 170141183460469231731687303715884105728) = true) := decide_eq_true (hf.2 ⟨h3, h2, h1⟩)
       have h1' : decide ((b : Int) < 9223372036854775808) = true := by rw [decide_eq_true_iff]; omega
       have h1'' : decide ((9223372036854775808 : Int) ≤ (b : Int)) = false := by rw [decide_eq_false_iff_not]; omega
       subst h3; subst h2
       clear hf h h1
       go_enter Try.func85, Try.ntmps85
       go_wp2
       go_ret
       exact ⟨rbb HB.out.symm, HX.out⟩
     · have HB : Hid (decide (z.natAbs < 170141183460469231731687303715884105728) = false) := decide_eq_false (fun e => h1 (hf.1 e).2.2)
       have h1' : decide ((b : Int) < 9223372036854775808) = false := by rw [decide_eq_false_iff_not]; omega
       have h1'' : decide ((9223372036854775808 : Int) ≤ (b : Int)) = true := by rw [decide_eq_true_iff]; omega
       subst h3; subst h2
       clear hf h h1
       go_enter Try.func85, Try.ntmps85
       go_wp2
       go_ret
       exact ⟨rbb HB.out.symm, HX.out⟩
   · have HB : Hid (decide (z.natAbs < 170141183460469231731687303715884105728) = false) := decide_eq_false (fun e => h2 (hf.1 e).2.1)
     have h2' : ((c : Int) == 0) = false := by rw [beq_eq_false_iff_ne]; omega
     have h2'' : ¬ ((c : Int) = 0) := by omega
     subst h3
     clear hf h h2
     go_enter Try.func85, Try.ntmps85
     go_wp2
     go_ret
     exact ⟨rbb HB.out.symm, HX.out⟩
 · have HB : Hid (decide (z.natAbs < 170141183460469231731687303715884105728) = false) := decide_eq_false (fun e => h3 (hf.1 e).1)
   have h3' : ((d : Int) == 0) = false := by rw [beq_eq_false_iff_ne]; omega
   have h3'' : ¬ ((d : Int) = 0) := by omega
   clear hf h h3
   go_enter Try.func85, Try.ntmps85
   go_wp2
   go_ret
   exact ⟨rbb HB.out.symm, HX.out⟩
set_option maxHeartbeats 1000000 in
theorem rf_one (w : World) : Calls Try.prog 61 #[] w (WideOnly 1 w) := by
 have P0 := Box.new0 w
 have EE := ext_alloc w (.cells #[.bool false, .int .u64 0, .int .u64 0, .int .u64 0, .int .u64 0] 25)
 obtain ⟨W, hW⟩ : ∃ W, W = w.alloc (.cells #[.bool false, .int .u64 0, .int .u64 0, .int .u64 0, .int .u64 0] 25) := ⟨_, rfl⟩
 rw [← hW] at P0 EE
 have HW := hide hW
 clear hW
 go_enter Try.func61, Try.ntmps61
 go_upto_region 1 with fail
 rw [← HW.out]
 clear HW
 go_wp2_with (go_at_call 16; refine (ref_ofi 1 _ (by omega) (by omega)).mono ?_; rintro e' w2 ⟨s1, a1, b1, c1, d1, rfl, C1, hE⟩; have K1 := hide C1; have P0 := P0.ext hE; have EE := EE.trans hE; obtain ⟨i0, i1, i2, i3, i4, j0, j1, j2, j3, j4⟩ := five_cells P0; clear hE C1)
 all_goals exact bodyPost_ret (v := .agg #[.bool s1, .int .u64 (a1 : Int), .int .u64 (b1 : Int), .int .u64 (c1 : Int), .int .u64 (d1 : Int)]) (by simp [results, Try.results61, go_sem, i0, i1, i2, i3, i4]) rfl ⟨s1, a1, b1, c1, d1, rfl, K1.out, ext_five EE (Nat.le_refl _) _ _ _ _ _⟩
theorem abs_isC {s : Bool} {a b c d : Nat} {z : Int} (h : IsW s a b c d z) : IsC false a b c d (z.natAbs : Int) := by
 obtain ⟨h1, h2, h3, h4, h5⟩ := h
 refine ⟨⟨h1, h2, h3, h4, ?_⟩, by simp⟩
 cases s <;> simp at h5 ⊢ <;> omega
set_option maxHeartbeats 1000000 in
theorem rf_abs (s : Bool) (a b c d : Nat) (z : Int) (w : World) (h : IsW s a b c d z) : Calls Try.prog 77 #[.agg #[.bool s, .int .u64 (a : Int), .int .u64 (b : Int), .int .u64 (c : Int), .int .u64 (d : Int)]] w (WideOnly (z.natAbs : Int) w) := by
 have K := hide (abs_isC h)
 have H2 := two_blocks w (.cells #[.bool false, .int .u64 (a : Int), .int .u64 (b : Int), .int .u64 (c : Int), .int .u64 (d : Int)] 25) (.cells #[.bool false, .int .u64 (a : Int), .int .u64 (b : Int), .int .u64 (c : Int), .int .u64 (d : Int)] 25)
 have EE := hide ((ext_alloc w (.cells #[.bool false, .int .u64 (a : Int), .int .u64 (b : Int), .int .u64 (c : Int), .int .u64 (d : Int)] 25)).trans (ext_alloc _ (.cells #[.bool false, .int .u64 (a : Int), .int .u64 (b : Int), .int .u64 (c : Int), .int .u64 (d : Int)] 25)))
 go_enter Try.func77, Try.ntmps77
 go_wp2_with fail
 all_goals exact bodyPost_ret (v := .agg #[.bool false, .int .u64 (a : Int), .int .u64 (b : Int), .int .u64 (c : Int), .int .u64 (d : Int)]) (by simp [results, Try.results77, go_sem]) rfl ⟨false, a, b, c, d, rfl, K.out, EE.out⟩
set_option maxRecDepth 100000 in
set_option maxHeartbeats 4000000 in
theorem rf_gcd (s t : Bool) (a b c d e f g h : Nat) (x y : Int) (w : World) (hx : IsC s a b c d x) (hy : IsC t e f g h y) (hy0 : 0 < y) :
   Calls Try.prog 76 #[.agg #[.bool s, .int .u64 (a : Int), .int .u64 (b : Int), .int .u64 (c : Int), .int .u64 (d : Int)], .agg #[.bool t, .int .u64 (e : Int), .int .u64 (f : Int), .int .u64 (g : Int), .int .u64 (h : Int)]] w (WideOnly (Int.gcd x y : Int) w) := by
 obtain ⟨W, hW⟩ : ∃ W, W = (((w.alloc (.cells #[.bool s, .int .u64 (a : Int), .int .u64 (b : Int), .int .u64 (c : Int), .int .u64 (d : Int)] 25)).alloc (.cells #[.bool t, .int .u64 (e : Int), .int .u64 (f : Int), .int .u64 (g : Int), .int .u64 (h : Int)] 25)).alloc (.cells #[.bool false, .int .u64 0, .int .u64 0, .int .u64 0, .int .u64 0] 25)) := ⟨_, rfl⟩
 have H3 := three_boxes w (.cells #[.bool s, .int .u64 (a : Int), .int .u64 (b : Int), .int .u64 (c : Int), .int .u64 (d : Int)] 25) (.cells #[.bool t, .int .u64 (e : Int), .int .u64 (f : Int), .int .u64 (g : Int), .int .u64 (h : Int)] 25) (.cells #[.bool false, .int .u64 0, .int .u64 0, .int .u64 0, .int .u64 0] 25)
 rw [← hW] at H3
 obtain ⟨G, hG⟩ : ∃ G, Int.gcd x y = G := ⟨_, rfl⟩
 have B0 : Box W w.heap.size s a b c d := H3.1
 have B1 : Box W (w.heap.size + 1) t e f g h := H3.2.1
 have B2 : Box W (w.heap.size + 1 + 1) false 0 0 0 0 := H3.2.2
 have E0 : Ext w W := by rw [hW]; exact ((ext_alloc _ _).trans (ext_alloc _ _)).trans (ext_alloc _ _)
 have HW := hide hW
 have HGG := hide hG
 rw [hG]
 clear hW H3 hG
 go_enter Try.func76, Try.ntmps76
 go_upto_region 1 with fail
 rw [← HW.out]
 clear HW
 go_loopg [] (y.natAbs) (fun k wr => ∃ (s : Bool) (a b c d : Nat) (t : Bool) (e f g h : Nat) (x y : Int), Box wr w.heap.size s a b c d ∧ Box wr (w.heap.size + 1) t e f g h ∧ Box wr (w.heap.size + 1 + 1) false 0 0 0 0 ∧ IsC s a b c d x ∧ IsC t e f g h y ∧ Hid (0 ≤ y ∧ y.natAbs ≤ k ∧ Int.gcd x y = G ∧ (0 < y ∨ 0 ≤ x)) ∧ Ext w wr)
 case atStart => exact ⟨s, a, b, c, d, t, e, f, g, h, x, y, B0, B1, B2, hx, hy, ⟨by omega, Nat.le_refl _, HGG.out, Or.inl hy0⟩, E0⟩
 case round =>
   clear B0 B1 B2 hx hy hy0 E0 HGG
   obtain ⟨s, a, b, c, d, t, e, f, g, h, x, y, B0, B1, B2, hx, hy, HH, EE⟩ := hrel
   have KX := hide hx
   have KY := hide hy
   clear hx hy
   obtain ⟨sg, hsg⟩ : ∃ sg, y.sign = sg := ⟨_, rfl⟩
   have ks : Hid (∀ w', Calls Try.prog 48 #[.agg #[.bool t, .int .u64 (e : Int), .int .u64 (f : Int), .int .u64 (g : Int), .int .u64 (h : Int)]] w' (IntRet .i64 sg w')) := fun w' => by rw [← hsg]; exact ref_sign _ _ _ _ _ _ w' KY.out.1
   obtain ⟨c0, c1, c2, c3, c4, _⟩ := five_cells B0
   obtain ⟨d0, d1, d2, d3, d4, _⟩ := five_cells B1
   obtain ⟨i0, i1, i2, i3, i4, j0, j1, j2, j3, j4⟩ := five_cells B2
   by_cases hy0 : y = 0
   · have hsg0 : sg = 0 := by rw [← hsg, hy0]; rfl
     subst hsg0
     have KR : Hid (IsC s a b c d (G : Int)) := by
       have h1 := HH.out
       have h2 := KX.out
       have e : (G : Int) = x := by
         have h3 := h1.2.2.1
         rw [hy0, Int.gcd_zero_right] at h3
         have h4 := h1.2.2.2
         omega
       unfold Hid
       rw [e]; exact h2
     clear hsg hy0 HH
     go_wp2_with (go_at_call 48; (with_reducible refine (ks.out _).mono ?_); rintro e' w2 ⟨rfl, hE⟩; have B0 := B0.ext hE; have B1 := B1.ext hE; have B2 := B2.ext hE; have EE := EE.trans hE; obtain ⟨c0, c1, c2, c3, c4, f0, f1, f2, f3, f4⟩ := five_cells B0; obtain ⟨d0, d1, d2, d3, d4, g0, g1, g2, g3, g4⟩ := five_cells B1; obtain ⟨i0, i1, i2, i3, i4, j0, j1, j2, j3, j4⟩ := five_cells B2; clear hE)
     all_goals exact bodyPost_ret (v := .agg #[.bool s, .int .u64 (a : Int), .int .u64 (b : Int), .int .u64 (c : Int), .int .u64 (d : Int)]) (by simp [results, Try.results76, go_sem, i0, i1, i2, i3, i4]) rfl ⟨s, a, b, c, d, rfl, KR.out, ext_five EE (by omega) _ _ _ _ _⟩
   · have hsg0 : ¬ (sg = 0) := by rw [← hsg]; intro e; exact hy0 (Int.sign_eq_zero_iff_zero.1 e)
     have hsg1 : (sg == 0) = false := by rw [beq_eq_false_iff_ne]; exact hsg0
     obtain ⟨r1, hr1⟩ : ∃ r, (if 0 ≤ x ∧ x < 18446744073709551616 then x else 0) = r := ⟨_, rfl⟩
     obtain ⟨o1, ho1⟩ : ∃ o, decide (0 ≤ x ∧ x < 18446744073709551616) = o := ⟨_, rfl⟩
     obtain ⟨r2, hr2⟩ : ∃ r, (if 0 ≤ y ∧ y < 18446744073709551616 then y else 0) = r := ⟨_, rfl⟩
     obtain ⟨o2, ho2⟩ : ∃ o, decide (0 ≤ y ∧ y < 18446744073709551616) = o := ⟨_, rfl⟩
     have k1 : Hid (∀ w', Calls Try.prog 92 #[.agg #[.bool s, .int .u64 (a : Int), .int .u64 (b : Int), .int .u64 (c : Int), .int .u64 (d : Int)]] w' (PairRet .u64 r1 o1 w')) := fun w' => by rw [← hr1, ← ho1]; exact ref_unsigned _ _ _ _ _ _ w' KX.out.1
     have k2 : Hid (∀ w', Calls Try.prog 92 #[.agg #[.bool t, .int .u64 (e : Int), .int .u64 (f : Int), .int .u64 (g : Int), .int .u64 (h : Int)]] w' (PairRet .u64 r2 o2 w')) := fun w' => by rw [← hr2, ← ho2]; exact ref_unsigned _ _ _ _ _ _ w' KY.out.1
     by_cases hb : o1 = true ∧ o2 = true
     · obtain ⟨rfl, rfl⟩ := hb
       have hx1 := of_decide_eq_true ho1
       have hy1 := of_decide_eq_true ho2
       rw [if_pos hx1] at hr1
       rw [if_pos hy1] at hr2
       obtain ⟨n, hn⟩ : ∃ n : Nat, x = n := ⟨x.toNat, by omega⟩
       obtain ⟨m, hm⟩ : ∃ m : Nat, y = m := ⟨y.toNat, by omega⟩
       have hn2 : n < 18446744073709551616 := by omega
       have hm2 : m < 18446744073709551616 := by omega
       have HGM : Hid (Nat.gcd n m = G) := by
         have h3 := HH.out.2.2.1
         rw [hn, hm] at h3
         exact h3
       have hG64 : G < 18446744073709551616 := by
         have h1 : Nat.gcd n m ≤ m := Nat.gcd_le_right _ (by omega)
         rw [HGM.out] at h1
         omega
       rw [← hr1, hn] at k1
       rw [← hr2, hm] at k2
       clear hr1 hr2 ho1 ho2 hx1 hy1 hn hm HH hsg hy0 KX KY
       go_wp2_with (first
         | (go_at_call 48; (with_reducible refine (ks.out _).mono ?_); rintro e' w2 ⟨rfl, hE⟩; have B0 := B0.ext hE; have B1 := B1.ext hE; have B2 := B2.ext hE; have EE := EE.trans hE; obtain ⟨c0, c1, c2, c3, c4, f0, f1, f2, f3, f4⟩ := five_cells B0; obtain ⟨d0, d1, d2, d3, d4, g0, g1, g2, g3, g4⟩ := five_cells B1; obtain ⟨i0, i1, i2, i3, i4, j0, j1, j2, j3, j4⟩ := five_cells B2; clear hE)
         | (go_at_call 92; (with_reducible refine (k1.out _).mono ?_); rintro e' w3 ⟨rfl, hE⟩; have B0 := B0.ext hE; have B1 := B1.ext hE; have B2 := B2.ext hE; have EE := EE.trans hE; obtain ⟨c0, c1, c2, c3, c4, f0, f1, f2, f3, f4⟩ := five_cells B0; obtain ⟨d0, d1, d2, d3, d4, g0, g1, g2, g3, g4⟩ := five_cells B1; obtain ⟨i0, i1, i2, i3, i4, j0, j1, j2, j3, j4⟩ := five_cells B2; clear hE)
         | (go_at_call 92; (with_reducible refine (k2.out _).mono ?_); rintro e' w4 ⟨rfl, hE⟩; have B0 := B0.ext hE; have B1 := B1.ext hE; have B2 := B2.ext hE; have EE := EE.trans hE; obtain ⟨c0, c1, c2, c3, c4, f0, f1, f2, f3, f4⟩ := five_cells B0; obtain ⟨d0, d1, d2, d3, d4, g0, g1, g2, g3, g4⟩ := five_cells B1; obtain ⟨i0, i1, i2, i3, i4, j0, j1, j2, j3, j4⟩ := five_cells B2; clear hE))
       go_loopw [5, 7] (fun x y wr => ∃ a' b' : Nat, x = .int .u64 (a' : Int) ∧ y = .int .u64 (b' : Int) ∧ a' < 18446744073709551616 ∧ b' < 18446744073709551616 ∧ Hid (Nat.gcd a' b' = G) ∧ Box wr (w.heap.size + 1 + 1) false 0 0 0 0 ∧ Ext w wr) (fun _ y _ => (intOf y).toNat)
       case atStart => exact ⟨n, m, rfl, rfl, hn2, hm2, HGM, B2, EE⟩
       case round =>
         clear hn2 hm2 HGM B0 B1 B2 EE c0 c1 c2 c3 c4 d0 d1 d2 d3 d4 i0 i1 i2 i3 i4
         obtain ⟨a', b', rfl, rfl, ha, hb, HGM, B2, EE⟩ := hrel
         obtain ⟨i0, i1, i2, i3, i4, j0, j1, j2, j3, j4⟩ := five_cells B2
         by_cases h0 : b' = 0
         · subst h0
           have HR : Hid (a' = G) := by have := HGM.out; rw [Nat.gcd_zero_right] at this; exact this
           clear HGM
           go_wp2_with (go_at_call 21; refine (ref_ofu a' _ ha).mono ?_; rintro e' w6 ⟨s6, a6, b6, c6, d6, rfl, hC, hE⟩; have B2 := B2.ext hE; have EE := EE.trans hE; obtain ⟨i0, i1, i2, i3, i4, j0, j1, j2, j3, j4⟩ := five_cells B2; clear hE)
           all_goals rw [HR.out] at hC
           all_goals exact bodyPost_ret (v := .agg #[.bool s6, .int .u64 (a6 : Int), .int .u64 (b6 : Int), .int .u64 (c6 : Int), .int .u64 (d6 : Int)]) (by simp [results, Try.results76, go_sem, i0, i1, i2, i3, i4]) rfl ⟨s6, a6, b6, c6, d6, rfl, hC, ext_five EE (by omega) _ _ _ _ _⟩
         · have h1 : ((b' : Int) == 0) = false := by rw [beq_eq_false_iff_ne]; omega
           have h2 : ¬ ((b' : Int) = 0) := by omega
           obtain ⟨r1, r2⟩ := rem_parts a' b' (by omega)
           obtain ⟨r, hr⟩ : ∃ r, a' % b' = r := ⟨_, rfl⟩
           rw [hr] at r1 r2
           have hrb : r < b' := by rw [← hr]; exact Nat.mod_lt _ (by omega)
           have HG2 : Hid (Nat.gcd b' r = G) := by rw [← HGM.out, ← hr, Nat.gcd_comm a' b', Nat.gcd_rec b' a', Nat.gcd_comm]; exact rfl
           have hr64 : r < 18446744073709551616 := by omega
           have HR := hide hr
           have HB := hide hrb
           clear hr hrb HGM h0
           go_wp2_with fail
           go_quiet (fail)
           go_wp2_with fail
           exact ⟨⟨b', r, rfl, rfl, hb, hr64, HG2, B2.ext (ext_drewN _ _), EE.trans (ext_drewN _ _)⟩, by have := HB.out; simp [intOf]; omega⟩
     · have HN : Hid (0 < x % y + 1 ∧ x % y < y ∧ 0 ≤ x % y ∧ Int.gcd y (x % y) = G ∧ (x % y).natAbs < gk) := by
         have h1 := HH.out
         have h2 := Int.emod_nonneg x hy0
         have h3 := Int.emod_lt_of_pos x (show 0 < y by omega)
         refine ⟨by omega, h3, h2, by rw [← gcd_mod]; exact h1.2.2.1, by omega⟩
       have HY0 : Hid (0 < y) := by have := HH.out.1; unfold Hid; omega
       have hY := hide hy0
       have hways : o1 = false ∨ (o1 = true ∧ o2 = false) := by cases o1 <;> cases o2 <;> simp at hb ⊢
       clear hr1 hr2 ho1 ho2 hsg HH hy0 hb
       rcases hways with rfl | ⟨rfl, rfl⟩
       all_goals go_upto_region 8 with (first
         | (go_at_call 48; (with_reducible refine (ks.out _).mono ?_); rintro e' w2 ⟨rfl, hE⟩; have B0 := B0.ext hE; have B1 := B1.ext hE; have B2 := B2.ext hE; have EE := EE.trans hE; obtain ⟨c0, c1, c2, c3, c4, f0, f1, f2, f3, f4⟩ := five_cells B0; obtain ⟨d0, d1, d2, d3, d4, g0, g1, g2, g3, g4⟩ := five_cells B1; obtain ⟨i0, i1, i2, i3, i4, j0, j1, j2, j3, j4⟩ := five_cells B2; clear hE)
         | (go_at_call 92; (with_reducible refine (k1.out _).mono ?_); rintro e' w3 ⟨rfl, hE⟩; have B0 := B0.ext hE; have B1 := B1.ext hE; have B2 := B2.ext hE; have EE := EE.trans hE; obtain ⟨c0, c1, c2, c3, c4, f0, f1, f2, f3, f4⟩ := five_cells B0; obtain ⟨d0, d1, d2, d3, d4, g0, g1, g2, g3, g4⟩ := five_cells B1; obtain ⟨i0, i1, i2, i3, i4, j0, j1, j2, j3, j4⟩ := five_cells B2; clear hE)
         | (go_at_call 92; (with_reducible refine (k2.out _).mono ?_); rintro e' w4 ⟨rfl, hE⟩; have B0 := B0.ext hE; have B1 := B1.ext hE; have B2 := B2.ext hE; have EE := EE.trans hE; obtain ⟨c0, c1, c2, c3, c4, f0, f1, f2, f3, f4⟩ := five_cells B0; obtain ⟨d0, d1, d2, d3, d4, g0, g1, g2, g3, g4⟩ := five_cells B1; obtain ⟨i0, i1, i2, i3, i4, j0, j1, j2, j3, j4⟩ := five_cells B2; clear hE))
       all_goals (go_upto_region 9 with (go_at_call 55; refine (ref_wdiv s t a b c d e f g h x y _ KX.out.1 KY.out.1).mono ?_; rintro e' w7 ⟨s7, a7, b7, c7, d7, s8, a8, b8, c8, d8, o8, rfl, ho, C7, C8, hE⟩; have Ho := hide ho; rw [if_neg hY.out] at C7 C8; have K8 := hide C8; clear ho C7 C8; have B0 := B0.ext hE; have B1 := B1.ext hE; have B2 := B2.ext hE; have EE := EE.trans hE; clear hE))
       all_goals have Q := two_blocks w7 (.cells #[.bool s7, .int .u64 (a7 : Int), .int .u64 (b7 : Int), .int .u64 (c7 : Int), .int .u64 (d7 : Int)] 25) (.cells #[.bool s8, .int .u64 (a8 : Int), .int .u64 (b8 : Int), .int .u64 (c8 : Int), .int .u64 (d8 : Int)] 25)
       all_goals have hE := (ext_alloc w7 (.cells #[.bool s7, .int .u64 (a7 : Int), .int .u64 (b7 : Int), .int .u64 (c7 : Int), .int .u64 (d7 : Int)] 25)).trans (ext_alloc _ (.cells #[.bool s8, .int .u64 (a8 : Int), .int .u64 (b8 : Int), .int .u64 (c8 : Int), .int .u64 (d8 : Int)] 25))
       all_goals have l2 := B2.lt
       all_goals have B0 := B0.ext hE
       all_goals have B1 := B1.ext hE
       all_goals have B2 := B2.ext hE
       all_goals have EE := EE.trans hE
       all_goals clear hE
       all_goals (obtain ⟨W7, hW7⟩ : ∃ W7, W7 = (w7.alloc (.cells #[.bool s7, .int .u64 (a7 : Int), .int .u64 (b7 : Int), .int .u64 (c7 : Int), .int .u64 (d7 : Int)] 25)).alloc (.cells #[.bool s8, .int .u64 (a8 : Int), .int .u64 (b8 : Int), .int .u64 (c8 : Int), .int .u64 (d8 : Int)] 25) := ⟨_, rfl⟩)
       all_goals rw [← hW7] at Q B0 B1 B2 EE ⊢
       all_goals (obtain ⟨g7, hg7⟩ : ∃ g7, w7.heap.size = g7 := ⟨_, rfl⟩)
       all_goals rw [hg7] at Q l2 ⊢
       all_goals have B8 : Box W7 (g7 + 1) s8 a8 b8 c8 d8 := Q.2
       all_goals clear hW7 hg7 Q
       all_goals (obtain ⟨c0, c1, c2, c3, c4, f0, f1, f2, f3, f4⟩ := five_cells B0)
       all_goals (obtain ⟨d0, d1, d2, d3, d4, g0, g1, g2, g3, g4⟩ := five_cells B1)
       all_goals (obtain ⟨i0, i1, i2, i3, i4, _⟩ := five_cells B8)
       all_goals have KE := ext_five (ext_five EE (b := w.heap.size) (Nat.le_refl _) (.bool t) (.int .u64 (e : Int)) (.int .u64 (f : Int)) (.int .u64 (g : Int)) (.int .u64 (h : Int))) (b := w.heap.size + 1) (by omega) (.bool s8) (.int .u64 (a8 : Int)) (.int .u64 (b8 : Int)) (.int .u64 (c8 : Int)) (.int .u64 (d8 : Int))
       all_goals have KB0 := (B0.put (t := t) (a' := e) (b' := f) (c' := g) (d' := h)).far (b' := w.heap.size + 1) (by omega) (.bool s8) (.int .u64 (a8 : Int)) (.int .u64 (b8 : Int)) (.int .u64 (c8 : Int)) (.int .u64 (d8 : Int))
       all_goals have KB1 := (B1.far (b' := w.heap.size) (by omega) (.bool t) (.int .u64 (e : Int)) (.int .u64 (f : Int)) (.int .u64 (g : Int)) (.int .u64 (h : Int))).put (t := s8) (a' := a8) (b' := b8) (c' := c8) (d' := d8)
       all_goals have KB2 := (B2.far (b' := w.heap.size) (by omega) (.bool t) (.int .u64 (e : Int)) (.int .u64 (f : Int)) (.int .u64 (g : Int)) (.int .u64 (h : Int))).far (b' := w.heap.size + 1) (by omega) (.bool s8) (.int .u64 (a8 : Int)) (.int .u64 (b8 : Int)) (.int .u64 (c8 : Int)) (.int .u64 (d8 : Int))
       all_goals go_region
       all_goals go_wp2_with fail
       all_goals go_roundg ((x % y).natAbs)
       all_goals first
         | exact HN.out.2.2.2.2
         | exact ⟨t, e, f, g, h, s8, a8, b8, c8, d8, y, x % y, KB0.drew, KB1.drew, KB2.drew, KY.out, K8.out, ⟨HN.out.2.2.1, Nat.le_refl _, HN.out.2.2.2.1, Or.inr (by have := HY0.out; omega)⟩, KE.trans (ext_drew _)⟩
open Go Go.RowKit
def FixRet (s : Bool) (a b c d : Nat) (w : World) (e : Ending) (w' : World) : Prop := e = .returned (.agg #[.bool s, .int .u64 (a : Int), .int .u64 (b : Int), .int .u64 (c : Int), .int .u64 (d : Int)]) ∧ Ext w w'
theorem fixed {z : Int} {s : Bool} {a b c d : Nat} (hC : IsC s a b c d z) {e : Ending} {w w' : World} (h : WideOnly z w e w') : FixRet s a b c d w e w' := by
 obtain ⟨s', a', b', c', d', rfl, hC', hE⟩ := h
 obtain ⟨rfl, rfl, rfl, rfl, rfl⟩ := hC.uniq hC'
 exact ⟨rfl, hE⟩
theorem eqW {s t : Bool} {a b c d e f g h : Nat} {x y : Int} (hx : IsC s a b c d x) (hy : IsC t e f g h y) (w : World) : (binOp .eql 25 (.agg #[.bool s, .int .u64 (a : Int), .int .u64 (b : Int), .int .u64 (c : Int), .int .u64 (d : Int)]) (.agg #[.bool t, .int .u64 (e : Int), .int .u64 (f : Int), .int .u64 (g : Int), .int .u64 (h : Int)])).run Try.prog w = .ok (.bool (decide (x = y))) w := by
 rw [eq5]
 have := same_isC hx hy
 unfold same5 at this
 rw [this]
theorem one_isC : IsC false 1 0 0 0 1 := ⟨⟨by omega, by omega, by omega, by omega, by simp [mag4, val]⟩, by simp⟩
theorem good_bool (s : Bool) (z : Int) : (!s || decide (z ≠ 0)) = decide (Good s z) := by
 cases s <;> simp [Good]
set_option maxRecDepth 100000 in
set_option maxHeartbeats 8000000 in
theorem rf_valid (s t : Bool) (a b c d e f g h : Nat) (x y : Int) (w : World) (hx : IsW s a b c d x) (hy : IsW t e f g h y) (v : Bool) (hv : decide (RatOk s x t y) = v) :
   Calls Try.prog 58 #[.agg #[.bool s, .int .u64 (a : Int), .int .u64 (b : Int), .int .u64 (c : Int), .int .u64 (d : Int), .bool t, .int .u64 (e : Int), .int .u64 (f : Int), .int .u64 (g : Int), .int .u64 (h : Int)]] w (BoolRet v w) := by
 have HX := hide (ext_alloc w (.cells #[.bool s, .int .u64 (a : Int), .int .u64 (b : Int), .int .u64 (c : Int), .int .u64 (d : Int), .bool t, .int .u64 (e : Int), .int .u64 (f : Int), .int .u64 (g : Int), .int .u64 (h : Int)] 40))
 have H0 : Box10 (w.alloc (.cells #[.bool s, .int .u64 (a : Int), .int .u64 (b : Int), .int .u64 (c : Int), .int .u64 (d : Int), .bool t, .int .u64 (e : Int), .int .u64 (f : Int), .int .u64 (g : Int), .int .u64 (h : Int)] 40)) w.heap.size s a b c d t e f g h := heap_alloc_new w _
 obtain ⟨W, hW⟩ : ∃ W, W = w.alloc (.cells #[.bool s, .int .u64 (a : Int), .int .u64 (b : Int), .int .u64 (c : Int), .int .u64 (d : Int), .bool t, .int .u64 (e : Int), .int .u64 (f : Int), .int .u64 (g : Int), .int .u64 (h : Int)] 40) := ⟨_, rfl⟩
 rw [← hW] at HX H0
 have HW := hide hW
 clear hW
 obtain ⟨c0, c1, c2, c3, c4, c5, c6, c7, c8, c9, cf0, cf1, cf2, cf3, cf4, cf5, cf6, cf7, cf8, cf9⟩ := ten_cells H0
 obtain ⟨p1, hp1⟩ : ∃ p, decide (Good s x) = p := ⟨_, rfl⟩
 obtain ⟨p2, hp2⟩ : ∃ p, decide (Good t y) = p := ⟨_, rfl⟩
 obtain ⟨sg, hsg⟩ : ∃ r, y.sign = r := ⟨_, rfl⟩
 have k1 : Hid (∀ w', Calls Try.prog 62 #[.agg #[.bool s, .int .u64 (a : Int), .int .u64 (b : Int), .int .u64 (c : Int), .int .u64 (d : Int)]] w' (BoolRet p1 w')) := fun w' => by rw [← hp1, ← good_bool]; exact ref_valid _ _ _ _ _ _ w' hx
 have k2 : Hid (∀ w', Calls Try.prog 62 #[.agg #[.bool t, .int .u64 (e : Int), .int .u64 (f : Int), .int .u64 (g : Int), .int .u64 (h : Int)]] w' (BoolRet p2 w')) := fun w' => by rw [← hp2, ← good_bool]; exact ref_valid _ _ _ _ _ _ w' hy
 have k3 : Hid (∀ w', Calls Try.prog 48 #[.agg #[.bool t, .int .u64 (e : Int), .int .u64 (f : Int), .int .u64 (g : Int), .int .u64 (h : Int)]] w' (IntRet .i64 sg w')) := fun w' => by rw [← hsg]; exact ref_sign _ _ _ _ _ _ w' hy
 cases p1
 · have hv0 : v = false := by
     rw [← hv, decide_eq_false_iff_not]
     exact fun q => (of_decide_eq_false hp1) q.1
   subst hv0
   clear hv hx hy hp1 hp2 hsg k2 k3
   go_enter Try.func58, Try.ntmps58
   go_upto_region 1 with fail
   rw [← HW.out]
   clear HW
   go_wp2_with (first
     | (go_at_call 62; (with_reducible refine (k1.out _).mono ?_); rintro e' w1 ⟨rfl, hE⟩; have H0 := H0.ext hE; have HX := hide (HX.out.trans hE); obtain ⟨c0, c1, c2, c3, c4, c5, c6, c7, c8, c9, cf0, cf1, cf2, cf3, cf4, cf5, cf6, cf7, cf8, cf9⟩ := ten_cells H0; clear hE))
   all_goals go_ret
   all_goals exact ⟨rfl, HX.out⟩
 cases p2
 · have hv0 : v = false := by
     rw [← hv, decide_eq_false_iff_not]
     exact fun q => (of_decide_eq_false hp2) q.2.1
   subst hv0
   clear hv hx hy hp1 hp2 hsg k3
   go_enter Try.func58, Try.ntmps58
   go_upto_region 1 with fail
   rw [← HW.out]
   clear HW
   go_wp2_with (first
     | (go_at_call 62; (with_reducible refine (k1.out _).mono ?_); rintro e' w1 ⟨rfl, hE⟩; have H0 := H0.ext hE; have HX := hide (HX.out.trans hE); obtain ⟨c0, c1, c2, c3, c4, c5, c6, c7, c8, c9, cf0, cf1, cf2, cf3, cf4, cf5, cf6, cf7, cf8, cf9⟩ := ten_cells H0; clear hE)
     | (go_at_call 62; (with_reducible refine (k2.out _).mono ?_); rintro e' w2 ⟨rfl, hE⟩; have H0 := H0.ext hE; have HX := hide (HX.out.trans hE); obtain ⟨c0, c1, c2, c3, c4, c5, c6, c7, c8, c9, cf0, cf1, cf2, cf3, cf4, cf5, cf6, cf7, cf8, cf9⟩ := ten_cells H0; clear hE))
   all_goals go_ret
   all_goals exact ⟨rfl, HX.out⟩
 by_cases h3 : sg ≤ 0
 · have hv0 : v = false := by
     rw [← hv, decide_eq_false_iff_not]
     exact fun q => by have h4 := q.2.2.1; have h5 := Int.sign_eq_one_of_pos h4; omega
   subst hv0
   clear hv hx hy hp1 hp2 hsg
   go_enter Try.func58, Try.ntmps58
   go_upto_region 1 with fail
   rw [← HW.out]
   clear HW
   go_wp2_with (first
     | (go_at_call 62; (with_reducible refine (k1.out _).mono ?_); rintro e' w1 ⟨rfl, hE⟩; have H0 := H0.ext hE; have HX := hide (HX.out.trans hE); obtain ⟨c0, c1, c2, c3, c4, c5, c6, c7, c8, c9, cf0, cf1, cf2, cf3, cf4, cf5, cf6, cf7, cf8, cf9⟩ := ten_cells H0; clear hE)
     | (go_at_call 62; (with_reducible refine (k2.out _).mono ?_); rintro e' w2 ⟨rfl, hE⟩; have H0 := H0.ext hE; have HX := hide (HX.out.trans hE); obtain ⟨c0, c1, c2, c3, c4, c5, c6, c7, c8, c9, cf0, cf1, cf2, cf3, cf4, cf5, cf6, cf7, cf8, cf9⟩ := ten_cells H0; clear hE)
     | (go_at_call 48; (with_reducible refine (k3.out _).mono ?_); rintro e' w3 ⟨rfl, hE⟩; have H0 := H0.ext hE; have HX := hide (HX.out.trans hE); obtain ⟨c0, c1, c2, c3, c4, c5, c6, c7, c8, c9, cf0, cf1, cf2, cf3, cf4, cf5, cf6, cf7, cf8, cf9⟩ := ten_cells H0; clear hE))
   all_goals go_ret
   all_goals exact ⟨rfl, HX.out⟩
 have g1 := of_decide_eq_true hp1
 have g2 := of_decide_eq_true hp2
 have kx : IsC s a b c d x := ⟨hx, g1⟩
 have ky : IsC t e f g h y := ⟨hy, g2⟩
 have hyp : 0 < y := by
   have h4 : 0 < y.sign := by omega
   exact Int.sign_pos_iff.1 h4
 obtain ⟨p4, hp4⟩ : ∃ p, decide (x.natAbs < 170141183460469231731687303715884105728) = p := ⟨_, rfl⟩
 obtain ⟨p5, hp5⟩ : ∃ p, decide (y.natAbs < 170141183460469231731687303715884105728) = p := ⟨_, rfl⟩
 have k4 : Hid (∀ w', Calls Try.prog 85 #[.agg #[.bool s, .int .u64 (a : Int), .int .u64 (b : Int), .int .u64 (c : Int), .int .u64 (d : Int)]] w' (BoolRet p4 w')) := fun w' => by rw [← hp4]; exact rf_small _ _ _ _ _ _ w' kx
 have k5 : Hid (∀ w', Calls Try.prog 85 #[.agg #[.bool t, .int .u64 (e : Int), .int .u64 (f : Int), .int .u64 (g : Int), .int .u64 (h : Int)]] w' (BoolRet p5 w')) := fun w' => by rw [← hp5]; exact rf_small _ _ _ _ _ _ w' ky
 cases p4
 · have hv0 : v = false := by
     rw [← hv, decide_eq_false_iff_not]
     exact fun q => (of_decide_eq_false hp4) q.2.2.2.1
   subst hv0
   clear hv hx hy hp1 hp2 hsg g1 g2 kx ky hyp hp4 hp5 k5
   go_enter Try.func58, Try.ntmps58
   go_upto_region 1 with fail
   rw [← HW.out]
   clear HW
   go_wp2_with (first
     | (go_at_call 62; (with_reducible refine (k1.out _).mono ?_); rintro e' w1 ⟨rfl, hE⟩; have H0 := H0.ext hE; have HX := hide (HX.out.trans hE); obtain ⟨c0, c1, c2, c3, c4, c5, c6, c7, c8, c9, cf0, cf1, cf2, cf3, cf4, cf5, cf6, cf7, cf8, cf9⟩ := ten_cells H0; clear hE)
     | (go_at_call 62; (with_reducible refine (k2.out _).mono ?_); rintro e' w2 ⟨rfl, hE⟩; have H0 := H0.ext hE; have HX := hide (HX.out.trans hE); obtain ⟨c0, c1, c2, c3, c4, c5, c6, c7, c8, c9, cf0, cf1, cf2, cf3, cf4, cf5, cf6, cf7, cf8, cf9⟩ := ten_cells H0; clear hE)
     | (go_at_call 48; (with_reducible refine (k3.out _).mono ?_); rintro e' w3 ⟨rfl, hE⟩; have H0 := H0.ext hE; have HX := hide (HX.out.trans hE); obtain ⟨c0, c1, c2, c3, c4, c5, c6, c7, c8, c9, cf0, cf1, cf2, cf3, cf4, cf5, cf6, cf7, cf8, cf9⟩ := ten_cells H0; clear hE)
     | (go_at_call 85; (with_reducible refine (k4.out _).mono ?_); rintro e' w4 ⟨rfl, hE⟩; have H0 := H0.ext hE; have HX := hide (HX.out.trans hE); obtain ⟨c0, c1, c2, c3, c4, c5, c6, c7, c8, c9, cf0, cf1, cf2, cf3, cf4, cf5, cf6, cf7, cf8, cf9⟩ := ten_cells H0; clear hE))
   all_goals go_ret
   all_goals exact ⟨rfl, HX.out⟩
 cases p5
 · have hv0 : v = false := by
     rw [← hv, decide_eq_false_iff_not]
     exact fun q => (of_decide_eq_false hp5) q.2.2.2.2.1
   subst hv0
   clear hv hx hy hp1 hp2 hsg g1 g2 kx ky hyp hp4 hp5
   go_enter Try.func58, Try.ntmps58
   go_upto_region 1 with fail
   rw [← HW.out]
   clear HW
   go_wp2_with (first
     | (go_at_call 62; (with_reducible refine (k1.out _).mono ?_); rintro e' w1 ⟨rfl, hE⟩; have H0 := H0.ext hE; have HX := hide (HX.out.trans hE); obtain ⟨c0, c1, c2, c3, c4, c5, c6, c7, c8, c9, cf0, cf1, cf2, cf3, cf4, cf5, cf6, cf7, cf8, cf9⟩ := ten_cells H0; clear hE)
     | (go_at_call 62; (with_reducible refine (k2.out _).mono ?_); rintro e' w2 ⟨rfl, hE⟩; have H0 := H0.ext hE; have HX := hide (HX.out.trans hE); obtain ⟨c0, c1, c2, c3, c4, c5, c6, c7, c8, c9, cf0, cf1, cf2, cf3, cf4, cf5, cf6, cf7, cf8, cf9⟩ := ten_cells H0; clear hE)
     | (go_at_call 48; (with_reducible refine (k3.out _).mono ?_); rintro e' w3 ⟨rfl, hE⟩; have H0 := H0.ext hE; have HX := hide (HX.out.trans hE); obtain ⟨c0, c1, c2, c3, c4, c5, c6, c7, c8, c9, cf0, cf1, cf2, cf3, cf4, cf5, cf6, cf7, cf8, cf9⟩ := ten_cells H0; clear hE)
     | (go_at_call 85; (with_reducible refine (k4.out _).mono ?_); rintro e' w4 ⟨rfl, hE⟩; have H0 := H0.ext hE; have HX := hide (HX.out.trans hE); obtain ⟨c0, c1, c2, c3, c4, c5, c6, c7, c8, c9, cf0, cf1, cf2, cf3, cf4, cf5, cf6, cf7, cf8, cf9⟩ := ten_cells H0; clear hE)
     | (go_at_call 85; (with_reducible refine (k5.out _).mono ?_); rintro e' w5 ⟨rfl, hE⟩; have H0 := H0.ext hE; have HX := hide (HX.out.trans hE); obtain ⟨c0, c1, c2, c3, c4, c5, c6, c7, c8, c9, cf0, cf1, cf2, cf3, cf4, cf5, cf6, cf7, cf8, cf9⟩ := ten_cells H0; clear hE))
   all_goals go_ret
   all_goals exact ⟨rfl, HX.out⟩
 have hvv : v = decide ((Int.gcd (x.natAbs : Int) y : Int) = 1) := by
   rw [← hv, decide_eq_decide]
   have e1 : Int.gcd (x.natAbs : Int) y = Int.gcd x y := by simp [Int.gcd]
   rw [e1]
   constructor
   · intro q; have := q.2.2.2.2.2; omega
   · intro q; exact ⟨g1, g2, hyp, of_decide_eq_true hp4, of_decide_eq_true hp5, by omega⟩
 obtain ⟨s8, a8, b8, c8', d8, k8⟩ : ∃ (s : Bool) (a b c d : Nat), IsC s a b c d (Int.gcd (x.natAbs : Int) y : Int) := isC_some _ (by
   have h4 : Int.gcd (x.natAbs : Int) y ≤ y.natAbs := Nat.gcd_le_right _ (by omega)
   have h5 := of_decide_eq_true hp5
   omega)
 have ka : Hid (∀ w', Calls Try.prog 77 #[.agg #[.bool s, .int .u64 (a : Int), .int .u64 (b : Int), .int .u64 (c : Int), .int .u64 (d : Int)]] w' (FixRet false a b c d w')) := fun w' => (rf_abs _ _ _ _ _ _ w' hx).mono (fun _ _ q => fixed (abs_isC hx) q)
 have kg : Hid (∀ w', Calls Try.prog 76 #[.agg #[.bool false, .int .u64 (a : Int), .int .u64 (b : Int), .int .u64 (c : Int), .int .u64 (d : Int)], .agg #[.bool t, .int .u64 (e : Int), .int .u64 (f : Int), .int .u64 (g : Int), .int .u64 (h : Int)]] w' (FixRet s8 a8 b8 c8' d8 w')) := fun w' => (rf_gcd _ _ _ _ _ _ _ _ _ _ _ _ w' (abs_isC hx) ky hyp).mono (fun _ _ q => fixed k8 q)
 have k9 : Hid (∀ w', Calls Try.prog 61 #[] w' (FixRet false 1 0 0 0 w')) := fun w' => (rf_one w').mono (fun _ _ q => fixed one_isC q)
 have hq : ∀ w', (binOp .eql 25 (.agg #[.bool s8, .int .u64 (a8 : Int), .int .u64 (b8 : Int), .int .u64 (c8' : Int), .int .u64 (d8 : Int)]) (.agg #[.bool false, .int .u64 1, .int .u64 0, .int .u64 0, .int .u64 0])).run Try.prog w' = .ok (.bool (decide ((Int.gcd (x.natAbs : Int) y : Int) = 1))) w' := fun w' => eqW k8 one_isC w'
 rw [← hvv] at hq
 have h3' : ¬ (sg ≤ 0) := h3
 clear hv hvv hp1 hp2 hsg g1 g2 kx ky hyp hp4 hp5 hx hy k8 h3
 go_enter Try.func58, Try.ntmps58
 go_upto_region 1 with fail
 rw [← HW.out]
 clear HW
 go_upto_region 3 with (first
   | (go_at_call 62; (with_reducible refine (k1.out _).mono ?_); rintro e' w1 ⟨rfl, hE⟩; have H0 := H0.ext hE; have HX := hide (HX.out.trans hE); obtain ⟨c0, c1, c2, c3, c4, c5, c6, c7, c8, c9, cf0, cf1, cf2, cf3, cf4, cf5, cf6, cf7, cf8, cf9⟩ := ten_cells H0; clear hE)
   | (go_at_call 62; (with_reducible refine (k2.out _).mono ?_); rintro e' w2 ⟨rfl, hE⟩; have H0 := H0.ext hE; have HX := hide (HX.out.trans hE); obtain ⟨c0, c1, c2, c3, c4, c5, c6, c7, c8, c9, cf0, cf1, cf2, cf3, cf4, cf5, cf6, cf7, cf8, cf9⟩ := ten_cells H0; clear hE)
   | (go_at_call 48; (with_reducible refine (k3.out _).mono ?_); rintro e' w3 ⟨rfl, hE⟩; have H0 := H0.ext hE; have HX := hide (HX.out.trans hE); obtain ⟨c0, c1, c2, c3, c4, c5, c6, c7, c8, c9, cf0, cf1, cf2, cf3, cf4, cf5, cf6, cf7, cf8, cf9⟩ := ten_cells H0; clear hE)
   | (go_at_call 85; (with_reducible refine (k4.out _).mono ?_); rintro e' w4 ⟨rfl, hE⟩; have H0 := H0.ext hE; have HX := hide (HX.out.trans hE); obtain ⟨c0, c1, c2, c3, c4, c5, c6, c7, c8, c9, cf0, cf1, cf2, cf3, cf4, cf5, cf6, cf7, cf8, cf9⟩ := ten_cells H0; clear hE)
   | (go_at_call 85; (with_reducible refine (k5.out _).mono ?_); rintro e' w5 ⟨rfl, hE⟩; have H0 := H0.ext hE; have HX := hide (HX.out.trans hE); obtain ⟨c0, c1, c2, c3, c4, c5, c6, c7, c8, c9, cf0, cf1, cf2, cf3, cf4, cf5, cf6, cf7, cf8, cf9⟩ := ten_cells H0; clear hE))
 go_region_held3 (fun w' => w'.cell? ⟨w.heap.size, 0, none⟩ = some (.bool s) ∧ w'.cell? ⟨w.heap.size, 1, none⟩ = some (.int .u64 (a : Int)) ∧ w'.cell? ⟨w.heap.size, 2, none⟩ = some (.int .u64 (b : Int)) ∧ w'.cell? ⟨w.heap.size, 3, none⟩ = some (.int .u64 (c : Int)) ∧ w'.cell? ⟨w.heap.size, 4, none⟩ = some (.int .u64 (d : Int)) ∧ w'.cell? ⟨w.heap.size, 5, none⟩ = some (.bool t) ∧ w'.cell? ⟨w.heap.size, 6, none⟩ = some (.int .u64 (e : Int)) ∧ w'.cell? ⟨w.heap.size, 7, none⟩ = some (.int .u64 (f : Int)) ∧ w'.cell? ⟨w.heap.size, 8, none⟩ = some (.int .u64 (g : Int)) ∧ w'.cell? ⟨w.heap.size, 9, none⟩ = some (.int .u64 (h : Int))) (first | (with_reducible exact ⟨c0, c1, c2, c3, c4, c5, c6, c7, c8, c9⟩) | go_keep) (first
   | (go_at_call 77; (with_reducible refine (ka.out _).mono ?_); rintro e' w6 ⟨rfl, hE⟩; have H0 : Box10 w6 w.heap.size s a b c d t e f g h := (by first | exact H0.ext hE | exact H0.drew.ext hE); have HX : Hid (Ext w w6) := (by first | exact hide (HX.out.trans hE) | exact hide ((HX.out.trans (ext_drew _)).trans hE)); obtain ⟨c0, c1, c2, c3, c4, c5, c6, c7, c8, c9, cf0, cf1, cf2, cf3, cf4, cf5, cf6, cf7, cf8, cf9⟩ := ten_cells H0; clear hE)
   | (go_at_call 76; (with_reducible refine (kg.out _).mono ?_); rintro e' w7 ⟨rfl, hE⟩; have H0 : Box10 w7 w.heap.size s a b c d t e f g h := (by first | exact H0.ext hE | exact H0.drew.ext hE); have HX : Hid (Ext w w7) := (by first | exact hide (HX.out.trans hE) | exact hide ((HX.out.trans (ext_drew _)).trans hE)); obtain ⟨c0, c1, c2, c3, c4, c5, c6, c7, c8, c9, cf0, cf1, cf2, cf3, cf4, cf5, cf6, cf7, cf8, cf9⟩ := ten_cells H0; clear hE)
   | (go_at_call 61; (with_reducible refine (k9.out _).mono ?_); rintro e' w8 ⟨rfl, hE⟩; have H0 : Box10 w8 w.heap.size s a b c d t e f g h := (by first | exact H0.ext hE | exact H0.drew.ext hE); have HX : Hid (Ext w w8) := (by first | exact hide (HX.out.trans hE) | exact hide ((HX.out.trans (ext_drew _)).trans hE)); obtain ⟨c0, c1, c2, c3, c4, c5, c6, c7, c8, c9, cf0, cf1, cf2, cf3, cf4, cf5, cf6, cf7, cf8, cf9⟩ := ten_cells H0; clear hE))
 all_goals go_wp2_with fail
 all_goals go_ret
 all_goals exact ⟨rfl, HX.out⟩
open Go Go.RowKit
set_option maxRecDepth 100000 in
set_option maxHeartbeats 4000000 in
theorem rf_of (v : Int) (w : World) (v1 : -9223372036854775808 ≤ v) (v2 : v ≤ 9223372036854775807) : Calls Try.prog 34 #[.int .i64 v] w (RatRet v 1 w) := by
 have P0 : Box10 (w.alloc (.cells #[.bool false, .int .u64 0, .int .u64 0, .int .u64 0, .int .u64 0, .bool false, .int .u64 0, .int .u64 0, .int .u64 0, .int .u64 0] 40)) w.heap.size false 0 0 0 0 false 0 0 0 0 := heap_alloc_new w _
 have EE := ext_alloc w (.cells #[.bool false, .int .u64 0, .int .u64 0, .int .u64 0, .int .u64 0, .bool false, .int .u64 0, .int .u64 0, .int .u64 0, .int .u64 0] 40)
 obtain ⟨W, hW⟩ : ∃ W, W = w.alloc (.cells #[.bool false, .int .u64 0, .int .u64 0, .int .u64 0, .int .u64 0, .bool false, .int .u64 0, .int .u64 0, .int .u64 0, .int .u64 0] 40) := ⟨_, rfl⟩
 rw [← hW] at P0 EE
 have HW := hide hW
 clear hW
 have k1 : Hid (∀ w', Calls Try.prog 16 #[.int .i64 v] w' (WideOnly v w')) := fun w' => ref_ofi v w' v1 v2
 have k2 : Hid (∀ w', Calls Try.prog 61 #[] w' (WideOnly 1 w')) := fun w' => rf_one w'
 clear v1 v2
 go_enter Try.func34, Try.ntmps34
 go_upto_region 1 with fail
 rw [← HW.out]
 clear HW
 go_wp2_with (first
   | (go_at_call 16; (with_reducible refine (k1.out _).mono ?_); rintro e' w2 ⟨s1, a1, b1, c1, d1, rfl, C1, hE⟩; have K1 := hide C1; have P0 := P0.ext hE; have EE := EE.trans hE; obtain ⟨i0, i1, i2, i3, i4, i5, i6, i7, i8, i9, j0, j1, j2, j3, j4, j5, j6, j7, j8, j9⟩ := ten_cells P0; clear hE C1)
   | (go_at_call 61; (with_reducible refine (k2.out _).mono ?_); rintro e' w3 ⟨s2, a2, b2, c2, d2, rfl, C2, hE⟩; have K2 := hide C2; have P0 := P0.ext hE; have EE := EE.trans hE; obtain ⟨i0, i1, i2, i3, i4, i5, i6, i7, i8, i9, j0, j1, j2, j3, j4, j5, j6, j7, j8, j9⟩ := ten_cells P0; clear hE C2))
 all_goals exact bodyPost_ret (v := .agg #[.bool s1, .int .u64 (a1 : Int), .int .u64 (b1 : Int), .int .u64 (c1 : Int), .int .u64 (d1 : Int), .bool s2, .int .u64 (a2 : Int), .int .u64 (b2 : Int), .int .u64 (c2 : Int), .int .u64 (d2 : Int)]) (by simp [results, Try.results34, go_sem, i0, i1, i2, i3, i4, i5, i6, i7, i8, i9]) rfl ⟨s1, a1, b1, c1, d1, s2, a2, b2, c2, d2, rfl, K1.out, K2.out, ext_ten EE (Nat.le_refl _) _ _ _ _ _ _ _ _ _ _⟩
set_option maxRecDepth 100000 in
set_option maxHeartbeats 4000000 in
theorem rf_clean (s t : Bool) (a b c d e f g h : Nat) (x y : Int) (w : World) (hx : IsW s a b c d x) (hy : IsW t e f g h y) (v : Bool) (hv : decide (RatOk s x t y) = v) :
   Calls Try.prog 54 #[.agg #[.bool s, .int .u64 (a : Int), .int .u64 (b : Int), .int .u64 (c : Int), .int .u64 (d : Int), .bool t, .int .u64 (e : Int), .int .u64 (f : Int), .int .u64 (g : Int), .int .u64 (h : Int)]] w (RatRet (cN v x) (cD v y) w) := by
 have H2 := two_blocks w (.cells #[.bool s, .int .u64 (a : Int), .int .u64 (b : Int), .int .u64 (c : Int), .int .u64 (d : Int), .bool t, .int .u64 (e : Int), .int .u64 (f : Int), .int .u64 (g : Int), .int .u64 (h : Int)] 40) (.cells #[.bool false, .int .u64 0, .int .u64 0, .int .u64 0, .int .u64 0, .bool false, .int .u64 0, .int .u64 0, .int .u64 0, .int .u64 0] 40)
 have EE := hide ((ext_alloc w (.cells #[.bool s, .int .u64 (a : Int), .int .u64 (b : Int), .int .u64 (c : Int), .int .u64 (d : Int), .bool t, .int .u64 (e : Int), .int .u64 (f : Int), .int .u64 (g : Int), .int .u64 (h : Int)] 40)).trans (ext_alloc _ (.cells #[.bool false, .int .u64 0, .int .u64 0, .int .u64 0, .int .u64 0, .bool false, .int .u64 0, .int .u64 0, .int .u64 0, .int .u64 0] 40)))
 obtain ⟨W, hW⟩ : ∃ W, W = (w.alloc (.cells #[.bool s, .int .u64 (a : Int), .int .u64 (b : Int), .int .u64 (c : Int), .int .u64 (d : Int), .bool t, .int .u64 (e : Int), .int .u64 (f : Int), .int .u64 (g : Int), .int .u64 (h : Int)] 40)).alloc (.cells #[.bool false, .int .u64 0, .int .u64 0, .int .u64 0, .int .u64 0, .bool false, .int .u64 0, .int .u64 0, .int .u64 0, .int .u64 0] 40) := ⟨_, rfl⟩
 rw [← hW] at H2 EE
 have P0 : Box10 W w.heap.size s a b c d t e f g h := H2.1
 have P1 : Box10 W (w.heap.size + 1) false 0 0 0 0 false 0 0 0 0 := H2.2
 have HW := hide hW
 have kv : Hid (∀ w', Calls Try.prog 58 #[.agg #[.bool s, .int .u64 (a : Int), .int .u64 (b : Int), .int .u64 (c : Int), .int .u64 (d : Int), .bool t, .int .u64 (e : Int), .int .u64 (f : Int), .int .u64 (g : Int), .int .u64 (h : Int)]] w' (BoolRet v w')) := fun w' => rf_valid s t a b c d e f g h x y w' hx hy v hv
 have KK : Hid (v = true → IsC s a b c d x ∧ IsC t e f g h y) := by
   intro h1
   rw [h1] at hv
   have h2 := of_decide_eq_true hv
   exact ⟨⟨hx, h2.1⟩, ⟨hy, h2.2.1⟩⟩
 clear hW H2 hv hx hy
 obtain ⟨c0, c1, c2, c3, c4, c5, c6, c7, c8, c9, _⟩ := ten_cells P0
 go_enter Try.func54, Try.ntmps54
 go_upto_region 1 with fail
 rw [← HW.out]
 clear HW
 cases v
 · go_wp2_with (first
     | (go_at_call 58; (with_reducible refine (kv.out _).mono ?_); rintro e' w2 ⟨rfl, hE⟩; have P1 := P1.ext hE; have EE := hide (EE.out.trans hE); clear hE)
     | (go_at_call 61; refine (rf_one _).mono ?_; rintro e' w3 ⟨t1, e1, f1, g1, h1, rfl, D1, hE⟩; have K2 := hide D1; have P1 := P1.ext hE; have EE := hide (EE.out.trans hE); obtain ⟨i0, i1, i2, i3, i4, i5, i6, i7, i8, i9, j0, j1, j2, j3, j4, j5, j6, j7, j8, j9⟩ := ten_cells P1; clear hE D1))
   all_goals exact bodyPost_ret (v := .agg #[.bool false, .int .u64 0, .int .u64 0, .int .u64 0, .int .u64 0, .bool t1, .int .u64 (e1 : Int), .int .u64 (f1 : Int), .int .u64 (g1 : Int), .int .u64 (h1 : Int)]) (by simp [results, Try.results54, go_sem, i0, i1, i2, i3, i4, i5, i6, i7, i8, i9]) rfl ⟨false, 0, 0, 0, 0, t1, e1, f1, g1, h1, rfl, isC_zero, K2.out, ext_ten EE.out (by omega) _ _ _ _ _ _ _ _ _ _⟩
 · obtain ⟨K1, K2⟩ := KK.out rfl
   have K1 := hide K1
   have K2 := hide K2
   go_wp2_with (go_at_call 58; (with_reducible refine (kv.out _).mono ?_); rintro e' w2 ⟨rfl, hE⟩; have P0 := P0.ext hE; have P1 := P1.ext hE; have EE := hide (EE.out.trans hE); obtain ⟨c0, c1, c2, c3, c4, c5, c6, c7, c8, c9, _⟩ := ten_cells P0; obtain ⟨i0, i1, i2, i3, i4, i5, i6, i7, i8, i9, j0, j1, j2, j3, j4, j5, j6, j7, j8, j9⟩ := ten_cells P1; clear hE)
   all_goals exact bodyPost_ret (v := .agg #[.bool s, .int .u64 (a : Int), .int .u64 (b : Int), .int .u64 (c : Int), .int .u64 (d : Int), .bool t, .int .u64 (e : Int), .int .u64 (f : Int), .int .u64 (g : Int), .int .u64 (h : Int)]) (by simp [results, Try.results54, go_sem, i0, i1, i2, i3, i4, i5, i6, i7, i8, i9]) rfl ⟨s, a, b, c, d, t, e, f, g, h, rfl, K1.out, K2.out, ext_ten EE.out (by omega) _ _ _ _ _ _ _ _ _ _⟩
end
section
open Go Go.RowKit
open Go Go.RowKit
set_option maxRecDepth 100000 in
set_option maxHeartbeats 8000000 in
theorem rf_at (s : Bool) (a b c d : Nat) (t : Bool) (e f g h : Nat) (x y : Int) (w : World) (hx : IsW s a b c d x) (hy : IsW t e f g h y) (k : Nat) (hk : k < 18446744073709551616) (v : Bool) (hv : decide (RatOk s x t y) = v) :
   Calls Try.prog 26 #[.agg #[.bool s, .int .u64 (a : Int), .int .u64 (b : Int), .int .u64 (c : Int), .int .u64 (d : Int), .bool t, .int .u64 (e : Int), .int .u64 (f : Int), .int .u64 (g : Int), .int .u64 (h : Int)], .int .u64 (k : Int)] w (WideOnly (((cN v x + cN v x) * k + cD v y) / (cD v y + cD v y)) w) := by
 have H2 := two_blocks w (.cells #[.bool s, .int .u64 (a : Int), .int .u64 (b : Int), .int .u64 (c : Int), .int .u64 (d : Int), .bool t, .int .u64 (e : Int), .int .u64 (f : Int), .int .u64 (g : Int), .int .u64 (h : Int)] 40) (.cells #[.bool false, .int .u64 0, .int .u64 0, .int .u64 0, .int .u64 0] 25)
 have EE := (ext_alloc w (.cells #[.bool s, .int .u64 (a : Int), .int .u64 (b : Int), .int .u64 (c : Int), .int .u64 (d : Int), .bool t, .int .u64 (e : Int), .int .u64 (f : Int), .int .u64 (g : Int), .int .u64 (h : Int)] 40)).trans (ext_alloc _ (.cells #[.bool false, .int .u64 0, .int .u64 0, .int .u64 0, .int .u64 0] 25))
 obtain ⟨W, hW⟩ : ∃ W, W = (w.alloc (.cells #[.bool s, .int .u64 (a : Int), .int .u64 (b : Int), .int .u64 (c : Int), .int .u64 (d : Int), .bool t, .int .u64 (e : Int), .int .u64 (f : Int), .int .u64 (g : Int), .int .u64 (h : Int)] 40)).alloc (.cells #[.bool false, .int .u64 0, .int .u64 0, .int .u64 0, .int .u64 0] 25) := ⟨_, rfl⟩
 rw [← hW] at H2 EE
 have P0 : Box10 W w.heap.size s a b c d t e f g h := H2.1
 have B2 : Box W (w.heap.size + 1) false 0 0 0 0 := H2.2
 have HW := hide hW
 clear hW H2
 have k1 : Hid (∀ w', Calls Try.prog 54 #[.agg #[.bool s, .int .u64 (a : Int), .int .u64 (b : Int), .int .u64 (c : Int), .int .u64 (d : Int), .bool t, .int .u64 (e : Int), .int .u64 (f : Int), .int .u64 (g : Int), .int .u64 (h : Int)]] w' (RatRet (cN v x) (cD v y) w')) := fun w' => rf_clean _ _ _ _ _ _ _ _ _ _ x y w' hx hy v hv
 obtain ⟨bn, bd, pd, _⟩ := cBound hv
 obtain ⟨n, hn⟩ : ∃ n, cN v x = n := ⟨_, rfl⟩
 obtain ⟨m, hm⟩ : ∃ n, cD v y = n := ⟨_, rfl⟩
 rw [hn, hm] at k1 ⊢
 rw [hm] at pd
 have hm0 : Hid (m ≠ 0) := by unfold Hid; omega
 rw [hn] at bn
 rw [hm] at bd
 have hmm0 : Hid (m + m ≠ 0) := by unfold Hid; omega
 obtain ⟨z1, hz1⟩ : ∃ z, n * (k : Int) = z := ⟨_, rfl⟩
 obtain ⟨z2, hz2⟩ : ∃ z, z1 + z1 = z := ⟨_, rfl⟩
 obtain ⟨z3, hz3⟩ : ∃ z, z2 + m = z := ⟨_, rfl⟩
 obtain ⟨z4, hz4⟩ : ∃ z, m + m = z := ⟨_, rfl⟩
 have g1' : z1.natAbs < 3138550867693340381917894711603833208051177722232017256448 := by
   rw [← hz1, Int.natAbs_mul, Int.natAbs_natCast]
   exact Nat.lt_of_lt_of_le (Nat.mul_lt_mul'' bn hk) (by decide)
 have g2' : z2.natAbs < 6277101735386680763835789423207666416102355444464034512896 := by omega
 have g3' : z3.natAbs < 115792089237316195423570985008687907853269984665640564039457584007913129639936 := by omega
 have g4' : z4.natAbs < 115792089237316195423570985008687907853269984665640564039457584007913129639936 := by omega
 rw [hz4] at hmm0 ⊢
 have hzz : (n + n) * (k : Int) = z2 := by rw [← hz2, ← hz1, Int.add_mul]
 rw [hzz, hz3]
 have ka : Hid (∀ w' s a b c d, IsW s a b c d z1 → Calls Try.prog 25 #[.agg #[.bool s, .int .u64 (a : Int), .int .u64 (b : Int), .int .u64 (c : Int), .int .u64 (d : Int)], .agg #[.bool s, .int .u64 (a : Int), .int .u64 (b : Int), .int .u64 (c : Int), .int .u64 (d : Int)]] w' (WideYes' z2 w')) := fun w' s a b c d h => (ref_wadd s s a b c d a b c d z1 z1 w' h h).mono (fun _ _ q => wide_ret (by rw [hz2] at q; exact q) (by omega))
 have kb : Hid (∀ w' s a b c d t e f g h, IsW s a b c d n → IsW t e f g h (k : Int) → Calls Try.prog 20 #[.agg #[.bool s, .int .u64 (a : Int), .int .u64 (b : Int), .int .u64 (c : Int), .int .u64 (d : Int)], .agg #[.bool t, .int .u64 (e : Int), .int .u64 (f : Int), .int .u64 (g : Int), .int .u64 (h : Int)]] w' (WideYes' z1 w')) := fun w' s a b c d t e f g h h1 h2 => (ref_wmul s t a b c d e f g h n k w' h1 h2).mono (fun _ _ q => wide_ret (by rw [hz1] at q; exact q) (by omega))
 have kc : Hid (∀ w' s a b c d t e f g h, IsW s a b c d z2 → IsW t e f g h m → Calls Try.prog 25 #[.agg #[.bool s, .int .u64 (a : Int), .int .u64 (b : Int), .int .u64 (c : Int), .int .u64 (d : Int)], .agg #[.bool t, .int .u64 (e : Int), .int .u64 (f : Int), .int .u64 (g : Int), .int .u64 (h : Int)]] w' (WideYes' z3 w')) := fun w' s a b c d t e f g h h1 h2 => (ref_wadd s t a b c d e f g h z2 m w' h1 h2).mono (fun _ _ q => wide_ret (by rw [hz3] at q; exact q) g3')
 have kd : Hid (∀ w' s a b c d, IsW s a b c d m → Calls Try.prog 25 #[.agg #[.bool s, .int .u64 (a : Int), .int .u64 (b : Int), .int .u64 (c : Int), .int .u64 (d : Int)], .agg #[.bool s, .int .u64 (a : Int), .int .u64 (b : Int), .int .u64 (c : Int), .int .u64 (d : Int)]] w' (WideYes' z4 w')) := fun w' s a b c d h => (ref_wadd s s a b c d a b c d m m w' h h).mono (fun _ _ q => wide_ret (by rw [hz4] at q; exact q) g4')
 have ku : Hid (∀ w', Calls Try.prog 21 #[.int .u64 (k : Int)] w' (WideOnly (k : Int) w')) := fun w' => ref_ofu k w' hk
 clear hzz hn hm hv hx hy bn bd pd hz1 hz2 hz3 hz4 g1' g2' g3' g4' hk
 obtain ⟨p0, p1, p2, p3, p4, p5, p6, p7, p8, p9, pf0, pf1, pf2, pf3, pf4, pf5, pf6, pf7, pf8, pf9⟩ := ten_cells P0
 go_enter Try.func26, Try.ntmps26
 go_upto_region 1 with fail
 rw [← HW.out]
 clear HW
 go_upto_region 2 with (go_at_call 54; (with_reducible refine (k1.out _).mono ?_); rintro e' w2 ⟨s1, a1, b1, c1, d1, t1, e1, f1, g1, h1, rfl, C1, D1, hE⟩; have K1 := hide C1; have L1 := hide D1; have P0 := P0.ext hE; have B2 := B2.ext hE; have EE := EE.trans hE; obtain ⟨p0, p1, p2, p3, p4, p5, p6, p7, p8, p9, pf0, pf1, pf2, pf3, pf4, pf5, pf6, pf7, pf8, pf9⟩ := ten_cells P0; clear hE C1 D1)
 have Q0 := P0.put (s' := s1) (a' := a1) (b' := b1) (c' := c1) (d' := d1) (t' := t1) (e' := e1) (f' := f1) (g' := g1) (h' := h1)
 have Q2 := B2.far10 (b' := w.heap.size) (by omega) (.bool s1) (.int .u64 (a1 : Int)) (.int .u64 (b1 : Int)) (.int .u64 (c1 : Int)) (.int .u64 (d1 : Int)) (.bool t1) (.int .u64 (e1 : Int)) (.int .u64 (f1 : Int)) (.int .u64 (g1 : Int)) (.int .u64 (h1 : Int))
 have QE := ext_ten EE (b := w.heap.size) (Nat.le_refl _) (.bool s1) (.int .u64 (a1 : Int)) (.int .u64 (b1 : Int)) (.int .u64 (c1 : Int)) (.int .u64 (d1 : Int)) (.bool t1) (.int .u64 (e1 : Int)) (.int .u64 (f1 : Int)) (.int .u64 (g1 : Int)) (.int .u64 (h1 : Int))
 generalize (((((((((w2.setCell ⟨w.heap.size, 0, none⟩ (.bool s1)).setCell ⟨w.heap.size, 1, none⟩ (.int .u64 (a1 : Int))).setCell ⟨w.heap.size, 2, none⟩ (.int .u64 (b1 : Int))).setCell ⟨w.heap.size, 3, none⟩ (.int .u64 (c1 : Int))).setCell ⟨w.heap.size, 4, none⟩ (.int .u64 (d1 : Int))).setCell ⟨w.heap.size, 5, none⟩ (.bool t1)).setCell ⟨w.heap.size, 6, none⟩ (.int .u64 (e1 : Int))).setCell ⟨w.heap.size, 7, none⟩ (.int .u64 (f1 : Int))).setCell ⟨w.heap.size, 8, none⟩ (.int .u64 (g1 : Int))).setCell ⟨w.heap.size, 9, none⟩ (.int .u64 (h1 : Int)) = W3 at *
 clear P0 B2 EE
 have V1 := hide K1.out.1
 have Y1 := hide L1.out.1
 obtain ⟨q0, q1, q2, q3, q4, q5, q6, q7, q8, q9, qf0, qf1, qf2, qf3, qf4, qf5, qf6, qf7, qf8, qf9⟩ := ten_cells Q0
 have l2 := Q2.lt
 go_upto_region 2 with fail
 go_cut [5] (fun p wx => Quot W3 z1 p wx)
 case first =>
  have EB := Ext.refl W3
  go_region_held3 (fun w' => w'.cell? ⟨w.heap.size, 0, none⟩ = some (.bool s1) ∧ w'.cell? ⟨w.heap.size, 1, none⟩ = some (.int .u64 (a1 : Int)) ∧ w'.cell? ⟨w.heap.size, 2, none⟩ = some (.int .u64 (b1 : Int)) ∧ w'.cell? ⟨w.heap.size, 3, none⟩ = some (.int .u64 (c1 : Int)) ∧ w'.cell? ⟨w.heap.size, 4, none⟩ = some (.int .u64 (d1 : Int))) (first | (with_reducible exact ⟨q0, q1, q2, q3, q4⟩) | go_keep) (first
    | (go_at_call 21; (with_reducible refine (ku.out _).mono ?_); rintro e' w6 ⟨s6, a6, b6, c6, d6, rfl, C6, hE⟩; have K6 := hide C6; have V6 := hide C6.1; clear C6; have hF : Ext W3 w6 := (by first | (with_reducible exact hE) | (with_reducible exact (ext_drew _).trans hE)); clear hE; have hG := hF; have Q0 := Q0.ext hG; have Q2 := Q2.ext hG; have EB := EB.trans hG; obtain ⟨q0, q1, q2, q3, q4, q5, q6, q7, q8, q9, qf0, qf1, qf2, qf3, qf4, qf5, qf6, qf7, qf8, qf9⟩ := ten_cells Q0; have szw6 := hG.size; have loQ0 := Q0.lt; have loQ2 := Q2.lt; clear hF hG)
    | (go_at_call 21; (with_reducible refine (ku.out _).mono ?_); rintro e' w6 ⟨s6, a6, b6, c6, d6, rfl, C6, hE⟩; have K6 := hide C6; have V6 := hide C6.1; clear C6; have hF : Ext (W3.alloc (.cells #[.bool false, .int .u64 0, .int .u64 0, .int .u64 0, .int .u64 0] 25)) w6 := (by first | (with_reducible exact hE) | (with_reducible exact (ext_drew _).trans hE)); clear hE; have hG := (ext_alloc W3 (.cells #[.bool false, .int .u64 0, .int .u64 0, .int .u64 0, .int .u64 0] 25)).trans hF; have Nw60 : Box w6 (W3.heap.size) false 0 0 0 0 := (Box.new0 W3).ext hF; have Q0 := Q0.ext hG; have Q2 := Q2.ext hG; have EB := EB.trans hG; obtain ⟨q0, q1, q2, q3, q4, q5, q6, q7, q8, q9, qf0, qf1, qf2, qf3, qf4, qf5, qf6, qf7, qf8, qf9⟩ := ten_cells Q0; obtain ⟨x0c0, x0c1, x0c2, x0c3, x0c4, x0f0, x0f1, x0f2, x0f3, x0f4⟩ := five_cells Nw60; have szw6 := hG.size; have loQ0 := Q0.lt; have loQ2 := Q2.lt; have loNw60 := Nw60.lt; have ne0 : W3.heap.size ≠ w.heap.size := (by omega); have ne1 : W3.heap.size ≠ w.heap.size + 1 := (by omega); clear hF hG)
    | (go_at_call 20; (with_reducible refine (kb.out _ _ _ _ _ _ _ _ _ _ _ V1.out V6.out).mono ?_); rintro e' w4 ⟨s3, a3, b3, c3, d3, rfl, C3, hE⟩; have K3 := hide C3; clear C3; have hF : Ext w6 w4 := (by first | (with_reducible exact hE) | (with_reducible exact (ext_drew _).trans hE)); clear hE; have hG := hF; have Q0 := Q0.ext hG; have Q2 := Q2.ext hG; have EB := EB.trans hG; have Nw60 := Nw60.ext hG; obtain ⟨q0, q1, q2, q3, q4, q5, q6, q7, q8, q9, qf0, qf1, qf2, qf3, qf4, qf5, qf6, qf7, qf8, qf9⟩ := ten_cells Q0; obtain ⟨x0c0, x0c1, x0c2, x0c3, x0c4, x0f0, x0f1, x0f2, x0f3, x0f4⟩ := five_cells Nw60; have szw4 := hG.size; have loQ0 := Q0.lt; have loQ2 := Q2.lt; have loNw60 := Nw60.lt; have ne0 : W3.heap.size ≠ w.heap.size := (by omega); have ne1 : W3.heap.size ≠ w.heap.size + 1 := (by omega); clear hF hG)
    | (go_at_call 20; (with_reducible refine (kb.out _ _ _ _ _ _ _ _ _ _ _ V1.out V6.out).mono ?_); rintro e' w4 ⟨s3, a3, b3, c3, d3, rfl, C3, hE⟩; have K3 := hide C3; clear C3; have hF : Ext w6 w4 := (by first | (with_reducible exact hE) | (with_reducible exact (ext_drew _).trans hE)); clear hE; have hG := hF; have Q0 := Q0.ext hG; have Q2 := Q2.ext hG; have EB := EB.trans hG; obtain ⟨q0, q1, q2, q3, q4, q5, q6, q7, q8, q9, qf0, qf1, qf2, qf3, qf4, qf5, qf6, qf7, qf8, qf9⟩ := ten_cells Q0; have szw4 := hG.size; have loQ0 := Q0.lt; have loQ2 := Q2.lt; clear hF hG)
    | (go_at_call 20; (with_reducible refine (kb.out _ _ _ _ _ _ _ _ _ _ _ V1.out V6.out).mono ?_); rintro e' w4 ⟨s3, a3, b3, c3, d3, rfl, C3, hE⟩; have K3 := hide C3; clear C3; have hF : Ext (w6.alloc (.cells #[.bool false, .int .u64 0, .int .u64 0, .int .u64 0, .int .u64 0] 25)) w4 := (by first | (with_reducible exact hE) | (with_reducible exact (ext_drew _).trans hE)); clear hE; have hG := (ext_alloc w6 (.cells #[.bool false, .int .u64 0, .int .u64 0, .int .u64 0, .int .u64 0] 25)).trans hF; have Nw40 : Box w4 (w6.heap.size) false 0 0 0 0 := (Box.new0 w6).ext hF; have Q0 := Q0.ext hG; have Q2 := Q2.ext hG; have EB := EB.trans hG; obtain ⟨q0, q1, q2, q3, q4, q5, q6, q7, q8, q9, qf0, qf1, qf2, qf3, qf4, qf5, qf6, qf7, qf8, qf9⟩ := ten_cells Q0; obtain ⟨x0c0, x0c1, x0c2, x0c3, x0c4, x0f0, x0f1, x0f2, x0f3, x0f4⟩ := five_cells Nw40; have szw4 := hG.size; have loQ0 := Q0.lt; have loQ2 := Q2.lt; have loNw40 := Nw40.lt; have ne0 : w6.heap.size ≠ w.heap.size := (by omega); have ne1 : w6.heap.size ≠ w.heap.size + 1 := (by omega); clear hF hG))
  all_goals go_wp2_with fail
  all_goals go_meet
  all_goals first
    | (with_reducible exact one0 K3.out EB)
    | (with_reducible exact one1 K3.out EB Nw40 (by omega))
    | (with_reducible exact one1 K3.out EB Nw60 (by omega))
 case rest =>
  obtain ⟨g7, s7, a7, b7, c7, d7, rfl, C7, B7, hg7, hE⟩ := hcut
  have K7 := hide C7
  have V7 := hide C7.1
  have Q0 := Q0.ext hE; have Q2 := Q2.ext hE; have QE := QE.trans hE
  clear C7 hE
  have l0 := Q0.lt
  obtain ⟨q0, q1, q2, q3, q4, q5, q6, q7, q8, q9, qf0, qf1, qf2, qf3, qf4, qf5, qf6, qf7, qf8, qf9⟩ := ten_cells Q0
  obtain ⟨m0, m1, m2, m3, m4, mf0, mf1, mf2, mf3, mf4⟩ := five_cells B7
  go_upto_region 4 with (go_at_call 25; (with_reducible refine (ka.out _ _ _ _ _ _ V7.out).mono ?_); rintro e' w8 ⟨s8, a8, b8, c8, d8, rfl, C8, hE⟩; have K8 := hide C8; have V8 := hide C8.1; have Q0 := Q0.ext hE; have Q2 := Q2.ext hE; have B7 := B7.ext hE; have QE := QE.trans hE; obtain ⟨m0, m1, m2, m3, m4, mf0, mf1, mf2, mf3, mf4⟩ := five_cells B7; clear hE C8)
  have B7 := B7.put (t := s8) (a' := a8) (b' := b8) (c' := c8) (d' := d8)
  have Q0 := Q0.far (b' := g7) (by omega) (.bool s8) (.int .u64 (a8 : Int)) (.int .u64 (b8 : Int)) (.int .u64 (c8 : Int)) (.int .u64 (d8 : Int))
  have Q2 := Q2.far (b' := g7) (by omega) (.bool s8) (.int .u64 (a8 : Int)) (.int .u64 (b8 : Int)) (.int .u64 (c8 : Int)) (.int .u64 (d8 : Int))
  have QE := ext_five QE (b := g7) (by omega) (.bool s8) (.int .u64 (a8 : Int)) (.int .u64 (b8 : Int)) (.int .u64 (c8 : Int)) (.int .u64 (d8 : Int))
  generalize (((((w8.setCell ⟨g7, 0, none⟩ (.bool s8)).setCell ⟨g7, 1, none⟩ (.int .u64 (a8 : Int))).setCell ⟨g7, 2, none⟩ (.int .u64 (b8 : Int))).setCell ⟨g7, 3, none⟩ (.int .u64 (c8 : Int))).setCell ⟨g7, 4, none⟩ (.int .u64 (d8 : Int))) = W8 at *
  obtain ⟨q0, q1, q2, q3, q4, q5, q6, q7, q8, q9, qf0, qf1, qf2, qf3, qf4, qf5, qf6, qf7, qf8, qf9⟩ := ten_cells Q0
  obtain ⟨m0, m1, m2, m3, m4, mf0, mf1, mf2, mf3, mf4⟩ := five_cells B7
  obtain ⟨m0, m1, m2, m3, m4, mf0, mf1, mf2, mf3, mf4⟩ := five_cells B7
  go_upto_region 5 with (go_at_call 25; (with_reducible refine (kc.out _ _ _ _ _ _ _ _ _ _ _ V8.out Y1.out).mono ?_); rintro e' w9 ⟨s9, a9, b9, c9, d9, rfl, C9, hE⟩; have K9 := hide C9; have V9 := hide C9.1; have Q0 := Q0.ext hE; have Q2 := Q2.ext hE; have B7 := B7.ext hE; have QE := QE.trans hE; obtain ⟨m0, m1, m2, m3, m4, mf0, mf1, mf2, mf3, mf4⟩ := five_cells B7; clear hE C9)
  have B7 := B7.put (t := s9) (a' := a9) (b' := b9) (c' := c9) (d' := d9)
  have Q0 := Q0.far (b' := g7) (by omega) (.bool s9) (.int .u64 (a9 : Int)) (.int .u64 (b9 : Int)) (.int .u64 (c9 : Int)) (.int .u64 (d9 : Int))
  have Q2 := Q2.far (b' := g7) (by omega) (.bool s9) (.int .u64 (a9 : Int)) (.int .u64 (b9 : Int)) (.int .u64 (c9 : Int)) (.int .u64 (d9 : Int))
  have QE := ext_five QE (b := g7) (by omega) (.bool s9) (.int .u64 (a9 : Int)) (.int .u64 (b9 : Int)) (.int .u64 (c9 : Int)) (.int .u64 (d9 : Int))
  generalize (((((w9.setCell ⟨g7, 0, none⟩ (.bool s9)).setCell ⟨g7, 1, none⟩ (.int .u64 (a9 : Int))).setCell ⟨g7, 2, none⟩ (.int .u64 (b9 : Int))).setCell ⟨g7, 3, none⟩ (.int .u64 (c9 : Int))).setCell ⟨g7, 4, none⟩ (.int .u64 (d9 : Int))) = W9 at *
  obtain ⟨q0, q1, q2, q3, q4, q5, q6, q7, q8, q9, qf0, qf1, qf2, qf3, qf4, qf5, qf6, qf7, qf8, qf9⟩ := ten_cells Q0
  obtain ⟨m0, m1, m2, m3, m4, mf0, mf1, mf2, mf3, mf4⟩ := five_cells B7
  go_upto_region 6 with (go_at_call 25; (with_reducible refine (kd.out _ _ _ _ _ _ Y1.out).mono ?_); rintro e' w11 ⟨s11, a11, b11, c11, d11, rfl, C11, hE⟩; have K11 := hide C11; have V11 := hide C11.1; have Q0 := Q0.ext hE; have Q2 := Q2.ext hE; have B7 := B7.ext hE; have QE := QE.trans hE; clear hE C11)
  have B11 : Box (w11.alloc (.cells #[.bool s11, .int .u64 (a11 : Int), .int .u64 (b11 : Int), .int .u64 (c11 : Int), .int .u64 (d11 : Int)] 25)) w11.heap.size s11 a11 b11 c11 d11 := Box.new w11 _ _ _ _ _
  have hE := ext_alloc w11 (.cells #[.bool s11, .int .u64 (a11 : Int), .int .u64 (b11 : Int), .int .u64 (c11 : Int), .int .u64 (d11 : Int)] 25)
  have Q0 := Q0.ext hE; have Q2 := Q2.ext hE; have B7 := B7.ext hE; have QE := QE.trans hE
  clear hE
  generalize w11.alloc (.cells #[.bool s11, .int .u64 (a11 : Int), .int .u64 (b11 : Int), .int .u64 (c11 : Int), .int .u64 (d11 : Int)] 25) = W11 at *
  generalize w11.heap.size = g11 at *
  obtain ⟨q0, q1, q2, q3, q4, q5, q6, q7, q8, q9, qf0, qf1, qf2, qf3, qf4, qf5, qf6, qf7, qf8, qf9⟩ := ten_cells Q0
  obtain ⟨u0, u1, u2, u3, u4, uf0, uf1, uf2, uf3, uf4⟩ := five_cells B7
  obtain ⟨r0, r1, r2, r3, r4, rf0, rf1, rf2, rf3, rf4⟩ := five_cells B11
  go_upto_region 7 with (go_at_call 55; refine (ref_wdiv s9 s11 a9 b9 c9 d9 a11 b11 c11 d11 z3 z4 _ K9.out.1 K11.out.1).mono ?_; rintro e' w13 ⟨s13, a13, b13, c13, d13, s14, a14, b14, c14, d14, o3, rfl, ho, C3, C4, hE⟩; have Ho := hide ho; rw [if_neg hmm0.out] at C3; have K3 := hide C3; have Q2 := Q2.ext hE; have QE := QE.trans hE; clear hE ho C3 C4)
  have l13 := Q2.lt
  have H4 := two_blocks w13 (.cells #[.bool s13, .int .u64 (a13 : Int), .int .u64 (b13 : Int), .int .u64 (c13 : Int), .int .u64 (d13 : Int)] 25) (.cells #[.bool s14, .int .u64 (a14 : Int), .int .u64 (b14 : Int), .int .u64 (c14 : Int), .int .u64 (d14 : Int)] 25)
  have hE := (ext_alloc w13 (.cells #[.bool s13, .int .u64 (a13 : Int), .int .u64 (b13 : Int), .int .u64 (c13 : Int), .int .u64 (d13 : Int)] 25)).trans (ext_alloc _ (.cells #[.bool s14, .int .u64 (a14 : Int), .int .u64 (b14 : Int), .int .u64 (c14 : Int), .int .u64 (d14 : Int)] 25))
  have Q2 := Q2.ext hE
  have QE := QE.trans hE
  generalize (w13.alloc (.cells #[.bool s13, .int .u64 (a13 : Int), .int .u64 (b13 : Int), .int .u64 (c13 : Int), .int .u64 (d13 : Int)] 25)).alloc (.cells #[.bool s14, .int .u64 (a14 : Int), .int .u64 (b14 : Int), .int .u64 (c14 : Int), .int .u64 (d14 : Int)] 25) = W13 at *
  have B13 : Box W13 w13.heap.size s13 a13 b13 c13 d13 := H4.1
  generalize w13.heap.size = g13 at *
  clear hE H4
  obtain ⟨v0, v1, v2, v3, v4, _⟩ := five_cells B13
  obtain ⟨i0, i1, i2, i3, i4, j0, j1, j2, j3, j4⟩ := five_cells Q2
  go_wp2_with fail
  all_goals exact bodyPost_ret (v := .agg #[.bool s13, .int .u64 (a13 : Int), .int .u64 (b13 : Int), .int .u64 (c13 : Int), .int .u64 (d13 : Int)]) (by simp [results, Try.results26, go_sem, i0, i1, i2, i3, i4]) rfl ⟨s13, a13, b13, c13, d13, rfl, K3.out, ext_five QE (by omega) _ _ _ _ _⟩
end
section
open Go Go.RowKit Go.Sort
theorem F256.mk {z : Int} (h : z.natAbs < 170141183460469231731687303715884105728) : F256 z := by unfold F256; omega
theorem Frac.fn {n d : Int} (h : Frac n d) : F256 n := F256.mk h.2.1
theorem Frac.fd {n d : Int} (h : Frac n d) : F256 d := F256.mk h.2.2.1
theorem Frac.ok {n d : Int} (h : Frac n d) : decide (RatOk (sg n) n (sg d) d) = true := decide_eq_true ⟨(isC_of h.fn).2, (isC_of h.fd).2, h⟩
theorem ret_make {o : Bool} {n d : Int} {w w' : World} {e : Ending} (h : MakeRet o n d w e w') : Ret (.tuple #[.agg #[.bool (sg n), .int .u64 (l0 n : Int), .int .u64 (l1 n : Int), .int .u64 (l2 n : Int), .int .u64 (l3 n : Int), .bool (sg d), .int .u64 (l0 d : Int), .int .u64 (l1 d : Int), .int .u64 (l2 d : Int), .int .u64 (l3 d : Int)], .bool o]) w e w' := by
 obtain ⟨s, a, b, c, d', t, e', f, g, h', rfl, k1, k2, hE⟩ := h
 obtain ⟨rfl, rfl, rfl, rfl, rfl⟩ := isC_fix k1
 obtain ⟨rfl, rfl, rfl, rfl, rfl⟩ := isC_fix k2
 exact ⟨rfl, hE⟩
theorem ret_rat {n d : Int} {w w' : World} {e : Ending} (h : RatRet n d w e w') : Ret (.agg #[.bool (sg n), .int .u64 (l0 n : Int), .int .u64 (l1 n : Int), .int .u64 (l2 n : Int), .int .u64 (l3 n : Int), .bool (sg d), .int .u64 (l0 d : Int), .int .u64 (l1 d : Int), .int .u64 (l2 d : Int), .int .u64 (l3 d : Int)]) w e w' := by
 obtain ⟨s, a, b, c, d', t, e', f, g, h', rfl, k1, k2, hE⟩ := h
 obtain ⟨rfl, rfl, rfl, rfl, rfl⟩ := isC_fix k1
 obtain ⟨rfl, rfl, rfl, rfl, rfl⟩ := isC_fix k2
 exact ⟨rfl, hE⟩
def mkB (x y : Int) : Bool := decide ((numR x y).natAbs < 170141183460469231731687303715884105728 ∧ (denR x y).natAbs < 170141183460469231731687303715884105728)
theorem mkB_frac {x y : Int} (h0 : y ≠ 0) (h : mkB x y = true) : Frac (numR x y) (denR x y) := makes_frac ⟨h0, of_decide_eq_true h⟩
theorem neWs (z : Int) (w : World) : (binOp .neq 25 (.agg #[.bool (sg z), .int .u64 (l0 z : Int), .int .u64 (l1 z : Int), .int .u64 (l2 z : Int), .int .u64 (l3 z : Int)]) (.agg #[.bool (sg z), .int .u64 (l0 z : Int), .int .u64 (l1 z : Int), .int .u64 (l2 z : Int), .int .u64 (l3 z : Int)])).run Try.prog w = .ok (.bool false) w := neq_same _ _ _ _ _ w
theorem g_valid {n d : Int} (h : Frac n d) (w : World) : Calls Try.prog 50 #[.agg #[.bool (sg n), .int .u64 (l0 n : Int), .int .u64 (l1 n : Int), .int .u64 (l2 n : Int), .int .u64 (l3 n : Int), .bool (sg d), .int .u64 (l0 d : Int), .int .u64 (l1 d : Int), .int .u64 (l2 d : Int), .int .u64 (l3 d : Int)]] w (Ret (.bool true) w) :=
 r_valid _ _ _ _ _ _ _ _ _ _ n d w (isC_of h.fn).1 (isC_of h.fd).1 true h.ok
theorem g_cmp {n1 d1 n2 d2 r : Int} (h : Frac n1 d1) (k : Frac n2 d2) (e : cmpI (n1 * d2) (n2 * d1) = r) (w : World) : Calls Try.prog 51 #[.agg #[.bool (sg n1), .int .u64 (l0 n1 : Int), .int .u64 (l1 n1 : Int), .int .u64 (l2 n1 : Int), .int .u64 (l3 n1 : Int), .bool (sg d1), .int .u64 (l0 d1 : Int), .int .u64 (l1 d1 : Int), .int .u64 (l2 d1 : Int), .int .u64 (l3 d1 : Int)], .agg #[.bool (sg n2), .int .u64 (l0 n2 : Int), .int .u64 (l1 n2 : Int), .int .u64 (l2 n2 : Int), .int .u64 (l3 n2 : Int), .bool (sg d2), .int .u64 (l0 d2 : Int), .int .u64 (l1 d2 : Int), .int .u64 (l2 d2 : Int), .int .u64 (l3 d2 : Int)]] w (Ret (.int .i64 r) w) :=
 (r_compare _ _ _ _ _ _ _ _ _ _ _ _ _ _ _ _ _ _ _ _ n1 d1 n2 d2 w (isC_of h.fn).1 (isC_of h.fd).1 (isC_of k.fn).1 (isC_of k.fd).1 true true h.ok k.ok).mono fun _ _ q => by subst e; exact q
theorem g_of {x : Int} (h1 : -9223372036854775808 ≤ x) (h2 : x ≤ 9223372036854775807) (w : World) : Calls Try.prog 43 #[.int .i64 x] w (Ret (.agg #[.bool (sg x), .int .u64 (l0 x : Int), .int .u64 (l1 x : Int), .int .u64 (l2 x : Int), .int .u64 (l3 x : Int), .bool (sg 1), .int .u64 (l0 1 : Int), .int .u64 (l1 1 : Int), .int .u64 (l2 1 : Int), .int .u64 (l3 1 : Int)]) w) :=
 (r_of x w h1 h2).mono fun _ _ k => ret_rat k
theorem g_make {x y n d : Int} {o : Bool} (hx : F256 x) (hy : F256 y) (h0 : y ≠ 0) (ho : mkB x y = o) (hn : (if o then numR x y else 0) = n) (hd : (if o then denR x y else 0) = d) (w : World) : Calls Try.prog 41 #[.agg #[.bool (sg x), .int .u64 (l0 x : Int), .int .u64 (l1 x : Int), .int .u64 (l2 x : Int), .int .u64 (l3 x : Int)], .agg #[.bool (sg y), .int .u64 (l0 y : Int), .int .u64 (l1 y : Int), .int .u64 (l2 y : Int), .int .u64 (l3 y : Int)]] w (Ret (.tuple #[.agg #[.bool (sg n), .int .u64 (l0 n : Int), .int .u64 (l1 n : Int), .int .u64 (l2 n : Int), .int .u64 (l3 n : Int), .bool (sg d), .int .u64 (l0 d : Int), .int .u64 (l1 d : Int), .int .u64 (l2 d : Int), .int .u64 (l3 d : Int)], .bool o]) w) :=
 (r_make_yes _ _ _ _ _ _ _ _ _ _ x y w (isC_of hx) (isC_of hy) h0 o ho).mono fun _ _ k => ret_make (by subst hn hd; exact k)
theorem h_at {n d q : Int} {k : Nat} (h : Frac n d) (hk : k < 18446744073709551616) (e : ((n + n) * k + d) / (d + d) = q) (w : World) : Calls Try.prog 26 #[.agg #[.bool (sg n), .int .u64 (l0 n : Int), .int .u64 (l1 n : Int), .int .u64 (l2 n : Int), .int .u64 (l3 n : Int), .bool (sg d), .int .u64 (l0 d : Int), .int .u64 (l1 d : Int), .int .u64 (l2 d : Int), .int .u64 (l3 d : Int)], .int .u64 (k : Int)] w (Ret (.agg #[.bool (sg q), .int .u64 (l0 q : Int), .int .u64 (l1 q : Int), .int .u64 (l2 q : Int), .int .u64 (l3 q : Int)]) w) :=
 (rf_at _ _ _ _ _ _ _ _ _ _ n d w (isC_of h.fn).1 (isC_of h.fd).1 k hk true h.ok).mono fun _ _ k => ret_wide (by subst e; exact k)
theorem h_of {x : Int} (h1 : -9223372036854775808 ≤ x) (h2 : x ≤ 9223372036854775807) (w : World) : Calls Try.prog 34 #[.int .i64 x] w (Ret (.agg #[.bool (sg x), .int .u64 (l0 x : Int), .int .u64 (l1 x : Int), .int .u64 (l2 x : Int), .int .u64 (l3 x : Int), .bool (sg 1), .int .u64 (l0 1 : Int), .int .u64 (l1 1 : Int), .int .u64 (l2 1 : Int), .int .u64 (l3 1 : Int)]) w) :=
 (rf_of x w h1 h2).mono fun _ _ k => ret_rat k
end
section
open Go Go.RowKit
inductive Tag | q | al | st (j : Nat) | so (k : Nat)
 deriving DecidableEq
def tagOf (kd : List Tag) (i : Nat) : Tag := kd.getD i .q
def dstOf (l : List Oper) (i : Nat) : Option Tmp := (l[i]?).bind (·.dst)
def dep (o : Oper) (k : Nat) : Bool := o.after.any fun e => Region.binds .any e && e.on == k
def calm (l : List Oper) (kd : List Tag) (o : Oper) (x : Operand) : Bool :=
 match x with
 | .tmp t => (List.range l.length).all fun k => dstOf l k != some t || (dep o k && tagOf kd k == .q)
 | _ => true
def okOp (l : List Oper) (kd : List Tag) (i : Nat) : Bool :=
 match l[i]? with
 | none => false
 | some o => o.guard.isNone && (match o.op with | .select .. => false | _ => true) &&
   (o.after.all fun e => !Region.binds .any e || decide (e.on < i)) &&
   ((List.range l.length).all fun k => k == i || (match o.dst with | none => true | some d => dstOf l k != some d)) &&
   (match tagOf kd i with
     | .q => o.op.operands.all fun x => calm l kd o x
     | .al => true
     | .st j => (match o.op with
         | .store _ (.tmp t) x => o.dst.isNone && dstOf l j == some t && dep o j && tagOf kd j == .al && calm l kd o x && ((List.range l.length).all fun k => k == i || tagOf kd k != .st j)
         | _ => false)
     | .so c => (match o.op with
         | .store _ p x => o.dst.isNone && calm l kd o p && calm l kd o x && ((List.range l.length).all fun k => k == i || tagOf kd k != .so c)
         | _ => false))
def anc (l : List Oper) : Nat → Nat → Nat → Bool
 | 0, _, _ => false
 | n + 1, s, i => match l[s]? with
   | none => false
   | some o => dep o i || (List.range l.length).any fun k => dep o k && anc l n k i
def declB (l : List Oper) (kd : List Tag) : Bool := (List.range l.length).all fun i => okOp l kd i
def ptrTo (g : Nat) : Value := .pointer (some ⟨g, 0, none⟩)
def vl (kd : List Tag) (V : List Value) (G : Nat → Nat) (i : Nat) : Value :=
 match tagOf kd i with
 | .q => V.getD i undef
 | .al => ptrTo (G i)
 | _ => undef
def frm (l : List Oper) (kd : List Tag) (V : List Value) (G : Nat → Nat) (a0 : Act) (S : List Nat) : Act := S.foldl (fun a i => a.put (dstOf l i) (vl kd V G i)) a0
def Same (kd : List Tag) (tgt : Nat → Nat) (W w : World) : Prop := w.os = W.os ∧ w.tape = W.tape ∧ w.output = W.output ∧ W.heap.size ≤ w.heap.size ∧ ∀ k, k < W.heap.size → (∀ c, .so c ∈ kd → tgt c ≠ k) → w.heap[k]? = W.heap[k]?
def qUpon (P : Program) (w : World) (v : Value) : Result Next → Prop
 | .ok (.value u) w' => w' = w ∧ u = v
 | .ok (.enter f args) w' => w' = w ∧ Calls P f args w (fun e w'' => e = .returned v ∧ Below w.heap.size w w'')
 | _ => False
def Quiet1 (P : Program) (C : World → Prop) (o : Oper) (a : Act) (v : Value) : Prop := ∀ w, C w → qUpon P w v ((execOp a.eval o).run P w)
def Stores (P : Program) (ρ : Operand → Value) (o : Oper) (w : World) (g : Nat) (f : Obj) : Prop := ∃ w1, (execOp ρ o).run P w = .ok .skip w1 ∧ w1.heap[g]? = some f ∧ (∀ k, k ≠ g → w1.heap[k]? = w.heap[k]?) ∧ w1.heap.size = w.heap.size ∧ w1.os = w.os ∧ w1.tape = w.tape ∧ w1.output = w.output
def OpRule (P : Program) (C : World → Prop) (l : List Oper) (kd : List Tag) (V : List Value) (zero full : Nat → Obj) (tgt : Nat → Nat) (W : World) (A : Act) (i : Nat) (o : Oper) : Prop :=
 match tagOf kd i with
 | .q => Quiet1 P (fun w => C w ∧ ∀ s c, tagOf kd s = .so c → anc l l.length s i = true → w.heap[tgt c]? = W.heap[tgt c]?) o A (V.getD i undef)
 | .al => ∀ (ρ : Operand → Value) (w : World), (execOp ρ o).run P w = .ok (.value (ptrTo w.heap.size)) (w.alloc (zero i))
 | .st j => match o.op with
   | .store _ t x => ∀ (ρ : Operand → Value) (w : World) (g : Nat), ρ t = ptrTo g → ρ x = A.eval x → w.heap[g]? = some (zero j) → Stores P ρ o w g (full i)
   | _ => False
 | .so c => match o.op with
   | .store _ p x => A.eval p = ptrTo (tgt c) ∧ ∀ (ρ : Operand → Value) (w : World), ρ p = ptrTo (tgt c) → ρ x = A.eval x → w.heap[tgt c]? = W.heap[tgt c]? → Stores P ρ o w (tgt c) (full i)
   | _ => False
def AllOps (R : Nat → Oper → Prop) : Nat → List Oper → Prop
 | i, o :: l => R i o ∧ AllOps R (i + 1) l
 | _, [] => True
theorem AllOps.get {R : Nat → Oper → Prop} : ∀ {l : List Oper} {k : Nat}, AllOps R k l → ∀ i o, l[i]? = some o → R (k + i) o
 | [], _, _, i, o, h => by simp at h
 | x :: l, k, hA, 0, o, h => by
   obtain rfl : x = o := by simpa using h
   exact hA.1
 | x :: l, k, hA, i + 1, o, h => by
   have := AllOps.get hA.2 i o (by simpa using h)
   rwa [Nat.add_assoc, Nat.add_comm 1 i] at this
structure DInv (l : List Oper) (kd : List Tag) (V : List Value) (zero full : Nat → Obj) (tgt : Nat → Nat) (a0 : Act) (W : World) (S : List Nat) (G : Nat → Nat) (w : World) : Prop where
 nd : S.Nodup
 inn : ∀ i ∈ S, i < l.length
 same : Same kd tgt W w
 made : ∀ i ∈ S, tagOf kd i = .al → W.heap.size ≤ G i ∧ G i < w.heap.size
 apart : ∀ i ∈ S, ∀ j ∈ S, tagOf kd i = .al → tagOf kd j = .al → G i = G j → i = j
 zeros : ∀ i ∈ S, tagOf kd i = .al → (∀ s ∈ S, tagOf kd s ≠ .st i) → w.heap[G i]? = some (zero i)
 fulls : ∀ s ∈ S, ∀ i, tagOf kd s = .st i → i ∈ S ∧ tagOf kd i = .al ∧ w.heap[G i]? = some (full s)
 olds : ∀ s, s < l.length → ∀ c, tagOf kd s = .so c → s ∉ S → w.heap[tgt c]? = W.heap[tgt c]?
 olds' : ∀ s ∈ S, ∀ c, tagOf kd s = .so c → w.heap[tgt c]? = some (full s)
 cl : ∀ s ∈ S, ∀ o, l[s]? = some o → ∀ k, dep o k = true → k ∈ S
section
variable {l : List Oper} {kd : List Tag} {V : List Value}
theorem frm_none (G : Nat → Nat) (t : Tmp) : ∀ (S : List Nat) (a0 : Act), (∀ k ∈ S, dstOf l k ≠ some t) → (frm l kd V G a0 S).tmps[t]? = a0.tmps[t]?
 | [], a0, _ => rfl
 | k :: S, a0, h => by
   show (frm l kd V G (a0.put (dstOf l k) (vl kd V G k)) S).tmps[t]? = _
   rw [frm_none G t S _ (fun j hj => h j (by simp [hj]))]
   have hk := h k (by simp)
   cases hd : dstOf l k with
   | none => rfl
   | some d =>
     have : d ≠ t := fun e => hk (by rw [hd, e])
     simp [Act.put, Array.getElem?_setIfInBounds_ne this]
theorem put_size (a : Act) (d : Option Tmp) (v : Value) : (a.put d v).tmps.size = a.tmps.size := by cases d <;> simp [Act.put]
theorem frm_some (G : Nat → Nat) (t : Tmp) (k : Nat) (hk : dstOf l k = some t) : ∀ (S : List Nat) (a0 : Act), S.Nodup → k ∈ S → (∀ j ∈ S, dstOf l j = some t → j = k) → (frm l kd V G a0 S).tmps[t]? = if t < a0.tmps.size then some (vl kd V G k) else none
 | [], a0, _, h, _ => by simp at h
 | j :: S, a0, hn, h, hu => by
   show (frm l kd V G (a0.put (dstOf l j) (vl kd V G j)) S).tmps[t]? = _
   obtain ⟨hj, hn'⟩ := List.nodup_cons.1 hn
   by_cases e : j = k
   · subst e
     rw [frm_none G t S _ (fun i hi he => hj (by rw [← hu i (by simp [hi]) he]; exact hi)), hk]
     simp [Act.put, Array.getElem?_setIfInBounds]
   · have hkS : k ∈ S := by
       rcases List.mem_cons.1 h with h | h
       · exact absurd h.symm e
       · exact h
     rw [frm_some G t k hk S _ hn' hkS (fun i hi he => hu i (by simp [hi]) he), put_size]
theorem frm_congr (G G' : Nat → Nat) : ∀ (S : List Nat) (a0 : Act), (∀ i ∈ S, tagOf kd i = .al → G i = G' i) → frm l kd V G a0 S = frm l kd V G' a0 S
 | [], _, _ => rfl
 | k :: S, a0, h => by
   have e : vl kd V G k = vl kd V G' k := by
     unfold vl
     cases ht : tagOf kd k <;> simp only
     rw [h k (by simp) ht]
   show frm l kd V G (a0.put (dstOf l k) (vl kd V G k)) S = frm l kd V G' (a0.put (dstOf l k) (vl kd V G' k)) S
   rw [e]
   exact frm_congr G G' S _ (fun i hi => h i (by simp [hi]))
theorem frm_snoc (G : Nat → Nat) (a0 : Act) (S : List Nat) (i : Nat) : frm l kd V G a0 (S ++ [i]) = (frm l kd V G a0 S).put (dstOf l i) (vl kd V G i) := by
 unfold frm; rw [List.foldl_append]; rfl
def OneWriter (l : List Oper) : Prop := ∀ i j t, dstOf l i = some t → dstOf l j = some t → i = j
theorem frm_perm (G : Nat → Nat) (a0 : Act) {S S' : List Nat} (h : S.Perm S') (h1 : OneWriter l) : frm l kd V G a0 S = frm l kd V G a0 S' := by
 unfold frm
 refine List.Perm.foldl_eq' h (fun x hx y hy a => ?_) a0
 by_cases e : x = y
 · subst e; rfl
 · exact Act.put_comm a _ _ (fun d hd hy => e (h1 x y d hd hy))
theorem one_writer (h : declB l kd = true) : OneWriter l := by
 intro i j t hi hj
 unfold declB at h
 rw [List.all_eq_true] at h
 have hil : i < l.length := by
   unfold dstOf at hi
   cases hx : l[i]? with
   | none => rw [hx] at hi; simp at hi
   | some o => exact (List.getElem?_eq_some_iff.1 hx).1
 have hjl : j < l.length := by
   unfold dstOf at hj
   cases hx : l[j]? with
   | none => rw [hx] at hj; simp at hj
   | some o => exact (List.getElem?_eq_some_iff.1 hx).1
 have := h i (List.mem_range.2 hil)
 unfold okOp at this
 rw [List.getElem?_eq_getElem hil] at this
 simp only [Bool.and_eq_true, List.all_eq_true] at this
 have hu := this.1.2 j (List.mem_range.2 hjl)
 have hd : l[i].dst = some t := by unfold dstOf at hi; rw [List.getElem?_eq_getElem hil] at hi; simpa using hi
 rw [hd] at hu
 simp [hj] at hu
 exact hu.symm
theorem ok_spec (h : declB l kd = true) {i : Nat} {o : Oper} (ho : l[i]? = some o) : o.guard = none ∧ (∀ cs b, o.op ≠ .select cs b) ∧ (∀ e ∈ o.after, Region.binds .any e = true → e.on < i) ∧
   (tagOf kd i = .q → ∀ x ∈ o.op.operands, calm l kd o x = true) ∧
   (∀ j, tagOf kd i = .st j → ∃ T t x, o.op = .store T (.tmp t) x ∧ o.dst = none ∧ dstOf l j = some t ∧ dep o j = true ∧ tagOf kd j = .al ∧ calm l kd o x = true ∧ ∀ k, k < l.length → tagOf kd k = .st j → k = i) ∧
   (∀ c, tagOf kd i = .so c → ∃ T p x, o.op = .store T p x ∧ o.dst = none ∧ calm l kd o p = true ∧ calm l kd o x = true ∧ ∀ k, k < l.length → tagOf kd k = .so c → k = i) := by
 unfold declB at h
 rw [List.all_eq_true] at h
 have hil := (List.getElem?_eq_some_iff.1 ho).1
 have := h i (List.mem_range.2 hil)
 unfold okOp at this
 rw [ho] at this
 simp only [Bool.and_eq_true] at this
 obtain ⟨⟨⟨⟨h1, h2⟩, h3⟩, h4⟩, h5⟩ := this
 refine ⟨by simpa using h1, ?_, ?_, ?_, ?_, ?_⟩
 · intro cs b e
   rw [e] at h2; simp at h2
 · intro e he hb
   have := Array.all_eq_true_iff_forall_mem.1 h3 e he
   rw [hb] at this; simpa using this
 · intro ht
   simp only [ht] at h5
   intro x hx
   exact Array.all_eq_true_iff_forall_mem.1 h5 x hx
 · intro j ht
   simp only [ht] at h5
   split at h5
   · rename_i T t x hop
     simp only [Bool.and_eq_true, List.all_eq_true] at h5
     obtain ⟨⟨⟨⟨⟨g1, g2⟩, g3⟩, g4⟩, g5⟩, g6⟩ := h5
     refine ⟨T, t, x, hop, by simpa using g1, by simpa using g2, g3, by simpa using g4, g5, ?_⟩
     intro k hk hkt
     have := g6 k (List.mem_range.2 hk)
     rw [hkt] at this; simpa using this
   · simp at h5
 · intro c ht
   simp only [ht] at h5
   split at h5
   · rename_i T p x hop
     simp only [Bool.and_eq_true, List.all_eq_true] at h5
     obtain ⟨⟨⟨g1, g2⟩, g3⟩, g4⟩ := h5
     refine ⟨T, p, x, hop, by simpa using g1, g2, g3, ?_⟩
     intro k hk hkt
     have := g4 k (List.mem_range.2 hk)
     rw [hkt] at this; simpa using this
   · simp at h5
theorem dst_lt {k : Nat} {t : Tmp} (h : dstOf l k = some t) : k < l.length := by
 unfold dstOf at h
 cases hx : l[k]? with
 | none => rw [hx] at h; simp at h
 | some o => exact (List.getElem?_eq_some_iff.1 hx).1
theorem eval_calm (hck : declB l kd = true) (G G' : Nat → Nat) (a0 : Act) {S : List Nat} (hS : S.Nodup) {o : Oper} (hdep : ∀ k, dep o k = true → k ∈ S) {x : Operand} (hx : calm l kd o x = true) :
   (frm l kd V G a0 S).eval x = (frm l kd V G' a0 (List.range l.length)).eval x := by
 have h1 := one_writer hck
 cases x with
 | tmp t =>
   simp only [calm, List.all_eq_true] at hx
   by_cases hw : ∃ k, dstOf l k = some t
   · obtain ⟨k, hk⟩ := hw
     have hkl := dst_lt hk
     have := hx k (List.mem_range.2 hkl)
     rw [hk] at this
     simp at this
     obtain ⟨hd, hq⟩ := this
     have e1 := frm_some (kd := kd) (V := V) G t k hk S a0 hS (hdep k hd) (fun j _ hj => h1 j k t hj hk)
     have e2 := frm_some (kd := kd) (V := V) G' t k hk (List.range l.length) a0 List.nodup_range (List.mem_range.2 hkl) (fun j _ hj => h1 j k t hj hk)
     have e3 : vl kd V G k = vl kd V G' k := by unfold vl; rw [hq]
     simp only [Act.eval, Array.getD_eq_getD_getElem?]
     rw [e1, e2, e3]
   · have e1 := frm_none (kd := kd) (V := V) G t S a0 (fun k _ e => hw ⟨k, e⟩)
     have e2 := frm_none (kd := kd) (V := V) G' t (List.range l.length) a0 (fun k _ e => hw ⟨k, e⟩)
     simp only [Act.eval, Array.getD_eq_getD_getElem?]
     rw [e1, e2]
 | _ => rfl
theorem ready_spec {listed : Array Bool} {i : Nat} (h : i ∈ Region.ready .any l.toArray listed) : ∃ o, l[i]? = some o ∧ listed.getD i true = false ∧ ∀ k, dep o k = true → listed.getD k false = true := by
 unfold Region.ready at h
 rw [List.mem_filter] at h
 obtain ⟨h1, h2⟩ := h
 simp only [Bool.and_eq_true] at h2
 obtain ⟨h2, h3⟩ := h2
 have hi : i < l.length := by simpa using h1
 refine ⟨l[i], List.getElem?_eq_getElem hi, by simpa using h2, ?_⟩
 intro k hk
 rw [List.getElem?_toArray, List.getElem?_eq_getElem hi] at h3
 simp only [Option.map_some, Option.getD_some] at h3
 unfold dep at hk
 rw [Array.any_eq_true'] at hk
 obtain ⟨e, he, hb⟩ := hk
 simp only [Bool.and_eq_true, beq_iff_eq] at hb
 have := Array.all_eq_true_iff_forall_mem.1 h3 e he
 rw [hb.1, hb.2] at this
 simpa using this
theorem ready_some (hck : declB l kd = true) {listed : Array Bool} {S : List Nat} (hL : ∀ j, j < l.length → (listed.getD j true = decide (j ∈ S)) ∧ listed.getD j false = decide (j ∈ S)) {m : Nat} (hm : m < l.length) (hmS : m ∉ S) : Region.ready .any l.toArray listed ≠ [] := by
 -- the least one that is not listed is ready
 induction m using Nat.strongRecOn with
 | ind m ih =>
   by_cases hlow : ∃ j, j < m ∧ j ∉ S
   · obtain ⟨j, hj, hjS⟩ := hlow
     exact ih j hj (by omega) hjS
   · intro he
     have : m ∈ Region.ready .any l.toArray listed := by
       unfold Region.ready
       rw [List.mem_filter]
       refine ⟨by simpa using hm, ?_⟩
       rw [List.getElem?_toArray, List.getElem?_eq_getElem hm]
       simp only [Option.map_some, Option.getD_some, Bool.and_eq_true]
       refine ⟨by rw [(hL m hm).1]; simpa using hmS, ?_⟩
       rw [Array.all_eq_true_iff_forall_mem]
       intro e hee
       cases hb : Region.binds .any e
       · rfl
       · have hlt := (ok_spec hck (List.getElem?_eq_getElem hm)).2.2.1 e hee hb
         have : e.on ∈ S := Classical.byContradiction fun hn => hlow ⟨e.on, hlt, hn⟩
         simp [(hL e.on (by omega)).2, this]
     rw [he] at this
     simp at this
theorem tag_mem {i : Nat} {c : Nat} (h : tagOf kd i = .so c) : Tag.so c ∈ kd := by
 unfold tagOf at h
 rw [List.getD_eq_getElem?_getD] at h
 cases hx : kd[i]? with
 | none => rw [hx] at h; simp at h
 | some t => rw [hx] at h; simp at h; rw [← h]; exact List.mem_of_getElem? hx
theorem kept {w w' : World} {k : Nat} {x : Obj} (h : Below w.heap.size w w') (e : w.heap[k]? = some x) : w'.heap[k]? = some x := by
 rw [h.block k (Array.getElem?_eq_some_iff.1 e).1]; exact e
theorem Same.below {tgt : Nat → Nat} {W w w' : World} (h : Same kd tgt W w) (k : Below w.heap.size w w') : Same kd tgt W w' :=
 ⟨k.os.trans h.1, k.tape.trans h.2.1, k.output.trans h.2.2.1, Nat.le_trans h.2.2.2.1 k.size, fun j hj hc => (k.block j (Nat.lt_of_lt_of_le hj h.2.2.2.1)).trans (h.2.2.2.2 j hj hc)⟩
variable {zero full : Nat → Obj} {tgt : Nat → Nat} {a0 : Act} {W : World} {S : List Nat} {G : Nat → Nat} {w : World}
theorem nodup_sub : ∀ (T S : List Nat), T.Nodup → (∀ x ∈ T, x ∈ S) → T.length ≤ S.length
 | [], _, _, _ => by simp
 | x :: T, S, hn, h => by
   obtain ⟨hx, hn'⟩ := List.nodup_cons.1 hn
   have h1 := h x (by simp)
   have h2 := nodup_sub T (S.erase x) hn' (fun y hy => (List.mem_erase_of_ne (fun e => hx (by rw [← e]; exact hy))).2 (h y (by simp [hy])))
   rw [List.length_erase_of_mem h1] at h2
   have h3 : 0 < S.length := List.length_pos_of_mem h1
   simp only [List.length_cons]
   omega
theorem nodup_snoc {i : Nat} (h : S.Nodup) (hi : i ∉ S) : (S ++ [i]).Nodup := by
 rw [List.nodup_append]
 refine ⟨h, by simp, ?_⟩
 intro a ha b hb
 simp at hb
 subst hb
 intro e; subst e; exact hi ha
theorem anc_in (hc : ∀ s ∈ S, ∀ o, l[s]? = some o → ∀ k, dep o k = true → k ∈ S) : ∀ (n s i : Nat), s ∈ S → anc l n s i = true → i ∈ S
 | 0, _, _, _, h => by simp [anc] at h
 | n + 1, s, i, hs, h => by
   unfold anc at h
   split at h
   · simp at h
   · rename_i o ho
     simp only [Bool.or_eq_true, List.any_eq_true, Bool.and_eq_true] at h
     rcases h with h | ⟨k, _, hk, h⟩
     · exact hc s hs o ho i h
     · exact anc_in hc n k i (hc s hs o ho k hk) h
theorem anc_lt {n s i : Nat} (h : anc l n s i = true) : s < l.length := by
 cases n with
 | zero => simp [anc] at h
 | succ n =>
   unfold anc at h
   split at h
   · simp at h
   · rename_i o ho
     exact (List.getElem?_eq_some_iff.1 ho).1
theorem cl_snoc {i : Nat} (hc : ∀ s ∈ S, ∀ o, l[s]? = some o → ∀ k, dep o k = true → k ∈ S) (hi : ∀ o, l[i]? = some o → ∀ k, dep o k = true → k ∈ S) : ∀ s ∈ S ++ [i], ∀ o, l[s]? = some o → ∀ k, dep o k = true → k ∈ S ++ [i] := by
 intro s hs o ho k hk
 rcases List.mem_append.1 hs with h | h
 · exact List.mem_append.2 (Or.inl (hc s h o ho k hk))
 · simp at h; subst h
   exact List.mem_append.2 (Or.inl (hi o ho k hk))
theorem inv_q (hI : DInv l kd V zero full tgt a0 W S G w) (htg : ∀ c, Tag.so c ∈ kd → tgt c < W.heap.size) {i : Nat} (hi : i < l.length) (hn : i ∉ S) (ht : tagOf kd i = .q) (hcl : ∀ o, l[i]? = some o → ∀ k, dep o k = true → k ∈ S) {w' : World} (hB : Below w.heap.size w w') : DInv l kd V zero full tgt a0 W (S ++ [i]) G w' := by
 have hm : ∀ s t, s ∈ S ++ [i] → tagOf kd s = t → t ≠ .q → s ∈ S := by
   intro s t hs h1 h2
   rcases List.mem_append.1 hs with h | h
   · exact h
   · simp at h; subst h; exact absurd (ht.symm.trans h1).symm h2
 have hsz := hB.size
 refine ⟨nodup_snoc hI.nd hn, ?_, hI.same.below hB, ?_, ?_, ?_, ?_, ?_, ?_, cl_snoc hI.cl hcl⟩
 · intro j hj
   rcases List.mem_append.1 hj with h | h
   · exact hI.inn j h
   · simp at h; subst h; exact hi
 · intro j hj hjt
   have := hI.made j (hm j _ hj hjt (by simp)) hjt
   omega
 · intro j hj k hk h1 h2 h3
   exact hI.apart j (hm j _ hj h1 (by simp)) k (hm k _ hk h2 (by simp)) h1 h2 h3
 · intro j hj hjt hno
   exact kept hB (hI.zeros j (hm j _ hj hjt (by simp)) hjt (fun s hs => hno s (by simp [hs])))
 · intro s hs j hst
   obtain ⟨h1, h2, h3⟩ := hI.fulls s (hm s _ hs hst (by simp)) j hst
   exact ⟨by simp [h1], h2, kept hB h3⟩
 · intro s hs c hc hns
   have h := hI.olds s hs c hc (fun h => hns (by simp [h]))
   rw [hB.block _ (Nat.lt_of_lt_of_le (htg c (tag_mem hc)) hI.same.2.2.2.1)]
   exact h
 · intro s hs c hc
   exact kept hB (hI.olds' s (hm s _ hs hc (by simp)) c hc)
theorem below_alloc (w : World) (o : Obj) : Below w.heap.size w (w.alloc o) := (Below.refl _ _).alloc (Nat.le_refl _) o
theorem inv_al (hI : DInv l kd V zero full tgt a0 W S G w) (htg : ∀ c, Tag.so c ∈ kd → tgt c < W.heap.size) (hck : declB l kd = true) {i : Nat} (hi : i < l.length) (hn : i ∉ S) (ht : tagOf kd i = .al) (hcl : ∀ o, l[i]? = some o → ∀ k, dep o k = true → k ∈ S) : DInv l kd V zero full tgt a0 W (S ++ [i]) (fun k => if k = i then w.heap.size else G k) (w.alloc (zero i)) := by
 have hB := below_alloc w (zero i)
 have hne : ∀ j, j ∈ S → j ≠ i := fun j hj e => hn (e ▸ hj)
 have hsz : (w.alloc (zero i)).heap.size = w.heap.size + 1 := by simp
 have hcase : ∀ j, j ∈ S ++ [i] → j ∈ S ∨ j = i := by intro j hj; simpa using hj
 have hnew : (w.alloc (zero i)).heap[w.heap.size]? = some (zero i) := Array.getElem?_push_size
 refine ⟨nodup_snoc hI.nd hn, ?_, hI.same.below hB, ?_, ?_, ?_, ?_, ?_, ?_, cl_snoc hI.cl hcl⟩
 · intro j hj
   rcases hcase j hj with h | h
   · exact hI.inn j h
   · subst h; exact hi
 · intro j hj hjt
   rcases hcase j hj with h | h
   · have := hI.made j h hjt
     rw [if_neg (hne j h)]; omega
   · subst h
     have := hI.same.2.2.2.1
     simp only [if_true]; omega
 · intro j hj k hk h1 h2 h3
   rcases hcase j hj with qj | qj <;> rcases hcase k hk with qk | qk
   · simp only [if_neg (hne j qj), if_neg (hne k qk)] at h3
     exact hI.apart j qj k qk h1 h2 h3
   · subst qk
     simp only [if_neg (hne j qj), if_true] at h3
     have := (hI.made j qj h1).2
     omega
   · subst qj
     simp only [if_neg (hne k qk), if_true] at h3
     have := (hI.made k qk h2).2
     omega
   · rw [qj, qk]
 · intro j hj hjt hno
   rcases hcase j hj with hj | hj
   · simp only [if_neg (hne j hj)]
     exact kept hB (hI.zeros j hj hjt (fun s hs => hno s (by simp [hs])))
   · subst hj
     simp only [if_true]; exact hnew
 · intro s hs j hst
   rcases hcase s hs with hs' | hs'
   · obtain ⟨h1, h2, h3⟩ := hI.fulls s hs' j hst
     refine ⟨by simp [h1], h2, ?_⟩
     simp only [if_neg (hne j h1)]
     exact kept hB h3
   · subst hs'; rw [ht] at hst; simp at hst
 · intro s hs c hc hns
   have h := hI.olds s hs c hc (fun h => hns (by simp [h]))
   rw [hB.block _ (Nat.lt_of_lt_of_le (htg c (tag_mem hc)) hI.same.2.2.2.1)]
   exact h
 · intro s hs c hc
   rcases hcase s hs with hs' | hs'
   · exact kept hB (hI.olds' s hs' c hc)
   · subst hs'; rw [ht] at hc; simp at hc
def Filled (w w1 : World) (g : Nat) (f : Obj) : Prop := w1.heap[g]? = some f ∧ (∀ k, k ≠ g → w1.heap[k]? = w.heap[k]?) ∧ w1.heap.size = w.heap.size ∧ w1.os = w.os ∧ w1.tape = w.tape ∧ w1.output = w.output
theorem inv_st (hI : DInv l kd V zero full tgt a0 W S G w) (htg : ∀ c, Tag.so c ∈ kd → tgt c < W.heap.size) (hck : declB l kd = true) {i j : Nat} {o : Oper} (ho : l[i]? = some o) (hn : i ∉ S) (ht : tagOf kd i = .st j) (hj : j ∈ S) (hcl : ∀ o, l[i]? = some o → ∀ k, dep o k = true → k ∈ S) {w1 : World} (hF : Filled w w1 (G j) (full i)) : DInv l kd V zero full tgt a0 W (S ++ [i]) G w1 := by
 have hil := (List.getElem?_eq_some_iff.1 ho).1
 obtain ⟨_, _, _, _, hst, _⟩ := ok_spec hck ho
 obtain ⟨T, t, x, _, _, _, _, hal, _, huniq⟩ := hst j ht
 obtain ⟨f1, f2, f3, f4, f5, f6⟩ := hF
 have hcase : ∀ k, k ∈ S ++ [i] → k ∈ S ∨ k = i := by intro k hk; simpa using hk
 have hjm := hI.made j hj hal
 have htag : ∀ k, k ∈ S ++ [i] → tagOf kd k = .al → k ∈ S := by
   intro k hk hkt
   rcases hcase k hk with h | h
   · exact h
   · subst h; rw [ht] at hkt; simp at hkt
 have hold : ∀ k, k < W.heap.size → w1.heap[k]? = w.heap[k]? := fun k hk => f2 k (by omega)
 refine ⟨nodup_snoc hI.nd hn, ?_, ⟨f4.trans hI.same.1, f5.trans hI.same.2.1, f6.trans hI.same.2.2.1, by have := hI.same.2.2.2.1; omega, fun k hk hc => (hold k hk).trans (hI.same.2.2.2.2 k hk hc)⟩, ?_, ?_, ?_, ?_, ?_, ?_, cl_snoc hI.cl hcl⟩
 · intro k hk
   rcases hcase k hk with h | h
   · exact hI.inn k h
   · subst h; exact hil
 · intro k hk hkt
   have := hI.made k (htag k hk hkt) hkt
   omega
 · intro k hk m hm h1 h2 h3
   exact hI.apart k (htag k hk h1) m (htag m hm h2) h1 h2 h3
 · intro k hk hkt hno
   have hkS := htag k hk hkt
   have hkj : k ≠ j := by
     intro e; subst e
     exact hno i (by simp) ht
   rw [f2 (G k) (fun e => hkj (hI.apart k hkS j hj hkt hal e))]
   exact hI.zeros k hkS hkt (fun s hs => hno s (by simp [hs]))
 · intro s hs k hst'
   rcases hcase s hs with hs' | hs'
   · obtain ⟨h1, h2, h3⟩ := hI.fulls s hs' k hst'
     have hkj : k ≠ j := by
       intro e; subst e
       have := huniq s (hI.inn s hs') hst'
       exact hn (this ▸ hs')
     refine ⟨by simp [h1], h2, ?_⟩
     rw [f2 (G k) (fun e => hkj (hI.apart k h1 j hj h2 hal e))]
     exact h3
   · subst hs'
     rw [ht] at hst'
     obtain rfl : j = k := by simpa using hst'
     exact ⟨by simp [hj], hal, f1⟩
 · intro s hs c hc hns
   rw [hold _ (htg c (tag_mem hc))]
   exact hI.olds s hs c hc (fun h => hns (by simp [h]))
 · intro s hs c hc
   rcases hcase s hs with hs' | hs'
   · rw [hold _ (htg c (tag_mem hc))]
     exact hI.olds' s hs' c hc
   · subst hs'; rw [ht] at hc; simp at hc
theorem inv_so (hI : DInv l kd V zero full tgt a0 W S G w) (htg : ∀ c, Tag.so c ∈ kd → tgt c < W.heap.size) (htd : ∀ c c', Tag.so c ∈ kd → Tag.so c' ∈ kd → tgt c = tgt c' → c = c') (hck : declB l kd = true) {i c : Nat} {o : Oper} (ho : l[i]? = some o) (hn : i ∉ S) (ht : tagOf kd i = .so c) (hcl : ∀ o, l[i]? = some o → ∀ k, dep o k = true → k ∈ S) {w1 : World} (hF : Filled w w1 (tgt c) (full i)) : DInv l kd V zero full tgt a0 W (S ++ [i]) G w1 := by
 have hil := (List.getElem?_eq_some_iff.1 ho).1
 obtain ⟨_, _, _, _, _, hso⟩ := ok_spec hck ho
 obtain ⟨T, p, x, _, _, _, _, huniq⟩ := hso c ht
 obtain ⟨f1, f2, f3, f4, f5, f6⟩ := hF
 have hcm := tag_mem ht
 have hcl0 := htg c hcm
 have hcase : ∀ k, k ∈ S ++ [i] → k ∈ S ∨ k = i := by intro k hk; simpa using hk
 have htag : ∀ k, k ∈ S ++ [i] → tagOf kd k = .al → k ∈ S := by
   intro k hk hkt
   rcases hcase k hk with h | h
   · exact h
   · subst h; rw [ht] at hkt; simp at hkt
 have hnew : ∀ k, k ∈ S → tagOf kd k = .al → w1.heap[G k]? = w.heap[G k]? := fun k hk hkt => f2 _ (by have := (hI.made k hk hkt).1; omega)
 refine ⟨nodup_snoc hI.nd hn, ?_, ⟨f4.trans hI.same.1, f5.trans hI.same.2.1, f6.trans hI.same.2.2.1, by have := hI.same.2.2.2.1; omega, fun k hk hc => (f2 k (fun e => hc c hcm e.symm)).trans (hI.same.2.2.2.2 k hk hc)⟩, ?_, ?_, ?_, ?_, ?_, ?_, cl_snoc hI.cl hcl⟩
 · intro k hk
   rcases hcase k hk with h | h
   · exact hI.inn k h
   · subst h; exact hil
 · intro k hk hkt
   have := hI.made k (htag k hk hkt) hkt
   omega
 · intro k hk m hm h1 h2 h3
   exact hI.apart k (htag k hk h1) m (htag m hm h2) h1 h2 h3
 · intro k hk hkt hno
   rw [hnew k (htag k hk hkt) hkt]
   exact hI.zeros k (htag k hk hkt) hkt (fun s hs => hno s (by simp [hs]))
 · intro s hs k hst'
   rcases hcase s hs with hs' | hs'
   · obtain ⟨h1, h2, h3⟩ := hI.fulls s hs' k hst'
     exact ⟨by simp [h1], h2, by rw [hnew k h1 h2]; exact h3⟩
   · subst hs'; rw [ht] at hst'; simp at hst'
 · intro s hs c' hc hns
   have hne : c' ≠ c := by
     intro e; subst e
     have := huniq s hs hc
     subst this; exact hns (by simp)
   rw [f2 _ (fun e => hne (htd c' c (tag_mem hc) hcm e))]
   exact hI.olds s hs c' hc (fun h => hns (by simp [h]))
 · intro s hs c' hc
   rcases hcase s hs with hs' | hs'
   · have hne : c' ≠ c := by
       intro e; subst e
       have := huniq s (hI.inn s hs') hc
       exact hn (this ▸ hs')
     rw [f2 _ (fun e => hne (htd c' c (tag_mem hc) hcm e))]
     exact hI.olds' s hs' c' hc
   · subst hs'
     rw [ht] at hc
     obtain rfl : c = c' := by simpa using hc
     exact f1
def dstB (l : List Oper) (n : Nat) : Bool := l.all fun o => match o.dst with | some d => decide (d < n) | none => true
theorem dst_in {n : Nat} (h : dstB l n = true) {i : Nat} {t : Tmp} (ht : dstOf l i = some t) : t < n := by
 unfold dstB at h
 rw [List.all_eq_true] at h
 have hi := dst_lt ht
 have := h l[i] (List.getElem_mem hi)
 have hd : l[i].dst = some t := by unfold dstOf at ht; rw [List.getElem?_eq_getElem hi] at ht; simpa using ht
 rw [hd] at this
 simpa using this
variable {P : Program} {Q : Exit → Act → World → Prop} {C : World → Prop}
theorem step_any (hck : declB l kd = true) (hdst : dstB l a0.tmps.size = true) (htg : ∀ c, Tag.so c ∈ kd → tgt c < W.heap.size) (htd : ∀ c c', Tag.so c ∈ kd → Tag.so c' ∈ kd → tgt c = tgt c' → c = c') (hC : ∀ w, Same kd tgt W w → C w) (G0 : Nat → Nat)
   (hops : AllOps (OpRule P C l kd V zero full tgt W (frm l kd V G0 a0 (List.range l.length))) 0 l)
   (hI : DInv l kd V zero full tgt a0 W S G w) {i : Nat} {o : Oper} (ho : l[i]? = some o) (hn : i ∉ S) (hdep : ∀ k, dep o k = true → k ∈ S)
   {K : Act → World → Prop} (hK : ∀ G' w', DInv l kd V zero full tgt a0 W (S ++ [i]) G' w' → K (frm l kd V G' a0 (S ++ [i])) w') :
   wpOp P l.toArray Q i K (frm l kd V G a0 S) w := by
 have hil := (List.getElem?_eq_some_iff.1 ho).1
 obtain ⟨hg, hs, _, hq, hst, hso⟩ := ok_spec hck ho
 have hrule := hops.get i o ho
 rw [Nat.zero_add] at hrule
 have hd : dstOf l i = o.dst := by unfold dstOf; rw [ho]; rfl
 have hcl : ∀ o, l[i]? = some o → ∀ k, dep o k = true → k ∈ S := by
   intro o' ho' k hk
   rw [ho] at ho'
   obtain rfl : o = o' := by simpa using ho'
   exact hdep k hk
 have hev : ∀ x, calm l kd o x = true → (frm l kd V G a0 S).eval x = (frm l kd V G0 a0 (List.range l.length)).eval x := fun x hx => eval_calm hck G G0 a0 hI.nd hdep hx
 unfold wpOp
 rw [List.getElem?_toArray, ho]
 simp only
 have hw : Region.wanted o (yielded l.toArray (frm l kd V G a0 S).tmps) = true := by unfold Region.wanted; rw [hg]
 rw [if_pos hw]
 refine Or.inl ?_
 unfold Oper.wp
 cases ht : tagOf kd i with
 | q =>
   unfold OpRule at hrule
   rw [ht] at hrule
   have h1 := hrule w ⟨hC w hI.same, fun s c hsc ha => hI.olds s (anc_lt ha) c hsc fun hs => hn (anc_in hI.cl _ s i hs ha)⟩
   rw [← execOp_congr o hs (fun x hx => hev x (hq ht x hx))] at h1
   have hv : vl kd V G i = V.getD i undef := by unfold vl; rw [ht]
   have hend : ∀ w', Below w.heap.size w w' → K ((frm l kd V G a0 S).put o.dst (V.getD i undef)) w' := by
     intro w' hB
     have := hK G w' (inv_q hI htg hil hn ht hcl hB)
     rw [frm_snoc, hd, hv] at this
     exact this
   generalize (execOp (frm l kd V G a0 S).eval o).run P w = r at h1 ⊢
   cases r with
   | ok n w' =>
     cases n <;> simp only [qUpon, Oper.upon] at h1 ⊢
     · obtain ⟨rfl, rfl⟩ := h1
       exact hend _ (Below.refl _ _)
     · obtain ⟨rfl, h2⟩ := h1
       refine h2.mono ?_
       rintro e w'' ⟨rfl, hB⟩
       exact hend w'' hB
   | halt x w' => simp only [qUpon] at h1
 | al =>
   unfold OpRule at hrule
   rw [ht] at hrule
   rw [hrule]
   simp only [Oper.upon]
   have := hK _ _ (inv_al hI htg hck hil hn ht hcl)
   rw [frm_snoc, hd, ← frm_congr G (fun k => if k = i then w.heap.size else G k) S a0 (fun k hk _ => by have e : k ≠ i := (fun e => hn (by rw [← e]; exact hk)); rw [if_neg e])] at this
   have hv : vl kd V (fun k => if k = i then w.heap.size else G k) i = ptrTo w.heap.size := by unfold vl; rw [ht]; simp
   rw [hv] at this
   exact this
 | st j =>
   obtain ⟨T, t, x, hop, hod, hdj, hdepj, hal, hcx, _⟩ := hst j ht
   unfold OpRule at hrule
   simp only [ht, hop] at hrule
   have hjS := hdep j hdepj
   have hp : (frm l kd V G a0 S).eval (.tmp t) = ptrTo (G j) := by
     have e1 := frm_some (kd := kd) (V := V) G t j hdj S a0 hI.nd hjS (fun k _ hk => one_writer hck k j t hk hdj)
     rw [if_pos (dst_in hdst hdj)] at e1
     simp only [Act.eval, Array.getD_eq_getD_getElem?]
     rw [e1]
     unfold vl; rw [hal]; rfl
   have hz := hI.zeros j hjS hal (fun s hs e => by
     obtain ⟨_, _, _, _, hst', _⟩ := ok_spec hck ho
     obtain ⟨_, _, _, _, _, _, _, _, _, hu⟩ := hst' j ht
     have := hu s (hI.inn s hs) e
     exact hn (this ▸ hs))
   obtain ⟨w1, hr, hF⟩ := hrule (frm l kd V G a0 S).eval w (G j) hp (hev x hcx) hz
   rw [hr]
   simp only [Oper.upon]
   have := hK G w1 (inv_st hI htg hck ho hn ht hjS hcl hF)
   have hv : vl kd V G i = undef := by unfold vl; rw [ht]
   rw [frm_snoc, hd, hv] at this
   exact this
 | so c =>
   obtain ⟨T, p, x, hop, hod, hcp, hcx, _⟩ := hso c ht
   unfold OpRule at hrule
   simp only [ht, hop] at hrule
   obtain ⟨hpA, hrule⟩ := hrule
   obtain ⟨w1, hr, hF⟩ := hrule (frm l kd V G a0 S).eval w ((hev p hcp).trans hpA) (hev x hcx) (hI.olds i hil c ht hn)
   rw [hr]
   simp only [Oper.upon]
   have := hK G w1 (inv_so hI htg htd hck ho hn ht hcl hF)
   have hv : vl kd V G i = undef := by unfold vl; rw [ht]
   rw [frm_snoc, hd, hv] at this
   exact this
theorem any_of_decl (hck : declB l kd = true) (hdst : dstB l a0.tmps.size = true) (htg : ∀ c, Tag.so c ∈ kd → tgt c < W.heap.size) (htd : ∀ c c', Tag.so c ∈ kd → Tag.so c' ∈ kd → tgt c = tgt c' → c = c') (hC : ∀ w, Same kd tgt W w → C w) (G0 : Nat → Nat)
   (hops : AllOps (OpRule P C l kd V zero full tgt W (frm l kd V G0 a0 (List.range l.length))) 0 l)
   (hend : ∀ G w, DInv l kd V zero full tgt a0 W (List.range l.length) G w → Q .normal (frm l kd V G a0 (List.range l.length)) w) :
   ∀ (fuel : Nat) (S : List Nat) (G : Nat → Nat) (w : World) (listed : Array Bool), listed.size = l.length → (∀ j, j < l.length → (listed.getD j true = decide (j ∈ S)) ∧ listed.getD j false = decide (j ∈ S)) → DInv l kd V zero full tgt a0 W S G w → S.length + fuel = l.length → wpAny P .any l.toArray Q fuel listed (frm l kd V G a0 S) w := by
 have h1 := one_writer hck
 intro fuel
 induction fuel with
 | zero =>
   intro S G w listed hsz hL hI hlen
   -- all are listed
   have hall : ∀ m, m < l.length → m ∈ S := by
     intro m hm
     refine Classical.byContradiction fun hn => ?_
     have h2 := nodup_sub (m :: S) (List.range l.length) (List.nodup_cons.2 ⟨hn, hI.nd⟩) (fun k hk => by
       rcases List.mem_cons.1 hk with h | h
       · subst h; exact List.mem_range.2 hm
       · exact List.mem_range.2 (hI.inn k h))
     simp at h2
     omega
   have hperm : S.Perm (List.range l.length) := (List.perm_ext_iff_of_nodup hI.nd List.nodup_range).2 (fun k => ⟨fun h => List.mem_range.2 (hI.inn k h), fun h => hall k (List.mem_range.1 h)⟩)
   refine ⟨?_, ?_⟩
   · cases hr : Region.ready .any l.toArray listed with
     | nil => rfl
     | cons i r =>
       obtain ⟨o, ho, hli, _⟩ := ready_spec (show i ∈ Region.ready .any l.toArray listed by rw [hr]; simp)
       have hi := (List.getElem?_eq_some_iff.1 ho).1
       rw [(hL i hi).1] at hli
       simp [hall i hi] at hli
   · rw [frm_perm G a0 hperm h1]
     refine hend G w ⟨List.nodup_range, fun i hi => List.mem_range.1 hi, hI.same, fun i hi => hI.made i (hperm.mem_iff.2 hi), fun i hi j hj => hI.apart i (hperm.mem_iff.2 hi) j (hperm.mem_iff.2 hj), fun i hi ht hs => hI.zeros i (hperm.mem_iff.2 hi) ht (fun s hs' => hs s (hperm.mem_iff.1 hs')), fun s hs i hi => ?_, fun s hs c hc hn => hI.olds s hs c hc (fun h => hn (hperm.mem_iff.1 h)), fun s hs => hI.olds' s (hperm.mem_iff.2 hs), fun s hs o ho k hk => List.mem_range.2 (hI.inn k (hI.cl s (hperm.mem_iff.2 hs) o ho k hk))⟩
     obtain ⟨a, b, c⟩ := hI.fulls s (hperm.mem_iff.2 hs) i hi
     exact ⟨hperm.mem_iff.1 a, b, c⟩
 | succ fuel ih =>
   intro S G w listed hsz hL hI hlen
   refine ⟨?_, ?_⟩
   · intro hr
     have : ∃ m, m < l.length ∧ m ∉ S := by
       apply Classical.byContradiction
       intro hno
       have := nodup_sub (List.range l.length) S List.nodup_range (fun m hm => Classical.byContradiction fun hn => hno ⟨m, List.mem_range.1 hm, hn⟩)
       simp at this
       omega
     obtain ⟨m, hm, hmS⟩ := this
     exact absurd hr (ready_some hck hL hm hmS)
   · intro i hi
     obtain ⟨o, ho, hli, hdep⟩ := ready_spec hi
     have hil := (List.getElem?_eq_some_iff.1 ho).1
     have hn : i ∉ S := by
       intro h
       rw [(hL i hil).1] at hli
       simp [h] at hli
     have hdep' : ∀ k, dep o k = true → k ∈ S := by
       intro k hk
       have h2 := hdep k hk
       by_cases hkl : k < l.length
       · rw [(hL k hkl).2] at h2
         simpa using h2
       · rw [Array.getD_eq_getD_getElem?, Array.getElem?_eq_none (by omega)] at h2
         simp at h2
     refine step_any hck hdst htg htd hC G0 hops hI ho hn hdep' ?_
     intro G' w' hI'
     refine ih (S ++ [i]) G' w' _ (by simpa using hsz) ?_ hI' (by simp; omega)
     intro j hj
     have hjs : j < listed.size := by omega
     by_cases e : j = i
     · subst e
       simp [Array.getD_eq_getD_getElem?, hjs]
     · have e' : i ≠ j := fun h => e h.symm
       have := hL j hj
       simp only [Array.getD_eq_getD_getElem?] at this ⊢
       rw [Array.getElem?_setIfInBounds_ne e']
       simpa [e] using this
theorem wp_region_decl {id : Nat} (kd : List Tag) (V : List Value) (zero full : Nat → Obj) (tgt : Nat → Nat) (C : World → Prop) (hm : P.follows .mixedOrders = true) (hck : declB l kd = true) (hdst : dstB l a0.tmps.size = true) (htg : ∀ c, Tag.so c ∈ kd → tgt c < W.heap.size) (htd : ∀ c c', Tag.so c ∈ kd → Tag.so c' ∈ kd → tgt c = tgt c' → c = c') (hC : ∀ w, Same kd tgt W w → C w) (G0 : Nat → Nat)
   (hops : AllOps (OpRule P C l kd V zero full tgt W (frm l kd V G0 a0 (List.range l.length))) 0 l)
   (hend : ∀ G w, DInv l kd V zero full tgt a0 W (List.range l.length) G w → Q .normal (frm l kd V G a0 (List.range l.length)) w) :
   (Code.region id l.toArray true).wp P Q a0 W := by
 refine wp_region_any hm ?_
 have h := any_of_decl (Q := Q) hck hdst htg htd hC G0 hops hend l.length [] (fun _ => 0) { W with drawn := W.drawn + 1 } (Array.replicate l.length false) (by simp) (fun j hj => by simp [Array.getD_eq_getD_getElem?, hj]) ?_ (by simp)
 · simpa [frm] using h
 · exact ⟨List.nodup_nil, by simp, ⟨rfl, rfl, rfl, Nat.le_refl _, fun _ _ _ => rfl⟩, by simp, by simp, by simp, by simp, fun s hs c hc _ => rfl, by simp, by simp⟩
def slotV (t : Tag) (v : Value) (g : Nat) : Value := match t with | .q => v | .al => ptrTo g | _ => undef
def putAll : List Oper → List Tag → List Value → (Nat → Nat) → Nat → Act → Act
 | o :: l, t :: kd, v :: V, G, i, a => putAll l kd V G (i + 1) (a.put o.dst (slotV t v (G i)))
 | _, _, _, _, _, a => a
theorem putAll_eq (l : List Oper) (kd : List Tag) (V : List Value) (G : Nat → Nat) : ∀ (l' : List Oper) (kd' : List Tag) (V' : List Value) (k : Nat) (a : Act), (∀ i, l'[i]? = l[k + i]?) → (∀ i, kd'[i]? = kd[k + i]?) → (∀ i, V'[i]? = V[k + i]?) → kd'.length = l'.length → V'.length = l'.length → putAll l' kd' V' G k a = (List.range' k l'.length).foldl (fun a i => a.put (dstOf l i) (vl kd V G i)) a
 | [], [], [], k, a, _, _, _, _, _ => rfl
 | o :: l', t :: kd', v :: V', k, a, h1, h2, h3, h4, h5 => by
   have e1 : l[k]? = some o := by have := h1 0; simpa using this.symm
   have e2 : kd[k]? = some t := by have := h2 0; simpa using this.symm
   have e3 : V[k]? = some v := by have := h3 0; simpa using this.symm
   have ed : dstOf l k = o.dst := by unfold dstOf; rw [e1]; rfl
   have et : tagOf kd k = t := by unfold tagOf; rw [List.getD_eq_getElem?_getD, e2]; rfl
   have eV : V.getD k undef = v := by rw [List.getD_eq_getElem?_getD, e3]; rfl
   have ev : vl kd V G k = slotV t v (G k) := by
     unfold vl; rw [et, eV]; cases t <;> rfl
   rw [putAll, List.length_cons, List.range'_succ, List.foldl_cons, ed, ev]
   exact putAll_eq l kd V G l' kd' V' (k + 1) _ (fun i => by have := h1 (i + 1); rw [Nat.add_assoc, Nat.add_comm 1 i]; simpa using this) (fun i => by have := h2 (i + 1); rw [Nat.add_assoc, Nat.add_comm 1 i]; simpa using this) (fun i => by have := h3 (i + 1); rw [Nat.add_assoc, Nat.add_comm 1 i]; simpa using this) (by simpa using h4) (by simpa using h5)
 | [], _ :: _, _, _, _, _, _, _, h, _ => by simp at h
 | [], [], _ :: _, _, _, _, _, _, _, h => by simp at h
 | _ :: _, [], _, _, _, _, _, _, h, _ => by simp at h
 | _ :: _, _ :: _, [], _, _, _, _, _, _, h => by simp at h
theorem frm_putAll (a0 : Act) (h4 : kd.length = l.length) (h5 : V.length = l.length) : frm l kd V G a0 (List.range l.length) = putAll l kd V G 0 a0 := by
 rw [putAll_eq l kd V G l kd V 0 a0 (by simp) (by simp) (by simp) h4 h5, List.range_eq_range']
 rfl
theorem wp_decl {id : Nat} (kd : List Tag) (V : List Value) (zero full : Nat → Obj) (tgt : Nat → Nat) (hm : P.follows .mixedOrders = true) (hck : declB l kd = true) (hdst : dstB l a0.tmps.size = true) (h4 : kd.length = l.length) (h5 : V.length = l.length) (htg : ∀ c, Tag.so c ∈ kd → tgt c < W.heap.size) (htd : ∀ c c', Tag.so c ∈ kd → Tag.so c' ∈ kd → tgt c = tgt c' → c = c')
   (hops : AllOps (OpRule P (Same kd tgt W) l kd V zero full tgt W (putAll l kd V (fun _ => 0) 0 a0)) 0 l)
   (hend : ∀ G w, DInv l kd V zero full tgt a0 W (List.range l.length) G w → Q .normal (putAll l kd V G 0 a0) w) :
   (Code.region id l.toArray true).wp P Q a0 W :=
 wp_region_decl kd V zero full tgt (Same kd tgt W) hm hck hdst htg htd (fun _ h => h) (fun _ => 0) (by rw [frm_putAll a0 h4 h5]; exact hops) (fun G w hI => by rw [frm_putAll a0 h4 h5]; exact hend G w hI)
theorem Same.block {W w : World} (h : Same kd tgt W w) {g : Nat} {x : Obj} (hx : W.heap[g]? = some x) (hc : ∀ c, Tag.so c ∈ kd → tgt c ≠ g) : w.heap[g]? = some x := by
 rw [h.2.2.2.2 g (Array.getElem?_eq_some_iff.1 hx).1 hc]; exact hx
theorem Same.ext {W0 W w : World} (h : Same kd tgt W w) (k : Below W0.heap.size W0 W) (hc : ∀ c, Tag.so c ∈ kd → W0.heap.size ≤ tgt c) : Below W0.heap.size W0 w :=
 ⟨h.1.trans k.os, h.2.1.trans k.tape, h.2.2.1.trans k.output, Nat.le_trans k.size h.2.2.2.1, fun j hj => (h.2.2.2.2 j (Nat.lt_of_lt_of_le hj k.size) (fun c hc' e => by have := hc c hc'; omega)).trans (k.block j hj)⟩
end
end
section
open Go Go.RowKit
inductive Tg | q | sk | al | st (j : Nat) | so (k : Nat) | ev (m : Nat)
 deriving DecidableEq
def tgOf (kd : List Tg) (i : Nat) : Tg := kd.getD i .q
def Tg.known : Tg → Bool | .q => true | .sk => true | .ev _ => true | _ => false
def calmE (l : List Oper) (kd : List Tg) (o : Oper) (x : Operand) : Bool :=
 match x with
 | .tmp t => (List.range l.length).all fun k => dstOf l k != some t || (dep o k && (tgOf kd k).known)
 | _ => true
def okE (l : List Oper) (kd : List Tg) (i : Nat) : Bool :=
 match l[i]? with
 | none => false
 | some o => (match o.guard with | none => tgOf kd i != .sk | some (k, _) => dep o k && decide (k < l.length) && (dstOf l k).isSome && (tgOf kd k).known) && (match o.op with | .select .. => false | _ => true) &&
   (o.after.all fun e => !Region.binds .any e || decide (e.on < i)) &&
   ((List.range l.length).all fun k => k == i || (match o.dst with | none => true | some d => dstOf l k != some d)) &&
   (match tgOf kd i with
     | .q => o.op.operands.all fun x => calmE l kd o x
     | .ev m => (o.op.operands.all fun x => calmE l kd o x) && ((List.range l.length).all fun k => k == i || (match tgOf kd k with | .ev m' => m' != m && (!decide (m' < m) || anc l l.length i k) | _ => true))
     | .sk => true
     | .al => true
     | .st j => (match o.op with
         | .store _ (.tmp t) x => o.dst.isNone && dstOf l j == some t && dep o j && tgOf kd j == .al && calmE l kd o x && ((List.range l.length).all fun k => k == i || tgOf kd k != .st j)
         | _ => false)
     | .so c => (match o.op with
         | .store _ p x => o.dst.isNone && calmE l kd o p && calmE l kd o x && ((List.range l.length).all fun k => k == i || tgOf kd k != .so c)
         | _ => false))
def chkE (l : List Oper) (kd : List Tg) : Bool := (List.range l.length).all fun i => okE l kd i
def frE (l : List Oper) (u : Nat → Value) (a0 : Act) (S : List Nat) : Act := S.foldl (fun a i => a.put (dstOf l i) (u i)) a0
def slE (t : Tg) (v : Value) (g : Nat) (R : Nat → Value) : Value := match t with | .q => v | .al => ptrTo g | .ev m => R m | _ => undef
def uE (kd : List Tg) (V : (Nat → Value) → List Value) (R : Nat → Value) (G : Nat → Nat) (i : Nat) : Value := slE (tgOf kd i) ((V R).getD i undef) (G i) R
def yB : Value → Option Bool | .bool b => some b | _ => none
def SameE (kd : List Tg) (tgt : Nat → Nat) (E : Nat → Prop) (W w : World) : Prop := w.os = W.os ∧ w.tape = W.tape ∧ w.output = W.output ∧ W.heap.size ≤ w.heap.size ∧ ∀ k, k < W.heap.size → ¬ E k → (∀ c, .so c ∈ kd → tgt c ≠ k) → w.heap[k]? = W.heap[k]?
def GrowE (E : Nat → Prop) (w w' : World) : Prop := w'.os = w.os ∧ w'.tape = w.tape ∧ w'.output = w.output ∧ w.heap.size ≤ w'.heap.size ∧ ∀ k, k < w.heap.size → ¬ E k → w'.heap[k]? = w.heap[k]?
def updR (R : Nat → Value) (m : Nat) (r : Value) : Nat → Value := fun k => if k = m then r else R k
def eUpon (P : Program) (T : Nat → (Nat → Value) → World → Prop) (E : Nat → Prop) (m : Nat) (R : Nat → Value) (w : World) : Result Next → Prop
 | .ok (.enter f args) w' => w' = w ∧ Calls P f args w (fun e w'' => ∃ r, e = .returned r ∧ T (m + 1) (updR R m r) w'' ∧ GrowE E w w'')
 | .ok (.value r) w' => T (m + 1) (updR R m r) w' ∧ GrowE E w w'
 | _ => False
def RuleE (P : Program) (T : Nat → (Nat → Value) → World → Prop) (E : Nat → Prop) (l : List Oper) (kd : List Tg) (nd : List Nat) (V : (Nat → Value) → List Value) (zero : Nat → Obj) (full : (Nat → Value) → Nat → Obj) (tgt : Nat → Nat) (W : World) (A : (Nat → Value) → Act) (i : Nat) (o : Oper) : Prop :=
 (∀ k b, o.guard = some (k, b) → ∀ R s w, T s R w → nd.getD i 0 ≤ s → (yB (uE kd V R (fun _ => 0) k) == some b) = (tgOf kd i != .sk)) ∧
 match tgOf kd i with
 | .q => ∀ R s w, T s R w → nd.getD i 0 ≤ s → SameE kd tgt E W w → (∀ m c, tgOf kd m = .so c → anc l l.length m i = true → w.heap[tgt c]? = W.heap[tgt c]?) → qUpon P w ((V R).getD i undef) ((execOp (A R).eval o).run P w)
 | .ev m => ∀ R w, T m R w → SameE kd tgt E W w → eUpon P T E m R w ((execOp (A R).eval o).run P w)
 | .sk => True
 | .al => ∀ (ρ : Operand → Value) (w : World), (execOp ρ o).run P w = .ok (.value (ptrTo w.heap.size)) (w.alloc (zero i))
 | .st j => (match o.op with
   | .store _ t x => ∀ R s (ρ : Operand → Value) (w : World) (g : Nat), T s R w → nd.getD i 0 ≤ s → ρ t = ptrTo g → ρ x = (A R).eval x → W.heap.size ≤ g → w.heap[g]? = some (zero j) → Stores P ρ o w g (full R i) ∧ ∀ w1, Filled w w1 g (full R i) → T s R w1
   | _ => False)
 | .so c => (match o.op with
   | .store _ p x => ∀ R s (ρ : Operand → Value) (w : World), T s R w → nd.getD i 0 ≤ s → ρ p = (A R).eval p → ρ x = (A R).eval x → w.heap[tgt c]? = W.heap[tgt c]? → Stores P ρ o w (tgt c) (full R i) ∧ ∀ w1, Filled w w1 (tgt c) (full R i) → T s R w1
   | _ => False)
structure EInv (T : Nat → (Nat → Value) → World → Prop) (E : Nat → Prop) (l : List Oper) (kd : List Tg) (zero : Nat → Obj) (full : (Nat → Value) → Nat → Obj) (tgt : Nat → Nat) (W : World) (S : List Nat) (s : Nat) (R : Nat → Value) (G : Nat → Nat) (w : World) : Prop where
 nd : S.Nodup
 inn : ∀ i ∈ S, i < l.length
 same : SameE kd tgt E W w
 made : ∀ i ∈ S, tgOf kd i = .al → W.heap.size ≤ G i ∧ G i < w.heap.size
 apart : ∀ i ∈ S, ∀ j ∈ S, tgOf kd i = .al → tgOf kd j = .al → G i = G j → i = j
 zeros : ∀ i ∈ S, tgOf kd i = .al → (∀ s ∈ S, tgOf kd s ≠ .st i) → w.heap[G i]? = some (zero i)
 fulls : ∀ s ∈ S, ∀ i, tgOf kd s = .st i → i ∈ S ∧ tgOf kd i = .al ∧ w.heap[G i]? = some (full R s)
 olds : ∀ s, s < l.length → ∀ c, tgOf kd s = .so c → s ∉ S → w.heap[tgt c]? = W.heap[tgt c]?
 olds' : ∀ s ∈ S, ∀ c, tgOf kd s = .so c → w.heap[tgt c]? = some (full R s)
 cl : ∀ s ∈ S, ∀ o, l[s]? = some o → ∀ k, dep o k = true → k ∈ S
 stage : ∀ i, i < l.length → ∀ m, tgOf kd i = .ev m → (i ∈ S ↔ m < s)
 holds : T s R w
section
variable {l : List Oper} {kd : List Tg} {V : (Nat → Value) → List Value}
theorem frE_none (u : Nat → Value) (t : Tmp) : ∀ (S : List Nat) (a0 : Act), (∀ k ∈ S, dstOf l k ≠ some t) → (frE l u a0 S).tmps[t]? = a0.tmps[t]?
 | [], a0, _ => rfl
 | k :: S, a0, h => by
   show (frE l u (a0.put (dstOf l k) (u k)) S).tmps[t]? = _
   rw [frE_none u t S _ (fun j hj => h j (by simp [hj]))]
   have hk := h k (by simp)
   cases hd : dstOf l k with
   | none => rfl
   | some d =>
     have : d ≠ t := fun e => hk (by rw [hd, e])
     simp [Act.put, Array.getElem?_setIfInBounds_ne this]
theorem frE_some (u : Nat → Value) (t : Tmp) (k : Nat) (hk : dstOf l k = some t) : ∀ (S : List Nat) (a0 : Act), S.Nodup → k ∈ S → (∀ j ∈ S, dstOf l j = some t → j = k) → (frE l u a0 S).tmps[t]? = if t < a0.tmps.size then some (u k) else none
 | [], a0, _, h, _ => by simp at h
 | j :: S, a0, hn, h, hu => by
   show (frE l u (a0.put (dstOf l j) (u j)) S).tmps[t]? = _
   obtain ⟨hj, hn'⟩ := List.nodup_cons.1 hn
   by_cases e : j = k
   · subst e
     rw [frE_none u t S _ (fun i hi he => hj (by rw [← hu i (by simp [hi]) he]; exact hi)), hk]
     simp [Act.put, Array.getElem?_setIfInBounds]
   · have hkS : k ∈ S := by
       rcases List.mem_cons.1 h with h | h
       · exact absurd h.symm e
       · exact h
     rw [frE_some u t k hk S _ hn' hkS (fun i hi he => hu i (by simp [hi]) he), put_size]
theorem frE_congr (u u' : Nat → Value) : ∀ (S : List Nat) (a0 : Act), (∀ i ∈ S, u i = u' i) → frE l u a0 S = frE l u' a0 S
 | [], _, _ => rfl
 | k :: S, a0, h => by
   show frE l u (a0.put (dstOf l k) (u k)) S = frE l u' (a0.put (dstOf l k) (u' k)) S
   rw [h k (by simp)]
   exact frE_congr u u' S _ (fun i hi => h i (by simp [hi]))
theorem frE_snoc (u : Nat → Value) (a0 : Act) (S : List Nat) (i : Nat) : frE l u a0 (S ++ [i]) = (frE l u a0 S).put (dstOf l i) (u i) := by
 unfold frE; rw [List.foldl_append]; rfl
theorem frE_perm (u : Nat → Value) (a0 : Act) {S S' : List Nat} (h : S.Perm S') (h1 : OneWriter l) : frE l u a0 S = frE l u a0 S' := by
 unfold frE
 refine List.Perm.foldl_eq' h (fun x hx y hy a => ?_) a0
 by_cases e : x = y
 · subst e; rfl
 · exact Act.put_comm a _ _ (fun d hd hy => e (h1 x y d hd hy))
theorem okE_of (h : chkE l kd = true) {i : Nat} {o : Oper} (ho : l[i]? = some o) : okE l kd i = true := by
 unfold chkE at h
 rw [List.all_eq_true] at h
 exact h i (List.mem_range.2 (List.getElem?_eq_some_iff.1 ho).1)
theorem one_writerE (h : chkE l kd = true) : OneWriter l := by
 intro i j t hi hj
 have hil := dst_lt hi
 have hjl := dst_lt hj
 have := okE_of h (List.getElem?_eq_getElem hil)
 unfold okE at this
 rw [List.getElem?_eq_getElem hil] at this
 simp only [Bool.and_eq_true, List.all_eq_true] at this
 have hu := this.1.2 j (List.mem_range.2 hjl)
 have hd : l[i].dst = some t := by unfold dstOf at hi; rw [List.getElem?_eq_getElem hil] at hi; simpa using hi
 rw [hd] at hu
 simp [hj] at hu
 exact hu.symm
theorem specE (h : chkE l kd = true) {i : Nat} {o : Oper} (ho : l[i]? = some o) : (o.guard = none → tgOf kd i ≠ .sk) ∧ (∀ k b, o.guard = some (k, b) → dep o k = true ∧ k < l.length ∧ (∃ d, dstOf l k = some d) ∧ (tgOf kd k).known = true) ∧ (∀ cs b, o.op ≠ .select cs b) ∧ (∀ e ∈ o.after, Region.binds .any e = true → e.on < i) ∧
   ((tgOf kd i = .q ∨ ∃ m, tgOf kd i = .ev m) → ∀ x ∈ o.op.operands, calmE l kd o x = true) ∧
   (∀ m, tgOf kd i = .ev m → ∀ k, k < l.length → ∀ m', tgOf kd k = .ev m' → (m' = m → k = i) ∧ (m' < m → anc l l.length i k = true)) ∧
   (∀ j, tgOf kd i = .st j → ∃ T t x, o.op = .store T (.tmp t) x ∧ o.dst = none ∧ dstOf l j = some t ∧ dep o j = true ∧ tgOf kd j = .al ∧ calmE l kd o x = true ∧ ∀ k, k < l.length → tgOf kd k = .st j → k = i) ∧
   (∀ c, tgOf kd i = .so c → ∃ T p x, o.op = .store T p x ∧ o.dst = none ∧ calmE l kd o p = true ∧ calmE l kd o x = true ∧ ∀ k, k < l.length → tgOf kd k = .so c → k = i) := by
 have := okE_of h ho
 unfold okE at this
 rw [ho] at this
 simp only [Bool.and_eq_true] at this
 obtain ⟨⟨⟨⟨h1, h2⟩, h3⟩, h4⟩, h5⟩ := this
 refine ⟨?_, ?_, ?_, ?_, ?_, ?_, ?_, ?_⟩
 · intro hg
   rw [hg] at h1
   simpa using h1
 · intro k b hg
   rw [hg] at h1
   simp only [Bool.and_eq_true] at h1
   obtain ⟨⟨⟨a1, a2⟩, a3⟩, a4⟩ := h1
   exact ⟨a1, by simpa using a2, Option.isSome_iff_exists.1 a3, a4⟩
 · intro cs b e
   rw [e] at h2; simp at h2
 · intro e he hb
   have := Array.all_eq_true_iff_forall_mem.1 h3 e he
   rw [hb] at this; simpa using this
 · rintro (ht | ⟨m, ht⟩)
   · simp only [ht] at h5
     intro x hx
     exact Array.all_eq_true_iff_forall_mem.1 h5 x hx
   · simp only [ht, Bool.and_eq_true] at h5
     intro x hx
     exact Array.all_eq_true_iff_forall_mem.1 h5.1 x hx
 · intro m ht k hk m' hm'
   simp only [ht, Bool.and_eq_true, List.all_eq_true] at h5
   have := h5.2 k (List.mem_range.2 hk)
   rw [hm'] at this
   simp only [Bool.or_eq_true, beq_iff_eq, Bool.and_eq_true, bne_iff_ne, Bool.not_eq_true', decide_eq_false_iff_not] at this
   rcases this with rfl | ⟨a, b⟩
   · rw [ht] at hm'
     obtain rfl : m = m' := by simpa using hm'
     exact ⟨fun _ => rfl, fun h => by omega⟩
   · exact ⟨fun e => absurd e a, fun hl => b.resolve_left (fun h => h hl)⟩
 · intro j ht
   simp only [ht] at h5
   split at h5
   · rename_i T t x hop
     simp only [Bool.and_eq_true, List.all_eq_true] at h5
     obtain ⟨⟨⟨⟨⟨g1, g2⟩, g3⟩, g4⟩, g5⟩, g6⟩ := h5
     refine ⟨T, t, x, hop, by simpa using g1, by simpa using g2, g3, by simpa using g4, g5, ?_⟩
     intro k hk hkt
     have := g6 k (List.mem_range.2 hk)
     rw [hkt] at this; simpa using this
   · simp at h5
 · intro c ht
   simp only [ht] at h5
   split at h5
   · rename_i T p x hop
     simp only [Bool.and_eq_true, List.all_eq_true] at h5
     obtain ⟨⟨⟨g1, g2⟩, g3⟩, g4⟩ := h5
     refine ⟨T, p, x, hop, by simpa using g1, g2, g3, ?_⟩
     intro k hk hkt
     have := g4 k (List.mem_range.2 hk)
     rw [hkt] at this; simpa using this
   · simp at h5
variable {T : Nat → (Nat → Value) → World → Prop} {E : Nat → Prop} {zero : Nat → Obj} {full : (Nat → Value) → Nat → Obj} {tgt : Nat → Nat} {a0 : Act} {W : World} {S : List Nat} {s : Nat} {R : Nat → Value} {G : Nat → Nat} {w : World} {nd : List Nat}
theorem uE_known {R : Nat → Value} (G G' : Nat → Nat) {k : Nat} (h : (tgOf kd k).known = true) : uE kd V R G k = uE kd V R G' k := by
 unfold uE slE
 cases ht : tgOf kd k <;> simp [ht, Tg.known] at h ⊢
theorem evalE (hck : chkE l kd = true) (G G' : Nat → Nat) (a0 : Act) (hS : S.Nodup) {o : Oper} (hdep : ∀ k, dep o k = true → k ∈ S) {x : Operand} (hx : calmE l kd o x = true) :
   (frE l (uE kd V R G) a0 S).eval x = (frE l (uE kd V R G') a0 (List.range l.length)).eval x := by
 have h1 := one_writerE hck
 cases x with
 | tmp t =>
   simp only [calmE, List.all_eq_true] at hx
   by_cases hw : ∃ k, dstOf l k = some t
   · obtain ⟨k, hk⟩ := hw
     have hkl := dst_lt hk
     have := hx k (List.mem_range.2 hkl)
     rw [hk] at this
     simp at this
     obtain ⟨hd, hq⟩ := this
     have e1 := frE_some (uE kd V R G) t k hk S a0 hS (hdep k hd) (fun j _ hj => h1 j k t hj hk)
     have e2 := frE_some (uE kd V R G') t k hk (List.range l.length) a0 List.nodup_range (List.mem_range.2 hkl) (fun j _ hj => h1 j k t hj hk)
     simp only [Act.eval, Array.getD_eq_getD_getElem?]
     rw [e1, e2, uE_known G G' hq]
   · have e1 := frE_none (uE kd V R G) t S a0 (fun k _ e => hw ⟨k, e⟩)
     have e2 := frE_none (uE kd V R G') t (List.range l.length) a0 (fun k _ e => hw ⟨k, e⟩)
     simp only [Act.eval, Array.getD_eq_getD_getElem?]
     rw [e1, e2]
 | _ => rfl
theorem readyE_some (hck : chkE l kd = true) {listed : Array Bool} {S : List Nat} (hL : ∀ j, j < l.length → (listed.getD j true = decide (j ∈ S)) ∧ listed.getD j false = decide (j ∈ S)) {m : Nat} (hm : m < l.length) (hmS : m ∉ S) : Region.ready .any l.toArray listed ≠ [] := by
 induction m using Nat.strongRecOn with
 | ind m ih =>
   by_cases hlow : ∃ j, j < m ∧ j ∉ S
   · obtain ⟨j, hj, hjS⟩ := hlow
     exact ih j hj (by omega) hjS
   · intro he
     have : m ∈ Region.ready .any l.toArray listed := by
       unfold Region.ready
       rw [List.mem_filter]
       refine ⟨by simpa using hm, ?_⟩
       rw [List.getElem?_toArray, List.getElem?_eq_getElem hm]
       simp only [Option.map_some, Option.getD_some, Bool.and_eq_true]
       refine ⟨by rw [(hL m hm).1]; simpa using hmS, ?_⟩
       rw [Array.all_eq_true_iff_forall_mem]
       intro e hee
       cases hb : Region.binds .any e
       · rfl
       · have hlt := (specE hck (List.getElem?_eq_getElem hm)).2.2.2.1 e hee hb
         have : e.on ∈ S := Classical.byContradiction fun hn => hlow ⟨e.on, hlt, hn⟩
         simp [(hL e.on (by omega)).2, this]
     rw [he] at this
     simp at this
theorem tg_mem {i : Nat} {c : Nat} (h : tgOf kd i = .so c) : Tg.so c ∈ kd := by
 unfold tgOf at h
 rw [List.getD_eq_getElem?_getD] at h
 cases hx : kd[i]? with
 | none => rw [hx] at h; simp at h
 | some t => rw [hx] at h; simp at h; rw [← h]; exact List.mem_of_getElem? hx
theorem Below.growE {w w' : World} (h : Below w.heap.size w w') : GrowE E w w' := ⟨h.os, h.tape, h.output, h.size, fun k hk _ => h.block k hk⟩
theorem GrowE.kept {w w' : World} {k : Nat} {x : Obj} (h : GrowE E w w') (hk : ¬ E k) (e : w.heap[k]? = some x) : w'.heap[k]? = some x := by
 rw [h.2.2.2.2 k (Array.getElem?_eq_some_iff.1 e).1 hk]; exact e
theorem SameE.grow {w w' : World} (h : SameE kd tgt E W w) (k : GrowE E w w') : SameE kd tgt E W w' :=
 ⟨k.1.trans h.1, k.2.1.trans h.2.1, k.2.2.1.trans h.2.2.1, Nat.le_trans h.2.2.2.1 k.2.2.2.1, fun j hj he hc => (k.2.2.2.2 j (Nat.lt_of_lt_of_le hj h.2.2.2.1) he).trans (h.2.2.2.2 j hj he hc)⟩
theorem stage_snoc (hI : EInv T E l kd zero full tgt W S s R G w) {i : Nat} (hn : ∀ m, tgOf kd i ≠ .ev m) : ∀ j, j < l.length → ∀ m, tgOf kd j = .ev m → (j ∈ S ++ [i] ↔ m < s) := by
 intro j hj m hm
 rw [← hI.stage j hj m hm]
 constructor
 · intro h
   rcases List.mem_append.1 h with h | h
   · exact h
   · simp at h; subst h; exact absurd hm (hn m)
 · intro h; exact List.mem_append.2 (Or.inl h)
theorem inv_grow (hE : ∀ k, E k → k < W.heap.size) (hEt : ∀ c, Tg.so c ∈ kd → ¬ E (tgt c)) (htg : ∀ c, Tg.so c ∈ kd → tgt c < W.heap.size) (hI : EInv T E l kd zero full tgt W S s R G w) {i : Nat} (hi : i < l.length) (hn : i ∉ S) (ht : (tgOf kd i).known = true) (hcl : ∀ o, l[i]? = some o → ∀ k, dep o k = true → k ∈ S) {w' : World} {s' : Nat} {R' : Nat → Value} (hB : GrowE E w w') (hst : ∀ j, j < l.length → ∀ m, tgOf kd j = .ev m → (j ∈ S ++ [i] ↔ m < s')) (hfl : ∀ k ∈ S, full R' k = full R k) (hT : T s' R' w') : EInv T E l kd zero full tgt W (S ++ [i]) s' R' G w' := by
 have hm : ∀ s t, s ∈ S ++ [i] → tgOf kd s = t → t.known = false → s ∈ S := by
   intro s t hs h1 h2
   rcases List.mem_append.1 hs with h | h
   · exact h
   · simp at h; subst h; rw [h1] at ht; rw [ht] at h2; simp at h2
 have hsz := hB.2.2.2.1
 have hold := hI.same.2.2.2.1
 have hne : ∀ k, W.heap.size ≤ k → ¬ E k := fun k hk he => by have := hE k he; omega
 refine ⟨nodup_snoc hI.nd hn, ?_, hI.same.grow hB, ?_, ?_, ?_, ?_, ?_, ?_, cl_snoc hI.cl hcl, hst, hT⟩
 · intro j hj
   rcases List.mem_append.1 hj with h | h
   · exact hI.inn j h
   · simp at h; subst h; exact hi
 · intro j hj hjt
   have := hI.made j (hm j _ hj hjt rfl) hjt
   omega
 · intro j hj k hk h1 h2 h3
   exact hI.apart j (hm j _ hj h1 rfl) k (hm k _ hk h2 rfl) h1 h2 h3
 · intro j hj hjt hno
   have hjS := hm j _ hj hjt rfl
   exact hB.kept (hne _ (hI.made j hjS hjt).1) (hI.zeros j hjS hjt (fun s hs => hno s (by simp [hs])))
 · intro s hs j hst
   obtain ⟨h1, h2, h3⟩ := hI.fulls s (hm s _ hs hst rfl) j hst
   exact ⟨by simp [h1], h2, by rw [hfl s (hm s _ hs hst rfl)]; exact hB.kept (hne _ (hI.made j h1 h2).1) h3⟩
 · intro s hs c hc hns
   have h := hI.olds s hs c hc (fun h => hns (by simp [h]))
   rw [hB.2.2.2.2 _ (Nat.lt_of_lt_of_le (htg c (tg_mem hc)) hold) (hEt c (tg_mem hc))]
   exact h
 · intro s hs c hc
   rw [hfl s (hm s _ hs hc rfl)]
   exact hB.kept (hEt c (tg_mem hc)) (hI.olds' s (hm s _ hs hc rfl) c hc)
theorem inv_alE (hE : ∀ k, E k → k < W.heap.size) (hTB : ∀ s R w w', T s R w → Below w.heap.size w w' → T s R w') (htg : ∀ c, Tg.so c ∈ kd → tgt c < W.heap.size) (hI : EInv T E l kd zero full tgt W S s R G w) {i : Nat} (hi : i < l.length) (hn : i ∉ S) (ht : tgOf kd i = .al) (hcl : ∀ o, l[i]? = some o → ∀ k, dep o k = true → k ∈ S) : EInv T E l kd zero full tgt W (S ++ [i]) s R (fun k => if k = i then w.heap.size else G k) (w.alloc (zero i)) := by
 have hB := below_alloc w (zero i)
 have hne : ∀ j, j ∈ S → j ≠ i := fun j hj e => hn (e ▸ hj)
 have hsz : (w.alloc (zero i)).heap.size = w.heap.size + 1 := by simp
 have hcase : ∀ j, j ∈ S ++ [i] → j ∈ S ∨ j = i := by intro j hj; simpa using hj
 have hnew : (w.alloc (zero i)).heap[w.heap.size]? = some (zero i) := Array.getElem?_push_size
 refine ⟨nodup_snoc hI.nd hn, ?_, hI.same.grow (Below.growE hB), ?_, ?_, ?_, ?_, ?_, ?_, cl_snoc hI.cl hcl, stage_snoc hI (by simp [ht]), hTB _ _ _ _ hI.holds hB⟩
 · intro j hj
   rcases hcase j hj with h | h
   · exact hI.inn j h
   · subst h; exact hi
 · intro j hj hjt
   rcases hcase j hj with h | h
   · have := hI.made j h hjt
     rw [if_neg (hne j h)]; omega
   · subst h
     have := hI.same.2.2.2.1
     simp only [if_true]; omega
 · intro j hj k hk h1 h2 h3
   rcases hcase j hj with qj | qj <;> rcases hcase k hk with qk | qk
   · simp only [if_neg (hne j qj), if_neg (hne k qk)] at h3
     exact hI.apart j qj k qk h1 h2 h3
   · subst qk
     simp only [if_neg (hne j qj), if_true] at h3
     have := (hI.made j qj h1).2
     omega
   · subst qj
     simp only [if_neg (hne k qk), if_true] at h3
     have := (hI.made k qk h2).2
     omega
   · rw [qj, qk]
 · intro j hj hjt hno
   rcases hcase j hj with hj | hj
   · simp only [if_neg (hne j hj)]
     exact kept hB (hI.zeros j hj hjt (fun s hs => hno s (by simp [hs])))
   · subst hj
     simp only [if_true]; exact hnew
 · intro s hs j hst
   rcases hcase s hs with hs' | hs'
   · obtain ⟨h1, h2, h3⟩ := hI.fulls s hs' j hst
     refine ⟨by simp [h1], h2, ?_⟩
     simp only [if_neg (hne j h1)]
     exact kept hB h3
   · subst hs'; rw [ht] at hst; simp at hst
 · intro s hs c hc hns
   have h := hI.olds s hs c hc (fun h => hns (by simp [h]))
   rw [hB.block _ (Nat.lt_of_lt_of_le (htg c (tg_mem hc)) hI.same.2.2.2.1)]
   exact h
 · intro s hs c hc
   rcases hcase s hs with hs' | hs'
   · exact kept hB (hI.olds' s hs' c hc)
   · subst hs'; rw [ht] at hc; simp at hc
theorem inv_stE (hE : ∀ k, E k → k < W.heap.size) (htg : ∀ c, Tg.so c ∈ kd → tgt c < W.heap.size) (hck : chkE l kd = true) (hI : EInv T E l kd zero full tgt W S s R G w) {i j : Nat} {o : Oper} (ho : l[i]? = some o) (hn : i ∉ S) (ht : tgOf kd i = .st j) (hj : j ∈ S) (hcl : ∀ o, l[i]? = some o → ∀ k, dep o k = true → k ∈ S) {w1 : World} (hF : Filled w w1 (G j) (full R i)) (hT : T s R w1) : EInv T E l kd zero full tgt W (S ++ [i]) s R G w1 := by
 have hil := (List.getElem?_eq_some_iff.1 ho).1
 obtain ⟨_, _, _, _, _, _, hst, _⟩ := specE hck ho
 obtain ⟨T', t, x, _, _, _, _, hal, _, huniq⟩ := hst j ht
 obtain ⟨f1, f2, f3, f4, f5, f6⟩ := hF
 have hcase : ∀ k, k ∈ S ++ [i] → k ∈ S ∨ k = i := by intro k hk; simpa using hk
 have hjm := hI.made j hj hal
 have htag : ∀ k, k ∈ S ++ [i] → tgOf kd k = .al → k ∈ S := by
   intro k hk hkt
   rcases hcase k hk with h | h
   · exact h
   · subst h; rw [ht] at hkt; simp at hkt
 have hold : ∀ k, k < W.heap.size → w1.heap[k]? = w.heap[k]? := fun k hk => f2 k (by omega)
 refine ⟨nodup_snoc hI.nd hn, ?_, ⟨f4.trans hI.same.1, f5.trans hI.same.2.1, f6.trans hI.same.2.2.1, by have := hI.same.2.2.2.1; omega, fun k hk he hc => (hold k hk).trans (hI.same.2.2.2.2 k hk he hc)⟩, ?_, ?_, ?_, ?_, ?_, ?_, cl_snoc hI.cl hcl, stage_snoc hI (by simp [ht]), hT⟩
 · intro k hk
   rcases hcase k hk with h | h
   · exact hI.inn k h
   · subst h; exact hil
 · intro k hk hkt
   have := hI.made k (htag k hk hkt) hkt
   omega
 · intro k hk m hm h1 h2 h3
   exact hI.apart k (htag k hk h1) m (htag m hm h2) h1 h2 h3
 · intro k hk hkt hno
   have hkS := htag k hk hkt
   have hkj : k ≠ j := by
     intro e; subst e
     exact hno i (by simp) ht
   rw [f2 (G k) (fun e => hkj (hI.apart k hkS j hj hkt hal e))]
   exact hI.zeros k hkS hkt (fun s hs => hno s (by simp [hs]))
 · intro s hs k hst'
   rcases hcase s hs with hs' | hs'
   · obtain ⟨h1, h2, h3⟩ := hI.fulls s hs' k hst'
     have hkj : k ≠ j := by
       intro e; subst e
       have := huniq s (hI.inn s hs') hst'
       exact hn (this ▸ hs')
     refine ⟨by simp [h1], h2, ?_⟩
     rw [f2 (G k) (fun e => hkj (hI.apart k h1 j hj h2 hal e))]
     exact h3
   · subst hs'
     rw [ht] at hst'
     obtain rfl : j = k := by simpa using hst'
     exact ⟨by simp [hj], hal, f1⟩
 · intro s hs c hc hns
   rw [hold _ (htg c (tg_mem hc))]
   exact hI.olds s hs c hc (fun h => hns (by simp [h]))
 · intro s hs c hc
   rcases hcase s hs with hs' | hs'
   · rw [hold _ (htg c (tg_mem hc))]
     exact hI.olds' s hs' c hc
   · subst hs'; rw [ht] at hc; simp at hc
theorem inv_soE (htg : ∀ c, Tg.so c ∈ kd → tgt c < W.heap.size) (htd : ∀ c c', Tg.so c ∈ kd → Tg.so c' ∈ kd → tgt c = tgt c' → c = c') (hck : chkE l kd = true) (hI : EInv T E l kd zero full tgt W S s R G w) {i c : Nat} {o : Oper} (ho : l[i]? = some o) (hn : i ∉ S) (ht : tgOf kd i = .so c) (hcl : ∀ o, l[i]? = some o → ∀ k, dep o k = true → k ∈ S) {w1 : World} (hF : Filled w w1 (tgt c) (full R i)) (hT : T s R w1) : EInv T E l kd zero full tgt W (S ++ [i]) s R G w1 := by
 have hil := (List.getElem?_eq_some_iff.1 ho).1
 obtain ⟨_, _, _, _, _, _, _, hso⟩ := specE hck ho
 obtain ⟨T', p, x, _, _, _, _, huniq⟩ := hso c ht
 obtain ⟨f1, f2, f3, f4, f5, f6⟩ := hF
 have hcm := tg_mem ht
 have hcl0 := htg c hcm
 have hcase : ∀ k, k ∈ S ++ [i] → k ∈ S ∨ k = i := by intro k hk; simpa using hk
 have htag : ∀ k, k ∈ S ++ [i] → tgOf kd k = .al → k ∈ S := by
   intro k hk hkt
   rcases hcase k hk with h | h
   · exact h
   · subst h; rw [ht] at hkt; simp at hkt
 have hnew : ∀ k, k ∈ S → tgOf kd k = .al → w1.heap[G k]? = w.heap[G k]? := fun k hk hkt => f2 _ (by have := (hI.made k hk hkt).1; omega)
 refine ⟨nodup_snoc hI.nd hn, ?_, ⟨f4.trans hI.same.1, f5.trans hI.same.2.1, f6.trans hI.same.2.2.1, by have := hI.same.2.2.2.1; omega, fun k hk he hc => (f2 k (fun e => hc c hcm e.symm)).trans (hI.same.2.2.2.2 k hk he hc)⟩, ?_, ?_, ?_, ?_, ?_, ?_, cl_snoc hI.cl hcl, stage_snoc hI (by simp [ht]), hT⟩
 · intro k hk
   rcases hcase k hk with h | h
   · exact hI.inn k h
   · subst h; exact hil
 · intro k hk hkt
   have := hI.made k (htag k hk hkt) hkt
   omega
 · intro k hk m hm h1 h2 h3
   exact hI.apart k (htag k hk h1) m (htag m hm h2) h1 h2 h3
 · intro k hk hkt hno
   rw [hnew k (htag k hk hkt) hkt]
   exact hI.zeros k (htag k hk hkt) hkt (fun s hs => hno s (by simp [hs]))
 · intro s hs k hst'
   rcases hcase s hs with hs' | hs'
   · obtain ⟨h1, h2, h3⟩ := hI.fulls s hs' k hst'
     exact ⟨by simp [h1], h2, by rw [hnew k h1 h2]; exact h3⟩
   · subst hs'; rw [ht] at hst'; simp at hst'
 · intro s hs c' hc hns
   have hne : c' ≠ c := by
     intro e; subst e
     have := huniq s hs hc
     subst this; exact hns (by simp)
   rw [f2 _ (fun e => hne (htd c' c (tg_mem hc) hcm e))]
   exact hI.olds s hs c' hc (fun h => hns (by simp [h]))
 · intro s hs c' hc
   rcases hcase s hs with hs' | hs'
   · have hne : c' ≠ c := by
       intro e; subst e
       have := huniq s (hI.inn s hs') hc
       exact hn (this ▸ hs')
     rw [f2 _ (fun e => hne (htd c' c (tg_mem hc) hcm e))]
     exact hI.olds' s hs' c' hc
   · subst hs'
     rw [ht] at hc
     obtain rfl : c = c' := by simpa using hc
     exact f1
end
end
end Go.Proofs.Ythlbkidgdngblaa
