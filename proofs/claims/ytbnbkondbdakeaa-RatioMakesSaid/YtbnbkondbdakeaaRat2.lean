/- Valid of the program's package ratio. Conditions: the cells stand for numbers. -/
import Derived.Test.YtbnbkondbdakeaaRatC
import Derived.Test.YtbnbkondbdakeaaRat1
namespace Go.Proofs.Ytbnbkondbdakeaa
set_option linter.unusedVariables false
set_option linter.unusedSimpArgs false
open Go Go.RowKit
instance (s : Bool) (z : Int) : Decidable (Good s z) := by unfold Good; infer_instance
/-- The cells are a valid fraction's. -/
def RatOk (s : Bool) (x : Int) (t : Bool) (y : Int) : Prop := Good s x ∧ Good t y ∧ Frac x y
instance (s : Bool) (x : Int) (t : Bool) (y : Int) : Decidable (RatOk s x t y) := by unfold RatOk; infer_instance
set_option maxRecDepth 100000 in
set_option maxHeartbeats 8000000 in
theorem r_valid (s t : Bool) (a b c d e f g h : Nat) (x y : Int) (w : World) (hx : IsW s a b c d x) (hy : IsW t e f g h y) (v : Bool) (hv : decide (RatOk s x t y) = v) :
    Calls Try.prog 22 #[.agg #[.bool s, .int .u64 (a : Int), .int .u64 (b : Int), .int .u64 (c : Int), .int .u64 (d : Int), .bool t, .int .u64 (e : Int), .int .u64 (f : Int), .int .u64 (g : Int), .int .u64 (h : Int)]] w (BoolRet v w) := by
  have HX := hide (ext_alloc w (.cells #[.bool s, .int .u64 (a : Int), .int .u64 (b : Int), .int .u64 (c : Int), .int .u64 (d : Int), .bool t, .int .u64 (e : Int), .int .u64 (f : Int), .int .u64 (g : Int), .int .u64 (h : Int)] 35))
  have H0 : Box10 (w.alloc (.cells #[.bool s, .int .u64 (a : Int), .int .u64 (b : Int), .int .u64 (c : Int), .int .u64 (d : Int), .bool t, .int .u64 (e : Int), .int .u64 (f : Int), .int .u64 (g : Int), .int .u64 (h : Int)] 35)) w.heap.size s a b c d t e f g h := heap_alloc_new w _
  obtain ⟨W, hW⟩ : ∃ W, W = w.alloc (.cells #[.bool s, .int .u64 (a : Int), .int .u64 (b : Int), .int .u64 (c : Int), .int .u64 (d : Int), .bool t, .int .u64 (e : Int), .int .u64 (f : Int), .int .u64 (g : Int), .int .u64 (h : Int)] 35) := ⟨_, rfl⟩
  rw [← hW] at HX H0
  have HW := hide hW
  clear hW
  obtain ⟨c0, c1, c2, c3, c4, c5, c6, c7, c8, c9, _⟩ := ten_cells H0
  by_cases hg : Good s x ∧ Good t y ∧ y ≠ 0
  · have kx : IsC s a b c d x := ⟨hx, hg.1⟩
    have ky : IsC t e f g h y := ⟨hy, hg.2.1⟩
    obtain ⟨o, ho⟩ : ∃ o, decide ((numR x y).natAbs < 170141183460469231731687303715884105728 ∧ (denR x y).natAbs < 170141183460469231731687303715884105728) = o := ⟨_, rfl⟩
    cases o
    · have km : Hid (∀ w', Calls Try.prog 20 #[.agg #[.bool s, .int .u64 (a : Int), .int .u64 (b : Int), .int .u64 (c : Int), .int .u64 (d : Int)], .agg #[.bool t, .int .u64 (e : Int), .int .u64 (f : Int), .int .u64 (g : Int), .int .u64 (h : Int)]] w' (MakeRet false 0 0 w')) := fun w' => by have := r_make_yes s t a b c d e f g h x y w' kx ky hg.2.2 false ho; simpa using this
      have hv0 : v = false := by
        rw [← hv, decide_eq_false_iff_not]
        intro h1
        have h2 := frac_makes h1.2.2
        exact (of_decide_eq_false ho) ⟨h2.2.1, h2.2.2⟩
      subst hv0
      clear hv ho hg kx ky hx hy
      go_enter Try.func22, Try.ntmps22
      go_upto_region 1 with fail
      rw [← HW.out]
      clear HW
      go_wp2_with (go_at_call 20; (with_reducible refine (km.out _).mono ?_); rintro e' w2 ⟨s1, a1, b1, c1, d1, t1, e1, f1, g1, h1, rfl, _, _, hE⟩; have EE := hide ((HX.out.trans hE).trans (ext_alloc w2 (.cells #[.bool s1, .int .u64 (a1 : Int), .int .u64 (b1 : Int), .int .u64 (c1 : Int), .int .u64 (d1 : Int), .bool t1, .int .u64 (e1 : Int), .int .u64 (f1 : Int), .int .u64 (g1 : Int), .int .u64 (h1 : Int)] 35))); clear hE)
      all_goals go_ret
      all_goals exact ⟨rfl, EE.out⟩
    · have km : Hid (∀ w', Calls Try.prog 20 #[.agg #[.bool s, .int .u64 (a : Int), .int .u64 (b : Int), .int .u64 (c : Int), .int .u64 (d : Int)], .agg #[.bool t, .int .u64 (e : Int), .int .u64 (f : Int), .int .u64 (g : Int), .int .u64 (h : Int)]] w' (MakeRet true (numR x y) (denR x y) w')) := fun w' => by have := r_make_yes s t a b c d e f g h x y w' kx ky hg.2.2 true ho; simpa using this
      have hmk : Makes x y := ⟨hg.2.2, of_decide_eq_true ho⟩
      have hvv : v = (decide (numR x y = x) && decide (denR x y = y)) := by
        rw [← hv, ← Bool.decide_and, decide_eq_decide]
        constructor
        · intro h1; exact frac_red h1.2.2
        · rintro ⟨h1, h2⟩
          have h3 := makes_frac hmk
          rw [h1, h2] at h3
          exact ⟨hg.1, hg.2.1, h3⟩
      have KX := hide kx
      have KY := hide ky
      have HVV := hide hvv
      clear hv ho hg kx ky hx hy hmk hvv
      go_enter Try.func22, Try.ntmps22
      go_upto_region 1 with fail
      rw [← HW.out]
      clear HW
      go_upto_region 2 with (go_at_call 20; (with_reducible refine (km.out _).mono ?_); rintro e' w2 ⟨s1, a1, b1, c1, d1, t1, e1, f1, g1, h1, rfl, C1, D1, hE⟩; have EE := hide (HX.out.trans hE); have H0 := H0.ext hE; clear hE)
      have P1 : Box10 (w2.alloc (.cells #[.bool s1, .int .u64 (a1 : Int), .int .u64 (b1 : Int), .int .u64 (c1 : Int), .int .u64 (d1 : Int), .bool t1, .int .u64 (e1 : Int), .int .u64 (f1 : Int), .int .u64 (g1 : Int), .int .u64 (h1 : Int)] 35)) w2.heap.size s1 a1 b1 c1 d1 t1 e1 f1 g1 h1 := heap_alloc_new w2 _
      have hE := ext_alloc w2 (.cells #[.bool s1, .int .u64 (a1 : Int), .int .u64 (b1 : Int), .int .u64 (c1 : Int), .int .u64 (d1 : Int), .bool t1, .int .u64 (e1 : Int), .int .u64 (f1 : Int), .int .u64 (g1 : Int), .int .u64 (h1 : Int)] 35)
      have H0 := H0.ext hE
      have EE := hide (EE.out.trans hE)
      have hq := eq10 s1 s a1 b1 c1 d1 a b c d t1 t e1 f1 g1 h1 e f g h
      rw [same_isC C1 KX.out, same_isC D1 KY.out, ← HVV.out] at hq
      obtain ⟨c0, c1', c2, c3, c4, c5, c6, c7, c8, c9, _⟩ := ten_cells H0
      obtain ⟨p0, p1, p2, p3, p4, p5, p6, p7, p8, p9, _⟩ := ten_cells P1
      clear C1 D1 hE
      go_wp2_with fail
      all_goals go_ret
      all_goals exact ⟨rfl, EE.out⟩
  · have km : Hid (∀ w', Calls Try.prog 20 #[.agg #[.bool s, .int .u64 (a : Int), .int .u64 (b : Int), .int .u64 (c : Int), .int .u64 (d : Int)], .agg #[.bool t, .int .u64 (e : Int), .int .u64 (f : Int), .int .u64 (g : Int), .int .u64 (h : Int)]] w' (MakeRet false 0 0 w')) := fun w' => r_make_no s t a b c d e f g h x y w' hx hy hg
    have hv0 : v = false := by
      rw [← hv, decide_eq_false_iff_not]
      intro h1
      exact hg ⟨h1.1, h1.2.1, by have := h1.2.2.1; omega⟩
    subst hv0
    clear hv hg hx hy
    go_enter Try.func22, Try.ntmps22
    go_upto_region 1 with fail
    rw [← HW.out]
    clear HW
    go_wp2_with (go_at_call 20; (with_reducible refine (km.out _).mono ?_); rintro e' w2 ⟨s1, a1, b1, c1, d1, t1, e1, f1, g1, h1, rfl, _, _, hE⟩; have EE := hide ((HX.out.trans hE).trans (ext_alloc w2 (.cells #[.bool s1, .int .u64 (a1 : Int), .int .u64 (b1 : Int), .int .u64 (c1 : Int), .int .u64 (d1 : Int), .bool t1, .int .u64 (e1 : Int), .int .u64 (f1 : Int), .int .u64 (g1 : Int), .int .u64 (h1 : Int)] 35))); clear hE)
    all_goals go_ret
    all_goals exact ⟨rfl, EE.out⟩
end Go.Proofs.Ytbnbkondbdakeaa
/- Of and counted of the program's package ratio. Conditions: the cells stand for numbers; the number is of 64 bits. -/
namespace Go.Proofs.Ytbnbkondbdakeaa
set_option linter.unusedVariables false
set_option linter.unusedSimpArgs false
open Go Go.RowKit
/-- A fraction is returned: its numerator and its denominator. -/
def RatRet (n m : Int) (w : World) (e : Ending) (w' : World) : Prop := ∃ (s : Bool) (a b c d : Nat) (t : Bool) (e' f g h : Nat), e = .returned (.agg #[.bool s, .int .u64 (a : Int), .int .u64 (b : Int), .int .u64 (c : Int), .int .u64 (d : Int), .bool t, .int .u64 (e' : Int), .int .u64 (f : Int), .int .u64 (g : Int), .int .u64 (h : Int)]) ∧ IsC s a b c d n ∧ IsC t e' f g h m ∧ Ext w w'
set_option maxRecDepth 100000 in
set_option maxHeartbeats 4000000 in
theorem r_of (v : Int) (w : World) (v1 : -9223372036854775808 ≤ v) (v2 : v ≤ 9223372036854775807) : Calls Try.prog 78 #[.int .i64 v] w (RatRet v 1 w) := by
  have P0 : Box10 (w.alloc (.cells #[.bool false, .int .u64 0, .int .u64 0, .int .u64 0, .int .u64 0, .bool false, .int .u64 0, .int .u64 0, .int .u64 0, .int .u64 0] 35)) w.heap.size false 0 0 0 0 false 0 0 0 0 := heap_alloc_new w _
  have EE := ext_alloc w (.cells #[.bool false, .int .u64 0, .int .u64 0, .int .u64 0, .int .u64 0, .bool false, .int .u64 0, .int .u64 0, .int .u64 0, .int .u64 0] 35)
  obtain ⟨W, hW⟩ : ∃ W, W = w.alloc (.cells #[.bool false, .int .u64 0, .int .u64 0, .int .u64 0, .int .u64 0, .bool false, .int .u64 0, .int .u64 0, .int .u64 0, .int .u64 0] 35) := ⟨_, rfl⟩
  rw [← hW] at P0 EE
  have HW := hide hW
  clear hW
  have k1 : Hid (∀ w', Calls Try.prog 122 #[.int .i64 v] w' (WideOnly v w')) := fun w' => p_ofi v w' v1 v2
  have k2 : Hid (∀ w', Calls Try.prog 122 #[.int .i64 1] w' (WideOnly 1 w')) := fun w' => p_ofi 1 w' (by omega) (by omega)
  clear v1 v2
  go_enter Try.func78, Try.ntmps78
  go_upto_region 1 with fail
  rw [← HW.out]
  clear HW
  go_wp2_with (first
    | (go_at_call 122; (with_reducible refine (k1.out _).mono ?_); rintro e' w2 ⟨s1, a1, b1, c1, d1, rfl, C1, hE⟩; have K1 := hide C1; have P0 := P0.ext hE; have EE := EE.trans hE; obtain ⟨i0, i1, i2, i3, i4, i5, i6, i7, i8, i9, j0, j1, j2, j3, j4, j5, j6, j7, j8, j9⟩ := ten_cells P0; clear hE C1)
    | (go_at_call 122; (with_reducible refine (k2.out _).mono ?_); rintro e' w3 ⟨s2, a2, b2, c2, d2, rfl, C2, hE⟩; have K2 := hide C2; have P0 := P0.ext hE; have EE := EE.trans hE; obtain ⟨i0, i1, i2, i3, i4, i5, i6, i7, i8, i9, j0, j1, j2, j3, j4, j5, j6, j7, j8, j9⟩ := ten_cells P0; clear hE C2))
  all_goals exact bodyPost_ret (v := .agg #[.bool s1, .int .u64 (a1 : Int), .int .u64 (b1 : Int), .int .u64 (c1 : Int), .int .u64 (d1 : Int), .bool s2, .int .u64 (a2 : Int), .int .u64 (b2 : Int), .int .u64 (c2 : Int), .int .u64 (d2 : Int)]) (by simp [results, Try.results78, go_sem, i0, i1, i2, i3, i4, i5, i6, i7, i8, i9]) rfl ⟨s1, a1, b1, c1, d1, s2, a2, b2, c2, d2, rfl, K1.out, K2.out, ext_ten EE (Nat.le_refl _) _ _ _ _ _ _ _ _ _ _⟩
/-- What a fraction counts as. -/
def cN (v : Bool) (x : Int) : Int := if v then x else 0
def cD (v : Bool) (y : Int) : Int := if v then y else 1
set_option maxRecDepth 100000 in
set_option maxHeartbeats 4000000 in
theorem r_counted (s t : Bool) (a b c d e f g h : Nat) (x y : Int) (w : World) (hx : IsW s a b c d x) (hy : IsW t e f g h y) (v : Bool) (hv : decide (RatOk s x t y) = v) :
    Calls Try.prog 116 #[.agg #[.bool s, .int .u64 (a : Int), .int .u64 (b : Int), .int .u64 (c : Int), .int .u64 (d : Int), .bool t, .int .u64 (e : Int), .int .u64 (f : Int), .int .u64 (g : Int), .int .u64 (h : Int)]] w (RatRet (cN v x) (cD v y) w) := by
  have H2 := two_blocks w (.cells #[.bool s, .int .u64 (a : Int), .int .u64 (b : Int), .int .u64 (c : Int), .int .u64 (d : Int), .bool t, .int .u64 (e : Int), .int .u64 (f : Int), .int .u64 (g : Int), .int .u64 (h : Int)] 35) (.cells #[.bool false, .int .u64 0, .int .u64 0, .int .u64 0, .int .u64 0, .bool false, .int .u64 0, .int .u64 0, .int .u64 0, .int .u64 0] 35)
  have EE := hide ((ext_alloc w (.cells #[.bool s, .int .u64 (a : Int), .int .u64 (b : Int), .int .u64 (c : Int), .int .u64 (d : Int), .bool t, .int .u64 (e : Int), .int .u64 (f : Int), .int .u64 (g : Int), .int .u64 (h : Int)] 35)).trans (ext_alloc _ (.cells #[.bool false, .int .u64 0, .int .u64 0, .int .u64 0, .int .u64 0, .bool false, .int .u64 0, .int .u64 0, .int .u64 0, .int .u64 0] 35)))
  obtain ⟨W, hW⟩ : ∃ W, W = (w.alloc (.cells #[.bool s, .int .u64 (a : Int), .int .u64 (b : Int), .int .u64 (c : Int), .int .u64 (d : Int), .bool t, .int .u64 (e : Int), .int .u64 (f : Int), .int .u64 (g : Int), .int .u64 (h : Int)] 35)).alloc (.cells #[.bool false, .int .u64 0, .int .u64 0, .int .u64 0, .int .u64 0, .bool false, .int .u64 0, .int .u64 0, .int .u64 0, .int .u64 0] 35) := ⟨_, rfl⟩
  rw [← hW] at H2 EE
  have P0 : Box10 W w.heap.size s a b c d t e f g h := H2.1
  have P1 : Box10 W (w.heap.size + 1) false 0 0 0 0 false 0 0 0 0 := H2.2
  have HW := hide hW
  have kv : Hid (∀ w', Calls Try.prog 22 #[.agg #[.bool s, .int .u64 (a : Int), .int .u64 (b : Int), .int .u64 (c : Int), .int .u64 (d : Int), .bool t, .int .u64 (e : Int), .int .u64 (f : Int), .int .u64 (g : Int), .int .u64 (h : Int)]] w' (BoolRet v w')) := fun w' => r_valid s t a b c d e f g h x y w' hx hy v hv
  have KK : Hid (v = true → IsC s a b c d x ∧ IsC t e f g h y) := by
    intro h1
    rw [h1] at hv
    have h2 := of_decide_eq_true hv
    exact ⟨⟨hx, h2.1⟩, ⟨hy, h2.2.1⟩⟩
  clear hW H2 hv hx hy
  obtain ⟨c0, c1, c2, c3, c4, c5, c6, c7, c8, c9, _⟩ := ten_cells P0
  go_enter Try.func116, Try.ntmps116
  go_upto_region 1 with fail
  rw [← HW.out]
  clear HW
  cases v
  · go_wp2_with (first
      | (go_at_call 22; (with_reducible refine (kv.out _).mono ?_); rintro e' w2 ⟨rfl, hE⟩; have P1 := P1.ext hE; have EE := hide (EE.out.trans hE); clear hE)
      | (go_at_call 78; refine (r_of 0 _ (by omega) (by omega)).mono ?_; rintro e' w3 ⟨s1, a1, b1, c1, d1, t1, e1, f1, g1, h1, rfl, C1, D1, hE⟩; have K1 := hide C1; have K2 := hide D1; have P1 := P1.ext hE; have EE := hide (EE.out.trans hE); obtain ⟨i0, i1, i2, i3, i4, i5, i6, i7, i8, i9, j0, j1, j2, j3, j4, j5, j6, j7, j8, j9⟩ := ten_cells P1; clear hE C1 D1))
    all_goals exact bodyPost_ret (v := .agg #[.bool s1, .int .u64 (a1 : Int), .int .u64 (b1 : Int), .int .u64 (c1 : Int), .int .u64 (d1 : Int), .bool t1, .int .u64 (e1 : Int), .int .u64 (f1 : Int), .int .u64 (g1 : Int), .int .u64 (h1 : Int)]) (by simp [results, Try.results116, go_sem, i0, i1, i2, i3, i4, i5, i6, i7, i8, i9]) rfl ⟨s1, a1, b1, c1, d1, t1, e1, f1, g1, h1, rfl, K1.out, K2.out, ext_ten EE.out (by omega) _ _ _ _ _ _ _ _ _ _⟩
  · obtain ⟨K1, K2⟩ := KK.out rfl
    have K1 := hide K1
    have K2 := hide K2
    go_wp2_with (go_at_call 22; (with_reducible refine (kv.out _).mono ?_); rintro e' w2 ⟨rfl, hE⟩; have P0 := P0.ext hE; have P1 := P1.ext hE; have EE := hide (EE.out.trans hE); obtain ⟨c0, c1, c2, c3, c4, c5, c6, c7, c8, c9, _⟩ := ten_cells P0; obtain ⟨i0, i1, i2, i3, i4, i5, i6, i7, i8, i9, j0, j1, j2, j3, j4, j5, j6, j7, j8, j9⟩ := ten_cells P1; clear hE)
    all_goals exact bodyPost_ret (v := .agg #[.bool s, .int .u64 (a : Int), .int .u64 (b : Int), .int .u64 (c : Int), .int .u64 (d : Int), .bool t, .int .u64 (e : Int), .int .u64 (f : Int), .int .u64 (g : Int), .int .u64 (h : Int)]) (by simp [results, Try.results116, go_sem, i0, i1, i2, i3, i4, i5, i6, i7, i8, i9]) rfl ⟨s, a, b, c, d, t, e, f, g, h, rfl, K1.out, K2.out, ext_ten EE.out (by omega) _ _ _ _ _ _ _ _ _ _⟩
end Go.Proofs.Ytbnbkondbdakeaa
