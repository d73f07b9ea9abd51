/- The greatest common divisor and the small functions of the reference of layer 3. Conditions: the cells stand for numbers; the second number is greater than 0. -/
import Derived.Test.YtbnbkondbdakeaaRatB
import Derived.Test.YtbnbkondbdakeaaMulY
import Derived.Test.YtbnbkondbdakeaaRat3
namespace Go.Proofs.Ytbnbkondbdakeaa
set_option linter.unusedVariables false
set_option linter.unusedSimpArgs false
open Go Go.RowKit
set_option maxHeartbeats 1000000 in
theorem rf_small (s : Bool) (a b c d : Nat) (z : Int) (w : World) (h : IsC s a b c d z) :
    Calls Try.prog 79 #[.agg #[.bool s, .int .u64 (a : Int), .int .u64 (b : Int), .int .u64 (c : Int), .int .u64 (d : Int)]] w (BoolRet (decide (z.natAbs < 170141183460469231731687303715884105728)) w) := by
  have hf := fits_cells h
  have HX := hide (ext_alloc w (.cells #[.bool s, .int .u64 (a : Int), .int .u64 (b : Int), .int .u64 (c : Int), .int .u64 (d : Int)] 25))
  by_cases h3 : d = 0
  · by_cases h2 : c = 0
    · by_cases h1 : b < 9223372036854775808
      · have HB : Hid (decide (z.natAbs < 170141183460469231731687303715884105728) = true) := decide_eq_true (hf.2 ⟨h3, h2, h1⟩)
        have h1' : decide ((b : Int) < 9223372036854775808) = true := by rw [decide_eq_true_iff]; omega
        have h1'' : decide ((9223372036854775808 : Int) ≤ (b : Int)) = false := by rw [decide_eq_false_iff_not]; omega
        subst h3; subst h2
        clear hf h h1
        go_enter Try.func79, Try.ntmps79
        go_wp2
        go_ret
        exact ⟨rbb HB.out.symm, HX.out⟩
      · have HB : Hid (decide (z.natAbs < 170141183460469231731687303715884105728) = false) := decide_eq_false (fun e => h1 (hf.1 e).2.2)
        have h1' : decide ((b : Int) < 9223372036854775808) = false := by rw [decide_eq_false_iff_not]; omega
        have h1'' : decide ((9223372036854775808 : Int) ≤ (b : Int)) = true := by rw [decide_eq_true_iff]; omega
        subst h3; subst h2
        clear hf h h1
        go_enter Try.func79, Try.ntmps79
        go_wp2
        go_ret
        exact ⟨rbb HB.out.symm, HX.out⟩
    · have HB : Hid (decide (z.natAbs < 170141183460469231731687303715884105728) = false) := decide_eq_false (fun e => h2 (hf.1 e).2.1)
      have h2' : ((c : Int) == 0) = false := by rw [beq_eq_false_iff_ne]; omega
      have h2'' : ¬ ((c : Int) = 0) := by omega
      subst h3
      clear hf h h2
      go_enter Try.func79, Try.ntmps79
      go_wp2
      go_ret
      exact ⟨rbb HB.out.symm, HX.out⟩
  · have HB : Hid (decide (z.natAbs < 170141183460469231731687303715884105728) = false) := decide_eq_false (fun e => h3 (hf.1 e).1)
    have h3' : ((d : Int) == 0) = false := by rw [beq_eq_false_iff_ne]; omega
    have h3'' : ¬ ((d : Int) = 0) := by omega
    clear hf h h3
    go_enter Try.func79, Try.ntmps79
    go_wp2
    go_ret
    exact ⟨rbb HB.out.symm, HX.out⟩
set_option maxHeartbeats 1000000 in
theorem rf_one (w : World) : Calls Try.prog 80 #[] w (WideOnly 1 w) := by
  have P0 := Box.new0 w
  have EE := ext_alloc w (.cells #[.bool false, .int .u64 0, .int .u64 0, .int .u64 0, .int .u64 0] 25)
  obtain ⟨W, hW⟩ : ∃ W, W = w.alloc (.cells #[.bool false, .int .u64 0, .int .u64 0, .int .u64 0, .int .u64 0] 25) := ⟨_, rfl⟩
  rw [← hW] at P0 EE
  have HW := hide hW
  clear hW
  go_enter Try.func80, Try.ntmps80
  go_upto_region 1 with fail
  rw [← HW.out]
  clear HW
  go_wp2_with (go_at_call 17; refine (ref_ofi 1 _ (by omega) (by omega)).mono ?_; rintro e' w2 ⟨s1, a1, b1, c1, d1, rfl, C1, hE⟩; have K1 := hide C1; have P0 := P0.ext hE; have EE := EE.trans hE; obtain ⟨i0, i1, i2, i3, i4, j0, j1, j2, j3, j4⟩ := five_cells P0; clear hE C1)
  all_goals exact bodyPost_ret (v := .agg #[.bool s1, .int .u64 (a1 : Int), .int .u64 (b1 : Int), .int .u64 (c1 : Int), .int .u64 (d1 : Int)]) (by simp [results, Try.results80, go_sem, i0, i1, i2, i3, i4]) rfl ⟨s1, a1, b1, c1, d1, rfl, K1.out, ext_five EE (Nat.le_refl _) _ _ _ _ _⟩
theorem abs_isC {s : Bool} {a b c d : Nat} {z : Int} (h : IsW s a b c d z) : IsC false a b c d (z.natAbs : Int) := by
  obtain ⟨h1, h2, h3, h4, h5⟩ := h
  refine ⟨⟨h1, h2, h3, h4, ?_⟩, by simp⟩
  cases s <;> simp at h5 ⊢ <;> omega
set_option maxHeartbeats 1000000 in
theorem rf_abs (s : Bool) (a b c d : Nat) (z : Int) (w : World) (h : IsW s a b c d z) : Calls Try.prog 69 #[.agg #[.bool s, .int .u64 (a : Int), .int .u64 (b : Int), .int .u64 (c : Int), .int .u64 (d : Int)]] w (WideOnly (z.natAbs : Int) w) := by
  have K := hide (abs_isC h)
  have H2 := two_blocks w (.cells #[.bool false, .int .u64 (a : Int), .int .u64 (b : Int), .int .u64 (c : Int), .int .u64 (d : Int)] 25) (.cells #[.bool false, .int .u64 (a : Int), .int .u64 (b : Int), .int .u64 (c : Int), .int .u64 (d : Int)] 25)
  have EE := hide ((ext_alloc w (.cells #[.bool false, .int .u64 (a : Int), .int .u64 (b : Int), .int .u64 (c : Int), .int .u64 (d : Int)] 25)).trans (ext_alloc _ (.cells #[.bool false, .int .u64 (a : Int), .int .u64 (b : Int), .int .u64 (c : Int), .int .u64 (d : Int)] 25)))
  go_enter Try.func69, Try.ntmps69
  go_wp2_with fail
  all_goals exact bodyPost_ret (v := .agg #[.bool false, .int .u64 (a : Int), .int .u64 (b : Int), .int .u64 (c : Int), .int .u64 (d : Int)]) (by simp [results, Try.results69, go_sem]) rfl ⟨false, a, b, c, d, rfl, K.out, EE.out⟩
set_option maxRecDepth 100000 in
set_option maxHeartbeats 4000000 in
theorem rf_gcd (s t : Bool) (a b c d e f g h : Nat) (x y : Int) (w : World) (hx : IsC s a b c d x) (hy : IsC t e f g h y) (hy0 : 0 < y) :
    Calls Try.prog 68 #[.agg #[.bool s, .int .u64 (a : Int), .int .u64 (b : Int), .int .u64 (c : Int), .int .u64 (d : Int)], .agg #[.bool t, .int .u64 (e : Int), .int .u64 (f : Int), .int .u64 (g : Int), .int .u64 (h : Int)]] w (WideOnly (Int.gcd x y : Int) w) := by
  obtain ⟨W, hW⟩ : ∃ W, W = (((w.alloc (.cells #[.bool s, .int .u64 (a : Int), .int .u64 (b : Int), .int .u64 (c : Int), .int .u64 (d : Int)] 25)).alloc (.cells #[.bool t, .int .u64 (e : Int), .int .u64 (f : Int), .int .u64 (g : Int), .int .u64 (h : Int)] 25)).alloc (.cells #[.bool false, .int .u64 0, .int .u64 0, .int .u64 0, .int .u64 0] 25)) := ⟨_, rfl⟩
  have H3 := three_boxes w (.cells #[.bool s, .int .u64 (a : Int), .int .u64 (b : Int), .int .u64 (c : Int), .int .u64 (d : Int)] 25) (.cells #[.bool t, .int .u64 (e : Int), .int .u64 (f : Int), .int .u64 (g : Int), .int .u64 (h : Int)] 25) (.cells #[.bool false, .int .u64 0, .int .u64 0, .int .u64 0, .int .u64 0] 25)
  rw [← hW] at H3
  obtain ⟨G, hG⟩ : ∃ G, Int.gcd x y = G := ⟨_, rfl⟩
  have B0 : Box W w.heap.size s a b c d := H3.1
  have B1 : Box W (w.heap.size + 1) t e f g h := H3.2.1
  have B2 : Box W (w.heap.size + 1 + 1) false 0 0 0 0 := H3.2.2
  have E0 : Ext w W := by rw [hW]; exact ((ext_alloc _ _).trans (ext_alloc _ _)).trans (ext_alloc _ _)
  have HW := hide hW
  have HGG := hide hG
  rw [hG]
  clear hW H3 hG
  go_enter Try.func68, Try.ntmps68
  go_upto_region 1 with fail
  rw [← HW.out]
  clear HW
  go_loopg [] (y.natAbs) (fun k wr => ∃ (s : Bool) (a b c d : Nat) (t : Bool) (e f g h : Nat) (x y : Int), Box wr w.heap.size s a b c d ∧ Box wr (w.heap.size + 1) t e f g h ∧ Box wr (w.heap.size + 1 + 1) false 0 0 0 0 ∧ IsC s a b c d x ∧ IsC t e f g h y ∧ Hid (0 ≤ y ∧ y.natAbs ≤ k ∧ Int.gcd x y = G ∧ (0 < y ∨ 0 ≤ x)) ∧ Ext w wr)
  case atStart => exact ⟨s, a, b, c, d, t, e, f, g, h, x, y, B0, B1, B2, hx, hy, ⟨by omega, Nat.le_refl _, HGG.out, Or.inl hy0⟩, E0⟩
  case round =>
    clear B0 B1 B2 hx hy hy0 E0 HGG
    obtain ⟨s, a, b, c, d, t, e, f, g, h, x, y, B0, B1, B2, hx, hy, HH, EE⟩ := hrel
    have KX := hide hx
    have KY := hide hy
    clear hx hy
    obtain ⟨sg, hsg⟩ : ∃ sg, y.sign = sg := ⟨_, rfl⟩
    have ks : Hid (∀ w', Calls Try.prog 35 #[.agg #[.bool t, .int .u64 (e : Int), .int .u64 (f : Int), .int .u64 (g : Int), .int .u64 (h : Int)]] w' (IntRet .i64 sg w')) := fun w' => by rw [← hsg]; exact ref_sign _ _ _ _ _ _ w' KY.out.1
    obtain ⟨c0, c1, c2, c3, c4, _⟩ := five_cells B0
    obtain ⟨d0, d1, d2, d3, d4, _⟩ := five_cells B1
    obtain ⟨i0, i1, i2, i3, i4, j0, j1, j2, j3, j4⟩ := five_cells B2
    by_cases hy0 : y = 0
    · have hsg0 : sg = 0 := by rw [← hsg, hy0]; rfl
      subst hsg0
      have KR : Hid (IsC s a b c d (G : Int)) := by
        have h1 := HH.out
        have h2 := KX.out
        have e : (G : Int) = x := by
          have h3 := h1.2.2.1
          rw [hy0, Int.gcd_zero_right] at h3
          have h4 := h1.2.2.2
          omega
        unfold Hid
        rw [e]; exact h2
      clear hsg hy0 HH
      go_wp2_with (go_at_call 35; (with_reducible refine (ks.out _).mono ?_); rintro e' w2 ⟨rfl, hE⟩; have B0 := B0.ext hE; have B1 := B1.ext hE; have B2 := B2.ext hE; have EE := EE.trans hE; obtain ⟨c0, c1, c2, c3, c4, f0, f1, f2, f3, f4⟩ := five_cells B0; obtain ⟨d0, d1, d2, d3, d4, g0, g1, g2, g3, g4⟩ := five_cells B1; obtain ⟨i0, i1, i2, i3, i4, j0, j1, j2, j3, j4⟩ := five_cells B2; clear hE)
      all_goals exact bodyPost_ret (v := .agg #[.bool s, .int .u64 (a : Int), .int .u64 (b : Int), .int .u64 (c : Int), .int .u64 (d : Int)]) (by simp [results, Try.results68, go_sem, i0, i1, i2, i3, i4]) rfl ⟨s, a, b, c, d, rfl, KR.out, ext_five EE (by omega) _ _ _ _ _⟩
    · have hsg0 : ¬ (sg = 0) := by rw [← hsg]; intro e; exact hy0 (Int.sign_eq_zero_iff_zero.1 e)
      have hsg1 : (sg == 0) = false := by rw [beq_eq_false_iff_ne]; exact hsg0
      obtain ⟨r1, hr1⟩ : ∃ r, (if 0 ≤ x ∧ x < 18446744073709551616 then x else 0) = r := ⟨_, rfl⟩
      obtain ⟨o1, ho1⟩ : ∃ o, decide (0 ≤ x ∧ x < 18446744073709551616) = o := ⟨_, rfl⟩
      obtain ⟨r2, hr2⟩ : ∃ r, (if 0 ≤ y ∧ y < 18446744073709551616 then y else 0) = r := ⟨_, rfl⟩
      obtain ⟨o2, ho2⟩ : ∃ o, decide (0 ≤ y ∧ y < 18446744073709551616) = o := ⟨_, rfl⟩
      have k1 : Hid (∀ w', Calls Try.prog 101 #[.agg #[.bool s, .int .u64 (a : Int), .int .u64 (b : Int), .int .u64 (c : Int), .int .u64 (d : Int)]] w' (PairRet .u64 r1 o1 w')) := fun w' => by rw [← hr1, ← ho1]; exact ref_unsigned _ _ _ _ _ _ w' KX.out.1
      have k2 : Hid (∀ w', Calls Try.prog 101 #[.agg #[.bool t, .int .u64 (e : Int), .int .u64 (f : Int), .int .u64 (g : Int), .int .u64 (h : Int)]] w' (PairRet .u64 r2 o2 w')) := fun w' => by rw [← hr2, ← ho2]; exact ref_unsigned _ _ _ _ _ _ w' KY.out.1
      by_cases hb : o1 = true ∧ o2 = true
      · obtain ⟨rfl, rfl⟩ := hb
        have hx1 := of_decide_eq_true ho1
        have hy1 := of_decide_eq_true ho2
        rw [if_pos hx1] at hr1
        rw [if_pos hy1] at hr2
        obtain ⟨n, hn⟩ : ∃ n : Nat, x = n := ⟨x.toNat, by omega⟩
        obtain ⟨m, hm⟩ : ∃ m : Nat, y = m := ⟨y.toNat, by omega⟩
        have hn2 : n < 18446744073709551616 := by omega
        have hm2 : m < 18446744073709551616 := by omega
        have HGM : Hid (Nat.gcd n m = G) := by
          have h3 := HH.out.2.2.1
          rw [hn, hm] at h3
          exact h3
        have hG64 : G < 18446744073709551616 := by
          have h1 : Nat.gcd n m ≤ m := Nat.gcd_le_right _ (by omega)
          rw [HGM.out] at h1
          omega
        rw [← hr1, hn] at k1
        rw [← hr2, hm] at k2
        clear hr1 hr2 ho1 ho2 hx1 hy1 hn hm HH hsg hy0 KX KY
        go_wp2_with (first
          | (go_at_call 35; (with_reducible refine (ks.out _).mono ?_); rintro e' w2 ⟨rfl, hE⟩; have B0 := B0.ext hE; have B1 := B1.ext hE; have B2 := B2.ext hE; have EE := EE.trans hE; obtain ⟨c0, c1, c2, c3, c4, f0, f1, f2, f3, f4⟩ := five_cells B0; obtain ⟨d0, d1, d2, d3, d4, g0, g1, g2, g3, g4⟩ := five_cells B1; obtain ⟨i0, i1, i2, i3, i4, j0, j1, j2, j3, j4⟩ := five_cells B2; clear hE)
          | (go_at_call 101; (with_reducible refine (k1.out _).mono ?_); rintro e' w3 ⟨rfl, hE⟩; have B0 := B0.ext hE; have B1 := B1.ext hE; have B2 := B2.ext hE; have EE := EE.trans hE; obtain ⟨c0, c1, c2, c3, c4, f0, f1, f2, f3, f4⟩ := five_cells B0; obtain ⟨d0, d1, d2, d3, d4, g0, g1, g2, g3, g4⟩ := five_cells B1; obtain ⟨i0, i1, i2, i3, i4, j0, j1, j2, j3, j4⟩ := five_cells B2; clear hE)
          | (go_at_call 101; (with_reducible refine (k2.out _).mono ?_); rintro e' w4 ⟨rfl, hE⟩; have B0 := B0.ext hE; have B1 := B1.ext hE; have B2 := B2.ext hE; have EE := EE.trans hE; obtain ⟨c0, c1, c2, c3, c4, f0, f1, f2, f3, f4⟩ := five_cells B0; obtain ⟨d0, d1, d2, d3, d4, g0, g1, g2, g3, g4⟩ := five_cells B1; obtain ⟨i0, i1, i2, i3, i4, j0, j1, j2, j3, j4⟩ := five_cells B2; clear hE))
        go_loopw [5, 7] (fun x y wr => ∃ a' b' : Nat, x = .int .u64 (a' : Int) ∧ y = .int .u64 (b' : Int) ∧ a' < 18446744073709551616 ∧ b' < 18446744073709551616 ∧ Hid (Nat.gcd a' b' = G) ∧ Box wr (w.heap.size + 1 + 1) false 0 0 0 0 ∧ Ext w wr) (fun _ y _ => (intOf y).toNat)
        case atStart => exact ⟨n, m, rfl, rfl, hn2, hm2, HGM, B2, EE⟩
        case round =>
          clear hn2 hm2 HGM B0 B1 B2 EE c0 c1 c2 c3 c4 d0 d1 d2 d3 d4 i0 i1 i2 i3 i4
          obtain ⟨a', b', rfl, rfl, ha, hb, HGM, B2, EE⟩ := hrel
          obtain ⟨i0, i1, i2, i3, i4, j0, j1, j2, j3, j4⟩ := five_cells B2
          by_cases h0 : b' = 0
          · subst h0
            have HR : Hid (a' = G) := by have := HGM.out; rw [Nat.gcd_zero_right] at this; exact this
            clear HGM
            go_wp2_with (go_at_call 91; refine (ref_ofu a' _ ha).mono ?_; rintro e' w6 ⟨s6, a6, b6, c6, d6, rfl, hC, hE⟩; have B2 := B2.ext hE; have EE := EE.trans hE; obtain ⟨i0, i1, i2, i3, i4, j0, j1, j2, j3, j4⟩ := five_cells B2; clear hE)
            all_goals rw [HR.out] at hC
            all_goals exact bodyPost_ret (v := .agg #[.bool s6, .int .u64 (a6 : Int), .int .u64 (b6 : Int), .int .u64 (c6 : Int), .int .u64 (d6 : Int)]) (by simp [results, Try.results68, go_sem, i0, i1, i2, i3, i4]) rfl ⟨s6, a6, b6, c6, d6, rfl, hC, ext_five EE (by omega) _ _ _ _ _⟩
          · have h1 : ((b' : Int) == 0) = false := by rw [beq_eq_false_iff_ne]; omega
            have h2 : ¬ ((b' : Int) = 0) := by omega
            obtain ⟨r1, r2⟩ := rem_parts a' b' (by omega)
            obtain ⟨r, hr⟩ : ∃ r, a' % b' = r := ⟨_, rfl⟩
            rw [hr] at r1 r2
            have hrb : r < b' := by rw [← hr]; exact Nat.mod_lt _ (by omega)
            have HG2 : Hid (Nat.gcd b' r = G) := by rw [← HGM.out, ← hr, Nat.gcd_comm a' b', Nat.gcd_rec b' a', Nat.gcd_comm]; exact rfl
            have hr64 : r < 18446744073709551616 := by omega
            have HR := hide hr
            have HB := hide hrb
            clear hr hrb HGM h0
            go_wp2_with fail
            go_quiet (fail)
            go_wp2_with fail
            exact ⟨⟨b', r, rfl, rfl, hb, hr64, HG2, B2.ext (ext_drewN _ _), EE.trans (ext_drewN _ _)⟩, by have := HB.out; simp [intOf]; omega⟩
      · have HN : Hid (0 < x % y + 1 ∧ x % y < y ∧ 0 ≤ x % y ∧ Int.gcd y (x % y) = G ∧ (x % y).natAbs < gk) := by
          have h1 := HH.out
          have h2 := Int.emod_nonneg x hy0
          have h3 := Int.emod_lt_of_pos x (show 0 < y by omega)
          refine ⟨by omega, h3, h2, by rw [← gcd_mod]; exact h1.2.2.1, by omega⟩
        have HY0 : Hid (0 < y) := by have := HH.out.1; unfold Hid; omega
        have hY := hide hy0
        have hways : o1 = false ∨ (o1 = true ∧ o2 = false) := by cases o1 <;> cases o2 <;> simp at hb ⊢
        clear hr1 hr2 ho1 ho2 hsg HH hy0 hb
        rcases hways with rfl | ⟨rfl, rfl⟩
        all_goals go_upto_region 8 with (first
          | (go_at_call 35; (with_reducible refine (ks.out _).mono ?_); rintro e' w2 ⟨rfl, hE⟩; have B0 := B0.ext hE; have B1 := B1.ext hE; have B2 := B2.ext hE; have EE := EE.trans hE; obtain ⟨c0, c1, c2, c3, c4, f0, f1, f2, f3, f4⟩ := five_cells B0; obtain ⟨d0, d1, d2, d3, d4, g0, g1, g2, g3, g4⟩ := five_cells B1; obtain ⟨i0, i1, i2, i3, i4, j0, j1, j2, j3, j4⟩ := five_cells B2; clear hE)
          | (go_at_call 101; (with_reducible refine (k1.out _).mono ?_); rintro e' w3 ⟨rfl, hE⟩; have B0 := B0.ext hE; have B1 := B1.ext hE; have B2 := B2.ext hE; have EE := EE.trans hE; obtain ⟨c0, c1, c2, c3, c4, f0, f1, f2, f3, f4⟩ := five_cells B0; obtain ⟨d0, d1, d2, d3, d4, g0, g1, g2, g3, g4⟩ := five_cells B1; obtain ⟨i0, i1, i2, i3, i4, j0, j1, j2, j3, j4⟩ := five_cells B2; clear hE)
          | (go_at_call 101; (with_reducible refine (k2.out _).mono ?_); rintro e' w4 ⟨rfl, hE⟩; have B0 := B0.ext hE; have B1 := B1.ext hE; have B2 := B2.ext hE; have EE := EE.trans hE; obtain ⟨c0, c1, c2, c3, c4, f0, f1, f2, f3, f4⟩ := five_cells B0; obtain ⟨d0, d1, d2, d3, d4, g0, g1, g2, g3, g4⟩ := five_cells B1; obtain ⟨i0, i1, i2, i3, i4, j0, j1, j2, j3, j4⟩ := five_cells B2; clear hE))
        all_goals (go_upto_region 9 with (go_at_call 34; refine (ref_wdiv s t a b c d e f g h x y _ KX.out.1 KY.out.1).mono ?_; rintro e' w7 ⟨s7, a7, b7, c7, d7, s8, a8, b8, c8, d8, o8, rfl, ho, C7, C8, hE⟩; have Ho := hide ho; rw [if_neg hY.out] at C7 C8; have K8 := hide C8; clear ho C7 C8; have B0 := B0.ext hE; have B1 := B1.ext hE; have B2 := B2.ext hE; have EE := EE.trans hE; clear hE))
        all_goals have Q := two_blocks w7 (.cells #[.bool s7, .int .u64 (a7 : Int), .int .u64 (b7 : Int), .int .u64 (c7 : Int), .int .u64 (d7 : Int)] 25) (.cells #[.bool s8, .int .u64 (a8 : Int), .int .u64 (b8 : Int), .int .u64 (c8 : Int), .int .u64 (d8 : Int)] 25)
        all_goals have hE := (ext_alloc w7 (.cells #[.bool s7, .int .u64 (a7 : Int), .int .u64 (b7 : Int), .int .u64 (c7 : Int), .int .u64 (d7 : Int)] 25)).trans (ext_alloc _ (.cells #[.bool s8, .int .u64 (a8 : Int), .int .u64 (b8 : Int), .int .u64 (c8 : Int), .int .u64 (d8 : Int)] 25))
        all_goals have l2 := B2.lt
        all_goals have B0 := B0.ext hE
        all_goals have B1 := B1.ext hE
        all_goals have B2 := B2.ext hE
        all_goals have EE := EE.trans hE
        all_goals clear hE
        all_goals (obtain ⟨W7, hW7⟩ : ∃ W7, W7 = (w7.alloc (.cells #[.bool s7, .int .u64 (a7 : Int), .int .u64 (b7 : Int), .int .u64 (c7 : Int), .int .u64 (d7 : Int)] 25)).alloc (.cells #[.bool s8, .int .u64 (a8 : Int), .int .u64 (b8 : Int), .int .u64 (c8 : Int), .int .u64 (d8 : Int)] 25) := ⟨_, rfl⟩)
        all_goals rw [← hW7] at Q B0 B1 B2 EE ⊢
        all_goals (obtain ⟨g7, hg7⟩ : ∃ g7, w7.heap.size = g7 := ⟨_, rfl⟩)
        all_goals rw [hg7] at Q l2 ⊢
        all_goals have B8 : Box W7 (g7 + 1) s8 a8 b8 c8 d8 := Q.2
        all_goals clear hW7 hg7 Q
        all_goals (obtain ⟨c0, c1, c2, c3, c4, f0, f1, f2, f3, f4⟩ := five_cells B0)
        all_goals (obtain ⟨d0, d1, d2, d3, d4, g0, g1, g2, g3, g4⟩ := five_cells B1)
        all_goals (obtain ⟨i0, i1, i2, i3, i4, _⟩ := five_cells B8)
        all_goals have KE := ext_five (ext_five EE (b := w.heap.size) (Nat.le_refl _) (.bool t) (.int .u64 (e : Int)) (.int .u64 (f : Int)) (.int .u64 (g : Int)) (.int .u64 (h : Int))) (b := w.heap.size + 1) (by omega) (.bool s8) (.int .u64 (a8 : Int)) (.int .u64 (b8 : Int)) (.int .u64 (c8 : Int)) (.int .u64 (d8 : Int))
        all_goals have KB0 := (B0.put (t := t) (a' := e) (b' := f) (c' := g) (d' := h)).far (b' := w.heap.size + 1) (by omega) (.bool s8) (.int .u64 (a8 : Int)) (.int .u64 (b8 : Int)) (.int .u64 (c8 : Int)) (.int .u64 (d8 : Int))
        all_goals have KB1 := (B1.far (b' := w.heap.size) (by omega) (.bool t) (.int .u64 (e : Int)) (.int .u64 (f : Int)) (.int .u64 (g : Int)) (.int .u64 (h : Int))).put (t := s8) (a' := a8) (b' := b8) (c' := c8) (d' := d8)
        all_goals have KB2 := (B2.far (b' := w.heap.size) (by omega) (.bool t) (.int .u64 (e : Int)) (.int .u64 (f : Int)) (.int .u64 (g : Int)) (.int .u64 (h : Int))).far (b' := w.heap.size + 1) (by omega) (.bool s8) (.int .u64 (a8 : Int)) (.int .u64 (b8 : Int)) (.int .u64 (c8 : Int)) (.int .u64 (d8 : Int))
        all_goals go_region
        all_goals go_wp2_with fail
        all_goals go_roundg ((x % y).natAbs)
        all_goals first
          | exact HN.out.2.2.2.2
          | exact ⟨t, e, f, g, h, s8, a8, b8, c8, d8, y, x % y, KB0.drew, KB1.drew, KB2.drew, KY.out, K8.out, ⟨HN.out.2.2.1, Nat.le_refl _, HN.out.2.2.2.1, Or.inr (by have := HY0.out; omega)⟩, KE.trans (ext_drew _)⟩
end Go.Proofs.Ytbnbkondbdakeaa
/- Valid and clean of the reference of layer 3. Conditions: the cells stand for numbers. -/
namespace Go.Proofs.Ytbnbkondbdakeaa
set_option linter.unusedVariables false
set_option linter.unusedSimpArgs false
open Go Go.RowKit
/-- A Wide is returned whose cells are known. -/
def FixRet (s : Bool) (a b c d : Nat) (w : World) (e : Ending) (w' : World) : Prop := e = .returned (.agg #[.bool s, .int .u64 (a : Int), .int .u64 (b : Int), .int .u64 (c : Int), .int .u64 (d : Int)]) ∧ Ext w w'
theorem fixed {z : Int} {s : Bool} {a b c d : Nat} (hC : IsC s a b c d z) {e : Ending} {w w' : World} (h : WideOnly z w e w') : FixRet s a b c d w e w' := by
  obtain ⟨s', a', b', c', d', rfl, hC', hE⟩ := h
  obtain ⟨rfl, rfl, rfl, rfl, rfl⟩ := hC.uniq hC'
  exact ⟨rfl, hE⟩
theorem eqW {s t : Bool} {a b c d e f g h : Nat} {x y : Int} (hx : IsC s a b c d x) (hy : IsC t e f g h y) (w : World) : (binOp .eql 25 (.agg #[.bool s, .int .u64 (a : Int), .int .u64 (b : Int), .int .u64 (c : Int), .int .u64 (d : Int)]) (.agg #[.bool t, .int .u64 (e : Int), .int .u64 (f : Int), .int .u64 (g : Int), .int .u64 (h : Int)])).run Try.prog w = .ok (.bool (decide (x = y))) w := by
  rw [eq5]
  have := same_isC hx hy
  unfold same5 at this
  rw [this]
theorem one_isC : IsC false 1 0 0 0 1 := ⟨⟨by omega, by omega, by omega, by omega, by simp [mag4, val]⟩, by simp⟩
theorem good_bool (s : Bool) (z : Int) : (!s || decide (z ≠ 0)) = decide (Good s z) := by
  cases s <;> simp [Good]
set_option maxRecDepth 100000 in
set_option maxHeartbeats 8000000 in
theorem rf_valid (s t : Bool) (a b c d e f g h : Nat) (x y : Int) (w : World) (hx : IsW s a b c d x) (hy : IsW t e f g h y) (v : Bool) (hv : decide (RatOk s x t y) = v) :
    Calls Try.prog 28 #[.agg #[.bool s, .int .u64 (a : Int), .int .u64 (b : Int), .int .u64 (c : Int), .int .u64 (d : Int), .bool t, .int .u64 (e : Int), .int .u64 (f : Int), .int .u64 (g : Int), .int .u64 (h : Int)]] w (BoolRet v w) := by
  have HX := hide (ext_alloc w (.cells #[.bool s, .int .u64 (a : Int), .int .u64 (b : Int), .int .u64 (c : Int), .int .u64 (d : Int), .bool t, .int .u64 (e : Int), .int .u64 (f : Int), .int .u64 (g : Int), .int .u64 (h : Int)] 35))
  have H0 : Box10 (w.alloc (.cells #[.bool s, .int .u64 (a : Int), .int .u64 (b : Int), .int .u64 (c : Int), .int .u64 (d : Int), .bool t, .int .u64 (e : Int), .int .u64 (f : Int), .int .u64 (g : Int), .int .u64 (h : Int)] 35)) w.heap.size s a b c d t e f g h := heap_alloc_new w _
  obtain ⟨W, hW⟩ : ∃ W, W = w.alloc (.cells #[.bool s, .int .u64 (a : Int), .int .u64 (b : Int), .int .u64 (c : Int), .int .u64 (d : Int), .bool t, .int .u64 (e : Int), .int .u64 (f : Int), .int .u64 (g : Int), .int .u64 (h : Int)] 35) := ⟨_, rfl⟩
  rw [← hW] at HX H0
  have HW := hide hW
  clear hW
  obtain ⟨c0, c1, c2, c3, c4, c5, c6, c7, c8, c9, cf0, cf1, cf2, cf3, cf4, cf5, cf6, cf7, cf8, cf9⟩ := ten_cells H0
  obtain ⟨p1, hp1⟩ : ∃ p, decide (Good s x) = p := ⟨_, rfl⟩
  obtain ⟨p2, hp2⟩ : ∃ p, decide (Good t y) = p := ⟨_, rfl⟩
  obtain ⟨sg, hsg⟩ : ∃ r, y.sign = r := ⟨_, rfl⟩
  have k1 : Hid (∀ w', Calls Try.prog 67 #[.agg #[.bool s, .int .u64 (a : Int), .int .u64 (b : Int), .int .u64 (c : Int), .int .u64 (d : Int)]] w' (BoolRet p1 w')) := fun w' => by rw [← hp1, ← good_bool]; exact ref_valid _ _ _ _ _ _ w' hx
  have k2 : Hid (∀ w', Calls Try.prog 67 #[.agg #[.bool t, .int .u64 (e : Int), .int .u64 (f : Int), .int .u64 (g : Int), .int .u64 (h : Int)]] w' (BoolRet p2 w')) := fun w' => by rw [← hp2, ← good_bool]; exact ref_valid _ _ _ _ _ _ w' hy
  have k3 : Hid (∀ w', Calls Try.prog 35 #[.agg #[.bool t, .int .u64 (e : Int), .int .u64 (f : Int), .int .u64 (g : Int), .int .u64 (h : Int)]] w' (IntRet .i64 sg w')) := fun w' => by rw [← hsg]; exact ref_sign _ _ _ _ _ _ w' hy
  cases p1
  · have hv0 : v = false := by
      rw [← hv, decide_eq_false_iff_not]
      exact fun q => (of_decide_eq_false hp1) q.1
    subst hv0
    clear hv hx hy hp1 hp2 hsg k2 k3
    go_enter Try.func28, Try.ntmps28
    go_upto_region 1 with fail
    rw [← HW.out]
    clear HW
    go_wp2_with (first
      | (go_at_call 67; (with_reducible refine (k1.out _).mono ?_); rintro e' w1 ⟨rfl, hE⟩; have H0 := H0.ext hE; have HX := hide (HX.out.trans hE); obtain ⟨c0, c1, c2, c3, c4, c5, c6, c7, c8, c9, cf0, cf1, cf2, cf3, cf4, cf5, cf6, cf7, cf8, cf9⟩ := ten_cells H0; clear hE))
    all_goals go_ret
    all_goals exact ⟨rfl, HX.out⟩
  cases p2
  · have hv0 : v = false := by
      rw [← hv, decide_eq_false_iff_not]
      exact fun q => (of_decide_eq_false hp2) q.2.1
    subst hv0
    clear hv hx hy hp1 hp2 hsg k3
    go_enter Try.func28, Try.ntmps28
    go_upto_region 1 with fail
    rw [← HW.out]
    clear HW
    go_wp2_with (first
      | (go_at_call 67; (with_reducible refine (k1.out _).mono ?_); rintro e' w1 ⟨rfl, hE⟩; have H0 := H0.ext hE; have HX := hide (HX.out.trans hE); obtain ⟨c0, c1, c2, c3, c4, c5, c6, c7, c8, c9, cf0, cf1, cf2, cf3, cf4, cf5, cf6, cf7, cf8, cf9⟩ := ten_cells H0; clear hE)
      | (go_at_call 67; (with_reducible refine (k2.out _).mono ?_); rintro e' w2 ⟨rfl, hE⟩; have H0 := H0.ext hE; have HX := hide (HX.out.trans hE); obtain ⟨c0, c1, c2, c3, c4, c5, c6, c7, c8, c9, cf0, cf1, cf2, cf3, cf4, cf5, cf6, cf7, cf8, cf9⟩ := ten_cells H0; clear hE))
    all_goals go_ret
    all_goals exact ⟨rfl, HX.out⟩
  by_cases h3 : sg ≤ 0
  · have hv0 : v = false := by
      rw [← hv, decide_eq_false_iff_not]
      exact fun q => by have h4 := q.2.2.1; have h5 := Int.sign_eq_one_of_pos h4; omega
    subst hv0
    clear hv hx hy hp1 hp2 hsg
    go_enter Try.func28, Try.ntmps28
    go_upto_region 1 with fail
    rw [← HW.out]
    clear HW
    go_wp2_with (first
      | (go_at_call 67; (with_reducible refine (k1.out _).mono ?_); rintro e' w1 ⟨rfl, hE⟩; have H0 := H0.ext hE; have HX := hide (HX.out.trans hE); obtain ⟨c0, c1, c2, c3, c4, c5, c6, c7, c8, c9, cf0, cf1, cf2, cf3, cf4, cf5, cf6, cf7, cf8, cf9⟩ := ten_cells H0; clear hE)
      | (go_at_call 67; (with_reducible refine (k2.out _).mono ?_); rintro e' w2 ⟨rfl, hE⟩; have H0 := H0.ext hE; have HX := hide (HX.out.trans hE); obtain ⟨c0, c1, c2, c3, c4, c5, c6, c7, c8, c9, cf0, cf1, cf2, cf3, cf4, cf5, cf6, cf7, cf8, cf9⟩ := ten_cells H0; clear hE)
      | (go_at_call 35; (with_reducible refine (k3.out _).mono ?_); rintro e' w3 ⟨rfl, hE⟩; have H0 := H0.ext hE; have HX := hide (HX.out.trans hE); obtain ⟨c0, c1, c2, c3, c4, c5, c6, c7, c8, c9, cf0, cf1, cf2, cf3, cf4, cf5, cf6, cf7, cf8, cf9⟩ := ten_cells H0; clear hE))
    all_goals go_ret
    all_goals exact ⟨rfl, HX.out⟩
  have g1 := of_decide_eq_true hp1
  have g2 := of_decide_eq_true hp2
  have kx : IsC s a b c d x := ⟨hx, g1⟩
  have ky : IsC t e f g h y := ⟨hy, g2⟩
  have hyp : 0 < y := by
    have h4 : 0 < y.sign := by omega
    exact Int.sign_pos_iff.1 h4
  obtain ⟨p4, hp4⟩ : ∃ p, decide (x.natAbs < 170141183460469231731687303715884105728) = p := ⟨_, rfl⟩
  obtain ⟨p5, hp5⟩ : ∃ p, decide (y.natAbs < 170141183460469231731687303715884105728) = p := ⟨_, rfl⟩
  have k4 : Hid (∀ w', Calls Try.prog 79 #[.agg #[.bool s, .int .u64 (a : Int), .int .u64 (b : Int), .int .u64 (c : Int), .int .u64 (d : Int)]] w' (BoolRet p4 w')) := fun w' => by rw [← hp4]; exact rf_small _ _ _ _ _ _ w' kx
  have k5 : Hid (∀ w', Calls Try.prog 79 #[.agg #[.bool t, .int .u64 (e : Int), .int .u64 (f : Int), .int .u64 (g : Int), .int .u64 (h : Int)]] w' (BoolRet p5 w')) := fun w' => by rw [← hp5]; exact rf_small _ _ _ _ _ _ w' ky
  cases p4
  · have hv0 : v = false := by
      rw [← hv, decide_eq_false_iff_not]
      exact fun q => (of_decide_eq_false hp4) q.2.2.2.1
    subst hv0
    clear hv hx hy hp1 hp2 hsg g1 g2 kx ky hyp hp4 hp5 k5
    go_enter Try.func28, Try.ntmps28
    go_upto_region 1 with fail
    rw [← HW.out]
    clear HW
    go_wp2_with (first
      | (go_at_call 67; (with_reducible refine (k1.out _).mono ?_); rintro e' w1 ⟨rfl, hE⟩; have H0 := H0.ext hE; have HX := hide (HX.out.trans hE); obtain ⟨c0, c1, c2, c3, c4, c5, c6, c7, c8, c9, cf0, cf1, cf2, cf3, cf4, cf5, cf6, cf7, cf8, cf9⟩ := ten_cells H0; clear hE)
      | (go_at_call 67; (with_reducible refine (k2.out _).mono ?_); rintro e' w2 ⟨rfl, hE⟩; have H0 := H0.ext hE; have HX := hide (HX.out.trans hE); obtain ⟨c0, c1, c2, c3, c4, c5, c6, c7, c8, c9, cf0, cf1, cf2, cf3, cf4, cf5, cf6, cf7, cf8, cf9⟩ := ten_cells H0; clear hE)
      | (go_at_call 35; (with_reducible refine (k3.out _).mono ?_); rintro e' w3 ⟨rfl, hE⟩; have H0 := H0.ext hE; have HX := hide (HX.out.trans hE); obtain ⟨c0, c1, c2, c3, c4, c5, c6, c7, c8, c9, cf0, cf1, cf2, cf3, cf4, cf5, cf6, cf7, cf8, cf9⟩ := ten_cells H0; clear hE)
      | (go_at_call 79; (with_reducible refine (k4.out _).mono ?_); rintro e' w4 ⟨rfl, hE⟩; have H0 := H0.ext hE; have HX := hide (HX.out.trans hE); obtain ⟨c0, c1, c2, c3, c4, c5, c6, c7, c8, c9, cf0, cf1, cf2, cf3, cf4, cf5, cf6, cf7, cf8, cf9⟩ := ten_cells H0; clear hE))
    all_goals go_ret
    all_goals exact ⟨rfl, HX.out⟩
  cases p5
  · have hv0 : v = false := by
      rw [← hv, decide_eq_false_iff_not]
      exact fun q => (of_decide_eq_false hp5) q.2.2.2.2.1
    subst hv0
    clear hv hx hy hp1 hp2 hsg g1 g2 kx ky hyp hp4 hp5
    go_enter Try.func28, Try.ntmps28
    go_upto_region 1 with fail
    rw [← HW.out]
    clear HW
    go_wp2_with (first
      | (go_at_call 67; (with_reducible refine (k1.out _).mono ?_); rintro e' w1 ⟨rfl, hE⟩; have H0 := H0.ext hE; have HX := hide (HX.out.trans hE); obtain ⟨c0, c1, c2, c3, c4, c5, c6, c7, c8, c9, cf0, cf1, cf2, cf3, cf4, cf5, cf6, cf7, cf8, cf9⟩ := ten_cells H0; clear hE)
      | (go_at_call 67; (with_reducible refine (k2.out _).mono ?_); rintro e' w2 ⟨rfl, hE⟩; have H0 := H0.ext hE; have HX := hide (HX.out.trans hE); obtain ⟨c0, c1, c2, c3, c4, c5, c6, c7, c8, c9, cf0, cf1, cf2, cf3, cf4, cf5, cf6, cf7, cf8, cf9⟩ := ten_cells H0; clear hE)
      | (go_at_call 35; (with_reducible refine (k3.out _).mono ?_); rintro e' w3 ⟨rfl, hE⟩; have H0 := H0.ext hE; have HX := hide (HX.out.trans hE); obtain ⟨c0, c1, c2, c3, c4, c5, c6, c7, c8, c9, cf0, cf1, cf2, cf3, cf4, cf5, cf6, cf7, cf8, cf9⟩ := ten_cells H0; clear hE)
      | (go_at_call 79; (with_reducible refine (k4.out _).mono ?_); rintro e' w4 ⟨rfl, hE⟩; have H0 := H0.ext hE; have HX := hide (HX.out.trans hE); obtain ⟨c0, c1, c2, c3, c4, c5, c6, c7, c8, c9, cf0, cf1, cf2, cf3, cf4, cf5, cf6, cf7, cf8, cf9⟩ := ten_cells H0; clear hE)
      | (go_at_call 79; (with_reducible refine (k5.out _).mono ?_); rintro e' w5 ⟨rfl, hE⟩; have H0 := H0.ext hE; have HX := hide (HX.out.trans hE); obtain ⟨c0, c1, c2, c3, c4, c5, c6, c7, c8, c9, cf0, cf1, cf2, cf3, cf4, cf5, cf6, cf7, cf8, cf9⟩ := ten_cells H0; clear hE))
    all_goals go_ret
    all_goals exact ⟨rfl, HX.out⟩
  have hvv : v = decide ((Int.gcd (x.natAbs : Int) y : Int) = 1) := by
    rw [← hv, decide_eq_decide]
    have e1 : Int.gcd (x.natAbs : Int) y = Int.gcd x y := by simp [Int.gcd]
    rw [e1]
    constructor
    · intro q; have := q.2.2.2.2.2; omega
    · intro q; exact ⟨g1, g2, hyp, of_decide_eq_true hp4, of_decide_eq_true hp5, by omega⟩
  obtain ⟨s8, a8, b8, c8', d8, k8⟩ : ∃ (s : Bool) (a b c d : Nat), IsC s a b c d (Int.gcd (x.natAbs : Int) y : Int) := isC_some _ (by
    have h4 : Int.gcd (x.natAbs : Int) y ≤ y.natAbs := Nat.gcd_le_right _ (by omega)
    have h5 := of_decide_eq_true hp5
    omega)
  have ka : Hid (∀ w', Calls Try.prog 69 #[.agg #[.bool s, .int .u64 (a : Int), .int .u64 (b : Int), .int .u64 (c : Int), .int .u64 (d : Int)]] w' (FixRet false a b c d w')) := fun w' => (rf_abs _ _ _ _ _ _ w' hx).mono (fun _ _ q => fixed (abs_isC hx) q)
  have kg : Hid (∀ w', Calls Try.prog 68 #[.agg #[.bool false, .int .u64 (a : Int), .int .u64 (b : Int), .int .u64 (c : Int), .int .u64 (d : Int)], .agg #[.bool t, .int .u64 (e : Int), .int .u64 (f : Int), .int .u64 (g : Int), .int .u64 (h : Int)]] w' (FixRet s8 a8 b8 c8' d8 w')) := fun w' => (rf_gcd _ _ _ _ _ _ _ _ _ _ _ _ w' (abs_isC hx) ky hyp).mono (fun _ _ q => fixed k8 q)
  have k9 : Hid (∀ w', Calls Try.prog 80 #[] w' (FixRet false 1 0 0 0 w')) := fun w' => (rf_one w').mono (fun _ _ q => fixed one_isC q)
  have hq : ∀ w', (binOp .eql 25 (.agg #[.bool s8, .int .u64 (a8 : Int), .int .u64 (b8 : Int), .int .u64 (c8' : Int), .int .u64 (d8 : Int)]) (.agg #[.bool false, .int .u64 1, .int .u64 0, .int .u64 0, .int .u64 0])).run Try.prog w' = .ok (.bool (decide ((Int.gcd (x.natAbs : Int) y : Int) = 1))) w' := fun w' => eqW k8 one_isC w'
  rw [← hvv] at hq
  have h3' : ¬ (sg ≤ 0) := h3
  clear hv hvv hp1 hp2 hsg g1 g2 kx ky hyp hp4 hp5 hx hy k8 h3
  go_enter Try.func28, Try.ntmps28
  go_upto_region 1 with fail
  rw [← HW.out]
  clear HW
  go_upto_region 3 with (first
    | (go_at_call 67; (with_reducible refine (k1.out _).mono ?_); rintro e' w1 ⟨rfl, hE⟩; have H0 := H0.ext hE; have HX := hide (HX.out.trans hE); obtain ⟨c0, c1, c2, c3, c4, c5, c6, c7, c8, c9, cf0, cf1, cf2, cf3, cf4, cf5, cf6, cf7, cf8, cf9⟩ := ten_cells H0; clear hE)
    | (go_at_call 67; (with_reducible refine (k2.out _).mono ?_); rintro e' w2 ⟨rfl, hE⟩; have H0 := H0.ext hE; have HX := hide (HX.out.trans hE); obtain ⟨c0, c1, c2, c3, c4, c5, c6, c7, c8, c9, cf0, cf1, cf2, cf3, cf4, cf5, cf6, cf7, cf8, cf9⟩ := ten_cells H0; clear hE)
    | (go_at_call 35; (with_reducible refine (k3.out _).mono ?_); rintro e' w3 ⟨rfl, hE⟩; have H0 := H0.ext hE; have HX := hide (HX.out.trans hE); obtain ⟨c0, c1, c2, c3, c4, c5, c6, c7, c8, c9, cf0, cf1, cf2, cf3, cf4, cf5, cf6, cf7, cf8, cf9⟩ := ten_cells H0; clear hE)
    | (go_at_call 79; (with_reducible refine (k4.out _).mono ?_); rintro e' w4 ⟨rfl, hE⟩; have H0 := H0.ext hE; have HX := hide (HX.out.trans hE); obtain ⟨c0, c1, c2, c3, c4, c5, c6, c7, c8, c9, cf0, cf1, cf2, cf3, cf4, cf5, cf6, cf7, cf8, cf9⟩ := ten_cells H0; clear hE)
    | (go_at_call 79; (with_reducible refine (k5.out _).mono ?_); rintro e' w5 ⟨rfl, hE⟩; have H0 := H0.ext hE; have HX := hide (HX.out.trans hE); obtain ⟨c0, c1, c2, c3, c4, c5, c6, c7, c8, c9, cf0, cf1, cf2, cf3, cf4, cf5, cf6, cf7, cf8, cf9⟩ := ten_cells H0; clear hE))
  go_region_held3 (fun w' => w'.cell? ⟨w.heap.size, 0, none⟩ = some (.bool s) ∧ w'.cell? ⟨w.heap.size, 1, none⟩ = some (.int .u64 (a : Int)) ∧ w'.cell? ⟨w.heap.size, 2, none⟩ = some (.int .u64 (b : Int)) ∧ w'.cell? ⟨w.heap.size, 3, none⟩ = some (.int .u64 (c : Int)) ∧ w'.cell? ⟨w.heap.size, 4, none⟩ = some (.int .u64 (d : Int)) ∧ w'.cell? ⟨w.heap.size, 5, none⟩ = some (.bool t) ∧ w'.cell? ⟨w.heap.size, 6, none⟩ = some (.int .u64 (e : Int)) ∧ w'.cell? ⟨w.heap.size, 7, none⟩ = some (.int .u64 (f : Int)) ∧ w'.cell? ⟨w.heap.size, 8, none⟩ = some (.int .u64 (g : Int)) ∧ w'.cell? ⟨w.heap.size, 9, none⟩ = some (.int .u64 (h : Int))) (first | (with_reducible exact ⟨c0, c1, c2, c3, c4, c5, c6, c7, c8, c9⟩) | go_keep) (first
    | (go_at_call 69; (with_reducible refine (ka.out _).mono ?_); rintro e' w6 ⟨rfl, hE⟩; have H0 : Box10 w6 w.heap.size s a b c d t e f g h := (by first | exact H0.ext hE | exact H0.drew.ext hE); have HX : Hid (Ext w w6) := (by first | exact hide (HX.out.trans hE) | exact hide ((HX.out.trans (ext_drew _)).trans hE)); obtain ⟨c0, c1, c2, c3, c4, c5, c6, c7, c8, c9, cf0, cf1, cf2, cf3, cf4, cf5, cf6, cf7, cf8, cf9⟩ := ten_cells H0; clear hE)
    | (go_at_call 68; (with_reducible refine (kg.out _).mono ?_); rintro e' w7 ⟨rfl, hE⟩; have H0 : Box10 w7 w.heap.size s a b c d t e f g h := (by first | exact H0.ext hE | exact H0.drew.ext hE); have HX : Hid (Ext w w7) := (by first | exact hide (HX.out.trans hE) | exact hide ((HX.out.trans (ext_drew _)).trans hE)); obtain ⟨c0, c1, c2, c3, c4, c5, c6, c7, c8, c9, cf0, cf1, cf2, cf3, cf4, cf5, cf6, cf7, cf8, cf9⟩ := ten_cells H0; clear hE)
    | (go_at_call 80; (with_reducible refine (k9.out _).mono ?_); rintro e' w8 ⟨rfl, hE⟩; have H0 : Box10 w8 w.heap.size s a b c d t e f g h := (by first | exact H0.ext hE | exact H0.drew.ext hE); have HX : Hid (Ext w w8) := (by first | exact hide (HX.out.trans hE) | exact hide ((HX.out.trans (ext_drew _)).trans hE)); obtain ⟨c0, c1, c2, c3, c4, c5, c6, c7, c8, c9, cf0, cf1, cf2, cf3, cf4, cf5, cf6, cf7, cf8, cf9⟩ := ten_cells H0; clear hE))
  all_goals go_wp2_with fail
  all_goals go_ret
  all_goals exact ⟨rfl, HX.out⟩
end Go.Proofs.Ytbnbkondbdakeaa
/- Of and clean of the reference of layer 3. Conditions: the cells stand for numbers; the number is of 64 bits. -/
namespace Go.Proofs.Ytbnbkondbdakeaa
set_option linter.unusedVariables false
set_option linter.unusedSimpArgs false
open Go Go.RowKit
set_option maxRecDepth 100000 in
set_option maxHeartbeats 4000000 in
theorem rf_of (v : Int) (w : World) (v1 : -9223372036854775808 ≤ v) (v2 : v ≤ 9223372036854775807) : Calls Try.prog 92 #[.int .i64 v] w (RatRet v 1 w) := by
  have P0 : Box10 (w.alloc (.cells #[.bool false, .int .u64 0, .int .u64 0, .int .u64 0, .int .u64 0, .bool false, .int .u64 0, .int .u64 0, .int .u64 0, .int .u64 0] 35)) w.heap.size false 0 0 0 0 false 0 0 0 0 := heap_alloc_new w _
  have EE := ext_alloc w (.cells #[.bool false, .int .u64 0, .int .u64 0, .int .u64 0, .int .u64 0, .bool false, .int .u64 0, .int .u64 0, .int .u64 0, .int .u64 0] 35)
  obtain ⟨W, hW⟩ : ∃ W, W = w.alloc (.cells #[.bool false, .int .u64 0, .int .u64 0, .int .u64 0, .int .u64 0, .bool false, .int .u64 0, .int .u64 0, .int .u64 0, .int .u64 0] 35) := ⟨_, rfl⟩
  rw [← hW] at P0 EE
  have HW := hide hW
  clear hW
  have k1 : Hid (∀ w', Calls Try.prog 17 #[.int .i64 v] w' (WideOnly v w')) := fun w' => ref_ofi v w' v1 v2
  have k2 : Hid (∀ w', Calls Try.prog 80 #[] w' (WideOnly 1 w')) := fun w' => rf_one w'
  clear v1 v2
  go_enter Try.func92, Try.ntmps92
  go_upto_region 1 with fail
  rw [← HW.out]
  clear HW
  go_wp2_with (first
    | (go_at_call 17; (with_reducible refine (k1.out _).mono ?_); rintro e' w2 ⟨s1, a1, b1, c1, d1, rfl, C1, hE⟩; have K1 := hide C1; have P0 := P0.ext hE; have EE := EE.trans hE; obtain ⟨i0, i1, i2, i3, i4, i5, i6, i7, i8, i9, j0, j1, j2, j3, j4, j5, j6, j7, j8, j9⟩ := ten_cells P0; clear hE C1)
    | (go_at_call 80; (with_reducible refine (k2.out _).mono ?_); rintro e' w3 ⟨s2, a2, b2, c2, d2, rfl, C2, hE⟩; have K2 := hide C2; have P0 := P0.ext hE; have EE := EE.trans hE; obtain ⟨i0, i1, i2, i3, i4, i5, i6, i7, i8, i9, j0, j1, j2, j3, j4, j5, j6, j7, j8, j9⟩ := ten_cells P0; clear hE C2))
  all_goals exact bodyPost_ret (v := .agg #[.bool s1, .int .u64 (a1 : Int), .int .u64 (b1 : Int), .int .u64 (c1 : Int), .int .u64 (d1 : Int), .bool s2, .int .u64 (a2 : Int), .int .u64 (b2 : Int), .int .u64 (c2 : Int), .int .u64 (d2 : Int)]) (by simp [results, Try.results92, go_sem, i0, i1, i2, i3, i4, i5, i6, i7, i8, i9]) rfl ⟨s1, a1, b1, c1, d1, s2, a2, b2, c2, d2, rfl, K1.out, K2.out, ext_ten EE (Nat.le_refl _) _ _ _ _ _ _ _ _ _ _⟩
set_option maxRecDepth 100000 in
set_option maxHeartbeats 4000000 in
theorem rf_clean (s t : Bool) (a b c d e f g h : Nat) (x y : Int) (w : World) (hx : IsW s a b c d x) (hy : IsW t e f g h y) (v : Bool) (hv : decide (RatOk s x t y) = v) :
    Calls Try.prog 81 #[.agg #[.bool s, .int .u64 (a : Int), .int .u64 (b : Int), .int .u64 (c : Int), .int .u64 (d : Int), .bool t, .int .u64 (e : Int), .int .u64 (f : Int), .int .u64 (g : Int), .int .u64 (h : Int)]] w (RatRet (cN v x) (cD v y) w) := by
  have H2 := two_blocks w (.cells #[.bool s, .int .u64 (a : Int), .int .u64 (b : Int), .int .u64 (c : Int), .int .u64 (d : Int), .bool t, .int .u64 (e : Int), .int .u64 (f : Int), .int .u64 (g : Int), .int .u64 (h : Int)] 35) (.cells #[.bool false, .int .u64 0, .int .u64 0, .int .u64 0, .int .u64 0, .bool false, .int .u64 0, .int .u64 0, .int .u64 0, .int .u64 0] 35)
  have EE := hide ((ext_alloc w (.cells #[.bool s, .int .u64 (a : Int), .int .u64 (b : Int), .int .u64 (c : Int), .int .u64 (d : Int), .bool t, .int .u64 (e : Int), .int .u64 (f : Int), .int .u64 (g : Int), .int .u64 (h : Int)] 35)).trans (ext_alloc _ (.cells #[.bool false, .int .u64 0, .int .u64 0, .int .u64 0, .int .u64 0, .bool false, .int .u64 0, .int .u64 0, .int .u64 0, .int .u64 0] 35)))
  obtain ⟨W, hW⟩ : ∃ W, W = (w.alloc (.cells #[.bool s, .int .u64 (a : Int), .int .u64 (b : Int), .int .u64 (c : Int), .int .u64 (d : Int), .bool t, .int .u64 (e : Int), .int .u64 (f : Int), .int .u64 (g : Int), .int .u64 (h : Int)] 35)).alloc (.cells #[.bool false, .int .u64 0, .int .u64 0, .int .u64 0, .int .u64 0, .bool false, .int .u64 0, .int .u64 0, .int .u64 0, .int .u64 0] 35) := ⟨_, rfl⟩
  rw [← hW] at H2 EE
  have P0 : Box10 W w.heap.size s a b c d t e f g h := H2.1
  have P1 : Box10 W (w.heap.size + 1) false 0 0 0 0 false 0 0 0 0 := H2.2
  have HW := hide hW
  have kv : Hid (∀ w', Calls Try.prog 28 #[.agg #[.bool s, .int .u64 (a : Int), .int .u64 (b : Int), .int .u64 (c : Int), .int .u64 (d : Int), .bool t, .int .u64 (e : Int), .int .u64 (f : Int), .int .u64 (g : Int), .int .u64 (h : Int)]] w' (BoolRet v w')) := fun w' => rf_valid s t a b c d e f g h x y w' hx hy v hv
  have KK : Hid (v = true → IsC s a b c d x ∧ IsC t e f g h y) := by
    intro h1
    rw [h1] at hv
    have h2 := of_decide_eq_true hv
    exact ⟨⟨hx, h2.1⟩, ⟨hy, h2.2.1⟩⟩
  clear hW H2 hv hx hy
  obtain ⟨c0, c1, c2, c3, c4, c5, c6, c7, c8, c9, _⟩ := ten_cells P0
  go_enter Try.func81, Try.ntmps81
  go_upto_region 1 with fail
  rw [← HW.out]
  clear HW
  cases v
  · go_wp2_with (first
      | (go_at_call 28; (with_reducible refine (kv.out _).mono ?_); rintro e' w2 ⟨rfl, hE⟩; have P1 := P1.ext hE; have EE := hide (EE.out.trans hE); clear hE)
      | (go_at_call 80; refine (rf_one _).mono ?_; rintro e' w3 ⟨t1, e1, f1, g1, h1, rfl, D1, hE⟩; have K2 := hide D1; have P1 := P1.ext hE; have EE := hide (EE.out.trans hE); obtain ⟨i0, i1, i2, i3, i4, i5, i6, i7, i8, i9, j0, j1, j2, j3, j4, j5, j6, j7, j8, j9⟩ := ten_cells P1; clear hE D1))
    all_goals exact bodyPost_ret (v := .agg #[.bool false, .int .u64 0, .int .u64 0, .int .u64 0, .int .u64 0, .bool t1, .int .u64 (e1 : Int), .int .u64 (f1 : Int), .int .u64 (g1 : Int), .int .u64 (h1 : Int)]) (by simp [results, Try.results81, go_sem, i0, i1, i2, i3, i4, i5, i6, i7, i8, i9]) rfl ⟨false, 0, 0, 0, 0, t1, e1, f1, g1, h1, rfl, isC_zero, K2.out, ext_ten EE.out (by omega) _ _ _ _ _ _ _ _ _ _⟩
  · obtain ⟨K1, K2⟩ := KK.out rfl
    have K1 := hide K1
    have K2 := hide K2
    go_wp2_with (go_at_call 28; (with_reducible refine (kv.out _).mono ?_); rintro e' w2 ⟨rfl, hE⟩; have P0 := P0.ext hE; have P1 := P1.ext hE; have EE := hide (EE.out.trans hE); obtain ⟨c0, c1, c2, c3, c4, c5, c6, c7, c8, c9, _⟩ := ten_cells P0; obtain ⟨i0, i1, i2, i3, i4, i5, i6, i7, i8, i9, j0, j1, j2, j3, j4, j5, j6, j7, j8, j9⟩ := ten_cells P1; clear hE)
    all_goals exact bodyPost_ret (v := .agg #[.bool s, .int .u64 (a : Int), .int .u64 (b : Int), .int .u64 (c : Int), .int .u64 (d : Int), .bool t, .int .u64 (e : Int), .int .u64 (f : Int), .int .u64 (g : Int), .int .u64 (h : Int)]) (by simp [results, Try.results81, go_sem, i0, i1, i2, i3, i4, i5, i6, i7, i8, i9]) rfl ⟨s, a, b, c, d, t, e, f, g, h, rfl, K1.out, K2.out, ext_ten EE.out (by omega) _ _ _ _ _ _ _ _ _ _⟩
end Go.Proofs.Ytbnbkondbdakeaa
