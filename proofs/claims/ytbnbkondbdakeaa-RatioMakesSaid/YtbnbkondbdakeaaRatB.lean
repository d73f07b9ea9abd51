/- The greatest common divisor, and the bound of 127 bits, of the program's package ratio. Conditions: the cells stand for numbers; the second number is greater than 0. -/
import Derived.Test.YtbnbkondbdakeaaRat1
import Derived.Test.YtbnbkondbdakeaaDivL
import Derived.Deep.LoopGhost
namespace Go.Proofs.Ytbnbkondbdakeaa
set_option linter.unusedVariables false
set_option linter.unusedSimpArgs false
open Go Go.RowKit
theorem rem_parts (a b : Nat) (h : 0 < b) : (a : Int).tmod (b : Int) = ((a % b : Nat) : Int) ∧ (a : Int) % (b : Int) = ((a % b : Nat) : Int) := ⟨(Int.ofNat_tmod a b).symm, (Int.natCast_emod a b).symm⟩
set_option maxHeartbeats 1000000 in
theorem r_gcdW (a b : Nat) (w : World) (ha : a < 18446744073709551616) (hb : b < 18446744073709551616) :
    Calls Try.prog 112 #[.int .u64 (a : Int), .int .u64 (b : Int)] w (IntRet .u64 ((Nat.gcd a b : Nat) : Int) w) := by
  go_enter Try.func112, Try.ntmps112
  go_wp2_with fail
  go_loopw [0, 1] (fun x y wr => ∃ a' b' : Nat, x = .int .u64 (a' : Int) ∧ y = .int .u64 (b' : Int) ∧ a' < 18446744073709551616 ∧ b' < 18446744073709551616 ∧ Hid (Nat.gcd a' b' = Nat.gcd a b) ∧ Ext w wr) (fun _ y _ => (intOf y).toNat)
  case atStart => exact ⟨a, b, rfl, rfl, ha, hb, rfl, Ext.refl _⟩
  case round =>
    clear ha hb
    obtain ⟨a', b', rfl, rfl, ha, hb, HG, hE⟩ := hrel
    by_cases h0 : b' = 0
    · subst h0
      have HR : Hid (Nat.gcd a b = a') := by rw [← HG.out]; exact Nat.gcd_zero_right a'
      clear HG
      go_wp2_with fail
      go_ret
      exact ⟨by rw [HR.out]; rfl, hE⟩
    · have h1 : ((b' : Int) == 0) = false := by rw [beq_eq_false_iff_ne]; omega
      have h2 : ¬ ((b' : Int) = 0) := by omega
      obtain ⟨r1, r2⟩ := rem_parts a' b' (by omega)
      obtain ⟨r, hr⟩ : ∃ r, a' % b' = r := ⟨_, rfl⟩
      rw [hr] at r1 r2
      have hrb : r < b' := by rw [← hr]; exact Nat.mod_lt _ (by omega)
      have HG2 : Hid (Nat.gcd b' r = Nat.gcd a b) := by rw [← HG.out, ← hr, Nat.gcd_comm a' b', Nat.gcd_rec b' a', Nat.gcd_comm]; exact rfl
      have hr64 : r < 18446744073709551616 := by omega
      have HR := hide hr
      have HB := hide hrb
      clear hr hrb HG h0
      go_wp2_with fail
      go_quiet (fail)
      go_wp2_with fail
      exact ⟨⟨b', r, rfl, rfl, hb, hr64, HG2, hE.trans (ext_drewN _ _)⟩, by have := HB.out; simp [intOf]; omega⟩
def Fits (z : Int) : Prop := z.natAbs < 170141183460469231731687303715884105728
theorem fits_cells {s : Bool} {a b c d : Nat} {z : Int} (h : IsC s a b c d z) : z.natAbs < 170141183460469231731687303715884105728 ↔ (d = 0 ∧ c = 0 ∧ b < 9223372036854775808) := by
  obtain ⟨⟨h1, h2, h3, h4, h5⟩, _⟩ := h
  have e : z.natAbs = mag4 a b c d := by cases s <;> simp at h5 <;> omega
  rw [e]
  simp only [mag4, val]
  omega
set_option maxHeartbeats 1000000 in
theorem r_fits (s : Bool) (a b c d : Nat) (z : Int) (w : World) (h : IsC s a b c d z) :
    Calls Try.prog 66 #[.agg #[.bool s, .int .u64 (a : Int), .int .u64 (b : Int), .int .u64 (c : Int), .int .u64 (d : Int)]] w (BoolRet (decide (z.natAbs < 170141183460469231731687303715884105728)) w) := by
  have hf := fits_cells h
  have HX := hide (ext_alloc w (.cells #[.bool s, .int .u64 (a : Int), .int .u64 (b : Int), .int .u64 (c : Int), .int .u64 (d : Int)] 25))
  by_cases h3 : d = 0
  · by_cases h2 : c = 0
    · by_cases h1 : b < 9223372036854775808
      · have HB : Hid (decide (z.natAbs < 170141183460469231731687303715884105728) = true) := decide_eq_true (hf.2 ⟨h3, h2, h1⟩)
        have h1' : decide ((b : Int) < 9223372036854775808) = true := by rw [decide_eq_true_iff]; omega
        have h1'' : decide ((9223372036854775808 : Int) ≤ (b : Int)) = false := by rw [decide_eq_false_iff_not]; omega
        subst h3; subst h2
        clear hf h h1
        go_enter Try.func66, Try.ntmps66
        go_wp2
        go_ret
        exact ⟨rbb HB.out.symm, HX.out⟩
      · have HB : Hid (decide (z.natAbs < 170141183460469231731687303715884105728) = false) := decide_eq_false (fun e => h1 (hf.1 e).2.2)
        have h1' : decide ((b : Int) < 9223372036854775808) = false := by rw [decide_eq_false_iff_not]; omega
        have h1'' : decide ((9223372036854775808 : Int) ≤ (b : Int)) = true := by rw [decide_eq_true_iff]; omega
        subst h3; subst h2
        clear hf h h1
        go_enter Try.func66, Try.ntmps66
        go_wp2
        go_ret
        exact ⟨rbb HB.out.symm, HX.out⟩
    · have HB : Hid (decide (z.natAbs < 170141183460469231731687303715884105728) = false) := decide_eq_false (fun e => h2 (hf.1 e).2.1)
      have h2' : ((c : Int) == 0) = false := by rw [beq_eq_false_iff_ne]; omega
      have h2'' : ¬ ((c : Int) = 0) := by omega
      subst h3
      clear hf h h2
      go_enter Try.func66, Try.ntmps66
      go_wp2
      go_ret
      exact ⟨rbb HB.out.symm, HX.out⟩
  · have HB : Hid (decide (z.natAbs < 170141183460469231731687303715884105728) = false) := decide_eq_false (fun e => h3 (hf.1 e).1)
    have h3' : ((d : Int) == 0) = false := by rw [beq_eq_false_iff_ne]; omega
    have h3'' : ¬ ((d : Int) = 0) := by omega
    clear hf h h3
    go_enter Try.func66, Try.ntmps66
    go_wp2
    go_ret
    exact ⟨rbb HB.out.symm, HX.out⟩
set_option maxRecDepth 100000 in
set_option maxHeartbeats 4000000 in
theorem r_gcd (s t : Bool) (a b c d e f g h : Nat) (x y : Int) (w : World) (hx : IsC s a b c d x) (hy : IsC t e f g h y) (hy0 : 0 < y) :
    Calls Try.prog 64 #[.agg #[.bool s, .int .u64 (a : Int), .int .u64 (b : Int), .int .u64 (c : Int), .int .u64 (d : Int)], .agg #[.bool t, .int .u64 (e : Int), .int .u64 (f : Int), .int .u64 (g : Int), .int .u64 (h : Int)]] w (WideOnly (Int.gcd x y : Int) w) := by
  obtain ⟨W, hW⟩ : ∃ W, W = (((w.alloc (.cells #[.bool s, .int .u64 (a : Int), .int .u64 (b : Int), .int .u64 (c : Int), .int .u64 (d : Int)] 25)).alloc (.cells #[.bool t, .int .u64 (e : Int), .int .u64 (f : Int), .int .u64 (g : Int), .int .u64 (h : Int)] 25)).alloc (.cells #[.bool false, .int .u64 0, .int .u64 0, .int .u64 0, .int .u64 0] 25)) := ⟨_, rfl⟩
  have H3 := three_boxes w (.cells #[.bool s, .int .u64 (a : Int), .int .u64 (b : Int), .int .u64 (c : Int), .int .u64 (d : Int)] 25) (.cells #[.bool t, .int .u64 (e : Int), .int .u64 (f : Int), .int .u64 (g : Int), .int .u64 (h : Int)] 25) (.cells #[.bool false, .int .u64 0, .int .u64 0, .int .u64 0, .int .u64 0] 25)
  rw [← hW] at H3
  obtain ⟨G, hG⟩ : ∃ G, Int.gcd x y = G := ⟨_, rfl⟩
  have B0 : Box W w.heap.size s a b c d := H3.1
  have B1 : Box W (w.heap.size + 1) t e f g h := H3.2.1
  have B2 : Box W (w.heap.size + 1 + 1) false 0 0 0 0 := H3.2.2
  have E0 : Ext w W := by rw [hW]; exact ((ext_alloc _ _).trans (ext_alloc _ _)).trans (ext_alloc _ _)
  have HW := hide hW
  have HGG := hide hG
  rw [hG]
  clear hW H3 hG
  go_enter Try.func64, Try.ntmps64
  go_upto_region 1 with fail
  rw [← HW.out]
  clear HW
  go_loopg [] (y.natAbs) (fun k wr => ∃ (s : Bool) (a b c d : Nat) (t : Bool) (e f g h : Nat) (x y : Int), Box wr w.heap.size s a b c d ∧ Box wr (w.heap.size + 1) t e f g h ∧ Box wr (w.heap.size + 1 + 1) false 0 0 0 0 ∧ IsC s a b c d x ∧ IsC t e f g h y ∧ Hid (0 ≤ y ∧ y.natAbs ≤ k ∧ Int.gcd x y = G ∧ (0 < y ∨ 0 ≤ x)) ∧ Ext w wr)
  case atStart => exact ⟨s, a, b, c, d, t, e, f, g, h, x, y, B0, B1, B2, hx, hy, ⟨by omega, Nat.le_refl _, HGG.out, Or.inl hy0⟩, E0⟩
  case round =>
    clear B0 B1 B2 hx hy hy0 E0 HGG
    obtain ⟨s, a, b, c, d, t, e, f, g, h, x, y, B0, B1, B2, hx, hy, HH, EE⟩ := hrel
    have KX := hide hx
    have KY := hide hy
    clear hx hy
    obtain ⟨sg, hsg⟩ : ∃ sg, y.sign = sg := ⟨_, rfl⟩
    have ks : Hid (∀ w', Calls Try.prog 62 #[.agg #[.bool t, .int .u64 (e : Int), .int .u64 (f : Int), .int .u64 (g : Int), .int .u64 (h : Int)]] w' (IntRet .i64 sg w')) := fun w' => by rw [← hsg]; exact p_sign _ _ _ _ _ _ w' KY.out.1
    obtain ⟨c0, c1, c2, c3, c4, _⟩ := five_cells B0
    obtain ⟨d0, d1, d2, d3, d4, _⟩ := five_cells B1
    obtain ⟨i0, i1, i2, i3, i4, j0, j1, j2, j3, j4⟩ := five_cells B2
    by_cases hy0 : y = 0
    · have hsg0 : sg = 0 := by rw [← hsg, hy0]; rfl
      subst hsg0
      have KR : Hid (IsC s a b c d (G : Int)) := by
        have h1 := HH.out
        have h2 := KX.out
        have e : (G : Int) = x := by
          have h3 := h1.2.2.1
          rw [hy0, Int.gcd_zero_right] at h3
          have h4 := h1.2.2.2
          omega
        unfold Hid
        rw [e]; exact h2
      clear hsg hy0 HH
      go_wp2_with (go_at_call 62; (with_reducible refine (ks.out _).mono ?_); rintro e' w2 ⟨rfl, hE⟩; have B0 := B0.ext hE; have B1 := B1.ext hE; have B2 := B2.ext hE; have EE := EE.trans hE; obtain ⟨c0, c1, c2, c3, c4, f0, f1, f2, f3, f4⟩ := five_cells B0; obtain ⟨d0, d1, d2, d3, d4, g0, g1, g2, g3, g4⟩ := five_cells B1; obtain ⟨i0, i1, i2, i3, i4, j0, j1, j2, j3, j4⟩ := five_cells B2; clear hE)
      all_goals exact bodyPost_ret (v := .agg #[.bool s, .int .u64 (a : Int), .int .u64 (b : Int), .int .u64 (c : Int), .int .u64 (d : Int)]) (by simp [results, Try.results64, go_sem, i0, i1, i2, i3, i4]) rfl ⟨s, a, b, c, d, rfl, KR.out, ext_five EE (by omega) _ _ _ _ _⟩
    · have hsg0 : ¬ (sg = 0) := by rw [← hsg]; intro e; exact hy0 (Int.sign_eq_zero_iff_zero.1 e)
      have hsg1 : (sg == 0) = false := by rw [beq_eq_false_iff_ne]; exact hsg0
      obtain ⟨r1, hr1⟩ : ∃ r, (if 0 ≤ x ∧ x < 18446744073709551616 then x else 0) = r := ⟨_, rfl⟩
      obtain ⟨o1, ho1⟩ : ∃ o, decide (0 ≤ x ∧ x < 18446744073709551616) = o := ⟨_, rfl⟩
      obtain ⟨r2, hr2⟩ : ∃ r, (if 0 ≤ y ∧ y < 18446744073709551616 then y else 0) = r := ⟨_, rfl⟩
      obtain ⟨o2, ho2⟩ : ∃ o, decide (0 ≤ y ∧ y < 18446744073709551616) = o := ⟨_, rfl⟩
      have k1 : Hid (∀ w', Calls Try.prog 110 #[.agg #[.bool s, .int .u64 (a : Int), .int .u64 (b : Int), .int .u64 (c : Int), .int .u64 (d : Int)]] w' (PairRet .u64 r1 o1 w')) := fun w' => by rw [← hr1, ← ho1]; exact p_unsigned _ _ _ _ _ _ w' KX.out.1
      have k2 : Hid (∀ w', Calls Try.prog 110 #[.agg #[.bool t, .int .u64 (e : Int), .int .u64 (f : Int), .int .u64 (g : Int), .int .u64 (h : Int)]] w' (PairRet .u64 r2 o2 w')) := fun w' => by rw [← hr2, ← ho2]; exact p_unsigned _ _ _ _ _ _ w' KY.out.1
      by_cases hb : o1 = true ∧ o2 = true
      · obtain ⟨rfl, rfl⟩ := hb
        have hx1 := of_decide_eq_true ho1
        have hy1 := of_decide_eq_true ho2
        rw [if_pos hx1] at hr1
        rw [if_pos hy1] at hr2
        obtain ⟨n, hn⟩ : ∃ n : Nat, x = n := ⟨x.toNat, by omega⟩
        obtain ⟨m, hm⟩ : ∃ m : Nat, y = m := ⟨y.toNat, by omega⟩
        have hn2 : n < 18446744073709551616 := by omega
        have hm2 : m < 18446744073709551616 := by omega
        have HGM : Hid (Nat.gcd n m = G) := by
          have h3 := HH.out.2.2.1
          rw [hn, hm] at h3
          exact h3
        have hG64 : G < 18446744073709551616 := by
          have h1 : Nat.gcd n m ≤ m := Nat.gcd_le_right _ (by omega)
          rw [HGM.out] at h1
          omega
        rw [← hr1, hn] at k1
        rw [← hr2, hm] at k2
        clear hr1 hr2 ho1 ho2 hx1 hy1 hn hm HH hsg hy0 KX KY
        go_wp2_with (first
          | (go_at_call 62; (with_reducible refine (ks.out _).mono ?_); rintro e' w2 ⟨rfl, hE⟩; have B0 := B0.ext hE; have B1 := B1.ext hE; have B2 := B2.ext hE; have EE := EE.trans hE; obtain ⟨c0, c1, c2, c3, c4, f0, f1, f2, f3, f4⟩ := five_cells B0; obtain ⟨d0, d1, d2, d3, d4, g0, g1, g2, g3, g4⟩ := five_cells B1; obtain ⟨i0, i1, i2, i3, i4, j0, j1, j2, j3, j4⟩ := five_cells B2; clear hE)
          | (go_at_call 110; (with_reducible refine (k1.out _).mono ?_); rintro e' w3 ⟨rfl, hE⟩; have B0 := B0.ext hE; have B1 := B1.ext hE; have B2 := B2.ext hE; have EE := EE.trans hE; obtain ⟨c0, c1, c2, c3, c4, f0, f1, f2, f3, f4⟩ := five_cells B0; obtain ⟨d0, d1, d2, d3, d4, g0, g1, g2, g3, g4⟩ := five_cells B1; obtain ⟨i0, i1, i2, i3, i4, j0, j1, j2, j3, j4⟩ := five_cells B2; clear hE)
          | (go_at_call 110; (with_reducible refine (k2.out _).mono ?_); rintro e' w4 ⟨rfl, hE⟩; have B0 := B0.ext hE; have B1 := B1.ext hE; have B2 := B2.ext hE; have EE := EE.trans hE; obtain ⟨c0, c1, c2, c3, c4, f0, f1, f2, f3, f4⟩ := five_cells B0; obtain ⟨d0, d1, d2, d3, d4, g0, g1, g2, g3, g4⟩ := five_cells B1; obtain ⟨i0, i1, i2, i3, i4, j0, j1, j2, j3, j4⟩ := five_cells B2; clear hE)
          | (go_at_call 112; refine (r_gcdW n m _ hn2 hm2).mono ?_; rintro e' w5 ⟨rfl, hE⟩; rw [HGM.out]; have B0 := B0.ext hE; have B1 := B1.ext hE; have B2 := B2.ext hE; have EE := EE.trans hE; obtain ⟨c0, c1, c2, c3, c4, f0, f1, f2, f3, f4⟩ := five_cells B0; obtain ⟨d0, d1, d2, d3, d4, g0, g1, g2, g3, g4⟩ := five_cells B1; obtain ⟨i0, i1, i2, i3, i4, j0, j1, j2, j3, j4⟩ := five_cells B2; clear hE)
          | (go_at_call 111; refine (p_ofu G _ hG64).mono ?_; rintro e' w6 ⟨s6, a6, b6, c6, d6, rfl, hC, hE⟩; have B0 := B0.ext hE; have B1 := B1.ext hE; have B2 := B2.ext hE; have EE := EE.trans hE; obtain ⟨c0, c1, c2, c3, c4, f0, f1, f2, f3, f4⟩ := five_cells B0; obtain ⟨d0, d1, d2, d3, d4, g0, g1, g2, g3, g4⟩ := five_cells B1; obtain ⟨i0, i1, i2, i3, i4, j0, j1, j2, j3, j4⟩ := five_cells B2; clear hE))
        all_goals exact bodyPost_ret (v := .agg #[.bool s6, .int .u64 (a6 : Int), .int .u64 (b6 : Int), .int .u64 (c6 : Int), .int .u64 (d6 : Int)]) (by simp [results, Try.results64, go_sem, i0, i1, i2, i3, i4]) rfl ⟨s6, a6, b6, c6, d6, rfl, hC, ext_five EE (by omega) _ _ _ _ _⟩
      · have HN : Hid (0 < x % y + 1 ∧ x % y < y ∧ 0 ≤ x % y ∧ Int.gcd y (x % y) = G ∧ (x % y).natAbs < gk) := by
          have h1 := HH.out
          have h2 := Int.emod_nonneg x hy0
          have h3 := Int.emod_lt_of_pos x (show 0 < y by omega)
          refine ⟨by omega, h3, h2, by rw [← gcd_mod]; exact h1.2.2.1, by omega⟩
        have HY0 : Hid (0 < y) := by have := HH.out.1; unfold Hid; omega
        have hY := hide hy0
        have hways : o1 = false ∨ (o1 = true ∧ o2 = false) := by cases o1 <;> cases o2 <;> simp at hb ⊢
        clear hr1 hr2 ho1 ho2 hsg HH hy0 hb
        rcases hways with rfl | ⟨rfl, rfl⟩
        all_goals go_upto_region 6 with (first
          | (go_at_call 62; (with_reducible refine (ks.out _).mono ?_); rintro e' w2 ⟨rfl, hE⟩; have B0 := B0.ext hE; have B1 := B1.ext hE; have B2 := B2.ext hE; have EE := EE.trans hE; obtain ⟨c0, c1, c2, c3, c4, f0, f1, f2, f3, f4⟩ := five_cells B0; obtain ⟨d0, d1, d2, d3, d4, g0, g1, g2, g3, g4⟩ := five_cells B1; obtain ⟨i0, i1, i2, i3, i4, j0, j1, j2, j3, j4⟩ := five_cells B2; clear hE)
          | (go_at_call 110; (with_reducible refine (k1.out _).mono ?_); rintro e' w3 ⟨rfl, hE⟩; have B0 := B0.ext hE; have B1 := B1.ext hE; have B2 := B2.ext hE; have EE := EE.trans hE; obtain ⟨c0, c1, c2, c3, c4, f0, f1, f2, f3, f4⟩ := five_cells B0; obtain ⟨d0, d1, d2, d3, d4, g0, g1, g2, g3, g4⟩ := five_cells B1; obtain ⟨i0, i1, i2, i3, i4, j0, j1, j2, j3, j4⟩ := five_cells B2; clear hE)
          | (go_at_call 110; (with_reducible refine (k2.out _).mono ?_); rintro e' w4 ⟨rfl, hE⟩; have B0 := B0.ext hE; have B1 := B1.ext hE; have B2 := B2.ext hE; have EE := EE.trans hE; obtain ⟨c0, c1, c2, c3, c4, f0, f1, f2, f3, f4⟩ := five_cells B0; obtain ⟨d0, d1, d2, d3, d4, g0, g1, g2, g3, g4⟩ := five_cells B1; obtain ⟨i0, i1, i2, i3, i4, j0, j1, j2, j3, j4⟩ := five_cells B2; clear hE))
        all_goals (go_upto_region 7 with (go_at_call 65; refine (p_divMod s t a b c d e f g h x y _ KX.out.1 KY.out.1).mono ?_; rintro e' w7 ⟨s7, a7, b7, c7, d7, s8, a8, b8, c8, d8, o8, rfl, ho, C7, C8, hE⟩; have Ho := hide ho; rw [if_neg hY.out] at C7 C8; have K8 := hide C8; clear ho C7 C8; have B0 := B0.ext hE; have B1 := B1.ext hE; have B2 := B2.ext hE; have EE := EE.trans hE; clear hE))
        all_goals have Q := two_blocks w7 (.cells #[.bool s7, .int .u64 (a7 : Int), .int .u64 (b7 : Int), .int .u64 (c7 : Int), .int .u64 (d7 : Int)] 25) (.cells #[.bool s8, .int .u64 (a8 : Int), .int .u64 (b8 : Int), .int .u64 (c8 : Int), .int .u64 (d8 : Int)] 25)
        all_goals have hE := (ext_alloc w7 (.cells #[.bool s7, .int .u64 (a7 : Int), .int .u64 (b7 : Int), .int .u64 (c7 : Int), .int .u64 (d7 : Int)] 25)).trans (ext_alloc _ (.cells #[.bool s8, .int .u64 (a8 : Int), .int .u64 (b8 : Int), .int .u64 (c8 : Int), .int .u64 (d8 : Int)] 25))
        all_goals have l2 := B2.lt
        all_goals have B0 := B0.ext hE
        all_goals have B1 := B1.ext hE
        all_goals have B2 := B2.ext hE
        all_goals have EE := EE.trans hE
        all_goals clear hE
        all_goals (obtain ⟨W7, hW7⟩ : ∃ W7, W7 = (w7.alloc (.cells #[.bool s7, .int .u64 (a7 : Int), .int .u64 (b7 : Int), .int .u64 (c7 : Int), .int .u64 (d7 : Int)] 25)).alloc (.cells #[.bool s8, .int .u64 (a8 : Int), .int .u64 (b8 : Int), .int .u64 (c8 : Int), .int .u64 (d8 : Int)] 25) := ⟨_, rfl⟩)
        all_goals rw [← hW7] at Q B0 B1 B2 EE ⊢
        all_goals (obtain ⟨g7, hg7⟩ : ∃ g7, w7.heap.size = g7 := ⟨_, rfl⟩)
        all_goals rw [hg7] at Q l2 ⊢
        all_goals have B8 : Box W7 (g7 + 1) s8 a8 b8 c8 d8 := Q.2
        all_goals clear hW7 hg7 Q
        all_goals (obtain ⟨c0, c1, c2, c3, c4, f0, f1, f2, f3, f4⟩ := five_cells B0)
        all_goals (obtain ⟨d0, d1, d2, d3, d4, g0, g1, g2, g3, g4⟩ := five_cells B1)
        all_goals (obtain ⟨i0, i1, i2, i3, i4, _⟩ := five_cells B8)
        all_goals have KE := ext_five (ext_five EE (b := w.heap.size) (Nat.le_refl _) (.bool t) (.int .u64 (e : Int)) (.int .u64 (f : Int)) (.int .u64 (g : Int)) (.int .u64 (h : Int))) (b := w.heap.size + 1) (by omega) (.bool s8) (.int .u64 (a8 : Int)) (.int .u64 (b8 : Int)) (.int .u64 (c8 : Int)) (.int .u64 (d8 : Int))
        all_goals have KB0 := (B0.put (t := t) (a' := e) (b' := f) (c' := g) (d' := h)).far (b' := w.heap.size + 1) (by omega) (.bool s8) (.int .u64 (a8 : Int)) (.int .u64 (b8 : Int)) (.int .u64 (c8 : Int)) (.int .u64 (d8 : Int))
        all_goals have KB1 := (B1.far (b' := w.heap.size) (by omega) (.bool t) (.int .u64 (e : Int)) (.int .u64 (f : Int)) (.int .u64 (g : Int)) (.int .u64 (h : Int))).put (t := s8) (a' := a8) (b' := b8) (c' := c8) (d' := d8)
        all_goals have KB2 := (B2.far (b' := w.heap.size) (by omega) (.bool t) (.int .u64 (e : Int)) (.int .u64 (f : Int)) (.int .u64 (g : Int)) (.int .u64 (h : Int))).far (b' := w.heap.size + 1) (by omega) (.bool s8) (.int .u64 (a8 : Int)) (.int .u64 (b8 : Int)) (.int .u64 (c8 : Int)) (.int .u64 (d8 : Int))
        all_goals go_region
        all_goals go_wp2_with fail
        all_goals go_roundg ((x % y).natAbs)
        all_goals first
          | exact HN.out.2.2.2.2
          | exact ⟨t, e, f, g, h, s8, a8, b8, c8, d8, y, x % y, KB0.drew, KB1.drew, KB2.drew, KY.out, K8.out, ⟨HN.out.2.2.1, Nat.le_refl _, HN.out.2.2.2.1, Or.inr (by have := HY0.out; omega)⟩, KE.trans (ext_drew _)⟩
end Go.Proofs.Ytbnbkondbdakeaa
