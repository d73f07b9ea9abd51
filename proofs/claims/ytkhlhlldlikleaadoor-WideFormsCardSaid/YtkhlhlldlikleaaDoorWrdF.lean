/- Int64 and Compare of the program. Conditions: the cells stand for numbers. -/
import Derived.Test.YtkhlhlldlikleaaDoorWrdE
import Derived.Test.YtkhlhlldlikleaaDoorMagL
import Derived.Test.YtkhlhlldlikleaaDoorMagJ
namespace Go.Proofs.YtkhlhlldlikleaaDoor
set_option linter.unusedVariables false
set_option linter.unusedSimpArgs false
open Go Go.RowKit
set_option maxRecDepth 100000 in
set_option maxHeartbeats 2000000 in
theorem p_int64 (s : Bool) (a b c d : Nat) (z : Int) (w : World) (h : IsW s a b c d z) :
    Calls Tryd.prog 14 #[.agg #[.bool s, .int .u64 (a : Int), .int .u64 (b : Int), .int .u64 (c : Int), .int .u64 (d : Int)]] w (PairRet .i64 (if -9223372036854775808 ≤ z ∧ z ≤ 9223372036854775807 then z else 0) (decide (-9223372036854775808 ≤ z ∧ z ≤ 9223372036854775807)) w) := by
  obtain ⟨r, hr⟩ : ∃ r, (if -9223372036854775808 ≤ z ∧ z ≤ 9223372036854775807 then z else 0) = r := ⟨_, rfl⟩
  obtain ⟨o, ho⟩ : ∃ o, decide (-9223372036854775808 ≤ z ∧ z ≤ 9223372036854775807) = o := ⟨_, rfl⟩
  rw [hr, ho]
  have hlow : mag4 a b c d < 18446744073709551616 → a = mag4 a b c d := by intro h; simp only [mag4, val] at h ⊢; omega
  have hz := h.2.2.2.2
  have ha := h.1
  have HX := hide (ext_alloc w (.cells #[.bool s, .int .u64 (a : Int), .int .u64 (b : Int), .int .u64 (c : Int), .int .u64 (d : Int)] 25))
  obtain ⟨n, hn⟩ : ∃ n, mag4 a b c d = n := ⟨_, rfl⟩
  rw [hn] at hlow hz
  clear h
  have yes : -9223372036854775808 ≤ z → z ≤ 9223372036854775807 → z = r ∧ true = o := fun h1 h2 => ⟨by rw [← hr, if_pos ⟨h1, h2⟩], by rw [← ho]; symm; rw [decide_eq_true_iff]; exact ⟨h1, h2⟩⟩
  have no : ¬ (-9223372036854775808 ≤ z ∧ z ≤ 9223372036854775807) → 0 = r ∧ false = o := fun h1 => ⟨by rw [← hr, if_neg h1], by rw [← ho]; symm; rw [decide_eq_false_iff_not]; exact h1⟩
  by_cases hb : n < 18446744073709551616
  · have hO : Hid (decide (mag4 a b c d < 18446744073709551616) = true) := by unfold Hid; rw [decide_eq_true_iff, hn]; exact hb
    replace hlow := hlow hb
    have hcase : (s = true ∧ a ≤ 9223372036854775807 ∧ -(a : Int) = r ∧ true = o) ∨ (s = false ∧ a ≤ 9223372036854775807 ∧ (a : Int) = r ∧ true = o) ∨ (s = true ∧ a = 9223372036854775808 ∧ -9223372036854775808 = r ∧ true = o) ∨ (s = false ∧ 9223372036854775808 ≤ a ∧ 0 = r ∧ false = o) ∨ (s = true ∧ 9223372036854775808 < a ∧ 0 = r ∧ false = o) := by
      cases s
      · simp only [Bool.false_eq_true, if_false] at hz
        by_cases h1 : a ≤ 9223372036854775807
        · have := yes (by omega) (by omega); exact Or.inr (Or.inl ⟨rfl, h1, by omega, this.2⟩)
        · have := no (by omega); exact Or.inr (Or.inr (Or.inr (Or.inl ⟨rfl, by omega, this⟩)))
      · simp only [if_true] at hz
        by_cases h1 : a ≤ 9223372036854775807
        · have := yes (by omega) (by omega); exact Or.inl ⟨rfl, h1, by omega, this.2⟩
        · by_cases h2 : a = 9223372036854775808
          · have := yes (by omega) (by omega); exact Or.inr (Or.inr (Or.inl ⟨rfl, h2, by omega, this.2⟩))
          · have := no (by omega); exact Or.inr (Or.inr (Or.inr (Or.inr ⟨rfl, by omega, this⟩)))
    clear hlow hz hn hr ho yes no hb
    rcases hcase with ⟨rfl, h1, h2⟩ | ⟨rfl, h1, h2⟩ | ⟨rfl, h1, h2⟩ | ⟨rfl, h1, h2⟩ | ⟨rfl, h1, h2⟩
    · have HR := hide h2
      have hI : (a : Int) ≤ 9223372036854775807 := by omega
      have hw : Hid (wrap64 (-wrap64 (a : Int)) = -(a : Int)) := by unfold Hid; simp only [wrap64]; omega
      clear h1 h2
      go_enter Tryd.func14, Tryd.ntmps14
      go_wp2_with (go_at_call 44; refine (p_oneWord a b c d _ ha).mono ?_; rintro e' w' ⟨rfl, hE⟩; rw [hO.out]; have q := one_kept hE; obtain ⟨c0, c1, c2, c3, c4, f0, f1, f2, f3, f4⟩ := five_cells q; have HE := hide (HX.out.trans hE); clear q hE)
      all_goals go_ret2
      all_goals exact ⟨rb2' (by rw [← HR.out.1]) HR.out.2, HE.out⟩
    · have HR := hide h2
      have hI : (a : Int) ≤ 9223372036854775807 := by omega
      clear h1 h2
      go_enter Tryd.func14, Tryd.ntmps14
      go_wp2_with (go_at_call 44; refine (p_oneWord a b c d _ ha).mono ?_; rintro e' w' ⟨rfl, hE⟩; rw [hO.out]; have q := one_kept hE; obtain ⟨c0, c1, c2, c3, c4, f0, f1, f2, f3, f4⟩ := five_cells q; have HE := hide (HX.out.trans hE); clear q hE)
      all_goals go_ret2
      all_goals exact ⟨rb2' (by rw [← HR.out.1]) HR.out.2, HE.out⟩
    · have HR := hide h2
      have hI : ¬ ((a : Int) ≤ 9223372036854775807) := by omega
      have hJ : ((a : Int) == 9223372036854775808) = true := by simp; omega
      clear h1 h2
      go_enter Tryd.func14, Tryd.ntmps14
      go_wp2_with (go_at_call 44; refine (p_oneWord a b c d _ ha).mono ?_; rintro e' w' ⟨rfl, hE⟩; rw [hO.out]; have q := one_kept hE; obtain ⟨c0, c1, c2, c3, c4, f0, f1, f2, f3, f4⟩ := five_cells q; have HE := hide (HX.out.trans hE); clear q hE)
      all_goals go_ret2
      all_goals exact ⟨rb2' (by rw [← HR.out.1]) HR.out.2, HE.out⟩
    · have HR := hide h2
      have hI : ¬ ((a : Int) ≤ 9223372036854775807) := by omega
      clear h1 h2
      go_enter Tryd.func14, Tryd.ntmps14
      go_wp2_with (go_at_call 44; refine (p_oneWord a b c d _ ha).mono ?_; rintro e' w' ⟨rfl, hE⟩; rw [hO.out]; have q := one_kept hE; obtain ⟨c0, c1, c2, c3, c4, f0, f1, f2, f3, f4⟩ := five_cells q; have HE := hide (HX.out.trans hE); clear q hE)
      all_goals go_ret2
      all_goals exact ⟨rb2' (by rw [← HR.out.1]) HR.out.2, HE.out⟩
    · have HR := hide h2
      have hI : ¬ ((a : Int) ≤ 9223372036854775807) := by omega
      have hJ : ((a : Int) == 9223372036854775808) = false := by simp; omega
      clear h1 h2
      go_enter Tryd.func14, Tryd.ntmps14
      go_wp2_with (go_at_call 44; refine (p_oneWord a b c d _ ha).mono ?_; rintro e' w' ⟨rfl, hE⟩; rw [hO.out]; have q := one_kept hE; obtain ⟨c0, c1, c2, c3, c4, f0, f1, f2, f3, f4⟩ := five_cells q; have HE := hide (HX.out.trans hE); clear q hE)
      all_goals go_ret2
      all_goals exact ⟨rb2' (by rw [← HR.out.1]) HR.out.2, HE.out⟩
  · have hO : Hid (decide (mag4 a b c d < 18446744073709551616) = false) := by unfold Hid; rw [decide_eq_false_iff_not, hn]; exact hb
    have HR : Hid (0 = r ∧ false = o) := no (by cases s <;> simp only [Bool.false_eq_true, if_false, if_true] at hz <;> omega)
    clear hlow hz hn hr ho yes no hb
    go_enter Tryd.func14, Tryd.ntmps14
    go_wp2_with (go_at_call 44; refine (p_oneWord a b c d _ ha).mono ?_; rintro e' w' ⟨rfl, hE⟩; rw [hO.out]; have q := one_kept hE; obtain ⟨c0, c1, c2, c3, c4, f0, f1, f2, f3, f4⟩ := five_cells q; have HE := hide (HX.out.trans hE); clear q hE)
    all_goals go_ret2
    all_goals exact ⟨rb2' HR.out.1 HR.out.2, HE.out⟩
set_option maxHeartbeats 2000000 in
theorem p_compare (s t : Bool) (a b c d e f g h : Nat) (x y : Int) (w : World) (hx : IsW s a b c d x) (hy : IsW t e f g h y) :
    Calls Tryd.prog 23 #[.agg #[.bool s, .int .u64 (a : Int), .int .u64 (b : Int), .int .u64 (c : Int), .int .u64 (d : Int)], .agg #[.bool t, .int .u64 (e : Int), .int .u64 (f : Int), .int .u64 (g : Int), .int .u64 (h : Int)]] w (IntRet .i64 (cmpI x y) w) := by
  obtain ⟨W, hW⟩ : ∃ W, W = ((w.alloc (.cells #[.bool s, .int .u64 (a : Int), .int .u64 (b : Int), .int .u64 (c : Int), .int .u64 (d : Int)] 25)).alloc (.cells #[.bool t, .int .u64 (e : Int), .int .u64 (f : Int), .int .u64 (g : Int), .int .u64 (h : Int)] 25)) := ⟨_, rfl⟩
  have H3 := two_blocks w (.cells #[.bool s, .int .u64 (a : Int), .int .u64 (b : Int), .int .u64 (c : Int), .int .u64 (d : Int)] 25) (.cells #[.bool t, .int .u64 (e : Int), .int .u64 (f : Int), .int .u64 (g : Int), .int .u64 (h : Int)] 25)
  rw [← hW] at H3
  have B0 : Box W w.heap.size s a b c d := H3.1
  have B1 : Box W (w.heap.size + 1) t e f g h := H3.2
  have E0 : Ext w W := by rw [hW]; exact (ext_alloc _ _).trans (ext_alloc _ _)
  have HW := hide hW
  clear hW H3
  have MX := hide hx.abs
  have MY := hide hy.abs
  have wx := hx.w64
  have wy := hy.w64
  have HX := hide hx
  have HY := hide hy
  have CS := hide (@cmp_sign x y)
  obtain ⟨p, hp⟩ : ∃ p, x.sign = p := ⟨_, rfl⟩
  obtain ⟨q, hq⟩ : ∃ q, y.sign = q := ⟨_, rfl⟩
  have HP := hide hp
  have HQ := hide hq
  clear hp hq hx hy
  obtain ⟨c0, c1, c2, c3, c4, f0, f1, f2, f3, f4⟩ := five_cells B0
  obtain ⟨d0, d1, d2, d3, d4, g0, g1, g2, g3, g4⟩ := five_cells B1
  by_cases hpq : p = q
  · subst hpq
    have HR : Hid (cmpI x y = p * sgnN x.natAbs y.natAbs) := by rw [← HP.out]; exact CS.out.2.2 (by rw [HP.out, HQ.out])
    obtain ⟨r, hr⟩ : ∃ r, sgnN x.natAbs y.natAbs = r := ⟨_, rfl⟩
    have hr1 : -1 ≤ r ∧ r ≤ 1 := by rw [← hr]; unfold sgnN; split <;> (try split) <;> omega
    have hp1 : p = -1 ∨ p = 0 ∨ p = 1 := by
      rw [← HP.out]
      rcases Int.lt_trichotomy x 0 with h | h | h
      · exact Or.inl (Int.sign_eq_neg_one_of_neg h)
      · subst h; exact Or.inr (Or.inl rfl)
      · exact Or.inr (Or.inr (Int.sign_eq_one_of_pos h))
    have HS := hide hr
    have HT : Hid (wrap64 (p * r) = cmpI x y) := by rw [HR.out, hr]; rcases hp1 with rfl | rfl | rfl <;> simp [Hid, wrap64] <;> omega
    clear hr hr1 hp1
    go_enter Tryd.func23, Tryd.ntmps23
    go_upto_region 1 with fail
    rw [← HW.out]
    clear HW
    go_wp2_with (first
      | (go_at_call_of 22 (Value.agg #[Value.bool s, Value.int IntKind.u64 (a : Int), Value.int IntKind.u64 (b : Int), Value.int IntKind.u64 (c : Int), Value.int IntKind.u64 (d : Int)]); refine (p_sign s a b c d x _ HX.out).mono ?_; rintro e' w' ⟨rfl, hE⟩; rw [HP.out]; have R0 := B0.ext hE; have R1 := B1.ext hE; obtain ⟨c0, c1, c2, c3, c4, f0, f1, f2, f3, f4⟩ := five_cells R0; obtain ⟨d0, d1, d2, d3, d4, g0, g1, g2, g3, g4⟩ := five_cells R1; have E1 := E0.trans hE; clear hE)
      | (go_at_call 22; refine (p_sign t e f g h y _ HY.out).mono ?_; rintro e' w' ⟨rfl, hE⟩; rw [HQ.out]; have R0 := R0.ext hE; have R1 := R1.ext hE; obtain ⟨c0, c1, c2, c3, c4, f0, f1, f2, f3, f4⟩ := five_cells R0; obtain ⟨d0, d1, d2, d3, d4, g0, g1, g2, g3, g4⟩ := five_cells R1; have E1 := E1.trans hE; clear hE)
      | (go_at_call 46; refine (p_cmpWords a b c d e f g h _ _ MX.out MY.out _ wx wy).mono ?_; rintro e' w' ⟨rfl, hE⟩; rw [HS.out]; have E1 := E1.trans hE; clear hE))
    all_goals go_ret
    all_goals exact ⟨rb1 (by first | exact HT.out | (rw [← HT.out, ← IntKind.wrap_i64]; rfl) | (rw [← HT.out]; simp only [wrap64, IntKind.wrap_i64])), E1⟩
  · have hne : (p != q) = true := by simpa using hpq
    have HR : Hid (sgnI p q = cmpI x y) := by
      unfold Hid sgnI
      rcases (by omega : p < q ∨ q < p) with h1 | h1
      · rw [if_pos h1, CS.out.1 (by rw [HP.out, HQ.out]; exact h1)]
      · rw [if_neg (by omega), if_pos h1, CS.out.2.1 (by rw [HP.out, HQ.out]; exact h1)]
    clear hpq
    go_enter Tryd.func23, Tryd.ntmps23
    go_upto_region 1 with fail
    rw [← HW.out]
    clear HW
    go_wp2_with (first
      | (go_at_call_of 22 (Value.agg #[Value.bool s, Value.int IntKind.u64 (a : Int), Value.int IntKind.u64 (b : Int), Value.int IntKind.u64 (c : Int), Value.int IntKind.u64 (d : Int)]); refine (p_sign s a b c d x _ HX.out).mono ?_; rintro e' w' ⟨rfl, hE⟩; rw [HP.out]; have R0 := B0.ext hE; have R1 := B1.ext hE; obtain ⟨c0, c1, c2, c3, c4, f0, f1, f2, f3, f4⟩ := five_cells R0; obtain ⟨d0, d1, d2, d3, d4, g0, g1, g2, g3, g4⟩ := five_cells R1; have E1 := E0.trans hE; clear hE)
      | (go_at_call 22; refine (p_sign t e f g h y _ HY.out).mono ?_; rintro e' w' ⟨rfl, hE⟩; rw [HQ.out]; have R0 := R0.ext hE; have R1 := R1.ext hE; obtain ⟨c0, c1, c2, c3, c4, f0, f1, f2, f3, f4⟩ := five_cells R0; obtain ⟨d0, d1, d2, d3, d4, g0, g1, g2, g3, g4⟩ := five_cells R1; have E1 := E1.trans hE; clear hE)
      | (go_at_call 50; refine (c_cmpI p q _).mono ?_; rintro e' w' ⟨rfl, rfl⟩))
    all_goals go_ret
    all_goals exact ⟨rb1 HR.out, E1⟩
end Go.Proofs.YtkhlhlldlikleaaDoor
