/- Sign, Neg, Of, OfUnsigned, Unsigned, Int64 and Compare of the program. Conditions: the cells stand for numbers; the integers are of 64 bits. -/
import Derived.Test.YtkhlhlldlikleaaDoorWrdD
namespace Go.Proofs.YtkhlhlldlikleaaDoor
set_option linter.unusedVariables false
set_option linter.unusedSimpArgs false
open Go Go.RowKit
theorem IsW.w64 {s : Bool} {a b c d : Nat} {z : Int} (h : IsW s a b c d z) : W64 [a, b, c, d] := by
  obtain ⟨ha, hb, hc, hd, _⟩ := h
  intro x hx; simp at hx; omega
theorem IsW.abs {s : Bool} {a b c d : Nat} {z : Int} (h : IsW s a b c d z) : mag4 a b c d = z.natAbs := by
  obtain ⟨_, _, _, _, hz⟩ := h
  cases s <;> simp at hz <;> omega
theorem w64_four {a b c d : Nat} (h : W64 [a, b, c, d]) : a < 18446744073709551616 ∧ b < 18446744073709551616 ∧ c < 18446744073709551616 ∧ d < 18446744073709551616 :=
  ⟨h a (by simp), h b (by simp), h c (by simp), h d (by simp)⟩
theorem p_sign (s : Bool) (a b c d : Nat) (z : Int) (w : World) (h : IsW s a b c d z) :
    Calls Tryd.prog 22 #[.agg #[.bool s, .int .u64 (a : Int), .int .u64 (b : Int), .int .u64 (c : Int), .int .u64 (d : Int)]] w (IntRet .i64 z.sign w) := by
  obtain ⟨o, ho⟩ : ∃ o, decide (mag4 a b c d ≠ 0) = o := ⟨_, rfl⟩
  have hq := eql0 23 Tryd.underlying23 a b c d o ho
  have hz := h.2.2.2.2
  cases o
  · have hS : Hid (z.sign = 0) := by
      have : mag4 a b c d = 0 := by simpa using ho
      rw [this] at hz; cases s <;> simp at hz <;> subst hz <;> rfl
    clear ho hz
    go_enter Tryd.func22, Tryd.ntmps22
    go_wp2
    go_ret
    exact ⟨rb1 hS.out.symm, ext_alloc _ _⟩
  · have hp : mag4 a b c d ≠ 0 := by simpa using ho
    cases s
    · have hS : Hid (z.sign = 1) := Int.sign_eq_one_of_pos (by simp at hz; omega)
      clear ho hz hp
      go_enter Tryd.func22, Tryd.ntmps22
      go_wp2
      go_ret
      exact ⟨rb1 hS.out.symm, ext_alloc _ _⟩
    · have hS : Hid (z.sign = -1) := Int.sign_eq_neg_one_of_neg (by simp at hz; omega)
      clear ho hz hp
      go_enter Tryd.func22, Tryd.ntmps22
      go_wp2
      go_ret
      exact ⟨rb1 hS.out.symm, ext_alloc _ _⟩
theorem p_neg (s : Bool) (a b c d : Nat) (z : Int) (w : World) (h : IsW s a b c d z) :
    Calls Tryd.prog 42 #[.agg #[.bool s, .int .u64 (a : Int), .int .u64 (b : Int), .int .u64 (c : Int), .int .u64 (d : Int)]] w (WideOnly (-z) w) := by
  obtain ⟨ha, hb, hc, hd, hz⟩ := h
  have HZ : Hid ((if (!s) = true then -(mag4 a b c d : Int) else (mag4 a b c d : Int)) = -z) := by unfold Hid; cases s <;> simp at hz ⊢ <;> omega
  clear hz
  have HX := hide ((ext_alloc w (.cells #[.bool s, .int .u64 (a : Int), .int .u64 (b : Int), .int .u64 (c : Int), .int .u64 (d : Int)] 25)).trans (ext_alloc _ (.cells #[.bool false, .int .u64 0, .int .u64 0, .int .u64 0, .int .u64 0] 25)))
  go_enter Tryd.func42, Tryd.ntmps42
  go_wp2_with (go_at_call 43; refine (p_signed (!s) a b c d _ ha hb hc hd).mono ?_; rintro e' w' ⟨s', a', b', c', d', rfl, hC, hE⟩; rw [HZ.out] at hC; obtain ⟨q0, q1⟩ := two_kept hE; obtain ⟨d0, d1, d2, d3, d4, g0, g1, g2, g3, g4⟩ := five_cells q1; have HE := hide (HX.out.trans hE); clear q0 q1 hE)
  exact bodyPost_ret (v := .agg #[.bool s', .int .u64 (a' : Int), .int .u64 (b' : Int), .int .u64 (c' : Int), .int .u64 (d' : Int)]) (by simp [results, Tryd.results42, go_sem, d0, d1, d2, d3, d4]) rfl ⟨s', a', b', c', d', rfl, hC, ext_five HE.out (Nat.le_succ _) _ _ _ _ _⟩
theorem p_ofu (n : Nat) (w : World) (hn : n < 18446744073709551616) : Calls Tryd.prog 16 #[.int .u64 (n : Int)] w (WideOnly n w) := by
  have HX := hide (ext_alloc w (.cells #[.bool false, .int .u64 0, .int .u64 0, .int .u64 0, .int .u64 0] 25))
  have hM : Hid (((mag4 n 0 0 0 : Nat) : Int) = n) := by simp [Hid, mag4, val]
  have hs := fun W => p_signed false n 0 0 0 W hn (by omega) (by omega) (by omega)
  go_enter Tryd.func16, Tryd.ntmps16
  go_wp2_with (go_at_call 43; refine (hs _).mono ?_; rintro e' w' ⟨s', a', b', c', d', rfl, hC, hE⟩; simp only [Bool.false_eq_true, if_false] at hC; rw [hM.out] at hC; have q1 := one_kept hE; obtain ⟨d0, d1, d2, d3, d4, g0, g1, g2, g3, g4⟩ := five_cells q1; have HE := hide (HX.out.trans hE); clear q1 hE)
  exact bodyPost_ret (v := .agg #[.bool s', .int .u64 (a' : Int), .int .u64 (b' : Int), .int .u64 (c' : Int), .int .u64 (d' : Int)]) (by simp [results, Tryd.results16, go_sem, d0, d1, d2, d3, d4]) rfl ⟨s', a', b', c', d', rfl, hC, ext_five HE.out (Nat.le_refl _) _ _ _ _ _⟩
theorem p_ofi (z : Int) (w : World) (h1 : -9223372036854775808 ≤ z) (h2 : z ≤ 9223372036854775807) : Calls Tryd.prog 13 #[.int .i64 z] w (WideOnly z w) := by
  obtain ⟨n, hn⟩ : ∃ n, z.natAbs = n := ⟨_, rfl⟩
  have hb : n < 18446744073709551616 := by omega
  have hneg : z < 0 → IntKind.u64.wrap (-IntKind.u64.wrap z) = (n : Int) := by intro h; simp only [IntKind.wrap_u64]; omega
  have hpos : 0 ≤ z → IntKind.u64.wrap z = (n : Int) := by intro h; simp only [IntKind.wrap_u64]; omega
  have HX := hide (ext_alloc w (.cells #[.bool false, .int .u64 0, .int .u64 0, .int .u64 0, .int .u64 0] 25))
  by_cases h : z < 0
  · have e := hneg h
    have hM : Hid (-((mag4 n 0 0 0 : Nat) : Int) = z) := by simp [Hid, mag4, val]; omega
    have hs := fun W => p_signed true n 0 0 0 W hb (by omega) (by omega) (by omega)
    clear hneg hpos hn
    go_enter Tryd.func13, Tryd.ntmps13
    go_wp2_with (go_at_call 43; refine (hs _).mono ?_; rintro e' w' ⟨s', a', b', c', d', rfl, hC, hE⟩; simp only [if_true] at hC; rw [hM.out] at hC; have q1 := one_kept hE; obtain ⟨d0, d1, d2, d3, d4, g0, g1, g2, g3, g4⟩ := five_cells q1; have HE := hide (HX.out.trans hE); clear q1 hE)
    exact bodyPost_ret (v := .agg #[.bool s', .int .u64 (a' : Int), .int .u64 (b' : Int), .int .u64 (c' : Int), .int .u64 (d' : Int)]) (by simp [results, Tryd.results13, go_sem, d0, d1, d2, d3, d4]) rfl ⟨s', a', b', c', d', rfl, hC, ext_five HE.out (Nat.le_refl _) _ _ _ _ _⟩
  · have e := hpos (by omega)
    have hM : Hid ((n : Int) = z) := by unfold Hid; omega
    clear hneg hpos hn
    go_enter Tryd.func13, Tryd.ntmps13
    go_wp2_with (go_at_call 16; refine (p_ofu n _ hb).mono ?_; rintro e' w' ⟨s', a', b', c', d', rfl, hC, hE⟩; rw [hM.out] at hC; have q1 := one_kept hE; obtain ⟨d0, d1, d2, d3, d4, g0, g1, g2, g3, g4⟩ := five_cells q1; have HE := hide (HX.out.trans hE); clear q1 hE)
    exact bodyPost_ret (v := .agg #[.bool s', .int .u64 (a' : Int), .int .u64 (b' : Int), .int .u64 (c' : Int), .int .u64 (d' : Int)]) (by simp [results, Tryd.results13, go_sem, d0, d1, d2, d3, d4]) rfl ⟨s', a', b', c', d', rfl, hC, ext_five HE.out (Nat.le_refl _) _ _ _ _ _⟩
set_option maxRecDepth 100000 in
theorem p_unsigned (s : Bool) (a b c d : Nat) (z : Int) (w : World) (h : IsW s a b c d z) :
    Calls Tryd.prog 15 #[.agg #[.bool s, .int .u64 (a : Int), .int .u64 (b : Int), .int .u64 (c : Int), .int .u64 (d : Int)]] w (PairRet .u64 (if 0 ≤ z ∧ z < 18446744073709551616 then z else 0) (decide (0 ≤ z ∧ z < 18446744073709551616)) w) := by
  obtain ⟨r, hr⟩ : ∃ r, (if 0 ≤ z ∧ z < 18446744073709551616 then z else 0) = r := ⟨_, rfl⟩
  obtain ⟨o, ho⟩ : ∃ o, decide (0 ≤ z ∧ z < 18446744073709551616) = o := ⟨_, rfl⟩
  rw [hr, ho]
  have hab := h.abs
  have hlow : mag4 a b c d < 18446744073709551616 → a = mag4 a b c d := by intro h; simp only [mag4, val] at h ⊢; omega
  have hz := h.2.2.2.2
  have ha := h.1
  have HH := hide h
  have HX := hide (ext_alloc w (.cells #[.bool s, .int .u64 (a : Int), .int .u64 (b : Int), .int .u64 (c : Int), .int .u64 (d : Int)] 25))
  obtain ⟨n, hn⟩ : ∃ n, mag4 a b c d = n := ⟨_, rfl⟩
  rw [hn] at hab hlow hz
  by_cases hb : n < 18446744073709551616
  · have hO : Hid (decide (mag4 a b c d < 18446744073709551616) = true) := by unfold Hid; rw [decide_eq_true_iff, hn]; exact hb
    replace hlow := hlow hb
    by_cases hz0 : z < 0
    · have hS : Hid (z.sign = -1) := Int.sign_eq_neg_one_of_neg hz0
      have HR : Hid (0 = r ∧ false = o) := ⟨by rw [← hr, if_neg (by omega)], by rw [← ho]; symm; rw [decide_eq_false_iff_not]; omega⟩
      clear hz hab hlow hz0 h hn hr ho
      go_enter Tryd.func15, Tryd.ntmps15
      go_wp2_with (first
        | (go_at_call 44; refine (p_oneWord a b c d _ ha).mono ?_; rintro e' w' ⟨rfl, hE⟩; rw [hO.out]; have q := one_kept hE; obtain ⟨c0, c1, c2, c3, c4, f0, f1, f2, f3, f4⟩ := five_cells q; have HE := hide (HX.out.trans hE); clear q hE)
        | (go_at_call 22; refine (p_sign s a b c d z _ HH.out).mono ?_; rintro e' w' ⟨rfl, hE⟩; rw [hS.out]; have HE := hide (HE.out.trans hE); clear hE))
      go_ret2
      exact ⟨rb2' HR.out.1 HR.out.2, HE.out⟩
    · have hS : Hid (z.sign = 0 ∨ z.sign = 1) := by
        unfold Hid
        rcases (by omega : z = 0 ∨ 0 < z) with h1 | h1
        · subst h1; exact Or.inl rfl
        · exact Or.inr (Int.sign_eq_one_of_pos h1)
      have HR : Hid ((a : Int) = r ∧ true = o) := ⟨by rw [← hr, if_pos (by omega)]; omega, by rw [← ho]; symm; rw [decide_eq_true_iff]; omega⟩
      obtain ⟨q, hq⟩ : ∃ q, z.sign = q := ⟨_, rfl⟩
      have hq0 : 0 ≤ q := by rcases hS.out with h1 | h1 <;> omega
      have HQ := hide hq
      clear hz hab hlow hz0 h hn hr ho hq hS
      go_enter Tryd.func15, Tryd.ntmps15
      go_wp2_with (first
        | (go_at_call 44; refine (p_oneWord a b c d _ ha).mono ?_; rintro e' w' ⟨rfl, hE⟩; rw [hO.out]; have q := one_kept hE; obtain ⟨c0, c1, c2, c3, c4, f0, f1, f2, f3, f4⟩ := five_cells q; have HE := hide (HX.out.trans hE); clear q hE)
        | (go_at_call 22; refine (p_sign s a b c d z _ HH.out).mono ?_; rintro e' w' ⟨rfl, hE⟩; rw [HQ.out]; have HE := hide (HE.out.trans hE); clear hE))
      go_ret2
      exact ⟨rb2' HR.out.1 HR.out.2, HE.out⟩
  · have hO : Hid (decide (mag4 a b c d < 18446744073709551616) = false) := by unfold Hid; rw [decide_eq_false_iff_not, hn]; exact hb
    have HR : Hid (0 = r ∧ false = o) := ⟨by rw [← hr, if_neg (by omega)], by rw [← ho]; symm; rw [decide_eq_false_iff_not]; omega⟩
    clear hz hab hlow h hn hb hr ho
    go_enter Tryd.func15, Tryd.ntmps15
    go_wp2_with (go_at_call 44; refine (p_oneWord a b c d _ ha).mono ?_; rintro e' w' ⟨rfl, hE⟩; rw [hO.out]; have HE := hide (HX.out.trans hE); clear hE)
    go_ret2
    exact ⟨rb2' HR.out.1 HR.out.2, HE.out⟩
end Go.Proofs.YtkhlhlldlikleaaDoor
