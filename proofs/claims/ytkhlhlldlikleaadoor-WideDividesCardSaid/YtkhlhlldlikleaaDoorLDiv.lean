/- The law WideDivides, walked. Conditions: the argument is a list of numbers of 64 bits; the sanity check returns true. -/
import Derived.Test.YtkhlhlldlikleaaDoorLOrd
import Derived.Test.YtkhlhlldlikleaaDoorDivL
namespace Go.Proofs.YtkhlhlldlikleaaDoor
set_option linter.unusedVariables false
set_option linter.unusedSimpArgs false
open Go Go.RowKit
theorem isC_abs {s : Bool} {a b c d : Nat} {x : Int} (h : IsC s a b c d x) : IsC false a b c d (x.natAbs : Int) := by
  obtain ⟨⟨h1, h2, h3, h4, h5⟩, _⟩ := h
  refine ⟨⟨h1, h2, h3, h4, ?_⟩, by simp⟩
  cases s <;> simp at h5 ⊢ <;> omega
theorem isC_fits {s : Bool} {a b c d : Nat} {x : Int} (h : IsC s a b c d x) : x.natAbs < 115792089237316195423570985008687907853269984665640564039457584007913129639936 := by
  obtain ⟨⟨h1, h2, h3, h4, h5⟩, _⟩ := h
  have := mag_lt h1 h2 h3 h4
  cases s <;> simp at h5 <;> omega
set_option maxRecDepth 100000 in
set_option maxHeartbeats 4000000 in
theorem law_divides (x : Option Addr) (len cap : Nat) (W : World) (hL : IsList W x len cap) (hk : ∀ w, Ext W w → Calls Tryd.prog 11 #[] w (BoolRet true w)) :
    Calls Tryd.prog 6 #[.slice x len cap] W (BoolRet true W) := by
  have HL := hide hL
  have HK := hide hk
  clear hL hk
  go_enter Tryd.func6, Tryd.ntmps6
  go_upto_region 2 with (go_at_call 9; refine (t_new W x len cap HL.out).mono ?_; rintro e w1 ⟨rfl, T0, hB⟩)
  obtain ⟨b, hb⟩ : ∃ b, W.heap.size = b := ⟨_, rfl⟩
  have HB := hide hb
  rw [hb] at T0 hB
  have E1 : Hid (Ext W w1) := by rw [← hb] at hB; exact hB
  rw [hb]
  clear hb hB
  go_upto_region 3 with (first
    | (go_at_call 10; (with_reducible refine (t_wide b b _ _ T0 (Upd.refl _ _)).mono ?_); rintro e w2 ⟨s1, a1, b1, c1, d1, x1, rfl, C1, T1, hU⟩; have E2 := hide (hU.ext E1.out (by rw [HB.out]; exact Nat.le_refl _)); clear T0 hU)
    | (go_at_call 10; (with_reducible refine (t_wide b b _ _ T1 (Upd.refl _ _)).mono ?_); rintro e w3 ⟨s2, a2, b2, c2, d2, x2, rfl, C2, T2, hU⟩; have E3 := hide (hU.ext E2.out (by rw [HB.out]; exact Nat.le_refl _)); clear T1 hU))
  have H2 := two_blocks w3 (.cells #[.bool s1, .int .u64 (a1 : Int), .int .u64 (b1 : Int), .int .u64 (c1 : Int), .int .u64 (d1 : Int)] 25) (.cells #[.bool s2, .int .u64 (a2 : Int), .int .u64 (b2 : Int), .int .u64 (c2 : Int), .int .u64 (d2 : Int)] 25)
  have EE := hide ((E3.out.trans (ext_alloc w3 (.cells #[.bool s1, .int .u64 (a1 : Int), .int .u64 (b1 : Int), .int .u64 (c1 : Int), .int .u64 (d1 : Int)] 25))).trans (ext_alloc _ (.cells #[.bool s2, .int .u64 (a2 : Int), .int .u64 (b2 : Int), .int .u64 (c2 : Int), .int .u64 (d2 : Int)] 25)))
  obtain ⟨W3, hW3⟩ : ∃ W3, W3 = (w3.alloc (.cells #[.bool s1, .int .u64 (a1 : Int), .int .u64 (b1 : Int), .int .u64 (c1 : Int), .int .u64 (d1 : Int)] 25)).alloc (.cells #[.bool s2, .int .u64 (a2 : Int), .int .u64 (b2 : Int), .int .u64 (c2 : Int), .int .u64 (d2 : Int)] 25) := ⟨_, rfl⟩
  rw [← hW3] at H2 EE ⊢
  obtain ⟨g, hg⟩ : ∃ g, w3.heap.size = g := ⟨_, rfl⟩
  rw [hg] at H2 ⊢
  obtain ⟨P1, P2⟩ : Box W3 g s1 a1 b1 c1 d1 ∧ Box W3 (g + 1) s2 a2 b2 c2 d2 := H2
  clear hW3 hg E3 E2 E1 T2
  have K1 := hide C1
  have K2 := hide C2
  clear C1 C2
  obtain ⟨p10, p11, p12, p13, p14, _⟩ := five_cells P1
  obtain ⟨p20, p21, p22, p23, p24, _⟩ := five_cells P2
  go_upto_region 4 with (go_at_call 21; refine (p_divMod s1 s2 a1 b1 c1 d1 a2 b2 c2 d2 x1 x2 _ K1.out.1 K2.out.1).mono ?_; rintro e w6 ⟨s3, a3, b3, c3, d3, s4, a4, b4, c4, d4, o6, rfl, ho, C3, C4, hE⟩; have Ho := hide ho; clear ho; have P1 := P1.ext hE; have P2 := P2.ext hE; have EE := hide (EE.out.trans hE); obtain ⟨p10, p11, p12, p13, p14, _⟩ := five_cells P1; obtain ⟨p20, p21, p22, p23, p24, _⟩ := five_cells P2; clear hE)
  have H2 := two_blocks w6 (.cells #[.bool s3, .int .u64 (a3 : Int), .int .u64 (b3 : Int), .int .u64 (c3 : Int), .int .u64 (d3 : Int)] 25) (.cells #[.bool s4, .int .u64 (a4 : Int), .int .u64 (b4 : Int), .int .u64 (c4 : Int), .int .u64 (d4 : Int)] 25)
  have hE := (ext_alloc w6 (.cells #[.bool s3, .int .u64 (a3 : Int), .int .u64 (b3 : Int), .int .u64 (c3 : Int), .int .u64 (d3 : Int)] 25)).trans (ext_alloc _ (.cells #[.bool s4, .int .u64 (a4 : Int), .int .u64 (b4 : Int), .int .u64 (c4 : Int), .int .u64 (d4 : Int)] 25))
  have P1 := P1.ext hE
  have P2 := P2.ext hE
  have EE := hide (EE.out.trans hE)
  clear hE
  obtain ⟨W6, hW6⟩ : ∃ W6, W6 = (w6.alloc (.cells #[.bool s3, .int .u64 (a3 : Int), .int .u64 (b3 : Int), .int .u64 (c3 : Int), .int .u64 (d3 : Int)] 25)).alloc (.cells #[.bool s4, .int .u64 (a4 : Int), .int .u64 (b4 : Int), .int .u64 (c4 : Int), .int .u64 (d4 : Int)] 25) := ⟨_, rfl⟩
  rw [← hW6] at H2 EE P1 P2 ⊢
  obtain ⟨g6, hg6⟩ : ∃ g6, w6.heap.size = g6 := ⟨_, rfl⟩
  rw [hg6] at H2 ⊢
  obtain ⟨P3, P4⟩ : Box W6 g6 s3 a3 b3 c3 d3 ∧ Box W6 (g6 + 1) s4 a4 b4 c4 d4 := H2
  clear hW6 hg6
  by_cases hy : x2 = 0
  · have ho : o6 = false := by rw [Ho.out, decide_eq_false_iff_not]; omega
    subst ho
    clear Ho
    have ks : Hid (∀ w, Calls Tryd.prog 22 #[.agg #[.bool s2, .int .u64 (a2 : Int), .int .u64 (b2 : Int), .int .u64 (c2 : Int), .int .u64 (d2 : Int)]] w (IntRet .i64 0 w)) := fun w => by have := p_sign _ _ _ _ _ _ w K2.out.1; rw [hy] at this; exact this
    clear hy C3 C4 P3 P4
    obtain ⟨p20, p21, p22, p23, p24, _⟩ := five_cells P2
    go_wp2_with (first
      | (go_at_call 11; refine (HK.out _ EE.out).mono ?_; rintro e y4 ⟨rfl, hE⟩; have P2 := P2.ext hE; have EE := hide (EE.out.trans hE); obtain ⟨p20, p21, p22, p23, p24, _⟩ := five_cells P2; clear hE)
      | (go_at_call 22; (with_reducible refine (ks.out _).mono ?_); rintro e y5 ⟨rfl, hE⟩; have EE := hide (EE.out.trans hE)))
    all_goals go_ret
    all_goals exact ⟨rfl, EE.out⟩
  · have ho : o6 = true := by rw [Ho.out, decide_eq_true_iff]; exact hy
    subst ho
    clear Ho
    rw [if_neg hy] at C3 C4
    obtain ⟨q, hq⟩ : ∃ q, x1 / x2 = q := ⟨_, rfl⟩
    obtain ⟨r, hr⟩ : ∃ r, x1 % x2 = r := ⟨_, rfl⟩
    have hqr := Int.emod_add_mul_ediv x1 x2
    have r0 := Int.emod_nonneg x1 hy
    have r1 := Int.emod_lt x1 hy
    rw [hq] at C3 hqr
    rw [hr] at C4 hqr r0 r1
    have K3 := hide C3
    have K4 := hide C4
    have HQR := hide hqr
    clear hq hr C3 C4 hqr
    have hs : ¬ (r.sign < 0) := by
      rcases (by omega : r = 0 ∨ 0 < r) with h | h
      · rw [h]; decide
      · rw [Int.sign_eq_one_of_pos h]; decide
    have kc : Hid (∀ w, Calls Tryd.prog 23 #[.agg #[.bool s4, .int .u64 (a4 : Int), .int .u64 (b4 : Int), .int .u64 (c4 : Int), .int .u64 (d4 : Int)], .agg #[.bool false, .int .u64 (a2 : Int), .int .u64 (b2 : Int), .int .u64 (c2 : Int), .int .u64 (d2 : Int)]] w (IntRet .i64 (-1) w)) := fun w => by
      have := p_compare s4 false a4 b4 c4 d4 a2 b2 c2 d2 r x2.natAbs w K4.out.1 (isC_abs K2.out).1
      rw [show cmpI r x2.natAbs = -1 from if_pos r1] at this
      exact this
    obtain ⟨sg, hsg⟩ : ∃ sg, r.sign = sg := ⟨_, rfl⟩
    rw [hsg] at hs
    have ks : Hid (∀ w, Calls Tryd.prog 22 #[.agg #[.bool s4, .int .u64 (a4 : Int), .int .u64 (b4 : Int), .int .u64 (c4 : Int), .int .u64 (d4 : Int)]] w (IntRet .i64 sg w)) := fun w => by rw [← hsg]; exact p_sign _ _ _ _ _ _ w K4.out.1
    clear hsg r0 r1
    obtain ⟨p10, p11, p12, p13, p14, _⟩ := five_cells P1
    obtain ⟨p20, p21, p22, p23, p24, _⟩ := five_cells P2
    obtain ⟨p30, p31, p32, p33, p34, _⟩ := five_cells P3
    obtain ⟨p40, p41, p42, p43, p44, _⟩ := five_cells P4
    go_upto_region 7 with (go_at_call 20; refine (p_wmul s3 s2 a3 b3 c3 d3 a2 b2 c2 d2 q x2 _ K3.out.1 K2.out.1).mono ?_; rintro e w8 ⟨s5, a5, b5, c5, d5, o8, rfl, ho, C5, hE⟩; have P1 := P1.ext hE; have P2 := P2.ext hE; have P3 := P3.ext hE; have P4 := P4.ext hE; have EE := hide (EE.out.trans hE); obtain ⟨p10, p11, p12, p13, p14, _⟩ := five_cells P1; obtain ⟨p20, p21, p22, p23, p24, _⟩ := five_cells P2; obtain ⟨p30, p31, p32, p33, p34, _⟩ := five_cells P3; obtain ⟨p40, p41, p42, p43, p44, _⟩ := five_cells P4; clear hE; have Ho := hide ho; clear ho)
    have P5 : Box (w8.alloc (.cells #[.bool s5, .int .u64 (a5 : Int), .int .u64 (b5 : Int), .int .u64 (c5 : Int), .int .u64 (d5 : Int)] 25)) w8.heap.size s5 a5 b5 c5 d5 := heap_alloc_new w8 _
    have hE := ext_alloc w8 (.cells #[.bool s5, .int .u64 (a5 : Int), .int .u64 (b5 : Int), .int .u64 (c5 : Int), .int .u64 (d5 : Int)] 25)
    have P1 := P1.ext hE
    have P2 := P2.ext hE
    have P3 := P3.ext hE
    have P4 := P4.ext hE
    have EE := hide (EE.out.trans hE)
    clear hE
    generalize w8.alloc (.cells #[.bool s5, .int .u64 (a5 : Int), .int .u64 (b5 : Int), .int .u64 (c5 : Int), .int .u64 (d5 : Int)] 25) = W5 at *
    generalize w8.heap.size = g5 at *
    have P6 : Box (W5.alloc (.cells #[.bool false, .int .u64 (a2 : Int), .int .u64 (b2 : Int), .int .u64 (c2 : Int), .int .u64 (d2 : Int)] 25)) W5.heap.size false a2 b2 c2 d2 := heap_alloc_new W5 _
    have hE6 := ext_alloc W5 (.cells #[.bool false, .int .u64 (a2 : Int), .int .u64 (b2 : Int), .int .u64 (c2 : Int), .int .u64 (d2 : Int)] 25)
    obtain ⟨z5, hz5⟩ : ∃ z5, (if (q * x2).natAbs < 115792089237316195423570985008687907853269984665640564039457584007913129639936 then q * x2 else 0) = z5 := ⟨_, rfl⟩
    rw [hz5] at C5
    have K5 := hide C5
    have HZ : Hid (o8 = true → z5 = q * x2) := by
      intro h
      rw [Ho.out, decide_eq_true_iff] at h
      rw [← hz5, if_pos h]
    clear hz5 Ho C5
    obtain ⟨p20, p21, p22, p23, p24, _⟩ := five_cells P2
    obtain ⟨p40, p41, p42, p43, p44, _⟩ := five_cells P4
    go_upto_region 9 with fail
    have P1 := P1.ext hE6
    have P4 := P4.ext hE6
    have P5 := P5.ext hE6
    have EE := hide (EE.out.trans hE6)
    clear hE6 P2 P3
    generalize W5.alloc (.cells #[.bool false, .int .u64 (a2 : Int), .int .u64 (b2 : Int), .int .u64 (c2 : Int), .int .u64 (d2 : Int)] 25) = W6 at *
    generalize W5.heap.size = g8 at *
    obtain ⟨p40, p41, p42, p43, p44, _⟩ := five_cells P4
    obtain ⟨p60, p61, p62, p63, p64, _⟩ := five_cells P6
    obtain ⟨p50, p51, p52, p53, p54, _⟩ := five_cells P5
    go_upto_region 12 with (first
      | (go_at_call 22; (with_reducible refine (ks.out _).mono ?_); rintro e y1 ⟨rfl, hE⟩; have P1 := P1.ext hE; have P4 := P4.ext hE; have P5 := P5.ext hE; have P6 := P6.ext hE; have EE := hide (EE.out.trans hE); obtain ⟨p10, p11, p12, p13, p14, _⟩ := five_cells P1; obtain ⟨p40, p41, p42, p43, p44, _⟩ := five_cells P4; obtain ⟨p50, p51, p52, p53, p54, _⟩ := five_cells P5; obtain ⟨p60, p61, p62, p63, p64, _⟩ := five_cells P6; clear hE)
      | (go_at_call 23; (with_reducible refine (kc.out _).mono ?_); rintro e y2 ⟨rfl, hE⟩; have P1 := P1.ext hE; have P4 := P4.ext hE; have P5 := P5.ext hE; have EE := hide (EE.out.trans hE); obtain ⟨p10, p11, p12, p13, p14, _⟩ := five_cells P1; obtain ⟨p40, p41, p42, p43, p44, _⟩ := five_cells P4; obtain ⟨p50, p51, p52, p53, p54, _⟩ := five_cells P5; clear hE)
      | (go_at_call 19; refine (p_wadd s5 s4 a5 b5 c5 d5 a4 b4 c4 d4 z5 r _ K5.out.1 K4.out.1).mono ?_; rintro e w9 ⟨s7, a7, b7, c7, d7, o7, rfl, ho, C7, hE⟩; have P1 := P1.ext hE; have EE := hide (EE.out.trans hE); obtain ⟨p10, p11, p12, p13, p14, _⟩ := five_cells P1; clear hE; have Ho := hide ho; clear ho))
    have P7 : Box (w9.alloc (.cells #[.bool s7, .int .u64 (a7 : Int), .int .u64 (b7 : Int), .int .u64 (c7 : Int), .int .u64 (d7 : Int)] 25)) w9.heap.size s7 a7 b7 c7 d7 := heap_alloc_new w9 _
    have hE := ext_alloc w9 (.cells #[.bool s7, .int .u64 (a7 : Int), .int .u64 (b7 : Int), .int .u64 (c7 : Int), .int .u64 (d7 : Int)] 25)
    have P1 := P1.ext hE
    have EE := hide (EE.out.trans hE)
    clear hE
    generalize w9.alloc (.cells #[.bool s7, .int .u64 (a7 : Int), .int .u64 (b7 : Int), .int .u64 (c7 : Int), .int .u64 (d7 : Int)] 25) = W7 at *
    generalize w9.heap.size = g7 at *
    have hs2 : o8 = true → o7 = true ∧ (if (z5 + r).natAbs < 115792089237316195423570985008687907853269984665640564039457584007913129639936 then z5 + r else 0) = x1 := by
      intro h
      have h1 : z5 + r = x1 := by
        have h2 := HZ.out h
        have h3 := HQR.out
        rw [Int.mul_comm] at h3
        omega
      have h4 := isC_fits K1.out
      rw [h1, if_pos h4]
      refine ⟨?_, rfl⟩
      rw [Ho.out, h1, decide_eq_true_iff]
      exact h4
    have HS := hide hs2
    clear Ho hs2
    cases o8
    · go_wp2_with (go_at_call 11; refine (HK.out _ EE.out).mono ?_; rintro e y4 ⟨rfl, hE⟩; have EE := hide (EE.out.trans hE))
      all_goals go_ret
      all_goals exact ⟨rfl, EE.out⟩
    · obtain ⟨ho, hz⟩ := HS.out rfl
      rw [hz] at C7
      subst ho
      have hq := eqW C7 K1.out true (by rw [decide_eq_true_iff])
      clear C7 hz
      obtain ⟨p10, p11, p12, p13, p14, _⟩ := five_cells P1
      obtain ⟨p70, p71, p72, p73, p74, _⟩ := five_cells P7
      go_wp2_with (go_at_call 11; refine (HK.out _ EE.out).mono ?_; rintro e y4 ⟨rfl, hE⟩; have P1 := P1.ext hE; have P7 := P7.ext hE; have EE := hide (EE.out.trans hE); obtain ⟨p10, p11, p12, p13, p14, _⟩ := five_cells P1; obtain ⟨p70, p71, p72, p73, p74, _⟩ := five_cells P7; clear hE)
      all_goals go_ret
      all_goals exact ⟨rfl, EE.out⟩
end Go.Proofs.YtkhlhlldlikleaaDoor
