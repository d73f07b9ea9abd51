/- The law WideRing, walked. Conditions: the argument is a list of numbers of 64 bits; the sanity check returns true. -/
import Derived.Test.YtkhlhlldlikleaaDoorLOrd
import Derived.Test.YtkhlhlldlikleaaDoorWrdK
namespace Go.Proofs.YtkhlhlldlikleaaDoor
set_option linter.unusedVariables false
set_option linter.unusedSimpArgs false
open Go Go.RowKit
theorem neq_same (s : Bool) (a b c d : Int) (w : World) : (binOp .neq 25 (.agg #[.bool s, .int .u64 a, .int .u64 b, .int .u64 c, .int .u64 d]) (.agg #[.bool s, .int .u64 a, .int .u64 b, .int .u64 c, .int .u64 d])).run Tryd.prog w = .ok (.bool false) w := by
  rw [neq5]; simp
theorem eq_same' (s : Bool) (a b c d : Int) (w : World) : (binOp .eql 25 (.agg #[.bool s, .int .u64 a, .int .u64 b, .int .u64 c, .int .u64 d]) (.agg #[.bool s, .int .u64 a, .int .u64 b, .int .u64 c, .int .u64 d])).run Tryd.prog w = .ok (.bool true) w := by
  rw [eq5]; simp
set_option maxRecDepth 1000000 in
set_option maxHeartbeats 16000000 in
theorem law_ring (x : Option Addr) (len cap : Nat) (W : World) (hL : IsList W x len cap) (hk : ∀ w, Ext W w → Calls Tryd.prog 11 #[] w (BoolRet true w)) :
    Calls Tryd.prog 5 #[.slice x len cap] W (BoolRet true W) := by
  have HL := hide hL
  have HK := hide hk
  clear hL hk
  go_enter Tryd.func5, Tryd.ntmps5
  go_upto_region 2 with (go_at_call 9; refine (t_new W x len cap HL.out).mono ?_; rintro e w1 ⟨rfl, T0, hB⟩)
  obtain ⟨b, hb⟩ : ∃ b, W.heap.size = b := ⟨_, rfl⟩
  have HB := hide hb
  rw [hb] at T0 hB
  have E1 : Hid (Ext W w1) := by rw [← hb] at hB; exact hB
  rw [hb]
  clear hb hB
  go_upto_region 3 with (first
    | (go_at_call 10; (with_reducible refine (t_wide b b _ _ T0 (Upd.refl _ _)).mono ?_); rintro e w2 ⟨s1, a1, b1, c1, d1, x1, rfl, C1, T1, hU⟩; have E2 := hide (hU.ext E1.out (by rw [HB.out]; exact Nat.le_refl _)); clear T0 hU)
    | (go_at_call 10; (with_reducible refine (t_wide b b _ _ T1 (Upd.refl _ _)).mono ?_); rintro e w3 ⟨s2, a2, b2, c2, d2, x2, rfl, C2, T2, hU⟩; have E3 := hide (hU.ext E2.out (by rw [HB.out]; exact Nat.le_refl _)); clear T1 hU)
    | (go_at_call 10; (with_reducible refine (t_wide b b _ _ T2 (Upd.refl _ _)).mono ?_); rintro e w4 ⟨s3, a3, b3, c3, d3, x3, rfl, C3, T3, hU⟩; have E4 := hide (hU.ext E3.out (by rw [HB.out]; exact Nat.le_refl _)); clear T2 hU))
  have H3 := three_boxes w4 (.cells #[.bool s1, .int .u64 (a1 : Int), .int .u64 (b1 : Int), .int .u64 (c1 : Int), .int .u64 (d1 : Int)] 25) (.cells #[.bool s2, .int .u64 (a2 : Int), .int .u64 (b2 : Int), .int .u64 (c2 : Int), .int .u64 (d2 : Int)] 25) (.cells #[.bool s3, .int .u64 (a3 : Int), .int .u64 (b3 : Int), .int .u64 (c3 : Int), .int .u64 (d3 : Int)] 25)
  have EE := hide (((E4.out.trans (ext_alloc w4 (.cells #[.bool s1, .int .u64 (a1 : Int), .int .u64 (b1 : Int), .int .u64 (c1 : Int), .int .u64 (d1 : Int)] 25))).trans (ext_alloc _ (.cells #[.bool s2, .int .u64 (a2 : Int), .int .u64 (b2 : Int), .int .u64 (c2 : Int), .int .u64 (d2 : Int)] 25))).trans (ext_alloc _ (.cells #[.bool s3, .int .u64 (a3 : Int), .int .u64 (b3 : Int), .int .u64 (c3 : Int), .int .u64 (d3 : Int)] 25)))
  obtain ⟨W0, hW0⟩ : ∃ W0, W0 = ((w4.alloc (.cells #[.bool s1, .int .u64 (a1 : Int), .int .u64 (b1 : Int), .int .u64 (c1 : Int), .int .u64 (d1 : Int)] 25)).alloc (.cells #[.bool s2, .int .u64 (a2 : Int), .int .u64 (b2 : Int), .int .u64 (c2 : Int), .int .u64 (d2 : Int)] 25)).alloc (.cells #[.bool s3, .int .u64 (a3 : Int), .int .u64 (b3 : Int), .int .u64 (c3 : Int), .int .u64 (d3 : Int)] 25) := ⟨_, rfl⟩
  rw [← hW0] at H3 EE ⊢
  obtain ⟨g, hg⟩ : ∃ g, w4.heap.size = g := ⟨_, rfl⟩
  rw [hg] at H3 ⊢
  obtain ⟨P1, P2, P3⟩ : Box W0 g s1 a1 b1 c1 d1 ∧ Box W0 (g + 1) s2 a2 b2 c2 d2 ∧ Box W0 (g + 1 + 1) s3 a3 b3 c3 d3 := H3
  clear hW0 hg E4 E3 E2 E1 T3
  have K1 := hide C1
  have K2 := hide C2
  have K3 := hide C3
  clear C1 C2 C3
  obtain ⟨p10, p11, p12, p13, p14, _⟩ := five_cells P1
  obtain ⟨p20, p21, p22, p23, p24, _⟩ := five_cells P2
  go_upto_region 4 with (go_at_call 19; refine (p_wadd s1 s2 a1 b1 c1 d1 a2 b2 c2 d2 x1 x2 _ K1.out.1 K2.out.1).mono ?_; rintro e y4 ⟨s4, a4, b4, c4, d4, o4, rfl, ho, C4, hE⟩; have Ho4 := hide ho; have P1 := P1.ext hE; have P2 := P2.ext hE; have P3 := P3.ext hE; have EE := hide (EE.out.trans hE); clear hE ho)
  have P4 : Box (y4.alloc (.cells #[.bool s4, .int .u64 (a4 : Int), .int .u64 (b4 : Int), .int .u64 (c4 : Int), .int .u64 (d4 : Int)] 25)) y4.heap.size s4 a4 b4 c4 d4 := heap_alloc_new y4 _
  have hE := ext_alloc y4 (.cells #[.bool s4, .int .u64 (a4 : Int), .int .u64 (b4 : Int), .int .u64 (c4 : Int), .int .u64 (d4 : Int)] 25)
  have P1 := P1.ext hE
  have P2 := P2.ext hE
  have P3 := P3.ext hE
  have EE := hide (EE.out.trans hE)
  clear hE
  generalize y4.alloc (.cells #[.bool s4, .int .u64 (a4 : Int), .int .u64 (b4 : Int), .int .u64 (c4 : Int), .int .u64 (d4 : Int)] 25) = W4 at *
  generalize y4.heap.size = g4 at *
  clear p10 p11 p12 p13 p14
  clear p20 p21 p22 p23 p24
  obtain ⟨x4, hz⟩ : ∃ z, (if (x1 + x2).natAbs < 115792089237316195423570985008687907853269984665640564039457584007913129639936 then x1 + x2 else 0) = z := ⟨_, rfl⟩
  have HZ4 := hide hz
  rw [hz] at C4
  have K4 := hide C4
  clear hz C4
  have F4 : Hid (o4 = true → x4 = x1 + x2) := fun h => by
    have h2 := HZ4.out
    rw [if_pos (of_decide_eq_true (Ho4.out.symm.trans h))] at h2
    exact h2.symm
  obtain ⟨p10, p11, p12, p13, p14, _⟩ := five_cells P1
  obtain ⟨p20, p21, p22, p23, p24, _⟩ := five_cells P2
  go_upto_region 5 with (go_at_call 19; refine (p_wadd s2 s1 a2 b2 c2 d2 a1 b1 c1 d1 x2 x1 _ K2.out.1 K1.out.1).mono ?_; rintro e y5 ⟨s5, a5, b5, c5, d5, o5, rfl, ho, C5, hE⟩; have Ho5 := hide ho; have P1 := P1.ext hE; have P2 := P2.ext hE; have P3 := P3.ext hE; have P4 := P4.ext hE; have EE := hide (EE.out.trans hE); clear hE ho)
  have P5 : Box (y5.alloc (.cells #[.bool s5, .int .u64 (a5 : Int), .int .u64 (b5 : Int), .int .u64 (c5 : Int), .int .u64 (d5 : Int)] 25)) y5.heap.size s5 a5 b5 c5 d5 := heap_alloc_new y5 _
  have hE := ext_alloc y5 (.cells #[.bool s5, .int .u64 (a5 : Int), .int .u64 (b5 : Int), .int .u64 (c5 : Int), .int .u64 (d5 : Int)] 25)
  have P1 := P1.ext hE
  have P2 := P2.ext hE
  have P3 := P3.ext hE
  have P4 := P4.ext hE
  have EE := hide (EE.out.trans hE)
  clear hE
  generalize y5.alloc (.cells #[.bool s5, .int .u64 (a5 : Int), .int .u64 (b5 : Int), .int .u64 (c5 : Int), .int .u64 (d5 : Int)] 25) = W5 at *
  generalize y5.heap.size = g5 at *
  clear p10 p11 p12 p13 p14
  clear p20 p21 p22 p23 p24
  rw [Int.add_comm x2 x1] at C5
  have Ho5 := Ho5.out
  rw [Int.add_comm x2 x1, ← Ho4.out] at Ho5
  have Ho5 := Ho5.symm
  subst Ho5
  rw [HZ4.out] at C5
  obtain ⟨rfl, rfl, rfl, rfl, rfl⟩ := K4.out.uniq C5
  clear C5
  obtain ⟨p10, p11, p12, p13, p14, _⟩ := five_cells P1
  obtain ⟨p20, p21, p22, p23, p24, _⟩ := five_cells P2
  go_upto_region 6 with (go_at_call 20; refine (p_wmul s1 s2 a1 b1 c1 d1 a2 b2 c2 d2 x1 x2 _ K1.out.1 K2.out.1).mono ?_; rintro e y6 ⟨s6, a6, b6, c6, d6, o6, rfl, ho, C6, hE⟩; have Ho6 := hide ho; have P1 := P1.ext hE; have P2 := P2.ext hE; have P3 := P3.ext hE; have P4 := P4.ext hE; have P5 := P5.ext hE; have EE := hide (EE.out.trans hE); clear hE ho)
  have P6 : Box (y6.alloc (.cells #[.bool s6, .int .u64 (a6 : Int), .int .u64 (b6 : Int), .int .u64 (c6 : Int), .int .u64 (d6 : Int)] 25)) y6.heap.size s6 a6 b6 c6 d6 := heap_alloc_new y6 _
  have hE := ext_alloc y6 (.cells #[.bool s6, .int .u64 (a6 : Int), .int .u64 (b6 : Int), .int .u64 (c6 : Int), .int .u64 (d6 : Int)] 25)
  have P1 := P1.ext hE
  have P2 := P2.ext hE
  have P3 := P3.ext hE
  have P4 := P4.ext hE
  have P5 := P5.ext hE
  have EE := hide (EE.out.trans hE)
  clear hE
  generalize y6.alloc (.cells #[.bool s6, .int .u64 (a6 : Int), .int .u64 (b6 : Int), .int .u64 (c6 : Int), .int .u64 (d6 : Int)] 25) = W6 at *
  generalize y6.heap.size = g6 at *
  clear p10 p11 p12 p13 p14
  clear p20 p21 p22 p23 p24
  obtain ⟨x6, hz⟩ : ∃ z, (if (x1 * x2).natAbs < 115792089237316195423570985008687907853269984665640564039457584007913129639936 then x1 * x2 else 0) = z := ⟨_, rfl⟩
  have HZ6 := hide hz
  rw [hz] at C6
  have K6 := hide C6
  clear hz C6
  have F6 : Hid (o6 = true → x6 = x1 * x2) := fun h => by
    have h2 := HZ6.out
    rw [if_pos (of_decide_eq_true (Ho6.out.symm.trans h))] at h2
    exact h2.symm
  obtain ⟨p10, p11, p12, p13, p14, _⟩ := five_cells P1
  obtain ⟨p20, p21, p22, p23, p24, _⟩ := five_cells P2
  go_upto_region 7 with (go_at_call 20; refine (p_wmul s2 s1 a2 b2 c2 d2 a1 b1 c1 d1 x2 x1 _ K2.out.1 K1.out.1).mono ?_; rintro e y7 ⟨s7, a7, b7, c7, d7, o7, rfl, ho, C7, hE⟩; have Ho7 := hide ho; have P1 := P1.ext hE; have P2 := P2.ext hE; have P3 := P3.ext hE; have P4 := P4.ext hE; have P5 := P5.ext hE; have P6 := P6.ext hE; have EE := hide (EE.out.trans hE); clear hE ho)
  have P7 : Box (y7.alloc (.cells #[.bool s7, .int .u64 (a7 : Int), .int .u64 (b7 : Int), .int .u64 (c7 : Int), .int .u64 (d7 : Int)] 25)) y7.heap.size s7 a7 b7 c7 d7 := heap_alloc_new y7 _
  have hE := ext_alloc y7 (.cells #[.bool s7, .int .u64 (a7 : Int), .int .u64 (b7 : Int), .int .u64 (c7 : Int), .int .u64 (d7 : Int)] 25)
  have P1 := P1.ext hE
  have P2 := P2.ext hE
  have P3 := P3.ext hE
  have P4 := P4.ext hE
  have P5 := P5.ext hE
  have P6 := P6.ext hE
  have EE := hide (EE.out.trans hE)
  clear hE
  generalize y7.alloc (.cells #[.bool s7, .int .u64 (a7 : Int), .int .u64 (b7 : Int), .int .u64 (c7 : Int), .int .u64 (d7 : Int)] 25) = W7 at *
  generalize y7.heap.size = g7 at *
  clear p10 p11 p12 p13 p14
  clear p20 p21 p22 p23 p24
  rw [Int.mul_comm x2 x1] at C7
  have Ho7 := Ho7.out
  rw [Int.mul_comm x2 x1, ← Ho6.out] at Ho7
  have Ho7 := Ho7.symm
  subst Ho7
  rw [HZ6.out] at C7
  obtain ⟨rfl, rfl, rfl, rfl, rfl⟩ := K6.out.uniq C7
  clear C7
  have hn1 := neq_same s4 a4 b4 c4 d4
  have hn2 := neq_same s6 a6 b6 c6 d6
  have hn3 := neqB o4 o4 false (by simp)
  have hn4 := neqB o6 o6 false (by simp)
  obtain ⟨p40, p41, p42, p43, p44, _⟩ := five_cells P4
  obtain ⟨p50, p51, p52, p53, p54, _⟩ := five_cells P5
  obtain ⟨p60, p61, p62, p63, p64, _⟩ := five_cells P6
  obtain ⟨p70, p71, p72, p73, p74, _⟩ := five_cells P7
  go_upto_region 9 with fail
  clear hn1 hn2 hn3 hn4 p40 p41 p42 p43 p44 p50 p51 p52 p53 p54 p60 p61 p62 p63 p64 p70 p71 p72 p73 p74 P5 P7
  obtain ⟨p30, p31, p32, p33, p34, _⟩ := five_cells P3
  obtain ⟨p40, p41, p42, p43, p44, _⟩ := five_cells P4
  go_upto_region 10 with (go_at_call 19; refine (p_wadd s4 s3 a4 b4 c4 d4 a3 b3 c3 d3 x4 x3 _ K4.out.1 K3.out.1).mono ?_; rintro e y8 ⟨s8, a8, b8, c8, d8, o8, rfl, ho, C8, hE⟩; have Ho8 := hide ho; have P1 := P1.ext hE; have P2 := P2.ext hE; have P3 := P3.ext hE; have P4 := P4.ext hE; have P6 := P6.ext hE; have EE := hide (EE.out.trans hE); clear hE ho)
  have P8 : Box (y8.alloc (.cells #[.bool s8, .int .u64 (a8 : Int), .int .u64 (b8 : Int), .int .u64 (c8 : Int), .int .u64 (d8 : Int)] 25)) y8.heap.size s8 a8 b8 c8 d8 := heap_alloc_new y8 _
  have hE := ext_alloc y8 (.cells #[.bool s8, .int .u64 (a8 : Int), .int .u64 (b8 : Int), .int .u64 (c8 : Int), .int .u64 (d8 : Int)] 25)
  have P1 := P1.ext hE
  have P2 := P2.ext hE
  have P3 := P3.ext hE
  have P4 := P4.ext hE
  have P6 := P6.ext hE
  have EE := hide (EE.out.trans hE)
  clear hE
  generalize y8.alloc (.cells #[.bool s8, .int .u64 (a8 : Int), .int .u64 (b8 : Int), .int .u64 (c8 : Int), .int .u64 (d8 : Int)] 25) = W8 at *
  generalize y8.heap.size = g8 at *
  clear p30 p31 p32 p33 p34
  clear p40 p41 p42 p43 p44
  obtain ⟨x8, hz⟩ : ∃ z, (if (x4 + x3).natAbs < 115792089237316195423570985008687907853269984665640564039457584007913129639936 then x4 + x3 else 0) = z := ⟨_, rfl⟩
  have HZ8 := hide hz
  rw [hz] at C8
  have K8 := hide C8
  clear hz C8
  have F8 : Hid (o8 = true → x8 = x4 + x3) := fun h => by
    have h2 := HZ8.out
    rw [if_pos (of_decide_eq_true (Ho8.out.symm.trans h))] at h2
    exact h2.symm
  obtain ⟨p20, p21, p22, p23, p24, _⟩ := five_cells P2
  obtain ⟨p30, p31, p32, p33, p34, _⟩ := five_cells P3
  go_upto_region 11 with (go_at_call 19; refine (p_wadd s2 s3 a2 b2 c2 d2 a3 b3 c3 d3 x2 x3 _ K2.out.1 K3.out.1).mono ?_; rintro e y9 ⟨s9, a9, b9, c9, d9, o9, rfl, ho, C9, hE⟩; have Ho9 := hide ho; have P1 := P1.ext hE; have P2 := P2.ext hE; have P3 := P3.ext hE; have P4 := P4.ext hE; have P6 := P6.ext hE; have P8 := P8.ext hE; have EE := hide (EE.out.trans hE); clear hE ho)
  have P9 : Box (y9.alloc (.cells #[.bool s9, .int .u64 (a9 : Int), .int .u64 (b9 : Int), .int .u64 (c9 : Int), .int .u64 (d9 : Int)] 25)) y9.heap.size s9 a9 b9 c9 d9 := heap_alloc_new y9 _
  have hE := ext_alloc y9 (.cells #[.bool s9, .int .u64 (a9 : Int), .int .u64 (b9 : Int), .int .u64 (c9 : Int), .int .u64 (d9 : Int)] 25)
  have P1 := P1.ext hE
  have P2 := P2.ext hE
  have P3 := P3.ext hE
  have P4 := P4.ext hE
  have P6 := P6.ext hE
  have P8 := P8.ext hE
  have EE := hide (EE.out.trans hE)
  clear hE
  generalize y9.alloc (.cells #[.bool s9, .int .u64 (a9 : Int), .int .u64 (b9 : Int), .int .u64 (c9 : Int), .int .u64 (d9 : Int)] 25) = W9 at *
  generalize y9.heap.size = g9 at *
  clear p20 p21 p22 p23 p24
  clear p30 p31 p32 p33 p34
  obtain ⟨x9, hz⟩ : ∃ z, (if (x2 + x3).natAbs < 115792089237316195423570985008687907853269984665640564039457584007913129639936 then x2 + x3 else 0) = z := ⟨_, rfl⟩
  have HZ9 := hide hz
  rw [hz] at C9
  have K9 := hide C9
  clear hz C9
  have F9 : Hid (o9 = true → x9 = x2 + x3) := fun h => by
    have h2 := HZ9.out
    rw [if_pos (of_decide_eq_true (Ho9.out.symm.trans h))] at h2
    exact h2.symm
  obtain ⟨p10, p11, p12, p13, p14, _⟩ := five_cells P1
  obtain ⟨p90, p91, p92, p93, p94, _⟩ := five_cells P9
  go_upto_region 12 with (go_at_call 19; refine (p_wadd s1 s9 a1 b1 c1 d1 a9 b9 c9 d9 x1 x9 _ K1.out.1 K9.out.1).mono ?_; rintro e y10 ⟨s10, a10, b10, c10, d10, o10, rfl, ho, C10, hE⟩; have Ho10 := hide ho; have P1 := P1.ext hE; have P2 := P2.ext hE; have P3 := P3.ext hE; have P4 := P4.ext hE; have P6 := P6.ext hE; have P8 := P8.ext hE; have P9 := P9.ext hE; have EE := hide (EE.out.trans hE); clear hE ho)
  have P10 : Box (y10.alloc (.cells #[.bool s10, .int .u64 (a10 : Int), .int .u64 (b10 : Int), .int .u64 (c10 : Int), .int .u64 (d10 : Int)] 25)) y10.heap.size s10 a10 b10 c10 d10 := heap_alloc_new y10 _
  have hE := ext_alloc y10 (.cells #[.bool s10, .int .u64 (a10 : Int), .int .u64 (b10 : Int), .int .u64 (c10 : Int), .int .u64 (d10 : Int)] 25)
  have P1 := P1.ext hE
  have P2 := P2.ext hE
  have P3 := P3.ext hE
  have P4 := P4.ext hE
  have P6 := P6.ext hE
  have P8 := P8.ext hE
  have P9 := P9.ext hE
  have EE := hide (EE.out.trans hE)
  clear hE
  generalize y10.alloc (.cells #[.bool s10, .int .u64 (a10 : Int), .int .u64 (b10 : Int), .int .u64 (c10 : Int), .int .u64 (d10 : Int)] 25) = W10 at *
  generalize y10.heap.size = g10 at *
  clear p10 p11 p12 p13 p14
  clear p90 p91 p92 p93 p94
  obtain ⟨x10, hz⟩ : ∃ z, (if (x1 + x9).natAbs < 115792089237316195423570985008687907853269984665640564039457584007913129639936 then x1 + x9 else 0) = z := ⟨_, rfl⟩
  have HZ10 := hide hz
  rw [hz] at C10
  have K10 := hide C10
  clear hz C10
  have F10 : Hid (o10 = true → x10 = x1 + x9) := fun h => by
    have h2 := HZ10.out
    rw [if_pos (of_decide_eq_true (Ho10.out.symm.trans h))] at h2
    exact h2.symm
  go_cut [115] (fun s wx => s = .bool false ∧ wx = W10)
  case first =>
    have HE : Hid (o4 = true ∧ o8 = true ∧ o9 = true ∧ o10 = true → x8 = x10) := by
      intro h
      have h1 := F4.out h.1; have h2 := F8.out h.2.1; have h3 := F9.out h.2.2.1; have h4 := F10.out h.2.2.2; omega
    obtain ⟨p80, p81, p82, p83, p84, _⟩ := five_cells P8
    obtain ⟨p100, p101, p102, p103, p104, _⟩ := five_cells P10
    cases o4
    · go_wp2_with fail
      all_goals go_meet
      all_goals exact ⟨rfl, rfl⟩
    · cases o8
      · go_wp2_with fail
        all_goals go_meet
        all_goals exact ⟨rfl, rfl⟩
      · cases o9
        · go_wp2_with fail
          all_goals go_meet
          all_goals exact ⟨rfl, rfl⟩
        · cases o10
          · go_wp2_with fail
            all_goals go_meet
            all_goals exact ⟨rfl, rfl⟩
          · have e := HE.out ⟨rfl, rfl, rfl, rfl⟩
            subst e
            have KE := K8.out.uniq K10.out
            obtain ⟨rfl, rfl, rfl, rfl, rfl⟩ := KE
            have hn := neq_same s8 a8 b8 c8 d8
            go_wp2_with fail
            all_goals go_meet
            all_goals exact ⟨rfl, rfl⟩
  case rest =>
  obtain ⟨rfl, rfl⟩ := hcut
  go_upto_region 14 with fail
  obtain ⟨p30, p31, p32, p33, p34, _⟩ := five_cells P3
  obtain ⟨p60, p61, p62, p63, p64, _⟩ := five_cells P6
  go_upto_region 15 with (go_at_call 20; refine (p_wmul s6 s3 a6 b6 c6 d6 a3 b3 c3 d3 x6 x3 _ K6.out.1 K3.out.1).mono ?_; rintro e y11 ⟨s11, a11, b11, c11, d11, o11, rfl, ho, C11, hE⟩; have Ho11 := hide ho; have P1 := P1.ext hE; have P2 := P2.ext hE; have P3 := P3.ext hE; have P6 := P6.ext hE; have P9 := P9.ext hE; have EE := hide (EE.out.trans hE); clear hE ho)
  have P11 : Box (y11.alloc (.cells #[.bool s11, .int .u64 (a11 : Int), .int .u64 (b11 : Int), .int .u64 (c11 : Int), .int .u64 (d11 : Int)] 25)) y11.heap.size s11 a11 b11 c11 d11 := heap_alloc_new y11 _
  have hE := ext_alloc y11 (.cells #[.bool s11, .int .u64 (a11 : Int), .int .u64 (b11 : Int), .int .u64 (c11 : Int), .int .u64 (d11 : Int)] 25)
  have P1 := P1.ext hE
  have P2 := P2.ext hE
  have P3 := P3.ext hE
  have P6 := P6.ext hE
  have P9 := P9.ext hE
  have EE := hide (EE.out.trans hE)
  clear hE
  generalize y11.alloc (.cells #[.bool s11, .int .u64 (a11 : Int), .int .u64 (b11 : Int), .int .u64 (c11 : Int), .int .u64 (d11 : Int)] 25) = W11 at *
  generalize y11.heap.size = g11 at *
  clear p30 p31 p32 p33 p34
  clear p60 p61 p62 p63 p64
  obtain ⟨x11, hz⟩ : ∃ z, (if (x6 * x3).natAbs < 115792089237316195423570985008687907853269984665640564039457584007913129639936 then x6 * x3 else 0) = z := ⟨_, rfl⟩
  have HZ11 := hide hz
  rw [hz] at C11
  have K11 := hide C11
  clear hz C11
  have F11 : Hid (o11 = true → x11 = x6 * x3) := fun h => by
    have h2 := HZ11.out
    rw [if_pos (of_decide_eq_true (Ho11.out.symm.trans h))] at h2
    exact h2.symm
  obtain ⟨p20, p21, p22, p23, p24, _⟩ := five_cells P2
  obtain ⟨p30, p31, p32, p33, p34, _⟩ := five_cells P3
  go_upto_region 16 with (go_at_call 20; refine (p_wmul s2 s3 a2 b2 c2 d2 a3 b3 c3 d3 x2 x3 _ K2.out.1 K3.out.1).mono ?_; rintro e y12 ⟨s12, a12, b12, c12, d12, o12, rfl, ho, C12, hE⟩; have Ho12 := hide ho; have P1 := P1.ext hE; have P2 := P2.ext hE; have P3 := P3.ext hE; have P6 := P6.ext hE; have P9 := P9.ext hE; have P11 := P11.ext hE; have EE := hide (EE.out.trans hE); clear hE ho)
  have P12 : Box (y12.alloc (.cells #[.bool s12, .int .u64 (a12 : Int), .int .u64 (b12 : Int), .int .u64 (c12 : Int), .int .u64 (d12 : Int)] 25)) y12.heap.size s12 a12 b12 c12 d12 := heap_alloc_new y12 _
  have hE := ext_alloc y12 (.cells #[.bool s12, .int .u64 (a12 : Int), .int .u64 (b12 : Int), .int .u64 (c12 : Int), .int .u64 (d12 : Int)] 25)
  have P1 := P1.ext hE
  have P2 := P2.ext hE
  have P3 := P3.ext hE
  have P6 := P6.ext hE
  have P9 := P9.ext hE
  have P11 := P11.ext hE
  have EE := hide (EE.out.trans hE)
  clear hE
  generalize y12.alloc (.cells #[.bool s12, .int .u64 (a12 : Int), .int .u64 (b12 : Int), .int .u64 (c12 : Int), .int .u64 (d12 : Int)] 25) = W12 at *
  generalize y12.heap.size = g12 at *
  clear p20 p21 p22 p23 p24
  clear p30 p31 p32 p33 p34
  obtain ⟨x12, hz⟩ : ∃ z, (if (x2 * x3).natAbs < 115792089237316195423570985008687907853269984665640564039457584007913129639936 then x2 * x3 else 0) = z := ⟨_, rfl⟩
  have HZ12 := hide hz
  rw [hz] at C12
  have K12 := hide C12
  clear hz C12
  have F12 : Hid (o12 = true → x12 = x2 * x3) := fun h => by
    have h2 := HZ12.out
    rw [if_pos (of_decide_eq_true (Ho12.out.symm.trans h))] at h2
    exact h2.symm
  obtain ⟨p10, p11, p12, p13, p14, _⟩ := five_cells P1
  obtain ⟨p120, p121, p122, p123, p124, _⟩ := five_cells P12
  go_upto_region 17 with (go_at_call 20; refine (p_wmul s1 s12 a1 b1 c1 d1 a12 b12 c12 d12 x1 x12 _ K1.out.1 K12.out.1).mono ?_; rintro e y13 ⟨s13, a13, b13, c13, d13, o13, rfl, ho, C13, hE⟩; have Ho13 := hide ho; have P1 := P1.ext hE; have P2 := P2.ext hE; have P3 := P3.ext hE; have P6 := P6.ext hE; have P9 := P9.ext hE; have P11 := P11.ext hE; have P12 := P12.ext hE; have EE := hide (EE.out.trans hE); clear hE ho)
  have P13 : Box (y13.alloc (.cells #[.bool s13, .int .u64 (a13 : Int), .int .u64 (b13 : Int), .int .u64 (c13 : Int), .int .u64 (d13 : Int)] 25)) y13.heap.size s13 a13 b13 c13 d13 := heap_alloc_new y13 _
  have hE := ext_alloc y13 (.cells #[.bool s13, .int .u64 (a13 : Int), .int .u64 (b13 : Int), .int .u64 (c13 : Int), .int .u64 (d13 : Int)] 25)
  have P1 := P1.ext hE
  have P2 := P2.ext hE
  have P3 := P3.ext hE
  have P6 := P6.ext hE
  have P9 := P9.ext hE
  have P11 := P11.ext hE
  have P12 := P12.ext hE
  have EE := hide (EE.out.trans hE)
  clear hE
  generalize y13.alloc (.cells #[.bool s13, .int .u64 (a13 : Int), .int .u64 (b13 : Int), .int .u64 (c13 : Int), .int .u64 (d13 : Int)] 25) = W13 at *
  generalize y13.heap.size = g13 at *
  clear p10 p11 p12 p13 p14
  clear p120 p121 p122 p123 p124
  obtain ⟨x13, hz⟩ : ∃ z, (if (x1 * x12).natAbs < 115792089237316195423570985008687907853269984665640564039457584007913129639936 then x1 * x12 else 0) = z := ⟨_, rfl⟩
  have HZ13 := hide hz
  rw [hz] at C13
  have K13 := hide C13
  clear hz C13
  have F13 : Hid (o13 = true → x13 = x1 * x12) := fun h => by
    have h2 := HZ13.out
    rw [if_pos (of_decide_eq_true (Ho13.out.symm.trans h))] at h2
    exact h2.symm
  go_cut [148] (fun s wx => s = .bool false ∧ wx = W13)
  case first =>
    have HE : Hid (o6 = true ∧ o11 = true ∧ o12 = true ∧ o13 = true → x11 = x13) := by
      intro h
      have h1 := F6.out h.1; have h2 := F11.out h.2.1; have h3 := F12.out h.2.2.1; have h4 := F13.out h.2.2.2; rw [h2, h4, h1, h3, Int.mul_assoc]
    obtain ⟨p110, p111, p112, p113, p114, _⟩ := five_cells P11
    obtain ⟨p130, p131, p132, p133, p134, _⟩ := five_cells P13
    cases o6
    · go_wp2_with fail
      all_goals go_meet
      all_goals exact ⟨rfl, rfl⟩
    · cases o11
      · go_wp2_with fail
        all_goals go_meet
        all_goals exact ⟨rfl, rfl⟩
      · cases o12
        · go_wp2_with fail
          all_goals go_meet
          all_goals exact ⟨rfl, rfl⟩
        · cases o13
          · go_wp2_with fail
            all_goals go_meet
            all_goals exact ⟨rfl, rfl⟩
          · have e := HE.out ⟨rfl, rfl, rfl, rfl⟩
            subst e
            have KE := K11.out.uniq K13.out
            obtain ⟨rfl, rfl, rfl, rfl, rfl⟩ := KE
            have hn := neq_same s11 a11 b11 c11 d11
            go_wp2_with fail
            all_goals go_meet
            all_goals exact ⟨rfl, rfl⟩
  case rest =>
  obtain ⟨rfl, rfl⟩ := hcut
  go_upto_region 19 with fail
  obtain ⟨p10, p11, p12, p13, p14, _⟩ := five_cells P1
  obtain ⟨p90, p91, p92, p93, p94, _⟩ := five_cells P9
  go_upto_region 20 with (go_at_call 20; refine (p_wmul s1 s9 a1 b1 c1 d1 a9 b9 c9 d9 x1 x9 _ K1.out.1 K9.out.1).mono ?_; rintro e y14 ⟨s14, a14, b14, c14, d14, o14, rfl, ho, C14, hE⟩; have Ho14 := hide ho; have P1 := P1.ext hE; have P3 := P3.ext hE; have P6 := P6.ext hE; have P9 := P9.ext hE; have EE := hide (EE.out.trans hE); clear hE ho)
  have P14 : Box (y14.alloc (.cells #[.bool s14, .int .u64 (a14 : Int), .int .u64 (b14 : Int), .int .u64 (c14 : Int), .int .u64 (d14 : Int)] 25)) y14.heap.size s14 a14 b14 c14 d14 := heap_alloc_new y14 _
  have hE := ext_alloc y14 (.cells #[.bool s14, .int .u64 (a14 : Int), .int .u64 (b14 : Int), .int .u64 (c14 : Int), .int .u64 (d14 : Int)] 25)
  have P1 := P1.ext hE
  have P3 := P3.ext hE
  have P6 := P6.ext hE
  have P9 := P9.ext hE
  have EE := hide (EE.out.trans hE)
  clear hE
  generalize y14.alloc (.cells #[.bool s14, .int .u64 (a14 : Int), .int .u64 (b14 : Int), .int .u64 (c14 : Int), .int .u64 (d14 : Int)] 25) = W14 at *
  generalize y14.heap.size = g14 at *
  clear p10 p11 p12 p13 p14
  clear p90 p91 p92 p93 p94
  obtain ⟨x14, hz⟩ : ∃ z, (if (x1 * x9).natAbs < 115792089237316195423570985008687907853269984665640564039457584007913129639936 then x1 * x9 else 0) = z := ⟨_, rfl⟩
  have HZ14 := hide hz
  rw [hz] at C14
  have K14 := hide C14
  clear hz C14
  have F14 : Hid (o14 = true → x14 = x1 * x9) := fun h => by
    have h2 := HZ14.out
    rw [if_pos (of_decide_eq_true (Ho14.out.symm.trans h))] at h2
    exact h2.symm
  obtain ⟨p10, p11, p12, p13, p14, _⟩ := five_cells P1
  obtain ⟨p30, p31, p32, p33, p34, _⟩ := five_cells P3
  go_upto_region 21 with (go_at_call 20; refine (p_wmul s1 s3 a1 b1 c1 d1 a3 b3 c3 d3 x1 x3 _ K1.out.1 K3.out.1).mono ?_; rintro e y15 ⟨s15, a15, b15, c15, d15, o15, rfl, ho, C15, hE⟩; have Ho15 := hide ho; have P1 := P1.ext hE; have P3 := P3.ext hE; have P6 := P6.ext hE; have P14 := P14.ext hE; have EE := hide (EE.out.trans hE); clear hE ho)
  have P15 : Box (y15.alloc (.cells #[.bool s15, .int .u64 (a15 : Int), .int .u64 (b15 : Int), .int .u64 (c15 : Int), .int .u64 (d15 : Int)] 25)) y15.heap.size s15 a15 b15 c15 d15 := heap_alloc_new y15 _
  have hE := ext_alloc y15 (.cells #[.bool s15, .int .u64 (a15 : Int), .int .u64 (b15 : Int), .int .u64 (c15 : Int), .int .u64 (d15 : Int)] 25)
  have P1 := P1.ext hE
  have P3 := P3.ext hE
  have P6 := P6.ext hE
  have P14 := P14.ext hE
  have EE := hide (EE.out.trans hE)
  clear hE
  generalize y15.alloc (.cells #[.bool s15, .int .u64 (a15 : Int), .int .u64 (b15 : Int), .int .u64 (c15 : Int), .int .u64 (d15 : Int)] 25) = W15 at *
  generalize y15.heap.size = g15 at *
  clear p10 p11 p12 p13 p14
  clear p30 p31 p32 p33 p34
  obtain ⟨x15, hz⟩ : ∃ z, (if (x1 * x3).natAbs < 115792089237316195423570985008687907853269984665640564039457584007913129639936 then x1 * x3 else 0) = z := ⟨_, rfl⟩
  have HZ15 := hide hz
  rw [hz] at C15
  have K15 := hide C15
  clear hz C15
  have F15 : Hid (o15 = true → x15 = x1 * x3) := fun h => by
    have h2 := HZ15.out
    rw [if_pos (of_decide_eq_true (Ho15.out.symm.trans h))] at h2
    exact h2.symm
  obtain ⟨p60, p61, p62, p63, p64, _⟩ := five_cells P6
  obtain ⟨p150, p151, p152, p153, p154, _⟩ := five_cells P15
  go_upto_region 22 with (go_at_call 19; refine (p_wadd s6 s15 a6 b6 c6 d6 a15 b15 c15 d15 x6 x15 _ K6.out.1 K15.out.1).mono ?_; rintro e y16 ⟨s16, a16, b16, c16, d16, o16, rfl, ho, C16, hE⟩; have Ho16 := hide ho; have P6 := P6.ext hE; have P14 := P14.ext hE; have P15 := P15.ext hE; have EE := hide (EE.out.trans hE); clear hE ho)
  have P16 : Box (y16.alloc (.cells #[.bool s16, .int .u64 (a16 : Int), .int .u64 (b16 : Int), .int .u64 (c16 : Int), .int .u64 (d16 : Int)] 25)) y16.heap.size s16 a16 b16 c16 d16 := heap_alloc_new y16 _
  have hE := ext_alloc y16 (.cells #[.bool s16, .int .u64 (a16 : Int), .int .u64 (b16 : Int), .int .u64 (c16 : Int), .int .u64 (d16 : Int)] 25)
  have P6 := P6.ext hE
  have P14 := P14.ext hE
  have P15 := P15.ext hE
  have EE := hide (EE.out.trans hE)
  clear hE
  generalize y16.alloc (.cells #[.bool s16, .int .u64 (a16 : Int), .int .u64 (b16 : Int), .int .u64 (c16 : Int), .int .u64 (d16 : Int)] 25) = W16 at *
  generalize y16.heap.size = g16 at *
  clear p60 p61 p62 p63 p64
  clear p150 p151 p152 p153 p154
  obtain ⟨x16, hz⟩ : ∃ z, (if (x6 + x15).natAbs < 115792089237316195423570985008687907853269984665640564039457584007913129639936 then x6 + x15 else 0) = z := ⟨_, rfl⟩
  have HZ16 := hide hz
  rw [hz] at C16
  have K16 := hide C16
  clear hz C16
  have F16 : Hid (o16 = true → x16 = x6 + x15) := fun h => by
    have h2 := HZ16.out
    rw [if_pos (of_decide_eq_true (Ho16.out.symm.trans h))] at h2
    exact h2.symm
  have HE : Hid (o9 = true ∧ o14 = true ∧ o6 = true ∧ o15 = true ∧ o16 = true → x14 = x16) := by
    intro h
    have h1 := F9.out h.1; have h2 := F14.out h.2.1; have h3 := F6.out h.2.2.1; have h4 := F15.out h.2.2.2.1; have h5 := F16.out h.2.2.2.2
    rw [h2, h5, h1, h3, h4, Int.mul_add]
  cases o9
  · go_wp2_with (go_at_call 11; refine (HK.out _ EE.out).mono ?_; rintro e y17 ⟨rfl, hE⟩; have P14 := P14.ext hE; have P16 := P16.ext hE; obtain ⟨p140, p141, p142, p143, p144, _⟩ := five_cells P14; obtain ⟨p160, p161, p162, p163, p164, _⟩ := five_cells P16; have EE := hide (EE.out.trans hE); clear hE)
    all_goals go_ret
    all_goals exact ⟨rfl, EE.out⟩
  · cases o14
    · go_wp2_with (go_at_call 11; refine (HK.out _ EE.out).mono ?_; rintro e y17 ⟨rfl, hE⟩; have P14 := P14.ext hE; have P16 := P16.ext hE; obtain ⟨p140, p141, p142, p143, p144, _⟩ := five_cells P14; obtain ⟨p160, p161, p162, p163, p164, _⟩ := five_cells P16; have EE := hide (EE.out.trans hE); clear hE)
      all_goals go_ret
      all_goals exact ⟨rfl, EE.out⟩
    · cases o6
      · go_wp2_with (go_at_call 11; refine (HK.out _ EE.out).mono ?_; rintro e y17 ⟨rfl, hE⟩; have P14 := P14.ext hE; have P16 := P16.ext hE; obtain ⟨p140, p141, p142, p143, p144, _⟩ := five_cells P14; obtain ⟨p160, p161, p162, p163, p164, _⟩ := five_cells P16; have EE := hide (EE.out.trans hE); clear hE)
        all_goals go_ret
        all_goals exact ⟨rfl, EE.out⟩
      · cases o15
        · go_wp2_with (go_at_call 11; refine (HK.out _ EE.out).mono ?_; rintro e y17 ⟨rfl, hE⟩; have P14 := P14.ext hE; have P16 := P16.ext hE; obtain ⟨p140, p141, p142, p143, p144, _⟩ := five_cells P14; obtain ⟨p160, p161, p162, p163, p164, _⟩ := five_cells P16; have EE := hide (EE.out.trans hE); clear hE)
          all_goals go_ret
          all_goals exact ⟨rfl, EE.out⟩
        · cases o16
          · go_wp2_with (go_at_call 11; refine (HK.out _ EE.out).mono ?_; rintro e y17 ⟨rfl, hE⟩; have P14 := P14.ext hE; have P16 := P16.ext hE; obtain ⟨p140, p141, p142, p143, p144, _⟩ := five_cells P14; obtain ⟨p160, p161, p162, p163, p164, _⟩ := five_cells P16; have EE := hide (EE.out.trans hE); clear hE)
            all_goals go_ret
            all_goals exact ⟨rfl, EE.out⟩
          · have e := HE.out ⟨rfl, rfl, rfl, rfl, rfl⟩
            subst e
            obtain ⟨rfl, rfl, rfl, rfl, rfl⟩ := K14.out.uniq K16.out
            have hn := eq_same' s14 a14 b14 c14 d14
            go_wp2_with (go_at_call 11; refine (HK.out _ EE.out).mono ?_; rintro e y17 ⟨rfl, hE⟩; have P14 := P14.ext hE; have P16 := P16.ext hE; obtain ⟨p140, p141, p142, p143, p144, _⟩ := five_cells P14; obtain ⟨p160, p161, p162, p163, p164, _⟩ := five_cells P16; have EE := hide (EE.out.trans hE); clear hE)
            all_goals go_ret
            all_goals exact ⟨rfl, EE.out⟩
end Go.Proofs.YtkhlhlldlikleaaDoor
