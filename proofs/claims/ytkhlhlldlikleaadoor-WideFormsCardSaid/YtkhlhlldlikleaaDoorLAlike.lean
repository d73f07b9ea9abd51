/- What the program and the reference say about two integers is the same: the laws' 'alike'. Conditions: the cells stand for numbers. -/
import Derived.Test.YtkhlhlldlikleaaDoorEqs
import Derived.Test.YtkhlhlldlikleaaDoorMulY
import Derived.Test.YtkhlhlldlikleaaDoorForD
import Derived.Test.YtkhlhlldlikleaaDoorMagI
import Derived.Test.YtkhlhlldlikleaaDoorMagJ
namespace Go.Proofs.YtkhlhlldlikleaaDoor
set_option linter.unusedVariables false
set_option linter.unusedSimpArgs false
open Go Go.RowKit
set_option maxRecDepth 1000000 in
set_option maxHeartbeats 32000000 in
theorem p_alike (s1 : Bool) (a1 b1 c1 d1 : Nat) (s2 : Bool) (a2 b2 c2 d2 : Nat) (x1 x2 : Int) (w : World) (hx : IsW s1 a1 b1 c1 d1 x1) (hy : IsW s2 a2 b2 c2 d2 x2) :
    Calls Tryd.prog 12 #[.agg #[.bool s1, .int .u64 (a1 : Int), .int .u64 (b1 : Int), .int .u64 (c1 : Int), .int .u64 (d1 : Int)], .agg #[.bool s2, .int .u64 (a2 : Int), .int .u64 (b2 : Int), .int .u64 (c2 : Int), .int .u64 (d2 : Int)]] w (BoolRet true w) := by
  have H2 := two_blocks w (.cells #[.bool s1, .int .u64 (a1 : Int), .int .u64 (b1 : Int), .int .u64 (c1 : Int), .int .u64 (d1 : Int)] 25) (.cells #[.bool s2, .int .u64 (a2 : Int), .int .u64 (b2 : Int), .int .u64 (c2 : Int), .int .u64 (d2 : Int)] 25)
  have EE := hide ((ext_alloc w (.cells #[.bool s1, .int .u64 (a1 : Int), .int .u64 (b1 : Int), .int .u64 (c1 : Int), .int .u64 (d1 : Int)] 25)).trans (ext_alloc _ (.cells #[.bool s2, .int .u64 (a2 : Int), .int .u64 (b2 : Int), .int .u64 (c2 : Int), .int .u64 (d2 : Int)] 25)))
  obtain ⟨W0, hW0⟩ : ∃ W0, W0 = (w.alloc (.cells #[.bool s1, .int .u64 (a1 : Int), .int .u64 (b1 : Int), .int .u64 (c1 : Int), .int .u64 (d1 : Int)] 25)).alloc (.cells #[.bool s2, .int .u64 (a2 : Int), .int .u64 (b2 : Int), .int .u64 (c2 : Int), .int .u64 (d2 : Int)] 25) := ⟨_, rfl⟩
  rw [← hW0] at H2 EE
  obtain ⟨g, hg⟩ : ∃ g, w.heap.size = g := ⟨_, rfl⟩
  rw [hg] at H2
  obtain ⟨P1, P2⟩ : Box W0 g s1 a1 b1 c1 d1 ∧ Box W0 (g + 1) s2 a2 b2 c2 d2 := H2
  have K1 := hide hx
  have K2 := hide hy
  have HW0 := hide hW0
  have HG := hide hg
  clear hx hy hW0 hg
  go_enter Tryd.func12, Tryd.ntmps12
  go_upto_region 1 with fail
  rw [← HW0.out, HG.out]
  clear HW0 HG
  obtain ⟨p10, p11, p12, p13, p14, _⟩ := five_cells P1
  obtain ⟨p20, p21, p22, p23, p24, _⟩ := five_cells P2
  go_upto_region 2 with (go_at_call 19; refine (p_wadd s1 s2 a1 b1 c1 d1 a2 b2 c2 d2 x1 x2 _ K1.out K2.out).mono ?_; rintro e y3 ⟨s3, a3, b3, c3, d3, o3, rfl, ho, C3, hE⟩; have Ho3 := hide ho; have P1 := P1.ext hE; have P2 := P2.ext hE; have EE := hide (EE.out.trans hE); clear hE ho)
  have P3 : Box (y3.alloc (.cells #[.bool s3, .int .u64 (a3 : Int), .int .u64 (b3 : Int), .int .u64 (c3 : Int), .int .u64 (d3 : Int)] 25)) y3.heap.size s3 a3 b3 c3 d3 := heap_alloc_new y3 _
  have hE := ext_alloc y3 (.cells #[.bool s3, .int .u64 (a3 : Int), .int .u64 (b3 : Int), .int .u64 (c3 : Int), .int .u64 (d3 : Int)] 25)
  have P1 := P1.ext hE
  have P2 := P2.ext hE
  have EE := hide (EE.out.trans hE)
  clear hE
  generalize y3.alloc (.cells #[.bool s3, .int .u64 (a3 : Int), .int .u64 (b3 : Int), .int .u64 (c3 : Int), .int .u64 (d3 : Int)] 25) = W3 at *
  generalize y3.heap.size = g3 at *
  clear p10 p11 p12 p13 p14 p20 p21 p22 p23 p24
  have K3 := hide C3
  clear C3
  obtain ⟨p10, p11, p12, p13, p14, _⟩ := five_cells P1
  obtain ⟨p20, p21, p22, p23, p24, _⟩ := five_cells P2
  go_upto_region 3 with (go_at_call 33; refine (ref_wadd s1 s2 a1 b1 c1 d1 a2 b2 c2 d2 x1 x2 _ K1.out K2.out).mono ?_; rintro e y4 ⟨s4, a4, b4, c4, d4, o4, rfl, ho, C4, hE⟩; have Ho4 := hide ho; have P1 := P1.ext hE; have P2 := P2.ext hE; have P3 := P3.ext hE; have EE := hide (EE.out.trans hE); clear hE ho)
  have P4 : Box (y4.alloc (.cells #[.bool s4, .int .u64 (a4 : Int), .int .u64 (b4 : Int), .int .u64 (c4 : Int), .int .u64 (d4 : Int)] 25)) y4.heap.size s4 a4 b4 c4 d4 := heap_alloc_new y4 _
  have hE := ext_alloc y4 (.cells #[.bool s4, .int .u64 (a4 : Int), .int .u64 (b4 : Int), .int .u64 (c4 : Int), .int .u64 (d4 : Int)] 25)
  have P1 := P1.ext hE
  have P2 := P2.ext hE
  have P3 := P3.ext hE
  have EE := hide (EE.out.trans hE)
  clear hE
  generalize y4.alloc (.cells #[.bool s4, .int .u64 (a4 : Int), .int .u64 (b4 : Int), .int .u64 (c4 : Int), .int .u64 (d4 : Int)] 25) = W4 at *
  generalize y4.heap.size = g4 at *
  clear p10 p11 p12 p13 p14 p20 p21 p22 p23 p24
  have Ho4 := Ho4.out
  rw [← Ho3.out] at Ho4
  have Ho4 := Ho4.symm
  subst Ho4
  obtain ⟨rfl, rfl, rfl, rfl, rfl⟩ := K3.out.uniq C4
  clear C4 K3 Ho3
  obtain ⟨p10, p11, p12, p13, p14, _⟩ := five_cells P1
  obtain ⟨p20, p21, p22, p23, p24, _⟩ := five_cells P2
  go_upto_region 4 with (go_at_call 24; refine (p_wsub s1 s2 a1 b1 c1 d1 a2 b2 c2 d2 x1 x2 _ K1.out K2.out).mono ?_; rintro e y5 ⟨s5, a5, b5, c5, d5, o5, rfl, ho, C5, hE⟩; have Ho5 := hide ho; have P1 := P1.ext hE; have P2 := P2.ext hE; have P3 := P3.ext hE; have P4 := P4.ext hE; have EE := hide (EE.out.trans hE); clear hE ho)
  have P5 : Box (y5.alloc (.cells #[.bool s5, .int .u64 (a5 : Int), .int .u64 (b5 : Int), .int .u64 (c5 : Int), .int .u64 (d5 : Int)] 25)) y5.heap.size s5 a5 b5 c5 d5 := heap_alloc_new y5 _
  have hE := ext_alloc y5 (.cells #[.bool s5, .int .u64 (a5 : Int), .int .u64 (b5 : Int), .int .u64 (c5 : Int), .int .u64 (d5 : Int)] 25)
  have P1 := P1.ext hE
  have P2 := P2.ext hE
  have P3 := P3.ext hE
  have P4 := P4.ext hE
  have EE := hide (EE.out.trans hE)
  clear hE
  generalize y5.alloc (.cells #[.bool s5, .int .u64 (a5 : Int), .int .u64 (b5 : Int), .int .u64 (c5 : Int), .int .u64 (d5 : Int)] 25) = W5 at *
  generalize y5.heap.size = g5 at *
  clear p10 p11 p12 p13 p14 p20 p21 p22 p23 p24
  have K5 := hide C5
  clear C5
  obtain ⟨p10, p11, p12, p13, p14, _⟩ := five_cells P1
  obtain ⟨p20, p21, p22, p23, p24, _⟩ := five_cells P2
  go_upto_region 5 with (go_at_call 34; refine (ref_wsub s1 s2 a1 b1 c1 d1 a2 b2 c2 d2 x1 x2 _ K1.out K2.out).mono ?_; rintro e y6 ⟨s6, a6, b6, c6, d6, o6, rfl, ho, C6, hE⟩; have Ho6 := hide ho; have P1 := P1.ext hE; have P2 := P2.ext hE; have P3 := P3.ext hE; have P4 := P4.ext hE; have P5 := P5.ext hE; have EE := hide (EE.out.trans hE); clear hE ho)
  have P6 : Box (y6.alloc (.cells #[.bool s6, .int .u64 (a6 : Int), .int .u64 (b6 : Int), .int .u64 (c6 : Int), .int .u64 (d6 : Int)] 25)) y6.heap.size s6 a6 b6 c6 d6 := heap_alloc_new y6 _
  have hE := ext_alloc y6 (.cells #[.bool s6, .int .u64 (a6 : Int), .int .u64 (b6 : Int), .int .u64 (c6 : Int), .int .u64 (d6 : Int)] 25)
  have P1 := P1.ext hE
  have P2 := P2.ext hE
  have P3 := P3.ext hE
  have P4 := P4.ext hE
  have P5 := P5.ext hE
  have EE := hide (EE.out.trans hE)
  clear hE
  generalize y6.alloc (.cells #[.bool s6, .int .u64 (a6 : Int), .int .u64 (b6 : Int), .int .u64 (c6 : Int), .int .u64 (d6 : Int)] 25) = W6 at *
  generalize y6.heap.size = g6 at *
  clear p10 p11 p12 p13 p14 p20 p21 p22 p23 p24
  have Ho6 := Ho6.out
  rw [← Ho5.out] at Ho6
  have Ho6 := Ho6.symm
  subst Ho6
  obtain ⟨rfl, rfl, rfl, rfl, rfl⟩ := K5.out.uniq C6
  clear C6 K5 Ho5
  obtain ⟨p10, p11, p12, p13, p14, _⟩ := five_cells P1
  obtain ⟨p20, p21, p22, p23, p24, _⟩ := five_cells P2
  go_upto_region 6 with (go_at_call 20; refine (p_wmul s1 s2 a1 b1 c1 d1 a2 b2 c2 d2 x1 x2 _ K1.out K2.out).mono ?_; rintro e y7 ⟨s7, a7, b7, c7, d7, o7, rfl, ho, C7, hE⟩; have Ho7 := hide ho; have P1 := P1.ext hE; have P2 := P2.ext hE; have P3 := P3.ext hE; have P4 := P4.ext hE; have P5 := P5.ext hE; have P6 := P6.ext hE; have EE := hide (EE.out.trans hE); clear hE ho)
  have P7 : Box (y7.alloc (.cells #[.bool s7, .int .u64 (a7 : Int), .int .u64 (b7 : Int), .int .u64 (c7 : Int), .int .u64 (d7 : Int)] 25)) y7.heap.size s7 a7 b7 c7 d7 := heap_alloc_new y7 _
  have hE := ext_alloc y7 (.cells #[.bool s7, .int .u64 (a7 : Int), .int .u64 (b7 : Int), .int .u64 (c7 : Int), .int .u64 (d7 : Int)] 25)
  have P1 := P1.ext hE
  have P2 := P2.ext hE
  have P3 := P3.ext hE
  have P4 := P4.ext hE
  have P5 := P5.ext hE
  have P6 := P6.ext hE
  have EE := hide (EE.out.trans hE)
  clear hE
  generalize y7.alloc (.cells #[.bool s7, .int .u64 (a7 : Int), .int .u64 (b7 : Int), .int .u64 (c7 : Int), .int .u64 (d7 : Int)] 25) = W7 at *
  generalize y7.heap.size = g7 at *
  clear p10 p11 p12 p13 p14 p20 p21 p22 p23 p24
  have K7 := hide C7
  clear C7
  obtain ⟨p10, p11, p12, p13, p14, _⟩ := five_cells P1
  obtain ⟨p20, p21, p22, p23, p24, _⟩ := five_cells P2
  go_upto_region 7 with (go_at_call 35; refine (ref_wmul s1 s2 a1 b1 c1 d1 a2 b2 c2 d2 x1 x2 _ K1.out K2.out).mono ?_; rintro e y8 ⟨s8, a8, b8, c8, d8, o8, rfl, ho, C8, hE⟩; have Ho8 := hide ho; have P1 := P1.ext hE; have P2 := P2.ext hE; have P3 := P3.ext hE; have P4 := P4.ext hE; have P5 := P5.ext hE; have P6 := P6.ext hE; have P7 := P7.ext hE; have EE := hide (EE.out.trans hE); clear hE ho)
  have P8 : Box (y8.alloc (.cells #[.bool s8, .int .u64 (a8 : Int), .int .u64 (b8 : Int), .int .u64 (c8 : Int), .int .u64 (d8 : Int)] 25)) y8.heap.size s8 a8 b8 c8 d8 := heap_alloc_new y8 _
  have hE := ext_alloc y8 (.cells #[.bool s8, .int .u64 (a8 : Int), .int .u64 (b8 : Int), .int .u64 (c8 : Int), .int .u64 (d8 : Int)] 25)
  have P1 := P1.ext hE
  have P2 := P2.ext hE
  have P3 := P3.ext hE
  have P4 := P4.ext hE
  have P5 := P5.ext hE
  have P6 := P6.ext hE
  have P7 := P7.ext hE
  have EE := hide (EE.out.trans hE)
  clear hE
  generalize y8.alloc (.cells #[.bool s8, .int .u64 (a8 : Int), .int .u64 (b8 : Int), .int .u64 (c8 : Int), .int .u64 (d8 : Int)] 25) = W8 at *
  generalize y8.heap.size = g8 at *
  clear p10 p11 p12 p13 p14 p20 p21 p22 p23 p24
  have Ho8 := Ho8.out
  rw [← Ho7.out] at Ho8
  have Ho8 := Ho8.symm
  subst Ho8
  obtain ⟨rfl, rfl, rfl, rfl, rfl⟩ := K7.out.uniq C8
  clear C8 K7 Ho7
  have hn1 := neq_same s3 a3 b3 c3 d3
  have hn2 := neq_same s5 a5 b5 c5 d5
  have hn3 := neq_same s7 a7 b7 c7 d7
  have hb1 := neqB o3 o3 false (by simp)
  have hb2 := neqB o5 o5 false (by simp)
  have hb3 := neqB o7 o7 false (by simp)
  obtain ⟨r, hr⟩ : ∃ r, cmpI x1 x2 = r := ⟨_, rfl⟩
  have k1 : Hid (∀ w, Calls Tryd.prog 23 #[.agg #[.bool s1, .int .u64 (a1 : Int), .int .u64 (b1 : Int), .int .u64 (c1 : Int), .int .u64 (d1 : Int)], .agg #[.bool s2, .int .u64 (a2 : Int), .int .u64 (b2 : Int), .int .u64 (c2 : Int), .int .u64 (d2 : Int)]] w (IntRet .i64 r w)) := fun w => by rw [← hr]; exact p_compare _ _ _ _ _ _ _ _ _ _ _ _ w K1.out K2.out
  have k2 : Hid (∀ w, Calls Tryd.prog 36 #[.agg #[.bool s1, .int .u64 (a1 : Int), .int .u64 (b1 : Int), .int .u64 (c1 : Int), .int .u64 (d1 : Int)], .agg #[.bool s2, .int .u64 (a2 : Int), .int .u64 (b2 : Int), .int .u64 (c2 : Int), .int .u64 (d2 : Int)]] w (IntRet .i64 r w)) := fun w => by rw [← hr]; exact ref_compare _ _ _ _ _ _ _ _ _ _ _ _ w K1.out K2.out
  clear hr
  obtain ⟨p10, p11, p12, p13, p14, _⟩ := five_cells P1
  obtain ⟨p20, p21, p22, p23, p24, _⟩ := five_cells P2
  obtain ⟨p30, p31, p32, p33, p34, _⟩ := five_cells P3
  obtain ⟨p40, p41, p42, p43, p44, _⟩ := five_cells P4
  obtain ⟨p50, p51, p52, p53, p54, _⟩ := five_cells P5
  obtain ⟨p60, p61, p62, p63, p64, _⟩ := five_cells P6
  obtain ⟨p70, p71, p72, p73, p74, _⟩ := five_cells P7
  obtain ⟨p80, p81, p82, p83, p84, _⟩ := five_cells P8
  go_region_held3 (fun w' => w'.cell? ⟨g, 0, none⟩ = some (.bool s1) ∧ w'.cell? ⟨g, 1, none⟩ = some (.int .u64 (a1 : Int)) ∧ w'.cell? ⟨g, 2, none⟩ = some (.int .u64 (b1 : Int)) ∧ w'.cell? ⟨g, 3, none⟩ = some (.int .u64 (c1 : Int)) ∧ w'.cell? ⟨g, 4, none⟩ = some (.int .u64 (d1 : Int)) ∧ w'.cell? ⟨g + 1, 0, none⟩ = some (.bool s2) ∧ w'.cell? ⟨g + 1, 1, none⟩ = some (.int .u64 (a2 : Int)) ∧ w'.cell? ⟨g + 1, 2, none⟩ = some (.int .u64 (b2 : Int)) ∧ w'.cell? ⟨g + 1, 3, none⟩ = some (.int .u64 (c2 : Int)) ∧ w'.cell? ⟨g + 1, 4, none⟩ = some (.int .u64 (d2 : Int)) ∧ w'.cell? ⟨g3, 0, none⟩ = some (.bool s3) ∧ w'.cell? ⟨g3, 1, none⟩ = some (.int .u64 (a3 : Int)) ∧ w'.cell? ⟨g3, 2, none⟩ = some (.int .u64 (b3 : Int)) ∧ w'.cell? ⟨g3, 3, none⟩ = some (.int .u64 (c3 : Int)) ∧ w'.cell? ⟨g3, 4, none⟩ = some (.int .u64 (d3 : Int)) ∧ w'.cell? ⟨g4, 0, none⟩ = some (.bool s3) ∧ w'.cell? ⟨g4, 1, none⟩ = some (.int .u64 (a3 : Int)) ∧ w'.cell? ⟨g4, 2, none⟩ = some (.int .u64 (b3 : Int)) ∧ w'.cell? ⟨g4, 3, none⟩ = some (.int .u64 (c3 : Int)) ∧ w'.cell? ⟨g4, 4, none⟩ = some (.int .u64 (d3 : Int)) ∧ w'.cell? ⟨g5, 0, none⟩ = some (.bool s5) ∧ w'.cell? ⟨g5, 1, none⟩ = some (.int .u64 (a5 : Int)) ∧ w'.cell? ⟨g5, 2, none⟩ = some (.int .u64 (b5 : Int)) ∧ w'.cell? ⟨g5, 3, none⟩ = some (.int .u64 (c5 : Int)) ∧ w'.cell? ⟨g5, 4, none⟩ = some (.int .u64 (d5 : Int)) ∧ w'.cell? ⟨g6, 0, none⟩ = some (.bool s5) ∧ w'.cell? ⟨g6, 1, none⟩ = some (.int .u64 (a5 : Int)) ∧ w'.cell? ⟨g6, 2, none⟩ = some (.int .u64 (b5 : Int)) ∧ w'.cell? ⟨g6, 3, none⟩ = some (.int .u64 (c5 : Int)) ∧ w'.cell? ⟨g6, 4, none⟩ = some (.int .u64 (d5 : Int)) ∧ w'.cell? ⟨g7, 0, none⟩ = some (.bool s7) ∧ w'.cell? ⟨g7, 1, none⟩ = some (.int .u64 (a7 : Int)) ∧ w'.cell? ⟨g7, 2, none⟩ = some (.int .u64 (b7 : Int)) ∧ w'.cell? ⟨g7, 3, none⟩ = some (.int .u64 (c7 : Int)) ∧ w'.cell? ⟨g7, 4, none⟩ = some (.int .u64 (d7 : Int)) ∧ w'.cell? ⟨g8, 0, none⟩ = some (.bool s7) ∧ w'.cell? ⟨g8, 1, none⟩ = some (.int .u64 (a7 : Int)) ∧ w'.cell? ⟨g8, 2, none⟩ = some (.int .u64 (b7 : Int)) ∧ w'.cell? ⟨g8, 3, none⟩ = some (.int .u64 (c7 : Int)) ∧ w'.cell? ⟨g8, 4, none⟩ = some (.int .u64 (d7 : Int))) (first | (with_reducible exact ⟨p10, p11, p12, p13, p14, p20, p21, p22, p23, p24, p30, p31, p32, p33, p34, p40, p41, p42, p43, p44, p50, p51, p52, p53, p54, p60, p61, p62, p63, p64, p70, p71, p72, p73, p74, p80, p81, p82, p83, p84⟩) | go_keep) (first
    | (go_at_call 23; (with_reducible refine (k1.out _).mono ?_); rintro e z1 ⟨rfl, hE⟩; have P1 : Box z1 g s1 a1 b1 c1 d1 := (by first | exact P1.ext hE | exact P1.drew.ext hE); have P2 : Box z1 (g + 1) s2 a2 b2 c2 d2 := (by first | exact P2.ext hE | exact P2.drew.ext hE); have P3 : Box z1 g3 s3 a3 b3 c3 d3 := (by first | exact P3.ext hE | exact P3.drew.ext hE); have P4 : Box z1 g4 s3 a3 b3 c3 d3 := (by first | exact P4.ext hE | exact P4.drew.ext hE); have P5 : Box z1 g5 s5 a5 b5 c5 d5 := (by first | exact P5.ext hE | exact P5.drew.ext hE); have P6 : Box z1 g6 s5 a5 b5 c5 d5 := (by first | exact P6.ext hE | exact P6.drew.ext hE); have P7 : Box z1 g7 s7 a7 b7 c7 d7 := (by first | exact P7.ext hE | exact P7.drew.ext hE); have P8 : Box z1 g8 s7 a7 b7 c7 d7 := (by first | exact P8.ext hE | exact P8.drew.ext hE); have EE : Hid (Ext w z1) := (by first | exact hide (EE.out.trans hE) | exact hide ((EE.out.trans (ext_drew _)).trans hE)); obtain ⟨p10, p11, p12, p13, p14, _⟩ := five_cells P1; obtain ⟨p20, p21, p22, p23, p24, _⟩ := five_cells P2; obtain ⟨p30, p31, p32, p33, p34, _⟩ := five_cells P3; obtain ⟨p40, p41, p42, p43, p44, _⟩ := five_cells P4; obtain ⟨p50, p51, p52, p53, p54, _⟩ := five_cells P5; obtain ⟨p60, p61, p62, p63, p64, _⟩ := five_cells P6; obtain ⟨p70, p71, p72, p73, p74, _⟩ := five_cells P7; obtain ⟨p80, p81, p82, p83, p84, _⟩ := five_cells P8; clear hE)
    | (go_at_call 36; (with_reducible refine (k2.out _).mono ?_); rintro e z2 ⟨rfl, hE⟩; have P1 : Box z2 g s1 a1 b1 c1 d1 := (by first | exact P1.ext hE | exact P1.drew.ext hE); have P2 : Box z2 (g + 1) s2 a2 b2 c2 d2 := (by first | exact P2.ext hE | exact P2.drew.ext hE); have P3 : Box z2 g3 s3 a3 b3 c3 d3 := (by first | exact P3.ext hE | exact P3.drew.ext hE); have P4 : Box z2 g4 s3 a3 b3 c3 d3 := (by first | exact P4.ext hE | exact P4.drew.ext hE); have P5 : Box z2 g5 s5 a5 b5 c5 d5 := (by first | exact P5.ext hE | exact P5.drew.ext hE); have P6 : Box z2 g6 s5 a5 b5 c5 d5 := (by first | exact P6.ext hE | exact P6.drew.ext hE); have P7 : Box z2 g7 s7 a7 b7 c7 d7 := (by first | exact P7.ext hE | exact P7.drew.ext hE); have P8 : Box z2 g8 s7 a7 b7 c7 d7 := (by first | exact P8.ext hE | exact P8.drew.ext hE); have EE : Hid (Ext w z2) := (by first | exact hide (EE.out.trans hE) | exact hide ((EE.out.trans (ext_drew _)).trans hE)); obtain ⟨p10, p11, p12, p13, p14, _⟩ := five_cells P1; obtain ⟨p20, p21, p22, p23, p24, _⟩ := five_cells P2; obtain ⟨p30, p31, p32, p33, p34, _⟩ := five_cells P3; obtain ⟨p40, p41, p42, p43, p44, _⟩ := five_cells P4; obtain ⟨p50, p51, p52, p53, p54, _⟩ := five_cells P5; obtain ⟨p60, p61, p62, p63, p64, _⟩ := five_cells P6; obtain ⟨p70, p71, p72, p73, p74, _⟩ := five_cells P7; obtain ⟨p80, p81, p82, p83, p84, _⟩ := five_cells P8; clear hE))
  clear k1 k2 hn1 hn2 hn3 hb1 hb2 hb3 P3 P4 P5 P6 P7 P8
  go_upto_region 9 with fail
  obtain ⟨p10, p11, p12, p13, p14, _⟩ := five_cells P1
  obtain ⟨p20, p21, p22, p23, p24, _⟩ := five_cells P2
  go_upto_region 10 with (go_at_call 21; refine (p_divMod s1 s2 a1 b1 c1 d1 a2 b2 c2 d2 x1 x2 _ K1.out K2.out).mono ?_; rintro e y9 ⟨s9, a9, b9, c9, d9, s10, a10, b10, c10, d10, o9, rfl, ho, C9, C10, hE⟩; have Ho9 := hide ho; have P1 := P1.ext hE; have P2 := P2.ext hE; have EE := hide (EE.out.trans hE); clear hE ho)
  have H2 := two_blocks y9 (.cells #[.bool s9, .int .u64 (a9 : Int), .int .u64 (b9 : Int), .int .u64 (c9 : Int), .int .u64 (d9 : Int)] 25) (.cells #[.bool s10, .int .u64 (a10 : Int), .int .u64 (b10 : Int), .int .u64 (c10 : Int), .int .u64 (d10 : Int)] 25)
  have hE := (ext_alloc y9 (.cells #[.bool s9, .int .u64 (a9 : Int), .int .u64 (b9 : Int), .int .u64 (c9 : Int), .int .u64 (d9 : Int)] 25)).trans (ext_alloc _ (.cells #[.bool s10, .int .u64 (a10 : Int), .int .u64 (b10 : Int), .int .u64 (c10 : Int), .int .u64 (d10 : Int)] 25))
  have P1 := P1.ext hE
  have P2 := P2.ext hE
  have EE := hide (EE.out.trans hE)
  clear hE
  obtain ⟨W9, hW⟩ : ∃ W, W = (y9.alloc (.cells #[.bool s9, .int .u64 (a9 : Int), .int .u64 (b9 : Int), .int .u64 (c9 : Int), .int .u64 (d9 : Int)] 25)).alloc (.cells #[.bool s10, .int .u64 (a10 : Int), .int .u64 (b10 : Int), .int .u64 (c10 : Int), .int .u64 (d10 : Int)] 25) := ⟨_, rfl⟩
  rw [← hW] at H2 EE P1 P2 ⊢
  obtain ⟨g9, hg⟩ : ∃ g, y9.heap.size = g := ⟨_, rfl⟩
  rw [hg] at H2 ⊢
  obtain ⟨P9, P10⟩ : Box W9 g9 s9 a9 b9 c9 d9 ∧ Box W9 (g9 + 1) s10 a10 b10 c10 d10 := H2
  clear hW hg
  clear p10 p11 p12 p13 p14 p20 p21 p22 p23 p24
  have K9 := hide C9
  have K10 := hide C10
  clear C9 C10
  obtain ⟨p10, p11, p12, p13, p14, _⟩ := five_cells P1
  obtain ⟨p20, p21, p22, p23, p24, _⟩ := five_cells P2
  go_upto_region 11 with (go_at_call 37; refine (ref_wdiv s1 s2 a1 b1 c1 d1 a2 b2 c2 d2 x1 x2 _ K1.out K2.out).mono ?_; rintro e y11 ⟨s11, a11, b11, c11, d11, s12, a12, b12, c12, d12, o11, rfl, ho, C11, C12, hE⟩; have Ho11 := hide ho; have P1 := P1.ext hE; have P2 := P2.ext hE; have P9 := P9.ext hE; have P10 := P10.ext hE; have EE := hide (EE.out.trans hE); clear hE ho)
  have H2 := two_blocks y11 (.cells #[.bool s11, .int .u64 (a11 : Int), .int .u64 (b11 : Int), .int .u64 (c11 : Int), .int .u64 (d11 : Int)] 25) (.cells #[.bool s12, .int .u64 (a12 : Int), .int .u64 (b12 : Int), .int .u64 (c12 : Int), .int .u64 (d12 : Int)] 25)
  have hE := (ext_alloc y11 (.cells #[.bool s11, .int .u64 (a11 : Int), .int .u64 (b11 : Int), .int .u64 (c11 : Int), .int .u64 (d11 : Int)] 25)).trans (ext_alloc _ (.cells #[.bool s12, .int .u64 (a12 : Int), .int .u64 (b12 : Int), .int .u64 (c12 : Int), .int .u64 (d12 : Int)] 25))
  have P1 := P1.ext hE
  have P2 := P2.ext hE
  have P9 := P9.ext hE
  have P10 := P10.ext hE
  have EE := hide (EE.out.trans hE)
  clear hE
  obtain ⟨W11, hW⟩ : ∃ W, W = (y11.alloc (.cells #[.bool s11, .int .u64 (a11 : Int), .int .u64 (b11 : Int), .int .u64 (c11 : Int), .int .u64 (d11 : Int)] 25)).alloc (.cells #[.bool s12, .int .u64 (a12 : Int), .int .u64 (b12 : Int), .int .u64 (c12 : Int), .int .u64 (d12 : Int)] 25) := ⟨_, rfl⟩
  rw [← hW] at H2 EE P1 P2 P9 P10 ⊢
  obtain ⟨g11, hg⟩ : ∃ g, y11.heap.size = g := ⟨_, rfl⟩
  rw [hg] at H2 ⊢
  obtain ⟨P11, P12⟩ : Box W11 g11 s11 a11 b11 c11 d11 ∧ Box W11 (g11 + 1) s12 a12 b12 c12 d12 := H2
  clear hW hg
  clear p10 p11 p12 p13 p14 p20 p21 p22 p23 p24
  have Ho11 := Ho11.out
  rw [← Ho9.out] at Ho11
  have Ho11 := Ho11.symm
  subst Ho11
  obtain ⟨rfl, rfl, rfl, rfl, rfl⟩ := K9.out.uniq C11
  obtain ⟨rfl, rfl, rfl, rfl, rfl⟩ := K10.out.uniq C12
  clear C11 C12 K9 K10 Ho9
  obtain ⟨ri, hri⟩ : ∃ r, (if -9223372036854775808 ≤ x1 ∧ x1 ≤ 9223372036854775807 then x1 else 0) = r := ⟨_, rfl⟩
  obtain ⟨oi, hoi⟩ : ∃ o, decide (-9223372036854775808 ≤ x1 ∧ x1 ≤ 9223372036854775807) = o := ⟨_, rfl⟩
  obtain ⟨ru, hru⟩ : ∃ r, (if 0 ≤ x1 ∧ x1 < 18446744073709551616 then x1 else 0) = r := ⟨_, rfl⟩
  obtain ⟨ou, hou⟩ : ∃ o, decide (0 ≤ x1 ∧ x1 < 18446744073709551616) = o := ⟨_, rfl⟩
  obtain ⟨ov, hov⟩ : ∃ o, (!s1 || decide (x1 ≠ 0)) = o := ⟨_, rfl⟩
  obtain ⟨sg, hsg⟩ : ∃ r, x1.sign = r := ⟨_, rfl⟩
  obtain ⟨s13, a13, b13, c13, d13, C13⟩ := isC_some (-x1) (by rw [Int.natAbs_neg]; exact isW_fits K1.out)
  have k1 : Hid (∀ w, Calls Tryd.prog 14 #[.agg #[.bool s1, .int .u64 (a1 : Int), .int .u64 (b1 : Int), .int .u64 (c1 : Int), .int .u64 (d1 : Int)]] w (PairRet .i64 ri oi w)) := fun w => by rw [← hri, ← hoi]; exact p_int64 _ _ _ _ _ _ w K1.out
  have k2 : Hid (∀ w, Calls Tryd.prog 38 #[.agg #[.bool s1, .int .u64 (a1 : Int), .int .u64 (b1 : Int), .int .u64 (c1 : Int), .int .u64 (d1 : Int)]] w (PairRet .i64 ri oi w)) := fun w => by rw [← hri, ← hoi]; exact ref_int64 _ _ _ _ _ _ w K1.out
  have k3 : Hid (∀ w, Calls Tryd.prog 15 #[.agg #[.bool s1, .int .u64 (a1 : Int), .int .u64 (b1 : Int), .int .u64 (c1 : Int), .int .u64 (d1 : Int)]] w (PairRet .u64 ru ou w)) := fun w => by rw [← hru, ← hou]; exact p_unsigned _ _ _ _ _ _ w K1.out
  have k4 : Hid (∀ w, Calls Tryd.prog 39 #[.agg #[.bool s1, .int .u64 (a1 : Int), .int .u64 (b1 : Int), .int .u64 (c1 : Int), .int .u64 (d1 : Int)]] w (PairRet .u64 ru ou w)) := fun w => by rw [← hru, ← hou]; exact ref_unsigned _ _ _ _ _ _ w K1.out
  have k5 : Hid (∀ w, Calls Tryd.prog 32 #[.agg #[.bool s1, .int .u64 (a1 : Int), .int .u64 (b1 : Int), .int .u64 (c1 : Int), .int .u64 (d1 : Int)]] w (BoolRet ov w)) := fun w => by rw [← hov]; exact p_valid _ _ _ _ _ _ w K1.out
  have k6 : Hid (∀ w, Calls Tryd.prog 40 #[.agg #[.bool s1, .int .u64 (a1 : Int), .int .u64 (b1 : Int), .int .u64 (c1 : Int), .int .u64 (d1 : Int)]] w (BoolRet ov w)) := fun w => by rw [← hov]; exact ref_valid _ _ _ _ _ _ w K1.out
  have k7 : Hid (∀ w, Calls Tryd.prog 22 #[.agg #[.bool s1, .int .u64 (a1 : Int), .int .u64 (b1 : Int), .int .u64 (c1 : Int), .int .u64 (d1 : Int)]] w (IntRet .i64 sg w)) := fun w => by rw [← hsg]; exact p_sign _ _ _ _ _ _ w K1.out
  have k8 : Hid (∀ w, Calls Tryd.prog 41 #[.agg #[.bool s1, .int .u64 (a1 : Int), .int .u64 (b1 : Int), .int .u64 (c1 : Int), .int .u64 (d1 : Int)]] w (IntRet .i64 sg w)) := fun w => by rw [← hsg]; exact ref_sign _ _ _ _ _ _ w K1.out
  have k9 : Hid (∀ w, Calls Tryd.prog 42 #[.agg #[.bool s1, .int .u64 (a1 : Int), .int .u64 (b1 : Int), .int .u64 (c1 : Int), .int .u64 (d1 : Int)]] w (fun e w' => e = .returned (.agg #[.bool s13, .int .u64 (a13 : Int), .int .u64 (b13 : Int), .int .u64 (c13 : Int), .int .u64 (d13 : Int)]) ∧ Ext w w')) := fun w => (p_neg _ _ _ _ _ _ w K1.out).mono fun _ _ h => of_fix C13 h
  have k10 : Hid (∀ w, Calls Tryd.prog 31 #[.agg #[.bool s1, .int .u64 (a1 : Int), .int .u64 (b1 : Int), .int .u64 (c1 : Int), .int .u64 (d1 : Int)]] w (fun e w' => e = .returned (.agg #[.bool s13, .int .u64 (a13 : Int), .int .u64 (b13 : Int), .int .u64 (c13 : Int), .int .u64 (d13 : Int)]) ∧ Ext w w')) := fun w => (ref_neg _ _ _ _ _ _ w K1.out).mono fun _ _ h => of_fix C13 h
  clear hri hoi hru hou hov hsg C13 P2
  obtain ⟨p10, p11, p12, p13, p14, _⟩ := five_cells P1
  go_upto_region 15 with (first
    | (go_at_call 14; (with_reducible refine (k1.out _).mono ?_); rintro e q1 ⟨rfl, hE⟩; have P1 := P1.ext hE; have P9 := P9.ext hE; have P10 := P10.ext hE; have P11 := P11.ext hE; have P12 := P12.ext hE; have EE := hide (EE.out.trans hE); obtain ⟨p10, p11, p12, p13, p14, _⟩ := five_cells P1; clear hE)
    | (go_at_call 38; (with_reducible refine (k2.out _).mono ?_); rintro e q2 ⟨rfl, hE⟩; have P1 := P1.ext hE; have P9 := P9.ext hE; have P10 := P10.ext hE; have P11 := P11.ext hE; have P12 := P12.ext hE; have EE := hide (EE.out.trans hE); obtain ⟨p10, p11, p12, p13, p14, _⟩ := five_cells P1; clear hE)
    | (go_at_call 15; (with_reducible refine (k3.out _).mono ?_); rintro e q3 ⟨rfl, hE⟩; have P1 := P1.ext hE; have P9 := P9.ext hE; have P10 := P10.ext hE; have P11 := P11.ext hE; have P12 := P12.ext hE; have EE := hide (EE.out.trans hE); obtain ⟨p10, p11, p12, p13, p14, _⟩ := five_cells P1; clear hE)
    | (go_at_call 39; (with_reducible refine (k4.out _).mono ?_); rintro e q4 ⟨rfl, hE⟩; have P1 := P1.ext hE; have P9 := P9.ext hE; have P10 := P10.ext hE; have P11 := P11.ext hE; have P12 := P12.ext hE; have EE := hide (EE.out.trans hE); obtain ⟨p10, p11, p12, p13, p14, _⟩ := five_cells P1; clear hE))
  have he1 := eq_same' s9 a9 b9 c9 d9
  have he2 := eq_same' s10 a10 b10 c10 d10
  have he3 := eq_same' s13 a13 b13 c13 d13
  obtain ⟨p10, p11, p12, p13, p14, _⟩ := five_cells P1
  obtain ⟨p90, p91, p92, p93, p94, _⟩ := five_cells P9
  obtain ⟨p100, p101, p102, p103, p104, _⟩ := five_cells P10
  obtain ⟨p110, p111, p112, p113, p114, _⟩ := five_cells P11
  obtain ⟨p120, p121, p122, p123, p124, _⟩ := five_cells P12
  go_region_held3 (fun w' => w'.cell? ⟨g, 0, none⟩ = some (.bool s1) ∧ w'.cell? ⟨g, 1, none⟩ = some (.int .u64 (a1 : Int)) ∧ w'.cell? ⟨g, 2, none⟩ = some (.int .u64 (b1 : Int)) ∧ w'.cell? ⟨g, 3, none⟩ = some (.int .u64 (c1 : Int)) ∧ w'.cell? ⟨g, 4, none⟩ = some (.int .u64 (d1 : Int)) ∧ w'.cell? ⟨g9, 0, none⟩ = some (.bool s9) ∧ w'.cell? ⟨g9, 1, none⟩ = some (.int .u64 (a9 : Int)) ∧ w'.cell? ⟨g9, 2, none⟩ = some (.int .u64 (b9 : Int)) ∧ w'.cell? ⟨g9, 3, none⟩ = some (.int .u64 (c9 : Int)) ∧ w'.cell? ⟨g9, 4, none⟩ = some (.int .u64 (d9 : Int)) ∧ w'.cell? ⟨g9 + 1, 0, none⟩ = some (.bool s10) ∧ w'.cell? ⟨g9 + 1, 1, none⟩ = some (.int .u64 (a10 : Int)) ∧ w'.cell? ⟨g9 + 1, 2, none⟩ = some (.int .u64 (b10 : Int)) ∧ w'.cell? ⟨g9 + 1, 3, none⟩ = some (.int .u64 (c10 : Int)) ∧ w'.cell? ⟨g9 + 1, 4, none⟩ = some (.int .u64 (d10 : Int)) ∧ w'.cell? ⟨g11, 0, none⟩ = some (.bool s9) ∧ w'.cell? ⟨g11, 1, none⟩ = some (.int .u64 (a9 : Int)) ∧ w'.cell? ⟨g11, 2, none⟩ = some (.int .u64 (b9 : Int)) ∧ w'.cell? ⟨g11, 3, none⟩ = some (.int .u64 (c9 : Int)) ∧ w'.cell? ⟨g11, 4, none⟩ = some (.int .u64 (d9 : Int)) ∧ w'.cell? ⟨g11 + 1, 0, none⟩ = some (.bool s10) ∧ w'.cell? ⟨g11 + 1, 1, none⟩ = some (.int .u64 (a10 : Int)) ∧ w'.cell? ⟨g11 + 1, 2, none⟩ = some (.int .u64 (b10 : Int)) ∧ w'.cell? ⟨g11 + 1, 3, none⟩ = some (.int .u64 (c10 : Int)) ∧ w'.cell? ⟨g11 + 1, 4, none⟩ = some (.int .u64 (d10 : Int))) (first | (with_reducible exact ⟨p10, p11, p12, p13, p14, p90, p91, p92, p93, p94, p100, p101, p102, p103, p104, p110, p111, p112, p113, p114, p120, p121, p122, p123, p124⟩) | go_keep) (first
    | (go_at_call 32; (with_reducible refine (k5.out _).mono ?_); rintro e z5 ⟨rfl, hE⟩; have P1 : Box z5 g s1 a1 b1 c1 d1 := (by first | exact P1.ext hE | exact P1.drew.ext hE); have P9 : Box z5 g9 s9 a9 b9 c9 d9 := (by first | exact P9.ext hE | exact P9.drew.ext hE); have P10 : Box z5 (g9 + 1) s10 a10 b10 c10 d10 := (by first | exact P10.ext hE | exact P10.drew.ext hE); have P11 : Box z5 g11 s9 a9 b9 c9 d9 := (by first | exact P11.ext hE | exact P11.drew.ext hE); have P12 : Box z5 (g11 + 1) s10 a10 b10 c10 d10 := (by first | exact P12.ext hE | exact P12.drew.ext hE); have EE : Hid (Ext w z5) := (by first | exact hide (EE.out.trans hE) | exact hide ((EE.out.trans (ext_drew _)).trans hE)); obtain ⟨p10, p11, p12, p13, p14, _⟩ := five_cells P1; obtain ⟨p90, p91, p92, p93, p94, _⟩ := five_cells P9; obtain ⟨p100, p101, p102, p103, p104, _⟩ := five_cells P10; obtain ⟨p110, p111, p112, p113, p114, _⟩ := five_cells P11; obtain ⟨p120, p121, p122, p123, p124, _⟩ := five_cells P12; clear hE)
    | (go_at_call 40; (with_reducible refine (k6.out _).mono ?_); rintro e z6 ⟨rfl, hE⟩; have P1 : Box z6 g s1 a1 b1 c1 d1 := (by first | exact P1.ext hE | exact P1.drew.ext hE); have P9 : Box z6 g9 s9 a9 b9 c9 d9 := (by first | exact P9.ext hE | exact P9.drew.ext hE); have P10 : Box z6 (g9 + 1) s10 a10 b10 c10 d10 := (by first | exact P10.ext hE | exact P10.drew.ext hE); have P11 : Box z6 g11 s9 a9 b9 c9 d9 := (by first | exact P11.ext hE | exact P11.drew.ext hE); have P12 : Box z6 (g11 + 1) s10 a10 b10 c10 d10 := (by first | exact P12.ext hE | exact P12.drew.ext hE); have EE : Hid (Ext w z6) := (by first | exact hide (EE.out.trans hE) | exact hide ((EE.out.trans (ext_drew _)).trans hE)); obtain ⟨p10, p11, p12, p13, p14, _⟩ := five_cells P1; obtain ⟨p90, p91, p92, p93, p94, _⟩ := five_cells P9; obtain ⟨p100, p101, p102, p103, p104, _⟩ := five_cells P10; obtain ⟨p110, p111, p112, p113, p114, _⟩ := five_cells P11; obtain ⟨p120, p121, p122, p123, p124, _⟩ := five_cells P12; clear hE)
    | (go_at_call 22; (with_reducible refine (k7.out _).mono ?_); rintro e z7 ⟨rfl, hE⟩; have P1 : Box z7 g s1 a1 b1 c1 d1 := (by first | exact P1.ext hE | exact P1.drew.ext hE); have P9 : Box z7 g9 s9 a9 b9 c9 d9 := (by first | exact P9.ext hE | exact P9.drew.ext hE); have P10 : Box z7 (g9 + 1) s10 a10 b10 c10 d10 := (by first | exact P10.ext hE | exact P10.drew.ext hE); have P11 : Box z7 g11 s9 a9 b9 c9 d9 := (by first | exact P11.ext hE | exact P11.drew.ext hE); have P12 : Box z7 (g11 + 1) s10 a10 b10 c10 d10 := (by first | exact P12.ext hE | exact P12.drew.ext hE); have EE : Hid (Ext w z7) := (by first | exact hide (EE.out.trans hE) | exact hide ((EE.out.trans (ext_drew _)).trans hE)); obtain ⟨p10, p11, p12, p13, p14, _⟩ := five_cells P1; obtain ⟨p90, p91, p92, p93, p94, _⟩ := five_cells P9; obtain ⟨p100, p101, p102, p103, p104, _⟩ := five_cells P10; obtain ⟨p110, p111, p112, p113, p114, _⟩ := five_cells P11; obtain ⟨p120, p121, p122, p123, p124, _⟩ := five_cells P12; clear hE)
    | (go_at_call 41; (with_reducible refine (k8.out _).mono ?_); rintro e z8 ⟨rfl, hE⟩; have P1 : Box z8 g s1 a1 b1 c1 d1 := (by first | exact P1.ext hE | exact P1.drew.ext hE); have P9 : Box z8 g9 s9 a9 b9 c9 d9 := (by first | exact P9.ext hE | exact P9.drew.ext hE); have P10 : Box z8 (g9 + 1) s10 a10 b10 c10 d10 := (by first | exact P10.ext hE | exact P10.drew.ext hE); have P11 : Box z8 g11 s9 a9 b9 c9 d9 := (by first | exact P11.ext hE | exact P11.drew.ext hE); have P12 : Box z8 (g11 + 1) s10 a10 b10 c10 d10 := (by first | exact P12.ext hE | exact P12.drew.ext hE); have EE : Hid (Ext w z8) := (by first | exact hide (EE.out.trans hE) | exact hide ((EE.out.trans (ext_drew _)).trans hE)); obtain ⟨p10, p11, p12, p13, p14, _⟩ := five_cells P1; obtain ⟨p90, p91, p92, p93, p94, _⟩ := five_cells P9; obtain ⟨p100, p101, p102, p103, p104, _⟩ := five_cells P10; obtain ⟨p110, p111, p112, p113, p114, _⟩ := five_cells P11; obtain ⟨p120, p121, p122, p123, p124, _⟩ := five_cells P12; clear hE)
    | (go_at_call 42; (with_reducible refine (k9.out _).mono ?_); rintro e z9 ⟨rfl, hE⟩; have P1 : Box z9 g s1 a1 b1 c1 d1 := (by first | exact P1.ext hE | exact P1.drew.ext hE); have P9 : Box z9 g9 s9 a9 b9 c9 d9 := (by first | exact P9.ext hE | exact P9.drew.ext hE); have P10 : Box z9 (g9 + 1) s10 a10 b10 c10 d10 := (by first | exact P10.ext hE | exact P10.drew.ext hE); have P11 : Box z9 g11 s9 a9 b9 c9 d9 := (by first | exact P11.ext hE | exact P11.drew.ext hE); have P12 : Box z9 (g11 + 1) s10 a10 b10 c10 d10 := (by first | exact P12.ext hE | exact P12.drew.ext hE); have EE : Hid (Ext w z9) := (by first | exact hide (EE.out.trans hE) | exact hide ((EE.out.trans (ext_drew _)).trans hE)); obtain ⟨p10, p11, p12, p13, p14, _⟩ := five_cells P1; obtain ⟨p90, p91, p92, p93, p94, _⟩ := five_cells P9; obtain ⟨p100, p101, p102, p103, p104, _⟩ := five_cells P10; obtain ⟨p110, p111, p112, p113, p114, _⟩ := five_cells P11; obtain ⟨p120, p121, p122, p123, p124, _⟩ := five_cells P12; clear hE)
    | (go_at_call 31; (with_reducible refine (k10.out _).mono ?_); rintro e z10 ⟨rfl, hE⟩; have P1 : Box z10 g s1 a1 b1 c1 d1 := (by first | exact P1.ext hE | exact P1.drew.ext hE); have P9 : Box z10 g9 s9 a9 b9 c9 d9 := (by first | exact P9.ext hE | exact P9.drew.ext hE); have P10 : Box z10 (g9 + 1) s10 a10 b10 c10 d10 := (by first | exact P10.ext hE | exact P10.drew.ext hE); have P11 : Box z10 g11 s9 a9 b9 c9 d9 := (by first | exact P11.ext hE | exact P11.drew.ext hE); have P12 : Box z10 (g11 + 1) s10 a10 b10 c10 d10 := (by first | exact P12.ext hE | exact P12.drew.ext hE); have EE : Hid (Ext w z10) := (by first | exact hide (EE.out.trans hE) | exact hide ((EE.out.trans (ext_drew _)).trans hE)); obtain ⟨p10, p11, p12, p13, p14, _⟩ := five_cells P1; obtain ⟨p90, p91, p92, p93, p94, _⟩ := five_cells P9; obtain ⟨p100, p101, p102, p103, p104, _⟩ := five_cells P10; obtain ⟨p110, p111, p112, p113, p114, _⟩ := five_cells P11; obtain ⟨p120, p121, p122, p123, p124, _⟩ := five_cells P12; clear hE))
  all_goals go_wp2_with fail
  all_goals go_ret
  all_goals exact ⟨rfl, EE.out⟩
end Go.Proofs.YtkhlhlldlikleaaDoor
