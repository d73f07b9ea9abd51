/- The laws' sanity check: it returns true. Conditions: the table of the powers of ten lies in the world. -/
import Derived.Test.YtkhlhlldlikleaaDoorForD
namespace Go.Proofs.YtkhlhlldlikleaaDoor
set_option linter.unusedVariables false
set_option linter.unusedSimpArgs false
open Go Go.RowKit Go.Sort Go.Lib
set_option maxRecDepth 100000 in
set_option maxHeartbeats 4000000 in
theorem p_known (w : World) (hT : Tab w) : Calls Tryd.prog 11 #[] w (BoolRet true w) := by
  have q1 := eq5 true true 4 0 0 0 4 0 0 0
  have q2 := eq5 false false 1 0 0 0 1 0 0 0
  simp only [beq_self_eq_true, Bool.and_self] at q1 q2
  have E0 := Ext.refl w
  go_enter Tryd.func11, Tryd.ntmps11
  go_upto_region 2 with (first
    | (go_at_call 13; refine (p_ofi _ _ (by omega) (by omega)).mono ?_; rintro e w1 ⟨s1, a1, b1, c1, d1, rfl, hC1, hE⟩; (first | (obtain ⟨rfl, rfl, rfl, rfl, rfl⟩ := (IsC.uniq cm3 hC1))); clear hC1; have E0 := (by first | exact E0.trans hE | exact (E0.trans (ext_drew _)).trans hE); clear hE)
    | (go_at_call 16; refine (k_63 _).mono ?_; rintro e w2 ⟨rfl, hE⟩; have E0 := (by first | exact E0.trans hE | exact (E0.trans (ext_drew _)).trans hE); clear hE)
    | (go_at_call 20; refine (k_mul _).mono ?_; rintro e w3 ⟨rfl, hE⟩; have E0 := (by first | exact E0.trans hE | exact (E0.trans (ext_drew _)).trans hE); clear hE))
  have B1 : Box (w3.alloc (.cells #[.bool true, .int .u64 9223372036854775808, .int .u64 1, .int .u64 0, .int .u64 0] 25)) w3.heap.size true 9223372036854775808 1 0 0 := Array.getElem?_push_size
  have E0 := E0.trans (ext_alloc w3 (.cells #[.bool true, .int .u64 9223372036854775808, .int .u64 1, .int .u64 0, .int .u64 0] 25))
  have l1 := B1.lt
  generalize w3.alloc (.cells #[.bool true, .int .u64 9223372036854775808, .int .u64 1, .int .u64 0, .int .u64 0] 25) = W3 at *
  generalize w3.heap.size = g1 at *
  go_upto_region 3 with (first
    | (go_at_call 13; refine (p_ofi _ _ (by omega) (by omega)).mono ?_; rintro e w1 ⟨s1, a1, b1, c1, d1, rfl, hC1, hE⟩; (first | (obtain ⟨rfl, rfl, rfl, rfl, rfl⟩ := (IsC.uniq cm7 hC1)) | (obtain ⟨rfl, rfl, rfl, rfl, rfl⟩ := (IsC.uniq c2 hC1))); clear hC1; have E0 := (by first | exact E0.trans hE | exact (E0.trans (ext_drew _)).trans hE); have B1 := (by first | exact B1.ext hE | exact B1.drew.ext hE); clear hE)
    | (go_at_call 21; refine (k_div _).mono ?_; rintro e w4 ⟨rfl, hE⟩; have E0 := (by first | exact E0.trans hE | exact (E0.trans (ext_drew _)).trans hE); have B1 := (by first | exact B1.ext hE | exact B1.drew.ext hE); clear hE))
  have l1 := B1.lt
  have B2 := two_blocks w4 (.cells #[.bool true, .int .u64 4, .int .u64 0, .int .u64 0, .int .u64 0] 25) (.cells #[.bool false, .int .u64 1, .int .u64 0, .int .u64 0, .int .u64 0] 25)
  have E4 := (ext_alloc w4 (.cells #[.bool true, .int .u64 4, .int .u64 0, .int .u64 0, .int .u64 0] 25)).trans (ext_alloc _ (.cells #[.bool false, .int .u64 1, .int .u64 0, .int .u64 0, .int .u64 0] 25))
  have B1 := B1.ext E4
  have E0 := E0.trans E4
  have B3 : Box ((w4.alloc (.cells #[.bool true, .int .u64 4, .int .u64 0, .int .u64 0, .int .u64 0] 25)).alloc (.cells #[.bool false, .int .u64 1, .int .u64 0, .int .u64 0, .int .u64 0] 25)) w4.heap.size true 4 0 0 0 := B2.1
  have B4 : Box ((w4.alloc (.cells #[.bool true, .int .u64 4, .int .u64 0, .int .u64 0, .int .u64 0] 25)).alloc (.cells #[.bool false, .int .u64 1, .int .u64 0, .int .u64 0, .int .u64 0] 25)) (w4.heap.size + 1) false 1 0 0 0 := B2.2
  clear B2 E4
  generalize (w4.alloc (.cells #[.bool true, .int .u64 4, .int .u64 0, .int .u64 0, .int .u64 0] 25)).alloc (.cells #[.bool false, .int .u64 1, .int .u64 0, .int .u64 0, .int .u64 0] 25) = W4 at *
  generalize w4.heap.size = g3 at *
  clear l1
  obtain ⟨c0, c1', c2', c3, c4, f0, f1, f2, f3, f4⟩ := five_cells B1
  obtain ⟨d0, d1', d2, d3, d4, g0, g1', g2, g3', g4⟩ := five_cells B3
  obtain ⟨i0, i1, i2, i3, i4, j0, j1, j2, j3, j4⟩ := five_cells B4
  go_region_held3 (fun w' => w'.cell? ⟨g1, 0, none⟩ = some (.bool true) ∧ w'.cell? ⟨g1, 1, none⟩ = some (.int .u64 9223372036854775808) ∧ w'.cell? ⟨g1, 2, none⟩ = some (.int .u64 1) ∧ w'.cell? ⟨g1, 3, none⟩ = some (.int .u64 0) ∧ w'.cell? ⟨g1, 4, none⟩ = some (.int .u64 0) ∧ w'.cell? ⟨g3, 0, none⟩ = some (.bool true) ∧ w'.cell? ⟨g3, 1, none⟩ = some (.int .u64 4) ∧ w'.cell? ⟨g3, 2, none⟩ = some (.int .u64 0) ∧ w'.cell? ⟨g3, 3, none⟩ = some (.int .u64 0) ∧ w'.cell? ⟨g3, 4, none⟩ = some (.int .u64 0) ∧ w'.cell? ⟨g3 + 1, 0, none⟩ = some (.bool false) ∧ w'.cell? ⟨g3 + 1, 1, none⟩ = some (.int .u64 1) ∧ w'.cell? ⟨g3 + 1, 2, none⟩ = some (.int .u64 0) ∧ w'.cell? ⟨g3 + 1, 3, none⟩ = some (.int .u64 0) ∧ w'.cell? ⟨g3 + 1, 4, none⟩ = some (.int .u64 0)) (first | (with_reducible exact ⟨c0, c1', c2', c3, c4, d0, d1', d2, d3, d4, i0, i1, i2, i3, i4⟩) | go_keep) (first
    | (go_at_call 25; refine (k_text _ (by first | exact hT.ext (E0.trans (ext_drew _)) | exact hT.ext E0)).mono ?_; rintro e w5 ⟨rfl, hE⟩; have X1 : Box w5 g1 true 9223372036854775808 1 0 0 := (by first | exact B1.drew.ext hE | exact B1.ext hE); have X3 : Box w5 g3 true 4 0 0 0 := (by first | exact B3.drew.ext hE | exact B3.ext hE); have X4 : Box w5 (g3 + 1) false 1 0 0 0 := (by first | exact B4.drew.ext hE | exact B4.ext hE); have XE : Ext w w5 := (by first | exact (E0.trans (ext_drew _)).trans hE | exact (E0).trans hE); obtain ⟨c0, c1', c2', c3, c4, f0, f1, f2, f3, f4⟩ := five_cells X1; obtain ⟨d0, d1', d2, d3, d4, g0, g1', g2, g3', g4⟩ := five_cells X3; obtain ⟨i0, i1, i2, i3, i4, j0, j1, j2, j3, j4⟩ := five_cells X4; clear hE)
    | (go_at_call 13; refine (p_ofi _ _ (by omega) (by omega)).mono ?_; rintro e w6 ⟨s1, a1, b1, c1, d1, rfl, hC1, hE⟩; (first | (obtain ⟨rfl, rfl, rfl, rfl, rfl⟩ := (IsC.uniq cm4 hC1)) | (obtain ⟨rfl, rfl, rfl, rfl, rfl⟩ := (IsC.uniq Go.Proofs.YtkhlhlldlikleaaDoor.c1 hC1))); clear hC1; have Y1 : Box w6 g1 true 9223372036854775808 1 0 0 := (by first | exact Y1.ext hE | exact X1.ext hE); have Y3 : Box w6 g3 true 4 0 0 0 := (by first | exact Y3.ext hE | exact X3.ext hE); have Y4 : Box w6 (g3 + 1) false 1 0 0 0 := (by first | exact Y4.ext hE | exact X4.ext hE); have YE : Ext w w6 := (by first | exact (YE).trans hE | exact (XE).trans hE); obtain ⟨c0, c1', c2', c3, c4, f0, f1, f2, f3, f4⟩ := five_cells Y1; obtain ⟨d0, d1', d2, d3, d4, g0, g1', g2, g3', g4⟩ := five_cells Y3; obtain ⟨i0, i1, i2, i3, i4, j0, j1, j2, j3, j4⟩ := five_cells Y4; clear hE)
    | (go_at_call 32; refine (k_valid _).mono ?_; rintro e w7 ⟨rfl, hE⟩; have Z1 : Box w7 g1 true 9223372036854775808 1 0 0 := (by first | exact Y1.ext hE); have Z3 : Box w7 g3 true 4 0 0 0 := (by first | exact Y3.ext hE); have Z4 : Box w7 (g3 + 1) false 1 0 0 0 := (by first | exact Y4.ext hE); have ZE : Ext w w7 := (by first | exact (YE).trans hE); obtain ⟨c0, c1', c2', c3, c4, f0, f1, f2, f3, f4⟩ := five_cells Z1; obtain ⟨d0, d1', d2, d3, d4, g0, g1', g2, g3', g4⟩ := five_cells Z3; obtain ⟨i0, i1, i2, i3, i4, j0, j1, j2, j3, j4⟩ := five_cells Z4; clear hE))
  all_goals go_wp2_with fail
  all_goals go_ret
  all_goals exact ⟨rfl, ZE⟩
end Go.Proofs.YtkhlhlldlikleaaDoor
