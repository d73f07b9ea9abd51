/- The law WideTexts, walked. Conditions: the arguments are an integer, a number and a list of numbers of 64 bits; the table of the powers of ten lies in the world. -/
import Derived.Test.YtkhlhlldlikleaaDoorEqs
import Derived.Test.YtkhlhlldlikleaaDoorTxtA
import Derived.Test.YtkhlhlldlikleaaDoorForE
namespace Go.Proofs.YtkhlhlldlikleaaDoor
set_option linter.unusedVariables false
set_option linter.unusedSimpArgs false
open Go Go.RowKit Go.Lib
set_option maxRecDepth 1000000 in
set_option maxHeartbeats 16000000 in
theorem law_texts (s1 : Bool) (a1 b1 c1 d1 : Nat) (x1 v : Int) (x : Option Addr) (len cap : Nat) (W : World) (hx1 : IsW s1 a1 b1 c1 d1 x1) (hv : I64 v) (hL : IsList W x len cap) (hT : Tab W) :
    Calls Tryd.prog 8 #[.agg #[.bool s1, .int .u64 (a1 : Int), .int .u64 (b1 : Int), .int .u64 (c1 : Int), .int .u64 (d1 : Int)], .int .i64 v, .slice x len cap] W (BoolRet true W) := by
  have P1 : Box (W.alloc (.cells #[.bool s1, .int .u64 (a1 : Int), .int .u64 (b1 : Int), .int .u64 (c1 : Int), .int .u64 (d1 : Int)] 25)) W.heap.size s1 a1 b1 c1 d1 := heap_alloc_new W _
  have EE := hide (ext_alloc W (.cells #[.bool s1, .int .u64 (a1 : Int), .int .u64 (b1 : Int), .int .u64 (c1 : Int), .int .u64 (d1 : Int)] 25))
  obtain ⟨W0, hW0⟩ : ∃ W0, W0 = W.alloc (.cells #[.bool s1, .int .u64 (a1 : Int), .int .u64 (b1 : Int), .int .u64 (c1 : Int), .int .u64 (d1 : Int)] 25) := ⟨_, rfl⟩
  rw [← hW0] at P1 EE
  obtain ⟨g, hg⟩ : ∃ g, W.heap.size = g := ⟨_, rfl⟩
  rw [hg] at P1
  have K1 := hide hx1
  have HL := hide (hL.ext EE.out)
  have HT := hide hT
  have HW0 := hide hW0
  have HG := hide hg
  obtain ⟨v1, v2⟩ := hv
  clear hx1 hW0 hg hL hT
  go_enter Tryd.func8, Tryd.ntmps8
  go_upto_region 1 with fail
  rw [← HW0.out, HG.out]
  clear HW0
  have hg1 := P1.lt
  go_upto_region 2 with (first
    | (go_at_call 9; refine (t_new W0 x len cap HL.out).mono ?_; rintro e w1 ⟨rfl, T0, hB⟩; have P1 := P1.ext hB; have EE := hide (EE.out.trans hB))
    | (go_at_call 10; refine (t_wide W0.heap.size W0.heap.size _ _ T0 (Upd.refl _ _)).mono ?_; rintro e w2 ⟨s2, a2, b2, c2, d2, x2, rfl, C2, T1, hU⟩; have P1 := P1.upd hU (Nat.ne_of_lt hg1); have EE := hide (hU.ext EE.out (by have := HG.out; omega)); clear T0 hU))
  have P2 : Box (w2.alloc (.cells #[.bool s2, .int .u64 (a2 : Int), .int .u64 (b2 : Int), .int .u64 (c2 : Int), .int .u64 (d2 : Int)] 25)) w2.heap.size s2 a2 b2 c2 d2 := heap_alloc_new w2 _
  have hE := ext_alloc w2 (.cells #[.bool s2, .int .u64 (a2 : Int), .int .u64 (b2 : Int), .int .u64 (c2 : Int), .int .u64 (d2 : Int)] 25)
  have P1 := P1.ext hE
  have EE := hide (EE.out.trans hE)
  clear hE
  generalize w2.alloc (.cells #[.bool s2, .int .u64 (a2 : Int), .int .u64 (b2 : Int), .int .u64 (c2 : Int), .int .u64 (d2 : Int)] 25) = W2 at *
  generalize w2.heap.size = g2 at *
  have K2 := hide C2
  obtain ⟨s3, a3, b3, c3, d3, C3⟩ := isC_some v (by omega)
  have k1 : Hid (∀ w, Tab w → Calls Tryd.prog 25 #[.agg #[.bool s1, .int .u64 (a1 : Int), .int .u64 (b1 : Int), .int .u64 (c1 : Int), .int .u64 (d1 : Int)]] w (TextRet x1 w)) := fun w h => p_text _ _ _ _ _ _ w K1.out h
  have k2 : Hid (∀ w, Calls Tryd.prog 26 #[.agg #[.bool s1, .int .u64 (a1 : Int), .int .u64 (b1 : Int), .int .u64 (c1 : Int), .int .u64 (d1 : Int)]] w (TextRet x1 w)) := fun w => ref_text _ _ _ _ _ _ w K1.out
  have k3 : Hid (∀ w, Tab w → Calls Tryd.prog 25 #[.agg #[.bool s2, .int .u64 (a2 : Int), .int .u64 (b2 : Int), .int .u64 (c2 : Int), .int .u64 (d2 : Int)]] w (TextRet x2 w)) := fun w h => p_text _ _ _ _ _ _ w K2.out.1 h
  have k4 : Hid (∀ w, Calls Tryd.prog 26 #[.agg #[.bool s2, .int .u64 (a2 : Int), .int .u64 (b2 : Int), .int .u64 (c2 : Int), .int .u64 (d2 : Int)]] w (TextRet x2 w)) := fun w => ref_text _ _ _ _ _ _ w K2.out.1
  have k5 : Hid (∀ w, Tab w → Calls Tryd.prog 25 #[.agg #[.bool s3, .int .u64 (a3 : Int), .int .u64 (b3 : Int), .int .u64 (c3 : Int), .int .u64 (d3 : Int)]] w (TextRet v w)) := fun w h => p_text _ _ _ _ _ _ w C3.1 h
  have k6 : Hid (∀ w, Calls Tryd.prog 26 #[.agg #[.bool s3, .int .u64 (a3 : Int), .int .u64 (b3 : Int), .int .u64 (c3 : Int), .int .u64 (d3 : Int)]] w (TextRet v w)) := fun w => ref_text _ _ _ _ _ _ w C3.1
  have k7 : Hid (∀ w, Calls Tryd.prog 13 #[.int .i64 v] w (fun e w' => e = .returned (.agg #[.bool s3, .int .u64 (a3 : Int), .int .u64 (b3 : Int), .int .u64 (c3 : Int), .int .u64 (d3 : Int)]) ∧ Ext w w')) := fun w => (p_ofi v w v1 v2).mono fun _ _ h => of_fix C3 h
  have k8 : Hid (∀ w, Calls Tryd.prog 17 #[.int .i64 v] w (fun e w' => e = .returned (.agg #[.bool s3, .int .u64 (a3 : Int), .int .u64 (b3 : Int), .int .u64 (c3 : Int), .int .u64 (d3 : Int)]) ∧ Ext w w')) := fun w => (ref_ofi v w v1 v2).mono fun _ _ h => of_fix C3 h
  clear C2 C3
  obtain ⟨p10, p11, p12, p13, p14, _⟩ := five_cells P1
  obtain ⟨p20, p21, p22, p23, p24, _⟩ := five_cells P2
  go_region_held3 (fun w' => w'.cell? ⟨g, 0, none⟩ = some (.bool s1) ∧ w'.cell? ⟨g, 1, none⟩ = some (.int .u64 (a1 : Int)) ∧ w'.cell? ⟨g, 2, none⟩ = some (.int .u64 (b1 : Int)) ∧ w'.cell? ⟨g, 3, none⟩ = some (.int .u64 (c1 : Int)) ∧ w'.cell? ⟨g, 4, none⟩ = some (.int .u64 (d1 : Int)) ∧ w'.cell? ⟨g2, 0, none⟩ = some (.bool s2) ∧ w'.cell? ⟨g2, 1, none⟩ = some (.int .u64 (a2 : Int)) ∧ w'.cell? ⟨g2, 2, none⟩ = some (.int .u64 (b2 : Int)) ∧ w'.cell? ⟨g2, 3, none⟩ = some (.int .u64 (c2 : Int)) ∧ w'.cell? ⟨g2, 4, none⟩ = some (.int .u64 (d2 : Int))) (first | (with_reducible exact ⟨p10, p11, p12, p13, p14, p20, p21, p22, p23, p24⟩) | go_keep) (first
    | (go_at_call 11; refine (p_known _ (by first | exact HT.out.ext (EE.out.trans (ext_drew _)) | exact HT.out.ext EE.out)).mono ?_; rintro e z0 ⟨rfl, hE⟩; have P1 : Box z0 g s1 a1 b1 c1 d1 := (by first | exact P1.ext hE | exact P1.drew.ext hE); have P2 : Box z0 g2 s2 a2 b2 c2 d2 := (by first | exact P2.ext hE | exact P2.drew.ext hE); have EE : Hid (Ext W z0) := (by first | exact hide (EE.out.trans hE) | exact hide ((EE.out.trans (ext_drew _)).trans hE)); obtain ⟨p10, p11, p12, p13, p14, _⟩ := five_cells P1; obtain ⟨p20, p21, p22, p23, p24, _⟩ := five_cells P2; clear hE)
    | (go_at_call 25; (with_reducible refine (k1.out _ (HT.out.ext EE.out)).mono ?_); rintro e z1 ⟨rfl, hE⟩; have P1 : Box z1 g s1 a1 b1 c1 d1 := (by first | exact P1.ext hE | exact P1.drew.ext hE); have P2 : Box z1 g2 s2 a2 b2 c2 d2 := (by first | exact P2.ext hE | exact P2.drew.ext hE); have EE : Hid (Ext W z1) := (by first | exact hide (EE.out.trans hE) | exact hide ((EE.out.trans (ext_drew _)).trans hE)); obtain ⟨p10, p11, p12, p13, p14, _⟩ := five_cells P1; obtain ⟨p20, p21, p22, p23, p24, _⟩ := five_cells P2; clear hE)
    | (go_at_call 26; (with_reducible refine (k2.out _).mono ?_); rintro e z2 ⟨rfl, hE⟩; have P1 : Box z2 g s1 a1 b1 c1 d1 := (by first | exact P1.ext hE | exact P1.drew.ext hE); have P2 : Box z2 g2 s2 a2 b2 c2 d2 := (by first | exact P2.ext hE | exact P2.drew.ext hE); have EE : Hid (Ext W z2) := (by first | exact hide (EE.out.trans hE) | exact hide ((EE.out.trans (ext_drew _)).trans hE)); obtain ⟨p10, p11, p12, p13, p14, _⟩ := five_cells P1; obtain ⟨p20, p21, p22, p23, p24, _⟩ := five_cells P2; clear hE)
    | (go_at_call 25; (with_reducible refine (k3.out _ (HT.out.ext EE.out)).mono ?_); rintro e z3 ⟨rfl, hE⟩; have P1 : Box z3 g s1 a1 b1 c1 d1 := (by first | exact P1.ext hE | exact P1.drew.ext hE); have P2 : Box z3 g2 s2 a2 b2 c2 d2 := (by first | exact P2.ext hE | exact P2.drew.ext hE); have EE : Hid (Ext W z3) := (by first | exact hide (EE.out.trans hE) | exact hide ((EE.out.trans (ext_drew _)).trans hE)); obtain ⟨p10, p11, p12, p13, p14, _⟩ := five_cells P1; obtain ⟨p20, p21, p22, p23, p24, _⟩ := five_cells P2; clear hE)
    | (go_at_call 26; (with_reducible refine (k4.out _).mono ?_); rintro e z4 ⟨rfl, hE⟩; have P1 : Box z4 g s1 a1 b1 c1 d1 := (by first | exact P1.ext hE | exact P1.drew.ext hE); have P2 : Box z4 g2 s2 a2 b2 c2 d2 := (by first | exact P2.ext hE | exact P2.drew.ext hE); have EE : Hid (Ext W z4) := (by first | exact hide (EE.out.trans hE) | exact hide ((EE.out.trans (ext_drew _)).trans hE)); obtain ⟨p10, p11, p12, p13, p14, _⟩ := five_cells P1; obtain ⟨p20, p21, p22, p23, p24, _⟩ := five_cells P2; clear hE)
    | (go_at_call 25; (with_reducible refine (k5.out _ (HT.out.ext EE.out)).mono ?_); rintro e z5 ⟨rfl, hE⟩; have P1 : Box z5 g s1 a1 b1 c1 d1 := (by first | exact P1.ext hE | exact P1.drew.ext hE); have P2 : Box z5 g2 s2 a2 b2 c2 d2 := (by first | exact P2.ext hE | exact P2.drew.ext hE); have EE : Hid (Ext W z5) := (by first | exact hide (EE.out.trans hE) | exact hide ((EE.out.trans (ext_drew _)).trans hE)); obtain ⟨p10, p11, p12, p13, p14, _⟩ := five_cells P1; obtain ⟨p20, p21, p22, p23, p24, _⟩ := five_cells P2; clear hE)
    | (go_at_call 26; (with_reducible refine (k6.out _).mono ?_); rintro e z6 ⟨rfl, hE⟩; have P1 : Box z6 g s1 a1 b1 c1 d1 := (by first | exact P1.ext hE | exact P1.drew.ext hE); have P2 : Box z6 g2 s2 a2 b2 c2 d2 := (by first | exact P2.ext hE | exact P2.drew.ext hE); have EE : Hid (Ext W z6) := (by first | exact hide (EE.out.trans hE) | exact hide ((EE.out.trans (ext_drew _)).trans hE)); obtain ⟨p10, p11, p12, p13, p14, _⟩ := five_cells P1; obtain ⟨p20, p21, p22, p23, p24, _⟩ := five_cells P2; clear hE)
    | (go_at_call 13; (with_reducible refine (k7.out _).mono ?_); rintro e z7 ⟨rfl, hE⟩; have P1 : Box z7 g s1 a1 b1 c1 d1 := (by first | exact P1.ext hE | exact P1.drew.ext hE); have P2 : Box z7 g2 s2 a2 b2 c2 d2 := (by first | exact P2.ext hE | exact P2.drew.ext hE); have EE : Hid (Ext W z7) := (by first | exact hide (EE.out.trans hE) | exact hide ((EE.out.trans (ext_drew _)).trans hE)); obtain ⟨p10, p11, p12, p13, p14, _⟩ := five_cells P1; obtain ⟨p20, p21, p22, p23, p24, _⟩ := five_cells P2; clear hE)
    | (go_at_call 17; (with_reducible refine (k8.out _).mono ?_); rintro e z8 ⟨rfl, hE⟩; have P1 : Box z8 g s1 a1 b1 c1 d1 := (by first | exact P1.ext hE | exact P1.drew.ext hE); have P2 : Box z8 g2 s2 a2 b2 c2 d2 := (by first | exact P2.ext hE | exact P2.drew.ext hE); have EE : Hid (Ext W z8) := (by first | exact hide (EE.out.trans hE) | exact hide ((EE.out.trans (ext_drew _)).trans hE)); obtain ⟨p10, p11, p12, p13, p14, _⟩ := five_cells P1; obtain ⟨p20, p21, p22, p23, p24, _⟩ := five_cells P2; clear hE))
  all_goals go_wp2_with fail
  all_goals go_ret
  all_goals exact ⟨rfl, EE.out⟩
end Go.Proofs.YtkhlhlldlikleaaDoor
