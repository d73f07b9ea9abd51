/- The law WideForms, walked. Conditions: the arguments are two integers and a list of numbers of 64 bits; the sanity check returns true. -/
import Derived.Test.YtkhlhlldlikleaaDoorLAlike
import Derived.Test.YtkhlhlldlikleaaDoorTapeC
namespace Go.Proofs.YtkhlhlldlikleaaDoor
set_option linter.unusedVariables false
set_option linter.unusedSimpArgs false
open Go Go.RowKit
set_option maxRecDepth 1000000 in
set_option maxHeartbeats 16000000 in
theorem law_forms (s1 : Bool) (a1 b1 c1 d1 : Nat) (s2 : Bool) (a2 b2 c2 d2 : Nat) (x1 x2 : Int) (x : Option Addr) (len cap : Nat) (W : World) (hx1 : IsW s1 a1 b1 c1 d1 x1) (hx2 : IsW s2 a2 b2 c2 d2 x2) (hL : IsList W x len cap) (hk : ∀ w, Ext W w → Calls Tryd.prog 11 #[] w (BoolRet true w)) :
    Calls Tryd.prog 3 #[.agg #[.bool s1, .int .u64 (a1 : Int), .int .u64 (b1 : Int), .int .u64 (c1 : Int), .int .u64 (d1 : Int)], .agg #[.bool s2, .int .u64 (a2 : Int), .int .u64 (b2 : Int), .int .u64 (c2 : Int), .int .u64 (d2 : Int)], .slice x len cap] W (BoolRet true W) := by
  have H2 := two_blocks W (.cells #[.bool s1, .int .u64 (a1 : Int), .int .u64 (b1 : Int), .int .u64 (c1 : Int), .int .u64 (d1 : Int)] 25) (.cells #[.bool s2, .int .u64 (a2 : Int), .int .u64 (b2 : Int), .int .u64 (c2 : Int), .int .u64 (d2 : Int)] 25)
  have EE := hide ((ext_alloc W (.cells #[.bool s1, .int .u64 (a1 : Int), .int .u64 (b1 : Int), .int .u64 (c1 : Int), .int .u64 (d1 : Int)] 25)).trans (ext_alloc _ (.cells #[.bool s2, .int .u64 (a2 : Int), .int .u64 (b2 : Int), .int .u64 (c2 : Int), .int .u64 (d2 : Int)] 25)))
  obtain ⟨W0, hW0⟩ : ∃ W0, W0 = (W.alloc (.cells #[.bool s1, .int .u64 (a1 : Int), .int .u64 (b1 : Int), .int .u64 (c1 : Int), .int .u64 (d1 : Int)] 25)).alloc (.cells #[.bool s2, .int .u64 (a2 : Int), .int .u64 (b2 : Int), .int .u64 (c2 : Int), .int .u64 (d2 : Int)] 25) := ⟨_, rfl⟩
  rw [← hW0] at H2 EE
  obtain ⟨g, hg⟩ : ∃ g, W.heap.size = g := ⟨_, rfl⟩
  rw [hg] at H2
  obtain ⟨P1, P2⟩ : Box W0 g s1 a1 b1 c1 d1 ∧ Box W0 (g + 1) s2 a2 b2 c2 d2 := H2
  have K1 := hide hx1
  have K2 := hide hx2
  have HL := hide (hL.ext EE.out)
  have HK := hide hk
  have HW0 := hide hW0
  have HG := hide hg
  clear hx1 hx2 hW0 hg hL hk
  go_enter Tryd.func3, Tryd.ntmps3
  go_upto_region 1 with fail
  rw [← HW0.out, HG.out]
  clear HW0
  have hg1 := P1.lt
  have hg2 := P2.lt
  go_upto_region 2 with (go_at_call 9; refine (t_new W0 x len cap HL.out).mono ?_; rintro e w1 ⟨rfl, T0, hB⟩)
  obtain ⟨b, hb⟩ : ∃ b, W0.heap.size = b := ⟨_, rfl⟩
  have HB : Hid (W.heap.size ≤ b) := by rw [← hb]; exact EE.out.size
  rw [hb] at T0 hB hg1 hg2
  have P1 := P1.ext (by rw [← hb] at hB; exact hB)
  have P2 := P2.ext (by rw [← hb] at hB; exact hB)
  have EE := hide (EE.out.trans (by rw [← hb] at hB; exact hB))
  rw [hb]
  clear hb hB HL
  have n1 : g ≠ b := by omega
  have n2 : g + 1 ≠ b := by omega
  go_upto_region 3 with (first
    | (go_at_call 10; (with_reducible refine (t_wide b b _ _ T0 (Upd.refl _ _)).mono ?_); rintro e w2 ⟨s3, a3, b3, c3, d3, x3, rfl, C3, T1, hU⟩; have P1 := P1.upd hU n1; have P2 := P2.upd hU n2; have EE := hide (hU.ext EE.out HB.out); clear T0 hU)
    | (go_at_call 10; (with_reducible refine (t_wide b b _ _ T1 (Upd.refl _ _)).mono ?_); rintro e w3 ⟨s4, a4, b4, c4, d4, x4, rfl, C4, T2, hU⟩; have P1 := P1.upd hU n1; have P2 := P2.upd hU n2; have EE := hide (hU.ext EE.out HB.out); clear T1 hU))
  have H2 := two_blocks w3 (.cells #[.bool s3, .int .u64 (a3 : Int), .int .u64 (b3 : Int), .int .u64 (c3 : Int), .int .u64 (d3 : Int)] 25) (.cells #[.bool s4, .int .u64 (a4 : Int), .int .u64 (b4 : Int), .int .u64 (c4 : Int), .int .u64 (d4 : Int)] 25)
  have hE := (ext_alloc w3 (.cells #[.bool s3, .int .u64 (a3 : Int), .int .u64 (b3 : Int), .int .u64 (c3 : Int), .int .u64 (d3 : Int)] 25)).trans (ext_alloc _ (.cells #[.bool s4, .int .u64 (a4 : Int), .int .u64 (b4 : Int), .int .u64 (c4 : Int), .int .u64 (d4 : Int)] 25))
  have P1 := P1.ext hE
  have P2 := P2.ext hE
  have EE := hide (EE.out.trans hE)
  clear hE T2
  obtain ⟨W3, hW⟩ : ∃ W, W = (w3.alloc (.cells #[.bool s3, .int .u64 (a3 : Int), .int .u64 (b3 : Int), .int .u64 (c3 : Int), .int .u64 (d3 : Int)] 25)).alloc (.cells #[.bool s4, .int .u64 (a4 : Int), .int .u64 (b4 : Int), .int .u64 (c4 : Int), .int .u64 (d4 : Int)] 25) := ⟨_, rfl⟩
  rw [← hW] at H2 EE P1 P2 ⊢
  obtain ⟨g3, hg⟩ : ∃ g, w3.heap.size = g := ⟨_, rfl⟩
  rw [hg] at H2 ⊢
  obtain ⟨P3, P4⟩ : Box W3 g3 s3 a3 b3 c3 d3 ∧ Box W3 (g3 + 1) s4 a4 b4 c4 d4 := H2
  clear hW hg
  have K3 := hide C3
  have K4 := hide C4
  clear C3 C4
  have cm1 : IsC true 1 0 0 0 (-1) := ⟨⟨by omega, by omega, by omega, by omega, by simp [mag4, val]⟩, by simp⟩
  have k1 : Hid (∀ w, Calls Tryd.prog 12 #[.agg #[.bool s1, .int .u64 (a1 : Int), .int .u64 (b1 : Int), .int .u64 (c1 : Int), .int .u64 (d1 : Int)], .agg #[.bool s2, .int .u64 (a2 : Int), .int .u64 (b2 : Int), .int .u64 (c2 : Int), .int .u64 (d2 : Int)]] w (BoolRet true w)) := fun w => p_alike _ _ _ _ _ _ _ _ _ _ _ _ w K1.out K2.out
  have k2 : Hid (∀ w, Calls Tryd.prog 12 #[.agg #[.bool s3, .int .u64 (a3 : Int), .int .u64 (b3 : Int), .int .u64 (c3 : Int), .int .u64 (d3 : Int)], .agg #[.bool s4, .int .u64 (a4 : Int), .int .u64 (b4 : Int), .int .u64 (c4 : Int), .int .u64 (d4 : Int)]] w (BoolRet true w)) := fun w => p_alike _ _ _ _ _ _ _ _ _ _ _ _ w K3.out.1 K4.out.1
  have k3 : Hid (∀ w, Calls Tryd.prog 12 #[.agg #[.bool s4, .int .u64 (a4 : Int), .int .u64 (b4 : Int), .int .u64 (c4 : Int), .int .u64 (d4 : Int)], .agg #[.bool s3, .int .u64 (a3 : Int), .int .u64 (b3 : Int), .int .u64 (c3 : Int), .int .u64 (d3 : Int)]] w (BoolRet true w)) := fun w => p_alike _ _ _ _ _ _ _ _ _ _ _ _ w K4.out.1 K3.out.1
  have k4 : Hid (∀ w, Calls Tryd.prog 12 #[.agg #[.bool s1, .int .u64 (a1 : Int), .int .u64 (b1 : Int), .int .u64 (c1 : Int), .int .u64 (d1 : Int)], .agg #[.bool s3, .int .u64 (a3 : Int), .int .u64 (b3 : Int), .int .u64 (c3 : Int), .int .u64 (d3 : Int)]] w (BoolRet true w)) := fun w => p_alike _ _ _ _ _ _ _ _ _ _ _ _ w K1.out K3.out.1
  have k5 : Hid (∀ w, Calls Tryd.prog 12 #[.agg #[.bool s3, .int .u64 (a3 : Int), .int .u64 (b3 : Int), .int .u64 (c3 : Int), .int .u64 (d3 : Int)], .agg #[.bool true, .int .u64 1, .int .u64 0, .int .u64 0, .int .u64 0]] w (BoolRet true w)) := fun w => p_alike _ _ _ _ _ _ _ _ _ _ _ _ w K3.out.1 cm1.1
  have k6 : Hid (∀ w, Calls Tryd.prog 12 #[.agg #[.bool s3, .int .u64 (a3 : Int), .int .u64 (b3 : Int), .int .u64 (c3 : Int), .int .u64 (d3 : Int)], .agg #[.bool s3, .int .u64 (a3 : Int), .int .u64 (b3 : Int), .int .u64 (c3 : Int), .int .u64 (d3 : Int)]] w (BoolRet true w)) := fun w => p_alike _ _ _ _ _ _ _ _ _ _ _ _ w K3.out.1 K3.out.1
  have k7 : Hid (∀ w, Calls Tryd.prog 13 #[.int .i64 (-1)] w (fun e w' => e = .returned (.agg #[.bool true, .int .u64 1, .int .u64 0, .int .u64 0, .int .u64 0]) ∧ Ext w w')) := fun w => (p_ofi (-1) w (by omega) (by omega)).mono fun _ _ h => of_fix cm1 h
  clear cm1
  obtain ⟨p10, p11, p12, p13, p14, _⟩ := five_cells P1
  obtain ⟨p20, p21, p22, p23, p24, _⟩ := five_cells P2
  obtain ⟨p30, p31, p32, p33, p34, _⟩ := five_cells P3
  obtain ⟨p40, p41, p42, p43, p44, _⟩ := five_cells P4
  go_region_held3 (fun w' => w'.cell? ⟨g, 0, none⟩ = some (.bool s1) ∧ w'.cell? ⟨g, 1, none⟩ = some (.int .u64 (a1 : Int)) ∧ w'.cell? ⟨g, 2, none⟩ = some (.int .u64 (b1 : Int)) ∧ w'.cell? ⟨g, 3, none⟩ = some (.int .u64 (c1 : Int)) ∧ w'.cell? ⟨g, 4, none⟩ = some (.int .u64 (d1 : Int)) ∧ w'.cell? ⟨g + 1, 0, none⟩ = some (.bool s2) ∧ w'.cell? ⟨g + 1, 1, none⟩ = some (.int .u64 (a2 : Int)) ∧ w'.cell? ⟨g + 1, 2, none⟩ = some (.int .u64 (b2 : Int)) ∧ w'.cell? ⟨g + 1, 3, none⟩ = some (.int .u64 (c2 : Int)) ∧ w'.cell? ⟨g + 1, 4, none⟩ = some (.int .u64 (d2 : Int)) ∧ w'.cell? ⟨g3, 0, none⟩ = some (.bool s3) ∧ w'.cell? ⟨g3, 1, none⟩ = some (.int .u64 (a3 : Int)) ∧ w'.cell? ⟨g3, 2, none⟩ = some (.int .u64 (b3 : Int)) ∧ w'.cell? ⟨g3, 3, none⟩ = some (.int .u64 (c3 : Int)) ∧ w'.cell? ⟨g3, 4, none⟩ = some (.int .u64 (d3 : Int)) ∧ w'.cell? ⟨g3 + 1, 0, none⟩ = some (.bool s4) ∧ w'.cell? ⟨g3 + 1, 1, none⟩ = some (.int .u64 (a4 : Int)) ∧ w'.cell? ⟨g3 + 1, 2, none⟩ = some (.int .u64 (b4 : Int)) ∧ w'.cell? ⟨g3 + 1, 3, none⟩ = some (.int .u64 (c4 : Int)) ∧ w'.cell? ⟨g3 + 1, 4, none⟩ = some (.int .u64 (d4 : Int))) (first | (with_reducible exact ⟨p10, p11, p12, p13, p14, p20, p21, p22, p23, p24, p30, p31, p32, p33, p34, p40, p41, p42, p43, p44⟩) | go_keep) (first
    | (go_at_call 11; refine (HK.out _ (by first | exact EE.out.trans (ext_drew _) | exact EE.out)).mono ?_; rintro e z0 ⟨rfl, hE⟩; have P1 : Box z0 g s1 a1 b1 c1 d1 := (by first | exact P1.ext hE | exact P1.drew.ext hE); have P2 : Box z0 (g + 1) s2 a2 b2 c2 d2 := (by first | exact P2.ext hE | exact P2.drew.ext hE); have P3 : Box z0 g3 s3 a3 b3 c3 d3 := (by first | exact P3.ext hE | exact P3.drew.ext hE); have P4 : Box z0 (g3 + 1) s4 a4 b4 c4 d4 := (by first | exact P4.ext hE | exact P4.drew.ext hE); have EE : Hid (Ext W z0) := (by first | exact hide (EE.out.trans hE) | exact hide ((EE.out.trans (ext_drew _)).trans hE)); obtain ⟨p10, p11, p12, p13, p14, _⟩ := five_cells P1; obtain ⟨p20, p21, p22, p23, p24, _⟩ := five_cells P2; obtain ⟨p30, p31, p32, p33, p34, _⟩ := five_cells P3; obtain ⟨p40, p41, p42, p43, p44, _⟩ := five_cells P4; clear hE)
    | (go_at_call 13; (with_reducible refine (k7.out _).mono ?_); rintro e z7 ⟨rfl, hE⟩; have P1 : Box z7 g s1 a1 b1 c1 d1 := (by first | exact P1.ext hE | exact P1.drew.ext hE); have P2 : Box z7 (g + 1) s2 a2 b2 c2 d2 := (by first | exact P2.ext hE | exact P2.drew.ext hE); have P3 : Box z7 g3 s3 a3 b3 c3 d3 := (by first | exact P3.ext hE | exact P3.drew.ext hE); have P4 : Box z7 (g3 + 1) s4 a4 b4 c4 d4 := (by first | exact P4.ext hE | exact P4.drew.ext hE); have EE : Hid (Ext W z7) := (by first | exact hide (EE.out.trans hE) | exact hide ((EE.out.trans (ext_drew _)).trans hE)); obtain ⟨p10, p11, p12, p13, p14, _⟩ := five_cells P1; obtain ⟨p20, p21, p22, p23, p24, _⟩ := five_cells P2; obtain ⟨p30, p31, p32, p33, p34, _⟩ := five_cells P3; obtain ⟨p40, p41, p42, p43, p44, _⟩ := five_cells P4; clear hE)
    | (go_at_call 12; (with_reducible refine (k1.out _).mono ?_); rintro e z1 ⟨rfl, hE⟩; have P1 : Box z1 g s1 a1 b1 c1 d1 := (by first | exact P1.ext hE | exact P1.drew.ext hE); have P2 : Box z1 (g + 1) s2 a2 b2 c2 d2 := (by first | exact P2.ext hE | exact P2.drew.ext hE); have P3 : Box z1 g3 s3 a3 b3 c3 d3 := (by first | exact P3.ext hE | exact P3.drew.ext hE); have P4 : Box z1 (g3 + 1) s4 a4 b4 c4 d4 := (by first | exact P4.ext hE | exact P4.drew.ext hE); have EE : Hid (Ext W z1) := (by first | exact hide (EE.out.trans hE) | exact hide ((EE.out.trans (ext_drew _)).trans hE)); obtain ⟨p10, p11, p12, p13, p14, _⟩ := five_cells P1; obtain ⟨p20, p21, p22, p23, p24, _⟩ := five_cells P2; obtain ⟨p30, p31, p32, p33, p34, _⟩ := five_cells P3; obtain ⟨p40, p41, p42, p43, p44, _⟩ := five_cells P4; clear hE)
    | (go_at_call 12; (with_reducible refine (k2.out _).mono ?_); rintro e z2 ⟨rfl, hE⟩; have P1 : Box z2 g s1 a1 b1 c1 d1 := (by first | exact P1.ext hE | exact P1.drew.ext hE); have P2 : Box z2 (g + 1) s2 a2 b2 c2 d2 := (by first | exact P2.ext hE | exact P2.drew.ext hE); have P3 : Box z2 g3 s3 a3 b3 c3 d3 := (by first | exact P3.ext hE | exact P3.drew.ext hE); have P4 : Box z2 (g3 + 1) s4 a4 b4 c4 d4 := (by first | exact P4.ext hE | exact P4.drew.ext hE); have EE : Hid (Ext W z2) := (by first | exact hide (EE.out.trans hE) | exact hide ((EE.out.trans (ext_drew _)).trans hE)); obtain ⟨p10, p11, p12, p13, p14, _⟩ := five_cells P1; obtain ⟨p20, p21, p22, p23, p24, _⟩ := five_cells P2; obtain ⟨p30, p31, p32, p33, p34, _⟩ := five_cells P3; obtain ⟨p40, p41, p42, p43, p44, _⟩ := five_cells P4; clear hE)
    | (go_at_call 12; (with_reducible refine (k3.out _).mono ?_); rintro e z3 ⟨rfl, hE⟩; have P1 : Box z3 g s1 a1 b1 c1 d1 := (by first | exact P1.ext hE | exact P1.drew.ext hE); have P2 : Box z3 (g + 1) s2 a2 b2 c2 d2 := (by first | exact P2.ext hE | exact P2.drew.ext hE); have P3 : Box z3 g3 s3 a3 b3 c3 d3 := (by first | exact P3.ext hE | exact P3.drew.ext hE); have P4 : Box z3 (g3 + 1) s4 a4 b4 c4 d4 := (by first | exact P4.ext hE | exact P4.drew.ext hE); have EE : Hid (Ext W z3) := (by first | exact hide (EE.out.trans hE) | exact hide ((EE.out.trans (ext_drew _)).trans hE)); obtain ⟨p10, p11, p12, p13, p14, _⟩ := five_cells P1; obtain ⟨p20, p21, p22, p23, p24, _⟩ := five_cells P2; obtain ⟨p30, p31, p32, p33, p34, _⟩ := five_cells P3; obtain ⟨p40, p41, p42, p43, p44, _⟩ := five_cells P4; clear hE)
    | (go_at_call 12; (with_reducible refine (k4.out _).mono ?_); rintro e z4 ⟨rfl, hE⟩; have P1 : Box z4 g s1 a1 b1 c1 d1 := (by first | exact P1.ext hE | exact P1.drew.ext hE); have P2 : Box z4 (g + 1) s2 a2 b2 c2 d2 := (by first | exact P2.ext hE | exact P2.drew.ext hE); have P3 : Box z4 g3 s3 a3 b3 c3 d3 := (by first | exact P3.ext hE | exact P3.drew.ext hE); have P4 : Box z4 (g3 + 1) s4 a4 b4 c4 d4 := (by first | exact P4.ext hE | exact P4.drew.ext hE); have EE : Hid (Ext W z4) := (by first | exact hide (EE.out.trans hE) | exact hide ((EE.out.trans (ext_drew _)).trans hE)); obtain ⟨p10, p11, p12, p13, p14, _⟩ := five_cells P1; obtain ⟨p20, p21, p22, p23, p24, _⟩ := five_cells P2; obtain ⟨p30, p31, p32, p33, p34, _⟩ := five_cells P3; obtain ⟨p40, p41, p42, p43, p44, _⟩ := five_cells P4; clear hE)
    | (go_at_call 12; (with_reducible refine (k5.out _).mono ?_); rintro e z5 ⟨rfl, hE⟩; have P1 : Box z5 g s1 a1 b1 c1 d1 := (by first | exact P1.ext hE | exact P1.drew.ext hE); have P2 : Box z5 (g + 1) s2 a2 b2 c2 d2 := (by first | exact P2.ext hE | exact P2.drew.ext hE); have P3 : Box z5 g3 s3 a3 b3 c3 d3 := (by first | exact P3.ext hE | exact P3.drew.ext hE); have P4 : Box z5 (g3 + 1) s4 a4 b4 c4 d4 := (by first | exact P4.ext hE | exact P4.drew.ext hE); have EE : Hid (Ext W z5) := (by first | exact hide (EE.out.trans hE) | exact hide ((EE.out.trans (ext_drew _)).trans hE)); obtain ⟨p10, p11, p12, p13, p14, _⟩ := five_cells P1; obtain ⟨p20, p21, p22, p23, p24, _⟩ := five_cells P2; obtain ⟨p30, p31, p32, p33, p34, _⟩ := five_cells P3; obtain ⟨p40, p41, p42, p43, p44, _⟩ := five_cells P4; clear hE)
    | (go_at_call 12; (with_reducible refine (k6.out _).mono ?_); rintro e z6 ⟨rfl, hE⟩; have P1 : Box z6 g s1 a1 b1 c1 d1 := (by first | exact P1.ext hE | exact P1.drew.ext hE); have P2 : Box z6 (g + 1) s2 a2 b2 c2 d2 := (by first | exact P2.ext hE | exact P2.drew.ext hE); have P3 : Box z6 g3 s3 a3 b3 c3 d3 := (by first | exact P3.ext hE | exact P3.drew.ext hE); have P4 : Box z6 (g3 + 1) s4 a4 b4 c4 d4 := (by first | exact P4.ext hE | exact P4.drew.ext hE); have EE : Hid (Ext W z6) := (by first | exact hide (EE.out.trans hE) | exact hide ((EE.out.trans (ext_drew _)).trans hE)); obtain ⟨p10, p11, p12, p13, p14, _⟩ := five_cells P1; obtain ⟨p20, p21, p22, p23, p24, _⟩ := five_cells P2; obtain ⟨p30, p31, p32, p33, p34, _⟩ := five_cells P3; obtain ⟨p40, p41, p42, p43, p44, _⟩ := five_cells P4; clear hE))
  all_goals go_wp2_with fail
  all_goals go_ret
  all_goals exact ⟨rfl, EE.out⟩
end Go.Proofs.YtkhlhlldlikleaaDoor
