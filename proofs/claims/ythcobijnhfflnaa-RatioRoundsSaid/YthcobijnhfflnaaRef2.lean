/- Ceil of the reference of layer 3. Conditions: the cells stand for numbers. -/
import Derived.Test.YthcobijnhfflnaaRef1
import Derived.Test.YthcobijnhfflnaaRat3
import Derived.Test.YthcobijnhfflnaaMagG
namespace Go.Proofs.Ythcobijnhfflnaa
set_option linter.unusedVariables false
set_option linter.unusedSimpArgs false
open Go Go.RowKit
set_option maxRecDepth 100000 in
set_option maxHeartbeats 8000000 in
theorem rf_ceil (s : Bool) (a b c d : Nat) (t : Bool) (e f g h : Nat) (x y : Int) (w : World) (hx : IsW s a b c d x) (hy : IsW t e f g h y) (v : Bool) (hv : decide (RatOk s x t y) = v) :
    Calls Try.prog 51 #[.agg #[.bool s, .int .u64 (a : Int), .int .u64 (b : Int), .int .u64 (c : Int), .int .u64 (d : Int), .bool t, .int .u64 (e : Int), .int .u64 (f : Int), .int .u64 (g : Int), .int .u64 (h : Int)]] w (WideOnly (-(-cN v x / cD v y)) w) := by
  have H2 := two_blocks w (.cells #[.bool s, .int .u64 (a : Int), .int .u64 (b : Int), .int .u64 (c : Int), .int .u64 (d : Int), .bool t, .int .u64 (e : Int), .int .u64 (f : Int), .int .u64 (g : Int), .int .u64 (h : Int)] 27) (.cells #[.bool false, .int .u64 0, .int .u64 0, .int .u64 0, .int .u64 0] 25)
  have EE := (ext_alloc w (.cells #[.bool s, .int .u64 (a : Int), .int .u64 (b : Int), .int .u64 (c : Int), .int .u64 (d : Int), .bool t, .int .u64 (e : Int), .int .u64 (f : Int), .int .u64 (g : Int), .int .u64 (h : Int)] 27)).trans (ext_alloc _ (.cells #[.bool false, .int .u64 0, .int .u64 0, .int .u64 0, .int .u64 0] 25))
  obtain ⟨W, hW⟩ : ∃ W, W = (w.alloc (.cells #[.bool s, .int .u64 (a : Int), .int .u64 (b : Int), .int .u64 (c : Int), .int .u64 (d : Int), .bool t, .int .u64 (e : Int), .int .u64 (f : Int), .int .u64 (g : Int), .int .u64 (h : Int)] 27)).alloc (.cells #[.bool false, .int .u64 0, .int .u64 0, .int .u64 0, .int .u64 0] 25) := ⟨_, rfl⟩
  rw [← hW] at H2 EE
  have P0 : Box10 W w.heap.size s a b c d t e f g h := H2.1
  have B2 : Box W (w.heap.size + 1) false 0 0 0 0 := H2.2
  have HW := hide hW
  clear hW H2
  have k1 : Hid (∀ w', Calls Try.prog 74 #[.agg #[.bool s, .int .u64 (a : Int), .int .u64 (b : Int), .int .u64 (c : Int), .int .u64 (d : Int), .bool t, .int .u64 (e : Int), .int .u64 (f : Int), .int .u64 (g : Int), .int .u64 (h : Int)]] w' (RatRet (cN v x) (cD v y) w')) := fun w' => rf_clean _ _ _ _ _ _ _ _ _ _ x y w' hx hy v hv
  obtain ⟨bn, bd, pd, _⟩ := cBound hv
  obtain ⟨n, hn⟩ : ∃ n, cN v x = n := ⟨_, rfl⟩
  obtain ⟨m, hm⟩ : ∃ n, cD v y = n := ⟨_, rfl⟩
  rw [hn, hm] at k1 ⊢
  rw [hm] at pd
  have hm0 : Hid (m ≠ 0) := by unfold Hid; omega
  clear hn hm hv hx hy bn bd pd
  obtain ⟨p0, p1, p2, p3, p4, p5, p6, p7, p8, p9, pf0, pf1, pf2, pf3, pf4, pf5, pf6, pf7, pf8, pf9⟩ := ten_cells P0
  go_enter Try.func51, Try.ntmps51
  go_upto_region 1 with fail
  rw [← HW.out]
  clear HW
  go_upto_region 2 with (go_at_call 74; (with_reducible refine (k1.out _).mono ?_); rintro e' w2 ⟨s1, a1, b1, c1, d1, t1, e1, f1, g1, h1, rfl, C1, D1, hE⟩; have K1 := hide C1; have L1 := hide D1; have P0 := P0.ext hE; have B2 := B2.ext hE; have EE := EE.trans hE; obtain ⟨p0, p1, p2, p3, p4, p5, p6, p7, p8, p9, pf0, pf1, pf2, pf3, pf4, pf5, pf6, pf7, pf8, pf9⟩ := ten_cells P0; clear hE C1 D1)
  have Q0 := P0.put (s' := s1) (a' := a1) (b' := b1) (c' := c1) (d' := d1) (t' := t1) (e' := e1) (f' := f1) (g' := g1) (h' := h1)
  have Q2 := B2.far10 (b' := w.heap.size) (by omega) (.bool s1) (.int .u64 (a1 : Int)) (.int .u64 (b1 : Int)) (.int .u64 (c1 : Int)) (.int .u64 (d1 : Int)) (.bool t1) (.int .u64 (e1 : Int)) (.int .u64 (f1 : Int)) (.int .u64 (g1 : Int)) (.int .u64 (h1 : Int))
  have QE := ext_ten EE (b := w.heap.size) (Nat.le_refl _) (.bool s1) (.int .u64 (a1 : Int)) (.int .u64 (b1 : Int)) (.int .u64 (c1 : Int)) (.int .u64 (d1 : Int)) (.bool t1) (.int .u64 (e1 : Int)) (.int .u64 (f1 : Int)) (.int .u64 (g1 : Int)) (.int .u64 (h1 : Int))
  generalize (((((((((w2.setCell ⟨w.heap.size, 0, none⟩ (.bool s1)).setCell ⟨w.heap.size, 1, none⟩ (.int .u64 (a1 : Int))).setCell ⟨w.heap.size, 2, none⟩ (.int .u64 (b1 : Int))).setCell ⟨w.heap.size, 3, none⟩ (.int .u64 (c1 : Int))).setCell ⟨w.heap.size, 4, none⟩ (.int .u64 (d1 : Int))).setCell ⟨w.heap.size, 5, none⟩ (.bool t1)).setCell ⟨w.heap.size, 6, none⟩ (.int .u64 (e1 : Int))).setCell ⟨w.heap.size, 7, none⟩ (.int .u64 (f1 : Int))).setCell ⟨w.heap.size, 8, none⟩ (.int .u64 (g1 : Int))).setCell ⟨w.heap.size, 9, none⟩ (.int .u64 (h1 : Int)) = W3 at *
  clear P0 B2 EE
  obtain ⟨q0, q1, q2, q3, q4, q5, q6, q7, q8, q9, qf0, qf1, qf2, qf3, qf4, qf5, qf6, qf7, qf8, qf9⟩ := ten_cells Q0
  have l2 := Q2.lt
  go_upto_region 2 with fail
  go_cut [3] (fun p wx => Quot W3 (-n / m) p wx)
  case first =>
   have kn : Hid (∀ w', Calls Try.prog 48 #[.agg #[.bool s1, .int .u64 (a1 : Int), .int .u64 (b1 : Int), .int .u64 (c1 : Int), .int .u64 (d1 : Int)]] w' (WideOnly (-n) w')) := fun w' => ref_neg _ _ _ _ _ _ w' K1.out.1
   have EB := Ext.refl W3
   go_region_held3 (fun w' => w'.cell? ⟨w.heap.size, 0, none⟩ = some (.bool s1) ∧ w'.cell? ⟨w.heap.size, 1, none⟩ = some (.int .u64 (a1 : Int)) ∧ w'.cell? ⟨w.heap.size, 2, none⟩ = some (.int .u64 (b1 : Int)) ∧ w'.cell? ⟨w.heap.size, 3, none⟩ = some (.int .u64 (c1 : Int)) ∧ w'.cell? ⟨w.heap.size, 4, none⟩ = some (.int .u64 (d1 : Int)) ∧ w'.cell? ⟨w.heap.size, 5, none⟩ = some (.bool t1) ∧ w'.cell? ⟨w.heap.size, 6, none⟩ = some (.int .u64 (e1 : Int)) ∧ w'.cell? ⟨w.heap.size, 7, none⟩ = some (.int .u64 (f1 : Int)) ∧ w'.cell? ⟨w.heap.size, 8, none⟩ = some (.int .u64 (g1 : Int)) ∧ w'.cell? ⟨w.heap.size, 9, none⟩ = some (.int .u64 (h1 : Int))) (first | (with_reducible exact ⟨q0, q1, q2, q3, q4, q5, q6, q7, q8, q9⟩) | go_keep) (first
     | (go_at_call 48; (with_reducible refine (kn.out _).mono ?_); rintro e' w6 ⟨s6, a6, b6, c6, d6, rfl, C6, hE⟩; have K6 := hide C6; clear C6; have hF : Ext W3 w6 := (by first | (with_reducible exact hE) | (with_reducible exact (ext_drew _).trans hE)); clear hE; have hG := hF; have Q0 := Q0.ext hG; have Q2 := Q2.ext hG; have EB := EB.trans hG; obtain ⟨q0, q1, q2, q3, q4, q5, q6, q7, q8, q9, qf0, qf1, qf2, qf3, qf4, qf5, qf6, qf7, qf8, qf9⟩ := ten_cells Q0; have szw6 := hG.size; have loQ0 := Q0.lt; have loQ2 := Q2.lt; clear hF hG)
     | (go_at_call 48; (with_reducible refine (kn.out _).mono ?_); rintro e' w6 ⟨s6, a6, b6, c6, d6, rfl, C6, hE⟩; have K6 := hide C6; clear C6; have hF : Ext (W3.alloc (.cells #[.bool false, .int .u64 0, .int .u64 0, .int .u64 0, .int .u64 0] 25)) w6 := (by first | (with_reducible exact hE) | (with_reducible exact (ext_drew _).trans hE)); clear hE; have hG := (ext_alloc W3 (.cells #[.bool false, .int .u64 0, .int .u64 0, .int .u64 0, .int .u64 0] 25)).trans hF; have Nw60 : Box w6 (W3.heap.size) false 0 0 0 0 := (Box.new0 W3).ext hF; have Q0 := Q0.ext hG; have Q2 := Q2.ext hG; have EB := EB.trans hG; obtain ⟨q0, q1, q2, q3, q4, q5, q6, q7, q8, q9, qf0, qf1, qf2, qf3, qf4, qf5, qf6, qf7, qf8, qf9⟩ := ten_cells Q0; obtain ⟨x0c0, x0c1, x0c2, x0c3, x0c4, x0f0, x0f1, x0f2, x0f3, x0f4⟩ := five_cells Nw60; have szw6 := hG.size; have loQ0 := Q0.lt; have loQ2 := Q2.lt; have loNw60 := Nw60.lt; have ne0 : W3.heap.size ≠ w.heap.size := (by omega); have ne1 : W3.heap.size ≠ w.heap.size + 1 := (by omega); clear hF hG)
     | (go_at_call 48; (with_reducible refine (kn.out _).mono ?_); rintro e' w6 ⟨s6, a6, b6, c6, d6, rfl, C6, hE⟩; have K6 := hide C6; clear C6; have hF : Ext ((W3.alloc (.cells #[.bool false, .int .u64 0, .int .u64 0, .int .u64 0, .int .u64 0] 25)).alloc (.cells #[.bool false, .int .u64 0, .int .u64 0, .int .u64 0, .int .u64 0] 25)) w6 := (by first | (with_reducible exact hE) | (with_reducible exact (ext_drew _).trans hE)); clear hE; have hG := ((ext_alloc W3 (.cells #[.bool false, .int .u64 0, .int .u64 0, .int .u64 0, .int .u64 0] 25)).trans (ext_alloc _ (.cells #[.bool false, .int .u64 0, .int .u64 0, .int .u64 0, .int .u64 0] 25))).trans hF; have Nw60 : Box w6 (W3.heap.size) false 0 0 0 0 := ((Box.new0 W3).ext (ext_alloc _ _)).ext hF; have Nw61 : Box w6 (W3.heap.size + 1) false 0 0 0 0 := (show Box ((W3.alloc (.cells #[.bool false, .int .u64 0, .int .u64 0, .int .u64 0, .int .u64 0] 25)).alloc (.cells #[.bool false, .int .u64 0, .int .u64 0, .int .u64 0, .int .u64 0] 25)) (W3.heap.size + 1) false 0 0 0 0 from (two_blocks W3 (.cells #[.bool false, .int .u64 0, .int .u64 0, .int .u64 0, .int .u64 0] 25) (.cells #[.bool false, .int .u64 0, .int .u64 0, .int .u64 0, .int .u64 0] 25)).2).ext hF; have Q0 := Q0.ext hG; have Q2 := Q2.ext hG; have EB := EB.trans hG; obtain ⟨q0, q1, q2, q3, q4, q5, q6, q7, q8, q9, qf0, qf1, qf2, qf3, qf4, qf5, qf6, qf7, qf8, qf9⟩ := ten_cells Q0; obtain ⟨x0c0, x0c1, x0c2, x0c3, x0c4, x0f0, x0f1, x0f2, x0f3, x0f4⟩ := five_cells Nw60; obtain ⟨x1c0, x1c1, x1c2, x1c3, x1c4, x1f0, x1f1, x1f2, x1f3, x1f4⟩ := five_cells Nw61; have szw6 := hG.size; have loQ0 := Q0.lt; have loQ2 := Q2.lt; have loNw60 := Nw60.lt; have loNw61 := Nw61.lt; have ne0 : W3.heap.size ≠ w.heap.size := (by omega); have ne1 : W3.heap.size + 1 ≠ w.heap.size := (by omega); have ne2 : W3.heap.size ≠ w.heap.size + 1 := (by omega); have ne3 : W3.heap.size + 1 ≠ w.heap.size + 1 := (by omega); have ne4 : W3.heap.size + 1 ≠ W3.heap.size := (by omega); clear hF hG)
     | (go_at_call 46; refine (ref_wdiv s6 t1 a6 b6 c6 d6 e1 f1 g1 h1 (-n) m _ K6.out.1 L1.out.1).mono ?_; rintro e' w4 ⟨s3, a3, b3, c3, d3, s4, a4, b4, c4, d4, o3, rfl, ho, C3, C4, hE⟩; have Ho := hide ho; rw [if_neg hm0.out] at C3; have K3 := hide C3; clear ho C3 C4; have hF : Ext w6 w4 := (by first | (with_reducible exact hE) | (with_reducible exact (ext_drew _).trans hE)); clear hE; have hG := hF; have Q0 := Q0.ext hG; have Q2 := Q2.ext hG; have EB := EB.trans hG; have Nw60 := Nw60.ext hG; have Nw61 := Nw61.ext hG; obtain ⟨q0, q1, q2, q3, q4, q5, q6, q7, q8, q9, qf0, qf1, qf2, qf3, qf4, qf5, qf6, qf7, qf8, qf9⟩ := ten_cells Q0; obtain ⟨x0c0, x0c1, x0c2, x0c3, x0c4, x0f0, x0f1, x0f2, x0f3, x0f4⟩ := five_cells Nw60; obtain ⟨x1c0, x1c1, x1c2, x1c3, x1c4, x1f0, x1f1, x1f2, x1f3, x1f4⟩ := five_cells Nw61; have szw4 := hG.size; have loQ0 := Q0.lt; have loQ2 := Q2.lt; have loNw60 := Nw60.lt; have loNw61 := Nw61.lt; have ne0 : W3.heap.size ≠ w.heap.size := (by omega); have ne1 : W3.heap.size + 1 ≠ w.heap.size := (by omega); have ne2 : W3.heap.size ≠ w.heap.size + 1 := (by omega); have ne3 : W3.heap.size + 1 ≠ w.heap.size + 1 := (by omega); have ne4 : W3.heap.size + 1 ≠ W3.heap.size := (by omega); clear hF hG)
     | (go_at_call 46; refine (ref_wdiv s6 t1 a6 b6 c6 d6 e1 f1 g1 h1 (-n) m _ K6.out.1 L1.out.1).mono ?_; rintro e' w4 ⟨s3, a3, b3, c3, d3, s4, a4, b4, c4, d4, o3, rfl, ho, C3, C4, hE⟩; have Ho := hide ho; rw [if_neg hm0.out] at C3; have K3 := hide C3; clear ho C3 C4; have hF : Ext w6 w4 := (by first | (with_reducible exact hE) | (with_reducible exact (ext_drew _).trans hE)); clear hE; have hG := hF; have Q0 := Q0.ext hG; have Q2 := Q2.ext hG; have EB := EB.trans hG; have Nw60 := Nw60.ext hG; obtain ⟨q0, q1, q2, q3, q4, q5, q6, q7, q8, q9, qf0, qf1, qf2, qf3, qf4, qf5, qf6, qf7, qf8, qf9⟩ := ten_cells Q0; obtain ⟨x0c0, x0c1, x0c2, x0c3, x0c4, x0f0, x0f1, x0f2, x0f3, x0f4⟩ := five_cells Nw60; have szw4 := hG.size; have loQ0 := Q0.lt; have loQ2 := Q2.lt; have loNw60 := Nw60.lt; have ne0 : W3.heap.size ≠ w.heap.size := (by omega); have ne1 : W3.heap.size ≠ w.heap.size + 1 := (by omega); clear hF hG)
     | (go_at_call 46; refine (ref_wdiv s6 t1 a6 b6 c6 d6 e1 f1 g1 h1 (-n) m _ K6.out.1 L1.out.1).mono ?_; rintro e' w4 ⟨s3, a3, b3, c3, d3, s4, a4, b4, c4, d4, o3, rfl, ho, C3, C4, hE⟩; have Ho := hide ho; rw [if_neg hm0.out] at C3; have K3 := hide C3; clear ho C3 C4; have hF : Ext (w6.alloc (.cells #[.bool false, .int .u64 0, .int .u64 0, .int .u64 0, .int .u64 0] 25)) w4 := (by first | (with_reducible exact hE) | (with_reducible exact (ext_drew _).trans hE)); clear hE; have hG := (ext_alloc w6 (.cells #[.bool false, .int .u64 0, .int .u64 0, .int .u64 0, .int .u64 0] 25)).trans hF; have Nw40 : Box w4 (w6.heap.size) false 0 0 0 0 := (Box.new0 w6).ext hF; have Q0 := Q0.ext hG; have Q2 := Q2.ext hG; have EB := EB.trans hG; have Nw60 := Nw60.ext hG; obtain ⟨q0, q1, q2, q3, q4, q5, q6, q7, q8, q9, qf0, qf1, qf2, qf3, qf4, qf5, qf6, qf7, qf8, qf9⟩ := ten_cells Q0; obtain ⟨x0c0, x0c1, x0c2, x0c3, x0c4, x0f0, x0f1, x0f2, x0f3, x0f4⟩ := five_cells Nw60; obtain ⟨x1c0, x1c1, x1c2, x1c3, x1c4, x1f0, x1f1, x1f2, x1f3, x1f4⟩ := five_cells Nw40; have szw4 := hG.size; have loQ0 := Q0.lt; have loQ2 := Q2.lt; have loNw60 := Nw60.lt; have loNw40 := Nw40.lt; have ne0 : W3.heap.size ≠ w.heap.size := (by omega); have ne1 : w6.heap.size ≠ w.heap.size := (by omega); have ne2 : W3.heap.size ≠ w.heap.size + 1 := (by omega); have ne3 : w6.heap.size ≠ w.heap.size + 1 := (by omega); have ne4 : w6.heap.size ≠ W3.heap.size := (by omega); clear hF hG)
     | (go_at_call 46; refine (ref_wdiv s6 t1 a6 b6 c6 d6 e1 f1 g1 h1 (-n) m _ K6.out.1 L1.out.1).mono ?_; rintro e' w4 ⟨s3, a3, b3, c3, d3, s4, a4, b4, c4, d4, o3, rfl, ho, C3, C4, hE⟩; have Ho := hide ho; rw [if_neg hm0.out] at C3; have K3 := hide C3; clear ho C3 C4; have hF : Ext w6 w4 := (by first | (with_reducible exact hE) | (with_reducible exact (ext_drew _).trans hE)); clear hE; have hG := hF; have Q0 := Q0.ext hG; have Q2 := Q2.ext hG; have EB := EB.trans hG; obtain ⟨q0, q1, q2, q3, q4, q5, q6, q7, q8, q9, qf0, qf1, qf2, qf3, qf4, qf5, qf6, qf7, qf8, qf9⟩ := ten_cells Q0; have szw4 := hG.size; have loQ0 := Q0.lt; have loQ2 := Q2.lt; clear hF hG)
     | (go_at_call 46; refine (ref_wdiv s6 t1 a6 b6 c6 d6 e1 f1 g1 h1 (-n) m _ K6.out.1 L1.out.1).mono ?_; rintro e' w4 ⟨s3, a3, b3, c3, d3, s4, a4, b4, c4, d4, o3, rfl, ho, C3, C4, hE⟩; have Ho := hide ho; rw [if_neg hm0.out] at C3; have K3 := hide C3; clear ho C3 C4; have hF : Ext (w6.alloc (.cells #[.bool false, .int .u64 0, .int .u64 0, .int .u64 0, .int .u64 0] 25)) w4 := (by first | (with_reducible exact hE) | (with_reducible exact (ext_drew _).trans hE)); clear hE; have hG := (ext_alloc w6 (.cells #[.bool false, .int .u64 0, .int .u64 0, .int .u64 0, .int .u64 0] 25)).trans hF; have Nw40 : Box w4 (w6.heap.size) false 0 0 0 0 := (Box.new0 w6).ext hF; have Q0 := Q0.ext hG; have Q2 := Q2.ext hG; have EB := EB.trans hG; obtain ⟨q0, q1, q2, q3, q4, q5, q6, q7, q8, q9, qf0, qf1, qf2, qf3, qf4, qf5, qf6, qf7, qf8, qf9⟩ := ten_cells Q0; obtain ⟨x0c0, x0c1, x0c2, x0c3, x0c4, x0f0, x0f1, x0f2, x0f3, x0f4⟩ := five_cells Nw40; have szw4 := hG.size; have loQ0 := Q0.lt; have loQ2 := Q2.lt; have loNw40 := Nw40.lt; have ne0 : w6.heap.size ≠ w.heap.size := (by omega); have ne1 : w6.heap.size ≠ w.heap.size + 1 := (by omega); clear hF hG)
     | (go_at_call 46; refine (ref_wdiv s6 t1 a6 b6 c6 d6 e1 f1 g1 h1 (-n) m _ K6.out.1 L1.out.1).mono ?_; rintro e' w4 ⟨s3, a3, b3, c3, d3, s4, a4, b4, c4, d4, o3, rfl, ho, C3, C4, hE⟩; have Ho := hide ho; rw [if_neg hm0.out] at C3; have K3 := hide C3; clear ho C3 C4; have hF : Ext ((w6.alloc (.cells #[.bool false, .int .u64 0, .int .u64 0, .int .u64 0, .int .u64 0] 25)).alloc (.cells #[.bool false, .int .u64 0, .int .u64 0, .int .u64 0, .int .u64 0] 25)) w4 := (by first | (with_reducible exact hE) | (with_reducible exact (ext_drew _).trans hE)); clear hE; have hG := ((ext_alloc w6 (.cells #[.bool false, .int .u64 0, .int .u64 0, .int .u64 0, .int .u64 0] 25)).trans (ext_alloc _ (.cells #[.bool false, .int .u64 0, .int .u64 0, .int .u64 0, .int .u64 0] 25))).trans hF; have Nw40 : Box w4 (w6.heap.size) false 0 0 0 0 := ((Box.new0 w6).ext (ext_alloc _ _)).ext hF; have Nw41 : Box w4 (w6.heap.size + 1) false 0 0 0 0 := (show Box ((w6.alloc (.cells #[.bool false, .int .u64 0, .int .u64 0, .int .u64 0, .int .u64 0] 25)).alloc (.cells #[.bool false, .int .u64 0, .int .u64 0, .int .u64 0, .int .u64 0] 25)) (w6.heap.size + 1) false 0 0 0 0 from (two_blocks w6 (.cells #[.bool false, .int .u64 0, .int .u64 0, .int .u64 0, .int .u64 0] 25) (.cells #[.bool false, .int .u64 0, .int .u64 0, .int .u64 0, .int .u64 0] 25)).2).ext hF; have Q0 := Q0.ext hG; have Q2 := Q2.ext hG; have EB := EB.trans hG; obtain ⟨q0, q1, q2, q3, q4, q5, q6, q7, q8, q9, qf0, qf1, qf2, qf3, qf4, qf5, qf6, qf7, qf8, qf9⟩ := ten_cells Q0; obtain ⟨x0c0, x0c1, x0c2, x0c3, x0c4, x0f0, x0f1, x0f2, x0f3, x0f4⟩ := five_cells Nw40; obtain ⟨x1c0, x1c1, x1c2, x1c3, x1c4, x1f0, x1f1, x1f2, x1f3, x1f4⟩ := five_cells Nw41; have szw4 := hG.size; have loQ0 := Q0.lt; have loQ2 := Q2.lt; have loNw40 := Nw40.lt; have loNw41 := Nw41.lt; have ne0 : w6.heap.size ≠ w.heap.size := (by omega); have ne1 : w6.heap.size + 1 ≠ w.heap.size := (by omega); have ne2 : w6.heap.size ≠ w.heap.size + 1 := (by omega); have ne3 : w6.heap.size + 1 ≠ w.heap.size + 1 := (by omega); have ne4 : w6.heap.size + 1 ≠ w6.heap.size := (by omega); clear hF hG))
   all_goals go_wp2_with fail
   all_goals go_meet
   all_goals first
     | (with_reducible exact quo0 K3.out EB)
     | (with_reducible exact quo0' K3.out EB)
     | (with_reducible exact quo1 K3.out EB Nw40 (by omega))
     | (with_reducible exact quo1 K3.out EB Nw41 (by omega))
     | (with_reducible exact quo1 K3.out EB Nw60 (by omega))
     | (with_reducible exact quo1 K3.out EB Nw61 (by omega))
     | (with_reducible exact quo1' K3.out EB (g := w6.heap.size) (by omega))
     | (with_reducible exact quo1' K3.out EB (g := w6.heap.size + 1) (by omega))
     | (with_reducible exact quo1' K3.out EB (g := W3.heap.size) (by omega))
     | (with_reducible exact quo1' K3.out EB (g := W3.heap.size + 1) (by omega))
     | (with_reducible exact quo2 K3.out EB Nw40 (g' := w6.heap.size + 1) (by omega) (by omega) (by omega))
     | (with_reducible exact quo2 K3.out EB Nw40 (g' := W3.heap.size) (by omega) (by omega) (by omega))
     | (with_reducible exact quo2 K3.out EB Nw40 (g' := W3.heap.size + 1) (by omega) (by omega) (by omega))
     | (with_reducible exact quo2 K3.out EB Nw41 (g' := w6.heap.size) (by omega) (by omega) (by omega))
     | (with_reducible exact quo2 K3.out EB Nw41 (g' := W3.heap.size) (by omega) (by omega) (by omega))
     | (with_reducible exact quo2 K3.out EB Nw41 (g' := W3.heap.size + 1) (by omega) (by omega) (by omega))
     | (with_reducible exact quo2 K3.out EB Nw60 (g' := w6.heap.size) (by omega) (by omega) (by omega))
     | (with_reducible exact quo2 K3.out EB Nw60 (g' := w6.heap.size + 1) (by omega) (by omega) (by omega))
     | (with_reducible exact quo2 K3.out EB Nw60 (g' := W3.heap.size + 1) (by omega) (by omega) (by omega))
     | (with_reducible exact quo2 K3.out EB Nw61 (g' := w6.heap.size) (by omega) (by omega) (by omega))
     | (with_reducible exact quo2 K3.out EB Nw61 (g' := w6.heap.size + 1) (by omega) (by omega) (by omega))
     | (with_reducible exact quo2 K3.out EB Nw61 (g' := W3.heap.size) (by omega) (by omega) (by omega))
  case rest =>
   obtain ⟨g3, s3, a3, b3, c3, d3, rfl, C3, B3, hg3, hE⟩ := hcut
   have K3 := hide C3
   have Q2 := Q2.ext hE
   have QE := QE.trans hE
   clear C3 hE Q0
   have kq : Hid (∀ w', Calls Try.prog 48 #[.agg #[.bool s3, .int .u64 (a3 : Int), .int .u64 (b3 : Int), .int .u64 (c3 : Int), .int .u64 (d3 : Int)]] w' (WideOnly (-(-n / m)) w')) := fun w' => ref_neg _ _ _ _ _ _ w' K3.out.1
   obtain ⟨c0, c1', c2', c3', c4', _⟩ := five_cells B3
   go_wp2_with (go_at_call 48; (with_reducible refine (kq.out _).mono ?_); rintro e' w5 ⟨s5, a5, b5, c5, d5, rfl, C5, hE⟩; have K5 := hide C5; have Q2 := Q2.ext hE; have QE := QE.trans hE; clear hE C5; obtain ⟨i0, i1, i2, i3, i4, j0, j1, j2, j3, j4⟩ := five_cells Q2)
   all_goals exact bodyPost_ret (v := .agg #[.bool s5, .int .u64 (a5 : Int), .int .u64 (b5 : Int), .int .u64 (c5 : Int), .int .u64 (d5 : Int)]) (by simp [results, Try.results51, go_sem, i0, i1, i2, i3, i4]) rfl ⟨s5, a5, b5, c5, d5, rfl, K5.out, ext_five QE (by omega) _ _ _ _ _⟩
end Go.Proofs.Ythcobijnhfflnaa
/- At of the reference of layer 3. Conditions: the cells stand for numbers; the factor is of 64 bits. -/
namespace Go.Proofs.Ythcobijnhfflnaa
set_option linter.unusedVariables false
set_option linter.unusedSimpArgs false
open Go Go.RowKit
set_option maxRecDepth 100000 in
set_option maxHeartbeats 8000000 in
theorem rf_at (s : Bool) (a b c d : Nat) (t : Bool) (e f g h : Nat) (x y : Int) (w : World) (hx : IsW s a b c d x) (hy : IsW t e f g h y) (k : Nat) (hk : k < 18446744073709551616) (v : Bool) (hv : decide (RatOk s x t y) = v) :
    Calls Try.prog 52 #[.agg #[.bool s, .int .u64 (a : Int), .int .u64 (b : Int), .int .u64 (c : Int), .int .u64 (d : Int), .bool t, .int .u64 (e : Int), .int .u64 (f : Int), .int .u64 (g : Int), .int .u64 (h : Int)], .int .u64 (k : Int)] w (WideOnly (((cN v x + cN v x) * k + cD v y) / (cD v y + cD v y)) w) := by
  have H2 := two_blocks w (.cells #[.bool s, .int .u64 (a : Int), .int .u64 (b : Int), .int .u64 (c : Int), .int .u64 (d : Int), .bool t, .int .u64 (e : Int), .int .u64 (f : Int), .int .u64 (g : Int), .int .u64 (h : Int)] 27) (.cells #[.bool false, .int .u64 0, .int .u64 0, .int .u64 0, .int .u64 0] 25)
  have EE := (ext_alloc w (.cells #[.bool s, .int .u64 (a : Int), .int .u64 (b : Int), .int .u64 (c : Int), .int .u64 (d : Int), .bool t, .int .u64 (e : Int), .int .u64 (f : Int), .int .u64 (g : Int), .int .u64 (h : Int)] 27)).trans (ext_alloc _ (.cells #[.bool false, .int .u64 0, .int .u64 0, .int .u64 0, .int .u64 0] 25))
  obtain ⟨W, hW⟩ : ∃ W, W = (w.alloc (.cells #[.bool s, .int .u64 (a : Int), .int .u64 (b : Int), .int .u64 (c : Int), .int .u64 (d : Int), .bool t, .int .u64 (e : Int), .int .u64 (f : Int), .int .u64 (g : Int), .int .u64 (h : Int)] 27)).alloc (.cells #[.bool false, .int .u64 0, .int .u64 0, .int .u64 0, .int .u64 0] 25) := ⟨_, rfl⟩
  rw [← hW] at H2 EE
  have P0 : Box10 W w.heap.size s a b c d t e f g h := H2.1
  have B2 : Box W (w.heap.size + 1) false 0 0 0 0 := H2.2
  have HW := hide hW
  clear hW H2
  have k1 : Hid (∀ w', Calls Try.prog 74 #[.agg #[.bool s, .int .u64 (a : Int), .int .u64 (b : Int), .int .u64 (c : Int), .int .u64 (d : Int), .bool t, .int .u64 (e : Int), .int .u64 (f : Int), .int .u64 (g : Int), .int .u64 (h : Int)]] w' (RatRet (cN v x) (cD v y) w')) := fun w' => rf_clean _ _ _ _ _ _ _ _ _ _ x y w' hx hy v hv
  obtain ⟨bn, bd, pd, _⟩ := cBound hv
  obtain ⟨n, hn⟩ : ∃ n, cN v x = n := ⟨_, rfl⟩
  obtain ⟨m, hm⟩ : ∃ n, cD v y = n := ⟨_, rfl⟩
  rw [hn, hm] at k1 ⊢
  rw [hm] at pd
  have hm0 : Hid (m ≠ 0) := by unfold Hid; omega
  rw [hn] at bn
  rw [hm] at bd
  have hmm0 : Hid (m + m ≠ 0) := by unfold Hid; omega
  obtain ⟨z1, hz1⟩ : ∃ z, n * (k : Int) = z := ⟨_, rfl⟩
  obtain ⟨z2, hz2⟩ : ∃ z, z1 + z1 = z := ⟨_, rfl⟩
  obtain ⟨z3, hz3⟩ : ∃ z, z2 + m = z := ⟨_, rfl⟩
  obtain ⟨z4, hz4⟩ : ∃ z, m + m = z := ⟨_, rfl⟩
  have g1' : z1.natAbs < 3138550867693340381917894711603833208051177722232017256448 := by
    rw [← hz1, Int.natAbs_mul, Int.natAbs_natCast]
    exact Nat.lt_of_lt_of_le (Nat.mul_lt_mul'' bn hk) (by decide)
  have g2' : z2.natAbs < 6277101735386680763835789423207666416102355444464034512896 := by omega
  have g3' : z3.natAbs < 115792089237316195423570985008687907853269984665640564039457584007913129639936 := by omega
  have g4' : z4.natAbs < 115792089237316195423570985008687907853269984665640564039457584007913129639936 := by omega
  rw [hz4] at hmm0 ⊢
  have hzz : (n + n) * (k : Int) = z2 := by rw [← hz2, ← hz1, Int.add_mul]
  rw [hzz, hz3]
  have ka : Hid (∀ w' s a b c d, IsW s a b c d z1 → Calls Try.prog 36 #[.agg #[.bool s, .int .u64 (a : Int), .int .u64 (b : Int), .int .u64 (c : Int), .int .u64 (d : Int)], .agg #[.bool s, .int .u64 (a : Int), .int .u64 (b : Int), .int .u64 (c : Int), .int .u64 (d : Int)]] w' (WideYes' z2 w')) := fun w' s a b c d h => (ref_wadd s s a b c d a b c d z1 z1 w' h h).mono (fun _ _ q => wide_ret (by rw [hz2] at q; exact q) (by omega))
  have kb : Hid (∀ w' s a b c d t e f g h, IsW s a b c d n → IsW t e f g h (k : Int) → Calls Try.prog 28 #[.agg #[.bool s, .int .u64 (a : Int), .int .u64 (b : Int), .int .u64 (c : Int), .int .u64 (d : Int)], .agg #[.bool t, .int .u64 (e : Int), .int .u64 (f : Int), .int .u64 (g : Int), .int .u64 (h : Int)]] w' (WideYes' z1 w')) := fun w' s a b c d t e f g h h1 h2 => (ref_wmul s t a b c d e f g h n k w' h1 h2).mono (fun _ _ q => wide_ret (by rw [hz1] at q; exact q) (by omega))
  have kc : Hid (∀ w' s a b c d t e f g h, IsW s a b c d z2 → IsW t e f g h m → Calls Try.prog 36 #[.agg #[.bool s, .int .u64 (a : Int), .int .u64 (b : Int), .int .u64 (c : Int), .int .u64 (d : Int)], .agg #[.bool t, .int .u64 (e : Int), .int .u64 (f : Int), .int .u64 (g : Int), .int .u64 (h : Int)]] w' (WideYes' z3 w')) := fun w' s a b c d t e f g h h1 h2 => (ref_wadd s t a b c d e f g h z2 m w' h1 h2).mono (fun _ _ q => wide_ret (by rw [hz3] at q; exact q) g3')
  have kd : Hid (∀ w' s a b c d, IsW s a b c d m → Calls Try.prog 36 #[.agg #[.bool s, .int .u64 (a : Int), .int .u64 (b : Int), .int .u64 (c : Int), .int .u64 (d : Int)], .agg #[.bool s, .int .u64 (a : Int), .int .u64 (b : Int), .int .u64 (c : Int), .int .u64 (d : Int)]] w' (WideYes' z4 w')) := fun w' s a b c d h => (ref_wadd s s a b c d a b c d m m w' h h).mono (fun _ _ q => wide_ret (by rw [hz4] at q; exact q) g4')
  have ku : Hid (∀ w', Calls Try.prog 35 #[.int .u64 (k : Int)] w' (WideOnly (k : Int) w')) := fun w' => ref_ofu k w' hk
  clear hzz hn hm hv hx hy bn bd pd hz1 hz2 hz3 hz4 g1' g2' g3' g4' hk
  obtain ⟨p0, p1, p2, p3, p4, p5, p6, p7, p8, p9, pf0, pf1, pf2, pf3, pf4, pf5, pf6, pf7, pf8, pf9⟩ := ten_cells P0
  go_enter Try.func52, Try.ntmps52
  go_upto_region 1 with fail
  rw [← HW.out]
  clear HW
  go_upto_region 2 with (go_at_call 74; (with_reducible refine (k1.out _).mono ?_); rintro e' w2 ⟨s1, a1, b1, c1, d1, t1, e1, f1, g1, h1, rfl, C1, D1, hE⟩; have K1 := hide C1; have L1 := hide D1; have P0 := P0.ext hE; have B2 := B2.ext hE; have EE := EE.trans hE; obtain ⟨p0, p1, p2, p3, p4, p5, p6, p7, p8, p9, pf0, pf1, pf2, pf3, pf4, pf5, pf6, pf7, pf8, pf9⟩ := ten_cells P0; clear hE C1 D1)
  have Q0 := P0.put (s' := s1) (a' := a1) (b' := b1) (c' := c1) (d' := d1) (t' := t1) (e' := e1) (f' := f1) (g' := g1) (h' := h1)
  have Q2 := B2.far10 (b' := w.heap.size) (by omega) (.bool s1) (.int .u64 (a1 : Int)) (.int .u64 (b1 : Int)) (.int .u64 (c1 : Int)) (.int .u64 (d1 : Int)) (.bool t1) (.int .u64 (e1 : Int)) (.int .u64 (f1 : Int)) (.int .u64 (g1 : Int)) (.int .u64 (h1 : Int))
  have QE := ext_ten EE (b := w.heap.size) (Nat.le_refl _) (.bool s1) (.int .u64 (a1 : Int)) (.int .u64 (b1 : Int)) (.int .u64 (c1 : Int)) (.int .u64 (d1 : Int)) (.bool t1) (.int .u64 (e1 : Int)) (.int .u64 (f1 : Int)) (.int .u64 (g1 : Int)) (.int .u64 (h1 : Int))
  generalize (((((((((w2.setCell ⟨w.heap.size, 0, none⟩ (.bool s1)).setCell ⟨w.heap.size, 1, none⟩ (.int .u64 (a1 : Int))).setCell ⟨w.heap.size, 2, none⟩ (.int .u64 (b1 : Int))).setCell ⟨w.heap.size, 3, none⟩ (.int .u64 (c1 : Int))).setCell ⟨w.heap.size, 4, none⟩ (.int .u64 (d1 : Int))).setCell ⟨w.heap.size, 5, none⟩ (.bool t1)).setCell ⟨w.heap.size, 6, none⟩ (.int .u64 (e1 : Int))).setCell ⟨w.heap.size, 7, none⟩ (.int .u64 (f1 : Int))).setCell ⟨w.heap.size, 8, none⟩ (.int .u64 (g1 : Int))).setCell ⟨w.heap.size, 9, none⟩ (.int .u64 (h1 : Int)) = W3 at *
  clear P0 B2 EE
  have V1 := hide K1.out.1
  have Y1 := hide L1.out.1
  obtain ⟨q0, q1, q2, q3, q4, q5, q6, q7, q8, q9, qf0, qf1, qf2, qf3, qf4, qf5, qf6, qf7, qf8, qf9⟩ := ten_cells Q0
  have l2 := Q2.lt
  go_upto_region 2 with fail
  go_cut [5] (fun p wx => Quot W3 z1 p wx)
  case first =>
   have EB := Ext.refl W3
   go_region_held3 (fun w' => w'.cell? ⟨w.heap.size, 0, none⟩ = some (.bool s1) ∧ w'.cell? ⟨w.heap.size, 1, none⟩ = some (.int .u64 (a1 : Int)) ∧ w'.cell? ⟨w.heap.size, 2, none⟩ = some (.int .u64 (b1 : Int)) ∧ w'.cell? ⟨w.heap.size, 3, none⟩ = some (.int .u64 (c1 : Int)) ∧ w'.cell? ⟨w.heap.size, 4, none⟩ = some (.int .u64 (d1 : Int))) (first | (with_reducible exact ⟨q0, q1, q2, q3, q4⟩) | go_keep) (first
     | (go_at_call 35; (with_reducible refine (ku.out _).mono ?_); rintro e' w6 ⟨s6, a6, b6, c6, d6, rfl, C6, hE⟩; have K6 := hide C6; have V6 := hide C6.1; clear C6; have hF : Ext W3 w6 := (by first | (with_reducible exact hE) | (with_reducible exact (ext_drew _).trans hE)); clear hE; have hG := hF; have Q0 := Q0.ext hG; have Q2 := Q2.ext hG; have EB := EB.trans hG; obtain ⟨q0, q1, q2, q3, q4, q5, q6, q7, q8, q9, qf0, qf1, qf2, qf3, qf4, qf5, qf6, qf7, qf8, qf9⟩ := ten_cells Q0; have szw6 := hG.size; have loQ0 := Q0.lt; have loQ2 := Q2.lt; clear hF hG)
     | (go_at_call 35; (with_reducible refine (ku.out _).mono ?_); rintro e' w6 ⟨s6, a6, b6, c6, d6, rfl, C6, hE⟩; have K6 := hide C6; have V6 := hide C6.1; clear C6; have hF : Ext (W3.alloc (.cells #[.bool false, .int .u64 0, .int .u64 0, .int .u64 0, .int .u64 0] 25)) w6 := (by first | (with_reducible exact hE) | (with_reducible exact (ext_drew _).trans hE)); clear hE; have hG := (ext_alloc W3 (.cells #[.bool false, .int .u64 0, .int .u64 0, .int .u64 0, .int .u64 0] 25)).trans hF; have Nw60 : Box w6 (W3.heap.size) false 0 0 0 0 := (Box.new0 W3).ext hF; have Q0 := Q0.ext hG; have Q2 := Q2.ext hG; have EB := EB.trans hG; obtain ⟨q0, q1, q2, q3, q4, q5, q6, q7, q8, q9, qf0, qf1, qf2, qf3, qf4, qf5, qf6, qf7, qf8, qf9⟩ := ten_cells Q0; obtain ⟨x0c0, x0c1, x0c2, x0c3, x0c4, x0f0, x0f1, x0f2, x0f3, x0f4⟩ := five_cells Nw60; have szw6 := hG.size; have loQ0 := Q0.lt; have loQ2 := Q2.lt; have loNw60 := Nw60.lt; have ne0 : W3.heap.size ≠ w.heap.size := (by omega); have ne1 : W3.heap.size ≠ w.heap.size + 1 := (by omega); clear hF hG)
     | (go_at_call 28; (with_reducible refine (kb.out _ _ _ _ _ _ _ _ _ _ _ V1.out V6.out).mono ?_); rintro e' w4 ⟨s3, a3, b3, c3, d3, rfl, C3, hE⟩; have K3 := hide C3; clear C3; have hF : Ext w6 w4 := (by first | (with_reducible exact hE) | (with_reducible exact (ext_drew _).trans hE)); clear hE; have hG := hF; have Q0 := Q0.ext hG; have Q2 := Q2.ext hG; have EB := EB.trans hG; have Nw60 := Nw60.ext hG; obtain ⟨q0, q1, q2, q3, q4, q5, q6, q7, q8, q9, qf0, qf1, qf2, qf3, qf4, qf5, qf6, qf7, qf8, qf9⟩ := ten_cells Q0; obtain ⟨x0c0, x0c1, x0c2, x0c3, x0c4, x0f0, x0f1, x0f2, x0f3, x0f4⟩ := five_cells Nw60; have szw4 := hG.size; have loQ0 := Q0.lt; have loQ2 := Q2.lt; have loNw60 := Nw60.lt; have ne0 : W3.heap.size ≠ w.heap.size := (by omega); have ne1 : W3.heap.size ≠ w.heap.size + 1 := (by omega); clear hF hG)
     | (go_at_call 28; (with_reducible refine (kb.out _ _ _ _ _ _ _ _ _ _ _ V1.out V6.out).mono ?_); rintro e' w4 ⟨s3, a3, b3, c3, d3, rfl, C3, hE⟩; have K3 := hide C3; clear C3; have hF : Ext w6 w4 := (by first | (with_reducible exact hE) | (with_reducible exact (ext_drew _).trans hE)); clear hE; have hG := hF; have Q0 := Q0.ext hG; have Q2 := Q2.ext hG; have EB := EB.trans hG; obtain ⟨q0, q1, q2, q3, q4, q5, q6, q7, q8, q9, qf0, qf1, qf2, qf3, qf4, qf5, qf6, qf7, qf8, qf9⟩ := ten_cells Q0; have szw4 := hG.size; have loQ0 := Q0.lt; have loQ2 := Q2.lt; clear hF hG)
     | (go_at_call 28; (with_reducible refine (kb.out _ _ _ _ _ _ _ _ _ _ _ V1.out V6.out).mono ?_); rintro e' w4 ⟨s3, a3, b3, c3, d3, rfl, C3, hE⟩; have K3 := hide C3; clear C3; have hF : Ext (w6.alloc (.cells #[.bool false, .int .u64 0, .int .u64 0, .int .u64 0, .int .u64 0] 25)) w4 := (by first | (with_reducible exact hE) | (with_reducible exact (ext_drew _).trans hE)); clear hE; have hG := (ext_alloc w6 (.cells #[.bool false, .int .u64 0, .int .u64 0, .int .u64 0, .int .u64 0] 25)).trans hF; have Nw40 : Box w4 (w6.heap.size) false 0 0 0 0 := (Box.new0 w6).ext hF; have Q0 := Q0.ext hG; have Q2 := Q2.ext hG; have EB := EB.trans hG; obtain ⟨q0, q1, q2, q3, q4, q5, q6, q7, q8, q9, qf0, qf1, qf2, qf3, qf4, qf5, qf6, qf7, qf8, qf9⟩ := ten_cells Q0; obtain ⟨x0c0, x0c1, x0c2, x0c3, x0c4, x0f0, x0f1, x0f2, x0f3, x0f4⟩ := five_cells Nw40; have szw4 := hG.size; have loQ0 := Q0.lt; have loQ2 := Q2.lt; have loNw40 := Nw40.lt; have ne0 : w6.heap.size ≠ w.heap.size := (by omega); have ne1 : w6.heap.size ≠ w.heap.size + 1 := (by omega); clear hF hG))
   all_goals go_wp2_with fail
   all_goals go_meet
   all_goals first
     | (with_reducible exact one0 K3.out EB)
     | (with_reducible exact one1 K3.out EB Nw40 (by omega))
     | (with_reducible exact one1 K3.out EB Nw60 (by omega))
  case rest =>
   obtain ⟨g7, s7, a7, b7, c7, d7, rfl, C7, B7, hg7, hE⟩ := hcut
   have K7 := hide C7
   have V7 := hide C7.1
   have Q0 := Q0.ext hE; have Q2 := Q2.ext hE; have QE := QE.trans hE
   clear C7 hE
   have l0 := Q0.lt
   obtain ⟨q0, q1, q2, q3, q4, q5, q6, q7, q8, q9, qf0, qf1, qf2, qf3, qf4, qf5, qf6, qf7, qf8, qf9⟩ := ten_cells Q0
   obtain ⟨m0, m1, m2, m3, m4, mf0, mf1, mf2, mf3, mf4⟩ := five_cells B7
   go_upto_region 4 with (go_at_call 36; (with_reducible refine (ka.out _ _ _ _ _ _ V7.out).mono ?_); rintro e' w8 ⟨s8, a8, b8, c8, d8, rfl, C8, hE⟩; have K8 := hide C8; have V8 := hide C8.1; have Q0 := Q0.ext hE; have Q2 := Q2.ext hE; have B7 := B7.ext hE; have QE := QE.trans hE; obtain ⟨m0, m1, m2, m3, m4, mf0, mf1, mf2, mf3, mf4⟩ := five_cells B7; clear hE C8)
   have B7 := B7.put (t := s8) (a' := a8) (b' := b8) (c' := c8) (d' := d8)
   have Q0 := Q0.far (b' := g7) (by omega) (.bool s8) (.int .u64 (a8 : Int)) (.int .u64 (b8 : Int)) (.int .u64 (c8 : Int)) (.int .u64 (d8 : Int))
   have Q2 := Q2.far (b' := g7) (by omega) (.bool s8) (.int .u64 (a8 : Int)) (.int .u64 (b8 : Int)) (.int .u64 (c8 : Int)) (.int .u64 (d8 : Int))
   have QE := ext_five QE (b := g7) (by omega) (.bool s8) (.int .u64 (a8 : Int)) (.int .u64 (b8 : Int)) (.int .u64 (c8 : Int)) (.int .u64 (d8 : Int))
   generalize (((((w8.setCell ⟨g7, 0, none⟩ (.bool s8)).setCell ⟨g7, 1, none⟩ (.int .u64 (a8 : Int))).setCell ⟨g7, 2, none⟩ (.int .u64 (b8 : Int))).setCell ⟨g7, 3, none⟩ (.int .u64 (c8 : Int))).setCell ⟨g7, 4, none⟩ (.int .u64 (d8 : Int))) = W8 at *
   obtain ⟨q0, q1, q2, q3, q4, q5, q6, q7, q8, q9, qf0, qf1, qf2, qf3, qf4, qf5, qf6, qf7, qf8, qf9⟩ := ten_cells Q0
   obtain ⟨m0, m1, m2, m3, m4, mf0, mf1, mf2, mf3, mf4⟩ := five_cells B7
   obtain ⟨m0, m1, m2, m3, m4, mf0, mf1, mf2, mf3, mf4⟩ := five_cells B7
   go_upto_region 5 with (go_at_call 36; (with_reducible refine (kc.out _ _ _ _ _ _ _ _ _ _ _ V8.out Y1.out).mono ?_); rintro e' w9 ⟨s9, a9, b9, c9, d9, rfl, C9, hE⟩; have K9 := hide C9; have V9 := hide C9.1; have Q0 := Q0.ext hE; have Q2 := Q2.ext hE; have B7 := B7.ext hE; have QE := QE.trans hE; obtain ⟨m0, m1, m2, m3, m4, mf0, mf1, mf2, mf3, mf4⟩ := five_cells B7; clear hE C9)
   have B7 := B7.put (t := s9) (a' := a9) (b' := b9) (c' := c9) (d' := d9)
   have Q0 := Q0.far (b' := g7) (by omega) (.bool s9) (.int .u64 (a9 : Int)) (.int .u64 (b9 : Int)) (.int .u64 (c9 : Int)) (.int .u64 (d9 : Int))
   have Q2 := Q2.far (b' := g7) (by omega) (.bool s9) (.int .u64 (a9 : Int)) (.int .u64 (b9 : Int)) (.int .u64 (c9 : Int)) (.int .u64 (d9 : Int))
   have QE := ext_five QE (b := g7) (by omega) (.bool s9) (.int .u64 (a9 : Int)) (.int .u64 (b9 : Int)) (.int .u64 (c9 : Int)) (.int .u64 (d9 : Int))
   generalize (((((w9.setCell ⟨g7, 0, none⟩ (.bool s9)).setCell ⟨g7, 1, none⟩ (.int .u64 (a9 : Int))).setCell ⟨g7, 2, none⟩ (.int .u64 (b9 : Int))).setCell ⟨g7, 3, none⟩ (.int .u64 (c9 : Int))).setCell ⟨g7, 4, none⟩ (.int .u64 (d9 : Int))) = W9 at *
   obtain ⟨q0, q1, q2, q3, q4, q5, q6, q7, q8, q9, qf0, qf1, qf2, qf3, qf4, qf5, qf6, qf7, qf8, qf9⟩ := ten_cells Q0
   obtain ⟨m0, m1, m2, m3, m4, mf0, mf1, mf2, mf3, mf4⟩ := five_cells B7
   go_upto_region 6 with (go_at_call 36; (with_reducible refine (kd.out _ _ _ _ _ _ Y1.out).mono ?_); rintro e' w11 ⟨s11, a11, b11, c11, d11, rfl, C11, hE⟩; have K11 := hide C11; have V11 := hide C11.1; have Q0 := Q0.ext hE; have Q2 := Q2.ext hE; have B7 := B7.ext hE; have QE := QE.trans hE; clear hE C11)
   have B11 : Box (w11.alloc (.cells #[.bool s11, .int .u64 (a11 : Int), .int .u64 (b11 : Int), .int .u64 (c11 : Int), .int .u64 (d11 : Int)] 25)) w11.heap.size s11 a11 b11 c11 d11 := Box.new w11 _ _ _ _ _
   have hE := ext_alloc w11 (.cells #[.bool s11, .int .u64 (a11 : Int), .int .u64 (b11 : Int), .int .u64 (c11 : Int), .int .u64 (d11 : Int)] 25)
   have Q0 := Q0.ext hE; have Q2 := Q2.ext hE; have B7 := B7.ext hE; have QE := QE.trans hE
   clear hE
   generalize w11.alloc (.cells #[.bool s11, .int .u64 (a11 : Int), .int .u64 (b11 : Int), .int .u64 (c11 : Int), .int .u64 (d11 : Int)] 25) = W11 at *
   generalize w11.heap.size = g11 at *
   obtain ⟨q0, q1, q2, q3, q4, q5, q6, q7, q8, q9, qf0, qf1, qf2, qf3, qf4, qf5, qf6, qf7, qf8, qf9⟩ := ten_cells Q0
   obtain ⟨u0, u1, u2, u3, u4, uf0, uf1, uf2, uf3, uf4⟩ := five_cells B7
   obtain ⟨r0, r1, r2, r3, r4, rf0, rf1, rf2, rf3, rf4⟩ := five_cells B11
   go_upto_region 7 with (go_at_call 46; refine (ref_wdiv s9 s11 a9 b9 c9 d9 a11 b11 c11 d11 z3 z4 _ K9.out.1 K11.out.1).mono ?_; rintro e' w13 ⟨s13, a13, b13, c13, d13, s14, a14, b14, c14, d14, o3, rfl, ho, C3, C4, hE⟩; have Ho := hide ho; rw [if_neg hmm0.out] at C3; have K3 := hide C3; have Q2 := Q2.ext hE; have QE := QE.trans hE; clear hE ho C3 C4)
   have l13 := Q2.lt
   have H4 := two_blocks w13 (.cells #[.bool s13, .int .u64 (a13 : Int), .int .u64 (b13 : Int), .int .u64 (c13 : Int), .int .u64 (d13 : Int)] 25) (.cells #[.bool s14, .int .u64 (a14 : Int), .int .u64 (b14 : Int), .int .u64 (c14 : Int), .int .u64 (d14 : Int)] 25)
   have hE := (ext_alloc w13 (.cells #[.bool s13, .int .u64 (a13 : Int), .int .u64 (b13 : Int), .int .u64 (c13 : Int), .int .u64 (d13 : Int)] 25)).trans (ext_alloc _ (.cells #[.bool s14, .int .u64 (a14 : Int), .int .u64 (b14 : Int), .int .u64 (c14 : Int), .int .u64 (d14 : Int)] 25))
   have Q2 := Q2.ext hE
   have QE := QE.trans hE
   generalize (w13.alloc (.cells #[.bool s13, .int .u64 (a13 : Int), .int .u64 (b13 : Int), .int .u64 (c13 : Int), .int .u64 (d13 : Int)] 25)).alloc (.cells #[.bool s14, .int .u64 (a14 : Int), .int .u64 (b14 : Int), .int .u64 (c14 : Int), .int .u64 (d14 : Int)] 25) = W13 at *
   have B13 : Box W13 w13.heap.size s13 a13 b13 c13 d13 := H4.1
   generalize w13.heap.size = g13 at *
   clear hE H4
   obtain ⟨v0, v1, v2, v3, v4, _⟩ := five_cells B13
   obtain ⟨i0, i1, i2, i3, i4, j0, j1, j2, j3, j4⟩ := five_cells Q2
   go_wp2_with fail
   all_goals exact bodyPost_ret (v := .agg #[.bool s13, .int .u64 (a13 : Int), .int .u64 (b13 : Int), .int .u64 (c13 : Int), .int .u64 (d13 : Int)]) (by simp [results, Try.results52, go_sem, i0, i1, i2, i3, i4]) rfl ⟨s13, a13, b13, c13, d13, rfl, K3.out, ext_five QE (by omega) _ _ _ _ _⟩
end Go.Proofs.Ythcobijnhfflnaa
