/- Floor and Compare of the reference of layer 3. Conditions: the cells stand for numbers. -/
import Derived.Test.YtbnbkondbdakeaaRef1
import Derived.Test.YtbnbkondbdakeaaRat3
namespace Go.Proofs.Ytbnbkondbdakeaa
set_option linter.unusedVariables false
set_option linter.unusedSimpArgs false
open Go Go.RowKit
set_option maxRecDepth 100000 in
set_option maxHeartbeats 16000000 in
theorem rf_compare (s1 : Bool) (a1 b1 c1 d1 : Nat) (t1 : Bool) (e1 f1 g1 h1 : Nat) (s2 : Bool) (a2 b2 c2 d2 : Nat) (t2 : Bool) (e2 f2 g2 h2 : Nat) (x1 y1 x2 y2 : Int) (w : World) (hx1 : IsW s1 a1 b1 c1 d1 x1) (hy1 : IsW t1 e1 f1 g1 h1 y1) (hx2 : IsW s2 a2 b2 c2 d2 x2) (hy2 : IsW t2 e2 f2 g2 h2 y2) (v1 v2 : Bool) (hv1 : decide (RatOk s1 x1 t1 y1) = v1) (hv2 : decide (RatOk s2 x2 t2 y2) = v2) :
    Calls Try.prog 29 #[.agg #[.bool s1, .int .u64 (a1 : Int), .int .u64 (b1 : Int), .int .u64 (c1 : Int), .int .u64 (d1 : Int), .bool t1, .int .u64 (e1 : Int), .int .u64 (f1 : Int), .int .u64 (g1 : Int), .int .u64 (h1 : Int)], .agg #[.bool s2, .int .u64 (a2 : Int), .int .u64 (b2 : Int), .int .u64 (c2 : Int), .int .u64 (d2 : Int), .bool t2, .int .u64 (e2 : Int), .int .u64 (f2 : Int), .int .u64 (g2 : Int), .int .u64 (h2 : Int)]] w (IntRet .i64 (cmpI (cN v1 x1 * cD v2 y2) (cN v2 x2 * cD v1 y1)) w) := by
  have H2 := two_blocks w (.cells #[.bool s1, .int .u64 (a1 : Int), .int .u64 (b1 : Int), .int .u64 (c1 : Int), .int .u64 (d1 : Int), .bool t1, .int .u64 (e1 : Int), .int .u64 (f1 : Int), .int .u64 (g1 : Int), .int .u64 (h1 : Int)] 35) (.cells #[.bool s2, .int .u64 (a2 : Int), .int .u64 (b2 : Int), .int .u64 (c2 : Int), .int .u64 (d2 : Int), .bool t2, .int .u64 (e2 : Int), .int .u64 (f2 : Int), .int .u64 (g2 : Int), .int .u64 (h2 : Int)] 35)
  have EE := (ext_alloc w (.cells #[.bool s1, .int .u64 (a1 : Int), .int .u64 (b1 : Int), .int .u64 (c1 : Int), .int .u64 (d1 : Int), .bool t1, .int .u64 (e1 : Int), .int .u64 (f1 : Int), .int .u64 (g1 : Int), .int .u64 (h1 : Int)] 35)).trans (ext_alloc _ (.cells #[.bool s2, .int .u64 (a2 : Int), .int .u64 (b2 : Int), .int .u64 (c2 : Int), .int .u64 (d2 : Int), .bool t2, .int .u64 (e2 : Int), .int .u64 (f2 : Int), .int .u64 (g2 : Int), .int .u64 (h2 : Int)] 35))
  obtain ⟨W, hW⟩ : ∃ W, W = (w.alloc (.cells #[.bool s1, .int .u64 (a1 : Int), .int .u64 (b1 : Int), .int .u64 (c1 : Int), .int .u64 (d1 : Int), .bool t1, .int .u64 (e1 : Int), .int .u64 (f1 : Int), .int .u64 (g1 : Int), .int .u64 (h1 : Int)] 35)).alloc (.cells #[.bool s2, .int .u64 (a2 : Int), .int .u64 (b2 : Int), .int .u64 (c2 : Int), .int .u64 (d2 : Int), .bool t2, .int .u64 (e2 : Int), .int .u64 (f2 : Int), .int .u64 (g2 : Int), .int .u64 (h2 : Int)] 35) := ⟨_, rfl⟩
  rw [← hW] at H2 EE
  have P1 : Box10 W w.heap.size s1 a1 b1 c1 d1 t1 e1 f1 g1 h1 := H2.1
  have P2 : Box10 W (w.heap.size + 1) s2 a2 b2 c2 d2 t2 e2 f2 g2 h2 := H2.2
  have HW := hide hW
  clear hW H2
  have k1 : Hid (∀ w', Calls Try.prog 81 #[.agg #[.bool s1, .int .u64 (a1 : Int), .int .u64 (b1 : Int), .int .u64 (c1 : Int), .int .u64 (d1 : Int), .bool t1, .int .u64 (e1 : Int), .int .u64 (f1 : Int), .int .u64 (g1 : Int), .int .u64 (h1 : Int)]] w' (RatRet (cN v1 x1) (cD v1 y1) w')) := fun w' => rf_clean _ _ _ _ _ _ _ _ _ _ x1 y1 w' hx1 hy1 v1 hv1
  have k2 : Hid (∀ w', Calls Try.prog 81 #[.agg #[.bool s2, .int .u64 (a2 : Int), .int .u64 (b2 : Int), .int .u64 (c2 : Int), .int .u64 (d2 : Int), .bool t2, .int .u64 (e2 : Int), .int .u64 (f2 : Int), .int .u64 (g2 : Int), .int .u64 (h2 : Int)]] w' (RatRet (cN v2 x2) (cD v2 y2) w')) := fun w' => rf_clean _ _ _ _ _ _ _ _ _ _ x2 y2 w' hx2 hy2 v2 hv2
  obtain ⟨bn1, bd1, pd1, _⟩ := cBound hv1
  obtain ⟨bn2, bd2, pd2, _⟩ := cBound hv2
  obtain ⟨r, hr⟩ : ∃ r, cmpI (cN v1 x1 * cD v2 y2) (cN v2 x2 * cD v1 y1) = r := ⟨_, rfl⟩
  rw [hr]
  have HR := hide hr
  clear hr hv1 hv2 hx1 hy1 hx2 hy2
  obtain ⟨n1, hn1⟩ : ∃ n, cN v1 x1 = n := ⟨_, rfl⟩
  obtain ⟨m1, hm1⟩ : ∃ n, cD v1 y1 = n := ⟨_, rfl⟩
  obtain ⟨n2, hn2⟩ : ∃ n, cN v2 x2 = n := ⟨_, rfl⟩
  obtain ⟨m2, hm2⟩ : ∃ n, cD v2 y2 = n := ⟨_, rfl⟩
  rw [hn1] at k1 HR bn1
  rw [hm1] at k1 HR bd1
  rw [hn2] at k2 HR bn2
  rw [hm2] at k2 HR bd2
  have B12 := hide (mul_bound bn1 bd2)
  have B21 := hide (mul_bound bn2 bd1)
  clear hn1 hm1 hn2 hm2 pd1 pd2 bn1 bn2 bd1 bd2
  obtain ⟨p0, p1, p2, p3, p4, p5, p6, p7, p8, p9, pf0, pf1, pf2, pf3, pf4, pf5, pf6, pf7, pf8, pf9⟩ := ten_cells P1
  obtain ⟨q0, q1, q2, q3, q4, q5, q6, q7, q8, q9, qf0, qf1, qf2, qf3, qf4, qf5, qf6, qf7, qf8, qf9⟩ := ten_cells P2
  go_enter Try.func29, Try.ntmps29
  go_upto_region 1 with fail
  rw [← HW.out]
  clear HW
  go_cut [] (fun wx => PairR w n1 m1 n2 m2 wx)
  case first =>
    go_region_with (first
      | (go_at_call 81; (with_reducible refine (k1.out _).mono ?_); rintro e' w5 ⟨s5, a5, b5, c5, d5, t5, e5, f5, g5, h5, rfl, hC5, hD5, hE⟩; have P1 : Box10 w5 w.heap.size s1 a1 b1 c1 d1 t1 e1 f1 g1 h1 := (by first | exact P1.ext hE | exact P1.drew.ext hE); have P2 : Box10 w5 (w.heap.size + 1) s2 a2 b2 c2 d2 t2 e2 f2 g2 h2 := (by first | exact P2.ext hE | exact P2.drew.ext hE); have EE : Ext w w5 := (by first | exact EE.trans hE | exact (EE.trans (ext_drew _)).trans hE); obtain ⟨p0, p1, p2, p3, p4, p5, p6, p7, p8, p9, pf0, pf1, pf2, pf3, pf4, pf5, pf6, pf7, pf8, pf9⟩ := ten_cells P1; obtain ⟨q0, q1, q2, q3, q4, q5, q6, q7, q8, q9, qf0, qf1, qf2, qf3, qf4, qf5, qf6, qf7, qf8, qf9⟩ := ten_cells P2; clear hE)
      | (go_at_call 81; (with_reducible refine (k2.out _).mono ?_); rintro e' w6 ⟨s6, a6, b6, c6, d6, t6, e6, f6, g6, h6, rfl, hC6, hD6, hE⟩; have P1 : Box10 w6 w.heap.size s1 a1 b1 c1 d1 t1 e1 f1 g1 h1 := (by first | exact P1.ext hE | exact P1.drew.ext hE); have P2 : Box10 w6 (w.heap.size + 1) s2 a2 b2 c2 d2 t2 e2 f2 g2 h2 := (by first | exact P2.ext hE | exact P2.drew.ext hE); have EE : Ext w w6 := (by first | exact EE.trans hE | exact (EE.trans (ext_drew _)).trans hE); obtain ⟨p0, p1, p2, p3, p4, p5, p6, p7, p8, p9, pf0, pf1, pf2, pf3, pf4, pf5, pf6, pf7, pf8, pf9⟩ := ten_cells P1; obtain ⟨q0, q1, q2, q3, q4, q5, q6, q7, q8, q9, qf0, qf1, qf2, qf3, qf4, qf5, qf6, qf7, qf8, qf9⟩ := ten_cells P2; clear hE))
    all_goals go_wp2_with fail
    all_goals go_meet
    all_goals exact ⟨s5, a5, b5, c5, d5, t5, e5, f5, g5, h5, s6, a6, b6, c6, d6, t6, e6, f6, g6, h6, hC5, hD5, hC6, hD6, (P1.put).far10 (by omega) _ _ _ _ _ _ _ _ _ _, (P2.far10 (by omega) _ _ _ _ _ _ _ _ _ _).put, ext_ten (ext_ten EE (Nat.le_refl _) _ _ _ _ _ _ _ _ _ _) (by omega) _ _ _ _ _ _ _ _ _ _⟩
  case rest =>
    clear P1 P2 EE
    obtain ⟨s1, a1, b1, c1, d1, t1, e1, f1, g1, h1, s2, a2, b2, c2, d2, t2, e2, f2, g2, h2, C1, D1, C2, D2, P1, P2, EE⟩ := hcut
    have K1 := hide C1
    have L1 := hide D1
    have K2 := hide C2
    have L2 := hide D2
    clear C1 D1 C2 D2 k1 k2
    have kc : Hid (∀ (s5 : Bool) (a5 b5 c5 d5 : Nat) (s6 : Bool) (a6 b6 c6 d6 : Nat) w', IsC s5 a5 b5 c5 d5 (n1 * m2) → IsC s6 a6 b6 c6 d6 (n2 * m1) → Calls Try.prog 59 #[.agg #[.bool s5, .int .u64 (a5 : Int), .int .u64 (b5 : Int), .int .u64 (c5 : Int), .int .u64 (d5 : Int)], .agg #[.bool s6, .int .u64 (a6 : Int), .int .u64 (b6 : Int), .int .u64 (c6 : Int), .int .u64 (d6 : Int)]] w' (IntRet .i64 r w')) := fun s5 a5 b5 c5 d5 s6 a6 b6 c6 d6 w' h5 h6 => by rw [← HR.out]; exact ref_compare _ _ _ _ _ _ _ _ _ _ _ _ w' h5.1 h6.1
    obtain ⟨p0, p1, p2, p3, p4, p5, p6, p7, p8, p9, pf0, pf1, pf2, pf3, pf4, pf5, pf6, pf7, pf8, pf9⟩ := ten_cells P1
    obtain ⟨q0, q1, q2, q3, q4, q5, q6, q7, q8, q9, qf0, qf1, qf2, qf3, qf4, qf5, qf6, qf7, qf8, qf9⟩ := ten_cells P2
    go_upto_region 3 with (go_at_call 33; refine (ref_wmul s1 t2 a1 b1 c1 d1 e2 f2 g2 h2 n1 m2 _ K1.out.1 L2.out.1).mono ?_; intro e' w7 hr7; obtain ⟨s5, a5, b5, c5, d5, rfl, C5, hE⟩ := wide_ret hr7 B12.out; have P1 := P1.ext hE; have P2 := P2.ext hE; have EE := EE.trans hE; clear hE hr7)
    have K5 := hide C5
    have B5 : Box (w7.alloc (.cells #[.bool s5, .int .u64 (a5 : Int), .int .u64 (b5 : Int), .int .u64 (c5 : Int), .int .u64 (d5 : Int)] 25)) w7.heap.size s5 a5 b5 c5 d5 := heap_alloc_new w7 _
    have hE := ext_alloc w7 (.cells #[.bool s5, .int .u64 (a5 : Int), .int .u64 (b5 : Int), .int .u64 (c5 : Int), .int .u64 (d5 : Int)] 25)
    have P1 := P1.ext hE
    have P2 := P2.ext hE
    have EE := EE.trans hE
    generalize w7.alloc (.cells #[.bool s5, .int .u64 (a5 : Int), .int .u64 (b5 : Int), .int .u64 (c5 : Int), .int .u64 (d5 : Int)] 25) = W7 at *
    generalize w7.heap.size = g7 at *
    clear C5 hE
    obtain ⟨p0, p1, p2, p3, p4, p5, p6, p7, p8, p9, pf0, pf1, pf2, pf3, pf4, pf5, pf6, pf7, pf8, pf9⟩ := ten_cells P1
    obtain ⟨q0, q1, q2, q3, q4, q5, q6, q7, q8, q9, qf0, qf1, qf2, qf3, qf4, qf5, qf6, qf7, qf8, qf9⟩ := ten_cells P2
    go_upto_region 4 with (go_at_call 33; refine (ref_wmul s2 t1 a2 b2 c2 d2 e1 f1 g1 h1 n2 m1 _ K2.out.1 L1.out.1).mono ?_; intro e' w8 hr8; obtain ⟨s6, a6, b6, c6, d6, rfl, C6, hE⟩ := wide_ret hr8 B21.out; have B5 := B5.ext hE; have EE := EE.trans hE; clear hE hr8)
    have K6 := hide C6
    have B6 : Box (w8.alloc (.cells #[.bool s6, .int .u64 (a6 : Int), .int .u64 (b6 : Int), .int .u64 (c6 : Int), .int .u64 (d6 : Int)] 25)) w8.heap.size s6 a6 b6 c6 d6 := heap_alloc_new w8 _
    have hE := ext_alloc w8 (.cells #[.bool s6, .int .u64 (a6 : Int), .int .u64 (b6 : Int), .int .u64 (c6 : Int), .int .u64 (d6 : Int)] 25)
    have B5 := B5.ext hE
    have EE := EE.trans hE
    generalize w8.alloc (.cells #[.bool s6, .int .u64 (a6 : Int), .int .u64 (b6 : Int), .int .u64 (c6 : Int), .int .u64 (d6 : Int)] 25) = W8 at *
    generalize w8.heap.size = g8 at *
    clear C6 hE
    obtain ⟨c0, c1', c2', c3, c4, _⟩ := five_cells B5
    obtain ⟨d0, d1', d2', d3, d4, _⟩ := five_cells B6
    go_wp2_with (go_at_call 59; refine (kc.out _ _ _ _ _ _ _ _ _ _ _ K5.out K6.out).mono ?_; rintro e' w9 ⟨rfl, hE⟩; have EE := EE.trans hE; clear hE)
    all_goals go_ret
    all_goals exact ⟨rfl, EE⟩
end Go.Proofs.Ytbnbkondbdakeaa
