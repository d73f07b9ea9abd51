/- Compare, Floor, Ceil and At of the program's package ratio. Conditions: the cells stand for numbers. -/
import Derived.Test.YtbnbkondbdakeaaRat2
namespace Go.Proofs.Ytbnbkondbdakeaa
set_option linter.unusedVariables false
set_option linter.unusedSimpArgs false
open Go Go.RowKit
theorem Box10.far10 {w : World} {k : Nat} {s : Bool} {a b c d : Nat} {t : Bool} {e f g h : Nat} {b' : Nat} (x : Box10 w k s a b c d t e f g h) (hn : k ≠ b') (u0 u1 u2 u3 u4 u5 u6 u7 u8 u9 : Value) : Box10 ((((((((((w.setCell ⟨b', 0, none⟩ u0).setCell ⟨b', 1, none⟩ u1).setCell ⟨b', 2, none⟩ u2).setCell ⟨b', 3, none⟩ u3).setCell ⟨b', 4, none⟩ u4).setCell ⟨b', 5, none⟩ u5).setCell ⟨b', 6, none⟩ u6).setCell ⟨b', 7, none⟩ u7).setCell ⟨b', 8, none⟩ u8).setCell ⟨b', 9, none⟩ u9) k s a b c d t e f g h := by
  unfold Box10 at *
  rw [heap_setCell_other _ _ _ _ (by simpa using hn), heap_setCell_other _ _ _ _ (by simpa using hn), heap_setCell_other _ _ _ _ (by simpa using hn), heap_setCell_other _ _ _ _ (by simpa using hn), heap_setCell_other _ _ _ _ (by simpa using hn), heap_setCell_other _ _ _ _ (by simpa using hn), heap_setCell_other _ _ _ _ (by simpa using hn), heap_setCell_other _ _ _ _ (by simpa using hn), heap_setCell_other _ _ _ _ (by simpa using hn), heap_setCell_other _ _ _ _ (by simpa using hn)]
  exact x
theorem set10 (v0 v1 v2 v3 v4 v5 v6 v7 v8 v9 u0 u1 u2 u3 u4 u5 u6 u7 u8 u9 : Value) : ((((((((((#[v0, v1, v2, v3, v4, v5, v6, v7, v8, v9] : Array Value).setIfInBounds 0 u0).setIfInBounds 1 u1).setIfInBounds 2 u2).setIfInBounds 3 u3).setIfInBounds 4 u4).setIfInBounds 5 u5).setIfInBounds 6 u6).setIfInBounds 7 u7).setIfInBounds 8 u8).setIfInBounds 9 u9 = #[u0, u1, u2, u3, u4, u5, u6, u7, u8, u9] := by
  apply Array.ext'
  simp only [Array.toList_setIfInBounds, List.set_cons_zero, List.set_cons_succ]
theorem Box10.put {w : World} {k : Nat} {s : Bool} {a b c d : Nat} {t : Bool} {e f g h : Nat} {s' : Bool} {a' b' c' d' : Nat} {t' : Bool} {e' f' g' h' : Nat} (x : Box10 w k s a b c d t e f g h) : Box10 ((((((((((w.setCell ⟨k, 0, none⟩ (.bool s')).setCell ⟨k, 1, none⟩ (.int .u64 (a' : Int))).setCell ⟨k, 2, none⟩ (.int .u64 (b' : Int))).setCell ⟨k, 3, none⟩ (.int .u64 (c' : Int))).setCell ⟨k, 4, none⟩ (.int .u64 (d' : Int))).setCell ⟨k, 5, none⟩ (.bool t')).setCell ⟨k, 6, none⟩ (.int .u64 (e' : Int))).setCell ⟨k, 7, none⟩ (.int .u64 (f' : Int))).setCell ⟨k, 8, none⟩ (.int .u64 (g' : Int))).setCell ⟨k, 9, none⟩ (.int .u64 (h' : Int))) k s' a' b' c' d' t' e' f' g' h' := by
  have y := store_block (store_block (store_block (store_block (store_block (store_block (store_block (store_block (store_block (store_block x 0 (.bool s')) 1 (.int .u64 (a' : Int))) 2 (.int .u64 (b' : Int))) 3 (.int .u64 (c' : Int))) 4 (.int .u64 (d' : Int))) 5 (.bool t')) 6 (.int .u64 (e' : Int))) 7 (.int .u64 (f' : Int))) 8 (.int .u64 (g' : Int))) 9 (.int .u64 (h' : Int))
  rw [set10] at y
  exact y
theorem cBound {s : Bool} {x : Int} {t : Bool} {y : Int} {v : Bool} (hv : decide (RatOk s x t y) = v) : (cN v x).natAbs < 170141183460469231731687303715884105728 ∧ (cD v y).natAbs < 170141183460469231731687303715884105728 ∧ 0 < cD v y ∧ Frac (cN v x) (cD v y) := by
  cases v
  · simp [cN, cD, Frac]
  · have h := (of_decide_eq_true hv).2.2
    exact ⟨h.2.1, h.2.2.1, h.1, h⟩
theorem mul_bound {n m : Int} (hn : n.natAbs < 170141183460469231731687303715884105728) (hm : m.natAbs < 170141183460469231731687303715884105728) : (n * m).natAbs < 115792089237316195423570985008687907853269984665640564039457584007913129639936 := by
  rw [Int.natAbs_mul]
  have h1 : n.natAbs * m.natAbs ≤ 170141183460469231731687303715884105728 * m.natAbs := Nat.mul_le_mul_right _ (by omega)
  omega
def PairR (w : World) (n1 m1 n2 m2 : Int) (wx : World) : Prop := ∃ (s : Bool) (a b c d : Nat) (t : Bool) (e f g h : Nat) (s' : Bool) (a' b' c' d' : Nat) (t' : Bool) (e' f' g' h' : Nat), IsC s a b c d n1 ∧ IsC t e f g h m1 ∧ IsC s' a' b' c' d' n2 ∧ IsC t' e' f' g' h' m2 ∧ Box10 wx w.heap.size s a b c d t e f g h ∧ Box10 wx (w.heap.size + 1) s' a' b' c' d' t' e' f' g' h' ∧ Ext w wx
def WideYes' (z : Int) (w : World) (e : Ending) (w' : World) : Prop := ∃ (s : Bool) (a b c d : Nat), e = .returned (.tuple #[.agg #[.bool s, .int .u64 (a : Int), .int .u64 (b : Int), .int .u64 (c : Int), .int .u64 (d : Int)], .bool true]) ∧ IsC s a b c d z ∧ Ext w w'
theorem wide_ret {z : Int} {w : World} {e : Ending} {w' : World} (h : WideRet z w e w') (hz : z.natAbs < 115792089237316195423570985008687907853269984665640564039457584007913129639936) : WideYes' z w e w' := by
  obtain ⟨s, a, b, c, d, o, rfl, ho, hC, hE⟩ := h
  rw [if_pos hz] at hC
  have : o = true := by rw [ho, decide_eq_true_iff]; exact hz
  subst this
  exact ⟨s, a, b, c, d, rfl, hC, hE⟩
set_option maxRecDepth 100000 in
set_option maxHeartbeats 16000000 in
theorem r_compare (s1 : Bool) (a1 b1 c1 d1 : Nat) (t1 : Bool) (e1 f1 g1 h1 : Nat) (s2 : Bool) (a2 b2 c2 d2 : Nat) (t2 : Bool) (e2 f2 g2 h2 : Nat) (x1 y1 x2 y2 : Int) (w : World) (hx1 : IsW s1 a1 b1 c1 d1 x1) (hy1 : IsW t1 e1 f1 g1 h1 y1) (hx2 : IsW s2 a2 b2 c2 d2 x2) (hy2 : IsW t2 e2 f2 g2 h2 y2) (v1 v2 : Bool) (hv1 : decide (RatOk s1 x1 t1 y1) = v1) (hv2 : decide (RatOk s2 x2 t2 y2) = v2) :
    Calls Try.prog 75 #[.agg #[.bool s1, .int .u64 (a1 : Int), .int .u64 (b1 : Int), .int .u64 (c1 : Int), .int .u64 (d1 : Int), .bool t1, .int .u64 (e1 : Int), .int .u64 (f1 : Int), .int .u64 (g1 : Int), .int .u64 (h1 : Int)], .agg #[.bool s2, .int .u64 (a2 : Int), .int .u64 (b2 : Int), .int .u64 (c2 : Int), .int .u64 (d2 : Int), .bool t2, .int .u64 (e2 : Int), .int .u64 (f2 : Int), .int .u64 (g2 : Int), .int .u64 (h2 : Int)]] w (IntRet .i64 (cmpI (cN v1 x1 * cD v2 y2) (cN v2 x2 * cD v1 y1)) w) := by
  have H2 := two_blocks w (.cells #[.bool s1, .int .u64 (a1 : Int), .int .u64 (b1 : Int), .int .u64 (c1 : Int), .int .u64 (d1 : Int), .bool t1, .int .u64 (e1 : Int), .int .u64 (f1 : Int), .int .u64 (g1 : Int), .int .u64 (h1 : Int)] 35) (.cells #[.bool s2, .int .u64 (a2 : Int), .int .u64 (b2 : Int), .int .u64 (c2 : Int), .int .u64 (d2 : Int), .bool t2, .int .u64 (e2 : Int), .int .u64 (f2 : Int), .int .u64 (g2 : Int), .int .u64 (h2 : Int)] 35)
  have EE := (ext_alloc w (.cells #[.bool s1, .int .u64 (a1 : Int), .int .u64 (b1 : Int), .int .u64 (c1 : Int), .int .u64 (d1 : Int), .bool t1, .int .u64 (e1 : Int), .int .u64 (f1 : Int), .int .u64 (g1 : Int), .int .u64 (h1 : Int)] 35)).trans (ext_alloc _ (.cells #[.bool s2, .int .u64 (a2 : Int), .int .u64 (b2 : Int), .int .u64 (c2 : Int), .int .u64 (d2 : Int), .bool t2, .int .u64 (e2 : Int), .int .u64 (f2 : Int), .int .u64 (g2 : Int), .int .u64 (h2 : Int)] 35))
  obtain ⟨W, hW⟩ : ∃ W, W = (w.alloc (.cells #[.bool s1, .int .u64 (a1 : Int), .int .u64 (b1 : Int), .int .u64 (c1 : Int), .int .u64 (d1 : Int), .bool t1, .int .u64 (e1 : Int), .int .u64 (f1 : Int), .int .u64 (g1 : Int), .int .u64 (h1 : Int)] 35)).alloc (.cells #[.bool s2, .int .u64 (a2 : Int), .int .u64 (b2 : Int), .int .u64 (c2 : Int), .int .u64 (d2 : Int), .bool t2, .int .u64 (e2 : Int), .int .u64 (f2 : Int), .int .u64 (g2 : Int), .int .u64 (h2 : Int)] 35) := ⟨_, rfl⟩
  rw [← hW] at H2 EE
  have P1 : Box10 W w.heap.size s1 a1 b1 c1 d1 t1 e1 f1 g1 h1 := H2.1
  have P2 : Box10 W (w.heap.size + 1) s2 a2 b2 c2 d2 t2 e2 f2 g2 h2 := H2.2
  have HW := hide hW
  clear hW H2
  have k1 : Hid (∀ w', Calls Try.prog 116 #[.agg #[.bool s1, .int .u64 (a1 : Int), .int .u64 (b1 : Int), .int .u64 (c1 : Int), .int .u64 (d1 : Int), .bool t1, .int .u64 (e1 : Int), .int .u64 (f1 : Int), .int .u64 (g1 : Int), .int .u64 (h1 : Int)]] w' (RatRet (cN v1 x1) (cD v1 y1) w')) := fun w' => r_counted _ _ _ _ _ _ _ _ _ _ x1 y1 w' hx1 hy1 v1 hv1
  have k2 : Hid (∀ w', Calls Try.prog 116 #[.agg #[.bool s2, .int .u64 (a2 : Int), .int .u64 (b2 : Int), .int .u64 (c2 : Int), .int .u64 (d2 : Int), .bool t2, .int .u64 (e2 : Int), .int .u64 (f2 : Int), .int .u64 (g2 : Int), .int .u64 (h2 : Int)]] w' (RatRet (cN v2 x2) (cD v2 y2) w')) := fun w' => r_counted _ _ _ _ _ _ _ _ _ _ x2 y2 w' hx2 hy2 v2 hv2
  obtain ⟨bn1, bd1, pd1, _⟩ := cBound hv1
  obtain ⟨bn2, bd2, pd2, _⟩ := cBound hv2
  obtain ⟨r, hr⟩ : ∃ r, cmpI (cN v1 x1 * cD v2 y2) (cN v2 x2 * cD v1 y1) = r := ⟨_, rfl⟩
  rw [hr]
  obtain ⟨q, hq⟩ : ∃ q, (same5 s1 s2 a1 b1 c1 d1 a2 b2 c2 d2 && same5 t1 t2 e1 f1 g1 h1 e2 f2 g2 h2) = q := ⟨_, rfl⟩
  have hqq := eq10 s1 s2 a1 b1 c1 d1 a2 b2 c2 d2 t1 t2 e1 f1 g1 h1 e2 f2 g2 h2
  rw [hq] at hqq
  have hr0 : Hid (q = true → r = 0) := by
    intro h
    rw [h] at hq
    simp only [same5, Bool.and_eq_true, beq_iff_eq] at hq
    obtain ⟨⟨rfl, i1, i2, i3, i4⟩, rfl, i5, i6, i7, i8⟩ := hq
    obtain rfl : a1 = a2 := by omega
    obtain rfl : b1 = b2 := by omega
    obtain rfl : c1 = c2 := by omega
    obtain rfl : d1 = d2 := by omega
    obtain rfl : e1 = e2 := by omega
    obtain rfl : f1 = f2 := by omega
    obtain rfl : g1 = g2 := by omega
    obtain rfl : h1 = h2 := by omega
    obtain rfl : x1 = x2 := hx1.2.2.2.2.trans hx2.2.2.2.2.symm
    obtain rfl : y1 = y2 := hy1.2.2.2.2.trans hy2.2.2.2.2.symm
    rw [hv1] at hv2
    subst hv2
    rw [← hr]; unfold cmpI
    rw [if_neg (Int.lt_irrefl _), if_neg (Int.lt_irrefl _)]
  have HR := hide hr
  clear hr hq hv1 hv2 hx1 hy1 hx2 hy2
  obtain ⟨n1, hn1⟩ : ∃ n, cN v1 x1 = n := ⟨_, rfl⟩
  obtain ⟨m1, hm1⟩ : ∃ n, cD v1 y1 = n := ⟨_, rfl⟩
  obtain ⟨n2, hn2⟩ : ∃ n, cN v2 x2 = n := ⟨_, rfl⟩
  obtain ⟨m2, hm2⟩ : ∃ n, cD v2 y2 = n := ⟨_, rfl⟩
  rw [hn1] at k1 HR bn1
  rw [hm1] at k1 HR bd1
  rw [hn2] at k2 HR bn2
  rw [hm2] at k2 HR bd2
  have B12 := hide (mul_bound bn1 bd2)
  have B21 := hide (mul_bound bn2 bd1)
  clear hn1 hm1 hn2 hm2 pd1 pd2 bn1 bn2 bd1 bd2
  obtain ⟨p0, p1, p2, p3, p4, p5, p6, p7, p8, p9, pf0, pf1, pf2, pf3, pf4, pf5, pf6, pf7, pf8, pf9⟩ := ten_cells P1
  obtain ⟨q0, q1, q2, q3, q4, q5, q6, q7, q8, q9, qf0, qf1, qf2, qf3, qf4, qf5, qf6, qf7, qf8, qf9⟩ := ten_cells P2
  go_enter Try.func75, Try.ntmps75
  go_upto_region 1 with fail
  rw [← HW.out]
  clear HW
  cases q
  · clear hr0
    go_upto_region 3 with fail
    clear hqq
    go_cut [] (fun wx => PairR w n1 m1 n2 m2 wx)
    case first =>
      go_region_with (first
        | (go_at_call 116; (with_reducible refine (k1.out _).mono ?_); rintro e' w5 ⟨s5, a5, b5, c5, d5, t5, e5, f5, g5, h5, rfl, hC5, hD5, hE⟩; have P1 : Box10 w5 w.heap.size s1 a1 b1 c1 d1 t1 e1 f1 g1 h1 := (by first | exact P1.ext hE | exact P1.drew.ext hE); have P2 : Box10 w5 (w.heap.size + 1) s2 a2 b2 c2 d2 t2 e2 f2 g2 h2 := (by first | exact P2.ext hE | exact P2.drew.ext hE); have EE : Ext w w5 := (by first | exact EE.trans hE | exact (EE.trans (ext_drew _)).trans hE); obtain ⟨p0, p1, p2, p3, p4, p5, p6, p7, p8, p9, pf0, pf1, pf2, pf3, pf4, pf5, pf6, pf7, pf8, pf9⟩ := ten_cells P1; obtain ⟨q0, q1, q2, q3, q4, q5, q6, q7, q8, q9, qf0, qf1, qf2, qf3, qf4, qf5, qf6, qf7, qf8, qf9⟩ := ten_cells P2; clear hE)
        | (go_at_call 116; (with_reducible refine (k2.out _).mono ?_); rintro e' w6 ⟨s6, a6, b6, c6, d6, t6, e6, f6, g6, h6, rfl, hC6, hD6, hE⟩; have P1 : Box10 w6 w.heap.size s1 a1 b1 c1 d1 t1 e1 f1 g1 h1 := (by first | exact P1.ext hE | exact P1.drew.ext hE); have P2 : Box10 w6 (w.heap.size + 1) s2 a2 b2 c2 d2 t2 e2 f2 g2 h2 := (by first | exact P2.ext hE | exact P2.drew.ext hE); have EE : Ext w w6 := (by first | exact EE.trans hE | exact (EE.trans (ext_drew _)).trans hE); obtain ⟨p0, p1, p2, p3, p4, p5, p6, p7, p8, p9, pf0, pf1, pf2, pf3, pf4, pf5, pf6, pf7, pf8, pf9⟩ := ten_cells P1; obtain ⟨q0, q1, q2, q3, q4, q5, q6, q7, q8, q9, qf0, qf1, qf2, qf3, qf4, qf5, qf6, qf7, qf8, qf9⟩ := ten_cells P2; clear hE))
      all_goals go_wp2_with fail
      all_goals go_meet
      all_goals exact ⟨s5, a5, b5, c5, d5, t5, e5, f5, g5, h5, s6, a6, b6, c6, d6, t6, e6, f6, g6, h6, hC5, hD5, hC6, hD6, (P1.put).far10 (by omega) _ _ _ _ _ _ _ _ _ _, (P2.far10 (by omega) _ _ _ _ _ _ _ _ _ _).put, ext_ten (ext_ten EE (Nat.le_refl _) _ _ _ _ _ _ _ _ _ _) (by omega) _ _ _ _ _ _ _ _ _ _⟩
    case rest =>
      clear P1 P2 EE
      obtain ⟨s1, a1, b1, c1, d1, t1, e1, f1, g1, h1, s2, a2, b2, c2, d2, t2, e2, f2, g2, h2, C1, D1, C2, D2, P1, P2, EE⟩ := hcut
      have K1 := hide C1
      have L1 := hide D1
      have K2 := hide C2
      have L2 := hide D2
      clear C1 D1 C2 D2 k1 k2
      have kc : Hid (∀ (s5 : Bool) (a5 b5 c5 d5 : Nat) (s6 : Bool) (a6 b6 c6 d6 : Nat) w', IsC s5 a5 b5 c5 d5 (n1 * m2) → IsC s6 a6 b6 c6 d6 (n2 * m1) → Calls Try.prog 82 #[.agg #[.bool s5, .int .u64 (a5 : Int), .int .u64 (b5 : Int), .int .u64 (c5 : Int), .int .u64 (d5 : Int)], .agg #[.bool s6, .int .u64 (a6 : Int), .int .u64 (b6 : Int), .int .u64 (c6 : Int), .int .u64 (d6 : Int)]] w' (IntRet .i64 r w')) := fun s5 a5 b5 c5 d5 s6 a6 b6 c6 d6 w' h5 h6 => by rw [← HR.out]; exact p_compare _ _ _ _ _ _ _ _ _ _ _ _ w' h5.1 h6.1
      obtain ⟨p0, p1, p2, p3, p4, p5, p6, p7, p8, p9, pf0, pf1, pf2, pf3, pf4, pf5, pf6, pf7, pf8, pf9⟩ := ten_cells P1
      obtain ⟨q0, q1, q2, q3, q4, q5, q6, q7, q8, q9, qf0, qf1, qf2, qf3, qf4, qf5, qf6, qf7, qf8, qf9⟩ := ten_cells P2
      go_upto_region 5 with (go_at_call 118; refine (p_wmul s1 t2 a1 b1 c1 d1 e2 f2 g2 h2 n1 m2 _ K1.out.1 L2.out.1).mono ?_; intro e' w7 hr7; obtain ⟨s5, a5, b5, c5, d5, rfl, C5, hE⟩ := wide_ret hr7 B12.out; have P1 := P1.ext hE; have P2 := P2.ext hE; have EE := EE.trans hE; clear hE hr7)
      have K5 := hide C5
      have B5 : Box (w7.alloc (.cells #[.bool s5, .int .u64 (a5 : Int), .int .u64 (b5 : Int), .int .u64 (c5 : Int), .int .u64 (d5 : Int)] 25)) w7.heap.size s5 a5 b5 c5 d5 := heap_alloc_new w7 _
      have hE := ext_alloc w7 (.cells #[.bool s5, .int .u64 (a5 : Int), .int .u64 (b5 : Int), .int .u64 (c5 : Int), .int .u64 (d5 : Int)] 25)
      have P1 := P1.ext hE
      have P2 := P2.ext hE
      have EE := EE.trans hE
      generalize w7.alloc (.cells #[.bool s5, .int .u64 (a5 : Int), .int .u64 (b5 : Int), .int .u64 (c5 : Int), .int .u64 (d5 : Int)] 25) = W7 at *
      generalize w7.heap.size = g7 at *
      clear C5 hE
      obtain ⟨p0, p1, p2, p3, p4, p5, p6, p7, p8, p9, pf0, pf1, pf2, pf3, pf4, pf5, pf6, pf7, pf8, pf9⟩ := ten_cells P1
      obtain ⟨q0, q1, q2, q3, q4, q5, q6, q7, q8, q9, qf0, qf1, qf2, qf3, qf4, qf5, qf6, qf7, qf8, qf9⟩ := ten_cells P2
      go_upto_region 6 with (go_at_call 118; refine (p_wmul s2 t1 a2 b2 c2 d2 e1 f1 g1 h1 n2 m1 _ K2.out.1 L1.out.1).mono ?_; intro e' w8 hr8; obtain ⟨s6, a6, b6, c6, d6, rfl, C6, hE⟩ := wide_ret hr8 B21.out; have B5 := B5.ext hE; have EE := EE.trans hE; clear hE hr8)
      have K6 := hide C6
      have B6 : Box (w8.alloc (.cells #[.bool s6, .int .u64 (a6 : Int), .int .u64 (b6 : Int), .int .u64 (c6 : Int), .int .u64 (d6 : Int)] 25)) w8.heap.size s6 a6 b6 c6 d6 := heap_alloc_new w8 _
      have hE := ext_alloc w8 (.cells #[.bool s6, .int .u64 (a6 : Int), .int .u64 (b6 : Int), .int .u64 (c6 : Int), .int .u64 (d6 : Int)] 25)
      have B5 := B5.ext hE
      have EE := EE.trans hE
      generalize w8.alloc (.cells #[.bool s6, .int .u64 (a6 : Int), .int .u64 (b6 : Int), .int .u64 (c6 : Int), .int .u64 (d6 : Int)] 25) = W8 at *
      generalize w8.heap.size = g8 at *
      clear C6 hE
      obtain ⟨c0, c1', c2', c3, c4, _⟩ := five_cells B5
      obtain ⟨d0, d1', d2', d3, d4, _⟩ := five_cells B6
      go_wp2_with (go_at_call 82; refine (kc.out _ _ _ _ _ _ _ _ _ _ _ K5.out K6.out).mono ?_; rintro e' w9 ⟨rfl, hE⟩; have EE := EE.trans hE; clear hE)
      all_goals go_ret
      all_goals exact ⟨rfl, EE⟩
  · have hr0 := hr0.out rfl
    subst hr0
    go_wp2_with fail
    go_ret
    exact ⟨rfl, EE⟩
end Go.Proofs.Ytbnbkondbdakeaa
