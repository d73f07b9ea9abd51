/- Mul of the program. Conditions: the cells stand for numbers. -/
import Derived.Test.YtkhlhlldlikleaaDoorWrdJ
namespace Go.Proofs.YtkhlhlldlikleaaDoor
set_option linter.unusedVariables false
set_option linter.unusedSimpArgs false
open Go Go.RowKit
theorem mul_abs (s t : Bool) (n m : Nat) (x y : Int) (hx : x = if s then -(n : Int) else n) (hy : y = if t then -(m : Int) else m) :
    (if (s != t) then -((n * m : Nat) : Int) else ((n * m : Nat) : Int)) = x * y ∧ (x * y).natAbs = n * m := by
  have e : (x * y).natAbs = n * m := by
    rw [Int.natAbs_mul]
    have h1 : x.natAbs = n := by cases s <;> simp at hx <;> omega
    have h2 : y.natAbs = m := by cases t <;> simp at hy <;> omega
    rw [h1, h2]
  refine ⟨?_, e⟩
  subst hx; subst hy
  cases s <;> cases t <;> simp [Int.neg_mul, Int.mul_neg]
theorem neqB (s t u : Bool) (h : (s != t) = u) (w : World) : (binOp .neq 4 (.bool s) (.bool t)).run Tryd.prog w = .ok (.bool u) w := by
  subst h
  have e := fun d => run_equalIn_bool' w d 4 s t Tryd.underlying4
  simp only [binOp]
  simp [Op.equal, Op.maxDepth, e 9999]
  cases s <;> cases t <;> rfl
set_option maxHeartbeats 400000 in
set_option maxRecDepth 100000 in
theorem p_wmul (s t : Bool) (a b c d e f g h : Nat) (x y : Int) (w : World) (hx : IsW s a b c d x) (hy : IsW t e f g h y) :
    Calls Tryd.prog 20 #[.agg #[.bool s, .int .u64 (a : Int), .int .u64 (b : Int), .int .u64 (c : Int), .int .u64 (d : Int)], .agg #[.bool t, .int .u64 (e : Int), .int .u64 (f : Int), .int .u64 (g : Int), .int .u64 (h : Int)]] w (WideRet (x * y) w) := by
  obtain ⟨W, hW⟩ : ∃ W, W = (((w.alloc (.cells #[.bool s, .int .u64 (a : Int), .int .u64 (b : Int), .int .u64 (c : Int), .int .u64 (d : Int)] 25)).alloc (.cells #[.bool t, .int .u64 (e : Int), .int .u64 (f : Int), .int .u64 (g : Int), .int .u64 (h : Int)] 25)).alloc (.cells #[.bool false, .int .u64 0, .int .u64 0, .int .u64 0, .int .u64 0] 25)) := ⟨_, rfl⟩
  have H3 := three_boxes w (.cells #[.bool s, .int .u64 (a : Int), .int .u64 (b : Int), .int .u64 (c : Int), .int .u64 (d : Int)] 25) (.cells #[.bool t, .int .u64 (e : Int), .int .u64 (f : Int), .int .u64 (g : Int), .int .u64 (h : Int)] 25) (.cells #[.bool false, .int .u64 0, .int .u64 0, .int .u64 0, .int .u64 0] 25)
  rw [← hW] at H3
  have B0 : Box W w.heap.size s a b c d := H3.1
  have B1 : Box W (w.heap.size + 1) t e f g h := H3.2.1
  have B2 : Box W (w.heap.size + 1 + 1) false 0 0 0 0 := H3.2.2
  have E0 : Ext w W := by rw [hW]; exact ((ext_alloc _ _).trans (ext_alloc _ _)).trans (ext_alloc _ _)
  have HW := hide hW
  clear hW H3
  obtain ⟨n, hn⟩ : ∃ n, x.natAbs = n := ⟨_, rfl⟩
  obtain ⟨m, hm⟩ : ∃ m, y.natAbs = m := ⟨_, rfl⟩
  have MX : Hid (mag4 a b c d = n) := by rw [← hn]; exact hx.abs
  have MY : Hid (mag4 e f g h = m) := by rw [← hm]; exact hy.abs
  have wx := hx.w64
  have wy := hy.w64
  obtain ⟨u, hu⟩ : ∃ u, (s != t) = u := ⟨_, rfl⟩
  have SZ : Hid ((if u then -((n * m : Nat) : Int) else ((n * m : Nat) : Int)) = x * y ∧ (x * y).natAbs = n * m) := by
    have h1 := hx.2.2.2.2
    have h2 := hy.2.2.2.2
    rw [MX.out] at h1
    rw [MY.out] at h2
    rw [← hu]
    exact mul_abs s t n m x y h1 h2
  have hnb := neqB s t u hu
  clear hn hm hx hy hu
  obtain ⟨c0, c1, c2, c3, c4, f0, f1, f2, f3, f4⟩ := five_cells B0
  obtain ⟨d0, d1, d2, d3, d4, g0, g1, g2, g3, g4⟩ := five_cells B1
  by_cases hf : n * m < 115792089237316195423570985008687907853269984665640564039457584007913129639936
  · have HO : Hid (decide (n * m < 115792089237316195423570985008687907853269984665640564039457584007913129639936) = true) := by unfold Hid; rw [decide_eq_true_iff]; exact hf
    have HM : Hid ((n * m) % 115792089237316195423570985008687907853269984665640564039457584007913129639936 = n * m) := by unfold Hid; rw [Nat.mod_eq_of_lt hf]
    have HF : Hid ((x * y).natAbs < 115792089237316195423570985008687907853269984665640564039457584007913129639936) := by rw [SZ.out.2]; exact hf
    clear hf
    go_enter Tryd.func20, Tryd.ntmps20
    go_upto_region 1 with fail
    rw [← HW.out]
    clear HW
    go_wp2_with (first
      | (go_at_call 48; refine (p_mulWords a b c d e f g h n m MX.out MY.out _ wx wy).mono ?_; rintro e' w' ⟨a1, b1, c1', d1', rfl, hw1, hm1, hE⟩; rw [HO.out]; rw [HM.out] at hm1; have Hm1 := hide hm1; clear hm1; have R0 := B0.ext hE; have R1 := B1.ext hE; have R2 := B2.ext hE; obtain ⟨c0, c1, c2, c3, c4, f0, f1, f2, f3, f4⟩ := five_cells R0; obtain ⟨d0, d1, d2, d3, d4, g0, g1, g2, g3, g4⟩ := five_cells R1; have l0 := R0.lt; have l1 := R1.lt; have l2 := R2.lt; have E1 := E0.trans hE; clear hE)
      | (go_at_call 43; refine (p_signed u a1 b1 c1' d1' _ (w64_four hw1).1 (w64_four hw1).2.1 (w64_four hw1).2.2.1 (w64_four hw1).2.2.2).mono ?_; rintro e' w' ⟨s', a', b', c', d', rfl, hC, hE⟩; rw [Hm1.out, SZ.out.1] at hC; have E1 := (E1.trans (ext_alloc _ _)).trans hE; have R3 := (R2.ext (ext_alloc _ _)).ext hE; obtain ⟨d0, d1, d2, d3, d4, g0, g1, g2, g3, g4⟩ := five_cells R3; clear hE))
    all_goals exact bodyPost_ret (v := .tuple #[.agg #[.bool s', .int .u64 (a' : Int), .int .u64 (b' : Int), .int .u64 (c' : Int), .int .u64 (d' : Int)], .bool true]) (by simp [results, Tryd.results20, go_sem, d0, d1, d2, d3, d4]) rfl (wideRet_yes HF.out hC (ext_five E1 (by omega) _ _ _ _ _))
  · have HO : Hid (decide (n * m < 115792089237316195423570985008687907853269984665640564039457584007913129639936) = false) := by unfold Hid; rw [decide_eq_false_iff_not]; exact hf
    have HF : Hid (¬ (x * y).natAbs < 115792089237316195423570985008687907853269984665640564039457584007913129639936) := by rw [SZ.out.2]; exact hf
    clear hf
    go_enter Tryd.func20, Tryd.ntmps20
    go_upto_region 1 with fail
    rw [← HW.out]
    clear HW
    go_wp2_with (go_at_call 48; refine (p_mulWords a b c d e f g h n m MX.out MY.out _ wx wy).mono ?_; rintro e' w' ⟨a1, b1, c1', d1', rfl, hw1, hm1, hE⟩; rw [HO.out]; clear hm1; have R2 := B2.ext hE; have l2 := R2.lt; obtain ⟨d0, d1, d2, d3, d4, g0, g1, g2, g3, g4⟩ := five_cells R2; have E1 := E0.trans hE; clear hE)
    all_goals exact bodyPost_ret (v := .tuple #[.agg #[.bool false, .int .u64 0, .int .u64 0, .int .u64 0, .int .u64 0], .bool false]) (by simp [results, Tryd.results20, go_sem, d0, d1, d2, d3, d4, l2]) rfl (wideRet_no HF.out ((ext_five E1 (by omega) _ _ _ _ _).trans (ext_alloc _ _)))
end Go.Proofs.YtkhlhlldlikleaaDoor
