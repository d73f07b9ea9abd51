/- DivMod of the program. Conditions: the cells stand for numbers. -/
import Derived.Test.YtbnbkondbdakeaaDivK
namespace Go.Proofs.Ytbnbkondbdakeaa
set_option linter.unusedVariables false
set_option linter.unusedSimpArgs false
open Go Go.RowKit
/-- A quotient and a rest are returned, or 0 and 0. -/
def DivRet (x y : Int) (w : World) (e : Ending) (w' : World) : Prop := ∃ (s : Bool) (a b c d : Nat) (t : Bool) (e' f g h : Nat) (o : Bool), e = .returned (.tuple #[.agg #[.bool s, .int .u64 (a : Int), .int .u64 (b : Int), .int .u64 (c : Int), .int .u64 (d : Int)], .agg #[.bool t, .int .u64 (e' : Int), .int .u64 (f : Int), .int .u64 (g : Int), .int .u64 (h : Int)], .bool o]) ∧
  o = decide (y ≠ 0) ∧ IsC s a b c d (if y = 0 then 0 else x / y) ∧ IsC t e' f g h (if y = 0 then 0 else x % y) ∧ Ext w w'
theorem isC_zero : IsC false 0 0 0 0 0 := ⟨⟨by omega, by omega, by omega, by omega, by simp [mag4, val]⟩, by simp⟩
theorem divRet_no {x y : Int} {w w' : World} (hy : y = 0) (hE : Ext w w') :
    DivRet x y w (.returned (.tuple #[.agg #[.bool false, .int .u64 0, .int .u64 0, .int .u64 0, .int .u64 0], .agg #[.bool false, .int .u64 0, .int .u64 0, .int .u64 0, .int .u64 0], .bool false])) w' :=
  ⟨false, 0, 0, 0, 0, false, 0, 0, 0, 0, false, rfl, by simp [hy], by rw [if_pos hy]; exact isC_zero, by rw [if_pos hy]; exact isC_zero, hE⟩
theorem divRet_yes {x y : Int} {w w' : World} {s t : Bool} {a b c d e f g h : Nat} (hy : y ≠ 0) (h1 : IsC s a b c d (x / y)) (h2 : IsC t e f g h (x % y)) (hE : Ext w w') :
    DivRet x y w (.returned (.tuple #[.agg #[.bool s, .int .u64 (a : Int), .int .u64 (b : Int), .int .u64 (c : Int), .int .u64 (d : Int)], .agg #[.bool t, .int .u64 (e : Int), .int .u64 (f : Int), .int .u64 (g : Int), .int .u64 (h : Int)], .bool true])) w' :=
  ⟨s, a, b, c, d, t, e, f, g, h, true, rfl, by simp [hy], by rw [if_neg hy]; exact h1, by rw [if_neg hy]; exact h2, hE⟩
/-- The quotient and the rest of signed numbers by those of their absolute values. -/
theorem div_signs (s t : Bool) (n m : Nat) (x y : Int) (hx : x = if s then -(n : Int) else n) (hy : y = if t then -(m : Int) else m) (hm : 0 < m) :
    ((s = false ∨ n % m = 0) → x / y = (if (s != t) then -((n / m : Nat) : Int) else ((n / m : Nat) : Int)) ∧ x % y = ((n % m : Nat) : Int)) ∧
    (s = true ∧ n % m ≠ 0 → x / y = (if (s != t) then -((n / m + 1 : Nat) : Int) else ((n / m + 1 : Nat) : Int)) ∧ x % y = ((m - n % m : Nat) : Int)) := by
  have e := Nat.div_add_mod n m
  have hr := Nat.mod_lt n hm
  have key : ∀ (q r : Int), x = y * q + r → 0 ≤ r → r < m → x / y = q ∧ x % y = r := by
    intro q r h1 h2 h3
    have hy0 : y ≠ 0 := by cases t <;> simp at hy <;> omega
    have hya : (y.natAbs : Int) = m := by cases t <;> simp at hy <;> omega
    have h4 := Int.emod_add_mul_ediv x y
    have h5 := Int.emod_nonneg x hy0
    have h6 := Int.emod_lt x hy0
    rw [hya] at h6
    have h7 : y * (x / y - q) = r - x % y := by rw [Int.mul_sub]; omega
    have h8 : (x / y - q) = 0 := by
      have h9 : (y * (x / y - q)).natAbs < m := by rw [h7]; omega
      rw [Int.natAbs_mul, show y.natAbs = m by omega] at h9
      have h10 : (x / y - q).natAbs = 0 := by
        rcases Nat.eq_zero_or_pos (x / y - q).natAbs with h | h
        · exact h
        · exfalso
          have : m * 1 ≤ m * (x / y - q).natAbs := Nat.mul_le_mul_left _ h
          omega
      omega
    rw [h8, Int.mul_zero] at h7
    exact ⟨by omega, by omega⟩
  generalize n / m = q at *
  generalize n % m = r at *
  have e' : (n : Int) = m * q + r := by rw [← e]; simp
  constructor
  · intro h
    refine key _ _ ?_ (by omega) (by omega)
    cases s <;> cases t <;> simp at hx hy h ⊢ <;> subst hx <;> subst hy <;> rw [e'] <;> (try subst h) <;> simp [Int.neg_mul, Int.mul_neg]
  · rintro ⟨h, h0⟩
    refine key _ _ ?_ (by omega) (by omega)
    have e2 : ((m - r : Nat) : Int) = (m : Int) - r := by omega
    rw [e2]
    subst h
    cases t <;> simp at hx hy ⊢ <;> subst hx <;> subst hy <;> rw [e'] <;> simp [Int.neg_mul, Int.mul_neg, Int.mul_add] <;> omega
theorem four_boxes (w : World) (s t : Bool) (a b c d e f g h : Nat) : ∃ W, ((((w.alloc (.cells #[.bool s, .int .u64 (a : Int), .int .u64 (b : Int), .int .u64 (c : Int), .int .u64 (d : Int)] 25)).alloc (.cells #[.bool t, .int .u64 (e : Int), .int .u64 (f : Int), .int .u64 (g : Int), .int .u64 (h : Int)] 25)).alloc (.cells #[.bool false, .int .u64 0, .int .u64 0, .int .u64 0, .int .u64 0] 25)).alloc (.cells #[.bool false, .int .u64 0, .int .u64 0, .int .u64 0, .int .u64 0] 25)) = W ∧
    Box W w.heap.size s a b c d ∧ Box W (w.heap.size + 1) t e f g h ∧ Box W (w.heap.size + 1 + 1) false 0 0 0 0 ∧ Box W (w.heap.size + 1 + 1 + 1) false 0 0 0 0 ∧ Ext w W := by
  have h := four_new w (.cells #[.bool s, .int .u64 (a : Int), .int .u64 (b : Int), .int .u64 (c : Int), .int .u64 (d : Int)] 25) (.cells #[.bool t, .int .u64 (e : Int), .int .u64 (f : Int), .int .u64 (g : Int), .int .u64 (h : Int)] 25) (.cells #[.bool false, .int .u64 0, .int .u64 0, .int .u64 0, .int .u64 0] 25) (.cells #[.bool false, .int .u64 0, .int .u64 0, .int .u64 0, .int .u64 0] 25)
  exact ⟨_, rfl, h.1, h.2.1, h.2.2.1, h.2.2.2, (((ext_alloc _ _).trans (ext_alloc _ _)).trans (ext_alloc _ _)).trans (ext_alloc _ _)⟩
theorem Box.far4 {w : World} {g b' : Nat} {s : Bool} {a b c d : Nat} (k : Box w g s a b c d) (h : g ≠ b') (u0 u1 u2 u3 : Value) : Box ((((w.setCell ⟨b', 0, none⟩ u0).setCell ⟨b', 1, none⟩ u1).setCell ⟨b', 2, none⟩ u2).setCell ⟨b', 3, none⟩ u3) g s a b c d := by
  unfold Box at *
  rw [heap_setCell_other _ _ _ _ (by simpa using h), heap_setCell_other _ _ _ _ (by simpa using h), heap_setCell_other _ _ _ _ (by simpa using h), heap_setCell_other _ _ _ _ (by first | (simp; done) | (simp [h]; done))]
  exact k
theorem cell_far5 (w : World) {g b' i : Nat} {u0 u1 u2 u3 u4 : Value} (h : g ≠ b') : (((((w.setCell ⟨b', 0, none⟩ u0).setCell ⟨b', 1, none⟩ u1).setCell ⟨b', 2, none⟩ u2).setCell ⟨b', 3, none⟩ u3).setCell ⟨b', 4, none⟩ u4).cell? ⟨g, i, none⟩ = w.cell? ⟨g, i, none⟩ := by
  rw [World.cell?_setCell_other _ _ _ _ (by first | (simp; done) | (simp [h]; done)), World.cell?_setCell_other _ _ _ _ (by first | (simp; done) | (simp [h]; done)), World.cell?_setCell_other _ _ _ _ (by first | (simp; done) | (simp [h]; done)), World.cell?_setCell_other _ _ _ _ (by first | (simp; done) | (simp [h]; done)), World.cell?_setCell_other _ _ _ _ (by first | (simp; done) | (simp [h]; done))]
theorem quot_fits (n m : Nat) (hm : 0 < m) (hr : n % m ≠ 0) (hn : n < 115792089237316195423570985008687907853269984665640564039457584007913129639936) : n / m + 1 < 115792089237316195423570985008687907853269984665640564039457584007913129639936 := by
  have h1 : m ≠ 1 := fun h => by subst h; rw [Nat.mod_one] at hr; exact hr rfl
  have e := Nat.div_add_mod n m
  have h2 : 2 * (n / m) ≤ m * (n / m) := Nat.mul_le_mul_right _ (by omega)
  omega
set_option maxHeartbeats 1000000 in
theorem p_divMod_no (s t : Bool) (a b c d e f g h : Nat) (x y : Int) (w : World) (hy : IsW t e f g h y) (hy0 : y = 0) :
    Calls Try.prog 65 #[.agg #[.bool s, .int .u64 (a : Int), .int .u64 (b : Int), .int .u64 (c : Int), .int .u64 (d : Int)], .agg #[.bool t, .int .u64 (e : Int), .int .u64 (f : Int), .int .u64 (g : Int), .int .u64 (h : Int)]] w (DivRet x y w) := by
  obtain ⟨W, hW, B0, B1, B2, B3, E0⟩ := four_boxes w s t a b c d e f g h
  have HW := hide hW
  have hqy := eql0 23 Try.underlying23 e f g h false (by rw [decide_eq_false_iff_not, hy.abs, hy0]; simp)
  have HY := hide hy0
  clear hW hy hy0
  obtain ⟨d0, d1, d2, d3, d4, g0, g1, g2, g3, g4⟩ := five_cells B1
  obtain ⟨i0, i1, i2, i3, i4, j0, j1, j2, j3, j4⟩ := five_cells B2
  obtain ⟨k0, k1, k2, k3, k4, l0, l1, l2, l3, l4⟩ := five_cells B3
  go_enter Try.func65, Try.ntmps65
  go_upto_region 1 with fail
  rw [HW.out]
  clear HW
  go_wp2_with fail
  exact bodyPost_ret (v := .tuple #[.agg #[.bool false, .int .u64 0, .int .u64 0, .int .u64 0, .int .u64 0], .agg #[.bool false, .int .u64 0, .int .u64 0, .int .u64 0, .int .u64 0], .bool false]) (by simp [results, Try.results65, go_sem, i0, i1, i2, i3, i4, k0, k1, k2, k3, k4]) rfl (divRet_no HY.out (ext_five (ext_five E0 (by omega) _ _ _ _ _) (by omega) _ _ _ _ _))
set_option maxRecDepth 100000 in
set_option maxHeartbeats 8000000 in
theorem p_divMod_pos (t : Bool) (a b c d e f g h : Nat) (x y : Int) (w : World) (hx : IsW false a b c d x) (hy : IsW t e f g h y) (hy0 : y ≠ 0) :
    Calls Try.prog 65 #[.agg #[.bool false, .int .u64 (a : Int), .int .u64 (b : Int), .int .u64 (c : Int), .int .u64 (d : Int)], .agg #[.bool t, .int .u64 (e : Int), .int .u64 (f : Int), .int .u64 (g : Int), .int .u64 (h : Int)]] w (DivRet x y w) := by
  obtain ⟨W, hW, B0, B1, B2, B3, E0⟩ := four_boxes w false t a b c d e f g h
  have HW := hide hW
  obtain ⟨n, hn⟩ : ∃ n, x.natAbs = n := ⟨_, rfl⟩
  obtain ⟨m, hm⟩ : ∃ m, y.natAbs = m := ⟨_, rfl⟩
  have MX : Hid (mag4 a b c d = n) := by rw [← hn]; exact hx.abs
  have MY : Hid (mag4 e f g h = m) := by rw [← hm]; exact hy.abs
  have hm0 : 0 < m := by omega
  have wx := hx.w64
  have wy := hy.w64
  obtain ⟨u, hu⟩ : ∃ u, (false != t) = u := ⟨_, rfl⟩
  have hnb := neqB false t u hu
  have HDS := hide (div_signs false t n m x y (by have := hx.2.2.2.2; rw [MX.out] at this; exact this) (by have := hy.2.2.2.2; rw [MY.out] at this; exact this) hm0)
  have hqy := eql0 23 Try.underlying23 e f g h true (by rw [decide_eq_true_iff, MY.out]; omega)
  have HUU := hide hu
  clear hW hn hm hx hy hu
  obtain ⟨c0, c1, c2, c3, c4, f0, f1, f2, f3, f4⟩ := five_cells B0
  obtain ⟨d0, d1, d2, d3, d4, g0, g1, g2, g3, g4⟩ := five_cells B1
  go_enter Try.func65, Try.ntmps65
  go_upto_region 1 with fail
  rw [HW.out]
  clear HW
  go_upto_if 29 with (go_at_call 113; refine (p_divWords a b c d e f g h n m MX.out MY.out _ wx wy hm0).mono ?_; rintro e' w' ⟨a7, b7, c7, d7, a8, b8, c8, d8, rfl, w7, w8, hq, hr, hE⟩; have HQ := hide hq; have HR := hide hr; have R0 := B0.ext hE; have R1 := B1.ext hE; have R2 := B2.ext hE; have R3 := B3.ext hE; obtain ⟨c0, c1, c2, c3, c4, f0, f1, f2, f3, f4⟩ := five_cells R0; obtain ⟨d0, d1, d2, d3, d4, g0, g1, g2, g3, g4⟩ := five_cells R1; have y0 := R0.lt; have y1 := R1.lt; have y2 := R2.lt; have y3 := R3.lt; have z0 : w.heap.size < w'.heap.size + 1 := (by omega); have z1 : w.heap.size + 1 < w'.heap.size + 1 := (by omega); have E1 := E0.trans hE; clear hE hq hr)
  have HZQ : Hid ((if u then -((mag4 a7 b7 c7 d7 : Nat) : Int) else ((mag4 a7 b7 c7 d7 : Nat) : Int)) = x / y) := by rw [HQ.out, ← HUU.out]; exact (HDS.out.1 (Or.inl (by first | rfl | trivial))).1.symm
  have HZR : Hid (((mag4 a8 b8 c8 d8 : Nat) : Int) = x % y) := by rw [HR.out]; exact (HDS.out.1 (Or.inl (by first | rfl | trivial))).2.symm
  have KK := two_blocks w' (.cells #[.int .u64 (a7 : Int), .int .u64 (b7 : Int), .int .u64 (c7 : Int), .int .u64 (d7 : Int)] 118) (.cells #[.int .u64 (a8 : Int), .int .u64 (b8 : Int), .int .u64 (c8 : Int), .int .u64 (d8 : Int)] 118)
  have KE := (ext_alloc w' (.cells #[.int .u64 (a7 : Int), .int .u64 (b7 : Int), .int .u64 (c7 : Int), .int .u64 (d7 : Int)] 118)).trans (ext_alloc _ (.cells #[.int .u64 (a8 : Int), .int .u64 (b8 : Int), .int .u64 (c8 : Int), .int .u64 (d8 : Int)] 118))
  go_cut [] (fun wx => Arr wx w'.heap.size 118 [a7, b7, c7, d7] ∧ Arr wx (w'.heap.size + 1) 118 [a8, b8, c8, d8] ∧ Box wx w.heap.size false a b c d ∧ Box wx (w.heap.size + 1) t e f g h ∧ Box wx (w.heap.size + 1 + 1) false 0 0 0 0 ∧ Box wx (w.heap.size + 1 + 1 + 1) false 0 0 0 0 ∧ Ext w wx)
  case first =>
      go_wp2_with fail
      all_goals go_meet
      all_goals exact ⟨KK.1, KK.2, R0.ext KE, R1.ext KE, R2.ext KE, R3.ext KE, E1.trans KE⟩
  case rest =>
      clear B0 B1 B2 B3 E0 R0 R1 R2 R3 E1
      obtain ⟨Q7, Q8, B0, B1, B2, B3, E0⟩ := hcut
      obtain ⟨c0, c1, c2, c3, c4, f0, f1, f2, f3, f4⟩ := five_cells B0
      obtain ⟨d0, d1, d2, d3, d4, g0, g1, g2, g3, g4⟩ := five_cells B1
      obtain ⟨m0, m1, m2, m3, _, _, _, _⟩ := Q7.four
      obtain ⟨o0, o1, o2, o3, _, _, _, _⟩ := Q8.four
      go_wp2_with fail
      generalize w'.heap.size = gA at *
      have n02 : w.heap.size ≠ w.heap.size + 1 + 1 := by omega
      have n03 : w.heap.size ≠ w.heap.size + 1 + 1 + 1 := by omega
      have n12 : w.heap.size + 1 ≠ w.heap.size + 1 + 1 := by omega
      have n13 : w.heap.size + 1 ≠ w.heap.size + 1 + 1 + 1 := by omega
      have nA2 : gA ≠ w.heap.size + 1 + 1 := by omega
      have nA3 : gA ≠ w.heap.size + 1 + 1 + 1 := by omega
      have nB2 : gA + 1 ≠ w.heap.size + 1 + 1 := by omega
      have nB3 : gA + 1 ≠ w.heap.size + 1 + 1 + 1 := by omega
      go_region_held3 (fun w' => w'.cell? ⟨w.heap.size, 0, none⟩ = some (.bool false) ∧ w'.cell? ⟨w.heap.size + 1, 0, none⟩ = some (.bool t) ∧ w'.cell? ⟨gA, 0, none⟩ = some (.int .u64 (a7 : Int)) ∧ w'.cell? ⟨gA, 1, none⟩ = some (.int .u64 (b7 : Int)) ∧ w'.cell? ⟨gA, 2, none⟩ = some (.int .u64 (c7 : Int)) ∧ w'.cell? ⟨gA, 3, none⟩ = some (.int .u64 (d7 : Int)) ∧ w'.cell? ⟨gA + 1, 0, none⟩ = some (.int .u64 (a8 : Int)) ∧ w'.cell? ⟨gA + 1, 1, none⟩ = some (.int .u64 (b8 : Int)) ∧ w'.cell? ⟨gA + 1, 2, none⟩ = some (.int .u64 (c8 : Int)) ∧ w'.cell? ⟨gA + 1, 3, none⟩ = some (.int .u64 (d8 : Int))) (first | (with_reducible exact ⟨c0, d0, m0, m1, m2, m3, o0, o1, o2, o3⟩) | (with_reducible exact ⟨(cell_far5 _ n02).trans c0, (cell_far5 _ n12).trans d0, (cell_far5 _ nA2).trans m0, (cell_far5 _ nA2).trans m1, (cell_far5 _ nA2).trans m2, (cell_far5 _ nA2).trans m3, (cell_far5 _ nB2).trans o0, (cell_far5 _ nB2).trans o1, (cell_far5 _ nB2).trans o2, (cell_far5 _ nB2).trans o3⟩) | (with_reducible exact ⟨(cell_far5 _ n03).trans c0, (cell_far5 _ n13).trans d0, (cell_far5 _ nA3).trans m0, (cell_far5 _ nA3).trans m1, (cell_far5 _ nA3).trans m2, (cell_far5 _ nA3).trans m3, (cell_far5 _ nB3).trans o0, (cell_far5 _ nB3).trans o1, (cell_far5 _ nB3).trans o2, (cell_far5 _ nB3).trans o3⟩) | (with_reducible exact ⟨(cell_far5 _ n03).trans ((cell_far5 _ n02).trans c0), (cell_far5 _ n13).trans ((cell_far5 _ n12).trans d0), (cell_far5 _ nA3).trans ((cell_far5 _ nA2).trans m0), (cell_far5 _ nA3).trans ((cell_far5 _ nA2).trans m1), (cell_far5 _ nA3).trans ((cell_far5 _ nA2).trans m2), (cell_far5 _ nA3).trans ((cell_far5 _ nA2).trans m3), (cell_far5 _ nB3).trans ((cell_far5 _ nB2).trans o0), (cell_far5 _ nB3).trans ((cell_far5 _ nB2).trans o1), (cell_far5 _ nB3).trans ((cell_far5 _ nB2).trans o2), (cell_far5 _ nB3).trans ((cell_far5 _ nB2).trans o3)⟩) | (with_reducible exact ⟨(cell_far5 _ n02).trans ((cell_far5 _ n03).trans c0), (cell_far5 _ n12).trans ((cell_far5 _ n13).trans d0), (cell_far5 _ nA2).trans ((cell_far5 _ nA3).trans m0), (cell_far5 _ nA2).trans ((cell_far5 _ nA3).trans m1), (cell_far5 _ nA2).trans ((cell_far5 _ nA3).trans m2), (cell_far5 _ nA2).trans ((cell_far5 _ nA3).trans m3), (cell_far5 _ nB2).trans ((cell_far5 _ nB3).trans o0), (cell_far5 _ nB2).trans ((cell_far5 _ nB3).trans o1), (cell_far5 _ nB2).trans ((cell_far5 _ nB3).trans o2), (cell_far5 _ nB2).trans ((cell_far5 _ nB3).trans o3)⟩) | go_keep) (first
        | (go_at_call_of 109 (Value.bool u); refine (p_signed u a7 b7 c7 d7 _ (w64_four w7).1 (w64_four w7).2.1 (w64_four w7).2.2.1 (w64_four w7).2.2.2).mono ?_; rintro e' w7 ⟨s', a', b', c', d', rfl, hC, hE⟩; rw [HZQ.out] at hC; have SA0 : Box w7 w.heap.size false a b c d := (by first | exact SB0.ext hE | exact B0.drew.ext hE); have SA1 : Box w7 (w.heap.size + 1) t e f g h := (by first | exact SB1.ext hE | exact B1.drew.ext hE); have SA2 : Box w7 (w.heap.size + 1 + 1) false 0 0 0 0 := (by first | exact SB2.ext hE | exact B2.drew.ext hE); have SA3 : Box w7 (w.heap.size + 1 + 1 + 1) false 0 0 0 0 := (by first | exact SB3.ext hE | exact B3.drew.ext hE); have SA7 : Arr w7 gA 118 [a7, b7, c7, d7] := (by first | exact SB7.ext hE | exact Q7.drew.ext hE); have SA8 : Arr w7 (gA + 1) 118 [a8, b8, c8, d8] := (by first | exact SB8.ext hE | exact Q8.drew.ext hE); have SAE : Ext w w7 := (by first | exact SBE.trans hE | exact (E0.trans (ext_drew _)).trans hE); have F1 := SAE; obtain ⟨c0, c1, c2, c3, c4, f0, f1, f2, f3, f4⟩ := five_cells SA0; obtain ⟨d0, d1, d2, d3, d4, g0, g1, g2, g3, g4⟩ := five_cells SA1; obtain ⟨i0, i1, i2, i3, i4, j0, j1, j2, j3, j4⟩ := five_cells SA2; obtain ⟨k0, k1, k2, k3, k4, l0, l1, l2, l3, l4⟩ := five_cells SA3; obtain ⟨m0, m1, m2, m3, _, _, _, _⟩ := SA7.four; obtain ⟨o0, o1, o2, o3, _, _, _, _⟩ := SA8.four; clear hE)
        | (go_at_call_of 109 (Value.bool false); refine (p_signed false a8 b8 c8 d8 _ (w64_four w8).1 (w64_four w8).2.1 (w64_four w8).2.2.1 (w64_four w8).2.2.2).mono ?_; rintro e' w8 ⟨s2, a2, b2, c2', d2', rfl, hC2, hE⟩; simp only [Bool.false_eq_true, if_false] at hC2; rw [HZR.out] at hC2; have SB0 : Box w8 w.heap.size false a b c d := (by first | exact SA0.ext hE | exact B0.drew.ext hE); have SB1 : Box w8 (w.heap.size + 1) t e f g h := (by first | exact SA1.ext hE | exact B1.drew.ext hE); have SB2 : Box w8 (w.heap.size + 1 + 1) false 0 0 0 0 := (by first | exact SA2.ext hE | exact B2.drew.ext hE); have SB3 : Box w8 (w.heap.size + 1 + 1 + 1) false 0 0 0 0 := (by first | exact SA3.ext hE | exact B3.drew.ext hE); have SB7 : Arr w8 gA 118 [a7, b7, c7, d7] := (by first | exact SA7.ext hE | exact Q7.drew.ext hE); have SB8 : Arr w8 (gA + 1) 118 [a8, b8, c8, d8] := (by first | exact SA8.ext hE | exact Q8.drew.ext hE); have SBE : Ext w w8 := (by first | exact SAE.trans hE | exact (E0.trans (ext_drew _)).trans hE); have F1 := SBE; obtain ⟨c0, c1, c2, c3, c4, f0, f1, f2, f3, f4⟩ := five_cells SB0; obtain ⟨d0, d1, d2, d3, d4, g0, g1, g2, g3, g4⟩ := five_cells SB1; obtain ⟨i0, i1, i2, i3, i4, j0, j1, j2, j3, j4⟩ := five_cells SB2; obtain ⟨k0, k1, k2, k3, k4, l0, l1, l2, l3, l4⟩ := five_cells SB3; obtain ⟨m0, m1, m2, m3, _, _, _, _⟩ := SB7.four; obtain ⟨o0, o1, o2, o3, _, _, _, _⟩ := SB8.four; clear hE))
      all_goals go_wp2_with fail
      all_goals exact bodyPost_ret (v := .tuple #[.agg #[.bool s', .int .u64 (a' : Int), .int .u64 (b' : Int), .int .u64 (c' : Int), .int .u64 (d' : Int)], .agg #[.bool s2, .int .u64 (a2 : Int), .int .u64 (b2 : Int), .int .u64 (c2' : Int), .int .u64 (d2' : Int)], .bool true]) (by simp [results, Try.results65, go_sem, i0, i1, i2, i3, i4, k0, k1, k2, k3, k4]) rfl (divRet_yes hy0 hC hC2 (ext_five (ext_five F1 (by omega) _ _ _ _ _) (by omega) _ _ _ _ _))
set_option maxRecDepth 100000 in
set_option maxHeartbeats 8000000 in
theorem p_divMod_even (t : Bool) (a b c d e f g h : Nat) (x y : Int) (w : World) (hx : IsW true a b c d x) (hy : IsW t e f g h y) (hy0 : y ≠ 0) (hz : x.natAbs % y.natAbs = 0) :
    Calls Try.prog 65 #[.agg #[.bool true, .int .u64 (a : Int), .int .u64 (b : Int), .int .u64 (c : Int), .int .u64 (d : Int)], .agg #[.bool t, .int .u64 (e : Int), .int .u64 (f : Int), .int .u64 (g : Int), .int .u64 (h : Int)]] w (DivRet x y w) := by
  obtain ⟨W, hW, B0, B1, B2, B3, E0⟩ := four_boxes w true t a b c d e f g h
  have HW := hide hW
  have hz0 := hz
  clear hz
  obtain ⟨n, hn⟩ : ∃ n, x.natAbs = n := ⟨_, rfl⟩
  obtain ⟨m, hm⟩ : ∃ m, y.natAbs = m := ⟨_, rfl⟩
  have MX : Hid (mag4 a b c d = n) := by rw [← hn]; exact hx.abs
  have MY : Hid (mag4 e f g h = m) := by rw [← hm]; exact hy.abs
  have hm0 : 0 < m := by omega
  have wx := hx.w64
  have wy := hy.w64
  obtain ⟨u, hu⟩ : ∃ u, (true != t) = u := ⟨_, rfl⟩
  have hnb := neqB true t u hu
  have HDS := hide (div_signs true t n m x y (by have := hx.2.2.2.2; rw [MX.out] at this; exact this) (by have := hy.2.2.2.2; rw [MY.out] at this; exact this) hm0)
  have hqy := eql0 23 Try.underlying23 e f g h true (by rw [decide_eq_true_iff, MY.out]; omega)
  have HUU := hide hu
  rw [hn, hm] at hz0
  have HNZ := hide hz0
  clear hz0 hW hn hm hx hy hu
  obtain ⟨c0, c1, c2, c3, c4, f0, f1, f2, f3, f4⟩ := five_cells B0
  obtain ⟨d0, d1, d2, d3, d4, g0, g1, g2, g3, g4⟩ := five_cells B1
  go_enter Try.func65, Try.ntmps65
  go_upto_region 1 with fail
  rw [HW.out]
  clear HW
  go_upto_if 29 with (go_at_call 113; refine (p_divWords a b c d e f g h n m MX.out MY.out _ wx wy hm0).mono ?_; rintro e' w' ⟨a7, b7, c7, d7, a8, b8, c8, d8, rfl, w7, w8, hq, hr, hE⟩; have HQ := hide hq; have HR := hide hr; have R0 := B0.ext hE; have R1 := B1.ext hE; have R2 := B2.ext hE; have R3 := B3.ext hE; obtain ⟨c0, c1, c2, c3, c4, f0, f1, f2, f3, f4⟩ := five_cells R0; obtain ⟨d0, d1, d2, d3, d4, g0, g1, g2, g3, g4⟩ := five_cells R1; have y0 := R0.lt; have y1 := R1.lt; have y2 := R2.lt; have y3 := R3.lt; have z0 : w.heap.size < w'.heap.size + 1 := (by omega); have z1 : w.heap.size + 1 < w'.heap.size + 1 := (by omega); have E1 := E0.trans hE; clear hE hq hr; have hqr := neq0 118 Try.underlying118 a8 b8 c8 d8 false (by rw [decide_eq_false_iff_not, HR.out, HNZ.out]; simp))
  have HZQ : Hid ((if u then -((mag4 a7 b7 c7 d7 : Nat) : Int) else ((mag4 a7 b7 c7 d7 : Nat) : Int)) = x / y) := by rw [HQ.out, ← HUU.out]; exact (HDS.out.1 (Or.inr HNZ.out)).1.symm
  have HZR : Hid (((mag4 a8 b8 c8 d8 : Nat) : Int) = x % y) := by rw [HR.out]; exact (HDS.out.1 (Or.inr HNZ.out)).2.symm
  have KK := two_blocks w' (.cells #[.int .u64 (a7 : Int), .int .u64 (b7 : Int), .int .u64 (c7 : Int), .int .u64 (d7 : Int)] 118) (.cells #[.int .u64 (a8 : Int), .int .u64 (b8 : Int), .int .u64 (c8 : Int), .int .u64 (d8 : Int)] 118)
  have KE := (ext_alloc w' (.cells #[.int .u64 (a7 : Int), .int .u64 (b7 : Int), .int .u64 (c7 : Int), .int .u64 (d7 : Int)] 118)).trans (ext_alloc _ (.cells #[.int .u64 (a8 : Int), .int .u64 (b8 : Int), .int .u64 (c8 : Int), .int .u64 (d8 : Int)] 118))
  go_cut [] (fun wx => Arr wx w'.heap.size 118 [a7, b7, c7, d7] ∧ Arr wx (w'.heap.size + 1) 118 [a8, b8, c8, d8] ∧ Box wx w.heap.size true a b c d ∧ Box wx (w.heap.size + 1) t e f g h ∧ Box wx (w.heap.size + 1 + 1) false 0 0 0 0 ∧ Box wx (w.heap.size + 1 + 1 + 1) false 0 0 0 0 ∧ Ext w wx)
  case first =>
      go_wp2_with fail
      all_goals go_meet
      all_goals exact ⟨KK.1, KK.2, R0.ext KE, R1.ext KE, R2.ext KE, R3.ext KE, E1.trans KE⟩
  case rest =>
      clear B0 B1 B2 B3 E0 R0 R1 R2 R3 E1
      obtain ⟨Q7, Q8, B0, B1, B2, B3, E0⟩ := hcut
      obtain ⟨c0, c1, c2, c3, c4, f0, f1, f2, f3, f4⟩ := five_cells B0
      obtain ⟨d0, d1, d2, d3, d4, g0, g1, g2, g3, g4⟩ := five_cells B1
      obtain ⟨m0, m1, m2, m3, _, _, _, _⟩ := Q7.four
      obtain ⟨o0, o1, o2, o3, _, _, _, _⟩ := Q8.four
      go_wp2_with fail
      generalize w'.heap.size = gA at *
      have n02 : w.heap.size ≠ w.heap.size + 1 + 1 := by omega
      have n03 : w.heap.size ≠ w.heap.size + 1 + 1 + 1 := by omega
      have n12 : w.heap.size + 1 ≠ w.heap.size + 1 + 1 := by omega
      have n13 : w.heap.size + 1 ≠ w.heap.size + 1 + 1 + 1 := by omega
      have nA2 : gA ≠ w.heap.size + 1 + 1 := by omega
      have nA3 : gA ≠ w.heap.size + 1 + 1 + 1 := by omega
      have nB2 : gA + 1 ≠ w.heap.size + 1 + 1 := by omega
      have nB3 : gA + 1 ≠ w.heap.size + 1 + 1 + 1 := by omega
      go_region_held3 (fun w' => w'.cell? ⟨w.heap.size, 0, none⟩ = some (.bool true) ∧ w'.cell? ⟨w.heap.size + 1, 0, none⟩ = some (.bool t) ∧ w'.cell? ⟨gA, 0, none⟩ = some (.int .u64 (a7 : Int)) ∧ w'.cell? ⟨gA, 1, none⟩ = some (.int .u64 (b7 : Int)) ∧ w'.cell? ⟨gA, 2, none⟩ = some (.int .u64 (c7 : Int)) ∧ w'.cell? ⟨gA, 3, none⟩ = some (.int .u64 (d7 : Int)) ∧ w'.cell? ⟨gA + 1, 0, none⟩ = some (.int .u64 (a8 : Int)) ∧ w'.cell? ⟨gA + 1, 1, none⟩ = some (.int .u64 (b8 : Int)) ∧ w'.cell? ⟨gA + 1, 2, none⟩ = some (.int .u64 (c8 : Int)) ∧ w'.cell? ⟨gA + 1, 3, none⟩ = some (.int .u64 (d8 : Int))) (first | (with_reducible exact ⟨c0, d0, m0, m1, m2, m3, o0, o1, o2, o3⟩) | (with_reducible exact ⟨(cell_far5 _ n02).trans c0, (cell_far5 _ n12).trans d0, (cell_far5 _ nA2).trans m0, (cell_far5 _ nA2).trans m1, (cell_far5 _ nA2).trans m2, (cell_far5 _ nA2).trans m3, (cell_far5 _ nB2).trans o0, (cell_far5 _ nB2).trans o1, (cell_far5 _ nB2).trans o2, (cell_far5 _ nB2).trans o3⟩) | (with_reducible exact ⟨(cell_far5 _ n03).trans c0, (cell_far5 _ n13).trans d0, (cell_far5 _ nA3).trans m0, (cell_far5 _ nA3).trans m1, (cell_far5 _ nA3).trans m2, (cell_far5 _ nA3).trans m3, (cell_far5 _ nB3).trans o0, (cell_far5 _ nB3).trans o1, (cell_far5 _ nB3).trans o2, (cell_far5 _ nB3).trans o3⟩) | (with_reducible exact ⟨(cell_far5 _ n03).trans ((cell_far5 _ n02).trans c0), (cell_far5 _ n13).trans ((cell_far5 _ n12).trans d0), (cell_far5 _ nA3).trans ((cell_far5 _ nA2).trans m0), (cell_far5 _ nA3).trans ((cell_far5 _ nA2).trans m1), (cell_far5 _ nA3).trans ((cell_far5 _ nA2).trans m2), (cell_far5 _ nA3).trans ((cell_far5 _ nA2).trans m3), (cell_far5 _ nB3).trans ((cell_far5 _ nB2).trans o0), (cell_far5 _ nB3).trans ((cell_far5 _ nB2).trans o1), (cell_far5 _ nB3).trans ((cell_far5 _ nB2).trans o2), (cell_far5 _ nB3).trans ((cell_far5 _ nB2).trans o3)⟩) | (with_reducible exact ⟨(cell_far5 _ n02).trans ((cell_far5 _ n03).trans c0), (cell_far5 _ n12).trans ((cell_far5 _ n13).trans d0), (cell_far5 _ nA2).trans ((cell_far5 _ nA3).trans m0), (cell_far5 _ nA2).trans ((cell_far5 _ nA3).trans m1), (cell_far5 _ nA2).trans ((cell_far5 _ nA3).trans m2), (cell_far5 _ nA2).trans ((cell_far5 _ nA3).trans m3), (cell_far5 _ nB2).trans ((cell_far5 _ nB3).trans o0), (cell_far5 _ nB2).trans ((cell_far5 _ nB3).trans o1), (cell_far5 _ nB2).trans ((cell_far5 _ nB3).trans o2), (cell_far5 _ nB2).trans ((cell_far5 _ nB3).trans o3)⟩) | go_keep) (first
        | (go_at_call_of 109 (Value.bool u); refine (p_signed u a7 b7 c7 d7 _ (w64_four w7).1 (w64_four w7).2.1 (w64_four w7).2.2.1 (w64_four w7).2.2.2).mono ?_; rintro e' w7 ⟨s', a', b', c', d', rfl, hC, hE⟩; rw [HZQ.out] at hC; have SA0 : Box w7 w.heap.size true a b c d := (by first | exact SB0.ext hE | exact B0.drew.ext hE); have SA1 : Box w7 (w.heap.size + 1) t e f g h := (by first | exact SB1.ext hE | exact B1.drew.ext hE); have SA2 : Box w7 (w.heap.size + 1 + 1) false 0 0 0 0 := (by first | exact SB2.ext hE | exact B2.drew.ext hE); have SA3 : Box w7 (w.heap.size + 1 + 1 + 1) false 0 0 0 0 := (by first | exact SB3.ext hE | exact B3.drew.ext hE); have SA7 : Arr w7 gA 118 [a7, b7, c7, d7] := (by first | exact SB7.ext hE | exact Q7.drew.ext hE); have SA8 : Arr w7 (gA + 1) 118 [a8, b8, c8, d8] := (by first | exact SB8.ext hE | exact Q8.drew.ext hE); have SAE : Ext w w7 := (by first | exact SBE.trans hE | exact (E0.trans (ext_drew _)).trans hE); have F1 := SAE; obtain ⟨c0, c1, c2, c3, c4, f0, f1, f2, f3, f4⟩ := five_cells SA0; obtain ⟨d0, d1, d2, d3, d4, g0, g1, g2, g3, g4⟩ := five_cells SA1; obtain ⟨i0, i1, i2, i3, i4, j0, j1, j2, j3, j4⟩ := five_cells SA2; obtain ⟨k0, k1, k2, k3, k4, l0, l1, l2, l3, l4⟩ := five_cells SA3; obtain ⟨m0, m1, m2, m3, _, _, _, _⟩ := SA7.four; obtain ⟨o0, o1, o2, o3, _, _, _, _⟩ := SA8.four; clear hE)
        | (go_at_call_of 109 (Value.bool false); refine (p_signed false a8 b8 c8 d8 _ (w64_four w8).1 (w64_four w8).2.1 (w64_four w8).2.2.1 (w64_four w8).2.2.2).mono ?_; rintro e' w8 ⟨s2, a2, b2, c2', d2', rfl, hC2, hE⟩; simp only [Bool.false_eq_true, if_false] at hC2; rw [HZR.out] at hC2; have SB0 : Box w8 w.heap.size true a b c d := (by first | exact SA0.ext hE | exact B0.drew.ext hE); have SB1 : Box w8 (w.heap.size + 1) t e f g h := (by first | exact SA1.ext hE | exact B1.drew.ext hE); have SB2 : Box w8 (w.heap.size + 1 + 1) false 0 0 0 0 := (by first | exact SA2.ext hE | exact B2.drew.ext hE); have SB3 : Box w8 (w.heap.size + 1 + 1 + 1) false 0 0 0 0 := (by first | exact SA3.ext hE | exact B3.drew.ext hE); have SB7 : Arr w8 gA 118 [a7, b7, c7, d7] := (by first | exact SA7.ext hE | exact Q7.drew.ext hE); have SB8 : Arr w8 (gA + 1) 118 [a8, b8, c8, d8] := (by first | exact SA8.ext hE | exact Q8.drew.ext hE); have SBE : Ext w w8 := (by first | exact SAE.trans hE | exact (E0.trans (ext_drew _)).trans hE); have F1 := SBE; obtain ⟨c0, c1, c2, c3, c4, f0, f1, f2, f3, f4⟩ := five_cells SB0; obtain ⟨d0, d1, d2, d3, d4, g0, g1, g2, g3, g4⟩ := five_cells SB1; obtain ⟨i0, i1, i2, i3, i4, j0, j1, j2, j3, j4⟩ := five_cells SB2; obtain ⟨k0, k1, k2, k3, k4, l0, l1, l2, l3, l4⟩ := five_cells SB3; obtain ⟨m0, m1, m2, m3, _, _, _, _⟩ := SB7.four; obtain ⟨o0, o1, o2, o3, _, _, _, _⟩ := SB8.four; clear hE))
      all_goals go_wp2_with fail
      all_goals exact bodyPost_ret (v := .tuple #[.agg #[.bool s', .int .u64 (a' : Int), .int .u64 (b' : Int), .int .u64 (c' : Int), .int .u64 (d' : Int)], .agg #[.bool s2, .int .u64 (a2 : Int), .int .u64 (b2 : Int), .int .u64 (c2' : Int), .int .u64 (d2' : Int)], .bool true]) (by simp [results, Try.results65, go_sem, i0, i1, i2, i3, i4, k0, k1, k2, k3, k4]) rfl (divRet_yes hy0 hC hC2 (ext_five (ext_five F1 (by omega) _ _ _ _ _) (by omega) _ _ _ _ _))
set_option maxRecDepth 100000 in
set_option maxHeartbeats 8000000 in
theorem p_divMod_odd (t : Bool) (a b c d e f g h : Nat) (x y : Int) (w : World) (hx : IsW true a b c d x) (hy : IsW t e f g h y) (hy0 : y ≠ 0) (hz : x.natAbs % y.natAbs ≠ 0) :
    Calls Try.prog 65 #[.agg #[.bool true, .int .u64 (a : Int), .int .u64 (b : Int), .int .u64 (c : Int), .int .u64 (d : Int)], .agg #[.bool t, .int .u64 (e : Int), .int .u64 (f : Int), .int .u64 (g : Int), .int .u64 (h : Int)]] w (DivRet x y w) := by
  obtain ⟨W, hW, B0, B1, B2, B3, E0⟩ := four_boxes w true t a b c d e f g h
  have HW := hide hW
  have hz0 := hz
  clear hz
  obtain ⟨n, hn⟩ : ∃ n, x.natAbs = n := ⟨_, rfl⟩
  obtain ⟨m, hm⟩ : ∃ m, y.natAbs = m := ⟨_, rfl⟩
  have MX : Hid (mag4 a b c d = n) := by rw [← hn]; exact hx.abs
  have MY : Hid (mag4 e f g h = m) := by rw [← hm]; exact hy.abs
  have hm0 : 0 < m := by omega
  have wx := hx.w64
  have wy := hy.w64
  obtain ⟨u, hu⟩ : ∃ u, (true != t) = u := ⟨_, rfl⟩
  have hnb := neqB true t u hu
  have HDS := hide (div_signs true t n m x y (by have := hx.2.2.2.2; rw [MX.out] at this; exact this) (by have := hy.2.2.2.2; rw [MY.out] at this; exact this) hm0)
  have hqy := eql0 23 Try.underlying23 e f g h true (by rw [decide_eq_true_iff, MY.out]; omega)
  have HUU := hide hu
  rw [hn, hm] at hz0
  have HNZ := hide hz0
  clear hz0 hW hn hm hx hy hu
  obtain ⟨c0, c1, c2, c3, c4, f0, f1, f2, f3, f4⟩ := five_cells B0
  obtain ⟨d0, d1, d2, d3, d4, g0, g1, g2, g3, g4⟩ := five_cells B1
  go_enter Try.func65, Try.ntmps65
  go_upto_region 1 with fail
  rw [HW.out]
  clear HW
  go_upto_if 29 with (go_at_call 113; refine (p_divWords a b c d e f g h n m MX.out MY.out _ wx wy hm0).mono ?_; rintro e' w' ⟨a7, b7, c7, d7, a8, b8, c8, d8, rfl, w7, w8, hq, hr, hE⟩; have HQ := hide hq; have HR := hide hr; have R0 := B0.ext hE; have R1 := B1.ext hE; have R2 := B2.ext hE; have R3 := B3.ext hE; obtain ⟨c0, c1, c2, c3, c4, f0, f1, f2, f3, f4⟩ := five_cells R0; obtain ⟨d0, d1, d2, d3, d4, g0, g1, g2, g3, g4⟩ := five_cells R1; have y0 := R0.lt; have y1 := R1.lt; have y2 := R2.lt; have y3 := R3.lt; have z0 : w.heap.size < w'.heap.size + 1 := (by omega); have z1 : w.heap.size + 1 < w'.heap.size + 1 := (by omega); have E1 := E0.trans hE; clear hE hq hr; have hqr := neq0 118 Try.underlying118 a8 b8 c8 d8 true (by rw [decide_eq_true_iff, HR.out]; exact HNZ.out))
  have HRL : Hid (n % m < m) := Nat.mod_lt n hm0
  have HFQ : Hid ((n / m + 1) % 115792089237316195423570985008687907853269984665640564039457584007913129639936 = n / m + 1) := by
    refine Nat.mod_eq_of_lt ?_
    have h1 := mag_lt (w64_four wx).1 (w64_four wx).2.1 (w64_four wx).2.2.1 (w64_four wx).2.2.2
    rw [MX.out] at h1
    exact quot_fits n m hm0 HNZ.out h1
  have HOne : Hid (mag4 1 0 0 0 = 1) := by simp [Hid, mag4, val]
  have wone : W64 [1, 0, 0, 0] := by intro x hx; simp at hx; omega
  have hadd1 := fun W => p_addWords a7 b7 c7 d7 1 0 0 0 (n / m) 1 HQ.out HOne.out W w7 wone
  have HADD := hide hadd1
  clear hadd1
  go_cut [] (fun wx => ∃ a9 b9 c9 d9 a5 b5 c5 d5 : Nat, W64 [a9, b9, c9, d9] ∧ W64 [a5, b5, c5, d5] ∧ Hid (mag4 a9 b9 c9 d9 = n / m + 1) ∧ Hid (mag4 a5 b5 c5 d5 = m - n % m) ∧ Arr wx w'.heap.size 118 [a9, b9, c9, d9] ∧ Arr wx (w'.heap.size + 1) 118 [a5, b5, c5, d5] ∧ Box wx w.heap.size true a b c d ∧ Box wx (w.heap.size + 1) t e f g h ∧ Box wx (w.heap.size + 1 + 1) false 0 0 0 0 ∧ Box wx (w.heap.size + 1 + 1 + 1) false 0 0 0 0 ∧ Ext w wx)
  case first =>
      have KK := two_blocks w' (.cells #[.int .u64 (a7 : Int), .int .u64 (b7 : Int), .int .u64 (c7 : Int), .int .u64 (d7 : Int)] 118) (.cells #[.int .u64 (a8 : Int), .int .u64 (b8 : Int), .int .u64 (c8 : Int), .int .u64 (d8 : Int)] 118)
      have KE := (ext_alloc w' (.cells #[.int .u64 (a7 : Int), .int .u64 (b7 : Int), .int .u64 (c7 : Int), .int .u64 (d7 : Int)] 118)).trans (ext_alloc _ (.cells #[.int .u64 (a8 : Int), .int .u64 (b8 : Int), .int .u64 (c8 : Int), .int .u64 (d8 : Int)] 118))
      have P7 : Arr ((w'.alloc (.cells #[.int .u64 (a7 : Int), .int .u64 (b7 : Int), .int .u64 (c7 : Int), .int .u64 (d7 : Int)] 118)).alloc (.cells #[.int .u64 (a8 : Int), .int .u64 (b8 : Int), .int .u64 (c8 : Int), .int .u64 (d8 : Int)] 118)) w'.heap.size 118 [a7, b7, c7, d7] := KK.1
      have P8 : Arr ((w'.alloc (.cells #[.int .u64 (a7 : Int), .int .u64 (b7 : Int), .int .u64 (c7 : Int), .int .u64 (d7 : Int)] 118)).alloc (.cells #[.int .u64 (a8 : Int), .int .u64 (b8 : Int), .int .u64 (c8 : Int), .int .u64 (d8 : Int)] 118)) (w'.heap.size + 1) 118 [a8, b8, c8, d8] := KK.2
      have P0 := R0.ext KE
      have P1 := R1.ext KE
      have P2 := R2.ext KE
      have P3 := R3.ext KE
      have PE := E1.trans KE
      clear KK
      go_wp2_with (first
        | (go_at_call 114; refine (HADD.out _).mono ?_; rintro e' w5 ⟨a9, b9, c9, d9, rfl, w9, hq9, hE⟩; rw [HFQ.out] at hq9; have HQ9 := hide hq9; have S7 := P7.ext hE; have S8 := P8.ext hE; have S0 := P0.ext hE; have S1 := P1.ext hE; have S2 := P2.ext hE; have S3 := P3.ext hE; have SE := PE.trans hE; obtain ⟨m0, m1, m2, m3, n0, n1, n2, n3⟩ := S7.four; obtain ⟨o0, o1, o2, o3, p0, p1, p2, p3⟩ := S8.four; obtain ⟨d0, d1, d2, d3, d4, g0, g1, g2, g3, g4⟩ := five_cells S1; clear hE hq9)
        | (go_at_call 115; refine (p_subWords e f g h a8 b8 c8 d8 m (n % m) MY.out HR.out _ wy w8 (Nat.le_of_lt HRL.out)).mono ?_; rintro e' w6 ⟨a5, b5, c5, d5, rfl, w5', hr5, hE⟩; have HR5 := hide hr5; have T7 := ((((S7.set 0 a9).set 1 b9).set 2 c9).set 3 d9).ext hE; have T8 := ((((S8.far (b := w'.heap.size) (by omega) 0 (.int .u64 (a9 : Int))).far (b := w'.heap.size) (by omega) 1 (.int .u64 (b9 : Int))).far (b := w'.heap.size) (by omega) 2 (.int .u64 (c9 : Int))).far (b := w'.heap.size) (by omega) 3 (.int .u64 (d9 : Int))).ext hE; have T0 := (S0.far4 (b' := w'.heap.size) (by omega) (.int .u64 (a9 : Int)) (.int .u64 (b9 : Int)) (.int .u64 (c9 : Int)) (.int .u64 (d9 : Int))).ext hE; have T1 := (S1.far4 (b' := w'.heap.size) (by omega) (.int .u64 (a9 : Int)) (.int .u64 (b9 : Int)) (.int .u64 (c9 : Int)) (.int .u64 (d9 : Int))).ext hE; have T2 := (S2.far4 (b' := w'.heap.size) (by omega) (.int .u64 (a9 : Int)) (.int .u64 (b9 : Int)) (.int .u64 (c9 : Int)) (.int .u64 (d9 : Int))).ext hE; have T3 := (S3.far4 (b' := w'.heap.size) (by omega) (.int .u64 (a9 : Int)) (.int .u64 (b9 : Int)) (.int .u64 (c9 : Int)) (.int .u64 (d9 : Int))).ext hE; have TE := (ext_four SE (b := w'.heap.size) (by omega) (.int .u64 (a9 : Int)) (.int .u64 (b9 : Int)) (.int .u64 (c9 : Int)) (.int .u64 (d9 : Int))).trans hE; obtain ⟨o0, o1, o2, o3, p0, p1, p2, p3⟩ := T8.four; clear hE hr5))
      all_goals go_meet
      all_goals exact ⟨a9, b9, c9, d9, a5, b5, c5, d5, w9, w5', HQ9, HR5, (((T7.far (by omega) _ _).far (by omega) _ _).far (by omega) _ _).far (by omega) _ _, (((T8.set 0 a5).set 1 b5).set 2 c5).set 3 d5, T0.far4 (by omega) _ _ _ _, T1.far4 (by omega) _ _ _ _, T2.far4 (by omega) _ _ _ _, T3.far4 (by omega) _ _ _ _, ext_four TE (by omega) _ _ _ _⟩
  case rest =>
      obtain ⟨a9, b9, c9, d9, a5, b5, c5, d5, w9, w5', HQ9', HR5, hcut⟩ := hcut
      have HZQ : Hid ((if u then -((mag4 a9 b9 c9 d9 : Nat) : Int) else ((mag4 a9 b9 c9 d9 : Nat) : Int)) = x / y) := by rw [HQ9'.out, ← HUU.out]; exact (HDS.out.2 ⟨(by first | rfl | trivial), HNZ.out⟩).1.symm
      have HZR : Hid (((mag4 a5 b5 c5 d5 : Nat) : Int) = x % y) := by rw [HR5.out]; exact (HDS.out.2 ⟨(by first | rfl | trivial), HNZ.out⟩).2.symm
      clear B0 B1 B2 B3 E0 R0 R1 R2 R3 E1
      obtain ⟨Q7, Q8, B0, B1, B2, B3, E0⟩ := hcut
      obtain ⟨c0, c1, c2, c3, c4, f0, f1, f2, f3, f4⟩ := five_cells B0
      obtain ⟨d0, d1, d2, d3, d4, g0, g1, g2, g3, g4⟩ := five_cells B1
      obtain ⟨m0, m1, m2, m3, _, _, _, _⟩ := Q7.four
      obtain ⟨o0, o1, o2, o3, _, _, _, _⟩ := Q8.four
      go_wp2_with fail
      generalize w'.heap.size = gA at *
      have n02 : w.heap.size ≠ w.heap.size + 1 + 1 := by omega
      have n03 : w.heap.size ≠ w.heap.size + 1 + 1 + 1 := by omega
      have n12 : w.heap.size + 1 ≠ w.heap.size + 1 + 1 := by omega
      have n13 : w.heap.size + 1 ≠ w.heap.size + 1 + 1 + 1 := by omega
      have nA2 : gA ≠ w.heap.size + 1 + 1 := by omega
      have nA3 : gA ≠ w.heap.size + 1 + 1 + 1 := by omega
      have nB2 : gA + 1 ≠ w.heap.size + 1 + 1 := by omega
      have nB3 : gA + 1 ≠ w.heap.size + 1 + 1 + 1 := by omega
      go_region_held3 (fun w' => w'.cell? ⟨w.heap.size, 0, none⟩ = some (.bool true) ∧ w'.cell? ⟨w.heap.size + 1, 0, none⟩ = some (.bool t) ∧ w'.cell? ⟨gA, 0, none⟩ = some (.int .u64 (a9 : Int)) ∧ w'.cell? ⟨gA, 1, none⟩ = some (.int .u64 (b9 : Int)) ∧ w'.cell? ⟨gA, 2, none⟩ = some (.int .u64 (c9 : Int)) ∧ w'.cell? ⟨gA, 3, none⟩ = some (.int .u64 (d9 : Int)) ∧ w'.cell? ⟨gA + 1, 0, none⟩ = some (.int .u64 (a5 : Int)) ∧ w'.cell? ⟨gA + 1, 1, none⟩ = some (.int .u64 (b5 : Int)) ∧ w'.cell? ⟨gA + 1, 2, none⟩ = some (.int .u64 (c5 : Int)) ∧ w'.cell? ⟨gA + 1, 3, none⟩ = some (.int .u64 (d5 : Int))) (first | (with_reducible exact ⟨c0, d0, m0, m1, m2, m3, o0, o1, o2, o3⟩) | (with_reducible exact ⟨(cell_far5 _ n02).trans c0, (cell_far5 _ n12).trans d0, (cell_far5 _ nA2).trans m0, (cell_far5 _ nA2).trans m1, (cell_far5 _ nA2).trans m2, (cell_far5 _ nA2).trans m3, (cell_far5 _ nB2).trans o0, (cell_far5 _ nB2).trans o1, (cell_far5 _ nB2).trans o2, (cell_far5 _ nB2).trans o3⟩) | (with_reducible exact ⟨(cell_far5 _ n03).trans c0, (cell_far5 _ n13).trans d0, (cell_far5 _ nA3).trans m0, (cell_far5 _ nA3).trans m1, (cell_far5 _ nA3).trans m2, (cell_far5 _ nA3).trans m3, (cell_far5 _ nB3).trans o0, (cell_far5 _ nB3).trans o1, (cell_far5 _ nB3).trans o2, (cell_far5 _ nB3).trans o3⟩) | (with_reducible exact ⟨(cell_far5 _ n03).trans ((cell_far5 _ n02).trans c0), (cell_far5 _ n13).trans ((cell_far5 _ n12).trans d0), (cell_far5 _ nA3).trans ((cell_far5 _ nA2).trans m0), (cell_far5 _ nA3).trans ((cell_far5 _ nA2).trans m1), (cell_far5 _ nA3).trans ((cell_far5 _ nA2).trans m2), (cell_far5 _ nA3).trans ((cell_far5 _ nA2).trans m3), (cell_far5 _ nB3).trans ((cell_far5 _ nB2).trans o0), (cell_far5 _ nB3).trans ((cell_far5 _ nB2).trans o1), (cell_far5 _ nB3).trans ((cell_far5 _ nB2).trans o2), (cell_far5 _ nB3).trans ((cell_far5 _ nB2).trans o3)⟩) | (with_reducible exact ⟨(cell_far5 _ n02).trans ((cell_far5 _ n03).trans c0), (cell_far5 _ n12).trans ((cell_far5 _ n13).trans d0), (cell_far5 _ nA2).trans ((cell_far5 _ nA3).trans m0), (cell_far5 _ nA2).trans ((cell_far5 _ nA3).trans m1), (cell_far5 _ nA2).trans ((cell_far5 _ nA3).trans m2), (cell_far5 _ nA2).trans ((cell_far5 _ nA3).trans m3), (cell_far5 _ nB2).trans ((cell_far5 _ nB3).trans o0), (cell_far5 _ nB2).trans ((cell_far5 _ nB3).trans o1), (cell_far5 _ nB2).trans ((cell_far5 _ nB3).trans o2), (cell_far5 _ nB2).trans ((cell_far5 _ nB3).trans o3)⟩) | go_keep) (first
        | (go_at_call_of 109 (Value.bool u); refine (p_signed u a9 b9 c9 d9 _ (w64_four w9).1 (w64_four w9).2.1 (w64_four w9).2.2.1 (w64_four w9).2.2.2).mono ?_; rintro e' w7 ⟨s', a', b', c', d', rfl, hC, hE⟩; rw [HZQ.out] at hC; have SA0 : Box w7 w.heap.size true a b c d := (by first | exact SB0.ext hE | exact B0.drew.ext hE); have SA1 : Box w7 (w.heap.size + 1) t e f g h := (by first | exact SB1.ext hE | exact B1.drew.ext hE); have SA2 : Box w7 (w.heap.size + 1 + 1) false 0 0 0 0 := (by first | exact SB2.ext hE | exact B2.drew.ext hE); have SA3 : Box w7 (w.heap.size + 1 + 1 + 1) false 0 0 0 0 := (by first | exact SB3.ext hE | exact B3.drew.ext hE); have SA7 : Arr w7 gA 118 [a9, b9, c9, d9] := (by first | exact SB7.ext hE | exact Q7.drew.ext hE); have SA8 : Arr w7 (gA + 1) 118 [a5, b5, c5, d5] := (by first | exact SB8.ext hE | exact Q8.drew.ext hE); have SAE : Ext w w7 := (by first | exact SBE.trans hE | exact (E0.trans (ext_drew _)).trans hE); have F1 := SAE; obtain ⟨c0, c1, c2, c3, c4, f0, f1, f2, f3, f4⟩ := five_cells SA0; obtain ⟨d0, d1, d2, d3, d4, g0, g1, g2, g3, g4⟩ := five_cells SA1; obtain ⟨i0, i1, i2, i3, i4, j0, j1, j2, j3, j4⟩ := five_cells SA2; obtain ⟨k0, k1, k2, k3, k4, l0, l1, l2, l3, l4⟩ := five_cells SA3; obtain ⟨m0, m1, m2, m3, _, _, _, _⟩ := SA7.four; obtain ⟨o0, o1, o2, o3, _, _, _, _⟩ := SA8.four; clear hE)
        | (go_at_call_of 109 (Value.bool false); refine (p_signed false a5 b5 c5 d5 _ (w64_four w5').1 (w64_four w5').2.1 (w64_four w5').2.2.1 (w64_four w5').2.2.2).mono ?_; rintro e' w8 ⟨s2, a2, b2, c2', d2', rfl, hC2, hE⟩; simp only [Bool.false_eq_true, if_false] at hC2; rw [HZR.out] at hC2; have SB0 : Box w8 w.heap.size true a b c d := (by first | exact SA0.ext hE | exact B0.drew.ext hE); have SB1 : Box w8 (w.heap.size + 1) t e f g h := (by first | exact SA1.ext hE | exact B1.drew.ext hE); have SB2 : Box w8 (w.heap.size + 1 + 1) false 0 0 0 0 := (by first | exact SA2.ext hE | exact B2.drew.ext hE); have SB3 : Box w8 (w.heap.size + 1 + 1 + 1) false 0 0 0 0 := (by first | exact SA3.ext hE | exact B3.drew.ext hE); have SB7 : Arr w8 gA 118 [a9, b9, c9, d9] := (by first | exact SA7.ext hE | exact Q7.drew.ext hE); have SB8 : Arr w8 (gA + 1) 118 [a5, b5, c5, d5] := (by first | exact SA8.ext hE | exact Q8.drew.ext hE); have SBE : Ext w w8 := (by first | exact SAE.trans hE | exact (E0.trans (ext_drew _)).trans hE); have F1 := SBE; obtain ⟨c0, c1, c2, c3, c4, f0, f1, f2, f3, f4⟩ := five_cells SB0; obtain ⟨d0, d1, d2, d3, d4, g0, g1, g2, g3, g4⟩ := five_cells SB1; obtain ⟨i0, i1, i2, i3, i4, j0, j1, j2, j3, j4⟩ := five_cells SB2; obtain ⟨k0, k1, k2, k3, k4, l0, l1, l2, l3, l4⟩ := five_cells SB3; obtain ⟨m0, m1, m2, m3, _, _, _, _⟩ := SB7.four; obtain ⟨o0, o1, o2, o3, _, _, _, _⟩ := SB8.four; clear hE))
      all_goals go_wp2_with fail
      all_goals exact bodyPost_ret (v := .tuple #[.agg #[.bool s', .int .u64 (a' : Int), .int .u64 (b' : Int), .int .u64 (c' : Int), .int .u64 (d' : Int)], .agg #[.bool s2, .int .u64 (a2 : Int), .int .u64 (b2 : Int), .int .u64 (c2' : Int), .int .u64 (d2' : Int)], .bool true]) (by simp [results, Try.results65, go_sem, i0, i1, i2, i3, i4, k0, k1, k2, k3, k4]) rfl (divRet_yes hy0 hC hC2 (ext_five (ext_five F1 (by omega) _ _ _ _ _) (by omega) _ _ _ _ _))
theorem p_divMod (s t : Bool) (a b c d e f g h : Nat) (x y : Int) (w : World) (hx : IsW s a b c d x) (hy : IsW t e f g h y) :
    Calls Try.prog 65 #[.agg #[.bool s, .int .u64 (a : Int), .int .u64 (b : Int), .int .u64 (c : Int), .int .u64 (d : Int)], .agg #[.bool t, .int .u64 (e : Int), .int .u64 (f : Int), .int .u64 (g : Int), .int .u64 (h : Int)]] w (DivRet x y w) := by
  by_cases hy0 : y = 0
  · exact p_divMod_no s t a b c d e f g h x y w hy hy0
  · cases s
    · exact p_divMod_pos t a b c d e f g h x y w hx hy hy0
    · by_cases hz : x.natAbs % y.natAbs = 0
      · exact p_divMod_even t a b c d e f g h x y w hx hy hy0 hz
      · exact p_divMod_odd t a b c d e f g h x y w hx hy hy0 hz
end Go.Proofs.Ytbnbkondbdakeaa
