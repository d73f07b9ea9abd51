/- Part 3 of what these claims stand on: contracts of the program's and the reference's functions, and plain facts. Conditions: each states its own. -/
import Derived.Test.YtlfmeiejocpnfaaPrF2
import Derived.Lib.QuietBelow
import Derived.Deep.RegionWith
import Derived.Deep.RegionHeld3
import Derived.Deep.DeepCutAuto
import Derived.Laws.CopyOwn
import Derived.Maps.AppendAt
import Derived.Deep.AppendLies
import Derived.Deep.Draws
import Derived.Lib.BitFns
import Derived.KernelRfl
import Derived.Orders
import Derived.Below
import Derived.Test.YtlfmeiejocpnfaaProg
import Derived.WalkSmall
import Derived.Deep.QuietTactic
import Derived.BigQuiet
import Derived.Shelf.Bytes.SlEqualAll
import Derived.Lib.AppendZerosOnto
import Derived.Deep.MidRow
import Derived.Laws.Rows
import Derived.Laws.CopyRow
namespace Go.Proofs.Ytlfmeiejocpnfaa
set_option linter.unusedVariables false
set_option linter.unusedSimpArgs false
section
open Go Go.RowKit
def DivRet (x y : Int) (w : World) (e : Ending) (w' : World) : Prop := ∃ (s : Bool) (a b c d : Nat) (t : Bool) (e' f g h : Nat) (o : Bool), e = .returned (.tuple #[.agg #[.bool s, .int .u64 (a : Int), .int .u64 (b : Int), .int .u64 (c : Int), .int .u64 (d : Int)], .agg #[.bool t, .int .u64 (e' : Int), .int .u64 (f : Int), .int .u64 (g : Int), .int .u64 (h : Int)], .bool o]) ∧
 o = decide (y ≠ 0) ∧ IsC s a b c d (if y = 0 then 0 else x / y) ∧ IsC t e' f g h (if y = 0 then 0 else x % y) ∧ Ext w w'
theorem isC_zero : IsC false 0 0 0 0 0 := ⟨⟨by omega, by omega, by omega, by omega, by simp [mag4, val]⟩, by simp⟩
theorem divRet_no {x y : Int} {w w' : World} (hy : y = 0) (hE : Ext w w') :
   DivRet x y w (.returned (.tuple #[.agg #[.bool false, .int .u64 0, .int .u64 0, .int .u64 0, .int .u64 0], .agg #[.bool false, .int .u64 0, .int .u64 0, .int .u64 0, .int .u64 0], .bool false])) w' :=
 ⟨false, 0, 0, 0, 0, false, 0, 0, 0, 0, false, rfl, by simp [hy], by rw [if_pos hy]; exact isC_zero, by rw [if_pos hy]; exact isC_zero, hE⟩
theorem divRet_yes {x y : Int} {w w' : World} {s t : Bool} {a b c d e f g h : Nat} (hy : y ≠ 0) (h1 : IsC s a b c d (x / y)) (h2 : IsC t e f g h (x % y)) (hE : Ext w w') :
   DivRet x y w (.returned (.tuple #[.agg #[.bool s, .int .u64 (a : Int), .int .u64 (b : Int), .int .u64 (c : Int), .int .u64 (d : Int)], .agg #[.bool t, .int .u64 (e : Int), .int .u64 (f : Int), .int .u64 (g : Int), .int .u64 (h : Int)], .bool true])) w' :=
 ⟨s, a, b, c, d, t, e, f, g, h, true, rfl, by simp [hy], by rw [if_neg hy]; exact h1, by rw [if_neg hy]; exact h2, hE⟩
theorem div_signs (s t : Bool) (n m : Nat) (x y : Int) (hx : x = if s then -(n : Int) else n) (hy : y = if t then -(m : Int) else m) (hm : 0 < m) :
   ((s = false ∨ n % m = 0) → x / y = (if (s != t) then -((n / m : Nat) : Int) else ((n / m : Nat) : Int)) ∧ x % y = ((n % m : Nat) : Int)) ∧
   (s = true ∧ n % m ≠ 0 → x / y = (if (s != t) then -((n / m + 1 : Nat) : Int) else ((n / m + 1 : Nat) : Int)) ∧ x % y = ((m - n % m : Nat) : Int)) := by
 have e := Nat.div_add_mod n m
 have hr := Nat.mod_lt n hm
 have key : ∀ (q r : Int), x = y * q + r → 0 ≤ r → r < m → x / y = q ∧ x % y = r := by
   intro q r h1 h2 h3
   have hy0 : y ≠ 0 := by cases t <;> simp at hy <;> omega
   have hya : (y.natAbs : Int) = m := by cases t <;> simp at hy <;> omega
   have h4 := Int.emod_add_mul_ediv x y
   have h5 := Int.emod_nonneg x hy0
   have h6 := Int.emod_lt x hy0
   rw [hya] at h6
   have h7 : y * (x / y - q) = r - x % y := by rw [Int.mul_sub]; omega
   have h8 : (x / y - q) = 0 := by
     have h9 : (y * (x / y - q)).natAbs < m := by rw [h7]; omega
     rw [Int.natAbs_mul, show y.natAbs = m by omega] at h9
     have h10 : (x / y - q).natAbs = 0 := by
       rcases Nat.eq_zero_or_pos (x / y - q).natAbs with h | h
       · exact h
       · exfalso
         have : m * 1 ≤ m * (x / y - q).natAbs := Nat.mul_le_mul_left _ h
         omega
     omega
   rw [h8, Int.mul_zero] at h7
   exact ⟨by omega, by omega⟩
 generalize n / m = q at *
 generalize n % m = r at *
 have e' : (n : Int) = m * q + r := by rw [← e]; simp
 constructor
 · intro h
   refine key _ _ ?_ (by omega) (by omega)
   cases s <;> cases t <;> simp at hx hy h ⊢ <;> subst hx <;> subst hy <;> rw [e'] <;> (try subst h) <;> simp [Int.neg_mul, Int.mul_neg]
 · rintro ⟨h, h0⟩
   refine key _ _ ?_ (by omega) (by omega)
   have e2 : ((m - r : Nat) : Int) = (m : Int) - r := by omega
   rw [e2]
   subst h
   cases t <;> simp at hx hy ⊢ <;> subst hx <;> subst hy <;> rw [e'] <;> simp [Int.neg_mul, Int.mul_neg, Int.mul_add] <;> omega
theorem four_boxes (w : World) (s t : Bool) (a b c d e f g h : Nat) : ∃ W, ((((w.alloc (.cells #[.bool s, .int .u64 (a : Int), .int .u64 (b : Int), .int .u64 (c : Int), .int .u64 (d : Int)] 25)).alloc (.cells #[.bool t, .int .u64 (e : Int), .int .u64 (f : Int), .int .u64 (g : Int), .int .u64 (h : Int)] 25)).alloc (.cells #[.bool false, .int .u64 0, .int .u64 0, .int .u64 0, .int .u64 0] 25)).alloc (.cells #[.bool false, .int .u64 0, .int .u64 0, .int .u64 0, .int .u64 0] 25)) = W ∧
   Box W w.heap.size s a b c d ∧ Box W (w.heap.size + 1) t e f g h ∧ Box W (w.heap.size + 1 + 1) false 0 0 0 0 ∧ Box W (w.heap.size + 1 + 1 + 1) false 0 0 0 0 ∧ Ext w W := by
 have h := four_new w (.cells #[.bool s, .int .u64 (a : Int), .int .u64 (b : Int), .int .u64 (c : Int), .int .u64 (d : Int)] 25) (.cells #[.bool t, .int .u64 (e : Int), .int .u64 (f : Int), .int .u64 (g : Int), .int .u64 (h : Int)] 25) (.cells #[.bool false, .int .u64 0, .int .u64 0, .int .u64 0, .int .u64 0] 25) (.cells #[.bool false, .int .u64 0, .int .u64 0, .int .u64 0, .int .u64 0] 25)
 exact ⟨_, rfl, h.1, h.2.1, h.2.2.1, h.2.2.2, (((ext_alloc _ _).trans (ext_alloc _ _)).trans (ext_alloc _ _)).trans (ext_alloc _ _)⟩
theorem Box.far4 {w : World} {g b' : Nat} {s : Bool} {a b c d : Nat} (k : Box w g s a b c d) (h : g ≠ b') (u0 u1 u2 u3 : Value) : Box ((((w.setCell ⟨b', 0, none⟩ u0).setCell ⟨b', 1, none⟩ u1).setCell ⟨b', 2, none⟩ u2).setCell ⟨b', 3, none⟩ u3) g s a b c d := by
 unfold Box at *
 rw [heap_setCell_other _ _ _ _ (by simpa using h), heap_setCell_other _ _ _ _ (by simpa using h), heap_setCell_other _ _ _ _ (by simpa using h), heap_setCell_other _ _ _ _ (by first | (simp; done) | (simp [h]; done))]
 exact k
theorem cell_far5 (w : World) {g b' i : Nat} {u0 u1 u2 u3 u4 : Value} (h : g ≠ b') : (((((w.setCell ⟨b', 0, none⟩ u0).setCell ⟨b', 1, none⟩ u1).setCell ⟨b', 2, none⟩ u2).setCell ⟨b', 3, none⟩ u3).setCell ⟨b', 4, none⟩ u4).cell? ⟨g, i, none⟩ = w.cell? ⟨g, i, none⟩ := by
 rw [World.cell?_setCell_other _ _ _ _ (by first | (simp; done) | (simp [h]; done)), World.cell?_setCell_other _ _ _ _ (by first | (simp; done) | (simp [h]; done)), World.cell?_setCell_other _ _ _ _ (by first | (simp; done) | (simp [h]; done)), World.cell?_setCell_other _ _ _ _ (by first | (simp; done) | (simp [h]; done)), World.cell?_setCell_other _ _ _ _ (by first | (simp; done) | (simp [h]; done))]
theorem quot_fits (n m : Nat) (hm : 0 < m) (hr : n % m ≠ 0) (hn : n < 115792089237316195423570985008687907853269984665640564039457584007913129639936) : n / m + 1 < 115792089237316195423570985008687907853269984665640564039457584007913129639936 := by
 have h1 : m ≠ 1 := fun h => by subst h; rw [Nat.mod_one] at hr; exact hr rfl
 have e := Nat.div_add_mod n m
 have h2 : 2 * (n / m) ≤ m * (n / m) := Nat.mul_le_mul_right _ (by omega)
 omega
set_option maxHeartbeats 1000000 in
theorem p_divMod_no (s t : Bool) (a b c d e f g h : Nat) (x y : Int) (w : World) (hy : IsW t e f g h y) (hy0 : y = 0) :
   Calls Try.prog 76 #[.agg #[.bool s, .int .u64 (a : Int), .int .u64 (b : Int), .int .u64 (c : Int), .int .u64 (d : Int)], .agg #[.bool t, .int .u64 (e : Int), .int .u64 (f : Int), .int .u64 (g : Int), .int .u64 (h : Int)]] w (DivRet x y w) := by
 obtain ⟨W, hW, B0, B1, B2, B3, E0⟩ := four_boxes w s t a b c d e f g h
 have HW := hide hW
 have hqy := eql0 23 Try.underlying23 e f g h false (by rw [decide_eq_false_iff_not, hy.abs, hy0]; simp)
 have HY := hide hy0
 clear hW hy hy0
 obtain ⟨d0, d1, d2, d3, d4, g0, g1, g2, g3, g4⟩ := five_cells B1
 obtain ⟨i0, i1, i2, i3, i4, j0, j1, j2, j3, j4⟩ := five_cells B2
 obtain ⟨k0, k1, k2, k3, k4, l0, l1, l2, l3, l4⟩ := five_cells B3
 go_enter Try.func76, Try.ntmps76
 go_upto_region 1 with fail
 rw [HW.out]
 clear HW
 go_wp2_with fail
 exact bodyPost_ret (v := .tuple #[.agg #[.bool false, .int .u64 0, .int .u64 0, .int .u64 0, .int .u64 0], .agg #[.bool false, .int .u64 0, .int .u64 0, .int .u64 0, .int .u64 0], .bool false]) (by simp [results, Try.results76, go_sem, i0, i1, i2, i3, i4, k0, k1, k2, k3, k4]) rfl (divRet_no HY.out (ext_five (ext_five E0 (by omega) _ _ _ _ _) (by omega) _ _ _ _ _))
set_option maxRecDepth 100000 in
set_option maxHeartbeats 8000000 in
theorem p_divMod_pos (t : Bool) (a b c d e f g h : Nat) (x y : Int) (w : World) (hx : IsW false a b c d x) (hy : IsW t e f g h y) (hy0 : y ≠ 0) :
   Calls Try.prog 76 #[.agg #[.bool false, .int .u64 (a : Int), .int .u64 (b : Int), .int .u64 (c : Int), .int .u64 (d : Int)], .agg #[.bool t, .int .u64 (e : Int), .int .u64 (f : Int), .int .u64 (g : Int), .int .u64 (h : Int)]] w (DivRet x y w) := by
 obtain ⟨W, hW, B0, B1, B2, B3, E0⟩ := four_boxes w false t a b c d e f g h
 have HW := hide hW
 obtain ⟨n, hn⟩ : ∃ n, x.natAbs = n := ⟨_, rfl⟩
 obtain ⟨m, hm⟩ : ∃ m, y.natAbs = m := ⟨_, rfl⟩
 have MX : Hid (mag4 a b c d = n) := by rw [← hn]; exact hx.abs
 have MY : Hid (mag4 e f g h = m) := by rw [← hm]; exact hy.abs
 have hm0 : 0 < m := by omega
 have wx := hx.w64
 have wy := hy.w64
 obtain ⟨u, hu⟩ : ∃ u, (false != t) = u := ⟨_, rfl⟩
 have hnb := neqB false t u hu
 have HDS := hide (div_signs false t n m x y (by have := hx.2.2.2.2; rw [MX.out] at this; exact this) (by have := hy.2.2.2.2; rw [MY.out] at this; exact this) hm0)
 have hqy := eql0 23 Try.underlying23 e f g h true (by rw [decide_eq_true_iff, MY.out]; omega)
 have HUU := hide hu
 clear hW hn hm hx hy hu
 obtain ⟨c0, c1, c2, c3, c4, f0, f1, f2, f3, f4⟩ := five_cells B0
 obtain ⟨d0, d1, d2, d3, d4, g0, g1, g2, g3, g4⟩ := five_cells B1
 go_enter Try.func76, Try.ntmps76
 go_upto_region 1 with fail
 rw [HW.out]
 clear HW
 go_upto_if 29 with (go_at_call 88; refine (p_divWords a b c d e f g h n m MX.out MY.out _ wx wy hm0).mono ?_; rintro e' w' ⟨a7, b7, c7, d7, a8, b8, c8, d8, rfl, w7, w8, hq, hr, hE⟩; have HQ := hide hq; have HR := hide hr; have R0 := B0.ext hE; have R1 := B1.ext hE; have R2 := B2.ext hE; have R3 := B3.ext hE; obtain ⟨c0, c1, c2, c3, c4, f0, f1, f2, f3, f4⟩ := five_cells R0; obtain ⟨d0, d1, d2, d3, d4, g0, g1, g2, g3, g4⟩ := five_cells R1; have y0 := R0.lt; have y1 := R1.lt; have y2 := R2.lt; have y3 := R3.lt; have z0 : w.heap.size < w'.heap.size + 1 := (by omega); have z1 : w.heap.size + 1 < w'.heap.size + 1 := (by omega); have E1 := E0.trans hE; clear hE hq hr)
 have HZQ : Hid ((if u then -((mag4 a7 b7 c7 d7 : Nat) : Int) else ((mag4 a7 b7 c7 d7 : Nat) : Int)) = x / y) := by rw [HQ.out, ← HUU.out]; exact (HDS.out.1 (Or.inl (by first | rfl | trivial))).1.symm
 have HZR : Hid (((mag4 a8 b8 c8 d8 : Nat) : Int) = x % y) := by rw [HR.out]; exact (HDS.out.1 (Or.inl (by first | rfl | trivial))).2.symm
 have KK := two_blocks w' (.cells #[.int .u64 (a7 : Int), .int .u64 (b7 : Int), .int .u64 (c7 : Int), .int .u64 (d7 : Int)] 107) (.cells #[.int .u64 (a8 : Int), .int .u64 (b8 : Int), .int .u64 (c8 : Int), .int .u64 (d8 : Int)] 107)
 have KE := (ext_alloc w' (.cells #[.int .u64 (a7 : Int), .int .u64 (b7 : Int), .int .u64 (c7 : Int), .int .u64 (d7 : Int)] 107)).trans (ext_alloc _ (.cells #[.int .u64 (a8 : Int), .int .u64 (b8 : Int), .int .u64 (c8 : Int), .int .u64 (d8 : Int)] 107))
 go_cut [] (fun wx => Arr wx w'.heap.size 107 [a7, b7, c7, d7] ∧ Arr wx (w'.heap.size + 1) 107 [a8, b8, c8, d8] ∧ Box wx w.heap.size false a b c d ∧ Box wx (w.heap.size + 1) t e f g h ∧ Box wx (w.heap.size + 1 + 1) false 0 0 0 0 ∧ Box wx (w.heap.size + 1 + 1 + 1) false 0 0 0 0 ∧ Ext w wx)
 case first =>
     go_wp2_with fail
     all_goals go_meet
     all_goals exact ⟨KK.1, KK.2, R0.ext KE, R1.ext KE, R2.ext KE, R3.ext KE, E1.trans KE⟩
 case rest =>
     clear B0 B1 B2 B3 E0 R0 R1 R2 R3 E1
     obtain ⟨Q7, Q8, B0, B1, B2, B3, E0⟩ := hcut
     obtain ⟨c0, c1, c2, c3, c4, f0, f1, f2, f3, f4⟩ := five_cells B0
     obtain ⟨d0, d1, d2, d3, d4, g0, g1, g2, g3, g4⟩ := five_cells B1
     obtain ⟨m0, m1, m2, m3, _, _, _, _⟩ := Q7.four
     obtain ⟨o0, o1, o2, o3, _, _, _, _⟩ := Q8.four
     go_wp2_with fail
     generalize w'.heap.size = gA at *
     have n02 : w.heap.size ≠ w.heap.size + 1 + 1 := by omega
     have n03 : w.heap.size ≠ w.heap.size + 1 + 1 + 1 := by omega
     have n12 : w.heap.size + 1 ≠ w.heap.size + 1 + 1 := by omega
     have n13 : w.heap.size + 1 ≠ w.heap.size + 1 + 1 + 1 := by omega
     have nA2 : gA ≠ w.heap.size + 1 + 1 := by omega
     have nA3 : gA ≠ w.heap.size + 1 + 1 + 1 := by omega
     have nB2 : gA + 1 ≠ w.heap.size + 1 + 1 := by omega
     have nB3 : gA + 1 ≠ w.heap.size + 1 + 1 + 1 := by omega
     go_region_held3 (fun w' => w'.cell? ⟨w.heap.size, 0, none⟩ = some (.bool false) ∧ w'.cell? ⟨w.heap.size + 1, 0, none⟩ = some (.bool t) ∧ w'.cell? ⟨gA, 0, none⟩ = some (.int .u64 (a7 : Int)) ∧ w'.cell? ⟨gA, 1, none⟩ = some (.int .u64 (b7 : Int)) ∧ w'.cell? ⟨gA, 2, none⟩ = some (.int .u64 (c7 : Int)) ∧ w'.cell? ⟨gA, 3, none⟩ = some (.int .u64 (d7 : Int)) ∧ w'.cell? ⟨gA + 1, 0, none⟩ = some (.int .u64 (a8 : Int)) ∧ w'.cell? ⟨gA + 1, 1, none⟩ = some (.int .u64 (b8 : Int)) ∧ w'.cell? ⟨gA + 1, 2, none⟩ = some (.int .u64 (c8 : Int)) ∧ w'.cell? ⟨gA + 1, 3, none⟩ = some (.int .u64 (d8 : Int))) (first | (with_reducible exact ⟨c0, d0, m0, m1, m2, m3, o0, o1, o2, o3⟩) | (with_reducible exact ⟨(cell_far5 _ n02).trans c0, (cell_far5 _ n12).trans d0, (cell_far5 _ nA2).trans m0, (cell_far5 _ nA2).trans m1, (cell_far5 _ nA2).trans m2, (cell_far5 _ nA2).trans m3, (cell_far5 _ nB2).trans o0, (cell_far5 _ nB2).trans o1, (cell_far5 _ nB2).trans o2, (cell_far5 _ nB2).trans o3⟩) | (with_reducible exact ⟨(cell_far5 _ n03).trans c0, (cell_far5 _ n13).trans d0, (cell_far5 _ nA3).trans m0, (cell_far5 _ nA3).trans m1, (cell_far5 _ nA3).trans m2, (cell_far5 _ nA3).trans m3, (cell_far5 _ nB3).trans o0, (cell_far5 _ nB3).trans o1, (cell_far5 _ nB3).trans o2, (cell_far5 _ nB3).trans o3⟩) | (with_reducible exact ⟨(cell_far5 _ n03).trans ((cell_far5 _ n02).trans c0), (cell_far5 _ n13).trans ((cell_far5 _ n12).trans d0), (cell_far5 _ nA3).trans ((cell_far5 _ nA2).trans m0), (cell_far5 _ nA3).trans ((cell_far5 _ nA2).trans m1), (cell_far5 _ nA3).trans ((cell_far5 _ nA2).trans m2), (cell_far5 _ nA3).trans ((cell_far5 _ nA2).trans m3), (cell_far5 _ nB3).trans ((cell_far5 _ nB2).trans o0), (cell_far5 _ nB3).trans ((cell_far5 _ nB2).trans o1), (cell_far5 _ nB3).trans ((cell_far5 _ nB2).trans o2), (cell_far5 _ nB3).trans ((cell_far5 _ nB2).trans o3)⟩) | (with_reducible exact ⟨(cell_far5 _ n02).trans ((cell_far5 _ n03).trans c0), (cell_far5 _ n12).trans ((cell_far5 _ n13).trans d0), (cell_far5 _ nA2).trans ((cell_far5 _ nA3).trans m0), (cell_far5 _ nA2).trans ((cell_far5 _ nA3).trans m1), (cell_far5 _ nA2).trans ((cell_far5 _ nA3).trans m2), (cell_far5 _ nA2).trans ((cell_far5 _ nA3).trans m3), (cell_far5 _ nB2).trans ((cell_far5 _ nB3).trans o0), (cell_far5 _ nB2).trans ((cell_far5 _ nB3).trans o1), (cell_far5 _ nB2).trans ((cell_far5 _ nB3).trans o2), (cell_far5 _ nB2).trans ((cell_far5 _ nB3).trans o3)⟩) | go_keep) (first
       | (go_at_call_of 78 (Value.bool u); refine (p_signed u a7 b7 c7 d7 _ (w64_four w7).1 (w64_four w7).2.1 (w64_four w7).2.2.1 (w64_four w7).2.2.2).mono ?_; rintro e' w7 ⟨s', a', b', c', d', rfl, hC, hE⟩; rw [HZQ.out] at hC; have SA0 : Box w7 w.heap.size false a b c d := (by first | exact SB0.ext hE | exact B0.drew.ext hE); have SA1 : Box w7 (w.heap.size + 1) t e f g h := (by first | exact SB1.ext hE | exact B1.drew.ext hE); have SA2 : Box w7 (w.heap.size + 1 + 1) false 0 0 0 0 := (by first | exact SB2.ext hE | exact B2.drew.ext hE); have SA3 : Box w7 (w.heap.size + 1 + 1 + 1) false 0 0 0 0 := (by first | exact SB3.ext hE | exact B3.drew.ext hE); have SA7 : Arr w7 gA 107 [a7, b7, c7, d7] := (by first | exact SB7.ext hE | exact Q7.drew.ext hE); have SA8 : Arr w7 (gA + 1) 107 [a8, b8, c8, d8] := (by first | exact SB8.ext hE | exact Q8.drew.ext hE); have SAE : Ext w w7 := (by first | exact SBE.trans hE | exact (E0.trans (ext_drew _)).trans hE); have F1 := SAE; obtain ⟨c0, c1, c2, c3, c4, f0, f1, f2, f3, f4⟩ := five_cells SA0; obtain ⟨d0, d1, d2, d3, d4, g0, g1, g2, g3, g4⟩ := five_cells SA1; obtain ⟨i0, i1, i2, i3, i4, j0, j1, j2, j3, j4⟩ := five_cells SA2; obtain ⟨k0, k1, k2, k3, k4, l0, l1, l2, l3, l4⟩ := five_cells SA3; obtain ⟨m0, m1, m2, m3, _, _, _, _⟩ := SA7.four; obtain ⟨o0, o1, o2, o3, _, _, _, _⟩ := SA8.four; clear hE)
       | (go_at_call_of 78 (Value.bool false); refine (p_signed false a8 b8 c8 d8 _ (w64_four w8).1 (w64_four w8).2.1 (w64_four w8).2.2.1 (w64_four w8).2.2.2).mono ?_; rintro e' w8 ⟨s2, a2, b2, c2', d2', rfl, hC2, hE⟩; simp only [Bool.false_eq_true, if_false] at hC2; rw [HZR.out] at hC2; have SB0 : Box w8 w.heap.size false a b c d := (by first | exact SA0.ext hE | exact B0.drew.ext hE); have SB1 : Box w8 (w.heap.size + 1) t e f g h := (by first | exact SA1.ext hE | exact B1.drew.ext hE); have SB2 : Box w8 (w.heap.size + 1 + 1) false 0 0 0 0 := (by first | exact SA2.ext hE | exact B2.drew.ext hE); have SB3 : Box w8 (w.heap.size + 1 + 1 + 1) false 0 0 0 0 := (by first | exact SA3.ext hE | exact B3.drew.ext hE); have SB7 : Arr w8 gA 107 [a7, b7, c7, d7] := (by first | exact SA7.ext hE | exact Q7.drew.ext hE); have SB8 : Arr w8 (gA + 1) 107 [a8, b8, c8, d8] := (by first | exact SA8.ext hE | exact Q8.drew.ext hE); have SBE : Ext w w8 := (by first | exact SAE.trans hE | exact (E0.trans (ext_drew _)).trans hE); have F1 := SBE; obtain ⟨c0, c1, c2, c3, c4, f0, f1, f2, f3, f4⟩ := five_cells SB0; obtain ⟨d0, d1, d2, d3, d4, g0, g1, g2, g3, g4⟩ := five_cells SB1; obtain ⟨i0, i1, i2, i3, i4, j0, j1, j2, j3, j4⟩ := five_cells SB2; obtain ⟨k0, k1, k2, k3, k4, l0, l1, l2, l3, l4⟩ := five_cells SB3; obtain ⟨m0, m1, m2, m3, _, _, _, _⟩ := SB7.four; obtain ⟨o0, o1, o2, o3, _, _, _, _⟩ := SB8.four; clear hE))
     all_goals go_wp2_with fail
     all_goals exact bodyPost_ret (v := .tuple #[.agg #[.bool s', .int .u64 (a' : Int), .int .u64 (b' : Int), .int .u64 (c' : Int), .int .u64 (d' : Int)], .agg #[.bool s2, .int .u64 (a2 : Int), .int .u64 (b2 : Int), .int .u64 (c2' : Int), .int .u64 (d2' : Int)], .bool true]) (by simp [results, Try.results76, go_sem, i0, i1, i2, i3, i4, k0, k1, k2, k3, k4]) rfl (divRet_yes hy0 hC hC2 (ext_five (ext_five F1 (by omega) _ _ _ _ _) (by omega) _ _ _ _ _))
set_option maxRecDepth 100000 in
set_option maxHeartbeats 8000000 in
theorem p_divMod_even (t : Bool) (a b c d e f g h : Nat) (x y : Int) (w : World) (hx : IsW true a b c d x) (hy : IsW t e f g h y) (hy0 : y ≠ 0) (hz : x.natAbs % y.natAbs = 0) :
   Calls Try.prog 76 #[.agg #[.bool true, .int .u64 (a : Int), .int .u64 (b : Int), .int .u64 (c : Int), .int .u64 (d : Int)], .agg #[.bool t, .int .u64 (e : Int), .int .u64 (f : Int), .int .u64 (g : Int), .int .u64 (h : Int)]] w (DivRet x y w) := by
 obtain ⟨W, hW, B0, B1, B2, B3, E0⟩ := four_boxes w true t a b c d e f g h
 have HW := hide hW
 have hz0 := hz
 clear hz
 obtain ⟨n, hn⟩ : ∃ n, x.natAbs = n := ⟨_, rfl⟩
 obtain ⟨m, hm⟩ : ∃ m, y.natAbs = m := ⟨_, rfl⟩
 have MX : Hid (mag4 a b c d = n) := by rw [← hn]; exact hx.abs
 have MY : Hid (mag4 e f g h = m) := by rw [← hm]; exact hy.abs
 have hm0 : 0 < m := by omega
 have wx := hx.w64
 have wy := hy.w64
 obtain ⟨u, hu⟩ : ∃ u, (true != t) = u := ⟨_, rfl⟩
 have hnb := neqB true t u hu
 have HDS := hide (div_signs true t n m x y (by have := hx.2.2.2.2; rw [MX.out] at this; exact this) (by have := hy.2.2.2.2; rw [MY.out] at this; exact this) hm0)
 have hqy := eql0 23 Try.underlying23 e f g h true (by rw [decide_eq_true_iff, MY.out]; omega)
 have HUU := hide hu
 rw [hn, hm] at hz0
 have HNZ := hide hz0
 clear hz0 hW hn hm hx hy hu
 obtain ⟨c0, c1, c2, c3, c4, f0, f1, f2, f3, f4⟩ := five_cells B0
 obtain ⟨d0, d1, d2, d3, d4, g0, g1, g2, g3, g4⟩ := five_cells B1
 go_enter Try.func76, Try.ntmps76
 go_upto_region 1 with fail
 rw [HW.out]
 clear HW
 go_upto_if 29 with (go_at_call 88; refine (p_divWords a b c d e f g h n m MX.out MY.out _ wx wy hm0).mono ?_; rintro e' w' ⟨a7, b7, c7, d7, a8, b8, c8, d8, rfl, w7, w8, hq, hr, hE⟩; have HQ := hide hq; have HR := hide hr; have R0 := B0.ext hE; have R1 := B1.ext hE; have R2 := B2.ext hE; have R3 := B3.ext hE; obtain ⟨c0, c1, c2, c3, c4, f0, f1, f2, f3, f4⟩ := five_cells R0; obtain ⟨d0, d1, d2, d3, d4, g0, g1, g2, g3, g4⟩ := five_cells R1; have y0 := R0.lt; have y1 := R1.lt; have y2 := R2.lt; have y3 := R3.lt; have z0 : w.heap.size < w'.heap.size + 1 := (by omega); have z1 : w.heap.size + 1 < w'.heap.size + 1 := (by omega); have E1 := E0.trans hE; clear hE hq hr; have hqr := neq0 107 Try.underlying107 a8 b8 c8 d8 false (by rw [decide_eq_false_iff_not, HR.out, HNZ.out]; simp))
 have HZQ : Hid ((if u then -((mag4 a7 b7 c7 d7 : Nat) : Int) else ((mag4 a7 b7 c7 d7 : Nat) : Int)) = x / y) := by rw [HQ.out, ← HUU.out]; exact (HDS.out.1 (Or.inr HNZ.out)).1.symm
 have HZR : Hid (((mag4 a8 b8 c8 d8 : Nat) : Int) = x % y) := by rw [HR.out]; exact (HDS.out.1 (Or.inr HNZ.out)).2.symm
 have KK := two_blocks w' (.cells #[.int .u64 (a7 : Int), .int .u64 (b7 : Int), .int .u64 (c7 : Int), .int .u64 (d7 : Int)] 107) (.cells #[.int .u64 (a8 : Int), .int .u64 (b8 : Int), .int .u64 (c8 : Int), .int .u64 (d8 : Int)] 107)
 have KE := (ext_alloc w' (.cells #[.int .u64 (a7 : Int), .int .u64 (b7 : Int), .int .u64 (c7 : Int), .int .u64 (d7 : Int)] 107)).trans (ext_alloc _ (.cells #[.int .u64 (a8 : Int), .int .u64 (b8 : Int), .int .u64 (c8 : Int), .int .u64 (d8 : Int)] 107))
 go_cut [] (fun wx => Arr wx w'.heap.size 107 [a7, b7, c7, d7] ∧ Arr wx (w'.heap.size + 1) 107 [a8, b8, c8, d8] ∧ Box wx w.heap.size true a b c d ∧ Box wx (w.heap.size + 1) t e f g h ∧ Box wx (w.heap.size + 1 + 1) false 0 0 0 0 ∧ Box wx (w.heap.size + 1 + 1 + 1) false 0 0 0 0 ∧ Ext w wx)
 case first =>
     go_wp2_with fail
     all_goals go_meet
     all_goals exact ⟨KK.1, KK.2, R0.ext KE, R1.ext KE, R2.ext KE, R3.ext KE, E1.trans KE⟩
 case rest =>
     clear B0 B1 B2 B3 E0 R0 R1 R2 R3 E1
     obtain ⟨Q7, Q8, B0, B1, B2, B3, E0⟩ := hcut
     obtain ⟨c0, c1, c2, c3, c4, f0, f1, f2, f3, f4⟩ := five_cells B0
     obtain ⟨d0, d1, d2, d3, d4, g0, g1, g2, g3, g4⟩ := five_cells B1
     obtain ⟨m0, m1, m2, m3, _, _, _, _⟩ := Q7.four
     obtain ⟨o0, o1, o2, o3, _, _, _, _⟩ := Q8.four
     go_wp2_with fail
     generalize w'.heap.size = gA at *
     have n02 : w.heap.size ≠ w.heap.size + 1 + 1 := by omega
     have n03 : w.heap.size ≠ w.heap.size + 1 + 1 + 1 := by omega
     have n12 : w.heap.size + 1 ≠ w.heap.size + 1 + 1 := by omega
     have n13 : w.heap.size + 1 ≠ w.heap.size + 1 + 1 + 1 := by omega
     have nA2 : gA ≠ w.heap.size + 1 + 1 := by omega
     have nA3 : gA ≠ w.heap.size + 1 + 1 + 1 := by omega
     have nB2 : gA + 1 ≠ w.heap.size + 1 + 1 := by omega
     have nB3 : gA + 1 ≠ w.heap.size + 1 + 1 + 1 := by omega
     go_region_held3 (fun w' => w'.cell? ⟨w.heap.size, 0, none⟩ = some (.bool true) ∧ w'.cell? ⟨w.heap.size + 1, 0, none⟩ = some (.bool t) ∧ w'.cell? ⟨gA, 0, none⟩ = some (.int .u64 (a7 : Int)) ∧ w'.cell? ⟨gA, 1, none⟩ = some (.int .u64 (b7 : Int)) ∧ w'.cell? ⟨gA, 2, none⟩ = some (.int .u64 (c7 : Int)) ∧ w'.cell? ⟨gA, 3, none⟩ = some (.int .u64 (d7 : Int)) ∧ w'.cell? ⟨gA + 1, 0, none⟩ = some (.int .u64 (a8 : Int)) ∧ w'.cell? ⟨gA + 1, 1, none⟩ = some (.int .u64 (b8 : Int)) ∧ w'.cell? ⟨gA + 1, 2, none⟩ = some (.int .u64 (c8 : Int)) ∧ w'.cell? ⟨gA + 1, 3, none⟩ = some (.int .u64 (d8 : Int))) (first | (with_reducible exact ⟨c0, d0, m0, m1, m2, m3, o0, o1, o2, o3⟩) | (with_reducible exact ⟨(cell_far5 _ n02).trans c0, (cell_far5 _ n12).trans d0, (cell_far5 _ nA2).trans m0, (cell_far5 _ nA2).trans m1, (cell_far5 _ nA2).trans m2, (cell_far5 _ nA2).trans m3, (cell_far5 _ nB2).trans o0, (cell_far5 _ nB2).trans o1, (cell_far5 _ nB2).trans o2, (cell_far5 _ nB2).trans o3⟩) | (with_reducible exact ⟨(cell_far5 _ n03).trans c0, (cell_far5 _ n13).trans d0, (cell_far5 _ nA3).trans m0, (cell_far5 _ nA3).trans m1, (cell_far5 _ nA3).trans m2, (cell_far5 _ nA3).trans m3, (cell_far5 _ nB3).trans o0, (cell_far5 _ nB3).trans o1, (cell_far5 _ nB3).trans o2, (cell_far5 _ nB3).trans o3⟩) | (with_reducible exact ⟨(cell_far5 _ n03).trans ((cell_far5 _ n02).trans c0), (cell_far5 _ n13).trans ((cell_far5 _ n12).trans d0), (cell_far5 _ nA3).trans ((cell_far5 _ nA2).trans m0), (cell_far5 _ nA3).trans ((cell_far5 _ nA2).trans m1), (cell_far5 _ nA3).trans ((cell_far5 _ nA2).trans m2), (cell_far5 _ nA3).trans ((cell_far5 _ nA2).trans m3), (cell_far5 _ nB3).trans ((cell_far5 _ nB2).trans o0), (cell_far5 _ nB3).trans ((cell_far5 _ nB2).trans o1), (cell_far5 _ nB3).trans ((cell_far5 _ nB2).trans o2), (cell_far5 _ nB3).trans ((cell_far5 _ nB2).trans o3)⟩) | (with_reducible exact ⟨(cell_far5 _ n02).trans ((cell_far5 _ n03).trans c0), (cell_far5 _ n12).trans ((cell_far5 _ n13).trans d0), (cell_far5 _ nA2).trans ((cell_far5 _ nA3).trans m0), (cell_far5 _ nA2).trans ((cell_far5 _ nA3).trans m1), (cell_far5 _ nA2).trans ((cell_far5 _ nA3).trans m2), (cell_far5 _ nA2).trans ((cell_far5 _ nA3).trans m3), (cell_far5 _ nB2).trans ((cell_far5 _ nB3).trans o0), (cell_far5 _ nB2).trans ((cell_far5 _ nB3).trans o1), (cell_far5 _ nB2).trans ((cell_far5 _ nB3).trans o2), (cell_far5 _ nB2).trans ((cell_far5 _ nB3).trans o3)⟩) | go_keep) (first
       | (go_at_call_of 78 (Value.bool u); refine (p_signed u a7 b7 c7 d7 _ (w64_four w7).1 (w64_four w7).2.1 (w64_four w7).2.2.1 (w64_four w7).2.2.2).mono ?_; rintro e' w7 ⟨s', a', b', c', d', rfl, hC, hE⟩; rw [HZQ.out] at hC; have SA0 : Box w7 w.heap.size true a b c d := (by first | exact SB0.ext hE | exact B0.drew.ext hE); have SA1 : Box w7 (w.heap.size + 1) t e f g h := (by first | exact SB1.ext hE | exact B1.drew.ext hE); have SA2 : Box w7 (w.heap.size + 1 + 1) false 0 0 0 0 := (by first | exact SB2.ext hE | exact B2.drew.ext hE); have SA3 : Box w7 (w.heap.size + 1 + 1 + 1) false 0 0 0 0 := (by first | exact SB3.ext hE | exact B3.drew.ext hE); have SA7 : Arr w7 gA 107 [a7, b7, c7, d7] := (by first | exact SB7.ext hE | exact Q7.drew.ext hE); have SA8 : Arr w7 (gA + 1) 107 [a8, b8, c8, d8] := (by first | exact SB8.ext hE | exact Q8.drew.ext hE); have SAE : Ext w w7 := (by first | exact SBE.trans hE | exact (E0.trans (ext_drew _)).trans hE); have F1 := SAE; obtain ⟨c0, c1, c2, c3, c4, f0, f1, f2, f3, f4⟩ := five_cells SA0; obtain ⟨d0, d1, d2, d3, d4, g0, g1, g2, g3, g4⟩ := five_cells SA1; obtain ⟨i0, i1, i2, i3, i4, j0, j1, j2, j3, j4⟩ := five_cells SA2; obtain ⟨k0, k1, k2, k3, k4, l0, l1, l2, l3, l4⟩ := five_cells SA3; obtain ⟨m0, m1, m2, m3, _, _, _, _⟩ := SA7.four; obtain ⟨o0, o1, o2, o3, _, _, _, _⟩ := SA8.four; clear hE)
       | (go_at_call_of 78 (Value.bool false); refine (p_signed false a8 b8 c8 d8 _ (w64_four w8).1 (w64_four w8).2.1 (w64_four w8).2.2.1 (w64_four w8).2.2.2).mono ?_; rintro e' w8 ⟨s2, a2, b2, c2', d2', rfl, hC2, hE⟩; simp only [Bool.false_eq_true, if_false] at hC2; rw [HZR.out] at hC2; have SB0 : Box w8 w.heap.size true a b c d := (by first | exact SA0.ext hE | exact B0.drew.ext hE); have SB1 : Box w8 (w.heap.size + 1) t e f g h := (by first | exact SA1.ext hE | exact B1.drew.ext hE); have SB2 : Box w8 (w.heap.size + 1 + 1) false 0 0 0 0 := (by first | exact SA2.ext hE | exact B2.drew.ext hE); have SB3 : Box w8 (w.heap.size + 1 + 1 + 1) false 0 0 0 0 := (by first | exact SA3.ext hE | exact B3.drew.ext hE); have SB7 : Arr w8 gA 107 [a7, b7, c7, d7] := (by first | exact SA7.ext hE | exact Q7.drew.ext hE); have SB8 : Arr w8 (gA + 1) 107 [a8, b8, c8, d8] := (by first | exact SA8.ext hE | exact Q8.drew.ext hE); have SBE : Ext w w8 := (by first | exact SAE.trans hE | exact (E0.trans (ext_drew _)).trans hE); have F1 := SBE; obtain ⟨c0, c1, c2, c3, c4, f0, f1, f2, f3, f4⟩ := five_cells SB0; obtain ⟨d0, d1, d2, d3, d4, g0, g1, g2, g3, g4⟩ := five_cells SB1; obtain ⟨i0, i1, i2, i3, i4, j0, j1, j2, j3, j4⟩ := five_cells SB2; obtain ⟨k0, k1, k2, k3, k4, l0, l1, l2, l3, l4⟩ := five_cells SB3; obtain ⟨m0, m1, m2, m3, _, _, _, _⟩ := SB7.four; obtain ⟨o0, o1, o2, o3, _, _, _, _⟩ := SB8.four; clear hE))
     all_goals go_wp2_with fail
     all_goals exact bodyPost_ret (v := .tuple #[.agg #[.bool s', .int .u64 (a' : Int), .int .u64 (b' : Int), .int .u64 (c' : Int), .int .u64 (d' : Int)], .agg #[.bool s2, .int .u64 (a2 : Int), .int .u64 (b2 : Int), .int .u64 (c2' : Int), .int .u64 (d2' : Int)], .bool true]) (by simp [results, Try.results76, go_sem, i0, i1, i2, i3, i4, k0, k1, k2, k3, k4]) rfl (divRet_yes hy0 hC hC2 (ext_five (ext_five F1 (by omega) _ _ _ _ _) (by omega) _ _ _ _ _))
set_option maxRecDepth 100000 in
set_option maxHeartbeats 8000000 in
theorem p_divMod_odd (t : Bool) (a b c d e f g h : Nat) (x y : Int) (w : World) (hx : IsW true a b c d x) (hy : IsW t e f g h y) (hy0 : y ≠ 0) (hz : x.natAbs % y.natAbs ≠ 0) :
   Calls Try.prog 76 #[.agg #[.bool true, .int .u64 (a : Int), .int .u64 (b : Int), .int .u64 (c : Int), .int .u64 (d : Int)], .agg #[.bool t, .int .u64 (e : Int), .int .u64 (f : Int), .int .u64 (g : Int), .int .u64 (h : Int)]] w (DivRet x y w) := by
 obtain ⟨W, hW, B0, B1, B2, B3, E0⟩ := four_boxes w true t a b c d e f g h
 have HW := hide hW
 have hz0 := hz
 clear hz
 obtain ⟨n, hn⟩ : ∃ n, x.natAbs = n := ⟨_, rfl⟩
 obtain ⟨m, hm⟩ : ∃ m, y.natAbs = m := ⟨_, rfl⟩
 have MX : Hid (mag4 a b c d = n) := by rw [← hn]; exact hx.abs
 have MY : Hid (mag4 e f g h = m) := by rw [← hm]; exact hy.abs
 have hm0 : 0 < m := by omega
 have wx := hx.w64
 have wy := hy.w64
 obtain ⟨u, hu⟩ : ∃ u, (true != t) = u := ⟨_, rfl⟩
 have hnb := neqB true t u hu
 have HDS := hide (div_signs true t n m x y (by have := hx.2.2.2.2; rw [MX.out] at this; exact this) (by have := hy.2.2.2.2; rw [MY.out] at this; exact this) hm0)
 have hqy := eql0 23 Try.underlying23 e f g h true (by rw [decide_eq_true_iff, MY.out]; omega)
 have HUU := hide hu
 rw [hn, hm] at hz0
 have HNZ := hide hz0
 clear hz0 hW hn hm hx hy hu
 obtain ⟨c0, c1, c2, c3, c4, f0, f1, f2, f3, f4⟩ := five_cells B0
 obtain ⟨d0, d1, d2, d3, d4, g0, g1, g2, g3, g4⟩ := five_cells B1
 go_enter Try.func76, Try.ntmps76
 go_upto_region 1 with fail
 rw [HW.out]
 clear HW
 go_upto_if 29 with (go_at_call 88; refine (p_divWords a b c d e f g h n m MX.out MY.out _ wx wy hm0).mono ?_; rintro e' w' ⟨a7, b7, c7, d7, a8, b8, c8, d8, rfl, w7, w8, hq, hr, hE⟩; have HQ := hide hq; have HR := hide hr; have R0 := B0.ext hE; have R1 := B1.ext hE; have R2 := B2.ext hE; have R3 := B3.ext hE; obtain ⟨c0, c1, c2, c3, c4, f0, f1, f2, f3, f4⟩ := five_cells R0; obtain ⟨d0, d1, d2, d3, d4, g0, g1, g2, g3, g4⟩ := five_cells R1; have y0 := R0.lt; have y1 := R1.lt; have y2 := R2.lt; have y3 := R3.lt; have z0 : w.heap.size < w'.heap.size + 1 := (by omega); have z1 : w.heap.size + 1 < w'.heap.size + 1 := (by omega); have E1 := E0.trans hE; clear hE hq hr; have hqr := neq0 107 Try.underlying107 a8 b8 c8 d8 true (by rw [decide_eq_true_iff, HR.out]; exact HNZ.out))
 have HRL : Hid (n % m < m) := Nat.mod_lt n hm0
 have HFQ : Hid ((n / m + 1) % 115792089237316195423570985008687907853269984665640564039457584007913129639936 = n / m + 1) := by
   refine Nat.mod_eq_of_lt ?_
   have h1 := mag_lt (w64_four wx).1 (w64_four wx).2.1 (w64_four wx).2.2.1 (w64_four wx).2.2.2
   rw [MX.out] at h1
   exact quot_fits n m hm0 HNZ.out h1
 have HOne : Hid (mag4 1 0 0 0 = 1) := by simp [Hid, mag4, val]
 have wone : W64 [1, 0, 0, 0] := by intro x hx; simp at hx; omega
 have hadd1 := fun W => p_addWords a7 b7 c7 d7 1 0 0 0 (n / m) 1 HQ.out HOne.out W w7 wone
 have HADD := hide hadd1
 clear hadd1
 go_cut [] (fun wx => ∃ a9 b9 c9 d9 a5 b5 c5 d5 : Nat, W64 [a9, b9, c9, d9] ∧ W64 [a5, b5, c5, d5] ∧ Hid (mag4 a9 b9 c9 d9 = n / m + 1) ∧ Hid (mag4 a5 b5 c5 d5 = m - n % m) ∧ Arr wx w'.heap.size 107 [a9, b9, c9, d9] ∧ Arr wx (w'.heap.size + 1) 107 [a5, b5, c5, d5] ∧ Box wx w.heap.size true a b c d ∧ Box wx (w.heap.size + 1) t e f g h ∧ Box wx (w.heap.size + 1 + 1) false 0 0 0 0 ∧ Box wx (w.heap.size + 1 + 1 + 1) false 0 0 0 0 ∧ Ext w wx)
 case first =>
     have KK := two_blocks w' (.cells #[.int .u64 (a7 : Int), .int .u64 (b7 : Int), .int .u64 (c7 : Int), .int .u64 (d7 : Int)] 107) (.cells #[.int .u64 (a8 : Int), .int .u64 (b8 : Int), .int .u64 (c8 : Int), .int .u64 (d8 : Int)] 107)
     have KE := (ext_alloc w' (.cells #[.int .u64 (a7 : Int), .int .u64 (b7 : Int), .int .u64 (c7 : Int), .int .u64 (d7 : Int)] 107)).trans (ext_alloc _ (.cells #[.int .u64 (a8 : Int), .int .u64 (b8 : Int), .int .u64 (c8 : Int), .int .u64 (d8 : Int)] 107))
     have P7 : Arr ((w'.alloc (.cells #[.int .u64 (a7 : Int), .int .u64 (b7 : Int), .int .u64 (c7 : Int), .int .u64 (d7 : Int)] 107)).alloc (.cells #[.int .u64 (a8 : Int), .int .u64 (b8 : Int), .int .u64 (c8 : Int), .int .u64 (d8 : Int)] 107)) w'.heap.size 107 [a7, b7, c7, d7] := KK.1
     have P8 : Arr ((w'.alloc (.cells #[.int .u64 (a7 : Int), .int .u64 (b7 : Int), .int .u64 (c7 : Int), .int .u64 (d7 : Int)] 107)).alloc (.cells #[.int .u64 (a8 : Int), .int .u64 (b8 : Int), .int .u64 (c8 : Int), .int .u64 (d8 : Int)] 107)) (w'.heap.size + 1) 107 [a8, b8, c8, d8] := KK.2
     have P0 := R0.ext KE
     have P1 := R1.ext KE
     have P2 := R2.ext KE
     have P3 := R3.ext KE
     have PE := E1.trans KE
     clear KK
     go_wp2_with (first
       | (go_at_call 86; refine (HADD.out _).mono ?_; rintro e' w5 ⟨a9, b9, c9, d9, rfl, w9, hq9, hE⟩; rw [HFQ.out] at hq9; have HQ9 := hide hq9; have S7 := P7.ext hE; have S8 := P8.ext hE; have S0 := P0.ext hE; have S1 := P1.ext hE; have S2 := P2.ext hE; have S3 := P3.ext hE; have SE := PE.trans hE; obtain ⟨m0, m1, m2, m3, n0, n1, n2, n3⟩ := S7.four; obtain ⟨o0, o1, o2, o3, p0, p1, p2, p3⟩ := S8.four; obtain ⟨d0, d1, d2, d3, d4, g0, g1, g2, g3, g4⟩ := five_cells S1; clear hE hq9)
       | (go_at_call 87; refine (p_subWords e f g h a8 b8 c8 d8 m (n % m) MY.out HR.out _ wy w8 (Nat.le_of_lt HRL.out)).mono ?_; rintro e' w6 ⟨a5, b5, c5, d5, rfl, w5', hr5, hE⟩; have HR5 := hide hr5; have T7 := ((((S7.set 0 a9).set 1 b9).set 2 c9).set 3 d9).ext hE; have T8 := ((((S8.far (b := w'.heap.size) (by omega) 0 (.int .u64 (a9 : Int))).far (b := w'.heap.size) (by omega) 1 (.int .u64 (b9 : Int))).far (b := w'.heap.size) (by omega) 2 (.int .u64 (c9 : Int))).far (b := w'.heap.size) (by omega) 3 (.int .u64 (d9 : Int))).ext hE; have T0 := (S0.far4 (b' := w'.heap.size) (by omega) (.int .u64 (a9 : Int)) (.int .u64 (b9 : Int)) (.int .u64 (c9 : Int)) (.int .u64 (d9 : Int))).ext hE; have T1 := (S1.far4 (b' := w'.heap.size) (by omega) (.int .u64 (a9 : Int)) (.int .u64 (b9 : Int)) (.int .u64 (c9 : Int)) (.int .u64 (d9 : Int))).ext hE; have T2 := (S2.far4 (b' := w'.heap.size) (by omega) (.int .u64 (a9 : Int)) (.int .u64 (b9 : Int)) (.int .u64 (c9 : Int)) (.int .u64 (d9 : Int))).ext hE; have T3 := (S3.far4 (b' := w'.heap.size) (by omega) (.int .u64 (a9 : Int)) (.int .u64 (b9 : Int)) (.int .u64 (c9 : Int)) (.int .u64 (d9 : Int))).ext hE; have TE := (ext_four SE (b := w'.heap.size) (by omega) (.int .u64 (a9 : Int)) (.int .u64 (b9 : Int)) (.int .u64 (c9 : Int)) (.int .u64 (d9 : Int))).trans hE; obtain ⟨o0, o1, o2, o3, p0, p1, p2, p3⟩ := T8.four; clear hE hr5))
     all_goals go_meet
     all_goals exact ⟨a9, b9, c9, d9, a5, b5, c5, d5, w9, w5', HQ9, HR5, (((T7.far (by omega) _ _).far (by omega) _ _).far (by omega) _ _).far (by omega) _ _, (((T8.set 0 a5).set 1 b5).set 2 c5).set 3 d5, T0.far4 (by omega) _ _ _ _, T1.far4 (by omega) _ _ _ _, T2.far4 (by omega) _ _ _ _, T3.far4 (by omega) _ _ _ _, ext_four TE (by omega) _ _ _ _⟩
 case rest =>
     obtain ⟨a9, b9, c9, d9, a5, b5, c5, d5, w9, w5', HQ9', HR5, hcut⟩ := hcut
     have HZQ : Hid ((if u then -((mag4 a9 b9 c9 d9 : Nat) : Int) else ((mag4 a9 b9 c9 d9 : Nat) : Int)) = x / y) := by rw [HQ9'.out, ← HUU.out]; exact (HDS.out.2 ⟨(by first | rfl | trivial), HNZ.out⟩).1.symm
     have HZR : Hid (((mag4 a5 b5 c5 d5 : Nat) : Int) = x % y) := by rw [HR5.out]; exact (HDS.out.2 ⟨(by first | rfl | trivial), HNZ.out⟩).2.symm
     clear B0 B1 B2 B3 E0 R0 R1 R2 R3 E1
     obtain ⟨Q7, Q8, B0, B1, B2, B3, E0⟩ := hcut
     obtain ⟨c0, c1, c2, c3, c4, f0, f1, f2, f3, f4⟩ := five_cells B0
     obtain ⟨d0, d1, d2, d3, d4, g0, g1, g2, g3, g4⟩ := five_cells B1
     obtain ⟨m0, m1, m2, m3, _, _, _, _⟩ := Q7.four
     obtain ⟨o0, o1, o2, o3, _, _, _, _⟩ := Q8.four
     go_wp2_with fail
     generalize w'.heap.size = gA at *
     have n02 : w.heap.size ≠ w.heap.size + 1 + 1 := by omega
     have n03 : w.heap.size ≠ w.heap.size + 1 + 1 + 1 := by omega
     have n12 : w.heap.size + 1 ≠ w.heap.size + 1 + 1 := by omega
     have n13 : w.heap.size + 1 ≠ w.heap.size + 1 + 1 + 1 := by omega
     have nA2 : gA ≠ w.heap.size + 1 + 1 := by omega
     have nA3 : gA ≠ w.heap.size + 1 + 1 + 1 := by omega
     have nB2 : gA + 1 ≠ w.heap.size + 1 + 1 := by omega
     have nB3 : gA + 1 ≠ w.heap.size + 1 + 1 + 1 := by omega
     go_region_held3 (fun w' => w'.cell? ⟨w.heap.size, 0, none⟩ = some (.bool true) ∧ w'.cell? ⟨w.heap.size + 1, 0, none⟩ = some (.bool t) ∧ w'.cell? ⟨gA, 0, none⟩ = some (.int .u64 (a9 : Int)) ∧ w'.cell? ⟨gA, 1, none⟩ = some (.int .u64 (b9 : Int)) ∧ w'.cell? ⟨gA, 2, none⟩ = some (.int .u64 (c9 : Int)) ∧ w'.cell? ⟨gA, 3, none⟩ = some (.int .u64 (d9 : Int)) ∧ w'.cell? ⟨gA + 1, 0, none⟩ = some (.int .u64 (a5 : Int)) ∧ w'.cell? ⟨gA + 1, 1, none⟩ = some (.int .u64 (b5 : Int)) ∧ w'.cell? ⟨gA + 1, 2, none⟩ = some (.int .u64 (c5 : Int)) ∧ w'.cell? ⟨gA + 1, 3, none⟩ = some (.int .u64 (d5 : Int))) (first | (with_reducible exact ⟨c0, d0, m0, m1, m2, m3, o0, o1, o2, o3⟩) | (with_reducible exact ⟨(cell_far5 _ n02).trans c0, (cell_far5 _ n12).trans d0, (cell_far5 _ nA2).trans m0, (cell_far5 _ nA2).trans m1, (cell_far5 _ nA2).trans m2, (cell_far5 _ nA2).trans m3, (cell_far5 _ nB2).trans o0, (cell_far5 _ nB2).trans o1, (cell_far5 _ nB2).trans o2, (cell_far5 _ nB2).trans o3⟩) | (with_reducible exact ⟨(cell_far5 _ n03).trans c0, (cell_far5 _ n13).trans d0, (cell_far5 _ nA3).trans m0, (cell_far5 _ nA3).trans m1, (cell_far5 _ nA3).trans m2, (cell_far5 _ nA3).trans m3, (cell_far5 _ nB3).trans o0, (cell_far5 _ nB3).trans o1, (cell_far5 _ nB3).trans o2, (cell_far5 _ nB3).trans o3⟩) | (with_reducible exact ⟨(cell_far5 _ n03).trans ((cell_far5 _ n02).trans c0), (cell_far5 _ n13).trans ((cell_far5 _ n12).trans d0), (cell_far5 _ nA3).trans ((cell_far5 _ nA2).trans m0), (cell_far5 _ nA3).trans ((cell_far5 _ nA2).trans m1), (cell_far5 _ nA3).trans ((cell_far5 _ nA2).trans m2), (cell_far5 _ nA3).trans ((cell_far5 _ nA2).trans m3), (cell_far5 _ nB3).trans ((cell_far5 _ nB2).trans o0), (cell_far5 _ nB3).trans ((cell_far5 _ nB2).trans o1), (cell_far5 _ nB3).trans ((cell_far5 _ nB2).trans o2), (cell_far5 _ nB3).trans ((cell_far5 _ nB2).trans o3)⟩) | (with_reducible exact ⟨(cell_far5 _ n02).trans ((cell_far5 _ n03).trans c0), (cell_far5 _ n12).trans ((cell_far5 _ n13).trans d0), (cell_far5 _ nA2).trans ((cell_far5 _ nA3).trans m0), (cell_far5 _ nA2).trans ((cell_far5 _ nA3).trans m1), (cell_far5 _ nA2).trans ((cell_far5 _ nA3).trans m2), (cell_far5 _ nA2).trans ((cell_far5 _ nA3).trans m3), (cell_far5 _ nB2).trans ((cell_far5 _ nB3).trans o0), (cell_far5 _ nB2).trans ((cell_far5 _ nB3).trans o1), (cell_far5 _ nB2).trans ((cell_far5 _ nB3).trans o2), (cell_far5 _ nB2).trans ((cell_far5 _ nB3).trans o3)⟩) | go_keep) (first
       | (go_at_call_of 78 (Value.bool u); refine (p_signed u a9 b9 c9 d9 _ (w64_four w9).1 (w64_four w9).2.1 (w64_four w9).2.2.1 (w64_four w9).2.2.2).mono ?_; rintro e' w7 ⟨s', a', b', c', d', rfl, hC, hE⟩; rw [HZQ.out] at hC; have SA0 : Box w7 w.heap.size true a b c d := (by first | exact SB0.ext hE | exact B0.drew.ext hE); have SA1 : Box w7 (w.heap.size + 1) t e f g h := (by first | exact SB1.ext hE | exact B1.drew.ext hE); have SA2 : Box w7 (w.heap.size + 1 + 1) false 0 0 0 0 := (by first | exact SB2.ext hE | exact B2.drew.ext hE); have SA3 : Box w7 (w.heap.size + 1 + 1 + 1) false 0 0 0 0 := (by first | exact SB3.ext hE | exact B3.drew.ext hE); have SA7 : Arr w7 gA 107 [a9, b9, c9, d9] := (by first | exact SB7.ext hE | exact Q7.drew.ext hE); have SA8 : Arr w7 (gA + 1) 107 [a5, b5, c5, d5] := (by first | exact SB8.ext hE | exact Q8.drew.ext hE); have SAE : Ext w w7 := (by first | exact SBE.trans hE | exact (E0.trans (ext_drew _)).trans hE); have F1 := SAE; obtain ⟨c0, c1, c2, c3, c4, f0, f1, f2, f3, f4⟩ := five_cells SA0; obtain ⟨d0, d1, d2, d3, d4, g0, g1, g2, g3, g4⟩ := five_cells SA1; obtain ⟨i0, i1, i2, i3, i4, j0, j1, j2, j3, j4⟩ := five_cells SA2; obtain ⟨k0, k1, k2, k3, k4, l0, l1, l2, l3, l4⟩ := five_cells SA3; obtain ⟨m0, m1, m2, m3, _, _, _, _⟩ := SA7.four; obtain ⟨o0, o1, o2, o3, _, _, _, _⟩ := SA8.four; clear hE)
       | (go_at_call_of 78 (Value.bool false); refine (p_signed false a5 b5 c5 d5 _ (w64_four w5').1 (w64_four w5').2.1 (w64_four w5').2.2.1 (w64_four w5').2.2.2).mono ?_; rintro e' w8 ⟨s2, a2, b2, c2', d2', rfl, hC2, hE⟩; simp only [Bool.false_eq_true, if_false] at hC2; rw [HZR.out] at hC2; have SB0 : Box w8 w.heap.size true a b c d := (by first | exact SA0.ext hE | exact B0.drew.ext hE); have SB1 : Box w8 (w.heap.size + 1) t e f g h := (by first | exact SA1.ext hE | exact B1.drew.ext hE); have SB2 : Box w8 (w.heap.size + 1 + 1) false 0 0 0 0 := (by first | exact SA2.ext hE | exact B2.drew.ext hE); have SB3 : Box w8 (w.heap.size + 1 + 1 + 1) false 0 0 0 0 := (by first | exact SA3.ext hE | exact B3.drew.ext hE); have SB7 : Arr w8 gA 107 [a9, b9, c9, d9] := (by first | exact SA7.ext hE | exact Q7.drew.ext hE); have SB8 : Arr w8 (gA + 1) 107 [a5, b5, c5, d5] := (by first | exact SA8.ext hE | exact Q8.drew.ext hE); have SBE : Ext w w8 := (by first | exact SAE.trans hE | exact (E0.trans (ext_drew _)).trans hE); have F1 := SBE; obtain ⟨c0, c1, c2, c3, c4, f0, f1, f2, f3, f4⟩ := five_cells SB0; obtain ⟨d0, d1, d2, d3, d4, g0, g1, g2, g3, g4⟩ := five_cells SB1; obtain ⟨i0, i1, i2, i3, i4, j0, j1, j2, j3, j4⟩ := five_cells SB2; obtain ⟨k0, k1, k2, k3, k4, l0, l1, l2, l3, l4⟩ := five_cells SB3; obtain ⟨m0, m1, m2, m3, _, _, _, _⟩ := SB7.four; obtain ⟨o0, o1, o2, o3, _, _, _, _⟩ := SB8.four; clear hE))
     all_goals go_wp2_with fail
     all_goals exact bodyPost_ret (v := .tuple #[.agg #[.bool s', .int .u64 (a' : Int), .int .u64 (b' : Int), .int .u64 (c' : Int), .int .u64 (d' : Int)], .agg #[.bool s2, .int .u64 (a2 : Int), .int .u64 (b2 : Int), .int .u64 (c2' : Int), .int .u64 (d2' : Int)], .bool true]) (by simp [results, Try.results76, go_sem, i0, i1, i2, i3, i4, k0, k1, k2, k3, k4]) rfl (divRet_yes hy0 hC hC2 (ext_five (ext_five F1 (by omega) _ _ _ _ _) (by omega) _ _ _ _ _))
theorem p_divMod (s t : Bool) (a b c d e f g h : Nat) (x y : Int) (w : World) (hx : IsW s a b c d x) (hy : IsW t e f g h y) :
   Calls Try.prog 76 #[.agg #[.bool s, .int .u64 (a : Int), .int .u64 (b : Int), .int .u64 (c : Int), .int .u64 (d : Int)], .agg #[.bool t, .int .u64 (e : Int), .int .u64 (f : Int), .int .u64 (g : Int), .int .u64 (h : Int)]] w (DivRet x y w) := by
 by_cases hy0 : y = 0
 · exact p_divMod_no s t a b c d e f g h x y w hy hy0
 · cases s
   · exact p_divMod_pos t a b c d e f g h x y w hx hy hy0
   · by_cases hz : x.natAbs % y.natAbs = 0
     · exact p_divMod_even t a b c d e f g h x y w hx hy hy0 hz
     · exact p_divMod_odd t a b c d e f g h x y w hx hy hy0 hz
end
section
open Go Go.RowKit
theorem le_drew {n : Nat} {w : World} (h : n ≤ w.heap.size) : n ≤ w.drew.heap.size := h
theorem abs_of {s : Bool} {a b c d : Nat} {x : Int} (h : IsC s a b c d x) : mag4 a b c d = x.natAbs ∧ x = if s then -(x.natAbs : Int) else (x.natAbs : Int) := by
 obtain ⟨⟨h1, h2, h3, h4, h5⟩, _⟩ := h
 have e : mag4 a b c d = x.natAbs := by cases s <;> simp at h5 <;> omega
 exact ⟨e, by rw [← e]; exact h5⟩
set_option maxRecDepth 100000 in
set_option maxHeartbeats 16000000 in
theorem ref_wmul (s t : Bool) (a b c d e f g h : Nat) (x y : Int) (w : World) (hx : IsW s a b c d x) (hy : IsW t e f g h y) :
   Calls Try.prog 72 #[.agg #[.bool s, .int .u64 (a : Int), .int .u64 (b : Int), .int .u64 (c : Int), .int .u64 (d : Int)], .agg #[.bool t, .int .u64 (e : Int), .int .u64 (f : Int), .int .u64 (g : Int), .int .u64 (h : Int)]] w (WideRet (x * y) w) := by
 obtain ⟨W, hW⟩ : ∃ W, W = (((w.alloc (.cells #[.bool s, .int .u64 (a : Int), .int .u64 (b : Int), .int .u64 (c : Int), .int .u64 (d : Int)] 25)).alloc (.cells #[.bool t, .int .u64 (e : Int), .int .u64 (f : Int), .int .u64 (g : Int), .int .u64 (h : Int)] 25)).alloc (.cells #[.bool false, .int .u64 0, .int .u64 0, .int .u64 0, .int .u64 0] 25)) := ⟨_, rfl⟩
 have H3 := three_boxes w (.cells #[.bool s, .int .u64 (a : Int), .int .u64 (b : Int), .int .u64 (c : Int), .int .u64 (d : Int)] 25) (.cells #[.bool t, .int .u64 (e : Int), .int .u64 (f : Int), .int .u64 (g : Int), .int .u64 (h : Int)] 25) (.cells #[.bool false, .int .u64 0, .int .u64 0, .int .u64 0, .int .u64 0] 25)
 rw [← hW] at H3
 have B0 : Box W w.heap.size s a b c d := H3.1
 have B1 : Box W (w.heap.size + 1) t e f g h := H3.2.1
 have B2 : Box W (w.heap.size + 1 + 1) false 0 0 0 0 := H3.2.2
 have E0 : Ext w W := by rw [hW]; exact ((ext_alloc _ _).trans (ext_alloc _ _)).trans (ext_alloc _ _)
 have HW := hide hW
 clear hW H3
 go_enter Try.func72, Try.ntmps72
 go_upto_region 1 with fail
 rw [← HW.out]
 clear HW
 go_cut [] (fun wx => Two w x y wx)
 case first =>
   obtain ⟨c0, c1, c2, c3, c4, f0, f1, f2, f3, f4⟩ := five_cells B0
   obtain ⟨d0, d1, d2, d3, d4, g0, g1, g2, g3, g4⟩ := five_cells B1
   go_region_with (first
     | (go_at_call 29; refine (ref_clean _ _ _ _ _ _ _ (by assumption)).mono ?_; rintro e' w' ⟨s', a', b', c', d', rfl, hC, hE⟩; have R0 := (by first | assumption | exact B0.drew : Box _ w.heap.size s a b c d).ext hE; have R1 := (by first | assumption | exact B1.drew : Box _ (w.heap.size + 1) t e f g h).ext hE; have R2 := (by first | assumption | exact B2.drew : Box _ (w.heap.size + 1 + 1) false 0 0 0 0).ext hE; obtain ⟨c0, c1, c2, c3, c4, f0, f1, f2, f3, f4⟩ := five_cells R0; obtain ⟨d0, d1, d2, d3, d4, g0, g1, g2, g3, g4⟩ := five_cells R1; have E1 := (by first | assumption | exact E0.trans (ext_drew _) : Ext w _).trans hE))
   all_goals go_wp2_with fail
   all_goals go_meet
   all_goals exact ⟨_, _, _, _, _, _, _, _, _, _, ‹IsC _ _ _ _ _ x›, ‹IsC _ _ _ _ _ y›, (R0.put).far (by omega) _ _ _ _ _, (R1.far (by omega) _ _ _ _ _).put, (R2.far (by omega) _ _ _ _ _).far (by omega) _ _ _ _ _, ext_five (ext_five E1 (Nat.le_refl _) _ _ _ _ _) (by omega) _ _ _ _ _⟩
 case rest =>
   clear B0 B1 B2 E0 hx hy
   obtain ⟨s, a, b, c, d, t, e, f, g, h, hx, hy, B0, B1, B2, E0⟩ := hcut
   obtain ⟨n, hn⟩ : ∃ n, x.natAbs = n := ⟨_, rfl⟩
   obtain ⟨m, hm⟩ : ∃ m, y.natAbs = m := ⟨_, rfl⟩
   obtain ⟨mx, sx⟩ := abs_of hx
   obtain ⟨my, sy⟩ := abs_of hy
   rw [hn] at mx sx
   rw [hm] at my sy
   obtain ⟨u, hu⟩ : ∃ u, (s != t) = u := ⟨_, rfl⟩
   have SZ : Hid ((if u then -((n * m : Nat) : Int) else ((n * m : Nat) : Int)) = x * y) := by rw [← hu]; exact (mul_abs s t n m x y sx sy).1
   have hnb := neqB s t u hu
   have kA : Hid (∀ w', w.heap.size ≤ w'.heap.size → Calls Try.prog 30 #[.agg #[.bool s, .int .u64 (a : Int), .int .u64 (b : Int), .int .u64 (c : Int), .int .u64 (d : Int)]] w' (NewWords w.heap.size n w')) := fun w' hw' => by
     obtain ⟨ha, hb, hc, hd, _⟩ := hx.1
     rw [← mx]; exact of_any w.heap.size s a b c d w' hw' ha hb hc hd
   have kB : Hid (∀ w', w.heap.size ≤ w'.heap.size → Calls Try.prog 30 #[.agg #[.bool t, .int .u64 (e : Int), .int .u64 (f : Int), .int .u64 (g : Int), .int .u64 (h : Int)]] w' (NewWords w.heap.size m w')) := fun w' hw' => by
     obtain ⟨ha, hb, hc, hd, _⟩ := hy.1
     rw [← my]; exact of_any w.heap.size t e f g h w' hw' ha hb hc hd
   have L6 : Hid ((limbs n).length ≤ 4) := limbs_len_le.2 (by rw [← mx]; exact mag_lt hx.1.1 hx.1.2.1 hx.1.2.2.1 hx.1.2.2.2.1)
   have L7 : Hid ((limbs m).length ≤ 4) := limbs_len_le.2 (by rw [← my]; exact mag_lt hy.1.1 hy.1.2.1 hy.1.2.2.1 hy.1.2.2.2.1)
   clear hn hm mx my sx sy hu hx hy
   have s0 := E0.size
   obtain ⟨c0, c1, c2, c3, c4, _⟩ := five_cells B0
   obtain ⟨d0, d1, d2, d3, d4, _⟩ := five_cells B1
   obtain ⟨i0, i1, i2, i3, i4, j0, j1, j2, j3, j4⟩ := five_cells B2
   have n02 : w.heap.size ≠ w.heap.size + 1 + 1 := by omega
   have n12 : w.heap.size + 1 ≠ w.heap.size + 1 + 1 := by omega
   go_upto_region 2 with fail
   go_region_held3 (fun w' => w'.cell? ⟨w.heap.size, 0, none⟩ = some (.bool s) ∧ w'.cell? ⟨w.heap.size, 1, none⟩ = some (.int .u64 (a : Int)) ∧ w'.cell? ⟨w.heap.size, 2, none⟩ = some (.int .u64 (b : Int)) ∧ w'.cell? ⟨w.heap.size, 3, none⟩ = some (.int .u64 (c : Int)) ∧ w'.cell? ⟨w.heap.size, 4, none⟩ = some (.int .u64 (d : Int)) ∧ w'.cell? ⟨w.heap.size + 1, 0, none⟩ = some (.bool t) ∧ w'.cell? ⟨w.heap.size + 1, 1, none⟩ = some (.int .u64 (e : Int)) ∧ w'.cell? ⟨w.heap.size + 1, 2, none⟩ = some (.int .u64 (f : Int)) ∧ w'.cell? ⟨w.heap.size + 1, 3, none⟩ = some (.int .u64 (g : Int)) ∧ w'.cell? ⟨w.heap.size + 1, 4, none⟩ = some (.int .u64 (h : Int))) (first | (with_reducible exact ⟨c0, c1, c2, c3, c4, d0, d1, d2, d3, d4⟩) | (with_reducible exact ⟨(cell_far5 _ n02).trans c0, (cell_far5 _ n02).trans c1, (cell_far5 _ n02).trans c2, (cell_far5 _ n02).trans c3, (cell_far5 _ n02).trans c4, (cell_far5 _ n12).trans d0, (cell_far5 _ n12).trans d1, (cell_far5 _ n12).trans d2, (cell_far5 _ n12).trans d3, (cell_far5 _ n12).trans d4⟩) | go_keep) (first
     | (go_at_call 30; (with_reducible refine (kA.out _ (by first | exact s0 | exact le_drew s0)).mono ?_); rintro e' y6 ⟨v6, rfl, hv6, hE⟩; (try (have hv7 := hv7.ext hE)); have B0 : Box y6 w.heap.size s a b c d := (by first | exact B0.ext hE | exact B0.drew.ext hE); have B1 : Box y6 (w.heap.size + 1) t e f g h := (by first | exact B1.ext hE | exact B1.drew.ext hE); have B2 : Box y6 (w.heap.size + 1 + 1) false 0 0 0 0 := (by first | exact B2.ext hE | exact B2.drew.ext hE); have E0 : Ext w y6 := (by first | exact E0.trans hE | exact (E0.trans (ext_drew _)).trans hE); have s0 := E0.size; obtain ⟨c0, c1, c2, c3, c4, _⟩ := five_cells B0; obtain ⟨d0, d1, d2, d3, d4, _⟩ := five_cells B1; obtain ⟨i0, i1, i2, i3, i4, j0, j1, j2, j3, j4⟩ := five_cells B2; clear hE)
     | (go_at_call 30; (with_reducible refine (kB.out _ (by first | exact s0 | exact le_drew s0)).mono ?_); rintro e' y7 ⟨v7, rfl, hv7, hE⟩; (try (have hv6 := hv6.ext hE)); have B0 : Box y7 w.heap.size s a b c d := (by first | exact B0.ext hE | exact B0.drew.ext hE); have B1 : Box y7 (w.heap.size + 1) t e f g h := (by first | exact B1.ext hE | exact B1.drew.ext hE); have B2 : Box y7 (w.heap.size + 1 + 1) false 0 0 0 0 := (by first | exact B2.ext hE | exact B2.drew.ext hE); have E0 : Ext w y7 := (by first | exact E0.trans hE | exact (E0.trans (ext_drew _)).trans hE); have s0 := E0.size; obtain ⟨c0, c1, c2, c3, c4, _⟩ := five_cells B0; obtain ⟨d0, d1, d2, d3, d4, _⟩ := five_cells B1; obtain ⟨i0, i1, i2, i3, i4, j0, j1, j2, j3, j4⟩ := five_cells B2; clear hE)
     | (go_at_call 85; refine (ref_mul w.heap.size _ _ _ _ _ _ _ hv6 hv7 s0 (Nat.le_trans L6.out (by omega)) (Nat.le_trans L7.out (by omega))).mono ?_; rintro e' y8 ⟨v8, rfl, hv8, hE⟩; have B0 := B0.ext hE; have B1 := B1.ext hE; have B2 := B2.ext hE; have E0 := E0.trans hE; have s0 := E0.size; obtain ⟨c0, c1, c2, c3, c4, _⟩ := five_cells B0; obtain ⟨d0, d1, d2, d3, d4, _⟩ := five_cells B1; obtain ⟨i0, i1, i2, i3, i4, j0, j1, j2, j3, j4⟩ := five_cells B2; clear hE)
     | (go_at_call 31; refine (ref_wide _ u _ _ _ hv8).mono ?_; rintro e' y9 ⟨s', a', b', c', d', o', rfl, ho, hC, hE⟩; rw [val_limbs, SZ.out] at ho hC; have Ho := hide ho; clear ho; have B0 := B0.ext hE; have B1 := B1.ext hE; have B2 := B2.ext hE; have E0 := E0.trans hE; have s0 := E0.size; obtain ⟨c0, c1, c2, c3, c4, _⟩ := five_cells B0; obtain ⟨d0, d1, d2, d3, d4, _⟩ := five_cells B1; obtain ⟨i0, i1, i2, i3, i4, j0, j1, j2, j3, j4⟩ := five_cells B2; clear hE))
   all_goals go_wp2_with fail
   all_goals exact bodyPost_ret (v := .tuple #[.agg #[.bool s', .int .u64 (a' : Int), .int .u64 (b' : Int), .int .u64 (c' : Int), .int .u64 (d' : Int)], .bool o']) (by simp [results, Try.results72, go_sem, i0, i1, i2, i3, i4]) rfl ⟨s', a', b', c', d', o', rfl, Ho.out, hC, ext_five E0 (by omega) _ _ _ _ _⟩
theorem ref_divmod (B C D : Nat) (u v : Value) (n m : Nat) (w : World) (h : Words C w u (limbs n)) (k : Words D w v (limbs m)) (hB : B ≤ w.heap.size) (hn : (limbs n).length ≤ 900) (hm : (limbs m).length ≤ 900) (h0 : 0 < m) :
   Calls Try.prog 46 #[u, v] w (DivWords B n m w) := by
 by_cases h1 : m < 18446744073709551616
 · rw [limbs_one m h0 h1] at k
   exact ref_div1 B C D u v n m w h k hB (by omega) h0
 · refine ref_div2 B C D u v n m w h k hB hn hm ?_
   have h2 : ¬ (limbs m).length ≤ 1 := fun e => by have := limbs_len_le.1 e; omega
   omega
def WideYes (z : Int) (w : World) (e : Ending) (w' : World) : Prop := ∃ (s : Bool) (a b c d : Nat), e = .returned (.tuple #[.agg #[.bool s, .int .u64 (a : Int), .int .u64 (b : Int), .int .u64 (c : Int), .int .u64 (d : Int)], .bool true]) ∧ IsC s a b c d z ∧ Ext w w'
theorem ref_wide_yes (C Q : Nat) (s : Bool) (v : Value) (z : Int) (w : World) (h : Words C w v (limbs Q)) (hf : Q < 115792089237316195423570985008687907853269984665640564039457584007913129639936) (hz : (if s then -(Q : Int) else (Q : Int)) = z) :
   Calls Try.prog 31 #[.bool s, v] w (WideYes z w) := by
 refine (ref_wide C s v _ w h).mono ?_
 rintro e w' ⟨s', a, b, c, d, o, rfl, ho, hC, hE⟩
 rw [val_limbs, hz] at ho hC
 have hn : z.natAbs = Q := by rw [← hz]; cases s <;> simp
 rw [hn, if_pos hf] at hC
 have : o = true := by rw [ho, decide_eq_true_iff, hn]; exact hf
 subst this
 exact ⟨s', a, b, c, d, rfl, hC, hE⟩
theorem upd_five (g : Nat) (w : World) (u0 u1 u2 u3 u4 : Value) : Upd g w (((((w.setCell ⟨g, 0, none⟩ u0).setCell ⟨g, 1, none⟩ u1).setCell ⟨g, 2, none⟩ u2).setCell ⟨g, 3, none⟩ u3).setCell ⟨g, 4, none⟩ u4) := (((((Upd.refl g w).set 0 u0).set 1 u1).set 2 u2).set 3 u3).set 4 u4
def Four (w : World) (x y : Int) (wx : World) : Prop := ∃ (s : Bool) (a b c d : Nat) (t : Bool) (e f g h : Nat), IsC s a b c d x ∧ IsC t e f g h y ∧ Box wx w.heap.size s a b c d ∧ Box wx (w.heap.size + 1) t e f g h ∧ Box wx (w.heap.size + 1 + 1) false 0 0 0 0 ∧ Box wx (w.heap.size + 1 + 1 + 1) false 0 0 0 0 ∧ Ext w wx
set_option maxRecDepth 100000 in
set_option maxHeartbeats 16000000 in
theorem ref_wdiv (s t : Bool) (a b c d e f g h : Nat) (x y : Int) (w : World) (hx : IsW s a b c d x) (hy : IsW t e f g h y) :
   Calls Try.prog 22 #[.agg #[.bool s, .int .u64 (a : Int), .int .u64 (b : Int), .int .u64 (c : Int), .int .u64 (d : Int)], .agg #[.bool t, .int .u64 (e : Int), .int .u64 (f : Int), .int .u64 (g : Int), .int .u64 (h : Int)]] w (DivRet x y w) := by
 obtain ⟨W, hW, B0, B1, B2, B3, E0⟩ := four_boxes w s t a b c d e f g h
 have HW := hide hW
 clear hW
 go_enter Try.func22, Try.ntmps22
 go_upto_region 1 with fail
 rw [HW.out]
 clear HW
 go_cut [] (fun wx => Four w x y wx)
 case first =>
   obtain ⟨c0, c1, c2, c3, c4, f0, f1, f2, f3, f4⟩ := five_cells B0
   obtain ⟨d0, d1, d2, d3, d4, g0, g1, g2, g3, g4⟩ := five_cells B1
   go_region_with (first
     | (go_at_call 29; refine (ref_clean _ _ _ _ _ _ _ (by assumption)).mono ?_; rintro e' w' ⟨s', a', b', c', d', rfl, hC, hE⟩; have R0 := (by first | assumption | exact B0.drew : Box _ w.heap.size s a b c d).ext hE; have R1 := (by first | assumption | exact B1.drew : Box _ (w.heap.size + 1) t e f g h).ext hE; have R2 := (by first | assumption | exact B2.drew : Box _ (w.heap.size + 1 + 1) false 0 0 0 0).ext hE; have R3 := (by first | assumption | exact B3.drew : Box _ (w.heap.size + 1 + 1 + 1) false 0 0 0 0).ext hE; obtain ⟨c0, c1, c2, c3, c4, f0, f1, f2, f3, f4⟩ := five_cells R0; obtain ⟨d0, d1, d2, d3, d4, g0, g1, g2, g3, g4⟩ := five_cells R1; have E1 := (by first | assumption | exact E0.trans (ext_drew _) : Ext w _).trans hE))
   all_goals go_wp2_with fail
   all_goals go_meet
   all_goals exact ⟨_, _, _, _, _, _, _, _, _, _, ‹IsC _ _ _ _ _ x›, ‹IsC _ _ _ _ _ y›, (R0.put).far (by omega) _ _ _ _ _, (R1.far (by omega) _ _ _ _ _).put, (R2.far (by omega) _ _ _ _ _).far (by omega) _ _ _ _ _, (R3.far (by omega) _ _ _ _ _).far (by omega) _ _ _ _ _, ext_five (ext_five E1 (Nat.le_refl _) _ _ _ _ _) (by omega) _ _ _ _ _⟩
 case rest =>
   clear B0 B1 B2 B3 E0 hx hy
   obtain ⟨s, a, b, c, d, t, e, f, g, h, hx, hy, B0, B1, B2, B3, E0⟩ := hcut
   by_cases hy0 : y = 0
   · have ks : Hid (∀ w', Calls Try.prog 45 #[.agg #[.bool t, .int .u64 (e : Int), .int .u64 (f : Int), .int .u64 (g : Int), .int .u64 (h : Int)]] w' (IntRet .i64 0 w')) := fun w' => by have := ref_sign _ _ _ _ _ _ w' hy.1; rw [hy0] at this; exact this
     have HY := hide hy0
     clear hx hy hy0 B0
     obtain ⟨d0, d1, d2, d3, d4, _⟩ := five_cells B1
     go_wp2_with (go_at_call 45; (with_reducible refine (ks.out _).mono ?_); rintro e' w2 ⟨rfl, hE⟩; have B2 := B2.ext hE; have B3 := B3.ext hE; have E0 := E0.trans hE; obtain ⟨i0, i1, i2, i3, i4, j0, j1, j2, j3, j4⟩ := five_cells B2; obtain ⟨k0, k1, k2, k3, k4, l0, l1, l2, l3, l4⟩ := five_cells B3; clear hE)
     all_goals exact bodyPost_ret (v := .tuple #[.agg #[.bool false, .int .u64 0, .int .u64 0, .int .u64 0, .int .u64 0], .agg #[.bool false, .int .u64 0, .int .u64 0, .int .u64 0, .int .u64 0], .bool false]) (by simp [results, Try.results22, go_sem, i0, i1, i2, i3, i4, k0, k1, k2, k3, k4]) rfl (divRet_no HY.out (ext_five (ext_five E0 (by omega) _ _ _ _ _) (by omega) _ _ _ _ _))
   · obtain ⟨n, hn⟩ : ∃ n, x.natAbs = n := ⟨_, rfl⟩
     obtain ⟨m, hm⟩ : ∃ m, y.natAbs = m := ⟨_, rfl⟩
     obtain ⟨mx, sx⟩ := abs_of hx
     obtain ⟨my, sy⟩ := abs_of hy
     rw [hn] at mx sx
     rw [hm] at my sy
     have hm0 : 0 < m := by omega
     obtain ⟨u, hu⟩ : ∃ u, (s != t) = u := ⟨_, rfl⟩
     have hds := div_signs s t n m x y sx sy hm0
     rw [hu] at hds
     have HDS := hide hds
     have hnb := neqB s t u hu
     have kA : Hid (∀ w', w.heap.size ≤ w'.heap.size → Calls Try.prog 30 #[.agg #[.bool s, .int .u64 (a : Int), .int .u64 (b : Int), .int .u64 (c : Int), .int .u64 (d : Int)]] w' (NewWords w.heap.size n w')) := fun w' hw' => by
       obtain ⟨ha, hb, hc, hd, _⟩ := hx.1
       rw [← mx]; exact of_any w.heap.size s a b c d w' hw' ha hb hc hd
     have kB : Hid (∀ w', w.heap.size ≤ w'.heap.size → Calls Try.prog 30 #[.agg #[.bool t, .int .u64 (e : Int), .int .u64 (f : Int), .int .u64 (g : Int), .int .u64 (h : Int)]] w' (NewWords w.heap.size m w')) := fun w' hw' => by
       obtain ⟨ha, hb, hc, hd, _⟩ := hy.1
       rw [← my]; exact of_any w.heap.size t e f g h w' hw' ha hb hc hd
     have FN : Hid (n < 115792089237316195423570985008687907853269984665640564039457584007913129639936) := by rw [← mx]; exact mag_lt hx.1.1 hx.1.2.1 hx.1.2.2.1 hx.1.2.2.2.1
     have FM : Hid (m < 115792089237316195423570985008687907853269984665640564039457584007913129639936) := by rw [← my]; exact mag_lt hy.1.1 hy.1.2.1 hy.1.2.2.1 hy.1.2.2.2.1
     have L6 : Hid ((limbs n).length ≤ 4) := limbs_len_le.2 FN.out
     have L7 : Hid ((limbs m).length ≤ 4) := limbs_len_le.2 FM.out
     obtain ⟨sg, hsg⟩ : ∃ sg, y.sign = sg := ⟨_, rfl⟩
     have hsg0 : ¬ (sg = 0) := by rw [← hsg]; intro e; exact hy0 (Int.sign_eq_zero_iff_zero.1 e)
     have ks : Hid (∀ w', Calls Try.prog 45 #[.agg #[.bool t, .int .u64 (e : Int), .int .u64 (f : Int), .int .u64 (g : Int), .int .u64 (h : Int)]] w' (IntRet .i64 sg w')) := fun w' => by rw [← hsg]; exact ref_sign _ _ _ _ _ _ w' hy.1
     have HY := hide hy0
     clear hn hm mx my sx sy hu hx hy hds hsg hy0
     obtain ⟨c0, c1, c2, c3, c4, _⟩ := five_cells B0
     obtain ⟨d0, d1, d2, d3, d4, _⟩ := five_cells B1
     go_upto_region 4 with (go_at_call 45; (with_reducible refine (ks.out _).mono ?_); rintro e' w2 ⟨rfl, hE⟩; have B0 := B0.ext hE; have B1 := B1.ext hE; have B2 := B2.ext hE; have B3 := B3.ext hE; have E0 := E0.trans hE; obtain ⟨c0, c1, c2, c3, c4, _⟩ := five_cells B0; obtain ⟨d0, d1, d2, d3, d4, _⟩ := five_cells B1; clear hE)
     have s0 := E0.size
     go_region_held3 (fun w' => w'.cell? ⟨w.heap.size, 0, none⟩ = some (.bool s) ∧ w'.cell? ⟨w.heap.size, 1, none⟩ = some (.int .u64 (a : Int)) ∧ w'.cell? ⟨w.heap.size, 2, none⟩ = some (.int .u64 (b : Int)) ∧ w'.cell? ⟨w.heap.size, 3, none⟩ = some (.int .u64 (c : Int)) ∧ w'.cell? ⟨w.heap.size, 4, none⟩ = some (.int .u64 (d : Int)) ∧ w'.cell? ⟨w.heap.size + 1, 0, none⟩ = some (.bool t) ∧ w'.cell? ⟨w.heap.size + 1, 1, none⟩ = some (.int .u64 (e : Int)) ∧ w'.cell? ⟨w.heap.size + 1, 2, none⟩ = some (.int .u64 (f : Int)) ∧ w'.cell? ⟨w.heap.size + 1, 3, none⟩ = some (.int .u64 (g : Int)) ∧ w'.cell? ⟨w.heap.size + 1, 4, none⟩ = some (.int .u64 (h : Int))) (first | (with_reducible exact ⟨c0, c1, c2, c3, c4, d0, d1, d2, d3, d4⟩) | go_keep) (first
       | (go_at_call 30; (with_reducible refine (kA.out _ (by first | exact s0 | exact le_drew s0)).mono ?_); rintro e' y6 ⟨v6, rfl, hv6, hE⟩; (try (have hv7 := hv7.ext hE)); have B0 : Box y6 w.heap.size s a b c d := (by first | exact B0.ext hE | exact B0.drew.ext hE); have B1 : Box y6 (w.heap.size + 1) t e f g h := (by first | exact B1.ext hE | exact B1.drew.ext hE); have B2 : Box y6 (w.heap.size + 1 + 1) false 0 0 0 0 := (by first | exact B2.ext hE | exact B2.drew.ext hE); have B3 : Box y6 (w.heap.size + 1 + 1 + 1) false 0 0 0 0 := (by first | exact B3.ext hE | exact B3.drew.ext hE); have E0 : Ext w y6 := (by first | exact E0.trans hE | exact (E0.trans (ext_drew _)).trans hE); have s0 := E0.size; obtain ⟨c0, c1, c2, c3, c4, _⟩ := five_cells B0; obtain ⟨d0, d1, d2, d3, d4, _⟩ := five_cells B1; clear hE)
       | (go_at_call 30; (with_reducible refine (kB.out _ (by first | exact s0 | exact le_drew s0)).mono ?_); rintro e' y7 ⟨v7, rfl, hv7, hE⟩; (try (have hv6 := hv6.ext hE)); have B0 : Box y7 w.heap.size s a b c d := (by first | exact B0.ext hE | exact B0.drew.ext hE); have B1 : Box y7 (w.heap.size + 1) t e f g h := (by first | exact B1.ext hE | exact B1.drew.ext hE); have B2 : Box y7 (w.heap.size + 1 + 1) false 0 0 0 0 := (by first | exact B2.ext hE | exact B2.drew.ext hE); have B3 : Box y7 (w.heap.size + 1 + 1 + 1) false 0 0 0 0 := (by first | exact B3.ext hE | exact B3.drew.ext hE); have E0 : Ext w y7 := (by first | exact E0.trans hE | exact (E0.trans (ext_drew _)).trans hE); have s0 := E0.size; obtain ⟨c0, c1, c2, c3, c4, _⟩ := five_cells B0; obtain ⟨d0, d1, d2, d3, d4, _⟩ := five_cells B1; clear hE)
       | (go_at_call 46; have l3 := B3.lt; refine (ref_divmod _ _ _ _ _ _ _ _ hv6 hv7 (Nat.le_refl _) (Nat.le_trans L6.out (by omega)) (Nat.le_trans L7.out (by omega)) hm0).mono ?_; rintro e' y8 ⟨vq, vr, rfl, hvq, hvr, hE⟩; have B0 := B0.ext hE; have B1 := B1.ext hE; have B2 := B2.ext hE; have B3 := B3.ext hE; have E0 := E0.trans hE; have s0 := E0.size; obtain ⟨c0, c1, c2, c3, c4, _⟩ := five_cells B0; obtain ⟨d0, d1, d2, d3, d4, _⟩ := five_cells B1; clear hE))
     have fq : n / m < 115792089237316195423570985008687907853269984665640564039457584007913129639936 := Nat.lt_of_le_of_lt (Nat.div_le_self _ _) FN.out
     have fr : n % m < 115792089237316195423570985008687907853269984665640564039457584007913129639936 := Nat.lt_of_le_of_lt (Nat.mod_le _ _) FN.out
     obtain ⟨L, hL⟩ : ∃ L, (limbs (n % m)).length = L := ⟨_, rfl⟩
     obtain ⟨ar, cr, rfl, _, _, _⟩ := hvr.shape L hL
     have hLp := len_pos (n % m)
     rw [hL] at hLp
     clear hv6 hv7 kA hL
     cases s
     · have HZ := hide (HDS.out.1 (Or.inl rfl))
       have kq : Hid (∀ C' w', Words C' w' vq (limbs (n / m)) → Calls Try.prog 31 #[.bool u, vq] w' (WideYes (x / y) w')) := fun C' w' hw => ref_wide_yes C' _ u vq _ w' hw fq HZ.out.1.symm
       have kr : Hid (∀ C' w', Words C' w' (.slice ar L cr) (limbs (n % m)) → Calls Try.prog 31 #[.bool false, .slice ar L cr] w' (WideYes (x % y) w')) := fun C' w' hw => ref_wide_yes C' _ false _ _ w' hw fr HZ.out.2.symm
       clear hLp fq fr kB
       have n02 : w.heap.size + 1 + 1 ≠ w.heap.size := by omega
       have n12 : w.heap.size + 1 + 1 ≠ w.heap.size + 1 := by omega
       go_upto_region 10 with (go_at_call 31; (with_reducible refine (kq.out _ _ hvq).mono ?_); rintro e' y9 ⟨s7, a7, b7, c7, d7, rfl, C7, hE⟩; have B2 := B2.ext hE; have B3 := B3.ext hE; have E0 := E0.trans hE; have hvr := hvr.ext hE; obtain ⟨i0, i1, i2, i3, i4, j0, j1, j2, j3, j4⟩ := five_cells B2; clear hE)
       have K7 := hide C7
       have P2 := B2.put (t := s7) (a' := a7) (b' := b7) (c' := c7) (d' := d7)
       have P3 := B3.far (b' := w.heap.size + 1 + 1) (by omega) (.bool s7) (.int .u64 (a7 : Int)) (.int .u64 (b7 : Int)) (.int .u64 (c7 : Int)) (.int .u64 (d7 : Int))
       have P0 := ext_five E0 (b := w.heap.size + 1 + 1) (by omega) (.bool s7) (.int .u64 (a7 : Int)) (.int .u64 (b7 : Int)) (.int .u64 (c7 : Int)) (.int .u64 (d7 : Int))
       have hvr := hvr.upd (upd_five (w.heap.size + 1 + 1) y9 (.bool s7) (.int .u64 (a7 : Int)) (.int .u64 (b7 : Int)) (.int .u64 (c7 : Int)) (.int .u64 (d7 : Int))) (hvr.apart' (by omega))
       generalize ((((y9.setCell ⟨w.heap.size + 1 + 1, 0, none⟩ (.bool s7)).setCell ⟨w.heap.size + 1 + 1, 1, none⟩ (.int .u64 (a7 : Int))).setCell ⟨w.heap.size + 1 + 1, 2, none⟩ (.int .u64 (b7 : Int))).setCell ⟨w.heap.size + 1 + 1, 3, none⟩ (.int .u64 (c7 : Int))).setCell ⟨w.heap.size + 1 + 1, 4, none⟩ (.int .u64 (d7 : Int)) = Y at *
       clear B2 B3 E0 C7
       go_upto_region 11 with (go_at_call 31; (with_reducible refine (kr.out _ _ hvr).mono ?_); rintro e' y10 ⟨s8, a8, b8, c8, d8, rfl, C8, hE⟩; have P2 := P2.ext hE; have P3 := P3.ext hE; have P0 := P0.trans hE; obtain ⟨k0, k1, k2, k3, k4, l0, l1, l2, l3, l4⟩ := five_cells P3; clear hE)
       have K8 := hide C8
       have Q3 := P3.put (t := s8) (a' := a8) (b' := b8) (c' := c8) (d' := d8)
       have Q2 := P2.far (b' := w.heap.size + 1 + 1 + 1) (by omega) (.bool s8) (.int .u64 (a8 : Int)) (.int .u64 (b8 : Int)) (.int .u64 (c8 : Int)) (.int .u64 (d8 : Int))
       have Q0 := ext_five P0 (b := w.heap.size + 1 + 1 + 1) (by omega) (.bool s8) (.int .u64 (a8 : Int)) (.int .u64 (b8 : Int)) (.int .u64 (c8 : Int)) (.int .u64 (d8 : Int))
       generalize ((((y10.setCell ⟨w.heap.size + 1 + 1 + 1, 0, none⟩ (.bool s8)).setCell ⟨w.heap.size + 1 + 1 + 1, 1, none⟩ (.int .u64 (a8 : Int))).setCell ⟨w.heap.size + 1 + 1 + 1, 2, none⟩ (.int .u64 (b8 : Int))).setCell ⟨w.heap.size + 1 + 1 + 1, 3, none⟩ (.int .u64 (c8 : Int))).setCell ⟨w.heap.size + 1 + 1 + 1, 4, none⟩ (.int .u64 (d8 : Int)) = Y2 at *
       clear P2 P3 P0 C8
       obtain ⟨i0, i1, i2, i3, i4, j0, j1, j2, j3, j4⟩ := five_cells Q2
       obtain ⟨k0, k1, k2, k3, k4, l0, l1, l2, l3, l4⟩ := five_cells Q3
       go_region
       all_goals go_wp2_with fail
       all_goals exact bodyPost_ret (v := .tuple #[.agg #[.bool s7, .int .u64 (a7 : Int), .int .u64 (b7 : Int), .int .u64 (c7 : Int), .int .u64 (d7 : Int)], .agg #[.bool s8, .int .u64 (a8 : Int), .int .u64 (b8 : Int), .int .u64 (c8 : Int), .int .u64 (d8 : Int)], .bool true]) (by simp [results, Try.results22, go_sem, i0, i1, i2, i3, i4, k0, k1, k2, k3, k4]) rfl (divRet_yes HY.out K7.out K8.out ((ext_five (ext_five Q0 (by omega) _ _ _ _ _) (by omega) _ _ _ _ _).trans (ext_drew _)))
     · by_cases hz : n % m = 0
       · have HZ := hide (HDS.out.1 (Or.inr hz))
         have hL0 : L = 0 := by omega
         subst hL0
         have kq : Hid (∀ C' w', Words C' w' vq (limbs (n / m)) → Calls Try.prog 31 #[.bool u, vq] w' (WideYes (x / y) w')) := fun C' w' hw => ref_wide_yes C' _ u vq _ w' hw fq HZ.out.1.symm
         have kr : Hid (∀ C' w', Words C' w' (.slice ar 0 cr) (limbs (n % m)) → Calls Try.prog 31 #[.bool false, .slice ar 0 cr] w' (WideYes (x % y) w')) := fun C' w' hw => ref_wide_yes C' _ false _ _ w' hw fr HZ.out.2.symm
         clear hLp fq fr kB hz
         have n02 : w.heap.size + 1 + 1 ≠ w.heap.size := by omega
         have n12 : w.heap.size + 1 + 1 ≠ w.heap.size + 1 := by omega
         go_upto_region 10 with (go_at_call 31; (with_reducible refine (kq.out _ _ hvq).mono ?_); rintro e' y9 ⟨s7, a7, b7, c7, d7, rfl, C7, hE⟩; have B2 := B2.ext hE; have B3 := B3.ext hE; have E0 := E0.trans hE; have hvr := hvr.ext hE; obtain ⟨i0, i1, i2, i3, i4, j0, j1, j2, j3, j4⟩ := five_cells B2; clear hE)
         have K7 := hide C7
         have P2 := B2.put (t := s7) (a' := a7) (b' := b7) (c' := c7) (d' := d7)
         have P3 := B3.far (b' := w.heap.size + 1 + 1) (by omega) (.bool s7) (.int .u64 (a7 : Int)) (.int .u64 (b7 : Int)) (.int .u64 (c7 : Int)) (.int .u64 (d7 : Int))
         have P0 := ext_five E0 (b := w.heap.size + 1 + 1) (by omega) (.bool s7) (.int .u64 (a7 : Int)) (.int .u64 (b7 : Int)) (.int .u64 (c7 : Int)) (.int .u64 (d7 : Int))
         have hvr := hvr.upd (upd_five (w.heap.size + 1 + 1) y9 (.bool s7) (.int .u64 (a7 : Int)) (.int .u64 (b7 : Int)) (.int .u64 (c7 : Int)) (.int .u64 (d7 : Int))) (hvr.apart' (by omega))
         generalize ((((y9.setCell ⟨w.heap.size + 1 + 1, 0, none⟩ (.bool s7)).setCell ⟨w.heap.size + 1 + 1, 1, none⟩ (.int .u64 (a7 : Int))).setCell ⟨w.heap.size + 1 + 1, 2, none⟩ (.int .u64 (b7 : Int))).setCell ⟨w.heap.size + 1 + 1, 3, none⟩ (.int .u64 (c7 : Int))).setCell ⟨w.heap.size + 1 + 1, 4, none⟩ (.int .u64 (d7 : Int)) = Y at *
         clear B2 B3 E0 C7
         go_upto_region 11 with (go_at_call 31; (with_reducible refine (kr.out _ _ hvr).mono ?_); rintro e' y10 ⟨s8, a8, b8, c8, d8, rfl, C8, hE⟩; have P2 := P2.ext hE; have P3 := P3.ext hE; have P0 := P0.trans hE; obtain ⟨k0, k1, k2, k3, k4, l0, l1, l2, l3, l4⟩ := five_cells P3; clear hE)
         have K8 := hide C8
         have Q3 := P3.put (t := s8) (a' := a8) (b' := b8) (c' := c8) (d' := d8)
         have Q2 := P2.far (b' := w.heap.size + 1 + 1 + 1) (by omega) (.bool s8) (.int .u64 (a8 : Int)) (.int .u64 (b8 : Int)) (.int .u64 (c8 : Int)) (.int .u64 (d8 : Int))
         have Q0 := ext_five P0 (b := w.heap.size + 1 + 1 + 1) (by omega) (.bool s8) (.int .u64 (a8 : Int)) (.int .u64 (b8 : Int)) (.int .u64 (c8 : Int)) (.int .u64 (d8 : Int))
         generalize ((((y10.setCell ⟨w.heap.size + 1 + 1 + 1, 0, none⟩ (.bool s8)).setCell ⟨w.heap.size + 1 + 1 + 1, 1, none⟩ (.int .u64 (a8 : Int))).setCell ⟨w.heap.size + 1 + 1 + 1, 2, none⟩ (.int .u64 (b8 : Int))).setCell ⟨w.heap.size + 1 + 1 + 1, 3, none⟩ (.int .u64 (c8 : Int))).setCell ⟨w.heap.size + 1 + 1 + 1, 4, none⟩ (.int .u64 (d8 : Int)) = Y2 at *
         clear P2 P3 P0 C8
         obtain ⟨i0, i1, i2, i3, i4, j0, j1, j2, j3, j4⟩ := five_cells Q2
         obtain ⟨k0, k1, k2, k3, k4, l0, l1, l2, l3, l4⟩ := five_cells Q3
         go_region
         all_goals go_wp2_with fail
         all_goals exact bodyPost_ret (v := .tuple #[.agg #[.bool s7, .int .u64 (a7 : Int), .int .u64 (b7 : Int), .int .u64 (c7 : Int), .int .u64 (d7 : Int)], .agg #[.bool s8, .int .u64 (a8 : Int), .int .u64 (b8 : Int), .int .u64 (c8 : Int), .int .u64 (d8 : Int)], .bool true]) (by simp [results, Try.results22, go_sem, i0, i1, i2, i3, i4, k0, k1, k2, k3, k4]) rfl (divRet_yes HY.out K7.out K8.out ((ext_five (ext_five Q0 (by omega) _ _ _ _ _) (by omega) _ _ _ _ _).trans (ext_drew _)))
       · have HZ := hide (HDS.out.2 ⟨rfl, hz⟩)
         have hL0 : (0 : Int) < (L : Int) := by omega
         have fq1 : n / m + 1 < 115792089237316195423570985008687907853269984665640564039457584007913129639936 := quot_fits n m hm0 hz FN.out
         have fr1 : m - n % m < 115792089237316195423570985008687907853269984665640564039457584007913129639936 := Nat.lt_of_le_of_lt (Nat.sub_le _ _) FM.out
         have hrm : n % m ≤ m := Nat.le_of_lt (Nat.mod_lt _ hm0)
         have lq : Hid ((limbs (n / m)).length ≤ 4) := limbs_len_le.2 fq
         have lr : Hid ((limbs (n % m)).length ≤ 4) := limbs_len_le.2 fr
         have one1 := limbs_one 1 (by omega) (by omega)
         have ONE := hide one1
         have lone : Hid ((limbs 1).length ≤ 1000) := by rw [one1]; unfold Hid; simp
         clear hLp fq fr hz one1
         have s0 := E0.size
         obtain ⟨c0, c1, c2, c3, c4, _⟩ := five_cells B0
         obtain ⟨d0, d1, d2, d3, d4, _⟩ := five_cells B1
         go_upto_region 6 with fail
         have hw1 := words_one y8.drew.heap.size y8.drew 1 y8.drew.heap.size rfl (Nat.le_refl _) (by omega)
         rw [← ONE.out] at hw1
         have HW1 := hide hw1
         clear hw1
         have nn0 := World.new_ne y8 _ (show y8.cell? ⟨w.heap.size + 1, 0, none⟩ = some _ from d0)
         have nn1 := World.new_ne y8 _ (show y8.cell? ⟨w.heap.size + 1, 1, none⟩ = some _ from d1)
         have nn2 := World.new_ne y8 _ (show y8.cell? ⟨w.heap.size + 1, 2, none⟩ = some _ from d2)
         have nn3 := World.new_ne y8 _ (show y8.cell? ⟨w.heap.size + 1, 3, none⟩ = some _ from d3)
         have nn4 := World.new_ne y8 _ (show y8.cell? ⟨w.heap.size + 1, 4, none⟩ = some _ from d4)
         go_region_held3 (fun w' => w'.cell? ⟨w.heap.size + 1, 0, none⟩ = some (.bool t) ∧ w'.cell? ⟨w.heap.size + 1, 1, none⟩ = some (.int .u64 (e : Int)) ∧ w'.cell? ⟨w.heap.size + 1, 2, none⟩ = some (.int .u64 (f : Int)) ∧ w'.cell? ⟨w.heap.size + 1, 3, none⟩ = some (.int .u64 (g : Int)) ∧ w'.cell? ⟨w.heap.size + 1, 4, none⟩ = some (.int .u64 (h : Int))) (first | (with_reducible exact ⟨d0, d1, d2, d3, d4⟩) | go_keep) (first
           | (go_at_call 32; refine (ref_add _ _ _ _ _ (n / m) 1 _ (hvq.ext ((ext_drew _).trans (ext_alloc _ _))) HW1.out (Nat.le_refl _) (Nat.le_trans lq.out (by omega)) lone.out).mono ?_; rintro e' y11 ⟨v11, rfl, hv11, hE0⟩; have hE := ((ext_drew y8).trans (ext_alloc _ _)).trans hE0; have B0 := B0.ext hE; have B1 := B1.ext hE; have B2 := B2.ext hE; have B3 := B3.ext hE; have E0 := E0.trans hE; have s0 := E0.size; have hvr := hvr.ext hE; obtain ⟨d0, d1, d2, d3, d4, _⟩ := five_cells B1; clear hE hE0)
           | (go_at_call 30; (with_reducible refine (kB.out _ s0).mono ?_); rintro e' y12 ⟨v12, rfl, hv12, hE⟩; have hv11 := hv11.ext hE; have B0 := B0.ext hE; have B1 := B1.ext hE; have B2 := B2.ext hE; have B3 := B3.ext hE; have E0 := E0.trans hE; have s0 := E0.size; have hvr := hvr.ext hE; obtain ⟨d0, d1, d2, d3, d4, _⟩ := five_cells B1; clear hE)
           | (go_at_call 34; refine (ref_sub _ _ _ _ _ m (n % m) _ hv12 hvr (Nat.le_refl _) (Nat.le_trans L7.out (by omega)) (Nat.le_trans lr.out (by omega)) hrm).mono ?_; rintro e' y13 ⟨v13, rfl, hv13, hE⟩; have hv11 := hv11.ext hE; have l3 := B3.lt; have B0 := B0.ext hE; have B1 := B1.ext hE; have B2 := B2.ext hE; have B3 := B3.ext hE; have E0 := E0.trans hE; have s0 := E0.size; have hvr := hvr.ext hE; obtain ⟨d0, d1, d2, d3, d4, _⟩ := five_cells B1; clear hE))
         have hvq := hv11
         have hvr := hv13
         have kq : Hid (∀ C' w', Words C' w' v11 (limbs (n / m + 1)) → Calls Try.prog 31 #[.bool u, v11] w' (WideYes (x / y) w')) := fun C' w' hw => ref_wide_yes C' _ u _ _ w' hw fq1 HZ.out.1.symm
         have kr : Hid (∀ C' w', Words C' w' v13 (limbs (m - n % m)) → Calls Try.prog 31 #[.bool false, v13] w' (WideYes (x % y) w')) := fun C' w' hw => ref_wide_yes C' _ false _ _ w' hw fr1 HZ.out.2.symm
         clear fq1 fr1 hrm kB nn0 nn1 nn2 nn3 nn4 hv11 hv13 hv12 HW1
         obtain ⟨c0, c1, c2, c3, c4, _⟩ := five_cells B0
         have n02 : w.heap.size + 1 + 1 ≠ w.heap.size := by omega
         have n12 : w.heap.size + 1 + 1 ≠ w.heap.size + 1 := by omega
         go_upto_region 10 with (go_at_call 31; (with_reducible refine (kq.out _ _ hvq).mono ?_); rintro e' y9 ⟨s7, a7, b7, c7, d7, rfl, C7, hE⟩; have B2 := B2.ext hE; have B3 := B3.ext hE; have E0 := E0.trans hE; have hvr := hvr.ext hE; obtain ⟨i0, i1, i2, i3, i4, j0, j1, j2, j3, j4⟩ := five_cells B2; clear hE)
         have K7 := hide C7
         have P2 := B2.put (t := s7) (a' := a7) (b' := b7) (c' := c7) (d' := d7)
         have P3 := B3.far (b' := w.heap.size + 1 + 1) (by omega) (.bool s7) (.int .u64 (a7 : Int)) (.int .u64 (b7 : Int)) (.int .u64 (c7 : Int)) (.int .u64 (d7 : Int))
         have P0 := ext_five E0 (b := w.heap.size + 1 + 1) (by omega) (.bool s7) (.int .u64 (a7 : Int)) (.int .u64 (b7 : Int)) (.int .u64 (c7 : Int)) (.int .u64 (d7 : Int))
         have hvr := hvr.upd (upd_five (w.heap.size + 1 + 1) y9 (.bool s7) (.int .u64 (a7 : Int)) (.int .u64 (b7 : Int)) (.int .u64 (c7 : Int)) (.int .u64 (d7 : Int))) (hvr.apart' (by omega))
         generalize ((((y9.setCell ⟨w.heap.size + 1 + 1, 0, none⟩ (.bool s7)).setCell ⟨w.heap.size + 1 + 1, 1, none⟩ (.int .u64 (a7 : Int))).setCell ⟨w.heap.size + 1 + 1, 2, none⟩ (.int .u64 (b7 : Int))).setCell ⟨w.heap.size + 1 + 1, 3, none⟩ (.int .u64 (c7 : Int))).setCell ⟨w.heap.size + 1 + 1, 4, none⟩ (.int .u64 (d7 : Int)) = Y at *
         clear B2 B3 E0 C7
         go_upto_region 11 with (go_at_call 31; (with_reducible refine (kr.out _ _ hvr).mono ?_); rintro e' y10 ⟨s8, a8, b8, c8, d8, rfl, C8, hE⟩; have P2 := P2.ext hE; have P3 := P3.ext hE; have P0 := P0.trans hE; obtain ⟨k0, k1, k2, k3, k4, l0, l1, l2, l3, l4⟩ := five_cells P3; clear hE)
         have K8 := hide C8
         have Q3 := P3.put (t := s8) (a' := a8) (b' := b8) (c' := c8) (d' := d8)
         have Q2 := P2.far (b' := w.heap.size + 1 + 1 + 1) (by omega) (.bool s8) (.int .u64 (a8 : Int)) (.int .u64 (b8 : Int)) (.int .u64 (c8 : Int)) (.int .u64 (d8 : Int))
         have Q0 := ext_five P0 (b := w.heap.size + 1 + 1 + 1) (by omega) (.bool s8) (.int .u64 (a8 : Int)) (.int .u64 (b8 : Int)) (.int .u64 (c8 : Int)) (.int .u64 (d8 : Int))
         generalize ((((y10.setCell ⟨w.heap.size + 1 + 1 + 1, 0, none⟩ (.bool s8)).setCell ⟨w.heap.size + 1 + 1 + 1, 1, none⟩ (.int .u64 (a8 : Int))).setCell ⟨w.heap.size + 1 + 1 + 1, 2, none⟩ (.int .u64 (b8 : Int))).setCell ⟨w.heap.size + 1 + 1 + 1, 3, none⟩ (.int .u64 (c8 : Int))).setCell ⟨w.heap.size + 1 + 1 + 1, 4, none⟩ (.int .u64 (d8 : Int)) = Y2 at *
         clear P2 P3 P0 C8
         obtain ⟨i0, i1, i2, i3, i4, j0, j1, j2, j3, j4⟩ := five_cells Q2
         obtain ⟨k0, k1, k2, k3, k4, l0, l1, l2, l3, l4⟩ := five_cells Q3
         go_region
         all_goals go_wp2_with fail
         all_goals exact bodyPost_ret (v := .tuple #[.agg #[.bool s7, .int .u64 (a7 : Int), .int .u64 (b7 : Int), .int .u64 (c7 : Int), .int .u64 (d7 : Int)], .agg #[.bool s8, .int .u64 (a8 : Int), .int .u64 (b8 : Int), .int .u64 (c8 : Int), .int .u64 (d8 : Int)], .bool true]) (by simp [results, Try.results22, go_sem, i0, i1, i2, i3, i4, k0, k1, k2, k3, k4]) rfl (divRet_yes HY.out K7.out K8.out ((ext_five (ext_five Q0 (by omega) _ _ _ _ _) (by omega) _ _ _ _ _).trans (ext_drew _)))
end
section
open Go Go.RowKit Go.Sort
def Ret (v : Value) (w : World) (e : Ending) (w' : World) : Prop := e = .returned v ∧ Ext w w'
def RetSame (v : Value) (w : World) (e : Ending) (w' : World) : Prop := e = .returned v ∧ w = w'
theorem quiet_ret {f : FuncId} {args : Array Value} {W : World} {d : Nat} {os : Array Obj} {v : Value} (h : Calls Try.prog f args (grow (redrawn W d) os) (Ret v (grow (redrawn W d) os))) :
   Calls Try.prog f args (grow (redrawn W d) os) fun e w'' => e = .returned v ∧ ∃ p : Regrown, w'' = grow (redrawn W p.d) p.os := Calls.regrown_of h
theorem ext_regrown (W : World) (d : Nat) (os : Array Obj) : Ext W (grow (redrawn W d) os) := below_regrown W d os
end
section
open Go Go.RowKit
set_option maxHeartbeats 16000000 in
theorem ref_wadd (s t : Bool) (a b c d e f g h : Nat) (x y : Int) (w : World) (hx : IsW s a b c d x) (hy : IsW t e f g h y) :
   Calls Try.prog 12 #[.agg #[.bool s, .int .u64 (a : Int), .int .u64 (b : Int), .int .u64 (c : Int), .int .u64 (d : Int)], .agg #[.bool t, .int .u64 (e : Int), .int .u64 (f : Int), .int .u64 (g : Int), .int .u64 (h : Int)]] w (WideRet (x + y) w) := by
 obtain ⟨W, hW⟩ : ∃ W, W = (((w.alloc (.cells #[.bool s, .int .u64 (a : Int), .int .u64 (b : Int), .int .u64 (c : Int), .int .u64 (d : Int)] 25)).alloc (.cells #[.bool t, .int .u64 (e : Int), .int .u64 (f : Int), .int .u64 (g : Int), .int .u64 (h : Int)] 25)).alloc (.cells #[.bool false, .int .u64 0, .int .u64 0, .int .u64 0, .int .u64 0] 25)) := ⟨_, rfl⟩
 have H3 := three_boxes w (.cells #[.bool s, .int .u64 (a : Int), .int .u64 (b : Int), .int .u64 (c : Int), .int .u64 (d : Int)] 25) (.cells #[.bool t, .int .u64 (e : Int), .int .u64 (f : Int), .int .u64 (g : Int), .int .u64 (h : Int)] 25) (.cells #[.bool false, .int .u64 0, .int .u64 0, .int .u64 0, .int .u64 0] 25)
 rw [← hW] at H3
 have B0 : Box W w.heap.size s a b c d := H3.1
 have B1 : Box W (w.heap.size + 1) t e f g h := H3.2.1
 have B2 : Box W (w.heap.size + 1 + 1) false 0 0 0 0 := H3.2.2
 have E0 : Ext w W := by rw [hW]; exact ((ext_alloc _ _).trans (ext_alloc _ _)).trans (ext_alloc _ _)
 have HW := hide hW
 clear hW H3
 go_enter Try.func12, Try.ntmps12
 go_upto_region 1 with fail
 rw [← HW.out]
 clear HW
 go_cut [] (fun wx => Two w x y wx)
 case first =>
   obtain ⟨c0, c1, c2, c3, c4, f0, f1, f2, f3, f4⟩ := five_cells B0
   obtain ⟨d0, d1, d2, d3, d4, g0, g1, g2, g3, g4⟩ := five_cells B1
   go_region_with (first
     | (go_at_call 29; refine (ref_clean _ _ _ _ _ _ _ (by assumption)).mono ?_; rintro e' w' ⟨s', a', b', c', d', rfl, hC, hE⟩; have R0 := (by first | assumption | exact B0.drew : Box _ w.heap.size s a b c d).ext hE; have R1 := (by first | assumption | exact B1.drew : Box _ (w.heap.size + 1) t e f g h).ext hE; have R2 := (by first | assumption | exact B2.drew : Box _ (w.heap.size + 1 + 1) false 0 0 0 0).ext hE; obtain ⟨c0, c1, c2, c3, c4, f0, f1, f2, f3, f4⟩ := five_cells R0; obtain ⟨d0, d1, d2, d3, d4, g0, g1, g2, g3, g4⟩ := five_cells R1; have E1 := (by first | assumption | exact E0.trans (ext_drew _) : Ext w _).trans hE))
   all_goals go_wp2_with fail
   all_goals go_meet
   all_goals exact ⟨_, _, _, _, _, _, _, _, _, _, ‹IsC _ _ _ _ _ x›, ‹IsC _ _ _ _ _ y›, (R0.put).far (by omega) _ _ _ _ _, (R1.far (by omega) _ _ _ _ _).put, (R2.far (by omega) _ _ _ _ _).far (by omega) _ _ _ _ _, ext_five (ext_five E1 (Nat.le_refl _) _ _ _ _ _) (by omega) _ _ _ _ _⟩
 case rest =>
   clear B0 B1 B2 E0 hx hy
   obtain ⟨s, a, b, c, d, t, e, f, g, h, hx, hy, B0, B1, B2, E0⟩ := hcut
   obtain ⟨ha, hb, hc, hd, hxz⟩ := hx.1
   obtain ⟨he, hf, hg, hh, hyz⟩ := hy.1
   have MX : Hid (mag4 a b c d = x.natAbs) := by unfold Hid; cases s <;> simp at hxz <;> omega
   have MY : Hid (mag4 e f g h = y.natAbs) := by unfold Hid; cases t <;> simp at hyz <;> omega
   have SX : Hid (x = if s then -(x.natAbs : Int) else (x.natAbs : Int)) := by rw [← MX.out]; exact hxz
   have SY : Hid (y = if t then -(y.natAbs : Int) else (y.natAbs : Int)) := by rw [← MY.out]; exact hyz
   clear hxz hyz
   go_upto_region 2 with fail
   go_cut [6, 7] (fun s6 s7 wx => Words w.heap.size wx s6 (limbs x.natAbs) ∧ Words w.heap.size wx s7 (limbs y.natAbs) ∧ Box wx w.heap.size s a b c d ∧ Box wx (w.heap.size + 1) t e f g h ∧ Box wx (w.heap.size + 1 + 1) false 0 0 0 0 ∧ Ext w wx)
   case first =>
     obtain ⟨c0, c1, c2, c3, c4, f0, f1, f2, f3, f4⟩ := five_cells B0
     obtain ⟨d0, d1, d2, d3, d4, g0, g1, g2, g3, g4⟩ := five_cells B1
     go_region_with (first
       | (go_at_call_of 30 (Value.bool s); refine (of_any w.heap.size s a b c d _ (by first | exact E1.size | exact E0.size) ha hb hc hd).mono ?_; rintro e' w' ⟨v6, rfl, hv6, hE⟩; rw [MX.out] at hv6; have R0 := (by first | assumption | exact B0.drew : Box _ w.heap.size s a b c d).ext hE; have R1 := (by first | assumption | exact B1.drew : Box _ (w.heap.size + 1) t e f g h).ext hE; have R2 := (by first | assumption | exact B2.drew : Box _ (w.heap.size + 1 + 1) false 0 0 0 0).ext hE; obtain ⟨c0, c1, c2, c3, c4, f0, f1, f2, f3, f4⟩ := five_cells R0; obtain ⟨d0, d1, d2, d3, d4, g0, g1, g2, g3, g4⟩ := five_cells R1; have E1 := (by first | assumption | exact E0.trans (ext_drew _) : Ext w _).trans hE)
       | (go_at_call_of 30 (Value.bool t); refine (of_any w.heap.size t e f g h _ (by first | exact E1.size | exact E0.size) he hf hg hh).mono ?_; rintro e' w' ⟨v7, rfl, hv7, hE⟩; rw [MY.out] at hv7; have hv6' := hv6.ext hE; have R0 := (by first | assumption | exact B0.drew : Box _ w.heap.size s a b c d).ext hE; have R1 := (by first | assumption | exact B1.drew : Box _ (w.heap.size + 1) t e f g h).ext hE; have R2 := (by first | assumption | exact B2.drew : Box _ (w.heap.size + 1 + 1) false 0 0 0 0).ext hE; have E1 := (by first | assumption | exact E0.trans (ext_drew _) : Ext w _).trans hE))
     all_goals go_wp2_with fail
     all_goals go_meet
     all_goals exact ⟨hv6', hv7, R0, R1, R2, E1⟩
   case rest =>
     clear B0 B1 B2 E0
     obtain ⟨h6, h7, B0, B1, B2, E0⟩ := hcut
     have l6 : (limbs x.natAbs).length ≤ 4 := limbs_len_le.2 (by rw [← MX.out]; exact mag_lt ha hb hc hd)
     have l7 : (limbs y.natAbs).length ≤ 4 := limbs_len_le.2 (by rw [← MY.out]; exact mag_lt he hf hg hh)
     have L6 := hide l6
     have L7 := hide l7
     clear l6 l7
     obtain ⟨c0, c1, c2, c3, c4, f0, f1, f2, f3, f4⟩ := five_cells B0
     obtain ⟨d0, d1, d2, d3, d4, g0, g1, g2, g3, g4⟩ := five_cells B1
     by_cases hst : s = t
     · subst hst
       have SZ : Hid ((if s then -((x.natAbs + y.natAbs : Nat) : Int) else ((x.natAbs + y.natAbs : Nat) : Int)) = x + y) := by
         have h1 := SX.out
         have h2 := SY.out
         cases s <;> simp only [Bool.false_eq_true, if_false, if_true] at h1 h2 <;> simp [Hid] <;> omega
       go_wp2_with fail
       go_region_with (first
         | (go_at_call 32; refine (ref_add w.heap.size _ _ _ _ _ _ _ h6.drew h7.drew (by first | exact E1.size | exact E0.size) (Nat.le_trans L6.out (by omega)) (Nat.le_trans L7.out (by omega))).mono ?_; rintro e' w' ⟨v8, rfl, hv8, hE⟩; have R0 := B0.drew.ext hE; have R2 := B2.drew.ext hE; obtain ⟨c0, c1, c2, c3, c4, f0, f1, f2, f3, f4⟩ := five_cells R0; have E1 := (E0.trans (ext_drew _)).trans hE)
         | (go_at_call 31; refine (ref_wide _ _ _ _ _ hv8).mono ?_; rintro e' w' ⟨s', a', b', c', d', o', rfl, ho, hC, hE⟩; rw [val_limbs, SZ.out] at ho hC; have Ho := hide ho; clear ho; have R3 := R2.ext hE; obtain ⟨i0, i1, i2, i3, i4, j0, j1, j2, j3, j4⟩ := five_cells R3; have E2 := E1.trans hE))
       all_goals go_wp2_with fail
       all_goals exact bodyPost_ret (v := .tuple #[.agg #[.bool s', .int .u64 (a' : Int), .int .u64 (b' : Int), .int .u64 (c' : Int), .int .u64 (d' : Int)], .bool o']) (by simp [results, Try.results12, go_sem, i0, i1, i2, i3, i4]) rfl ⟨s', a', b', c', d', o', rfl, Ho.out, hC, ext_five E2 (by omega) _ _ _ _ _⟩
     · have hts : t = !s := by cases s <;> cases t <;> simp at hst ⊢
       subst hts
       clear hst
       by_cases hlt : x.natAbs < y.natAbs
       · have HS : Hid (sgnN x.natAbs y.natAbs = -1) := if_pos hlt
         have SZ : Hid ((if !s then -((y.natAbs - x.natAbs : Nat) : Int) else ((y.natAbs - x.natAbs : Nat) : Int)) = x + y) := by
           have h1 := SX.out
           have h2 := SY.out
           unfold Hid
           cases s <;> simp only [Bool.false_eq_true, if_false, if_true, Bool.not_false, Bool.not_true] at h1 h2 ⊢ <;> omega
         go_wp2_with (go_at_call 33; refine (compare_any _ _ _ _ _ _ _ h6 h7).mono ?_; rintro e' w' ⟨rfl, hE⟩; rw [HS.out]; have R0 := B0.ext hE; have R1 := B1.ext hE; have R2 := B2.ext hE; have h6' := h6.ext hE; have h7' := h7.ext hE; obtain ⟨c0, c1, c2, c3, c4, f0, f1, f2, f3, f4⟩ := five_cells R0; obtain ⟨d0, d1, d2, d3, d4, g0, g1, g2, g3, g4⟩ := five_cells R1; have E1 := E0.trans hE)
         go_region_with (first
           | (go_at_call 34; refine (ref_sub w.heap.size _ _ _ _ _ _ _ h7'.drew h6'.drew E1.size (Nat.le_trans L7.out (by omega)) (Nat.le_trans L6.out (by omega)) (by omega)).mono ?_; rintro e' w' ⟨v8, rfl, hv8, hE⟩; have R0' := R0.drew.ext hE; have R1' := R1.drew.ext hE; have R2' := R2.drew.ext hE; obtain ⟨c0, c1, c2, c3, c4, f0, f1, f2, f3, f4⟩ := five_cells R0'; obtain ⟨d0, d1, d2, d3, d4, g0, g1, g2, g3, g4⟩ := five_cells R1'; have E1' := (E1.trans (ext_drew _)).trans hE)
           | (go_at_call 31; refine (ref_wide _ _ _ _ _ hv8).mono ?_; rintro e' w' ⟨s', a', b', c', d', o', rfl, ho, hC, hE⟩; rw [val_limbs, SZ.out] at ho hC; have Ho := hide ho; clear ho; have R3 := R2'.ext hE; obtain ⟨i0, i1, i2, i3, i4, j0, j1, j2, j3, j4⟩ := five_cells R3; have E2 := E1'.trans hE))
         all_goals go_wp2_with fail
         all_goals exact bodyPost_ret (v := .tuple #[.agg #[.bool s', .int .u64 (a' : Int), .int .u64 (b' : Int), .int .u64 (c' : Int), .int .u64 (d' : Int)], .bool o']) (by simp [results, Try.results12, go_sem, i0, i1, i2, i3, i4]) rfl ⟨s', a', b', c', d', o', rfl, Ho.out, hC, ext_five E2 (by omega) _ _ _ _ _⟩
       · have h01 : (0 : Int) ≤ sgnN x.natAbs y.natAbs := by unfold sgnN; rw [if_neg hlt]; split <;> omega
         obtain ⟨q, hq⟩ : ∃ q, sgnN x.natAbs y.natAbs = q := ⟨_, rfl⟩
         rw [hq] at h01
         have HS := hide hq
         clear hq
         have SZ : Hid ((if s then -((x.natAbs - y.natAbs : Nat) : Int) else ((x.natAbs - y.natAbs : Nat) : Int)) = x + y) := by
           have h1 := SX.out
           have h2 := SY.out
           unfold Hid
           cases s <;> simp only [Bool.false_eq_true, if_false, if_true, Bool.not_false, Bool.not_true] at h1 h2 ⊢ <;> omega
         go_wp2_with (go_at_call 33; refine (compare_any _ _ _ _ _ _ _ h6 h7).mono ?_; rintro e' w' ⟨rfl, hE⟩; rw [HS.out]; have R0 := B0.ext hE; have R1 := B1.ext hE; have R2 := B2.ext hE; have h6' := h6.ext hE; have h7' := h7.ext hE; obtain ⟨c0, c1, c2, c3, c4, f0, f1, f2, f3, f4⟩ := five_cells R0; obtain ⟨d0, d1, d2, d3, d4, g0, g1, g2, g3, g4⟩ := five_cells R1; have E1 := E0.trans hE)
         go_region_with (first
           | (go_at_call 34; refine (ref_sub w.heap.size _ _ _ _ _ _ _ h6'.drew h7'.drew E1.size (Nat.le_trans L6.out (by omega)) (Nat.le_trans L7.out (by omega)) (by omega)).mono ?_; rintro e' w' ⟨v8, rfl, hv8, hE⟩; have R0' := R0.drew.ext hE; have R1' := R1.drew.ext hE; have R2' := R2.drew.ext hE; obtain ⟨c0, c1, c2, c3, c4, f0, f1, f2, f3, f4⟩ := five_cells R0'; obtain ⟨d0, d1, d2, d3, d4, g0, g1, g2, g3, g4⟩ := five_cells R1'; have E1' := (E1.trans (ext_drew _)).trans hE)
           | (go_at_call 31; refine (ref_wide _ _ _ _ _ hv8).mono ?_; rintro e' w' ⟨s', a', b', c', d', o', rfl, ho, hC, hE⟩; rw [val_limbs, SZ.out] at ho hC; have Ho := hide ho; clear ho; have R3 := R2'.ext hE; obtain ⟨i0, i1, i2, i3, i4, j0, j1, j2, j3, j4⟩ := five_cells R3; have E2 := E1'.trans hE))
         all_goals go_wp2_with fail
         all_goals exact bodyPost_ret (v := .tuple #[.agg #[.bool s', .int .u64 (a' : Int), .int .u64 (b' : Int), .int .u64 (c' : Int), .int .u64 (d' : Int)], .bool o']) (by simp [results, Try.results12, go_sem, i0, i1, i2, i3, i4]) rfl ⟨s', a', b', c', d', o', rfl, Ho.out, hC, ext_five E2 (by omega) _ _ _ _ _⟩
end
section
open Go Go.RowKit
set_option maxRecDepth 100000 in
set_option maxHeartbeats 4000000 in
theorem ref_int64 (s : Bool) (a b c d : Nat) (z : Int) (w : World) (h : IsW s a b c d z) :
   Calls Try.prog 23 #[.agg #[.bool s, .int .u64 (a : Int), .int .u64 (b : Int), .int .u64 (c : Int), .int .u64 (d : Int)]] w (PairRet .i64 (if -9223372036854775808 ≤ z ∧ z ≤ 9223372036854775807 then z else 0) (decide (-9223372036854775808 ≤ z ∧ z ≤ 9223372036854775807)) w) := by
 obtain ⟨r, hr⟩ : ∃ r, (if -9223372036854775808 ≤ z ∧ z ≤ 9223372036854775807 then z else 0) = r := ⟨_, rfl⟩
 obtain ⟨o, ho⟩ : ∃ o, decide (-9223372036854775808 ≤ z ∧ z ≤ 9223372036854775807) = o := ⟨_, rfl⟩
 rw [hr, ho]
 have HR := hide hr
 have HO := hide ho
 clear hr ho
 have HX := hide (ext_alloc w (.cells #[.bool s, .int .u64 (a : Int), .int .u64 (b : Int), .int .u64 (c : Int), .int .u64 (d : Int)] 25))
 have B0 := hide (show Box (w.alloc (.cells #[.bool s, .int .u64 (a : Int), .int .u64 (b : Int), .int .u64 (c : Int), .int .u64 (d : Int)] 25)) w.heap.size s a b c d from heap_alloc_new w _)
 go_enter Try.func23, Try.ntmps23
 go_upto_region 1 with fail
 go_cut [] (fun wx => ∃ (s : Bool) (a b c d : Nat), IsC s a b c d z ∧ Box wx w.heap.size s a b c d ∧ Ext w wx)
 case first =>
   go_wp2_with (go_at_call 29; refine (ref_clean s a b c d z _ h).mono ?_; rintro e' w' ⟨s', a', b', c', d', rfl, hC, hE⟩; have R0 := B0.out.ext hE; have E1 := HX.out.trans hE; obtain ⟨c0, c1, c2, c3, c4, f0, f1, f2, f3, f4⟩ := five_cells R0)
   go_meet
   exact ⟨s', a', b', c', d', hC, R0.put, ext_five E1 (Nat.le_refl _) _ _ _ _ _⟩
 case rest =>
   clear B0 HX h
   obtain ⟨s, a, b, c, d, hC, B0, E0⟩ := hcut
   obtain ⟨ha, hb, hc, hd, hz⟩ := hC.1
   have hs := hC.2
   obtain ⟨n, hn⟩ : ∃ n, mag4 a b c d = n := ⟨_, rfl⟩
   obtain ⟨L, hL⟩ : ∃ L, (limbs n).length = L := ⟨_, rfl⟩
   have hL1 : L ≤ 1 ↔ n < 18446744073709551616 := by rw [← hL]; exact limbs_len_le
   rw [hn] at hz
   have hl0 : L = 0 ↔ n = 0 := by rw [← hL, List.length_eq_zero_iff, limbs_nil]
   have hg0 : ∀ h : 0 < (limbs n).length, (limbs n)[0] = n % 18446744073709551616 := by
     intro h
     have := limbs_getD n 0
     simpa [List.getD, h] using this
   have HG := hide hg0
   have MX := hide hn
   have HL := hide hL
   clear hn hL hg0
   have hcase : (L = 0 ∧ z = 0) ∨ (1 < L ∧ ¬ (-9223372036854775808 ≤ z ∧ z ≤ 9223372036854775807)) ∨ (L = 1 ∧ n < 18446744073709551616 ∧ s = true ∧ n ≤ 9223372036854775808 ∧ z = -(n : Int)) ∨ (L = 1 ∧ n < 18446744073709551616 ∧ s = true ∧ 9223372036854775808 < n ∧ z = -(n : Int)) ∨
       (L = 1 ∧ n < 18446744073709551616 ∧ s = false ∧ n < 9223372036854775808 ∧ z = n) ∨ (L = 1 ∧ n < 18446744073709551616 ∧ s = false ∧ 9223372036854775808 ≤ n ∧ z = n) := by
     cases s <;> simp at hz hs <;> simp <;> omega
   clear hz hs hl0 hL1 hC
   obtain ⟨c0, c1, c2, c3, c4, f0, f1, f2, f3, f4⟩ := five_cells B0
   rcases hcase with ⟨rfl, h1⟩ | ⟨h0, h1⟩ | ⟨rfl, h0, rfl, h1, h2⟩ | ⟨rfl, h0, rfl, h1, h2⟩ | ⟨rfl, h0, rfl, h1, h2⟩ | ⟨rfl, h0, rfl, h1, h2⟩
   · have HH := hide h1
     clear h1
     go_wp2_with (go_at_call 30; refine (of_any w.heap.size _ a b c d _ E0.size ha hb hc hd).mono ?_; rintro e' w' ⟨v, rfl, hv, hE⟩; rw [MX.out] at hv; obtain ⟨a3, c3', rfl, _, _, _⟩ := hv.shape 0 HL.out; have R0 := B0.ext hE; have E1 := E0.trans hE; obtain ⟨c0, c1, c2, c3, c4, f0, f1, f2, f3, f4⟩ := five_cells R0)
     all_goals go_ret2
     all_goals exact ⟨rb2' (by rw [← HR.out, HH.out]; simp) (by rw [← HO.out, HH.out]; simp), E1⟩
   · have HH := hide h1
     clear h1
     go_wp2_with (go_at_call 30; refine (of_any w.heap.size _ a b c d _ E0.size ha hb hc hd).mono ?_; rintro e' w' ⟨v, rfl, hv, hE⟩; rw [MX.out] at hv; obtain ⟨a3, c3', rfl, _, _, _⟩ := hv.shape L HL.out; have R0 := B0.ext hE; have E1 := E0.trans hE; obtain ⟨c0, c1, c2, c3, c4, f0, f1, f2, f3, f4⟩ := five_cells R0)
     all_goals go_ret2
     all_goals exact ⟨rb2' (by rw [← HR.out, if_neg HH.out]) (by rw [← HO.out, decide_eq_false HH.out]), E1⟩
   · have HH := hide (And.intro h1 h2)
     have hI : (n : Int) ≤ 9223372036854775808 := by omega
     clear h2 h1
     have HN : Hid (∀ h : 0 < (limbs n).length, (limbs n)[0] = n) := fun h => by rw [HG.out h, Nat.mod_eq_of_lt h0]
     go_wp2_with (go_at_call 30; refine (of_any w.heap.size _ a b c d _ E0.size ha hb hc hd).mono ?_; rintro e' w' ⟨v, rfl, hv, hE⟩; rw [MX.out] at hv; have hcell := hv; obtain ⟨a3, c3', rfl, _, _, _⟩ := hv.shape 1 HL.out; have hk := hcell.at 0 (by rw [HL.out]; omega); rw [HN.out (by rw [HL.out]; omega)] at hk; obtain ⟨gg, rfl, _, _, cx, _⟩ := hk; have R0 := B0.ext hE; have E1 := E0.trans hE; obtain ⟨c0, c1, c2, c3, c4, f0, f1, f2, f3, f4⟩ := five_cells R0)
     all_goals go_ret2
     all_goals exact ⟨rb2' (by rw [← HR.out, HH.out.2]; have := HH.out.1; rw [if_pos (by omega)]; simp only [wrap64, IntKind.wrap_u64]; omega) (by rw [← HO.out, HH.out.2]; have := HH.out.1; simp; omega), E1⟩
   · have HH := hide (And.intro h1 h2)
     have hI : (9223372036854775809 : Int) ≤ (n : Int) := by omega
     clear h2 h1
     have HN : Hid (∀ h : 0 < (limbs n).length, (limbs n)[0] = n) := fun h => by rw [HG.out h, Nat.mod_eq_of_lt h0]
     go_wp2_with (go_at_call 30; refine (of_any w.heap.size _ a b c d _ E0.size ha hb hc hd).mono ?_; rintro e' w' ⟨v, rfl, hv, hE⟩; rw [MX.out] at hv; have hcell := hv; obtain ⟨a3, c3', rfl, _, _, _⟩ := hv.shape 1 HL.out; have hk := hcell.at 0 (by rw [HL.out]; omega); rw [HN.out (by rw [HL.out]; omega)] at hk; obtain ⟨gg, rfl, _, _, cx, _⟩ := hk; have R0 := B0.ext hE; have E1 := E0.trans hE; obtain ⟨c0, c1, c2, c3, c4, f0, f1, f2, f3, f4⟩ := five_cells R0)
     all_goals go_ret2
     all_goals exact ⟨rb2' (by rw [← HR.out, HH.out.2]; have := HH.out.1; rw [if_neg (by omega)]) (by rw [← HO.out, HH.out.2]; have := HH.out.1; simp; omega), E1⟩
   · have HH := hide (And.intro h1 h2)
     have hI : decide ((9223372036854775808 : Int) ≤ (n : Int)) = false := by simp; omega
     clear h2 h1
     have HN : Hid (∀ h : 0 < (limbs n).length, (limbs n)[0] = n) := fun h => by rw [HG.out h, Nat.mod_eq_of_lt h0]
     go_wp2_with (go_at_call 30; refine (of_any w.heap.size _ a b c d _ E0.size ha hb hc hd).mono ?_; rintro e' w' ⟨v, rfl, hv, hE⟩; rw [MX.out] at hv; have hcell := hv; obtain ⟨a3, c3', rfl, _, _, _⟩ := hv.shape 1 HL.out; have hk := hcell.at 0 (by rw [HL.out]; omega); rw [HN.out (by rw [HL.out]; omega)] at hk; obtain ⟨gg, rfl, _, _, cx, _⟩ := hk; have R0 := B0.ext hE; have E1 := E0.trans hE; obtain ⟨c0, c1, c2, c3, c4, f0, f1, f2, f3, f4⟩ := five_cells R0)
     all_goals go_ret2
     all_goals exact ⟨rb2' (by rw [← HR.out, HH.out.2]; have := HH.out.1; rw [if_pos (by omega)]; simp only [wrap64]; omega) (by rw [← HO.out, HH.out.2]; have := HH.out.1; simp; omega), E1⟩
   · have HH := hide (And.intro h1 h2)
     have hI : (9223372036854775808 : Int) ≤ (n : Int) := by omega
     clear h2 h1
     have HN : Hid (∀ h : 0 < (limbs n).length, (limbs n)[0] = n) := fun h => by rw [HG.out h, Nat.mod_eq_of_lt h0]
     go_wp2_with (go_at_call 30; refine (of_any w.heap.size _ a b c d _ E0.size ha hb hc hd).mono ?_; rintro e' w' ⟨v, rfl, hv, hE⟩; rw [MX.out] at hv; have hcell := hv; obtain ⟨a3, c3', rfl, _, _, _⟩ := hv.shape 1 HL.out; have hk := hcell.at 0 (by rw [HL.out]; omega); rw [HN.out (by rw [HL.out]; omega)] at hk; obtain ⟨gg, rfl, _, _, cx, _⟩ := hk; have R0 := B0.ext hE; have E1 := E0.trans hE; obtain ⟨c0, c1, c2, c3, c4, f0, f1, f2, f3, f4⟩ := five_cells R0)
     all_goals go_ret2
     all_goals exact ⟨rb2' (by rw [← HR.out, HH.out.2]; have := HH.out.1; rw [if_neg (by omega)]) (by rw [← HO.out, HH.out.2]; have := HH.out.1; simp; omega), E1⟩
end
section
open Go Go.RowKit
theorem isC_some (z : Int) (h : z.natAbs < 115792089237316195423570985008687907853269984665640564039457584007913129639936) : ∃ (s : Bool) (a b c d : Nat), IsC s a b c d z := by
 obtain ⟨a, b, c, d, _, hC⟩ := natV_isC (decide (z < 0)) z.natAbs (limbs_len_le.2 h)
 have e : (if decide (z < 0) then -(z.natAbs : Int) else (z.natAbs : Int)) = z := by
   by_cases h0 : z < 0
   · rw [decide_eq_true h0]; simp; omega
   · rw [decide_eq_false h0]; simp; omega
 rw [e] at hC
 exact ⟨_, a, b, c, d, hC⟩
theorem isW_fits {s : Bool} {a b c d : Nat} {x : Int} (h : IsW s a b c d x) : x.natAbs < 115792089237316195423570985008687907853269984665640564039457584007913129639936 := by
 obtain ⟨h1, h2, h3, h4, h5⟩ := h
 have := mag_lt h1 h2 h3 h4
 cases s <;> simp at h5 <;> omega
end
section
open Go Go.RowKit
def sg (z : Int) : Bool := decide (z < 0)
def l0 (z : Int) : Nat := z.natAbs % 18446744073709551616
def l1 (z : Int) : Nat := z.natAbs / 18446744073709551616 % 18446744073709551616
def l2 (z : Int) : Nat := z.natAbs / 340282366920938463463374607431768211456 % 18446744073709551616
def l3 (z : Int) : Nat := z.natAbs / 6277101735386680763835789423207666416102355444464034512896 % 18446744073709551616
def F256 (z : Int) : Prop := z.natAbs < 115792089237316195423570985008687907853269984665640564039457584007913129639936
theorem isC_fix {s : Bool} {a b c d : Nat} {z : Int} (h : IsC s a b c d z) : s = sg z ∧ a = l0 z ∧ b = l1 z ∧ c = l2 z ∧ d = l3 z := by
 obtain ⟨⟨h1, h2, h3, h4, h5⟩, h6⟩ := h
 have hm : z.natAbs = mag4 a b c d := by cases s <;> simp at h5 <;> omega
 simp only [mag4, val] at hm h5
 refine ⟨?_, ?_, ?_, ?_, ?_⟩
 · cases s
   · simp at h5; unfold sg; symm; rw [decide_eq_false_iff_not]; omega
   · have := h6 rfl; simp at h5; unfold sg; symm; rw [decide_eq_true_iff]; omega
 · unfold l0; omega
 · unfold l1; omega
 · unfold l2; omega
 · unfold l3; omega
theorem isC_of {z : Int} (h : F256 z) : IsC (sg z) (l0 z) (l1 z) (l2 z) (l3 z) z := by
 obtain ⟨s, a, b, c, d, k⟩ := isC_some z h
 obtain ⟨rfl, rfl, rfl, rfl, rfl⟩ := isC_fix k
 exact k
theorem ret_wide {z : Int} {w w' : World} {e : Ending} (h : WideOnly z w e w') : Ret (.agg #[.bool (sg z), .int .u64 (l0 z : Int), .int .u64 (l1 z : Int), .int .u64 (l2 z : Int), .int .u64 (l3 z : Int)]) w e w' := by
 obtain ⟨s, a, b, c, d, rfl, k, hE⟩ := h
 obtain ⟨rfl, rfl, rfl, rfl, rfl⟩ := isC_fix k
 exact ⟨rfl, hE⟩
theorem ret_pair {z : Int} {w w' : World} {e : Ending} (h : WideRet z w e w') (hz : F256 z) : Ret (.tuple #[.agg #[.bool (sg z), .int .u64 (l0 z : Int), .int .u64 (l1 z : Int), .int .u64 (l2 z : Int), .int .u64 (l3 z : Int)], .bool true]) w e w' := by
 obtain ⟨s, a, b, c, d, o, rfl, ho, hC, hE⟩ := h
 rw [if_pos (show z.natAbs < 115792089237316195423570985008687907853269984665640564039457584007913129639936 from hz)] at hC
 have : o = true := by rw [ho, decide_eq_true_iff]; exact hz
 subst this
 obtain ⟨rfl, rfl, rfl, rfl, rfl⟩ := isC_fix hC
 exact ⟨rfl, hE⟩
theorem ret_div {x y : Int} {w w' : World} {e : Ending} (h : DivRet x y w e w') (hy : y ≠ 0) : Ret (.tuple #[.agg #[.bool (sg (x / y)), .int .u64 (l0 (x / y) : Int), .int .u64 (l1 (x / y) : Int), .int .u64 (l2 (x / y) : Int), .int .u64 (l3 (x / y) : Int)], .agg #[.bool (sg (x % y)), .int .u64 (l0 (x % y) : Int), .int .u64 (l1 (x % y) : Int), .int .u64 (l2 (x % y) : Int), .int .u64 (l3 (x % y) : Int)], .bool true]) w e w' := by
 obtain ⟨s, a, b, c, d, s', a', b', c', d', o, rfl, ho, k1, k2, hE⟩ := h
 rw [if_neg hy] at k1 k2
 have : o = true := by rw [ho, decide_eq_true_iff]; exact hy
 subst this
 obtain ⟨rfl, rfl, rfl, rfl, rfl⟩ := isC_fix k1
 obtain ⟨rfl, rfl, rfl, rfl, rfl⟩ := isC_fix k2
 exact ⟨rfl, hE⟩
theorem c_add {x y z : Int} (hx : F256 x) (hy : F256 y) (e : x + y = z) (hz : F256 z) (w : World) : Calls Try.prog 73 #[.agg #[.bool (sg x), .int .u64 (l0 x : Int), .int .u64 (l1 x : Int), .int .u64 (l2 x : Int), .int .u64 (l3 x : Int)], .agg #[.bool (sg y), .int .u64 (l0 y : Int), .int .u64 (l1 y : Int), .int .u64 (l2 y : Int), .int .u64 (l3 y : Int)]] w (Ret (.tuple #[.agg #[.bool (sg z), .int .u64 (l0 z : Int), .int .u64 (l1 z : Int), .int .u64 (l2 z : Int), .int .u64 (l3 z : Int)], .bool true]) w) :=
 (p_wadd _ _ _ _ _ _ _ _ _ _ x y w (isC_of hx).1 (isC_of hy).1).mono fun _ _ h => ret_pair (by rw [e] at h; exact h) hz
theorem c_mul {x y z : Int} (hx : F256 x) (hy : F256 y) (e : x * y = z) (hz : F256 z) (w : World) : Calls Try.prog 80 #[.agg #[.bool (sg x), .int .u64 (l0 x : Int), .int .u64 (l1 x : Int), .int .u64 (l2 x : Int), .int .u64 (l3 x : Int)], .agg #[.bool (sg y), .int .u64 (l0 y : Int), .int .u64 (l1 y : Int), .int .u64 (l2 y : Int), .int .u64 (l3 y : Int)]] w (Ret (.tuple #[.agg #[.bool (sg z), .int .u64 (l0 z : Int), .int .u64 (l1 z : Int), .int .u64 (l2 z : Int), .int .u64 (l3 z : Int)], .bool true]) w) :=
 (p_wmul _ _ _ _ _ _ _ _ _ _ x y w (isC_of hx).1 (isC_of hy).1).mono fun _ _ h => ret_pair (by rw [e] at h; exact h) hz
theorem c_div {x y q r : Int} (hx : F256 x) (hy : F256 y) (y0 : y ≠ 0) (e1 : x / y = q) (e2 : x % y = r) (w : World) : Calls Try.prog 76 #[.agg #[.bool (sg x), .int .u64 (l0 x : Int), .int .u64 (l1 x : Int), .int .u64 (l2 x : Int), .int .u64 (l3 x : Int)], .agg #[.bool (sg y), .int .u64 (l0 y : Int), .int .u64 (l1 y : Int), .int .u64 (l2 y : Int), .int .u64 (l3 y : Int)]] w (Ret (.tuple #[.agg #[.bool (sg q), .int .u64 (l0 q : Int), .int .u64 (l1 q : Int), .int .u64 (l2 q : Int), .int .u64 (l3 q : Int)], .agg #[.bool (sg r), .int .u64 (l0 r : Int), .int .u64 (l1 r : Int), .int .u64 (l2 r : Int), .int .u64 (l3 r : Int)], .bool true]) w) :=
 (p_divMod _ _ _ _ _ _ _ _ _ _ x y w (isC_of hx).1 (isC_of hy).1).mono fun _ _ h => by have h := ret_div h y0; rw [e1, e2] at h; exact h
theorem c_cmp {x y r : Int} (hx : F256 x) (hy : F256 y) (e : cmpI x y = r) (w : World) : Calls Try.prog 70 #[.agg #[.bool (sg x), .int .u64 (l0 x : Int), .int .u64 (l1 x : Int), .int .u64 (l2 x : Int), .int .u64 (l3 x : Int)], .agg #[.bool (sg y), .int .u64 (l0 y : Int), .int .u64 (l1 y : Int), .int .u64 (l2 y : Int), .int .u64 (l3 y : Int)]] w (Ret (.int .i64 r) w) :=
 (p_compare _ _ _ _ _ _ _ _ _ _ x y w (isC_of hx).1 (isC_of hy).1).mono fun _ _ h => by rw [e] at h; exact h
theorem c_ofi {x : Int} (h1 : -9223372036854775808 ≤ x) (h2 : x ≤ 9223372036854775807) (w : World) : Calls Try.prog 68 #[.int .i64 x] w (Ret (.agg #[.bool (sg x), .int .u64 (l0 x : Int), .int .u64 (l1 x : Int), .int .u64 (l2 x : Int), .int .u64 (l3 x : Int)]) w) :=
 (p_ofi x w h1 h2).mono fun _ _ h => ret_wide h
theorem c_valid {x : Int} (hx : F256 x) (w : World) : Calls Try.prog 54 #[.agg #[.bool (sg x), .int .u64 (l0 x : Int), .int .u64 (l1 x : Int), .int .u64 (l2 x : Int), .int .u64 (l3 x : Int)]] w (Ret (.bool true) w) :=
 (p_valid _ _ _ _ _ x w (isC_of hx).1).mono fun _ _ h => by
   have : (!sg x || decide (x ≠ 0)) = true := by
     have := (isC_of hx).2
     cases hs : sg x <;> simp; exact this hs
   rw [this] at h; exact h
theorem d_add {x y z : Int} (hx : F256 x) (hy : F256 y) (e : x + y = z) (hz : F256 z) (w : World) : Calls Try.prog 12 #[.agg #[.bool (sg x), .int .u64 (l0 x : Int), .int .u64 (l1 x : Int), .int .u64 (l2 x : Int), .int .u64 (l3 x : Int)], .agg #[.bool (sg y), .int .u64 (l0 y : Int), .int .u64 (l1 y : Int), .int .u64 (l2 y : Int), .int .u64 (l3 y : Int)]] w (Ret (.tuple #[.agg #[.bool (sg z), .int .u64 (l0 z : Int), .int .u64 (l1 z : Int), .int .u64 (l2 z : Int), .int .u64 (l3 z : Int)], .bool true]) w) :=
 (ref_wadd _ _ _ _ _ _ _ _ _ _ x y w (isC_of hx).1 (isC_of hy).1).mono fun _ _ h => ret_pair (by rw [e] at h; exact h) hz
theorem d_mul {x y z : Int} (hx : F256 x) (hy : F256 y) (e : x * y = z) (hz : F256 z) (w : World) : Calls Try.prog 72 #[.agg #[.bool (sg x), .int .u64 (l0 x : Int), .int .u64 (l1 x : Int), .int .u64 (l2 x : Int), .int .u64 (l3 x : Int)], .agg #[.bool (sg y), .int .u64 (l0 y : Int), .int .u64 (l1 y : Int), .int .u64 (l2 y : Int), .int .u64 (l3 y : Int)]] w (Ret (.tuple #[.agg #[.bool (sg z), .int .u64 (l0 z : Int), .int .u64 (l1 z : Int), .int .u64 (l2 z : Int), .int .u64 (l3 z : Int)], .bool true]) w) :=
 (ref_wmul _ _ _ _ _ _ _ _ _ _ x y w (isC_of hx).1 (isC_of hy).1).mono fun _ _ h => ret_pair (by rw [e] at h; exact h) hz
theorem d_div {x y q r : Int} (hx : F256 x) (hy : F256 y) (y0 : y ≠ 0) (e1 : x / y = q) (e2 : x % y = r) (w : World) : Calls Try.prog 22 #[.agg #[.bool (sg x), .int .u64 (l0 x : Int), .int .u64 (l1 x : Int), .int .u64 (l2 x : Int), .int .u64 (l3 x : Int)], .agg #[.bool (sg y), .int .u64 (l0 y : Int), .int .u64 (l1 y : Int), .int .u64 (l2 y : Int), .int .u64 (l3 y : Int)]] w (Ret (.tuple #[.agg #[.bool (sg q), .int .u64 (l0 q : Int), .int .u64 (l1 q : Int), .int .u64 (l2 q : Int), .int .u64 (l3 q : Int)], .agg #[.bool (sg r), .int .u64 (l0 r : Int), .int .u64 (l1 r : Int), .int .u64 (l2 r : Int), .int .u64 (l3 r : Int)], .bool true]) w) :=
 (ref_wdiv _ _ _ _ _ _ _ _ _ _ x y w (isC_of hx).1 (isC_of hy).1).mono fun _ _ h => by have h := ret_div h y0; rw [e1, e2] at h; exact h
theorem d_cmp {x y r : Int} (hx : F256 x) (hy : F256 y) (e : cmpI x y = r) (w : World) : Calls Try.prog 58 #[.agg #[.bool (sg x), .int .u64 (l0 x : Int), .int .u64 (l1 x : Int), .int .u64 (l2 x : Int), .int .u64 (l3 x : Int)], .agg #[.bool (sg y), .int .u64 (l0 y : Int), .int .u64 (l1 y : Int), .int .u64 (l2 y : Int), .int .u64 (l3 y : Int)]] w (Ret (.int .i64 r) w) :=
 (ref_compare _ _ _ _ _ _ _ _ _ _ x y w (isC_of hx).1 (isC_of hy).1).mono fun _ _ h => by rw [e] at h; exact h
theorem d_sign {x r : Int} (hx : F256 x) (e : x.sign = r) (w : World) : Calls Try.prog 45 #[.agg #[.bool (sg x), .int .u64 (l0 x : Int), .int .u64 (l1 x : Int), .int .u64 (l2 x : Int), .int .u64 (l3 x : Int)]] w (Ret (.int .i64 r) w) :=
 (ref_sign _ _ _ _ _ x w (isC_of hx).1).mono fun _ _ h => by rw [e] at h; exact h
theorem d_ofi {x : Int} (h1 : -9223372036854775808 ≤ x) (h2 : x ≤ 9223372036854775807) (w : World) : Calls Try.prog 13 #[.int .i64 x] w (Ret (.agg #[.bool (sg x), .int .u64 (l0 x : Int), .int .u64 (l1 x : Int), .int .u64 (l2 x : Int), .int .u64 (l3 x : Int)]) w) :=
 (ref_ofi x w h1 h2).mono fun _ _ h => ret_wide h
theorem d_valid {x : Int} (hx : F256 x) (w : World) : Calls Try.prog 47 #[.agg #[.bool (sg x), .int .u64 (l0 x : Int), .int .u64 (l1 x : Int), .int .u64 (l2 x : Int), .int .u64 (l3 x : Int)]] w (Ret (.bool true) w) :=
 (ref_valid _ _ _ _ _ x w (isC_of hx).1).mono fun _ _ h => by
   have : (!sg x || decide (x ≠ 0)) = true := by
     have := (isC_of hx).2
     cases hs : sg x <;> simp; exact this hs
   rw [this] at h; exact h
theorem d_int64 {x : Int} (hx : F256 x) (h1 : -9223372036854775808 ≤ x) (h2 : x ≤ 9223372036854775807) (w : World) : Calls Try.prog 23 #[.agg #[.bool (sg x), .int .u64 (l0 x : Int), .int .u64 (l1 x : Int), .int .u64 (l2 x : Int), .int .u64 (l3 x : Int)]] w (Ret (.tuple #[.int .i64 x, .bool true]) w) :=
 (ref_int64 _ _ _ _ _ x w (isC_of hx).1).mono fun _ _ h => by rw [if_pos ⟨h1, h2⟩, decide_eq_true ⟨h1, h2⟩] at h; exact h
end
section
open Go Go.RowKit
def Frac (n d : Int) : Prop := 0 < d ∧ n.natAbs < 170141183460469231731687303715884105728 ∧ d.natAbs < 170141183460469231731687303715884105728 ∧ Int.gcd n d = 1
instance (n d : Int) : Decidable (Frac n d) := by unfold Frac; infer_instance
open Go Go.RowKit
def same5 (s s' : Bool) (a b c e a' b' c' e' : Int) : Bool := s == s' && (a == a' && (b == b' && (c == c' && e == e')))
theorem same_isC {s t : Bool} {a b c d e f g h : Nat} {x y : Int} (hx : IsC s a b c d x) (hy : IsC t e f g h y) : same5 s t a b c d e f g h = decide (x = y) := by
 unfold same5
 by_cases hxy : x = y
 · subst hxy
   obtain ⟨rfl, rfl, rfl, rfl, rfl⟩ := hx.uniq hy
   simp
 · rw [decide_eq_false hxy, ← Bool.not_eq_true]
   intro h1
   simp only [Bool.and_eq_true, beq_iff_eq] at h1
   obtain ⟨rfl, h2, h3, h4, h5⟩ := h1
   obtain rfl : a = e := by omega
   obtain rfl : b = f := by omega
   obtain rfl : c = g := by omega
   obtain rfl : d = h := by omega
   exact hxy (hx.1.2.2.2.2.trans hy.1.2.2.2.2.symm)
end
section
open Go Go.RowKit
def Good (s : Bool) (z : Int) : Prop := s = true → z ≠ 0
end
section
open Go Go.RowKit
instance (s : Bool) (z : Int) : Decidable (Good s z) := by unfold Good; infer_instance
def RatOk (s : Bool) (x : Int) (t : Bool) (y : Int) : Prop := Good s x ∧ Good t y ∧ Frac x y
instance (s : Bool) (x : Int) (t : Bool) (y : Int) : Decidable (RatOk s x t y) := by unfold RatOk; infer_instance
open Go Go.RowKit
end
section
open Go Go.RowKit
def Quot (B : World) (z : Int) (p : Value) (wx : World) : Prop := ∃ g s a b c d, p = .pointer (some ⟨g, 0, none⟩) ∧ IsC s a b c d z ∧ Box wx g s a b c d ∧ B.heap.size ≤ g ∧ Ext B wx
section
variable {B U : World} {z : Int} {s : Bool} {a b c d : Nat} {o : Obj} {u0 u1 u2 u3 u4 : Value} {g g' : Nat}
theorem one1 (hC : IsC s a b c d z) (hE : Ext B U) (hz : Box U g false 0 0 0 0) (h1 : B.heap.size ≤ g) : Quot B z (.pointer (some ⟨g, 0, none⟩)) (((((U.setCell ⟨g, 0, none⟩ (.bool s)).setCell ⟨g, 1, none⟩ (.int .u64 (a : Int))).setCell ⟨g, 2, none⟩ (.int .u64 (b : Int))).setCell ⟨g, 3, none⟩ (.int .u64 (c : Int))).setCell ⟨g, 4, none⟩ (.int .u64 (d : Int))) :=
 ⟨_, s, a, b, c, d, rfl, hC, hz.put, h1, ext_five hE h1 _ _ _ _ _⟩
end
end
section
open Go Go.RowKit Go.Sort
theorem F256.mk {z : Int} (h : z.natAbs < 170141183460469231731687303715884105728) : F256 z := by unfold F256; omega
theorem Frac.fn {n d : Int} (h : Frac n d) : F256 n := F256.mk h.2.1
theorem Frac.fd {n d : Int} (h : Frac n d) : F256 d := F256.mk h.2.2.1
theorem Frac.ok {n d : Int} (h : Frac n d) : decide (RatOk (sg n) n (sg d) d) = true := decide_eq_true ⟨(isC_of h.fn).2, (isC_of h.fd).2, h⟩
end
section
open Go Go.RowKit
theorem shr_cast' (u m : Nat) : (u : Int) / 2 ^ m = ((u >>> m : Nat) : Int) := by rw [Nat.shiftRight_eq_div_pow]; simp
theorem shr_le' {u q k : Nat} (hu : u < 18446744073709551616) (h : k ≤ q) : u >>> q ≤ 18446744073709551615 / 2 ^ k := by
 rw [Nat.shiftRight_eq_div_pow]
 exact Nat.le_trans (Nat.div_le_div_left (Nat.pow_le_pow_right (by omega) h) (Nat.two_pow_pos k)) (Nat.div_le_div_right (by omega))
def Tol (v : Int) : Prop := 0 ≤ v ∧ v ≤ 4611686018427387904
set_option maxHeartbeats 3200000 in
set_option maxRecDepth 100000 in
theorem t_tol (B b : Nat) (W w : World) (hT : TapeOk B w b) (hU : Upd b W w) : Calls Try.prog 17 #[.pointer (some ⟨b, 0, none⟩)] w (NextPost B b Tol .i64 W) := by
 have i8 : I64 8 := ⟨by omega, by omega⟩
 have i2 : I64 2 := ⟨by omega, by omega⟩
 have i60 : I64 60 := ⟨by omega, by omega⟩
 have i30 : I64 30 := ⟨by omega, by omega⟩
 have HT := hide hT
 have HU := hide hU
 clear hT hU
 go_enter Try.func17, Try.ntmps17
 go_upto_region 2 with (go_at_call 11; (with_reducible refine (t_next B b 8 _ i8 HT.out).mono ?_); rintro e w1 ⟨x, rfl, hx, T1, u1⟩; have T1 := hide T1; have U1 := hide (HU.out.trans u1); have x0 := hx.1; clear hx u1 HT HU)
 by_cases h0 : x = 0
 · have d0 : (x == 0) = true := by rw [beq_iff_eq]; exact h0
   clear h0 x0
   go_wp2_with fail
   go_ret
   exact ⟨0, rfl, ⟨by omega, by omega⟩, T1.out, U1.out⟩
 have d0 : (x == 0) = false := by rw [beq_eq_false_iff_ne]; exact h0
 by_cases h1 : x = 1
 · have d1 : (x == 1) = true := by rw [beq_iff_eq]; exact h1
   clear h0 x0 h1
   go_upto_region 5 with fail
   go_upto_region 9 with (go_at_call 11; (with_reducible refine (t_next B b 2 _ i2 T1.out).mono ?_); rintro e w2 ⟨y, rfl, hy, T2, u2⟩; have T2 := hide T2; have U2 := hide (U1.out.trans u2); have y0 := hy.1; have y1 := hy.2.1 (by omega); obtain ⟨z, hz⟩ : ∃ z, 4611686018427387904 - y = z := ⟨_, rfl⟩; have z1 : 0 ≤ z := (by omega); have z2 : z ≤ 4611686018427387904 := (by omega); clear hy u2 T1 U1 y0 y1)
   go_ret
   exact ⟨z, rfl, ⟨z1, z2⟩, T2.out, U2.out⟩
 have d1 : (x == 1) = false := by rw [beq_eq_false_iff_ne]; exact h1
 by_cases h2 : x = 2
 · have d2 : (x == 2) = true := by rw [beq_iff_eq]; exact h2
   clear h0 x0 h1 h2
   go_upto_region 7 with fail
   go_wp2_with (first
     | (go_at_call 41; (with_reducible refine (t_word B b _ T1.out).mono ?_); rintro e w3 ⟨u, rfl, hu, T3, u3⟩; obtain ⟨xw, rfl⟩ := Int.eq_ofNat_of_zero_le hu.1; have hxw : xw < 18446744073709551616 := (by have := hu.2; omega); have T3 := hide T3; have U3 := hide (U1.out.trans u3); clear hu u3 T1 U1)
     | (go_at_call 11; (with_reducible refine (t_next B b 60 _ i60 T3.out).mono ?_); rintro e w4 ⟨s, rfl, hs, T4, u4⟩; obtain ⟨y, rfl⟩ := Int.eq_ofNat_of_zero_le hs.1; have hy : y < 60 := (by have := hs.2.1 (by omega); omega); obtain ⟨q, hq⟩ : ∃ q : Nat, 2 + y = q := ⟨_, rfl⟩; have eq1 : (2 : Int) + (y : Int) = (q : Int) := (by omega); have hr := shr_le' (q := q) (k := 2) hxw (by omega); have e1 := shr_cast' xw q; obtain ⟨r, hrr⟩ : ∃ r, xw >>> q = r := ⟨_, rfl⟩; rw [hrr] at e1 hr; have hr2 : r ≤ 4611686018427387904 := (Nat.le_trans hr (by decide)); have hq2 : q ≤ 64 := (by omega); clear hq hr hrr; have T4 := hide T4; have U4 := hide (U3.out.trans u4); clear hs u4 T3 U3))
   go_ret
   exact ⟨r, by go_num, ⟨by omega, by omega⟩, T4.out, U4.out⟩
 have d2 : (x == 2) = false := by rw [beq_eq_false_iff_ne]; exact h2
 clear h0 x0 h1 h2
 go_wp2_with (go_at_call 11; (with_reducible refine (t_next B b 30 _ i30 T1.out).mono ?_); rintro e w2 ⟨y, rfl, hy, T2, u2⟩; have T2 := hide T2; have U2 := hide (U1.out.trans u2); have y0 := hy.1; have y1 := hy.2.1 (by omega); clear hy u2 T1 U1)
 go_ret
 exact ⟨y, rfl, ⟨y0, by omega⟩, T2.out, U2.out⟩
end
section
open Go Go.RowKit
def Blk (w : World) (g : Nat) (t : TypeId) (cs : Array Value) : Prop := w.heap[g]? = some (.cells cs t (0, 0))
section
variable {w w' : World} {g : Nat} {t : TypeId} {cs : Array Value}
theorem Blk.lt (h : Blk w g t cs) : g < w.heap.size := (Array.getElem?_eq_some_iff.1 h).1
theorem Blk.cell (h : Blk w g t cs) (i : Nat) : w.cell? ⟨g, i, none⟩ = cs[i]? := cell_of_row w g i cs t (0, 0) h
theorem Blk.frozen (h : Blk w g t cs) (i : Nat) : w.frozen? ⟨g, i, none⟩ = false := by
 unfold Blk at h
 simp [World.frozen?, h]
theorem Blk.new (w : World) (t : TypeId) (cs : Array Value) : Blk (w.alloc (.cells cs t)) w.heap.size t cs := heap_alloc_new w _
theorem Blk.drew (h : Blk w g t cs) : Blk w.drew g t cs := h
theorem Blk.drewN (h : Blk w g t cs) (n : Nat) : Blk (w.drewN n) g t cs := h
theorem Blk.alloc (h : Blk w g t cs) (o : Obj) : Blk (w.alloc o) g t cs := (Below.heap_alloc w o g h.lt).trans h
theorem Blk.set_ (h : Blk w g t cs) (i : Nat) (u : Value) : Blk (w.setCell ⟨g, i, none⟩ u) g t (cs.setIfInBounds i u) := by
 unfold Blk at h ⊢
 simp [World.setCell, Array.getElem?_modify, h]
theorem Blk.far (h : Blk w g t cs) {p : Addr} (hp : g ≠ p.block) (u : Value) : Blk (w.setCell p u) g t cs := (Below.heap_setCell w p u g hp).trans h
theorem Blk.ext (h : Blk w g t cs) (e : Ext w w') : Blk w' g t cs := (e.block g h.lt).trans h
theorem Blk.setRow (h : Blk w g t cs) (ds : Array Value) : Blk (w.setRow g ds) g t ds := by
 unfold Blk at h ⊢
 simp [World.setRow, Array.getElem?_modify, h]
end
def IsB (l : List Nat) : Prop := ∀ x ∈ l, x < 256
theorem IsB.nil : IsB [] := by intro x hx; simp at hx
theorem IsB.app {l m : List Nat} (h : IsB l) (k : IsB m) : IsB (l ++ m) := by
 intro x hx; rcases List.mem_append.1 hx with a | a
 · exact h x a
 · exact k x a
theorem IsB.one {x : Nat} (h : x < 256) : IsB [x] := by intro y hy; simp at hy; omega
theorem IsB.take {l : List Nat} (h : IsB l) (k : Nat) : IsB (l.take k) := fun x hx => h x (List.mem_of_mem_take hx)
theorem IsB.drop {l : List Nat} (h : IsB l) (k : Nat) : IsB (l.drop k) := fun x hx => h x (List.mem_of_mem_drop hx)
theorem IsB.get {l : List Nat} (h : IsB l) (k : Nat) : l.getD k 0 < 256 := by
 rw [List.getD_eq_getElem?_getD]
 cases hk : l[k]? with
 | none => simp
 | some x => exact h x (List.mem_of_getElem? hk)
def u8s (l : List Nat) : List Value := l.map fun x : Nat => Value.int .u8 (x : Int)
def BytesAt (w : World) (A : Option Addr) (l : List Nat) : Prop :=
 IsB l ∧ l.length ≤ 9223372036854775807 ∧ (0 < l.length → ∃ b off, A = some ⟨b, off, none⟩ ∧ b < w.heap.size ∧ ∀ j, j < l.length → w.cell? ⟨b, off + j, none⟩ = some (.int .u8 ((l.getD j 0 : Nat) : Int)))
theorem BytesAt.nil (w : World) (A : Option Addr) : BytesAt w A [] := ⟨IsB.nil, by simp, fun h => absurd h (by simp)⟩
theorem BytesAt.ext {w w' : World} {A : Option Addr} {l : List Nat} (h : BytesAt w A l) (e : Ext w w') : BytesAt w' A l :=
 ⟨h.1, h.2.1, fun hp => by
   obtain ⟨b, off, hA, hb, hc⟩ := h.2.2 hp
   exact ⟨b, off, hA, Nat.lt_of_lt_of_le hb e.size, fun j hj => (e.cell (p := ⟨b, off + j, none⟩) hb).trans (hc j hj)⟩⟩
theorem BytesAt.keep {w w' : World} {A : Option Addr} {l : List Nat} (h : BytesAt w A l) (hs : w.heap.size ≤ w'.heap.size) (e : ∀ b off, A = some ⟨b, off, none⟩ → b < w.heap.size → w'.heap[b]? = w.heap[b]?) : BytesAt w' A l :=
 ⟨h.1, h.2.1, fun hp => by
   obtain ⟨b, off, hA, hb, hc⟩ := h.2.2 hp
   exact ⟨b, off, hA, Nat.lt_of_lt_of_le hb hs, fun j hj => (World.cell?_of_block (a := ⟨b, off + j, none⟩) (e b off hA hb)).trans (hc j hj)⟩⟩
theorem BytesAt.drop {w : World} {A : Option Addr} {l : List Nat} (h : BytesAt w A l) (k cap : Nat) (hc : l.length ≤ cap) :
   BytesAt w (if cap = k then A else A.map (·.add (k * 1))) (l.drop k) := by
 refine ⟨h.1.drop k, by rw [List.length_drop]; have := h.2.1; omega, fun hp => ?_⟩
 rw [List.length_drop] at hp
 obtain ⟨b, off, rfl, hb, hcl⟩ := h.2.2 (by omega)
 rw [if_neg (by omega)]
 refine ⟨b, off + k, by
   simp only [Option.map_some, Option.some.injEq]
   unfold Addr.add
   split
   · rename_i h0; simp only [Addr.mk.injEq, and_true, true_and]; omega
   · simp, hb, fun j hj => ?_⟩
 rw [List.length_drop] at hj
 rw [Nat.add_assoc, hcl (k + j) (by omega)]
 simp [List.getD_eq_getElem?_getD, List.getElem?_drop]
theorem BytesAt.take {w : World} {A : Option Addr} {l : List Nat} (h : BytesAt w A l) (k : Nat) : BytesAt w A (l.take k) := by
 refine ⟨h.1.take k, by rw [List.length_take]; have := h.2.1; omega, fun hp => ?_⟩
 rw [List.length_take] at hp
 obtain ⟨b, off, rfl, hb, hcl⟩ := h.2.2 (by omega)
 refine ⟨b, off, rfl, hb, fun j hj => ?_⟩
 rw [List.length_take] at hj
 rw [hcl j (by omega)]
 simp [List.getD_eq_getElem?_getD, List.getElem?_take, show j < k by omega]
theorem getD_lt {l : List Nat} {k : Nat} (h : k < l.length) : l.getD k 0 = l[k] := by simp [List.getD_eq_getElem?_getD, h]
def OwnB (B : Nat) (w : World) (v : Value) (l : List Nat) : Prop := w.ownsRow B 5 1 v l.length (u8s l) ∧ IsB l
theorem OwnB.at_ {B : Nat} {w : World} {v : Value} {l : List Nat} (h : OwnB B w v l) : ∃ A cap, v = .slice A l.length cap ∧ l.length ≤ cap ∧ cap ≤ 9223372036854775807 ∧ BytesAt w A l := by
 rcases h.1.2 with ⟨rfl, h0⟩ | ⟨g, cap, cur, rfl, hg, hh, hnc, hcp, hcs, htake⟩
 · obtain rfl : l = [] := List.length_eq_zero_iff.1 h0
   exact ⟨none, 0, rfl, Nat.le_refl _, by omega, BytesAt.nil _ _⟩
 · unfold maxLen at hcp
   refine ⟨_, cap, rfl, hnc, hcp, h.2, by omega, fun _ => ⟨g, 0, rfl, (Array.getElem?_eq_some_iff.1 hh).1, fun j hj => ?_⟩⟩
   have := h.1.cells (g := g) rfl j (Value.int .u8 ((l.getD j 0 : Nat) : Int)) (by rw [getD_lt hj]; simp [u8s, hj])
   have e : (⟨g, 0, none⟩ : Addr).add j = ⟨g, 0 + j, none⟩ := by unfold Addr.add; split <;> simp_all
   rw [e] at this
   exact this
theorem OwnB.kept {B : Nat} {w w' : World} {v : Value} {l : List Nat} (h : OwnB B w v l) {row : Option Nat} (hg : w.grownBy w' row) (hne : v.ownBlock = none ∨ v.ownBlock ≠ row) : OwnB B w' v l := ⟨h.1.kept hg hne, h.2⟩
theorem OwnB.alloc {B : Nat} {w : World} {v : Value} {l : List Nat} (h : OwnB B w v l) (o : Obj) : OwnB B (w.alloc o) v l := ⟨h.1.alloc o, h.2⟩
theorem OwnB.drew {B : Nat} {w : World} {v : Value} {l : List Nat} (h : OwnB B w v l) : OwnB B w.drew v l := h
theorem OwnB.nil_ (B : Nat) (w : World) : OwnB B w (.slice none 0 0) [] := ⟨World.ownsRow_nil _ _ _ _, IsB.nil⟩
theorem OwnB.keep {B : Nat} {w w' : World} {v : Value} {l : List Nat} (h : OwnB B w v l) (hs : w.heap.size ≤ w'.heap.size) (e : ∀ g, v.ownBlock = some g → w'.heap[g]? = w.heap[g]?) : OwnB B w' v l := by
 refine ⟨?_, h.2⟩
 obtain ⟨h1, h2 | ⟨g, cap, cur, hv, hg, hh, r⟩⟩ := h.1
 · exact ⟨h1, Or.inl h2⟩
 · exact ⟨h1, Or.inr ⟨g, cap, cur, hv, hg, by rw [e g (by rw [hv]; rfl)]; exact hh, r⟩⟩
theorem OwnB.ext {B : Nat} {w w' : World} {v : Value} {l : List Nat} (h : OwnB B w v l) (e : Ext w w') : OwnB B w' v l := by
 refine ⟨?_, h.2⟩
 obtain ⟨h1, h2 | ⟨g, cap, cur, hv, hg, hh, r⟩⟩ := h.1
 · exact ⟨h1, Or.inl h2⟩
 · exact ⟨h1, Or.inr ⟨g, cap, cur, hv, hg, by rw [e.block g (Array.getElem?_eq_some_iff.1 hh).1]; exact hh, r⟩⟩
theorem OwnB.less {B B' : Nat} {w : World} {v : Value} {l : List Nat} (h : OwnB B w v l) (hB : B' ≤ B) : OwnB B' w v l := by
 refine ⟨?_, h.2⟩
 obtain ⟨h1, h2 | ⟨g, cap, cur, hv, hg, r⟩⟩ := h.1
 · exact ⟨h1, Or.inl h2⟩
 · exact ⟨h1, Or.inr ⟨g, cap, cur, hv, by omega, r⟩⟩
def OwnRet (l : List Nat) (w : World) (e : Ending) (w' : World) : Prop := ∃ v, e = .returned v ∧ OwnB w.heap.size w' v l ∧ Ext w w'
end
section
open Go Go.RowKit
def IsQ (l : List Nat) : Prop := ∀ x ∈ l, x < 18446744073709551616
end
section
open Go Go.RowKit
theorem add_at (b off j : Nat) : (⟨b, off, none⟩ : Addr).add j = ⟨b, off + j, none⟩ := by unfold Addr.add; split <;> simp_all
theorem BytesAt.below {W w w' : World} {A : Option Addr} {l : List Nat} (h : BytesAt W A l) (e : Below W.heap.size W w) : BytesAt w A l := h.ext e
end
section
open Go Go.RowKit
theorem OwnB.upd {B b : Nat} {w w' : World} {v : Value} {l : List Nat} (h : OwnB B w v l) (u : Upd b w w') (hb : b < B) : OwnB B w' v l := by
 refine ⟨?_, h.2⟩
 obtain ⟨h1, h2 | ⟨g, cap, cur, hv, hg, hh, r⟩⟩ := h.1
 · exact ⟨h1, Or.inl h2⟩
 · exact ⟨h1, Or.inr ⟨g, cap, cur, hv, hg, by rw [u.2.2.2.2 g (Array.getElem?_eq_some_iff.1 hh).1 (by omega)]; exact hh, r⟩⟩
theorem BytesAt.upd {b : Nat} {w w' : World} {A : Option Addr} {l : List Nat} (h : BytesAt w A l) (u : Upd b w w') (hb : ∀ g off, A = some ⟨g, off, none⟩ → g ≠ b) : BytesAt w' A l :=
 h.keep u.2.2.2.1 fun g off hA hg => u.2.2.2.2 g hg (hb g off hA)
theorem grown_below {w w' : World} {row : Option Nat} (h : w.grownBy w' row) (B : Nat) (hB : B ≤ w.heap.size) (hr : ∀ k, row = some k → B ≤ k) : Below B w w' := (Below.refl B w).grown h hB hr
theorem upd_grown {W w w' : World} {row : Option Nat} {b : Nat} (u : Upd b W w) (h : w.grownBy w' row) (hr : ∀ k, row = some k → W.heap.size ≤ k) : Upd b W w' :=
 ⟨h.os.trans u.1, h.tape.trans u.2.1, h.output.trans u.2.2.1, Nat.le_trans u.2.2.2.1 h.size, fun k hk hn => (h.block k (Nat.lt_of_lt_of_le hk u.2.2.2.1) (fun e => by have := hr k e.symm; omega)).trans (u.2.2.2.2 k hk hn)⟩
end
section
open Go Go.RowKit
def w5 (C i : Nat) : Nat := C / 18446744073709551616 ^ i % 18446744073709551616
end
section
open Go Go.RowKit
theorem IsQ.nil : IsQ [] := by intro x hx; simp at hx
theorem IsQ.app {l m : List Nat} (h : IsQ l) (k : IsQ m) : IsQ (l ++ m) := by
 intro x hx; rcases List.mem_append.1 hx with a | a
 · exact h x a
 · exact k x a
theorem IsQ.one {x : Nat} (h : x < 18446744073709551616) : IsQ [x] := by intro y hy; simp at hy; omega
theorem IsQ.take {l : List Nat} (h : IsQ l) (k : Nat) : IsQ (l.take k) := fun x hx => h x (List.mem_of_mem_take hx)
theorem IsQ.drop {l : List Nat} (h : IsQ l) (k : Nat) : IsQ (l.drop k) := fun x hx => h x (List.mem_of_mem_drop hx)
theorem IsQ.get {l : List Nat} (h : IsQ l) (k : Nat) : l.getD k 0 < 18446744073709551616 := by
 rw [List.getD_eq_getElem?_getD]
 cases hk : l[k]? with
 | none => simp
 | some x => exact h x (List.mem_of_getElem? hk)
def q8s (l : List Nat) : List Value := l.map fun x : Nat => Value.int .u64 (x : Int)
def WordsAt (w : World) (A : Option Addr) (l : List Nat) : Prop :=
 IsQ l ∧ l.length ≤ 9223372036854775807 ∧ (0 < l.length → ∃ b off, A = some ⟨b, off, none⟩ ∧ b < w.heap.size ∧ ∀ j, j < l.length → w.cell? ⟨b, off + j, none⟩ = some (.int .u64 ((l.getD j 0 : Nat) : Int)))
theorem WordsAt.nil (w : World) (A : Option Addr) : WordsAt w A [] := ⟨IsQ.nil, by simp, fun h => absurd h (by simp)⟩
theorem WordsAt.ext {w w' : World} {A : Option Addr} {l : List Nat} (h : WordsAt w A l) (e : Ext w w') : WordsAt w' A l :=
 ⟨h.1, h.2.1, fun hp => by
   obtain ⟨b, off, hA, hb, hc⟩ := h.2.2 hp
   exact ⟨b, off, hA, Nat.lt_of_lt_of_le hb e.size, fun j hj => (e.cell (p := ⟨b, off + j, none⟩) hb).trans (hc j hj)⟩⟩
theorem WordsAt.keep {w w' : World} {A : Option Addr} {l : List Nat} (h : WordsAt w A l) (hs : w.heap.size ≤ w'.heap.size) (e : ∀ b off, A = some ⟨b, off, none⟩ → b < w.heap.size → w'.heap[b]? = w.heap[b]?) : WordsAt w' A l :=
 ⟨h.1, h.2.1, fun hp => by
   obtain ⟨b, off, hA, hb, hc⟩ := h.2.2 hp
   exact ⟨b, off, hA, Nat.lt_of_lt_of_le hb hs, fun j hj => (World.cell?_of_block (a := ⟨b, off + j, none⟩) (e b off hA hb)).trans (hc j hj)⟩⟩
theorem WordsAt.drop {w : World} {A : Option Addr} {l : List Nat} (h : WordsAt w A l) (k cap : Nat) (hc : l.length ≤ cap) :
   WordsAt w (if cap = k then A else A.map (·.add (k * 1))) (l.drop k) := by
 refine ⟨h.1.drop k, by rw [List.length_drop]; have := h.2.1; omega, fun hp => ?_⟩
 rw [List.length_drop] at hp
 obtain ⟨b, off, rfl, hb, hcl⟩ := h.2.2 (by omega)
 rw [if_neg (by omega)]
 refine ⟨b, off + k, by
   simp only [Option.map_some, Option.some.injEq]
   unfold Addr.add
   split
   · rename_i h0; simp only [Addr.mk.injEq, and_true, true_and]; omega
   · simp, hb, fun j hj => ?_⟩
 rw [List.length_drop] at hj
 rw [Nat.add_assoc, hcl (k + j) (by omega)]
 simp [List.getD_eq_getElem?_getD, List.getElem?_drop]
theorem WordsAt.take {w : World} {A : Option Addr} {l : List Nat} (h : WordsAt w A l) (k : Nat) : WordsAt w A (l.take k) := by
 refine ⟨h.1.take k, by rw [List.length_take]; have := h.2.1; omega, fun hp => ?_⟩
 rw [List.length_take] at hp
 obtain ⟨b, off, rfl, hb, hcl⟩ := h.2.2 (by omega)
 refine ⟨b, off, rfl, hb, fun j hj => ?_⟩
 rw [List.length_take] at hj
 rw [hcl j (by omega)]
 simp [List.getD_eq_getElem?_getD, List.getElem?_take, show j < k by omega]
def OwnQ (B : Nat) (w : World) (v : Value) (l : List Nat) : Prop := w.ownsRow B 22 1 v l.length (q8s l) ∧ IsQ l
theorem OwnQ.at_ {B : Nat} {w : World} {v : Value} {l : List Nat} (h : OwnQ B w v l) : ∃ A cap, v = .slice A l.length cap ∧ l.length ≤ cap ∧ cap ≤ 9223372036854775807 ∧ WordsAt w A l := by
 rcases h.1.2 with ⟨rfl, h0⟩ | ⟨g, cap, cur, rfl, hg, hh, hnc, hcp, hcs, htake⟩
 · obtain rfl : l = [] := List.length_eq_zero_iff.1 h0
   exact ⟨none, 0, rfl, Nat.le_refl _, by omega, WordsAt.nil _ _⟩
 · unfold maxLen at hcp
   refine ⟨_, cap, rfl, hnc, hcp, h.2, by omega, fun _ => ⟨g, 0, rfl, (Array.getElem?_eq_some_iff.1 hh).1, fun j hj => ?_⟩⟩
   have := h.1.cells (g := g) rfl j (Value.int .u64 ((l.getD j 0 : Nat) : Int)) (by rw [getD_lt hj]; simp [q8s, hj])
   have e : (⟨g, 0, none⟩ : Addr).add j = ⟨g, 0 + j, none⟩ := by unfold Addr.add; split <;> simp_all
   rw [e] at this
   exact this
theorem OwnQ.kept {B : Nat} {w w' : World} {v : Value} {l : List Nat} (h : OwnQ B w v l) {row : Option Nat} (hg : w.grownBy w' row) (hne : v.ownBlock = none ∨ v.ownBlock ≠ row) : OwnQ B w' v l := ⟨h.1.kept hg hne, h.2⟩
theorem OwnQ.alloc {B : Nat} {w : World} {v : Value} {l : List Nat} (h : OwnQ B w v l) (o : Obj) : OwnQ B (w.alloc o) v l := ⟨h.1.alloc o, h.2⟩
theorem OwnQ.drew {B : Nat} {w : World} {v : Value} {l : List Nat} (h : OwnQ B w v l) : OwnQ B w.drew v l := h
theorem OwnQ.nil_ (B : Nat) (w : World) : OwnQ B w (.slice none 0 0) [] := ⟨World.ownsRow_nil _ _ _ _, IsQ.nil⟩
theorem OwnQ.keep {B : Nat} {w w' : World} {v : Value} {l : List Nat} (h : OwnQ B w v l) (hs : w.heap.size ≤ w'.heap.size) (e : ∀ g, v.ownBlock = some g → w'.heap[g]? = w.heap[g]?) : OwnQ B w' v l := by
 refine ⟨?_, h.2⟩
 obtain ⟨h1, h2 | ⟨g, cap, cur, hv, hg, hh, r⟩⟩ := h.1
 · exact ⟨h1, Or.inl h2⟩
 · exact ⟨h1, Or.inr ⟨g, cap, cur, hv, hg, by rw [e g (by rw [hv]; rfl)]; exact hh, r⟩⟩
theorem OwnQ.ext {B : Nat} {w w' : World} {v : Value} {l : List Nat} (h : OwnQ B w v l) (e : Ext w w') : OwnQ B w' v l := by
 refine ⟨?_, h.2⟩
 obtain ⟨h1, h2 | ⟨g, cap, cur, hv, hg, hh, r⟩⟩ := h.1
 · exact ⟨h1, Or.inl h2⟩
 · exact ⟨h1, Or.inr ⟨g, cap, cur, hv, hg, by rw [e.block g (Array.getElem?_eq_some_iff.1 hh).1]; exact hh, r⟩⟩
theorem OwnQ.less {B B' : Nat} {w : World} {v : Value} {l : List Nat} (h : OwnQ B w v l) (hB : B' ≤ B) : OwnQ B' w v l := by
 refine ⟨?_, h.2⟩
 obtain ⟨h1, h2 | ⟨g, cap, cur, hv, hg, r⟩⟩ := h.1
 · exact ⟨h1, Or.inl h2⟩
 · exact ⟨h1, Or.inr ⟨g, cap, cur, hv, by omega, r⟩⟩
theorem OwnQ.upd {B b : Nat} {w w' : World} {v : Value} {l : List Nat} (h : OwnQ B w v l) (u : Upd b w w') (hb : b < B) : OwnQ B w' v l := by
 refine ⟨?_, h.2⟩
 obtain ⟨h1, h2 | ⟨g, cap, cur, hv, hg, hh, r⟩⟩ := h.1
 · exact ⟨h1, Or.inl h2⟩
 · exact ⟨h1, Or.inr ⟨g, cap, cur, hv, hg, by rw [u.2.2.2.2 g (Array.getElem?_eq_some_iff.1 hh).1 (by omega)]; exact hh, r⟩⟩
theorem WordsAt.upd {b : Nat} {w w' : World} {A : Option Addr} {l : List Nat} (h : WordsAt w A l) (u : Upd b w w') (hb : ∀ g off, A = some ⟨g, off, none⟩ → g ≠ b) : WordsAt w' A l :=
 h.keep u.2.2.2.1 fun g off hA hg => u.2.2.2.2 g hg (hb g off hA)
end
section
open Go Go.RowKit
inductive Tag | q | al | st (j : Nat) | so (k : Nat)
 deriving DecidableEq
def dstOf (l : List Oper) (i : Nat) : Option Tmp := (l[i]?).bind (·.dst)
def dep (o : Oper) (k : Nat) : Bool := o.after.any fun e => Region.binds .any e && e.on == k
def anc (l : List Oper) : Nat → Nat → Nat → Bool
 | 0, _, _ => false
 | n + 1, s, i => match l[s]? with
   | none => false
   | some o => dep o i || (List.range l.length).any fun k => dep o k && anc l n k i
def ptrTo (g : Nat) : Value := .pointer (some ⟨g, 0, none⟩)
def Same (kd : List Tag) (tgt : Nat → Nat) (W w : World) : Prop := w.os = W.os ∧ w.tape = W.tape ∧ w.output = W.output ∧ W.heap.size ≤ w.heap.size ∧ ∀ k, k < W.heap.size → (∀ c, .so c ∈ kd → tgt c ≠ k) → w.heap[k]? = W.heap[k]?
def qUpon (P : Program) (w : World) (v : Value) : Result Next → Prop
 | .ok (.value u) w' => w' = w ∧ u = v
 | .ok (.enter f args) w' => w' = w ∧ Calls P f args w (fun e w'' => e = .returned v ∧ Below w.heap.size w w'')
 | _ => False
def Stores (P : Program) (ρ : Operand → Value) (o : Oper) (w : World) (g : Nat) (f : Obj) : Prop := ∃ w1, (execOp ρ o).run P w = .ok .skip w1 ∧ w1.heap[g]? = some f ∧ (∀ k, k ≠ g → w1.heap[k]? = w.heap[k]?) ∧ w1.heap.size = w.heap.size ∧ w1.os = w.os ∧ w1.tape = w.tape ∧ w1.output = w.output
def AllOps (R : Nat → Oper → Prop) : Nat → List Oper → Prop
 | i, o :: l => R i o ∧ AllOps R (i + 1) l
 | _, [] => True
theorem AllOps.get {R : Nat → Oper → Prop} : ∀ {l : List Oper} {k : Nat}, AllOps R k l → ∀ i o, l[i]? = some o → R (k + i) o
 | [], _, _, i, o, h => by simp at h
 | x :: l, k, hA, 0, o, h => by
   obtain rfl : x = o := by simpa using h
   exact hA.1
 | x :: l, k, hA, i + 1, o, h => by
   have := AllOps.get hA.2 i o (by simpa using h)
   rwa [Nat.add_assoc, Nat.add_comm 1 i] at this
section
variable {l : List Oper} {kd : List Tag} {V : List Value}
theorem put_size (a : Act) (d : Option Tmp) (v : Value) : (a.put d v).tmps.size = a.tmps.size := by cases d <;> simp [Act.put]
def OneWriter (l : List Oper) : Prop := ∀ i j t, dstOf l i = some t → dstOf l j = some t → i = j
theorem dst_lt {k : Nat} {t : Tmp} (h : dstOf l k = some t) : k < l.length := by
 unfold dstOf at h
 cases hx : l[k]? with
 | none => rw [hx] at h; simp at h
 | some o => exact (List.getElem?_eq_some_iff.1 hx).1
theorem ready_spec {listed : Array Bool} {i : Nat} (h : i ∈ Region.ready .any l.toArray listed) : ∃ o, l[i]? = some o ∧ listed.getD i true = false ∧ ∀ k, dep o k = true → listed.getD k false = true := by
 unfold Region.ready at h
 rw [List.mem_filter] at h
 obtain ⟨h1, h2⟩ := h
 simp only [Bool.and_eq_true] at h2
 obtain ⟨h2, h3⟩ := h2
 have hi : i < l.length := by simpa using h1
 refine ⟨l[i], List.getElem?_eq_getElem hi, by simpa using h2, ?_⟩
 intro k hk
 rw [List.getElem?_toArray, List.getElem?_eq_getElem hi] at h3
 simp only [Option.map_some, Option.getD_some] at h3
 unfold dep at hk
 rw [Array.any_eq_true'] at hk
 obtain ⟨e, he, hb⟩ := hk
 simp only [Bool.and_eq_true, beq_iff_eq] at hb
 have := Array.all_eq_true_iff_forall_mem.1 h3 e he
 rw [hb.1, hb.2] at this
 simpa using this
theorem kept {w w' : World} {k : Nat} {x : Obj} (h : Below w.heap.size w w') (e : w.heap[k]? = some x) : w'.heap[k]? = some x := by
 rw [h.block k (Array.getElem?_eq_some_iff.1 e).1]; exact e
theorem Same.below {tgt : Nat → Nat} {W w w' : World} (h : Same kd tgt W w) (k : Below w.heap.size w w') : Same kd tgt W w' :=
 ⟨k.os.trans h.1, k.tape.trans h.2.1, k.output.trans h.2.2.1, Nat.le_trans h.2.2.2.1 k.size, fun j hj hc => (k.block j (Nat.lt_of_lt_of_le hj h.2.2.2.1)).trans (h.2.2.2.2 j hj hc)⟩
variable {zero full : Nat → Obj} {tgt : Nat → Nat} {a0 : Act} {W : World} {S : List Nat} {G : Nat → Nat} {w : World}
theorem nodup_sub : ∀ (T S : List Nat), T.Nodup → (∀ x ∈ T, x ∈ S) → T.length ≤ S.length
 | [], _, _, _ => by simp
 | x :: T, S, hn, h => by
   obtain ⟨hx, hn'⟩ := List.nodup_cons.1 hn
   have h1 := h x (by simp)
   have h2 := nodup_sub T (S.erase x) hn' (fun y hy => (List.mem_erase_of_ne (fun e => hx (by rw [← e]; exact hy))).2 (h y (by simp [hy])))
   rw [List.length_erase_of_mem h1] at h2
   have h3 : 0 < S.length := List.length_pos_of_mem h1
   simp only [List.length_cons]
   omega
theorem nodup_snoc {i : Nat} (h : S.Nodup) (hi : i ∉ S) : (S ++ [i]).Nodup := by
 rw [List.nodup_append]
 refine ⟨h, by simp, ?_⟩
 intro a ha b hb
 simp at hb
 subst hb
 intro e; subst e; exact hi ha
theorem anc_in (hc : ∀ s ∈ S, ∀ o, l[s]? = some o → ∀ k, dep o k = true → k ∈ S) : ∀ (n s i : Nat), s ∈ S → anc l n s i = true → i ∈ S
 | 0, _, _, _, h => by simp [anc] at h
 | n + 1, s, i, hs, h => by
   unfold anc at h
   split at h
   · simp at h
   · rename_i o ho
     simp only [Bool.or_eq_true, List.any_eq_true, Bool.and_eq_true] at h
     rcases h with h | ⟨k, _, hk, h⟩
     · exact hc s hs o ho i h
     · exact anc_in hc n k i (hc s hs o ho k hk) h
theorem anc_lt {n s i : Nat} (h : anc l n s i = true) : s < l.length := by
 cases n with
 | zero => simp [anc] at h
 | succ n =>
   unfold anc at h
   split at h
   · simp at h
   · rename_i o ho
     exact (List.getElem?_eq_some_iff.1 ho).1
theorem cl_snoc {i : Nat} (hc : ∀ s ∈ S, ∀ o, l[s]? = some o → ∀ k, dep o k = true → k ∈ S) (hi : ∀ o, l[i]? = some o → ∀ k, dep o k = true → k ∈ S) : ∀ s ∈ S ++ [i], ∀ o, l[s]? = some o → ∀ k, dep o k = true → k ∈ S ++ [i] := by
 intro s hs o ho k hk
 rcases List.mem_append.1 hs with h | h
 · exact List.mem_append.2 (Or.inl (hc s h o ho k hk))
 · simp at h; subst h
   exact List.mem_append.2 (Or.inl (hi o ho k hk))
theorem below_alloc (w : World) (o : Obj) : Below w.heap.size w (w.alloc o) := (Below.refl _ _).alloc (Nat.le_refl _) o
def Filled (w w1 : World) (g : Nat) (f : Obj) : Prop := w1.heap[g]? = some f ∧ (∀ k, k ≠ g → w1.heap[k]? = w.heap[k]?) ∧ w1.heap.size = w.heap.size ∧ w1.os = w.os ∧ w1.tape = w.tape ∧ w1.output = w.output
def dstB (l : List Oper) (n : Nat) : Bool := l.all fun o => match o.dst with | some d => decide (d < n) | none => true
theorem dst_in {n : Nat} (h : dstB l n = true) {i : Nat} {t : Tmp} (ht : dstOf l i = some t) : t < n := by
 unfold dstB at h
 rw [List.all_eq_true] at h
 have hi := dst_lt ht
 have := h l[i] (List.getElem_mem hi)
 have hd : l[i].dst = some t := by unfold dstOf at ht; rw [List.getElem?_eq_getElem hi] at ht; simpa using ht
 rw [hd] at this
 simpa using this
variable {P : Program} {Q : Exit → Act → World → Prop} {C : World → Prop}
def slotV (t : Tag) (v : Value) (g : Nat) : Value := match t with | .q => v | .al => ptrTo g | _ => undef
def putAll : List Oper → List Tag → List Value → (Nat → Nat) → Nat → Act → Act
 | o :: l, t :: kd, v :: V, G, i, a => putAll l kd V G (i + 1) (a.put o.dst (slotV t v (G i)))
 | _, _, _, _, _, a => a
theorem Same.block {W w : World} (h : Same kd tgt W w) {g : Nat} {x : Obj} (hx : W.heap[g]? = some x) (hc : ∀ c, Tag.so c ∈ kd → tgt c ≠ g) : w.heap[g]? = some x := by
 rw [h.2.2.2.2 g (Array.getElem?_eq_some_iff.1 hx).1 hc]; exact hx
theorem Same.ext {W0 W w : World} (h : Same kd tgt W w) (k : Below W0.heap.size W0 W) (hc : ∀ c, Tag.so c ∈ kd → W0.heap.size ≤ tgt c) : Below W0.heap.size W0 w :=
 ⟨h.1.trans k.os, h.2.1.trans k.tape, h.2.2.1.trans k.output, Nat.le_trans k.size h.2.2.2.1, fun j hj => (h.2.2.2.2 j (Nat.lt_of_lt_of_le hj k.size) (fun c hc' e => by have := hc c hc'; omega)).trans (k.block j hj)⟩
end
end
section
open Go Go.RowKit
theorem run_storeOp {ρ : Operand → Value} {o : Oper} {T : TypeId} {p x : Operand} {w w1 : World} (h : o.op = .store T p x) (hr : (Instr.storeAt T (ρ p) (ρ x)).run Try.prog w = .ok () w1) : (execOp ρ o).run Try.prog w = .ok .skip w1 := by
 unfold execOp; rw [h]
 show Sem.run Try.prog (do Instr.storeAt T (ρ p) (ρ x); pure Next.skip) w = _
 rw [Sem.run_bind, hr]
 rfl
theorem store_row {ρ : Operand → Value} {o : Oper} {T : TypeId} {p x : Operand} {w : World} {g : Nat} {cs ds : Array Value} (hop : o.op = .store T p x) (hp : ρ p = ptrTo g) (hx : ρ x = .agg ds) (hz : w.heap[g]? = some (.cells cs T (0, 0))) (hi : (Try.prog.info? T).map (·.size) = some cs.size) (hs : ds.size = cs.size) (h1 : ds.all (·.oneCell') = true) :
   Stores Try.prog ρ o w g (.cells ds T (0, 0)) := by
 refine ⟨w.setRow g ds, ?_, Blk.setRow (show Blk w g T cs from hz) ds, fun k hk => setRow_other w g k ds (by omega), by simp [World.setRow], rfl, rfl, rfl⟩
 refine run_storeOp hop ?_
 rw [hp, hx]
 unfold Instr.storeAt ptrTo
 simp only [Instr.sureAddr, Sem.run_bind, Sem.run_pure, Result.andThen_ok]
 exact run_storeVar_row w g _ _ _ _ hz (by rw [hi, hs]) (by rw [hs]) h1
end
section
open Go Go.RowKit
theorem shr_cast (u m : Nat) : (u : Int) / 2 ^ m = ((u >>> m : Nat) : Int) := by rw [Nat.shiftRight_eq_div_pow]; simp
attribute [local go_sem] qUpon putAll slotV
def PkPost (o : Option (List Nat)) (W : World) (e : Ending) (w' : World) : Prop := ∃ v, e = .returned (.tuple #[v, .bool o.isSome]) ∧ OwnB W.heap.size w' v (o.getD []) ∧ Ext W w'
def UpPost (o : Option (List Nat)) (W : World) (e : Ending) (w' : World) : Prop := ∃ v, e = .returned (.tuple #[v, .bool o.isSome]) ∧ OwnQ W.heap.size w' v (o.getD []) ∧ Ext W w'
def part (L : List Nat) (m k : Nat) : List Nat := L.take k ++ List.replicate (m - k) 0
end
section
open Go Go.RowKit Go.Sort
def numL (v : Nat) : Nat → List Nat
 | 0 => []
 | n + 1 => numL v n ++ [v / 256 ^ n % 256]
end
section
def b1 (v : Nat) : BitVec 32 := BitVec.ofNat 32 (v % 2)
end
section
open Go Go.RowKit
def fsz (n : Int) : Int := if n < 0 then 0 else if 4194304 < n then 0 else n + 13
def hd5 (k n : Nat) : List Nat := k :: numL n 4
def OwnL (l : List Nat) (n : Nat) (w : World) (e : Ending) (w' : World) : Prop := ∃ A cap, e = .returned (.slice A n cap) ∧ l.length = n ∧ n ≤ cap ∧ cap ≤ 9223372036854775807 ∧ OwnB w.heap.size w' (.slice A n cap) l ∧ BytesAt w' A l ∧ Ext w w'
theorem OwnRet.len {l : List Nat} {n : Nat} {w : World} {e : Ending} {w' : World} (hn : l.length = n) (h : OwnRet l w e w') : OwnL l n w e w' := by
 subst hn
 obtain ⟨v, rfl, hO, hE⟩ := h
 obtain ⟨A, cap, rfl, h1, h2, hb⟩ := hO.at_
 exact ⟨A, cap, rfl, rfl, h1, h2, hO, hb, hE⟩
attribute [local go_sem] qUpon putAll slotV
end
section
open Go Go.RowKit
def EncRet (x : List Nat) (n : Nat) (W : World) (e : Ending) (w' : World) : Prop := ∃ v, e = .returned (.tuple #[v, .int .i64 (n : Int)]) ∧ OwnB W.heap.size w' v x ∧ Ext W w'
def NumRet (r : List Nat × Int × Int) (W : World) (e : Ending) (w' : World) : Prop := ∃ v, e = .returned (.tuple #[v, .int .i64 r.2.1, .int .i64 r.2.2]) ∧ OwnQ W.heap.size w' v r.1 ∧ Ext W w'
theorem NumRet.parts {r : List Nat × Int × Int} {W : World} {e : Ending} {w' : World} (h : NumRet r W e w') : ∃ A cap, e = .returned (.tuple #[.slice A r.1.length cap, .int .i64 r.2.1, .int .i64 r.2.2]) ∧ r.1.length ≤ cap ∧ cap ≤ 9223372036854775807 ∧ OwnQ W.heap.size w' (.slice A r.1.length cap) r.1 ∧ WordsAt w' A r.1 ∧ Ext W w' := by
 obtain ⟨v, rfl, hO, hE⟩ := h
 obtain ⟨A, cap, rfl, h1, h2, h3⟩ := hO.at_
 exact ⟨A, cap, rfl, h1, h2, hO, h3, hE⟩
theorem EncRet.parts {x : List Nat} {n : Nat} {W : World} {e : Ending} {w' : World} (h : EncRet x n W e w') : ∃ A cap, e = .returned (.tuple #[.slice A x.length cap, .int .i64 (n : Int)]) ∧ x.length ≤ cap ∧ cap ≤ 9223372036854775807 ∧ OwnB W.heap.size w' (.slice A x.length cap) x ∧ BytesAt w' A x ∧ Ext W w' := by
 obtain ⟨v, rfl, hO, hE⟩ := h
 obtain ⟨A, cap, rfl, h1, h2, h3⟩ := hO.at_
 exact ⟨A, cap, rfl, h1, h2, hO, h3, hE⟩
end
section
open Go Go.RowKit
theorem PkPost.parts {o : Option (List Nat)} {W : World} {e : Ending} {w' : World} (h : PkPost o W e w') : ∃ A cap, e = .returned (.tuple #[.slice A (o.getD []).length cap, .bool o.isSome]) ∧ (o.getD []).length ≤ cap ∧ cap ≤ 9223372036854775807 ∧ OwnB W.heap.size w' (.slice A (o.getD []).length cap) (o.getD []) ∧ BytesAt w' A (o.getD []) ∧ Ext W w' := by
 obtain ⟨v, rfl, hO, hE⟩ := h
 obtain ⟨A, cap, rfl, h1, h2, h3⟩ := hO.at_
 exact ⟨A, cap, rfl, h1, h2, hO, h3, hE⟩
theorem UpPost.parts {o : Option (List Nat)} {W : World} {e : Ending} {w' : World} (h : UpPost o W e w') : ∃ A cap, e = .returned (.tuple #[.slice A (o.getD []).length cap, .bool o.isSome]) ∧ (o.getD []).length ≤ cap ∧ cap ≤ 9223372036854775807 ∧ OwnQ W.heap.size w' (.slice A (o.getD []).length cap) (o.getD []) ∧ WordsAt w' A (o.getD []) ∧ Ext W w' := by
 obtain ⟨v, rfl, hO, hE⟩ := h
 obtain ⟨A, cap, rfl, h1, h2, h3⟩ := hO.at_
 exact ⟨A, cap, rfl, h1, h2, hO, h3, hE⟩
structure Bs (W : World) (B : Nat) (A : Option Addr) (n cap : Nat) (m : List Nat) (w : World) : Prop where
 e : Ext W w
 t : TapeOk W.heap.size w W.heap.size
 o : OwnQ B w (.slice A n cap) m
 gb : W.heap.size < B
section
variable {W : World} {B : Nat} {A : Option Addr} {n cap : Nat} {m : List Nat} {w w' : World}
theorem Bs.ext (s : Bs W B A n cap m w) (k : Ext w w') : Bs W B A n cap m w' := ⟨s.e.trans k, s.t.ext k, s.o.ext k, s.gb⟩
theorem Bs.upd (s : Bs W B A n cap m w) (u : Upd W.heap.size w w') (t : TapeOk W.heap.size w' W.heap.size) : Bs W B A n cap m w' := ⟨Upd.ext u s.e (Nat.le_refl _), t, s.o.upd u s.gb, s.gb⟩
end
end
section
open Go Go.RowKit
def IsT (l : List Int) : Prop := ∀ x ∈ l, I64 x
theorem getDT {l : List Int} {k : Nat} (h : k < l.length) : l.getD k 0 = l[k] := by simp [List.getD_eq_getElem?_getD, h]
theorem takeT_succ {l : List Int} {k : Nat} (h : k < l.length) : l.take (k + 1) = l.take k ++ [l.getD k 0] := by
 rw [getDT h, List.take_succ_eq_append_getElem h]
theorem IsT.nil : IsT [] := by intro x hx; simp at hx
theorem IsT.app {l m : List Int} (h : IsT l) (k : IsT m) : IsT (l ++ m) := by
 intro x hx; rcases List.mem_append.1 hx with a | a
 · exact h x a
 · exact k x a
theorem IsT.one {x : Int} (h : I64 x) : IsT [x] := by intro y hy; simp at hy; subst hy; exact h
theorem IsT.take {l : List Int} (h : IsT l) (k : Nat) : IsT (l.take k) := fun x hx => h x (List.mem_of_mem_take hx)
theorem IsT.drop {l : List Int} (h : IsT l) (k : Nat) : IsT (l.drop k) := fun x hx => h x (List.mem_of_mem_drop hx)
theorem IsT.get {l : List Int} (h : IsT l) (k : Nat) : I64 (l.getD k 0) := by
 rw [List.getD_eq_getElem?_getD]
 cases hk : l[k]? with
 | none => exact ⟨by simp, by simp⟩
 | some x => exact h x (List.mem_of_getElem? hk)
def t8s (l : List Int) : List Value := l.map fun x : Int => Value.int .i64 x
theorem t8s_len (l : List Int) : (t8s l).length = l.length := by simp [t8s]
theorem t8s_one (l : List Int) : ∀ u ∈ t8s l, u.oneCell' = true := by
 intro u hu; simp only [t8s, List.mem_map] at hu; obtain ⟨x, _, rfl⟩ := hu; rfl
theorem t8s_app (l m : List Int) : t8s (l ++ m) = t8s l ++ t8s m := by simp [t8s]
def TimesAt (w : World) (A : Option Addr) (l : List Int) : Prop :=
 IsT l ∧ l.length ≤ 9223372036854775807 ∧ (0 < l.length → ∃ b off, A = some ⟨b, off, none⟩ ∧ b < w.heap.size ∧ ∀ j, j < l.length → w.cell? ⟨b, off + j, none⟩ = some (.int .i64 (l.getD j 0)))
theorem TimesAt.nil (w : World) (A : Option Addr) : TimesAt w A [] := ⟨IsT.nil, by simp, fun h => absurd h (by simp)⟩
theorem TimesAt.ext {w w' : World} {A : Option Addr} {l : List Int} (h : TimesAt w A l) (e : Ext w w') : TimesAt w' A l :=
 ⟨h.1, h.2.1, fun hp => by
   obtain ⟨b, off, hA, hb, hc⟩ := h.2.2 hp
   exact ⟨b, off, hA, Nat.lt_of_lt_of_le hb e.size, fun j hj => (e.cell (p := ⟨b, off + j, none⟩) hb).trans (hc j hj)⟩⟩
theorem TimesAt.keep {w w' : World} {A : Option Addr} {l : List Int} (h : TimesAt w A l) (hs : w.heap.size ≤ w'.heap.size) (e : ∀ b off, A = some ⟨b, off, none⟩ → b < w.heap.size → w'.heap[b]? = w.heap[b]?) : TimesAt w' A l :=
 ⟨h.1, h.2.1, fun hp => by
   obtain ⟨b, off, hA, hb, hc⟩ := h.2.2 hp
   exact ⟨b, off, hA, Nat.lt_of_lt_of_le hb hs, fun j hj => (World.cell?_of_block (a := ⟨b, off + j, none⟩) (e b off hA hb)).trans (hc j hj)⟩⟩
theorem TimesAt.drop {w : World} {A : Option Addr} {l : List Int} (h : TimesAt w A l) (k cap : Nat) (hc : l.length ≤ cap) :
   TimesAt w (if cap = k then A else A.map (·.add (k * 1))) (l.drop k) := by
 refine ⟨h.1.drop k, by rw [List.length_drop]; have := h.2.1; omega, fun hp => ?_⟩
 rw [List.length_drop] at hp
 obtain ⟨b, off, rfl, hb, hcl⟩ := h.2.2 (by omega)
 rw [if_neg (by omega)]
 refine ⟨b, off + k, by
   simp only [Option.map_some, Option.some.injEq]
   unfold Addr.add
   split
   · rename_i h0; simp only [Addr.mk.injEq, and_true, true_and]; omega
   · simp, hb, fun j hj => ?_⟩
 rw [List.length_drop] at hj
 rw [Nat.add_assoc, hcl (k + j) (by omega)]
 simp [List.getD_eq_getElem?_getD, List.getElem?_drop]
theorem TimesAt.take {w : World} {A : Option Addr} {l : List Int} (h : TimesAt w A l) (k : Nat) : TimesAt w A (l.take k) := by
 refine ⟨h.1.take k, by rw [List.length_take]; have := h.2.1; omega, fun hp => ?_⟩
 rw [List.length_take] at hp
 obtain ⟨b, off, rfl, hb, hcl⟩ := h.2.2 (by omega)
 refine ⟨b, off, rfl, hb, fun j hj => ?_⟩
 rw [List.length_take] at hj
 rw [hcl j (by omega)]
 simp [List.getD_eq_getElem?_getD, List.getElem?_take, show j < k by omega]
theorem info_t64 : (Try.prog.info? 2).map (fun i => (i.zero, i.size, i.bytes)) = some (some (.int .i64 0), 1, 8) := by kernel_rfl
def OwnT (B : Nat) (w : World) (v : Value) (l : List Int) : Prop := w.ownsRow B 2 1 v l.length (t8s l) ∧ IsT l
theorem OwnT.at_ {B : Nat} {w : World} {v : Value} {l : List Int} (h : OwnT B w v l) : ∃ A cap, v = .slice A l.length cap ∧ l.length ≤ cap ∧ cap ≤ 9223372036854775807 ∧ TimesAt w A l := by
 rcases h.1.2 with ⟨rfl, h0⟩ | ⟨g, cap, cur, rfl, hg, hh, hnc, hcp, hcs, htake⟩
 · obtain rfl : l = [] := List.length_eq_zero_iff.1 h0
   exact ⟨none, 0, rfl, Nat.le_refl _, by omega, TimesAt.nil _ _⟩
 · unfold maxLen at hcp
   refine ⟨_, cap, rfl, hnc, hcp, h.2, by omega, fun _ => ⟨g, 0, rfl, (Array.getElem?_eq_some_iff.1 hh).1, fun j hj => ?_⟩⟩
   have := h.1.cells (g := g) rfl j (Value.int .i64 (l.getD j 0)) (by rw [getDT hj]; simp [t8s, hj])
   have e : (⟨g, 0, none⟩ : Addr).add j = ⟨g, 0 + j, none⟩ := by unfold Addr.add; split <;> simp_all
   rw [e] at this
   exact this
theorem OwnT.kept {B : Nat} {w w' : World} {v : Value} {l : List Int} (h : OwnT B w v l) {row : Option Nat} (hg : w.grownBy w' row) (hne : v.ownBlock = none ∨ v.ownBlock ≠ row) : OwnT B w' v l := ⟨h.1.kept hg hne, h.2⟩
theorem OwnT.alloc {B : Nat} {w : World} {v : Value} {l : List Int} (h : OwnT B w v l) (o : Obj) : OwnT B (w.alloc o) v l := ⟨h.1.alloc o, h.2⟩
theorem OwnT.drew {B : Nat} {w : World} {v : Value} {l : List Int} (h : OwnT B w v l) : OwnT B w.drew v l := h
theorem OwnT.nil_ (B : Nat) (w : World) : OwnT B w (.slice none 0 0) [] := ⟨World.ownsRow_nil _ _ _ _, IsT.nil⟩
theorem OwnT.keep {B : Nat} {w w' : World} {v : Value} {l : List Int} (h : OwnT B w v l) (hs : w.heap.size ≤ w'.heap.size) (e : ∀ g, v.ownBlock = some g → w'.heap[g]? = w.heap[g]?) : OwnT B w' v l := by
 refine ⟨?_, h.2⟩
 obtain ⟨h1, h2 | ⟨g, cap, cur, hv, hg, hh, r⟩⟩ := h.1
 · exact ⟨h1, Or.inl h2⟩
 · exact ⟨h1, Or.inr ⟨g, cap, cur, hv, hg, by rw [e g (by rw [hv]; rfl)]; exact hh, r⟩⟩
theorem OwnT.ext {B : Nat} {w w' : World} {v : Value} {l : List Int} (h : OwnT B w v l) (e : Ext w w') : OwnT B w' v l := by
 refine ⟨?_, h.2⟩
 obtain ⟨h1, h2 | ⟨g, cap, cur, hv, hg, hh, r⟩⟩ := h.1
 · exact ⟨h1, Or.inl h2⟩
 · exact ⟨h1, Or.inr ⟨g, cap, cur, hv, hg, by rw [e.block g (Array.getElem?_eq_some_iff.1 hh).1]; exact hh, r⟩⟩
theorem OwnT.less {B B' : Nat} {w : World} {v : Value} {l : List Int} (h : OwnT B w v l) (hB : B' ≤ B) : OwnT B' w v l := by
 refine ⟨?_, h.2⟩
 obtain ⟨h1, h2 | ⟨g, cap, cur, hv, hg, r⟩⟩ := h.1
 · exact ⟨h1, Or.inl h2⟩
 · exact ⟨h1, Or.inr ⟨g, cap, cur, hv, by omega, r⟩⟩
theorem run_appendT (B : Nat) (w : World) (ty : TypeId) (v : Value) (l0 l : List Int) (hown : OwnT B w v l0) (A : Option Addr) (m c : Nat) (hb : TimesAt w A l) (hm : l.length = m) (hlen : l0.length + l.length ≤ 17592186044416) (hbase : B ≤ w.heap.size) :
   ∃ v' w', (Builtin.append_ #[43, 43] ty #[v, .slice A m c]).run Try.prog w = .ok v' w' ∧ OwnT B w' v' (l0 ++ l) ∧ w.grownBy w' v.ownBlock ∧ (v'.ownBlock = v.ownBlock ∨ v'.ownBlock = some w.heap.size) := by
 subst hm
 obtain ⟨i0, hi0, hz0, hz1, hz2⟩ := info_parts info_t64
 have h63 : l0.length + l.length ≤ maxLen := by unfold maxLen; omega
 rcases A with _ | ad
 · have h0 : l = [] := by
     rcases Nat.eq_zero_or_pos l.length with h | h
     · exact List.length_eq_zero_iff.1 h
     · obtain ⟨b, off, h', _⟩ := hb.2.2 h
       cases h'
   subst h0
   refine ⟨v, w, ?_, by rw [List.append_nil]; exact hown, World.grownBy.refl w _, .inl rfl⟩
   rcases hown.1.2 with ⟨rfl, _⟩ | ⟨g, cap, cur, rfl, _, _, hnc, _⟩
   · simp [Builtin.append_, run_underlying Try.underlying43, sizeOf, typeInfo, hi0, Builtin.lenOf, Builtin.firstCells]
   · simp [Builtin.append_, run_underlying Try.underlying43, sizeOf, typeInfo, hi0, Builtin.lenOf, Builtin.firstCells, hnc, storeCells]
 · have hcells : ∀ j u, (t8s l)[j]? = some u → w.cell? (ad.add j) = some u := by
     intro j u hu
     have hj : j < l.length := by
       rcases Nat.lt_or_ge j (t8s l).length with h | h
       · rwa [t8s_len] at h
       · rw [List.getElem?_eq_none h] at hu; cases hu
     obtain ⟨b, off, h', _, hc⟩ := hb.2.2 (by omega)
     obtain rfl : ad = ⟨b, off, none⟩ := Option.some.inj h'
     rw [add_at, hc j hj, ← hu, getDT hj]
     simp [t8s, hj]
   obtain ⟨v', w', hrun, h2, h3, _, h5⟩ := run_append_own_at (P := Try.prog) w B 43 ty 2 i0 _ 1 8 Try.underlying43 hi0 hz0 hz1 hz2 rfl (by omega) v l0.length (t8s l0) hown.1 ad l.length c (t8s l) (by rw [t8s_len]; omega) hcells (t8s_one l) h63 (by omega) hbase
   refine ⟨v', w', hrun, ⟨?_, hown.2.app hb.1⟩, h3, h5⟩
   rw [t8s_app, List.length_append]
   exact h2
theorem wl_appendT {ops : Array Oper} {rest : List Oper} {o : Oper} {a : Act} {Q : Exit → Act → World → Prop} {w : World} (hgd : o.guard = none) (s x : Operand)
   (ho : o.op = .call { callee := .builtin .append, args := #[s, x], argTypes := #[43, 43] })
   (B : Nat) (v : Value) (l0 l : List Int) (hs : a.eval s = v) (hown : OwnT B w v l0) (A : Option Addr) (m c : Nat) (hx : a.eval x = .slice A m c) (hb : TimesAt w A l) (hm : l.length = m) (hlen : l0.length + l.length ≤ 17592186044416) (hbase : B ≤ w.heap.size)
   (h : ∀ v' w', OwnT B w' v' (l0 ++ l) → w.grownBy w' v.ownBlock → (v'.ownBlock = v.ownBlock ∨ v'.ownBlock = some w.heap.size) → wpList Try.prog ops Q rest (a.put o.dst v') w') : wpList Try.prog ops Q (o :: rest) a w :=
 wpList_plain hgd fun _ hK => by
   obtain ⟨v', w', hrun, h2, h3, h4⟩ := run_appendT B w o.type v l0 l hown A m c hb hm hlen hbase
   unfold Oper.wp execOp
   simp only [ho, resolve, invoke, builtin, Sem.run_bind, Sem.run_pure, Result.andThen_ok, List.map_toArray, List.map_cons, List.map_nil, hs, hx, hrun]
   exact hK _ _ (h v' w' h2 h3 h4)
theorem one_atT (w : World) (x : Int) (hx : I64 x) (u : Value) (hu : u = .int .i64 x) : TimesAt (w.alloc (.cells #[u] 2)) (some ⟨w.heap.size, 0, none⟩) [x] := by
 subst hu
 refine ⟨IsT.one hx, by simp, fun _ => ⟨w.heap.size, 0, rfl, by simp, fun j hj => ?_⟩⟩
 obtain rfl : j = 0 := by simpa using hj
 rw [World.cell?_alloc_at _ _ _ _ rfl]; rfl
theorem new_atT (w : World) (l : List Int) (hl : IsT l) (hm : l.length ≤ 9223372036854775807) (cs : Array Value) (hc : cs = (t8s l).toArray) : TimesAt (w.alloc (.cells cs 2)) (some ⟨w.heap.size, 0, none⟩) l := by
 subst hc
 refine ⟨hl, hm, fun _ => ⟨w.heap.size, 0, rfl, by simp, fun j hj => ?_⟩⟩
 rw [Nat.zero_add, cell_of_row _ w.heap.size j _ _ _ (heap_alloc_new w _), getDT hj]
 simp [t8s, hj]
theorem below_grownT {W w w' : World} {v : Value} {l : List Int} {B : Nat} (h : Below W.heap.size W w) (hB : W.heap.size ≤ B) (hown : OwnT B w v l) (hg : w.grownBy w' v.ownBlock) : Below W.heap.size W w' :=
 h.grown hg h.size (fun k hk => by
   obtain ⟨h1, h2⟩ := hown.1.lt k hk
   omega)
theorem OwnT.upd {B b : Nat} {w w' : World} {v : Value} {l : List Int} (h : OwnT B w v l) (u : Upd b w w') (hb : b < B) : OwnT B w' v l := by
 refine ⟨?_, h.2⟩
 obtain ⟨h1, h2 | ⟨g, cap, cur, hv, hg, hh, r⟩⟩ := h.1
 · exact ⟨h1, Or.inl h2⟩
 · exact ⟨h1, Or.inr ⟨g, cap, cur, hv, hg, by rw [u.2.2.2.2 g (Array.getElem?_eq_some_iff.1 hh).1 (by omega)]; exact hh, r⟩⟩
theorem TimesAt.upd {b : Nat} {w w' : World} {A : Option Addr} {l : List Int} (h : TimesAt w A l) (u : Upd b w w') (hb : ∀ g off, A = some ⟨g, off, none⟩ → g ≠ b) : TimesAt w' A l :=
 h.keep u.2.2.2.1 fun g off hA hg => u.2.2.2.2 g hg (hb g off hA)
theorem idxT (b off N cap j : Nat) (h : j < N) (w : World) : (Instr.indexAt 43 (.slice (some ⟨b, off, none⟩) N cap) (.int .i64 (j : Int))).run Try.prog w = .ok (.pointer (some ⟨b, off + j, none⟩)) w := by
 have hz := Try.sizeOf2
 have he : Try.prog.elem 43 = 2 := by kernel_rfl
 have hr := run_indexAt_slice (P := Try.prog) (w := w) 43 ⟨b, off, none⟩ N cap .i64 (j : Int) (by kernel_rfl)
 rw [hr, if_pos ⟨by omega, by omega⟩, he, hz]
 simp [Result.andThen, add_at]
theorem own_times {w : World} {A : Option Addr} {c cap B : Nat} {l : List Int} (h : OwnT B w (.slice A c cap) l) : TimesAt w A l := by
 obtain ⟨A', cap', he, _, _, hw⟩ := h.at_
 cases he
 exact hw
def incB (l : List Int) : Bool := decide (∀ i, i < l.length - 1 → l.getD i 0 < l.getD (i + 1) 0)
theorem incB_iff {l : List Int} : incB l = true ↔ ∀ i, i + 1 < l.length → l.getD i 0 < l.getD (i + 1) 0 := by
 unfold incB
 rw [decide_eq_true_iff]
 exact ⟨fun h i hi => h i (by omega), fun h i hi => h i (by omega)⟩
theorem getD_appL {l : List Int} (m : List Int) {i : Nat} (h : i < l.length) : (l ++ m).getD i 0 = l.getD i 0 := by
 simp only [List.getD_eq_getElem?_getD, List.getElem?_append_left h]
theorem getD_end (l : List Int) (x : Int) : (l ++ [x]).getD l.length 0 = x := by simp [List.getD_eq_getElem?_getD]
theorem incB_snoc {l : List Int} {i : Nat} (h : incB l = true) (hl : l.length = i + 1) {x : Int} (hx : l.getD i 0 < x) : incB (l ++ [x]) = true := by
 rw [incB_iff] at h ⊢
 intro j hj
 rw [List.length_append, List.length_singleton] at hj
 rw [getD_appL [x] (by omega)]
 by_cases hji : j = i
 · subst hji
   have := getD_end l x
   rw [hl] at this
   rw [this]; exact hx
 · rw [getD_appL [x] (by omega)]
   exact h j (by omega)
theorem rb1T {k : IntKind} {a a' : Int} (h1 : a = a') : Ending.returned (Value.int k a) = .returned (.int k a') := by rw [h1]
theorem dst_mod {a b : Int} (ha : I64 a) (hb : I64 b) (h : b ≤ a) : IntKind.u64.wrap (IntKind.u64.wrap a - IntKind.u64.wrap b) = (((a - b).natAbs : Nat) : Int) := by
 unfold I64 at ha hb
 have w : ∀ n : Int, IntKind.u64.wrap n = n % 18446744073709551616 := fun n => by simp [IntKind.wrap, IntKind.bits, IntKind.signed]
 rw [w, w, w]; omega
theorem p_diff (a b : Int) (w : World) (ha : I64 a) (hb : I64 b) (h : b ≤ a) : Calls Try.prog 93 #[.int .i64 a, .int .i64 b] w (RetSame (.int .u64 ((a - b).natAbs : Nat)) w) := by
 have e := hide (dst_mod ha hb h)
 obtain ⟨a1, a2⟩ := ha
 obtain ⟨b1, b2⟩ := hb
 go_enter Try.func93, Try.ntmps93
 go_wp2
 all_goals (first | go_ret | (exfalso; simp_all; done))
 all_goals exact ⟨rb1T e.out, rfl⟩
theorem p_dist (a b : Int) (w : World) (ha : I64 a) (hb : I64 b) : Calls Try.prog 84 #[.int .i64 a, .int .i64 b] w (RetSame (.int .u64 ((a - b).natAbs : Nat)) w) := by
 by_cases h : a < b
 · have K := hide (fun w => p_diff b a w hb ha (by omega))
   have hd : decide (a < b) = true := decide_eq_true h
   rw [show (b - a).natAbs = (a - b).natAbs by omega] at K
   clear ha hb
   go_enter Try.func84, Try.ntmps84
   go_wp2_with (go_at_call 93; (with_reducible refine (K.out _).mono ?_); rintro e w3 ⟨rfl, rfl⟩)
   go_ret
   exact ⟨rfl, rfl⟩
 · have K := hide (fun w => p_diff a b w ha hb (by omega))
   have hd : decide (a < b) = false := decide_eq_false h
   clear ha hb
   go_enter Try.func84, Try.ntmps84
   go_wp2_with (go_at_call 93; (with_reducible refine (K.out _).mono ?_); rintro e w3 ⟨rfl, rfl⟩)
   go_ret
   exact ⟨rfl, rfl⟩
theorem r_dist (a b : Int) (w : World) (ha : I64 a) (hb : I64 b) : Calls Try.prog 44 #[.int .i64 a, .int .i64 b] w (RetSame (.int .u64 ((a - b).natAbs : Nat)) w) := by
 by_cases h : a < b
 · have e := hide (dst_mod hb ha (by omega))
   rw [show (b - a).natAbs = (a - b).natAbs by omega] at e
   obtain ⟨a1, a2⟩ := ha
   obtain ⟨b1, b2⟩ := hb
   have hd : decide (a < b) = true := decide_eq_true h
   go_enter Try.func44, Try.ntmps44
   go_wp2_with fail
   go_ret
   exact ⟨rb1T e.out, rfl⟩
 · have e := hide (dst_mod ha hb (by omega))
   obtain ⟨a1, a2⟩ := ha
   obtain ⟨b1, b2⟩ := hb
   have hd : decide (a < b) = false := decide_eq_false h
   go_enter Try.func44, Try.ntmps44
   go_wp2_with fail
   go_ret
   exact ⟨rb1T e.out, rfl⟩
end
section
def Best (a b c d n m : Int) : Prop := 0 < m ∧ a * m ≤ n * b ∧ n * d ≤ c * m ∧ ∀ p q : Int, 0 < q → a * q ≤ p * b → p * d ≤ c * q → m ≤ q ∧ n.natAbs ≤ p.natAbs
theorem Best.zero {a b c d : Int} (h1 : a ≤ 0) (h2 : 0 ≤ c) : Best a b c d 0 1 :=
 ⟨by omega, by omega, by omega, fun p q hq _ _ => ⟨by omega, by simp⟩⟩
theorem Best.pos {a b c d n m : Int} (ha : 0 < a) (hb : 0 < b) (h : Best a b c d n m) : 0 < n := by
 have := Int.mul_pos ha h.1
 have h1 := h.2.1
 by_cases hn : n ≤ 0
 · have := Int.mul_nonpos_of_nonpos_of_nonneg hn (show 0 ≤ b by omega); omega
 · omega
theorem Best.gcd {a b c d n m : Int} (hb : 0 < b) (hd : 0 < d) (h : Best a b c d n m) : Int.gcd n m = 1 := by
 obtain ⟨h0, h1, h2, h3⟩ := h
 have hg0 : 0 < Int.gcd n m := Int.gcd_pos_of_ne_zero_right n (by omega)
 obtain ⟨x, hx⟩ := Int.gcd_dvd_left n m
 obtain ⟨y, hy⟩ := Int.gcd_dvd_right n m
 generalize hG : (Int.gcd n m : Int) = g at *
 have hg : 0 < g := by omega
 have hy0 : 0 < y := by
   by_cases hy0 : 0 < y
   · exact hy0
   · have := Int.mul_nonpos_of_nonneg_of_nonpos (show 0 ≤ g by omega) (show y ≤ 0 by omega); omega
 have k := h3 x y hy0
   (Int.le_of_mul_le_mul_left (a := g) (by
     have e1 : g * (a * y) = a * m := by rw [hy, ← Int.mul_assoc, Int.mul_comm g a, Int.mul_assoc]
     have e2 : g * (x * b) = n * b := by rw [← Int.mul_assoc, ← hx]
     omega) hg)
   (Int.le_of_mul_le_mul_left (a := g) (by
     have e1 : g * (c * y) = c * m := by rw [hy, ← Int.mul_assoc, Int.mul_comm g c, Int.mul_assoc]
     have e2 : g * (x * d) = n * d := by rw [← Int.mul_assoc, ← hx]
     omega) hg)
 by_cases hg1 : g = 1
 · omega
 · exfalso
   have : 2 * y ≤ g * y := Int.mul_le_mul_of_nonneg_right (by omega) (by omega)
   omega
end
section
open Go Go.RowKit
def aggT (d : TypeDesc) : Prop := (match d with | .struct _ | .array _ _ => true | _ => false) = true
theorem run_load_part {w : World} {g : Nat} {t : TypeId} {cs : Array Value} (h : Blk w g t cs) (ty : TypeId) (d : TypeDesc) (hu : Try.prog.underlying ty = some d) (hd : aggT d) (off n : Nat) (hi : (Try.prog.info? ty).map (·.size) = some n) (hle : off + n ≤ cs.size) (ds : Array Value) (hds : cs.extract off (off + n) = ds) :
   (Instr.loadAt ty (.pointer (some ⟨g, off, none⟩))).run Try.prog w = .ok (.agg ds) w := by
 have hsz : ds.toList.length = n := by rw [← hds]; simp; omega
 have hl : (loadCells ⟨g, off, none⟩ ds.toList.length).run Try.prog w = .ok ds.toList.toArray w :=
   run_loadCells_list (P := Try.prog) w ⟨g, off, none⟩ ds.toList (fun j v hv => by
     have hadd : (⟨g, off, none⟩ : Addr).add j = ⟨g, off + j, none⟩ := by unfold Addr.add; split <;> simp_all
     rw [hadd, h.cell]
     have hj : j < n := by have := (List.getElem?_eq_some_iff.1 hv).1; omega
     rw [Array.getElem?_toList, ← hds, Array.getElem?_extract] at hv
     rw [if_pos (by omega)] at hv
     exact hv)
 cases hq : Try.prog.info? ty with
 | none => simp [hq] at hi
 | some i =>
   have hs : i.size = n := by simpa [hq] using hi
   have hagg : (isAgg ty).run Try.prog w = .ok true w := by
     unfold isAgg
     rw [Sem.run_bind, run_underlying hu w]
     unfold aggT at hd
     cases d <;> simp_all
   rw [hsz, Array.toArray_toList] at hl
   simp [Instr.loadAt, Instr.sureAddr, loadVar, Sem.run_bind, hagg, sizeOf, typeInfo, hq, hs, hl]
theorem run_store_part {w : World} {g : Nat} {t : TypeId} {cs : Array Value} (h : Blk w g t cs) (ty : TypeId) (off n : Nat) (hi : (Try.prog.info? ty).map (·.size) = some n) (hle : off + n ≤ cs.size) (ds : Array Value) (hds : ds.size = n) (h1 : ds.all (·.oneCell') = true) (es : Array Value) (hes : (cs.toList.take off ++ ds.toList ++ cs.toList.drop (off + n)).toArray = es) :
   (Instr.storeAt ty (.pointer (some ⟨g, off, none⟩)) (.agg ds)).run Try.prog w = .ok () (w.setRow g es) := by
 have := run_storeCells_at (P := Try.prog) g off t ds.toList 0 cs w h (by simp; omega) (fun v hv => (Array.all_eq_true_iff_forall_mem.1 h1) v (by simpa using hv))
 have hl : ds.toList.length = n := by simpa using hds
 rw [hl, Nat.add_zero, hes] at this
 cases hq : Try.prog.info? ty with
 | none => simp [hq] at hi
 | some i =>
   have hs : ds.size = i.size := by simp [hq] at hi; omega
   simp [Instr.storeAt, Instr.sureAddr, storeVar, sizeOf, typeInfo, hq, Value.cells, hs, this]
theorem ext_row {W w : World} {g : Nat} (h : Ext W w) (hg : W.heap.size ≤ g) (cs : Array Value) : Ext W (w.setRow g cs) := by
 refine ⟨h.os, h.tape, h.output, ?_, fun k hk => ?_⟩
 · show W.heap.size ≤ (w.heap.modify g _).size
   rw [Array.size_modify]; exact h.size
 · show (w.heap.modify g _)[k]? = _
   rw [Array.getElem?_modify, if_neg (by omega)]; exact h.block k hk
theorem wl_load {ops : Array Oper} {rest : List Oper} {o : Oper} {a : Act} {w : World} {Q : Exit → Act → World → Prop} {ty : TypeId} {x : Operand} {u v : Value} (hgd : Region.wanted o (yielded ops a.tmps) = true) (ho : o.op = .load ty x) (hx : a.eval x = u)
   (hr : (Instr.loadAt ty u).run Try.prog w = .ok v w) (h : wpList Try.prog ops Q rest (a.put o.dst v) w) : wpList Try.prog ops Q (o :: rest) a w :=
 wpList_step fun _ hK => by
   rw [if_pos hgd]
   unfold Oper.wp execOp
   simp only [ho, hx, Sem.run_bind, hr, Result.andThen_ok, Sem.run_pure]
   exact hK _ _ h
theorem wl_store {ops : Array Oper} {rest : List Oper} {o : Oper} {a : Act} {w w' : World} {Q : Exit → Act → World → Prop} {ty : TypeId} {x y : Operand} {u v : Value} (hgd : Region.wanted o (yielded ops a.tmps) = true) (ho : o.op = .store ty x y) (hx : a.eval x = u) (hy : a.eval y = v)
   (hr : (Instr.storeAt ty u v).run Try.prog w = .ok () w') (h : wpList Try.prog ops Q rest (a.put o.dst undef) w') : wpList Try.prog ops Q (o :: rest) a w :=
 wpList_step fun _ hK => by
   rw [if_pos hgd]
   unfold Oper.wp execOp
   simp only [ho, hx, hy, Sem.run_bind, hr, Result.andThen_ok, Sem.run_pure]
   exact hK _ _ h
theorem wq_load {ops : Array Oper} {rest : List Oper} {o : Oper} {a : Act} {C : World → Prop} {Q : Act → Prop} {ty : TypeId} {x : Operand} {u v : Value} (hgd : Region.wanted o (yielded ops a.tmps) = true) (ho : o.op = .load ty x) (hx : a.eval x = u)
   (hr : ∀ w, C w → (Instr.loadAt ty u).run Try.prog w = .ok v w) (h : wpQuiet Try.prog ops C Q rest (a.put o.dst v)) : wpQuiet Try.prog ops C Q (o :: rest) a :=
 wpQuiet_step fun K hK => by
   rw [if_pos hgd]
   refine ⟨v, fun w hw => ?_, hK _ h⟩
   unfold Oper.quietAt execOp
   simp only [ho, hx, Sem.run_bind, hr w hw, Result.andThen_ok, Sem.run_pure]
   exact ⟨rfl, rfl⟩
theorem wpList_of_quiet {ops : Array Oper} {C : World → Prop} {Q : Act → Prop} {R : Exit → Act → World → Prop} (hQ : ∀ a w, C w → Q a → R .normal a w) : ∀ (l : List Oper) (a : Act) (w : World), C w → wpQuiet Try.prog ops C Q l a → wpList Try.prog ops R l a w
 | [], a, w, hC, h => hQ a w hC h
 | o :: rest, a, w, hC, h => wpList_step fun K hK => by
   unfold wpQuiet at h
   split
   · rename_i hw
     rw [if_pos hw] at h
     exact Oper.wp_of_quiet hC (fun a w' hc k => hK _ _ (wpList_of_quiet hQ rest a w' hc k)) h
   · rename_i hw
     rw [if_neg hw] at h
     exact hK _ _ (wpList_of_quiet hQ rest _ w hC h)
theorem wp_region_reads {id : Nat} {Q : Exit → Act → World → Prop} {a : Act} {w : World} {l : List Oper}
   (h : wpQuiet Try.prog l.toArray (fun w' => ∃ p : Regrown, w' = Go.Sort.grow (redrawn w p.d) p.os) (fun a' => ∀ w', (∃ p : Regrown, w' = Go.Sort.grow (redrawn w p.d) p.os) → Q .normal a' w') l a) : (Code.region id l.toArray false).wp Try.prog Q a w :=
 wp_region_lit (wpList_of_quiet (fun a w hC h => h w hC) l a w ⟨⟨w.drawn, #[]⟩, by rw [Go.Sort.grow_empty]; rfl⟩ h)
theorem alloc_size (w : World) (o : Obj) : (w.alloc o).heap.size = w.heap.size + 1 := Array.size_push ..
theorem ld_all {w : World} {g : Nat} {t ty : TypeId} {X : Array Value} {n : Nat} {d : TypeDesc} (h : Blk w g t X) (hu : Try.prog.underlying ty = some d) (hd : aggT d) (hi : (Try.prog.info? ty).map (·.size) = some n) (hn : X.size = n) : (Instr.loadAt ty (.pointer (some ⟨g, 0, none⟩))).run Try.prog w = .ok (.agg X) w :=
 run_load_part h _ _ hu hd 0 n hi (by omega) _ (by rw [Nat.zero_add, ← hn]; simp)
end
section
open Go Go.RowKit
inductive Tg | q | sk | al | st (j : Nat) | so (k : Nat) | ev (m : Nat)
 deriving DecidableEq
def tgOf (kd : List Tg) (i : Nat) : Tg := kd.getD i .q
def Tg.known : Tg → Bool | .q => true | .sk => true | .ev _ => true | _ => false
def calmE (l : List Oper) (kd : List Tg) (o : Oper) (x : Operand) : Bool :=
 match x with
 | .tmp t => (List.range l.length).all fun k => dstOf l k != some t || (dep o k && (tgOf kd k).known)
 | _ => true
def okE (l : List Oper) (kd : List Tg) (i : Nat) : Bool :=
 match l[i]? with
 | none => false
 | some o => (match o.guard with | none => tgOf kd i != .sk | some (k, _) => dep o k && decide (k < l.length) && (dstOf l k).isSome && (tgOf kd k).known) && (match o.op with | .select .. => false | _ => true) &&
   (o.after.all fun e => !Region.binds .any e || decide (e.on < i)) &&
   ((List.range l.length).all fun k => k == i || (match o.dst with | none => true | some d => dstOf l k != some d)) &&
   (match tgOf kd i with
     | .q => o.op.operands.all fun x => calmE l kd o x
     | .ev m => (o.op.operands.all fun x => calmE l kd o x) && ((List.range l.length).all fun k => k == i || (match tgOf kd k with | .ev m' => m' != m && (!decide (m' < m) || anc l l.length i k) | _ => true))
     | .sk => true
     | .al => true
     | .st j => (match o.op with
         | .store _ (.tmp t) x => o.dst.isNone && dstOf l j == some t && dep o j && tgOf kd j == .al && calmE l kd o x && ((List.range l.length).all fun k => k == i || tgOf kd k != .st j)
         | _ => false)
     | .so c => (match o.op with
         | .store _ p x => o.dst.isNone && calmE l kd o p && calmE l kd o x && ((List.range l.length).all fun k => k == i || tgOf kd k != .so c)
         | _ => false))
def chkE (l : List Oper) (kd : List Tg) : Bool := (List.range l.length).all fun i => okE l kd i
def frE (l : List Oper) (u : Nat → Value) (a0 : Act) (S : List Nat) : Act := S.foldl (fun a i => a.put (dstOf l i) (u i)) a0
def slE (t : Tg) (v : Value) (g : Nat) (R : Nat → Value) : Value := match t with | .q => v | .al => ptrTo g | .ev m => R m | _ => undef
def uE (kd : List Tg) (V : (Nat → Value) → List Value) (R : Nat → Value) (G : Nat → Nat) (i : Nat) : Value := slE (tgOf kd i) ((V R).getD i undef) (G i) R
def yB : Value → Option Bool | .bool b => some b | _ => none
def SameE (kd : List Tg) (tgt : Nat → Nat) (E : Nat → Prop) (W w : World) : Prop := w.os = W.os ∧ w.tape = W.tape ∧ w.output = W.output ∧ W.heap.size ≤ w.heap.size ∧ ∀ k, k < W.heap.size → ¬ E k → (∀ c, .so c ∈ kd → tgt c ≠ k) → w.heap[k]? = W.heap[k]?
def GrowE (E : Nat → Prop) (w w' : World) : Prop := w'.os = w.os ∧ w'.tape = w.tape ∧ w'.output = w.output ∧ w.heap.size ≤ w'.heap.size ∧ ∀ k, k < w.heap.size → ¬ E k → w'.heap[k]? = w.heap[k]?
def updR (R : Nat → Value) (m : Nat) (r : Value) : Nat → Value := fun k => if k = m then r else R k
def eUpon (P : Program) (T : Nat → (Nat → Value) → World → Prop) (E : Nat → Prop) (m : Nat) (R : Nat → Value) (w : World) : Result Next → Prop
 | .ok (.enter f args) w' => w' = w ∧ Calls P f args w (fun e w'' => ∃ r, e = .returned r ∧ T (m + 1) (updR R m r) w'' ∧ GrowE E w w'')
 | .ok (.value r) w' => T (m + 1) (updR R m r) w' ∧ GrowE E w w'
 | _ => False
def RuleE (P : Program) (T : Nat → (Nat → Value) → World → Prop) (E : Nat → Prop) (l : List Oper) (kd : List Tg) (nd : List Nat) (V : (Nat → Value) → List Value) (zero : Nat → Obj) (full : (Nat → Value) → Nat → Obj) (tgt : Nat → Nat) (W : World) (A : (Nat → Value) → Act) (i : Nat) (o : Oper) : Prop :=
 (∀ k b, o.guard = some (k, b) → ∀ R s w, T s R w → nd.getD i 0 ≤ s → (yB (uE kd V R (fun _ => 0) k) == some b) = (tgOf kd i != .sk)) ∧
 match tgOf kd i with
 | .q => ∀ R s w, T s R w → nd.getD i 0 ≤ s → SameE kd tgt E W w → (∀ m c, tgOf kd m = .so c → anc l l.length m i = true → w.heap[tgt c]? = W.heap[tgt c]?) → qUpon P w ((V R).getD i undef) ((execOp (A R).eval o).run P w)
 | .ev m => ∀ R w, T m R w → SameE kd tgt E W w → eUpon P T E m R w ((execOp (A R).eval o).run P w)
 | .sk => True
 | .al => ∀ (ρ : Operand → Value) (w : World), (execOp ρ o).run P w = .ok (.value (ptrTo w.heap.size)) (w.alloc (zero i))
 | .st j => (match o.op with
   | .store _ t x => ∀ R s (ρ : Operand → Value) (w : World) (g : Nat), T s R w → nd.getD i 0 ≤ s → ρ t = ptrTo g → ρ x = (A R).eval x → W.heap.size ≤ g → w.heap[g]? = some (zero j) → Stores P ρ o w g (full R i) ∧ ∀ w1, Filled w w1 g (full R i) → T s R w1
   | _ => False)
 | .so c => (match o.op with
   | .store _ p x => ∀ R s (ρ : Operand → Value) (w : World), T s R w → nd.getD i 0 ≤ s → ρ p = (A R).eval p → ρ x = (A R).eval x → w.heap[tgt c]? = W.heap[tgt c]? → Stores P ρ o w (tgt c) (full R i) ∧ ∀ w1, Filled w w1 (tgt c) (full R i) → T s R w1
   | _ => False)
structure EInv (T : Nat → (Nat → Value) → World → Prop) (E : Nat → Prop) (l : List Oper) (kd : List Tg) (zero : Nat → Obj) (full : (Nat → Value) → Nat → Obj) (tgt : Nat → Nat) (W : World) (S : List Nat) (s : Nat) (R : Nat → Value) (G : Nat → Nat) (w : World) : Prop where
 nd : S.Nodup
 inn : ∀ i ∈ S, i < l.length
 same : SameE kd tgt E W w
 made : ∀ i ∈ S, tgOf kd i = .al → W.heap.size ≤ G i ∧ G i < w.heap.size
 apart : ∀ i ∈ S, ∀ j ∈ S, tgOf kd i = .al → tgOf kd j = .al → G i = G j → i = j
 zeros : ∀ i ∈ S, tgOf kd i = .al → (∀ s ∈ S, tgOf kd s ≠ .st i) → w.heap[G i]? = some (zero i)
 fulls : ∀ s ∈ S, ∀ i, tgOf kd s = .st i → i ∈ S ∧ tgOf kd i = .al ∧ w.heap[G i]? = some (full R s)
 olds : ∀ s, s < l.length → ∀ c, tgOf kd s = .so c → s ∉ S → w.heap[tgt c]? = W.heap[tgt c]?
 olds' : ∀ s ∈ S, ∀ c, tgOf kd s = .so c → w.heap[tgt c]? = some (full R s)
 cl : ∀ s ∈ S, ∀ o, l[s]? = some o → ∀ k, dep o k = true → k ∈ S
 stage : ∀ i, i < l.length → ∀ m, tgOf kd i = .ev m → (i ∈ S ↔ m < s)
 holds : T s R w
section
variable {l : List Oper} {kd : List Tg} {V : (Nat → Value) → List Value}
theorem frE_none (u : Nat → Value) (t : Tmp) : ∀ (S : List Nat) (a0 : Act), (∀ k ∈ S, dstOf l k ≠ some t) → (frE l u a0 S).tmps[t]? = a0.tmps[t]?
 | [], a0, _ => rfl
 | k :: S, a0, h => by
   show (frE l u (a0.put (dstOf l k) (u k)) S).tmps[t]? = _
   rw [frE_none u t S _ (fun j hj => h j (by simp [hj]))]
   have hk := h k (by simp)
   cases hd : dstOf l k with
   | none => rfl
   | some d =>
     have : d ≠ t := fun e => hk (by rw [hd, e])
     simp [Act.put, Array.getElem?_setIfInBounds_ne this]
theorem frE_some (u : Nat → Value) (t : Tmp) (k : Nat) (hk : dstOf l k = some t) : ∀ (S : List Nat) (a0 : Act), S.Nodup → k ∈ S → (∀ j ∈ S, dstOf l j = some t → j = k) → (frE l u a0 S).tmps[t]? = if t < a0.tmps.size then some (u k) else none
 | [], a0, _, h, _ => by simp at h
 | j :: S, a0, hn, h, hu => by
   show (frE l u (a0.put (dstOf l j) (u j)) S).tmps[t]? = _
   obtain ⟨hj, hn'⟩ := List.nodup_cons.1 hn
   by_cases e : j = k
   · subst e
     rw [frE_none u t S _ (fun i hi he => hj (by rw [← hu i (by simp [hi]) he]; exact hi)), hk]
     simp [Act.put, Array.getElem?_setIfInBounds]
   · have hkS : k ∈ S := by
       rcases List.mem_cons.1 h with h | h
       · exact absurd h.symm e
       · exact h
     rw [frE_some u t k hk S _ hn' hkS (fun i hi he => hu i (by simp [hi]) he), put_size]
theorem frE_congr (u u' : Nat → Value) : ∀ (S : List Nat) (a0 : Act), (∀ i ∈ S, u i = u' i) → frE l u a0 S = frE l u' a0 S
 | [], _, _ => rfl
 | k :: S, a0, h => by
   show frE l u (a0.put (dstOf l k) (u k)) S = frE l u' (a0.put (dstOf l k) (u' k)) S
   rw [h k (by simp)]
   exact frE_congr u u' S _ (fun i hi => h i (by simp [hi]))
theorem frE_snoc (u : Nat → Value) (a0 : Act) (S : List Nat) (i : Nat) : frE l u a0 (S ++ [i]) = (frE l u a0 S).put (dstOf l i) (u i) := by
 unfold frE; rw [List.foldl_append]; rfl
theorem frE_perm (u : Nat → Value) (a0 : Act) {S S' : List Nat} (h : S.Perm S') (h1 : OneWriter l) : frE l u a0 S = frE l u a0 S' := by
 unfold frE
 refine List.Perm.foldl_eq' h (fun x hx y hy a => ?_) a0
 by_cases e : x = y
 · subst e; rfl
 · exact Act.put_comm a _ _ (fun d hd hy => e (h1 x y d hd hy))
theorem okE_of (h : chkE l kd = true) {i : Nat} {o : Oper} (ho : l[i]? = some o) : okE l kd i = true := by
 unfold chkE at h
 rw [List.all_eq_true] at h
 exact h i (List.mem_range.2 (List.getElem?_eq_some_iff.1 ho).1)
theorem one_writerE (h : chkE l kd = true) : OneWriter l := by
 intro i j t hi hj
 have hil := dst_lt hi
 have hjl := dst_lt hj
 have := okE_of h (List.getElem?_eq_getElem hil)
 unfold okE at this
 rw [List.getElem?_eq_getElem hil] at this
 simp only [Bool.and_eq_true, List.all_eq_true] at this
 have hu := this.1.2 j (List.mem_range.2 hjl)
 have hd : l[i].dst = some t := by unfold dstOf at hi; rw [List.getElem?_eq_getElem hil] at hi; simpa using hi
 rw [hd] at hu
 simp [hj] at hu
 exact hu.symm
theorem specE (h : chkE l kd = true) {i : Nat} {o : Oper} (ho : l[i]? = some o) : (o.guard = none → tgOf kd i ≠ .sk) ∧ (∀ k b, o.guard = some (k, b) → dep o k = true ∧ k < l.length ∧ (∃ d, dstOf l k = some d) ∧ (tgOf kd k).known = true) ∧ (∀ cs b, o.op ≠ .select cs b) ∧ (∀ e ∈ o.after, Region.binds .any e = true → e.on < i) ∧
   ((tgOf kd i = .q ∨ ∃ m, tgOf kd i = .ev m) → ∀ x ∈ o.op.operands, calmE l kd o x = true) ∧
   (∀ m, tgOf kd i = .ev m → ∀ k, k < l.length → ∀ m', tgOf kd k = .ev m' → (m' = m → k = i) ∧ (m' < m → anc l l.length i k = true)) ∧
   (∀ j, tgOf kd i = .st j → ∃ T t x, o.op = .store T (.tmp t) x ∧ o.dst = none ∧ dstOf l j = some t ∧ dep o j = true ∧ tgOf kd j = .al ∧ calmE l kd o x = true ∧ ∀ k, k < l.length → tgOf kd k = .st j → k = i) ∧
   (∀ c, tgOf kd i = .so c → ∃ T p x, o.op = .store T p x ∧ o.dst = none ∧ calmE l kd o p = true ∧ calmE l kd o x = true ∧ ∀ k, k < l.length → tgOf kd k = .so c → k = i) := by
 have := okE_of h ho
 unfold okE at this
 rw [ho] at this
 simp only [Bool.and_eq_true] at this
 obtain ⟨⟨⟨⟨h1, h2⟩, h3⟩, h4⟩, h5⟩ := this
 refine ⟨?_, ?_, ?_, ?_, ?_, ?_, ?_, ?_⟩
 · intro hg
   rw [hg] at h1
   simpa using h1
 · intro k b hg
   rw [hg] at h1
   simp only [Bool.and_eq_true] at h1
   obtain ⟨⟨⟨a1, a2⟩, a3⟩, a4⟩ := h1
   exact ⟨a1, by simpa using a2, Option.isSome_iff_exists.1 a3, a4⟩
 · intro cs b e
   rw [e] at h2; simp at h2
 · intro e he hb
   have := Array.all_eq_true_iff_forall_mem.1 h3 e he
   rw [hb] at this; simpa using this
 · rintro (ht | ⟨m, ht⟩)
   · simp only [ht] at h5
     intro x hx
     exact Array.all_eq_true_iff_forall_mem.1 h5 x hx
   · simp only [ht, Bool.and_eq_true] at h5
     intro x hx
     exact Array.all_eq_true_iff_forall_mem.1 h5.1 x hx
 · intro m ht k hk m' hm'
   simp only [ht, Bool.and_eq_true, List.all_eq_true] at h5
   have := h5.2 k (List.mem_range.2 hk)
   rw [hm'] at this
   simp only [Bool.or_eq_true, beq_iff_eq, Bool.and_eq_true, bne_iff_ne, Bool.not_eq_true', decide_eq_false_iff_not] at this
   rcases this with rfl | ⟨a, b⟩
   · rw [ht] at hm'
     obtain rfl : m = m' := by simpa using hm'
     exact ⟨fun _ => rfl, fun h => by omega⟩
   · exact ⟨fun e => absurd e a, fun hl => b.resolve_left (fun h => h hl)⟩
 · intro j ht
   simp only [ht] at h5
   split at h5
   · rename_i T t x hop
     simp only [Bool.and_eq_true, List.all_eq_true] at h5
     obtain ⟨⟨⟨⟨⟨g1, g2⟩, g3⟩, g4⟩, g5⟩, g6⟩ := h5
     refine ⟨T, t, x, hop, by simpa using g1, by simpa using g2, g3, by simpa using g4, g5, ?_⟩
     intro k hk hkt
     have := g6 k (List.mem_range.2 hk)
     rw [hkt] at this; simpa using this
   · simp at h5
 · intro c ht
   simp only [ht] at h5
   split at h5
   · rename_i T p x hop
     simp only [Bool.and_eq_true, List.all_eq_true] at h5
     obtain ⟨⟨⟨g1, g2⟩, g3⟩, g4⟩ := h5
     refine ⟨T, p, x, hop, by simpa using g1, g2, g3, ?_⟩
     intro k hk hkt
     have := g4 k (List.mem_range.2 hk)
     rw [hkt] at this; simpa using this
   · simp at h5
variable {T : Nat → (Nat → Value) → World → Prop} {E : Nat → Prop} {zero : Nat → Obj} {full : (Nat → Value) → Nat → Obj} {tgt : Nat → Nat} {a0 : Act} {W : World} {S : List Nat} {s : Nat} {R : Nat → Value} {G : Nat → Nat} {w : World} {nd : List Nat}
theorem uE_known {R : Nat → Value} (G G' : Nat → Nat) {k : Nat} (h : (tgOf kd k).known = true) : uE kd V R G k = uE kd V R G' k := by
 unfold uE slE
 cases ht : tgOf kd k <;> simp [ht, Tg.known] at h ⊢
theorem evalE (hck : chkE l kd = true) (G G' : Nat → Nat) (a0 : Act) (hS : S.Nodup) {o : Oper} (hdep : ∀ k, dep o k = true → k ∈ S) {x : Operand} (hx : calmE l kd o x = true) :
   (frE l (uE kd V R G) a0 S).eval x = (frE l (uE kd V R G') a0 (List.range l.length)).eval x := by
 have h1 := one_writerE hck
 cases x with
 | tmp t =>
   simp only [calmE, List.all_eq_true] at hx
   by_cases hw : ∃ k, dstOf l k = some t
   · obtain ⟨k, hk⟩ := hw
     have hkl := dst_lt hk
     have := hx k (List.mem_range.2 hkl)
     rw [hk] at this
     simp at this
     obtain ⟨hd, hq⟩ := this
     have e1 := frE_some (uE kd V R G) t k hk S a0 hS (hdep k hd) (fun j _ hj => h1 j k t hj hk)
     have e2 := frE_some (uE kd V R G') t k hk (List.range l.length) a0 List.nodup_range (List.mem_range.2 hkl) (fun j _ hj => h1 j k t hj hk)
     simp only [Act.eval, Array.getD_eq_getD_getElem?]
     rw [e1, e2, uE_known G G' hq]
   · have e1 := frE_none (uE kd V R G) t S a0 (fun k _ e => hw ⟨k, e⟩)
     have e2 := frE_none (uE kd V R G') t (List.range l.length) a0 (fun k _ e => hw ⟨k, e⟩)
     simp only [Act.eval, Array.getD_eq_getD_getElem?]
     rw [e1, e2]
 | _ => rfl
theorem readyE_some (hck : chkE l kd = true) {listed : Array Bool} {S : List Nat} (hL : ∀ j, j < l.length → (listed.getD j true = decide (j ∈ S)) ∧ listed.getD j false = decide (j ∈ S)) {m : Nat} (hm : m < l.length) (hmS : m ∉ S) : Region.ready .any l.toArray listed ≠ [] := by
 induction m using Nat.strongRecOn with
 | ind m ih =>
   by_cases hlow : ∃ j, j < m ∧ j ∉ S
   · obtain ⟨j, hj, hjS⟩ := hlow
     exact ih j hj (by omega) hjS
   · intro he
     have : m ∈ Region.ready .any l.toArray listed := by
       unfold Region.ready
       rw [List.mem_filter]
       refine ⟨by simpa using hm, ?_⟩
       rw [List.getElem?_toArray, List.getElem?_eq_getElem hm]
       simp only [Option.map_some, Option.getD_some, Bool.and_eq_true]
       refine ⟨by rw [(hL m hm).1]; simpa using hmS, ?_⟩
       rw [Array.all_eq_true_iff_forall_mem]
       intro e hee
       cases hb : Region.binds .any e
       · rfl
       · have hlt := (specE hck (List.getElem?_eq_getElem hm)).2.2.2.1 e hee hb
         have : e.on ∈ S := Classical.byContradiction fun hn => hlow ⟨e.on, hlt, hn⟩
         simp [(hL e.on (by omega)).2, this]
     rw [he] at this
     simp at this
theorem tg_mem {i : Nat} {c : Nat} (h : tgOf kd i = .so c) : Tg.so c ∈ kd := by
 unfold tgOf at h
 rw [List.getD_eq_getElem?_getD] at h
 cases hx : kd[i]? with
 | none => rw [hx] at h; simp at h
 | some t => rw [hx] at h; simp at h; rw [← h]; exact List.mem_of_getElem? hx
theorem Below.growE {w w' : World} (h : Below w.heap.size w w') : GrowE E w w' := ⟨h.os, h.tape, h.output, h.size, fun k hk _ => h.block k hk⟩
theorem GrowE.kept {w w' : World} {k : Nat} {x : Obj} (h : GrowE E w w') (hk : ¬ E k) (e : w.heap[k]? = some x) : w'.heap[k]? = some x := by
 rw [h.2.2.2.2 k (Array.getElem?_eq_some_iff.1 e).1 hk]; exact e
theorem SameE.grow {w w' : World} (h : SameE kd tgt E W w) (k : GrowE E w w') : SameE kd tgt E W w' :=
 ⟨k.1.trans h.1, k.2.1.trans h.2.1, k.2.2.1.trans h.2.2.1, Nat.le_trans h.2.2.2.1 k.2.2.2.1, fun j hj he hc => (k.2.2.2.2 j (Nat.lt_of_lt_of_le hj h.2.2.2.1) he).trans (h.2.2.2.2 j hj he hc)⟩
theorem stage_snoc (hI : EInv T E l kd zero full tgt W S s R G w) {i : Nat} (hn : ∀ m, tgOf kd i ≠ .ev m) : ∀ j, j < l.length → ∀ m, tgOf kd j = .ev m → (j ∈ S ++ [i] ↔ m < s) := by
 intro j hj m hm
 rw [← hI.stage j hj m hm]
 constructor
 · intro h
   rcases List.mem_append.1 h with h | h
   · exact h
   · simp at h; subst h; exact absurd hm (hn m)
 · intro h; exact List.mem_append.2 (Or.inl h)
theorem inv_grow (hE : ∀ k, E k → k < W.heap.size) (hEt : ∀ c, Tg.so c ∈ kd → ¬ E (tgt c)) (htg : ∀ c, Tg.so c ∈ kd → tgt c < W.heap.size) (hI : EInv T E l kd zero full tgt W S s R G w) {i : Nat} (hi : i < l.length) (hn : i ∉ S) (ht : (tgOf kd i).known = true) (hcl : ∀ o, l[i]? = some o → ∀ k, dep o k = true → k ∈ S) {w' : World} {s' : Nat} {R' : Nat → Value} (hB : GrowE E w w') (hst : ∀ j, j < l.length → ∀ m, tgOf kd j = .ev m → (j ∈ S ++ [i] ↔ m < s')) (hfl : ∀ k ∈ S, full R' k = full R k) (hT : T s' R' w') : EInv T E l kd zero full tgt W (S ++ [i]) s' R' G w' := by
 have hm : ∀ s t, s ∈ S ++ [i] → tgOf kd s = t → t.known = false → s ∈ S := by
   intro s t hs h1 h2
   rcases List.mem_append.1 hs with h | h
   · exact h
   · simp at h; subst h; rw [h1] at ht; rw [ht] at h2; simp at h2
 have hsz := hB.2.2.2.1
 have hold := hI.same.2.2.2.1
 have hne : ∀ k, W.heap.size ≤ k → ¬ E k := fun k hk he => by have := hE k he; omega
 refine ⟨nodup_snoc hI.nd hn, ?_, hI.same.grow hB, ?_, ?_, ?_, ?_, ?_, ?_, cl_snoc hI.cl hcl, hst, hT⟩
 · intro j hj
   rcases List.mem_append.1 hj with h | h
   · exact hI.inn j h
   · simp at h; subst h; exact hi
 · intro j hj hjt
   have := hI.made j (hm j _ hj hjt rfl) hjt
   omega
 · intro j hj k hk h1 h2 h3
   exact hI.apart j (hm j _ hj h1 rfl) k (hm k _ hk h2 rfl) h1 h2 h3
 · intro j hj hjt hno
   have hjS := hm j _ hj hjt rfl
   exact hB.kept (hne _ (hI.made j hjS hjt).1) (hI.zeros j hjS hjt (fun s hs => hno s (by simp [hs])))
 · intro s hs j hst
   obtain ⟨h1, h2, h3⟩ := hI.fulls s (hm s _ hs hst rfl) j hst
   exact ⟨by simp [h1], h2, by rw [hfl s (hm s _ hs hst rfl)]; exact hB.kept (hne _ (hI.made j h1 h2).1) h3⟩
 · intro s hs c hc hns
   have h := hI.olds s hs c hc (fun h => hns (by simp [h]))
   rw [hB.2.2.2.2 _ (Nat.lt_of_lt_of_le (htg c (tg_mem hc)) hold) (hEt c (tg_mem hc))]
   exact h
 · intro s hs c hc
   rw [hfl s (hm s _ hs hc rfl)]
   exact hB.kept (hEt c (tg_mem hc)) (hI.olds' s (hm s _ hs hc rfl) c hc)
theorem inv_alE (hE : ∀ k, E k → k < W.heap.size) (hTB : ∀ s R w w', T s R w → Below w.heap.size w w' → T s R w') (htg : ∀ c, Tg.so c ∈ kd → tgt c < W.heap.size) (hI : EInv T E l kd zero full tgt W S s R G w) {i : Nat} (hi : i < l.length) (hn : i ∉ S) (ht : tgOf kd i = .al) (hcl : ∀ o, l[i]? = some o → ∀ k, dep o k = true → k ∈ S) : EInv T E l kd zero full tgt W (S ++ [i]) s R (fun k => if k = i then w.heap.size else G k) (w.alloc (zero i)) := by
 have hB := below_alloc w (zero i)
 have hne : ∀ j, j ∈ S → j ≠ i := fun j hj e => hn (e ▸ hj)
 have hsz : (w.alloc (zero i)).heap.size = w.heap.size + 1 := by simp
 have hcase : ∀ j, j ∈ S ++ [i] → j ∈ S ∨ j = i := by intro j hj; simpa using hj
 have hnew : (w.alloc (zero i)).heap[w.heap.size]? = some (zero i) := Array.getElem?_push_size
 refine ⟨nodup_snoc hI.nd hn, ?_, hI.same.grow (Below.growE hB), ?_, ?_, ?_, ?_, ?_, ?_, cl_snoc hI.cl hcl, stage_snoc hI (by simp [ht]), hTB _ _ _ _ hI.holds hB⟩
 · intro j hj
   rcases hcase j hj with h | h
   · exact hI.inn j h
   · subst h; exact hi
 · intro j hj hjt
   rcases hcase j hj with h | h
   · have := hI.made j h hjt
     rw [if_neg (hne j h)]; omega
   · subst h
     have := hI.same.2.2.2.1
     simp only [if_true]; omega
 · intro j hj k hk h1 h2 h3
   rcases hcase j hj with qj | qj <;> rcases hcase k hk with qk | qk
   · simp only [if_neg (hne j qj), if_neg (hne k qk)] at h3
     exact hI.apart j qj k qk h1 h2 h3
   · subst qk
     simp only [if_neg (hne j qj), if_true] at h3
     have := (hI.made j qj h1).2
     omega
   · subst qj
     simp only [if_neg (hne k qk), if_true] at h3
     have := (hI.made k qk h2).2
     omega
   · rw [qj, qk]
 · intro j hj hjt hno
   rcases hcase j hj with hj | hj
   · simp only [if_neg (hne j hj)]
     exact kept hB (hI.zeros j hj hjt (fun s hs => hno s (by simp [hs])))
   · subst hj
     simp only [if_true]; exact hnew
 · intro s hs j hst
   rcases hcase s hs with hs' | hs'
   · obtain ⟨h1, h2, h3⟩ := hI.fulls s hs' j hst
     refine ⟨by simp [h1], h2, ?_⟩
     simp only [if_neg (hne j h1)]
     exact kept hB h3
   · subst hs'; rw [ht] at hst; simp at hst
 · intro s hs c hc hns
   have h := hI.olds s hs c hc (fun h => hns (by simp [h]))
   rw [hB.block _ (Nat.lt_of_lt_of_le (htg c (tg_mem hc)) hI.same.2.2.2.1)]
   exact h
 · intro s hs c hc
   rcases hcase s hs with hs' | hs'
   · exact kept hB (hI.olds' s hs' c hc)
   · subst hs'; rw [ht] at hc; simp at hc
theorem inv_stE (hE : ∀ k, E k → k < W.heap.size) (htg : ∀ c, Tg.so c ∈ kd → tgt c < W.heap.size) (hck : chkE l kd = true) (hI : EInv T E l kd zero full tgt W S s R G w) {i j : Nat} {o : Oper} (ho : l[i]? = some o) (hn : i ∉ S) (ht : tgOf kd i = .st j) (hj : j ∈ S) (hcl : ∀ o, l[i]? = some o → ∀ k, dep o k = true → k ∈ S) {w1 : World} (hF : Filled w w1 (G j) (full R i)) (hT : T s R w1) : EInv T E l kd zero full tgt W (S ++ [i]) s R G w1 := by
 have hil := (List.getElem?_eq_some_iff.1 ho).1
 obtain ⟨_, _, _, _, _, _, hst, _⟩ := specE hck ho
 obtain ⟨T', t, x, _, _, _, _, hal, _, huniq⟩ := hst j ht
 obtain ⟨f1, f2, f3, f4, f5, f6⟩ := hF
 have hcase : ∀ k, k ∈ S ++ [i] → k ∈ S ∨ k = i := by intro k hk; simpa using hk
 have hjm := hI.made j hj hal
 have htag : ∀ k, k ∈ S ++ [i] → tgOf kd k = .al → k ∈ S := by
   intro k hk hkt
   rcases hcase k hk with h | h
   · exact h
   · subst h; rw [ht] at hkt; simp at hkt
 have hold : ∀ k, k < W.heap.size → w1.heap[k]? = w.heap[k]? := fun k hk => f2 k (by omega)
 refine ⟨nodup_snoc hI.nd hn, ?_, ⟨f4.trans hI.same.1, f5.trans hI.same.2.1, f6.trans hI.same.2.2.1, by have := hI.same.2.2.2.1; omega, fun k hk he hc => (hold k hk).trans (hI.same.2.2.2.2 k hk he hc)⟩, ?_, ?_, ?_, ?_, ?_, ?_, cl_snoc hI.cl hcl, stage_snoc hI (by simp [ht]), hT⟩
 · intro k hk
   rcases hcase k hk with h | h
   · exact hI.inn k h
   · subst h; exact hil
 · intro k hk hkt
   have := hI.made k (htag k hk hkt) hkt
   omega
 · intro k hk m hm h1 h2 h3
   exact hI.apart k (htag k hk h1) m (htag m hm h2) h1 h2 h3
 · intro k hk hkt hno
   have hkS := htag k hk hkt
   have hkj : k ≠ j := by
     intro e; subst e
     exact hno i (by simp) ht
   rw [f2 (G k) (fun e => hkj (hI.apart k hkS j hj hkt hal e))]
   exact hI.zeros k hkS hkt (fun s hs => hno s (by simp [hs]))
 · intro s hs k hst'
   rcases hcase s hs with hs' | hs'
   · obtain ⟨h1, h2, h3⟩ := hI.fulls s hs' k hst'
     have hkj : k ≠ j := by
       intro e; subst e
       have := huniq s (hI.inn s hs') hst'
       exact hn (this ▸ hs')
     refine ⟨by simp [h1], h2, ?_⟩
     rw [f2 (G k) (fun e => hkj (hI.apart k h1 j hj h2 hal e))]
     exact h3
   · subst hs'
     rw [ht] at hst'
     obtain rfl : j = k := by simpa using hst'
     exact ⟨by simp [hj], hal, f1⟩
 · intro s hs c hc hns
   rw [hold _ (htg c (tg_mem hc))]
   exact hI.olds s hs c hc (fun h => hns (by simp [h]))
 · intro s hs c hc
   rcases hcase s hs with hs' | hs'
   · rw [hold _ (htg c (tg_mem hc))]
     exact hI.olds' s hs' c hc
   · subst hs'; rw [ht] at hc; simp at hc
theorem inv_soE (htg : ∀ c, Tg.so c ∈ kd → tgt c < W.heap.size) (htd : ∀ c c', Tg.so c ∈ kd → Tg.so c' ∈ kd → tgt c = tgt c' → c = c') (hck : chkE l kd = true) (hI : EInv T E l kd zero full tgt W S s R G w) {i c : Nat} {o : Oper} (ho : l[i]? = some o) (hn : i ∉ S) (ht : tgOf kd i = .so c) (hcl : ∀ o, l[i]? = some o → ∀ k, dep o k = true → k ∈ S) {w1 : World} (hF : Filled w w1 (tgt c) (full R i)) (hT : T s R w1) : EInv T E l kd zero full tgt W (S ++ [i]) s R G w1 := by
 have hil := (List.getElem?_eq_some_iff.1 ho).1
 obtain ⟨_, _, _, _, _, _, _, hso⟩ := specE hck ho
 obtain ⟨T', p, x, _, _, _, _, huniq⟩ := hso c ht
 obtain ⟨f1, f2, f3, f4, f5, f6⟩ := hF
 have hcm := tg_mem ht
 have hcl0 := htg c hcm
 have hcase : ∀ k, k ∈ S ++ [i] → k ∈ S ∨ k = i := by intro k hk; simpa using hk
 have htag : ∀ k, k ∈ S ++ [i] → tgOf kd k = .al → k ∈ S := by
   intro k hk hkt
   rcases hcase k hk with h | h
   · exact h
   · subst h; rw [ht] at hkt; simp at hkt
 have hnew : ∀ k, k ∈ S → tgOf kd k = .al → w1.heap[G k]? = w.heap[G k]? := fun k hk hkt => f2 _ (by have := (hI.made k hk hkt).1; omega)
 refine ⟨nodup_snoc hI.nd hn, ?_, ⟨f4.trans hI.same.1, f5.trans hI.same.2.1, f6.trans hI.same.2.2.1, by have := hI.same.2.2.2.1; omega, fun k hk he hc => (f2 k (fun e => hc c hcm e.symm)).trans (hI.same.2.2.2.2 k hk he hc)⟩, ?_, ?_, ?_, ?_, ?_, ?_, cl_snoc hI.cl hcl, stage_snoc hI (by simp [ht]), hT⟩
 · intro k hk
   rcases hcase k hk with h | h
   · exact hI.inn k h
   · subst h; exact hil
 · intro k hk hkt
   have := hI.made k (htag k hk hkt) hkt
   omega
 · intro k hk m hm h1 h2 h3
   exact hI.apart k (htag k hk h1) m (htag m hm h2) h1 h2 h3
 · intro k hk hkt hno
   rw [hnew k (htag k hk hkt) hkt]
   exact hI.zeros k (htag k hk hkt) hkt (fun s hs => hno s (by simp [hs]))
 · intro s hs k hst'
   rcases hcase s hs with hs' | hs'
   · obtain ⟨h1, h2, h3⟩ := hI.fulls s hs' k hst'
     exact ⟨by simp [h1], h2, by rw [hnew k h1 h2]; exact h3⟩
   · subst hs'; rw [ht] at hst'; simp at hst'
 · intro s hs c' hc hns
   have hne : c' ≠ c := by
     intro e; subst e
     have := huniq s hs hc
     subst this; exact hns (by simp)
   rw [f2 _ (fun e => hne (htd c' c (tg_mem hc) hcm e))]
   exact hI.olds s hs c' hc (fun h => hns (by simp [h]))
 · intro s hs c' hc
   rcases hcase s hs with hs' | hs'
   · have hne : c' ≠ c := by
       intro e; subst e
       have := huniq s (hI.inn s hs') hc
       exact hn (this ▸ hs')
     rw [f2 _ (fun e => hne (htd c' c (tg_mem hc) hcm e))]
     exact hI.olds' s hs' c' hc
   · subst hs'
     rw [ht] at hc
     obtain rfl : c = c' := by simpa using hc
     exact f1
end
end
end Go.Proofs.Ytlfmeiejocpnfaa
