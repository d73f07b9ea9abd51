/- The program's package simplest: absolute values, and what is simpler. Conditions: the numbers fit. -/
import Derived.Test.YtbnbkondbdakeaaSimA
import Derived.Test.YtbnbkondbdakeaaDeclW
import Derived.Test.YtbnbkondbdakeaaBest
namespace Go.Proofs.Ytbnbkondbdakeaa
set_option linter.unusedVariables false
set_option linter.unusedSimpArgs false
open Go Go.RowKit Go.Sort
attribute [local go_sem] qUpon putAll slotV
theorem sign_pos {z : Int} (h : 0 < z) : z.sign = 1 := Int.sign_eq_one_of_pos h
theorem sign_neg {z : Int} (h : z < 0) : z.sign = -1 := Int.sign_eq_neg_one_of_neg h
theorem F256.abs {z : Int} (h : F256 z) : F256 (z.natAbs : Int) := by unfold F256 at *; simpa using h
theorem F256.neg {z : Int} (h : F256 z) : F256 (-z) := by unfold F256 at *; simpa using h
theorem some_sign (z : Int) : ∃ k : Int, z.sign = k ∧ (k < 0 ↔ z < 0) ∧ (0 < k ↔ 0 < z) ∧ (k = 0 ↔ z = 0) := by
  refine ⟨_, rfl, ?_⟩
  rcases Int.lt_trichotomy z 0 with h | h | h
  · rw [sign_neg h]; omega
  · subst h; simp
  · rw [sign_pos h]; omega
theorem neWW {x y : Int} (hx : F256 x) (hy : F256 y) (w : World) : (binOp .neq 25 (.agg #[.bool (sg x), .int .u64 (l0 x : Int), .int .u64 (l1 x : Int), .int .u64 (l2 x : Int), .int .u64 (l3 x : Int)]) (.agg #[.bool (sg y), .int .u64 (l0 y : Int), .int .u64 (l1 y : Int), .int .u64 (l2 y : Int), .int .u64 (l3 y : Int)])).run Try.prog w = .ok (.bool (decide (x ≠ y))) w := by
  rw [neq5]
  have e := same_isC (isC_of hx) (isC_of hy)
  unfold same5 at e
  rw [e]; simp
set_option maxRecDepth 100000 in
set_option maxHeartbeats 8000000 in
theorem s_absolute {z m : Int} (hz : F256 z) (e : (z.natAbs : Int) = m) (w : World) : Calls Try.prog 83 #[.agg #[.bool (sg z), .int .u64 (l0 z : Int), .int .u64 (l1 z : Int), .int .u64 (l2 z : Int), .int .u64 (l3 z : Int)]] w (Ret (.agg #[.bool (sg m), .int .u64 (l0 m : Int), .int .u64 (l1 m : Int), .int .u64 (l2 m : Int), .int .u64 (l3 m : Int)]) w) := by
  obtain ⟨k, hk, k1, _, _⟩ := some_sign z
  have kS : Hid (∀ w, Calls Try.prog 62 #[.agg #[.bool (sg z), .int .u64 (l0 z : Int), .int .u64 (l1 z : Int), .int .u64 (l2 z : Int), .int .u64 (l3 z : Int)]] w (Ret (.int .i64 k) w)) := fun w => c_sign hz hk w
  by_cases hn : z < 0
  · have hm : -z = m := by omega
    have kN : Hid (∀ w, Calls Try.prog 63 #[.agg #[.bool (sg z), .int .u64 (l0 z : Int), .int .u64 (l1 z : Int), .int .u64 (l2 z : Int), .int .u64 (l3 z : Int)]] w (Ret (.agg #[.bool (sg m), .int .u64 (l0 m : Int), .int .u64 (l1 m : Int), .int .u64 (l2 m : Int), .int .u64 (l3 m : Int)]) w)) := fun w => c_neg hz hm w
    have hk0 : k < 0 := k1.2 hn
    clear hk k1 e hm hn
    obtain ⟨W0, hW0⟩ : ∃ W0, W0 = ((w.alloc (.cells #[.bool (sg z), .int .u64 (l0 z : Int), .int .u64 (l1 z : Int), .int .u64 (l2 z : Int), .int .u64 (l3 z : Int)] 25)).alloc (.cells #[.bool false, .int .u64 0, .int .u64 0, .int .u64 0, .int .u64 0] 25)) := ⟨_, rfl⟩
    have H2 := two_blocks w (.cells #[.bool (sg z), .int .u64 (l0 z : Int), .int .u64 (l1 z : Int), .int .u64 (l2 z : Int), .int .u64 (l3 z : Int)] 25) (.cells #[.bool false, .int .u64 0, .int .u64 0, .int .u64 0, .int .u64 0] 25)
    have EE0 : Ext w W0 := by rw [hW0]; exact ((ext_alloc _ _).trans (ext_alloc _ _))
    rw [← hW0] at H2
    have EE := hide EE0
    have HW := hide hW0
    obtain ⟨P1, P2⟩ : Box W0 (w.heap.size) (sg z) (l0 z) (l1 z) (l2 z) (l3 z) ∧ Box W0 ((w.heap.size + 1)) false 0 0 0 0 := H2
    clear hW0 EE0
    go_enter Try.func83, Try.ntmps83
    go_upto_region 1 with fail
    rw [← HW.out]
    clear HW
    have hg0 : w.heap.size ≤ w.heap.size := Nat.le_refl _
    obtain ⟨g0, hg⟩ : ∃ g, w.heap.size = g := ⟨_, rfl⟩
    rw [hg] at P1 P2 ⊢
    replace hg0 : w.heap.size ≤ g0 := Nat.le_of_eq hg
    clear hg
    obtain ⟨xP10, xP11, xP12, xP13, xP14, xP1f0, xP1f1, xP1f2, xP1f3, xP1f4⟩ := five_cells P1; obtain ⟨xP20, xP21, xP22, xP23, xP24, xP2f0, xP2f1, xP2f2, xP2f3, xP2f4⟩ := five_cells P2
    go_wp2_with (first
      | (go_at_call 62; (with_reducible refine (kS.out _).mono ?_); rintro e w1 ⟨rfl, hE⟩; have P1 := P1.ext hE; have P2 := P2.ext hE; have EE := hide (EE.out.trans hE); obtain ⟨xP10, xP11, xP12, xP13, xP14, xP1f0, xP1f1, xP1f2, xP1f3, xP1f4⟩ := five_cells P1; obtain ⟨xP20, xP21, xP22, xP23, xP24, xP2f0, xP2f1, xP2f2, xP2f3, xP2f4⟩ := five_cells P2; clear hE)
      | (go_at_call 63; (with_reducible refine (kN.out _).mono ?_); rintro e w2 ⟨rfl, hE⟩; have P1 := P1.ext hE; have P2 := P2.ext hE; have EE := hide (EE.out.trans hE); obtain ⟨xP10, xP11, xP12, xP13, xP14, xP1f0, xP1f1, xP1f2, xP1f3, xP1f4⟩ := five_cells P1; obtain ⟨xP20, xP21, xP22, xP23, xP24, xP2f0, xP2f1, xP2f2, xP2f3, xP2f4⟩ := five_cells P2; clear hE))
    exact bodyPost_ret (v := .agg #[.bool (sg m), .int .u64 (l0 m : Int), .int .u64 (l1 m : Int), .int .u64 (l2 m : Int), .int .u64 (l3 m : Int)]) (by simp [results, Try.results83, go_sem, xP20, xP21, xP22, xP23, xP24]) rfl ⟨rfl, ext_five EE.out (by omega) _ _ _ _ _⟩
  · obtain rfl : z = m := by omega
    have hk0 : ¬ k < 0 := fun q => hn (k1.1 q)
    clear hk k1 e hn
    obtain ⟨W0, hW0⟩ : ∃ W0, W0 = ((w.alloc (.cells #[.bool (sg z), .int .u64 (l0 z : Int), .int .u64 (l1 z : Int), .int .u64 (l2 z : Int), .int .u64 (l3 z : Int)] 25)).alloc (.cells #[.bool false, .int .u64 0, .int .u64 0, .int .u64 0, .int .u64 0] 25)) := ⟨_, rfl⟩
    have H2 := two_blocks w (.cells #[.bool (sg z), .int .u64 (l0 z : Int), .int .u64 (l1 z : Int), .int .u64 (l2 z : Int), .int .u64 (l3 z : Int)] 25) (.cells #[.bool false, .int .u64 0, .int .u64 0, .int .u64 0, .int .u64 0] 25)
    have EE0 : Ext w W0 := by rw [hW0]; exact ((ext_alloc _ _).trans (ext_alloc _ _))
    rw [← hW0] at H2
    have EE := hide EE0
    have HW := hide hW0
    obtain ⟨P1, P2⟩ : Box W0 (w.heap.size) (sg z) (l0 z) (l1 z) (l2 z) (l3 z) ∧ Box W0 ((w.heap.size + 1)) false 0 0 0 0 := H2
    clear hW0 EE0
    go_enter Try.func83, Try.ntmps83
    go_upto_region 1 with fail
    rw [← HW.out]
    clear HW
    have hg0 : w.heap.size ≤ w.heap.size := Nat.le_refl _
    obtain ⟨g0, hg⟩ : ∃ g, w.heap.size = g := ⟨_, rfl⟩
    rw [hg] at P1 P2 ⊢
    replace hg0 : w.heap.size ≤ g0 := Nat.le_of_eq hg
    clear hg
    obtain ⟨xP10, xP11, xP12, xP13, xP14, xP1f0, xP1f1, xP1f2, xP1f3, xP1f4⟩ := five_cells P1; obtain ⟨xP20, xP21, xP22, xP23, xP24, xP2f0, xP2f1, xP2f2, xP2f3, xP2f4⟩ := five_cells P2
    go_wp2_with (first
      | (go_at_call 62; (with_reducible refine (kS.out _).mono ?_); rintro e w1 ⟨rfl, hE⟩; have P1 := P1.ext hE; have P2 := P2.ext hE; have EE := hide (EE.out.trans hE); obtain ⟨xP10, xP11, xP12, xP13, xP14, xP1f0, xP1f1, xP1f2, xP1f3, xP1f4⟩ := five_cells P1; obtain ⟨xP20, xP21, xP22, xP23, xP24, xP2f0, xP2f1, xP2f2, xP2f3, xP2f4⟩ := five_cells P2; clear hE))
    exact bodyPost_ret (v := .agg #[.bool (sg z), .int .u64 (l0 z : Int), .int .u64 (l1 z : Int), .int .u64 (l2 z : Int), .int .u64 (l3 z : Int)]) (by simp [results, Try.results83, go_sem, xP20, xP21, xP22, xP23, xP24]) rfl ⟨rfl, ext_five EE.out (by omega) _ _ _ _ _⟩
end Go.Proofs.Ytbnbkondbdakeaa
