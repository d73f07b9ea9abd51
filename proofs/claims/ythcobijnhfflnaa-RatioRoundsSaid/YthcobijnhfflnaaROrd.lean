/- The law RatioOrder, walked. Conditions: the argument is a list of numbers of 64 bits. -/
import Derived.Test.YthcobijnhfflnaaL3B
import Derived.Test.YthcobijnhfflnaaTapR
namespace Go.Proofs.Ythcobijnhfflnaa
set_option linter.unusedVariables false
set_option linter.unusedSimpArgs false
open Go Go.RowKit Go.Sort
theorem cmpI_lt {a b : Int} (h : a < b) : cmpI a b = -1 := by unfold cmpI; rw [if_pos h]
theorem cmpI_gt {a b : Int} (h : b < a) : cmpI a b = 1 := by unfold cmpI; rw [if_neg (by omega), if_pos h]
theorem cmpI_eq {a b : Int} (h : a = b) : cmpI a b = 0 := by unfold cmpI; rw [if_neg (by omega), if_neg (by omega)]
theorem cmpI_le {a b : Int} (h : cmpI a b ≤ 0) : a ≤ b := by
  unfold cmpI at h; split at h
  · omega
  · split at h <;> omega
theorem le_cmpI {a b : Int} (h : a ≤ b) : cmpI a b ≤ 0 := by
  unfold cmpI; split
  · omega
  · split <;> omega
theorem cmpI_in (a b : Int) : cmpI a b = -1 ∨ cmpI a b = 0 ∨ cmpI a b = 1 := by
  unfold cmpI; split
  · simp
  · split <;> simp
/-- What three comparisons may say. -/
theorem ord_ways {n1 d1 n2 d2 n3 d3 : Int} (h1 : Frac n1 d1) (h2 : Frac n2 d2) (h3 : Frac n3 d3) {x y z r : Int} {q : Bool}
    (hx : cmpI (n1 * d2) (n2 * d1) = x) (hy : cmpI (n2 * d3) (n3 * d2) = y) (hz : cmpI (n1 * d3) (n3 * d1) = z) (hr : cmpI (n2 * d1) (n1 * d2) = r) (hq : (decide (n1 = n2) && decide (d1 = d2)) = q) :
    (x = 1 ∧ r = -1 ∧ q = false) ∨ (x = 0 ∧ r = 0 ∧ q = true ∧ 0 < y) ∨ (x = 0 ∧ r = 0 ∧ q = true ∧ y ≤ 0 ∧ z ≤ 0) ∨ (x = -1 ∧ r = 1 ∧ q = false ∧ 0 < y) ∨ (x = -1 ∧ r = 1 ∧ q = false ∧ y ≤ 0 ∧ z ≤ 0) := by
  have hle : x ≤ 0 → y ≤ 0 → z ≤ 0 := by
    intro a b
    rw [← hx] at a; rw [← hy] at b; rw [← hz]
    exact le_cmpI (frac_trans h1.1 h2.1 h3.1 (cmpI_le a) (cmpI_le b))
  have hne : n1 * d2 ≠ n2 * d1 → q = false := by
    intro h
    rw [← hq]
    by_cases e1 : n1 = n2
    · by_cases e2 : d1 = d2
      · exact absurd (by rw [e1, e2]) h
      · simp [e2]
    · simp [e1]
  rcases Int.lt_trichotomy (n1 * d2) (n2 * d1) with h | h | h
  · have e1 := cmpI_lt h
    have e2 := cmpI_gt h
    have := hne (by omega)
    by_cases hy0 : 0 < y
    · right; right; right; left; exact ⟨by omega, by omega, this, hy0⟩
    · right; right; right; right; exact ⟨by omega, by omega, this, by omega, hle (by omega) (by omega)⟩
  · have e1 := cmpI_eq h
    have e2 := cmpI_eq h.symm
    obtain ⟨rfl, rfl⟩ := frac_eq h1 h2 h
    have : q = true := by rw [← hq]; simp
    by_cases hy0 : 0 < y
    · right; left; exact ⟨by omega, by omega, this, hy0⟩
    · right; right; left; exact ⟨by omega, by omega, this, by omega, hle (by omega) (by omega)⟩
  · left; exact ⟨by rw [← hx]; exact cmpI_gt h, by rw [← hr]; exact cmpI_lt h, hne (by omega)⟩
set_option maxRecDepth 100000 in
set_option maxHeartbeats 8000000 in
theorem law_rorder (x : Option Addr) (len cap : Nat) (W : World) (hL : IsList W x len cap) : Calls Try.prog 6 #[.slice x len cap] W (BoolRet true W) := by
  have HL := hide hL
  clear hL
  go_enter Try.func6, Try.ntmps6
  go_upto_region 2 with (go_at_call 14; (with_reducible refine (t_new W x len cap HL.out).mono ?_); rintro e w1 ⟨rfl, T0, hB⟩)
  obtain ⟨b, hb⟩ : ∃ b, W.heap.size = b := ⟨_, rfl⟩
  have HB := hide hb
  rw [hb] at T0 hB
  have EE : Hid (Ext W w1) := by rw [← hb] at hB; exact hB
  rw [hb]
  clear hb hB
  go_upto_region 3 with (first
    | (go_at_call 15; (with_reducible refine (t_ratio b b _ _ T0 (Upd.refl _ _)).mono ?_); rintro e w2 ⟨n1, d1, rfl, hF1, T1, hU⟩; have HF1 := hide hF1; have EE := hide (hU.ext EE.out (by rw [HB.out]; exact Nat.le_refl _)); clear T0 hU hF1)
    | (go_at_call 15; (with_reducible refine (t_ratio b b _ _ T1 (Upd.refl _ _)).mono ?_); rintro e w3 ⟨n2, d2, rfl, hF2, T2, hU⟩; have HF2 := hide hF2; have EE := hide (hU.ext EE.out (by rw [HB.out]; exact Nat.le_refl _)); clear T1 hU hF2)
    | (go_at_call 15; (with_reducible refine (t_ratio b b _ _ T2 (Upd.refl _ _)).mono ?_); rintro e w4 ⟨n3, d3, rfl, hF3, T3, hU⟩; have HF3 := hide hF3; have EE := hide (hU.ext EE.out (by rw [HB.out]; exact Nat.le_refl _)); clear T2 hU hF3))
  have H2 := three_boxes w4 (.cells #[.bool (sg n1), .int .u64 (l0 n1 : Int), .int .u64 (l1 n1 : Int), .int .u64 (l2 n1 : Int), .int .u64 (l3 n1 : Int), .bool (sg d1), .int .u64 (l0 d1 : Int), .int .u64 (l1 d1 : Int), .int .u64 (l2 d1 : Int), .int .u64 (l3 d1 : Int)] 27) (.cells #[.bool (sg n2), .int .u64 (l0 n2 : Int), .int .u64 (l1 n2 : Int), .int .u64 (l2 n2 : Int), .int .u64 (l3 n2 : Int), .bool (sg d2), .int .u64 (l0 d2 : Int), .int .u64 (l1 d2 : Int), .int .u64 (l2 d2 : Int), .int .u64 (l3 d2 : Int)] 27) (.cells #[.bool (sg n3), .int .u64 (l0 n3 : Int), .int .u64 (l1 n3 : Int), .int .u64 (l2 n3 : Int), .int .u64 (l3 n3 : Int), .bool (sg d3), .int .u64 (l0 d3 : Int), .int .u64 (l1 d3 : Int), .int .u64 (l2 d3 : Int), .int .u64 (l3 d3 : Int)] 27)
  have hE := (((ext_alloc w4 (.cells #[.bool (sg n1), .int .u64 (l0 n1 : Int), .int .u64 (l1 n1 : Int), .int .u64 (l2 n1 : Int), .int .u64 (l3 n1 : Int), .bool (sg d1), .int .u64 (l0 d1 : Int), .int .u64 (l1 d1 : Int), .int .u64 (l2 d1 : Int), .int .u64 (l3 d1 : Int)] 27)).trans (ext_alloc _ (.cells #[.bool (sg n2), .int .u64 (l0 n2 : Int), .int .u64 (l1 n2 : Int), .int .u64 (l2 n2 : Int), .int .u64 (l3 n2 : Int), .bool (sg d2), .int .u64 (l0 d2 : Int), .int .u64 (l1 d2 : Int), .int .u64 (l2 d2 : Int), .int .u64 (l3 d2 : Int)] 27))).trans (ext_alloc _ (.cells #[.bool (sg n3), .int .u64 (l0 n3 : Int), .int .u64 (l1 n3 : Int), .int .u64 (l2 n3 : Int), .int .u64 (l3 n3 : Int), .bool (sg d3), .int .u64 (l0 d3 : Int), .int .u64 (l1 d3 : Int), .int .u64 (l2 d3 : Int), .int .u64 (l3 d3 : Int)] 27)))
  have EE := hide (EE.out.trans hE)
  clear hE
  obtain ⟨W4, hW⟩ : ∃ W, W = (((w4.alloc (.cells #[.bool (sg n1), .int .u64 (l0 n1 : Int), .int .u64 (l1 n1 : Int), .int .u64 (l2 n1 : Int), .int .u64 (l3 n1 : Int), .bool (sg d1), .int .u64 (l0 d1 : Int), .int .u64 (l1 d1 : Int), .int .u64 (l2 d1 : Int), .int .u64 (l3 d1 : Int)] 27)).alloc (.cells #[.bool (sg n2), .int .u64 (l0 n2 : Int), .int .u64 (l1 n2 : Int), .int .u64 (l2 n2 : Int), .int .u64 (l3 n2 : Int), .bool (sg d2), .int .u64 (l0 d2 : Int), .int .u64 (l1 d2 : Int), .int .u64 (l2 d2 : Int), .int .u64 (l3 d2 : Int)] 27)).alloc (.cells #[.bool (sg n3), .int .u64 (l0 n3 : Int), .int .u64 (l1 n3 : Int), .int .u64 (l2 n3 : Int), .int .u64 (l3 n3 : Int), .bool (sg d3), .int .u64 (l0 d3 : Int), .int .u64 (l1 d3 : Int), .int .u64 (l2 d3 : Int), .int .u64 (l3 d3 : Int)] 27)) := ⟨_, rfl⟩
  rw [← hW] at H2 EE  ⊢
  obtain ⟨g, hg⟩ : ∃ g, w4.heap.size = g := ⟨_, rfl⟩
  rw [hg] at H2 ⊢
  obtain ⟨P1, P2, P3⟩ : Box10 W4 g (sg n1) (l0 n1) (l1 n1) (l2 n1) (l3 n1) (sg d1) (l0 d1) (l1 d1) (l2 d1) (l3 d1) ∧ Box10 W4 (g + 1) (sg n2) (l0 n2) (l1 n2) (l2 n2) (l3 n2) (sg d2) (l0 d2) (l1 d2) (l2 d2) (l3 d2) ∧ Box10 W4 (g + 1 + 1) (sg n3) (l0 n3) (l1 n3) (l2 n3) (l3 n3) (sg d3) (l0 d3) (l1 d3) (l2 d3) (l3 d3) := H2
  clear hW hg
  clear T3
  obtain ⟨rx, hx⟩ : ∃ r, cmpI (n1 * d2) (n2 * d1) = r := ⟨_, rfl⟩
  obtain ⟨ry, hy⟩ : ∃ r, cmpI (n2 * d3) (n3 * d2) = r := ⟨_, rfl⟩
  obtain ⟨rz, hz⟩ : ∃ r, cmpI (n1 * d3) (n3 * d1) = r := ⟨_, rfl⟩
  obtain ⟨rr, hr⟩ : ∃ r, cmpI (n2 * d1) (n1 * d2) = r := ⟨_, rfl⟩
  obtain ⟨q, hq⟩ : ∃ q, (decide (n1 = n2) && decide (d1 = d2)) = q := ⟨_, rfl⟩
  have HW := hide (ord_ways HF1.out HF2.out HF3.out hx hy hz hr hq)
  have hqq := eqRR HF1.out.fn HF1.out.fd HF2.out.fn HF2.out.fd
  rw [hq] at hqq
  have HQ := hide hqq
  have k1 : Hid (∀ w, Calls Try.prog 29 #[.agg #[.bool (sg n1), .int .u64 (l0 n1 : Int), .int .u64 (l1 n1 : Int), .int .u64 (l2 n1 : Int), .int .u64 (l3 n1 : Int), .bool (sg d1), .int .u64 (l0 d1 : Int), .int .u64 (l1 d1 : Int), .int .u64 (l2 d1 : Int), .int .u64 (l3 d1 : Int)], .agg #[.bool (sg n2), .int .u64 (l0 n2 : Int), .int .u64 (l1 n2 : Int), .int .u64 (l2 n2 : Int), .int .u64 (l3 n2 : Int), .bool (sg d2), .int .u64 (l0 d2 : Int), .int .u64 (l1 d2 : Int), .int .u64 (l2 d2 : Int), .int .u64 (l3 d2 : Int)]] w (Ret (.int .i64 rx) w)) := fun w => g_cmp HF1.out HF2.out hx w
  have k2 : Hid (∀ w, Calls Try.prog 29 #[.agg #[.bool (sg n2), .int .u64 (l0 n2 : Int), .int .u64 (l1 n2 : Int), .int .u64 (l2 n2 : Int), .int .u64 (l3 n2 : Int), .bool (sg d2), .int .u64 (l0 d2 : Int), .int .u64 (l1 d2 : Int), .int .u64 (l2 d2 : Int), .int .u64 (l3 d2 : Int)], .agg #[.bool (sg n3), .int .u64 (l0 n3 : Int), .int .u64 (l1 n3 : Int), .int .u64 (l2 n3 : Int), .int .u64 (l3 n3 : Int), .bool (sg d3), .int .u64 (l0 d3 : Int), .int .u64 (l1 d3 : Int), .int .u64 (l2 d3 : Int), .int .u64 (l3 d3 : Int)]] w (Ret (.int .i64 ry) w)) := fun w => g_cmp HF2.out HF3.out hy w
  have k3 : Hid (∀ w, Calls Try.prog 29 #[.agg #[.bool (sg n1), .int .u64 (l0 n1 : Int), .int .u64 (l1 n1 : Int), .int .u64 (l2 n1 : Int), .int .u64 (l3 n1 : Int), .bool (sg d1), .int .u64 (l0 d1 : Int), .int .u64 (l1 d1 : Int), .int .u64 (l2 d1 : Int), .int .u64 (l3 d1 : Int)], .agg #[.bool (sg n3), .int .u64 (l0 n3 : Int), .int .u64 (l1 n3 : Int), .int .u64 (l2 n3 : Int), .int .u64 (l3 n3 : Int), .bool (sg d3), .int .u64 (l0 d3 : Int), .int .u64 (l1 d3 : Int), .int .u64 (l2 d3 : Int), .int .u64 (l3 d3 : Int)]] w (Ret (.int .i64 rz) w)) := fun w => g_cmp HF1.out HF3.out hz w
  have k4 : Hid (∀ w, Calls Try.prog 29 #[.agg #[.bool (sg n2), .int .u64 (l0 n2 : Int), .int .u64 (l1 n2 : Int), .int .u64 (l2 n2 : Int), .int .u64 (l3 n2 : Int), .bool (sg d2), .int .u64 (l0 d2 : Int), .int .u64 (l1 d2 : Int), .int .u64 (l2 d2 : Int), .int .u64 (l3 d2 : Int)], .agg #[.bool (sg n1), .int .u64 (l0 n1 : Int), .int .u64 (l1 n1 : Int), .int .u64 (l2 n1 : Int), .int .u64 (l3 n1 : Int), .bool (sg d1), .int .u64 (l0 d1 : Int), .int .u64 (l1 d1 : Int), .int .u64 (l2 d1 : Int), .int .u64 (l3 d1 : Int)]] w (Ret (.int .i64 rr) w)) := fun w => g_cmp HF2.out HF1.out hr w
  clear hx hy hz hr hq hqq
  obtain ⟨yP10, yP11, yP12, yP13, yP14, yP15, yP16, yP17, yP18, yP19, yP1f0, yP1f1, yP1f2, yP1f3, yP1f4, yP1f5, yP1f6, yP1f7, yP1f8, yP1f9⟩ := ten_cells P1
  clear yP1f0 yP1f1 yP1f2 yP1f3 yP1f4 yP1f5 yP1f6 yP1f7 yP1f8 yP1f9
  replace yP10 := cellR yP10
  replace yP11 := cellR yP11
  replace yP12 := cellR yP12
  replace yP13 := cellR yP13
  replace yP14 := cellR yP14
  replace yP15 := cellR yP15
  replace yP16 := cellR yP16
  replace yP17 := cellR yP17
  replace yP18 := cellR yP18
  replace yP19 := cellR yP19
  obtain ⟨yP20, yP21, yP22, yP23, yP24, yP25, yP26, yP27, yP28, yP29, yP2f0, yP2f1, yP2f2, yP2f3, yP2f4, yP2f5, yP2f6, yP2f7, yP2f8, yP2f9⟩ := ten_cells P2
  clear yP2f0 yP2f1 yP2f2 yP2f3 yP2f4 yP2f5 yP2f6 yP2f7 yP2f8 yP2f9
  replace yP20 := cellR yP20
  replace yP21 := cellR yP21
  replace yP22 := cellR yP22
  replace yP23 := cellR yP23
  replace yP24 := cellR yP24
  replace yP25 := cellR yP25
  replace yP26 := cellR yP26
  replace yP27 := cellR yP27
  replace yP28 := cellR yP28
  replace yP29 := cellR yP29
  obtain ⟨yP30, yP31, yP32, yP33, yP34, yP35, yP36, yP37, yP38, yP39, yP3f0, yP3f1, yP3f2, yP3f3, yP3f4, yP3f5, yP3f6, yP3f7, yP3f8, yP3f9⟩ := ten_cells P3
  clear yP3f0 yP3f1 yP3f2 yP3f3 yP3f4 yP3f5 yP3f6 yP3f7 yP3f8 yP3f9
  replace yP30 := cellR yP30
  replace yP31 := cellR yP31
  replace yP32 := cellR yP32
  replace yP33 := cellR yP33
  replace yP34 := cellR yP34
  replace yP35 := cellR yP35
  replace yP36 := cellR yP36
  replace yP37 := cellR yP37
  replace yP38 := cellR yP38
  replace yP39 := cellR yP39
  refine wp_region_quiet_below (by kernel_rfl) (by kernel_rfl) ?_
  repeat (quiet_step (first | with_reducible exact quiet_ret (k1.out _) | with_reducible exact quiet_ret (k2.out _) | with_reducible exact quiet_ret (k3.out _)))
  refine wpQuiet_nil ?_
  intro _ hw'
  obtain ⟨⟨dq, osq⟩, hw''⟩ := hw'
  subst hw''
  clear yP10 yP11 yP12 yP13 yP14 yP15 yP16 yP17 yP18 yP19 yP20 yP21 yP22 yP23 yP24 yP25 yP26 yP27 yP28 yP29 yP30 yP31 yP32 yP33 yP34 yP35 yP36 yP37 yP38 yP39
  have hE := ext_regrown W4 dq osq
  have P1 := P1.ext hE
  have P2 := P2.ext hE
  have P3 := P3.ext hE
  have EE := hide (EE.out.trans hE)
  clear hE
  generalize grow (redrawn W4 dq) osq = W4q at *
  have hqq := HQ.out
  rcases HW.out with ⟨rfl, rfl, rfl⟩ | ⟨rfl, rfl, rfl, h1⟩ | ⟨rfl, rfl, rfl, h1, h2⟩ | ⟨rfl, rfl, rfl, h1⟩ | ⟨rfl, rfl, rfl, h1, h2⟩
  all_goals clear HW HQ
  all_goals obtain ⟨xP10, xP11, xP12, xP13, xP14, xP15, xP16, xP17, xP18, xP19, xP1f0, xP1f1, xP1f2, xP1f3, xP1f4, xP1f5, xP1f6, xP1f7, xP1f8, xP1f9⟩ := ten_cells P1; obtain ⟨xP20, xP21, xP22, xP23, xP24, xP25, xP26, xP27, xP28, xP29, xP2f0, xP2f1, xP2f2, xP2f3, xP2f4, xP2f5, xP2f6, xP2f7, xP2f8, xP2f9⟩ := ten_cells P2; obtain ⟨xP30, xP31, xP32, xP33, xP34, xP35, xP36, xP37, xP38, xP39, xP3f0, xP3f1, xP3f2, xP3f3, xP3f4, xP3f5, xP3f6, xP3f7, xP3f8, xP3f9⟩ := ten_cells P3
  all_goals go_wp2_with (first
    | (go_at_call 17; (with_reducible refine (p_known3 _).mono ?_); rintro e w5 ⟨rfl, hE⟩; have P1 := P1.ext hE; have P2 := P2.ext hE; have P3 := P3.ext hE; have EE := hide (EE.out.trans hE); obtain ⟨xP10, xP11, xP12, xP13, xP14, xP15, xP16, xP17, xP18, xP19, xP1f0, xP1f1, xP1f2, xP1f3, xP1f4, xP1f5, xP1f6, xP1f7, xP1f8, xP1f9⟩ := ten_cells P1; obtain ⟨xP20, xP21, xP22, xP23, xP24, xP25, xP26, xP27, xP28, xP29, xP2f0, xP2f1, xP2f2, xP2f3, xP2f4, xP2f5, xP2f6, xP2f7, xP2f8, xP2f9⟩ := ten_cells P2; obtain ⟨xP30, xP31, xP32, xP33, xP34, xP35, xP36, xP37, xP38, xP39, xP3f0, xP3f1, xP3f2, xP3f3, xP3f4, xP3f5, xP3f6, xP3f7, xP3f8, xP3f9⟩ := ten_cells P3; clear hE)
    | (go_at_call 29; (with_reducible refine (k4.out _).mono ?_); rintro e w6 ⟨rfl, hE⟩; have P1 := P1.ext hE; have P2 := P2.ext hE; have P3 := P3.ext hE; have EE := hide (EE.out.trans hE); obtain ⟨xP10, xP11, xP12, xP13, xP14, xP15, xP16, xP17, xP18, xP19, xP1f0, xP1f1, xP1f2, xP1f3, xP1f4, xP1f5, xP1f6, xP1f7, xP1f8, xP1f9⟩ := ten_cells P1; obtain ⟨xP20, xP21, xP22, xP23, xP24, xP25, xP26, xP27, xP28, xP29, xP2f0, xP2f1, xP2f2, xP2f3, xP2f4, xP2f5, xP2f6, xP2f7, xP2f8, xP2f9⟩ := ten_cells P2; obtain ⟨xP30, xP31, xP32, xP33, xP34, xP35, xP36, xP37, xP38, xP39, xP3f0, xP3f1, xP3f2, xP3f3, xP3f4, xP3f5, xP3f6, xP3f7, xP3f8, xP3f9⟩ := ten_cells P3; clear hE))
  all_goals go_ret
  all_goals exact ⟨rfl, EE.out⟩
end Go.Proofs.Ythcobijnhfflnaa
