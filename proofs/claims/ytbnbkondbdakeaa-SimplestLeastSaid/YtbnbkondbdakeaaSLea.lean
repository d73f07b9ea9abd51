/- The law SimplestLeast, walked. Conditions: the arguments are numbers of 64 and of 8 bits. -/
import Derived.Test.YtbnbkondbdakeaaSimI
import Derived.Test.YtbnbkondbdakeaaSIns
namespace Go.Proofs.Ytbnbkondbdakeaa
set_option linter.unusedVariables false
set_option linter.unusedSimpArgs false
open Go Go.RowKit Go.Sort
attribute [local go_sem] qUpon putAll slotV
theorem gcd_le_num {n d N D : Int} (h0 : 0 < d) (hN : numR n d = N) (hD : denR n d = D) : N.natAbs ≤ n.natAbs ∧ D ≤ d := by
  have a : N.natAbs ≤ n.natAbs := by
    rw [← hN]; unfold numR
    rw [if_neg (by omega)]
    exact Int.natAbs_ediv_le_natAbs _ _
  have b : D ≤ d := by
    rw [← hD]; unfold denR
    rw [if_neg (by omega)]
    exact Int.ediv_le_self _ (by omega)
  exact ⟨a, b⟩
theorem frac_of {n d N D : Int} (h0 : 0 < d) (hn : n.natAbs < 170141183460469231731687303715884105728) (hd : d.natAbs < 170141183460469231731687303715884105728) (hN : numR n d = N) (hD : denR n d = D) : Frac N D := by
  rw [← hN, ← hD]; exact mkB_frac (by omega) (mkB_small (by omega) hn hd)
/-- The least integer l for which l / k is not below a / b. -/
theorem ceil_is {a b k p r l : Int} (hb : 0 < b) (hp : a * k / b = p) (hr : a * k % b = r) (hl : l = if r = 0 then p else p + 1) : a * k ≤ l * b ∧ ∀ z, a * k ≤ z * b → l ≤ z := by
  have e := Int.emod_add_mul_ediv (a * k) b
  have m0 := Int.emod_nonneg (a * k) (show b ≠ 0 by omega)
  have m1 := Int.emod_lt_of_pos (a * k) hb
  rw [hp, hr] at e
  rw [hr] at m0 m1
  have eb : ∀ z : Int, z * b = b * z := fun z => Int.mul_comm _ _
  by_cases h : r = 0
  · rw [if_pos h] at hl
    subst hl
    refine ⟨by rw [eb]; omega, fun z hz => ?_⟩
    rw [eb] at hz
    exact Int.le_of_mul_le_mul_left (a := b) (by omega) hb
  · rw [if_neg h] at hl
    subst hl
    refine ⟨by rw [eb, Int.mul_add]; omega, fun z hz => ?_⟩
    rw [eb] at hz
    have := Int.lt_of_mul_lt_mul_left (a := b) (b := p) (c := z) (by omega) (by omega)
    omega
/-- What a round says: l / k, reduced, lies in the interval exactly if k is the simplest denominator, and then l is its numerator (if it is greater than 0). -/
theorem round_least {a b c d n m k p r l N D q : Int} (hb : 0 < b) (hd : 0 < d) (hk : 1 ≤ k) (hkm : k ≤ m) (B : Best a b c d n m) (hp : a * k / b = p) (hr : a * k % b = r) (hl : l = if r = 0 then p else p + 1) (hN : numR l k = N) (hD : denR l k = D) (hq : cmpI (N * d) (c * D) = q) :
    (k < m → 0 < q) ∧ (k = m → q ≤ 0 ∧ (0 < l → n = l)) := by
  obtain ⟨k1, k2⟩ := ceil_is hb hp hr hl
  obtain ⟨D0, _, hmul⟩ := red_parts l k (by omega)
  rw [hD] at D0
  rw [hN, hD] at hmul
  -- N / D = l / k
  have hle : N * d ≤ c * D ↔ l * d ≤ c * k := by
    have e1 : k * (N * d) = D * (l * d) := by rw [← Int.mul_assoc, Int.mul_comm k N, hmul, Int.mul_comm l D, Int.mul_assoc]
    have e2 : k * (c * D) = D * (c * k) := by rw [Int.mul_comm k (c * D), Int.mul_assoc, Int.mul_comm D k, ← Int.mul_assoc, Int.mul_comm (c * k) D]
    constructor
    · intro h
      have := Int.mul_le_mul_of_nonneg_left h (show 0 ≤ k by omega)
      exact Int.le_of_mul_le_mul_left (a := D) (by omega) D0
    · intro h
      have := Int.mul_le_mul_of_nonneg_left h (show 0 ≤ D by omega)
      exact Int.le_of_mul_le_mul_left (a := k) (by omega) (by omega)
  constructor
  · intro hlt
    refine (cmpI_lt hq).2.2.2 ?_
    rcases Int.lt_or_le (c * D) (N * d) with h | h
    · exact h
    · exfalso
      have := (B.2.2.2 l k (by omega) k1 (hle.1 h)).1
      omega
  · intro e
    subst e
    have hln := k2 n B.2.1
    have h2 : l * d ≤ c * k := Int.le_trans (Int.mul_le_mul_of_nonneg_right hln (by omega)) B.2.2.1
    refine ⟨le_of_cmp hq (hle.2 h2), fun h0 => ?_⟩
    have := (B.2.2.2 l k (by omega) k1 h2).2
    omega
theorem tmod_small (a : Int) : -10000 < a.tmod 10000 ∧ a.tmod 10000 < 10000 := by
  have := Int.tmod_eq_emod (a := a) (b := 10000)
  rw [this]
  split <;> omega
def LeastMid (W : World) (g9 g10 : Nat) (wx : World) : Prop := ∃ n1 d1 n2 d2 : Int, Frac n1 d1 ∧ Frac n2 d2 ∧ n1 * d2 ≤ n2 * d1 ∧ d1 ≤ 256 ∧ d2 ≤ 256 ∧ n1.natAbs < 10000 ∧ n2.natAbs < 10000 ∧ Box10 wx g9 (sg n1) (l0 n1) (l1 n1) (l2 n1) (l3 n1) (sg d1) (l0 d1) (l1 d1) (l2 d1) (l3 d1) ∧ Box10 wx g10 (sg n2) (l0 n2) (l1 n2) (l2 n2) (l3 n2) (sg d2) (l0 d2) (l1 d2) (l2 d2) (l3 d2) ∧ Ext W wx
set_option maxRecDepth 100000 in
set_option maxHeartbeats 8000000 in
theorem law_slea (a b c d : Int) (W : World) (ha : -9223372036854775808 ≤ a ∧ a ≤ 9223372036854775807) (hb : -9223372036854775808 ≤ b ∧ b ≤ 9223372036854775807) (hc : 0 ≤ c ∧ c ≤ 255) (hd : 0 ≤ d ∧ d ≤ 255) : Calls Try.prog 6 #[.int .i64 a, .int .i64 b, .int .u8 c, .int .u8 d] W (BoolRet true W) := by
  obtain ⟨e1, he1⟩ : ∃ e, c + 1 = e := ⟨_, rfl⟩
  obtain ⟨e2, he2⟩ : ∃ e, d + 1 = e := ⟨_, rfl⟩
  obtain ⟨v1, hv1⟩ : ∃ e, a.tmod 10000 = e := ⟨_, rfl⟩
  obtain ⟨v2, hv2⟩ : ∃ e, b.tmod 10000 = e := ⟨_, rfl⟩
  have bv1 : -10000 < v1 ∧ v1 < 10000 := by rw [← hv1]; exact tmod_small a
  have bv2 : -10000 < v2 ∧ v2 < 10000 := by rw [← hv2]; exact tmod_small b
  obtain ⟨n1, hn1⟩ : ∃ e, numR v1 e1 = e := ⟨_, rfl⟩
  obtain ⟨d1, hd1⟩ : ∃ e, denR v1 e1 = e := ⟨_, rfl⟩
  obtain ⟨n2, hn2⟩ : ∃ e, numR v2 e2 = e := ⟨_, rfl⟩
  obtain ⟨d2, hd2⟩ : ∃ e, denR v2 e2 = e := ⟨_, rfl⟩
  have hF1 : Frac n1 d1 := frac_of (by omega) (by omega) (by omega) hn1 hd1
  have hF2 : Frac n2 d2 := frac_of (by omega) (by omega) (by omega) hn2 hd2
  have G1 := gcd_le_num (by omega) hn1 hd1
  have G2 := gcd_le_num (by omega) hn2 hd2
  have HB : Hid (d1 ≤ 256 ∧ d2 ≤ 256 ∧ n1.natAbs < 10000 ∧ n2.natAbs < 10000) := ⟨by omega, by omega, by omega, by omega⟩
  have HF := hide (And.intro hF1 hF2)
  have kA : Hid (∀ w, Calls Try.prog 31 #[.int .i64 v1, .int .i64 e1] w (Ret (.agg #[.bool (sg n1), .int .u64 (l0 n1 : Int), .int .u64 (l1 n1 : Int), .int .u64 (l2 n1 : Int), .int .u64 (l3 n1 : Int), .bool (sg d1), .int .u64 (l0 d1 : Int), .int .u64 (l1 d1 : Int), .int .u64 (l2 d1 : Int), .int .u64 (l3 d1 : Int)]) w)) := fun w => l_fraction (by omega) (by omega) (by omega) hn1 hd1 w
  have kB : Hid (∀ w, Calls Try.prog 31 #[.int .i64 v2, .int .i64 e2] w (Ret (.agg #[.bool (sg n2), .int .u64 (l0 n2 : Int), .int .u64 (l1 n2 : Int), .int .u64 (l2 n2 : Int), .int .u64 (l3 n2 : Int), .bool (sg d2), .int .u64 (l0 d2 : Int), .int .u64 (l1 d2 : Int), .int .u64 (l2 d2 : Int), .int .u64 (l3 d2 : Int)]) w)) := fun w => l_fraction (by omega) (by omega) (by omega) hn2 hd2 w
  have EE := hide (Ext.refl W)
  have hc0 := hc.1
  have hc1 := hc.2
  have hd0 := hd.1
  have hd9 := hd.2
  clear hn1 hd1 hn2 hd2 hF1 hF2 G1 G2 bv1 bv2 hc hd ha hb
  have w1 : IntKind.i64.wrap (c + 1) = e1 := by rw [← he1]; exact IntWalk.i64_in _ (by omega)
  have w2 : IntKind.i64.wrap (d + 1) = e2 := by rw [← he2]; exact IntWalk.i64_in _ (by omega)
  go_enter Try.func6, Try.ntmps6
  go_upto_region 1 with fail
  go_upto_region 2 with (first
    | (go_at_call 31; (with_reducible refine (kA.out _).mono ?_); rintro e w3 ⟨rfl, hE⟩; have EE := hide (EE.out.trans hE); clear hE)
    | (go_at_call 31; (with_reducible refine (kB.out _).mono ?_); rintro e w4 ⟨rfl, hE⟩; have EE := hide (EE.out.trans hE); clear hE))
  clear hv1 hv2 he1 he2 w1 w2 kA kB hc0 hc1 hd0 hd9
  have H2 := two_blocks w4 (.cells #[.bool (sg n1), .int .u64 (l0 n1 : Int), .int .u64 (l1 n1 : Int), .int .u64 (l2 n1 : Int), .int .u64 (l3 n1 : Int), .bool (sg d1), .int .u64 (l0 d1 : Int), .int .u64 (l1 d1 : Int), .int .u64 (l2 d1 : Int), .int .u64 (l3 d1 : Int)] 35) (.cells #[.bool (sg n2), .int .u64 (l0 n2 : Int), .int .u64 (l1 n2 : Int), .int .u64 (l2 n2 : Int), .int .u64 (l3 n2 : Int), .bool (sg d2), .int .u64 (l0 d2 : Int), .int .u64 (l1 d2 : Int), .int .u64 (l2 d2 : Int), .int .u64 (l3 d2 : Int)] 35)
  have hb0 := EE.out.size
  have hE := ((ext_alloc w4 (.cells #[.bool (sg n1), .int .u64 (l0 n1 : Int), .int .u64 (l1 n1 : Int), .int .u64 (l2 n1 : Int), .int .u64 (l3 n1 : Int), .bool (sg d1), .int .u64 (l0 d1 : Int), .int .u64 (l1 d1 : Int), .int .u64 (l2 d1 : Int), .int .u64 (l3 d1 : Int)] 35)).trans (ext_alloc _ (.cells #[.bool (sg n2), .int .u64 (l0 n2 : Int), .int .u64 (l1 n2 : Int), .int .u64 (l2 n2 : Int), .int .u64 (l3 n2 : Int), .bool (sg d2), .int .u64 (l0 d2 : Int), .int .u64 (l1 d2 : Int), .int .u64 (l2 d2 : Int), .int .u64 (l3 d2 : Int)] 35)))
  have EE := hide (EE.out.trans hE)
  clear hE
  have hbg2 := hb0
  clear hb0
  obtain ⟨W1, hW⟩ : ∃ W, W = ((w4.alloc (.cells #[.bool (sg n1), .int .u64 (l0 n1 : Int), .int .u64 (l1 n1 : Int), .int .u64 (l2 n1 : Int), .int .u64 (l3 n1 : Int), .bool (sg d1), .int .u64 (l0 d1 : Int), .int .u64 (l1 d1 : Int), .int .u64 (l2 d1 : Int), .int .u64 (l3 d1 : Int)] 35)).alloc (.cells #[.bool (sg n2), .int .u64 (l0 n2 : Int), .int .u64 (l1 n2 : Int), .int .u64 (l2 n2 : Int), .int .u64 (l3 n2 : Int), .bool (sg d2), .int .u64 (l0 d2 : Int), .int .u64 (l1 d2 : Int), .int .u64 (l2 d2 : Int), .int .u64 (l3 d2 : Int)] 35)) := ⟨_, rfl⟩
  rw [← hW] at H2 EE  ⊢
  obtain ⟨g2, hg⟩ : ∃ g, w4.heap.size = g := ⟨_, rfl⟩
  rw [hg] at H2 hbg2  ⊢
  obtain ⟨P9, P10⟩ : Box10 W1 g2 (sg n1) (l0 n1) (l1 n1) (l2 n1) (l3 n1) (sg d1) (l0 d1) (l1 d1) (l2 d1) (l3 d1) ∧ Box10 W1 (g2 + 1) (sg n2) (l0 n2) (l1 n2) (l2 n2) (l3 n2) (sg d2) (l0 d2) (l1 d2) (l2 d2) (l3 d2) := H2
  clear hW hg
  have hgb : W.heap.size ≤ g2 := hbg2
  obtain ⟨c0, hc0⟩ : ∃ r, cmpI (n1 * d2) (n2 * d1) = r := ⟨_, rfl⟩
  have HC := hide (cmpI_lt hc0).2.2
  have kC : Hid (∀ w, Calls Try.prog 29 #[.agg #[.bool (sg n1), .int .u64 (l0 n1 : Int), .int .u64 (l1 n1 : Int), .int .u64 (l2 n1 : Int), .int .u64 (l3 n1 : Int), .bool (sg d1), .int .u64 (l0 d1 : Int), .int .u64 (l1 d1 : Int), .int .u64 (l2 d1 : Int), .int .u64 (l3 d1 : Int)], .agg #[.bool (sg n2), .int .u64 (l0 n2 : Int), .int .u64 (l1 n2 : Int), .int .u64 (l2 n2 : Int), .int .u64 (l3 n2 : Int), .bool (sg d2), .int .u64 (l0 d2 : Int), .int .u64 (l1 d2 : Int), .int .u64 (l2 d2 : Int), .int .u64 (l3 d2 : Int)]] w (Ret (.int .i64 c0) w)) := fun w => h_cmp HF.out.1 HF.out.2 hc0 w
  clear hc0
  obtain ⟨xP90, xP91, xP92, xP93, xP94, xP95, xP96, xP97, xP98, xP99, -⟩ := ten_cells P9; obtain ⟨xP100, xP101, xP102, xP103, xP104, xP105, xP106, xP107, xP108, xP109, -⟩ := ten_cells P10
  go_upto_if 41 with (go_at_call 29; (with_reducible refine (kC.out _).mono ?_); rintro e w3 ⟨rfl, hE⟩; clear xP90 xP91 xP92 xP93 xP94 xP95 xP96 xP97 xP98 xP99 xP100 xP101 xP102 xP103 xP104 xP105 xP106 xP107 xP108 xP109; have P9 := P9.ext hE; have P10 := P10.ext hE; have EE := hide (EE.out.trans hE); clear hE; obtain ⟨xP90, xP91, xP92, xP93, xP94, xP95, xP96, xP97, xP98, xP99, -⟩ := ten_cells P9; obtain ⟨xP100, xP101, xP102, xP103, xP104, xP105, xP106, xP107, xP108, xP109, -⟩ := ten_cells P10)
  clear xP90 xP91 xP92 xP93 xP94 xP95 xP96 xP97 xP98 xP99 xP100 xP101 xP102 xP103 xP104 xP105 xP106 xP107 xP108 xP109
  go_cut [] (fun wx => LeastMid W g2 (g2 + 1) wx)
  case first =>
    by_cases hp : 0 < c0
    · have HL : Hid (n2 * d1 ≤ n1 * d2) := Int.le_of_lt (HC.out.1 hp)
      obtain ⟨xP90, xP91, xP92, xP93, xP94, xP95, xP96, xP97, xP98, xP99, xP9f0, xP9f1, xP9f2, xP9f3, xP9f4, xP9f5, xP9f6, xP9f7, xP9f8, xP9f9⟩ := ten_cells P9; obtain ⟨xP100, xP101, xP102, xP103, xP104, xP105, xP106, xP107, xP108, xP109, xP10f0, xP10f1, xP10f2, xP10f3, xP10f4, xP10f5, xP10f6, xP10f7, xP10f8, xP10f9⟩ := ten_cells P10
      go_wp2_with fail
      all_goals go_meet
      all_goals exact ⟨n2, d2, n1, d1, HF.out.2, HF.out.1, HL.out, HB.out.2.1, HB.out.1, HB.out.2.2.2, HB.out.2.2.1, (P9.put.far10 (by omega) _ _ _ _ _ _ _ _ _ _), (P10.far10 (by omega) _ _ _ _ _ _ _ _ _ _).put, ext_ten (ext_ten EE.out hgb _ _ _ _ _ _ _ _ _ _) (by omega) _ _ _ _ _ _ _ _ _ _⟩
    · have HL : Hid (n1 * d2 ≤ n2 * d1) := Int.not_lt.1 (fun h => hp (HC.out.2 h))
      go_wp2_with fail
      all_goals go_meet
      all_goals exact ⟨n1, d1, n2, d2, HF.out.1, HF.out.2, HL.out, HB.out.1, HB.out.2.1, HB.out.2.2.1, HB.out.2.2.2, P9, P10, EE.out⟩
  case rest =>
    clear P9 P10 EE HF HB HC kC
    obtain ⟨n1, d1, n2, d2, hF1, hF2, hle, bd1, bd2, bn1, bn2, P9, P10, hEE⟩ := hcut
    have EE := hide hEE
    obtain ⟨n, m, B⟩ := best_some hF1.1 hF2.1 hle
    have hS := B.frac hF1 hF2 hle
    have hs := B.small hF1.1 hF2.1 hle
    have hm1 : 1 ≤ m := B.1
    have hm2 : m ≤ 256 := by omega
    have bn : n.natAbs < 10000 := by omega
    have kB : Hid (∀ w, Calls Try.prog 27 #[.agg #[.bool (sg n1), .int .u64 (l0 n1 : Int), .int .u64 (l1 n1 : Int), .int .u64 (l2 n1 : Int), .int .u64 (l3 n1 : Int), .bool (sg d1), .int .u64 (l0 d1 : Int), .int .u64 (l1 d1 : Int), .int .u64 (l2 d1 : Int), .int .u64 (l3 d1 : Int)], .agg #[.bool (sg n2), .int .u64 (l0 n2 : Int), .int .u64 (l1 n2 : Int), .int .u64 (l2 n2 : Int), .int .u64 (l3 n2 : Int), .bool (sg d2), .int .u64 (l0 d2 : Int), .int .u64 (l1 d2 : Int), .int .u64 (l2 d2 : Int), .int .u64 (l3 d2 : Int)]] w (Ret (.tuple #[.agg #[.bool (sg n), .int .u64 (l0 n : Int), .int .u64 (l1 n : Int), .int .u64 (l2 n : Int), .int .u64 (l3 n : Int), .bool (sg m), .int .u64 (l0 m : Int), .int .u64 (l1 m : Int), .int .u64 (l2 m : Int), .int .u64 (l3 m : Int)], .bool true]) w)) := fun w => s_between hF1 hF2 hle B w
    have kI1 : Hid (∀ w, Calls Try.prog 32 #[.agg #[.bool (sg m), .int .u64 (l0 m : Int), .int .u64 (l1 m : Int), .int .u64 (l2 m : Int), .int .u64 (l3 m : Int)]] w (Ret (.tuple #[.int .i64 m, .bool true]) w)) := fun w => d_int64 hS.fd (by omega) (by omega) w
    have kI2 : Hid (∀ w, Calls Try.prog 32 #[.agg #[.bool (sg n), .int .u64 (l0 n : Int), .int .u64 (l1 n : Int), .int .u64 (l2 n : Int), .int .u64 (l3 n : Int)]] w (Ret (.tuple #[.int .i64 n, .bool true]) w)) := fun w => d_int64 hS.fn (by omega) (by omega) w
    have kK : Hid (∀ w, Calls Try.prog 25 #[] w (Ret (.bool true) w)) := fun w => l_known w
    have HALL := hide (And.intro hF1 (And.intro hF2 (And.intro bd1 (And.intro bn1 (And.intro bn B)))))
    clear hEE hF1 hF2 hle bd1 bd2 bn1 bn2 B hS hs bn
    obtain ⟨xP90, xP91, xP92, xP93, xP94, xP95, xP96, xP97, xP98, xP99, -⟩ := ten_cells P9; obtain ⟨xP100, xP101, xP102, xP103, xP104, xP105, xP106, xP107, xP108, xP109, -⟩ := ten_cells P10
    go_upto_region 5 with (go_at_call 27; (with_reducible refine (kB.out _).mono ?_); rintro e w4 ⟨rfl, hE⟩; clear xP90 xP91 xP92 xP93 xP94 xP95 xP96 xP97 xP98 xP99 xP100 xP101 xP102 xP103 xP104 xP105 xP106 xP107 xP108 xP109; have P9 := P9.ext hE; have P10 := P10.ext hE; have EE := hide (EE.out.trans hE); clear hE; obtain ⟨xP90, xP91, xP92, xP93, xP94, xP95, xP96, xP97, xP98, xP99, -⟩ := ten_cells P9; obtain ⟨xP100, xP101, xP102, xP103, xP104, xP105, xP106, xP107, xP108, xP109, -⟩ := ten_cells P10)
    clear xP90 xP91 xP92 xP93 xP94 xP95 xP96 xP97 xP98 xP99 xP100 xP101 xP102 xP103 xP104 xP105 xP106 xP107 xP108 xP109
    have H2 := heap_alloc_new w4 (.cells #[.bool (sg n), .int .u64 (l0 n : Int), .int .u64 (l1 n : Int), .int .u64 (l2 n : Int), .int .u64 (l3 n : Int), .bool (sg m), .int .u64 (l0 m : Int), .int .u64 (l1 m : Int), .int .u64 (l2 m : Int), .int .u64 (l3 m : Int)] 35)
    have lP9 := P9.lt
    have lP10 := P10.lt
    have hb0 := EE.out.size
    have hE := (ext_alloc w4 (.cells #[.bool (sg n), .int .u64 (l0 n : Int), .int .u64 (l1 n : Int), .int .u64 (l2 n : Int), .int .u64 (l3 n : Int), .bool (sg m), .int .u64 (l0 m : Int), .int .u64 (l1 m : Int), .int .u64 (l2 m : Int), .int .u64 (l3 m : Int)] 35))
    have P9 := P9.ext hE
    have P10 := P10.ext hE
    have EE := hide (EE.out.trans hE)
    clear hE
    have hbg6 := hb0
    clear hb0
    obtain ⟨W5, hW⟩ : ∃ W, W = (w4.alloc (.cells #[.bool (sg n), .int .u64 (l0 n : Int), .int .u64 (l1 n : Int), .int .u64 (l2 n : Int), .int .u64 (l3 n : Int), .bool (sg m), .int .u64 (l0 m : Int), .int .u64 (l1 m : Int), .int .u64 (l2 m : Int), .int .u64 (l3 m : Int)] 35)) := ⟨_, rfl⟩
    rw [← hW] at H2 EE P9 P10 ⊢
    obtain ⟨g6, hg⟩ : ∃ g, w4.heap.size = g := ⟨_, rfl⟩
    rw [hg] at H2 hbg6 lP9 lP10 ⊢
    have P11 : Box10 W5 g6 (sg n) (l0 n) (l1 n) (l2 n) (l3 n) (sg m) (l0 m) (l1 m) (l2 m) (l3 m) := H2
    clear hW hg
    have ngP9P11 : g2 ≠ g6 := by omega
    have ngP10P11 : g2 + 1 ≠ g6 := by omega
    obtain ⟨xP110, xP111, xP112, xP113, xP114, xP115, xP116, xP117, xP118, xP119, -⟩ := ten_cells P11
    go_upto_region 6 with (go_at_call 32; (with_reducible refine (kI1.out _).mono ?_); rintro e w7 ⟨rfl, hE⟩; clear xP110 xP111 xP112 xP113 xP114 xP115 xP116 xP117 xP118 xP119; have P9 := P9.ext hE; have P10 := P10.ext hE; have P11 := P11.ext hE; have EE := hide (EE.out.trans hE); clear hE; obtain ⟨xP110, xP111, xP112, xP113, xP114, xP115, xP116, xP117, xP118, xP119, -⟩ := ten_cells P11)
    clear xP110 xP111 xP112 xP113 xP114 xP115 xP116 xP117 xP118 xP119
    obtain ⟨xP110, xP111, xP112, xP113, xP114, xP115, xP116, xP117, xP118, xP119, -⟩ := ten_cells P11
    go_upto_region 7 with (go_at_call 32; (with_reducible refine (kI2.out _).mono ?_); rintro e w8 ⟨rfl, hE⟩; clear xP110 xP111 xP112 xP113 xP114 xP115 xP116 xP117 xP118 xP119; have P9 := P9.ext hE; have P10 := P10.ext hE; have P11 := P11.ext hE; have EE := hide (EE.out.trans hE); clear hE; obtain ⟨xP110, xP111, xP112, xP113, xP114, xP115, xP116, xP117, xP118, xP119, -⟩ := ten_cells P11)
    clear xP110 xP111 xP112 xP113 xP114 xP115 xP116 xP117 xP118 xP119
    go_upto_region 9 with fail
    go_wp2_with fail
    go_loopw [17] (fun i wr => ∃ k : Int, i = .int .i64 k ∧ 1 ≤ k ∧ k ≤ m + 1 ∧ Box10 wr g2 (sg n1) (l0 n1) (l1 n1) (l2 n1) (l3 n1) (sg d1) (l0 d1) (l1 d1) (l2 d1) (l3 d1) ∧ Box10 wr (g2 + 1) (sg n2) (l0 n2) (l1 n2) (l2 n2) (l3 n2) (sg d2) (l0 d2) (l1 d2) (l2 d2) (l3 d2) ∧ Hid (Ext W wr)) (fun i _ => (m + 1 - intOf i).toNat)
    case atStart => exact ⟨1, rfl, by omega, by omega, P9, P10, EE⟩
    case round =>
      clear P9 P10 EE
      obtain ⟨k, rfl, hk1, hk2, P9, P10, EE⟩ := hrel
      by_cases hkm : k ≤ m
      · obtain ⟨hF1, hF2, bd1, bn1, bn, B⟩ := HALL.out
        obtain ⟨v, hv⟩ : ∃ v, n1 * k = v := ⟨_, rfl⟩
        obtain ⟨p, hp⟩ : ∃ p, v / d1 = p := ⟨_, rfl⟩
        obtain ⟨r, hr⟩ : ∃ p, v % d1 = p := ⟨_, rfl⟩
        obtain ⟨l, hl⟩ : ∃ l, l = if r = 0 then p else p + 1 := ⟨_, rfl⟩
        obtain ⟨N, hN⟩ : ∃ z, numR l k = z := ⟨_, rfl⟩
        obtain ⟨D, hD⟩ : ∃ z, denR l k = z := ⟨_, rfl⟩
        obtain ⟨q, hq⟩ : ∃ z, cmpI (N * d2) (n2 * D) = z := ⟨_, rfl⟩
        obtain ⟨s, hs, _, _, hs0⟩ := some_sign r
        have bv : v.natAbs ≤ 9999 * 256 := by
          rw [← hv, Int.natAbs_mul]
          exact Nat.mul_le_mul (by omega) (by omega)
        have bp : p.natAbs ≤ v.natAbs := by rw [← hp]; exact Int.natAbs_ediv_le_natAbs _ _
        have br := Int.emod_nonneg v (show d1 ≠ 0 by have := hF1.1; omega)
        have br2 := Int.emod_lt_of_pos v hF1.1
        rw [hr] at br br2
        have bl : l.natAbs ≤ p.natAbs + 1 := by rw [hl]; split <;> omega
        have fv : F256 v := by unfold F256; omega
        have fp : F256 p := by unfold F256; omega
        have fr : F256 r := by unfold F256; omega
        have fk : F256 k := by unfold F256; omega
        have hFr : Frac N D := frac_of (by omega) (by omega) (by omega) hN hD
        have HR := hide (round_least hF1.1 hF2.1 hk1 hkm B (by rw [hv]; exact hp) (by rw [hv]; exact hr) hl hN hD hq)
        have kO : Hid (∀ w, Calls Try.prog 17 #[.int .i64 k] w (Ret (.agg #[.bool (sg k), .int .u64 (l0 k : Int), .int .u64 (l1 k : Int), .int .u64 (l2 k : Int), .int .u64 (l3 k : Int)]) w)) := fun w => d_ofi (by omega) (by omega) w
        have kM : Hid (∀ w, Calls Try.prog 33 #[.agg #[.bool (sg n1), .int .u64 (l0 n1 : Int), .int .u64 (l1 n1 : Int), .int .u64 (l2 n1 : Int), .int .u64 (l3 n1 : Int)], .agg #[.bool (sg k), .int .u64 (l0 k : Int), .int .u64 (l1 k : Int), .int .u64 (l2 k : Int), .int .u64 (l3 k : Int)]] w (Ret (.tuple #[.agg #[.bool (sg v), .int .u64 (l0 v : Int), .int .u64 (l1 v : Int), .int .u64 (l2 v : Int), .int .u64 (l3 v : Int)], .bool true]) w)) := fun w => d_mul hF1.fn fk hv fv w
        have kD : Hid (∀ w, Calls Try.prog 34 #[.agg #[.bool (sg v), .int .u64 (l0 v : Int), .int .u64 (l1 v : Int), .int .u64 (l2 v : Int), .int .u64 (l3 v : Int)], .agg #[.bool (sg d1), .int .u64 (l0 d1 : Int), .int .u64 (l1 d1 : Int), .int .u64 (l2 d1 : Int), .int .u64 (l3 d1 : Int)]] w (Ret (.tuple #[.agg #[.bool (sg p), .int .u64 (l0 p : Int), .int .u64 (l1 p : Int), .int .u64 (l2 p : Int), .int .u64 (l3 p : Int)], .agg #[.bool (sg r), .int .u64 (l0 r : Int), .int .u64 (l1 r : Int), .int .u64 (l2 r : Int), .int .u64 (l3 r : Int)], .bool true]) w)) := fun w => d_div fv hF1.fd (by have := hF1.1; omega) hp hr w
        have kI : Hid (∀ w, Calls Try.prog 32 #[.agg #[.bool (sg p), .int .u64 (l0 p : Int), .int .u64 (l1 p : Int), .int .u64 (l2 p : Int), .int .u64 (l3 p : Int)]] w (Ret (.tuple #[.int .i64 p, .bool true]) w)) := fun w => d_int64 fp (by omega) (by omega) w
        have kS : Hid (∀ w, Calls Try.prog 35 #[.agg #[.bool (sg r), .int .u64 (l0 r : Int), .int .u64 (l1 r : Int), .int .u64 (l2 r : Int), .int .u64 (l3 r : Int)]] w (Ret (.int .i64 s) w)) := fun w => d_sign fr hs w
        have kF : Hid (∀ w, Calls Try.prog 31 #[.int .i64 l, .int .i64 k] w (Ret (.agg #[.bool (sg N), .int .u64 (l0 N : Int), .int .u64 (l1 N : Int), .int .u64 (l2 N : Int), .int .u64 (l3 N : Int), .bool (sg D), .int .u64 (l0 D : Int), .int .u64 (l1 D : Int), .int .u64 (l2 D : Int), .int .u64 (l3 D : Int)]) w)) := fun w => l_fraction (by omega) (by omega) (by omega) hN hD w
        have kC : Hid (∀ w, Calls Try.prog 29 #[.agg #[.bool (sg N), .int .u64 (l0 N : Int), .int .u64 (l1 N : Int), .int .u64 (l2 N : Int), .int .u64 (l3 N : Int), .bool (sg D), .int .u64 (l0 D : Int), .int .u64 (l1 D : Int), .int .u64 (l2 D : Int), .int .u64 (l3 D : Int)], .agg #[.bool (sg n2), .int .u64 (l0 n2 : Int), .int .u64 (l1 n2 : Int), .int .u64 (l2 n2 : Int), .int .u64 (l3 n2 : Int), .bool (sg d2), .int .u64 (l0 d2 : Int), .int .u64 (l1 d2 : Int), .int .u64 (l2 d2 : Int), .int .u64 (l3 d2 : Int)]] w (Ret (.int .i64 q) w)) := fun w => h_cmp hFr hF2 hq w
        have bp1 : -9000000 ≤ p := by omega
        have bp2 : p ≤ 9000000 := by omega
        have HL : Hid ((s = 0 → l = p) ∧ (s ≠ 0 → l = p + 1)) := ⟨fun e => by rw [hl, if_pos (hs0.1 e)], fun e => by rw [hl, if_neg (fun h => e (hs0.2 h))]⟩
        clear hF1 hF2 bd1 bn1 bn B hv hp hr hl hN hD hq hs hs0 bv bp br br2 bl fv fp fr fk hFr HALL
        go_upto_region 12 with fail
        have lbP9 := P9.lt
        have lbP10 := P10.lt
        refine wp_decl [.q, .q, .q, .q, .q, .q, .q, .q, .al, .st 8, .q] [.pointer (some ⟨g2, 0, none⟩), .agg #[.bool (sg n1), .int .u64 (l0 n1 : Int), .int .u64 (l1 n1 : Int), .int .u64 (l2 n1 : Int), .int .u64 (l3 n1 : Int)], .int .i64 k, .agg #[.bool (sg k), .int .u64 (l0 k : Int), .int .u64 (l1 k : Int), .int .u64 (l2 k : Int), .int .u64 (l3 k : Int)], .tuple #[.agg #[.bool (sg v), .int .u64 (l0 v : Int), .int .u64 (l1 v : Int), .int .u64 (l2 v : Int), .int .u64 (l3 v : Int)], .bool true], .tuple #[.agg #[.bool (sg v), .int .u64 (l0 v : Int), .int .u64 (l1 v : Int), .int .u64 (l2 v : Int), .int .u64 (l3 v : Int)], .bool true], .agg #[.bool (sg v), .int .u64 (l0 v : Int), .int .u64 (l1 v : Int), .int .u64 (l2 v : Int), .int .u64 (l3 v : Int)], .bool true, undef, undef, .bool true] (fun _ => (.cells #[.bool false, .int .u64 0, .int .u64 0, .int .u64 0, .int .u64 0] 25 (0, 0))) (fun _ => (.cells #[.bool (sg v), .int .u64 (l0 v : Int), .int .u64 (l1 v : Int), .int .u64 (l2 v : Int), .int .u64 (l3 v : Int)] 25 (0, 0))) (fun _ => 0) (by kernel_rfl) (by kernel_rfl) (by kernel_rfl) rfl rfl (by simp) (by simp) ?_ ?_
        · refine ⟨?_, ?_, ?_, ?_, ?_, ?_, ?_, ?_, ?_, ?_, ?_, trivial⟩
          · refine op_q ?uvn2 ?h1n2 ?h2n2 ?h3n2
            case h1n2 => exact rfl
            case uvn2 => exact (.pointer (some ⟨g2, 0, none⟩))
            case h2n2 => exact rfl
            intro w' hw'
            go_simp
          · refine op_q ?uvn3 ?h1n3 ?h2n3 ?h3n3
            case h1n3 => exact rfl
            case uvn3 => exact (.agg #[.bool (sg n1), .int .u64 (l0 n1 : Int), .int .u64 (l1 n1 : Int), .int .u64 (l2 n1 : Int), .int .u64 (l3 n1 : Int)])
            case h2n3 => exact rfl
            intro w' hw'
            have P9 := P9.same hw' (by simp)
            have xP9 := ten_cells P9
            go_simp
          · refine op_q ?uvn4 ?h1n4 ?h2n4 ?h3n4
            case h1n4 => exact rfl
            case uvn4 => exact (.int .i64 k)
            case h2n4 => exact rfl
            intro w' hw'
            go_simp
          · refine op_q ?uvn5 ?h1n5 ?h2n5 ?h3n5
            case h1n5 => exact rfl
            case uvn5 => exact (.agg #[.bool (sg k), .int .u64 (l0 k : Int), .int .u64 (l1 k : Int), .int .u64 (l2 k : Int), .int .u64 (l3 k : Int)])
            case h2n5 => exact rfl
            intro w' hw'
            go_simp
            exact kO.out w'
          · refine op_q ?uvn6 ?h1n6 ?h2n6 ?h3n6
            case h1n6 => exact rfl
            case uvn6 => exact (.tuple #[.agg #[.bool (sg v), .int .u64 (l0 v : Int), .int .u64 (l1 v : Int), .int .u64 (l2 v : Int), .int .u64 (l3 v : Int)], .bool true])
            case h2n6 => exact rfl
            intro w' hw'
            go_simp
            exact kM.out w'
          · refine op_q ?uvn7 ?h1n7 ?h2n7 ?h3n7
            case h1n7 => exact rfl
            case uvn7 => exact (.tuple #[.agg #[.bool (sg v), .int .u64 (l0 v : Int), .int .u64 (l1 v : Int), .int .u64 (l2 v : Int), .int .u64 (l3 v : Int)], .bool true])
            case h2n7 => exact rfl
            intro w' hw'
            go_simp
          · refine op_q ?uvn8 ?h1n8 ?h2n8 ?h3n8
            case h1n8 => exact rfl
            case uvn8 => exact (.agg #[.bool (sg v), .int .u64 (l0 v : Int), .int .u64 (l1 v : Int), .int .u64 (l2 v : Int), .int .u64 (l3 v : Int)])
            case h2n8 => exact rfl
            intro w' hw'
            go_simp
          · refine op_q ?uvn9 ?h1n9 ?h2n9 ?h3n9
            case h1n9 => exact rfl
            case uvn9 => exact (.bool true)
            case h2n9 => exact rfl
            intro w' hw'
            go_simp
          · refine op_al ?uzn10 ?h1n10 ?h2n10 ?h3n10
            case h1n10 => exact rfl
            case h2n10 => exact rfl
            intro ρ w'
            go_simp
            rfl
          · refine op_st (j := 8) (T := ?uTn11) (p := ?upn11) (x := ?uxn11) ?ufn11 ?uzn11 ?uvn11 ?h1n11 ?h2n11 ?h3n11 ?h4n11 ?h5n11 ?h6n11
            case h1n11 => exact rfl
            case h2n11 => exact rfl
            case ufn11 => exact (.cells #[.bool (sg v), .int .u64 (l0 v : Int), .int .u64 (l1 v : Int), .int .u64 (l2 v : Int), .int .u64 (l3 v : Int)] 25 (0, 0))
            case uzn11 => exact (.cells #[.bool false, .int .u64 0, .int .u64 0, .int .u64 0, .int .u64 0] 25 (0, 0))
            case uvn11 => exact (.agg #[.bool (sg v), .int .u64 (l0 v : Int), .int .u64 (l1 v : Int), .int .u64 (l2 v : Int), .int .u64 (l3 v : Int)])
            case h3n11 => exact rfl
            case h4n11 => exact rfl
            case h5n11 => go_simp
            intro ρ w' g' hp hx hz
            exact store_wide rfl hp hx hz
          · refine op_q ?uvn12 ?h1n12 ?h2n12 ?h3n12
            case h1n12 => exact rfl
            case uvn12 => exact (.bool true)
            case h2n12 => exact rfl
            intro w' hw'
            go_simp
        · intro G W9 hI
          have hS := hI.same
          have hb0 := EE.out.size
          have P9 := P9.same hS (by simp)
          have P10 := P10.same hS (by simp)
          have EE := hide (hS.ext' EE.out (by simp))
          have P18 : Box W9 (G 8) (sg v) (l0 v) (l1 v) (l2 v) (l3 v) := (hI.fulls 9 (List.mem_range.2 (show 9 < 11 by decide)) 8 rfl).2.2
          have hmP18 := (hI.made 8 (List.mem_range.2 (show 8 < 11 by decide)) rfl).1
          have hbP18 := Nat.le_trans hb0 hmP18
          have ngP9P18 : g2 ≠ G 8 := by omega
          have ngP10P18 : g2 + 1 ≠ G 8 := by omega
          clear hI hS hb0
          simp only [putAll, slotV, ptrTo, Nat.zero_add, Nat.reduceAdd]
          generalize G 8 = gP18 at *
          go_upto_region 13 with fail
          obtain ⟨xP90, xP91, xP92, xP93, xP94, xP95, xP96, xP97, xP98, xP99, -⟩ := ten_cells P9; obtain ⟨xP180, xP181, xP182, xP183, xP184, -⟩ := five_cells P18
          go_upto_region 14 with (go_at_call 34; (with_reducible refine (kD.out _).mono ?_); rintro e w10 ⟨rfl, hE⟩; clear xP90 xP91 xP92 xP93 xP94 xP95 xP96 xP97 xP98 xP99 xP180 xP181 xP182 xP183 xP184; have P9 := P9.ext hE; have P10 := P10.ext hE; have P18 := P18.ext hE; have EE := hide (EE.out.trans hE); clear hE; obtain ⟨xP90, xP91, xP92, xP93, xP94, xP95, xP96, xP97, xP98, xP99, -⟩ := ten_cells P9; obtain ⟨xP180, xP181, xP182, xP183, xP184, -⟩ := five_cells P18)
          clear xP90 xP91 xP92 xP93 xP94 xP95 xP96 xP97 xP98 xP99 xP180 xP181 xP182 xP183 xP184
          have H2 := two_blocks w10 (.cells #[.bool (sg p), .int .u64 (l0 p : Int), .int .u64 (l1 p : Int), .int .u64 (l2 p : Int), .int .u64 (l3 p : Int)] 25) (.cells #[.bool (sg r), .int .u64 (l0 r : Int), .int .u64 (l1 r : Int), .int .u64 (l2 r : Int), .int .u64 (l3 r : Int)] 25)
          have lP9 := P9.lt
          have lP10 := P10.lt
          have lP18 := P18.lt
          have hb0 := EE.out.size
          have hE := ((ext_alloc w10 (.cells #[.bool (sg p), .int .u64 (l0 p : Int), .int .u64 (l1 p : Int), .int .u64 (l2 p : Int), .int .u64 (l3 p : Int)] 25)).trans (ext_alloc _ (.cells #[.bool (sg r), .int .u64 (l0 r : Int), .int .u64 (l1 r : Int), .int .u64 (l2 r : Int), .int .u64 (l3 r : Int)] 25)))
          have P9 := P9.ext hE
          have P10 := P10.ext hE
          have P18 := P18.ext hE
          have EE := hide (EE.out.trans hE)
          clear hE
          have hbg12 := hb0
          clear hb0
          obtain ⟨W11, hW⟩ : ∃ W, W = ((w10.alloc (.cells #[.bool (sg p), .int .u64 (l0 p : Int), .int .u64 (l1 p : Int), .int .u64 (l2 p : Int), .int .u64 (l3 p : Int)] 25)).alloc (.cells #[.bool (sg r), .int .u64 (l0 r : Int), .int .u64 (l1 r : Int), .int .u64 (l2 r : Int), .int .u64 (l3 r : Int)] 25)) := ⟨_, rfl⟩
          rw [← hW] at H2 EE P9 P10 P18 ⊢
          obtain ⟨g12, hg⟩ : ∃ g, w10.heap.size = g := ⟨_, rfl⟩
          rw [hg] at H2 hbg12 lP9 lP10 lP18 ⊢
          obtain ⟨P20, P21⟩ : Box W11 g12 (sg p) (l0 p) (l1 p) (l2 p) (l3 p) ∧ Box W11 (g12 + 1) (sg r) (l0 r) (l1 r) (l2 r) (l3 r) := H2
          clear hW hg
          have ngP9P20 : g2 ≠ g12 := by omega
          have ngP9P21 : g2 ≠ g12 + 1 := by omega
          have ngP10P20 : g2 + 1 ≠ g12 := by omega
          have ngP10P21 : g2 + 1 ≠ g12 + 1 := by omega
          have ngP18P20 : gP18 ≠ g12 := by omega
          have ngP18P21 : gP18 ≠ g12 + 1 := by omega
          obtain ⟨xP200, xP201, xP202, xP203, xP204, -⟩ := five_cells P20
          go_upto_region 15 with (go_at_call 32; (with_reducible refine (kI.out _).mono ?_); rintro e w13 ⟨rfl, hE⟩; clear xP200 xP201 xP202 xP203 xP204; have P9 := P9.ext hE; have P10 := P10.ext hE; have P18 := P18.ext hE; have P20 := P20.ext hE; have P21 := P21.ext hE; have EE := hide (EE.out.trans hE); clear hE; obtain ⟨xP200, xP201, xP202, xP203, xP204, -⟩ := five_cells P20)
          clear xP200 xP201 xP202 xP203 xP204
          obtain ⟨xP210, xP211, xP212, xP213, xP214, -⟩ := five_cells P21
          go_upto_if 108 with (go_at_call 35; (with_reducible refine (kS.out _).mono ?_); rintro e w14 ⟨rfl, hE⟩; clear xP210 xP211 xP212 xP213 xP214; have P9 := P9.ext hE; have P10 := P10.ext hE; have P21 := P21.ext hE; have EE := hide (EE.out.trans hE); clear hE; obtain ⟨xP210, xP211, xP212, xP213, xP214, -⟩ := five_cells P21)
          clear xP210 xP211 xP212 xP213 xP214
          go_cut [23] (fun t wx => t = .int .i64 l ∧ w14 = wx)
          case first =>
            by_cases h0 : s = 0
            · have hlp := HL.out.1 h0
              subst hlp h0
              go_wp2_with fail
              all_goals go_meet
              all_goals exact ⟨rfl, rfl⟩
            · have hlp := HL.out.2 h0
              subst hlp
              go_wp2_with fail
              all_goals go_meet
              all_goals exact ⟨rfl, rfl⟩
          case rest =>
            obtain ⟨rfl, rfl⟩ := hcut
            clear HL bp1 bp2
            go_upto_region 17 with fail
            by_cases hlt : k < m
            · have hq0 : decide (q ≤ 0) = false := decide_eq_false (by have := HR.out.1 hlt; omega)
              have hne : ¬ k = m := by omega
              clear HR
              obtain ⟨yP100, yP101, yP102, yP103, yP104, yP105, yP106, yP107, yP108, yP109, yP10f0, yP10f1, yP10f2, yP10f3, yP10f4, yP10f5, yP10f6, yP10f7, yP10f8, yP10f9⟩ := ten_cells P10
              clear yP10f0 yP10f1 yP10f2 yP10f3 yP10f4 yP10f5 yP10f6 yP10f7 yP10f8 yP10f9
              replace yP100 := cellR yP100
              replace yP101 := cellR yP101
              replace yP102 := cellR yP102
              replace yP103 := cellR yP103
              replace yP104 := cellR yP104
              replace yP105 := cellR yP105
              replace yP106 := cellR yP106
              replace yP107 := cellR yP107
              replace yP108 := cellR yP108
              replace yP109 := cellR yP109
              refine wp_region_quiet_below (by kernel_rfl) (by kernel_rfl) ?_
              repeat (first | go_big_quiet_step (first | with_reducible exact quiet_ret (kF.out _) | with_reducible exact quiet_ret (kC.out _)) | quiet_step (first | with_reducible exact quiet_ret (kF.out _) | with_reducible exact quiet_ret (kC.out _)))
              refine wpQuiet_nil ?_
              intro _ hw'
              obtain ⟨⟨dq, osq⟩, hw''⟩ := hw'
              subst hw''
              clear yP100 yP101 yP102 yP103 yP104 yP105 yP106 yP107 yP108 yP109
              have hE := ext_regrown w14 dq osq
              have P9 := P9.ext hE
              have P10 := P10.ext hE
              have EE := hide (EE.out.trans hE)
              clear hE
              generalize grow (redrawn w14 dq) osq = w14q at *
              go_wp2_with fail
              all_goals exact ⟨⟨k + 1, rfl, by omega, by omega, P9, P10, EE⟩, by simp [intOf]; omega⟩
            · obtain rfl : k = m := by omega
              have hq0 : decide (q ≤ 0) = true := decide_eq_true (HR.out.2 rfl).1
              have HN := hide (HR.out.2 rfl).2
              clear HR hlt hkm
              obtain ⟨yP100, yP101, yP102, yP103, yP104, yP105, yP106, yP107, yP108, yP109, yP10f0, yP10f1, yP10f2, yP10f3, yP10f4, yP10f5, yP10f6, yP10f7, yP10f8, yP10f9⟩ := ten_cells P10
              clear yP10f0 yP10f1 yP10f2 yP10f3 yP10f4 yP10f5 yP10f6 yP10f7 yP10f8 yP10f9
              replace yP100 := cellR yP100
              replace yP101 := cellR yP101
              replace yP102 := cellR yP102
              replace yP103 := cellR yP103
              replace yP104 := cellR yP104
              replace yP105 := cellR yP105
              replace yP106 := cellR yP106
              replace yP107 := cellR yP107
              replace yP108 := cellR yP108
              replace yP109 := cellR yP109
              refine wp_region_quiet_below (by kernel_rfl) (by kernel_rfl) ?_
              repeat (first | go_big_quiet_step (first | with_reducible exact quiet_ret (kF.out _) | with_reducible exact quiet_ret (kC.out _)) | quiet_step (first | with_reducible exact quiet_ret (kF.out _) | with_reducible exact quiet_ret (kC.out _)))
              refine wpQuiet_nil ?_
              intro _ hw'
              obtain ⟨⟨dq, osq⟩, hw''⟩ := hw'
              subst hw''
              clear yP100 yP101 yP102 yP103 yP104 yP105 yP106 yP107 yP108 yP109
              have hE := ext_regrown w14 dq osq
              have P9 := P9.ext hE
              have P10 := P10.ext hE
              have EE := hide (EE.out.trans hE)
              clear hE
              generalize grow (redrawn w14 dq) osq = w14q at *
              by_cases hl0 : 0 < l
              · obtain rfl : n = l := HN.out hl0
                clear HN
                go_wp2_with fail
                all_goals exact ⟨⟨k + 1, rfl, by omega, by omega, P9, P10, EE⟩, by first | (simp [intOf]; done) | (simp [intOf]; omega)⟩
              · clear HN
                go_wp2_with fail
                all_goals exact ⟨⟨k + 1, rfl, by omega, by omega, P9, P10, EE⟩, by first | (simp [intOf]; done) | (simp [intOf]; omega)⟩
      · clear HALL
        go_wp2_with (first
          | (go_at_call 25; (with_reducible refine (kK.out _).mono ?_); rintro e w9 ⟨rfl, hE⟩; have P9 := P9.ext hE; have P10 := P10.ext hE; have EE := hide (EE.out.trans hE); clear hE))
        go_ret
        all_goals exact ⟨rfl, EE.out⟩
end Go.Proofs.Ytbnbkondbdakeaa
