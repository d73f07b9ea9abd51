/- The simplest fraction: the reference of layer 4: the simplest fraction of an interval of positive numbers. Conditions: the numbers fit. -/
import Derived.Test.YtbnbkondbdakeaaSimD
import Derived.Test.YtbnbkondbdakeaaRef2
import Derived.BigQuiet
import Derived.Test.YtbnbkondbdakeaaRefH
namespace Go.Proofs.Ytbnbkondbdakeaa
set_option linter.unusedVariables false
set_option linter.unusedSimpArgs false
open Go Go.RowKit Go.Sort
attribute [local go_sem] qUpon putAll slotV
theorem four_objs (w : World) (o p q r : Obj) : ((((w.alloc o).alloc p).alloc q).alloc r).heap[w.heap.size]? = some o ∧ ((((w.alloc o).alloc p).alloc q).alloc r).heap[w.heap.size + 1]? = some p ∧ ((((w.alloc o).alloc p).alloc q).alloc r).heap[w.heap.size + 1 + 1]? = some q ∧ ((((w.alloc o).alloc p).alloc q).alloc r).heap[w.heap.size + 1 + 1 + 1]? = some r := by
  obtain ⟨h1, h2, h3⟩ := three_boxes w o p q
  have h4 := heap_alloc_new (((w.alloc o).alloc p).alloc q) r
  have hs : (((w.alloc o).alloc p).alloc q).heap.size = w.heap.size + 1 + 1 + 1 := by simp
  rw [hs] at h4
  exact ⟨keep5 (ext_alloc _ _) h1, keep5 (ext_alloc _ _) h2, keep5 (ext_alloc _ _) h3, h4⟩
theorem six_objs (w : World) (o p q r s t : Obj) : ((((((w.alloc o).alloc p).alloc q).alloc r).alloc s).alloc t).heap[w.heap.size]? = some o ∧ ((((((w.alloc o).alloc p).alloc q).alloc r).alloc s).alloc t).heap[w.heap.size + 1]? = some p ∧ ((((((w.alloc o).alloc p).alloc q).alloc r).alloc s).alloc t).heap[w.heap.size + 1 + 1]? = some q ∧ ((((((w.alloc o).alloc p).alloc q).alloc r).alloc s).alloc t).heap[w.heap.size + 1 + 1 + 1]? = some r ∧ ((((((w.alloc o).alloc p).alloc q).alloc r).alloc s).alloc t).heap[w.heap.size + 1 + 1 + 1 + 1]? = some s ∧ ((((((w.alloc o).alloc p).alloc q).alloc r).alloc s).alloc t).heap[w.heap.size + 1 + 1 + 1 + 1 + 1]? = some t := by
  obtain ⟨h1, h2, h3, h4⟩ := four_objs w o p q r
  have hs : ((((w.alloc o).alloc p).alloc q).alloc r).heap.size = w.heap.size + 1 + 1 + 1 + 1 := by simp
  obtain ⟨h5, h6⟩ := two_blocks ((((w.alloc o).alloc p).alloc q).alloc r) s t
  rw [hs] at h5 h6
  have E := (ext_alloc ((((w.alloc o).alloc p).alloc q).alloc r) s).trans (ext_alloc _ t)
  exact ⟨keep5 E h1, keep5 E h2, keep5 E h3, keep5 E h4, h5, h6⟩
/-- The next integer lies in the interval exactly if the integer parts differ. -/
theorem above_iff {a b c d u v : Int} (ha : 0 < a) (hb : 0 < b) (hd : 0 < d) (hle : a * d ≤ c * b) (hr0 : a % b ≠ 0) (hu : a / b + 1 = u) (hv : u * d = v) : v ≤ c ↔ a / b ≠ c / d := by
  constructor
  · intro h e
    have e2 := Int.emod_add_mul_ediv c d
    have l2 := Int.emod_lt_of_pos c hd
    rw [← e] at e2
    rw [← hv, ← hu, Int.add_mul, Int.one_mul, Int.mul_comm (a / b) d] at h
    omega
  · intro h
    have := (best_next ha hb hd hle hr0 h).2.2.1
    rw [hu, hv] at this
    omega
set_option maxRecDepth 100000 in
set_option maxHeartbeats 8000000 in
theorem q_pos : ∀ (k : Nat) (a b c d n m : Int), (b + d).toNat < k → 0 < a → 0 < b → 0 < d → a * d ≤ c * b → a.natAbs < 170141183460469231731687303715884105728 → b.natAbs < 170141183460469231731687303715884105728 → c.natAbs < 170141183460469231731687303715884105728 → d.natAbs < 170141183460469231731687303715884105728 → Best a b c d n m → ∀ w : World, Calls Try.prog 119 #[.agg #[.bool (sg a), .int .u64 (l0 a : Int), .int .u64 (l1 a : Int), .int .u64 (l2 a : Int), .int .u64 (l3 a : Int)], .agg #[.bool (sg b), .int .u64 (l0 b : Int), .int .u64 (l1 b : Int), .int .u64 (l2 b : Int), .int .u64 (l3 b : Int)], .agg #[.bool (sg c), .int .u64 (l0 c : Int), .int .u64 (l1 c : Int), .int .u64 (l2 c : Int), .int .u64 (l3 c : Int)], .agg #[.bool (sg d), .int .u64 (l0 d : Int), .int .u64 (l1 d : Int), .int .u64 (l2 d : Int), .int .u64 (l3 d : Int)]] w (Ret (.tuple #[.agg #[.bool (sg n), .int .u64 (l0 n : Int), .int .u64 (l1 n : Int), .int .u64 (l2 n : Int), .int .u64 (l3 n : Int)], .agg #[.bool (sg m), .int .u64 (l0 m : Int), .int .u64 (l1 m : Int), .int .u64 (l2 m : Int), .int .u64 (l3 m : Int)]]) w)
  | 0, _, _, _, _, _, _, hk, _, _, _, _, _, _, _, _, _, _ => by omega
  | k + 1, a, b, c, d, n, m, hk, ha, hb, hd, hle, sa, sb, sc, sd, B, w => by
    obtain ⟨q, hq⟩ : ∃ q, a / b = q := ⟨_, rfl⟩
    obtain ⟨r, hr⟩ : ∃ q, a % b = q := ⟨_, rfl⟩
    have q0 : 0 ≤ q := by rw [← hq]; exact Int.ediv_nonneg (by omega) (by omega)
    have qa : q ≤ a := by rw [← hq]; exact Int.ediv_le_self _ (by omega)
    have r0 : 0 ≤ r := by rw [← hr]; exact Int.emod_nonneg _ (by omega)
    have rb : r < b := by rw [← hr]; exact Int.emod_lt_of_pos _ hb
    have fa := f256_of sa
    have fb := f256_of sb
    have fc := f256_of sc
    have fd := f256_of sd
    have fq : F256 q := f256_of (by omega)
    have fr : F256 r := f256_of (by omega)
    have BS := (B.small hb hd hle).1
    have n0 := B.pos ha hb
    have m0 := B.1
    have c0 : 0 < c := by
      have h1 := Int.mul_pos ha hd
      by_cases hc : 0 < c
      · exact hc
      · have := Int.mul_nonpos_of_nonpos_of_nonneg (show c ≤ 0 by omega) (show 0 ≤ b by omega); omega
    have fbig : ∀ z y : Int, 0 ≤ z → z ≤ 170141183460469231731687303715884105728 → 0 ≤ y → y ≤ 170141183460469231731687303715884105728 → F256 (z * y) := by
      intro z y z0 z1 y0 y1
      have h1 : z * y ≤ 170141183460469231731687303715884105728 * 170141183460469231731687303715884105728 := Int.le_trans (Int.mul_le_mul_of_nonneg_right z1 y0) (Int.mul_le_mul_of_nonneg_left y1 (by omega))
      have h2 : 0 ≤ z * y := Int.mul_nonneg z0 y0
      unfold F256; omega
    have kD : Hid (∀ w, Calls Try.prog 34 #[.agg #[.bool (sg a), .int .u64 (l0 a : Int), .int .u64 (l1 a : Int), .int .u64 (l2 a : Int), .int .u64 (l3 a : Int)], .agg #[.bool (sg b), .int .u64 (l0 b : Int), .int .u64 (l1 b : Int), .int .u64 (l2 b : Int), .int .u64 (l3 b : Int)]] w (Ret (.tuple #[.agg #[.bool (sg q), .int .u64 (l0 q : Int), .int .u64 (l1 q : Int), .int .u64 (l2 q : Int), .int .u64 (l3 q : Int)], .agg #[.bool (sg r), .int .u64 (l0 r : Int), .int .u64 (l1 r : Int), .int .u64 (l2 r : Int), .int .u64 (l3 r : Int)], .bool true]) w)) := fun w => d_div fa fb (by omega) hq hr w
    by_cases h0 : r = 0
    · obtain ⟨en, em⟩ := Best.unique hb hd B (best_whole ha hb hd hle (by rw [hr]; exact h0))
      rw [hq] at en
      subst en em
      obtain ⟨v, hv⟩ : ∃ v, n * d = v := ⟨_, rfl⟩
      have fv : F256 v := by rw [← hv]; exact fbig n d (by omega) (by omega) (by omega) (by omega)
      have hvc : v ≤ c := by rw [← hv]; have := B.2.2.1; rw [Int.mul_one] at this; exact this
      obtain ⟨j, hj⟩ : ∃ j, cmpI v c = j := ⟨_, rfl⟩
      have hj0 : j ≤ 0 := by rcases Int.lt_or_le 0 j with h | h; · have := (cmpI_lt hj).2.2.1 h; omega
                             · exact h
      have kS : Hid (∀ w, Calls Try.prog 35 #[.agg #[.bool (sg r), .int .u64 (l0 r : Int), .int .u64 (l1 r : Int), .int .u64 (l2 r : Int), .int .u64 (l3 r : Int)]] w (Ret (.int .i64 0) w)) := fun w => d_sign fr (by rw [h0]; simp) w
      have kM : Hid (∀ w, Calls Try.prog 33 #[.agg #[.bool (sg n), .int .u64 (l0 n : Int), .int .u64 (l1 n : Int), .int .u64 (l2 n : Int), .int .u64 (l3 n : Int)], .agg #[.bool (sg d), .int .u64 (l0 d : Int), .int .u64 (l1 d : Int), .int .u64 (l2 d : Int), .int .u64 (l3 d : Int)]] w (Ret (.tuple #[.agg #[.bool (sg v), .int .u64 (l0 v : Int), .int .u64 (l1 v : Int), .int .u64 (l2 v : Int), .int .u64 (l3 v : Int)], .bool true]) w)) := fun w => d_mul fq fd hv fv w
      have kC : Hid (∀ w, Calls Try.prog 59 #[.agg #[.bool (sg v), .int .u64 (l0 v : Int), .int .u64 (l1 v : Int), .int .u64 (l2 v : Int), .int .u64 (l3 v : Int)], .agg #[.bool (sg c), .int .u64 (l0 c : Int), .int .u64 (l1 c : Int), .int .u64 (l2 c : Int), .int .u64 (l3 c : Int)]] w (Ret (.int .i64 j) w)) := fun w => d_cmp fv fc hj w
      have kO : Hid (∀ w, Calls Try.prog 17 #[.int .i64 1] w (Ret (.agg #[.bool (sg 1), .int .u64 (l0 1 : Int), .int .u64 (l1 1 : Int), .int .u64 (l2 1 : Int), .int .u64 (l3 1 : Int)]) w)) := fun w => d_ofi (by omega) (by omega) w
      clear hq hr q0 qa r0 rb fa fb fc fd fq fr BS n0 m0 c0 fbig hk ha hb hd hle sa sb sc sd B h0 hv fv hvc hj
      obtain ⟨W0, hW0⟩ : ∃ W0, W0 = ((((((w.alloc (.cells #[.bool (sg a), .int .u64 (l0 a : Int), .int .u64 (l1 a : Int), .int .u64 (l2 a : Int), .int .u64 (l3 a : Int)] 25)).alloc (.cells #[.bool (sg b), .int .u64 (l0 b : Int), .int .u64 (l1 b : Int), .int .u64 (l2 b : Int), .int .u64 (l3 b : Int)] 25)).alloc (.cells #[.bool (sg c), .int .u64 (l0 c : Int), .int .u64 (l1 c : Int), .int .u64 (l2 c : Int), .int .u64 (l3 c : Int)] 25)).alloc (.cells #[.bool (sg d), .int .u64 (l0 d : Int), .int .u64 (l1 d : Int), .int .u64 (l2 d : Int), .int .u64 (l3 d : Int)] 25)).alloc (.cells #[.bool false, .int .u64 0, .int .u64 0, .int .u64 0, .int .u64 0] 25)).alloc (.cells #[.bool false, .int .u64 0, .int .u64 0, .int .u64 0, .int .u64 0] 25)) := ⟨_, rfl⟩
      have H2 := six_objs w (.cells #[.bool (sg a), .int .u64 (l0 a : Int), .int .u64 (l1 a : Int), .int .u64 (l2 a : Int), .int .u64 (l3 a : Int)] 25) (.cells #[.bool (sg b), .int .u64 (l0 b : Int), .int .u64 (l1 b : Int), .int .u64 (l2 b : Int), .int .u64 (l3 b : Int)] 25) (.cells #[.bool (sg c), .int .u64 (l0 c : Int), .int .u64 (l1 c : Int), .int .u64 (l2 c : Int), .int .u64 (l3 c : Int)] 25) (.cells #[.bool (sg d), .int .u64 (l0 d : Int), .int .u64 (l1 d : Int), .int .u64 (l2 d : Int), .int .u64 (l3 d : Int)] 25) (.cells #[.bool false, .int .u64 0, .int .u64 0, .int .u64 0, .int .u64 0] 25) (.cells #[.bool false, .int .u64 0, .int .u64 0, .int .u64 0, .int .u64 0] 25)
      have EE0 : Ext w W0 := by rw [hW0]; exact ((((((ext_alloc _ _).trans (ext_alloc _ _)).trans (ext_alloc _ _)).trans (ext_alloc _ _)).trans (ext_alloc _ _)).trans (ext_alloc _ _))
      rw [← hW0] at H2
      have EE := hide EE0
      have HW := hide hW0
      obtain ⟨P4, P5, P6, P7, P8, P9⟩ : Box W0 (w.heap.size) (sg a) (l0 a) (l1 a) (l2 a) (l3 a) ∧ Box W0 ((w.heap.size + 1)) (sg b) (l0 b) (l1 b) (l2 b) (l3 b) ∧ Box W0 ((w.heap.size + 1 + 1)) (sg c) (l0 c) (l1 c) (l2 c) (l3 c) ∧ Box W0 ((w.heap.size + 1 + 1 + 1)) (sg d) (l0 d) (l1 d) (l2 d) (l3 d) ∧ Box W0 ((w.heap.size + 1 + 1 + 1 + 1)) false 0 0 0 0 ∧ Box W0 ((w.heap.size + 1 + 1 + 1 + 1 + 1)) false 0 0 0 0 := H2
      clear hW0 EE0
      go_enter Try.func119, Try.ntmps119
      go_upto_region 1 with fail
      rw [← HW.out]
      clear HW
      have hg0 : w.heap.size ≤ w.heap.size := Nat.le_refl _
      obtain ⟨g0, hg⟩ : ∃ g, w.heap.size = g := ⟨_, rfl⟩
      rw [hg] at P4 P5 P6 P7 P8 P9 ⊢
      replace hg0 : w.heap.size ≤ g0 := Nat.le_of_eq hg
      clear hg
      obtain ⟨xP40, xP41, xP42, xP43, xP44, -⟩ := five_cells P4; obtain ⟨xP50, xP51, xP52, xP53, xP54, -⟩ := five_cells P5
      go_upto_region 2 with (go_at_call 34; (with_reducible refine (kD.out _).mono ?_); rintro e w1 ⟨rfl, hE⟩; clear xP40 xP41 xP42 xP43 xP44 xP50 xP51 xP52 xP53 xP54; have P4 := P4.ext hE; have P5 := P5.ext hE; have P6 := P6.ext hE; have P7 := P7.ext hE; have P8 := P8.ext hE; have P9 := P9.ext hE; have EE := hide (EE.out.trans hE); clear hE; obtain ⟨xP40, xP41, xP42, xP43, xP44, -⟩ := five_cells P4; obtain ⟨xP50, xP51, xP52, xP53, xP54, -⟩ := five_cells P5)
      clear xP40 xP41 xP42 xP43 xP44 xP50 xP51 xP52 xP53 xP54
      have H2 := two_blocks w1 (.cells #[.bool (sg n), .int .u64 (l0 n : Int), .int .u64 (l1 n : Int), .int .u64 (l2 n : Int), .int .u64 (l3 n : Int)] 25) (.cells #[.bool (sg r), .int .u64 (l0 r : Int), .int .u64 (l1 r : Int), .int .u64 (l2 r : Int), .int .u64 (l3 r : Int)] 25)
      have lP4 := P4.lt
      have lP5 := P5.lt
      have lP6 := P6.lt
      have lP7 := P7.lt
      have lP8 := P8.lt
      have lP9 := P9.lt
      have hE := ((ext_alloc w1 (.cells #[.bool (sg n), .int .u64 (l0 n : Int), .int .u64 (l1 n : Int), .int .u64 (l2 n : Int), .int .u64 (l3 n : Int)] 25)).trans (ext_alloc _ (.cells #[.bool (sg r), .int .u64 (l0 r : Int), .int .u64 (l1 r : Int), .int .u64 (l2 r : Int), .int .u64 (l3 r : Int)] 25)))
      have P4 := P4.ext hE
      have P5 := P5.ext hE
      have P6 := P6.ext hE
      have P7 := P7.ext hE
      have P8 := P8.ext hE
      have P9 := P9.ext hE
      have EE := hide (EE.out.trans hE)
      clear hE
      obtain ⟨W2, hW⟩ : ∃ W, W = ((w1.alloc (.cells #[.bool (sg n), .int .u64 (l0 n : Int), .int .u64 (l1 n : Int), .int .u64 (l2 n : Int), .int .u64 (l3 n : Int)] 25)).alloc (.cells #[.bool (sg r), .int .u64 (l0 r : Int), .int .u64 (l1 r : Int), .int .u64 (l2 r : Int), .int .u64 (l3 r : Int)] 25)) := ⟨_, rfl⟩
      rw [← hW] at H2 EE P4 P5 P6 P7 P8 P9 ⊢
      obtain ⟨g3, hg⟩ : ∃ g, w1.heap.size = g := ⟨_, rfl⟩
      rw [hg] at H2 lP4 lP5 lP6 lP7 lP8 lP9 ⊢
      obtain ⟨P10, P11⟩ : Box W2 g3 (sg n) (l0 n) (l1 n) (l2 n) (l3 n) ∧ Box W2 (g3 + 1) (sg r) (l0 r) (l1 r) (l2 r) (l3 r) := H2
      clear hW hg
      have ngP4P10 : g0 ≠ g3 := by omega
      have ngP4P11 : g0 ≠ g3 + 1 := by omega
      have ngP5P10 : g0 + 1 ≠ g3 := by omega
      have ngP5P11 : g0 + 1 ≠ g3 + 1 := by omega
      have ngP6P10 : g0 + 1 + 1 ≠ g3 := by omega
      have ngP6P11 : g0 + 1 + 1 ≠ g3 + 1 := by omega
      have ngP7P10 : g0 + 1 + 1 + 1 ≠ g3 := by omega
      have ngP7P11 : g0 + 1 + 1 + 1 ≠ g3 + 1 := by omega
      have ngP8P10 : g0 + 1 + 1 + 1 + 1 ≠ g3 := by omega
      have ngP8P11 : g0 + 1 + 1 + 1 + 1 ≠ g3 + 1 := by omega
      have ngP9P10 : g0 + 1 + 1 + 1 + 1 + 1 ≠ g3 := by omega
      have ngP9P11 : g0 + 1 + 1 + 1 + 1 + 1 ≠ g3 + 1 := by omega
      obtain ⟨xP110, xP111, xP112, xP113, xP114, -⟩ := five_cells P11
      go_upto_region 4 with (go_at_call 35; (with_reducible refine (kS.out _).mono ?_); rintro e w4 ⟨rfl, hE⟩; clear xP110 xP111 xP112 xP113 xP114; have P4 := P4.ext hE; have P5 := P5.ext hE; have P6 := P6.ext hE; have P7 := P7.ext hE; have P8 := P8.ext hE; have P9 := P9.ext hE; have P10 := P10.ext hE; have P11 := P11.ext hE; have EE := hide (EE.out.trans hE); clear hE; obtain ⟨xP110, xP111, xP112, xP113, xP114, -⟩ := five_cells P11)
      clear xP110 xP111 xP112 xP113 xP114
      obtain ⟨xP70, xP71, xP72, xP73, xP74, -⟩ := five_cells P7; obtain ⟨xP100, xP101, xP102, xP103, xP104, -⟩ := five_cells P10
      go_upto_region 5 with (go_at_call 33; (with_reducible refine (kM.out _).mono ?_); rintro e w5 ⟨rfl, hE⟩; clear xP70 xP71 xP72 xP73 xP74 xP100 xP101 xP102 xP103 xP104; have P4 := P4.ext hE; have P5 := P5.ext hE; have P6 := P6.ext hE; have P7 := P7.ext hE; have P8 := P8.ext hE; have P9 := P9.ext hE; have P10 := P10.ext hE; have P11 := P11.ext hE; have EE := hide (EE.out.trans hE); clear hE; obtain ⟨xP70, xP71, xP72, xP73, xP74, -⟩ := five_cells P7; obtain ⟨xP100, xP101, xP102, xP103, xP104, -⟩ := five_cells P10)
      clear xP70 xP71 xP72 xP73 xP74 xP100 xP101 xP102 xP103 xP104
      have H2 := heap_alloc_new w5 (.cells #[.bool (sg v), .int .u64 (l0 v : Int), .int .u64 (l1 v : Int), .int .u64 (l2 v : Int), .int .u64 (l3 v : Int)] 25)
      have lP4 := P4.lt
      have lP5 := P5.lt
      have lP6 := P6.lt
      have lP7 := P7.lt
      have lP8 := P8.lt
      have lP9 := P9.lt
      have lP10 := P10.lt
      have lP11 := P11.lt
      have hE := (ext_alloc w5 (.cells #[.bool (sg v), .int .u64 (l0 v : Int), .int .u64 (l1 v : Int), .int .u64 (l2 v : Int), .int .u64 (l3 v : Int)] 25))
      have P4 := P4.ext hE
      have P5 := P5.ext hE
      have P6 := P6.ext hE
      have P7 := P7.ext hE
      have P8 := P8.ext hE
      have P9 := P9.ext hE
      have P10 := P10.ext hE
      have P11 := P11.ext hE
      have EE := hide (EE.out.trans hE)
      clear hE
      obtain ⟨W6, hW⟩ : ∃ W, W = (w5.alloc (.cells #[.bool (sg v), .int .u64 (l0 v : Int), .int .u64 (l1 v : Int), .int .u64 (l2 v : Int), .int .u64 (l3 v : Int)] 25)) := ⟨_, rfl⟩
      rw [← hW] at H2 EE P4 P5 P6 P7 P8 P9 P10 P11 ⊢
      obtain ⟨g7, hg⟩ : ∃ g, w5.heap.size = g := ⟨_, rfl⟩
      rw [hg] at H2 lP4 lP5 lP6 lP7 lP8 lP9 lP10 lP11 ⊢
      have P13 : Box W6 g7 (sg v) (l0 v) (l1 v) (l2 v) (l3 v) := H2
      clear hW hg
      have ngP4P13 : g0 ≠ g7 := by omega
      have ngP5P13 : g0 + 1 ≠ g7 := by omega
      have ngP6P13 : g0 + 1 + 1 ≠ g7 := by omega
      have ngP7P13 : g0 + 1 + 1 + 1 ≠ g7 := by omega
      have ngP8P13 : g0 + 1 + 1 + 1 + 1 ≠ g7 := by omega
      have ngP9P13 : g0 + 1 + 1 + 1 + 1 + 1 ≠ g7 := by omega
      have ngP10P13 : g3 ≠ g7 := by omega
      have ngP11P13 : g3 + 1 ≠ g7 := by omega
      obtain ⟨xP60, xP61, xP62, xP63, xP64, -⟩ := five_cells P6; obtain ⟨xP130, xP131, xP132, xP133, xP134, -⟩ := five_cells P13
      go_upto_region 6 with (go_at_call 59; (with_reducible refine (kC.out _).mono ?_); rintro e w8 ⟨rfl, hE⟩; clear xP60 xP61 xP62 xP63 xP64 xP130 xP131 xP132 xP133 xP134; have P4 := P4.ext hE; have P5 := P5.ext hE; have P6 := P6.ext hE; have P7 := P7.ext hE; have P8 := P8.ext hE; have P9 := P9.ext hE; have P10 := P10.ext hE; have P11 := P11.ext hE; have P13 := P13.ext hE; have EE := hide (EE.out.trans hE); clear hE; obtain ⟨xP60, xP61, xP62, xP63, xP64, -⟩ := five_cells P6; obtain ⟨xP130, xP131, xP132, xP133, xP134, -⟩ := five_cells P13)
      clear xP60 xP61 xP62 xP63 xP64 xP130 xP131 xP132 xP133 xP134
      have lbP4 := P4.lt
      have lbP5 := P5.lt
      have lbP6 := P6.lt
      have lbP7 := P7.lt
      have lbP8 := P8.lt
      have lbP9 := P9.lt
      have lbP10 := P10.lt
      have lbP11 := P11.lt
      have lbP13 := P13.lt
      have ltW0 : ∀ c, Tag.so c ∈ [.q, .q, .so 0, .so 1] → (fun i => match i with | 0 => g0 + 1 + 1 + 1 + 1 | _ => g0 + 1 + 1 + 1 + 1 + 1) c < w8.heap.size := by intro c hc; simp at hc; rcases hc with rfl | rfl <;> (try simp only) <;> omega
      refine wp_decl [.q, .q, .so 0, .so 1] [.agg #[.bool (sg n), .int .u64 (l0 n : Int), .int .u64 (l1 n : Int), .int .u64 (l2 n : Int), .int .u64 (l3 n : Int)], .agg #[.bool (sg 1), .int .u64 (l0 1 : Int), .int .u64 (l1 1 : Int), .int .u64 (l2 1 : Int), .int .u64 (l3 1 : Int)], undef, undef] (fun _ => (.cells #[.bool false, .int .u64 0, .int .u64 0, .int .u64 0, .int .u64 0] 25 (0, 0))) (fun i => match i with | 2 => (.cells #[.bool (sg n), .int .u64 (l0 n : Int), .int .u64 (l1 n : Int), .int .u64 (l2 n : Int), .int .u64 (l3 n : Int)] 25 (0, 0)) | _ => (.cells #[.bool (sg 1), .int .u64 (l0 1 : Int), .int .u64 (l1 1 : Int), .int .u64 (l2 1 : Int), .int .u64 (l3 1 : Int)] 25 (0, 0))) (fun i => match i with | 0 => g0 + 1 + 1 + 1 + 1 | _ => g0 + 1 + 1 + 1 + 1 + 1) (by kernel_rfl) (by kernel_rfl) (by kernel_rfl) rfl rfl ltW0 (by intro c c' h1 h2 h3; simp at h1 h2; rcases h1 with rfl | rfl <;> rcases h2 with rfl | rfl <;> simp only at h3 <;> omega) ?_ ?_
      · refine ⟨?_, ?_, ?_, ?_, trivial⟩
        · refine op_q ?uvn2 ?h1n2 ?h2n2 ?h3n2
          case h1n2 => exact rfl
          case uvn2 => exact (.agg #[.bool (sg n), .int .u64 (l0 n : Int), .int .u64 (l1 n : Int), .int .u64 (l2 n : Int), .int .u64 (l3 n : Int)])
          case h2n2 => exact rfl
          intro w' hw'
          have P10 := P10.same hw' (by intro c hc; simp at hc; rcases hc with rfl | rfl <;> (try simp only) <;> omega)
          have xP10 := five_cells P10
          go_simp
        · refine op_q ?uvn3 ?h1n3 ?h2n3 ?h3n3
          case h1n3 => exact rfl
          case uvn3 => exact (.agg #[.bool (sg 1), .int .u64 (l0 1 : Int), .int .u64 (l1 1 : Int), .int .u64 (l2 1 : Int), .int .u64 (l3 1 : Int)])
          case h2n3 => exact rfl
          intro w' hw'
          go_simp
          exact kO.out w'
        · refine op_so (c := 0) (T := ?uTn4) (p := ?upn4) (x := ?uxn4) ?ugn4 ?ufn4 ?uvn4 ?h1n4 ?h2n4 ?h3n4 ?h4n4 ?h5n4 ?h6n4 ?h7n4
          case h1n4 => exact rfl
          case h2n4 => exact rfl
          case ufn4 => exact (.cells #[.bool (sg n), .int .u64 (l0 n : Int), .int .u64 (l1 n : Int), .int .u64 (l2 n : Int), .int .u64 (l3 n : Int)] 25 (0, 0))
          case ugn4 => exact g0 + 1 + 1 + 1 + 1
          case uvn4 => exact (.agg #[.bool (sg n), .int .u64 (l0 n : Int), .int .u64 (l1 n : Int), .int .u64 (l2 n : Int), .int .u64 (l3 n : Int)])
          case h3n4 => exact rfl
          case h4n4 => exact rfl
          case h5n4 => go_simp; rfl
          case h6n4 => go_simp
          intro ρ w' hp hx hz
          exact store_wide rfl hp hx (hz.trans P8)
        · refine op_so (c := 1) (T := ?uTn5) (p := ?upn5) (x := ?uxn5) ?ugn5 ?ufn5 ?uvn5 ?h1n5 ?h2n5 ?h3n5 ?h4n5 ?h5n5 ?h6n5 ?h7n5
          case h1n5 => exact rfl
          case h2n5 => exact rfl
          case ufn5 => exact (.cells #[.bool (sg 1), .int .u64 (l0 1 : Int), .int .u64 (l1 1 : Int), .int .u64 (l2 1 : Int), .int .u64 (l3 1 : Int)] 25 (0, 0))
          case ugn5 => exact g0 + 1 + 1 + 1 + 1 + 1
          case uvn5 => exact (.agg #[.bool (sg 1), .int .u64 (l0 1 : Int), .int .u64 (l1 1 : Int), .int .u64 (l2 1 : Int), .int .u64 (l3 1 : Int)])
          case h3n5 => exact rfl
          case h4n5 => exact rfl
          case h5n5 => go_simp; rfl
          case h6n5 => go_simp
          intro ρ w' hp hx hz
          exact store_wide rfl hp hx (hz.trans P9)
      · intro G W9 hI
        have hS := hI.same
        have P4 := P4.same hS (by intro c hc; simp at hc; rcases hc with rfl | rfl <;> (try simp only) <;> omega)
        have P5 := P5.same hS (by intro c hc; simp at hc; rcases hc with rfl | rfl <;> (try simp only) <;> omega)
        have P6 := P6.same hS (by intro c hc; simp at hc; rcases hc with rfl | rfl <;> (try simp only) <;> omega)
        have P7 := P7.same hS (by intro c hc; simp at hc; rcases hc with rfl | rfl <;> (try simp only) <;> omega)
        have P10 := P10.same hS (by intro c hc; simp at hc; rcases hc with rfl | rfl <;> (try simp only) <;> omega)
        have P11 := P11.same hS (by intro c hc; simp at hc; rcases hc with rfl | rfl <;> (try simp only) <;> omega)
        have P13 := P13.same hS (by intro c hc; simp at hc; rcases hc with rfl | rfl <;> (try simp only) <;> omega)
        have hso : ∀ c, Tag.so c ∈ [.q, .q, .so 0, .so 1] → w.heap.size ≤ (fun i => match i with | 0 => g0 + 1 + 1 + 1 + 1 | _ => g0 + 1 + 1 + 1 + 1 + 1) c := by intro c hc; simp at hc; rcases hc with rfl | rfl <;> (try simp only) <;> omega
        have EE := hide (hS.ext' EE.out hso)
        have P8 : Box W9 (g0 + 1 + 1 + 1 + 1) (sg n) (l0 n) (l1 n) (l2 n) (l3 n) := hI.olds' 2 (List.mem_range.2 (show 2 < 4 by decide)) 0 rfl
        have P9 : Box W9 (g0 + 1 + 1 + 1 + 1 + 1) (sg 1) (l0 1) (l1 1) (l2 1) (l3 1) := hI.olds' 3 (List.mem_range.2 (show 3 < 4 by decide)) 1 rfl
        clear hI hS
        simp only [putAll, slotV, ptrTo, Nat.zero_add, Nat.reduceAdd]
        go_wp2_with fail
        obtain ⟨xP80, xP81, xP82, xP83, xP84, xP8f0, xP8f1, xP8f2, xP8f3, xP8f4⟩ := five_cells P8; obtain ⟨xP90, xP91, xP92, xP93, xP94, xP9f0, xP9f1, xP9f2, xP9f3, xP9f4⟩ := five_cells P9
        exact bodyPost_ret (v := .tuple #[.agg #[.bool (sg n), .int .u64 (l0 n : Int), .int .u64 (l1 n : Int), .int .u64 (l2 n : Int), .int .u64 (l3 n : Int)], .agg #[.bool (sg 1), .int .u64 (l0 1 : Int), .int .u64 (l1 1 : Int), .int .u64 (l2 1 : Int), .int .u64 (l3 1 : Int)]]) (by simp [results, Try.results119, go_sem, xP80, xP81, xP82, xP83, xP84, xP90, xP91, xP92, xP93, xP94]) rfl ⟨rfl, EE.out⟩
    · have hr0 : a % b ≠ 0 := by rw [hr]; exact h0
      obtain ⟨u, hu⟩ : ∃ u, q + 1 = u := ⟨_, rfl⟩
      have fu : F256 u := by unfold F256; omega
      have f1 : F256 1 := by unfold F256; decide
      obtain ⟨v, hv⟩ : ∃ v, u * d = v := ⟨_, rfl⟩
      have fv : F256 v := by rw [← hv]; exact fbig u d (by omega) (by omega) (by omega) (by omega)
      obtain ⟨j, hj⟩ : ∃ j, cmpI v c = j := ⟨_, rfl⟩
      have hpos : v ≤ c ↔ a / b ≠ c / d := above_iff ha hb hd hle hr0 (by rw [hq]; exact hu) hv
      have kS : Hid (∀ w, Calls Try.prog 35 #[.agg #[.bool (sg r), .int .u64 (l0 r : Int), .int .u64 (l1 r : Int), .int .u64 (l2 r : Int), .int .u64 (l3 r : Int)]] w (Ret (.int .i64 1) w)) := fun w => d_sign fr (Int.sign_eq_one_of_pos (by omega)) w
      have kO : Hid (∀ w, Calls Try.prog 17 #[.int .i64 1] w (Ret (.agg #[.bool (sg 1), .int .u64 (l0 1 : Int), .int .u64 (l1 1 : Int), .int .u64 (l2 1 : Int), .int .u64 (l3 1 : Int)]) w)) := fun w => d_ofi (by omega) (by omega) w
      have kU : Hid (∀ w, Calls Try.prog 72 #[.agg #[.bool (sg q), .int .u64 (l0 q : Int), .int .u64 (l1 q : Int), .int .u64 (l2 q : Int), .int .u64 (l3 q : Int)], .agg #[.bool (sg 1), .int .u64 (l0 1 : Int), .int .u64 (l1 1 : Int), .int .u64 (l2 1 : Int), .int .u64 (l3 1 : Int)]] w (Ret (.tuple #[.agg #[.bool (sg u), .int .u64 (l0 u : Int), .int .u64 (l1 u : Int), .int .u64 (l2 u : Int), .int .u64 (l3 u : Int)], .bool true]) w)) := fun w => d_add fq f1 hu fu w
      have kM : Hid (∀ w, Calls Try.prog 33 #[.agg #[.bool (sg u), .int .u64 (l0 u : Int), .int .u64 (l1 u : Int), .int .u64 (l2 u : Int), .int .u64 (l3 u : Int)], .agg #[.bool (sg d), .int .u64 (l0 d : Int), .int .u64 (l1 d : Int), .int .u64 (l2 d : Int), .int .u64 (l3 d : Int)]] w (Ret (.tuple #[.agg #[.bool (sg v), .int .u64 (l0 v : Int), .int .u64 (l1 v : Int), .int .u64 (l2 v : Int), .int .u64 (l3 v : Int)], .bool true]) w)) := fun w => d_mul fu fd hv fv w
      have kC : Hid (∀ w, Calls Try.prog 59 #[.agg #[.bool (sg v), .int .u64 (l0 v : Int), .int .u64 (l1 v : Int), .int .u64 (l2 v : Int), .int .u64 (l3 v : Int)], .agg #[.bool (sg c), .int .u64 (l0 c : Int), .int .u64 (l1 c : Int), .int .u64 (l2 c : Int), .int .u64 (l3 c : Int)]] w (Ret (.int .i64 j) w)) := fun w => d_cmp fv fc hj w
      by_cases h1 : q = c / d
      · have hqp : a / b = c / d := by rw [hq]; exact h1
        have hvc : ¬ v ≤ c := fun e => hpos.1 e hqp
        have hj0 : ¬ j ≤ 0 := by
          intro e
          rcases Int.lt_or_eq_of_le e with h | h
          · have := (cmpI_lt hj).1.1 h; omega
          · have := (cmpI_lt hj).2.1.1 h; omega
        obtain ⟨t, ht⟩ : ∃ q, c % d = q := ⟨_, rfl⟩
        obtain ⟨z1, z2, t1, td, hl⟩ := rest_ways ha hb hd hle hr0 hqp
        rw [hr, ht] at hl
        rw [ht] at t1 td
        have ft : F256 t := f256_of (by omega)
        obtain ⟨g, hg⟩ : ∃ g, q * d = g := ⟨_, rfl⟩
        have hgc : c - g = t := by
          have e := Int.emod_add_mul_ediv c d
          rw [← h1, ht, Int.mul_comm d q, hg] at e
          omega
        have fg : F256 g := by rw [← hg]; exact fbig q d (by omega) (by omega) (by omega) (by omega)
        obtain ⟨n', m', B'⟩ := best_some (a := d) (b := t) (c := b) (d := r) t1 (by omega) hl
        have BS' := (B'.small t1 (by omega) hl).1
        have n'0 := B'.pos hd t1
        have m'0 := B'.1
        obtain ⟨en, em⟩ := Best.unique hb hd B (best_rec ha hb hd hr0 (by rw [ht]; exact t1) hqp (by rw [hr, ht]; exact B'))
        rw [hq] at en
        subst em
        obtain ⟨p, hp⟩ : ∃ v, q * m = v := ⟨_, rfl⟩
        rw [hp] at en
        have p0 : 0 ≤ p := by rw [← hp]; exact Int.mul_nonneg q0 (by omega)
        have fp : F256 p := f256_of (by omega)
        have fm : F256 m := f256_of (by omega)
        have fm' : F256 m' := f256_of (by omega)
        have fn : F256 n := f256_of (by omega)
        have kG : Hid (∀ w, Calls Try.prog 33 #[.agg #[.bool (sg q), .int .u64 (l0 q : Int), .int .u64 (l1 q : Int), .int .u64 (l2 q : Int), .int .u64 (l3 q : Int)], .agg #[.bool (sg d), .int .u64 (l0 d : Int), .int .u64 (l1 d : Int), .int .u64 (l2 d : Int), .int .u64 (l3 d : Int)]] w (Ret (.tuple #[.agg #[.bool (sg g), .int .u64 (l0 g : Int), .int .u64 (l1 g : Int), .int .u64 (l2 g : Int), .int .u64 (l3 g : Int)], .bool true]) w)) := fun w => d_mul fq fd hg fg w
        have kT : Hid (∀ w, Calls Try.prog 145 #[.agg #[.bool (sg c), .int .u64 (l0 c : Int), .int .u64 (l1 c : Int), .int .u64 (l2 c : Int), .int .u64 (l3 c : Int)], .agg #[.bool (sg g), .int .u64 (l0 g : Int), .int .u64 (l1 g : Int), .int .u64 (l2 g : Int), .int .u64 (l3 g : Int)]] w (Ret (.tuple #[.agg #[.bool (sg t), .int .u64 (l0 t : Int), .int .u64 (l1 t : Int), .int .u64 (l2 t : Int), .int .u64 (l3 t : Int)], .bool true]) w)) := fun w => d_sub fc fg hgc ft w
        have kR : Hid (∀ w, Calls Try.prog 119 #[.agg #[.bool (sg d), .int .u64 (l0 d : Int), .int .u64 (l1 d : Int), .int .u64 (l2 d : Int), .int .u64 (l3 d : Int)], .agg #[.bool (sg t), .int .u64 (l0 t : Int), .int .u64 (l1 t : Int), .int .u64 (l2 t : Int), .int .u64 (l3 t : Int)], .agg #[.bool (sg b), .int .u64 (l0 b : Int), .int .u64 (l1 b : Int), .int .u64 (l2 b : Int), .int .u64 (l3 b : Int)], .agg #[.bool (sg r), .int .u64 (l0 r : Int), .int .u64 (l1 r : Int), .int .u64 (l2 r : Int), .int .u64 (l3 r : Int)]] w (Ret (.tuple #[.agg #[.bool (sg m), .int .u64 (l0 m : Int), .int .u64 (l1 m : Int), .int .u64 (l2 m : Int), .int .u64 (l3 m : Int)], .agg #[.bool (sg m'), .int .u64 (l0 m' : Int), .int .u64 (l1 m' : Int), .int .u64 (l2 m' : Int), .int .u64 (l3 m' : Int)]]) w)) := fun w => q_pos k d t b r m m' (by omega) hd t1 (by omega) hl sd (by omega) sb (by omega) B' w
        have kP : Hid (∀ w, Calls Try.prog 33 #[.agg #[.bool (sg q), .int .u64 (l0 q : Int), .int .u64 (l1 q : Int), .int .u64 (l2 q : Int), .int .u64 (l3 q : Int)], .agg #[.bool (sg m), .int .u64 (l0 m : Int), .int .u64 (l1 m : Int), .int .u64 (l2 m : Int), .int .u64 (l3 m : Int)]] w (Ret (.tuple #[.agg #[.bool (sg p), .int .u64 (l0 p : Int), .int .u64 (l1 p : Int), .int .u64 (l2 p : Int), .int .u64 (l3 p : Int)], .bool true]) w)) := fun w => d_mul fq fm hp fp w
        have kN : Hid (∀ w, Calls Try.prog 72 #[.agg #[.bool (sg p), .int .u64 (l0 p : Int), .int .u64 (l1 p : Int), .int .u64 (l2 p : Int), .int .u64 (l3 p : Int)], .agg #[.bool (sg m'), .int .u64 (l0 m' : Int), .int .u64 (l1 m' : Int), .int .u64 (l2 m' : Int), .int .u64 (l3 m' : Int)]] w (Ret (.tuple #[.agg #[.bool (sg n), .int .u64 (l0 n : Int), .int .u64 (l1 n : Int), .int .u64 (l2 n : Int), .int .u64 (l3 n : Int)], .bool true]) w)) := fun w => d_add fp fm' en.symm fn w
        clear hq hr q0 qa r0 rb fa fb fc fd fq fr BS n0 m0 c0 fbig hk ha hb hd hle sa sb sc sd B z1 z2 hr0 h0 h1 hpos hqp hvc t1 td hl ft hg hgc fg B' BS' n'0 m'0 en hp p0 fp fm fm' fn hu fu f1 hv fv hj ht
        obtain ⟨W0, hW0⟩ : ∃ W0, W0 = ((((((w.alloc (.cells #[.bool (sg a), .int .u64 (l0 a : Int), .int .u64 (l1 a : Int), .int .u64 (l2 a : Int), .int .u64 (l3 a : Int)] 25)).alloc (.cells #[.bool (sg b), .int .u64 (l0 b : Int), .int .u64 (l1 b : Int), .int .u64 (l2 b : Int), .int .u64 (l3 b : Int)] 25)).alloc (.cells #[.bool (sg c), .int .u64 (l0 c : Int), .int .u64 (l1 c : Int), .int .u64 (l2 c : Int), .int .u64 (l3 c : Int)] 25)).alloc (.cells #[.bool (sg d), .int .u64 (l0 d : Int), .int .u64 (l1 d : Int), .int .u64 (l2 d : Int), .int .u64 (l3 d : Int)] 25)).alloc (.cells #[.bool false, .int .u64 0, .int .u64 0, .int .u64 0, .int .u64 0] 25)).alloc (.cells #[.bool false, .int .u64 0, .int .u64 0, .int .u64 0, .int .u64 0] 25)) := ⟨_, rfl⟩
        have H2 := six_objs w (.cells #[.bool (sg a), .int .u64 (l0 a : Int), .int .u64 (l1 a : Int), .int .u64 (l2 a : Int), .int .u64 (l3 a : Int)] 25) (.cells #[.bool (sg b), .int .u64 (l0 b : Int), .int .u64 (l1 b : Int), .int .u64 (l2 b : Int), .int .u64 (l3 b : Int)] 25) (.cells #[.bool (sg c), .int .u64 (l0 c : Int), .int .u64 (l1 c : Int), .int .u64 (l2 c : Int), .int .u64 (l3 c : Int)] 25) (.cells #[.bool (sg d), .int .u64 (l0 d : Int), .int .u64 (l1 d : Int), .int .u64 (l2 d : Int), .int .u64 (l3 d : Int)] 25) (.cells #[.bool false, .int .u64 0, .int .u64 0, .int .u64 0, .int .u64 0] 25) (.cells #[.bool false, .int .u64 0, .int .u64 0, .int .u64 0, .int .u64 0] 25)
        have EE0 : Ext w W0 := by rw [hW0]; exact ((((((ext_alloc _ _).trans (ext_alloc _ _)).trans (ext_alloc _ _)).trans (ext_alloc _ _)).trans (ext_alloc _ _)).trans (ext_alloc _ _))
        rw [← hW0] at H2
        have EE := hide EE0
        have HW := hide hW0
        obtain ⟨P4, P5, P6, P7, P8, P9⟩ : Box W0 (w.heap.size) (sg a) (l0 a) (l1 a) (l2 a) (l3 a) ∧ Box W0 ((w.heap.size + 1)) (sg b) (l0 b) (l1 b) (l2 b) (l3 b) ∧ Box W0 ((w.heap.size + 1 + 1)) (sg c) (l0 c) (l1 c) (l2 c) (l3 c) ∧ Box W0 ((w.heap.size + 1 + 1 + 1)) (sg d) (l0 d) (l1 d) (l2 d) (l3 d) ∧ Box W0 ((w.heap.size + 1 + 1 + 1 + 1)) false 0 0 0 0 ∧ Box W0 ((w.heap.size + 1 + 1 + 1 + 1 + 1)) false 0 0 0 0 := H2
        clear hW0 EE0
        go_enter Try.func119, Try.ntmps119
        go_upto_region 1 with fail
        rw [← HW.out]
        clear HW
        have hg0 : w.heap.size ≤ w.heap.size := Nat.le_refl _
        obtain ⟨g0, hg⟩ : ∃ g, w.heap.size = g := ⟨_, rfl⟩
        rw [hg] at P4 P5 P6 P7 P8 P9 ⊢
        replace hg0 : w.heap.size ≤ g0 := Nat.le_of_eq hg
        clear hg
        obtain ⟨xP40, xP41, xP42, xP43, xP44, -⟩ := five_cells P4; obtain ⟨xP50, xP51, xP52, xP53, xP54, -⟩ := five_cells P5
        go_upto_region 2 with (go_at_call 34; (with_reducible refine (kD.out _).mono ?_); rintro e w1 ⟨rfl, hE⟩; clear xP40 xP41 xP42 xP43 xP44 xP50 xP51 xP52 xP53 xP54; have P4 := P4.ext hE; have P5 := P5.ext hE; have P6 := P6.ext hE; have P7 := P7.ext hE; have P8 := P8.ext hE; have P9 := P9.ext hE; have EE := hide (EE.out.trans hE); clear hE; obtain ⟨xP40, xP41, xP42, xP43, xP44, -⟩ := five_cells P4; obtain ⟨xP50, xP51, xP52, xP53, xP54, -⟩ := five_cells P5)
        clear xP40 xP41 xP42 xP43 xP44 xP50 xP51 xP52 xP53 xP54
        have H2 := two_blocks w1 (.cells #[.bool (sg q), .int .u64 (l0 q : Int), .int .u64 (l1 q : Int), .int .u64 (l2 q : Int), .int .u64 (l3 q : Int)] 25) (.cells #[.bool (sg r), .int .u64 (l0 r : Int), .int .u64 (l1 r : Int), .int .u64 (l2 r : Int), .int .u64 (l3 r : Int)] 25)
        have lP4 := P4.lt
        have lP5 := P5.lt
        have lP6 := P6.lt
        have lP7 := P7.lt
        have lP8 := P8.lt
        have lP9 := P9.lt
        have hE := ((ext_alloc w1 (.cells #[.bool (sg q), .int .u64 (l0 q : Int), .int .u64 (l1 q : Int), .int .u64 (l2 q : Int), .int .u64 (l3 q : Int)] 25)).trans (ext_alloc _ (.cells #[.bool (sg r), .int .u64 (l0 r : Int), .int .u64 (l1 r : Int), .int .u64 (l2 r : Int), .int .u64 (l3 r : Int)] 25)))
        have P4 := P4.ext hE
        have P5 := P5.ext hE
        have P6 := P6.ext hE
        have P7 := P7.ext hE
        have P8 := P8.ext hE
        have P9 := P9.ext hE
        have EE := hide (EE.out.trans hE)
        clear hE
        obtain ⟨W2, hW⟩ : ∃ W, W = ((w1.alloc (.cells #[.bool (sg q), .int .u64 (l0 q : Int), .int .u64 (l1 q : Int), .int .u64 (l2 q : Int), .int .u64 (l3 q : Int)] 25)).alloc (.cells #[.bool (sg r), .int .u64 (l0 r : Int), .int .u64 (l1 r : Int), .int .u64 (l2 r : Int), .int .u64 (l3 r : Int)] 25)) := ⟨_, rfl⟩
        rw [← hW] at H2 EE P4 P5 P6 P7 P8 P9 ⊢
        obtain ⟨g3, hg⟩ : ∃ g, w1.heap.size = g := ⟨_, rfl⟩
        rw [hg] at H2 lP4 lP5 lP6 lP7 lP8 lP9 ⊢
        obtain ⟨P10, P11⟩ : Box W2 g3 (sg q) (l0 q) (l1 q) (l2 q) (l3 q) ∧ Box W2 (g3 + 1) (sg r) (l0 r) (l1 r) (l2 r) (l3 r) := H2
        clear hW hg
        have ngP4P10 : g0 ≠ g3 := by omega
        have ngP4P11 : g0 ≠ g3 + 1 := by omega
        have ngP5P10 : g0 + 1 ≠ g3 := by omega
        have ngP5P11 : g0 + 1 ≠ g3 + 1 := by omega
        have ngP6P10 : g0 + 1 + 1 ≠ g3 := by omega
        have ngP6P11 : g0 + 1 + 1 ≠ g3 + 1 := by omega
        have ngP7P10 : g0 + 1 + 1 + 1 ≠ g3 := by omega
        have ngP7P11 : g0 + 1 + 1 + 1 ≠ g3 + 1 := by omega
        have ngP8P10 : g0 + 1 + 1 + 1 + 1 ≠ g3 := by omega
        have ngP8P11 : g0 + 1 + 1 + 1 + 1 ≠ g3 + 1 := by omega
        have ngP9P10 : g0 + 1 + 1 + 1 + 1 + 1 ≠ g3 := by omega
        have ngP9P11 : g0 + 1 + 1 + 1 + 1 + 1 ≠ g3 + 1 := by omega
        obtain ⟨xP110, xP111, xP112, xP113, xP114, -⟩ := five_cells P11
        go_upto_region 3 with (go_at_call 35; (with_reducible refine (kS.out _).mono ?_); rintro e w4 ⟨rfl, hE⟩; clear xP110 xP111 xP112 xP113 xP114; have P4 := P4.ext hE; have P5 := P5.ext hE; have P6 := P6.ext hE; have P7 := P7.ext hE; have P8 := P8.ext hE; have P9 := P9.ext hE; have P10 := P10.ext hE; have P11 := P11.ext hE; have EE := hide (EE.out.trans hE); clear hE; obtain ⟨xP110, xP111, xP112, xP113, xP114, -⟩ := five_cells P11)
        clear xP110 xP111 xP112 xP113 xP114
        have lbP4 := P4.lt
        have lbP5 := P5.lt
        have lbP6 := P6.lt
        have lbP7 := P7.lt
        have lbP8 := P8.lt
        have lbP9 := P9.lt
        have lbP10 := P10.lt
        have lbP11 := P11.lt
        have ltW0 : ∀ c, Tag.so c ∈ [.q, .q, .q, .q, .q, .q, .so 0] → (fun _ => g3) c < w4.heap.size := by intro c hc; simp at hc; (try subst hc); (try simp only); omega
        refine wp_decl [.q, .q, .q, .q, .q, .q, .so 0] [.agg #[.bool (sg q), .int .u64 (l0 q : Int), .int .u64 (l1 q : Int), .int .u64 (l2 q : Int), .int .u64 (l3 q : Int)], .agg #[.bool (sg 1), .int .u64 (l0 1 : Int), .int .u64 (l1 1 : Int), .int .u64 (l2 1 : Int), .int .u64 (l3 1 : Int)], .tuple #[.agg #[.bool (sg u), .int .u64 (l0 u : Int), .int .u64 (l1 u : Int), .int .u64 (l2 u : Int), .int .u64 (l3 u : Int)], .bool true], .tuple #[.agg #[.bool (sg u), .int .u64 (l0 u : Int), .int .u64 (l1 u : Int), .int .u64 (l2 u : Int), .int .u64 (l3 u : Int)], .bool true], .agg #[.bool (sg u), .int .u64 (l0 u : Int), .int .u64 (l1 u : Int), .int .u64 (l2 u : Int), .int .u64 (l3 u : Int)], .bool true, undef] (fun _ => (.cells #[.bool false, .int .u64 0, .int .u64 0, .int .u64 0, .int .u64 0] 25 (0, 0))) (fun _ => (.cells #[.bool (sg u), .int .u64 (l0 u : Int), .int .u64 (l1 u : Int), .int .u64 (l2 u : Int), .int .u64 (l3 u : Int)] 25 (0, 0))) (fun _ => g3) (by kernel_rfl) (by kernel_rfl) (by kernel_rfl) rfl rfl ltW0 (by intro c c' h1 h2 _; simp at h1 h2; omega) ?_ ?_
        · refine ⟨?_, ?_, ?_, ?_, ?_, ?_, ?_, trivial⟩
          · refine op_qa ?uvn7 ?h1n7 ?h2n7 ?h3n7
            case h1n7 => exact rfl
            case uvn7 => exact (.agg #[.bool (sg q), .int .u64 (l0 q : Int), .int .u64 (l1 q : Int), .int .u64 (l2 q : Int), .int .u64 (l3 q : Int)])
            case h2n7 => exact rfl
            intro w' hw' ha
            have P10 : Box w' g3 (sg q) (l0 q) (l1 q) (l2 q) (l3 q) := (ha 6 0 rfl (by kernel_rfl)).trans P10
            have xP10 := five_cells P10
            go_simp
          · refine op_q ?uvn8 ?h1n8 ?h2n8 ?h3n8
            case h1n8 => exact rfl
            case uvn8 => exact (.agg #[.bool (sg 1), .int .u64 (l0 1 : Int), .int .u64 (l1 1 : Int), .int .u64 (l2 1 : Int), .int .u64 (l3 1 : Int)])
            case h2n8 => exact rfl
            intro w' hw'
            go_simp
            exact kO.out w'
          · refine op_q ?uvn9 ?h1n9 ?h2n9 ?h3n9
            case h1n9 => exact rfl
            case uvn9 => exact (.tuple #[.agg #[.bool (sg u), .int .u64 (l0 u : Int), .int .u64 (l1 u : Int), .int .u64 (l2 u : Int), .int .u64 (l3 u : Int)], .bool true])
            case h2n9 => exact rfl
            intro w' hw'
            go_simp
            exact kU.out w'
          · refine op_q ?uvn10 ?h1n10 ?h2n10 ?h3n10
            case h1n10 => exact rfl
            case uvn10 => exact (.tuple #[.agg #[.bool (sg u), .int .u64 (l0 u : Int), .int .u64 (l1 u : Int), .int .u64 (l2 u : Int), .int .u64 (l3 u : Int)], .bool true])
            case h2n10 => exact rfl
            intro w' hw'
            go_simp
          · refine op_q ?uvn11 ?h1n11 ?h2n11 ?h3n11
            case h1n11 => exact rfl
            case uvn11 => exact (.agg #[.bool (sg u), .int .u64 (l0 u : Int), .int .u64 (l1 u : Int), .int .u64 (l2 u : Int), .int .u64 (l3 u : Int)])
            case h2n11 => exact rfl
            intro w' hw'
            go_simp
          · refine op_q ?uvn12 ?h1n12 ?h2n12 ?h3n12
            case h1n12 => exact rfl
            case uvn12 => exact (.bool true)
            case h2n12 => exact rfl
            intro w' hw'
            go_simp
          · refine op_so (c := 0) (T := ?uTn13) (p := ?upn13) (x := ?uxn13) ?ugn13 ?ufn13 ?uvn13 ?h1n13 ?h2n13 ?h3n13 ?h4n13 ?h5n13 ?h6n13 ?h7n13
            case h1n13 => exact rfl
            case h2n13 => exact rfl
            case ufn13 => exact (.cells #[.bool (sg u), .int .u64 (l0 u : Int), .int .u64 (l1 u : Int), .int .u64 (l2 u : Int), .int .u64 (l3 u : Int)] 25 (0, 0))
            case ugn13 => exact g3
            case uvn13 => exact (.agg #[.bool (sg u), .int .u64 (l0 u : Int), .int .u64 (l1 u : Int), .int .u64 (l2 u : Int), .int .u64 (l3 u : Int)])
            case h3n13 => exact rfl
            case h4n13 => exact rfl
            case h5n13 => go_simp; rfl
            case h6n13 => go_simp
            intro ρ w' hp hx hz
            exact store_wide rfl hp hx (hz.trans P10)
        · intro G W5 hI
          have hS := hI.same
          have P4 := P4.same hS (by intro c hc; simp at hc; (try subst hc); (try simp only); omega)
          have P5 := P5.same hS (by intro c hc; simp at hc; (try subst hc); (try simp only); omega)
          have P6 := P6.same hS (by intro c hc; simp at hc; (try subst hc); (try simp only); omega)
          have P7 := P7.same hS (by intro c hc; simp at hc; (try subst hc); (try simp only); omega)
          have P8 := P8.same hS (by intro c hc; simp at hc; (try subst hc); (try simp only); omega)
          have P9 := P9.same hS (by intro c hc; simp at hc; (try subst hc); (try simp only); omega)
          have P11 := P11.same hS (by intro c hc; simp at hc; (try subst hc); (try simp only); omega)
          have hso : ∀ c, Tag.so c ∈ [.q, .q, .q, .q, .q, .q, .so 0] → w.heap.size ≤ (fun _ => g3) c := by intro c hc; simp at hc; (try subst hc); (try simp only); omega
          have EE := hide (hS.ext' EE.out hso)
          have P10 : Box W5 g3 (sg u) (l0 u) (l1 u) (l2 u) (l3 u) := hI.olds' 6 (List.mem_range.2 (show 6 < 7 by decide)) 0 rfl
          clear hI hS
          simp only [putAll, slotV, ptrTo, Nat.zero_add, Nat.reduceAdd]
          go_upto_region 4 with fail
          obtain ⟨xP70, xP71, xP72, xP73, xP74, -⟩ := five_cells P7; obtain ⟨xP100, xP101, xP102, xP103, xP104, -⟩ := five_cells P10
          go_upto_region 5 with (go_at_call 33; (with_reducible refine (kM.out _).mono ?_); rintro e w6 ⟨rfl, hE⟩; clear xP70 xP71 xP72 xP73 xP74 xP100 xP101 xP102 xP103 xP104; have P4 := P4.ext hE; have P5 := P5.ext hE; have P6 := P6.ext hE; have P7 := P7.ext hE; have P8 := P8.ext hE; have P9 := P9.ext hE; have P10 := P10.ext hE; have P11 := P11.ext hE; have EE := hide (EE.out.trans hE); clear hE; obtain ⟨xP70, xP71, xP72, xP73, xP74, -⟩ := five_cells P7; obtain ⟨xP100, xP101, xP102, xP103, xP104, -⟩ := five_cells P10)
          clear xP70 xP71 xP72 xP73 xP74 xP100 xP101 xP102 xP103 xP104
          have H2 := heap_alloc_new w6 (.cells #[.bool (sg v), .int .u64 (l0 v : Int), .int .u64 (l1 v : Int), .int .u64 (l2 v : Int), .int .u64 (l3 v : Int)] 25)
          have lP4 := P4.lt
          have lP5 := P5.lt
          have lP6 := P6.lt
          have lP7 := P7.lt
          have lP8 := P8.lt
          have lP9 := P9.lt
          have lP10 := P10.lt
          have lP11 := P11.lt
          have hE := (ext_alloc w6 (.cells #[.bool (sg v), .int .u64 (l0 v : Int), .int .u64 (l1 v : Int), .int .u64 (l2 v : Int), .int .u64 (l3 v : Int)] 25))
          have P4 := P4.ext hE
          have P5 := P5.ext hE
          have P6 := P6.ext hE
          have P7 := P7.ext hE
          have P8 := P8.ext hE
          have P9 := P9.ext hE
          have P10 := P10.ext hE
          have P11 := P11.ext hE
          have EE := hide (EE.out.trans hE)
          clear hE
          obtain ⟨W7, hW⟩ : ∃ W, W = (w6.alloc (.cells #[.bool (sg v), .int .u64 (l0 v : Int), .int .u64 (l1 v : Int), .int .u64 (l2 v : Int), .int .u64 (l3 v : Int)] 25)) := ⟨_, rfl⟩
          rw [← hW] at H2 EE P4 P5 P6 P7 P8 P9 P10 P11 ⊢
          obtain ⟨g8, hg⟩ : ∃ g, w6.heap.size = g := ⟨_, rfl⟩
          rw [hg] at H2 lP4 lP5 lP6 lP7 lP8 lP9 lP10 lP11 ⊢
          have P13 : Box W7 g8 (sg v) (l0 v) (l1 v) (l2 v) (l3 v) := H2
          clear hW hg
          have ngP4P13 : g0 ≠ g8 := by omega
          have ngP5P13 : g0 + 1 ≠ g8 := by omega
          have ngP6P13 : g0 + 1 + 1 ≠ g8 := by omega
          have ngP7P13 : g0 + 1 + 1 + 1 ≠ g8 := by omega
          have ngP8P13 : g0 + 1 + 1 + 1 + 1 ≠ g8 := by omega
          have ngP9P13 : g0 + 1 + 1 + 1 + 1 + 1 ≠ g8 := by omega
          have ngP10P13 : g3 ≠ g8 := by omega
          have ngP11P13 : g3 + 1 ≠ g8 := by omega
          obtain ⟨xP60, xP61, xP62, xP63, xP64, -⟩ := five_cells P6; obtain ⟨xP130, xP131, xP132, xP133, xP134, -⟩ := five_cells P13
          go_upto_region 7 with (go_at_call 59; (with_reducible refine (kC.out _).mono ?_); rintro e w9 ⟨rfl, hE⟩; clear xP60 xP61 xP62 xP63 xP64 xP130 xP131 xP132 xP133 xP134; have P4 := P4.ext hE; have P5 := P5.ext hE; have P6 := P6.ext hE; have P7 := P7.ext hE; have P8 := P8.ext hE; have P9 := P9.ext hE; have P10 := P10.ext hE; have P11 := P11.ext hE; have P13 := P13.ext hE; have EE := hide (EE.out.trans hE); clear hE; obtain ⟨xP60, xP61, xP62, xP63, xP64, -⟩ := five_cells P6; obtain ⟨xP130, xP131, xP132, xP133, xP134, -⟩ := five_cells P13)
          clear xP60 xP61 xP62 xP63 xP64 xP130 xP131 xP132 xP133 xP134
          obtain ⟨xP40, xP41, xP42, xP43, xP44, -⟩ := five_cells P4; obtain ⟨xP50, xP51, xP52, xP53, xP54, -⟩ := five_cells P5
          go_upto_region 8 with (go_at_call 34; (with_reducible refine (kD.out _).mono ?_); rintro e w10 ⟨rfl, hE⟩; clear xP40 xP41 xP42 xP43 xP44 xP50 xP51 xP52 xP53 xP54; have P4 := P4.ext hE; have P5 := P5.ext hE; have P6 := P6.ext hE; have P7 := P7.ext hE; have P8 := P8.ext hE; have P9 := P9.ext hE; have P10 := P10.ext hE; have P11 := P11.ext hE; have P13 := P13.ext hE; have EE := hide (EE.out.trans hE); clear hE; obtain ⟨xP40, xP41, xP42, xP43, xP44, -⟩ := five_cells P4; obtain ⟨xP50, xP51, xP52, xP53, xP54, -⟩ := five_cells P5)
          clear xP40 xP41 xP42 xP43 xP44 xP50 xP51 xP52 xP53 xP54
          have H2 := two_blocks w10 (.cells #[.bool (sg q), .int .u64 (l0 q : Int), .int .u64 (l1 q : Int), .int .u64 (l2 q : Int), .int .u64 (l3 q : Int)] 25) (.cells #[.bool (sg r), .int .u64 (l0 r : Int), .int .u64 (l1 r : Int), .int .u64 (l2 r : Int), .int .u64 (l3 r : Int)] 25)
          have lP4 := P4.lt
          have lP5 := P5.lt
          have lP6 := P6.lt
          have lP7 := P7.lt
          have lP8 := P8.lt
          have lP9 := P9.lt
          have lP10 := P10.lt
          have lP11 := P11.lt
          have lP13 := P13.lt
          have hE := ((ext_alloc w10 (.cells #[.bool (sg q), .int .u64 (l0 q : Int), .int .u64 (l1 q : Int), .int .u64 (l2 q : Int), .int .u64 (l3 q : Int)] 25)).trans (ext_alloc _ (.cells #[.bool (sg r), .int .u64 (l0 r : Int), .int .u64 (l1 r : Int), .int .u64 (l2 r : Int), .int .u64 (l3 r : Int)] 25)))
          have P4 := P4.ext hE
          have P5 := P5.ext hE
          have P6 := P6.ext hE
          have P7 := P7.ext hE
          have P8 := P8.ext hE
          have P9 := P9.ext hE
          have P10 := P10.ext hE
          have P11 := P11.ext hE
          have P13 := P13.ext hE
          have EE := hide (EE.out.trans hE)
          clear hE
          obtain ⟨W11, hW⟩ : ∃ W, W = ((w10.alloc (.cells #[.bool (sg q), .int .u64 (l0 q : Int), .int .u64 (l1 q : Int), .int .u64 (l2 q : Int), .int .u64 (l3 q : Int)] 25)).alloc (.cells #[.bool (sg r), .int .u64 (l0 r : Int), .int .u64 (l1 r : Int), .int .u64 (l2 r : Int), .int .u64 (l3 r : Int)] 25)) := ⟨_, rfl⟩
          rw [← hW] at H2 EE P4 P5 P6 P7 P8 P9 P10 P11 P13 ⊢
          obtain ⟨g12, hg⟩ : ∃ g, w10.heap.size = g := ⟨_, rfl⟩
          rw [hg] at H2 lP4 lP5 lP6 lP7 lP8 lP9 lP10 lP11 lP13 ⊢
          obtain ⟨P15, P16⟩ : Box W11 g12 (sg q) (l0 q) (l1 q) (l2 q) (l3 q) ∧ Box W11 (g12 + 1) (sg r) (l0 r) (l1 r) (l2 r) (l3 r) := H2
          clear hW hg
          have ngP4P15 : g0 ≠ g12 := by omega
          have ngP4P16 : g0 ≠ g12 + 1 := by omega
          have ngP5P15 : g0 + 1 ≠ g12 := by omega
          have ngP5P16 : g0 + 1 ≠ g12 + 1 := by omega
          have ngP6P15 : g0 + 1 + 1 ≠ g12 := by omega
          have ngP6P16 : g0 + 1 + 1 ≠ g12 + 1 := by omega
          have ngP7P15 : g0 + 1 + 1 + 1 ≠ g12 := by omega
          have ngP7P16 : g0 + 1 + 1 + 1 ≠ g12 + 1 := by omega
          have ngP8P15 : g0 + 1 + 1 + 1 + 1 ≠ g12 := by omega
          have ngP8P16 : g0 + 1 + 1 + 1 + 1 ≠ g12 + 1 := by omega
          have ngP9P15 : g0 + 1 + 1 + 1 + 1 + 1 ≠ g12 := by omega
          have ngP9P16 : g0 + 1 + 1 + 1 + 1 + 1 ≠ g12 + 1 := by omega
          have ngP10P15 : g3 ≠ g12 := by omega
          have ngP10P16 : g3 ≠ g12 + 1 := by omega
          have ngP11P15 : g3 + 1 ≠ g12 := by omega
          have ngP11P16 : g3 + 1 ≠ g12 + 1 := by omega
          have ngP13P15 : g8 ≠ g12 := by omega
          have ngP13P16 : g8 ≠ g12 + 1 := by omega
          obtain ⟨xP70, xP71, xP72, xP73, xP74, -⟩ := five_cells P7; obtain ⟨xP150, xP151, xP152, xP153, xP154, -⟩ := five_cells P15
          go_upto_region 9 with (go_at_call 33; (with_reducible refine (kG.out _).mono ?_); rintro e w13 ⟨rfl, hE⟩; clear xP70 xP71 xP72 xP73 xP74 xP150 xP151 xP152 xP153 xP154; have P4 := P4.ext hE; have P5 := P5.ext hE; have P6 := P6.ext hE; have P7 := P7.ext hE; have P8 := P8.ext hE; have P9 := P9.ext hE; have P10 := P10.ext hE; have P11 := P11.ext hE; have P13 := P13.ext hE; have P15 := P15.ext hE; have P16 := P16.ext hE; have EE := hide (EE.out.trans hE); clear hE; obtain ⟨xP70, xP71, xP72, xP73, xP74, -⟩ := five_cells P7; obtain ⟨xP150, xP151, xP152, xP153, xP154, -⟩ := five_cells P15)
          clear xP70 xP71 xP72 xP73 xP74 xP150 xP151 xP152 xP153 xP154
          have H2 := heap_alloc_new w13 (.cells #[.bool (sg g), .int .u64 (l0 g : Int), .int .u64 (l1 g : Int), .int .u64 (l2 g : Int), .int .u64 (l3 g : Int)] 25)
          have lP4 := P4.lt
          have lP5 := P5.lt
          have lP6 := P6.lt
          have lP7 := P7.lt
          have lP8 := P8.lt
          have lP9 := P9.lt
          have lP10 := P10.lt
          have lP11 := P11.lt
          have lP13 := P13.lt
          have lP15 := P15.lt
          have lP16 := P16.lt
          have hE := (ext_alloc w13 (.cells #[.bool (sg g), .int .u64 (l0 g : Int), .int .u64 (l1 g : Int), .int .u64 (l2 g : Int), .int .u64 (l3 g : Int)] 25))
          have P4 := P4.ext hE
          have P5 := P5.ext hE
          have P6 := P6.ext hE
          have P7 := P7.ext hE
          have P8 := P8.ext hE
          have P9 := P9.ext hE
          have P10 := P10.ext hE
          have P11 := P11.ext hE
          have P13 := P13.ext hE
          have P15 := P15.ext hE
          have P16 := P16.ext hE
          have EE := hide (EE.out.trans hE)
          clear hE
          obtain ⟨W14, hW⟩ : ∃ W, W = (w13.alloc (.cells #[.bool (sg g), .int .u64 (l0 g : Int), .int .u64 (l1 g : Int), .int .u64 (l2 g : Int), .int .u64 (l3 g : Int)] 25)) := ⟨_, rfl⟩
          rw [← hW] at H2 EE P4 P5 P6 P7 P8 P9 P10 P11 P13 P15 P16 ⊢
          obtain ⟨g15, hg⟩ : ∃ g, w13.heap.size = g := ⟨_, rfl⟩
          rw [hg] at H2 lP4 lP5 lP6 lP7 lP8 lP9 lP10 lP11 lP13 lP15 lP16 ⊢
          have P18 : Box W14 g15 (sg g) (l0 g) (l1 g) (l2 g) (l3 g) := H2
          clear hW hg
          have ngP4P18 : g0 ≠ g15 := by omega
          have ngP5P18 : g0 + 1 ≠ g15 := by omega
          have ngP6P18 : g0 + 1 + 1 ≠ g15 := by omega
          have ngP7P18 : g0 + 1 + 1 + 1 ≠ g15 := by omega
          have ngP8P18 : g0 + 1 + 1 + 1 + 1 ≠ g15 := by omega
          have ngP9P18 : g0 + 1 + 1 + 1 + 1 + 1 ≠ g15 := by omega
          have ngP10P18 : g3 ≠ g15 := by omega
          have ngP11P18 : g3 + 1 ≠ g15 := by omega
          have ngP13P18 : g8 ≠ g15 := by omega
          have ngP15P18 : g12 ≠ g15 := by omega
          have ngP16P18 : g12 + 1 ≠ g15 := by omega
          obtain ⟨xP60, xP61, xP62, xP63, xP64, -⟩ := five_cells P6; obtain ⟨xP180, xP181, xP182, xP183, xP184, -⟩ := five_cells P18
          go_upto_region 10 with (go_at_call 145; (with_reducible refine (kT.out _).mono ?_); rintro e w16 ⟨rfl, hE⟩; clear xP60 xP61 xP62 xP63 xP64 xP180 xP181 xP182 xP183 xP184; have P4 := P4.ext hE; have P5 := P5.ext hE; have P6 := P6.ext hE; have P7 := P7.ext hE; have P8 := P8.ext hE; have P9 := P9.ext hE; have P10 := P10.ext hE; have P11 := P11.ext hE; have P13 := P13.ext hE; have P15 := P15.ext hE; have P16 := P16.ext hE; have P18 := P18.ext hE; have EE := hide (EE.out.trans hE); clear hE; obtain ⟨xP60, xP61, xP62, xP63, xP64, -⟩ := five_cells P6; obtain ⟨xP180, xP181, xP182, xP183, xP184, -⟩ := five_cells P18)
          clear xP60 xP61 xP62 xP63 xP64 xP180 xP181 xP182 xP183 xP184
          have H2 := heap_alloc_new w16 (.cells #[.bool (sg t), .int .u64 (l0 t : Int), .int .u64 (l1 t : Int), .int .u64 (l2 t : Int), .int .u64 (l3 t : Int)] 25)
          have lP4 := P4.lt
          have lP5 := P5.lt
          have lP6 := P6.lt
          have lP7 := P7.lt
          have lP8 := P8.lt
          have lP9 := P9.lt
          have lP10 := P10.lt
          have lP11 := P11.lt
          have lP13 := P13.lt
          have lP15 := P15.lt
          have lP16 := P16.lt
          have lP18 := P18.lt
          have hE := (ext_alloc w16 (.cells #[.bool (sg t), .int .u64 (l0 t : Int), .int .u64 (l1 t : Int), .int .u64 (l2 t : Int), .int .u64 (l3 t : Int)] 25))
          have P4 := P4.ext hE
          have P5 := P5.ext hE
          have P6 := P6.ext hE
          have P7 := P7.ext hE
          have P8 := P8.ext hE
          have P9 := P9.ext hE
          have P10 := P10.ext hE
          have P11 := P11.ext hE
          have P13 := P13.ext hE
          have P15 := P15.ext hE
          have P16 := P16.ext hE
          have P18 := P18.ext hE
          have EE := hide (EE.out.trans hE)
          clear hE
          obtain ⟨W17, hW⟩ : ∃ W, W = (w16.alloc (.cells #[.bool (sg t), .int .u64 (l0 t : Int), .int .u64 (l1 t : Int), .int .u64 (l2 t : Int), .int .u64 (l3 t : Int)] 25)) := ⟨_, rfl⟩
          rw [← hW] at H2 EE P4 P5 P6 P7 P8 P9 P10 P11 P13 P15 P16 P18 ⊢
          obtain ⟨g18, hg⟩ : ∃ g, w16.heap.size = g := ⟨_, rfl⟩
          rw [hg] at H2 lP4 lP5 lP6 lP7 lP8 lP9 lP10 lP11 lP13 lP15 lP16 lP18 ⊢
          have P20 : Box W17 g18 (sg t) (l0 t) (l1 t) (l2 t) (l3 t) := H2
          clear hW hg
          have ngP4P20 : g0 ≠ g18 := by omega
          have ngP5P20 : g0 + 1 ≠ g18 := by omega
          have ngP6P20 : g0 + 1 + 1 ≠ g18 := by omega
          have ngP7P20 : g0 + 1 + 1 + 1 ≠ g18 := by omega
          have ngP8P20 : g0 + 1 + 1 + 1 + 1 ≠ g18 := by omega
          have ngP9P20 : g0 + 1 + 1 + 1 + 1 + 1 ≠ g18 := by omega
          have ngP10P20 : g3 ≠ g18 := by omega
          have ngP11P20 : g3 + 1 ≠ g18 := by omega
          have ngP13P20 : g8 ≠ g18 := by omega
          have ngP15P20 : g12 ≠ g18 := by omega
          have ngP16P20 : g12 + 1 ≠ g18 := by omega
          have ngP18P20 : g15 ≠ g18 := by omega
          obtain ⟨xP50, xP51, xP52, xP53, xP54, -⟩ := five_cells P5; obtain ⟨xP70, xP71, xP72, xP73, xP74, -⟩ := five_cells P7; obtain ⟨xP160, xP161, xP162, xP163, xP164, -⟩ := five_cells P16; obtain ⟨xP200, xP201, xP202, xP203, xP204, -⟩ := five_cells P20
          go_upto_region 11 with (go_at_call 119; (with_reducible refine (kR.out _).mono ?_); rintro e w19 ⟨rfl, hE⟩; clear xP50 xP51 xP52 xP53 xP54 xP70 xP71 xP72 xP73 xP74 xP160 xP161 xP162 xP163 xP164 xP200 xP201 xP202 xP203 xP204; have P4 := P4.ext hE; have P5 := P5.ext hE; have P6 := P6.ext hE; have P7 := P7.ext hE; have P8 := P8.ext hE; have P9 := P9.ext hE; have P10 := P10.ext hE; have P11 := P11.ext hE; have P13 := P13.ext hE; have P15 := P15.ext hE; have P16 := P16.ext hE; have P18 := P18.ext hE; have P20 := P20.ext hE; have EE := hide (EE.out.trans hE); clear hE; obtain ⟨xP50, xP51, xP52, xP53, xP54, -⟩ := five_cells P5; obtain ⟨xP70, xP71, xP72, xP73, xP74, -⟩ := five_cells P7; obtain ⟨xP160, xP161, xP162, xP163, xP164, -⟩ := five_cells P16; obtain ⟨xP200, xP201, xP202, xP203, xP204, -⟩ := five_cells P20)
          clear xP50 xP51 xP52 xP53 xP54 xP70 xP71 xP72 xP73 xP74 xP160 xP161 xP162 xP163 xP164 xP200 xP201 xP202 xP203 xP204
          have H2 := two_blocks w19 (.cells #[.bool (sg m), .int .u64 (l0 m : Int), .int .u64 (l1 m : Int), .int .u64 (l2 m : Int), .int .u64 (l3 m : Int)] 25) (.cells #[.bool (sg m'), .int .u64 (l0 m' : Int), .int .u64 (l1 m' : Int), .int .u64 (l2 m' : Int), .int .u64 (l3 m' : Int)] 25)
          have lP4 := P4.lt
          have lP5 := P5.lt
          have lP6 := P6.lt
          have lP7 := P7.lt
          have lP8 := P8.lt
          have lP9 := P9.lt
          have lP10 := P10.lt
          have lP11 := P11.lt
          have lP13 := P13.lt
          have lP15 := P15.lt
          have lP16 := P16.lt
          have lP18 := P18.lt
          have lP20 := P20.lt
          have hE := ((ext_alloc w19 (.cells #[.bool (sg m), .int .u64 (l0 m : Int), .int .u64 (l1 m : Int), .int .u64 (l2 m : Int), .int .u64 (l3 m : Int)] 25)).trans (ext_alloc _ (.cells #[.bool (sg m'), .int .u64 (l0 m' : Int), .int .u64 (l1 m' : Int), .int .u64 (l2 m' : Int), .int .u64 (l3 m' : Int)] 25)))
          have P4 := P4.ext hE
          have P5 := P5.ext hE
          have P6 := P6.ext hE
          have P7 := P7.ext hE
          have P8 := P8.ext hE
          have P9 := P9.ext hE
          have P10 := P10.ext hE
          have P11 := P11.ext hE
          have P13 := P13.ext hE
          have P15 := P15.ext hE
          have P16 := P16.ext hE
          have P18 := P18.ext hE
          have P20 := P20.ext hE
          have EE := hide (EE.out.trans hE)
          clear hE
          obtain ⟨W20, hW⟩ : ∃ W, W = ((w19.alloc (.cells #[.bool (sg m), .int .u64 (l0 m : Int), .int .u64 (l1 m : Int), .int .u64 (l2 m : Int), .int .u64 (l3 m : Int)] 25)).alloc (.cells #[.bool (sg m'), .int .u64 (l0 m' : Int), .int .u64 (l1 m' : Int), .int .u64 (l2 m' : Int), .int .u64 (l3 m' : Int)] 25)) := ⟨_, rfl⟩
          rw [← hW] at H2 EE P4 P5 P6 P7 P8 P9 P10 P11 P13 P15 P16 P18 P20 ⊢
          obtain ⟨g21, hg⟩ : ∃ g, w19.heap.size = g := ⟨_, rfl⟩
          rw [hg] at H2 lP4 lP5 lP6 lP7 lP8 lP9 lP10 lP11 lP13 lP15 lP16 lP18 lP20 ⊢
          obtain ⟨P22, P23⟩ : Box W20 g21 (sg m) (l0 m) (l1 m) (l2 m) (l3 m) ∧ Box W20 (g21 + 1) (sg m') (l0 m') (l1 m') (l2 m') (l3 m') := H2
          clear hW hg
          have ngP4P22 : g0 ≠ g21 := by omega
          have ngP4P23 : g0 ≠ g21 + 1 := by omega
          have ngP5P22 : g0 + 1 ≠ g21 := by omega
          have ngP5P23 : g0 + 1 ≠ g21 + 1 := by omega
          have ngP6P22 : g0 + 1 + 1 ≠ g21 := by omega
          have ngP6P23 : g0 + 1 + 1 ≠ g21 + 1 := by omega
          have ngP7P22 : g0 + 1 + 1 + 1 ≠ g21 := by omega
          have ngP7P23 : g0 + 1 + 1 + 1 ≠ g21 + 1 := by omega
          have ngP8P22 : g0 + 1 + 1 + 1 + 1 ≠ g21 := by omega
          have ngP8P23 : g0 + 1 + 1 + 1 + 1 ≠ g21 + 1 := by omega
          have ngP9P22 : g0 + 1 + 1 + 1 + 1 + 1 ≠ g21 := by omega
          have ngP9P23 : g0 + 1 + 1 + 1 + 1 + 1 ≠ g21 + 1 := by omega
          have ngP10P22 : g3 ≠ g21 := by omega
          have ngP10P23 : g3 ≠ g21 + 1 := by omega
          have ngP11P22 : g3 + 1 ≠ g21 := by omega
          have ngP11P23 : g3 + 1 ≠ g21 + 1 := by omega
          have ngP13P22 : g8 ≠ g21 := by omega
          have ngP13P23 : g8 ≠ g21 + 1 := by omega
          have ngP15P22 : g12 ≠ g21 := by omega
          have ngP15P23 : g12 ≠ g21 + 1 := by omega
          have ngP16P22 : g12 + 1 ≠ g21 := by omega
          have ngP16P23 : g12 + 1 ≠ g21 + 1 := by omega
          have ngP18P22 : g15 ≠ g21 := by omega
          have ngP18P23 : g15 ≠ g21 + 1 := by omega
          have ngP20P22 : g18 ≠ g21 := by omega
          have ngP20P23 : g18 ≠ g21 + 1 := by omega
          obtain ⟨xP150, xP151, xP152, xP153, xP154, -⟩ := five_cells P15; obtain ⟨xP220, xP221, xP222, xP223, xP224, -⟩ := five_cells P22
          go_upto_region 12 with (go_at_call 33; (with_reducible refine (kP.out _).mono ?_); rintro e w22 ⟨rfl, hE⟩; clear xP150 xP151 xP152 xP153 xP154 xP220 xP221 xP222 xP223 xP224; have P4 := P4.ext hE; have P5 := P5.ext hE; have P6 := P6.ext hE; have P7 := P7.ext hE; have P8 := P8.ext hE; have P9 := P9.ext hE; have P10 := P10.ext hE; have P11 := P11.ext hE; have P13 := P13.ext hE; have P15 := P15.ext hE; have P16 := P16.ext hE; have P18 := P18.ext hE; have P20 := P20.ext hE; have P22 := P22.ext hE; have P23 := P23.ext hE; have EE := hide (EE.out.trans hE); clear hE; obtain ⟨xP150, xP151, xP152, xP153, xP154, -⟩ := five_cells P15; obtain ⟨xP220, xP221, xP222, xP223, xP224, -⟩ := five_cells P22)
          clear xP150 xP151 xP152 xP153 xP154 xP220 xP221 xP222 xP223 xP224
          have H2 := heap_alloc_new w22 (.cells #[.bool (sg p), .int .u64 (l0 p : Int), .int .u64 (l1 p : Int), .int .u64 (l2 p : Int), .int .u64 (l3 p : Int)] 25)
          have lP4 := P4.lt
          have lP5 := P5.lt
          have lP6 := P6.lt
          have lP7 := P7.lt
          have lP8 := P8.lt
          have lP9 := P9.lt
          have lP10 := P10.lt
          have lP11 := P11.lt
          have lP13 := P13.lt
          have lP15 := P15.lt
          have lP16 := P16.lt
          have lP18 := P18.lt
          have lP20 := P20.lt
          have lP22 := P22.lt
          have lP23 := P23.lt
          have hE := (ext_alloc w22 (.cells #[.bool (sg p), .int .u64 (l0 p : Int), .int .u64 (l1 p : Int), .int .u64 (l2 p : Int), .int .u64 (l3 p : Int)] 25))
          have P4 := P4.ext hE
          have P5 := P5.ext hE
          have P6 := P6.ext hE
          have P7 := P7.ext hE
          have P8 := P8.ext hE
          have P9 := P9.ext hE
          have P10 := P10.ext hE
          have P11 := P11.ext hE
          have P13 := P13.ext hE
          have P15 := P15.ext hE
          have P16 := P16.ext hE
          have P18 := P18.ext hE
          have P20 := P20.ext hE
          have P22 := P22.ext hE
          have P23 := P23.ext hE
          have EE := hide (EE.out.trans hE)
          clear hE
          obtain ⟨W23, hW⟩ : ∃ W, W = (w22.alloc (.cells #[.bool (sg p), .int .u64 (l0 p : Int), .int .u64 (l1 p : Int), .int .u64 (l2 p : Int), .int .u64 (l3 p : Int)] 25)) := ⟨_, rfl⟩
          rw [← hW] at H2 EE P4 P5 P6 P7 P8 P9 P10 P11 P13 P15 P16 P18 P20 P22 P23 ⊢
          obtain ⟨g24, hg⟩ : ∃ g, w22.heap.size = g := ⟨_, rfl⟩
          rw [hg] at H2 lP4 lP5 lP6 lP7 lP8 lP9 lP10 lP11 lP13 lP15 lP16 lP18 lP20 lP22 lP23 ⊢
          have P24 : Box W23 g24 (sg p) (l0 p) (l1 p) (l2 p) (l3 p) := H2
          clear hW hg
          have ngP4P24 : g0 ≠ g24 := by omega
          have ngP5P24 : g0 + 1 ≠ g24 := by omega
          have ngP6P24 : g0 + 1 + 1 ≠ g24 := by omega
          have ngP7P24 : g0 + 1 + 1 + 1 ≠ g24 := by omega
          have ngP8P24 : g0 + 1 + 1 + 1 + 1 ≠ g24 := by omega
          have ngP9P24 : g0 + 1 + 1 + 1 + 1 + 1 ≠ g24 := by omega
          have ngP10P24 : g3 ≠ g24 := by omega
          have ngP11P24 : g3 + 1 ≠ g24 := by omega
          have ngP13P24 : g8 ≠ g24 := by omega
          have ngP15P24 : g12 ≠ g24 := by omega
          have ngP16P24 : g12 + 1 ≠ g24 := by omega
          have ngP18P24 : g15 ≠ g24 := by omega
          have ngP20P24 : g18 ≠ g24 := by omega
          have ngP22P24 : g21 ≠ g24 := by omega
          have ngP23P24 : g21 + 1 ≠ g24 := by omega
          obtain ⟨xP230, xP231, xP232, xP233, xP234, -⟩ := five_cells P23; obtain ⟨xP240, xP241, xP242, xP243, xP244, xP24f0, xP24f1, xP24f2, xP24f3, xP24f4⟩ := five_cells P24
          go_upto_region 13 with (go_at_call 72; (with_reducible refine (kN.out _).mono ?_); rintro e w25 ⟨rfl, hE⟩; clear xP230 xP231 xP232 xP233 xP234; clear xP240 xP241 xP242 xP243 xP244 xP24f0 xP24f1 xP24f2 xP24f3 xP24f4; have P4 := P4.ext hE; have P5 := P5.ext hE; have P6 := P6.ext hE; have P7 := P7.ext hE; have P8 := P8.ext hE; have P9 := P9.ext hE; have P10 := P10.ext hE; have P11 := P11.ext hE; have P13 := P13.ext hE; have P15 := P15.ext hE; have P16 := P16.ext hE; have P18 := P18.ext hE; have P20 := P20.ext hE; have P22 := P22.ext hE; have P23 := P23.ext hE; have P24 := P24.ext hE; have EE := hide (EE.out.trans hE); clear hE; obtain ⟨xP230, xP231, xP232, xP233, xP234, -⟩ := five_cells P23; obtain ⟨xP240, xP241, xP242, xP243, xP244, xP24f0, xP24f1, xP24f2, xP24f3, xP24f4⟩ := five_cells P24)
          clear xP230 xP231 xP232 xP233 xP234; clear xP240 xP241 xP242 xP243 xP244 xP24f0 xP24f1 xP24f2 xP24f3 xP24f4
          have hn : g0 ≠ g24 := by omega
          have P4 := P4.far hn (.bool (sg n)) (.int .u64 (l0 n : Int)) (.int .u64 (l1 n : Int)) (.int .u64 (l2 n : Int)) (.int .u64 (l3 n : Int))
          clear hn
          have hn : g0 + 1 ≠ g24 := by omega
          have P5 := P5.far hn (.bool (sg n)) (.int .u64 (l0 n : Int)) (.int .u64 (l1 n : Int)) (.int .u64 (l2 n : Int)) (.int .u64 (l3 n : Int))
          clear hn
          have hn : g0 + 1 + 1 ≠ g24 := by omega
          have P6 := P6.far hn (.bool (sg n)) (.int .u64 (l0 n : Int)) (.int .u64 (l1 n : Int)) (.int .u64 (l2 n : Int)) (.int .u64 (l3 n : Int))
          clear hn
          have hn : g0 + 1 + 1 + 1 ≠ g24 := by omega
          have P7 := P7.far hn (.bool (sg n)) (.int .u64 (l0 n : Int)) (.int .u64 (l1 n : Int)) (.int .u64 (l2 n : Int)) (.int .u64 (l3 n : Int))
          clear hn
          have hn : g0 + 1 + 1 + 1 + 1 ≠ g24 := by omega
          have P8 := P8.far hn (.bool (sg n)) (.int .u64 (l0 n : Int)) (.int .u64 (l1 n : Int)) (.int .u64 (l2 n : Int)) (.int .u64 (l3 n : Int))
          clear hn
          have hn : g0 + 1 + 1 + 1 + 1 + 1 ≠ g24 := by omega
          have P9 := P9.far hn (.bool (sg n)) (.int .u64 (l0 n : Int)) (.int .u64 (l1 n : Int)) (.int .u64 (l2 n : Int)) (.int .u64 (l3 n : Int))
          clear hn
          have hn : g3 ≠ g24 := by omega
          have P10 := P10.far hn (.bool (sg n)) (.int .u64 (l0 n : Int)) (.int .u64 (l1 n : Int)) (.int .u64 (l2 n : Int)) (.int .u64 (l3 n : Int))
          clear hn
          have hn : g3 + 1 ≠ g24 := by omega
          have P11 := P11.far hn (.bool (sg n)) (.int .u64 (l0 n : Int)) (.int .u64 (l1 n : Int)) (.int .u64 (l2 n : Int)) (.int .u64 (l3 n : Int))
          clear hn
          have hn : g8 ≠ g24 := by omega
          have P13 := P13.far hn (.bool (sg n)) (.int .u64 (l0 n : Int)) (.int .u64 (l1 n : Int)) (.int .u64 (l2 n : Int)) (.int .u64 (l3 n : Int))
          clear hn
          have hn : g12 ≠ g24 := by omega
          have P15 := P15.far hn (.bool (sg n)) (.int .u64 (l0 n : Int)) (.int .u64 (l1 n : Int)) (.int .u64 (l2 n : Int)) (.int .u64 (l3 n : Int))
          clear hn
          have hn : g12 + 1 ≠ g24 := by omega
          have P16 := P16.far hn (.bool (sg n)) (.int .u64 (l0 n : Int)) (.int .u64 (l1 n : Int)) (.int .u64 (l2 n : Int)) (.int .u64 (l3 n : Int))
          clear hn
          have hn : g15 ≠ g24 := by omega
          have P18 := P18.far hn (.bool (sg n)) (.int .u64 (l0 n : Int)) (.int .u64 (l1 n : Int)) (.int .u64 (l2 n : Int)) (.int .u64 (l3 n : Int))
          clear hn
          have hn : g18 ≠ g24 := by omega
          have P20 := P20.far hn (.bool (sg n)) (.int .u64 (l0 n : Int)) (.int .u64 (l1 n : Int)) (.int .u64 (l2 n : Int)) (.int .u64 (l3 n : Int))
          clear hn
          have hn : g21 ≠ g24 := by omega
          have P22 := P22.far hn (.bool (sg n)) (.int .u64 (l0 n : Int)) (.int .u64 (l1 n : Int)) (.int .u64 (l2 n : Int)) (.int .u64 (l3 n : Int))
          clear hn
          have hn : g21 + 1 ≠ g24 := by omega
          have P23 := P23.far hn (.bool (sg n)) (.int .u64 (l0 n : Int)) (.int .u64 (l1 n : Int)) (.int .u64 (l2 n : Int)) (.int .u64 (l3 n : Int))
          clear hn
          have P24 := P24.put (t := sg n) (a' := l0 n) (b' := l1 n) (c' := l2 n) (d' := l3 n)
          have EE := hide (ext_five EE.out (b := g24) (by omega) (.bool (sg n)) (.int .u64 (l0 n : Int)) (.int .u64 (l1 n : Int)) (.int .u64 (l2 n : Int)) (.int .u64 (l3 n : Int)))
          obtain ⟨W26, hW⟩ : ∃ W, W = (((((w25.setCell ⟨g24, 0, none⟩ (.bool (sg n))).setCell ⟨g24, 1, none⟩ (.int .u64 (l0 n : Int))).setCell ⟨g24, 2, none⟩ (.int .u64 (l1 n : Int))).setCell ⟨g24, 3, none⟩ (.int .u64 (l2 n : Int))).setCell ⟨g24, 4, none⟩ (.int .u64 (l3 n : Int))) := ⟨_, rfl⟩
          rw [← hW] at EE P4 P5 P6 P7 P8 P9 P10 P11 P13 P15 P16 P18 P20 P22 P23 P24 ⊢
          clear hW
          have lbP4 := P4.lt
          have lbP5 := P5.lt
          have lbP6 := P6.lt
          have lbP7 := P7.lt
          have lbP8 := P8.lt
          have lbP9 := P9.lt
          have lbP10 := P10.lt
          have lbP11 := P11.lt
          have lbP13 := P13.lt
          have lbP15 := P15.lt
          have lbP16 := P16.lt
          have lbP18 := P18.lt
          have lbP20 := P20.lt
          have lbP22 := P22.lt
          have lbP23 := P23.lt
          have lbP24 := P24.lt
          have ltW0 : ∀ c, Tag.so c ∈ [.q, .q, .so 0, .so 1] → (fun i => match i with | 0 => g0 + 1 + 1 + 1 + 1 | _ => g0 + 1 + 1 + 1 + 1 + 1) c < W26.heap.size := by intro c hc; simp at hc; rcases hc with rfl | rfl <;> (try simp only) <;> omega
          refine wp_decl [.q, .q, .so 0, .so 1] [.agg #[.bool (sg n), .int .u64 (l0 n : Int), .int .u64 (l1 n : Int), .int .u64 (l2 n : Int), .int .u64 (l3 n : Int)], .agg #[.bool (sg m), .int .u64 (l0 m : Int), .int .u64 (l1 m : Int), .int .u64 (l2 m : Int), .int .u64 (l3 m : Int)], undef, undef] (fun _ => (.cells #[.bool false, .int .u64 0, .int .u64 0, .int .u64 0, .int .u64 0] 25 (0, 0))) (fun i => match i with | 2 => (.cells #[.bool (sg n), .int .u64 (l0 n : Int), .int .u64 (l1 n : Int), .int .u64 (l2 n : Int), .int .u64 (l3 n : Int)] 25 (0, 0)) | _ => (.cells #[.bool (sg m), .int .u64 (l0 m : Int), .int .u64 (l1 m : Int), .int .u64 (l2 m : Int), .int .u64 (l3 m : Int)] 25 (0, 0))) (fun i => match i with | 0 => g0 + 1 + 1 + 1 + 1 | _ => g0 + 1 + 1 + 1 + 1 + 1) (by kernel_rfl) (by kernel_rfl) (by kernel_rfl) rfl rfl ltW0 (by intro c c' h1 h2 h3; simp at h1 h2; rcases h1 with rfl | rfl <;> rcases h2 with rfl | rfl <;> simp only at h3 <;> omega) ?_ ?_
          · refine ⟨?_, ?_, ?_, ?_, trivial⟩
            · refine op_q ?uvn15 ?h1n15 ?h2n15 ?h3n15
              case h1n15 => exact rfl
              case uvn15 => exact (.agg #[.bool (sg n), .int .u64 (l0 n : Int), .int .u64 (l1 n : Int), .int .u64 (l2 n : Int), .int .u64 (l3 n : Int)])
              case h2n15 => exact rfl
              intro w' hw'
              have P24 := P24.same hw' (by intro c hc; simp at hc; rcases hc with rfl | rfl <;> (try simp only) <;> omega)
              have xP24 := five_cells P24
              go_simp
            · refine op_q ?uvn16 ?h1n16 ?h2n16 ?h3n16
              case h1n16 => exact rfl
              case uvn16 => exact (.agg #[.bool (sg m), .int .u64 (l0 m : Int), .int .u64 (l1 m : Int), .int .u64 (l2 m : Int), .int .u64 (l3 m : Int)])
              case h2n16 => exact rfl
              intro w' hw'
              have P22 := P22.same hw' (by intro c hc; simp at hc; rcases hc with rfl | rfl <;> (try simp only) <;> omega)
              have xP22 := five_cells P22
              go_simp
            · refine op_so (c := 0) (T := ?uTn17) (p := ?upn17) (x := ?uxn17) ?ugn17 ?ufn17 ?uvn17 ?h1n17 ?h2n17 ?h3n17 ?h4n17 ?h5n17 ?h6n17 ?h7n17
              case h1n17 => exact rfl
              case h2n17 => exact rfl
              case ufn17 => exact (.cells #[.bool (sg n), .int .u64 (l0 n : Int), .int .u64 (l1 n : Int), .int .u64 (l2 n : Int), .int .u64 (l3 n : Int)] 25 (0, 0))
              case ugn17 => exact g0 + 1 + 1 + 1 + 1
              case uvn17 => exact (.agg #[.bool (sg n), .int .u64 (l0 n : Int), .int .u64 (l1 n : Int), .int .u64 (l2 n : Int), .int .u64 (l3 n : Int)])
              case h3n17 => exact rfl
              case h4n17 => exact rfl
              case h5n17 => go_simp; rfl
              case h6n17 => go_simp
              intro ρ w' hp hx hz
              exact store_wide rfl hp hx (hz.trans P8)
            · refine op_so (c := 1) (T := ?uTn18) (p := ?upn18) (x := ?uxn18) ?ugn18 ?ufn18 ?uvn18 ?h1n18 ?h2n18 ?h3n18 ?h4n18 ?h5n18 ?h6n18 ?h7n18
              case h1n18 => exact rfl
              case h2n18 => exact rfl
              case ufn18 => exact (.cells #[.bool (sg m), .int .u64 (l0 m : Int), .int .u64 (l1 m : Int), .int .u64 (l2 m : Int), .int .u64 (l3 m : Int)] 25 (0, 0))
              case ugn18 => exact g0 + 1 + 1 + 1 + 1 + 1
              case uvn18 => exact (.agg #[.bool (sg m), .int .u64 (l0 m : Int), .int .u64 (l1 m : Int), .int .u64 (l2 m : Int), .int .u64 (l3 m : Int)])
              case h3n18 => exact rfl
              case h4n18 => exact rfl
              case h5n18 => go_simp; rfl
              case h6n18 => go_simp
              intro ρ w' hp hx hz
              exact store_wide rfl hp hx (hz.trans P9)
          · intro G W27 hI
            have hS := hI.same
            have P4 := P4.same hS (by intro c hc; simp at hc; rcases hc with rfl | rfl <;> (try simp only) <;> omega)
            have P5 := P5.same hS (by intro c hc; simp at hc; rcases hc with rfl | rfl <;> (try simp only) <;> omega)
            have P6 := P6.same hS (by intro c hc; simp at hc; rcases hc with rfl | rfl <;> (try simp only) <;> omega)
            have P7 := P7.same hS (by intro c hc; simp at hc; rcases hc with rfl | rfl <;> (try simp only) <;> omega)
            have P10 := P10.same hS (by intro c hc; simp at hc; rcases hc with rfl | rfl <;> (try simp only) <;> omega)
            have P11 := P11.same hS (by intro c hc; simp at hc; rcases hc with rfl | rfl <;> (try simp only) <;> omega)
            have P13 := P13.same hS (by intro c hc; simp at hc; rcases hc with rfl | rfl <;> (try simp only) <;> omega)
            have P15 := P15.same hS (by intro c hc; simp at hc; rcases hc with rfl | rfl <;> (try simp only) <;> omega)
            have P16 := P16.same hS (by intro c hc; simp at hc; rcases hc with rfl | rfl <;> (try simp only) <;> omega)
            have P18 := P18.same hS (by intro c hc; simp at hc; rcases hc with rfl | rfl <;> (try simp only) <;> omega)
            have P20 := P20.same hS (by intro c hc; simp at hc; rcases hc with rfl | rfl <;> (try simp only) <;> omega)
            have P22 := P22.same hS (by intro c hc; simp at hc; rcases hc with rfl | rfl <;> (try simp only) <;> omega)
            have P23 := P23.same hS (by intro c hc; simp at hc; rcases hc with rfl | rfl <;> (try simp only) <;> omega)
            have P24 := P24.same hS (by intro c hc; simp at hc; rcases hc with rfl | rfl <;> (try simp only) <;> omega)
            have hso : ∀ c, Tag.so c ∈ [.q, .q, .so 0, .so 1] → w.heap.size ≤ (fun i => match i with | 0 => g0 + 1 + 1 + 1 + 1 | _ => g0 + 1 + 1 + 1 + 1 + 1) c := by intro c hc; simp at hc; rcases hc with rfl | rfl <;> (try simp only) <;> omega
            have EE := hide (hS.ext' EE.out hso)
            have P8 : Box W27 (g0 + 1 + 1 + 1 + 1) (sg n) (l0 n) (l1 n) (l2 n) (l3 n) := hI.olds' 2 (List.mem_range.2 (show 2 < 4 by decide)) 0 rfl
            have P9 : Box W27 (g0 + 1 + 1 + 1 + 1 + 1) (sg m) (l0 m) (l1 m) (l2 m) (l3 m) := hI.olds' 3 (List.mem_range.2 (show 3 < 4 by decide)) 1 rfl
            clear hI hS
            simp only [putAll, slotV, ptrTo, Nat.zero_add, Nat.reduceAdd]
            go_wp2_with fail
            obtain ⟨xP80, xP81, xP82, xP83, xP84, xP8f0, xP8f1, xP8f2, xP8f3, xP8f4⟩ := five_cells P8; obtain ⟨xP90, xP91, xP92, xP93, xP94, xP9f0, xP9f1, xP9f2, xP9f3, xP9f4⟩ := five_cells P9
            exact bodyPost_ret (v := .tuple #[.agg #[.bool (sg n), .int .u64 (l0 n : Int), .int .u64 (l1 n : Int), .int .u64 (l2 n : Int), .int .u64 (l3 n : Int)], .agg #[.bool (sg m), .int .u64 (l0 m : Int), .int .u64 (l1 m : Int), .int .u64 (l2 m : Int), .int .u64 (l3 m : Int)]]) (by simp [results, Try.results119, go_sem, xP80, xP81, xP82, xP83, xP84, xP90, xP91, xP92, xP93, xP94]) rfl ⟨rfl, EE.out⟩
      · have hqp : a / b ≠ c / d := by rw [hq]; exact h1
        have hvc : v ≤ c := hpos.2 hqp
        have hj0 : j ≤ 0 := by rcases Int.lt_or_le 0 j with h | h; · have := (cmpI_lt hj).2.2.1 h; omega
                               · exact h
        obtain ⟨en, em⟩ := Best.unique hb hd B (best_next ha hb hd hle hr0 hqp)
        rw [hq, hu] at en
        subst en em
        clear hq hr q0 qa r0 rb fa fb fc fd fq fr BS n0 m0 c0 fbig hk ha hb hd hle sa sb sc sd B hr0 h0 h1 hpos hqp hvc hu fu f1 hv fv hj
        obtain ⟨W0, hW0⟩ : ∃ W0, W0 = ((((((w.alloc (.cells #[.bool (sg a), .int .u64 (l0 a : Int), .int .u64 (l1 a : Int), .int .u64 (l2 a : Int), .int .u64 (l3 a : Int)] 25)).alloc (.cells #[.bool (sg b), .int .u64 (l0 b : Int), .int .u64 (l1 b : Int), .int .u64 (l2 b : Int), .int .u64 (l3 b : Int)] 25)).alloc (.cells #[.bool (sg c), .int .u64 (l0 c : Int), .int .u64 (l1 c : Int), .int .u64 (l2 c : Int), .int .u64 (l3 c : Int)] 25)).alloc (.cells #[.bool (sg d), .int .u64 (l0 d : Int), .int .u64 (l1 d : Int), .int .u64 (l2 d : Int), .int .u64 (l3 d : Int)] 25)).alloc (.cells #[.bool false, .int .u64 0, .int .u64 0, .int .u64 0, .int .u64 0] 25)).alloc (.cells #[.bool false, .int .u64 0, .int .u64 0, .int .u64 0, .int .u64 0] 25)) := ⟨_, rfl⟩
        have H2 := six_objs w (.cells #[.bool (sg a), .int .u64 (l0 a : Int), .int .u64 (l1 a : Int), .int .u64 (l2 a : Int), .int .u64 (l3 a : Int)] 25) (.cells #[.bool (sg b), .int .u64 (l0 b : Int), .int .u64 (l1 b : Int), .int .u64 (l2 b : Int), .int .u64 (l3 b : Int)] 25) (.cells #[.bool (sg c), .int .u64 (l0 c : Int), .int .u64 (l1 c : Int), .int .u64 (l2 c : Int), .int .u64 (l3 c : Int)] 25) (.cells #[.bool (sg d), .int .u64 (l0 d : Int), .int .u64 (l1 d : Int), .int .u64 (l2 d : Int), .int .u64 (l3 d : Int)] 25) (.cells #[.bool false, .int .u64 0, .int .u64 0, .int .u64 0, .int .u64 0] 25) (.cells #[.bool false, .int .u64 0, .int .u64 0, .int .u64 0, .int .u64 0] 25)
        have EE0 : Ext w W0 := by rw [hW0]; exact ((((((ext_alloc _ _).trans (ext_alloc _ _)).trans (ext_alloc _ _)).trans (ext_alloc _ _)).trans (ext_alloc _ _)).trans (ext_alloc _ _))
        rw [← hW0] at H2
        have EE := hide EE0
        have HW := hide hW0
        obtain ⟨P4, P5, P6, P7, P8, P9⟩ : Box W0 (w.heap.size) (sg a) (l0 a) (l1 a) (l2 a) (l3 a) ∧ Box W0 ((w.heap.size + 1)) (sg b) (l0 b) (l1 b) (l2 b) (l3 b) ∧ Box W0 ((w.heap.size + 1 + 1)) (sg c) (l0 c) (l1 c) (l2 c) (l3 c) ∧ Box W0 ((w.heap.size + 1 + 1 + 1)) (sg d) (l0 d) (l1 d) (l2 d) (l3 d) ∧ Box W0 ((w.heap.size + 1 + 1 + 1 + 1)) false 0 0 0 0 ∧ Box W0 ((w.heap.size + 1 + 1 + 1 + 1 + 1)) false 0 0 0 0 := H2
        clear hW0 EE0
        go_enter Try.func119, Try.ntmps119
        go_upto_region 1 with fail
        rw [← HW.out]
        clear HW
        have hg0 : w.heap.size ≤ w.heap.size := Nat.le_refl _
        obtain ⟨g0, hg⟩ : ∃ g, w.heap.size = g := ⟨_, rfl⟩
        rw [hg] at P4 P5 P6 P7 P8 P9 ⊢
        replace hg0 : w.heap.size ≤ g0 := Nat.le_of_eq hg
        clear hg
        obtain ⟨xP40, xP41, xP42, xP43, xP44, -⟩ := five_cells P4; obtain ⟨xP50, xP51, xP52, xP53, xP54, -⟩ := five_cells P5
        go_upto_region 2 with (go_at_call 34; (with_reducible refine (kD.out _).mono ?_); rintro e w1 ⟨rfl, hE⟩; clear xP40 xP41 xP42 xP43 xP44 xP50 xP51 xP52 xP53 xP54; have P4 := P4.ext hE; have P5 := P5.ext hE; have P6 := P6.ext hE; have P7 := P7.ext hE; have P8 := P8.ext hE; have P9 := P9.ext hE; have EE := hide (EE.out.trans hE); clear hE; obtain ⟨xP40, xP41, xP42, xP43, xP44, -⟩ := five_cells P4; obtain ⟨xP50, xP51, xP52, xP53, xP54, -⟩ := five_cells P5)
        clear xP40 xP41 xP42 xP43 xP44 xP50 xP51 xP52 xP53 xP54
        have H2 := two_blocks w1 (.cells #[.bool (sg q), .int .u64 (l0 q : Int), .int .u64 (l1 q : Int), .int .u64 (l2 q : Int), .int .u64 (l3 q : Int)] 25) (.cells #[.bool (sg r), .int .u64 (l0 r : Int), .int .u64 (l1 r : Int), .int .u64 (l2 r : Int), .int .u64 (l3 r : Int)] 25)
        have lP4 := P4.lt
        have lP5 := P5.lt
        have lP6 := P6.lt
        have lP7 := P7.lt
        have lP8 := P8.lt
        have lP9 := P9.lt
        have hE := ((ext_alloc w1 (.cells #[.bool (sg q), .int .u64 (l0 q : Int), .int .u64 (l1 q : Int), .int .u64 (l2 q : Int), .int .u64 (l3 q : Int)] 25)).trans (ext_alloc _ (.cells #[.bool (sg r), .int .u64 (l0 r : Int), .int .u64 (l1 r : Int), .int .u64 (l2 r : Int), .int .u64 (l3 r : Int)] 25)))
        have P4 := P4.ext hE
        have P5 := P5.ext hE
        have P6 := P6.ext hE
        have P7 := P7.ext hE
        have P8 := P8.ext hE
        have P9 := P9.ext hE
        have EE := hide (EE.out.trans hE)
        clear hE
        obtain ⟨W2, hW⟩ : ∃ W, W = ((w1.alloc (.cells #[.bool (sg q), .int .u64 (l0 q : Int), .int .u64 (l1 q : Int), .int .u64 (l2 q : Int), .int .u64 (l3 q : Int)] 25)).alloc (.cells #[.bool (sg r), .int .u64 (l0 r : Int), .int .u64 (l1 r : Int), .int .u64 (l2 r : Int), .int .u64 (l3 r : Int)] 25)) := ⟨_, rfl⟩
        rw [← hW] at H2 EE P4 P5 P6 P7 P8 P9 ⊢
        obtain ⟨g3, hg⟩ : ∃ g, w1.heap.size = g := ⟨_, rfl⟩
        rw [hg] at H2 lP4 lP5 lP6 lP7 lP8 lP9 ⊢
        obtain ⟨P10, P11⟩ : Box W2 g3 (sg q) (l0 q) (l1 q) (l2 q) (l3 q) ∧ Box W2 (g3 + 1) (sg r) (l0 r) (l1 r) (l2 r) (l3 r) := H2
        clear hW hg
        have ngP4P10 : g0 ≠ g3 := by omega
        have ngP4P11 : g0 ≠ g3 + 1 := by omega
        have ngP5P10 : g0 + 1 ≠ g3 := by omega
        have ngP5P11 : g0 + 1 ≠ g3 + 1 := by omega
        have ngP6P10 : g0 + 1 + 1 ≠ g3 := by omega
        have ngP6P11 : g0 + 1 + 1 ≠ g3 + 1 := by omega
        have ngP7P10 : g0 + 1 + 1 + 1 ≠ g3 := by omega
        have ngP7P11 : g0 + 1 + 1 + 1 ≠ g3 + 1 := by omega
        have ngP8P10 : g0 + 1 + 1 + 1 + 1 ≠ g3 := by omega
        have ngP8P11 : g0 + 1 + 1 + 1 + 1 ≠ g3 + 1 := by omega
        have ngP9P10 : g0 + 1 + 1 + 1 + 1 + 1 ≠ g3 := by omega
        have ngP9P11 : g0 + 1 + 1 + 1 + 1 + 1 ≠ g3 + 1 := by omega
        obtain ⟨xP110, xP111, xP112, xP113, xP114, -⟩ := five_cells P11
        go_upto_region 3 with (go_at_call 35; (with_reducible refine (kS.out _).mono ?_); rintro e w4 ⟨rfl, hE⟩; clear xP110 xP111 xP112 xP113 xP114; have P4 := P4.ext hE; have P5 := P5.ext hE; have P6 := P6.ext hE; have P7 := P7.ext hE; have P8 := P8.ext hE; have P9 := P9.ext hE; have P10 := P10.ext hE; have P11 := P11.ext hE; have EE := hide (EE.out.trans hE); clear hE; obtain ⟨xP110, xP111, xP112, xP113, xP114, -⟩ := five_cells P11)
        clear xP110 xP111 xP112 xP113 xP114
        have lbP4 := P4.lt
        have lbP5 := P5.lt
        have lbP6 := P6.lt
        have lbP7 := P7.lt
        have lbP8 := P8.lt
        have lbP9 := P9.lt
        have lbP10 := P10.lt
        have lbP11 := P11.lt
        have ltW0 : ∀ c, Tag.so c ∈ [.q, .q, .q, .q, .q, .q, .so 0] → (fun _ => g3) c < w4.heap.size := by intro c hc; simp at hc; (try subst hc); (try simp only); omega
        refine wp_decl [.q, .q, .q, .q, .q, .q, .so 0] [.agg #[.bool (sg q), .int .u64 (l0 q : Int), .int .u64 (l1 q : Int), .int .u64 (l2 q : Int), .int .u64 (l3 q : Int)], .agg #[.bool (sg 1), .int .u64 (l0 1 : Int), .int .u64 (l1 1 : Int), .int .u64 (l2 1 : Int), .int .u64 (l3 1 : Int)], .tuple #[.agg #[.bool (sg n), .int .u64 (l0 n : Int), .int .u64 (l1 n : Int), .int .u64 (l2 n : Int), .int .u64 (l3 n : Int)], .bool true], .tuple #[.agg #[.bool (sg n), .int .u64 (l0 n : Int), .int .u64 (l1 n : Int), .int .u64 (l2 n : Int), .int .u64 (l3 n : Int)], .bool true], .agg #[.bool (sg n), .int .u64 (l0 n : Int), .int .u64 (l1 n : Int), .int .u64 (l2 n : Int), .int .u64 (l3 n : Int)], .bool true, undef] (fun _ => (.cells #[.bool false, .int .u64 0, .int .u64 0, .int .u64 0, .int .u64 0] 25 (0, 0))) (fun _ => (.cells #[.bool (sg n), .int .u64 (l0 n : Int), .int .u64 (l1 n : Int), .int .u64 (l2 n : Int), .int .u64 (l3 n : Int)] 25 (0, 0))) (fun _ => g3) (by kernel_rfl) (by kernel_rfl) (by kernel_rfl) rfl rfl ltW0 (by intro c c' h1 h2 _; simp at h1 h2; omega) ?_ ?_
        · refine ⟨?_, ?_, ?_, ?_, ?_, ?_, ?_, trivial⟩
          · refine op_qa ?uvn20 ?h1n20 ?h2n20 ?h3n20
            case h1n20 => exact rfl
            case uvn20 => exact (.agg #[.bool (sg q), .int .u64 (l0 q : Int), .int .u64 (l1 q : Int), .int .u64 (l2 q : Int), .int .u64 (l3 q : Int)])
            case h2n20 => exact rfl
            intro w' hw' ha
            have P10 : Box w' g3 (sg q) (l0 q) (l1 q) (l2 q) (l3 q) := (ha 6 0 rfl (by kernel_rfl)).trans P10
            have xP10 := five_cells P10
            go_simp
          · refine op_q ?uvn21 ?h1n21 ?h2n21 ?h3n21
            case h1n21 => exact rfl
            case uvn21 => exact (.agg #[.bool (sg 1), .int .u64 (l0 1 : Int), .int .u64 (l1 1 : Int), .int .u64 (l2 1 : Int), .int .u64 (l3 1 : Int)])
            case h2n21 => exact rfl
            intro w' hw'
            go_simp
            exact kO.out w'
          · refine op_q ?uvn22 ?h1n22 ?h2n22 ?h3n22
            case h1n22 => exact rfl
            case uvn22 => exact (.tuple #[.agg #[.bool (sg n), .int .u64 (l0 n : Int), .int .u64 (l1 n : Int), .int .u64 (l2 n : Int), .int .u64 (l3 n : Int)], .bool true])
            case h2n22 => exact rfl
            intro w' hw'
            go_simp
            exact kU.out w'
          · refine op_q ?uvn23 ?h1n23 ?h2n23 ?h3n23
            case h1n23 => exact rfl
            case uvn23 => exact (.tuple #[.agg #[.bool (sg n), .int .u64 (l0 n : Int), .int .u64 (l1 n : Int), .int .u64 (l2 n : Int), .int .u64 (l3 n : Int)], .bool true])
            case h2n23 => exact rfl
            intro w' hw'
            go_simp
          · refine op_q ?uvn24 ?h1n24 ?h2n24 ?h3n24
            case h1n24 => exact rfl
            case uvn24 => exact (.agg #[.bool (sg n), .int .u64 (l0 n : Int), .int .u64 (l1 n : Int), .int .u64 (l2 n : Int), .int .u64 (l3 n : Int)])
            case h2n24 => exact rfl
            intro w' hw'
            go_simp
          · refine op_q ?uvn25 ?h1n25 ?h2n25 ?h3n25
            case h1n25 => exact rfl
            case uvn25 => exact (.bool true)
            case h2n25 => exact rfl
            intro w' hw'
            go_simp
          · refine op_so (c := 0) (T := ?uTn26) (p := ?upn26) (x := ?uxn26) ?ugn26 ?ufn26 ?uvn26 ?h1n26 ?h2n26 ?h3n26 ?h4n26 ?h5n26 ?h6n26 ?h7n26
            case h1n26 => exact rfl
            case h2n26 => exact rfl
            case ufn26 => exact (.cells #[.bool (sg n), .int .u64 (l0 n : Int), .int .u64 (l1 n : Int), .int .u64 (l2 n : Int), .int .u64 (l3 n : Int)] 25 (0, 0))
            case ugn26 => exact g3
            case uvn26 => exact (.agg #[.bool (sg n), .int .u64 (l0 n : Int), .int .u64 (l1 n : Int), .int .u64 (l2 n : Int), .int .u64 (l3 n : Int)])
            case h3n26 => exact rfl
            case h4n26 => exact rfl
            case h5n26 => go_simp; rfl
            case h6n26 => go_simp
            intro ρ w' hp hx hz
            exact store_wide rfl hp hx (hz.trans P10)
        · intro G W5 hI
          have hS := hI.same
          have P4 := P4.same hS (by intro c hc; simp at hc; (try subst hc); (try simp only); omega)
          have P5 := P5.same hS (by intro c hc; simp at hc; (try subst hc); (try simp only); omega)
          have P6 := P6.same hS (by intro c hc; simp at hc; (try subst hc); (try simp only); omega)
          have P7 := P7.same hS (by intro c hc; simp at hc; (try subst hc); (try simp only); omega)
          have P8 := P8.same hS (by intro c hc; simp at hc; (try subst hc); (try simp only); omega)
          have P9 := P9.same hS (by intro c hc; simp at hc; (try subst hc); (try simp only); omega)
          have P11 := P11.same hS (by intro c hc; simp at hc; (try subst hc); (try simp only); omega)
          have hso : ∀ c, Tag.so c ∈ [.q, .q, .q, .q, .q, .q, .so 0] → w.heap.size ≤ (fun _ => g3) c := by intro c hc; simp at hc; (try subst hc); (try simp only); omega
          have EE := hide (hS.ext' EE.out hso)
          have P10 : Box W5 g3 (sg n) (l0 n) (l1 n) (l2 n) (l3 n) := hI.olds' 6 (List.mem_range.2 (show 6 < 7 by decide)) 0 rfl
          clear hI hS
          simp only [putAll, slotV, ptrTo, Nat.zero_add, Nat.reduceAdd]
          go_upto_region 4 with fail
          obtain ⟨xP70, xP71, xP72, xP73, xP74, -⟩ := five_cells P7; obtain ⟨xP100, xP101, xP102, xP103, xP104, -⟩ := five_cells P10
          go_upto_region 5 with (go_at_call 33; (with_reducible refine (kM.out _).mono ?_); rintro e w6 ⟨rfl, hE⟩; clear xP70 xP71 xP72 xP73 xP74 xP100 xP101 xP102 xP103 xP104; have P4 := P4.ext hE; have P5 := P5.ext hE; have P6 := P6.ext hE; have P7 := P7.ext hE; have P8 := P8.ext hE; have P9 := P9.ext hE; have P10 := P10.ext hE; have P11 := P11.ext hE; have EE := hide (EE.out.trans hE); clear hE; obtain ⟨xP70, xP71, xP72, xP73, xP74, -⟩ := five_cells P7; obtain ⟨xP100, xP101, xP102, xP103, xP104, -⟩ := five_cells P10)
          clear xP70 xP71 xP72 xP73 xP74 xP100 xP101 xP102 xP103 xP104
          have H2 := heap_alloc_new w6 (.cells #[.bool (sg v), .int .u64 (l0 v : Int), .int .u64 (l1 v : Int), .int .u64 (l2 v : Int), .int .u64 (l3 v : Int)] 25)
          have lP4 := P4.lt
          have lP5 := P5.lt
          have lP6 := P6.lt
          have lP7 := P7.lt
          have lP8 := P8.lt
          have lP9 := P9.lt
          have lP10 := P10.lt
          have lP11 := P11.lt
          have hE := (ext_alloc w6 (.cells #[.bool (sg v), .int .u64 (l0 v : Int), .int .u64 (l1 v : Int), .int .u64 (l2 v : Int), .int .u64 (l3 v : Int)] 25))
          have P4 := P4.ext hE
          have P5 := P5.ext hE
          have P6 := P6.ext hE
          have P7 := P7.ext hE
          have P8 := P8.ext hE
          have P9 := P9.ext hE
          have P10 := P10.ext hE
          have P11 := P11.ext hE
          have EE := hide (EE.out.trans hE)
          clear hE
          obtain ⟨W7, hW⟩ : ∃ W, W = (w6.alloc (.cells #[.bool (sg v), .int .u64 (l0 v : Int), .int .u64 (l1 v : Int), .int .u64 (l2 v : Int), .int .u64 (l3 v : Int)] 25)) := ⟨_, rfl⟩
          rw [← hW] at H2 EE P4 P5 P6 P7 P8 P9 P10 P11 ⊢
          obtain ⟨g8, hg⟩ : ∃ g, w6.heap.size = g := ⟨_, rfl⟩
          rw [hg] at H2 lP4 lP5 lP6 lP7 lP8 lP9 lP10 lP11 ⊢
          have P13 : Box W7 g8 (sg v) (l0 v) (l1 v) (l2 v) (l3 v) := H2
          clear hW hg
          have ngP4P13 : g0 ≠ g8 := by omega
          have ngP5P13 : g0 + 1 ≠ g8 := by omega
          have ngP6P13 : g0 + 1 + 1 ≠ g8 := by omega
          have ngP7P13 : g0 + 1 + 1 + 1 ≠ g8 := by omega
          have ngP8P13 : g0 + 1 + 1 + 1 + 1 ≠ g8 := by omega
          have ngP9P13 : g0 + 1 + 1 + 1 + 1 + 1 ≠ g8 := by omega
          have ngP10P13 : g3 ≠ g8 := by omega
          have ngP11P13 : g3 + 1 ≠ g8 := by omega
          obtain ⟨xP60, xP61, xP62, xP63, xP64, -⟩ := five_cells P6; obtain ⟨xP130, xP131, xP132, xP133, xP134, -⟩ := five_cells P13
          go_upto_region 6 with (go_at_call 59; (with_reducible refine (kC.out _).mono ?_); rintro e w9 ⟨rfl, hE⟩; clear xP60 xP61 xP62 xP63 xP64 xP130 xP131 xP132 xP133 xP134; have P4 := P4.ext hE; have P5 := P5.ext hE; have P6 := P6.ext hE; have P7 := P7.ext hE; have P8 := P8.ext hE; have P9 := P9.ext hE; have P10 := P10.ext hE; have P11 := P11.ext hE; have P13 := P13.ext hE; have EE := hide (EE.out.trans hE); clear hE; obtain ⟨xP60, xP61, xP62, xP63, xP64, -⟩ := five_cells P6; obtain ⟨xP130, xP131, xP132, xP133, xP134, -⟩ := five_cells P13)
          clear xP60 xP61 xP62 xP63 xP64 xP130 xP131 xP132 xP133 xP134
          have lbP4 := P4.lt
          have lbP5 := P5.lt
          have lbP6 := P6.lt
          have lbP7 := P7.lt
          have lbP8 := P8.lt
          have lbP9 := P9.lt
          have lbP10 := P10.lt
          have lbP11 := P11.lt
          have lbP13 := P13.lt
          have ltW0 : ∀ c, Tag.so c ∈ [.q, .q, .so 0, .so 1] → (fun i => match i with | 0 => g0 + 1 + 1 + 1 + 1 | _ => g0 + 1 + 1 + 1 + 1 + 1) c < w9.heap.size := by intro c hc; simp at hc; rcases hc with rfl | rfl <;> (try simp only) <;> omega
          refine wp_decl [.q, .q, .so 0, .so 1] [.agg #[.bool (sg n), .int .u64 (l0 n : Int), .int .u64 (l1 n : Int), .int .u64 (l2 n : Int), .int .u64 (l3 n : Int)], .agg #[.bool (sg 1), .int .u64 (l0 1 : Int), .int .u64 (l1 1 : Int), .int .u64 (l2 1 : Int), .int .u64 (l3 1 : Int)], undef, undef] (fun _ => (.cells #[.bool false, .int .u64 0, .int .u64 0, .int .u64 0, .int .u64 0] 25 (0, 0))) (fun i => match i with | 2 => (.cells #[.bool (sg n), .int .u64 (l0 n : Int), .int .u64 (l1 n : Int), .int .u64 (l2 n : Int), .int .u64 (l3 n : Int)] 25 (0, 0)) | _ => (.cells #[.bool (sg 1), .int .u64 (l0 1 : Int), .int .u64 (l1 1 : Int), .int .u64 (l2 1 : Int), .int .u64 (l3 1 : Int)] 25 (0, 0))) (fun i => match i with | 0 => g0 + 1 + 1 + 1 + 1 | _ => g0 + 1 + 1 + 1 + 1 + 1) (by kernel_rfl) (by kernel_rfl) (by kernel_rfl) rfl rfl ltW0 (by intro c c' h1 h2 h3; simp at h1 h2; rcases h1 with rfl | rfl <;> rcases h2 with rfl | rfl <;> simp only at h3 <;> omega) ?_ ?_
          · refine ⟨?_, ?_, ?_, ?_, trivial⟩
            · refine op_q ?uvn28 ?h1n28 ?h2n28 ?h3n28
              case h1n28 => exact rfl
              case uvn28 => exact (.agg #[.bool (sg n), .int .u64 (l0 n : Int), .int .u64 (l1 n : Int), .int .u64 (l2 n : Int), .int .u64 (l3 n : Int)])
              case h2n28 => exact rfl
              intro w' hw'
              have P10 := P10.same hw' (by intro c hc; simp at hc; rcases hc with rfl | rfl <;> (try simp only) <;> omega)
              have xP10 := five_cells P10
              go_simp
            · refine op_q ?uvn29 ?h1n29 ?h2n29 ?h3n29
              case h1n29 => exact rfl
              case uvn29 => exact (.agg #[.bool (sg 1), .int .u64 (l0 1 : Int), .int .u64 (l1 1 : Int), .int .u64 (l2 1 : Int), .int .u64 (l3 1 : Int)])
              case h2n29 => exact rfl
              intro w' hw'
              go_simp
              exact kO.out w'
            · refine op_so (c := 0) (T := ?uTn30) (p := ?upn30) (x := ?uxn30) ?ugn30 ?ufn30 ?uvn30 ?h1n30 ?h2n30 ?h3n30 ?h4n30 ?h5n30 ?h6n30 ?h7n30
              case h1n30 => exact rfl
              case h2n30 => exact rfl
              case ufn30 => exact (.cells #[.bool (sg n), .int .u64 (l0 n : Int), .int .u64 (l1 n : Int), .int .u64 (l2 n : Int), .int .u64 (l3 n : Int)] 25 (0, 0))
              case ugn30 => exact g0 + 1 + 1 + 1 + 1
              case uvn30 => exact (.agg #[.bool (sg n), .int .u64 (l0 n : Int), .int .u64 (l1 n : Int), .int .u64 (l2 n : Int), .int .u64 (l3 n : Int)])
              case h3n30 => exact rfl
              case h4n30 => exact rfl
              case h5n30 => go_simp; rfl
              case h6n30 => go_simp
              intro ρ w' hp hx hz
              exact store_wide rfl hp hx (hz.trans P8)
            · refine op_so (c := 1) (T := ?uTn31) (p := ?upn31) (x := ?uxn31) ?ugn31 ?ufn31 ?uvn31 ?h1n31 ?h2n31 ?h3n31 ?h4n31 ?h5n31 ?h6n31 ?h7n31
              case h1n31 => exact rfl
              case h2n31 => exact rfl
              case ufn31 => exact (.cells #[.bool (sg 1), .int .u64 (l0 1 : Int), .int .u64 (l1 1 : Int), .int .u64 (l2 1 : Int), .int .u64 (l3 1 : Int)] 25 (0, 0))
              case ugn31 => exact g0 + 1 + 1 + 1 + 1 + 1
              case uvn31 => exact (.agg #[.bool (sg 1), .int .u64 (l0 1 : Int), .int .u64 (l1 1 : Int), .int .u64 (l2 1 : Int), .int .u64 (l3 1 : Int)])
              case h3n31 => exact rfl
              case h4n31 => exact rfl
              case h5n31 => go_simp; rfl
              case h6n31 => go_simp
              intro ρ w' hp hx hz
              exact store_wide rfl hp hx (hz.trans P9)
          · intro G W10 hI
            have hS := hI.same
            have P4 := P4.same hS (by intro c hc; simp at hc; rcases hc with rfl | rfl <;> (try simp only) <;> omega)
            have P5 := P5.same hS (by intro c hc; simp at hc; rcases hc with rfl | rfl <;> (try simp only) <;> omega)
            have P6 := P6.same hS (by intro c hc; simp at hc; rcases hc with rfl | rfl <;> (try simp only) <;> omega)
            have P7 := P7.same hS (by intro c hc; simp at hc; rcases hc with rfl | rfl <;> (try simp only) <;> omega)
            have P10 := P10.same hS (by intro c hc; simp at hc; rcases hc with rfl | rfl <;> (try simp only) <;> omega)
            have P11 := P11.same hS (by intro c hc; simp at hc; rcases hc with rfl | rfl <;> (try simp only) <;> omega)
            have P13 := P13.same hS (by intro c hc; simp at hc; rcases hc with rfl | rfl <;> (try simp only) <;> omega)
            have hso : ∀ c, Tag.so c ∈ [.q, .q, .so 0, .so 1] → w.heap.size ≤ (fun i => match i with | 0 => g0 + 1 + 1 + 1 + 1 | _ => g0 + 1 + 1 + 1 + 1 + 1) c := by intro c hc; simp at hc; rcases hc with rfl | rfl <;> (try simp only) <;> omega
            have EE := hide (hS.ext' EE.out hso)
            have P8 : Box W10 (g0 + 1 + 1 + 1 + 1) (sg n) (l0 n) (l1 n) (l2 n) (l3 n) := hI.olds' 2 (List.mem_range.2 (show 2 < 4 by decide)) 0 rfl
            have P9 : Box W10 (g0 + 1 + 1 + 1 + 1 + 1) (sg 1) (l0 1) (l1 1) (l2 1) (l3 1) := hI.olds' 3 (List.mem_range.2 (show 3 < 4 by decide)) 1 rfl
            clear hI hS
            simp only [putAll, slotV, ptrTo, Nat.zero_add, Nat.reduceAdd]
            go_wp2_with fail
            obtain ⟨xP80, xP81, xP82, xP83, xP84, xP8f0, xP8f1, xP8f2, xP8f3, xP8f4⟩ := five_cells P8; obtain ⟨xP90, xP91, xP92, xP93, xP94, xP9f0, xP9f1, xP9f2, xP9f3, xP9f4⟩ := five_cells P9
            exact bodyPost_ret (v := .tuple #[.agg #[.bool (sg n), .int .u64 (l0 n : Int), .int .u64 (l1 n : Int), .int .u64 (l2 n : Int), .int .u64 (l3 n : Int)], .agg #[.bool (sg 1), .int .u64 (l0 1 : Int), .int .u64 (l1 1 : Int), .int .u64 (l2 1 : Int), .int .u64 (l3 1 : Int)]]) (by simp [results, Try.results119, go_sem, xP80, xP81, xP82, xP83, xP84, xP90, xP91, xP92, xP93, xP94]) rfl ⟨rfl, EE.out⟩
end Go.Proofs.Ytbnbkondbdakeaa
