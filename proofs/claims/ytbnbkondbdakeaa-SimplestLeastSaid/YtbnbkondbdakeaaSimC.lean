/- The program's package simplest: the simplest fraction of an interval of positive numbers. Conditions: the numbers fit. -/
import Derived.Test.YtbnbkondbdakeaaSimB
import Derived.Test.YtbnbkondbdakeaaDeclW
import Derived.Test.YtbnbkondbdakeaaBest
namespace Go.Proofs.Ytbnbkondbdakeaa
set_option linter.unusedVariables false
set_option linter.unusedSimpArgs false
open Go Go.RowKit Go.Sort
attribute [local go_sem] qUpon putAll slotV
theorem f256_of {z : Int} (h : z.natAbs < 170141183460469231731687303715884105728) : F256 z := F256.mk h
theorem natAbs_of_nonneg {z B : Int} (h0 : 0 ≤ z) (h : z ≤ B) : z.natAbs ≤ B.natAbs := by omega
set_option maxRecDepth 100000 in
set_option maxHeartbeats 8000000 in
theorem s_bp : ∀ (k : Nat) (a b c d n m : Int), (b + d).toNat < k → 0 < a → 0 < b → 0 < d → a * d ≤ c * b → a.natAbs < 170141183460469231731687303715884105728 → b.natAbs < 170141183460469231731687303715884105728 → c.natAbs < 170141183460469231731687303715884105728 → d.natAbs < 170141183460469231731687303715884105728 → Best a b c d n m → ∀ w : World, Calls Try.prog 76 #[.agg #[.bool (sg a), .int .u64 (l0 a : Int), .int .u64 (l1 a : Int), .int .u64 (l2 a : Int), .int .u64 (l3 a : Int), .bool (sg b), .int .u64 (l0 b : Int), .int .u64 (l1 b : Int), .int .u64 (l2 b : Int), .int .u64 (l3 b : Int)], .agg #[.bool (sg c), .int .u64 (l0 c : Int), .int .u64 (l1 c : Int), .int .u64 (l2 c : Int), .int .u64 (l3 c : Int), .bool (sg d), .int .u64 (l0 d : Int), .int .u64 (l1 d : Int), .int .u64 (l2 d : Int), .int .u64 (l3 d : Int)]] w (Ret (.agg #[.bool (sg n), .int .u64 (l0 n : Int), .int .u64 (l1 n : Int), .int .u64 (l2 n : Int), .int .u64 (l3 n : Int), .bool (sg m), .int .u64 (l0 m : Int), .int .u64 (l1 m : Int), .int .u64 (l2 m : Int), .int .u64 (l3 m : Int)]) w)
  | 0, _, _, _, _, _, _, hk, _, _, _, _, _, _, _, _, _, _ => by omega
  | k + 1, a, b, c, d, n, m, hk, ha, hb, hd, hle, sa, sb, sc, sd, B, w => by
    obtain ⟨q, hq⟩ : ∃ q, a / b = q := ⟨_, rfl⟩
    obtain ⟨r, hr⟩ : ∃ q, a % b = q := ⟨_, rfl⟩
    obtain ⟨p, hp⟩ : ∃ q, c / d = q := ⟨_, rfl⟩
    obtain ⟨t, ht⟩ : ∃ q, c % d = q := ⟨_, rfl⟩
    have q0 : 0 ≤ q := by rw [← hq]; exact Int.ediv_nonneg (by omega) (by omega)
    have qa : q ≤ a := by rw [← hq]; exact Int.ediv_le_self _ (by omega)
    have r0 : 0 ≤ r := by rw [← hr]; exact Int.emod_nonneg _ (by omega)
    have rb : r < b := by rw [← hr]; exact Int.emod_lt_of_pos _ hb
    have t0 : 0 ≤ t := by rw [← ht]; exact Int.emod_nonneg _ (by omega)
    have td : t < d := by rw [← ht]; exact Int.emod_lt_of_pos _ hd
    have pc : p.natAbs ≤ c.natAbs := by rw [← hp]; exact Int.natAbs_ediv_le_natAbs _ _
    have fa := f256_of sa
    have fb := f256_of sb
    have fc := f256_of sc
    have fd := f256_of sd
    have fq : F256 q := f256_of (by omega)
    have fr : F256 r := f256_of (by omega)
    have fp : F256 p := f256_of (by omega)
    have ft : F256 t := f256_of (by omega)
    have BS := (B.small hb hd hle).1
    have n0 := B.pos ha hb
    have m0 := B.1
    have kD : Hid (∀ w, Calls Try.prog 65 #[.agg #[.bool (sg a), .int .u64 (l0 a : Int), .int .u64 (l1 a : Int), .int .u64 (l2 a : Int), .int .u64 (l3 a : Int)], .agg #[.bool (sg b), .int .u64 (l0 b : Int), .int .u64 (l1 b : Int), .int .u64 (l2 b : Int), .int .u64 (l3 b : Int)]] w (Ret (.tuple #[.agg #[.bool (sg q), .int .u64 (l0 q : Int), .int .u64 (l1 q : Int), .int .u64 (l2 q : Int), .int .u64 (l3 q : Int)], .agg #[.bool (sg r), .int .u64 (l0 r : Int), .int .u64 (l1 r : Int), .int .u64 (l2 r : Int), .int .u64 (l3 r : Int)], .bool true]) w)) := fun w => c_div fa fb (by omega) hq hr w
    by_cases h0 : r = 0
    · obtain ⟨en, em⟩ := Best.unique hb hd B (best_whole ha hb hd hle (by rw [hr]; exact h0))
      rw [hq] at en
      subst en em
      replace kD := kD
      have kS : Hid (∀ w, Calls Try.prog 62 #[.agg #[.bool (sg r), .int .u64 (l0 r : Int), .int .u64 (l1 r : Int), .int .u64 (l2 r : Int), .int .u64 (l3 r : Int)]] w (Ret (.int .i64 0) w)) := fun w => c_sign fr (by rw [h0]; simp) w
      have kI : Hid (∀ w, Calls Try.prog 121 #[.agg #[.bool (sg n), .int .u64 (l0 n : Int), .int .u64 (l1 n : Int), .int .u64 (l2 n : Int), .int .u64 (l3 n : Int)]] w (Ret (.agg #[.bool (sg n), .int .u64 (l0 n : Int), .int .u64 (l1 n : Int), .int .u64 (l2 n : Int), .int .u64 (l3 n : Int), .bool (sg 1), .int .u64 (l0 1 : Int), .int .u64 (l1 1 : Int), .int .u64 (l2 1 : Int), .int .u64 (l3 1 : Int)]) w)) := fun w => s_integer fq w
      clear hq hr hp ht q0 qa r0 rb t0 td pc fa fb fc fd fq fr fp ft BS n0 m0 hk ha hb hd hle sa sb sc sd B h0
      obtain ⟨W0, hW0⟩ : ∃ W0, W0 = (((w.alloc (.cells #[.bool (sg a), .int .u64 (l0 a : Int), .int .u64 (l1 a : Int), .int .u64 (l2 a : Int), .int .u64 (l3 a : Int), .bool (sg b), .int .u64 (l0 b : Int), .int .u64 (l1 b : Int), .int .u64 (l2 b : Int), .int .u64 (l3 b : Int)] 35)).alloc (.cells #[.bool (sg c), .int .u64 (l0 c : Int), .int .u64 (l1 c : Int), .int .u64 (l2 c : Int), .int .u64 (l3 c : Int), .bool (sg d), .int .u64 (l0 d : Int), .int .u64 (l1 d : Int), .int .u64 (l2 d : Int), .int .u64 (l3 d : Int)] 35)).alloc (.cells #[.bool false, .int .u64 0, .int .u64 0, .int .u64 0, .int .u64 0, .bool false, .int .u64 0, .int .u64 0, .int .u64 0, .int .u64 0] 35)) := ⟨_, rfl⟩
      have H2 := three_boxes w (.cells #[.bool (sg a), .int .u64 (l0 a : Int), .int .u64 (l1 a : Int), .int .u64 (l2 a : Int), .int .u64 (l3 a : Int), .bool (sg b), .int .u64 (l0 b : Int), .int .u64 (l1 b : Int), .int .u64 (l2 b : Int), .int .u64 (l3 b : Int)] 35) (.cells #[.bool (sg c), .int .u64 (l0 c : Int), .int .u64 (l1 c : Int), .int .u64 (l2 c : Int), .int .u64 (l3 c : Int), .bool (sg d), .int .u64 (l0 d : Int), .int .u64 (l1 d : Int), .int .u64 (l2 d : Int), .int .u64 (l3 d : Int)] 35) (.cells #[.bool false, .int .u64 0, .int .u64 0, .int .u64 0, .int .u64 0, .bool false, .int .u64 0, .int .u64 0, .int .u64 0, .int .u64 0] 35)
      have EE0 : Ext w W0 := by rw [hW0]; exact (((ext_alloc _ _).trans (ext_alloc _ _)).trans (ext_alloc _ _))
      rw [← hW0] at H2
      have EE := hide EE0
      have HW := hide hW0
      obtain ⟨P2, P3, P4⟩ : Box10 W0 (w.heap.size) (sg a) (l0 a) (l1 a) (l2 a) (l3 a) (sg b) (l0 b) (l1 b) (l2 b) (l3 b) ∧ Box10 W0 ((w.heap.size + 1)) (sg c) (l0 c) (l1 c) (l2 c) (l3 c) (sg d) (l0 d) (l1 d) (l2 d) (l3 d) ∧ Box10 W0 ((w.heap.size + 1 + 1)) false 0 0 0 0 false 0 0 0 0 := H2
      clear hW0 EE0
      go_enter Try.func76, Try.ntmps76
      go_upto_region 1 with fail
      rw [← HW.out]
      clear HW
      have hg0 : w.heap.size ≤ w.heap.size := Nat.le_refl _
      obtain ⟨g0, hg⟩ : ∃ g, w.heap.size = g := ⟨_, rfl⟩
      rw [hg] at P2 P3 P4 ⊢
      replace hg0 : w.heap.size ≤ g0 := Nat.le_of_eq hg
      clear hg
      obtain ⟨xP20, xP21, xP22, xP23, xP24, xP25, xP26, xP27, xP28, xP29, -⟩ := ten_cells P2
      go_upto_region 2 with (go_at_call 65; (with_reducible refine (kD.out _).mono ?_); rintro e w1 ⟨rfl, hE⟩; clear xP20 xP21 xP22 xP23 xP24 xP25 xP26 xP27 xP28 xP29; have P2 := P2.ext hE; have P3 := P3.ext hE; have P4 := P4.ext hE; have EE := hide (EE.out.trans hE); clear hE; obtain ⟨xP20, xP21, xP22, xP23, xP24, xP25, xP26, xP27, xP28, xP29, -⟩ := ten_cells P2)
      clear xP20 xP21 xP22 xP23 xP24 xP25 xP26 xP27 xP28 xP29
      have H2 := two_blocks w1 (.cells #[.bool (sg n), .int .u64 (l0 n : Int), .int .u64 (l1 n : Int), .int .u64 (l2 n : Int), .int .u64 (l3 n : Int)] 25) (.cells #[.bool (sg r), .int .u64 (l0 r : Int), .int .u64 (l1 r : Int), .int .u64 (l2 r : Int), .int .u64 (l3 r : Int)] 25)
      have lP2 := P2.lt
      have lP3 := P3.lt
      have lP4 := P4.lt
      have hE := ((ext_alloc w1 (.cells #[.bool (sg n), .int .u64 (l0 n : Int), .int .u64 (l1 n : Int), .int .u64 (l2 n : Int), .int .u64 (l3 n : Int)] 25)).trans (ext_alloc _ (.cells #[.bool (sg r), .int .u64 (l0 r : Int), .int .u64 (l1 r : Int), .int .u64 (l2 r : Int), .int .u64 (l3 r : Int)] 25)))
      have P2 := P2.ext hE
      have P3 := P3.ext hE
      have P4 := P4.ext hE
      have EE := hide (EE.out.trans hE)
      clear hE
      obtain ⟨W2, hW⟩ : ∃ W, W = ((w1.alloc (.cells #[.bool (sg n), .int .u64 (l0 n : Int), .int .u64 (l1 n : Int), .int .u64 (l2 n : Int), .int .u64 (l3 n : Int)] 25)).alloc (.cells #[.bool (sg r), .int .u64 (l0 r : Int), .int .u64 (l1 r : Int), .int .u64 (l2 r : Int), .int .u64 (l3 r : Int)] 25)) := ⟨_, rfl⟩
      rw [← hW] at H2 EE P2 P3 P4 ⊢
      obtain ⟨g3, hg⟩ : ∃ g, w1.heap.size = g := ⟨_, rfl⟩
      rw [hg] at H2 lP2 lP3 lP4 ⊢
      obtain ⟨P5, P6⟩ : Box W2 g3 (sg n) (l0 n) (l1 n) (l2 n) (l3 n) ∧ Box W2 (g3 + 1) (sg r) (l0 r) (l1 r) (l2 r) (l3 r) := H2
      clear hW hg
      have ngP2P5 : g0 ≠ g3 := by omega
      have ngP2P6 : g0 ≠ g3 + 1 := by omega
      have ngP3P5 : g0 + 1 ≠ g3 := by omega
      have ngP3P6 : g0 + 1 ≠ g3 + 1 := by omega
      have ngP4P5 : g0 + 1 + 1 ≠ g3 := by omega
      have ngP4P6 : g0 + 1 + 1 ≠ g3 + 1 := by omega
      obtain ⟨xP60, xP61, xP62, xP63, xP64, -⟩ := five_cells P6
      go_upto_region 3 with (go_at_call 62; (with_reducible refine (kS.out _).mono ?_); rintro e w4 ⟨rfl, hE⟩; clear xP60 xP61 xP62 xP63 xP64; have P2 := P2.ext hE; have P3 := P3.ext hE; have P4 := P4.ext hE; have P5 := P5.ext hE; have P6 := P6.ext hE; have EE := hide (EE.out.trans hE); clear hE; obtain ⟨xP60, xP61, xP62, xP63, xP64, -⟩ := five_cells P6)
      clear xP60 xP61 xP62 xP63 xP64
      obtain ⟨xP50, xP51, xP52, xP53, xP54, -⟩ := five_cells P5; obtain ⟨xP40, xP41, xP42, xP43, xP44, xP45, xP46, xP47, xP48, xP49, xP4f0, xP4f1, xP4f2, xP4f3, xP4f4, xP4f5, xP4f6, xP4f7, xP4f8, xP4f9⟩ := ten_cells P4
      go_wp2_with (first
        | (go_at_call 121; (with_reducible refine (kI.out _).mono ?_); rintro e w5 ⟨rfl, hE⟩; clear xP50 xP51 xP52 xP53 xP54; clear xP40 xP41 xP42 xP43 xP44 xP45 xP46 xP47 xP48 xP49 xP4f0 xP4f1 xP4f2 xP4f3 xP4f4 xP4f5 xP4f6 xP4f7 xP4f8 xP4f9; have P2 := P2.ext hE; have P3 := P3.ext hE; have P4 := P4.ext hE; have P5 := P5.ext hE; have P6 := P6.ext hE; have EE := hide (EE.out.trans hE); clear hE; obtain ⟨xP50, xP51, xP52, xP53, xP54, -⟩ := five_cells P5; obtain ⟨xP40, xP41, xP42, xP43, xP44, xP45, xP46, xP47, xP48, xP49, xP4f0, xP4f1, xP4f2, xP4f3, xP4f4, xP4f5, xP4f6, xP4f7, xP4f8, xP4f9⟩ := ten_cells P4))
      exact bodyPost_ret (v := .agg #[.bool (sg n), .int .u64 (l0 n : Int), .int .u64 (l1 n : Int), .int .u64 (l2 n : Int), .int .u64 (l3 n : Int), .bool (sg 1), .int .u64 (l0 1 : Int), .int .u64 (l1 1 : Int), .int .u64 (l2 1 : Int), .int .u64 (l3 1 : Int)]) (by simp [results, Try.results76, go_sem, xP40, xP41, xP42, xP43, xP44, xP45, xP46, xP47, xP48, xP49]) rfl ⟨rfl, ext_ten EE.out (by omega) _ _ _ _ _ _ _ _ _ _⟩
    · have hr0 : a % b ≠ 0 := by rw [hr]; exact h0
      have kS : Hid (∀ w, Calls Try.prog 62 #[.agg #[.bool (sg r), .int .u64 (l0 r : Int), .int .u64 (l1 r : Int), .int .u64 (l2 r : Int), .int .u64 (l3 r : Int)]] w (Ret (.int .i64 1) w)) := fun w => c_sign fr (Int.sign_eq_one_of_pos (by omega)) w
      have kE : Hid (∀ w, Calls Try.prog 65 #[.agg #[.bool (sg c), .int .u64 (l0 c : Int), .int .u64 (l1 c : Int), .int .u64 (l2 c : Int), .int .u64 (l3 c : Int)], .agg #[.bool (sg d), .int .u64 (l0 d : Int), .int .u64 (l1 d : Int), .int .u64 (l2 d : Int), .int .u64 (l3 d : Int)]] w (Ret (.tuple #[.agg #[.bool (sg p), .int .u64 (l0 p : Int), .int .u64 (l1 p : Int), .int .u64 (l2 p : Int), .int .u64 (l3 p : Int)], .agg #[.bool (sg t), .int .u64 (l0 t : Int), .int .u64 (l1 t : Int), .int .u64 (l2 t : Int), .int .u64 (l3 t : Int)], .bool true]) w)) := fun w => c_div fc fd (by omega) hp ht w
      by_cases h1 : q = p
      · have hqp : a / b = c / d := by rw [hq, hp]; exact h1
        obtain ⟨z1, z2, t1, z3, hl⟩ := rest_ways ha hb hd hle hr0 hqp
        rw [hr, ht] at hl
        rw [ht] at t1
        obtain ⟨n', m', B'⟩ := best_some (a := d) (b := t) (c := b) (d := r) t1 (by omega) hl
        have BS' := (B'.small t1 (by omega) hl).1
        have n'0 := B'.pos hd t1
        have m'0 := B'.1
        obtain ⟨en, em⟩ := Best.unique hb hd B (best_rec ha hb hd hr0 (by rw [ht]; exact t1) hqp (by rw [hr, ht]; exact B'))
        rw [hq] at en
        subst em h1
        obtain ⟨v, hv⟩ : ∃ v, q * m = v := ⟨_, rfl⟩
        rw [hv] at en
        have v0 : 0 ≤ v := by rw [← hv]; exact Int.mul_nonneg q0 (by omega)
        have fv : F256 v := f256_of (by omega)
        have fm : F256 m := f256_of (by omega)
        have fm' : F256 m' := f256_of (by omega)
        have fn : F256 n := f256_of (by omega)
        have kR : Hid (∀ w, Calls Try.prog 76 #[.agg #[.bool (sg d), .int .u64 (l0 d : Int), .int .u64 (l1 d : Int), .int .u64 (l2 d : Int), .int .u64 (l3 d : Int), .bool (sg t), .int .u64 (l0 t : Int), .int .u64 (l1 t : Int), .int .u64 (l2 t : Int), .int .u64 (l3 t : Int)], .agg #[.bool (sg b), .int .u64 (l0 b : Int), .int .u64 (l1 b : Int), .int .u64 (l2 b : Int), .int .u64 (l3 b : Int), .bool (sg r), .int .u64 (l0 r : Int), .int .u64 (l1 r : Int), .int .u64 (l2 r : Int), .int .u64 (l3 r : Int)]] w (Ret (.agg #[.bool (sg m), .int .u64 (l0 m : Int), .int .u64 (l1 m : Int), .int .u64 (l2 m : Int), .int .u64 (l3 m : Int), .bool (sg m'), .int .u64 (l0 m' : Int), .int .u64 (l1 m' : Int), .int .u64 (l2 m' : Int), .int .u64 (l3 m' : Int)]) w)) := fun w => s_bp k d t b r m m' (by omega) hd t1 (by omega) hl sd (by omega) sb (by omega) B' w
        have kM : Hid (∀ w, Calls Try.prog 118 #[.agg #[.bool (sg q), .int .u64 (l0 q : Int), .int .u64 (l1 q : Int), .int .u64 (l2 q : Int), .int .u64 (l3 q : Int)], .agg #[.bool (sg m), .int .u64 (l0 m : Int), .int .u64 (l1 m : Int), .int .u64 (l2 m : Int), .int .u64 (l3 m : Int)]] w (Ret (.tuple #[.agg #[.bool (sg v), .int .u64 (l0 v : Int), .int .u64 (l1 v : Int), .int .u64 (l2 v : Int), .int .u64 (l3 v : Int)], .bool true]) w)) := fun w => c_mul fq fm hv fv w
        have kA : Hid (∀ w, Calls Try.prog 117 #[.agg #[.bool (sg v), .int .u64 (l0 v : Int), .int .u64 (l1 v : Int), .int .u64 (l2 v : Int), .int .u64 (l3 v : Int)], .agg #[.bool (sg m'), .int .u64 (l0 m' : Int), .int .u64 (l1 m' : Int), .int .u64 (l2 m' : Int), .int .u64 (l3 m' : Int)]] w (Ret (.tuple #[.agg #[.bool (sg n), .int .u64 (l0 n : Int), .int .u64 (l1 n : Int), .int .u64 (l2 n : Int), .int .u64 (l3 n : Int)], .bool true]) w)) := fun w => c_add fv fm' en.symm fn w
        have qe := neWs q
        clear hq hr hp ht q0 qa r0 rb t0 td pc fa fb fc fd fq fr fp ft BS n0 m0 hk ha hb hd hle sa sb sc sd B z1 z2 z3 hr0 h0 hqp t1 hl B' BS' n'0 m'0 en hv v0 fv fm fm' fn
        obtain ⟨W0, hW0⟩ : ∃ W0, W0 = (((w.alloc (.cells #[.bool (sg a), .int .u64 (l0 a : Int), .int .u64 (l1 a : Int), .int .u64 (l2 a : Int), .int .u64 (l3 a : Int), .bool (sg b), .int .u64 (l0 b : Int), .int .u64 (l1 b : Int), .int .u64 (l2 b : Int), .int .u64 (l3 b : Int)] 35)).alloc (.cells #[.bool (sg c), .int .u64 (l0 c : Int), .int .u64 (l1 c : Int), .int .u64 (l2 c : Int), .int .u64 (l3 c : Int), .bool (sg d), .int .u64 (l0 d : Int), .int .u64 (l1 d : Int), .int .u64 (l2 d : Int), .int .u64 (l3 d : Int)] 35)).alloc (.cells #[.bool false, .int .u64 0, .int .u64 0, .int .u64 0, .int .u64 0, .bool false, .int .u64 0, .int .u64 0, .int .u64 0, .int .u64 0] 35)) := ⟨_, rfl⟩
        have H2 := three_boxes w (.cells #[.bool (sg a), .int .u64 (l0 a : Int), .int .u64 (l1 a : Int), .int .u64 (l2 a : Int), .int .u64 (l3 a : Int), .bool (sg b), .int .u64 (l0 b : Int), .int .u64 (l1 b : Int), .int .u64 (l2 b : Int), .int .u64 (l3 b : Int)] 35) (.cells #[.bool (sg c), .int .u64 (l0 c : Int), .int .u64 (l1 c : Int), .int .u64 (l2 c : Int), .int .u64 (l3 c : Int), .bool (sg d), .int .u64 (l0 d : Int), .int .u64 (l1 d : Int), .int .u64 (l2 d : Int), .int .u64 (l3 d : Int)] 35) (.cells #[.bool false, .int .u64 0, .int .u64 0, .int .u64 0, .int .u64 0, .bool false, .int .u64 0, .int .u64 0, .int .u64 0, .int .u64 0] 35)
        have EE0 : Ext w W0 := by rw [hW0]; exact (((ext_alloc _ _).trans (ext_alloc _ _)).trans (ext_alloc _ _))
        rw [← hW0] at H2
        have EE := hide EE0
        have HW := hide hW0
        obtain ⟨P2, P3, P4⟩ : Box10 W0 (w.heap.size) (sg a) (l0 a) (l1 a) (l2 a) (l3 a) (sg b) (l0 b) (l1 b) (l2 b) (l3 b) ∧ Box10 W0 ((w.heap.size + 1)) (sg c) (l0 c) (l1 c) (l2 c) (l3 c) (sg d) (l0 d) (l1 d) (l2 d) (l3 d) ∧ Box10 W0 ((w.heap.size + 1 + 1)) false 0 0 0 0 false 0 0 0 0 := H2
        clear hW0 EE0
        go_enter Try.func76, Try.ntmps76
        go_upto_region 1 with fail
        rw [← HW.out]
        clear HW
        have hg0 : w.heap.size ≤ w.heap.size := Nat.le_refl _
        obtain ⟨g0, hg⟩ : ∃ g, w.heap.size = g := ⟨_, rfl⟩
        rw [hg] at P2 P3 P4 ⊢
        replace hg0 : w.heap.size ≤ g0 := Nat.le_of_eq hg
        clear hg
        obtain ⟨xP20, xP21, xP22, xP23, xP24, xP25, xP26, xP27, xP28, xP29, -⟩ := ten_cells P2
        go_upto_region 2 with (go_at_call 65; (with_reducible refine (kD.out _).mono ?_); rintro e w1 ⟨rfl, hE⟩; clear xP20 xP21 xP22 xP23 xP24 xP25 xP26 xP27 xP28 xP29; have P2 := P2.ext hE; have P3 := P3.ext hE; have P4 := P4.ext hE; have EE := hide (EE.out.trans hE); clear hE; obtain ⟨xP20, xP21, xP22, xP23, xP24, xP25, xP26, xP27, xP28, xP29, -⟩ := ten_cells P2)
        clear xP20 xP21 xP22 xP23 xP24 xP25 xP26 xP27 xP28 xP29
        have H2 := two_blocks w1 (.cells #[.bool (sg q), .int .u64 (l0 q : Int), .int .u64 (l1 q : Int), .int .u64 (l2 q : Int), .int .u64 (l3 q : Int)] 25) (.cells #[.bool (sg r), .int .u64 (l0 r : Int), .int .u64 (l1 r : Int), .int .u64 (l2 r : Int), .int .u64 (l3 r : Int)] 25)
        have lP2 := P2.lt
        have lP3 := P3.lt
        have lP4 := P4.lt
        have hE := ((ext_alloc w1 (.cells #[.bool (sg q), .int .u64 (l0 q : Int), .int .u64 (l1 q : Int), .int .u64 (l2 q : Int), .int .u64 (l3 q : Int)] 25)).trans (ext_alloc _ (.cells #[.bool (sg r), .int .u64 (l0 r : Int), .int .u64 (l1 r : Int), .int .u64 (l2 r : Int), .int .u64 (l3 r : Int)] 25)))
        have P2 := P2.ext hE
        have P3 := P3.ext hE
        have P4 := P4.ext hE
        have EE := hide (EE.out.trans hE)
        clear hE
        obtain ⟨W2, hW⟩ : ∃ W, W = ((w1.alloc (.cells #[.bool (sg q), .int .u64 (l0 q : Int), .int .u64 (l1 q : Int), .int .u64 (l2 q : Int), .int .u64 (l3 q : Int)] 25)).alloc (.cells #[.bool (sg r), .int .u64 (l0 r : Int), .int .u64 (l1 r : Int), .int .u64 (l2 r : Int), .int .u64 (l3 r : Int)] 25)) := ⟨_, rfl⟩
        rw [← hW] at H2 EE P2 P3 P4 ⊢
        obtain ⟨g3, hg⟩ : ∃ g, w1.heap.size = g := ⟨_, rfl⟩
        rw [hg] at H2 lP2 lP3 lP4 ⊢
        obtain ⟨P5, P6⟩ : Box W2 g3 (sg q) (l0 q) (l1 q) (l2 q) (l3 q) ∧ Box W2 (g3 + 1) (sg r) (l0 r) (l1 r) (l2 r) (l3 r) := H2
        clear hW hg
        have ngP2P5 : g0 ≠ g3 := by omega
        have ngP2P6 : g0 ≠ g3 + 1 := by omega
        have ngP3P5 : g0 + 1 ≠ g3 := by omega
        have ngP3P6 : g0 + 1 ≠ g3 + 1 := by omega
        have ngP4P5 : g0 + 1 + 1 ≠ g3 := by omega
        have ngP4P6 : g0 + 1 + 1 ≠ g3 + 1 := by omega
        obtain ⟨xP60, xP61, xP62, xP63, xP64, -⟩ := five_cells P6
        go_upto_region 4 with (go_at_call 62; (with_reducible refine (kS.out _).mono ?_); rintro e w4 ⟨rfl, hE⟩; clear xP60 xP61 xP62 xP63 xP64; have P2 := P2.ext hE; have P3 := P3.ext hE; have P4 := P4.ext hE; have P5 := P5.ext hE; have P6 := P6.ext hE; have EE := hide (EE.out.trans hE); clear hE; obtain ⟨xP60, xP61, xP62, xP63, xP64, -⟩ := five_cells P6)
        clear xP60 xP61 xP62 xP63 xP64
        obtain ⟨xP30, xP31, xP32, xP33, xP34, xP35, xP36, xP37, xP38, xP39, -⟩ := ten_cells P3
        go_upto_region 5 with (go_at_call 65; (with_reducible refine (kE.out _).mono ?_); rintro e w5 ⟨rfl, hE⟩; clear xP30 xP31 xP32 xP33 xP34 xP35 xP36 xP37 xP38 xP39; have P2 := P2.ext hE; have P3 := P3.ext hE; have P4 := P4.ext hE; have P5 := P5.ext hE; have P6 := P6.ext hE; have EE := hide (EE.out.trans hE); clear hE; obtain ⟨xP30, xP31, xP32, xP33, xP34, xP35, xP36, xP37, xP38, xP39, -⟩ := ten_cells P3)
        clear xP30 xP31 xP32 xP33 xP34 xP35 xP36 xP37 xP38 xP39
        have H2 := two_blocks w5 (.cells #[.bool (sg q), .int .u64 (l0 q : Int), .int .u64 (l1 q : Int), .int .u64 (l2 q : Int), .int .u64 (l3 q : Int)] 25) (.cells #[.bool (sg t), .int .u64 (l0 t : Int), .int .u64 (l1 t : Int), .int .u64 (l2 t : Int), .int .u64 (l3 t : Int)] 25)
        have lP2 := P2.lt
        have lP3 := P3.lt
        have lP4 := P4.lt
        have lP5 := P5.lt
        have lP6 := P6.lt
        have hE := ((ext_alloc w5 (.cells #[.bool (sg q), .int .u64 (l0 q : Int), .int .u64 (l1 q : Int), .int .u64 (l2 q : Int), .int .u64 (l3 q : Int)] 25)).trans (ext_alloc _ (.cells #[.bool (sg t), .int .u64 (l0 t : Int), .int .u64 (l1 t : Int), .int .u64 (l2 t : Int), .int .u64 (l3 t : Int)] 25)))
        have P2 := P2.ext hE
        have P3 := P3.ext hE
        have P4 := P4.ext hE
        have P5 := P5.ext hE
        have P6 := P6.ext hE
        have EE := hide (EE.out.trans hE)
        clear hE
        obtain ⟨W6, hW⟩ : ∃ W, W = ((w5.alloc (.cells #[.bool (sg q), .int .u64 (l0 q : Int), .int .u64 (l1 q : Int), .int .u64 (l2 q : Int), .int .u64 (l3 q : Int)] 25)).alloc (.cells #[.bool (sg t), .int .u64 (l0 t : Int), .int .u64 (l1 t : Int), .int .u64 (l2 t : Int), .int .u64 (l3 t : Int)] 25)) := ⟨_, rfl⟩
        rw [← hW] at H2 EE P2 P3 P4 P5 P6 ⊢
        obtain ⟨g7, hg⟩ : ∃ g, w5.heap.size = g := ⟨_, rfl⟩
        rw [hg] at H2 lP2 lP3 lP4 lP5 lP6 ⊢
        obtain ⟨P8, P9⟩ : Box W6 g7 (sg q) (l0 q) (l1 q) (l2 q) (l3 q) ∧ Box W6 (g7 + 1) (sg t) (l0 t) (l1 t) (l2 t) (l3 t) := H2
        clear hW hg
        have ngP2P8 : g0 ≠ g7 := by omega
        have ngP2P9 : g0 ≠ g7 + 1 := by omega
        have ngP3P8 : g0 + 1 ≠ g7 := by omega
        have ngP3P9 : g0 + 1 ≠ g7 + 1 := by omega
        have ngP4P8 : g0 + 1 + 1 ≠ g7 := by omega
        have ngP4P9 : g0 + 1 + 1 ≠ g7 + 1 := by omega
        have ngP5P8 : g3 ≠ g7 := by omega
        have ngP5P9 : g3 ≠ g7 + 1 := by omega
        have ngP6P8 : g3 + 1 ≠ g7 := by omega
        have ngP6P9 : g3 + 1 ≠ g7 + 1 := by omega
        obtain ⟨xP50, xP51, xP52, xP53, xP54, -⟩ := five_cells P5; obtain ⟨xP80, xP81, xP82, xP83, xP84, -⟩ := five_cells P8
        go_upto_region 8 with fail
        clear xP50 xP51 xP52 xP53 xP54 xP80 xP81 xP82 xP83 xP84
        obtain ⟨xP20, xP21, xP22, xP23, xP24, xP25, xP26, xP27, xP28, xP29, -⟩ := ten_cells P2; obtain ⟨xP30, xP31, xP32, xP33, xP34, xP35, xP36, xP37, xP38, xP39, -⟩ := ten_cells P3; obtain ⟨xP60, xP61, xP62, xP63, xP64, -⟩ := five_cells P6; obtain ⟨xP90, xP91, xP92, xP93, xP94, -⟩ := five_cells P9
        go_upto_region 9 with (go_at_call 76; (with_reducible refine (kR.out _).mono ?_); rintro e w8 ⟨rfl, hE⟩; clear xP20 xP21 xP22 xP23 xP24 xP25 xP26 xP27 xP28 xP29 xP30 xP31 xP32 xP33 xP34 xP35 xP36 xP37 xP38 xP39 xP60 xP61 xP62 xP63 xP64 xP90 xP91 xP92 xP93 xP94; have P2 := P2.ext hE; have P3 := P3.ext hE; have P4 := P4.ext hE; have P5 := P5.ext hE; have P6 := P6.ext hE; have P8 := P8.ext hE; have P9 := P9.ext hE; have EE := hide (EE.out.trans hE); clear hE; obtain ⟨xP20, xP21, xP22, xP23, xP24, xP25, xP26, xP27, xP28, xP29, -⟩ := ten_cells P2; obtain ⟨xP30, xP31, xP32, xP33, xP34, xP35, xP36, xP37, xP38, xP39, -⟩ := ten_cells P3; obtain ⟨xP60, xP61, xP62, xP63, xP64, -⟩ := five_cells P6; obtain ⟨xP90, xP91, xP92, xP93, xP94, -⟩ := five_cells P9)
        clear xP20 xP21 xP22 xP23 xP24 xP25 xP26 xP27 xP28 xP29 xP30 xP31 xP32 xP33 xP34 xP35 xP36 xP37 xP38 xP39 xP60 xP61 xP62 xP63 xP64 xP90 xP91 xP92 xP93 xP94
        have H2 := heap_alloc_new w8 (.cells #[.bool (sg m), .int .u64 (l0 m : Int), .int .u64 (l1 m : Int), .int .u64 (l2 m : Int), .int .u64 (l3 m : Int), .bool (sg m'), .int .u64 (l0 m' : Int), .int .u64 (l1 m' : Int), .int .u64 (l2 m' : Int), .int .u64 (l3 m' : Int)] 35)
        have lP2 := P2.lt
        have lP3 := P3.lt
        have lP4 := P4.lt
        have lP5 := P5.lt
        have lP6 := P6.lt
        have lP8 := P8.lt
        have lP9 := P9.lt
        have hE := (ext_alloc w8 (.cells #[.bool (sg m), .int .u64 (l0 m : Int), .int .u64 (l1 m : Int), .int .u64 (l2 m : Int), .int .u64 (l3 m : Int), .bool (sg m'), .int .u64 (l0 m' : Int), .int .u64 (l1 m' : Int), .int .u64 (l2 m' : Int), .int .u64 (l3 m' : Int)] 35))
        have P2 := P2.ext hE
        have P3 := P3.ext hE
        have P4 := P4.ext hE
        have P5 := P5.ext hE
        have P6 := P6.ext hE
        have P8 := P8.ext hE
        have P9 := P9.ext hE
        have EE := hide (EE.out.trans hE)
        clear hE
        obtain ⟨W9, hW⟩ : ∃ W, W = (w8.alloc (.cells #[.bool (sg m), .int .u64 (l0 m : Int), .int .u64 (l1 m : Int), .int .u64 (l2 m : Int), .int .u64 (l3 m : Int), .bool (sg m'), .int .u64 (l0 m' : Int), .int .u64 (l1 m' : Int), .int .u64 (l2 m' : Int), .int .u64 (l3 m' : Int)] 35)) := ⟨_, rfl⟩
        rw [← hW] at H2 EE P2 P3 P4 P5 P6 P8 P9 ⊢
        obtain ⟨g10, hg⟩ : ∃ g, w8.heap.size = g := ⟨_, rfl⟩
        rw [hg] at H2 lP2 lP3 lP4 lP5 lP6 lP8 lP9 ⊢
        have P13 : Box10 W9 g10 (sg m) (l0 m) (l1 m) (l2 m) (l3 m) (sg m') (l0 m') (l1 m') (l2 m') (l3 m') := H2
        clear hW hg
        have ngP2P13 : g0 ≠ g10 := by omega
        have ngP3P13 : g0 + 1 ≠ g10 := by omega
        have ngP4P13 : g0 + 1 + 1 ≠ g10 := by omega
        have ngP5P13 : g3 ≠ g10 := by omega
        have ngP6P13 : g3 + 1 ≠ g10 := by omega
        have ngP8P13 : g7 ≠ g10 := by omega
        have ngP9P13 : g7 + 1 ≠ g10 := by omega
        obtain ⟨xP50, xP51, xP52, xP53, xP54, -⟩ := five_cells P5; obtain ⟨xP130, xP131, xP132, xP133, xP134, xP135, xP136, xP137, xP138, xP139, -⟩ := ten_cells P13
        go_upto_region 10 with (go_at_call 118; (with_reducible refine (kM.out _).mono ?_); rintro e w11 ⟨rfl, hE⟩; clear xP50 xP51 xP52 xP53 xP54 xP130 xP131 xP132 xP133 xP134 xP135 xP136 xP137 xP138 xP139; have P2 := P2.ext hE; have P3 := P3.ext hE; have P4 := P4.ext hE; have P5 := P5.ext hE; have P6 := P6.ext hE; have P8 := P8.ext hE; have P9 := P9.ext hE; have P13 := P13.ext hE; have EE := hide (EE.out.trans hE); clear hE; obtain ⟨xP50, xP51, xP52, xP53, xP54, -⟩ := five_cells P5; obtain ⟨xP130, xP131, xP132, xP133, xP134, xP135, xP136, xP137, xP138, xP139, -⟩ := ten_cells P13)
        clear xP50 xP51 xP52 xP53 xP54 xP130 xP131 xP132 xP133 xP134 xP135 xP136 xP137 xP138 xP139
        have H2 := heap_alloc_new w11 (.cells #[.bool (sg v), .int .u64 (l0 v : Int), .int .u64 (l1 v : Int), .int .u64 (l2 v : Int), .int .u64 (l3 v : Int)] 25)
        have lP2 := P2.lt
        have lP3 := P3.lt
        have lP4 := P4.lt
        have lP5 := P5.lt
        have lP6 := P6.lt
        have lP8 := P8.lt
        have lP9 := P9.lt
        have lP13 := P13.lt
        have hE := (ext_alloc w11 (.cells #[.bool (sg v), .int .u64 (l0 v : Int), .int .u64 (l1 v : Int), .int .u64 (l2 v : Int), .int .u64 (l3 v : Int)] 25))
        have P2 := P2.ext hE
        have P3 := P3.ext hE
        have P4 := P4.ext hE
        have P5 := P5.ext hE
        have P6 := P6.ext hE
        have P8 := P8.ext hE
        have P9 := P9.ext hE
        have P13 := P13.ext hE
        have EE := hide (EE.out.trans hE)
        clear hE
        obtain ⟨W12, hW⟩ : ∃ W, W = (w11.alloc (.cells #[.bool (sg v), .int .u64 (l0 v : Int), .int .u64 (l1 v : Int), .int .u64 (l2 v : Int), .int .u64 (l3 v : Int)] 25)) := ⟨_, rfl⟩
        rw [← hW] at H2 EE P2 P3 P4 P5 P6 P8 P9 P13 ⊢
        obtain ⟨g13, hg⟩ : ∃ g, w11.heap.size = g := ⟨_, rfl⟩
        rw [hg] at H2 lP2 lP3 lP4 lP5 lP6 lP8 lP9 lP13 ⊢
        have P14 : Box W12 g13 (sg v) (l0 v) (l1 v) (l2 v) (l3 v) := H2
        clear hW hg
        have ngP2P14 : g0 ≠ g13 := by omega
        have ngP3P14 : g0 + 1 ≠ g13 := by omega
        have ngP4P14 : g0 + 1 + 1 ≠ g13 := by omega
        have ngP5P14 : g3 ≠ g13 := by omega
        have ngP6P14 : g3 + 1 ≠ g13 := by omega
        have ngP8P14 : g7 ≠ g13 := by omega
        have ngP9P14 : g7 + 1 ≠ g13 := by omega
        have ngP13P14 : g10 ≠ g13 := by omega
        obtain ⟨xP130, xP131, xP132, xP133, xP134, xP135, xP136, xP137, xP138, xP139, -⟩ := ten_cells P13; obtain ⟨xP140, xP141, xP142, xP143, xP144, -⟩ := five_cells P14
        go_upto_region 11 with (go_at_call 117; (with_reducible refine (kA.out _).mono ?_); rintro e w14 ⟨rfl, hE⟩; clear xP130 xP131 xP132 xP133 xP134 xP135 xP136 xP137 xP138 xP139 xP140 xP141 xP142 xP143 xP144; have P2 := P2.ext hE; have P3 := P3.ext hE; have P4 := P4.ext hE; have P5 := P5.ext hE; have P6 := P6.ext hE; have P8 := P8.ext hE; have P9 := P9.ext hE; have P13 := P13.ext hE; have P14 := P14.ext hE; have EE := hide (EE.out.trans hE); clear hE; obtain ⟨xP130, xP131, xP132, xP133, xP134, xP135, xP136, xP137, xP138, xP139, -⟩ := ten_cells P13; obtain ⟨xP140, xP141, xP142, xP143, xP144, -⟩ := five_cells P14)
        clear xP130 xP131 xP132 xP133 xP134 xP135 xP136 xP137 xP138 xP139 xP140 xP141 xP142 xP143 xP144
        have H2 := heap_alloc_new w14 (.cells #[.bool (sg n), .int .u64 (l0 n : Int), .int .u64 (l1 n : Int), .int .u64 (l2 n : Int), .int .u64 (l3 n : Int)] 25)
        have lP2 := P2.lt
        have lP3 := P3.lt
        have lP4 := P4.lt
        have lP5 := P5.lt
        have lP6 := P6.lt
        have lP8 := P8.lt
        have lP9 := P9.lt
        have lP13 := P13.lt
        have lP14 := P14.lt
        have hE := (ext_alloc w14 (.cells #[.bool (sg n), .int .u64 (l0 n : Int), .int .u64 (l1 n : Int), .int .u64 (l2 n : Int), .int .u64 (l3 n : Int)] 25))
        have P2 := P2.ext hE
        have P3 := P3.ext hE
        have P4 := P4.ext hE
        have P5 := P5.ext hE
        have P6 := P6.ext hE
        have P8 := P8.ext hE
        have P9 := P9.ext hE
        have P13 := P13.ext hE
        have P14 := P14.ext hE
        have EE := hide (EE.out.trans hE)
        clear hE
        obtain ⟨W15, hW⟩ : ∃ W, W = (w14.alloc (.cells #[.bool (sg n), .int .u64 (l0 n : Int), .int .u64 (l1 n : Int), .int .u64 (l2 n : Int), .int .u64 (l3 n : Int)] 25)) := ⟨_, rfl⟩
        rw [← hW] at H2 EE P2 P3 P4 P5 P6 P8 P9 P13 P14 ⊢
        obtain ⟨g16, hg⟩ : ∃ g, w14.heap.size = g := ⟨_, rfl⟩
        rw [hg] at H2 lP2 lP3 lP4 lP5 lP6 lP8 lP9 lP13 lP14 ⊢
        have P16 : Box W15 g16 (sg n) (l0 n) (l1 n) (l2 n) (l3 n) := H2
        clear hW hg
        have ngP2P16 : g0 ≠ g16 := by omega
        have ngP3P16 : g0 + 1 ≠ g16 := by omega
        have ngP4P16 : g0 + 1 + 1 ≠ g16 := by omega
        have ngP5P16 : g3 ≠ g16 := by omega
        have ngP6P16 : g3 + 1 ≠ g16 := by omega
        have ngP8P16 : g7 ≠ g16 := by omega
        have ngP9P16 : g7 + 1 ≠ g16 := by omega
        have ngP13P16 : g10 ≠ g16 := by omega
        have ngP14P16 : g13 ≠ g16 := by omega
        obtain ⟨xP130, xP131, xP132, xP133, xP134, xP135, xP136, xP137, xP138, xP139, -⟩ := ten_cells P13; obtain ⟨xP160, xP161, xP162, xP163, xP164, -⟩ := five_cells P16; obtain ⟨xP40, xP41, xP42, xP43, xP44, xP45, xP46, xP47, xP48, xP49, xP4f0, xP4f1, xP4f2, xP4f3, xP4f4, xP4f5, xP4f6, xP4f7, xP4f8, xP4f9⟩ := ten_cells P4
        go_wp2_with fail
        exact bodyPost_ret (v := .agg #[.bool (sg n), .int .u64 (l0 n : Int), .int .u64 (l1 n : Int), .int .u64 (l2 n : Int), .int .u64 (l3 n : Int), .bool (sg m), .int .u64 (l0 m : Int), .int .u64 (l1 m : Int), .int .u64 (l2 m : Int), .int .u64 (l3 m : Int)]) (by simp [results, Try.results76, go_sem, xP40, xP41, xP42, xP43, xP44, xP45, xP46, xP47, xP48, xP49]) rfl ⟨rfl, ext_ten EE.out (by omega) _ _ _ _ _ _ _ _ _ _⟩
      · have hqp : a / b ≠ c / d := by rw [hq, hp]; exact h1
        obtain ⟨en, em⟩ := Best.unique hb hd B (best_next ha hb hd hle hr0 hqp)
        rw [hq] at en
        subst em
        have fn : F256 n := f256_of (by omega)
        have f1 : F256 1 := by unfold F256; decide
        have kO : Hid (∀ w, Calls Try.prog 122 #[.int .i64 1] w (Ret (.agg #[.bool (sg 1), .int .u64 (l0 1 : Int), .int .u64 (l1 1 : Int), .int .u64 (l2 1 : Int), .int .u64 (l3 1 : Int)]) w)) := fun w => c_ofi (by omega) (by omega) w
        have kA : Hid (∀ w, Calls Try.prog 117 #[.agg #[.bool (sg q), .int .u64 (l0 q : Int), .int .u64 (l1 q : Int), .int .u64 (l2 q : Int), .int .u64 (l3 q : Int)], .agg #[.bool (sg 1), .int .u64 (l0 1 : Int), .int .u64 (l1 1 : Int), .int .u64 (l2 1 : Int), .int .u64 (l3 1 : Int)]] w (Ret (.tuple #[.agg #[.bool (sg n), .int .u64 (l0 n : Int), .int .u64 (l1 n : Int), .int .u64 (l2 n : Int), .int .u64 (l3 n : Int)], .bool true]) w)) := fun w => c_add fq f1 en.symm fn w
        have kI : Hid (∀ w, Calls Try.prog 121 #[.agg #[.bool (sg n), .int .u64 (l0 n : Int), .int .u64 (l1 n : Int), .int .u64 (l2 n : Int), .int .u64 (l3 n : Int)]] w (Ret (.agg #[.bool (sg n), .int .u64 (l0 n : Int), .int .u64 (l1 n : Int), .int .u64 (l2 n : Int), .int .u64 (l3 n : Int), .bool (sg 1), .int .u64 (l0 1 : Int), .int .u64 (l1 1 : Int), .int .u64 (l2 1 : Int), .int .u64 (l3 1 : Int)]) w)) := fun w => s_integer fn w
        have qe := neWW fq fp
        rw [decide_eq_true h1] at qe
        clear hq hr hp ht q0 qa r0 rb t0 td pc fa fb fc fd fq fr fp ft BS n0 m0 hk ha hb hd hle sa sb sc sd B hr0 h0 hqp en fn f1 h1
        obtain ⟨W0, hW0⟩ : ∃ W0, W0 = (((w.alloc (.cells #[.bool (sg a), .int .u64 (l0 a : Int), .int .u64 (l1 a : Int), .int .u64 (l2 a : Int), .int .u64 (l3 a : Int), .bool (sg b), .int .u64 (l0 b : Int), .int .u64 (l1 b : Int), .int .u64 (l2 b : Int), .int .u64 (l3 b : Int)] 35)).alloc (.cells #[.bool (sg c), .int .u64 (l0 c : Int), .int .u64 (l1 c : Int), .int .u64 (l2 c : Int), .int .u64 (l3 c : Int), .bool (sg d), .int .u64 (l0 d : Int), .int .u64 (l1 d : Int), .int .u64 (l2 d : Int), .int .u64 (l3 d : Int)] 35)).alloc (.cells #[.bool false, .int .u64 0, .int .u64 0, .int .u64 0, .int .u64 0, .bool false, .int .u64 0, .int .u64 0, .int .u64 0, .int .u64 0] 35)) := ⟨_, rfl⟩
        have H2 := three_boxes w (.cells #[.bool (sg a), .int .u64 (l0 a : Int), .int .u64 (l1 a : Int), .int .u64 (l2 a : Int), .int .u64 (l3 a : Int), .bool (sg b), .int .u64 (l0 b : Int), .int .u64 (l1 b : Int), .int .u64 (l2 b : Int), .int .u64 (l3 b : Int)] 35) (.cells #[.bool (sg c), .int .u64 (l0 c : Int), .int .u64 (l1 c : Int), .int .u64 (l2 c : Int), .int .u64 (l3 c : Int), .bool (sg d), .int .u64 (l0 d : Int), .int .u64 (l1 d : Int), .int .u64 (l2 d : Int), .int .u64 (l3 d : Int)] 35) (.cells #[.bool false, .int .u64 0, .int .u64 0, .int .u64 0, .int .u64 0, .bool false, .int .u64 0, .int .u64 0, .int .u64 0, .int .u64 0] 35)
        have EE0 : Ext w W0 := by rw [hW0]; exact (((ext_alloc _ _).trans (ext_alloc _ _)).trans (ext_alloc _ _))
        rw [← hW0] at H2
        have EE := hide EE0
        have HW := hide hW0
        obtain ⟨P2, P3, P4⟩ : Box10 W0 (w.heap.size) (sg a) (l0 a) (l1 a) (l2 a) (l3 a) (sg b) (l0 b) (l1 b) (l2 b) (l3 b) ∧ Box10 W0 ((w.heap.size + 1)) (sg c) (l0 c) (l1 c) (l2 c) (l3 c) (sg d) (l0 d) (l1 d) (l2 d) (l3 d) ∧ Box10 W0 ((w.heap.size + 1 + 1)) false 0 0 0 0 false 0 0 0 0 := H2
        clear hW0 EE0
        go_enter Try.func76, Try.ntmps76
        go_upto_region 1 with fail
        rw [← HW.out]
        clear HW
        have hg0 : w.heap.size ≤ w.heap.size := Nat.le_refl _
        obtain ⟨g0, hg⟩ : ∃ g, w.heap.size = g := ⟨_, rfl⟩
        rw [hg] at P2 P3 P4 ⊢
        replace hg0 : w.heap.size ≤ g0 := Nat.le_of_eq hg
        clear hg
        obtain ⟨xP20, xP21, xP22, xP23, xP24, xP25, xP26, xP27, xP28, xP29, -⟩ := ten_cells P2
        go_upto_region 2 with (go_at_call 65; (with_reducible refine (kD.out _).mono ?_); rintro e w1 ⟨rfl, hE⟩; clear xP20 xP21 xP22 xP23 xP24 xP25 xP26 xP27 xP28 xP29; have P2 := P2.ext hE; have P3 := P3.ext hE; have P4 := P4.ext hE; have EE := hide (EE.out.trans hE); clear hE; obtain ⟨xP20, xP21, xP22, xP23, xP24, xP25, xP26, xP27, xP28, xP29, -⟩ := ten_cells P2)
        clear xP20 xP21 xP22 xP23 xP24 xP25 xP26 xP27 xP28 xP29
        have H2 := two_blocks w1 (.cells #[.bool (sg q), .int .u64 (l0 q : Int), .int .u64 (l1 q : Int), .int .u64 (l2 q : Int), .int .u64 (l3 q : Int)] 25) (.cells #[.bool (sg r), .int .u64 (l0 r : Int), .int .u64 (l1 r : Int), .int .u64 (l2 r : Int), .int .u64 (l3 r : Int)] 25)
        have lP2 := P2.lt
        have lP3 := P3.lt
        have lP4 := P4.lt
        have hE := ((ext_alloc w1 (.cells #[.bool (sg q), .int .u64 (l0 q : Int), .int .u64 (l1 q : Int), .int .u64 (l2 q : Int), .int .u64 (l3 q : Int)] 25)).trans (ext_alloc _ (.cells #[.bool (sg r), .int .u64 (l0 r : Int), .int .u64 (l1 r : Int), .int .u64 (l2 r : Int), .int .u64 (l3 r : Int)] 25)))
        have P2 := P2.ext hE
        have P3 := P3.ext hE
        have P4 := P4.ext hE
        have EE := hide (EE.out.trans hE)
        clear hE
        obtain ⟨W2, hW⟩ : ∃ W, W = ((w1.alloc (.cells #[.bool (sg q), .int .u64 (l0 q : Int), .int .u64 (l1 q : Int), .int .u64 (l2 q : Int), .int .u64 (l3 q : Int)] 25)).alloc (.cells #[.bool (sg r), .int .u64 (l0 r : Int), .int .u64 (l1 r : Int), .int .u64 (l2 r : Int), .int .u64 (l3 r : Int)] 25)) := ⟨_, rfl⟩
        rw [← hW] at H2 EE P2 P3 P4 ⊢
        obtain ⟨g3, hg⟩ : ∃ g, w1.heap.size = g := ⟨_, rfl⟩
        rw [hg] at H2 lP2 lP3 lP4 ⊢
        obtain ⟨P5, P6⟩ : Box W2 g3 (sg q) (l0 q) (l1 q) (l2 q) (l3 q) ∧ Box W2 (g3 + 1) (sg r) (l0 r) (l1 r) (l2 r) (l3 r) := H2
        clear hW hg
        have ngP2P5 : g0 ≠ g3 := by omega
        have ngP2P6 : g0 ≠ g3 + 1 := by omega
        have ngP3P5 : g0 + 1 ≠ g3 := by omega
        have ngP3P6 : g0 + 1 ≠ g3 + 1 := by omega
        have ngP4P5 : g0 + 1 + 1 ≠ g3 := by omega
        have ngP4P6 : g0 + 1 + 1 ≠ g3 + 1 := by omega
        obtain ⟨xP60, xP61, xP62, xP63, xP64, -⟩ := five_cells P6
        go_upto_region 4 with (go_at_call 62; (with_reducible refine (kS.out _).mono ?_); rintro e w4 ⟨rfl, hE⟩; clear xP60 xP61 xP62 xP63 xP64; have P2 := P2.ext hE; have P3 := P3.ext hE; have P4 := P4.ext hE; have P5 := P5.ext hE; have P6 := P6.ext hE; have EE := hide (EE.out.trans hE); clear hE; obtain ⟨xP60, xP61, xP62, xP63, xP64, -⟩ := five_cells P6)
        clear xP60 xP61 xP62 xP63 xP64
        obtain ⟨xP30, xP31, xP32, xP33, xP34, xP35, xP36, xP37, xP38, xP39, -⟩ := ten_cells P3
        go_upto_region 5 with (go_at_call 65; (with_reducible refine (kE.out _).mono ?_); rintro e w5 ⟨rfl, hE⟩; clear xP30 xP31 xP32 xP33 xP34 xP35 xP36 xP37 xP38 xP39; have P2 := P2.ext hE; have P3 := P3.ext hE; have P4 := P4.ext hE; have P5 := P5.ext hE; have P6 := P6.ext hE; have EE := hide (EE.out.trans hE); clear hE; obtain ⟨xP30, xP31, xP32, xP33, xP34, xP35, xP36, xP37, xP38, xP39, -⟩ := ten_cells P3)
        clear xP30 xP31 xP32 xP33 xP34 xP35 xP36 xP37 xP38 xP39
        have H2 := two_blocks w5 (.cells #[.bool (sg p), .int .u64 (l0 p : Int), .int .u64 (l1 p : Int), .int .u64 (l2 p : Int), .int .u64 (l3 p : Int)] 25) (.cells #[.bool (sg t), .int .u64 (l0 t : Int), .int .u64 (l1 t : Int), .int .u64 (l2 t : Int), .int .u64 (l3 t : Int)] 25)
        have lP2 := P2.lt
        have lP3 := P3.lt
        have lP4 := P4.lt
        have lP5 := P5.lt
        have lP6 := P6.lt
        have hE := ((ext_alloc w5 (.cells #[.bool (sg p), .int .u64 (l0 p : Int), .int .u64 (l1 p : Int), .int .u64 (l2 p : Int), .int .u64 (l3 p : Int)] 25)).trans (ext_alloc _ (.cells #[.bool (sg t), .int .u64 (l0 t : Int), .int .u64 (l1 t : Int), .int .u64 (l2 t : Int), .int .u64 (l3 t : Int)] 25)))
        have P2 := P2.ext hE
        have P3 := P3.ext hE
        have P4 := P4.ext hE
        have P5 := P5.ext hE
        have P6 := P6.ext hE
        have EE := hide (EE.out.trans hE)
        clear hE
        obtain ⟨W6, hW⟩ : ∃ W, W = ((w5.alloc (.cells #[.bool (sg p), .int .u64 (l0 p : Int), .int .u64 (l1 p : Int), .int .u64 (l2 p : Int), .int .u64 (l3 p : Int)] 25)).alloc (.cells #[.bool (sg t), .int .u64 (l0 t : Int), .int .u64 (l1 t : Int), .int .u64 (l2 t : Int), .int .u64 (l3 t : Int)] 25)) := ⟨_, rfl⟩
        rw [← hW] at H2 EE P2 P3 P4 P5 P6 ⊢
        obtain ⟨g7, hg⟩ : ∃ g, w5.heap.size = g := ⟨_, rfl⟩
        rw [hg] at H2 lP2 lP3 lP4 lP5 lP6 ⊢
        obtain ⟨P8, P9⟩ : Box W6 g7 (sg p) (l0 p) (l1 p) (l2 p) (l3 p) ∧ Box W6 (g7 + 1) (sg t) (l0 t) (l1 t) (l2 t) (l3 t) := H2
        clear hW hg
        have ngP2P8 : g0 ≠ g7 := by omega
        have ngP2P9 : g0 ≠ g7 + 1 := by omega
        have ngP3P8 : g0 + 1 ≠ g7 := by omega
        have ngP3P9 : g0 + 1 ≠ g7 + 1 := by omega
        have ngP4P8 : g0 + 1 + 1 ≠ g7 := by omega
        have ngP4P9 : g0 + 1 + 1 ≠ g7 + 1 := by omega
        have ngP5P8 : g3 ≠ g7 := by omega
        have ngP5P9 : g3 ≠ g7 + 1 := by omega
        have ngP6P8 : g3 + 1 ≠ g7 := by omega
        have ngP6P9 : g3 + 1 ≠ g7 + 1 := by omega
        obtain ⟨xP50, xP51, xP52, xP53, xP54, -⟩ := five_cells P5; obtain ⟨xP80, xP81, xP82, xP83, xP84, -⟩ := five_cells P8
        go_upto_region 6 with fail
        clear xP50 xP51 xP52 xP53 xP54 xP80 xP81 xP82 xP83 xP84
        have lbP2 := P2.lt
        have lbP3 := P3.lt
        have lbP4 := P4.lt
        have lbP5 := P5.lt
        have lbP6 := P6.lt
        have lbP8 := P8.lt
        have lbP9 := P9.lt
        refine wp_decl [.q, .q, .q, .q, .q, .q, .al, .st 6, .q] [.agg #[.bool (sg q), .int .u64 (l0 q : Int), .int .u64 (l1 q : Int), .int .u64 (l2 q : Int), .int .u64 (l3 q : Int)], .agg #[.bool (sg 1), .int .u64 (l0 1 : Int), .int .u64 (l1 1 : Int), .int .u64 (l2 1 : Int), .int .u64 (l3 1 : Int)], .tuple #[.agg #[.bool (sg n), .int .u64 (l0 n : Int), .int .u64 (l1 n : Int), .int .u64 (l2 n : Int), .int .u64 (l3 n : Int)], .bool true], .tuple #[.agg #[.bool (sg n), .int .u64 (l0 n : Int), .int .u64 (l1 n : Int), .int .u64 (l2 n : Int), .int .u64 (l3 n : Int)], .bool true], .agg #[.bool (sg n), .int .u64 (l0 n : Int), .int .u64 (l1 n : Int), .int .u64 (l2 n : Int), .int .u64 (l3 n : Int)], .bool true, undef, undef, .bool true] (fun _ => (.cells #[.bool false, .int .u64 0, .int .u64 0, .int .u64 0, .int .u64 0] 25 (0, 0))) (fun _ => (.cells #[.bool (sg n), .int .u64 (l0 n : Int), .int .u64 (l1 n : Int), .int .u64 (l2 n : Int), .int .u64 (l3 n : Int)] 25 (0, 0))) (fun _ => 0) (by kernel_rfl) (by kernel_rfl) (by kernel_rfl) rfl rfl (by simp) (by simp) ?_ ?_
        · refine ⟨?_, ?_, ?_, ?_, ?_, ?_, ?_, ?_, ?_, trivial⟩
          · refine op_q ?uvn2 ?h1n2 ?h2n2 ?h3n2
            case h1n2 => exact rfl
            case uvn2 => exact (.agg #[.bool (sg q), .int .u64 (l0 q : Int), .int .u64 (l1 q : Int), .int .u64 (l2 q : Int), .int .u64 (l3 q : Int)])
            case h2n2 => exact rfl
            intro w' hw'
            have P5 := P5.same hw' (by simp)
            have xP5 := five_cells P5
            go_simp
          · refine op_q ?uvn3 ?h1n3 ?h2n3 ?h3n3
            case h1n3 => exact rfl
            case uvn3 => exact (.agg #[.bool (sg 1), .int .u64 (l0 1 : Int), .int .u64 (l1 1 : Int), .int .u64 (l2 1 : Int), .int .u64 (l3 1 : Int)])
            case h2n3 => exact rfl
            intro w' hw'
            go_simp
            exact kO.out w'
          · refine op_q ?uvn4 ?h1n4 ?h2n4 ?h3n4
            case h1n4 => exact rfl
            case uvn4 => exact (.tuple #[.agg #[.bool (sg n), .int .u64 (l0 n : Int), .int .u64 (l1 n : Int), .int .u64 (l2 n : Int), .int .u64 (l3 n : Int)], .bool true])
            case h2n4 => exact rfl
            intro w' hw'
            go_simp
            exact kA.out w'
          · refine op_q ?uvn5 ?h1n5 ?h2n5 ?h3n5
            case h1n5 => exact rfl
            case uvn5 => exact (.tuple #[.agg #[.bool (sg n), .int .u64 (l0 n : Int), .int .u64 (l1 n : Int), .int .u64 (l2 n : Int), .int .u64 (l3 n : Int)], .bool true])
            case h2n5 => exact rfl
            intro w' hw'
            go_simp
          · refine op_q ?uvn6 ?h1n6 ?h2n6 ?h3n6
            case h1n6 => exact rfl
            case uvn6 => exact (.agg #[.bool (sg n), .int .u64 (l0 n : Int), .int .u64 (l1 n : Int), .int .u64 (l2 n : Int), .int .u64 (l3 n : Int)])
            case h2n6 => exact rfl
            intro w' hw'
            go_simp
          · refine op_q ?uvn7 ?h1n7 ?h2n7 ?h3n7
            case h1n7 => exact rfl
            case uvn7 => exact (.bool true)
            case h2n7 => exact rfl
            intro w' hw'
            go_simp
          · refine op_al ?uzn8 ?h1n8 ?h2n8 ?h3n8
            case h1n8 => exact rfl
            case h2n8 => exact rfl
            intro ρ w'
            go_simp
            rfl
          · refine op_st (j := 6) (T := ?uTn9) (p := ?upn9) (x := ?uxn9) ?ufn9 ?uzn9 ?uvn9 ?h1n9 ?h2n9 ?h3n9 ?h4n9 ?h5n9 ?h6n9
            case h1n9 => exact rfl
            case h2n9 => exact rfl
            case ufn9 => exact (.cells #[.bool (sg n), .int .u64 (l0 n : Int), .int .u64 (l1 n : Int), .int .u64 (l2 n : Int), .int .u64 (l3 n : Int)] 25 (0, 0))
            case uzn9 => exact (.cells #[.bool false, .int .u64 0, .int .u64 0, .int .u64 0, .int .u64 0] 25 (0, 0))
            case uvn9 => exact (.agg #[.bool (sg n), .int .u64 (l0 n : Int), .int .u64 (l1 n : Int), .int .u64 (l2 n : Int), .int .u64 (l3 n : Int)])
            case h3n9 => exact rfl
            case h4n9 => exact rfl
            case h5n9 => go_simp
            intro ρ w' g' hp hx hz
            exact store_wide rfl hp hx hz
          · refine op_q ?uvn10 ?h1n10 ?h2n10 ?h3n10
            case h1n10 => exact rfl
            case uvn10 => exact (.bool true)
            case h2n10 => exact rfl
            intro w' hw'
            go_simp
        · intro G W8 hI
          have hS := hI.same
          have P2 := P2.same hS (by simp)
          have P3 := P3.same hS (by simp)
          have P4 := P4.same hS (by simp)
          have P5 := P5.same hS (by simp)
          have P6 := P6.same hS (by simp)
          have P8 := P8.same hS (by simp)
          have P9 := P9.same hS (by simp)
          have EE := hide (hS.ext' EE.out (by simp))
          have P11 : Box W8 (G 6) (sg n) (l0 n) (l1 n) (l2 n) (l3 n) := (hI.fulls 7 (List.mem_range.2 (show 7 < 9 by decide)) 6 rfl).2.2
          have hmP11 := (hI.made 6 (List.mem_range.2 (show 6 < 9 by decide)) rfl).1
          have ngP2P11 : g0 ≠ G 6 := by omega
          have ngP3P11 : g0 + 1 ≠ G 6 := by omega
          have ngP4P11 : g0 + 1 + 1 ≠ G 6 := by omega
          have ngP5P11 : g3 ≠ G 6 := by omega
          have ngP6P11 : g3 + 1 ≠ G 6 := by omega
          have ngP8P11 : g7 ≠ G 6 := by omega
          have ngP9P11 : g7 + 1 ≠ G 6 := by omega
          clear hI hS
          simp only [putAll, slotV, ptrTo, Nat.zero_add, Nat.reduceAdd]
          generalize G 6 = gP11 at *
          go_upto_region 7 with fail
          obtain ⟨xP110, xP111, xP112, xP113, xP114, -⟩ := five_cells P11; obtain ⟨xP40, xP41, xP42, xP43, xP44, xP45, xP46, xP47, xP48, xP49, xP4f0, xP4f1, xP4f2, xP4f3, xP4f4, xP4f5, xP4f6, xP4f7, xP4f8, xP4f9⟩ := ten_cells P4
          go_wp2_with (first
            | (go_at_call 121; (with_reducible refine (kI.out _).mono ?_); rintro e w9 ⟨rfl, hE⟩; clear xP110 xP111 xP112 xP113 xP114; clear xP40 xP41 xP42 xP43 xP44 xP45 xP46 xP47 xP48 xP49 xP4f0 xP4f1 xP4f2 xP4f3 xP4f4 xP4f5 xP4f6 xP4f7 xP4f8 xP4f9; have P2 := P2.ext hE; have P3 := P3.ext hE; have P4 := P4.ext hE; have P5 := P5.ext hE; have P6 := P6.ext hE; have P8 := P8.ext hE; have P9 := P9.ext hE; have P11 := P11.ext hE; have EE := hide (EE.out.trans hE); clear hE; obtain ⟨xP110, xP111, xP112, xP113, xP114, -⟩ := five_cells P11; obtain ⟨xP40, xP41, xP42, xP43, xP44, xP45, xP46, xP47, xP48, xP49, xP4f0, xP4f1, xP4f2, xP4f3, xP4f4, xP4f5, xP4f6, xP4f7, xP4f8, xP4f9⟩ := ten_cells P4))
          exact bodyPost_ret (v := .agg #[.bool (sg n), .int .u64 (l0 n : Int), .int .u64 (l1 n : Int), .int .u64 (l2 n : Int), .int .u64 (l3 n : Int), .bool (sg 1), .int .u64 (l0 1 : Int), .int .u64 (l1 1 : Int), .int .u64 (l2 1 : Int), .int .u64 (l3 1 : Int)]) (by simp [results, Try.results76, go_sem, xP40, xP41, xP42, xP43, xP44, xP45, xP46, xP47, xP48, xP49]) rfl ⟨rfl, ext_ten EE.out (by omega) _ _ _ _ _ _ _ _ _ _⟩
end Go.Proofs.Ytbnbkondbdakeaa
