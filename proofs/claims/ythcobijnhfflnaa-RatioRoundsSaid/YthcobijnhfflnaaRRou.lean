/- The law RatioRounds, walked. Conditions: the argument is a list of numbers of 64 bits. -/
import Derived.Test.YthcobijnhfflnaaRUni
import Derived.Test.YthcobijnhfflnaaDeclW
namespace Go.Proofs.Ythcobijnhfflnaa
set_option linter.unusedVariables false
set_option linter.unusedSimpArgs false
open Go Go.RowKit Go.Sort
attribute [local go_sem] qUpon putAll slotV
/-- At of 1 is the floor or the ceiling. -/
theorem round_ways {n d a b q : Int} (h : 0 < d) (ha : n / d = a) (hb : -(-n / d) = b) (hq : ((n + n) * ((1 : Nat) : Int) + d) / (d + d) = q) : q = a ∨ q = b := by
  have e1 := Int.emod_add_mul_ediv n d
  have e2 := Int.emod_add_mul_ediv (-n) d
  have e3 := Int.emod_add_mul_ediv ((n + n) * ((1 : Nat) : Int) + d) (d + d)
  have m1 := Int.emod_nonneg n (show d ≠ 0 by omega)
  have m2 := Int.emod_nonneg (-n) (show d ≠ 0 by omega)
  have m3 := Int.emod_nonneg ((n + n) * ((1 : Nat) : Int) + d) (show d + d ≠ 0 by omega)
  have l1 := Int.emod_lt_of_pos n h
  have l2 := Int.emod_lt_of_pos (-n) h
  have l3 := Int.emod_lt_of_pos ((n + n) * ((1 : Nat) : Int) + d) (show 0 < d + d by omega)
  rw [ha] at e1
  have hb' : -n / d = -b := by omega
  rw [hb'] at e2
  rw [hq] at e3
  have x3 : (d + d) * q = d * q + d * q := by rw [Int.add_mul]
  have x2 : d * -b = -(d * b) := by rw [Int.mul_neg]
  rw [x3] at e3
  rw [x2] at e2
  -- q is above a - 1 and below b + 1, and b is at most a + 1
  have c1 : a - 1 < q := Int.lt_of_mul_lt_mul_left (a := d) (by rw [Int.mul_sub, Int.mul_one]; omega) (by omega)
  have c2 : q < b + 1 := Int.lt_of_mul_lt_mul_left (a := d) (by rw [Int.mul_add, Int.mul_one]; omega) (by omega)
  have c3 : b < a + 2 := Int.lt_of_mul_lt_mul_left (a := d) (by rw [Int.mul_add]; omega) (by omega)
  omega
theorem rounds_ways {n d a b c q : Int} {wv e0 e1 ea eb : Bool} {ra rb : Int} (hF : Frac n d) (ha : n / d = a) (hb : -(-n / d) = b) (hc : b - a = c) (hq : ((n + n) * ((1 : Nat) : Int) + d) / (d + d) = q)
    (hw : decide (d = 1) = wv) (h0 : decide (c = 0) = e0) (h1 : decide (c = 1) = e1) (hea : decide (q = a) = ea) (heb : decide (q = b) = eb) (hra : cmpI (a * d) (n * 1) = ra) (hrb : cmpI (n * 1) (b * d) = rb) :
    ra ≤ 0 ∧ rb ≤ 0 ∧ ((wv = true ∧ e0 = true ∧ e1 = false) ∨ (wv = false ∧ e0 = false ∧ e1 = true)) ∧ (ea = true ∨ (ea = false ∧ eb = true)) := by
  have h := hF.1
  have hr := round_ways h ha hb hq
  have s1 := Int.emod_add_mul_ediv n d
  have s2 := Int.emod_add_mul_ediv (-n) d
  have m1 := Int.emod_nonneg n (show d ≠ 0 by omega)
  have m2 := Int.emod_nonneg (-n) (show d ≠ 0 by omega)
  have l1 := Int.emod_lt_of_pos n h
  have l2 := Int.emod_lt_of_pos (-n) h
  rw [ha] at s1
  have hb' : -n / d = -b := by omega
  rw [hb'] at s2
  have x2 : d * -b = -(d * b) := by rw [Int.mul_neg]
  rw [x2] at s2
  have y1 : a * d = d * a := Int.mul_comm _ _
  have y2 : b * d = d * b := Int.mul_comm _ _
  refine ⟨by rw [← hra]; exact le_cmpI (by omega), by rw [← hrb]; exact le_cmpI (by omega), ?_, ?_⟩
  · by_cases e : d = 1
    · left
      subst e
      have : c = 0 := by simp at ha hb'; omega
      exact ⟨by rw [← hw]; simp, by rw [← h0, this]; simp, by rw [← h1, this]; simp⟩
    · right
      have hnz : n % d ≠ 0 := by
        intro h0'
        have hdv : d ∣ n := Int.dvd_of_emod_eq_zero h0'
        have hg := Int.gcd_eq_right (by omega) hdv
        rw [hF.2.2.2] at hg
        exact e hg.symm
      have c1 : a < b := Int.lt_of_mul_lt_mul_left (a := d) (by omega) (by omega)
      have c3 : b < a + 2 := Int.lt_of_mul_lt_mul_left (a := d) (by rw [Int.mul_add]; omega) (by omega)
      have : c = 1 := by omega
      exact ⟨by rw [← hw]; simp [e], by rw [← h0, this]; simp, by rw [← h1, this]; simp⟩
  · rcases hr with e | e
    · left; rw [← hea, e]; simp
    · by_cases e' : q = a
      · left; rw [← hea, e']; simp
      · right; exact ⟨by rw [← hea]; simp [e'], by rw [← heb, e]; simp⟩
set_option maxRecDepth 100000 in
set_option maxHeartbeats 8000000 in
theorem law_rrou (x : Option Addr) (len cap : Nat) (W : World) (hL : IsList W x len cap) : Calls Try.prog 7 #[.slice x len cap] W (BoolRet true W) := by
  have HL := hide hL
  clear hL
  go_enter Try.func7, Try.ntmps7
  go_upto_region 2 with (first
    | (go_at_call 14; (with_reducible refine (t_new W x len cap HL.out).mono ?_); rintro e w1 ⟨rfl, T0, hB⟩)
    | (go_at_call 15; (with_reducible refine (t_ratio W.heap.size W.heap.size _ _ T0 (Upd.refl _ _)).mono ?_); rintro e w2 ⟨n1, d1, rfl, hF1, T1, hU⟩; have HF1 := hide hF1; have EE : Hid (Ext W w2) := (Upd.ext (Upd.trans (Ext.upd hB _) hU) (Ext.refl W) (Nat.le_refl _)); clear T0 hU hF1))
  have H2 := heap_alloc_new w2 (.cells #[.bool (sg n1), .int .u64 (l0 n1 : Int), .int .u64 (l1 n1 : Int), .int .u64 (l2 n1 : Int), .int .u64 (l3 n1 : Int), .bool (sg d1), .int .u64 (l0 d1 : Int), .int .u64 (l1 d1 : Int), .int .u64 (l2 d1 : Int), .int .u64 (l3 d1 : Int)] 27)
  have hE := (ext_alloc w2 (.cells #[.bool (sg n1), .int .u64 (l0 n1 : Int), .int .u64 (l1 n1 : Int), .int .u64 (l2 n1 : Int), .int .u64 (l3 n1 : Int), .bool (sg d1), .int .u64 (l0 d1 : Int), .int .u64 (l1 d1 : Int), .int .u64 (l2 d1 : Int), .int .u64 (l3 d1 : Int)] 27))
  have EE := hide (EE.out.trans hE)
  clear hE
  obtain ⟨W2, hW⟩ : ∃ W, W = (w2.alloc (.cells #[.bool (sg n1), .int .u64 (l0 n1 : Int), .int .u64 (l1 n1 : Int), .int .u64 (l2 n1 : Int), .int .u64 (l3 n1 : Int), .bool (sg d1), .int .u64 (l0 d1 : Int), .int .u64 (l1 d1 : Int), .int .u64 (l2 d1 : Int), .int .u64 (l3 d1 : Int)] 27)) := ⟨_, rfl⟩
  rw [← hW] at H2 EE  ⊢
  obtain ⟨g, hg⟩ : ∃ g, w2.heap.size = g := ⟨_, rfl⟩
  rw [hg] at H2 ⊢
  have P1 : Box10 W2 g (sg n1) (l0 n1) (l1 n1) (l2 n1) (l3 n1) (sg d1) (l0 d1) (l1 d1) (l2 d1) (l3 d1) := H2
  clear hW hg
  clear T1
  obtain ⟨z1, hz1⟩ : ∃ z, n1 / d1 = z := ⟨_, rfl⟩
  obtain ⟨z2, hz2⟩ : ∃ z, -(-n1 / d1) = z := ⟨_, rfl⟩
  have kF : Hid (∀ w, Calls Try.prog 30 #[.agg #[.bool (sg n1), .int .u64 (l0 n1 : Int), .int .u64 (l1 n1 : Int), .int .u64 (l2 n1 : Int), .int .u64 (l3 n1 : Int), .bool (sg d1), .int .u64 (l0 d1 : Int), .int .u64 (l1 d1 : Int), .int .u64 (l2 d1 : Int), .int .u64 (l3 d1 : Int)]] w (Ret (.agg #[.bool (sg z1), .int .u64 (l0 z1 : Int), .int .u64 (l1 z1 : Int), .int .u64 (l2 z1 : Int), .int .u64 (l3 z1 : Int)]) w)) := fun w => g_floor HF1.out hz1 w
  have kC : Hid (∀ w, Calls Try.prog 31 #[.agg #[.bool (sg n1), .int .u64 (l0 n1 : Int), .int .u64 (l1 n1 : Int), .int .u64 (l2 n1 : Int), .int .u64 (l3 n1 : Int), .bool (sg d1), .int .u64 (l0 d1 : Int), .int .u64 (l1 d1 : Int), .int .u64 (l2 d1 : Int), .int .u64 (l3 d1 : Int)]] w (Ret (.agg #[.bool (sg z2), .int .u64 (l0 z2 : Int), .int .u64 (l1 z2 : Int), .int .u64 (l2 z2 : Int), .int .u64 (l3 z2 : Int)]) w)) := fun w => g_ceil HF1.out hz2 w
  have hd := HF1.out.1
  have fz : F256 z1 ∧ F256 z2 ∧ z1.natAbs < 170141183460469231731687303715884105728 ∧ z2.natAbs < 170141183460469231731687303715884105728 := by
    have hn := HF1.out.2.1
    have a1 : (n1 / d1).natAbs ≤ n1.natAbs := Int.natAbs_ediv_le_natAbs _ _
    have a2 : (-n1 / d1).natAbs ≤ (-n1).natAbs := Int.natAbs_ediv_le_natAbs _ _
    have b1 : z1.natAbs < 170141183460469231731687303715884105728 := by omega
    have b2 : z2.natAbs < 170141183460469231731687303715884105728 := by omega
    exact ⟨F256.mk b1, F256.mk b2, b1, b2⟩
  obtain ⟨fz1, fz2, sz1, sz2⟩ := fz
  obtain ⟨z3, hz3⟩ : ∃ z, z2 - z1 = z := ⟨_, rfl⟩
  obtain ⟨u0, hu0⟩ : ∃ z : Int, 0 = z := ⟨_, rfl⟩
  obtain ⟨u1, hu1⟩ : ∃ z : Int, 1 = z := ⟨_, rfl⟩
  obtain ⟨q, hq⟩ : ∃ z, ((n1 + n1) * ((1 : Nat) : Int) + d1) / (d1 + d1) = z := ⟨_, rfl⟩
  have fz3 : F256 z3 := by unfold F256; omega
  have fq : F256 q := by
    have : q = z1 ∨ q = z2 := round_ways hd hz1 hz2 hq
    rcases this with h | h <;> rw [h] <;> assumption
  have fr1 : Frac z1 u1 := by rw [← hu1]; exact ⟨by omega, sz1, by decide, by simp⟩
  have fr2 : Frac z2 u1 := by rw [← hu1]; exact ⟨by omega, sz2, by decide, by simp⟩
  have f1 : F256 u1 := by rw [← hu1]; unfold F256; decide
  have f0 : F256 u0 := by rw [← hu0]; unfold F256; decide
  obtain ⟨wv, hwv⟩ : ∃ b, decide (d1 = u1) = b := ⟨_, rfl⟩
  obtain ⟨e0, he0⟩ : ∃ b, decide (z3 = u0) = b := ⟨_, rfl⟩
  obtain ⟨e1, he1⟩ : ∃ b, decide (z3 = u1) = b := ⟨_, rfl⟩
  obtain ⟨ea, hea⟩ : ∃ b, decide (q = z1) = b := ⟨_, rfl⟩
  obtain ⟨eb, heb⟩ : ∃ b, decide (q = z2) = b := ⟨_, rfl⟩
  obtain ⟨ra, hra⟩ : ∃ b, cmpI (z1 * d1) (n1 * u1) = b := ⟨_, rfl⟩
  obtain ⟨rb, hrb⟩ : ∃ b, cmpI (n1 * u1) (z2 * d1) = b := ⟨_, rfl⟩
  have HWY := hide (rounds_ways (wv := wv) (e0 := e0) (e1 := e1) (ea := ea) (eb := eb) (ra := ra) (rb := rb) HF1.out hz1 hz2 hz3 hq (by rw [hu1]; exact hwv) (by rw [hu0]; exact he0) (by rw [hu1]; exact he1) hea heb (by rw [hu1]; exact hra) (by rw [hu1]; exact hrb))
  have qw := eqWW HF1.out.fd f1
  have q0 := eqWW fz3 f0
  have q1 := eqWW fz3 f1
  have qa := eqWW fq fz1
  have qb := eqWW fq fz2
  rw [hwv] at qw
  rw [he0] at q0
  rw [he1] at q1
  rw [hea] at qa
  rw [heb] at qb
  have kO0 : Hid (∀ w, Calls Try.prog 22 #[.int .i64 0] w (Ret (.agg #[.bool (sg u0), .int .u64 (l0 u0 : Int), .int .u64 (l1 u0 : Int), .int .u64 (l2 u0 : Int), .int .u64 (l3 u0 : Int)]) w)) := fun w => by rw [← hu0]; exact d_ofi (by omega) (by omega) w
  have kO1 : Hid (∀ w, Calls Try.prog 22 #[.int .i64 1] w (Ret (.agg #[.bool (sg u1), .int .u64 (l0 u1 : Int), .int .u64 (l1 u1 : Int), .int .u64 (l2 u1 : Int), .int .u64 (l3 u1 : Int)]) w)) := fun w => by rw [← hu1]; exact d_ofi (by omega) (by omega) w
  have kS : Hid (∀ w, Calls Try.prog 32 #[.agg #[.bool (sg z2), .int .u64 (l0 z2 : Int), .int .u64 (l1 z2 : Int), .int .u64 (l2 z2 : Int), .int .u64 (l3 z2 : Int)], .agg #[.bool (sg z1), .int .u64 (l0 z1 : Int), .int .u64 (l1 z1 : Int), .int .u64 (l2 z1 : Int), .int .u64 (l3 z1 : Int)]] w (Ret (.tuple #[.agg #[.bool (sg z3), .int .u64 (l0 z3 : Int), .int .u64 (l1 z3 : Int), .int .u64 (l2 z3 : Int), .int .u64 (l3 z3 : Int)], .bool true]) w)) := fun w => d_sub fz2 fz1 hz3 fz3 w
  have mk1 := frac_red fr1
  have mk2 := frac_red fr2
  have kM1 : Hid (∀ w, Calls Try.prog 26 #[.agg #[.bool (sg z1), .int .u64 (l0 z1 : Int), .int .u64 (l1 z1 : Int), .int .u64 (l2 z1 : Int), .int .u64 (l3 z1 : Int)], .agg #[.bool (sg u1), .int .u64 (l0 u1 : Int), .int .u64 (l1 u1 : Int), .int .u64 (l2 u1 : Int), .int .u64 (l3 u1 : Int)]] w (Ret (.tuple #[.agg #[.bool (sg z1), .int .u64 (l0 z1 : Int), .int .u64 (l1 z1 : Int), .int .u64 (l2 z1 : Int), .int .u64 (l3 z1 : Int), .bool (sg u1), .int .u64 (l0 u1 : Int), .int .u64 (l1 u1 : Int), .int .u64 (l2 u1 : Int), .int .u64 (l3 u1 : Int)], .bool true]) w)) := fun w => h_make fz1 f1 (by omega) (frac_mkB fr1) (by simpa using mk1.1) (by simpa using mk1.2) w
  have kM2 : Hid (∀ w, Calls Try.prog 26 #[.agg #[.bool (sg z2), .int .u64 (l0 z2 : Int), .int .u64 (l1 z2 : Int), .int .u64 (l2 z2 : Int), .int .u64 (l3 z2 : Int)], .agg #[.bool (sg u1), .int .u64 (l0 u1 : Int), .int .u64 (l1 u1 : Int), .int .u64 (l2 u1 : Int), .int .u64 (l3 u1 : Int)]] w (Ret (.tuple #[.agg #[.bool (sg z2), .int .u64 (l0 z2 : Int), .int .u64 (l1 z2 : Int), .int .u64 (l2 z2 : Int), .int .u64 (l3 z2 : Int), .bool (sg u1), .int .u64 (l0 u1 : Int), .int .u64 (l1 u1 : Int), .int .u64 (l2 u1 : Int), .int .u64 (l3 u1 : Int)], .bool true]) w)) := fun w => h_make fz2 f1 (by omega) (frac_mkB fr2) (by simpa using mk2.1) (by simpa using mk2.2) w
  have kA : Hid (∀ w, Calls Try.prog 33 #[.agg #[.bool (sg n1), .int .u64 (l0 n1 : Int), .int .u64 (l1 n1 : Int), .int .u64 (l2 n1 : Int), .int .u64 (l3 n1 : Int), .bool (sg d1), .int .u64 (l0 d1 : Int), .int .u64 (l1 d1 : Int), .int .u64 (l2 d1 : Int), .int .u64 (l3 d1 : Int)], .int .u64 1] w (Ret (.agg #[.bool (sg q), .int .u64 (l0 q : Int), .int .u64 (l1 q : Int), .int .u64 (l2 q : Int), .int .u64 (l3 q : Int)]) w)) := fun w => g_at (k := 1) HF1.out (by omega) hq w
  have kX : Hid (∀ w, Calls Try.prog 34 #[.agg #[.bool (sg z1), .int .u64 (l0 z1 : Int), .int .u64 (l1 z1 : Int), .int .u64 (l2 z1 : Int), .int .u64 (l3 z1 : Int), .bool (sg u1), .int .u64 (l0 u1 : Int), .int .u64 (l1 u1 : Int), .int .u64 (l2 u1 : Int), .int .u64 (l3 u1 : Int)], .agg #[.bool (sg n1), .int .u64 (l0 n1 : Int), .int .u64 (l1 n1 : Int), .int .u64 (l2 n1 : Int), .int .u64 (l3 n1 : Int), .bool (sg d1), .int .u64 (l0 d1 : Int), .int .u64 (l1 d1 : Int), .int .u64 (l2 d1 : Int), .int .u64 (l3 d1 : Int)]] w (Ret (.int .i64 ra) w)) := fun w => h_cmp fr1 HF1.out hra w
  have kY : Hid (∀ w, Calls Try.prog 34 #[.agg #[.bool (sg n1), .int .u64 (l0 n1 : Int), .int .u64 (l1 n1 : Int), .int .u64 (l2 n1 : Int), .int .u64 (l3 n1 : Int), .bool (sg d1), .int .u64 (l0 d1 : Int), .int .u64 (l1 d1 : Int), .int .u64 (l2 d1 : Int), .int .u64 (l3 d1 : Int)], .agg #[.bool (sg z2), .int .u64 (l0 z2 : Int), .int .u64 (l1 z2 : Int), .int .u64 (l2 z2 : Int), .int .u64 (l3 z2 : Int), .bool (sg u1), .int .u64 (l0 u1 : Int), .int .u64 (l1 u1 : Int), .int .u64 (l2 u1 : Int), .int .u64 (l3 u1 : Int)]] w (Ret (.int .i64 rb) w)) := fun w => h_cmp HF1.out fr2 hrb w
  have kK : Hid (∀ w, Calls Try.prog 17 #[] w (Ret (.bool true) w)) := fun w => p_known3 w
  clear hz1 hz2 hz3 hu0 hu1 hq hd fz1 fz2 sz1 sz2 fz3 fq fr1 fr2 f1 f0 hwv he0 he1 hea heb hra hrb mk1 mk2
  have HQ := hide (And.intro qw (And.intro q0 (And.intro q1 (And.intro qa qb))))
  clear qw q0 q1 qa qb
  have lbP1 := P1.lt
  refine wp_decl [.q, .q, .q, .q, .al, .al, .st 4, .st 5] [.agg #[.bool (sg n1), .int .u64 (l0 n1 : Int), .int .u64 (l1 n1 : Int), .int .u64 (l2 n1 : Int), .int .u64 (l3 n1 : Int), .bool (sg d1), .int .u64 (l0 d1 : Int), .int .u64 (l1 d1 : Int), .int .u64 (l2 d1 : Int), .int .u64 (l3 d1 : Int)], .agg #[.bool (sg z1), .int .u64 (l0 z1 : Int), .int .u64 (l1 z1 : Int), .int .u64 (l2 z1 : Int), .int .u64 (l3 z1 : Int)], .agg #[.bool (sg n1), .int .u64 (l0 n1 : Int), .int .u64 (l1 n1 : Int), .int .u64 (l2 n1 : Int), .int .u64 (l3 n1 : Int), .bool (sg d1), .int .u64 (l0 d1 : Int), .int .u64 (l1 d1 : Int), .int .u64 (l2 d1 : Int), .int .u64 (l3 d1 : Int)], .agg #[.bool (sg z2), .int .u64 (l0 z2 : Int), .int .u64 (l1 z2 : Int), .int .u64 (l2 z2 : Int), .int .u64 (l3 z2 : Int)], undef, undef, undef, undef] (fun i => match i with | 4 => (.cells #[.bool false, .int .u64 0, .int .u64 0, .int .u64 0, .int .u64 0] 25 (0, 0)) | _ => (.cells #[.bool false, .int .u64 0, .int .u64 0, .int .u64 0, .int .u64 0] 25 (0, 0))) (fun i => match i with | 6 => (.cells #[.bool (sg z1), .int .u64 (l0 z1 : Int), .int .u64 (l1 z1 : Int), .int .u64 (l2 z1 : Int), .int .u64 (l3 z1 : Int)] 25 (0, 0)) | _ => (.cells #[.bool (sg z2), .int .u64 (l0 z2 : Int), .int .u64 (l1 z2 : Int), .int .u64 (l2 z2 : Int), .int .u64 (l3 z2 : Int)] 25 (0, 0))) (fun _ => 0) (by kernel_rfl) (by kernel_rfl) (by kernel_rfl) rfl rfl (by simp) (by simp) ?_ ?_
  · refine ⟨?_, ?_, ?_, ?_, ?_, ?_, ?_, ?_, trivial⟩
    · refine op_q ?uvn2 ?h1n2 ?h2n2 ?h3n2
      case h1n2 => exact rfl
      case uvn2 => exact (.agg #[.bool (sg n1), .int .u64 (l0 n1 : Int), .int .u64 (l1 n1 : Int), .int .u64 (l2 n1 : Int), .int .u64 (l3 n1 : Int), .bool (sg d1), .int .u64 (l0 d1 : Int), .int .u64 (l1 d1 : Int), .int .u64 (l2 d1 : Int), .int .u64 (l3 d1 : Int)])
      case h2n2 => exact rfl
      intro w' hw'
      have P1 := P1.same hw' (by simp)
      have xP1 := ten_cells P1
      go_simp
    · refine op_q ?uvn3 ?h1n3 ?h2n3 ?h3n3
      case h1n3 => exact rfl
      case uvn3 => exact (.agg #[.bool (sg z1), .int .u64 (l0 z1 : Int), .int .u64 (l1 z1 : Int), .int .u64 (l2 z1 : Int), .int .u64 (l3 z1 : Int)])
      case h2n3 => exact rfl
      intro w' hw'
      go_simp
      exact kF.out w'
    · refine op_q ?uvn4 ?h1n4 ?h2n4 ?h3n4
      case h1n4 => exact rfl
      case uvn4 => exact (.agg #[.bool (sg n1), .int .u64 (l0 n1 : Int), .int .u64 (l1 n1 : Int), .int .u64 (l2 n1 : Int), .int .u64 (l3 n1 : Int), .bool (sg d1), .int .u64 (l0 d1 : Int), .int .u64 (l1 d1 : Int), .int .u64 (l2 d1 : Int), .int .u64 (l3 d1 : Int)])
      case h2n4 => exact rfl
      intro w' hw'
      have P1 := P1.same hw' (by simp)
      have xP1 := ten_cells P1
      go_simp
    · refine op_q ?uvn5 ?h1n5 ?h2n5 ?h3n5
      case h1n5 => exact rfl
      case uvn5 => exact (.agg #[.bool (sg z2), .int .u64 (l0 z2 : Int), .int .u64 (l1 z2 : Int), .int .u64 (l2 z2 : Int), .int .u64 (l3 z2 : Int)])
      case h2n5 => exact rfl
      intro w' hw'
      go_simp
      exact kC.out w'
    · refine op_al ?uzn6 ?h1n6 ?h2n6 ?h3n6
      case h1n6 => exact rfl
      case h2n6 => exact rfl
      intro ρ w'
      go_simp
      rfl
    · refine op_al ?uzn7 ?h1n7 ?h2n7 ?h3n7
      case h1n7 => exact rfl
      case h2n7 => exact rfl
      intro ρ w'
      go_simp
      rfl
    · refine op_st (j := 4) (T := ?uTn8) (p := ?upn8) (x := ?uxn8) ?ufn8 ?uzn8 ?uvn8 ?h1n8 ?h2n8 ?h3n8 ?h4n8 ?h5n8 ?h6n8
      case h1n8 => exact rfl
      case h2n8 => exact rfl
      case ufn8 => exact (.cells #[.bool (sg z1), .int .u64 (l0 z1 : Int), .int .u64 (l1 z1 : Int), .int .u64 (l2 z1 : Int), .int .u64 (l3 z1 : Int)] 25 (0, 0))
      case uzn8 => exact (.cells #[.bool false, .int .u64 0, .int .u64 0, .int .u64 0, .int .u64 0] 25 (0, 0))
      case uvn8 => exact (.agg #[.bool (sg z1), .int .u64 (l0 z1 : Int), .int .u64 (l1 z1 : Int), .int .u64 (l2 z1 : Int), .int .u64 (l3 z1 : Int)])
      case h3n8 => exact rfl
      case h4n8 => exact rfl
      case h5n8 => go_simp
      intro ρ w' g' hp hx hz
      exact store_wide rfl hp hx hz
    · refine op_st (j := 5) (T := ?uTn9) (p := ?upn9) (x := ?uxn9) ?ufn9 ?uzn9 ?uvn9 ?h1n9 ?h2n9 ?h3n9 ?h4n9 ?h5n9 ?h6n9
      case h1n9 => exact rfl
      case h2n9 => exact rfl
      case ufn9 => exact (.cells #[.bool (sg z2), .int .u64 (l0 z2 : Int), .int .u64 (l1 z2 : Int), .int .u64 (l2 z2 : Int), .int .u64 (l3 z2 : Int)] 25 (0, 0))
      case uzn9 => exact (.cells #[.bool false, .int .u64 0, .int .u64 0, .int .u64 0, .int .u64 0] 25 (0, 0))
      case uvn9 => exact (.agg #[.bool (sg z2), .int .u64 (l0 z2 : Int), .int .u64 (l1 z2 : Int), .int .u64 (l2 z2 : Int), .int .u64 (l3 z2 : Int)])
      case h3n9 => exact rfl
      case h4n9 => exact rfl
      case h5n9 => go_simp
      intro ρ w' g' hp hx hz
      exact store_wide rfl hp hx hz
  · intro G W3 hI
    have hS := hI.same
    have P1 := P1.same hS (by simp)
    have EE := hide (hS.ext' EE.out (by simp))
    have Q1 : Box W3 (G 4) (sg z1) (l0 z1) (l1 z1) (l2 z1) (l3 z1) := (hI.fulls 6 (List.mem_range.2 (show 6 < 8 by decide)) 4 rfl).2.2
    have hmQ1 := (hI.made 4 (List.mem_range.2 (show 4 < 8 by decide)) rfl).1
    have Q2 : Box W3 (G 5) (sg z2) (l0 z2) (l1 z2) (l2 z2) (l3 z2) := (hI.fulls 7 (List.mem_range.2 (show 7 < 8 by decide)) 5 rfl).2.2
    have hmQ2 := (hI.made 5 (List.mem_range.2 (show 5 < 8 by decide)) rfl).1
    have ngQ1Q2 : G 4 ≠ G 5 := fun e => by have := hI.apart 4 (List.mem_range.2 (show 4 < 8 by decide)) 5 (List.mem_range.2 (show 5 < 8 by decide)) rfl rfl e; omega
    have ngP1Q1 : g ≠ G 4 := by omega
    have ngP1Q2 : g ≠ G 5 := by omega
    clear hI hS
    simp only [putAll, slotV, ptrTo, Nat.zero_add, Nat.reduceAdd]
    generalize G 4 = gQ1 at *
    generalize G 5 = gQ2 at *
    go_upto_region 3 with fail
    obtain ⟨xP10, xP11, xP12, xP13, xP14, xP15, xP16, xP17, xP18, xP19, xP1f0, xP1f1, xP1f2, xP1f3, xP1f4, xP1f5, xP1f6, xP1f7, xP1f8, xP1f9⟩ := ten_cells P1; obtain ⟨xQ10, xQ11, xQ12, xQ13, xQ14, xQ1f0, xQ1f1, xQ1f2, xQ1f3, xQ1f4⟩ := five_cells Q1; obtain ⟨xQ20, xQ21, xQ22, xQ23, xQ24, xQ2f0, xQ2f1, xQ2f2, xQ2f3, xQ2f4⟩ := five_cells Q2
    go_upto_region 4 with (go_at_call 32; (with_reducible refine (kS.out _).mono ?_); rintro e w8 ⟨rfl, hE⟩; have P1 := P1.ext hE; have Q1 := Q1.ext hE; have Q2 := Q2.ext hE; have EE := hide (EE.out.trans hE); clear hE)
    have Q3 : Box ((w8.alloc (.cells #[.bool (sg z3), .int .u64 (l0 z3 : Int), .int .u64 (l1 z3 : Int), .int .u64 (l2 z3 : Int), .int .u64 (l3 z3 : Int)] 25))) w8.heap.size (sg z3) (l0 z3) (l1 z3) (l2 z3) (l3 z3) := heap_alloc_new w8 _
    have lP1 := P1.lt
    have lQ1 := Q1.lt
    have lQ2 := Q2.lt
    have hE := ext_alloc w8 (.cells #[.bool (sg z3), .int .u64 (l0 z3 : Int), .int .u64 (l1 z3 : Int), .int .u64 (l2 z3 : Int), .int .u64 (l3 z3 : Int)] 25)
    have P1 := P1.ext hE
    have Q1 := Q1.ext hE
    have Q2 := Q2.ext hE
    have EE := hide (EE.out.trans hE)
    clear hE
    generalize w8.alloc (.cells #[.bool (sg z3), .int .u64 (l0 z3 : Int), .int .u64 (l1 z3 : Int), .int .u64 (l2 z3 : Int), .int .u64 (l3 z3 : Int)] 25) = Ww8 at *
    generalize w8.heap.size = gQ3 at *
    have ngP1Q3 : g ≠ gQ3 := by omega
    have ngQ1Q3 : gQ1 ≠ gQ3 := by omega
    have ngQ2Q3 : gQ2 ≠ gQ3 := by omega
    have lbP1 := P1.lt
    have lbQ1 := Q1.lt
    have lbQ2 := Q2.lt
    have lbQ3 := Q3.lt
    refine wp_decl [.q, .q, .q, .q, .q, .q, .al, .st 6, .q] [.agg #[.bool (sg z1), .int .u64 (l0 z1 : Int), .int .u64 (l1 z1 : Int), .int .u64 (l2 z1 : Int), .int .u64 (l3 z1 : Int)], .agg #[.bool (sg u1), .int .u64 (l0 u1 : Int), .int .u64 (l1 u1 : Int), .int .u64 (l2 u1 : Int), .int .u64 (l3 u1 : Int)], .tuple #[.agg #[.bool (sg z1), .int .u64 (l0 z1 : Int), .int .u64 (l1 z1 : Int), .int .u64 (l2 z1 : Int), .int .u64 (l3 z1 : Int), .bool (sg u1), .int .u64 (l0 u1 : Int), .int .u64 (l1 u1 : Int), .int .u64 (l2 u1 : Int), .int .u64 (l3 u1 : Int)], .bool true], .tuple #[.agg #[.bool (sg z1), .int .u64 (l0 z1 : Int), .int .u64 (l1 z1 : Int), .int .u64 (l2 z1 : Int), .int .u64 (l3 z1 : Int), .bool (sg u1), .int .u64 (l0 u1 : Int), .int .u64 (l1 u1 : Int), .int .u64 (l2 u1 : Int), .int .u64 (l3 u1 : Int)], .bool true], .agg #[.bool (sg z1), .int .u64 (l0 z1 : Int), .int .u64 (l1 z1 : Int), .int .u64 (l2 z1 : Int), .int .u64 (l3 z1 : Int), .bool (sg u1), .int .u64 (l0 u1 : Int), .int .u64 (l1 u1 : Int), .int .u64 (l2 u1 : Int), .int .u64 (l3 u1 : Int)], .bool true, undef, undef, .bool true] (fun _ => (.cells #[.bool false, .int .u64 0, .int .u64 0, .int .u64 0, .int .u64 0, .bool false, .int .u64 0, .int .u64 0, .int .u64 0, .int .u64 0] 27 (0, 0))) (fun _ => (.cells #[.bool (sg z1), .int .u64 (l0 z1 : Int), .int .u64 (l1 z1 : Int), .int .u64 (l2 z1 : Int), .int .u64 (l3 z1 : Int), .bool (sg u1), .int .u64 (l0 u1 : Int), .int .u64 (l1 u1 : Int), .int .u64 (l2 u1 : Int), .int .u64 (l3 u1 : Int)] 27 (0, 0))) (fun _ => 0) (by kernel_rfl) (by kernel_rfl) (by kernel_rfl) rfl rfl (by simp) (by simp) ?_ ?_
    · refine ⟨?_, ?_, ?_, ?_, ?_, ?_, ?_, ?_, ?_, trivial⟩
      · refine op_q ?uvn11 ?h1n11 ?h2n11 ?h3n11
        case h1n11 => exact rfl
        case uvn11 => exact (.agg #[.bool (sg z1), .int .u64 (l0 z1 : Int), .int .u64 (l1 z1 : Int), .int .u64 (l2 z1 : Int), .int .u64 (l3 z1 : Int)])
        case h2n11 => exact rfl
        intro w' hw'
        have Q1 := Q1.same hw' (by simp)
        have xQ1 := five_cells Q1
        go_simp
      · refine op_q ?uvn12 ?h1n12 ?h2n12 ?h3n12
        case h1n12 => exact rfl
        case uvn12 => exact (.agg #[.bool (sg u1), .int .u64 (l0 u1 : Int), .int .u64 (l1 u1 : Int), .int .u64 (l2 u1 : Int), .int .u64 (l3 u1 : Int)])
        case h2n12 => exact rfl
        intro w' hw'
        go_simp
        exact kO1.out w'
      · refine op_q ?uvn13 ?h1n13 ?h2n13 ?h3n13
        case h1n13 => exact rfl
        case uvn13 => exact (.tuple #[.agg #[.bool (sg z1), .int .u64 (l0 z1 : Int), .int .u64 (l1 z1 : Int), .int .u64 (l2 z1 : Int), .int .u64 (l3 z1 : Int), .bool (sg u1), .int .u64 (l0 u1 : Int), .int .u64 (l1 u1 : Int), .int .u64 (l2 u1 : Int), .int .u64 (l3 u1 : Int)], .bool true])
        case h2n13 => exact rfl
        intro w' hw'
        go_simp
        exact kM1.out w'
      · refine op_q ?uvn14 ?h1n14 ?h2n14 ?h3n14
        case h1n14 => exact rfl
        case uvn14 => exact (.tuple #[.agg #[.bool (sg z1), .int .u64 (l0 z1 : Int), .int .u64 (l1 z1 : Int), .int .u64 (l2 z1 : Int), .int .u64 (l3 z1 : Int), .bool (sg u1), .int .u64 (l0 u1 : Int), .int .u64 (l1 u1 : Int), .int .u64 (l2 u1 : Int), .int .u64 (l3 u1 : Int)], .bool true])
        case h2n14 => exact rfl
        intro w' hw'
        go_simp
      · refine op_q ?uvn15 ?h1n15 ?h2n15 ?h3n15
        case h1n15 => exact rfl
        case uvn15 => exact (.agg #[.bool (sg z1), .int .u64 (l0 z1 : Int), .int .u64 (l1 z1 : Int), .int .u64 (l2 z1 : Int), .int .u64 (l3 z1 : Int), .bool (sg u1), .int .u64 (l0 u1 : Int), .int .u64 (l1 u1 : Int), .int .u64 (l2 u1 : Int), .int .u64 (l3 u1 : Int)])
        case h2n15 => exact rfl
        intro w' hw'
        go_simp
      · refine op_q ?uvn16 ?h1n16 ?h2n16 ?h3n16
        case h1n16 => exact rfl
        case uvn16 => exact (.bool true)
        case h2n16 => exact rfl
        intro w' hw'
        go_simp
      · refine op_al ?uzn17 ?h1n17 ?h2n17 ?h3n17
        case h1n17 => exact rfl
        case h2n17 => exact rfl
        intro ρ w'
        go_simp
        rfl
      · refine op_st (j := 6) (T := ?uTn18) (p := ?upn18) (x := ?uxn18) ?ufn18 ?uzn18 ?uvn18 ?h1n18 ?h2n18 ?h3n18 ?h4n18 ?h5n18 ?h6n18
        case h1n18 => exact rfl
        case h2n18 => exact rfl
        case ufn18 => exact (.cells #[.bool (sg z1), .int .u64 (l0 z1 : Int), .int .u64 (l1 z1 : Int), .int .u64 (l2 z1 : Int), .int .u64 (l3 z1 : Int), .bool (sg u1), .int .u64 (l0 u1 : Int), .int .u64 (l1 u1 : Int), .int .u64 (l2 u1 : Int), .int .u64 (l3 u1 : Int)] 27 (0, 0))
        case uzn18 => exact (.cells #[.bool false, .int .u64 0, .int .u64 0, .int .u64 0, .int .u64 0, .bool false, .int .u64 0, .int .u64 0, .int .u64 0, .int .u64 0] 27 (0, 0))
        case uvn18 => exact (.agg #[.bool (sg z1), .int .u64 (l0 z1 : Int), .int .u64 (l1 z1 : Int), .int .u64 (l2 z1 : Int), .int .u64 (l3 z1 : Int), .bool (sg u1), .int .u64 (l0 u1 : Int), .int .u64 (l1 u1 : Int), .int .u64 (l2 u1 : Int), .int .u64 (l3 u1 : Int)])
        case h3n18 => exact rfl
        case h4n18 => exact rfl
        case h5n18 => go_simp
        intro ρ w' g' hp hx hz
        exact store_ratio rfl hp hx hz
      · refine op_q ?uvn19 ?h1n19 ?h2n19 ?h3n19
        case h1n19 => exact rfl
        case uvn19 => exact (.bool true)
        case h2n19 => exact rfl
        intro w' hw'
        go_simp
    · intro G W9 hI
      have hS := hI.same
      have P1 := P1.same hS (by simp)
      have Q1 := Q1.same hS (by simp)
      have Q2 := Q2.same hS (by simp)
      have Q3 := Q3.same hS (by simp)
      have EE := hide (hS.ext' EE.out (by simp))
      have X1 : Box10 W9 (G 6) (sg z1) (l0 z1) (l1 z1) (l2 z1) (l3 z1) (sg u1) (l0 u1) (l1 u1) (l2 u1) (l3 u1) := (hI.fulls 7 (List.mem_range.2 (show 7 < 9 by decide)) 6 rfl).2.2
      have hmX1 := (hI.made 6 (List.mem_range.2 (show 6 < 9 by decide)) rfl).1
      have ngP1X1 : g ≠ G 6 := by omega
      have ngQ1X1 : gQ1 ≠ G 6 := by omega
      have ngQ2X1 : gQ2 ≠ G 6 := by omega
      have ngQ3X1 : gQ3 ≠ G 6 := by omega
      clear hI hS
      simp only [putAll, slotV, ptrTo, Nat.zero_add, Nat.reduceAdd]
      generalize G 6 = gX1 at *
      go_upto_region 5 with fail
      have lbP1 := P1.lt
      have lbQ1 := Q1.lt
      have lbQ2 := Q2.lt
      have lbQ3 := Q3.lt
      have lbX1 := X1.lt
      refine wp_decl [.q, .q, .q, .q, .q, .q, .al, .st 6, .q] [.agg #[.bool (sg z2), .int .u64 (l0 z2 : Int), .int .u64 (l1 z2 : Int), .int .u64 (l2 z2 : Int), .int .u64 (l3 z2 : Int)], .agg #[.bool (sg u1), .int .u64 (l0 u1 : Int), .int .u64 (l1 u1 : Int), .int .u64 (l2 u1 : Int), .int .u64 (l3 u1 : Int)], .tuple #[.agg #[.bool (sg z2), .int .u64 (l0 z2 : Int), .int .u64 (l1 z2 : Int), .int .u64 (l2 z2 : Int), .int .u64 (l3 z2 : Int), .bool (sg u1), .int .u64 (l0 u1 : Int), .int .u64 (l1 u1 : Int), .int .u64 (l2 u1 : Int), .int .u64 (l3 u1 : Int)], .bool true], .tuple #[.agg #[.bool (sg z2), .int .u64 (l0 z2 : Int), .int .u64 (l1 z2 : Int), .int .u64 (l2 z2 : Int), .int .u64 (l3 z2 : Int), .bool (sg u1), .int .u64 (l0 u1 : Int), .int .u64 (l1 u1 : Int), .int .u64 (l2 u1 : Int), .int .u64 (l3 u1 : Int)], .bool true], .agg #[.bool (sg z2), .int .u64 (l0 z2 : Int), .int .u64 (l1 z2 : Int), .int .u64 (l2 z2 : Int), .int .u64 (l3 z2 : Int), .bool (sg u1), .int .u64 (l0 u1 : Int), .int .u64 (l1 u1 : Int), .int .u64 (l2 u1 : Int), .int .u64 (l3 u1 : Int)], .bool true, undef, undef, .bool true] (fun _ => (.cells #[.bool false, .int .u64 0, .int .u64 0, .int .u64 0, .int .u64 0, .bool false, .int .u64 0, .int .u64 0, .int .u64 0, .int .u64 0] 27 (0, 0))) (fun _ => (.cells #[.bool (sg z2), .int .u64 (l0 z2 : Int), .int .u64 (l1 z2 : Int), .int .u64 (l2 z2 : Int), .int .u64 (l3 z2 : Int), .bool (sg u1), .int .u64 (l0 u1 : Int), .int .u64 (l1 u1 : Int), .int .u64 (l2 u1 : Int), .int .u64 (l3 u1 : Int)] 27 (0, 0))) (fun _ => 0) (by kernel_rfl) (by kernel_rfl) (by kernel_rfl) rfl rfl (by simp) (by simp) ?_ ?_
      · refine ⟨?_, ?_, ?_, ?_, ?_, ?_, ?_, ?_, ?_, trivial⟩
        · refine op_q ?uvn21 ?h1n21 ?h2n21 ?h3n21
          case h1n21 => exact rfl
          case uvn21 => exact (.agg #[.bool (sg z2), .int .u64 (l0 z2 : Int), .int .u64 (l1 z2 : Int), .int .u64 (l2 z2 : Int), .int .u64 (l3 z2 : Int)])
          case h2n21 => exact rfl
          intro w' hw'
          have Q2 := Q2.same hw' (by simp)
          have xQ2 := five_cells Q2
          go_simp
        · refine op_q ?uvn22 ?h1n22 ?h2n22 ?h3n22
          case h1n22 => exact rfl
          case uvn22 => exact (.agg #[.bool (sg u1), .int .u64 (l0 u1 : Int), .int .u64 (l1 u1 : Int), .int .u64 (l2 u1 : Int), .int .u64 (l3 u1 : Int)])
          case h2n22 => exact rfl
          intro w' hw'
          go_simp
          exact kO1.out w'
        · refine op_q ?uvn23 ?h1n23 ?h2n23 ?h3n23
          case h1n23 => exact rfl
          case uvn23 => exact (.tuple #[.agg #[.bool (sg z2), .int .u64 (l0 z2 : Int), .int .u64 (l1 z2 : Int), .int .u64 (l2 z2 : Int), .int .u64 (l3 z2 : Int), .bool (sg u1), .int .u64 (l0 u1 : Int), .int .u64 (l1 u1 : Int), .int .u64 (l2 u1 : Int), .int .u64 (l3 u1 : Int)], .bool true])
          case h2n23 => exact rfl
          intro w' hw'
          go_simp
          exact kM2.out w'
        · refine op_q ?uvn24 ?h1n24 ?h2n24 ?h3n24
          case h1n24 => exact rfl
          case uvn24 => exact (.tuple #[.agg #[.bool (sg z2), .int .u64 (l0 z2 : Int), .int .u64 (l1 z2 : Int), .int .u64 (l2 z2 : Int), .int .u64 (l3 z2 : Int), .bool (sg u1), .int .u64 (l0 u1 : Int), .int .u64 (l1 u1 : Int), .int .u64 (l2 u1 : Int), .int .u64 (l3 u1 : Int)], .bool true])
          case h2n24 => exact rfl
          intro w' hw'
          go_simp
        · refine op_q ?uvn25 ?h1n25 ?h2n25 ?h3n25
          case h1n25 => exact rfl
          case uvn25 => exact (.agg #[.bool (sg z2), .int .u64 (l0 z2 : Int), .int .u64 (l1 z2 : Int), .int .u64 (l2 z2 : Int), .int .u64 (l3 z2 : Int), .bool (sg u1), .int .u64 (l0 u1 : Int), .int .u64 (l1 u1 : Int), .int .u64 (l2 u1 : Int), .int .u64 (l3 u1 : Int)])
          case h2n25 => exact rfl
          intro w' hw'
          go_simp
        · refine op_q ?uvn26 ?h1n26 ?h2n26 ?h3n26
          case h1n26 => exact rfl
          case uvn26 => exact (.bool true)
          case h2n26 => exact rfl
          intro w' hw'
          go_simp
        · refine op_al ?uzn27 ?h1n27 ?h2n27 ?h3n27
          case h1n27 => exact rfl
          case h2n27 => exact rfl
          intro ρ w'
          go_simp
          rfl
        · refine op_st (j := 6) (T := ?uTn28) (p := ?upn28) (x := ?uxn28) ?ufn28 ?uzn28 ?uvn28 ?h1n28 ?h2n28 ?h3n28 ?h4n28 ?h5n28 ?h6n28
          case h1n28 => exact rfl
          case h2n28 => exact rfl
          case ufn28 => exact (.cells #[.bool (sg z2), .int .u64 (l0 z2 : Int), .int .u64 (l1 z2 : Int), .int .u64 (l2 z2 : Int), .int .u64 (l3 z2 : Int), .bool (sg u1), .int .u64 (l0 u1 : Int), .int .u64 (l1 u1 : Int), .int .u64 (l2 u1 : Int), .int .u64 (l3 u1 : Int)] 27 (0, 0))
          case uzn28 => exact (.cells #[.bool false, .int .u64 0, .int .u64 0, .int .u64 0, .int .u64 0, .bool false, .int .u64 0, .int .u64 0, .int .u64 0, .int .u64 0] 27 (0, 0))
          case uvn28 => exact (.agg #[.bool (sg z2), .int .u64 (l0 z2 : Int), .int .u64 (l1 z2 : Int), .int .u64 (l2 z2 : Int), .int .u64 (l3 z2 : Int), .bool (sg u1), .int .u64 (l0 u1 : Int), .int .u64 (l1 u1 : Int), .int .u64 (l2 u1 : Int), .int .u64 (l3 u1 : Int)])
          case h3n28 => exact rfl
          case h4n28 => exact rfl
          case h5n28 => go_simp
          intro ρ w' g' hp hx hz
          exact store_ratio rfl hp hx hz
        · refine op_q ?uvn29 ?h1n29 ?h2n29 ?h3n29
          case h1n29 => exact rfl
          case uvn29 => exact (.bool true)
          case h2n29 => exact rfl
          intro w' hw'
          go_simp
      · intro G W10 hI
        have hS := hI.same
        have P1 := P1.same hS (by simp)
        have Q1 := Q1.same hS (by simp)
        have Q2 := Q2.same hS (by simp)
        have Q3 := Q3.same hS (by simp)
        have X1 := X1.same hS (by simp)
        have EE := hide (hS.ext' EE.out (by simp))
        have X2 : Box10 W10 (G 6) (sg z2) (l0 z2) (l1 z2) (l2 z2) (l3 z2) (sg u1) (l0 u1) (l1 u1) (l2 u1) (l3 u1) := (hI.fulls 7 (List.mem_range.2 (show 7 < 9 by decide)) 6 rfl).2.2
        have hmX2 := (hI.made 6 (List.mem_range.2 (show 6 < 9 by decide)) rfl).1
        have ngP1X2 : g ≠ G 6 := by omega
        have ngQ1X2 : gQ1 ≠ G 6 := by omega
        have ngQ2X2 : gQ2 ≠ G 6 := by omega
        have ngQ3X2 : gQ3 ≠ G 6 := by omega
        have ngX1X2 : gX1 ≠ G 6 := by omega
        clear hI hS
        simp only [putAll, slotV, ptrTo, Nat.zero_add, Nat.reduceAdd]
        generalize G 6 = gX2 at *
        go_upto_region 6 with fail
        have qw := HQ.out.1
        obtain ⟨yP10, yP11, yP12, yP13, yP14, yP15, yP16, yP17, yP18, yP19, yP1f0, yP1f1, yP1f2, yP1f3, yP1f4, yP1f5, yP1f6, yP1f7, yP1f8, yP1f9⟩ := ten_cells P1
        clear yP1f0 yP1f1 yP1f2 yP1f3 yP1f4 yP1f5 yP1f6 yP1f7 yP1f8 yP1f9
        replace yP10 := cellR yP10
        replace yP11 := cellR yP11
        replace yP12 := cellR yP12
        replace yP13 := cellR yP13
        replace yP14 := cellR yP14
        replace yP15 := cellR yP15
        replace yP16 := cellR yP16
        replace yP17 := cellR yP17
        replace yP18 := cellR yP18
        replace yP19 := cellR yP19
        refine wp_region_quiet_below (by kernel_rfl) (by kernel_rfl) ?_
        repeat (quiet_step (first | with_reducible exact quiet_ret (kO1.out _)))
        refine wpQuiet_nil ?_
        intro _ hw'
        obtain ⟨⟨dq, osq⟩, hw''⟩ := hw'
        subst hw''
        clear yP10 yP11 yP12 yP13 yP14 yP15 yP16 yP17 yP18 yP19
        have hE := ext_regrown W10 dq osq
        have P1 := P1.ext hE
        have Q1 := Q1.ext hE
        have Q2 := Q2.ext hE
        have Q3 := Q3.ext hE
        have X1 := X1.ext hE
        have X2 := X2.ext hE
        have EE := hide (EE.out.trans hE)
        clear hE
        generalize grow (redrawn W10 dq) osq = W10q at *
        clear qw
        obtain ⟨xP10, xP11, xP12, xP13, xP14, xP15, xP16, xP17, xP18, xP19, xP1f0, xP1f1, xP1f2, xP1f3, xP1f4, xP1f5, xP1f6, xP1f7, xP1f8, xP1f9⟩ := ten_cells P1; obtain ⟨xQ10, xQ11, xQ12, xQ13, xQ14, xQ1f0, xQ1f1, xQ1f2, xQ1f3, xQ1f4⟩ := five_cells Q1; obtain ⟨xQ20, xQ21, xQ22, xQ23, xQ24, xQ2f0, xQ2f1, xQ2f2, xQ2f3, xQ2f4⟩ := five_cells Q2; obtain ⟨xQ30, xQ31, xQ32, xQ33, xQ34, xQ3f0, xQ3f1, xQ3f2, xQ3f3, xQ3f4⟩ := five_cells Q3; obtain ⟨xX10, xX11, xX12, xX13, xX14, xX15, xX16, xX17, xX18, xX19, xX1f0, xX1f1, xX1f2, xX1f3, xX1f4, xX1f5, xX1f6, xX1f7, xX1f8, xX1f9⟩ := ten_cells X1; obtain ⟨xX20, xX21, xX22, xX23, xX24, xX25, xX26, xX27, xX28, xX29, xX2f0, xX2f1, xX2f2, xX2f3, xX2f4, xX2f5, xX2f6, xX2f7, xX2f8, xX2f9⟩ := ten_cells X2
        go_upto_region 8 with (go_at_call 33; (with_reducible refine (kA.out _).mono ?_); rintro e w11 ⟨rfl, hE⟩; have P1 := P1.ext hE; have Q1 := Q1.ext hE; have Q2 := Q2.ext hE; have Q3 := Q3.ext hE; have X1 := X1.ext hE; have X2 := X2.ext hE; have EE := hide (EE.out.trans hE); clear hE)
        have Q5 : Box ((w11.alloc (.cells #[.bool (sg q), .int .u64 (l0 q : Int), .int .u64 (l1 q : Int), .int .u64 (l2 q : Int), .int .u64 (l3 q : Int)] 25))) w11.heap.size (sg q) (l0 q) (l1 q) (l2 q) (l3 q) := heap_alloc_new w11 _
        have lP1 := P1.lt
        have lQ1 := Q1.lt
        have lQ2 := Q2.lt
        have lQ3 := Q3.lt
        have lX1 := X1.lt
        have lX2 := X2.lt
        have hE := ext_alloc w11 (.cells #[.bool (sg q), .int .u64 (l0 q : Int), .int .u64 (l1 q : Int), .int .u64 (l2 q : Int), .int .u64 (l3 q : Int)] 25)
        have P1 := P1.ext hE
        have Q1 := Q1.ext hE
        have Q2 := Q2.ext hE
        have Q3 := Q3.ext hE
        have X1 := X1.ext hE
        have X2 := X2.ext hE
        have EE := hide (EE.out.trans hE)
        clear hE
        generalize w11.alloc (.cells #[.bool (sg q), .int .u64 (l0 q : Int), .int .u64 (l1 q : Int), .int .u64 (l2 q : Int), .int .u64 (l3 q : Int)] 25) = Ww11 at *
        generalize w11.heap.size = gQ5 at *
        have ngP1Q5 : g ≠ gQ5 := by omega
        have ngQ1Q5 : gQ1 ≠ gQ5 := by omega
        have ngQ2Q5 : gQ2 ≠ gQ5 := by omega
        have ngQ3Q5 : gQ3 ≠ gQ5 := by omega
        have ngX1Q5 : gX1 ≠ gQ5 := by omega
        have ngX2Q5 : gX2 ≠ gQ5 := by omega
        obtain ⟨_, q0, q1, qa, qb⟩ := HQ.out
        obtain ⟨h1, h2, hww, hab⟩ := HWY.out
        clear HQ HWY
        obtain ⟨yP10, yP11, yP12, yP13, yP14, yP15, yP16, yP17, yP18, yP19, yP1f0, yP1f1, yP1f2, yP1f3, yP1f4, yP1f5, yP1f6, yP1f7, yP1f8, yP1f9⟩ := ten_cells P1
        clear yP1f0 yP1f1 yP1f2 yP1f3 yP1f4 yP1f5 yP1f6 yP1f7 yP1f8 yP1f9
        replace yP10 := cellR yP10
        replace yP11 := cellR yP11
        replace yP12 := cellR yP12
        replace yP13 := cellR yP13
        replace yP14 := cellR yP14
        replace yP15 := cellR yP15
        replace yP16 := cellR yP16
        replace yP17 := cellR yP17
        replace yP18 := cellR yP18
        replace yP19 := cellR yP19
        obtain ⟨yQ10, yQ11, yQ12, yQ13, yQ14, yQ1f0, yQ1f1, yQ1f2, yQ1f3, yQ1f4⟩ := five_cells Q1
        clear yQ1f0 yQ1f1 yQ1f2 yQ1f3 yQ1f4
        replace yQ10 := cellR yQ10
        replace yQ11 := cellR yQ11
        replace yQ12 := cellR yQ12
        replace yQ13 := cellR yQ13
        replace yQ14 := cellR yQ14
        obtain ⟨yQ20, yQ21, yQ22, yQ23, yQ24, yQ2f0, yQ2f1, yQ2f2, yQ2f3, yQ2f4⟩ := five_cells Q2
        clear yQ2f0 yQ2f1 yQ2f2 yQ2f3 yQ2f4
        replace yQ20 := cellR yQ20
        replace yQ21 := cellR yQ21
        replace yQ22 := cellR yQ22
        replace yQ23 := cellR yQ23
        replace yQ24 := cellR yQ24
        obtain ⟨yQ30, yQ31, yQ32, yQ33, yQ34, yQ3f0, yQ3f1, yQ3f2, yQ3f3, yQ3f4⟩ := five_cells Q3
        clear yQ3f0 yQ3f1 yQ3f2 yQ3f3 yQ3f4
        replace yQ30 := cellR yQ30
        replace yQ31 := cellR yQ31
        replace yQ32 := cellR yQ32
        replace yQ33 := cellR yQ33
        replace yQ34 := cellR yQ34
        obtain ⟨yX10, yX11, yX12, yX13, yX14, yX15, yX16, yX17, yX18, yX19, yX1f0, yX1f1, yX1f2, yX1f3, yX1f4, yX1f5, yX1f6, yX1f7, yX1f8, yX1f9⟩ := ten_cells X1
        clear yX1f0 yX1f1 yX1f2 yX1f3 yX1f4 yX1f5 yX1f6 yX1f7 yX1f8 yX1f9
        replace yX10 := cellR yX10
        replace yX11 := cellR yX11
        replace yX12 := cellR yX12
        replace yX13 := cellR yX13
        replace yX14 := cellR yX14
        replace yX15 := cellR yX15
        replace yX16 := cellR yX16
        replace yX17 := cellR yX17
        replace yX18 := cellR yX18
        replace yX19 := cellR yX19
        obtain ⟨yX20, yX21, yX22, yX23, yX24, yX25, yX26, yX27, yX28, yX29, yX2f0, yX2f1, yX2f2, yX2f3, yX2f4, yX2f5, yX2f6, yX2f7, yX2f8, yX2f9⟩ := ten_cells X2
        clear yX2f0 yX2f1 yX2f2 yX2f3 yX2f4 yX2f5 yX2f6 yX2f7 yX2f8 yX2f9
        replace yX20 := cellR yX20
        replace yX21 := cellR yX21
        replace yX22 := cellR yX22
        replace yX23 := cellR yX23
        replace yX24 := cellR yX24
        replace yX25 := cellR yX25
        replace yX26 := cellR yX26
        replace yX27 := cellR yX27
        replace yX28 := cellR yX28
        replace yX29 := cellR yX29
        obtain ⟨yQ50, yQ51, yQ52, yQ53, yQ54, yQ5f0, yQ5f1, yQ5f2, yQ5f3, yQ5f4⟩ := five_cells Q5
        clear yQ5f0 yQ5f1 yQ5f2 yQ5f3 yQ5f4
        replace yQ50 := cellR yQ50
        replace yQ51 := cellR yQ51
        replace yQ52 := cellR yQ52
        replace yQ53 := cellR yQ53
        replace yQ54 := cellR yQ54
        rcases hww with ⟨rfl, rfl, rfl⟩ | ⟨rfl, rfl, rfl⟩ <;> rcases hab with rfl | ⟨rfl, rfl⟩
        all_goals
          refine wp_region_quiet_below (by kernel_rfl) (by kernel_rfl) ?_
          repeat (quiet_step (first | with_reducible exact quiet_ret (kK.out _) | with_reducible exact quiet_ret (kX.out _) | with_reducible exact quiet_ret (kY.out _) | with_reducible exact quiet_ret (kO0.out _) | with_reducible exact quiet_ret (kO1.out _)))
          refine wpQuiet_nil ?_
          intro _ hw'
          obtain ⟨⟨dq, osq⟩, hw''⟩ := hw'
          subst hw''
          go_wp2_with fail
        all_goals go_ret
        all_goals exact ⟨rfl, EE.out.trans (ext_regrown _ _ _)⟩
end Go.Proofs.Ythcobijnhfflnaa
