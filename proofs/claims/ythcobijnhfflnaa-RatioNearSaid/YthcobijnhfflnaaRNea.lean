/- The law RatioNear, walked. Conditions: the arguments are a list of numbers of 64 bits and a number of 64 bits. -/
import Derived.Test.YthcobijnhfflnaaRUni
namespace Go.Proofs.Ythcobijnhfflnaa
set_option linter.unusedVariables false
set_option linter.unusedSimpArgs false
open Go Go.RowKit Go.Sort
def atI (n d : Int) (k : Nat) : Int := ((n + n) * (k : Int) + d) / (d + d)
theorem at_bounds {n d : Int} {k : Nat} (h : 0 < d) : atI n d k * (d + d) ≤ (n + n) * (k : Int) + d ∧ (n + n) * (k : Int) + d < atI n d k * (d + d) + (d + d) := by
  have e := Int.emod_add_mul_ediv ((n + n) * (k : Int) + d) (d + d)
  have h1 := Int.emod_nonneg ((n + n) * (k : Int) + d) (show d + d ≠ 0 by omega)
  have h2 := Int.emod_lt_of_pos ((n + n) * (k : Int) + d) (show 0 < d + d by omega)
  unfold atI
  rw [Int.mul_comm (d + d)] at e
  constructor <;> omega
theorem at_near {n d : Int} {k : Nat} (h : 0 < d) {z y t : Int} (hz : n * (k : Int) = z) (hy : atI n d k * d = y) (ht : z - y + (z - y) = t) : -d ≤ t ∧ t ≤ d := by
  obtain ⟨h1, h2⟩ := @at_bounds n d k h
  have e1 : (n + n) * (k : Int) = z + z := by rw [Int.add_mul, hz]
  have e2 : atI n d k * (d + d) = y + y := by rw [Int.mul_add, hy]
  rw [e1, e2] at h1 h2
  omega
theorem at_mono {n1 d1 n2 d2 : Int} {k : Nat} (h1 : 0 < d1) (h2 : 0 < d2) (h : n1 * d2 ≤ n2 * d1) : atI n1 d1 k ≤ atI n2 d2 k := by
  obtain ⟨a, _⟩ := @at_bounds n1 d1 k h1
  have hb : (0 : Int) < d2 + d2 := by omega
  show atI n1 d1 k ≤ ((n2 + n2) * (k : Int) + d2) / (d2 + d2)
  rw [Int.le_ediv_iff_mul_le hb]
  have m1 : atI n1 d1 k * (d1 + d1) * d2 ≤ ((n1 + n1) * (k : Int) + d1) * d2 := Int.mul_le_mul_of_nonneg_right a (by omega)
  have m2 : n1 * d2 * (k : Int) ≤ n2 * d1 * (k : Int) := Int.mul_le_mul_of_nonneg_right h (by omega)
  have e1 : atI n1 d1 k * (d1 + d1) * d2 = atI n1 d1 k * (d2 + d2) * d1 := by grind
  have e2 : ((n1 + n1) * (k : Int) + d1) * d2 = n1 * d2 * (k : Int) + n1 * d2 * (k : Int) + d1 * d2 := by grind
  have e3 : ((n2 + n2) * (k : Int) + d2) * d1 = n2 * d1 * (k : Int) + n2 * d1 * (k : Int) + d1 * d2 := by grind
  refine Int.le_of_mul_le_mul_right (a := d1) ?_ h1
  omega
theorem near_ways {n1 d1 n2 d2 : Int} {k : Nat} (h1 : 0 < d1) (h2 : 0 < d2) {x y : Int} (hx : cmpI (atI n1 d1 k) (atI n2 d2 k) = x) (hy : cmpI (n1 * d2) (n2 * d1) = y) : (y = 1 ∧ 0 ≤ x) ∨ (y = 0 ∧ x = 0) ∨ (y = -1 ∧ x ≤ 0) := by
  rcases Int.lt_trichotomy (n1 * d2) (n2 * d1) with h | h | h
  · right; right
    exact ⟨by rw [← hy]; exact cmpI_lt h, by rw [← hx]; exact le_cmpI (at_mono h1 h2 (by omega))⟩
  · right; left
    have a := @at_mono n1 d1 n2 d2 k h1 h2 (by omega)
    have b := @at_mono n2 d2 n1 d1 k h2 h1 (by omega)
    exact ⟨by rw [← hy]; exact cmpI_eq h, by rw [← hx]; exact cmpI_eq (by omega)⟩
  · left
    refine ⟨by rw [← hy]; exact cmpI_gt h, ?_⟩
    rw [← hx]
    have a := @at_mono n2 d2 n1 d1 k h2 h1 (by omega)
    unfold cmpI
    rw [if_neg (by omega)]
    split <;> omega
theorem box_abs {w : World} {g : Nat} {t : Int} (h : Box w g false (l0 t) (l1 t) (l2 t) (l3 t)) : Box w g (sg (t.natAbs : Int)) (l0 (t.natAbs : Int)) (l1 (t.natAbs : Int)) (l2 (t.natAbs : Int)) (l3 (t.natAbs : Int)) := by
  have e0 : sg (t.natAbs : Int) = false := by unfold sg; simp
  have e1 : l0 (t.natAbs : Int) = l0 t := by unfold l0; simp
  have e2 : l1 (t.natAbs : Int) = l1 t := by unfold l1; simp
  have e3 : l2 (t.natAbs : Int) = l2 t := by unfold l2; simp
  have e4 : l3 (t.natAbs : Int) = l3 t := by unfold l3; simp
  rw [e0, e1, e2, e3, e4]; exact h
theorem Box.put0 {w : World} {g : Nat} {s t : Bool} {a b c d : Nat} (k : Box w g s a b c d) : Box (w.setCell ⟨g, 0, none⟩ (.bool t)) g t a b c d := store_block k 0 (.bool t)
theorem Box10.far1 {w : World} {k b' j : Nat} {s : Bool} {a b c d : Nat} {t : Bool} {e f g h : Nat} (x : Box10 w k s a b c d t e f g h) (hn : k ≠ b') (u : Value) : Box10 (w.setCell ⟨b', j, none⟩ u) k s a b c d t e f g h := by
  unfold Box10 at *; rw [heap_setCell_other _ _ _ _ (by simpa using hn)]; exact x
theorem ext_one {W w : World} (h : Ext W w) {b j : Nat} (hb : W.heap.size ≤ b) (u : Value) : Ext W (w.setCell ⟨b, j, none⟩ u) := h.setCell (p := ⟨b, j, none⟩) hb u
set_option maxRecDepth 100000 in
set_option maxHeartbeats 8000000 in
theorem law_rnear (k : Nat) (x : Option Addr) (len cap : Nat) (W : World) (hL : IsList W x len cap) (hk : k < 18446744073709551616) : Calls Try.prog 8 #[.slice x len cap, .int .u64 (k : Int)] W (BoolRet true W) := by
  have HKK := hide hk
  clear hk
  have HL := hide hL
  clear hL
  go_enter Try.func8, Try.ntmps8
  go_upto_region 2 with (go_at_call 14; (with_reducible refine (t_new W x len cap HL.out).mono ?_); rintro e w1 ⟨rfl, T0, hB⟩)
  obtain ⟨b, hb⟩ : ∃ b, W.heap.size = b := ⟨_, rfl⟩
  have HB := hide hb
  rw [hb] at T0 hB
  have EE : Hid (Ext W w1) := by rw [← hb] at hB; exact hB
  rw [hb]
  clear hb hB
  go_upto_region 3 with (first
    | (go_at_call 15; (with_reducible refine (t_ratio b b _ _ T0 (Upd.refl _ _)).mono ?_); rintro e w2 ⟨n1, d1, rfl, hF1, T1, hU⟩; have HF1 := hide hF1; have EE := hide (hU.ext EE.out (by rw [HB.out]; exact Nat.le_refl _)); clear T0 hU hF1)
    | (go_at_call 15; (with_reducible refine (t_ratio b b _ _ T1 (Upd.refl _ _)).mono ?_); rintro e w3 ⟨n2, d2, rfl, hF2, T2, hU⟩; have HF2 := hide hF2; have EE := hide (hU.ext EE.out (by rw [HB.out]; exact Nat.le_refl _)); clear T1 hU hF2))
  have H2 := two_blocks w3 (.cells #[.bool (sg n1), .int .u64 (l0 n1 : Int), .int .u64 (l1 n1 : Int), .int .u64 (l2 n1 : Int), .int .u64 (l3 n1 : Int), .bool (sg d1), .int .u64 (l0 d1 : Int), .int .u64 (l1 d1 : Int), .int .u64 (l2 d1 : Int), .int .u64 (l3 d1 : Int)] 27) (.cells #[.bool (sg n2), .int .u64 (l0 n2 : Int), .int .u64 (l1 n2 : Int), .int .u64 (l2 n2 : Int), .int .u64 (l3 n2 : Int), .bool (sg d2), .int .u64 (l0 d2 : Int), .int .u64 (l1 d2 : Int), .int .u64 (l2 d2 : Int), .int .u64 (l3 d2 : Int)] 27)
  have hE := ((ext_alloc w3 (.cells #[.bool (sg n1), .int .u64 (l0 n1 : Int), .int .u64 (l1 n1 : Int), .int .u64 (l2 n1 : Int), .int .u64 (l3 n1 : Int), .bool (sg d1), .int .u64 (l0 d1 : Int), .int .u64 (l1 d1 : Int), .int .u64 (l2 d1 : Int), .int .u64 (l3 d1 : Int)] 27)).trans (ext_alloc _ (.cells #[.bool (sg n2), .int .u64 (l0 n2 : Int), .int .u64 (l1 n2 : Int), .int .u64 (l2 n2 : Int), .int .u64 (l3 n2 : Int), .bool (sg d2), .int .u64 (l0 d2 : Int), .int .u64 (l1 d2 : Int), .int .u64 (l2 d2 : Int), .int .u64 (l3 d2 : Int)] 27)))
  have EE := hide (EE.out.trans hE)
  clear hE
  obtain ⟨W3, hW⟩ : ∃ W, W = ((w3.alloc (.cells #[.bool (sg n1), .int .u64 (l0 n1 : Int), .int .u64 (l1 n1 : Int), .int .u64 (l2 n1 : Int), .int .u64 (l3 n1 : Int), .bool (sg d1), .int .u64 (l0 d1 : Int), .int .u64 (l1 d1 : Int), .int .u64 (l2 d1 : Int), .int .u64 (l3 d1 : Int)] 27)).alloc (.cells #[.bool (sg n2), .int .u64 (l0 n2 : Int), .int .u64 (l1 n2 : Int), .int .u64 (l2 n2 : Int), .int .u64 (l3 n2 : Int), .bool (sg d2), .int .u64 (l0 d2 : Int), .int .u64 (l1 d2 : Int), .int .u64 (l2 d2 : Int), .int .u64 (l3 d2 : Int)] 27)) := ⟨_, rfl⟩
  rw [← hW] at H2 EE  ⊢
  obtain ⟨g, hg⟩ : ∃ g, w3.heap.size = g := ⟨_, rfl⟩
  rw [hg] at H2 ⊢
  obtain ⟨P1, P2⟩ : Box10 W3 g (sg n1) (l0 n1) (l1 n1) (l2 n1) (l3 n1) (sg d1) (l0 d1) (l1 d1) (l2 d1) (l3 d1) ∧ Box10 W3 (g + 1) (sg n2) (l0 n2) (l1 n2) (l2 n2) (l3 n2) (sg d2) (l0 d2) (l1 d2) (l2 d2) (l3 d2) := H2
  clear hW hg
  clear T2
  obtain ⟨z1, hz1⟩ : ∃ z, n1 * (k : Int) = z := ⟨_, rfl⟩
  obtain ⟨q1, hq1⟩ : ∃ z, atI n1 d1 k = z := ⟨_, rfl⟩
  obtain ⟨q2, hq2⟩ : ∃ z, atI n2 d2 k = z := ⟨_, rfl⟩
  obtain ⟨z2, hz2⟩ : ∃ z, q1 * d1 = z := ⟨_, rfl⟩
  obtain ⟨z3, hz3⟩ : ∃ z, z1 - z2 = z := ⟨_, rfl⟩
  obtain ⟨z4, hz4⟩ : ∃ z, z3 + z3 = z := ⟨_, rfl⟩
  obtain ⟨rx, hx⟩ : ∃ r, cmpI q1 q2 = r := ⟨_, rfl⟩
  obtain ⟨ry, hy⟩ : ∃ r, cmpI (n1 * d2) (n2 * d1) = r := ⟨_, rfl⟩
  have p1 := HF1.out.1
  have p2 := HF2.out.1
  have hnear := @at_near n1 d1 k p1 z1 z2 z4 hz1 (by rw [hq1]; exact hz2) (by rw [hz3]; exact hz4)
  have b1 : z1.natAbs < 3138550867693340381917894711603833208051177722232017256448 := by
    rw [← hz1, Int.natAbs_mul, Int.natAbs_natCast]
    exact Nat.lt_of_lt_of_le (Nat.mul_lt_mul'' HF1.out.2.1 HKK.out) (by decide)
  have bd := HF1.out.2.2.1
  have f1 : Hid (F256 z1) := by unfold Hid F256; omega
  have f2 : Hid (F256 z2) := by unfold Hid F256; omega
  have f3 : Hid (F256 z3) := by unfold Hid F256; omega
  have f4 : Hid (F256 z4) := by unfold Hid F256; omega
  have fa : Hid (F256 (z4.natAbs : Int)) := by unfold Hid F256; omega
  have bq : ∀ (n d : Int) (q : Int), Frac n d → atI n d k = q → F256 q := by
    intro n d q hF hq
    obtain ⟨a1, a2⟩ := @at_bounds n d k hF.1
    rw [hq] at a1 a2
    have hb : ((n + n) * (k : Int)).natAbs < 6277101735386680763835789423207666416102355444464034512896 := by
      rw [Int.natAbs_mul, Int.natAbs_natCast]
      have : (n + n).natAbs < 340282366920938463463374607431768211456 := by have := hF.2.1; omega
      exact Nat.lt_of_lt_of_le (Nat.mul_lt_mul'' this HKK.out) (by decide)
    have hd := hF.2.2.1
    have h0 := hF.1
    unfold F256
    by_cases hs : 0 ≤ q
    · have : q * 1 ≤ q * (d + d) := Int.mul_le_mul_of_nonneg_left (by omega) hs
      omega
    · have : -q * 1 ≤ -q * (d + d) := Int.mul_le_mul_of_nonneg_left (by omega) (by omega)
      have e : -q * (d + d) = -(q * (d + d)) := by rw [Int.neg_mul]
      omega
  have fq1 := hide (bq n1 d1 q1 HF1.out hq1)
  have fq2 := hide (bq n2 d2 q2 HF2.out hq2)
  have HWY := hide (@near_ways n1 d1 n2 d2 k p1 p2 rx ry (by rw [hq1, hq2]; exact hx) hy)
  have hc : cmpI (z4.natAbs : Int) d1 ≤ 0 := le_cmpI (by omega)
  obtain ⟨rc, hrc⟩ : ∃ r, cmpI (z4.natAbs : Int) d1 = r := ⟨_, rfl⟩
  rw [hrc] at hc
  have kU : Hid (∀ w, Calls Try.prog 35 #[.int .u64 (k : Int)] w (Ret (.agg #[.bool (sg (k : Int)), .int .u64 (l0 (k : Int) : Int), .int .u64 (l1 (k : Int) : Int), .int .u64 (l2 (k : Int) : Int), .int .u64 (l3 (k : Int) : Int)]) w)) := fun w => d_ofu HKK.out w
  have fk : Hid (F256 (k : Int)) := by unfold Hid F256; have := HKK.out; omega
  have kN : Hid (∀ w, Calls Try.prog 28 #[.agg #[.bool (sg n1), .int .u64 (l0 n1 : Int), .int .u64 (l1 n1 : Int), .int .u64 (l2 n1 : Int), .int .u64 (l3 n1 : Int)], .agg #[.bool (sg (k : Int)), .int .u64 (l0 (k : Int) : Int), .int .u64 (l1 (k : Int) : Int), .int .u64 (l2 (k : Int) : Int), .int .u64 (l3 (k : Int) : Int)]] w (Ret (.tuple #[.agg #[.bool (sg z1), .int .u64 (l0 z1 : Int), .int .u64 (l1 z1 : Int), .int .u64 (l2 z1 : Int), .int .u64 (l3 z1 : Int)], .bool true]) w)) := fun w => d_mul HF1.out.fn fk.out hz1 f1.out w
  have kA : Hid (∀ w, Calls Try.prog 33 #[.agg #[.bool (sg n1), .int .u64 (l0 n1 : Int), .int .u64 (l1 n1 : Int), .int .u64 (l2 n1 : Int), .int .u64 (l3 n1 : Int), .bool (sg d1), .int .u64 (l0 d1 : Int), .int .u64 (l1 d1 : Int), .int .u64 (l2 d1 : Int), .int .u64 (l3 d1 : Int)], .int .u64 (k : Int)] w (Ret (.agg #[.bool (sg q1), .int .u64 (l0 q1 : Int), .int .u64 (l1 q1 : Int), .int .u64 (l2 q1 : Int), .int .u64 (l3 q1 : Int)]) w)) := fun w => g_at HF1.out HKK.out hq1 w
  have kB : Hid (∀ w, Calls Try.prog 33 #[.agg #[.bool (sg n2), .int .u64 (l0 n2 : Int), .int .u64 (l1 n2 : Int), .int .u64 (l2 n2 : Int), .int .u64 (l3 n2 : Int), .bool (sg d2), .int .u64 (l0 d2 : Int), .int .u64 (l1 d2 : Int), .int .u64 (l2 d2 : Int), .int .u64 (l3 d2 : Int)], .int .u64 (k : Int)] w (Ret (.agg #[.bool (sg q2), .int .u64 (l0 q2 : Int), .int .u64 (l1 q2 : Int), .int .u64 (l2 q2 : Int), .int .u64 (l3 q2 : Int)]) w)) := fun w => g_at HF2.out HKK.out hq2 w
  have kM : Hid (∀ w, Calls Try.prog 28 #[.agg #[.bool (sg q1), .int .u64 (l0 q1 : Int), .int .u64 (l1 q1 : Int), .int .u64 (l2 q1 : Int), .int .u64 (l3 q1 : Int)], .agg #[.bool (sg d1), .int .u64 (l0 d1 : Int), .int .u64 (l1 d1 : Int), .int .u64 (l2 d1 : Int), .int .u64 (l3 d1 : Int)]] w (Ret (.tuple #[.agg #[.bool (sg z2), .int .u64 (l0 z2 : Int), .int .u64 (l1 z2 : Int), .int .u64 (l2 z2 : Int), .int .u64 (l3 z2 : Int)], .bool true]) w)) := fun w => d_mul fq1.out HF1.out.fd hz2 f2.out w
  have kS : Hid (∀ w, Calls Try.prog 32 #[.agg #[.bool (sg z1), .int .u64 (l0 z1 : Int), .int .u64 (l1 z1 : Int), .int .u64 (l2 z1 : Int), .int .u64 (l3 z1 : Int)], .agg #[.bool (sg z2), .int .u64 (l0 z2 : Int), .int .u64 (l1 z2 : Int), .int .u64 (l2 z2 : Int), .int .u64 (l3 z2 : Int)]] w (Ret (.tuple #[.agg #[.bool (sg z3), .int .u64 (l0 z3 : Int), .int .u64 (l1 z3 : Int), .int .u64 (l2 z3 : Int), .int .u64 (l3 z3 : Int)], .bool true]) w)) := fun w => d_sub f1.out f2.out hz3 f3.out w
  have kD : Hid (∀ w, Calls Try.prog 36 #[.agg #[.bool (sg z3), .int .u64 (l0 z3 : Int), .int .u64 (l1 z3 : Int), .int .u64 (l2 z3 : Int), .int .u64 (l3 z3 : Int)], .agg #[.bool (sg z3), .int .u64 (l0 z3 : Int), .int .u64 (l1 z3 : Int), .int .u64 (l2 z3 : Int), .int .u64 (l3 z3 : Int)]] w (Ret (.tuple #[.agg #[.bool (sg z4), .int .u64 (l0 z4 : Int), .int .u64 (l1 z4 : Int), .int .u64 (l2 z4 : Int), .int .u64 (l3 z4 : Int)], .bool true]) w)) := fun w => d_add f3.out f3.out hz4 f4.out w
  have kC : Hid (∀ w, Calls Try.prog 37 #[.agg #[.bool (sg (z4.natAbs : Int)), .int .u64 (l0 (z4.natAbs : Int) : Int), .int .u64 (l1 (z4.natAbs : Int) : Int), .int .u64 (l2 (z4.natAbs : Int) : Int), .int .u64 (l3 (z4.natAbs : Int) : Int)], .agg #[.bool (sg d1), .int .u64 (l0 d1 : Int), .int .u64 (l1 d1 : Int), .int .u64 (l2 d1 : Int), .int .u64 (l3 d1 : Int)]] w (Ret (.int .i64 rc) w)) := fun w => d_cmp fa.out HF1.out.fd hrc w
  have kX : Hid (∀ w, Calls Try.prog 37 #[.agg #[.bool (sg q1), .int .u64 (l0 q1 : Int), .int .u64 (l1 q1 : Int), .int .u64 (l2 q1 : Int), .int .u64 (l3 q1 : Int)], .agg #[.bool (sg q2), .int .u64 (l0 q2 : Int), .int .u64 (l1 q2 : Int), .int .u64 (l2 q2 : Int), .int .u64 (l3 q2 : Int)]] w (Ret (.int .i64 rx) w)) := fun w => d_cmp fq1.out fq2.out hx w
  have kY : Hid (∀ w, Calls Try.prog 29 #[.agg #[.bool (sg n1), .int .u64 (l0 n1 : Int), .int .u64 (l1 n1 : Int), .int .u64 (l2 n1 : Int), .int .u64 (l3 n1 : Int), .bool (sg d1), .int .u64 (l0 d1 : Int), .int .u64 (l1 d1 : Int), .int .u64 (l2 d1 : Int), .int .u64 (l3 d1 : Int)], .agg #[.bool (sg n2), .int .u64 (l0 n2 : Int), .int .u64 (l1 n2 : Int), .int .u64 (l2 n2 : Int), .int .u64 (l3 n2 : Int), .bool (sg d2), .int .u64 (l0 d2 : Int), .int .u64 (l1 d2 : Int), .int .u64 (l2 d2 : Int), .int .u64 (l3 d2 : Int)]] w (Ret (.int .i64 ry) w)) := fun w => g_cmp HF1.out HF2.out hy w
  clear hz1 hz2 hz3 hz4 hq1 hq2 hx hy p1 p2 hnear b1 bd bq hrc
  go_cut [8, 9] (fun p0 p1 wx => Quot W3 z1 p0 wx ∧ p1 = .bool true)
  case first =>
    obtain ⟨xP10, xP11, xP12, xP13, xP14, xP15, xP16, xP17, xP18, xP19, xP1f0, xP1f1, xP1f2, xP1f3, xP1f4, xP1f5, xP1f6, xP1f7, xP1f8, xP1f9⟩ := ten_cells P1
    have lbP1 := P1.lt
    have EB := Ext.refl W3
    go_region_held3 (fun w' => w'.cell? ⟨g, 0, none⟩ = some (.bool (sg n1)) ∧ w'.cell? ⟨g, 1, none⟩ = some (.int .u64 (l0 n1 : Int)) ∧ w'.cell? ⟨g, 2, none⟩ = some (.int .u64 (l1 n1 : Int)) ∧ w'.cell? ⟨g, 3, none⟩ = some (.int .u64 (l2 n1 : Int)) ∧ w'.cell? ⟨g, 4, none⟩ = some (.int .u64 (l3 n1 : Int)) ∧ w'.cell? ⟨g, 5, none⟩ = some (.bool (sg d1)) ∧ w'.cell? ⟨g, 6, none⟩ = some (.int .u64 (l0 d1 : Int)) ∧ w'.cell? ⟨g, 7, none⟩ = some (.int .u64 (l1 d1 : Int)) ∧ w'.cell? ⟨g, 8, none⟩ = some (.int .u64 (l2 d1 : Int)) ∧ w'.cell? ⟨g, 9, none⟩ = some (.int .u64 (l3 d1 : Int))) (first | (with_reducible exact ⟨xP10, xP11, xP12, xP13, xP14, xP15, xP16, xP17, xP18, xP19⟩) | go_keep) (first
      | (go_at_call 35; (with_reducible refine (kU.out _).mono ?_); rintro e' w4 ⟨rfl, hE⟩; have hF : Ext W3 w4 := (by first | (with_reducible exact hE) | (with_reducible exact (ext_drew _).trans hE)); clear hE; have hG := hF; have P1 := P1.ext hG; have EB := EB.trans hG; obtain ⟨xP10, xP11, xP12, xP13, xP14, xP15, xP16, xP17, xP18, xP19, xP1f0, xP1f1, xP1f2, xP1f3, xP1f4, xP1f5, xP1f6, xP1f7, xP1f8, xP1f9⟩ := ten_cells P1; have szw4 := hG.size; have loP1 := P1.lt; clear hF hG)
      | (go_at_call 35; (with_reducible refine (kU.out _).mono ?_); rintro e' w4 ⟨rfl, hE⟩; have hF : Ext (W3.alloc (.cells #[.bool false, .int .u64 0, .int .u64 0, .int .u64 0, .int .u64 0] 25)) w4 := (by first | (with_reducible exact hE) | (with_reducible exact (ext_drew _).trans hE)); clear hE; have hG := (ext_alloc W3 (.cells #[.bool false, .int .u64 0, .int .u64 0, .int .u64 0, .int .u64 0] 25)).trans hF; have Nw40 : Box w4 (W3.heap.size) false 0 0 0 0 := (Box.new0 W3).ext hF; have P1 := P1.ext hG; have EB := EB.trans hG; obtain ⟨xP10, xP11, xP12, xP13, xP14, xP15, xP16, xP17, xP18, xP19, xP1f0, xP1f1, xP1f2, xP1f3, xP1f4, xP1f5, xP1f6, xP1f7, xP1f8, xP1f9⟩ := ten_cells P1; obtain ⟨x0c0, x0c1, x0c2, x0c3, x0c4, x0f0, x0f1, x0f2, x0f3, x0f4⟩ := five_cells Nw40; have szw4 := hG.size; have loP1 := P1.lt; have loNw40 := Nw40.lt; have ne0 : W3.heap.size ≠ g := (by omega); clear hF hG)
      | (go_at_call 28; (with_reducible refine (kN.out _).mono ?_); rintro e' w5 ⟨rfl, hE⟩; have hF : Ext w4 w5 := (by first | (with_reducible exact hE) | (with_reducible exact (ext_drew _).trans hE)); clear hE; have hG := hF; have P1 := P1.ext hG; have EB := EB.trans hG; have Nw40 := Nw40.ext hG; obtain ⟨xP10, xP11, xP12, xP13, xP14, xP15, xP16, xP17, xP18, xP19, xP1f0, xP1f1, xP1f2, xP1f3, xP1f4, xP1f5, xP1f6, xP1f7, xP1f8, xP1f9⟩ := ten_cells P1; obtain ⟨x0c0, x0c1, x0c2, x0c3, x0c4, x0f0, x0f1, x0f2, x0f3, x0f4⟩ := five_cells Nw40; have szw5 := hG.size; have loP1 := P1.lt; have loNw40 := Nw40.lt; have ne0 : W3.heap.size ≠ g := (by omega); clear hF hG)
      | (go_at_call 28; (with_reducible refine (kN.out _).mono ?_); rintro e' w5 ⟨rfl, hE⟩; have hF : Ext w4 w5 := (by first | (with_reducible exact hE) | (with_reducible exact (ext_drew _).trans hE)); clear hE; have hG := hF; have P1 := P1.ext hG; have EB := EB.trans hG; obtain ⟨xP10, xP11, xP12, xP13, xP14, xP15, xP16, xP17, xP18, xP19, xP1f0, xP1f1, xP1f2, xP1f3, xP1f4, xP1f5, xP1f6, xP1f7, xP1f8, xP1f9⟩ := ten_cells P1; have szw5 := hG.size; have loP1 := P1.lt; clear hF hG)
      | (go_at_call 28; (with_reducible refine (kN.out _).mono ?_); rintro e' w5 ⟨rfl, hE⟩; have hF : Ext (w4.alloc (.cells #[.bool false, .int .u64 0, .int .u64 0, .int .u64 0, .int .u64 0] 25)) w5 := (by first | (with_reducible exact hE) | (with_reducible exact (ext_drew _).trans hE)); clear hE; have hG := (ext_alloc w4 (.cells #[.bool false, .int .u64 0, .int .u64 0, .int .u64 0, .int .u64 0] 25)).trans hF; have Nw50 : Box w5 (w4.heap.size) false 0 0 0 0 := (Box.new0 w4).ext hF; have P1 := P1.ext hG; have EB := EB.trans hG; obtain ⟨xP10, xP11, xP12, xP13, xP14, xP15, xP16, xP17, xP18, xP19, xP1f0, xP1f1, xP1f2, xP1f3, xP1f4, xP1f5, xP1f6, xP1f7, xP1f8, xP1f9⟩ := ten_cells P1; obtain ⟨x0c0, x0c1, x0c2, x0c3, x0c4, x0f0, x0f1, x0f2, x0f3, x0f4⟩ := five_cells Nw50; have szw5 := hG.size; have loP1 := P1.lt; have loNw50 := Nw50.lt; have ne0 : w4.heap.size ≠ g := (by omega); clear hF hG))
    all_goals go_wp2_with fail
    all_goals go_meet
    all_goals first
      | (with_reducible exact ⟨one0 (isC_of f1.out) EB, rfl⟩)
      | (with_reducible exact ⟨one1 (isC_of f1.out) EB Nw40 (by omega), rfl⟩)
      | (with_reducible exact ⟨one1 (isC_of f1.out) EB Nw50 (by omega), rfl⟩)
  case rest =>
   obtain ⟨⟨gQ1, s7, a7, b7, c7, d7, rfl, C7, Q1, hgQ1, hE⟩, rfl⟩ := hcut
   obtain ⟨rfl, rfl, rfl, rfl, rfl⟩ := isC_fix C7
   have lP1 := P1.lt
   have P1 := P1.ext hE
   have lP2 := P2.lt
   have P2 := P2.ext hE
   have EE := hide (EE.out.trans hE)
   clear C7 hE
   have ngP1Q1 : g ≠ gQ1 := by omega
   have ngP2Q1 : g + 1 ≠ gQ1 := by omega
   go_upto_region 4 with fail
   go_cut [10, 11] (fun p0 p1 wx => Quot wc z2 p0 wx ∧ p1 = .bool true)
   case first =>
     obtain ⟨xP10, xP11, xP12, xP13, xP14, xP15, xP16, xP17, xP18, xP19, xP1f0, xP1f1, xP1f2, xP1f3, xP1f4, xP1f5, xP1f6, xP1f7, xP1f8, xP1f9⟩ := ten_cells P1
     have lbP1 := P1.lt
     have EB := Ext.refl wc
     go_region_held3 (fun w' => w'.cell? ⟨g, 0, none⟩ = some (.bool (sg n1)) ∧ w'.cell? ⟨g, 1, none⟩ = some (.int .u64 (l0 n1 : Int)) ∧ w'.cell? ⟨g, 2, none⟩ = some (.int .u64 (l1 n1 : Int)) ∧ w'.cell? ⟨g, 3, none⟩ = some (.int .u64 (l2 n1 : Int)) ∧ w'.cell? ⟨g, 4, none⟩ = some (.int .u64 (l3 n1 : Int)) ∧ w'.cell? ⟨g, 5, none⟩ = some (.bool (sg d1)) ∧ w'.cell? ⟨g, 6, none⟩ = some (.int .u64 (l0 d1 : Int)) ∧ w'.cell? ⟨g, 7, none⟩ = some (.int .u64 (l1 d1 : Int)) ∧ w'.cell? ⟨g, 8, none⟩ = some (.int .u64 (l2 d1 : Int)) ∧ w'.cell? ⟨g, 9, none⟩ = some (.int .u64 (l3 d1 : Int))) (first | (with_reducible exact ⟨xP10, xP11, xP12, xP13, xP14, xP15, xP16, xP17, xP18, xP19⟩) | go_keep) (first
       | (go_at_call 33; (with_reducible refine (kA.out _).mono ?_); rintro e' w6 ⟨rfl, hE⟩; have hF : Ext wc w6 := (by first | (with_reducible exact hE) | (with_reducible exact (ext_drew _).trans hE)); clear hE; have hG := hF; have P1 := P1.ext hG; have EB := EB.trans hG; obtain ⟨xP10, xP11, xP12, xP13, xP14, xP15, xP16, xP17, xP18, xP19, xP1f0, xP1f1, xP1f2, xP1f3, xP1f4, xP1f5, xP1f6, xP1f7, xP1f8, xP1f9⟩ := ten_cells P1; have szw6 := hG.size; have loP1 := P1.lt; clear hF hG)
       | (go_at_call 33; (with_reducible refine (kA.out _).mono ?_); rintro e' w6 ⟨rfl, hE⟩; have hF : Ext (wc.alloc (.cells #[.bool false, .int .u64 0, .int .u64 0, .int .u64 0, .int .u64 0] 25)) w6 := (by first | (with_reducible exact hE) | (with_reducible exact (ext_drew _).trans hE)); clear hE; have hG := (ext_alloc wc (.cells #[.bool false, .int .u64 0, .int .u64 0, .int .u64 0, .int .u64 0] 25)).trans hF; have Nw60 : Box w6 (wc.heap.size) false 0 0 0 0 := (Box.new0 wc).ext hF; have P1 := P1.ext hG; have EB := EB.trans hG; obtain ⟨xP10, xP11, xP12, xP13, xP14, xP15, xP16, xP17, xP18, xP19, xP1f0, xP1f1, xP1f2, xP1f3, xP1f4, xP1f5, xP1f6, xP1f7, xP1f8, xP1f9⟩ := ten_cells P1; obtain ⟨x0c0, x0c1, x0c2, x0c3, x0c4, x0f0, x0f1, x0f2, x0f3, x0f4⟩ := five_cells Nw60; have szw6 := hG.size; have loP1 := P1.lt; have loNw60 := Nw60.lt; have ne0 : wc.heap.size ≠ g := (by omega); clear hF hG)
       | (go_at_call 28; (with_reducible refine (kM.out _).mono ?_); rintro e' w7 ⟨rfl, hE⟩; have hF : Ext w6 w7 := (by first | (with_reducible exact hE) | (with_reducible exact (ext_drew _).trans hE)); clear hE; have hG := hF; have P1 := P1.ext hG; have EB := EB.trans hG; have Nw60 := Nw60.ext hG; obtain ⟨xP10, xP11, xP12, xP13, xP14, xP15, xP16, xP17, xP18, xP19, xP1f0, xP1f1, xP1f2, xP1f3, xP1f4, xP1f5, xP1f6, xP1f7, xP1f8, xP1f9⟩ := ten_cells P1; obtain ⟨x0c0, x0c1, x0c2, x0c3, x0c4, x0f0, x0f1, x0f2, x0f3, x0f4⟩ := five_cells Nw60; have szw7 := hG.size; have loP1 := P1.lt; have loNw60 := Nw60.lt; have ne0 : wc.heap.size ≠ g := (by omega); clear hF hG)
       | (go_at_call 28; (with_reducible refine (kM.out _).mono ?_); rintro e' w7 ⟨rfl, hE⟩; have hF : Ext w6 w7 := (by first | (with_reducible exact hE) | (with_reducible exact (ext_drew _).trans hE)); clear hE; have hG := hF; have P1 := P1.ext hG; have EB := EB.trans hG; obtain ⟨xP10, xP11, xP12, xP13, xP14, xP15, xP16, xP17, xP18, xP19, xP1f0, xP1f1, xP1f2, xP1f3, xP1f4, xP1f5, xP1f6, xP1f7, xP1f8, xP1f9⟩ := ten_cells P1; have szw7 := hG.size; have loP1 := P1.lt; clear hF hG)
       | (go_at_call 28; (with_reducible refine (kM.out _).mono ?_); rintro e' w7 ⟨rfl, hE⟩; have hF : Ext (w6.alloc (.cells #[.bool false, .int .u64 0, .int .u64 0, .int .u64 0, .int .u64 0] 25)) w7 := (by first | (with_reducible exact hE) | (with_reducible exact (ext_drew _).trans hE)); clear hE; have hG := (ext_alloc w6 (.cells #[.bool false, .int .u64 0, .int .u64 0, .int .u64 0, .int .u64 0] 25)).trans hF; have Nw70 : Box w7 (w6.heap.size) false 0 0 0 0 := (Box.new0 w6).ext hF; have P1 := P1.ext hG; have EB := EB.trans hG; obtain ⟨xP10, xP11, xP12, xP13, xP14, xP15, xP16, xP17, xP18, xP19, xP1f0, xP1f1, xP1f2, xP1f3, xP1f4, xP1f5, xP1f6, xP1f7, xP1f8, xP1f9⟩ := ten_cells P1; obtain ⟨x0c0, x0c1, x0c2, x0c3, x0c4, x0f0, x0f1, x0f2, x0f3, x0f4⟩ := five_cells Nw70; have szw7 := hG.size; have loP1 := P1.lt; have loNw70 := Nw70.lt; have ne0 : w6.heap.size ≠ g := (by omega); clear hF hG))
     all_goals go_wp2_with fail
     all_goals go_meet
     all_goals first
       | (with_reducible exact ⟨one0 (isC_of f2.out) EB, rfl⟩)
       | (with_reducible exact ⟨one1 (isC_of f2.out) EB Nw60 (by omega), rfl⟩)
       | (with_reducible exact ⟨one1 (isC_of f2.out) EB Nw70 (by omega), rfl⟩)
   case rest =>
    obtain ⟨⟨gQ2, s7, a7, b7, c7, d7, rfl, C7, Q2, hgQ2, hE⟩, rfl⟩ := hcut
    obtain ⟨rfl, rfl, rfl, rfl, rfl⟩ := isC_fix C7
    have lP1 := P1.lt
    have P1 := P1.ext hE
    have lP2 := P2.lt
    have P2 := P2.ext hE
    have lQ1 := Q1.lt
    have Q1 := Q1.ext hE
    have EE := hide (EE.out.trans hE)
    clear C7 hE
    have ngP1Q2 : g ≠ gQ2 := by omega
    have ngP2Q2 : g + 1 ≠ gQ2 := by omega
    have ngQ1Q2 : gQ1 ≠ gQ2 := by omega
    obtain ⟨xP10, xP11, xP12, xP13, xP14, xP15, xP16, xP17, xP18, xP19, xP1f0, xP1f1, xP1f2, xP1f3, xP1f4, xP1f5, xP1f6, xP1f7, xP1f8, xP1f9⟩ := ten_cells P1; obtain ⟨xP20, xP21, xP22, xP23, xP24, xP25, xP26, xP27, xP28, xP29, xP2f0, xP2f1, xP2f2, xP2f3, xP2f4, xP2f5, xP2f6, xP2f7, xP2f8, xP2f9⟩ := ten_cells P2; obtain ⟨xQ10, xQ11, xQ12, xQ13, xQ14, xQ1f0, xQ1f1, xQ1f2, xQ1f3, xQ1f4⟩ := five_cells Q1; obtain ⟨xQ20, xQ21, xQ22, xQ23, xQ24, xQ2f0, xQ2f1, xQ2f2, xQ2f3, xQ2f4⟩ := five_cells Q2
    go_upto_region 6 with (go_at_call 32; (with_reducible refine (kS.out _).mono ?_); rintro e w8 ⟨rfl, hE⟩; have P1 := P1.ext hE; have P2 := P2.ext hE; have Q1 := Q1.ext hE; have Q2 := Q2.ext hE; have EE := hide (EE.out.trans hE); clear hE)
    have Q3 : Box ((w8.alloc (.cells #[.bool (sg z3), .int .u64 (l0 z3 : Int), .int .u64 (l1 z3 : Int), .int .u64 (l2 z3 : Int), .int .u64 (l3 z3 : Int)] 25))) w8.heap.size (sg z3) (l0 z3) (l1 z3) (l2 z3) (l3 z3) := heap_alloc_new w8 _
    have lP1 := P1.lt
    have lP2 := P2.lt
    have lQ1 := Q1.lt
    have lQ2 := Q2.lt
    have hE := ext_alloc w8 (.cells #[.bool (sg z3), .int .u64 (l0 z3 : Int), .int .u64 (l1 z3 : Int), .int .u64 (l2 z3 : Int), .int .u64 (l3 z3 : Int)] 25)
    have P1 := P1.ext hE
    have P2 := P2.ext hE
    have Q1 := Q1.ext hE
    have Q2 := Q2.ext hE
    have EE := hide (EE.out.trans hE)
    clear hE
    generalize w8.alloc (.cells #[.bool (sg z3), .int .u64 (l0 z3 : Int), .int .u64 (l1 z3 : Int), .int .u64 (l2 z3 : Int), .int .u64 (l3 z3 : Int)] 25) = Ww8 at *
    generalize w8.heap.size = gQ3 at *
    have ngP1Q3 : g ≠ gQ3 := by omega
    have ngP2Q3 : g + 1 ≠ gQ3 := by omega
    have ngQ1Q3 : gQ1 ≠ gQ3 := by omega
    have ngQ2Q3 : gQ2 ≠ gQ3 := by omega
    obtain ⟨xP10, xP11, xP12, xP13, xP14, xP15, xP16, xP17, xP18, xP19, xP1f0, xP1f1, xP1f2, xP1f3, xP1f4, xP1f5, xP1f6, xP1f7, xP1f8, xP1f9⟩ := ten_cells P1; obtain ⟨xP20, xP21, xP22, xP23, xP24, xP25, xP26, xP27, xP28, xP29, xP2f0, xP2f1, xP2f2, xP2f3, xP2f4, xP2f5, xP2f6, xP2f7, xP2f8, xP2f9⟩ := ten_cells P2; obtain ⟨xQ30, xQ31, xQ32, xQ33, xQ34, xQ3f0, xQ3f1, xQ3f2, xQ3f3, xQ3f4⟩ := five_cells Q3
    go_upto_region 7 with (go_at_call 36; (with_reducible refine (kD.out _).mono ?_); rintro e w9 ⟨rfl, hE⟩; have P1 := P1.ext hE; have P2 := P2.ext hE; have Q3 := Q3.ext hE; have EE := hide (EE.out.trans hE); clear hE)
    have hsz : W.heap.size ≤ w9.heap.size := EE.out.size
    have Q4 : Box ((w9.alloc (.cells #[.bool (sg z4), .int .u64 (l0 z4 : Int), .int .u64 (l1 z4 : Int), .int .u64 (l2 z4 : Int), .int .u64 (l3 z4 : Int)] 25))) w9.heap.size (sg z4) (l0 z4) (l1 z4) (l2 z4) (l3 z4) := heap_alloc_new w9 _
    have lP1 := P1.lt
    have lP2 := P2.lt
    have lQ3 := Q3.lt
    have hE := ext_alloc w9 (.cells #[.bool (sg z4), .int .u64 (l0 z4 : Int), .int .u64 (l1 z4 : Int), .int .u64 (l2 z4 : Int), .int .u64 (l3 z4 : Int)] 25)
    have P1 := P1.ext hE
    have P2 := P2.ext hE
    have Q3 := Q3.ext hE
    have EE := hide (EE.out.trans hE)
    clear hE
    generalize w9.alloc (.cells #[.bool (sg z4), .int .u64 (l0 z4 : Int), .int .u64 (l1 z4 : Int), .int .u64 (l2 z4 : Int), .int .u64 (l3 z4 : Int)] 25) = Ww9 at *
    generalize w9.heap.size = gQ4 at *
    have ngP1Q4 : g ≠ gQ4 := by omega
    have ngP2Q4 : g + 1 ≠ gQ4 := by omega
    have ngQ3Q4 : gQ3 ≠ gQ4 := by omega
    obtain ⟨xP10, xP11, xP12, xP13, xP14, xP15, xP16, xP17, xP18, xP19, xP1f0, xP1f1, xP1f2, xP1f3, xP1f4, xP1f5, xP1f6, xP1f7, xP1f8, xP1f9⟩ := ten_cells P1; obtain ⟨xP20, xP21, xP22, xP23, xP24, xP25, xP26, xP27, xP28, xP29, xP2f0, xP2f1, xP2f2, xP2f3, xP2f4, xP2f5, xP2f6, xP2f7, xP2f8, xP2f9⟩ := ten_cells P2; obtain ⟨xQ40, xQ41, xQ42, xQ43, xQ44, xQ4f0, xQ4f1, xQ4f2, xQ4f3, xQ4f4⟩ := five_cells Q4
    go_upto_region 8 with fail
    have Q4 := box_abs (Q4.put0 (t := false))
    have P1 := P1.far1 (j := 0) ngP1Q4 (.bool false)
    have P2 := P2.far1 (j := 0) ngP2Q4 (.bool false)
    have EE := hide (ext_one EE.out (j := 0) hsz (.bool false))
    generalize Ww9.setCell ⟨gQ4, 0, none⟩ (.bool false) = W10 at *
    obtain ⟨xP10, xP11, xP12, xP13, xP14, xP15, xP16, xP17, xP18, xP19, xP1f0, xP1f1, xP1f2, xP1f3, xP1f4, xP1f5, xP1f6, xP1f7, xP1f8, xP1f9⟩ := ten_cells P1; obtain ⟨xP20, xP21, xP22, xP23, xP24, xP25, xP26, xP27, xP28, xP29, xP2f0, xP2f1, xP2f2, xP2f3, xP2f4, xP2f5, xP2f6, xP2f7, xP2f8, xP2f9⟩ := ten_cells P2; obtain ⟨xQ40, xQ41, xQ42, xQ43, xQ44, xQ4f0, xQ4f1, xQ4f2, xQ4f3, xQ4f4⟩ := five_cells Q4
    go_upto_region 10 with (go_at_call 37; (with_reducible refine (kC.out _).mono ?_); rintro e w11 ⟨rfl, hE⟩; have P1 := P1.ext hE; have P2 := P2.ext hE; have Q4 := Q4.ext hE; have EE := hide (EE.out.trans hE); clear hE)
    obtain ⟨yP10, yP11, yP12, yP13, yP14, yP15, yP16, yP17, yP18, yP19, yP1f0, yP1f1, yP1f2, yP1f3, yP1f4, yP1f5, yP1f6, yP1f7, yP1f8, yP1f9⟩ := ten_cells P1
    clear yP1f0 yP1f1 yP1f2 yP1f3 yP1f4 yP1f5 yP1f6 yP1f7 yP1f8 yP1f9
    replace yP10 := cellR yP10
    replace yP11 := cellR yP11
    replace yP12 := cellR yP12
    replace yP13 := cellR yP13
    replace yP14 := cellR yP14
    replace yP15 := cellR yP15
    replace yP16 := cellR yP16
    replace yP17 := cellR yP17
    replace yP18 := cellR yP18
    replace yP19 := cellR yP19
    obtain ⟨yP20, yP21, yP22, yP23, yP24, yP25, yP26, yP27, yP28, yP29, yP2f0, yP2f1, yP2f2, yP2f3, yP2f4, yP2f5, yP2f6, yP2f7, yP2f8, yP2f9⟩ := ten_cells P2
    clear yP2f0 yP2f1 yP2f2 yP2f3 yP2f4 yP2f5 yP2f6 yP2f7 yP2f8 yP2f9
    replace yP20 := cellR yP20
    replace yP21 := cellR yP21
    replace yP22 := cellR yP22
    replace yP23 := cellR yP23
    replace yP24 := cellR yP24
    replace yP25 := cellR yP25
    replace yP26 := cellR yP26
    replace yP27 := cellR yP27
    replace yP28 := cellR yP28
    replace yP29 := cellR yP29
    refine wp_region_quiet_below (by kernel_rfl) (by kernel_rfl) ?_
    repeat (quiet_step (first | with_reducible exact quiet_ret (kA.out _) | with_reducible exact quiet_ret (kB.out _) | with_reducible exact quiet_ret (kX.out _) | with_reducible exact quiet_ret (kY.out _)))
    refine wpQuiet_nil ?_
    intro _ hw'
    obtain ⟨⟨dq, osq⟩, hw''⟩ := hw'
    subst hw''
    clear yP10 yP11 yP12 yP13 yP14 yP15 yP16 yP17 yP18 yP19 yP20 yP21 yP22 yP23 yP24 yP25 yP26 yP27 yP28 yP29
    have hE := ext_regrown w11 dq osq
    have P1 := P1.ext hE
    have P2 := P2.ext hE
    have EE := hide (EE.out.trans hE)
    clear hE
    generalize grow (redrawn w11 dq) osq = w11q at *
    rcases HWY.out with ⟨rfl, h1⟩ | ⟨rfl, rfl⟩ | ⟨rfl, h1⟩
    all_goals go_wp2_with (go_at_call 17; (with_reducible refine (p_known3 _).mono ?_); rintro e w12 ⟨rfl, hE⟩; have EE := hide (EE.out.trans hE); clear hE)
    all_goals go_ret
    all_goals exact ⟨rfl, EE.out⟩
end Go.Proofs.Ythcobijnhfflnaa
