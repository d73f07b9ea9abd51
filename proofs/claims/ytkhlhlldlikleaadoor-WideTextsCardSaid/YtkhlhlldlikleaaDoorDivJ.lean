/- Long division of words: plain facts. No condition; nothing of the program. -/
import Derived.Test.YtkhlhlldlikleaaDoorDivI
namespace Go.Proofs.YtkhlhlldlikleaaDoor
set_option linter.unusedVariables false
set_option linter.unusedSimpArgs false
open Go Go.RowKit
/-- What has been divided so far: quotient and rest, and the digits that are still to come. -/
def LongRel (N D : Nat) (R Q : List Nat) (j : Nat) : Prop := R.length = 5 ∧ Q.length = 4 ∧ val Q * D + val R = N ∧ val (R.drop j) < D ∧ Q.take j = List.replicate j 0
theorem val_set_zero (Q : List Nat) (i d : Nat) (hi : i < Q.length) (h0 : Q[i] = 0) : val (Q.set i d) = val Q + 18446744073709551616 ^ i * d := by
  have e1 := val_append (Q.take i) (Q.drop i)
  have e2 := val_append (Q.take i) (d :: Q.drop (i + 1))
  rw [List.take_append_drop] at e1
  have e3 : Q.set i d = Q.take i ++ d :: Q.drop (i + 1) := List.set_eq_take_append_cons_drop.trans (if_pos hi)
  rw [e3, e2, e1, List.drop_eq_getElem_cons hi, h0, val, val, List.length_take, Nat.min_eq_left (by omega), Nat.mul_add, Nat.mul_add]
  omega
theorem seg_zero (D K x y z : Nat) (h : x = y + K * z) (hx : x < D) (hK : D ≤ K) : z = 0 := by
  rcases Nat.eq_zero_or_pos z with h0 | h0
  · exact h0
  · exfalso
    have h1 : K ≤ K * z := Nat.le_mul_of_pos_right K h0
    omega
theorem seg_lt (D a x r : Nat) (ha : a < 18446744073709551616) (hx : x < D) (hr : r = a + 18446744073709551616 * x) : r < D * 18446744073709551616 := by omega
theorem long_seg {N D K : Nat} {R Q : List Nat} {i k : Nat} (h : LongRel N D R Q (i + 1)) (hk : i + k + 1 ≤ 5) (hK : 18446744073709551616 ^ k = K) (hD : D ≤ K) (wR : W64 R) :
    val ((R.drop i).take (k + 1)) = val (R.drop i) ∧ val (R.drop i) < D * 18446744073709551616 ∧ val (R.drop (i + k + 1)) = 0 := by
  obtain ⟨h1, h2, h3, h4, h5⟩ := h
  have hi : i < R.length := by omega
  have e1 := val_drop R i hi
  have e2 := val_take_drop (R.drop (i + 1)) k (by simp; omega)
  rw [List.drop_drop, hK] at e2
  have hz : val (R.drop (i + 1 + k)) = 0 := seg_zero D K _ _ _ e2 h4 hD
  rw [show i + k + 1 = i + 1 + k by omega]
  refine ⟨?_, seg_lt D _ _ _ (w64_get wR i hi) h4 e1, hz⟩
  have e3 := val_take_drop (R.drop i) (k + 1) (by simp; omega)
  rw [List.drop_drop, show i + (k + 1) = i + 1 + k by omega, hz, Nat.mul_zero, Nat.add_zero] at e3
  exact e3.symm
theorem zeros_at (Q : List Nat) (i : Nat) (h : Q.take (i + 1) = List.replicate (i + 1) 0) (hi : i < Q.length) : Q[i] = 0 := by
  have := congrArg (fun l => l[i]?) h
  simp only [List.getElem?_take, Nat.lt_succ_self, if_true] at this
  rw [List.getElem?_eq_getElem hi, List.getElem?_replicate, if_pos (Nat.lt_succ_self i)] at this
  exact Option.some.inj this
theorem long_arith (N D K vq vr a p q r d : Nat) (h3 : vq * D + vr = N) (e : vr = a + K * p) (hp : p = d * D + r) (hq : q = vq + K * d) : q * D + (a + K * r) = N := by
  subst hq
  have h1 : K * p = K * (d * D) + K * r := by rw [hp, Nat.mul_add]
  rw [Nat.add_mul, Nat.mul_assoc]
  omega
theorem long_step {N D K : Nat} {R Q os : List Nat} {i k d : Nat} (h : LongRel N D R Q (i + 1)) (hk : i + k + 1 ≤ 5) (hk2 : 2 ≤ k) (hK : 18446744073709551616 ^ k = K) (hD : D ≤ K) (hD0 : 0 < D) (wR : W64 R) (ho : os.length = k + 1) (hv : val os = val ((R.drop i).take (k + 1)) % D) (hd : d = val ((R.drop i).take (k + 1)) / D) :
    LongRel N D (R.take i ++ os ++ R.drop (i + k + 1)) (Q.set i d) i := by
  obtain ⟨s1, s2, s3⟩ := long_seg h hk hK hD wR
  obtain ⟨h1, h2, h3, h4, h5⟩ := h
  rw [s1] at hv hd
  have hT : (R.take i).length = i := by simp; omega
  have e1 := val_take_drop R i (by omega)
  have hQ : i < Q.length := by omega
  have e4 := val_set_zero Q i d hQ (zeros_at Q i h5 hQ)
  have e5 : val (R.take i ++ os ++ R.drop (i + k + 1)) = val (R.take i) + 18446744073709551616 ^ i * val os := by
    rw [val_append, val_append, s3, hT, Nat.mul_zero, Nat.add_zero]
  refine ⟨by simp [hT, ho]; omega, by simpa using h2, ?_, ?_, ?_⟩
  · rw [e5]
    have hm := Nat.div_add_mod (val (R.drop i)) D
    rw [← hd, ← hv, Nat.mul_comm] at hm
    exact long_arith N D (18446744073709551616 ^ i) _ _ _ _ _ _ d h3 e1 hm.symm e4
  · rw [List.append_assoc, List.drop_append_of_le_length (by omega), List.drop_of_length_le (by omega), List.nil_append, val_append, s3, Nat.mul_zero, Nat.add_zero, hv]
    exact Nat.mod_lt _ hD0
  · rw [List.take_set_of_le (Nat.le_refl _)]
    have := congrArg (List.take i) h5
    rw [List.take_take, Nat.min_eq_left (by omega), List.take_replicate, Nat.min_eq_left (by omega)] at this
    exact this
theorem long_done {n m s : Nat} {R Q : List Nat} (h : LongRel (n * 2 ^ s) (m * 2 ^ s) R Q 0) : val Q = n / m ∧ val R / 2 ^ s = n % m ∧ val R < m * 2 ^ s := by
  obtain ⟨h1, h2, h3, h4, h5⟩ := h
  rw [List.drop_zero] at h4
  have ps := Nat.two_pow_pos s
  have hd : 2 ^ s ∣ val R := by
    have h7 : 2 ^ s ∣ val Q * (m * 2 ^ s) + val R := by rw [h3]; exact Nat.dvd_mul_left _ _
    exact (Nat.dvd_add_right (by rw [← Nat.mul_assoc]; exact Nat.dvd_mul_left _ _)).1 h7
  have hR := Nat.div_mul_cancel hd
  have hlt : val R / 2 ^ s < m := by rw [Nat.div_lt_iff_lt_mul ps]; exact h4
  have hX : n = val Q * m + val R / 2 ^ s := by
    have h8 : n * 2 ^ s = (val Q * m + val R / 2 ^ s) * 2 ^ s := by rw [Nat.add_mul (val Q * m), hR, Nat.mul_assoc]; exact h3.symm
    exact Nat.eq_of_mul_eq_mul_right ps h8
  have hm : 0 < m := Nat.lt_of_le_of_lt (Nat.zero_le _) hlt
  refine ⟨?_, ?_, h4⟩
  · rw [hX, Nat.mul_comm, Nat.mul_add_div hm, Nat.div_eq_of_lt hlt, Nat.add_zero]
  · conv => rhs; rw [hX, Nat.mul_comm, Nat.mul_add_mod, Nat.mod_eq_of_lt hlt]
theorem top_arith (m lo K t s : Nat) (hs : s < 64) (hm : m = lo + K * t) (hlo : lo < K) (ht : t * 2 ^ s < 18446744073709551616) : m * 2 ^ s < K * 18446744073709551616 := by
  have hp := two64 s (by omega)
  have ps := Nat.two_pow_pos s
  have h1 : t < 2 ^ (64 - s) := by
    rw [hp, Nat.mul_comm] at ht
    exact Nat.lt_of_mul_lt_mul_left ht
  have h2 : m < K * (t + 1) := by rw [Nat.mul_add, Nat.mul_one]; omega
  have h3 : m * 2 ^ s < K * (t + 1) * 2 ^ s := Nat.mul_lt_mul_of_pos_right h2 ps
  have h4 : K * (t + 1) * 2 ^ s ≤ K * 2 ^ (64 - s) * 2 ^ s := Nat.mul_le_mul_right _ (Nat.mul_le_mul_left _ h1)
  rw [Nat.mul_assoc K (2 ^ (64 - s)), Nat.mul_comm (2 ^ (64 - s)), ← hp] at h4
  exact Nat.lt_of_lt_of_le h3 h4
theorem top_word (M : List Nat) (m k : Nat) (hM : M.length = 4) (wM : W64 M) (hv : val M = m) (hk : (limbs m).length = k + 1) (hk4 : k < M.length) :
    1 ≤ M[k] ∧ 18446744073709551616 ^ k ≤ m ∧ ∀ s, s < 64 → M[k] * 2 ^ s < 18446744073709551616 → m * 2 ^ s < 18446744073709551616 ^ (k + 1) := by
  have h1 := (limbs_len_le (n := m) (k := k + 1)).1 (by omega)
  have h2 : ¬ m < 18446744073709551616 ^ k := fun e => by have := limbs_len_le.2 e; omega
  have e1 := val_take_drop M (k + 1) (by omega)
  have e2 := val_take_succ M k hk4
  have h3 := val_lt (M.take k) (w64_take wM k)
  rw [List.length_take, Nat.min_eq_left (by omega)] at h3
  rw [hv] at e1
  rw [Nat.pow_succ] at h1 e1
  rw [Nat.pow_succ]
  generalize 18446744073709551616 ^ k = K at *
  have hz : val (M.drop (k + 1)) = 0 := seg_zero (K * 18446744073709551616) (K * 18446744073709551616) m _ _ e1 h1 (Nat.le_refl _)
  rw [hz, Nat.mul_zero, Nat.add_zero, e2] at e1
  refine ⟨?_, by omega, fun s hs ht => top_arith m _ K M[k] s hs e1 h3 ht⟩
  rcases Nat.eq_zero_or_pos M[k] with h | h
  · rw [h, Nat.mul_zero, Nat.add_zero] at e1; omega
  · exact h
theorem up_take (U : List Nat) (r D k : Nat) (hU : U.length = 4) (hk : k ≤ 4) (hv : val U + 115792089237316195423570985008687907853269984665640564039457584007913129639936 * r = D) (hD : D < 18446744073709551616 ^ k) : val (U.take k) = D := by
  have h4 : (18446744073709551616 : Nat) ^ k ≤ 115792089237316195423570985008687907853269984665640564039457584007913129639936 := by rw [← p4]; exact Nat.pow_le_pow_right (by omega) hk
  have e1 := val_take_drop U k (by omega)
  generalize 18446744073709551616 ^ k = K at *
  have hr : r = 0 := by omega
  subst hr
  rw [Nat.mul_zero, Nat.add_zero] at hv
  rw [hv] at e1
  have hz := seg_zero K K D _ _ e1 hD (Nat.le_refl _)
  rw [hz, Nat.mul_zero, Nat.add_zero] at e1
  exact e1.symm
theorem long_init (L : List Nat) (over n m s k : Nat) (hL : L.length = 4) (hv : val L + 115792089237316195423570985008687907853269984665640564039457584007913129639936 * over = n * 2 ^ s) (hn : n < 115792089237316195423570985008687907853269984665640564039457584007913129639936) (hk : k + 1 ≤ 4) (hm : 18446744073709551616 ^ k ≤ m) :
    LongRel (n * 2 ^ s) (m * 2 ^ s) (L ++ [over]) [0, 0, 0, 0] (4 - k) := by
  have ps := Nat.two_pow_pos s
  have e0 : val (L ++ [over]) = n * 2 ^ s := by rw [val_snoc, hL, p4]; exact hv
  have e1 := val_take_drop (L ++ [over]) (4 - k) (by simp [hL]; omega)
  rw [e0] at e1
  refine ⟨by simp [hL], rfl, by simp [val]; rw [val_snoc, hL, p4]; exact hv, ?_, ?_⟩
  · have hp : (115792089237316195423570985008687907853269984665640564039457584007913129639936 : Nat) = 18446744073709551616 ^ (4 - k) * 18446744073709551616 ^ k := by rw [← Nat.pow_add, show 4 - k + k = 4 by omega, p4]
    have h1 : n * 2 ^ s < 115792089237316195423570985008687907853269984665640564039457584007913129639936 * 2 ^ s := Nat.mul_lt_mul_of_pos_right hn ps
    rw [hp, Nat.mul_assoc] at h1
    have h2 : 18446744073709551616 ^ k * 2 ^ s ≤ m * 2 ^ s := Nat.mul_le_mul_right _ hm
    have h3 : 18446744073709551616 ^ (4 - k) * val ((L ++ [over]).drop (4 - k)) < 18446744073709551616 ^ (4 - k) * (18446744073709551616 ^ k * 2 ^ s) := Nat.lt_of_le_of_lt (by rw [e1]; exact Nat.le_add_left _ _) h1
    exact Nat.lt_of_lt_of_le (Nat.lt_of_mul_lt_mul_left h3) h2
  · have : 4 - k = 0 ∨ 4 - k = 1 ∨ 4 - k = 2 ∨ 4 - k = 3 ∨ 4 - k = 4 := by omega
    rcases this with h | h | h | h | h <;> rw [h] <;> rfl
end Go.Proofs.YtkhlhlldlikleaaDoor
