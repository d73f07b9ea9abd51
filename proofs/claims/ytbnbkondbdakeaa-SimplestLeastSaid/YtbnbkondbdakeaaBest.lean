/- The simplest fraction of an interval. No condition; nothing of the program. -/
import Derived.KernelRfl
namespace Go.Proofs.Ytbnbkondbdakeaa
set_option linter.unusedVariables false
set_option linter.unusedSimpArgs false
/-- The fraction n / m is the simplest one from a / b to c / d. -/
def Best (a b c d n m : Int) : Prop := 0 < m ∧ a * m ≤ n * b ∧ n * d ≤ c * m ∧ ∀ p q : Int, 0 < q → a * q ≤ p * b → p * d ≤ c * q → m ≤ q ∧ n.natAbs ≤ p.natAbs
theorem Best.neg {a b c d n m : Int} (h : Best a b c d n m) : Best (-c) d (-a) b (-n) m := by
  obtain ⟨h0, h1, h2, h3⟩ := h
  refine ⟨h0, by rw [Int.neg_mul, Int.neg_mul]; omega, by rw [Int.neg_mul, Int.neg_mul]; omega, ?_⟩
  intro p q hq k1 k2
  have := h3 (-p) q hq (by rw [Int.neg_mul] at k2 ⊢; omega) (by rw [Int.neg_mul] at k1 ⊢; omega)
  omega
theorem Best.zero {a b c d : Int} (h1 : a ≤ 0) (h2 : 0 ≤ c) : Best a b c d 0 1 :=
  ⟨by omega, by omega, by omega, fun p q hq _ _ => ⟨by omega, by simp⟩⟩
/-- The fraction 0 lies between a fraction and its opposite. -/
theorem Best.unique {a b c d n m n' m' : Int} (hb : 0 < b) (hd : 0 < d) (h : Best a b c d n m) (h' : Best a b c d n' m') : n = n' ∧ m = m' := by
  have k1 := h.2.2.2 n' m' h'.1 h'.2.1 h'.2.2.1
  have k2 := h'.2.2.2 n m h.1 h.2.1 h.2.2.1
  have em : m = m' := by omega
  refine ⟨?_, em⟩
  subst em
  by_cases e : n = n'
  · exact e
  · exfalso
    have e2 : n' = -n := by omega
    subst e2
    have a1 := h.2.1
    have a2 := h'.2.1
    have a3 := h.2.2.1
    have a4 := h'.2.2.1
    rw [Int.neg_mul] at a2 a4
    have b1 : a ≤ 0 := by
      by_cases hp : 0 < a
      · have := Int.mul_pos hp h.1; omega
      · omega
    have b2 : 0 ≤ c := by
      by_cases hp : c < 0
      · have := Int.mul_neg_of_neg_of_pos hp h.1; omega
      · omega
    have := h.2.2.2 0 1 (by omega) (by omega) (by omega)
    omega
theorem Best.pos {a b c d n m : Int} (ha : 0 < a) (hb : 0 < b) (h : Best a b c d n m) : 0 < n := by
  have := Int.mul_pos ha h.1
  have h1 := h.2.1
  by_cases hn : n ≤ 0
  · have := Int.mul_nonpos_of_nonpos_of_nonneg hn (show 0 ≤ b by omega); omega
  · omega
theorem Best.gcd {a b c d n m : Int} (hb : 0 < b) (hd : 0 < d) (h : Best a b c d n m) : Int.gcd n m = 1 := by
  obtain ⟨h0, h1, h2, h3⟩ := h
  have hg0 : 0 < Int.gcd n m := Int.gcd_pos_of_ne_zero_right n (by omega)
  obtain ⟨x, hx⟩ := Int.gcd_dvd_left n m
  obtain ⟨y, hy⟩ := Int.gcd_dvd_right n m
  generalize hG : (Int.gcd n m : Int) = g at *
  have hg : 0 < g := by omega
  have hy0 : 0 < y := by
    by_cases hy0 : 0 < y
    · exact hy0
    · have := Int.mul_nonpos_of_nonneg_of_nonpos (show 0 ≤ g by omega) (show y ≤ 0 by omega); omega
  have k := h3 x y hy0
    (Int.le_of_mul_le_mul_left (a := g) (by
      have e1 : g * (a * y) = a * m := by rw [hy, ← Int.mul_assoc, Int.mul_comm g a, Int.mul_assoc]
      have e2 : g * (x * b) = n * b := by rw [← Int.mul_assoc, ← hx]
      omega) hg)
    (Int.le_of_mul_le_mul_left (a := g) (by
      have e1 : g * (c * y) = c * m := by rw [hy, ← Int.mul_assoc, Int.mul_comm g c, Int.mul_assoc]
      have e2 : g * (x * d) = n * d := by rw [← Int.mul_assoc, ← hx]
      omega) hg)
  by_cases hg1 : g = 1
  · omega
  · exfalso
    have : 2 * y ≤ g * y := Int.mul_le_mul_of_nonneg_right (by omega) (by omega)
    omega
/-- An integer is the lower end. -/
theorem best_whole {a b c d : Int} (ha : 0 < a) (hb : 0 < b) (hd : 0 < d) (hle : a * d ≤ c * b) (h : a % b = 0) : Best a b c d (a / b) 1 := by
  have e := Int.emod_add_mul_ediv a b
  rw [h] at e
  generalize a / b = q at *
  have ea : a = q * b := by rw [Int.mul_comm]; omega
  have hq : 0 < q := by
    by_cases hq : 0 < q
    · exact hq
    · have := Int.mul_nonpos_of_nonpos_of_nonneg (show q ≤ 0 by omega) (show 0 ≤ b by omega); omega
  refine ⟨by omega, by omega, ?_, ?_⟩
  · have : (q * d) * b ≤ c * b := by rw [ea, Int.mul_assoc, Int.mul_comm b d, ← Int.mul_assoc] at hle; exact hle
    have := Int.le_of_mul_le_mul_right this hb
    omega
  · intro p q' hq' k1 _
    have k2 : (q * q') * b ≤ p * b := by rw [ea, Int.mul_assoc, Int.mul_comm b q', ← Int.mul_assoc] at k1; exact k1
    have k3 := Int.le_of_mul_le_mul_right k2 hb
    have k4 : q * 1 ≤ q * q' := Int.mul_le_mul_of_nonneg_left (by omega) (by omega)
    omega
/-- An integer lies above the lower end. -/
theorem best_next {a b c d : Int} (ha : 0 < a) (hb : 0 < b) (hd : 0 < d) (hle : a * d ≤ c * b) (hr : a % b ≠ 0) (h : a / b ≠ c / d) : Best a b c d (a / b + 1) 1 := by
  have e1 := Int.emod_add_mul_ediv a b
  have e2 := Int.emod_add_mul_ediv c d
  have m1 := Int.emod_nonneg a (show b ≠ 0 by omega)
  have m2 := Int.emod_nonneg c (show d ≠ 0 by omega)
  have l1 := Int.emod_lt_of_pos a hb
  have l2 := Int.emod_lt_of_pos c hd
  have hq : 0 ≤ a / b := Int.ediv_nonneg (by omega) (by omega)
  generalize a / b = q at *
  generalize c / d = s at *
  generalize a % b = r at *
  generalize c % d = t at *
  have hqs : q < s := by
    by_cases hlt : q < s
    · exact hlt
    · exfalso
      have hs : s + 1 ≤ q := by omega
      have x1 : (s + 1) * (b * d) ≤ q * (b * d) := Int.mul_le_mul_of_nonneg_right hs (Int.le_of_lt (Int.mul_pos hb hd))
      have x2 : c * b < (s + 1) * (b * d) := by
        have : c < (s + 1) * d := by rw [Int.add_mul, Int.one_mul, Int.mul_comm s d]; omega
        have := Int.mul_lt_mul_of_pos_right this hb
        have e : (s + 1) * d * b = (s + 1) * (b * d) := by rw [Int.mul_assoc, Int.mul_comm d b]
        omega
      have x3 : q * (b * d) ≤ a * d := by
        have : q * b ≤ a := by rw [Int.mul_comm]; omega
        have := Int.mul_le_mul_of_nonneg_right this (Int.le_of_lt hd)
        rw [Int.mul_assoc] at this; exact this
      omega
  refine ⟨by omega, ?_, ?_, ?_⟩
  · rw [Int.add_mul, Int.one_mul, Int.mul_comm q b]; omega
  · have : (q + 1) * d ≤ s * d := Int.mul_le_mul_of_nonneg_right (by omega) (by omega)
    have : s * d = d * s := Int.mul_comm _ _
    omega
  · intro p q' hq' k1 _
    have hrq : 0 < r * q' := Int.mul_pos (by omega) hq'
    have k2 : (q * q') * b < p * b := by
      have e : (q * q') * b = b * q * q' := by rw [Int.mul_assoc, Int.mul_comm q' b, ← Int.mul_assoc, Int.mul_comm q b]
      have : a * q' = r * q' + b * q * q' := by rw [← e1, Int.add_mul]
      omega
    have k3 := Int.lt_of_mul_lt_mul_right k2 (by omega)
    have k4 : q * 1 ≤ q * q' := Int.mul_le_mul_of_nonneg_left (by omega) hq
    omega
/-- The integer part is taken away, and the rest turned upside down. -/
theorem best_rec {a b c d n m : Int} (ha : 0 < a) (hb : 0 < b) (hd : 0 < d) (hr : a % b ≠ 0) (ht : 0 < c % d) (h : a / b = c / d) (k : Best d (c % d) b (a % b) n m) : Best a b c d (a / b * n + m) n := by
  have e1 := Int.emod_add_mul_ediv a b
  have e2 := Int.emod_add_mul_ediv c d
  have m1 := Int.emod_nonneg a (show b ≠ 0 by omega)
  have hq : 0 ≤ a / b := Int.ediv_nonneg (by omega) (by omega)
  have hn := k.pos hd ht
  rw [← h] at e2
  generalize a / b = q at *
  generalize a % b = r at *
  generalize c % d = t at *
  clear h
  obtain ⟨k0, k1, k2, k3⟩ := k
  have ea : ∀ z, a * z = r * z + b * (q * z) := fun z => by rw [← e1, Int.add_mul, Int.mul_assoc]
  have ec : ∀ z, c * z = t * z + d * (q * z) := fun z => by rw [← e2, Int.add_mul, Int.mul_assoc]
  have ex : ∀ x y z : Int, (q * x + y) * z = y * z + z * (q * x) := fun x y z => by rw [Int.add_mul, Int.mul_comm (q * x) z]; omega
  refine ⟨hn, ?_, ?_, ?_⟩
  · rw [ea, ex]
    have : n * r = r * n := Int.mul_comm _ _
    have : b * m = m * b := Int.mul_comm _ _
    omega
  · rw [ec, ex]
    have : d * m = m * d := Int.mul_comm _ _
    have : n * t = t * n := Int.mul_comm _ _
    omega
  · intro p q' hq' j1 j2
    obtain ⟨p', rfl⟩ : ∃ p', p = q * q' + p' := ⟨p - q * q', by omega⟩
    rw [ea, ex] at j1
    rw [ec, ex] at j2
    have hrq : 0 < r * q' := Int.mul_pos (by omega) hq'
    have hp' : 0 < p' := by
      by_cases hp : 0 < p'
      · exact hp
      · have := Int.mul_nonpos_of_nonpos_of_nonneg (show p' ≤ 0 by omega) (show 0 ≤ b by omega); omega
    have := k3 q' p' hp' (by rw [Int.mul_comm d, Int.mul_comm q']; omega) (by rw [Int.mul_comm q', Int.mul_comm b]; omega)
    have hnq : n ≤ q' := by omega
    have hqn : q * n ≤ q * q' := Int.mul_le_mul_of_nonneg_left hnq hq
    have h0 : 0 ≤ q * n := Int.mul_nonneg hq (by omega)
    have h1 : 0 ≤ q * q' := by omega
    omega
/-- Where both ends have the integer part in common, neither rest is 0, and the rests turned upside down are in order. -/
theorem rest_ways {a b c d : Int} (ha : 0 < a) (hb : 0 < b) (hd : 0 < d) (hle : a * d ≤ c * b) (hr : a % b ≠ 0) (h : a / b = c / d) : 0 < a % b ∧ a % b < b ∧ 0 < c % d ∧ c % d < d ∧ d * (a % b) ≤ b * (c % d) := by
  have e1 := Int.emod_add_mul_ediv a b
  have e2 := Int.emod_add_mul_ediv c d
  have m1 := Int.emod_nonneg a (show b ≠ 0 by omega)
  have m2 := Int.emod_nonneg c (show d ≠ 0 by omega)
  have l1 := Int.emod_lt_of_pos a hb
  have l2 := Int.emod_lt_of_pos c hd
  rw [← h] at e2
  generalize a / b = q at *
  generalize a % b = r at *
  generalize c % d = t at *
  have k : r * d ≤ t * b := by
    have x1 : a * d = r * d + q * (b * d) := by rw [← e1, Int.add_mul, Int.mul_comm b q, Int.mul_assoc]
    have x2 : c * b = t * b + q * (b * d) := by rw [← e2, Int.add_mul, Int.mul_comm d q, Int.mul_assoc, Int.mul_comm d b]
    omega
  have := Int.mul_pos (show 0 < r by omega) hd
  refine ⟨by omega, l1, ?_, l2, by rw [Int.mul_comm d, Int.mul_comm b]; exact k⟩
  by_cases ht : 0 < t
  · exact ht
  · have : t = 0 := by omega
    subst this; omega
theorem best_some_pos : ∀ (k : Nat) (a b c d : Int), (b + d).toNat < k → 0 < a → 0 < b → 0 < d → a * d ≤ c * b → ∃ n m, Best a b c d n m
  | 0, _, _, _, _, hk, _, _, _, _ => by omega
  | k + 1, a, b, c, d, hk, ha, hb, hd, hle => by
    by_cases hr : a % b = 0
    · exact ⟨_, _, best_whole ha hb hd hle hr⟩
    · by_cases h : a / b = c / d
      · obtain ⟨r0, r1, t0, t1, hl⟩ := rest_ways ha hb hd hle hr h
        obtain ⟨n, m, hB⟩ := best_some_pos k d (c % d) b (a % b) (by omega) hd t0 r0 hl
        exact ⟨_, _, best_rec ha hb hd hr t0 h hB⟩
      · exact ⟨_, _, best_next ha hb hd hle hr h⟩
theorem best_some {a b c d : Int} (hb : 0 < b) (hd : 0 < d) (hle : a * d ≤ c * b) : ∃ n m, Best a b c d n m := by
  by_cases ha : 0 < a
  · exact best_some_pos _ a b c d (Nat.lt_succ_self _) ha hb hd hle
  · by_cases hc : c < 0
    · obtain ⟨n, m, h⟩ := best_some_pos _ (-c) d (-a) b (Nat.lt_succ_self _) (by omega) hd hb (by rw [Int.neg_mul, Int.neg_mul]; omega)
      have := h.neg
      rw [Int.neg_neg, Int.neg_neg] at this
      exact ⟨_, _, this⟩
    · exact ⟨0, 1, Best.zero (by omega) (by omega)⟩
/-- Both ends lie in the interval: the simplest fraction is no longer than they are. -/
theorem Best.small {a b c d n m : Int} (hb : 0 < b) (hd : 0 < d) (hle : a * d ≤ c * b) (h : Best a b c d n m) : (m ≤ b ∧ n.natAbs ≤ a.natAbs) ∧ (m ≤ d ∧ n.natAbs ≤ c.natAbs) :=
  ⟨h.2.2.2 a b hb (Int.le_refl _) hle, h.2.2.2 c d hd hle (Int.le_refl _)⟩
end Go.Proofs.Ytbnbkondbdakeaa
