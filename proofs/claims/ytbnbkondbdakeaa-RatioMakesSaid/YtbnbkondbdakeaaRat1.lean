/- Fractions in lowest terms, as numbers. No condition; nothing of the program. -/
import Derived.Test.YtbnbkondbdakeaaNat
import Derived.Test.YtbnbkondbdakeaaEqs
namespace Go.Proofs.Ytbnbkondbdakeaa
set_option linter.unusedVariables false
set_option linter.unusedSimpArgs false
open Go Go.RowKit
theorem gcd_mod (a b : Int) : Int.gcd a b = Int.gcd b (a % b) := by
  rw [Int.gcd_comm a b, Int.gcd_right_eq_iff]
  intro c hc
  have e := Int.emod_add_mul_ediv a b
  have h1 : c ∣ b * (a / b) := Int.dvd_trans hc (Int.dvd_mul_right _ _)
  constructor
  · intro h
    have e2 : a % b = a - b * (a / b) := by omega
    rw [e2]
    exact Int.dvd_sub h h1
  · intro h
    rw [← e]
    exact Int.dvd_add h h1
def lim : Nat := 170141183460469231731687303715884105728
/-- A fraction in lowest terms with a positive denominator, of at most 127 bits each. -/
def Frac (n d : Int) : Prop := 0 < d ∧ n.natAbs < 170141183460469231731687303715884105728 ∧ d.natAbs < 170141183460469231731687303715884105728 ∧ Int.gcd n d = 1
instance (n d : Int) : Decidable (Frac n d) := by unfold Frac; infer_instance
/-- The fraction n / d in lowest terms: its numerator, its denominator. -/
def numR (n d : Int) : Int := (if d < 0 then -n else n) / (Int.gcd n d : Int)
def denR (n d : Int) : Int := (if d < 0 then -d else d) / (Int.gcd n d : Int)
def Makes (n d : Int) : Prop := d ≠ 0 ∧ (numR n d).natAbs < 170141183460469231731687303715884105728 ∧ (denR n d).natAbs < 170141183460469231731687303715884105728
theorem red_parts (n d : Int) (hd : d ≠ 0) : 0 < denR n d ∧ Int.gcd (numR n d) (denR n d) = 1 ∧ numR n d * d = n * denR n d := by
  have hg : 0 < Int.gcd n d := Int.gcd_pos_of_ne_zero_right n hd
  have hgi : (0 : Int) < (Int.gcd n d : Int) := by omega
  have dn := Int.gcd_dvd_left n d
  have dd := Int.gcd_dvd_right n d
  obtain ⟨x, hx⟩ := dn
  obtain ⟨y, hy⟩ := dd
  have hG := Int.gcd_ediv_gcd_ediv_gcd hg
  have ex : n / (Int.gcd n d : Int) = x := by
    conv => lhs; lhs; rw [hx]
    exact Int.mul_ediv_cancel_left _ (by omega)
  have ey : d / (Int.gcd n d : Int) = y := by
    conv => lhs; lhs; rw [hy]
    exact Int.mul_ediv_cancel_left _ (by omega)
  rw [ex, ey] at hG
  unfold numR denR
  generalize (Int.gcd n d : Int) = g at *
  have hy0 : y ≠ 0 := by rintro rfl; simp at hy; exact hd hy
  by_cases h : d < 0
  · rw [if_pos h, if_pos h]
    have e1 : -n = g * (-x) := by rw [hx, Int.mul_neg]
    have e2 : -d = g * (-y) := by rw [hy, Int.mul_neg]
    rw [e1, e2, Int.mul_ediv_cancel_left _ (by omega), Int.mul_ediv_cancel_left _ (by omega)]
    refine ⟨?_, by rw [Int.gcd_neg, Int.neg_gcd]; exact hG, ?_⟩
    · have hny : ¬ 0 ≤ y := fun e => by
        have : 0 ≤ g * y := Int.mul_nonneg (by omega) e
        omega
      omega
    · rw [hx, hy]; grind
  · rw [if_neg h, if_neg h]
    have e1 : n / g = x := by rw [hx]; exact Int.mul_ediv_cancel_left _ (by omega)
    have e2 : d / g = y := by rw [hy]; exact Int.mul_ediv_cancel_left _ (by omega)
    rw [e1, e2]
    refine ⟨?_, hG, ?_⟩
    · have hny : ¬ y ≤ 0 := fun e => by
        have : g * y ≤ g * 0 := Int.mul_le_mul_of_nonneg_left e (by omega)
        omega
      omega
    · rw [hx, hy]; grind
theorem makes_frac {n d : Int} (h : Makes n d) : Frac (numR n d) (denR n d) := by
  obtain ⟨h1, h2, h3⟩ := h
  obtain ⟨a, b, _⟩ := red_parts n d h1
  exact ⟨a, h2, h3, b⟩
theorem frac_red {n d : Int} (h : Frac n d) : numR n d = n ∧ denR n d = d := by
  obtain ⟨h1, _, _, h4⟩ := h
  unfold numR denR
  rw [h4, if_neg (by omega), if_neg (by omega)]
  simp
theorem frac_makes {n d : Int} (h : Frac n d) : Makes n d := by
  have e := frac_red h
  exact ⟨by have := h.1; omega, by rw [e.1]; exact h.2.1, by rw [e.2]; exact h.2.2.1⟩
theorem frac_trans {n1 d1 n2 d2 n3 d3 : Int} (h1 : 0 < d1) (h2 : 0 < d2) (h3 : 0 < d3) (a : n1 * d2 ≤ n2 * d1) (b : n2 * d3 ≤ n3 * d2) : n1 * d3 ≤ n3 * d1 := by
  have e1 : n1 * d2 * d3 ≤ n2 * d1 * d3 := Int.mul_le_mul_of_nonneg_right a (by omega)
  have e2 : n2 * d3 * d1 ≤ n3 * d2 * d1 := Int.mul_le_mul_of_nonneg_right b (by omega)
  have e3 : n1 * d3 * d2 ≤ n3 * d1 * d2 := by
    have f1 : n1 * d3 * d2 = n1 * d2 * d3 := by grind
    have f2 : n3 * d1 * d2 = n3 * d2 * d1 := by grind
    have f3 : n2 * d1 * d3 = n2 * d3 * d1 := by grind
    omega
  exact Int.le_of_mul_le_mul_right e3 h2
theorem frac_eq {n1 d1 n2 d2 : Int} (h1 : Frac n1 d1) (h2 : Frac n2 d2) (e : n1 * d2 = n2 * d1) : n1 = n2 ∧ d1 = d2 := by
  obtain ⟨p1, _, _, g1⟩ := h1
  obtain ⟨p2, _, _, g2⟩ := h2
  have a1 : d1 ∣ d2 := by
    have h : d1 ∣ n1 * d2 := by rw [e]; exact Int.dvd_mul_left _ _
    have h3 : Int.gcd d1 (n1 * d2) = Int.gcd d1 d2 := Int.gcd_mul_right_right_of_gcd_eq_one (by rw [Int.gcd_comm]; exact g1)
    have h4 : (Int.gcd d1 (n1 * d2) : Int) = d1 := Int.gcd_eq_left (by omega) h
    rw [h3] at h4
    have := Int.gcd_dvd_right d1 d2
    rw [h4] at this
    exact this
  have a2 : d2 ∣ d1 := by
    have h : d2 ∣ n2 * d1 := by rw [← e]; exact Int.dvd_mul_left _ _
    have h3 : Int.gcd d2 (n2 * d1) = Int.gcd d2 d1 := Int.gcd_mul_right_right_of_gcd_eq_one (by rw [Int.gcd_comm]; exact g2)
    have h4 : (Int.gcd d2 (n2 * d1) : Int) = d2 := Int.gcd_eq_left (by omega) h
    rw [h3] at h4
    have := Int.gcd_dvd_right d2 d1
    rw [h4] at this
    exact this
  have e12 : d1 = d2 := by
    have := Int.le_of_dvd p2 a1
    have := Int.le_of_dvd p1 a2
    omega
  subst e12
  exact ⟨Int.eq_of_mul_eq_mul_right (by omega) e, rfl⟩
end Go.Proofs.Ytbnbkondbdakeaa
/- Fractions are compared cell by cell. No condition. -/
namespace Go.Proofs.Ytbnbkondbdakeaa
set_option linter.unusedVariables false
set_option linter.unusedSimpArgs false
open Go Go.RowKit
def same5 (s s' : Bool) (a b c e a' b' c' e' : Int) : Bool := s == s' && (a == a' && (b == b' && (c == c' && e == e')))
theorem eqInW (s s' : Bool) (a b c e a' b' c' e' : Int) (w : World) :
    (Op.equalIn 9999 25 (.agg #[.bool s, .int .u64 a, .int .u64 b, .int .u64 c, .int .u64 e]) (.agg #[.bool s', .int .u64 a', .int .u64 b', .int .u64 c', .int .u64 e'])).run Try.prog w = .ok (same5 s s' a b c e a' b' c' e') w := by
  have hS : Try.prog.underlying 25 = some (.struct (Try.prog.fieldsOf 25)) := by kernel_rfl
  have hp : Try.prog.stoodInHeld 25 = false := by kernel_rfl
  have u4 := Try.underlying4
  have h4 := eqIn4 9996 23 Try.underlying23
  have z23 := Try.sizeOf23
  rw [show (9999 : Nat) = 9998 + 1 from rfl, run_equalIn_agg w 9998 25 _ _ hS hp]
  simp only [Program.fieldsOf, Try.underlying25]
  simp [Op.eqFields, part, isAgg, run_underlying u4, run_equalIn_bool', u4, h4, z23, same5]
  by_cases h0 : s = s' <;> by_cases h1 : a = a' <;> by_cases h2 : b = b' <;> by_cases h3 : c = c' <;> by_cases h4 : e = e' <;> simp [h0, h1, h2, h3, h4]
theorem eq10 (s s' : Bool) (a b c e a' b' c' e' : Int) (t t' : Bool) (f g h i f' g' h' i' : Int) (w : World) :
    (binOp .eql 35 (.agg #[.bool s, .int .u64 a, .int .u64 b, .int .u64 c, .int .u64 e, .bool t, .int .u64 f, .int .u64 g, .int .u64 h, .int .u64 i]) (.agg #[.bool s', .int .u64 a', .int .u64 b', .int .u64 c', .int .u64 e', .bool t', .int .u64 f', .int .u64 g', .int .u64 h', .int .u64 i'])).run Try.prog w = .ok (.bool (same5 s s' a b c e a' b' c' e' && same5 t t' f g h i f' g' h' i')) w := by
  have hS : Try.prog.underlying 35 = some (.struct (Try.prog.fieldsOf 35)) := by kernel_rfl
  have hp : Try.prog.stoodInHeld 35 = false := by kernel_rfl
  have z25 := Try.sizeOf25
  have h5 := eqInW
  rw [run_eql_struct, show (10000 : Nat) = 9999 + 1 from rfl, run_equalIn_agg w 9999 35 _ _ hS hp]
  simp only [Program.fieldsOf, Try.underlying35]
  simp [Op.eqFields, part, isAgg, h5, z25]
  generalize same5 s s' a b c e a' b' c' e' = p
  generalize same5 t t' f g h i f' g' h' i' = q
  cases p <;> cases q <;> rfl
theorem same_isC {s t : Bool} {a b c d e f g h : Nat} {x y : Int} (hx : IsC s a b c d x) (hy : IsC t e f g h y) : same5 s t a b c d e f g h = decide (x = y) := by
  unfold same5
  by_cases hxy : x = y
  · subst hxy
    obtain ⟨rfl, rfl, rfl, rfl, rfl⟩ := hx.uniq hy
    simp
  · rw [decide_eq_false hxy, ← Bool.not_eq_true]
    intro h1
    simp only [Bool.and_eq_true, beq_iff_eq] at h1
    obtain ⟨rfl, h2, h3, h4, h5⟩ := h1
    obtain rfl : a = e := by omega
    obtain rfl : b = f := by omega
    obtain rfl : c = g := by omega
    obtain rfl : d = h := by omega
    exact hxy (hx.1.2.2.2.2.trans hy.1.2.2.2.2.symm)
end Go.Proofs.Ytbnbkondbdakeaa
