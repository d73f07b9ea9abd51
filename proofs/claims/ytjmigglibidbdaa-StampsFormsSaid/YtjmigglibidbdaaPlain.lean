/- Plain facts on integers of 64 bits: the middle by bits, a quotient that is rounded toward zero, a product that wrapped. No condition; nothing of the program. -/
import Derived.WalkKit
namespace Go.Proofs.Ytjmigglibidbdaa
set_option linter.unusedVariables false
set_option linter.unusedSimpArgs false
open Go Go.RowKit

theorem nat_xa (a b : Nat) : 2 * (a &&& b) + (a ^^^ b) = a + b := by
  induction a using Nat.strongRecOn generalizing b with
  | ind a ih =>
    by_cases h : a = 0
    · subst h; simp
    · have := ih (a / 2) (by omega) (b / 2)
      have e1 := Nat.and_div_two (a := a) (b := b)
      have e2 := Nat.xor_div_two (a := a) (b := b)
      have e3 := Nat.and_mod_two_eq_one (a := a) (b := b)
      have e4 := Nat.xor_mod_two_eq_one (a := a) (b := b)
      grind

theorem toInt64 (x : Int) (x1 : -9223372036854775808 ≤ x) (x2 : x ≤ 9223372036854775807) : (BitVec.ofInt 64 x).toInt = x := by
  rw [BitVec.toInt_ofInt]; simp only [Int.bmod]; omega

theorem wrap_toNat (X : BitVec 64) : IntKind.i64.wrap ((X.toNat : Nat) : Int) = X.toInt := by
  have h := X.isLt
  rw [IntKind.wrap_i64, BitVec.toInt_eq_toNat_cond]
  split <;> omega

theorem i64_and_xor (x y : Int) (x1 : -9223372036854775808 ≤ x) (x2 : x ≤ 9223372036854775807) (y1 : -9223372036854775808 ≤ y) (y2 : y ≤ 9223372036854775807) :
    2 * bits .and .i64 x y + bits .xor .i64 x y = x + y := by
  have ex := toInt64 x x1 x2
  have ey := toInt64 y y1 y2
  show 2 * IntKind.i64.wrap ((BitVec.ofInt 64 x &&& BitVec.ofInt 64 y).toNat : Nat) + IntKind.i64.wrap ((BitVec.ofInt 64 x ^^^ BitVec.ofInt 64 y).toNat : Nat) = x + y
  rw [wrap_toNat, wrap_toNat]
  generalize BitVec.ofInt 64 x = X at *
  generalize BitVec.ofInt 64 y = Y at *
  have h := nat_xa X.toNat Y.toNat
  rw [BitVec.toInt_eq_msb_cond] at *
  rw [BitVec.toInt_eq_msb_cond, BitVec.msb_and, BitVec.msb_xor, BitVec.toNat_and, BitVec.toNat_xor]
  have p : ((2 ^ 64 : Nat) : Int) = 18446744073709551616 := by decide
  rw [p] at *
  cases hx : X.msb <;> cases hy : Y.msb <;> simp only [hx, hy, Bool.and_true, Bool.and_false, Bool.xor_true, Bool.xor_false, Bool.not_true, Bool.not_false, if_true, if_false, Bool.false_eq_true] at * <;> omega

/-- The middle of two numbers of 64 bits by their bits. -/
theorem mid_bits (x y : Int) (x1 : -9223372036854775808 ≤ x) (x2 : x ≤ 9223372036854775807) (y1 : -9223372036854775808 ≤ y) (y2 : y ≤ 9223372036854775807) :
    wrap64 (bits .and .i64 x y + bits .xor .i64 x y / 2) = (x + y) / 2 := by
  have h := i64_and_xor x y x1 x2 y1 y2
  simp only [wrap64]; omega

theorem tq (a b : Int) (hb : b ≠ 0) : b * a.tdiv b + a.tmod b = a ∧ (a.tmod b).natAbs < b.natAbs ∧ (0 ≤ a → 0 ≤ a.tmod b) ∧ (a ≤ 0 → a.tmod b ≤ 0) ∧ (a.tdiv b).natAbs ≤ a.natAbs ∧ (2 ≤ b.natAbs → 2 * (a.tdiv b).natAbs ≤ a.natAbs) ∧ (b = 1 → a.tdiv b = a) ∧ (b = -1 → a.tdiv b = -a) := by
  have h1 := Int.mul_tdiv_add_tmod a b
  have h2 := Int.natAbs_tmod a b
  have h3 := Int.natAbs_tdiv a b
  have h4 : a.natAbs % b.natAbs < b.natAbs := Nat.mod_lt _ (by omega)
  have h5 : a.natAbs.div b.natAbs = a.natAbs / b.natAbs := rfl
  have h6 : a.natAbs / b.natAbs ≤ a.natAbs := Nat.div_le_self _ _
  refine ⟨h1, by omega, fun h => Int.tmod_nonneg _ h, fun h => ?_, by omega, fun h => ?_, fun h => by subst h; simp, fun h => by subst h; simp [Int.tdiv_neg]⟩
  · have := Int.tmod_nonneg (a := -a) b (by omega)
    rw [Int.neg_tmod] at this; omega
  · have h7 : b.natAbs * (a.natAbs / b.natAbs) ≤ a.natAbs := Nat.mul_div_le _ _
    have h8 : 2 * (a.natAbs / b.natAbs) ≤ b.natAbs * (a.natAbs / b.natAbs) := Nat.mul_le_mul_right _ h
    omega

/-- A product that is divided by a factor shows whether it wrapped. -/
theorem mul_back (a b : Int) (a1 : -9223372036854775808 ≤ a) (a2 : a ≤ 9223372036854775807) (b1 : -9223372036854775808 ≤ b) (b2 : b ≤ 9223372036854775807) (hb : b ≠ 0) (hn : ¬ (a = -9223372036854775808 ∧ b = -1)) :
    (wrap64 ((wrap64 (a * b)).tdiv b) = a ↔ -9223372036854775808 ≤ a * b ∧ a * b ≤ 9223372036854775807) := by
  have hc : b * a = a * b := Int.mul_comm _ _
  constructor
  · intro h
    have hw : wrap64 (a * b) = (a * b + 9223372036854775808) % 18446744073709551616 - 9223372036854775808 := by simp only [wrap64]
    have t := tq (wrap64 (a * b)) b hb
    generalize hp : wrap64 (a * b) = p at *
    have e : p.tdiv b = a ∨ (p = -9223372036854775808 ∧ b = -1) := by
      by_cases h1 : b = 1
      · subst h1; simp [wrap64] at *; omega
      · by_cases h2 : b = -1
        · have := t.2.2.2.2.2.2.2 h2
          rw [this] at h; simp only [wrap64] at *; omega
        · have := t.2.2.2.2.2.1 (by omega)
          left; rw [← h]; simp only [wrap64]; omega
    rcases e with e | ⟨e1, e2⟩
    · rw [e, hc] at t
      generalize a * b = m at *
      omega
    · subst e2; subst e1; omega
  · intro h
    have e : wrap64 (a * b) = a * b := by simp only [wrap64]; omega
    rw [e, Int.mul_tdiv_cancel _ hb]
    simp only [wrap64]; omega

end Go.Proofs.Ytjmigglibidbdaa
