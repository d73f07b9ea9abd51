/- Codes of five words: their words, halves, doubles. No condition; nothing of the program. -/
import Derived.KernelRfl
namespace Go.Proofs.Ytdboaogdanahkaa
set_option linter.unusedVariables false
set_option linter.unusedSimpArgs false
/-- Word i of a number. -/
def w5 (C i : Nat) : Nat := C / 18446744073709551616 ^ i % 18446744073709551616
theorem w5_lt (C i : Nat) : w5 C i < 18446744073709551616 := Nat.mod_lt _ (by omega)
theorem w5_top (C : Nat) (h : C < 18446744073709551616 ^ 5) : w5 C 5 = 0 := by
  unfold w5; rw [Nat.div_eq_of_lt h]
theorem down_div (C p i : Nat) : C / p / 18446744073709551616 ^ i = C / 18446744073709551616 ^ i / p := by
  rw [Nat.div_div_eq_div_mul, Nat.div_div_eq_div_mul, Nat.mul_comm]
theorem up_div (X : Nat) (i : Nat) : X / 18446744073709551616 ^ (i + 1) = X / 18446744073709551616 ^ i / 18446744073709551616 := by
  rw [Nat.pow_succ, Nat.div_div_eq_div_mul]
theorem down7 (C i : Nat) : w5 (C / 128) i = w5 C i / 128 + w5 C (i + 1) * 144115188075855872 % 18446744073709551616 := by
  unfold w5
  rw [down_div, up_div]
  generalize C / 18446744073709551616 ^ i = X
  omega
theorem down1 (C i : Nat) : w5 (C / 2) i = w5 C i / 2 + w5 C (i + 1) * 9223372036854775808 % 18446744073709551616 := by
  unfold w5
  rw [down_div, up_div]
  generalize C / 18446744073709551616 ^ i = X
  omega
theorem up7_0 (C : Nat) : w5 (C * 128) 0 = w5 C 0 * 128 % 18446744073709551616 := by
  unfold w5; simp only [Nat.pow_zero, Nat.div_one]; omega
theorem up1_0 (C : Nat) : w5 (C * 2) 0 = w5 C 0 * 2 % 18446744073709551616 := by
  unfold w5; simp only [Nat.pow_zero, Nat.div_one]; omega
theorem mul_split (X m n p : Nat) (hn : 0 < n) (hpm : p * m = 18446744073709551616) : X * p / 18446744073709551616 = X / m := by
  have hp : 0 < p := by
    rcases Nat.eq_zero_or_pos p with h | h
    · subst h; omega
    · exact h
  rw [← hpm, Nat.mul_comm X p, Nat.mul_div_mul_left _ _ hp]
theorem up7 (C i : Nat) : w5 (C * 128) (i + 1) = w5 C (i + 1) * 128 % 18446744073709551616 + w5 C i / 144115188075855872 := by
  unfold w5
  have e : C * 128 / 18446744073709551616 ^ (i + 1) = C / 18446744073709551616 ^ i / 144115188075855872 := by
    rw [Nat.pow_succ, Nat.mul_comm (18446744073709551616 ^ i), ← Nat.div_div_eq_div_mul, mul_split C 144115188075855872 1 128 (by omega) (by omega), Nat.div_div_eq_div_mul, Nat.div_div_eq_div_mul, Nat.mul_comm]
  rw [e, up_div]
  generalize C / 18446744073709551616 ^ i = X
  omega
theorem up1 (C i : Nat) : w5 (C * 2) (i + 1) = w5 C (i + 1) * 2 % 18446744073709551616 + w5 C i / 9223372036854775808 := by
  unfold w5
  have e : C * 2 / 18446744073709551616 ^ (i + 1) = C / 18446744073709551616 ^ i / 9223372036854775808 := by
    rw [Nat.pow_succ, Nat.mul_comm (18446744073709551616 ^ i), ← Nat.div_div_eq_div_mul, mul_split C 9223372036854775808 1 2 (by omega) (by omega), Nat.div_div_eq_div_mul, Nat.div_div_eq_div_mul, Nat.mul_comm]
  rw [e, up_div]
  generalize C / 18446744073709551616 ^ i = X
  omega
end Go.Proofs.Ytdboaogdanahkaa
