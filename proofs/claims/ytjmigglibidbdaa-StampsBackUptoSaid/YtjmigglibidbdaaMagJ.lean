/- The comparison of two Wides of the reference of layer 2. Conditions: the cells stand for numbers. -/
import Derived.Test.YtjmigglibidbdaaMag1
namespace Go.Proofs.Ytjmigglibidbdaa
set_option linter.unusedVariables false
set_option linter.unusedSimpArgs false
open Go Go.RowKit
def cmpI (x y : Int) : Int := if x < y then -1 else if y < x then 1 else 0
theorem cmp_sign {x y : Int} : (x.sign < y.sign → cmpI x y = -1) ∧ (y.sign < x.sign → cmpI x y = 1) ∧ (x.sign = y.sign → cmpI x y = x.sign * sgnN x.natAbs y.natAbs) := by
  have hx : x < 0 ∧ x.sign = -1 ∨ x = 0 ∧ x.sign = 0 ∨ 0 < x ∧ x.sign = 1 := by
    rcases Int.lt_trichotomy x 0 with h | h | h
    · exact Or.inl ⟨h, Int.sign_eq_neg_one_of_neg h⟩
    · subst h; exact Or.inr (Or.inl ⟨rfl, rfl⟩)
    · exact Or.inr (Or.inr ⟨h, Int.sign_eq_one_of_pos h⟩)
  have hy : y < 0 ∧ y.sign = -1 ∨ y = 0 ∧ y.sign = 0 ∨ 0 < y ∧ y.sign = 1 := by
    rcases Int.lt_trichotomy y 0 with h | h | h
    · exact Or.inl ⟨h, Int.sign_eq_neg_one_of_neg h⟩
    · subst h; exact Or.inr (Or.inl ⟨rfl, rfl⟩)
    · exact Or.inr (Or.inr ⟨h, Int.sign_eq_one_of_pos h⟩)
  unfold cmpI sgnN
  rcases hx with ⟨h1, h2⟩ | ⟨h1, h2⟩ | ⟨h1, h2⟩ <;> rcases hy with ⟨k1, k2⟩ | ⟨k1, k2⟩ | ⟨k1, k2⟩ <;> rw [h2, k2] <;> refine ⟨fun h => ?_, fun h => ?_, fun h => ?_⟩ <;> (try omega) <;> (repeat' split) <;> omega
end Go.Proofs.Ytjmigglibidbdaa
