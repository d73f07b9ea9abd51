/- Numbers as lists of words of 64 bits. No condition; nothing of the program. -/
import Derived.WalkKit
namespace Go.Proofs.Ytjmigglibidbdaa
set_option linter.unusedVariables false
set_option linter.unusedSimpArgs false
open Go Go.RowKit

/-- Words, the least significant one first. -/
def val : List Nat → Nat
  | [] => 0
  | x :: r => x + 18446744073709551616 * val r
def W64 (l : List Nat) : Prop := ∀ x ∈ l, x < 18446744073709551616
theorem val_append (a b : List Nat) : val (a ++ b) = val a + 18446744073709551616 ^ a.length * val b := by
  induction a with
  | nil => simp [val]
  | cons x r ih => simp only [List.cons_append, val, ih, List.length_cons, Nat.pow_succ]; grind
theorem val_snoc (a : List Nat) (x : Nat) : val (a ++ [x]) = val a + 18446744073709551616 ^ a.length * x := by rw [val_append]; simp [val]
theorem val_lt (a : List Nat) (h : W64 a) : val a < 18446744073709551616 ^ a.length := by
  induction a with
  | nil => simp [val]
  | cons x r ih =>
    have h1 := ih (fun y hy => h y (by simp [hy]))
    have h2 := h x (by simp)
    simp only [val, List.length_cons, Nat.pow_succ]
    omega
def limbs (n : Nat) : List Nat := if h : n = 0 then [] else n % 18446744073709551616 :: limbs (n / 18446744073709551616)
termination_by n
decreasing_by omega
theorem limbs_zero : limbs 0 = [] := by rw [limbs]; simp
theorem limbs_pos {n : Nat} (h : n ≠ 0) : limbs n = n % 18446744073709551616 :: limbs (n / 18446744073709551616) := by rw [limbs]; simp [h]
theorem limbs_nil {n : Nat} : limbs n = [] ↔ n = 0 := by
  constructor
  · intro h; false_or_by_contra; rename_i h0; rw [limbs_pos h0] at h; simp at h
  · rintro rfl; exact limbs_zero
theorem val_limbs (n : Nat) : val (limbs n) = n := by
  induction n using Nat.strongRecOn with
  | ind n ih =>
    by_cases h : n = 0
    · subst h; rw [limbs_zero]; rfl
    · rw [limbs_pos h, val, ih _ (by omega)]; omega
theorem limbs_w (n : Nat) : W64 (limbs n) := by
  induction n using Nat.strongRecOn with
  | ind n ih =>
    by_cases h : n = 0
    · subst h; rw [limbs_zero]; intro x hx; simp at hx
    · rw [limbs_pos h]; intro x hx
      rcases List.mem_cons.1 hx with rfl | hx
      · omega
      · exact ih _ (by omega) x hx
/-- A list of words without a word 0 at its end is that of its value. -/
theorem limbs_of (l : List Nat) (h : W64 l) (ht : l.getLast? ≠ some 0) : limbs (val l) = l := by
  induction l with
  | nil => exact limbs_zero
  | cons x r ih =>
    have hx := h x (by simp)
    have hr : r = [] ∨ r.getLast? ≠ some 0 := by
      cases r with
      | nil => exact Or.inl rfl
      | cons y s => right; simpa [List.getLast?_cons_cons] using ht
    have hpos : val (x :: r) ≠ 0 := by
      rcases hr with rfl | hr
      · simp [val] at *; exact ht
      · by_cases hr0 : r = []
        · subst hr0; simp [val] at *; exact ht
        · have h1 := ih (fun y hy => h y (by simp [hy])) hr
          have : val r ≠ 0 := fun e => hr0 (by rw [← h1, e, limbs_zero])
          simp only [val]; omega
    have hi : limbs (val r) = r := by
      rcases hr with rfl | hr
      · exact limbs_zero
      · exact ih (fun y hy => h y (by simp [hy])) hr
    rw [limbs_pos hpos]
    simp only [val]
    rw [show (x + 18446744073709551616 * val r) / 18446744073709551616 = val r by omega, hi, show (x + 18446744073709551616 * val r) % 18446744073709551616 = x by omega]
theorem limbs_last (n : Nat) : (limbs n).getLast? ≠ some 0 := by
  induction n using Nat.strongRecOn with
  | ind n ih =>
    by_cases h : n = 0
    · subst h; rw [limbs_zero]; simp
    · rw [limbs_pos h]
      by_cases h2 : n / 18446744073709551616 = 0
      · rw [h2, limbs_zero]; simp; omega
      · have := ih (n / 18446744073709551616) (by omega)
        rw [limbs_pos h2] at this ⊢
        rw [List.getLast?_cons_cons]; exact this
theorem limbs_len_le {n k : Nat} : (limbs n).length ≤ k ↔ n < 18446744073709551616 ^ k := by
  induction k generalizing n with
  | zero => simp [limbs_nil]
  | succ k ih =>
    by_cases h : n = 0
    · subst h; simp [limbs_zero]; exact Nat.pos_of_ne_zero (by simp [Nat.pow_eq_zero])
    · rw [limbs_pos h, List.length_cons, Nat.pow_succ, Nat.add_le_add_iff_right, ih]
      constructor
      · intro h1; have := Nat.div_add_mod n 18446744073709551616; omega
      · intro h1; rw [Nat.div_lt_iff_lt_mul (by omega)]; exact h1
theorem val_take_drop (l : List Nat) (k : Nat) (h : k ≤ l.length) : val l = val (l.take k) + 18446744073709551616 ^ k * val (l.drop k) := by
  have := val_append (l.take k) (l.drop k)
  rw [List.take_append_drop] at this
  rw [this, List.length_take, Nat.min_eq_left h]
theorem val_take_succ (l : List Nat) (k : Nat) (h : k < l.length) : val (l.take (k + 1)) = val (l.take k) + 18446744073709551616 ^ k * l[k] := by
  rw [List.take_succ_eq_append_getElem h, val_snoc, List.length_take, Nat.min_eq_left (by omega)]
theorem val_drop (l : List Nat) (k : Nat) (h : k < l.length) : val (l.drop k) = l[k] + 18446744073709551616 * val (l.drop (k + 1)) := by
  rw [List.drop_eq_getElem_cons h, val]
theorem w64_take {l : List Nat} (h : W64 l) (k : Nat) : W64 (l.take k) := fun x hx => h x (List.mem_of_mem_take hx)
theorem w64_drop {l : List Nat} (h : W64 l) (k : Nat) : W64 (l.drop k) := fun x hx => h x (List.mem_of_mem_drop hx)
theorem w64_get {l : List Nat} (h : W64 l) (k : Nat) (hk : k < l.length) : l[k] < 18446744073709551616 := h _ (List.getElem_mem _)
end Go.Proofs.Ytjmigglibidbdaa
