/- Numbers of variable length: groups of seven bits. No condition; nothing of the program. -/
import Derived.KernelRfl
namespace Go.Proofs.Ytdboaogdanahkaa
set_option linter.unusedVariables false
set_option linter.unusedSimpArgs false
/-- The bytes of a number: its groups of seven bits, the least significant one first, 128 added to each that another one follows. -/
def encB (n : Nat) : List Nat := if h : n < 128 then [n] else (n % 128 + 128) :: encB (n / 128)
termination_by n
decreasing_by omega
/-- What bytes stand for. -/
def decB : List Nat → Nat
  | [] => 0
  | b :: l => b % 128 + 128 * decB l
/-- Bytes that end with the first one below 128, which is 0 only if it is alone. -/
def Canon : List Nat → Prop
  | [] => False
  | [b] => b < 128
  | b :: c :: l => 128 ≤ b ∧ b < 256 ∧ Canon (c :: l) ∧ (l = [] → c ≠ 0)
theorem encB_small {n : Nat} (h : n < 128) : encB n = [n] := by rw [encB, dif_pos h]
theorem encB_big {n : Nat} (h : 128 ≤ n) : encB n = (n % 128 + 128) :: encB (n / 128) := by rw [encB, dif_neg (by omega)]
theorem encB_ne (n : Nat) : encB n ≠ [] := by
  by_cases h : n < 128
  · rw [encB_small h]; simp
  · rw [encB_big (by omega)]; simp
theorem decB_encB (n : Nat) : decB (encB n) = n := by
  induction n using Nat.strongRecOn with
  | ind n ih =>
    by_cases h : n < 128
    · rw [encB_small h]; simp [decB]; omega
    · rw [encB_big (by omega)]
      simp only [decB]
      rw [ih (n / 128) (by omega)]; omega
theorem encB_canon (n : Nat) : Canon (encB n) := by
  induction n using Nat.strongRecOn with
  | ind n ih =>
    by_cases h : n < 128
    · rw [encB_small h]; exact h
    · rw [encB_big (by omega)]
      have k := ih (n / 128) (by omega)
      by_cases h2 : n / 128 < 128
      · rw [encB_small h2] at k ⊢
        exact ⟨by omega, by omega, k, fun _ => by omega⟩
      · rw [encB_big (by omega)] at k ⊢
        refine ⟨by omega, by omega, k, fun e => absurd e (encB_ne _)⟩
theorem decB_pos : ∀ (l : List Nat), Canon l → (∀ b, l = [b] → b ≠ 0) → 0 < decB l
  | [], h, _ => absurd h (by simp [Canon])
  | [b], h, k => by
    have := k b rfl
    have hb : b < 128 := h
    simp [decB]; omega
  | b :: c :: l, h, _ => by
    have := decB_pos (c :: l) h.2.2.1 (fun d e => by
      have e1 : c = d ∧ l = [] := by simpa using e
      rw [← e1.1]; exact h.2.2.2 e1.2)
    simp only [decB] at this ⊢
    omega
/-- Encodings are canonical. -/
theorem encB_decB : ∀ (l : List Nat), Canon l → encB (decB l) = l
  | [], h => absurd h (by simp [Canon])
  | [b], h => by
    have hb : b < 128 := h
    have e : decB [b] = b := by simp [decB]; omega
    rw [e, encB_small hb]
  | b :: c :: l, h => by
    obtain ⟨h1, h2, h3, h4⟩ := h
    have ih := encB_decB (c :: l) h3
    have hp := decB_pos (c :: l) h3 (fun d e => by
      have e1 : c = d ∧ l = [] := by simpa using e
      rw [← e1.1]; exact h4 e1.2)
    have e : decB (b :: c :: l) = b % 128 + 128 * decB (c :: l) := rfl
    rw [e, encB_big (by omega)]
    have e1 : (b % 128 + 128 * decB (c :: l)) % 128 + 128 = b := by omega
    have e2 : (b % 128 + 128 * decB (c :: l)) / 128 = decB (c :: l) := by omega
    rw [e1, e2, ih]
theorem encB_length_le (n k : Nat) (h : n < 128 ^ (k + 1)) : (encB n).length ≤ k + 1 := by
  induction k generalizing n with
  | zero => rw [encB_small (by simpa using h)]; simp
  | succ k ih =>
    by_cases h1 : n < 128
    · rw [encB_small h1]; simp
    · rw [encB_big (by omega)]
      have := ih (n / 128) (by rw [Nat.pow_succ] at h; exact Nat.div_lt_of_lt_mul (by rw [Nat.mul_comm]; exact h))
      simp; omega
theorem encB_length_gt (n k : Nat) (h : 128 ^ k ≤ n) : k + 1 ≤ (encB n).length := by
  induction k generalizing n with
  | zero => have := encB_ne n; have : 0 < (encB n).length := List.length_pos_iff.2 this; omega
  | succ k ih =>
    have h1 : 128 ≤ n := by
      have : 128 ^ 1 ≤ 128 ^ (k + 1) := Nat.pow_le_pow_right (by omega) (by omega)
      omega
    rw [encB_big h1]
    have := ih (n / 128) (by rw [Nat.pow_succ] at h; exact (Nat.le_div_iff_mul_le (by omega)).2 h)
    simp; omega
theorem encB_mono {a b : Nat} (h : a ≤ b) : (encB a).length ≤ (encB b).length := by
  induction b using Nat.strongRecOn generalizing a with
  | ind b ih =>
    by_cases h1 : a < 128
    · rw [encB_small h1]
      have := List.length_pos_iff.2 (encB_ne b)
      simp; omega
    · rw [encB_big (n := a) (by omega), encB_big (n := b) (by omega)]
      have := ih (b / 128) (by omega) (a := a / 128) (Nat.div_le_div_right h)
      simp; omega
/-- No encoding is the beginning of another one. -/
theorem canon_prefix : ∀ (l m : List Nat) (x : List Nat), Canon l → Canon m → l ++ x = m → x = []
  | [], _, _, h, _, _ => absurd h (by simp [Canon])
  | [b], m, x, h, k, e => by
    cases x with
    | nil => rfl
    | cons c x =>
      subst e
      have h1 : b < 128 := h
      have h2 : 128 ≤ b := k.1
      omega
  | b :: c :: l, m, x, h, k, e => by
    cases m with
    | nil => simp at e
    | cons b' m =>
      simp only [List.cons_append, List.cons.injEq] at e
      obtain ⟨rfl, e⟩ := e
      subst e
      exact canon_prefix (c :: l) _ x h.2.2.1 k.2.2.1 rfl
/-- zigzag -/
def zig (v : Int) : Nat := if 0 ≤ v then (2 * v).toNat else (-2 * v - 1).toNat
def zag (n : Nat) : Int := if n % 2 = 0 then (n / 2 : Nat) else -((n / 2 : Nat) : Int) - 1
theorem zag_zig (v : Int) : zag (zig v) = v := by
  unfold zag zig
  by_cases h : 0 ≤ v
  · rw [if_pos h, if_pos (by omega)]; omega
  · rw [if_neg h, if_neg (by omega)]; omega
theorem zig_zag (n : Nat) : zig (zag n) = n := by
  unfold zag zig
  by_cases h : n % 2 = 0
  · rw [if_pos h, if_pos (by omega)]; omega
  · rw [if_neg h, if_neg (by omega)]; omega
theorem zig_lt {v : Int} (h1 : -9223372036854775808 ≤ v) (h2 : v ≤ 9223372036854775807) : zig v < 18446744073709551616 := by
  unfold zig; split <;> omega
theorem zig_near {v w : Int} (h : v.natAbs < w.natAbs) : zig v ≤ zig w := by
  unfold zig; split <;> split <;> omega
end Go.Proofs.Ytdboaogdanahkaa
