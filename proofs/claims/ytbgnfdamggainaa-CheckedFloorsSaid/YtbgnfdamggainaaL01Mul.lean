/- What the product of layer 1 and that of its reference return. Conditions: the arguments are numbers of 64 bits. -/
import Derived.Test.YtbgnfdamggainaaL01Calls
namespace Go.Proofs.Ytbgnfdamggainaa
open Go Go.RowKit
theorem m32 (n : Int) : bits .and .u64 n 4294967295 = n % 4294967296 := by
  have h127 : (BitVec.ofInt 64 4294967295).toNat = 2 ^ 32 - 1 := by decide
  have key : (BitVec.ofInt 64 n &&& BitVec.ofInt 64 4294967295).toNat = (n % ((2 ^ 64 : Nat) : Int)).toNat % 2 ^ 32 := by
    rw [BitVec.toNat_and, BitVec.toNat_ofInt, h127, Nat.and_two_pow_sub_one_eq_mod]
  show IntKind.u64.wrap ((BitVec.ofInt 64 n &&& BitVec.ofInt 64 4294967295).toNat : Nat) = n % 4294967296
  rw [key, wrap_u64']
  omega
theorem half_le {a b : Int} (ha : 0 ≤ a) (ha2 : a ≤ 4294967295) (hb : 0 ≤ b) (hb2 : b ≤ 4294967295) : 0 ≤ a * b ∧ a * b ≤ 18446744065119617025 := by
  refine ⟨Int.mul_nonneg ha hb, ?_⟩
  have h1 : a * b ≤ 4294967295 * b := Int.mul_le_mul_of_nonneg_right ha2 hb
  omega
/-- The product of two numbers of 64 bits by the products of their halves. -/
theorem mul_halves (a b : Int) (a1 : 0 ≤ a) (a2 : a ≤ 18446744073709551615) (b1 : 0 ≤ b) (b2 : b ≤ 18446744073709551615) :
    (((a / 4294967296 * (b / 4294967296)) % 18446744073709551616 + ((a / 4294967296 * (b % 4294967296)) % 18446744073709551616 + ((a % 4294967296 * (b % 4294967296)) % 18446744073709551616) / 4294967296) % 18446744073709551616 / 4294967296) % 18446744073709551616 + ((((a / 4294967296 * (b % 4294967296)) % 18446744073709551616 + ((a % 4294967296 * (b % 4294967296)) % 18446744073709551616) / 4294967296) % 18446744073709551616) % 4294967296 + (a % 4294967296 * (b / 4294967296)) % 18446744073709551616) % 18446744073709551616 / 4294967296) % 18446744073709551616 = a * b / 18446744073709551616 := by
  have e1 : a = a / 4294967296 * 4294967296 + a % 4294967296 := by omega
  have e2 : b = b / 4294967296 * 4294967296 + b % 4294967296 := by omega
  have h1 := half_le (a := a / 4294967296) (b := b / 4294967296) (by omega) (by omega) (by omega) (by omega)
  have h2 := half_le (a := a / 4294967296) (b := b % 4294967296) (by omega) (by omega) (by omega) (by omega)
  have h3 := half_le (a := a % 4294967296) (b := b / 4294967296) (by omega) (by omega) (by omega) (by omega)
  have h4 := half_le (a := a % 4294967296) (b := b % 4294967296) (by omega) (by omega) (by omega) (by omega)
  generalize a / 4294967296 = x1 at *
  generalize a % 4294967296 = x0 at *
  generalize b / 4294967296 = y1 at *
  generalize b % 4294967296 = y0 at *
  have e : a * b = x1 * y1 * 18446744073709551616 + (x1 * y0 + x0 * y1) * 4294967296 + x0 * y0 := by rw [e1, e2]; grind
  rw [e]
  generalize x1 * y1 = p at *
  generalize x1 * y0 = q at *
  generalize x0 * y1 = r at *
  generalize x0 * y0 = s at *
  clear e1 e2 e
  omega
theorem rr2 {k j : IntKind} {a a' : Int} {b b' : Int} (h1 : a = a') (h2 : b = b') : Ending.returned (Value.tuple #[.int k a, .int j b]) = .returned (.tuple #[.int k a', .int j b']) := by rw [h1, h2]
theorem m_mul64 (a : Int) (b : Int) (w : World) (ha : U64 a) (hb : U64 b) :
    Calls Try.prog 39 #[.int .u64 a, .int .u64 b] w fun e w' => e = .returned (.tuple #[.int .u64 (a * b / 18446744073709551616), .int .u64 (a * b % 18446744073709551616)]) ∧ w = w' := by
  obtain ⟨a1, a2⟩ := ha
  obtain ⟨b1, b2⟩ := hb
  go_enter Try.func39, Try.ntmps39
  go_wp2
  go_ret2
  exact ⟨rr2 (by simp only [m32, wrap_u64']; exact mul_halves a b a1 a2 b1 b2) (by simp only [wrap_u64']), rfl⟩
theorem abs_mul (a b : Int) : ((a < 0) ≠ (b < 0) → a * b = -((a.natAbs : Int) * (b.natAbs : Int))) ∧ ((a < 0) = (b < 0) → a * b = (a.natAbs : Int) * (b.natAbs : Int)) := by
  by_cases ha : a < 0 <;> by_cases hb : b < 0
  · have e1 : (a.natAbs : Int) = -a := by omega
    have e2 : (b.natAbs : Int) = -b := by omega
    rw [e1, e2]; constructor <;> intro h <;> simp only [ha, hb] at h <;> grind
  · have e1 : (a.natAbs : Int) = -a := by omega
    have e2 : (b.natAbs : Int) = b := by omega
    rw [e1, e2]; constructor <;> intro h <;> simp only [ha, hb] at h <;> grind
  · have e1 : (a.natAbs : Int) = a := by omega
    have e2 : (b.natAbs : Int) = -b := by omega
    rw [e1, e2]; constructor <;> intro h <;> simp only [ha, hb] at h <;> grind
  · have e1 : (a.natAbs : Int) = a := by omega
    have e2 : (b.natAbs : Int) = b := by omega
    rw [e1, e2]; constructor <;> intro h <;> simp only [ha, hb] at h <;> grind
theorem r_abs (a : Int) (w : World) (ha : I64 a) :
    Calls Try.prog 40 #[.int .i64 a] w fun e w' => e = .returned (.int .u64 (a.natAbs : Int)) ∧ w = w' := by
  obtain ⟨a1, a2⟩ := ha
  go_enter Try.func40, Try.ntmps40
  go_wp2
  all_goals go_ret
  all_goals exact ⟨rb1 (by first | (simp only [wrap_u64']; omega) | omega), rfl⟩
theorem r_signed (s : Bool) (m : Int) (w : World) (hm : U64 m) :
    Calls Try.prog 41 #[.bool s, .int .u64 m] w fun e w' => e = .returned (.tuple #[.int .i64 (orZ (if s then -m else m)), .bool (inR (if s then -m else m))]) ∧ w = w' := by
  obtain ⟨m1, m2⟩ := hm
  cases s
  all_goals go_enter Try.func41, Try.ntmps41
  all_goals go_wp2
  all_goals go_ret2
  all_goals exact ⟨rb2 (by grind [orZ, wrap64, wrap_u64']) (by grind [inR]), rfl⟩
theorem r_mul (a : Int) (b : Int) (w : World) (ha : I64 a) (hb0 : I64 b) :
    Calls Try.prog 29 #[.int .i64 a, .int .i64 b] w fun e w' => e = .returned (.tuple #[.int .i64 (orZ (a * b)), .bool (inR (a * b))]) ∧ w = w' := by
  have ha' := ha
  have hb' := hb0
  obtain ⟨a1, a2⟩ := ha'
  obtain ⟨b1, b2⟩ := hb'
  have ub : ∀ x : Int, I64 x → U64 (x.natAbs : Int) := fun x hx => by unfold I64 at hx; unfold U64; omega
  have uc : ∀ x : Int, U64 (x % 18446744073709551616) := fun x => by unfold U64; omega
  have hA := ub a ha
  have hB := ub b hb0
  clear ub
  go_enter Try.func29, Try.ntmps29
  go_wp2_with (first
    | (go_at_call 40; (refine (r_abs _ _ ?_).mono ?_) <;> first | assumption | (rintro e w' ⟨rfl, rfl⟩))
    | (go_at_call 39; refine (m_mul64 _ _ _ hA hB).mono ?_; rintro e w' ⟨rfl, rfl⟩)
    | (go_at_call 41; refine (r_signed _ _ _ (uc _)).mono ?_; rintro e w' ⟨rfl, rfl⟩))
  all_goals go_ret2
  all_goals
    have hh := abs_mul a b
    have h0 : 0 ≤ (a.natAbs : Int) * (b.natAbs : Int) := Int.mul_nonneg (by omega) (by omega)
    exact ⟨rb2 (by grind [orZ]) (by grind [inR]), rfl⟩
theorem c_mul (a : Int) (b : Int) (w : World) (ha : I64 a) (hb0 : I64 b) :
    Calls Try.prog 28 #[.int .i64 a, .int .i64 b] w fun e w' => e = .returned (.tuple #[.int .i64 (orZ (a * b)), .bool (inR (a * b))]) ∧ w = w' := by
  obtain ⟨a1, a2⟩ := ha
  obtain ⟨b1, b2⟩ := hb0
  by_cases hb : b = 0
  · subst hb
    go_enter Try.func28, Try.ntmps28
    go_wp2
    go_ret2
    exact ⟨rb2 (by simp [orZ]) (by simp [inR]), rfl⟩
  · have hb' : (b == 0) = false := by simpa using hb
    have hm : (a == -9223372036854775808) = true ∧ a ≤ -9223372036854775808 ∨ (a == -9223372036854775808) = false ∧ -9223372036854775808 < a := by simp; omega
    have hn : (b == -1) = true ∧ b ≤ -1 ∧ -1 ≤ b ∨ (b == -1) = false ∧ ¬ (b = -1) := by simp; omega
    clear hb
    rcases hm with ⟨hm, hm'⟩ | ⟨hm, hm'⟩ <;> rcases hn with ⟨hn, hn'⟩ | ⟨hn, hn'⟩
    all_goals go_enter Try.func28, Try.ntmps28
    all_goals go_wp2
    all_goals (first | go_ret2 | (exfalso; simp_all; done))
    all_goals
      have ht := mul_back a b a1 a2 b1 b2
      have hw : -9223372036854775808 ≤ a * b ∧ a * b ≤ 9223372036854775807 → wrap64 (a * b) = a * b := by intro h; simp only [wrap64]; omega
      exact ⟨rb2 (by grind [orZ]) (by grind [inR]), rfl⟩
end Go.Proofs.Ytbgnfdamggainaa
