/- The quotient of two words and a word, and the rest, of the library's package bits. Conditions: the divisor is greater than the upper word. -/
import Derived.Test.YtkhlhlldlikleaaDoorDivA
namespace Go.Proofs.YtkhlhlldlikleaaDoor
set_option linter.unusedVariables false
set_option linter.unusedSimpArgs false
open Go Go.RowKit
theorem wM (x y : Nat) : ∃ m : Nat, IntKind.u64.wrap ((x : Int) * (y : Int)) = (m : Int) ∧ Hid (m = x * y % 18446744073709551616) :=
  ⟨x * y % 18446744073709551616, by rw [wrap_u64', Int.natCast_emod, Int.natCast_mul]; rfl, rfl⟩
theorem wMl (x : Nat) : ∃ m : Nat, IntKind.u64.wrap ((x : Int) * 4294967296) = (m : Int) ∧ Hid (m = x * 4294967296 % 18446744073709551616) :=
  ⟨x * 4294967296 % 18446744073709551616, by rw [wrap_u64', Int.natCast_emod, Int.natCast_mul]; rfl, rfl⟩
theorem wlM (x : Nat) : ∃ m : Nat, IntKind.u64.wrap (4294967296 * (x : Int)) = (m : Int) ∧ Hid (m = x * 4294967296 % 18446744073709551616) := by
  obtain ⟨m, h1, h2⟩ := wMl x
  exact ⟨m, by rw [Int.mul_comm]; exact h1, h2⟩
theorem wA (x y : Nat) : ∃ m : Nat, IntKind.u64.wrap ((x : Int) + (y : Int)) = (m : Int) ∧ Hid (m = (x + y) % 18446744073709551616) :=
  ⟨(x + y) % 18446744073709551616, by rw [wrap_u64']; omega, rfl⟩
theorem wS (x y : Nat) (hy : y ≤ 18446744073709551616) : ∃ m : Nat, IntKind.u64.wrap ((x : Int) - (y : Int)) = (m : Int) ∧ Hid (m = (x + 18446744073709551616 - y) % 18446744073709551616) :=
  ⟨(x + 18446744073709551616 - y) % 18446744073709551616, by rw [wrap_u64']; omega, rfl⟩
theorem wS1 (x : Nat) : ∃ m : Nat, IntKind.u64.wrap ((x : Int) - 1) = (m : Int) ∧ Hid (m = (x + 18446744073709551615) % 18446744073709551616) :=
  ⟨(x + 18446744073709551615) % 18446744073709551616, by rw [wrap_u64']; omega, rfl⟩
theorem wD (x y : Nat) : ∃ m : Nat, (x : Int).tdiv (y : Int) = (m : Int) ∧ (x : Int) / (y : Int) = (m : Int) ∧ Hid (m = x / y) :=
  ⟨x / y, (Int.ofNat_tdiv x y).symm, (Int.natCast_ediv x y).symm, rfl⟩
theorem wI (x : Nat) (h : x < 18446744073709551616) : IntKind.u64.wrap (x : Int) = (x : Int) := by rw [wrap_u64']; omega
theorem or_sum (x y s : Nat) (hs : s ≤ 64) (hy : y < 2 ^ s) (hx : x * 2 ^ s < 18446744073709551616) : bits .or .u64 ((x * 2 ^ s : Nat) : Int) (y : Int) = ((x * 2 ^ s + y : Nat) : Int) := by
  have h64 : (2 : Nat) ^ s ≤ 18446744073709551616 := Nat.le_trans (Nat.pow_le_pow_right (by omega) hs) (by decide)
  have e1 : (BitVec.ofInt 64 ((x * 2 ^ s : Nat) : Int)).toNat = x * 2 ^ s := by
    rw [BitVec.ofInt_natCast, BitVec.toNat_ofNat]; exact Nat.mod_eq_of_lt hx
  have e2 : (BitVec.ofInt 64 (y : Int)).toNat = y := by
    rw [BitVec.ofInt_natCast, BitVec.toNat_ofNat]; exact Nat.mod_eq_of_lt (by omega)
  have e3 : x * 2 ^ s ||| y = x * 2 ^ s + y := by
    rw [Nat.mul_comm x, Nat.two_pow_add_eq_or_of_lt hy]
  show IntKind.u64.wrap ((BitVec.ofInt 64 ((x * 2 ^ s : Nat) : Int) ||| BitVec.ofInt 64 (y : Int)).toNat : Int) = _
  rw [BitVec.toNat_or, e1, e2, e3, wrap_u64']
  have h5 : x * 2 ^ s + y < 18446744073709551616 := by
    by_cases h : s = 64
    · subst h
      have h0 : x = 0 := by
        rcases Nat.eq_zero_or_pos x with h | h
        · exact h
        · exfalso
          have : 1 * 2 ^ 64 ≤ x * 2 ^ 64 := Nat.mul_le_mul_right _ h
          omega
      subst h0; simp; exact hy
    · have h6 : x * 2 ^ s + 2 ^ s ≤ 18446744073709551616 := by
        have h7 : (18446744073709551616 : Nat) = 2 ^ (64 - s) * 2 ^ s := by rw [← Nat.pow_add, Nat.sub_add_cancel hs]
        rw [h7] at hx ⊢
        have h8 := Nat.lt_of_mul_lt_mul_right hx
        have h9 : (x + 1) * 2 ^ s ≤ 2 ^ (64 - s) * 2 ^ s := Nat.mul_le_mul_right _ h8
        rw [Nat.add_mul, Nat.one_mul] at h9
        exact h9
      omega
  omega
/-- What the head of the division reckons. -/
theorem div_head (hi lo y s : Nat) (h1 : hi < y) (_h2 : y < 18446744073709551616) (h3 : lo < 18446744073709551616) (hs : s < 64) (k2 : y * 2 ^ s < 18446744073709551616) (k3 : 9223372036854775808 ≤ y * 2 ^ s) :
    ∃ v n1 n0 hs' lt u32 u10 u1 u0 : Nat, IntKind.u64.wrap ((y : Int) * 2 ^ s) = (v : Int) ∧ (v : Int) / 4294967296 = (n1 : Int) ∧ bits .and .u64 (v : Int) 4294967295 = (n0 : Int) ∧
      IntKind.u64.wrap ((hi : Int) * 2 ^ s) = (hs' : Int) ∧ (lo : Int) / 2 ^ (64 - s) = (lt : Int) ∧ bits .or .u64 (hs' : Int) (lt : Int) = (u32 : Int) ∧ IntKind.u64.wrap ((lo : Int) * 2 ^ s) = (u10 : Int) ∧ (u10 : Int) / 4294967296 = (u1 : Int) ∧ bits .and .u64 (u10 : Int) 4294967295 = (u0 : Int) ∧
      Hid (v = n1 * 4294967296 + n0 ∧ n0 < 4294967296 ∧ 2147483648 ≤ n1 ∧ n1 < 4294967296 ∧ u10 = u1 * 4294967296 + u0 ∧ u0 < 4294967296 ∧ u1 < 4294967296 ∧ u32 < v ∧ v < 18446744073709551616 ∧ u32 * 18446744073709551616 + u10 = (hi * 18446744073709551616 + lo) * 2 ^ s ∧ v = y * 2 ^ s) := by
  have hp : (18446744073709551616 : Nat) = 2 ^ s * 2 ^ (64 - s) := by rw [← Nat.pow_add, show s + (64 - s) = 64 by omega]
  have c2 : ((2 : Int) ^ s) = ((2 ^ s : Nat) : Int) := by rw [Int.natCast_pow]; rfl
  have c3 : ((2 : Int) ^ (64 - s)) = ((2 ^ (64 - s) : Nat) : Int) := by rw [Int.natCast_pow]; rfl
  have hhi : hi * 2 ^ s < 18446744073709551616 := Nat.lt_of_le_of_lt (Nat.mul_le_mul_right _ (Nat.le_of_lt h1)) k2
  have hlt : lo / 2 ^ (64 - s) < 2 ^ s := by
    rw [Nat.div_lt_iff_lt_mul (Nat.two_pow_pos _), ← hp]; exact h3
  refine ⟨y * 2 ^ s, y * 2 ^ s / 4294967296, y * 2 ^ s % 4294967296, hi * 2 ^ s, lo / 2 ^ (64 - s), hi * 2 ^ s + lo / 2 ^ (64 - s), lo * 2 ^ s % 18446744073709551616, lo * 2 ^ s % 18446744073709551616 / 4294967296, lo * 2 ^ s % 18446744073709551616 % 4294967296, ?_, ?_, ?_, ?_, ?_, ?_, ?_, ?_, ?_, ?_⟩
  · rw [c2, ← Int.natCast_mul, wI _ k2]
  · rw [Int.natCast_ediv]; rfl
  · rw [m32, Int.natCast_emod]; rfl
  · rw [c2, ← Int.natCast_mul, wI _ hhi]
  · rw [c3, Int.natCast_ediv]
  · exact or_sum hi (lo / 2 ^ (64 - s)) s (by omega) hlt hhi
  · rw [c2, ← Int.natCast_mul, wrap_u64', Int.natCast_emod]; rfl
  · rw [Int.natCast_ediv]; rfl
  · rw [m32, Int.natCast_emod]; rfl
  · have e1 : lo * 2 ^ s = lo / 2 ^ (64 - s) * 18446744073709551616 + lo * 2 ^ s % 18446744073709551616 := by
      have e2 : lo * 2 ^ s / 18446744073709551616 = lo / 2 ^ (64 - s) := by
        rw [hp, Nat.mul_comm lo, Nat.mul_div_mul_left _ _ (Nat.two_pow_pos s)]
      have := Nat.div_add_mod (lo * 2 ^ s) 18446744073709551616
      rw [e2] at this; omega
    have e3 : hi * 2 ^ s + 2 ^ s ≤ y * 2 ^ s := by
      have : (hi + 1) * 2 ^ s ≤ y * 2 ^ s := Nat.mul_le_mul_right _ h1
      rw [Nat.add_mul, Nat.one_mul] at this; exact this
    refine ⟨by omega, by omega, by omega, by omega, by omega, by omega, by omega, by omega, k2, ?_, rfl⟩
    rw [Nat.add_mul, Nat.add_mul, Nat.mul_right_comm hi]
    omega
end Go.Proofs.YtkhlhlldlikleaaDoor
