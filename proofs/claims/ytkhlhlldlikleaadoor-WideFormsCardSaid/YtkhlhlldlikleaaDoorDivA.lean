/- The library's count of leading zeros (laid over this program: the shelf's contract), and shifts. Condition: the word is of 64 bits. -/
import Derived.Test.YtkhlhlldlikleaaDoorBits
import Derived.Shelf.Small.Bits
import Derived.Lib.BitFns
namespace Go.Proofs.YtkhlhlldlikleaaDoor
set_option linter.unusedVariables false
set_option linter.unusedSimpArgs false
open Go Go.RowKit
def lzRen : Go.Shelf.Ren := ⟨fun | 134 => 68 | 129 => 88 | n => n, fun | 53 => 22 | 3 => 3 | 4 => 4 | 46 => 77 | 5 => 5 | 9 => 9 | n => n, fun | n => n⟩
theorem lzLays : Go.Proofs.Lays.n134 Tryd.prog lzRen := {
  mixed := by kernel_rfl
  f129 := Tryd.func88.trans (congrArg some (by kernel_rfl))
  f134 := Tryd.func68.trans (congrArg some (by kernel_rfl))
  t3 := Tryd.underlying3
  a3 := Tryd.isAgg3
  z3 := Tryd.sizeOf3
  v3 := Tryd.zeroValue3
  t4 := Tryd.underlying4
  a4 := Tryd.isAgg4
  z4 := Tryd.sizeOf4
  v4 := Tryd.zeroValue4
  t5 := Tryd.underlying5
  a5 := Tryd.isAgg5
  z5 := Tryd.sizeOf5
  v5 := Tryd.zeroValue5
  t9 := Tryd.underlying9
  a9 := Tryd.isAgg9
  z9 := Tryd.sizeOf9
  v9 := Tryd.zeroValue9
  t46 := Tryd.underlying77
  a46 := Tryd.isAgg77
  z46 := Tryd.sizeOf77
  v46 := Tryd.zeroValue77
  t53 := Tryd.underlying22
  a53 := Tryd.isAgg22
  z53 := Tryd.sizeOf22
  v53 := Tryd.zeroValue22 }
theorem bitLen_spec (x : Nat) : x < 2 ^ 64 → Lib.bitLen x ≤ 64 ∧ x < 2 ^ Lib.bitLen x ∧ (x ≠ 0 → 1 ≤ Lib.bitLen x ∧ 2 ^ (Lib.bitLen x - 1) ≤ x) := by
  intro h
  have key : ∀ k x : Nat, x < 2 ^ k → k ≤ 64 → Lib.bitLen x ≤ k ∧ x < 2 ^ Lib.bitLen x ∧ (x ≠ 0 → 1 ≤ Lib.bitLen x ∧ 2 ^ (Lib.bitLen x - 1) ≤ x) := by
    intro k
    induction k with
    | zero => intro x hx _; have : x = 0 := by omega
              subst this; decide
    | succ k ih =>
      intro x hx hk
      by_cases h0 : x = 0
      · subst h0; have e0 : Lib.bitLen 0 = 0 := by decide
        rw [e0]
        exact ⟨by omega, by omega, fun h => absurd rfl h⟩
      · have h64 : x < 2 ^ 64 := Nat.lt_of_lt_of_le hx (Nat.pow_le_pow_right (by omega) hk)
        have e := Lib.bitLen_half x h0 h64
        obtain ⟨i1, i2, i3⟩ := ih (x / 2) (by rw [Nat.pow_succ] at hx; omega) (by omega)
        rw [e]
        refine ⟨by omega, by rw [Nat.add_comm, Nat.pow_succ]; omega, fun _ => ⟨by omega, ?_⟩⟩
        rw [Nat.add_sub_cancel_left]
        by_cases h1 : x / 2 = 0
        · rw [h1]; have : Lib.bitLen 0 = 0 := by decide
          rw [this]; omega
        · obtain ⟨j1, j2⟩ := i3 h1
          obtain ⟨q, hq⟩ : ∃ q, Lib.bitLen (x / 2) = q + 1 := ⟨_, (Nat.sub_add_cancel j1).symm⟩
          rw [hq] at j2 ⊢
          simp only [Nat.add_sub_cancel] at j2
          rw [Nat.pow_succ]; omega
  exact key 64 x h (by omega)
/-- The shift that makes a word's top bit 1. -/
theorem b_lz (x : Nat) (w : World) (hx : x < 18446744073709551616) (h0 : 0 < x) : Calls Tryd.prog 68 #[.int .u64 (x : Int)] w fun e w' => ∃ s : Nat, e = .returned (.int .i64 (s : Int)) ∧ s < 64 ∧ x * 2 ^ s < 18446744073709551616 ∧ 9223372036854775808 ≤ x * 2 ^ s ∧ w = w' := by
  refine (Go.Proofs.Any.bits_LeadingZeros64 lzLays (x : Int) w (by omega) (by omega)).mono ?_
  rintro e w' ⟨rfl, rfl⟩
  obtain ⟨i1, i2, i3⟩ := bitLen_spec x hx
  obtain ⟨j1, j2⟩ := i3 (by omega)
  have e : (64 : Nat) = Lib.bitLen x + (64 - Lib.bitLen x) := by omega
  refine ⟨64 - Lib.bitLen x, by rw [Int.toNat_natCast]; congr 2; omega, by omega, ?_, ?_, rfl⟩
  · have h1 : x * 2 ^ (64 - Lib.bitLen x) < 2 ^ Lib.bitLen x * 2 ^ (64 - Lib.bitLen x) := Nat.mul_lt_mul_of_pos_right i2 (Nat.two_pow_pos _)
    rw [← Nat.pow_add, ← e] at h1
    exact h1
  · have h1 : 2 ^ (Lib.bitLen x - 1) * 2 ^ (64 - Lib.bitLen x) ≤ x * 2 ^ (64 - Lib.bitLen x) := Nat.mul_le_mul_right _ j2
    rw [← Nat.pow_add, show Lib.bitLen x - 1 + (64 - Lib.bitLen x) = 63 by omega] at h1
    exact h1
end Go.Proofs.YtkhlhlldlikleaaDoor
