/- Products and sums of words of 64 bits, of the library's package bits. Condition: the words are of 64 bits. -/
import Derived.Test.YtdboaogdanahkaaWrd1
namespace Go.Proofs.Ytdboaogdanahkaa
set_option linter.unusedVariables false
set_option linter.unusedSimpArgs false
open Go Go.RowKit
def U64 (a : Int) : Prop := 0 ≤ a ∧ a ≤ 18446744073709551615
theorem wrap_u64' (n : Int) : IntKind.u64.wrap n = n % 18446744073709551616 := by simp [IntKind.wrap, IntKind.bits, IntKind.signed]
theorem m32 (n : Int) : bits .and .u64 n 4294967295 = n % 4294967296 := by
  have h127 : (BitVec.ofInt 64 4294967295).toNat = 2 ^ 32 - 1 := by decide
  have key : (BitVec.ofInt 64 n &&& BitVec.ofInt 64 4294967295).toNat = (n % ((2 ^ 64 : Nat) : Int)).toNat % 2 ^ 32 := by
    rw [BitVec.toNat_and, BitVec.toNat_ofInt, h127, Nat.and_two_pow_sub_one_eq_mod]
  show IntKind.u64.wrap ((BitVec.ofInt 64 n &&& BitVec.ofInt 64 4294967295).toNat : Nat) = n % 4294967296
  rw [key, wrap_u64']
  omega
theorem half_le {a b : Int} (ha : 0 ≤ a) (ha2 : a ≤ 4294967295) (hb : 0 ≤ b) (hb2 : b ≤ 4294967295) : 0 ≤ a * b ∧ a * b ≤ 18446744065119617025 := by
  refine ⟨Int.mul_nonneg ha hb, ?_⟩
  have h1 : a * b ≤ 4294967295 * b := Int.mul_le_mul_of_nonneg_right ha2 hb
  omega
/-- The product of two numbers of 64 bits by the products of their halves. -/
theorem mul_halves (a b : Int) (a1 : 0 ≤ a) (a2 : a ≤ 18446744073709551615) (b1 : 0 ≤ b) (b2 : b ≤ 18446744073709551615) :
    (((a / 4294967296 * (b / 4294967296)) % 18446744073709551616 + ((a / 4294967296 * (b % 4294967296)) % 18446744073709551616 + ((a % 4294967296 * (b % 4294967296)) % 18446744073709551616) / 4294967296) % 18446744073709551616 / 4294967296) % 18446744073709551616 + ((((a / 4294967296 * (b % 4294967296)) % 18446744073709551616 + ((a % 4294967296 * (b % 4294967296)) % 18446744073709551616) / 4294967296) % 18446744073709551616) % 4294967296 + (a % 4294967296 * (b / 4294967296)) % 18446744073709551616) % 18446744073709551616 / 4294967296) % 18446744073709551616 = a * b / 18446744073709551616 := by
  have e1 : a = a / 4294967296 * 4294967296 + a % 4294967296 := by omega
  have e2 : b = b / 4294967296 * 4294967296 + b % 4294967296 := by omega
  have h1 := half_le (a := a / 4294967296) (b := b / 4294967296) (by omega) (by omega) (by omega) (by omega)
  have h2 := half_le (a := a / 4294967296) (b := b % 4294967296) (by omega) (by omega) (by omega) (by omega)
  have h3 := half_le (a := a % 4294967296) (b := b / 4294967296) (by omega) (by omega) (by omega) (by omega)
  have h4 := half_le (a := a % 4294967296) (b := b % 4294967296) (by omega) (by omega) (by omega) (by omega)
  generalize a / 4294967296 = x1 at *
  generalize a % 4294967296 = x0 at *
  generalize b / 4294967296 = y1 at *
  generalize b % 4294967296 = y0 at *
  have e : a * b = x1 * y1 * 18446744073709551616 + (x1 * y0 + x0 * y1) * 4294967296 + x0 * y0 := by rw [e1, e2]; grind
  rw [e]
  generalize x1 * y1 = p at *
  generalize x1 * y0 = q at *
  generalize x0 * y1 = r at *
  generalize x0 * y0 = s at *
  clear e1 e2 e
  omega
theorem rr2 {k j : IntKind} {a a' : Int} {b b' : Int} (h1 : a = a') (h2 : b = b') : Ending.returned (Value.tuple #[.int k a, .int j b]) = .returned (.tuple #[.int k a', .int j b']) := by rw [h1, h2]
theorem m_mul64 (a : Int) (b : Int) (w : World) (ha : U64 a) (hb : U64 b) :
    Calls Try.prog 103 #[.int .u64 a, .int .u64 b] w fun e w' => e = .returned (.tuple #[.int .u64 (a * b / 18446744073709551616), .int .u64 (a * b % 18446744073709551616)]) ∧ w = w' := by
  obtain ⟨a1, a2⟩ := ha
  obtain ⟨b1, b2⟩ := hb
  go_enter Try.func103, Try.ntmps103
  go_wp2
  go_ret2
  exact ⟨rr2 (by simp only [m32, wrap_u64']; exact mul_halves a b a1 a2 b1 b2) (by simp only [wrap_u64']), rfl⟩
/-- The product of two words: its upper and its lower word. -/
theorem b_mul64 (a b h l : Nat) (w : World) (ha : a < 18446744073709551616) (hb : b < 18446744073709551616) (hh : Hid (a * b / 18446744073709551616 = h)) (hl : Hid (a * b % 18446744073709551616 = l)) :
    Calls Try.prog 103 #[.int .u64 (a : Int), .int .u64 (b : Int)] w fun e w' => e = .returned (.tuple #[.int .u64 (h : Int), .int .u64 (l : Int)]) ∧ w = w' := by
  refine (m_mul64 a b w (by unfold U64; omega) (by unfold U64; omega)).mono ?_
  rintro e w' ⟨rfl, rfl⟩
  exact ⟨rr2 (by rw [← hh.out, Int.natCast_ediv, Int.natCast_mul]; rfl) (by rw [← hl.out, Int.natCast_emod, Int.natCast_mul]; rfl), rfl⟩
theorem add64_eq (x y c l h : Nat) (hc : c ≤ 1) (hl : (x + y + c) % 18446744073709551616 = l) (hh : (x + y + c) / 18446744073709551616 = h) (w : World) : (callFunc 91 #[.int .u64 (x : Int), .int .u64 (y : Int), .int .u64 (c : Int)]).run Try.prog w =
      .ok (.value (.tuple #[.int .u64 (l : Int), .int .u64 (h : Int)])) w := by rw [add64_run x y c hc, hl, hh]
theorem add64_eq0 (x y l h : Nat) (hl : (x + y) % 18446744073709551616 = l) (hh : (x + y) / 18446744073709551616 = h) (w : World) : (callFunc 91 #[.int .u64 (x : Int), .int .u64 (y : Int), .int .u64 0]).run Try.prog w =
      .ok (.value (.tuple #[.int .u64 (l : Int), .int .u64 (h : Int)])) w := add64_eq x y 0 l h (by omega) hl hh w
theorem sub64_eq (x y c l h : Nat) (hc : c ≤ 1) (hl : (x + 18446744073709551616 - y - c) % 18446744073709551616 = l) (hh : (if x < y + c then 1 else 0) = h) (w : World) : (callFunc 92 #[.int .u64 (x : Int), .int .u64 (y : Int), .int .u64 (c : Int)]).run Try.prog w =
      .ok (.value (.tuple #[.int .u64 (l : Int), .int .u64 (h : Int)])) w := by rw [sub64_run x y c hc, hl, hh]
theorem prod_le {a b : Nat} (ha : a < 18446744073709551616) (hb : b < 18446744073709551616) : a * b ≤ 340282366920938463426481119284349108225 := by
  have h1 : a * b ≤ 18446744073709551615 * b := Nat.mul_le_mul_right _ (by omega)
  omega
end Go.Proofs.Ytdboaogdanahkaa
