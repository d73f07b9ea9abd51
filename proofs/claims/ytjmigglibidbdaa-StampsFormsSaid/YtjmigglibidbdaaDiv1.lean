/- The library's count of leading zeros (laid over this program: the shelf's contract), and shifts. Condition: the word is of 64 bits. -/
import Derived.Test.YtjmigglibidbdaaBits
import Derived.Shelf.Small.Bits
import Derived.Lib.BitFns
import Derived.Test.YtjmigglibidbdaaWrd3
namespace Go.Proofs.Ytjmigglibidbdaa
set_option linter.unusedVariables false
set_option linter.unusedSimpArgs false
open Go Go.RowKit
theorem bitLen_spec (x : Nat) : x < 2 ^ 64 → Lib.bitLen x ≤ 64 ∧ x < 2 ^ Lib.bitLen x ∧ (x ≠ 0 → 1 ≤ Lib.bitLen x ∧ 2 ^ (Lib.bitLen x - 1) ≤ x) := by
  intro h
  have key : ∀ k x : Nat, x < 2 ^ k → k ≤ 64 → Lib.bitLen x ≤ k ∧ x < 2 ^ Lib.bitLen x ∧ (x ≠ 0 → 1 ≤ Lib.bitLen x ∧ 2 ^ (Lib.bitLen x - 1) ≤ x) := by
    intro k
    induction k with
    | zero => intro x hx _; have : x = 0 := by omega
              subst this; decide
    | succ k ih =>
      intro x hx hk
      by_cases h0 : x = 0
      · subst h0; have e0 : Lib.bitLen 0 = 0 := by decide
        rw [e0]
        exact ⟨by omega, by omega, fun h => absurd rfl h⟩
      · have h64 : x < 2 ^ 64 := Nat.lt_of_lt_of_le hx (Nat.pow_le_pow_right (by omega) hk)
        have e := Lib.bitLen_half x h0 h64
        obtain ⟨i1, i2, i3⟩ := ih (x / 2) (by rw [Nat.pow_succ] at hx; omega) (by omega)
        rw [e]
        refine ⟨by omega, by rw [Nat.add_comm, Nat.pow_succ]; omega, fun _ => ⟨by omega, ?_⟩⟩
        rw [Nat.add_sub_cancel_left]
        by_cases h1 : x / 2 = 0
        · rw [h1]; have : Lib.bitLen 0 = 0 := by decide
          rw [this]; omega
        · obtain ⟨j1, j2⟩ := i3 h1
          obtain ⟨q, hq⟩ : ∃ q, Lib.bitLen (x / 2) = q + 1 := ⟨_, (Nat.sub_add_cancel j1).symm⟩
          rw [hq] at j2 ⊢
          simp only [Nat.add_sub_cancel] at j2
          rw [Nat.pow_succ]; omega
  exact key 64 x h (by omega)
end Go.Proofs.Ytjmigglibidbdaa
/- The quotient of two words and a word, and the rest, of the library's package bits. Conditions: the divisor is greater than the upper word. -/
namespace Go.Proofs.Ytjmigglibidbdaa
set_option linter.unusedVariables false
set_option linter.unusedSimpArgs false
open Go Go.RowKit
theorem wM (x y : Nat) : ∃ m : Nat, IntKind.u64.wrap ((x : Int) * (y : Int)) = (m : Int) ∧ Hid (m = x * y % 18446744073709551616) :=
  ⟨x * y % 18446744073709551616, by rw [wrap_u64', Int.natCast_emod, Int.natCast_mul]; rfl, rfl⟩
theorem wMl (x : Nat) : ∃ m : Nat, IntKind.u64.wrap ((x : Int) * 4294967296) = (m : Int) ∧ Hid (m = x * 4294967296 % 18446744073709551616) :=
  ⟨x * 4294967296 % 18446744073709551616, by rw [wrap_u64', Int.natCast_emod, Int.natCast_mul]; rfl, rfl⟩
theorem wlM (x : Nat) : ∃ m : Nat, IntKind.u64.wrap (4294967296 * (x : Int)) = (m : Int) ∧ Hid (m = x * 4294967296 % 18446744073709551616) := by
  obtain ⟨m, h1, h2⟩ := wMl x
  exact ⟨m, by rw [Int.mul_comm]; exact h1, h2⟩
theorem wA (x y : Nat) : ∃ m : Nat, IntKind.u64.wrap ((x : Int) + (y : Int)) = (m : Int) ∧ Hid (m = (x + y) % 18446744073709551616) :=
  ⟨(x + y) % 18446744073709551616, by rw [wrap_u64']; omega, rfl⟩
theorem wS (x y : Nat) (hy : y ≤ 18446744073709551616) : ∃ m : Nat, IntKind.u64.wrap ((x : Int) - (y : Int)) = (m : Int) ∧ Hid (m = (x + 18446744073709551616 - y) % 18446744073709551616) :=
  ⟨(x + 18446744073709551616 - y) % 18446744073709551616, by rw [wrap_u64']; omega, rfl⟩
theorem wS1 (x : Nat) : ∃ m : Nat, IntKind.u64.wrap ((x : Int) - 1) = (m : Int) ∧ Hid (m = (x + 18446744073709551615) % 18446744073709551616) :=
  ⟨(x + 18446744073709551615) % 18446744073709551616, by rw [wrap_u64']; omega, rfl⟩
theorem wD (x y : Nat) : ∃ m : Nat, (x : Int).tdiv (y : Int) = (m : Int) ∧ (x : Int) / (y : Int) = (m : Int) ∧ Hid (m = x / y) :=
  ⟨x / y, (Int.ofNat_tdiv x y).symm, (Int.natCast_ediv x y).symm, rfl⟩
theorem wI (x : Nat) (h : x < 18446744073709551616) : IntKind.u64.wrap (x : Int) = (x : Int) := by rw [wrap_u64']; omega
theorem or_sum (x y s : Nat) (hs : s ≤ 64) (hy : y < 2 ^ s) (hx : x * 2 ^ s < 18446744073709551616) : bits .or .u64 ((x * 2 ^ s : Nat) : Int) (y : Int) = ((x * 2 ^ s + y : Nat) : Int) := by
  have h64 : (2 : Nat) ^ s ≤ 18446744073709551616 := Nat.le_trans (Nat.pow_le_pow_right (by omega) hs) (by decide)
  have e1 : (BitVec.ofInt 64 ((x * 2 ^ s : Nat) : Int)).toNat = x * 2 ^ s := by
    rw [BitVec.ofInt_natCast, BitVec.toNat_ofNat]; exact Nat.mod_eq_of_lt hx
  have e2 : (BitVec.ofInt 64 (y : Int)).toNat = y := by
    rw [BitVec.ofInt_natCast, BitVec.toNat_ofNat]; exact Nat.mod_eq_of_lt (by omega)
  have e3 : x * 2 ^ s ||| y = x * 2 ^ s + y := by
    rw [Nat.mul_comm x, Nat.two_pow_add_eq_or_of_lt hy]
  show IntKind.u64.wrap ((BitVec.ofInt 64 ((x * 2 ^ s : Nat) : Int) ||| BitVec.ofInt 64 (y : Int)).toNat : Int) = _
  rw [BitVec.toNat_or, e1, e2, e3, wrap_u64']
  have h5 : x * 2 ^ s + y < 18446744073709551616 := by
    by_cases h : s = 64
    · subst h
      have h0 : x = 0 := by
        rcases Nat.eq_zero_or_pos x with h | h
        · exact h
        · exfalso
          have : 1 * 2 ^ 64 ≤ x * 2 ^ 64 := Nat.mul_le_mul_right _ h
          omega
      subst h0; simp; exact hy
    · have h6 : x * 2 ^ s + 2 ^ s ≤ 18446744073709551616 := by
        have h7 : (18446744073709551616 : Nat) = 2 ^ (64 - s) * 2 ^ s := by rw [← Nat.pow_add, Nat.sub_add_cancel hs]
        rw [h7] at hx ⊢
        have h8 := Nat.lt_of_mul_lt_mul_right hx
        have h9 : (x + 1) * 2 ^ s ≤ 2 ^ (64 - s) * 2 ^ s := Nat.mul_le_mul_right _ h8
        rw [Nat.add_mul, Nat.one_mul] at h9
        exact h9
      omega
  omega
/-- What the head of the division reckons. -/
theorem div_head (hi lo y s : Nat) (h1 : hi < y) (_h2 : y < 18446744073709551616) (h3 : lo < 18446744073709551616) (hs : s < 64) (k2 : y * 2 ^ s < 18446744073709551616) (k3 : 9223372036854775808 ≤ y * 2 ^ s) :
    ∃ v n1 n0 hs' lt u32 u10 u1 u0 : Nat, IntKind.u64.wrap ((y : Int) * 2 ^ s) = (v : Int) ∧ (v : Int) / 4294967296 = (n1 : Int) ∧ bits .and .u64 (v : Int) 4294967295 = (n0 : Int) ∧
      IntKind.u64.wrap ((hi : Int) * 2 ^ s) = (hs' : Int) ∧ (lo : Int) / 2 ^ (64 - s) = (lt : Int) ∧ bits .or .u64 (hs' : Int) (lt : Int) = (u32 : Int) ∧ IntKind.u64.wrap ((lo : Int) * 2 ^ s) = (u10 : Int) ∧ (u10 : Int) / 4294967296 = (u1 : Int) ∧ bits .and .u64 (u10 : Int) 4294967295 = (u0 : Int) ∧
      Hid (v = n1 * 4294967296 + n0 ∧ n0 < 4294967296 ∧ 2147483648 ≤ n1 ∧ n1 < 4294967296 ∧ u10 = u1 * 4294967296 + u0 ∧ u0 < 4294967296 ∧ u1 < 4294967296 ∧ u32 < v ∧ v < 18446744073709551616 ∧ u32 * 18446744073709551616 + u10 = (hi * 18446744073709551616 + lo) * 2 ^ s ∧ v = y * 2 ^ s) := by
  have hp : (18446744073709551616 : Nat) = 2 ^ s * 2 ^ (64 - s) := by rw [← Nat.pow_add, show s + (64 - s) = 64 by omega]
  have c2 : ((2 : Int) ^ s) = ((2 ^ s : Nat) : Int) := by rw [Int.natCast_pow]; rfl
  have c3 : ((2 : Int) ^ (64 - s)) = ((2 ^ (64 - s) : Nat) : Int) := by rw [Int.natCast_pow]; rfl
  have hhi : hi * 2 ^ s < 18446744073709551616 := Nat.lt_of_le_of_lt (Nat.mul_le_mul_right _ (Nat.le_of_lt h1)) k2
  have hlt : lo / 2 ^ (64 - s) < 2 ^ s := by
    rw [Nat.div_lt_iff_lt_mul (Nat.two_pow_pos _), ← hp]; exact h3
  refine ⟨y * 2 ^ s, y * 2 ^ s / 4294967296, y * 2 ^ s % 4294967296, hi * 2 ^ s, lo / 2 ^ (64 - s), hi * 2 ^ s + lo / 2 ^ (64 - s), lo * 2 ^ s % 18446744073709551616, lo * 2 ^ s % 18446744073709551616 / 4294967296, lo * 2 ^ s % 18446744073709551616 % 4294967296, ?_, ?_, ?_, ?_, ?_, ?_, ?_, ?_, ?_, ?_⟩
  · rw [c2, ← Int.natCast_mul, wI _ k2]
  · rw [Int.natCast_ediv]; rfl
  · rw [m32, Int.natCast_emod]; rfl
  · rw [c2, ← Int.natCast_mul, wI _ hhi]
  · rw [c3, Int.natCast_ediv]
  · exact or_sum hi (lo / 2 ^ (64 - s)) s (by omega) hlt hhi
  · rw [c2, ← Int.natCast_mul, wrap_u64', Int.natCast_emod]; rfl
  · rw [Int.natCast_ediv]; rfl
  · rw [m32, Int.natCast_emod]; rfl
  · have e1 : lo * 2 ^ s = lo / 2 ^ (64 - s) * 18446744073709551616 + lo * 2 ^ s % 18446744073709551616 := by
      have e2 : lo * 2 ^ s / 18446744073709551616 = lo / 2 ^ (64 - s) := by
        rw [hp, Nat.mul_comm lo, Nat.mul_div_mul_left _ _ (Nat.two_pow_pos s)]
      have := Nat.div_add_mod (lo * 2 ^ s) 18446744073709551616
      rw [e2] at this; omega
    have e3 : hi * 2 ^ s + 2 ^ s ≤ y * 2 ^ s := by
      have : (hi + 1) * 2 ^ s ≤ y * 2 ^ s := Nat.mul_le_mul_right _ h1
      rw [Nat.add_mul, Nat.one_mul] at this; exact this
    refine ⟨by omega, by omega, by omega, by omega, by omega, by omega, by omega, by omega, k2, ?_, rfl⟩
    rw [Nat.add_mul, Nat.add_mul, Nat.mul_right_comm hi]
    omega
end Go.Proofs.Ytjmigglibidbdaa
/- The quotient of two words and a word, and the rest, of the library's package bits. Conditions: the divisor is greater than the upper word. -/
namespace Go.Proofs.Ytjmigglibidbdaa
set_option linter.unusedVariables false
set_option linter.unusedSimpArgs false
open Go Go.RowKit
/-- A guess of a digit, and what it leaves. -/
def DigRel (u v n1 c q r : Nat) : Prop := u = q * n1 + r ∧ r < 4294967296 ∧ u * 4294967296 + c < (q + 1) * v
theorem dig_iff (u v n1 n0 c q r : Nat) (hv : v = n1 * 4294967296 + n0) (e : u = q * n1 + r) : q * n0 ≤ r * 4294967296 + c ↔ q * v ≤ u * 4294967296 + c := by
  subst hv; subst e
  rw [Nat.mul_add, Nat.add_mul, ← Nat.mul_assoc]
  omega
theorem dig_lt (u v c : Nat) (hu : u < v) (hc : c < 4294967296) : u * 4294967296 + c < 4294967296 * v := by omega
theorem dig_stop (u v n1 n0 c q r : Nat) (hv : v = n1 * 4294967296 + n0) (_hn0 : n0 < 4294967296) (hu : u < v) (hc : c < 4294967296) (h : DigRel u v n1 c q r) (c1 : q * v ≤ u * 4294967296 + c) : q < 4294967296 ∧ q * n0 ≤ r * 4294967296 + c := by
  refine ⟨?_, (dig_iff u v n1 n0 c q r hv h.1).2 c1⟩
  have := dig_lt u v c hu hc
  exact Nat.lt_of_mul_lt_mul_right (Nat.lt_of_le_of_lt c1 this)
theorem dig_noWrap (n0 c q r m1 m2 m3 : Nat) (hn0 : n0 < 4294967296) (hc : c < 4294967296) (hq : q < 4294967296) (hr : r < 4294967296) (h1 : m1 = q * n0 % 18446744073709551616) (h2 : m2 = r * 4294967296 % 18446744073709551616) (h3 : m3 = (m2 + c) % 18446744073709551616) : m1 = q * n0 ∧ m3 = r * 4294967296 + c := by
  have : q * n0 ≤ 4294967295 * 4294967295 := Nat.mul_le_mul (by omega) (by omega)
  omega
theorem bnd_u21 (u v n1 q r : Nat) (hn1 : 2147483648 ≤ n1) (hu : u < v) (hv : v < 18446744073709551616) (e : u = q * n1 + r) : q < 18446744073709551616 := by
  have : q * 1 ≤ q * n1 := Nat.mul_le_mul_left _ (by omega)
  omega
theorem dig_dec (u v n1 n0 c q r : Nat) (hv : v = n1 * 4294967296 + n0) (hn0 : n0 < 4294967296) (hn1 : 0 < n1) (hu : u < v) (hc : c < 4294967296) (h : DigRel u v n1 c q r) (c1 : ¬ q * v ≤ u * 4294967296 + c) (q' r' : Nat) (bn : r + n1 < 18446744073709551616) (bq : q < 18446744073709551616)
    (hq' : q' = (q + 18446744073709551615) % 18446744073709551616) (hr' : r' = (r + n1) % 18446744073709551616) :
    q' < q ∧ (r' < 4294967296 → DigRel u v n1 c q' r') ∧ (4294967296 ≤ r' → q' * v ≤ u * 4294967296 + c ∧ u * 4294967296 + c < (q' + 1) * v ∧ q' < 4294967296) := by
  have hq0 : 0 < q := by
    rcases Nat.eq_zero_or_pos q with h0 | h0
    · subst h0; simp at c1
    · exact h0
  have e1 : q = q' + 1 := by omega
  have e2 : r' = r + n1 := by omega
  obtain ⟨h1, h2, h3⟩ := h
  have e3 : u = q' * n1 + r' := by rw [h1, e1, e2, Nat.add_mul]; omega
  have e4 : u * 4294967296 + c < (q' + 1) * v := by rw [← e1]; omega
  refine ⟨by omega, fun h => ⟨e3, h, e4⟩, fun h => ?_⟩
  have h5 : q' < 4294967296 := by
    have h6 : q' * n1 < 4294967296 * n1 := by omega
    exact Nat.lt_of_mul_lt_mul_right h6
  refine ⟨(dig_iff u v n1 n0 c q' r' hv e3).1 ?_, e4, h5⟩
  have : q' * n0 ≤ 4294967295 * 4294967295 := Nat.mul_le_mul (by omega) (by omega)
  omega
theorem dig_init (u v n1 n0 c g a r0 : Nat) (hv : v = n1 * 4294967296 + n0) (_hn0 : n0 < 4294967296) (hn1 : 0 < n1 ∧ n1 < 4294967296) (hu : u < v) (hv2 : v < 18446744073709551616) (hc : c < 4294967296) (hg : g = u / n1) (ha : a = g * n1 % 18446744073709551616) (hr : r0 = (u + 18446744073709551616 - a) % 18446744073709551616) : DigRel u v n1 c g r0 := by
  have h1 := Nat.div_add_mod u n1
  have h2 := Nat.mod_lt u hn1.1
  rw [← hg, Nat.mul_comm] at h1
  have h3 : (g + 1) * v = (g * n1 + n1) * 4294967296 + (g + 1) * n0 := by subst hv; rw [Nat.mul_add, ← Nat.mul_assoc, Nat.add_mul, Nat.one_mul]
  refine ⟨by omega, by omega, ?_⟩
  rw [h3]; omega
theorem dig_rest (u v c q a1 a2 a3 x : Nat) {n1 n0 u10 u0 X y s : Nat} (hv : v = n1 * 4294967296 + n0 ∧ n0 < 4294967296 ∧ 2147483648 ≤ n1 ∧ n1 < 4294967296 ∧ u10 = c * 4294967296 + u0 ∧ u0 < 4294967296 ∧ c < 4294967296 ∧ u < v ∧ v < 18446744073709551616 ∧ u * 18446744073709551616 + u10 = X * 2 ^ s ∧ v = y * 2 ^ s)
    (hq : q * v ≤ u * 4294967296 + c ∧ u * 4294967296 + c < (q + 1) * v ∧ q < 4294967296) (h1 : a1 = u * 4294967296 % 18446744073709551616) (h2 : a2 = (a1 + c) % 18446744073709551616) (h3 : a3 = q * v % 18446744073709551616) (h4 : x = (a2 + 18446744073709551616 - a3) % 18446744073709551616) :
    u * 4294967296 + c = q * v + x ∧ x < v := by
  obtain ⟨_, _, _, _, _, _, hc, hu, hb, _, _⟩ := hv
  obtain ⟨k1, k2, k3⟩ := hq
  rw [Nat.add_mul, Nat.one_mul] at k2
  generalize q * v = t at *
  omega
theorem fin_b (v u p c b3 b4 b5 b6 : Nat) (hv : v < 18446744073709551616) (hu : u < v) (hc : c < 4294967296) (p1 : p * v ≤ u * 4294967296 + c) (p2 : u * 4294967296 + c < (p + 1) * v) (h3 : b3 = u * 4294967296 % 18446744073709551616) (h4 : b4 = (b3 + c) % 18446744073709551616) (h5 : b5 = p * v % 18446744073709551616) (h6 : b6 = (b4 + 18446744073709551616 - b5) % 18446744073709551616) :
    u * 4294967296 + c = p * v + b6 ∧ b6 < v := by
  rw [Nat.add_mul, Nat.one_mul] at p2
  generalize p * v = t at *
  omega
theorem fin_q (q p b1 b2 : Nat) (hq : q < 4294967296) (hp : p < 4294967296) (h1 : b1 = q * 4294967296 % 18446744073709551616) (h2 : b2 = (b1 + p) % 18446744073709551616) : b2 = q * 4294967296 + p := by omega
theorem fin_x {v u32 u1 u0 u21 q p b6 : Nat} (h1 : u32 * 4294967296 + u1 = q * v + u21) (h2 : u21 * 4294967296 + u0 = p * v + b6) : u32 * 18446744073709551616 + (u1 * 4294967296 + u0) = q * v * 4294967296 + p * v + b6 := by
  have h3 : u32 * 18446744073709551616 + u1 * 4294967296 = q * v * 4294967296 + u21 * 4294967296 := by
    have h4 := congrArg (· * 4294967296) h1
    simp only [Nat.add_mul] at h4
    rw [Nat.mul_assoc u32] at h4
    exact h4
  rw [← Nat.add_assoc, h3, Nat.add_assoc, h2, Nat.add_assoc]
theorem div_fin (hi lo y s v u32 u10 u1 u0 n1 n0 q p u21 b1 b2 b3 b4 b5 b6 : Nat) (hv : v = n1 * 4294967296 + n0 ∧ n0 < 4294967296 ∧ 2147483648 ≤ n1 ∧ n1 < 4294967296 ∧ u10 = u1 * 4294967296 + u0 ∧ u0 < 4294967296 ∧ u1 < 4294967296 ∧ u32 < v ∧ v < 18446744073709551616 ∧ u32 * 18446744073709551616 + u10 = (hi * 18446744073709551616 + lo) * 2 ^ s ∧ v = y * 2 ^ s)
    (hq : q * v ≤ u32 * 4294967296 + u1 ∧ u32 * 4294967296 + u1 < (q + 1) * v ∧ q < 4294967296) (hu : u32 * 4294967296 + u1 = q * v + u21 ∧ u21 < v) (hp : p * v ≤ u21 * 4294967296 + u0 ∧ u21 * 4294967296 + u0 < (p + 1) * v ∧ p < 4294967296) (_h1 : hi < y)
    (h1 : b1 = q * 4294967296 % 18446744073709551616) (h2 : b2 = (b1 + p) % 18446744073709551616) (h3 : b3 = u21 * 4294967296 % 18446744073709551616) (h4 : b4 = (b3 + u0) % 18446744073709551616) (h5 : b5 = p * v % 18446744073709551616) (h6 : b6 = (b4 + 18446744073709551616 - b5) % 18446744073709551616) :
    (hi * 18446744073709551616 + lo) / y = b2 ∧ (hi * 18446744073709551616 + lo) % y = b6 / 2 ^ s := by
  obtain ⟨_, _, _, _, e10, hc0, _, _, hvb, eX, ev⟩ := hv
  obtain ⟨p1, p2, p3⟩ := hp
  have eb := fin_b v u21 p u0 b3 b4 b5 b6 hvb hu.2 hc0 p1 p2 h3 h4 h5 h6
  have e2 := fin_q q p b1 b2 hq.2.2 p3 h1 h2
  have eT : (hi * 18446744073709551616 + lo) * 2 ^ s = b2 * v + b6 := by
    rw [← eX, e10, e2, Nat.add_mul, Nat.mul_right_comm q]
    exact fin_x hu.1 eb.1
  have hy : 0 < y := by omega
  have ps := Nat.two_pow_pos s
  rw [ev, ← Nat.mul_assoc] at eT
  have hb6 : b6 / 2 ^ s * 2 ^ s = b6 := by
    have hd : 2 ^ s ∣ b6 := by
      have h7 : 2 ^ s ∣ b2 * y * 2 ^ s + b6 := by rw [← eT]; exact Nat.dvd_mul_left _ _
      exact (Nat.dvd_add_right (Nat.dvd_mul_left _ _)).1 h7
    exact Nat.div_mul_cancel hd
  have hX : hi * 18446744073709551616 + lo = b2 * y + b6 / 2 ^ s := by
    have h8 : (hi * 18446744073709551616 + lo) * 2 ^ s = (b2 * y + b6 / 2 ^ s) * 2 ^ s := by rw [Nat.add_mul (b2 * y), hb6]; exact eT
    exact Nat.eq_of_mul_eq_mul_right ps h8
  have hlt : b6 / 2 ^ s < y := by
    rw [Nat.div_lt_iff_lt_mul ps, ← ev]; exact eb.2
  rw [hX]
  constructor
  · rw [Nat.mul_comm, Nat.mul_add_div hy, Nat.div_eq_of_lt hlt, Nat.add_zero]
  · rw [Nat.mul_comm, Nat.mul_add_mod, Nat.mod_eq_of_lt hlt]
theorem sh2 (b s : Nat) : (b : Int) / 2 ^ s = ((b / 2 ^ s : Nat) : Int) := by
  rw [Int.natCast_ediv, Int.natCast_pow]; rfl
end Go.Proofs.Ytjmigglibidbdaa
/- Div64 of the library and divWord of the program. Conditions: the words are of 64 bits; the divisor is greater than the upper word; it is not 0. -/
namespace Go.Proofs.Ytjmigglibidbdaa
set_option linter.unusedVariables false
set_option linter.unusedSimpArgs false
open Go Go.RowKit
def TwoRet (q r : Nat) (w : World) (e : Ending) (w' : World) : Prop := e = .returned (.tuple #[.int .u64 (q : Int), .int .u64 (r : Int)]) ∧ Ext w w'
/-- What has been divided so far. -/
def DivRel (L os : List Nat) (b k c : Nat) : Prop := os.length = L.length ∧ os.take k = L.take k ∧ c < b ∧ val (os.drop k) * b + c = val (L.drop k)
theorem DivRel.step {L os : List Nat} {b j c x q r : Nat} (h : DivRel L os b (j + 1) c) (hj : j < L.length) (hx : L[j] = x) (bx : x < 18446744073709551616) (hb : 0 < b) (hq : (c * 18446744073709551616 + x) / b = q) (hr : (c * 18446744073709551616 + x) % b = r) :
    DivRel L (os.set j q) b j r ∧ q < 18446744073709551616 ∧ r < b ∧ ∀ h : j < os.length, os[j] = x := by
  obtain ⟨h1, h2, h3, h4⟩ := h
  have hjo : j < os.length := by omega
  have e := Nat.div_add_mod (c * 18446744073709551616 + x) b
  rw [hq, hr] at e
  have hr2 : r < b := by rw [← hr]; exact Nat.mod_lt _ hb
  have hq2 : q < 18446744073709551616 := by
    rw [← hq, Nat.div_lt_iff_lt_mul hb]
    have : c * 18446744073709551616 + 18446744073709551616 ≤ b * 18446744073709551616 := by
      have h5 : (c + 1) * 18446744073709551616 ≤ b * 18446744073709551616 := Nat.mul_le_mul_right _ h3
      omega
    have h6 : 18446744073709551616 * b = b * 18446744073709551616 := Nat.mul_comm _ _
    omega
  refine ⟨⟨by simpa using h1, ?_, hr2, ?_⟩, hq2, hr2, ?_⟩
  · rw [List.take_set_of_le (Nat.le_refl _)]
    have := congrArg (List.take j) h2
    rw [List.take_take, List.take_take, Nat.min_eq_left (by omega)] at this
    exact this
  · rw [val_drop _ j (by simpa using hjo), val_drop L j hj, List.getElem_set_self, List.drop_set_of_lt (by omega), hx, ← h4, Nat.add_mul, Nat.mul_assoc]
    generalize val (os.drop (j + 1)) * b = z at *
    rw [Nat.mul_comm b q] at e
    omega
  · intro h0
    have := congrArg (fun l => l[j]?) h2
    simp only [List.getElem?_take, Nat.lt_succ_self, if_true] at this
    rw [List.getElem?_eq_getElem h0, List.getElem?_eq_getElem hj, hx] at this
    exact Option.some.inj this
def DivWordRet (n b : Nat) (w : World) (e : Ending) (w' : World) : Prop := ∃ a1 b1 c1 d1 r : Nat, e = .returned (.tuple #[.agg #[.int .u64 (a1 : Int), .int .u64 (b1 : Int), .int .u64 (c1 : Int), .int .u64 (d1 : Int)], .int .u64 (r : Int)]) ∧ W64 [a1, b1, c1, d1] ∧ mag4 a1 b1 c1 d1 = n / b ∧ r = n % b ∧ Ext w w'
end Go.Proofs.Ytjmigglibidbdaa
/- shiftUp and shiftDown of the program. Conditions: the words are of 64 bits; the shift is less than 64. -/
namespace Go.Proofs.Ytjmigglibidbdaa
set_option linter.unusedVariables false
set_option linter.unusedSimpArgs false
open Go Go.RowKit
theorem or_sum' (x y s : Nat) (hs : s ≤ 64) (hy : y < 2 ^ s) (hx : x * 2 ^ s < 18446744073709551616) : bits .or .u64 (y : Int) ((x * 2 ^ s : Nat) : Int) = ((x * 2 ^ s + y : Nat) : Int) := by
  rw [← or_sum x y s hs hy hx]
  show IntKind.u64.wrap ((BitVec.ofInt 64 (y : Int) ||| BitVec.ofInt 64 ((x * 2 ^ s : Nat) : Int)).toNat : Int) = IntKind.u64.wrap ((BitVec.ofInt 64 ((x * 2 ^ s : Nat) : Int) ||| BitVec.ofInt 64 (y : Int)).toNat : Int)
  rw [BitVec.or_comm]
theorem two64 (s : Nat) (hs : s ≤ 64) : (18446744073709551616 : Nat) = 2 ^ s * 2 ^ (64 - s) := by
  rw [← Nat.pow_add, show s + (64 - s) = 64 by omega]
/-- A word shifted up: what stays, and what goes over. -/
theorem shl_parts (x s c : Nat) (hs : s < 64) (hx : x < 18446744073709551616) (hc : c < 2 ^ s) :
    ∃ l t z : Nat, IntKind.u64.wrap ((x : Int) * 2 ^ s) = (l : Int) ∧ bits .or .u64 (l : Int) (c : Int) = (z : Int) ∧ (x : Int) / 2 ^ (64 - s) = (t : Int) ∧ Hid (z + 18446744073709551616 * t = x * 2 ^ s + c ∧ z < 18446744073709551616 ∧ t < 2 ^ s) := by
  have c2 : ((2 : Int) ^ s) = ((2 ^ s : Nat) : Int) := by rw [Int.natCast_pow]; rfl
  have c3 : ((2 : Int) ^ (64 - s)) = ((2 ^ (64 - s) : Nat) : Int) := by rw [Int.natCast_pow]; rfl
  have hp := two64 s (by omega)
  have ps := Nat.two_pow_pos s
  have pt := Nat.two_pow_pos (64 - s)
  have e1 := Nat.div_add_mod x (2 ^ (64 - s))
  have hm := Nat.mod_lt x pt
  have hl : x % 2 ^ (64 - s) * 2 ^ s < 18446744073709551616 := by
    rw [hp, Nat.mul_comm (2 ^ s)]; exact Nat.mul_lt_mul_of_pos_right hm ps
  have e2 : x * 2 ^ s = x % 2 ^ (64 - s) * 2 ^ s + 18446744073709551616 * (x / 2 ^ (64 - s)) := by
    have h1 := congrArg (· * 2 ^ s) e1
    simp only [Nat.add_mul] at h1
    have h2 : 2 ^ (64 - s) * (x / 2 ^ (64 - s)) * 2 ^ s = 18446744073709551616 * (x / 2 ^ (64 - s)) := by
      rw [hp, Nat.mul_right_comm, Nat.mul_comm (2 ^ (64 - s)) (2 ^ s)]
    omega
  have ht : x / 2 ^ (64 - s) < 2 ^ s := by rw [Nat.div_lt_iff_lt_mul pt, ← hp]; exact hx
  have ho := or_sum (x % 2 ^ (64 - s)) c s (by omega) hc hl
  have hz : x % 2 ^ (64 - s) * 2 ^ s + c < 18446744073709551616 := by
    have h3 : (x % 2 ^ (64 - s) + 1) * 2 ^ s ≤ 2 ^ (64 - s) * 2 ^ s := Nat.mul_le_mul_right _ hm
    rw [Nat.add_mul, Nat.one_mul, Nat.mul_comm (2 ^ (64 - s)), ← hp] at h3
    omega
  refine ⟨x % 2 ^ (64 - s) * 2 ^ s, x / 2 ^ (64 - s), x % 2 ^ (64 - s) * 2 ^ s + c, ?_, ho, ?_, ?_⟩
  · rw [c2, ← Int.natCast_mul, wrap_u64', e2]; omega
  · rw [c3, Int.natCast_ediv]
  · exact ⟨by omega, hz, ht⟩
def UpRel (L os : List Nat) (s k c : Nat) : Prop := os.length = L.length ∧ os.drop k = L.drop k ∧ c < 2 ^ s ∧ val (os.take k) + 18446744073709551616 ^ k * c = val (L.take k) * 2 ^ s
theorem UpRel.step {L os : List Nat} {s k c x z t : Nat} (h : UpRel L os s k c) (hk : k < L.length) (hx : L[k] = x) (hz : z + 18446744073709551616 * t = x * 2 ^ s + c ∧ z < 18446744073709551616 ∧ t < 2 ^ s) : UpRel L (os.set k z) s (k + 1) t := by
  obtain ⟨h1, h2, h3, h4⟩ := h
  refine ⟨by simpa using h1, by rw [drop_set]; exact (drop_get h2 (by omega) hk).2, hz.2.2, ?_⟩
  rw [val_set_take _ _ _ (by omega), val_take_succ L k hk, hx, Nat.pow_succ, Nat.add_mul, ← h4, Nat.mul_assoc, Nat.mul_assoc]
  have e := congrArg (18446744073709551616 ^ k * ·) hz.1
  simp only [Nat.mul_add] at e
  omega
def ShiftRet (n s : Nat) (w : World) (e : Ending) (w' : World) : Prop := ∃ a1 b1 c1 d1 r : Nat, e = .returned (.tuple #[.agg #[.int .u64 (a1 : Int), .int .u64 (b1 : Int), .int .u64 (c1 : Int), .int .u64 (d1 : Int)], .int .u64 (r : Int)]) ∧ W64 [a1, b1, c1, d1] ∧ mag4 a1 b1 c1 d1 + 115792089237316195423570985008687907853269984665640564039457584007913129639936 * r = n * 2 ^ s ∧ r < 2 ^ s ∧ Ext w w'
end Go.Proofs.Ytjmigglibidbdaa
/- shiftDown, guessDigit and subProduct of the program. Conditions: the words are of 64 bits; the shift is less than 64; the slices lie in different blocks. -/
namespace Go.Proofs.Ytjmigglibidbdaa
set_option linter.unusedVariables false
set_option linter.unusedSimpArgs false
open Go Go.RowKit
/-- A word shifted down: what stays with what comes from above, and what goes over. -/
theorem shr_parts (x s m : Nat) (hs : s < 64) (hx : x < 18446744073709551616) (hm : m < 2 ^ s) :
    ∃ l t z o : Nat, (x : Int) / 2 ^ s = (l : Int) ∧ IntKind.u64.wrap ((x : Int) * 2 ^ (64 - s)) = (t : Int) ∧ bits .or .u64 (l : Int) ((m * 2 ^ (64 - s) : Nat) : Int) = (z : Int) ∧ Hid (t = o * 2 ^ (64 - s) ∧ o < 2 ^ s ∧ z * 2 ^ s + o = x + 18446744073709551616 * m ∧ z < 18446744073709551616) := by
  have c2 : ((2 : Int) ^ s) = ((2 ^ s : Nat) : Int) := by rw [Int.natCast_pow]; rfl
  have c3 : ((2 : Int) ^ (64 - s)) = ((2 ^ (64 - s) : Nat) : Int) := by rw [Int.natCast_pow]; rfl
  have hp := two64 s (by omega)
  have ps := Nat.two_pow_pos s
  have pt := Nat.two_pow_pos (64 - s)
  have hl : x / 2 ^ s < 2 ^ (64 - s) := by rw [Nat.div_lt_iff_lt_mul ps, Nat.mul_comm, ← hp]; exact hx
  have hmt : m * 2 ^ (64 - s) < 18446744073709551616 := by rw [hp]; exact Nat.mul_lt_mul_of_pos_right hm pt
  have ho := or_sum' m (x / 2 ^ s) (64 - s) (by omega) hl hmt
  have e1 := Nat.div_add_mod x (2 ^ s)
  have h2 := Nat.mod_lt x ps
  have hz : m * 2 ^ (64 - s) + x / 2 ^ s < 18446744073709551616 := by
    have h3 : (m + 1) * 2 ^ (64 - s) ≤ 2 ^ s * 2 ^ (64 - s) := Nat.mul_le_mul_right _ hm
    rw [Nat.add_mul, Nat.one_mul, ← hp] at h3
    omega
  have ht : x * 2 ^ (64 - s) % 18446744073709551616 = x % 2 ^ s * 2 ^ (64 - s) := by rw [hp, Nat.mul_mod_mul_right]
  refine ⟨x / 2 ^ s, x * 2 ^ (64 - s) % 18446744073709551616, m * 2 ^ (64 - s) + x / 2 ^ s, x % 2 ^ s, ?_, ?_, ho, ht, h2, ?_, hz⟩
  · rw [c2, Int.natCast_ediv]
  · rw [c3, ← Int.natCast_mul, wrap_u64', Int.natCast_emod]; rfl
  · rw [Nat.add_mul, Nat.mul_assoc, Nat.mul_comm (2 ^ (64 - s)) (2 ^ s), ← hp, Nat.mul_comm (x / 2 ^ s) (2 ^ s)]
    omega
def DownRel (L os : List Nat) (s k m : Nat) : Prop := os.length = L.length ∧ os.take k = L.take k ∧ m < 2 ^ s ∧ val (os.drop k) * 2 ^ s + m = val (L.drop k)
theorem take_at {L os : List Nat} {j x : Nat} (h : os.take (j + 1) = L.take (j + 1)) (hj : j < L.length) (hx : L[j] = x) (h0 : j < os.length) : os[j] = x := by
  have := congrArg (fun l => l[j]?) h
  simp only [List.getElem?_take, Nat.lt_succ_self, if_true] at this
  rw [List.getElem?_eq_getElem h0, List.getElem?_eq_getElem hj, hx] at this
  exact Option.some.inj this
theorem DownRel.step {L os : List Nat} {s j m x z o : Nat} (h : DownRel L os s (j + 1) m) (hj : j < L.length) (hx : L[j] = x) (ho : o < 2 ^ s) (hz : z * 2 ^ s + o = x + 18446744073709551616 * m) : DownRel L (os.set j z) s j o := by
  obtain ⟨h1, h2, h3, h4⟩ := h
  have hjo : j < os.length := by omega
  refine ⟨by simpa using h1, ?_, ho, ?_⟩
  · rw [List.take_set_of_le (Nat.le_refl _)]
    have := congrArg (List.take j) h2
    rw [List.take_take, List.take_take, Nat.min_eq_left (by omega)] at this
    exact this
  · rw [val_drop _ j (by simpa using hjo), val_drop L j hj, List.getElem_set_self, List.drop_set_of_lt (by omega), hx, ← h4, Nat.add_mul, Nat.mul_assoc]
    generalize val (os.drop (j + 1)) * 2 ^ s = y at *
    generalize z * 2 ^ s = t at *
    omega
def OneRet (q : Nat) (w : World) (e : Ending) (w' : World) : Prop := e = .returned (.int .u64 (q : Int)) ∧ Ext w w'
def guessV (h l t : Nat) : Nat := if t ≤ h then 18446744073709551615 else (h * 18446744073709551616 + l) / t
end Go.Proofs.Ytjmigglibidbdaa
