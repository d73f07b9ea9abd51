/- Part 2 of what these claims stand on: contracts of the program's and the reference's functions, and plain facts. Conditions: each states its own. -/
import Derived.Test.YtlfmeiejocpnfaaPrA1
import Derived.Shelf.Small.Bits
import Derived.Lib.BitFns
import Derived.OwnWalk
import Derived.Lib.QuietBelow
import Derived.KernelRfl
import Derived.Orders
import Derived.Below
import Derived.Test.YtlfmeiejocpnfaaProg
import Derived.WalkSmall
import Derived.Deep.QuietTactic
import Derived.BigQuiet
import Derived.Deep.DeepCutAuto
import Derived.Shelf.Bytes.SlEqualAll
import Derived.Lib.AppendZerosOnto
import Derived.Deep.MidRow
import Derived.SizedLaws
namespace Go.Proofs.Ytlfmeiejocpnfaa
set_option linter.unusedVariables false
set_option linter.unusedSimpArgs false
section
open Go Go.RowKit
def lzRen : Go.Shelf.Ren := ⟨fun | 134 => 74 | 129 => 75 | n => n, fun | 53 => 22 | 3 => 3 | 4 => 4 | 46 => 81 | 5 => 5 | 9 => 9 | n => n, fun | n => n⟩
theorem lzLays : Go.Proofs.Lays.n134 Try.prog lzRen := {
 mixed := by kernel_rfl
 f129 := Try.func75.trans (congrArg some (by kernel_rfl))
 f134 := Try.func74.trans (congrArg some (by kernel_rfl))
 t3 := Try.underlying3
 a3 := Try.isAgg3
 z3 := Try.sizeOf3
 v3 := Try.zeroValue3
 t4 := Try.underlying4
 a4 := Try.isAgg4
 z4 := Try.sizeOf4
 v4 := Try.zeroValue4
 t5 := Try.underlying5
 a5 := Try.isAgg5
 z5 := Try.sizeOf5
 v5 := Try.zeroValue5
 t9 := Try.underlying9
 a9 := Try.isAgg9
 z9 := Try.sizeOf9
 v9 := Try.zeroValue9
 t46 := Try.underlying81
 a46 := Try.isAgg81
 z46 := Try.sizeOf81
 v46 := Try.zeroValue81
 t53 := Try.underlying22
 a53 := Try.isAgg22
 z53 := Try.sizeOf22
 v53 := Try.zeroValue22 }
theorem bitLen_spec (x : Nat) : x < 2 ^ 64 → Lib.bitLen x ≤ 64 ∧ x < 2 ^ Lib.bitLen x ∧ (x ≠ 0 → 1 ≤ Lib.bitLen x ∧ 2 ^ (Lib.bitLen x - 1) ≤ x) := by
 intro h
 have key : ∀ k x : Nat, x < 2 ^ k → k ≤ 64 → Lib.bitLen x ≤ k ∧ x < 2 ^ Lib.bitLen x ∧ (x ≠ 0 → 1 ≤ Lib.bitLen x ∧ 2 ^ (Lib.bitLen x - 1) ≤ x) := by
   intro k
   induction k with
   | zero => intro x hx _; have : x = 0 := by omega
             subst this; decide
   | succ k ih =>
     intro x hx hk
     by_cases h0 : x = 0
     · subst h0; have e0 : Lib.bitLen 0 = 0 := by decide
       rw [e0]
       exact ⟨by omega, by omega, fun h => absurd rfl h⟩
     · have h64 : x < 2 ^ 64 := Nat.lt_of_lt_of_le hx (Nat.pow_le_pow_right (by omega) hk)
       have e := Lib.bitLen_half x h0 h64
       obtain ⟨i1, i2, i3⟩ := ih (x / 2) (by rw [Nat.pow_succ] at hx; omega) (by omega)
       rw [e]
       refine ⟨by omega, by rw [Nat.add_comm, Nat.pow_succ]; omega, fun _ => ⟨by omega, ?_⟩⟩
       rw [Nat.add_sub_cancel_left]
       by_cases h1 : x / 2 = 0
       · rw [h1]; have : Lib.bitLen 0 = 0 := by decide
         rw [this]; omega
       · obtain ⟨j1, j2⟩ := i3 h1
         obtain ⟨q, hq⟩ : ∃ q, Lib.bitLen (x / 2) = q + 1 := ⟨_, (Nat.sub_add_cancel j1).symm⟩
         rw [hq] at j2 ⊢
         simp only [Nat.add_sub_cancel] at j2
         rw [Nat.pow_succ]; omega
 exact key 64 x h (by omega)
theorem b_lz (x : Nat) (w : World) (hx : x < 18446744073709551616) (h0 : 0 < x) : Calls Try.prog 74 #[.int .u64 (x : Int)] w fun e w' => ∃ s : Nat, e = .returned (.int .i64 (s : Int)) ∧ s < 64 ∧ x * 2 ^ s < 18446744073709551616 ∧ 9223372036854775808 ≤ x * 2 ^ s ∧ w = w' := by
 refine (Go.Proofs.Any.bits_LeadingZeros64 lzLays (x : Int) w (by omega) (by omega)).mono ?_
 rintro e w' ⟨rfl, rfl⟩
 obtain ⟨i1, i2, i3⟩ := bitLen_spec x hx
 obtain ⟨j1, j2⟩ := i3 (by omega)
 have e : (64 : Nat) = Lib.bitLen x + (64 - Lib.bitLen x) := by omega
 refine ⟨64 - Lib.bitLen x, by rw [Int.toNat_natCast]; congr 2; omega, by omega, ?_, ?_, rfl⟩
 · have h1 : x * 2 ^ (64 - Lib.bitLen x) < 2 ^ Lib.bitLen x * 2 ^ (64 - Lib.bitLen x) := Nat.mul_lt_mul_of_pos_right i2 (Nat.two_pow_pos _)
   rw [← Nat.pow_add, ← e] at h1
   exact h1
 · have h1 : 2 ^ (Lib.bitLen x - 1) * 2 ^ (64 - Lib.bitLen x) ≤ x * 2 ^ (64 - Lib.bitLen x) := Nat.mul_le_mul_right _ j2
   rw [← Nat.pow_add, show Lib.bitLen x - 1 + (64 - Lib.bitLen x) = 63 by omega] at h1
   exact h1
open Go Go.RowKit
theorem wM (x y : Nat) : ∃ m : Nat, IntKind.u64.wrap ((x : Int) * (y : Int)) = (m : Int) ∧ Hid (m = x * y % 18446744073709551616) :=
 ⟨x * y % 18446744073709551616, by rw [wrap_u64', Int.natCast_emod, Int.natCast_mul]; rfl, rfl⟩
theorem wMl (x : Nat) : ∃ m : Nat, IntKind.u64.wrap ((x : Int) * 4294967296) = (m : Int) ∧ Hid (m = x * 4294967296 % 18446744073709551616) :=
 ⟨x * 4294967296 % 18446744073709551616, by rw [wrap_u64', Int.natCast_emod, Int.natCast_mul]; rfl, rfl⟩
theorem wlM (x : Nat) : ∃ m : Nat, IntKind.u64.wrap (4294967296 * (x : Int)) = (m : Int) ∧ Hid (m = x * 4294967296 % 18446744073709551616) := by
 obtain ⟨m, h1, h2⟩ := wMl x
 exact ⟨m, by rw [Int.mul_comm]; exact h1, h2⟩
theorem wA (x y : Nat) : ∃ m : Nat, IntKind.u64.wrap ((x : Int) + (y : Int)) = (m : Int) ∧ Hid (m = (x + y) % 18446744073709551616) :=
 ⟨(x + y) % 18446744073709551616, by rw [wrap_u64']; omega, rfl⟩
theorem wS (x y : Nat) (hy : y ≤ 18446744073709551616) : ∃ m : Nat, IntKind.u64.wrap ((x : Int) - (y : Int)) = (m : Int) ∧ Hid (m = (x + 18446744073709551616 - y) % 18446744073709551616) :=
 ⟨(x + 18446744073709551616 - y) % 18446744073709551616, by rw [wrap_u64']; omega, rfl⟩
theorem wS1 (x : Nat) : ∃ m : Nat, IntKind.u64.wrap ((x : Int) - 1) = (m : Int) ∧ Hid (m = (x + 18446744073709551615) % 18446744073709551616) :=
 ⟨(x + 18446744073709551615) % 18446744073709551616, by rw [wrap_u64']; omega, rfl⟩
theorem wD (x y : Nat) : ∃ m : Nat, (x : Int).tdiv (y : Int) = (m : Int) ∧ (x : Int) / (y : Int) = (m : Int) ∧ Hid (m = x / y) :=
 ⟨x / y, (Int.ofNat_tdiv x y).symm, (Int.natCast_ediv x y).symm, rfl⟩
theorem wI (x : Nat) (h : x < 18446744073709551616) : IntKind.u64.wrap (x : Int) = (x : Int) := by rw [wrap_u64']; omega
theorem or_sum (x y s : Nat) (hs : s ≤ 64) (hy : y < 2 ^ s) (hx : x * 2 ^ s < 18446744073709551616) : bits .or .u64 ((x * 2 ^ s : Nat) : Int) (y : Int) = ((x * 2 ^ s + y : Nat) : Int) := by
 have h64 : (2 : Nat) ^ s ≤ 18446744073709551616 := Nat.le_trans (Nat.pow_le_pow_right (by omega) hs) (by decide)
 have e1 : (BitVec.ofInt 64 ((x * 2 ^ s : Nat) : Int)).toNat = x * 2 ^ s := by
   rw [BitVec.ofInt_natCast, BitVec.toNat_ofNat]; exact Nat.mod_eq_of_lt hx
 have e2 : (BitVec.ofInt 64 (y : Int)).toNat = y := by
   rw [BitVec.ofInt_natCast, BitVec.toNat_ofNat]; exact Nat.mod_eq_of_lt (by omega)
 have e3 : x * 2 ^ s ||| y = x * 2 ^ s + y := by
   rw [Nat.mul_comm x, Nat.two_pow_add_eq_or_of_lt hy]
 show IntKind.u64.wrap ((BitVec.ofInt 64 ((x * 2 ^ s : Nat) : Int) ||| BitVec.ofInt 64 (y : Int)).toNat : Int) = _
 rw [BitVec.toNat_or, e1, e2, e3, wrap_u64']
 have h5 : x * 2 ^ s + y < 18446744073709551616 := by
   by_cases h : s = 64
   · subst h
     have h0 : x = 0 := by
       rcases Nat.eq_zero_or_pos x with h | h
       · exact h
       · exfalso
         have : 1 * 2 ^ 64 ≤ x * 2 ^ 64 := Nat.mul_le_mul_right _ h
         omega
     subst h0; simp; exact hy
   · have h6 : x * 2 ^ s + 2 ^ s ≤ 18446744073709551616 := by
       have h7 : (18446744073709551616 : Nat) = 2 ^ (64 - s) * 2 ^ s := by rw [← Nat.pow_add, Nat.sub_add_cancel hs]
       rw [h7] at hx ⊢
       have h8 := Nat.lt_of_mul_lt_mul_right hx
       have h9 : (x + 1) * 2 ^ s ≤ 2 ^ (64 - s) * 2 ^ s := Nat.mul_le_mul_right _ h8
       rw [Nat.add_mul, Nat.one_mul] at h9
       exact h9
     omega
 omega
theorem div_head (hi lo y s : Nat) (h1 : hi < y) (_h2 : y < 18446744073709551616) (h3 : lo < 18446744073709551616) (hs : s < 64) (k2 : y * 2 ^ s < 18446744073709551616) (k3 : 9223372036854775808 ≤ y * 2 ^ s) :
   ∃ v n1 n0 hs' lt u32 u10 u1 u0 : Nat, IntKind.u64.wrap ((y : Int) * 2 ^ s) = (v : Int) ∧ (v : Int) / 4294967296 = (n1 : Int) ∧ bits .and .u64 (v : Int) 4294967295 = (n0 : Int) ∧
     IntKind.u64.wrap ((hi : Int) * 2 ^ s) = (hs' : Int) ∧ (lo : Int) / 2 ^ (64 - s) = (lt : Int) ∧ bits .or .u64 (hs' : Int) (lt : Int) = (u32 : Int) ∧ IntKind.u64.wrap ((lo : Int) * 2 ^ s) = (u10 : Int) ∧ (u10 : Int) / 4294967296 = (u1 : Int) ∧ bits .and .u64 (u10 : Int) 4294967295 = (u0 : Int) ∧
     Hid (v = n1 * 4294967296 + n0 ∧ n0 < 4294967296 ∧ 2147483648 ≤ n1 ∧ n1 < 4294967296 ∧ u10 = u1 * 4294967296 + u0 ∧ u0 < 4294967296 ∧ u1 < 4294967296 ∧ u32 < v ∧ v < 18446744073709551616 ∧ u32 * 18446744073709551616 + u10 = (hi * 18446744073709551616 + lo) * 2 ^ s ∧ v = y * 2 ^ s) := by
 have hp : (18446744073709551616 : Nat) = 2 ^ s * 2 ^ (64 - s) := by rw [← Nat.pow_add, show s + (64 - s) = 64 by omega]
 have c2 : ((2 : Int) ^ s) = ((2 ^ s : Nat) : Int) := by rw [Int.natCast_pow]; rfl
 have c3 : ((2 : Int) ^ (64 - s)) = ((2 ^ (64 - s) : Nat) : Int) := by rw [Int.natCast_pow]; rfl
 have hhi : hi * 2 ^ s < 18446744073709551616 := Nat.lt_of_le_of_lt (Nat.mul_le_mul_right _ (Nat.le_of_lt h1)) k2
 have hlt : lo / 2 ^ (64 - s) < 2 ^ s := by
   rw [Nat.div_lt_iff_lt_mul (Nat.two_pow_pos _), ← hp]; exact h3
 refine ⟨y * 2 ^ s, y * 2 ^ s / 4294967296, y * 2 ^ s % 4294967296, hi * 2 ^ s, lo / 2 ^ (64 - s), hi * 2 ^ s + lo / 2 ^ (64 - s), lo * 2 ^ s % 18446744073709551616, lo * 2 ^ s % 18446744073709551616 / 4294967296, lo * 2 ^ s % 18446744073709551616 % 4294967296, ?_, ?_, ?_, ?_, ?_, ?_, ?_, ?_, ?_, ?_⟩
 · rw [c2, ← Int.natCast_mul, wI _ k2]
 · rw [Int.natCast_ediv]; rfl
 · rw [m32, Int.natCast_emod]; rfl
 · rw [c2, ← Int.natCast_mul, wI _ hhi]
 · rw [c3, Int.natCast_ediv]
 · exact or_sum hi (lo / 2 ^ (64 - s)) s (by omega) hlt hhi
 · rw [c2, ← Int.natCast_mul, wrap_u64', Int.natCast_emod]; rfl
 · rw [Int.natCast_ediv]; rfl
 · rw [m32, Int.natCast_emod]; rfl
 · have e1 : lo * 2 ^ s = lo / 2 ^ (64 - s) * 18446744073709551616 + lo * 2 ^ s % 18446744073709551616 := by
     have e2 : lo * 2 ^ s / 18446744073709551616 = lo / 2 ^ (64 - s) := by
       rw [hp, Nat.mul_comm lo, Nat.mul_div_mul_left _ _ (Nat.two_pow_pos s)]
     have := Nat.div_add_mod (lo * 2 ^ s) 18446744073709551616
     rw [e2] at this; omega
   have e3 : hi * 2 ^ s + 2 ^ s ≤ y * 2 ^ s := by
     have : (hi + 1) * 2 ^ s ≤ y * 2 ^ s := Nat.mul_le_mul_right _ h1
     rw [Nat.add_mul, Nat.one_mul] at this; exact this
   refine ⟨by omega, by omega, by omega, by omega, by omega, by omega, by omega, by omega, k2, ?_, rfl⟩
   rw [Nat.add_mul, Nat.add_mul, Nat.mul_right_comm hi]
   omega
open Go Go.RowKit
def DigRel (u v n1 c q r : Nat) : Prop := u = q * n1 + r ∧ r < 4294967296 ∧ u * 4294967296 + c < (q + 1) * v
theorem dig_iff (u v n1 n0 c q r : Nat) (hv : v = n1 * 4294967296 + n0) (e : u = q * n1 + r) : q * n0 ≤ r * 4294967296 + c ↔ q * v ≤ u * 4294967296 + c := by
 subst hv; subst e
 rw [Nat.mul_add, Nat.add_mul, ← Nat.mul_assoc]
 omega
theorem dig_lt (u v c : Nat) (hu : u < v) (hc : c < 4294967296) : u * 4294967296 + c < 4294967296 * v := by omega
theorem dig_stop (u v n1 n0 c q r : Nat) (hv : v = n1 * 4294967296 + n0) (_hn0 : n0 < 4294967296) (hu : u < v) (hc : c < 4294967296) (h : DigRel u v n1 c q r) (c1 : q * v ≤ u * 4294967296 + c) : q < 4294967296 ∧ q * n0 ≤ r * 4294967296 + c := by
 refine ⟨?_, (dig_iff u v n1 n0 c q r hv h.1).2 c1⟩
 have := dig_lt u v c hu hc
 exact Nat.lt_of_mul_lt_mul_right (Nat.lt_of_le_of_lt c1 this)
theorem dig_noWrap (n0 c q r m1 m2 m3 : Nat) (hn0 : n0 < 4294967296) (hc : c < 4294967296) (hq : q < 4294967296) (hr : r < 4294967296) (h1 : m1 = q * n0 % 18446744073709551616) (h2 : m2 = r * 4294967296 % 18446744073709551616) (h3 : m3 = (m2 + c) % 18446744073709551616) : m1 = q * n0 ∧ m3 = r * 4294967296 + c := by
 have : q * n0 ≤ 4294967295 * 4294967295 := Nat.mul_le_mul (by omega) (by omega)
 omega
theorem bnd_u21 (u v n1 q r : Nat) (hn1 : 2147483648 ≤ n1) (hu : u < v) (hv : v < 18446744073709551616) (e : u = q * n1 + r) : q < 18446744073709551616 := by
 have : q * 1 ≤ q * n1 := Nat.mul_le_mul_left _ (by omega)
 omega
theorem dig_dec (u v n1 n0 c q r : Nat) (hv : v = n1 * 4294967296 + n0) (hn0 : n0 < 4294967296) (hn1 : 0 < n1) (hu : u < v) (hc : c < 4294967296) (h : DigRel u v n1 c q r) (c1 : ¬ q * v ≤ u * 4294967296 + c) (q' r' : Nat) (bn : r + n1 < 18446744073709551616) (bq : q < 18446744073709551616)
   (hq' : q' = (q + 18446744073709551615) % 18446744073709551616) (hr' : r' = (r + n1) % 18446744073709551616) :
   q' < q ∧ (r' < 4294967296 → DigRel u v n1 c q' r') ∧ (4294967296 ≤ r' → q' * v ≤ u * 4294967296 + c ∧ u * 4294967296 + c < (q' + 1) * v ∧ q' < 4294967296) := by
 have hq0 : 0 < q := by
   rcases Nat.eq_zero_or_pos q with h0 | h0
   · subst h0; simp at c1
   · exact h0
 have e1 : q = q' + 1 := by omega
 have e2 : r' = r + n1 := by omega
 obtain ⟨h1, h2, h3⟩ := h
 have e3 : u = q' * n1 + r' := by rw [h1, e1, e2, Nat.add_mul]; omega
 have e4 : u * 4294967296 + c < (q' + 1) * v := by rw [← e1]; omega
 refine ⟨by omega, fun h => ⟨e3, h, e4⟩, fun h => ?_⟩
 have h5 : q' < 4294967296 := by
   have h6 : q' * n1 < 4294967296 * n1 := by omega
   exact Nat.lt_of_mul_lt_mul_right h6
 refine ⟨(dig_iff u v n1 n0 c q' r' hv e3).1 ?_, e4, h5⟩
 have : q' * n0 ≤ 4294967295 * 4294967295 := Nat.mul_le_mul (by omega) (by omega)
 omega
theorem dig_init (u v n1 n0 c g a r0 : Nat) (hv : v = n1 * 4294967296 + n0) (_hn0 : n0 < 4294967296) (hn1 : 0 < n1 ∧ n1 < 4294967296) (hu : u < v) (hv2 : v < 18446744073709551616) (hc : c < 4294967296) (hg : g = u / n1) (ha : a = g * n1 % 18446744073709551616) (hr : r0 = (u + 18446744073709551616 - a) % 18446744073709551616) : DigRel u v n1 c g r0 := by
 have h1 := Nat.div_add_mod u n1
 have h2 := Nat.mod_lt u hn1.1
 rw [← hg, Nat.mul_comm] at h1
 have h3 : (g + 1) * v = (g * n1 + n1) * 4294967296 + (g + 1) * n0 := by subst hv; rw [Nat.mul_add, ← Nat.mul_assoc, Nat.add_mul, Nat.one_mul]
 refine ⟨by omega, by omega, ?_⟩
 rw [h3]; omega
theorem dig_rest (u v c q a1 a2 a3 x : Nat) {n1 n0 u10 u0 X y s : Nat} (hv : v = n1 * 4294967296 + n0 ∧ n0 < 4294967296 ∧ 2147483648 ≤ n1 ∧ n1 < 4294967296 ∧ u10 = c * 4294967296 + u0 ∧ u0 < 4294967296 ∧ c < 4294967296 ∧ u < v ∧ v < 18446744073709551616 ∧ u * 18446744073709551616 + u10 = X * 2 ^ s ∧ v = y * 2 ^ s)
   (hq : q * v ≤ u * 4294967296 + c ∧ u * 4294967296 + c < (q + 1) * v ∧ q < 4294967296) (h1 : a1 = u * 4294967296 % 18446744073709551616) (h2 : a2 = (a1 + c) % 18446744073709551616) (h3 : a3 = q * v % 18446744073709551616) (h4 : x = (a2 + 18446744073709551616 - a3) % 18446744073709551616) :
   u * 4294967296 + c = q * v + x ∧ x < v := by
 obtain ⟨_, _, _, _, _, _, hc, hu, hb, _, _⟩ := hv
 obtain ⟨k1, k2, k3⟩ := hq
 rw [Nat.add_mul, Nat.one_mul] at k2
 generalize q * v = t at *
 omega
theorem fin_b (v u p c b3 b4 b5 b6 : Nat) (hv : v < 18446744073709551616) (hu : u < v) (hc : c < 4294967296) (p1 : p * v ≤ u * 4294967296 + c) (p2 : u * 4294967296 + c < (p + 1) * v) (h3 : b3 = u * 4294967296 % 18446744073709551616) (h4 : b4 = (b3 + c) % 18446744073709551616) (h5 : b5 = p * v % 18446744073709551616) (h6 : b6 = (b4 + 18446744073709551616 - b5) % 18446744073709551616) :
   u * 4294967296 + c = p * v + b6 ∧ b6 < v := by
 rw [Nat.add_mul, Nat.one_mul] at p2
 generalize p * v = t at *
 omega
theorem fin_q (q p b1 b2 : Nat) (hq : q < 4294967296) (hp : p < 4294967296) (h1 : b1 = q * 4294967296 % 18446744073709551616) (h2 : b2 = (b1 + p) % 18446744073709551616) : b2 = q * 4294967296 + p := by omega
theorem fin_x {v u32 u1 u0 u21 q p b6 : Nat} (h1 : u32 * 4294967296 + u1 = q * v + u21) (h2 : u21 * 4294967296 + u0 = p * v + b6) : u32 * 18446744073709551616 + (u1 * 4294967296 + u0) = q * v * 4294967296 + p * v + b6 := by
 have h3 : u32 * 18446744073709551616 + u1 * 4294967296 = q * v * 4294967296 + u21 * 4294967296 := by
   have h4 := congrArg (· * 4294967296) h1
   simp only [Nat.add_mul] at h4
   rw [Nat.mul_assoc u32] at h4
   exact h4
 rw [← Nat.add_assoc, h3, Nat.add_assoc, h2, Nat.add_assoc]
theorem div_fin (hi lo y s v u32 u10 u1 u0 n1 n0 q p u21 b1 b2 b3 b4 b5 b6 : Nat) (hv : v = n1 * 4294967296 + n0 ∧ n0 < 4294967296 ∧ 2147483648 ≤ n1 ∧ n1 < 4294967296 ∧ u10 = u1 * 4294967296 + u0 ∧ u0 < 4294967296 ∧ u1 < 4294967296 ∧ u32 < v ∧ v < 18446744073709551616 ∧ u32 * 18446744073709551616 + u10 = (hi * 18446744073709551616 + lo) * 2 ^ s ∧ v = y * 2 ^ s)
   (hq : q * v ≤ u32 * 4294967296 + u1 ∧ u32 * 4294967296 + u1 < (q + 1) * v ∧ q < 4294967296) (hu : u32 * 4294967296 + u1 = q * v + u21 ∧ u21 < v) (hp : p * v ≤ u21 * 4294967296 + u0 ∧ u21 * 4294967296 + u0 < (p + 1) * v ∧ p < 4294967296) (_h1 : hi < y)
   (h1 : b1 = q * 4294967296 % 18446744073709551616) (h2 : b2 = (b1 + p) % 18446744073709551616) (h3 : b3 = u21 * 4294967296 % 18446744073709551616) (h4 : b4 = (b3 + u0) % 18446744073709551616) (h5 : b5 = p * v % 18446744073709551616) (h6 : b6 = (b4 + 18446744073709551616 - b5) % 18446744073709551616) :
   (hi * 18446744073709551616 + lo) / y = b2 ∧ (hi * 18446744073709551616 + lo) % y = b6 / 2 ^ s := by
 obtain ⟨_, _, _, _, e10, hc0, _, _, hvb, eX, ev⟩ := hv
 obtain ⟨p1, p2, p3⟩ := hp
 have eb := fin_b v u21 p u0 b3 b4 b5 b6 hvb hu.2 hc0 p1 p2 h3 h4 h5 h6
 have e2 := fin_q q p b1 b2 hq.2.2 p3 h1 h2
 have eT : (hi * 18446744073709551616 + lo) * 2 ^ s = b2 * v + b6 := by
   rw [← eX, e10, e2, Nat.add_mul, Nat.mul_right_comm q]
   exact fin_x hu.1 eb.1
 have hy : 0 < y := by omega
 have ps := Nat.two_pow_pos s
 rw [ev, ← Nat.mul_assoc] at eT
 have hb6 : b6 / 2 ^ s * 2 ^ s = b6 := by
   have hd : 2 ^ s ∣ b6 := by
     have h7 : 2 ^ s ∣ b2 * y * 2 ^ s + b6 := by rw [← eT]; exact Nat.dvd_mul_left _ _
     exact (Nat.dvd_add_right (Nat.dvd_mul_left _ _)).1 h7
   exact Nat.div_mul_cancel hd
 have hX : hi * 18446744073709551616 + lo = b2 * y + b6 / 2 ^ s := by
   have h8 : (hi * 18446744073709551616 + lo) * 2 ^ s = (b2 * y + b6 / 2 ^ s) * 2 ^ s := by rw [Nat.add_mul (b2 * y), hb6]; exact eT
   exact Nat.eq_of_mul_eq_mul_right ps h8
 have hlt : b6 / 2 ^ s < y := by
   rw [Nat.div_lt_iff_lt_mul ps, ← ev]; exact eb.2
 rw [hX]
 constructor
 · rw [Nat.mul_comm, Nat.mul_add_div hy, Nat.div_eq_of_lt hlt, Nat.add_zero]
 · rw [Nat.mul_comm, Nat.mul_add_mod, Nat.mod_eq_of_lt hlt]
theorem sh2 (b s : Nat) : (b : Int) / 2 ^ s = ((b / 2 ^ s : Nat) : Int) := by
 rw [Int.natCast_ediv, Int.natCast_pow]; rfl
set_option maxRecDepth 100000 in
set_option maxHeartbeats 2000000 in
theorem b_div64_big (hi lo y : Nat) (w : World) (h1 : hi < y) (h2 : y < 18446744073709551616) (h3 : lo < 18446744073709551616) (h0 : 0 < hi) :
   Calls Try.prog 63 #[.int .u64 (hi : Int), .int .u64 (lo : Int), .int .u64 (y : Int)] w fun e w' => e = .returned (.tuple #[.int .u64 (((hi * 18446744073709551616 + lo) / y : Nat) : Int), .int .u64 (((hi * 18446744073709551616 + lo) % y : Nat) : Int)]) ∧ w = w' := by
 have e1 : ((y : Int) == 0) = false := by simp; omega
 have e2 : ((hi : Int) == 0) = false := by simp; omega
 have e3 : ¬ ((y : Int) ≤ (hi : Int)) := by omega
 have e4 : ¬ (y ≤ hi) := by omega
 obtain ⟨dq, hdq⟩ : ∃ dq, (hi * 18446744073709551616 + lo) / y = dq := ⟨_, rfl⟩
 obtain ⟨dr, hdr⟩ : ∃ dr, (hi * 18446744073709551616 + lo) % y = dr := ⟨_, rfl⟩
 rw [hdq, hdr]
 have HDQ := hide hdq
 have HDR := hide hdr
 clear hdq hdr
 go_enter Try.func63, Try.ntmps63
 go_wp2_with (go_at_call 74; refine (b_lz y _ h2 (by omega)).mono ?_; rintro e w' ⟨s, rfl, k1, k2, k3, rfl⟩; obtain ⟨v, n1, n0, hs', lt, u32, u10, u1, u0, f1, f2, f3, f4, f5, f6, f7, f8, f9, HV⟩ := div_head hi lo y s h1 h2 h3 k1 k2 k3; clear k2 k3; have HN : Hid (0 < n1 ∧ n1 < 4294967296) := (by have := HV.out; exact ⟨by omega, by omega⟩); have hn1 : ¬ ((n1 : Int) = 0) := (by have := HN.out; omega); have hn2 : ¬ (n1 = 0) := (by have := HN.out; omega); obtain ⟨g1, t11, t12, GG⟩ := wD u32 n1; have t13 := wI g1 (by have := GG.out; have := HV.out; have : u32 / n1 ≤ u32 := Nat.div_le_self _ _; omega); obtain ⟨a0, w01, A01⟩ := wM g1 n1; obtain ⟨r1, w02, A02⟩ := wS u32 a0 (by have := A01.out; omega); have HI1 := hide (dig_init u32 v n1 n0 u1 g1 a0 r1 HV.out.1 HV.out.2.1 HN.out HV.out.2.2.2.2.2.2.2.1 HV.out.2.2.2.2.2.2.2.2.1 HV.out.2.2.2.2.2.2.1 GG.out A01.out A02.out))
 go_loop [15, 16] (fun x1 x2 => ∃ (q r : Nat), x1 = .int .u64 q ∧ x2 = .int .u64 r ∧ Hid (DigRel u32 v n1 u1 q r)) (fun x1 _ => (intOf x1).toNat)
 case atStart => exact ⟨g1, r1, rfl, rfl, HI1.out⟩
 case round =>
   obtain ⟨q, r, rfl, rfl, HR⟩ := hrel
   by_cases c1 : q * v ≤ u32 * 4294967296 + u1
   · have hstop := dig_stop u32 v n1 n0 u1 q r HV.out.1 HV.out.2.1 HV.out.2.2.2.2.2.2.2.1 HV.out.2.2.2.2.2.2.1 HR.out c1
     obtain ⟨m1, x1, X1⟩ := wM q n0
     obtain ⟨m2, x2, X2⟩ := wlM r
     obtain ⟨m3, x3, X3⟩ := wA m2 u1
     have hq : ¬ ((4294967296 : Int) ≤ (q : Int)) := by have := hstop.1; omega
     have hm : ¬ ((m3 : Int) < (m1 : Int)) := by have := dig_noWrap n0 u1 q r m1 m2 m3 HV.out.2.1 HV.out.2.2.2.2.2.2.1 hstop.1 HR.out.2.1 X1.out X2.out X3.out; have h3 := hstop.2; omega
     have HQ : Hid (q * v ≤ u32 * 4294967296 + u1 ∧ u32 * 4294967296 + u1 < (q + 1) * v ∧ q < 4294967296) := ⟨c1, HR.out.2.2, hstop.1⟩
     clear hstop c1
     obtain ⟨a1, w1, A1⟩ := wMl u32
     obtain ⟨a2, w2, A2⟩ := wA a1 u1
     obtain ⟨a3, w3, A3⟩ := wM q v
     obtain ⟨u21, w4, A4⟩ := wS a2 a3 (by have := A3.out; omega)
     have HU := hide (dig_rest u32 v u1 q a1 a2 a3 u21 HV.out HQ.out A1.out A2.out A3.out A4.out)
     obtain ⟨g, t1, t2, G1⟩ := wD u21 n1
     have t3 := wI g (by have := G1.out; have := HU.out; have := HV.out; have : u21 / n1 ≤ u21 := Nat.div_le_self _ _; omega)
     obtain ⟨a4, w6, A5⟩ := wM g n1
     obtain ⟨r0, w7, A6⟩ := wS u21 a4 (by have := A5.out; omega)
     have HI := hide (dig_init u21 v n1 n0 u0 g a4 r0 HV.out.1 HV.out.2.1 HN.out HU.out.2 HV.out.2.2.2.2.2.2.2.2.1 HV.out.2.2.2.2.2.1 G1.out A5.out A6.out)
     go_wp2_with fail
     go_loop [18, 16] (fun x1 x2 => ∃ (p r2 : Nat), x1 = .int .u64 p ∧ x2 = .int .u64 r2 ∧ Hid (DigRel u21 v n1 u0 p r2)) (fun x1 _ => (intOf x1).toNat)
     case atStart => exact ⟨g, r0, rfl, rfl, HI.out⟩
     case round =>
       obtain ⟨p, r2, rfl, rfl, HR⟩ := hrel
       by_cases c1 : p * v ≤ u21 * 4294967296 + u0
       · have hstop := dig_stop u21 v n1 n0 u0 p r2 HV.out.1 HV.out.2.1 HU.out.2 HV.out.2.2.2.2.2.1 HR.out c1
         obtain ⟨m1, x1, X1⟩ := wM p n0
         obtain ⟨m2, x2, X2⟩ := wlM r2
         obtain ⟨m3, x3, X3⟩ := wA m2 u0
         have hq : ¬ ((4294967296 : Int) ≤ (p : Int)) := by have := hstop.1; omega
         have hm : ¬ ((m3 : Int) < (m1 : Int)) := by have := dig_noWrap n0 u0 p r2 m1 m2 m3 HV.out.2.1 HV.out.2.2.2.2.2.1 hstop.1 HR.out.2.1 X1.out X2.out X3.out; have h3 := hstop.2; omega
         have HQ0 : Hid (p * v ≤ u21 * 4294967296 + u0 ∧ u21 * 4294967296 + u0 < (p + 1) * v ∧ p < 4294967296) := ⟨c1, HR.out.2.2, hstop.1⟩
         obtain ⟨b1, y1, Y1⟩ := wMl q
         obtain ⟨b2, y2, Y2⟩ := wA b1 p
         obtain ⟨b3, y3, Y3⟩ := wMl u21
         obtain ⟨b4, y4, Y4⟩ := wA b3 u0
         obtain ⟨b5, y5, Y5⟩ := wM p v
         obtain ⟨b6, y6, Y6⟩ := wS b4 b5 (by have := Y5.out; omega)
         have HF := hide (div_fin hi lo y s v u32 u10 u1 u0 n1 n0 q p u21 b1 b2 b3 b4 b5 b6 HV.out HQ.out HU.out HQ0.out h1 Y1.out Y2.out Y3.out Y4.out Y5.out Y6.out)
         clear hstop c1
         go_wp2_with fail
         go_ret2
         exact ⟨rr2 (by rw [← HDQ.out, HF.out.1]) (by rw [← HDR.out, HF.out.2]; exact sh2 b6 s), rfl⟩
       · have hs2 := dig_dec u21 v n1 n0 u0 p r2 HV.out.1 HV.out.2.1 HN.out.1 HU.out.2 HV.out.2.2.2.2.2.1 HR.out c1
         obtain ⟨p', z1, Z1⟩ := wS1 p
         obtain ⟨r2', z2, Z2⟩ := wA r2 n1
         obtain ⟨hp, hd, hb⟩ := hs2 p' r2' (by have := HR.out.2.1; have := HV.out; omega) (bnd_u21 u21 v n1 p r2 HV.out.2.2.1 HU.out.2 HV.out.2.2.2.2.2.2.2.2.1 HR.out.1) Z1.out Z2.out
         have hp := hide hp
         have hd := hide hd
         have hb := hide hb
         by_cases hq : 4294967296 ≤ p
         · have hqI : (4294967296 : Int) ≤ (p : Int) := by omega
           by_cases hr : 4294967296 ≤ r2'
           · have hrI : (4294967296 : Int) ≤ (r2' : Int) := by omega
             have HQ0 : Hid (p' * v ≤ u21 * 4294967296 + u0 ∧ u21 * 4294967296 + u0 < (p' + 1) * v ∧ p' < 4294967296) := hb.out hr
             obtain ⟨b1, y1, Y1⟩ := wMl q
             obtain ⟨b2, y2, Y2⟩ := wA b1 p'
             obtain ⟨b3, y3, Y3⟩ := wMl u21
             obtain ⟨b4, y4, Y4⟩ := wA b3 u0
             obtain ⟨b5, y5, Y5⟩ := wM p' v
             obtain ⟨b6, y6, Y6⟩ := wS b4 b5 (by have := Y5.out; omega)
             have HF := hide (div_fin hi lo y s v u32 u10 u1 u0 n1 n0 q p' u21 b1 b2 b3 b4 b5 b6 HV.out HQ.out HU.out HQ0.out h1 Y1.out Y2.out Y3.out Y4.out Y5.out Y6.out)
             clear c1 hq hr hs2
             go_wp2_with fail
             go_ret2
             exact ⟨rr2 (by rw [← HDQ.out, HF.out.1]) (by rw [← HDR.out, HF.out.2]; exact sh2 b6 s), rfl⟩
           · have hrI : ¬ ((4294967296 : Int) ≤ (r2' : Int)) := by omega
             have HD := hide (hd.out (by omega))
             have hlt : p' < p := hp.out
             clear c1 hq hr hs2
             go_wp2_with fail
             exact ⟨⟨p', r2', rfl, rfl, HD.out⟩, by simp [intOf]; omega⟩
         · obtain ⟨m1, x1, X1⟩ := wM p n0
           obtain ⟨m2, x2, X2⟩ := wlM r2
           obtain ⟨m3, x3, X3⟩ := wA m2 u0
           have hqI : ¬ ((4294967296 : Int) ≤ (p : Int)) := by omega
           have hm : ((m3 : Int) < (m1 : Int)) := by
             have h4 := dig_noWrap n0 u0 p r2 m1 m2 m3 HV.out.2.1 HV.out.2.2.2.2.2.1 (by omega) HR.out.2.1 X1.out X2.out X3.out
             have h5 := dig_iff u21 v n1 n0 u0 p r2 HV.out.1 HR.out.1
             omega
           by_cases hr : 4294967296 ≤ r2'
           · have hrI : (4294967296 : Int) ≤ (r2' : Int) := by omega
             have HQ0 : Hid (p' * v ≤ u21 * 4294967296 + u0 ∧ u21 * 4294967296 + u0 < (p' + 1) * v ∧ p' < 4294967296) := hb.out hr
             obtain ⟨b1, y1, Y1⟩ := wMl q
             obtain ⟨b2, y2, Y2⟩ := wA b1 p'
             obtain ⟨b3, y3, Y3⟩ := wMl u21
             obtain ⟨b4, y4, Y4⟩ := wA b3 u0
             obtain ⟨b5, y5, Y5⟩ := wM p' v
             obtain ⟨b6, y6, Y6⟩ := wS b4 b5 (by have := Y5.out; omega)
             have HF := hide (div_fin hi lo y s v u32 u10 u1 u0 n1 n0 q p' u21 b1 b2 b3 b4 b5 b6 HV.out HQ.out HU.out HQ0.out h1 Y1.out Y2.out Y3.out Y4.out Y5.out Y6.out)
             clear c1 hq hr hs2
             go_wp2_with fail
             go_ret2
             exact ⟨rr2 (by rw [← HDQ.out, HF.out.1]) (by rw [← HDR.out, HF.out.2]; exact sh2 b6 s), rfl⟩
           · have hrI : ¬ ((4294967296 : Int) ≤ (r2' : Int)) := by omega
             have HD := hide (hd.out (by omega))
             have hlt : p' < p := hp.out
             clear c1 hq hr hs2
             go_wp2_with fail
             exact ⟨⟨p', r2', rfl, rfl, HD.out⟩, by simp [intOf]; omega⟩
   · have hs2 := dig_dec u32 v n1 n0 u1 q r HV.out.1 HV.out.2.1 HN.out.1 HV.out.2.2.2.2.2.2.2.1 HV.out.2.2.2.2.2.2.1 HR.out c1
     obtain ⟨q', z1, Z1⟩ := wS1 q
     obtain ⟨r', z2, Z2⟩ := wA r n1
     obtain ⟨hp, hd, hb⟩ := hs2 q' r' (by have := HR.out.2.1; have := HV.out; omega) (bnd_u21 u32 v n1 q r HV.out.2.2.1 HV.out.2.2.2.2.2.2.2.1 HV.out.2.2.2.2.2.2.2.2.1 HR.out.1) Z1.out Z2.out
     have hp := hide hp
     have hd := hide hd
     have hb := hide hb
     by_cases hq : 4294967296 ≤ q
     · have hqI : (4294967296 : Int) ≤ (q : Int) := by omega
       by_cases hr : 4294967296 ≤ r'
       · have hrI : (4294967296 : Int) ≤ (r' : Int) := by omega
         have HQ : Hid (q' * v ≤ u32 * 4294967296 + u1 ∧ u32 * 4294967296 + u1 < (q' + 1) * v ∧ q' < 4294967296) := hb.out hr
         clear c1 hq hr hs2
         obtain ⟨a1, w1, A1⟩ := wMl u32
         obtain ⟨a2, w2, A2⟩ := wA a1 u1
         obtain ⟨a3, w3, A3⟩ := wM q' v
         obtain ⟨u21, w4, A4⟩ := wS a2 a3 (by have := A3.out; omega)
         have HU := hide (dig_rest u32 v u1 q' a1 a2 a3 u21 HV.out HQ.out A1.out A2.out A3.out A4.out)
         obtain ⟨g, t1, t2, G1⟩ := wD u21 n1
         have t3 := wI g (by have := G1.out; have := HU.out; have := HV.out; have : u21 / n1 ≤ u21 := Nat.div_le_self _ _; omega)
         obtain ⟨a4, w6, A5⟩ := wM g n1
         obtain ⟨r0, w7, A6⟩ := wS u21 a4 (by have := A5.out; omega)
         have HI := hide (dig_init u21 v n1 n0 u0 g a4 r0 HV.out.1 HV.out.2.1 HN.out HU.out.2 HV.out.2.2.2.2.2.2.2.2.1 HV.out.2.2.2.2.2.1 G1.out A5.out A6.out)
         go_wp2_with fail
         go_loop [18, 16] (fun x1 x2 => ∃ (p r2 : Nat), x1 = .int .u64 p ∧ x2 = .int .u64 r2 ∧ Hid (DigRel u21 v n1 u0 p r2)) (fun x1 _ => (intOf x1).toNat)
         case atStart => exact ⟨g, r0, rfl, rfl, HI.out⟩
         case round =>
           obtain ⟨p, r2, rfl, rfl, HR⟩ := hrel
           by_cases c1 : p * v ≤ u21 * 4294967296 + u0
           · have hstop := dig_stop u21 v n1 n0 u0 p r2 HV.out.1 HV.out.2.1 HU.out.2 HV.out.2.2.2.2.2.1 HR.out c1
             obtain ⟨m1, x1, X1⟩ := wM p n0
             obtain ⟨m2, x2, X2⟩ := wlM r2
             obtain ⟨m3, x3, X3⟩ := wA m2 u0
             have hq : ¬ ((4294967296 : Int) ≤ (p : Int)) := by have := hstop.1; omega
             have hm : ¬ ((m3 : Int) < (m1 : Int)) := by have := dig_noWrap n0 u0 p r2 m1 m2 m3 HV.out.2.1 HV.out.2.2.2.2.2.1 hstop.1 HR.out.2.1 X1.out X2.out X3.out; have h3 := hstop.2; omega
             have HQ0 : Hid (p * v ≤ u21 * 4294967296 + u0 ∧ u21 * 4294967296 + u0 < (p + 1) * v ∧ p < 4294967296) := ⟨c1, HR.out.2.2, hstop.1⟩
             obtain ⟨b1, y1, Y1⟩ := wMl q'
             obtain ⟨b2, y2, Y2⟩ := wA b1 p
             obtain ⟨b3, y3, Y3⟩ := wMl u21
             obtain ⟨b4, y4, Y4⟩ := wA b3 u0
             obtain ⟨b5, y5, Y5⟩ := wM p v
             obtain ⟨b6, y6, Y6⟩ := wS b4 b5 (by have := Y5.out; omega)
             have HF := hide (div_fin hi lo y s v u32 u10 u1 u0 n1 n0 q' p u21 b1 b2 b3 b4 b5 b6 HV.out HQ.out HU.out HQ0.out h1 Y1.out Y2.out Y3.out Y4.out Y5.out Y6.out)
             clear hstop c1
             go_wp2_with fail
             go_ret2
             exact ⟨rr2 (by rw [← HDQ.out, HF.out.1]) (by rw [← HDR.out, HF.out.2]; exact sh2 b6 s), rfl⟩
           · have hs2 := dig_dec u21 v n1 n0 u0 p r2 HV.out.1 HV.out.2.1 HN.out.1 HU.out.2 HV.out.2.2.2.2.2.1 HR.out c1
             obtain ⟨p', z1, Z1⟩ := wS1 p
             obtain ⟨r2', z2, Z2⟩ := wA r2 n1
             obtain ⟨hp, hd, hb⟩ := hs2 p' r2' (by have := HR.out.2.1; have := HV.out; omega) (bnd_u21 u21 v n1 p r2 HV.out.2.2.1 HU.out.2 HV.out.2.2.2.2.2.2.2.2.1 HR.out.1) Z1.out Z2.out
             have hp := hide hp
             have hd := hide hd
             have hb := hide hb
             by_cases hq : 4294967296 ≤ p
             · have hqI : (4294967296 : Int) ≤ (p : Int) := by omega
               by_cases hr : 4294967296 ≤ r2'
               · have hrI : (4294967296 : Int) ≤ (r2' : Int) := by omega
                 have HQ0 : Hid (p' * v ≤ u21 * 4294967296 + u0 ∧ u21 * 4294967296 + u0 < (p' + 1) * v ∧ p' < 4294967296) := hb.out hr
                 obtain ⟨b1, y1, Y1⟩ := wMl q'
                 obtain ⟨b2, y2, Y2⟩ := wA b1 p'
                 obtain ⟨b3, y3, Y3⟩ := wMl u21
                 obtain ⟨b4, y4, Y4⟩ := wA b3 u0
                 obtain ⟨b5, y5, Y5⟩ := wM p' v
                 obtain ⟨b6, y6, Y6⟩ := wS b4 b5 (by have := Y5.out; omega)
                 have HF := hide (div_fin hi lo y s v u32 u10 u1 u0 n1 n0 q' p' u21 b1 b2 b3 b4 b5 b6 HV.out HQ.out HU.out HQ0.out h1 Y1.out Y2.out Y3.out Y4.out Y5.out Y6.out)
                 clear c1 hq hr hs2
                 go_wp2_with fail
                 go_ret2
                 exact ⟨rr2 (by rw [← HDQ.out, HF.out.1]) (by rw [← HDR.out, HF.out.2]; exact sh2 b6 s), rfl⟩
               · have hrI : ¬ ((4294967296 : Int) ≤ (r2' : Int)) := by omega
                 have HD := hide (hd.out (by omega))
                 have hlt : p' < p := hp.out
                 clear c1 hq hr hs2
                 go_wp2_with fail
                 exact ⟨⟨p', r2', rfl, rfl, HD.out⟩, by simp [intOf]; omega⟩
             · obtain ⟨m1, x1, X1⟩ := wM p n0
               obtain ⟨m2, x2, X2⟩ := wlM r2
               obtain ⟨m3, x3, X3⟩ := wA m2 u0
               have hqI : ¬ ((4294967296 : Int) ≤ (p : Int)) := by omega
               have hm : ((m3 : Int) < (m1 : Int)) := by
                 have h4 := dig_noWrap n0 u0 p r2 m1 m2 m3 HV.out.2.1 HV.out.2.2.2.2.2.1 (by omega) HR.out.2.1 X1.out X2.out X3.out
                 have h5 := dig_iff u21 v n1 n0 u0 p r2 HV.out.1 HR.out.1
                 omega
               by_cases hr : 4294967296 ≤ r2'
               · have hrI : (4294967296 : Int) ≤ (r2' : Int) := by omega
                 have HQ0 : Hid (p' * v ≤ u21 * 4294967296 + u0 ∧ u21 * 4294967296 + u0 < (p' + 1) * v ∧ p' < 4294967296) := hb.out hr
                 obtain ⟨b1, y1, Y1⟩ := wMl q'
                 obtain ⟨b2, y2, Y2⟩ := wA b1 p'
                 obtain ⟨b3, y3, Y3⟩ := wMl u21
                 obtain ⟨b4, y4, Y4⟩ := wA b3 u0
                 obtain ⟨b5, y5, Y5⟩ := wM p' v
                 obtain ⟨b6, y6, Y6⟩ := wS b4 b5 (by have := Y5.out; omega)
                 have HF := hide (div_fin hi lo y s v u32 u10 u1 u0 n1 n0 q' p' u21 b1 b2 b3 b4 b5 b6 HV.out HQ.out HU.out HQ0.out h1 Y1.out Y2.out Y3.out Y4.out Y5.out Y6.out)
                 clear c1 hq hr hs2
                 go_wp2_with fail
                 go_ret2
                 exact ⟨rr2 (by rw [← HDQ.out, HF.out.1]) (by rw [← HDR.out, HF.out.2]; exact sh2 b6 s), rfl⟩
               · have hrI : ¬ ((4294967296 : Int) ≤ (r2' : Int)) := by omega
                 have HD := hide (hd.out (by omega))
                 have hlt : p' < p := hp.out
                 clear c1 hq hr hs2
                 go_wp2_with fail
                 exact ⟨⟨p', r2', rfl, rfl, HD.out⟩, by simp [intOf]; omega⟩
       · have hrI : ¬ ((4294967296 : Int) ≤ (r' : Int)) := by omega
         have HD := hide (hd.out (by omega))
         have hlt : q' < q := hp.out
         clear c1 hq hr hs2
         go_wp2_with fail
         exact ⟨⟨q', r', rfl, rfl, HD.out⟩, by simp [intOf]; omega⟩
     · obtain ⟨m1, x1, X1⟩ := wM q n0
       obtain ⟨m2, x2, X2⟩ := wlM r
       obtain ⟨m3, x3, X3⟩ := wA m2 u1
       have hqI : ¬ ((4294967296 : Int) ≤ (q : Int)) := by omega
       have hm : ((m3 : Int) < (m1 : Int)) := by
         have h4 := dig_noWrap n0 u1 q r m1 m2 m3 HV.out.2.1 HV.out.2.2.2.2.2.2.1 (by omega) HR.out.2.1 X1.out X2.out X3.out
         have h5 := dig_iff u32 v n1 n0 u1 q r HV.out.1 HR.out.1
         omega
       by_cases hr : 4294967296 ≤ r'
       · have hrI : (4294967296 : Int) ≤ (r' : Int) := by omega
         have HQ : Hid (q' * v ≤ u32 * 4294967296 + u1 ∧ u32 * 4294967296 + u1 < (q' + 1) * v ∧ q' < 4294967296) := hb.out hr
         clear c1 hq hr hs2
         obtain ⟨a1, w1, A1⟩ := wMl u32
         obtain ⟨a2, w2, A2⟩ := wA a1 u1
         obtain ⟨a3, w3, A3⟩ := wM q' v
         obtain ⟨u21, w4, A4⟩ := wS a2 a3 (by have := A3.out; omega)
         have HU := hide (dig_rest u32 v u1 q' a1 a2 a3 u21 HV.out HQ.out A1.out A2.out A3.out A4.out)
         obtain ⟨g, t1, t2, G1⟩ := wD u21 n1
         have t3 := wI g (by have := G1.out; have := HU.out; have := HV.out; have : u21 / n1 ≤ u21 := Nat.div_le_self _ _; omega)
         obtain ⟨a4, w6, A5⟩ := wM g n1
         obtain ⟨r0, w7, A6⟩ := wS u21 a4 (by have := A5.out; omega)
         have HI := hide (dig_init u21 v n1 n0 u0 g a4 r0 HV.out.1 HV.out.2.1 HN.out HU.out.2 HV.out.2.2.2.2.2.2.2.2.1 HV.out.2.2.2.2.2.1 G1.out A5.out A6.out)
         go_wp2_with fail
         go_loop [18, 16] (fun x1 x2 => ∃ (p r2 : Nat), x1 = .int .u64 p ∧ x2 = .int .u64 r2 ∧ Hid (DigRel u21 v n1 u0 p r2)) (fun x1 _ => (intOf x1).toNat)
         case atStart => exact ⟨g, r0, rfl, rfl, HI.out⟩
         case round =>
           obtain ⟨p, r2, rfl, rfl, HR⟩ := hrel
           by_cases c1 : p * v ≤ u21 * 4294967296 + u0
           · have hstop := dig_stop u21 v n1 n0 u0 p r2 HV.out.1 HV.out.2.1 HU.out.2 HV.out.2.2.2.2.2.1 HR.out c1
             obtain ⟨m1, x1, X1⟩ := wM p n0
             obtain ⟨m2, x2, X2⟩ := wlM r2
             obtain ⟨m3, x3, X3⟩ := wA m2 u0
             have hq : ¬ ((4294967296 : Int) ≤ (p : Int)) := by have := hstop.1; omega
             have hm : ¬ ((m3 : Int) < (m1 : Int)) := by have := dig_noWrap n0 u0 p r2 m1 m2 m3 HV.out.2.1 HV.out.2.2.2.2.2.1 hstop.1 HR.out.2.1 X1.out X2.out X3.out; have h3 := hstop.2; omega
             have HQ0 : Hid (p * v ≤ u21 * 4294967296 + u0 ∧ u21 * 4294967296 + u0 < (p + 1) * v ∧ p < 4294967296) := ⟨c1, HR.out.2.2, hstop.1⟩
             obtain ⟨b1, y1, Y1⟩ := wMl q'
             obtain ⟨b2, y2, Y2⟩ := wA b1 p
             obtain ⟨b3, y3, Y3⟩ := wMl u21
             obtain ⟨b4, y4, Y4⟩ := wA b3 u0
             obtain ⟨b5, y5, Y5⟩ := wM p v
             obtain ⟨b6, y6, Y6⟩ := wS b4 b5 (by have := Y5.out; omega)
             have HF := hide (div_fin hi lo y s v u32 u10 u1 u0 n1 n0 q' p u21 b1 b2 b3 b4 b5 b6 HV.out HQ.out HU.out HQ0.out h1 Y1.out Y2.out Y3.out Y4.out Y5.out Y6.out)
             clear hstop c1
             go_wp2_with fail
             go_ret2
             exact ⟨rr2 (by rw [← HDQ.out, HF.out.1]) (by rw [← HDR.out, HF.out.2]; exact sh2 b6 s), rfl⟩
           · have hs2 := dig_dec u21 v n1 n0 u0 p r2 HV.out.1 HV.out.2.1 HN.out.1 HU.out.2 HV.out.2.2.2.2.2.1 HR.out c1
             obtain ⟨p', z1, Z1⟩ := wS1 p
             obtain ⟨r2', z2, Z2⟩ := wA r2 n1
             obtain ⟨hp, hd, hb⟩ := hs2 p' r2' (by have := HR.out.2.1; have := HV.out; omega) (bnd_u21 u21 v n1 p r2 HV.out.2.2.1 HU.out.2 HV.out.2.2.2.2.2.2.2.2.1 HR.out.1) Z1.out Z2.out
             have hp := hide hp
             have hd := hide hd
             have hb := hide hb
             by_cases hq : 4294967296 ≤ p
             · have hqI : (4294967296 : Int) ≤ (p : Int) := by omega
               by_cases hr : 4294967296 ≤ r2'
               · have hrI : (4294967296 : Int) ≤ (r2' : Int) := by omega
                 have HQ0 : Hid (p' * v ≤ u21 * 4294967296 + u0 ∧ u21 * 4294967296 + u0 < (p' + 1) * v ∧ p' < 4294967296) := hb.out hr
                 obtain ⟨b1, y1, Y1⟩ := wMl q'
                 obtain ⟨b2, y2, Y2⟩ := wA b1 p'
                 obtain ⟨b3, y3, Y3⟩ := wMl u21
                 obtain ⟨b4, y4, Y4⟩ := wA b3 u0
                 obtain ⟨b5, y5, Y5⟩ := wM p' v
                 obtain ⟨b6, y6, Y6⟩ := wS b4 b5 (by have := Y5.out; omega)
                 have HF := hide (div_fin hi lo y s v u32 u10 u1 u0 n1 n0 q' p' u21 b1 b2 b3 b4 b5 b6 HV.out HQ.out HU.out HQ0.out h1 Y1.out Y2.out Y3.out Y4.out Y5.out Y6.out)
                 clear c1 hq hr hs2
                 go_wp2_with fail
                 go_ret2
                 exact ⟨rr2 (by rw [← HDQ.out, HF.out.1]) (by rw [← HDR.out, HF.out.2]; exact sh2 b6 s), rfl⟩
               · have hrI : ¬ ((4294967296 : Int) ≤ (r2' : Int)) := by omega
                 have HD := hide (hd.out (by omega))
                 have hlt : p' < p := hp.out
                 clear c1 hq hr hs2
                 go_wp2_with fail
                 exact ⟨⟨p', r2', rfl, rfl, HD.out⟩, by simp [intOf]; omega⟩
             · obtain ⟨m1, x1, X1⟩ := wM p n0
               obtain ⟨m2, x2, X2⟩ := wlM r2
               obtain ⟨m3, x3, X3⟩ := wA m2 u0
               have hqI : ¬ ((4294967296 : Int) ≤ (p : Int)) := by omega
               have hm : ((m3 : Int) < (m1 : Int)) := by
                 have h4 := dig_noWrap n0 u0 p r2 m1 m2 m3 HV.out.2.1 HV.out.2.2.2.2.2.1 (by omega) HR.out.2.1 X1.out X2.out X3.out
                 have h5 := dig_iff u21 v n1 n0 u0 p r2 HV.out.1 HR.out.1
                 omega
               by_cases hr : 4294967296 ≤ r2'
               · have hrI : (4294967296 : Int) ≤ (r2' : Int) := by omega
                 have HQ0 : Hid (p' * v ≤ u21 * 4294967296 + u0 ∧ u21 * 4294967296 + u0 < (p' + 1) * v ∧ p' < 4294967296) := hb.out hr
                 obtain ⟨b1, y1, Y1⟩ := wMl q'
                 obtain ⟨b2, y2, Y2⟩ := wA b1 p'
                 obtain ⟨b3, y3, Y3⟩ := wMl u21
                 obtain ⟨b4, y4, Y4⟩ := wA b3 u0
                 obtain ⟨b5, y5, Y5⟩ := wM p' v
                 obtain ⟨b6, y6, Y6⟩ := wS b4 b5 (by have := Y5.out; omega)
                 have HF := hide (div_fin hi lo y s v u32 u10 u1 u0 n1 n0 q' p' u21 b1 b2 b3 b4 b5 b6 HV.out HQ.out HU.out HQ0.out h1 Y1.out Y2.out Y3.out Y4.out Y5.out Y6.out)
                 clear c1 hq hr hs2
                 go_wp2_with fail
                 go_ret2
                 exact ⟨rr2 (by rw [← HDQ.out, HF.out.1]) (by rw [← HDR.out, HF.out.2]; exact sh2 b6 s), rfl⟩
               · have hrI : ¬ ((4294967296 : Int) ≤ (r2' : Int)) := by omega
                 have HD := hide (hd.out (by omega))
                 have hlt : p' < p := hp.out
                 clear c1 hq hr hs2
                 go_wp2_with fail
                 exact ⟨⟨p', r2', rfl, rfl, HD.out⟩, by simp [intOf]; omega⟩
       · have hrI : ¬ ((4294967296 : Int) ≤ (r' : Int)) := by omega
         have HD := hide (hd.out (by omega))
         have hlt : q' < q := hp.out
         clear c1 hq hr hs2
         go_wp2_with fail
         exact ⟨⟨q', r', rfl, rfl, HD.out⟩, by simp [intOf]; omega⟩
open Go Go.RowKit
theorem b_div64_small (lo y : Nat) (w : World) (h2 : y < 18446744073709551616) (h3 : lo < 18446744073709551616) (h0 : 0 < y) :
   Calls Try.prog 63 #[.int .u64 0, .int .u64 (lo : Int), .int .u64 (y : Int)] w fun e w' => ∃ n, e = .returned (.tuple #[.int .u64 ((lo / y : Nat) : Int), .int .u64 ((lo % y : Nat) : Int)]) ∧ w' = w.drewN n := by
 have e1 : ((y : Int) == 0) = false := by simp; omega
 have e3 : ¬ ((y : Int) ≤ 0) := by omega
 have e4 : ¬ (y ≤ 0) := by omega
 have e5 : ¬ ((y : Int) = 0) := by omega
 have e6 : ¬ (y = 0) := by omega
 obtain ⟨q, t1, t2, Q⟩ := wD lo y
 obtain ⟨r, hr⟩ : ∃ r, lo % y = r := ⟨_, rfl⟩
 have t4 : (lo : Int).tmod (y : Int) = (r : Int) := by rw [← hr]; exact (Int.ofNat_tmod lo y).symm
 have t5 : (lo : Int) % (y : Int) = (r : Int) := by rw [← hr]; exact (Int.natCast_emod lo y).symm
 have hq : q < 18446744073709551616 := by have := Q.out; have : lo / y ≤ lo := Nat.div_le_self _ _; omega
 have hr2 : r < 18446744073709551616 := by rw [← hr]; have := Nat.mod_lt lo h0; omega
 have t3 := wI q hq
 have t6 := wI r hr2
 have HR := hide hr
 rw [← Q.out, hr]
 clear hr
 go_enter Try.func63, Try.ntmps63
 go_wp2_with fail
 go_quiet (fail)
 go_wp2_with fail
 go_ret2
 exact ⟨_, rfl, rfl⟩
def TwoRet (q r : Nat) (w : World) (e : Ending) (w' : World) : Prop := e = .returned (.tuple #[.int .u64 (q : Int), .int .u64 (r : Int)]) ∧ Ext w w'
theorem b_div64 (hi lo y q r : Nat) (w : World) (h1 : hi < y) (h2 : y < 18446744073709551616) (h3 : lo < 18446744073709551616) (hq : Hid ((hi * 18446744073709551616 + lo) / y = q)) (hr : Hid ((hi * 18446744073709551616 + lo) % y = r)) :
   Calls Try.prog 63 #[.int .u64 (hi : Int), .int .u64 (lo : Int), .int .u64 (y : Int)] w (TwoRet q r w) := by
 by_cases h0 : 0 < hi
 · refine (b_div64_big hi lo y w h1 h2 h3 h0).mono ?_
   rintro e w' ⟨rfl, rfl⟩
   exact ⟨by rw [hq.out, hr.out], Ext.refl _⟩
 · obtain rfl : hi = 0 := by omega
   refine (b_div64_small lo y w h2 h3 h1).mono ?_
   rintro e w' ⟨n, rfl, rfl⟩
   refine ⟨?_, ext_drewN _ _⟩
   have := hq.out
   have := hr.out
   simp only [Nat.zero_mul, Nat.zero_add] at *
   simp [*]
def DivRel (L os : List Nat) (b k c : Nat) : Prop := os.length = L.length ∧ os.take k = L.take k ∧ c < b ∧ val (os.drop k) * b + c = val (L.drop k)
theorem DivRel.step {L os : List Nat} {b j c x q r : Nat} (h : DivRel L os b (j + 1) c) (hj : j < L.length) (hx : L[j] = x) (bx : x < 18446744073709551616) (hb : 0 < b) (hq : (c * 18446744073709551616 + x) / b = q) (hr : (c * 18446744073709551616 + x) % b = r) :
   DivRel L (os.set j q) b j r ∧ q < 18446744073709551616 ∧ r < b ∧ ∀ h : j < os.length, os[j] = x := by
 obtain ⟨h1, h2, h3, h4⟩ := h
 have hjo : j < os.length := by omega
 have e := Nat.div_add_mod (c * 18446744073709551616 + x) b
 rw [hq, hr] at e
 have hr2 : r < b := by rw [← hr]; exact Nat.mod_lt _ hb
 have hq2 : q < 18446744073709551616 := by
   rw [← hq, Nat.div_lt_iff_lt_mul hb]
   have : c * 18446744073709551616 + 18446744073709551616 ≤ b * 18446744073709551616 := by
     have h5 : (c + 1) * 18446744073709551616 ≤ b * 18446744073709551616 := Nat.mul_le_mul_right _ h3
     omega
   have h6 : 18446744073709551616 * b = b * 18446744073709551616 := Nat.mul_comm _ _
   omega
 refine ⟨⟨by simpa using h1, ?_, hr2, ?_⟩, hq2, hr2, ?_⟩
 · rw [List.take_set_of_le (Nat.le_refl _)]
   have := congrArg (List.take j) h2
   rw [List.take_take, List.take_take, Nat.min_eq_left (by omega)] at this
   exact this
 · rw [val_drop _ j (by simpa using hjo), val_drop L j hj, List.getElem_set_self, List.drop_set_of_lt (by omega), hx, ← h4, Nat.add_mul, Nat.mul_assoc]
   generalize val (os.drop (j + 1)) * b = z at *
   rw [Nat.mul_comm b q] at e
   omega
 · intro h0
   have := congrArg (fun l => l[j]?) h2
   simp only [List.getElem?_take, Nat.lt_succ_self, if_true] at this
   rw [List.getElem?_eq_getElem h0, List.getElem?_eq_getElem hj, hx] at this
   exact Option.some.inj this
def DivWordRet (n b : Nat) (w : World) (e : Ending) (w' : World) : Prop := ∃ a1 b1 c1 d1 r : Nat, e = .returned (.tuple #[.agg #[.int .u64 (a1 : Int), .int .u64 (b1 : Int), .int .u64 (c1 : Int), .int .u64 (d1 : Int)], .int .u64 (r : Int)]) ∧ W64 [a1, b1, c1, d1] ∧ mag4 a1 b1 c1 d1 = n / b ∧ r = n % b ∧ Ext w w'
set_option maxHeartbeats 1000000 in
theorem p_divWord (a b c d n y : Nat) (hn : mag4 a b c d = n) (w : World) (hw : W64 [a, b, c, d]) (hy : 0 < y) (hy2 : y < 18446744073709551616) :
   Calls Try.prog 97 #[.agg #[.int .u64 (a : Int), .int .u64 (b : Int), .int .u64 (c : Int), .int .u64 (d : Int)], .int .u64 (y : Int)] w (DivWordRet n y w) := by
 have H1 := two_blocks w (.cells #[.int .u64 (a : Int), .int .u64 (b : Int), .int .u64 (c : Int), .int .u64 (d : Int)] 107) (.cells #[.int .u64 0, .int .u64 0, .int .u64 0, .int .u64 0] 107)
 obtain ⟨W, hW⟩ : ∃ W, W = (w.alloc (.cells #[.int .u64 (a : Int), .int .u64 (b : Int), .int .u64 (c : Int), .int .u64 (d : Int)] 107)).alloc (.cells #[.int .u64 0, .int .u64 0, .int .u64 0, .int .u64 0] 107) := ⟨_, rfl⟩
 have E0 : Ext w W := by rw [hW]; exact (ext_alloc _ _).trans (ext_alloc _ _)
 rw [← hW] at H1
 obtain ⟨L, hL⟩ : ∃ L, L = [a, b, c, d] := ⟨_, rfl⟩
 have A0 : Arr W w.heap.size 107 L := by rw [hL]; exact H1.1
 have A1 : Arr W (w.heap.size + 1) 107 [0, 0, 0, 0] := H1.2
 have HL : Hid (L.length = 4) := by rw [hL]; exact rfl
 have VL : Hid (val L = n) := by rw [hL]; exact hn
 rw [← hL] at hw
 have HW := hide hW
 clear hW H1 hL hn
 go_enter Try.func97, Try.ntmps97
 go_wp2_with fail
 rw [← HW.out]
 clear HW
 go_loopw [7, 6] (fun i t wr => ∃ (k c : Nat) (os : List Nat), i = .int .i64 ((k : Int) - 1) ∧ t = .int .u64 c ∧ k ≤ 4 ∧ Hid (DivRel L os y k c) ∧ W64 os ∧ Arr wr w.heap.size 107 os ∧ Upd w.heap.size W wr) (fun i _ _ => (intOf i + 1).toNat)
 case atStart => exact ⟨4, 0, L, rfl, rfl, by omega, ⟨rfl, rfl, hy, by rw [List.drop_of_length_le (by rw [HL.out]; omega)]; simp [val]⟩, hw, A0, Upd.refl _ _⟩
 case round =>
   obtain ⟨k, c, os, rfl, rfl, hk, HR, wo, hA, hU⟩ := hrel
   have HO : Hid (os.length = 4) := HR.out.1.trans HL.out
   by_cases hk0 : k = 0
   · subst hk0
     have B1 := A1.upd hU (by omega)
     have E1 := hU.ext E0 (Nat.le_refl _)
     have H1 : Hid (val os = n / y ∧ c = n % y) := by
       obtain ⟨_, _, h3, h4⟩ := HR.out
       rw [List.drop_zero, List.drop_zero, VL.out] at h4
       rw [← h4]
       constructor
       · rw [Nat.mul_comm, Nat.mul_add_div hy, Nat.div_eq_of_lt h3, Nat.add_zero]
       · rw [Nat.mul_comm, Nat.mul_add_mod, Nat.mod_eq_of_lt h3]
     obtain ⟨a1, b1, c1, d1, rfl⟩ := four_list HO.out
     obtain ⟨c0, c1', c2, c3, f0, f1, f2, f3⟩ := hA.four
     obtain ⟨d0, d1', d2, d3, g0, g1, g2, g3⟩ := B1.four
     clear hU hA B1
     go_wp2_with fail
     exact bodyPost_ret (v := .tuple #[.agg #[.int .u64 (a1 : Int), .int .u64 (b1 : Int), .int .u64 (c1 : Int), .int .u64 (d1 : Int)], .int .u64 (c : Int)]) (by simp [results, Try.results97, go_sem, d0, d1', d2, d3]) rfl ⟨a1, b1, c1, d1, c, rfl, wo, H1.out.1, H1.out.2, ext_four E1 (by omega) _ _ _ _⟩
   · obtain ⟨j, rfl⟩ : ∃ j, k = j + 1 := ⟨k - 1, by omega⟩
     have hj : j < L.length := by rw [HL.out]; omega
     have hjo : j < os.length := by rw [HO.out]; omega
     obtain ⟨x, hx⟩ : ∃ x, L[j] = x := ⟨_, rfl⟩
     have bx : x < 18446744073709551616 := by rw [← hx]; exact w64_get hw j hj
     obtain ⟨q, hq⟩ : ∃ q, (c * 18446744073709551616 + x) / y = q := ⟨_, rfl⟩
     obtain ⟨r, hr⟩ : ∃ r, (c * 18446744073709551616 + x) % y = r := ⟨_, rfl⟩
     obtain ⟨hS, z1, z2, z3⟩ := HR.out.step hj hx bx hy hq hr
     have cg := hA.at j hjo
     have fg := hA.free j
     rw [z3 hjo] at cg
     have hcy : c < y := HR.out.2.2.1
     have HQ := hide hq
     have HRR := hide hr
     have HS := hide hS
     have HA := hide hA
     have HU := hide hU
     have lg := hA.lt
     clear hq hr hx hS z3 hA hU
     go_wp2_with (go_at_call 63; refine (b_div64 c x y q r _ hcy hy2 bx HQ HRR).mono ?_; rintro e' w' ⟨rfl, hE⟩; have hA2 := HA.out.ext hE; have cg2 := hA2.at j hjo; have fg2 := hA2.free j; have HA3 := hide (hA2.set j q); have HU3 := hide ((HU.out.trans (hE.upd _)).set j (.int .u64 (q : Int))); clear hA2 hE)
     exact ⟨⟨j, _, _, by go_num, rfl, by omega, HS, w64_set wo _ _ z1, HA3.out, HU3.out⟩, by simp [intOf]⟩
open Go Go.RowKit
theorem or_sum' (x y s : Nat) (hs : s ≤ 64) (hy : y < 2 ^ s) (hx : x * 2 ^ s < 18446744073709551616) : bits .or .u64 (y : Int) ((x * 2 ^ s : Nat) : Int) = ((x * 2 ^ s + y : Nat) : Int) := by
 rw [← or_sum x y s hs hy hx]
 show IntKind.u64.wrap ((BitVec.ofInt 64 (y : Int) ||| BitVec.ofInt 64 ((x * 2 ^ s : Nat) : Int)).toNat : Int) = IntKind.u64.wrap ((BitVec.ofInt 64 ((x * 2 ^ s : Nat) : Int) ||| BitVec.ofInt 64 (y : Int)).toNat : Int)
 rw [BitVec.or_comm]
theorem two64 (s : Nat) (hs : s ≤ 64) : (18446744073709551616 : Nat) = 2 ^ s * 2 ^ (64 - s) := by
 rw [← Nat.pow_add, show s + (64 - s) = 64 by omega]
theorem shl_parts (x s c : Nat) (hs : s < 64) (hx : x < 18446744073709551616) (hc : c < 2 ^ s) :
   ∃ l t z : Nat, IntKind.u64.wrap ((x : Int) * 2 ^ s) = (l : Int) ∧ bits .or .u64 (l : Int) (c : Int) = (z : Int) ∧ (x : Int) / 2 ^ (64 - s) = (t : Int) ∧ Hid (z + 18446744073709551616 * t = x * 2 ^ s + c ∧ z < 18446744073709551616 ∧ t < 2 ^ s) := by
 have c2 : ((2 : Int) ^ s) = ((2 ^ s : Nat) : Int) := by rw [Int.natCast_pow]; rfl
 have c3 : ((2 : Int) ^ (64 - s)) = ((2 ^ (64 - s) : Nat) : Int) := by rw [Int.natCast_pow]; rfl
 have hp := two64 s (by omega)
 have ps := Nat.two_pow_pos s
 have pt := Nat.two_pow_pos (64 - s)
 have e1 := Nat.div_add_mod x (2 ^ (64 - s))
 have hm := Nat.mod_lt x pt
 have hl : x % 2 ^ (64 - s) * 2 ^ s < 18446744073709551616 := by
   rw [hp, Nat.mul_comm (2 ^ s)]; exact Nat.mul_lt_mul_of_pos_right hm ps
 have e2 : x * 2 ^ s = x % 2 ^ (64 - s) * 2 ^ s + 18446744073709551616 * (x / 2 ^ (64 - s)) := by
   have h1 := congrArg (· * 2 ^ s) e1
   simp only [Nat.add_mul] at h1
   have h2 : 2 ^ (64 - s) * (x / 2 ^ (64 - s)) * 2 ^ s = 18446744073709551616 * (x / 2 ^ (64 - s)) := by
     rw [hp, Nat.mul_right_comm, Nat.mul_comm (2 ^ (64 - s)) (2 ^ s)]
   omega
 have ht : x / 2 ^ (64 - s) < 2 ^ s := by rw [Nat.div_lt_iff_lt_mul pt, ← hp]; exact hx
 have ho := or_sum (x % 2 ^ (64 - s)) c s (by omega) hc hl
 have hz : x % 2 ^ (64 - s) * 2 ^ s + c < 18446744073709551616 := by
   have h3 : (x % 2 ^ (64 - s) + 1) * 2 ^ s ≤ 2 ^ (64 - s) * 2 ^ s := Nat.mul_le_mul_right _ hm
   rw [Nat.add_mul, Nat.one_mul, Nat.mul_comm (2 ^ (64 - s)), ← hp] at h3
   omega
 refine ⟨x % 2 ^ (64 - s) * 2 ^ s, x / 2 ^ (64 - s), x % 2 ^ (64 - s) * 2 ^ s + c, ?_, ho, ?_, ?_⟩
 · rw [c2, ← Int.natCast_mul, wrap_u64', e2]; omega
 · rw [c3, Int.natCast_ediv]
 · exact ⟨by omega, hz, ht⟩
def UpRel (L os : List Nat) (s k c : Nat) : Prop := os.length = L.length ∧ os.drop k = L.drop k ∧ c < 2 ^ s ∧ val (os.take k) + 18446744073709551616 ^ k * c = val (L.take k) * 2 ^ s
theorem UpRel.step {L os : List Nat} {s k c x z t : Nat} (h : UpRel L os s k c) (hk : k < L.length) (hx : L[k] = x) (hz : z + 18446744073709551616 * t = x * 2 ^ s + c ∧ z < 18446744073709551616 ∧ t < 2 ^ s) : UpRel L (os.set k z) s (k + 1) t := by
 obtain ⟨h1, h2, h3, h4⟩ := h
 refine ⟨by simpa using h1, by rw [drop_set]; exact (drop_get h2 (by omega) hk).2, hz.2.2, ?_⟩
 rw [val_set_take _ _ _ (by omega), val_take_succ L k hk, hx, Nat.pow_succ, Nat.add_mul, ← h4, Nat.mul_assoc, Nat.mul_assoc]
 have e := congrArg (18446744073709551616 ^ k * ·) hz.1
 simp only [Nat.mul_add] at e
 omega
def ShiftRet (n s : Nat) (w : World) (e : Ending) (w' : World) : Prop := ∃ a1 b1 c1 d1 r : Nat, e = .returned (.tuple #[.agg #[.int .u64 (a1 : Int), .int .u64 (b1 : Int), .int .u64 (c1 : Int), .int .u64 (d1 : Int)], .int .u64 (r : Int)]) ∧ W64 [a1, b1, c1, d1] ∧ mag4 a1 b1 c1 d1 + 115792089237316195423570985008687907853269984665640564039457584007913129639936 * r = n * 2 ^ s ∧ r < 2 ^ s ∧ Ext w w'
set_option maxHeartbeats 1000000 in
theorem p_shiftUp (a b c d n s : Nat) (hn : mag4 a b c d = n) (w : World) (hw : W64 [a, b, c, d]) (hs : s < 64) :
   Calls Try.prog 98 #[.agg #[.int .u64 (a : Int), .int .u64 (b : Int), .int .u64 (c : Int), .int .u64 (d : Int)], .int .u64 (s : Int)] w (ShiftRet n s w) := by
 have H1 := two_blocks w (.cells #[.int .u64 (a : Int), .int .u64 (b : Int), .int .u64 (c : Int), .int .u64 (d : Int)] 107) (.cells #[.int .u64 0, .int .u64 0, .int .u64 0, .int .u64 0] 107)
 obtain ⟨W, hW⟩ : ∃ W, W = (w.alloc (.cells #[.int .u64 (a : Int), .int .u64 (b : Int), .int .u64 (c : Int), .int .u64 (d : Int)] 107)).alloc (.cells #[.int .u64 0, .int .u64 0, .int .u64 0, .int .u64 0] 107) := ⟨_, rfl⟩
 have E0 : Ext w W := by rw [hW]; exact (ext_alloc _ _).trans (ext_alloc _ _)
 rw [← hW] at H1
 obtain ⟨L, hL⟩ : ∃ L, L = [a, b, c, d] := ⟨_, rfl⟩
 have A0 : Arr W w.heap.size 107 L := by rw [hL]; exact H1.1
 have A1 : Arr W (w.heap.size + 1) 107 [0, 0, 0, 0] := H1.2
 have HL : Hid (L.length = 4) := by rw [hL]; exact rfl
 have VL : Hid (val L = n) := by rw [hL]; exact hn
 have HLL := hide hL
 rw [← hL] at hw
 have HW := hide hW
 clear hW H1 hL hn
 go_enter Try.func98, Try.ntmps98
 go_wp2_with fail
 rw [← HW.out]
 clear HW
 go_loopw [10, 6] (fun i t wr => ∃ (k c : Nat) (os : List Nat), i = .int .i64 k ∧ t = .int .u64 c ∧ k ≤ 4 ∧ Hid (UpRel L os s k c) ∧ W64 os ∧ Arr wr w.heap.size 107 os ∧ Upd w.heap.size W wr) (fun i _ _ => 4 - (intOf i).toNat)
 case atStart => exact ⟨0, 0, L, rfl, rfl, by omega, ⟨rfl, rfl, Nat.two_pow_pos _, by simp [val]⟩, hw, A0, Upd.refl _ _⟩
 case round =>
   obtain ⟨k, c', os, rfl, rfl, hk, HR, wo, hA, hU⟩ := hrel
   have HO : Hid (os.length = 4) := HR.out.1.trans HL.out
   by_cases hk4 : k < 4
   · have hkL : k < L.length := by rw [HL.out]; omega
     have hko : k < os.length := by rw [HO.out]; omega
     obtain ⟨x, hx⟩ : ∃ x, L[k] = x := ⟨_, rfl⟩
     have bx : x < 18446744073709551616 := by rw [← hx]; exact w64_get hw k hkL
     have hidx : ∀ w, (Instr.index 107 (.agg #[.int .u64 (a : Int), .int .u64 (b : Int), .int .u64 (c : Int), .int .u64 (d : Int)]) (.int .i64 (k : Int))).run Try.prog w = .ok (.int .u64 (x : Int)) w := by
       have e := HLL.out; subst e; exact idxRun a b c d k x hkL hx
     obtain ⟨l, t, z, z1, z2, z3, HZ⟩ := shl_parts x s c' hs bx HR.out.2.2.1
     have HS := hide (HR.out.step hkL hx HZ.out)
     have cg := hA.at k hko
     have fg := hA.free k
     have HA := hide (hA.set k z)
     have HU := hide (hU.set k (.int .u64 (z : Int)))
     have w2 := w64_set wo k z HZ.out.2.1
     clear hx hA hU
     go_wp2_with fail
     exact ⟨⟨k + 1, _, _, by go_num, rfl, by omega, HS, w2, HA.out, HU.out⟩, by simp [intOf]; omega⟩
   · obtain rfl : k = 4 := by omega
     have B1 := A1.upd hU (by omega)
     have E1 := hU.ext E0 (Nat.le_refl _)
     have H1 : Hid (val os + 18446744073709551616 ^ 4 * c' = n * 2 ^ s) := by
       obtain ⟨_, _, h3, h4⟩ := HR.out
       rw [List.take_of_length_le (by rw [HO.out]; omega), List.take_of_length_le (by rw [HL.out]; omega), VL.out] at h4
       exact h4
     obtain ⟨a1, b1, c1, d1, rfl⟩ := four_list HO.out
     obtain ⟨c0, c1', c2, c3, f0, f1, f2, f3⟩ := hA.four
     obtain ⟨d0, d1', d2, d3, g0, g1, g2, g3⟩ := B1.four
     clear hU hA B1
     go_wp2_with fail
     exact bodyPost_ret (v := .tuple #[.agg #[.int .u64 (a1 : Int), .int .u64 (b1 : Int), .int .u64 (c1 : Int), .int .u64 (d1 : Int)], .int .u64 (c' : Int)]) (by simp [results, Try.results98, go_sem, d0, d1', d2, d3]) rfl ⟨a1, b1, c1, d1, c', rfl, wo, by have h := H1.out; rw [p4] at h; exact h, HR.out.2.2.1, ext_four E1 (by omega) _ _ _ _⟩
open Go Go.RowKit
theorem shr_parts (x s m : Nat) (hs : s < 64) (hx : x < 18446744073709551616) (hm : m < 2 ^ s) :
   ∃ l t z o : Nat, (x : Int) / 2 ^ s = (l : Int) ∧ IntKind.u64.wrap ((x : Int) * 2 ^ (64 - s)) = (t : Int) ∧ bits .or .u64 (l : Int) ((m * 2 ^ (64 - s) : Nat) : Int) = (z : Int) ∧ Hid (t = o * 2 ^ (64 - s) ∧ o < 2 ^ s ∧ z * 2 ^ s + o = x + 18446744073709551616 * m ∧ z < 18446744073709551616) := by
 have c2 : ((2 : Int) ^ s) = ((2 ^ s : Nat) : Int) := by rw [Int.natCast_pow]; rfl
 have c3 : ((2 : Int) ^ (64 - s)) = ((2 ^ (64 - s) : Nat) : Int) := by rw [Int.natCast_pow]; rfl
 have hp := two64 s (by omega)
 have ps := Nat.two_pow_pos s
 have pt := Nat.two_pow_pos (64 - s)
 have hl : x / 2 ^ s < 2 ^ (64 - s) := by rw [Nat.div_lt_iff_lt_mul ps, Nat.mul_comm, ← hp]; exact hx
 have hmt : m * 2 ^ (64 - s) < 18446744073709551616 := by rw [hp]; exact Nat.mul_lt_mul_of_pos_right hm pt
 have ho := or_sum' m (x / 2 ^ s) (64 - s) (by omega) hl hmt
 have e1 := Nat.div_add_mod x (2 ^ s)
 have h2 := Nat.mod_lt x ps
 have hz : m * 2 ^ (64 - s) + x / 2 ^ s < 18446744073709551616 := by
   have h3 : (m + 1) * 2 ^ (64 - s) ≤ 2 ^ s * 2 ^ (64 - s) := Nat.mul_le_mul_right _ hm
   rw [Nat.add_mul, Nat.one_mul, ← hp] at h3
   omega
 have ht : x * 2 ^ (64 - s) % 18446744073709551616 = x % 2 ^ s * 2 ^ (64 - s) := by rw [hp, Nat.mul_mod_mul_right]
 refine ⟨x / 2 ^ s, x * 2 ^ (64 - s) % 18446744073709551616, m * 2 ^ (64 - s) + x / 2 ^ s, x % 2 ^ s, ?_, ?_, ho, ht, h2, ?_, hz⟩
 · rw [c2, Int.natCast_ediv]
 · rw [c3, ← Int.natCast_mul, wrap_u64', Int.natCast_emod]; rfl
 · rw [Nat.add_mul, Nat.mul_assoc, Nat.mul_comm (2 ^ (64 - s)) (2 ^ s), ← hp, Nat.mul_comm (x / 2 ^ s) (2 ^ s)]
   omega
def DownRel (L os : List Nat) (s k m : Nat) : Prop := os.length = L.length ∧ os.take k = L.take k ∧ m < 2 ^ s ∧ val (os.drop k) * 2 ^ s + m = val (L.drop k)
theorem take_at {L os : List Nat} {j x : Nat} (h : os.take (j + 1) = L.take (j + 1)) (hj : j < L.length) (hx : L[j] = x) (h0 : j < os.length) : os[j] = x := by
 have := congrArg (fun l => l[j]?) h
 simp only [List.getElem?_take, Nat.lt_succ_self, if_true] at this
 rw [List.getElem?_eq_getElem h0, List.getElem?_eq_getElem hj, hx] at this
 exact Option.some.inj this
theorem DownRel.step {L os : List Nat} {s j m x z o : Nat} (h : DownRel L os s (j + 1) m) (hj : j < L.length) (hx : L[j] = x) (ho : o < 2 ^ s) (hz : z * 2 ^ s + o = x + 18446744073709551616 * m) : DownRel L (os.set j z) s j o := by
 obtain ⟨h1, h2, h3, h4⟩ := h
 have hjo : j < os.length := by omega
 refine ⟨by simpa using h1, ?_, ho, ?_⟩
 · rw [List.take_set_of_le (Nat.le_refl _)]
   have := congrArg (List.take j) h2
   rw [List.take_take, List.take_take, Nat.min_eq_left (by omega)] at this
   exact this
 · rw [val_drop _ j (by simpa using hjo), val_drop L j hj, List.getElem_set_self, List.drop_set_of_lt (by omega), hx, ← h4, Nat.add_mul, Nat.mul_assoc]
   generalize val (os.drop (j + 1)) * 2 ^ s = y at *
   generalize z * 2 ^ s = t at *
   omega
set_option maxHeartbeats 1000000 in
theorem p_shiftDown (a b c d n s : Nat) (hn : mag4 a b c d = n) (w : World) (hw : W64 [a, b, c, d]) (hs : s < 64) :
   Calls Try.prog 100 #[.agg #[.int .u64 (a : Int), .int .u64 (b : Int), .int .u64 (c : Int), .int .u64 (d : Int)], .int .u64 (s : Int)] w (WordsOnly (n / 2 ^ s) w) := by
 have H1 := two_blocks w (.cells #[.int .u64 (a : Int), .int .u64 (b : Int), .int .u64 (c : Int), .int .u64 (d : Int)] 107) (.cells #[.int .u64 0, .int .u64 0, .int .u64 0, .int .u64 0] 107)
 obtain ⟨W, hW⟩ : ∃ W, W = (w.alloc (.cells #[.int .u64 (a : Int), .int .u64 (b : Int), .int .u64 (c : Int), .int .u64 (d : Int)] 107)).alloc (.cells #[.int .u64 0, .int .u64 0, .int .u64 0, .int .u64 0] 107) := ⟨_, rfl⟩
 have E0 : Ext w W := by rw [hW]; exact (ext_alloc _ _).trans (ext_alloc _ _)
 rw [← hW] at H1
 obtain ⟨L, hL⟩ : ∃ L, L = [a, b, c, d] := ⟨_, rfl⟩
 have A0 : Arr W w.heap.size 107 L := by rw [hL]; exact H1.1
 have A1 : Arr W (w.heap.size + 1) 107 [0, 0, 0, 0] := H1.2
 have HL : Hid (L.length = 4) := by rw [hL]; exact rfl
 have VL : Hid (val L = n) := by rw [hL]; exact hn
 rw [← hL] at hw
 have HW := hide hW
 clear hW H1 hL hn
 go_enter Try.func100, Try.ntmps100
 go_wp2_with fail
 rw [← HW.out]
 clear HW
 go_loopw [6, 5] (fun i t wr => ∃ (k c m : Nat) (os : List Nat), i = .int .i64 ((k : Int) - 1) ∧ t = .int .u64 c ∧ k ≤ 4 ∧ Hid (c = m * 2 ^ (64 - s)) ∧ Hid (DownRel L os s k m) ∧ W64 os ∧ Arr wr w.heap.size 107 os ∧ Upd w.heap.size W wr) (fun i _ _ => (intOf i + 1).toNat)
 case atStart => exact ⟨4, 0, 0, L, rfl, rfl, by omega, by simp [Hid], ⟨rfl, rfl, Nat.two_pow_pos _, by rw [List.drop_of_length_le (by rw [HL.out]; omega)]; simp [val]⟩, hw, A0, Upd.refl _ _⟩
 case round =>
   obtain ⟨k, c', m, os, rfl, rfl, hk, HC, HR, wo, hA, hU⟩ := hrel
   have HO : Hid (os.length = 4) := HR.out.1.trans HL.out
   by_cases hk0 : k = 0
   · subst hk0
     have B1 := A1.upd hU (by omega)
     have E1 := hU.ext E0 (Nat.le_refl _)
     have H1 : Hid (val os = n / 2 ^ s) := by
       obtain ⟨_, _, h3, h4⟩ := HR.out
       rw [List.drop_zero, List.drop_zero, VL.out] at h4
       unfold Hid
       rw [← h4, Nat.mul_comm, Nat.mul_add_div (Nat.two_pow_pos _), Nat.div_eq_of_lt h3, Nat.add_zero]
     obtain ⟨a1, b1, c1, d1, rfl⟩ := four_list HO.out
     obtain ⟨c0, c1', c2, c3, f0, f1, f2, f3⟩ := hA.four
     obtain ⟨d0, d1', d2, d3, g0, g1, g2, g3⟩ := B1.four
     clear hU hA B1
     go_wp2_with fail
     exact bodyPost_ret (v := .agg #[.int .u64 (a1 : Int), .int .u64 (b1 : Int), .int .u64 (c1 : Int), .int .u64 (d1 : Int)]) (by simp [results, Try.results100, go_sem, d0, d1', d2, d3]) rfl ⟨a1, b1, c1, d1, rfl, wo, H1.out, ext_four E1 (by omega) _ _ _ _⟩
   · obtain ⟨j, rfl⟩ : ∃ j, k = j + 1 := ⟨k - 1, by omega⟩
     have hj : j < L.length := by rw [HL.out]; omega
     have hjo : j < os.length := by rw [HO.out]; omega
     obtain ⟨x, hx⟩ : ∃ x, L[j] = x := ⟨_, rfl⟩
     have bx : x < 18446744073709551616 := by rw [← hx]; exact w64_get hw j hj
     obtain ⟨l, t, z, o, z1, z2, z3, HZ⟩ := shr_parts x s m hs bx HR.out.2.2.1
     rw [← HC.out] at z3
     have HS := hide (HR.out.step hj hx HZ.out.2.1 HZ.out.2.2.1)
     have cg := hA.at j hjo
     rw [take_at HR.out.2.1 hj hx hjo] at cg
     have fg := hA.free j
     have HA := hide (hA.set j z)
     have HU := hide (hU.set j (.int .u64 (z : Int)))
     have w2 := w64_set wo j z HZ.out.2.2.2
     have HC2 : Hid (t = o * 2 ^ (64 - s)) := HZ.out.1
     clear hx hA hU
     go_wp2_with fail
     exact ⟨⟨j, _, o, _, by go_num, rfl, by omega, HC2, HS, w2, HA.out, HU.out⟩, by first | (simp [intOf]; done) | (simp [intOf]; omega)⟩
def guessV (h l t : Nat) : Nat := if t ≤ h then 18446744073709551615 else (h * 18446744073709551616 + l) / t
end
section
open Go Go.RowKit
theorem i64_wrap (x : Int) : I64 (wrap64 x) := by unfold I64; simp only [wrap64]; omega
theorem t_int (B b : Nat) (W w : World) (hT : TapeOk B w b) (hW : Upd b W w) :
   Calls Try.prog 25 #[.pointer (some ⟨b, 0, none⟩)] w (NextPost B b I64 .i64 W) := by
 go_enter Try.func25, Try.ntmps25
 go_wp2_with (first
   | (go_at_call 11; refine (t_next' _ _ _ W _ ⟨by omega, by omega⟩ ‹_› ‹_›).mono ?_; rintro e w' ⟨u, rfl, hu, hT2, hB2⟩)
   | (go_at_call 41; refine (t_word' _ _ W _ ‹_› ‹_›).mono ?_; rintro e w' ⟨u, rfl, hu, hT2, hB2⟩))
 all_goals go_ret
 all_goals exact ⟨_, rfl, i64_wrap _, ‹_›, ‹_›⟩
end
section
open Go Go.RowKit
def BoolPost (B b : Nat) (W : World) (e : Ending) (w' : World) : Prop := ∃ v : Bool, e = .returned (.bool v) ∧ TapeOk B w' b ∧ Upd b W w'
theorem t_bool (B b : Nat) (n : Int) (W w : World) (h1 : 2 ≤ n) (h2 : n ≤ 4) (hT : TapeOk B w b) (hW : Upd b W w) :
   Calls Try.prog 61 #[.pointer (some ⟨b, 0, none⟩), .int .i64 n] w (BoolPost B b W) := by
 have hn0 : ¬ (n = 0) := by omega
 have hm : (1 : Int).tmod n = 1 := by
   rw [Int.tmod_eq_emod_of_nonneg (by omega)]; exact Int.emod_eq_of_lt (by omega) (by omega)
 have hm2 : (1 : Int) % n = 1 := Int.emod_eq_of_lt (by omega) (by omega)
 have hT' := hT.below (below_drewN' (b + 1) w 1)
 go_enter Try.func61, Try.ntmps61
 go_wp2_with fail
 go_region_with (go_at_call 11; refine (t_next' B b n W _ ⟨by omega, by omega⟩ (by first | exact hT | exact (hT.below (below_drewN' (b + 1) w 1))) (by first | exact hW | exact hW.drew)).mono ?_; rintro e w' ⟨u, rfl, hu, hT2, hB2⟩)
 all_goals go_wp2_with fail
 all_goals go_ret
 all_goals exact ⟨_, rfl, hT2, hB2⟩
def Bx (w : World) (g : Nat) (L : List Nat) : Prop := w.heap[g]? = some (.cells (Value.bool false :: wd L).toArray 25 (0, 0))
theorem Bx.at {w : World} {g : Nat} {L : List Nat} (h : Bx w g L) (i : Nat) (hi : i < L.length) : w.cell? ⟨g, 1 + i, none⟩ = some (.int .u64 (L[i] : Int)) := by
 rw [cell_of_block h, Nat.add_comm]; simp [wd, hi]
theorem Bx.free {w : World} {g : Nat} {L : List Nat} (h : Bx w g L) (i : Nat) : w.frozen? ⟨g, i, none⟩ = false := free_of_block h i
theorem Bx.lt {w : World} {g : Nat} {L : List Nat} (h : Bx w g L) : g < w.heap.size := (Array.getElem?_eq_some_iff.1 h).1
theorem Bx.set {w : World} {g : Nat} {L : List Nat} (h : Bx w g L) (k x : Nat) : Bx (w.setCell ⟨g, 1 + k, none⟩ (.int .u64 (x : Int))) g (L.set k x) := by
 unfold Bx
 rw [store_block h (1 + k), Nat.add_comm]
 simp [wd, List.map_set]
theorem Bx.upd {w w' : World} {g b : Nat} {L : List Nat} (h : Bx w g L) (k : Upd b w w') (hn : g ≠ b) : Bx w' g L := by
 have := h.lt; unfold Bx; rw [k.2.2.2.2 g this hn]; exact h
theorem Bx.ext {w w' : World} {g : Nat} {L : List Nat} (h : Bx w g L) (k : Ext w w') : Bx w' g L := by
 have := h.lt; unfold Bx; rw [k.block g this]; exact h
theorem Box.upd {w w' : World} {g b' : Nat} {s : Bool} {a b c d : Nat} (h : Box w g s a b c d) (k : Upd b' w w') (hn : g ≠ b') : Box w' g s a b c d := by
 have := h.lt; unfold Box; rw [k.2.2.2.2 g this hn]; exact h
end
section
open Go Go.RowKit
theorem val_set (l : List Nat) (j x : Nat) (h : j < l.length) : val (l.set j x) + 18446744073709551616 ^ j * l[j] = val l + 18446744073709551616 ^ j * x := by
 induction l generalizing j with
 | nil => simp at h
 | cons y r ih =>
   cases j with
   | zero => simp [val]; omega
   | succ j =>
     have hj : j < r.length := by simpa using h
     have := ih j hj
     simp only [List.set_cons_succ, val, List.getElem_cons_succ, Nat.pow_succ]
     generalize val (r.set j x) = A at *
     generalize val r = C at *
     generalize r[j] = z at *
     generalize 18446744073709551616 ^ j = P at *
     grind
theorem w64_zeros (n : Nat) : W64 (List.replicate n 0) := by intro x hx; rw [List.mem_replicate] at hx; omega
def RMul (p q os : List Nat) (i k c : Nat) : Prop := os.length = p.length + q.length + 1 ∧ W64 os ∧ c < 18446744073709551616 ∧ (∀ j, i + q.length ≤ j → os.getD j 0 = 0) ∧
 val os + 18446744073709551616 ^ (i + k) * c = val (p.take i) * val q + 18446744073709551616 ^ i * (p.getD i 0 * val (q.take k))
theorem RMul.start (p q : List Nat) : RMul p q (List.replicate (p.length + q.length + 1) 0) 0 0 0 := by
 refine ⟨by simp, w64_zeros _, by omega, fun j _ => ?_, by simp [val_zeros, val]⟩
 rw [List.getD_eq_getElem?_getD]
 by_cases h : j < p.length + q.length + 1
 · simp [List.getElem?_replicate, h]
 · simp [List.getElem?_replicate, h]
theorem mul_word {x y o c : Nat} (hx : x < 18446744073709551616) (hy : y < 18446744073709551616) (ho : o < 18446744073709551616) (hc : c < 18446744073709551616) : x * y + o + c < 340282366920938463463374607431768211456 := by
 have h1 : x * y ≤ 18446744073709551615 * 18446744073709551615 := Nat.mul_le_mul (by omega) (by omega)
 omega
theorem RMul.step {p q os : List Nat} {i k c x y o lo hi : Nat} (h : RMul p q os i k c) (hi0 : i < p.length) (hk : k < q.length) (hx : p[i] = x) (hy : q[k] = y) (hik : i + k < os.length) (ho : os[i + k] = o) (bx : x < 18446744073709551616) (by' : y < 18446744073709551616)
   (hs : x * y + o + c = lo + 18446744073709551616 * hi) (bl : lo < 18446744073709551616) : RMul p q (os.set (i + k) lo) i (k + 1) hi := by
 obtain ⟨h1, h2, h3, h4, h5⟩ := h
 have bo : o < 18446744073709551616 := by rw [← ho]; exact w64_get h2 _ hik
 have bb := mul_word bx by' bo h3
 refine ⟨by simpa using h1, w64_set h2 _ _ bl, by omega, fun j hj => ?_, ?_⟩
 · rw [List.getD_eq_getElem?_getD, List.getElem?_set_ne (by omega), ← List.getD_eq_getElem?_getD]; exact h4 j hj
 · have hv := val_set os (i + k) lo hik
   have hg : p.getD i 0 = x := by simp [List.getD, hi0, hx]
   rw [ho] at hv
   rw [hg] at h5 ⊢
   rw [val_take_succ q k hk, hy, ← Nat.add_assoc, Nat.pow_succ]
   have e : 18446744073709551616 ^ (i + k) = 18446744073709551616 ^ i * 18446744073709551616 ^ k := Nat.pow_add _ _ _
   rw [e] at hv h5 ⊢
   generalize 18446744073709551616 ^ i = I at *
   generalize 18446744073709551616 ^ k = K at *
   generalize val (os.set (i + k) lo) = A at *
   generalize val os = C at *
   generalize val (q.take k) = Q at *
   generalize val (p.take i) * val q = R at *
   have e2 : I * K * (x * y + o + c) = I * K * (lo + 18446744073709551616 * hi) := by rw [hs]
   grind
theorem RMul.row {p q os : List Nat} {i c : Nat} (h : RMul p q os i q.length c) (hi0 : i < p.length) : RMul p q (os.set (i + q.length) c) (i + 1) 0 0 := by
 obtain ⟨h1, h2, h3, h4, h5⟩ := h
 have hl : i + q.length < os.length := by omega
 refine ⟨by simpa using h1, w64_set h2 _ _ h3, by omega, fun j hj => ?_, ?_⟩
 · rw [List.getD_eq_getElem?_getD, List.getElem?_set_ne (by omega), ← List.getD_eq_getElem?_getD]; exact h4 j (by omega)
 · have hv := val_set os (i + q.length) c hl
   have ho : os[i + q.length] = 0 := by have := h4 (i + q.length) (by omega); simpa [List.getD, hl] using this
   rw [ho] at hv
   rw [List.take_length] at h5
   rw [val_take_succ p i hi0, List.take_zero]
   have hg : p.getD i 0 = p[i] := by simp [List.getD, hi0]
   rw [hg] at h5
   have hz : val [] = 0 := rfl
   rw [hz]
   generalize 18446744073709551616 ^ (i + q.length) = Z at *
   generalize 18446744073709551616 ^ (i + 1 + 0) = Y at *
   generalize 18446744073709551616 ^ (i + 1) = X at *
   generalize 18446744073709551616 ^ i = W at *
   generalize val (os.set (i + q.length) c) = A at *
   generalize val os = B at *
   generalize val (List.take i p) = C at *
   generalize val q = D at *
   generalize p[i] = E at *
   have e : (C + W * E) * D = C * D + W * (E * D) := by rw [Nat.add_mul, Nat.mul_assoc]
   rw [e]
   omega
theorem RMul.done {p q os : List Nat} (h : RMul p q os p.length 0 0) : val os = val p * val q := by
 obtain ⟨_, _, _, _, h5⟩ := h
 rw [List.take_length] at h5
 simpa [val] using h5
theorem getD_set_ne (l : List Nat) (k j x : Nat) (h : k ≠ j) : (l.set k x).getD j 0 = l.getD j 0 := by
 rw [List.getD_eq_getElem?_getD, List.getElem?_set_ne h, ← List.getD_eq_getElem?_getD]
theorem getD_of_get {l : List Nat} {k x : Nat} (h : k < l.length) (hx : l[k] = x) : l.getD k 0 = x := by simp [List.getD, h, hx]
theorem get_of_getD {l : List Nat} {k x : Nat} (h : k < l.length) (hx : l.getD k 0 = x) : l[k] = x := by simpa [List.getD, h] using hx
theorem getD_set_self (l : List Nat) (k x : Nat) (h : k < l.length) : (l.set k x).getD k 0 = x := by simp [List.getD, h]
theorem set_same (l : List Nat) (k x : Nat) (h : l.getD k 0 = x) : l.set k x = l := by
 by_cases hk : k < l.length
 · have := get_of_getD hk h
   subst this
   exact List.set_getElem_self hk
 · exact List.set_eq_of_length_le (by omega)
def RUp (p os : List Nat) (q r i : Nat) : Prop := os.length = p.length + q + 1 ∧ W64 os ∧ os.getD (i + q) 0 < 2 ^ r ∧ (∀ j, i + q < j → os.getD j 0 = 0) ∧ val os = 18446744073709551616 ^ q * (val (p.take i) * 2 ^ r)
theorem RUp.start (p : List Nat) (q r : Nat) : RUp p (List.replicate (p.length + q + 1) 0) q r 0 := by
 have hz : ∀ j, (List.replicate (p.length + q + 1) 0).getD j 0 = 0 := by
   intro j
   rw [List.getD_eq_getElem?_getD, List.getElem?_replicate]
   split <;> rfl
 refine ⟨by simp, w64_zeros _, by rw [hz]; exact Nat.two_pow_pos _, fun j _ => hz j, by simp [val_zeros, val]⟩
theorem RUp.step {p os : List Nat} {q r i x o z t : Nat} (h : RUp p os q r i) (hi : i < p.length) (hx : p[i] = x) (ho : os.getD (i + q) 0 = o) (hs : z + 18446744073709551616 * t = x * 2 ^ r + o) (bz : z < 18446744073709551616) (bt : t < 2 ^ r) (hr : r < 64) :
   RUp p ((os.set (i + q) z).set (i + q + 1) t) q r (i + 1) := by
 obtain ⟨h1, h2, h3, h4, h5⟩ := h
 have hl : i + q < os.length := by omega
 have hl1 : i + q + 1 < (os.set (i + q) z).length := by rw [List.length_set]; omega
 have bt2 : t < 18446744073709551616 := by
   have : 2 ^ r ≤ 2 ^ 63 := Nat.pow_le_pow_right (by omega) (by omega)
   omega
 refine ⟨by simpa using h1, w64_set (w64_set h2 _ _ bz) _ _ bt2, ?_, fun j hj => ?_, ?_⟩
 · rw [show i + 1 + q = i + q + 1 by omega, getD_set_self _ _ _ hl1]; exact bt
 · rw [getD_set_ne _ _ _ _ (by omega), getD_set_ne _ _ _ _ (by omega)]; exact h4 j (by omega)
 · have v1 := val_set os (i + q) z hl
   have v2 := val_set (os.set (i + q) z) (i + q + 1) t hl1
   have e1 := get_of_getD hl ho
   have e2 : (os.set (i + q) z)[i + q + 1] = 0 := get_of_getD hl1 (by rw [getD_set_ne _ _ _ _ (by omega)]; exact h4 _ (by omega))
   rw [e1] at v1
   rw [e2, Nat.pow_succ] at v2
   rw [val_take_succ p i hi, hx]
   rw [Nat.pow_add 18446744073709551616 i q] at v1 v2
   rw [h5] at v1
   generalize val ((os.set (i + q) z).set (i + q + 1) t) = A at *
   generalize val (os.set (i + q) z) = C at *
   generalize 18446744073709551616 ^ i = I at *
   generalize 18446744073709551616 ^ q = Q at *
   generalize val (List.take i p) = V at *
   generalize 2 ^ r = R at *
   clear h1 h2 h3 h4 h5 e1 e2 hl hl1 bt2 bz bt
   have e3 : I * Q * (z + 18446744073709551616 * t) = I * Q * (x * R + o) := by rw [hs]
   grind
theorem RUp.done {p os : List Nat} {q r : Nat} (h : RUp p os q r p.length) : val os = val p * 2 ^ (64 * q + r) := by
 obtain ⟨_, _, _, _, h5⟩ := h
 rw [List.take_length] at h5
 rw [h5, Nat.pow_add, Nat.pow_mul, show (2 : Nat) ^ 64 = 18446744073709551616 from rfl]
 generalize 18446744073709551616 ^ q = Q
 grind
theorem or_comm' (x y : Int) : bits .or .u64 x y = bits .or .u64 y x := by
 show IntKind.u64.wrap ((BitVec.ofInt 64 x ||| BitVec.ofInt 64 y).toNat : Int) = IntKind.u64.wrap ((BitVec.ofInt 64 y ||| BitVec.ofInt 64 x).toNat : Int)
 rw [BitVec.or_comm]
theorem or_zero' (t : Nat) (h : t < 18446744073709551616) : bits .or .u64 0 (t : Int) = (t : Int) := by
 have e : (2 : Nat) ^ 64 = 18446744073709551616 := by decide
 have := or_sum 0 t 64 (by omega) (by rw [e]; exact h) (by rw [Nat.zero_mul]; omega)
 rw [Nat.zero_mul, Nat.zero_add] at this
 exact this
theorem shl_or (x s c : Nat) (hs : s < 64) (hx : x < 18446744073709551616) (hc : c < 2 ^ s) :
   ∃ l t z : Nat, IntKind.u64.wrap ((x : Int) * 2 ^ s) = (l : Int) ∧ bits .or .u64 (c : Int) (l : Int) = (z : Int) ∧ (x : Int) / 2 ^ (64 - s) = (t : Int) ∧ bits .or .u64 0 (t : Int) = (t : Int) ∧ Hid (z + 18446744073709551616 * t = x * 2 ^ s + c ∧ z < 18446744073709551616 ∧ t < 2 ^ s ∧ t < 18446744073709551616) := by
 obtain ⟨l, t, z, h1, h2, h3, h4⟩ := shl_parts x s c hs hx hc
 have ht : t < 18446744073709551616 := by
   have h5 := h4.out.2.2
   have : 2 ^ s ≤ 2 ^ 63 := Nat.pow_le_pow_right (by omega) (by omega)
   omega
 exact ⟨l, t, z, h1, by rw [or_comm']; exact h2, h3, or_zero' t ht, ⟨h4.out.1, h4.out.2.1, h4.out.2.2, ht⟩⟩
def RHalf (p os : List Nat) (i : Nat) : Prop := os.length = p.length ∧ W64 os ∧ os.drop i = p.drop i ∧ 2 * val (os.take i) + p.getD 0 0 % 2 = val (p.take i) + 18446744073709551616 ^ i * (p.getD i 0 % 2)
theorem RHalf.start (p : List Nat) (h : W64 p) : RHalf p p 0 := ⟨rfl, h, rfl, by simp [val]⟩
theorem RHalf.step {p os : List Nat} {i x z : Nat} (h : RHalf p os i) (hi : i < p.length) (hx : p[i] = x) (hz : z = x / 2 + 9223372036854775808 * (p.getD (i + 1) 0 % 2)) (bx : x < 18446744073709551616) : RHalf p (os.set i z) (i + 1) := by
 obtain ⟨h1, h2, h3, h4⟩ := h
 refine ⟨by simpa using h1, w64_set h2 _ _ (by omega), by rw [drop_set]; exact (drop_get h3 (by omega) hi).2, ?_⟩
 rw [val_set_take _ _ _ (by omega), val_take_succ p i hi, hx, Nat.pow_succ]
 rw [getD_of_get hi hx] at h4
 have e := Nat.div_add_mod x 2
 generalize p.getD (i + 1) 0 % 2 = y at *
 generalize p.getD 0 0 % 2 = f at *
 generalize val (os.take i) = A at *
 generalize val (p.take i) = C at *
 generalize 18446744073709551616 ^ i = I at *
 generalize x % 2 = m at *
 generalize x / 2 = d at *
 subst e
 subst hz
 clear h1 h2 h3 bx hi hx
 grind
theorem RHalf.done {p os : List Nat} (h : RHalf p os p.length) : val os = val p / 2 := by
 obtain ⟨h1, _, _, h4⟩ := h
 rw [List.take_length, List.take_of_length_le (by omega)] at h4
 have : p.getD p.length 0 = 0 := by simp [List.getD]
 rw [this] at h4
 generalize 18446744073709551616 ^ p.length = I at *
 cases p with
 | nil => cases os with
   | nil => rfl
   | cons y r => simp at h1
 | cons y r =>
   simp only [val] at *
   simp only [List.getD_cons_zero] at h4
   omega
def Size (n s : Nat) : Prop := n < 2 ^ s ∧ (n ≠ 0 → 1 ≤ s ∧ 2 ^ (s - 1) ≤ n) ∧ (n = 0 → s = 0)
theorem size_words (l : List Nat) (x k : Nat) (hl : W64 l) (h1 : x < 2 ^ k) (h2 : 1 ≤ k) (h3 : 2 ^ (k - 1) ≤ x) : Size (val (l ++ [x])) (64 * l.length + k) := by
 have e : 18446744073709551616 ^ l.length = 2 ^ (64 * l.length) := by rw [Nat.pow_mul]
 have hv := val_lt l hl
 rw [val_snoc]
 rw [e] at hv ⊢
 have e1 : 2 ^ (64 * l.length + k) = 2 ^ (64 * l.length) * 2 ^ k := Nat.pow_add _ _ _
 have e2 : 2 ^ (64 * l.length + k - 1) = 2 ^ (64 * l.length) * 2 ^ (k - 1) := by rw [← Nat.pow_add]; congr 1; omega
 have p1 := Nat.two_pow_pos (64 * l.length)
 have p2 := Nat.two_pow_pos (k - 1)
 generalize 2 ^ (64 * l.length) = I at *
 refine ⟨?_, fun _ => ⟨by omega, ?_⟩, fun h => ?_⟩
 · rw [e1]
   have : I * (x + 1) ≤ I * 2 ^ k := Nat.mul_le_mul_left _ h1
   rw [Nat.mul_add, Nat.mul_one] at this
   omega
 · rw [e2]
   have : I * 2 ^ (k - 1) ≤ I * x := Nat.mul_le_mul_left _ h3
   omega
 · exfalso
   have : I * 1 ≤ I * x := Nat.mul_le_mul_left _ (by omega)
   omega
theorem bit_set (l : List Nat) (j s x : Nat) (hj : j < l.length) (hx : l[j] = x) (hl : W64 l) (hs : s < 64) (hd : val l % 2 ^ (64 * j + s + 1) = 0) :
   ∃ z : Nat, bits .or .u64 (x : Int) ((2 ^ s : Nat) : Int) = (z : Int) ∧ Hid (z < 18446744073709551616 ∧ val (l.set j z) = val l + 2 ^ (64 * j + s)) := by
 have bx : x < 18446744073709551616 := by rw [← hx]; exact w64_get hl j hj
 have hv := val_take_drop l j (by omega)
 rw [val_drop l j hj, hx] at hv
 have e : 18446744073709551616 ^ j = 2 ^ (64 * j) := by rw [Nat.pow_mul]
 have ht := val_lt (l.take j) (w64_take hl j)
 rw [List.length_take, Nat.min_eq_left (by omega)] at ht
 have hset := val_set l j
 rw [e] at hv ht hset
 have hdv : 2 ^ (64 * j) * 2 ^ (s + 1) ∣ val l := by rw [← Nat.pow_add]; exact Nat.dvd_of_mod_eq_zero hd
 have e1 : 2 ^ (64 * j + s) = 2 ^ (64 * j) * 2 ^ s := Nat.pow_add _ _ _
 have h64 : (2 : Nat) ^ (s + 1) ∣ 18446744073709551616 := by
   have : (2 : Nat) ^ (s + 1) ∣ 2 ^ 64 := Nat.pow_dvd_pow 2 (by omega)
   exact this
 have p1 := Nat.two_pow_pos (64 * j)
 have h0 : val (l.take j) = 0 := by
   obtain ⟨m, hm⟩ := hdv
   have h1 : (val (l.take j) + 2 ^ (64 * j) * (x + 18446744073709551616 * val (l.drop (j + 1)))) % 2 ^ (64 * j) = 0 := by
     rw [← hv, hm, Nat.mul_assoc, Nat.mul_mod_right]
   rw [Nat.add_mul_mod_self_left, Nat.mod_eq_of_lt ht] at h1
   exact h1
 have hdx : 2 ^ (s + 1) ∣ x := by
   rw [hv, h0, Nat.zero_add] at hdv
   have h1 := Nat.dvd_of_mul_dvd_mul_left p1 hdv
   exact (Nat.dvd_add_left (Nat.dvd_trans h64 (Nat.dvd_mul_right _ _))).1 h1
 obtain ⟨y, hy⟩ := hdx
 have hyx : x = y * 2 ^ (s + 1) := by rw [hy, Nat.mul_comm]
 have hor := or_sum y (2 ^ s) (s + 1) (by omega) (by rw [Nat.pow_succ]; have := Nat.two_pow_pos s; omega) (by rw [← hyx]; exact bx)
 rw [← hyx] at hor
 have hz := hset (x + 2 ^ s) hj
 rw [hx] at hz
 have hw : x + 2 ^ s < 18446744073709551616 := by
   have e3 : (18446744073709551616 : Nat) = 2 ^ (63 - s) * 2 ^ (s + 1) := by rw [← Nat.pow_add, show 63 - s + (s + 1) = 64 by omega]
   have h2 : y * 2 ^ (s + 1) < 2 ^ (63 - s) * 2 ^ (s + 1) := by rw [← e3, ← hyx]; exact bx
   have h3 := Nat.lt_of_mul_lt_mul_right h2
   have h4 : (y + 1) * 2 ^ (s + 1) ≤ 2 ^ (63 - s) * 2 ^ (s + 1) := Nat.mul_le_mul_right _ h3
   rw [← e3, Nat.add_mul, Nat.one_mul, ← hyx, Nat.pow_succ] at h4
   have := Nat.two_pow_pos s
   omega
 refine ⟨x + 2 ^ s, hor, ⟨hw, ?_⟩⟩
 rw [e1]
 rw [Nat.mul_add] at hz
 omega
theorem wd_zeros (n : Nat) : (madeCells (Value.int .u64 0).cells (n * 1)).toList = wd (List.replicate n 0) := by
 rw [Nat.mul_one]
 apply List.ext_getElem
 · simp [madeCells, wd]
 · intro i h1 h2
   simp [madeCells, wd, Value.cells, Nat.mod_one]
theorem words_made {B : Nat} {w : World} {v : Value} {n : Nat} (h : w.ownsRow B 22 1 v n (madeCells (Value.int .u64 0).cells (n * 1)).toList) : Words B w v (List.replicate n 0) := by
 refine ⟨?_, w64_zeros n⟩
 rw [wd_zeros] at h
 simpa using h
theorem mul_word_parts (x y o c : Nat) (bx : x < 18446744073709551616) (by' : y < 18446744073709551616) (bo : o < 18446744073709551616) (bc : c < 18446744073709551616) :
   ∃ h1 l1 c1 l2 h2 c2 l3 h3 : Nat, Hid (x * y / 18446744073709551616 = h1) ∧ Hid (x * y % 18446744073709551616 = l1) ∧ Hid ((l1 + o) % 18446744073709551616 = l2) ∧ Hid ((l1 + o) / 18446744073709551616 = c1) ∧
     IntKind.u64.wrap ((h1 : Int) + (c1 : Int)) = (h2 : Int) ∧ Hid ((l2 + c) % 18446744073709551616 = l3) ∧ Hid ((l2 + c) / 18446744073709551616 = c2) ∧ IntKind.u64.wrap ((h2 : Int) + (c2 : Int)) = (h3 : Int) ∧
     Hid (x * y + o + c = l3 + 18446744073709551616 * h3 ∧ l3 < 18446744073709551616 ∧ h3 < 18446744073709551616) := by
 have hb := mul_word bx by' bo bc
 have hp := prod_le bx by'
 obtain ⟨P, hP⟩ : ∃ P, x * y = P := ⟨_, rfl⟩
 rw [hP] at hb hp ⊢
 clear hP
 refine ⟨_, _, _, _, P / 18446744073709551616 + (P % 18446744073709551616 + o) / 18446744073709551616, _, _, P / 18446744073709551616 + (P % 18446744073709551616 + o) / 18446744073709551616 + ((P % 18446744073709551616 + o) % 18446744073709551616 + c) / 18446744073709551616, rfl, rfl, rfl, rfl, ?_, rfl, rfl, ?_, ⟨?_, ?_, ?_⟩⟩
 · rw [wrap_u64']; omega
 · rw [wrap_u64']; omega
 · omega
 · omega
 · omega
set_option maxRecDepth 100000 in
set_option maxHeartbeats 4000000 in
theorem ref_mul (B C D : Nat) (u v : Value) (n m : Nat) (w : World) (h : Words C w u (limbs n)) (k : Words D w v (limbs m)) (hB : B ≤ w.heap.size) (hn : (limbs n).length ≤ 1000) (hm : (limbs m).length ≤ 1000) :
   Calls Try.prog 85 #[u, v] w (NewWords B (n * m) w) := by
 obtain ⟨i0, hi, hz0, hz1, hz2⟩ := info_parts info_u64
 obtain ⟨p, hp⟩ : ∃ p, limbs n = p := ⟨_, rfl⟩
 obtain ⟨q, hq⟩ : ∃ q, limbs m = q := ⟨_, rfl⟩
 have wp : W64 p := by rw [← hp]; exact limbs_w n
 have wq : W64 q := by rw [← hq]; exact limbs_w m
 have HV : Hid (val p = n ∧ val q = m) := ⟨by rw [← hp, val_limbs], by rw [← hq, val_limbs]⟩
 rw [hp] at h hn
 rw [hq] at k hm
 clear hp hq
 obtain ⟨la, hla⟩ : ∃ la, p.length = la := ⟨_, rfl⟩
 obtain ⟨lb, hlb⟩ : ∃ lb, q.length = lb := ⟨_, rfl⟩
 obtain ⟨N, hN⟩ : ∃ N, la + lb + 1 = N := ⟨_, rfl⟩
 obtain ⟨a, ca, rfl, a1, a2, _⟩ := h.shape la hla
 obtain ⟨b, cb, rfl, b1, b2, _⟩ := k.shape lb hlb
 rw [hla] at hn
 rw [hlb] at hm
 have HA := hide hla
 have HB := hide hlb
 have KA := hide h
 have KB := hide k
 have HZ2 := hide hz2
 have HN := hide hN
 have n1 : la + lb < N := by omega
 have n2 : N ≤ 2001 := by omega
 clear hla hlb h k hz2
 go_enter Try.func85, Try.ntmps85
 go_wp2_with (at_make; refine wpList_make_full _ rfl _ _ 69 rfl w.heap.size 22 i0 (.int .u64 0) 1 Try.underlying69 hi hz0 hz1 _ _ _ _ N rfl rfl (by omega) (by omega) (by rw [HZ2.out]; omega) (by unfold maxLen; omega) (Nat.le_refl _) ?_; intro w1 hown hgr)
 have H1 : Hid (Words w.heap.size w1 (.slice (some ⟨w.heap.size, 0, none⟩) N N) (List.replicate N 0)) := words_made hown
 have E1 := ext_grown hgr (by simp)
 clear hown hgr
 obtain ⟨g, hg⟩ : ∃ g, w.heap.size = g := ⟨_, rfl⟩
 have HG := hide hg
 rw [hg] at H1 hB
 rw [hg]
 clear hg
 go_wp2_with fail
 go_loopw [6] (fun i wr => ∃ (k : Nat) (os : List Nat), i = .int .i64 k ∧ k ≤ la ∧ Hid (RMul p q os k 0 0) ∧ Words g wr (.slice (some ⟨g, 0, none⟩) N N) os ∧ Ext w wr) (fun i _ => la - (intOf i).toNat)
 case atStart => exact ⟨0, List.replicate N 0, rfl, by omega, by have := RMul.start p q; rw [HA.out, HB.out, HN.out] at this; exact this, H1.out, E1⟩
 case round =>
   obtain ⟨k, os, rfl, hk, HR, hW, hE⟩ := hrel
   have HO : Hid (os.length = N) := by rw [← HN.out, ← HA.out, ← HB.out]; exact HR.out.1
   by_cases hkl : k < la
   · obtain ⟨ga, rfl, _, hga, cga, _⟩ := KA.out.at k (by rw [HA.out]; exact hkl)
     obtain ⟨x, hx⟩ : ∃ x, p[k]'(by rw [HA.out]; exact hkl) = x := ⟨_, rfl⟩
     have bx : x < 18446744073709551616 := by rw [← hx]; exact w64_get wp k _
     rw [hx] at cga
     have HX := hide hx
     clear hx
     go_wp2_with fail
     go_loopw [8, 7] (fun j t wr' => ∃ (j' c : Nat) (os : List Nat), j = .int .i64 j' ∧ t = .int .u64 c ∧ j' ≤ lb ∧ c < 18446744073709551616 ∧ Hid (RMul p q os k j' c) ∧ Words g wr' (.slice (some ⟨g, 0, none⟩) N N) os ∧ Ext w wr') (fun j _ _ => lb - (intOf j).toNat)
     case atStart => exact ⟨0, 0, os, rfl, rfl, by omega, by omega, HR, hW, hE⟩
     case round =>
       clear HR hW hE HO
       obtain ⟨j, c, os, rfl, rfl, hj, hc, HR, hW, hE⟩ := hrel
       have HO : Hid (os.length = N) := by rw [← HN.out, ← HA.out, ← HB.out]; exact HR.out.1
       have cgx : wr.cell? ⟨ga, k, none⟩ = _ := (hE.cell (p := ⟨ga, k, none⟩) hga).trans cga
       by_cases hjl : j < lb
       · obtain ⟨gb, rfl, _, hgb, cgb, _⟩ := KB.out.at j (by rw [HB.out]; exact hjl)
         obtain ⟨y, hy⟩ : ∃ y, q[j]'(by rw [HB.out]; exact hjl) = y := ⟨_, rfl⟩
         have by' : y < 18446744073709551616 := by rw [← hy]; exact w64_get wq j _
         rw [hy] at cgb
         have HY := hide hy
         clear hy
         have cgy : wr.cell? ⟨gb, j, none⟩ = _ := (hE.cell (p := ⟨gb, j, none⟩) hgb).trans cgb
         obtain ⟨g', e', _, hg', cg, fg⟩ := hW.at (k + j) (by rw [HO.out]; omega)
         obtain rfl : g = g' := by injection e' with e'; injection e'
         obtain ⟨o, ho⟩ : ∃ o, os[k + j]'(by rw [HO.out]; omega) = o := ⟨_, rfl⟩
         have bo : o < 18446744073709551616 := by rw [← ho]; exact w64_get hW.2 _ _
         rw [ho] at cg
         obtain ⟨h1, l1, c1, l2, h2, c2, l3, h3, e1, e2, e3, e4, e5, e6, e7, e8, e9⟩ := mul_word_parts x y o c bx by' bo hc
         have HS : Hid (RMul p q (os.set (k + j) l3) k (j + 1) h3) := HR.out.step (by rw [HA.out]; exact hkl) (by rw [HB.out]; exact hjl) HX.out HY.out (by rw [HO.out]; omega) ho bx by' e9.out.1 e9.out.2.1
         have r1 := add64_eq0 l1 o l2 c1 e3.out e4.out
         have r2 := add64_eq0 l2 c l3 c2 e6.out e7.out
         have HW := hide (fun n => (hW.ext (ext_drewN wr n)).set HO.out (k + j) l3 e9.out.2.1)
         have HE := hide (fun n => ext_set (hE.trans (ext_drewN wr n)) (g := g) (by rw [HG.out]; exact Nat.le_refl _) (k + j) (.int .u64 (l3 : Int)))
         have b3 := e9.out.2.2
         have bN : k + j < N := by omega
         clear ho HO hW HR
         go_wp2_with fail
         go_quiet ((go_at_call 94; exact Calls.quiet_of_same ((b_mul64 x y h1 l1 _ bx by' e1 e2).mono fun _ _ h => ⟨h.1, h.2.symm⟩)))
         go_wp2_with fail
         exact ⟨⟨j + 1, _, _, by go_num, rfl, by omega, b3, HS, HW.out _, HE.out _⟩, by simp [intOf]; omega⟩
       · obtain rfl : j = lb := by omega
         obtain ⟨g', e', _, hg', cg, fg⟩ := hW.at (k + j) (by rw [HO.out]; omega)
         obtain rfl : g = g' := by injection e' with e'; injection e'
         obtain ⟨o, ho⟩ : ∃ o, os[k + j]'(by rw [HO.out]; omega) = o := ⟨_, rfl⟩
         rw [ho] at cg
         have HS : Hid (RMul p q (os.set (k + j) c) (k + 1) 0 0) := by
           have h := HR.out
           rw [← HB.out] at h ⊢
           exact h.row (by rw [HA.out]; exact hkl)
         have HW := hide (hW.set HO.out (k + j) c hc)
         have HE := hide (ext_set hE (g := g) (by rw [HG.out]; exact Nat.le_refl _) (k + j) (.int .u64 (c : Int)))
         have bN : k + j < N := by omega
         clear ho HO hW HR
         go_wp2_with fail
         exact ⟨⟨k + 1, _, by go_num, by omega, HS, HW.out, HE.out⟩, by simp [intOf]; omega⟩
   · obtain rfl : k = la := by omega
     have H2 : Hid (val os = n * m) := by
       have h := HR.out
       rw [← HA.out] at h
       have h2 := h.done
       rw [HV.out.1, HV.out.2] at h2
       exact h2
     go_wp2_with (go_at_call 48; refine (trim_any _ _ _ _ hW).mono ?_; rintro e w' ⟨v3, rfl, hv3, rfl⟩)
     go_ret
     exact ⟨_, rfl, by rw [← H2.out]; exact hv3.base hB, hE⟩
theorem quo64 (k q r : Nat) (h : k = 64 * q + r) (hr : r < 64) : (k : Int).tdiv 64 = (q : Int) ∧ (k : Int) / 64 = (q : Int) ∧ (k : Int).tmod 64 = (r : Int) ∧ (k : Int) % 64 = (r : Int) := by
 have h1 : (k : Int).tdiv 64 = (k : Int) / 64 := Int.tdiv_eq_ediv_of_nonneg (by omega)
 have h2 : (k : Int).tmod 64 = (k : Int) % 64 := Int.tmod_eq_emod_of_nonneg (by omega)
 rw [h1, h2]
 omega
set_option maxRecDepth 100000 in
set_option maxHeartbeats 4000000 in
theorem ref_up (B C : Nat) (u : Value) (n k : Nat) (w : World) (h : Words C w u (limbs n)) (hB : B ≤ w.heap.size) (hn : (limbs n).length ≤ 1000) (hk : k ≤ 100000) :
   Calls Try.prog 65 #[u, .int .i64 (k : Int)] w (NewWords B (n * 2 ^ k) w) := by
 obtain ⟨i0, hi, hz0, hz1, hz2⟩ := info_parts info_u64
 obtain ⟨p, hp⟩ : ∃ p, limbs n = p := ⟨_, rfl⟩
 have wp : W64 p := by rw [← hp]; exact limbs_w n
 have HV : Hid (val p = n) := by rw [← hp]; exact val_limbs n
 rw [hp] at h hn
 clear hp
 obtain ⟨la, hla⟩ : ∃ la, p.length = la := ⟨_, rfl⟩
 obtain ⟨q, r, hqr, hr⟩ : ∃ q r, k = 64 * q + r ∧ r < 64 := ⟨k / 64, k % 64, by omega, by omega⟩
 obtain ⟨N, hN⟩ : ∃ N, la + q + 1 = N := ⟨_, rfl⟩
 obtain ⟨a, ca, rfl, a1, a2, _⟩ := h.shape la hla
 rw [hla] at hn
 obtain ⟨t1, t2, t3, t4⟩ := quo64 k q r hqr hr
 have HA := hide hla
 have KA := hide h
 have HZ2 := hide hz2
 have HN := hide hN
 have HQ := hide hqr
 have n1 : la + q < N := by omega
 have n2 : N ≤ 100000 := by omega
 have n3 : q ≤ 10000 := by omega
 clear hla h hz2 hqr
 go_enter Try.func65, Try.ntmps65
 go_wp2_with (at_make; refine wpList_make_full _ rfl _ _ 69 rfl w.heap.size 22 i0 (.int .u64 0) 1 Try.underlying69 hi hz0 hz1 _ _ _ _ N rfl rfl (by omega) (by omega) (by rw [HZ2.out]; omega) (by unfold maxLen; omega) (Nat.le_refl _) ?_; intro w1 hown hgr)
 have H1 : Hid (Words w.heap.size w1 (.slice (some ⟨w.heap.size, 0, none⟩) N N) (List.replicate N 0)) := words_made hown
 have E1 := ext_grown hgr (by simp)
 clear hown hgr hN
 obtain ⟨g, hg⟩ : ∃ g, w.heap.size = g := ⟨_, rfl⟩
 have HG := hide hg
 rw [hg] at H1 hB
 rw [hg]
 clear hg
 go_wp2_with fail
 go_loopw [6] (fun i wr => ∃ (j : Nat) (os : List Nat), i = .int .i64 j ∧ j ≤ la ∧ Hid (RUp p os q r j) ∧ Words g wr (.slice (some ⟨g, 0, none⟩) N N) os ∧ Ext w wr) (fun i _ => la - (intOf i).toNat)
 case atStart => exact ⟨0, List.replicate N 0, rfl, by omega, by have := RUp.start p q r; rw [HA.out, HN.out] at this; exact this, H1.out, E1⟩
 case round =>
   obtain ⟨j, os, rfl, hj, HR, hW, hE⟩ := hrel
   have HO : Hid (os.length = N) := by rw [← HN.out, ← HA.out]; exact HR.out.1
   by_cases hjl : j < la
   · obtain ⟨ga, rfl, _, hga, cga, _⟩ := KA.out.at j (by rw [HA.out]; exact hjl)
     obtain ⟨x, hx⟩ : ∃ x, p[j]'(by rw [HA.out]; exact hjl) = x := ⟨_, rfl⟩
     have bx : x < 18446744073709551616 := by rw [← hx]; exact w64_get wp j _
     rw [hx] at cga
     have HX := hide hx
     clear hx
     have cgx : wr.cell? ⟨ga, j, none⟩ = _ := (hE.cell (p := ⟨ga, j, none⟩) hga).trans cga
     have hne : ga ≠ g := by have := HG.out; omega
     obtain ⟨g', e', _, hg', cg, fg⟩ := hW.at (j + q) (by rw [HO.out]; omega)
     obtain rfl : g = g' := by injection e' with e'; injection e'
     obtain ⟨g', e', _, _, cg1, fg1⟩ := hW.at (j + q + 1) (by rw [HO.out]; omega)
     obtain rfl : g = g' := by injection e' with e'; injection e'
     obtain ⟨o, ho⟩ : ∃ o, os[j + q]'(by rw [HO.out]; omega) = o := ⟨_, rfl⟩
     have ho1 : os[j + q + 1]'(by rw [HO.out]; omega) = 0 := get_of_getD (by rw [HO.out]; omega) (HR.out.2.2.2.1 _ (by omega))
     rw [ho] at cg
     rw [ho1] at cg1
     have HOO : Hid (os.getD (j + q) 0 = o) := getD_of_get (by rw [HO.out]; omega) ho
     obtain ⟨l, t, z, z1, z2, z3, z4, HZ⟩ := shl_or x r o hr bx (by rw [← HOO.out]; exact HR.out.2.2.1)
     have HS := hide (HR.out.step (by rw [HA.out]; exact hjl) HX.out HOO.out HZ.out.1 HZ.out.2.1 HZ.out.2.2.1 hr)
     have bN : j + q < N := by omega
     have bN1 : j + q + 1 < N := by omega
     clear ho ho1
     by_cases hr0 : r = 0
     · have hr1 : ¬ ((0 : Int) < (r : Int)) := by omega
       have HT : Hid (t = 0) := by
         have := HZ.out.2.2.1
         rw [hr0] at this
         unfold Hid; omega
       have HSS : Hid ((os.set (j + q) z).set (j + q + 1) t = os.set (j + q) z) := by
         rw [HT.out]
         exact set_same _ _ _ (by rw [getD_set_ne _ _ _ _ (by omega)]; exact HR.out.2.2.2.1 _ (by omega))
       have HW := hide (hW.set HO.out (j + q) z HZ.out.2.1)
       have HE := hide (ext_set hE (g := g) (by rw [HG.out]; exact Nat.le_refl _) (j + q) (.int .u64 (z : Int)))
       have HR0 := hide hr0
       clear hr0
       go_wp2_with fail
       go_region
       go_wp2_with fail
       exact ⟨⟨j + 1, _, by go_num, by omega, by rw [← HSS.out]; exact HS, HW.out, HE.out.trans (ext_drew _)⟩, by simp [intOf]; omega⟩
     · have hr1 : (0 : Int) < (r : Int) := by omega
       have HW := hide ((hW.set HO.out (j + q) z HZ.out.2.1).set (by rw [List.length_set]; exact HO.out) (j + q + 1) t HZ.out.2.2.2)
       have HE := hide (ext_set (ext_set hE (g := g) (by rw [HG.out]; exact Nat.le_refl _) (j + q) (.int .u64 (z : Int))) (g := g) (by rw [HG.out]; exact Nat.le_refl _) (j + q + 1) (.int .u64 (t : Int)))
       have HR0 := hide hr0
       clear hr0
       go_wp2_with fail
       go_region
       go_wp2_with fail
       go_region
       go_wp2_with fail
       exact ⟨⟨j + 1, _, by go_num, by omega, HS, HW.out, (HE.out.trans (ext_drew _)).trans (ext_drew _)⟩, by simp [intOf]; omega⟩
   · obtain rfl : j = la := by omega
     have H2 : Hid (val os = n * 2 ^ k) := by
       have h := HR.out
       rw [← HA.out] at h
       have h2 := h.done
       rw [HV.out, ← HQ.out] at h2
       exact h2
     go_wp2_with (go_at_call 48; refine (trim_any _ _ _ _ hW).mono ?_; rintro e w' ⟨v3, rfl, hv3, rfl⟩)
     go_ret
     exact ⟨_, rfl, by rw [← H2.out]; exact hv3.base hB, hE⟩
def Apart (g : Nat) (v : Value) : Prop := ∀ g' n c, v = .slice (some ⟨g', 0, none⟩) n c → g' ≠ g
theorem Words.upd {B g : Nat} {w w' : World} {v : Value} {l : List Nat} (h : Words B w v l) (k : Upd g w w') (ha : Apart g v) : Words B w' v l := by
 refine ⟨?_, h.2⟩
 obtain ⟨h1, h2 | ⟨g', cap, cur, hv, hg, hh, r⟩⟩ := h.1
 · exact ⟨h1, Or.inl h2⟩
 · have hlt := (h.1.lt g' (by rw [hv]; rfl)).2
   exact ⟨h1, Or.inr ⟨g', cap, cur, hv, hg, by rw [k.2.2.2.2 g' hlt (ha _ _ _ hv)]; exact hh, r⟩⟩
theorem Words.apart {B g : Nat} {w : World} {v : Value} {l : List Nat} (h : Words B w v l) (hg : w.heap.size ≤ g) : Apart g v := by
 rintro g' n c rfl
 have := (h.1.lt g' rfl).2
 omega
theorem Words.apart' {B g : Nat} {w : World} {v : Value} {l : List Nat} (h : Words B w v l) (hg : g < B) : Apart g v := by
 rintro g' n c rfl
 have := (h.1.lt g' rfl).1
 omega
def AtWords (B g cap : Nat) (l : List Nat) (w : World) (e : Ending) (w' : World) : Prop := e = .returned (.slice (some ⟨g, 0, none⟩) l.length cap) ∧ Words B w' (.slice (some ⟨g, 0, none⟩) l.length cap) l ∧ w = w'
theorem trim_at (B g cap : Nat) (l : List Nat) (w : World) (h : Words B w (.slice (some ⟨g, 0, none⟩) l.length cap) l) : Calls Try.prog 48 #[.slice (some ⟨g, 0, none⟩) l.length cap] w (AtWords B g cap (limbs (val l)) w) := by
 go_enter Try.func48, Try.ntmps48
 go_wp2_with fail
 go_loop [0] (fun v => ∃ m, v = .slice (some ⟨g, 0, none⟩) m.length cap ∧ Words B w (.slice (some ⟨g, 0, none⟩) m.length cap) m ∧ val m = val l) (fun v => lenOf v)
 case atStart => exact ⟨l, rfl, h, rfl⟩
 case round =>
   obtain ⟨m, rfl, hm, e⟩ := hrel
   rcases nil_or_snoc m with rfl | ⟨r, x, rfl⟩
   · have HE : Hid (limbs (val l) = []) := by rw [← e]; simp [Hid, val, limbs_zero]
     clear e
     go_wp2
     go_ret
     exact ⟨by rw [HE.out]; rfl, by rw [HE.out]; exact hm, rfl⟩
   · obtain ⟨g', cap', e', h1, h2, h3, h4, hc, hf⟩ := hm.pos (r.length + 1) (by simp) (by omega)
     simp only [List.length_append, List.length_cons, List.length_nil, Nat.zero_add, Value.slice.injEq, Option.some.injEq, Addr.mk.injEq, and_true, true_and] at e'
     obtain ⟨rfl, rfl⟩ := e'
     have hx := hc r.length (by simp)
     rw [show (r ++ [x])[r.length]'(by simp) = x by simp] at hx
     have hl : (r ++ [x]).length = r.length + 1 := by simp
     rw [hl] at hm ⊢
     have hpop := hm.pop
     clear hc hf
     by_cases hz : x = 0
     · subst hz
       have e2 : val r = val l := by rw [← e, val_snoc]; simp
       have HE := (show Hid _ from e2)
       clear e e2
       go_wp2
       exact ⟨⟨r, rfl, hpop, HE.out⟩, by simp [lenOf]⟩
     · have hz' : ((x : Int) == 0) = false := by simp; omega
       have e2 : limbs (val (r ++ [x])) = r ++ [x] := limbs_of _ hm.2 (by simp [hz])
       have HE : Hid (limbs (val l) = r ++ [x]) := by rw [← e]; exact e2
       clear e e2
       go_wp2
       go_ret
       exact ⟨by rw [HE.out, hl]; rfl, by rw [HE.out, hl]; exact hm, rfl⟩
theorem half_parts (x y : Nat) (hx : x < 18446744073709551616) (hy : y < 18446744073709551616) :
   ∃ h l z : Nat, (x : Int) / 2 = (h : Int) ∧ IntKind.u64.wrap ((y : Int) * 9223372036854775808) = (l : Int) ∧ bits .or .u64 (h : Int) (l : Int) = (z : Int) ∧ Hid (h = x / 2 ∧ z = x / 2 + 9223372036854775808 * (y % 2) ∧ z < 18446744073709551616 ∧ h < 9223372036854775808) := by
 have e63 : (2 : Nat) ^ 63 = 9223372036854775808 := by decide
 obtain ⟨k, b, hk, hb⟩ : ∃ k b, y = 2 * k + b ∧ b < 2 := ⟨y / 2, y % 2, by omega, by omega⟩
 have hyb : y % 2 = b := by omega
 obtain ⟨h, m, hh, hm⟩ : ∃ h m, x = 2 * h + m ∧ m < 2 := ⟨x / 2, x % 2, by omega, by omega⟩
 have hxh : x / 2 = h := by omega
 have h1 : b * 2 ^ 63 < 18446744073709551616 := by rw [e63]; omega
 have ho := or_sum b h 63 (by omega) (by rw [e63]; omega) h1
 rw [e63] at ho
 have hw : IntKind.u64.wrap ((y : Int) * 9223372036854775808) = ((b * 9223372036854775808 : Nat) : Int) := by
   rw [wrap_u64', hk]
   have e : ((2 * k + b : Nat) : Int) * 9223372036854775808 = (b : Int) * 9223372036854775808 + 18446744073709551616 * (k : Int) := by push_cast; omega
   rw [e, Int.add_mul_emod_self_left, Int.natCast_mul]
   exact Int.emod_eq_of_lt (by omega) (by omega)
 rw [hyb, hxh]
 have ho2 := (or_comm' _ _).trans ho
 have h2 : (x : Int) / 2 = (h : Int) := by omega
 have h3 : b * 9223372036854775808 + h = h + 9223372036854775808 * b := (Nat.add_comm _ _).trans (congrArg (h + ·) (Nat.mul_comm _ _))
 have h4 : b * 9223372036854775808 ≤ 1 * 9223372036854775808 := Nat.mul_le_mul_right _ (by omega)
 have h5 : h < 9223372036854775808 := by omega
 have h6 : b * 9223372036854775808 + h < 18446744073709551616 := Nat.lt_of_lt_of_le (Nat.add_lt_add_of_le_of_lt h4 h5) (by decide)
 exact ⟨h, _, _, h2, hw, ho2, ⟨rfl, h3, h6, h5⟩⟩
def HalfRet (B g cap n : Nat) (w : World) (e : Ending) (w' : World) : Prop := e = .returned (.slice (some ⟨g, 0, none⟩) (limbs n).length cap) ∧ Words B w' (.slice (some ⟨g, 0, none⟩) (limbs n).length cap) (limbs n) ∧ Upd g w w'
set_option maxRecDepth 100000 in
set_option maxHeartbeats 4000000 in
theorem ref_half (B g cap n : Nat) (w : World) (h : Words B w (.slice (some ⟨g, 0, none⟩) (limbs n).length cap) (limbs n)) (hn : (limbs n).length ≤ 1000) :
   Calls Try.prog 66 #[.slice (some ⟨g, 0, none⟩) (limbs n).length cap] w (HalfRet B g cap (n / 2) w) := by
 obtain ⟨p, hp⟩ : ∃ p, limbs n = p := ⟨_, rfl⟩
 have wp : W64 p := by rw [← hp]; exact limbs_w n
 have HV : Hid (val p = n) := by rw [← hp]; exact val_limbs n
 rw [hp] at h hn ⊢
 clear hp
 obtain ⟨L, hL⟩ : ∃ L, p.length = L := ⟨_, rfl⟩
 rw [hL] at h hn ⊢
 have HL := hide hL
 have HH := hide h
 obtain ⟨_, _, e', hc1, hc2, _⟩ := h.shape L hL
 simp only [Value.slice.injEq] at e'
 obtain ⟨rfl, _, rfl⟩ := e'
 clear hL h
 go_enter Try.func66, Try.ntmps66
 go_wp2_with fail
 go_loopw [3] (fun i wr => ∃ (j : Nat) (os : List Nat), i = .int .i64 j ∧ j ≤ L ∧ Hid (RHalf p os j) ∧ Words B wr (.slice (some ⟨g, 0, none⟩) L cap) os ∧ Upd g w wr) (fun i _ => L - (intOf i).toNat)
 case atStart => exact ⟨0, p, rfl, by omega, RHalf.start p wp, HH.out, Upd.refl _ _⟩
 case round =>
   obtain ⟨j, os, rfl, hj, HR, hW, hU⟩ := hrel
   have HO : Hid (os.length = L) := by rw [← HL.out]; exact HR.out.1
   by_cases hjl : j < L
   · obtain ⟨g', e', _, _, cg, fg⟩ := hW.at j (by rw [HO.out]; exact hjl)
     obtain rfl : g = g' := by injection e' with e'; injection e'
     obtain ⟨x, hx⟩ : ∃ x, p[j]'(by rw [HL.out]; exact hjl) = x := ⟨_, rfl⟩
     have bx : x < 18446744073709551616 := by rw [← hx]; exact w64_get wp j _
     have hox : os[j]'(by rw [HO.out]; exact hjl) = x := by rw [← hx]; exact (drop_get HR.out.2.2.1 (by rw [HO.out]; exact hjl) (by rw [HL.out]; exact hjl)).1
     rw [hox] at cg
     have HX := hide hx
     clear hx hox
     by_cases hj1 : j + 1 < L
     · obtain ⟨g', e', _, _, cg1, fg1⟩ := hW.at (j + 1) (by rw [HO.out]; exact hj1)
       obtain rfl : g = g' := by injection e' with e'; injection e'
       obtain ⟨y, hy⟩ : ∃ y, p[j + 1]'(by rw [HL.out]; exact hj1) = y := ⟨_, rfl⟩
       have by' : y < 18446744073709551616 := by rw [← hy]; exact w64_get wp (j + 1) _
       have hoy : os[j + 1]'(by rw [HO.out]; exact hj1) = y := by
         have := (drop_get HR.out.2.2.1 (by rw [HO.out]; exact hjl) (by rw [HL.out]; exact hjl)).2
         rw [← hy]; exact (drop_get this (by rw [HO.out]; exact hj1) (by rw [HL.out]; exact hj1)).1
       rw [hoy] at cg1
       obtain ⟨h, l, z, z1, z2, z3, HZ⟩ := half_parts x y bx by'
       have HS := hide (HR.out.step (z := z) (by rw [HL.out]; exact hjl) HX.out (by rw [getD_of_get (by rw [HL.out]; exact hj1) hy]; exact HZ.out.2.1) bx)
       have hW2 := (hW.set HO.out j h (by have := HZ.out.2.2.2; omega)).set (by rw [List.length_set]; exact HO.out) j z HZ.out.2.2.1
       rw [List.set_set] at hW2
       have HW := hide hW2.drew
       clear hW2
       have HU := hide ((hU.set j (.int .u64 (h : Int))).set j (.int .u64 (z : Int)))
       have HY := hide hy
       clear hy hoy
       go_wp2_with fail
       go_region
       go_wp2_with fail
       exact ⟨⟨j + 1, _, by go_num, by omega, HS, HW.out, HU.out.drew⟩, by simp [intOf]; omega⟩
     · obtain ⟨h, l, z, z1, z2, z3, HZ⟩ := half_parts x 0 bx (by omega)
       have hz : z = h := by have h1 := HZ.out.1; have h2 := HZ.out.2.1; omega
       have HS := hide (HR.out.step (z := h) (by rw [HL.out]; exact hjl) HX.out (by rw [show p.getD (j + 1) 0 = 0 by simp [List.getD, show p.length ≤ j + 1 by rw [HL.out]; omega]]; rw [← hz]; exact HZ.out.2.1) bx)
       have HW := hide (hW.set HO.out j h (by have := HZ.out.2.2.2; omega))
       have HU := hide (hU.set j (.int .u64 (h : Int)))
       clear hz z2 z3
       go_wp2_with fail
       exact ⟨⟨j + 1, _, by go_num, by omega, HS, HW.out, HU.out⟩, by simp [intOf]; omega⟩
   · obtain rfl : j = L := by omega
     have H2 : Hid (val os = n / 2) := by
       have h := HR.out
       rw [← HL.out] at h
       rw [h.done, HV.out]
       exact rfl
     have HLO := HO.out
     subst HLO
     go_wp2_with (go_at_call 48; refine (trim_at B g cap os _ hW).mono ?_; rintro e w' ⟨rfl, hv3, rfl⟩; rw [H2.out] at hv3 ⊢)
     go_ret
     exact ⟨rfl, hv3, hU⟩
theorem b_len (x : Nat) (w : World) (hx : x < 18446744073709551616) (h0 : 0 < x) : Calls Try.prog 75 #[.int .u64 (x : Int)] w fun e w' => ∃ s : Nat, e = .returned (.int .i64 (s : Int)) ∧ 1 ≤ s ∧ s ≤ 64 ∧ x < 2 ^ s ∧ 2 ^ (s - 1) ≤ x ∧ w = w' := by
 refine (Go.Proofs.Any.bits_Len64 (P := Try.prog) (ρ := lzRen) { lzLays with } (x : Int) w (by omega) (by omega)).mono ?_
 rintro e w' ⟨rfl, rfl⟩
 obtain ⟨i1, i2, i3⟩ := bitLen_spec x hx
 obtain ⟨j1, j2⟩ := i3 (by omega)
 exact ⟨Lib.bitLen x, by rw [Int.toNat_natCast], j1, i1, i2, j2, rfl⟩
def SizeRet (n : Nat) (w : World) (e : Ending) (w' : World) : Prop := ∃ s : Nat, e = .returned (.int .i64 (s : Int)) ∧ Size n s ∧ s ≤ 64000 ∧ w = w'
set_option maxHeartbeats 4000000 in
theorem ref_size (B n : Nat) (v : Value) (w : World) (h : Words B w v (limbs n)) (hn : (limbs n).length ≤ 1000) : Calls Try.prog 64 #[v] w (SizeRet n w) := by
 obtain ⟨p, hp⟩ : ∃ p, limbs n = p := ⟨_, rfl⟩
 have wp : W64 p := by rw [← hp]; exact limbs_w n
 have HV : Hid (val p = n) := by rw [← hp]; exact val_limbs n
 have hlast := limbs_last n
 rw [hp] at h hn hlast
 clear hp
 rcases nil_or_snoc p with rfl | ⟨r, x, rfl⟩
 · obtain ⟨a, cap, rfl, _⟩ := h.nil
   go_enter Try.func64, Try.ntmps64
   go_wp2_with fail
   go_ret
   exact ⟨0, rfl, ⟨by rw [← HV.out]; simp [val], by rw [← HV.out]; simp [val], fun _ => rfl⟩, by omega, rfl⟩
 · obtain ⟨L, hL⟩ : ∃ L, r.length = L := ⟨_, rfl⟩
   have bx : x < 18446744073709551616 := wp x (by simp)
   have hx0 : 0 < x := by
     rcases Nat.eq_zero_or_pos x with h0 | h0
     · subst h0; simp at hlast
     · exact h0
   obtain ⟨g, cap, rfl, h1, h2, h3, h4, hc, hf⟩ := h.pos (L + 1) (by simp [hL]) (by omega)
   have hcx := hc L (by simp [hL])
   rw [show (r ++ [x])[L]'(by simp [hL]) = x by subst hL; simp] at hcx
   have hL2 : L ≤ 999 := by simp [hL] at hn; omega
   have HL := hide hL
   have wr : W64 r := fun y hy => wp y (by simp [hy])
   clear hc hf hn hlast hL h
   go_enter Try.func64, Try.ntmps64
   go_wp2_with (go_at_call 75; refine (b_len x _ bx hx0).mono ?_; rintro e w' ⟨k, rfl, k1, k2, k3, k4, rfl⟩; have K3 := hide k3; have K4 := hide k4; clear k3 k4)
   go_ret
   exact ⟨64 * L + k, by rfl, by rw [← HV.out, ← HL.out]; exact size_words r x k wr K3.out k1 K4.out, by omega, rfl⟩
def RDiv (p os : List Nat) (y k c : Nat) : Prop := os.length = p.length ∧ W64 os ∧ c < y ∧ val (os.drop k) * y + c = val (p.drop k)
theorem RDiv.start (p : List Nat) (y : Nat) (hy : 0 < y) : RDiv p (List.replicate p.length 0) y p.length 0 :=
 ⟨by simp, w64_zeros _, hy, by rw [List.drop_of_length_le (by simp), List.drop_of_length_le (Nat.le_refl _)]; simp [val]⟩
theorem RDiv.step {p os : List Nat} {y j c x q r : Nat} (h : RDiv p os y (j + 1) c) (hj : j < p.length) (hx : p[j] = x) (bx : x < 18446744073709551616) (hq : (c * 18446744073709551616 + x) / y = q) (hr : (c * 18446744073709551616 + x) % y = r) :
   RDiv p (os.set j q) y j r ∧ q < 18446744073709551616 := by
 obtain ⟨h1, h2, h3, h4⟩ := h
 have hq2 : q < 18446744073709551616 := by
   rw [← hq, Nat.div_lt_iff_lt_mul (by omega)]
   have : (c + 1) * 18446744073709551616 ≤ y * 18446744073709551616 := Nat.mul_le_mul_right _ h3
   omega
 refine ⟨⟨by simpa using h1, w64_set h2 _ _ hq2, by rw [← hr]; exact Nat.mod_lt _ (by omega), ?_⟩, hq2⟩
 have hl : j < (os.set j q).length := by rw [List.length_set]; omega
 rw [val_drop _ j hl, List.getElem_set_self, drop_set, val_drop p j hj, hx, ← h4]
 have e := Nat.div_add_mod (c * 18446744073709551616 + x) y
 rw [hq, hr] at e
 generalize val (os.drop (j + 1)) = V at *
 rw [Nat.add_mul, Nat.mul_assoc, Nat.mul_add]
 rw [Nat.mul_comm q y]
 omega
theorem RDiv.done {p os : List Nat} {y c : Nat} (h : RDiv p os y 0 c) : val os = val p / y ∧ c = val p % y := by
 obtain ⟨_, _, h3, h4⟩ := h
 simp only [List.drop_zero] at h4
 rw [← h4]
 have e1 : (val os * y + c) / y = val os := by rw [Nat.mul_comm, Nat.mul_add_div (by omega), Nat.div_eq_of_lt h3, Nat.add_zero]
 have e2 : (val os * y + c) % y = c := by rw [Nat.mul_comm, Nat.mul_add_mod, Nat.mod_eq_of_lt h3]
 exact ⟨e1.symm, e2.symm⟩
def DivWords (B n m : Nat) (w : World) (e : Ending) (w' : World) : Prop := ∃ v1 v2, e = .returned (.tuple #[v1, v2]) ∧ Words B w' v1 (limbs (n / m)) ∧ Words B w' v2 (limbs (n % m)) ∧ Ext w w'
theorem words_none (B : Nat) (w : World) : Words B w (.slice none 0 0) [] := ⟨⟨by simp [wd], Or.inl ⟨rfl, rfl⟩⟩, by intro x hx; simp at hx⟩
theorem limbs_one (y : Nat) (h0 : 0 < y) (hy : y < 18446744073709551616) : limbs y = [y] := by
 rw [limbs_pos (by omega), Nat.mod_eq_of_lt hy, Nat.div_eq_of_lt hy, limbs_zero]
set_option maxRecDepth 100000 in
set_option maxHeartbeats 4000000 in
theorem ref_div1 (B C D : Nat) (u v : Value) (n y : Nat) (w : World) (h : Words C w u (limbs n)) (k : Words D w v [y]) (hB : B ≤ w.heap.size) (hn : (limbs n).length ≤ 1000) (h0 : 0 < y) :
   Calls Try.prog 46 #[u, v] w (DivWords B n y w) := by
 obtain ⟨i0, hi, hz0, hz1, hz2⟩ := info_parts info_u64
 obtain ⟨p, hp⟩ : ∃ p, limbs n = p := ⟨_, rfl⟩
 have wp : W64 p := by rw [← hp]; exact limbs_w n
 have HV : Hid (val p = n) := by rw [← hp]; exact val_limbs n
 rw [hp] at h hn
 clear hp
 have hy : y < 18446744073709551616 := k.2 y (by simp)
 obtain ⟨la, hla⟩ : ∃ la, p.length = la := ⟨_, rfl⟩
 obtain ⟨a, ca, rfl, a1, a2, _⟩ := h.shape la hla
 obtain ⟨gb, cb, rfl, b1, b2, b3, b4, hcb, _⟩ := k.pos 1 rfl (by omega)
 have cgb := hcb 0 (by simp)
 simp only [List.getElem_cons_zero] at cgb
 rw [hla] at hn
 have HA := hide hla
 have KA := hide h
 have HZ2 := hide hz2
 clear hla h hz2 hcb k
 go_enter Try.func46, Try.ntmps46
 go_wp2_with (at_make; refine wpList_make_full _ rfl _ _ 69 rfl w.heap.size 22 i0 (.int .u64 0) 1 Try.underlying69 hi hz0 hz1 _ _ _ _ la rfl rfl rfl rfl (by rw [HZ2.out]; omega) (by unfold maxLen; omega) (Nat.le_refl _) ?_; intro w1 hown hgr)
 have H1 : Hid (Words w.heap.size w1 (.slice (some ⟨w.heap.size, 0, none⟩) la la) (List.replicate la 0)) := words_made hown
 have E1 := ext_grown hgr (by simp)
 clear hown hgr
 obtain ⟨g, hg⟩ : ∃ g, w.heap.size = g := ⟨_, rfl⟩
 have HG := hide hg
 rw [hg] at H1 hB b4
 rw [hg]
 clear hg
 go_wp2_with fail
 go_loopw [7, 8] (fun t i wr => ∃ (j c : Nat) (os : List Nat), i = .int .i64 ((j : Int) - 1) ∧ t = .int .u64 c ∧ j ≤ la ∧ c < y ∧ Hid (RDiv p os y j c) ∧ Words g wr (.slice (some ⟨g, 0, none⟩) la la) os ∧ Ext w wr) (fun _ i _ => (intOf i + 1).toNat)
 case atStart => exact ⟨la, 0, List.replicate la 0, rfl, rfl, by omega, h0, by have := RDiv.start p y h0; rw [HA.out] at this; exact this, H1.out, E1⟩
 case round =>
   obtain ⟨j, c, os, rfl, rfl, hj, hc, HR, hW, hE⟩ := hrel
   have HO : Hid (os.length = la) := by rw [← HA.out]; exact HR.out.1
   by_cases hj0 : j = 0
   · subst hj0
     have H2 : Hid (val os = n / y ∧ c = n % y) := by have := HR.out.done; rw [HV.out] at this; exact this
     have H3 : Hid (limbs (val [c]) = limbs (n % y)) := by rw [← H2.out.2]; simp [Hid, val]
     have H4 := hide (words_one wr.heap.size wr c wr.heap.size rfl (Nat.le_refl _) (by omega))
     have hE2 := hide (ext_alloc wr (.cells #[.int .u64 (c : Int)] 22))
     go_wp2_with (first
       | (go_at_call 48; (with_reducible refine (trim_any _ _ _ _ hW).mono ?_); rintro e w' ⟨v3, rfl, hv3, rfl⟩; have hv4 := hide (hv3.ext hE2.out))
       | (go_at_call 48; refine (trim_any _ _ _ _ H4.out).mono ?_; rintro e w' ⟨v5, rfl, hv5, rfl⟩))
     go_ret2
     exact ⟨_, _, rfl, by rw [← H2.out.1]; exact hv4.out.base hB, by rw [← H3.out]; exact hv5.base (Nat.le_trans hB (by rw [← HG.out]; exact hE.size)), hE.trans hE2.out⟩
   · obtain ⟨j, rfl⟩ : ∃ i, j = i + 1 := ⟨j - 1, by omega⟩
     have hjl : j < la := by omega
     obtain ⟨ga, rfl, _, hga, cga, _⟩ := KA.out.at j (by rw [HA.out]; exact hjl)
     obtain ⟨x, hx⟩ : ∃ x, p[j]'(by rw [HA.out]; exact hjl) = x := ⟨_, rfl⟩
     have bx : x < 18446744073709551616 := by rw [← hx]; exact w64_get wp j _
     rw [hx] at cga
     have cgx : wr.cell? ⟨ga, j, none⟩ = _ := (hE.cell (p := ⟨ga, j, none⟩) hga).trans cga
     have cgy : wr.cell? ⟨gb, 0, none⟩ = _ := (hE.cell (p := ⟨gb, 0, none⟩) (by rw [HG.out]; exact b4)).trans cgb
     obtain ⟨g', e', _, _, cg, fg⟩ := hW.at j (by rw [HO.out]; exact hjl)
     obtain rfl : g = g' := by injection e' with e'; injection e'
     obtain ⟨o, ho⟩ : ∃ o, os[j]'(by rw [HO.out]; omega) = o := ⟨_, rfl⟩
     rw [ho] at cg
     obtain ⟨q, hq⟩ : ∃ q, (c * 18446744073709551616 + x) / y = q := ⟨_, rfl⟩
     obtain ⟨r, hr⟩ : ∃ r, (c * 18446744073709551616 + x) % y = r := ⟨_, rfl⟩
     have HS := hide (HR.out.step (by rw [HA.out]; exact hjl) hx bx hq hr)
     have br : r < y := HS.out.1.2.2.1
     have HQ := hide hq
     have HRR := hide hr
     clear ho hx hq hr
     go_wp2_with fail
     go_region_with (go_at_call 63; refine (b_div64 c x y q r _ hc hy bx HQ HRR).mono ?_; rintro e w2 ⟨rfl, hE2⟩; have hW2 := hW.drew.ext hE2; have EE2 := hE.trans ((ext_drew _).trans hE2); obtain ⟨g', e', _, _, cg2, fg2⟩ := hW2.at j (by rw [HO.out]; exact hjl); obtain rfl : g = g' := (by injection e' with e'; injection e'))
     all_goals go_wp2_with fail
     all_goals exact ⟨⟨j, r, _, rfl, rfl, by omega, br, HS.out.1, hW2.set HO.out j q HS.out.2, ext_set EE2 (g := g) (by rw [HG.out]; exact Nat.le_refl _) j (.int .u64 (q : Int))⟩, by first | (simp [intOf]; done) | (simp [intOf]; omega)⟩
theorem half_of (m j : Nat) : m * 2 ^ (j + 1) / 2 = m * 2 ^ j := by
 rw [Nat.pow_succ, ← Nat.mul_assoc, Nat.mul_div_cancel _ (by omega)]
theorem apart_at {g gd n c : Nat} (h : g ≠ gd) : Apart gd (.slice (some ⟨g, 0, none⟩) n c) := by
 rintro g' n' c' e
 simp only [Value.slice.injEq, Option.some.injEq, Addr.mk.injEq] at e
 omega
theorem bit_in {j n la : Nat} (h : 2 ^ j ≤ n) (hn : n < 18446744073709551616 ^ la) : j < 64 * la := by
 have e : 18446744073709551616 ^ la = 2 ^ (64 * la) := by rw [Nat.pow_mul]
 rw [e] at hn
 exact (Nat.pow_lt_pow_iff_right (by omega)).1 (Nat.lt_of_le_of_lt h hn)
theorem one_shl (s : Nat) (hs : s < 64) : ∃ t : Nat, IntKind.u64.wrap ((2 : Int) ^ s) = (t : Int) ∧ IntKind.u64.wrap (1 * (2 : Int) ^ s) = (t : Int) ∧ Hid (t = 2 ^ s) := by
 have h1 : 2 ^ s < 18446744073709551616 := Nat.lt_of_le_of_lt (Nat.pow_le_pow_right (by omega) (show s ≤ 63 by omega)) (by decide)
 have h2 : ((2 : Int) ^ s) = ((2 ^ s : Nat) : Int) := by rw [Int.natCast_pow]; rfl
 have h3 : IntKind.u64.wrap ((2 : Int) ^ s) = ((2 ^ s : Nat) : Int) := by
   rw [h2, wrap_u64']
   generalize 2 ^ s = t at *
   omega
 exact ⟨2 ^ s, h3, by rw [Int.one_mul]; exact h3, rfl⟩
theorem size_pos {n s : Nat} (h : Size n s) (h1 : 1 ≤ s) : n ≠ 0 := fun e => by have := h.2.2 e; omega
theorem up_lt {n m s1 s2 z la : Nat} (h1 : Size n s1) (h2 : Size m s2) (hz : s1 = s2 + z) (h3 : 1 ≤ s2) (hl : (limbs n).length = la) : m * 2 ^ z < 18446744073709551616 ^ (la + 1) ∧ n < m * 2 ^ (z + 1) := by
 have hn0 := size_pos h1 (by omega)
 have hm0 := size_pos h2 h3
 obtain ⟨_, i2⟩ := h1.2.1 hn0
 obtain ⟨_, j2⟩ := h2.2.1 hm0
 have hb : n < 18446744073709551616 ^ la := limbs_len_le.1 (by omega)
 have e1 : 2 ^ s1 = 2 * 2 ^ (s1 - 1) := by rw [← Nat.pow_succ']; congr 1; omega
 have e2 : 2 ^ s1 = 2 ^ s2 * 2 ^ z := by rw [hz, Nat.pow_add]
 have e3 : 2 ^ s2 = 2 * 2 ^ (s2 - 1) := by rw [← Nat.pow_succ']; congr 1; omega
 have k1 : m * 2 ^ z < 2 ^ s2 * 2 ^ z := Nat.mul_lt_mul_of_pos_right h2.1 (Nat.two_pow_pos _)
 have k2 : 2 ^ (s2 - 1) * 2 ^ (z + 1) ≤ m * 2 ^ (z + 1) := Nat.mul_le_mul_right _ j2
 have k3 : 2 ^ (s2 - 1) * 2 ^ (z + 1) = 2 ^ s1 := by rw [← Nat.pow_add]; congr 1; omega
 have hn1 := h1.1
 refine ⟨?_, by omega⟩
 rw [Nat.pow_succ]
 generalize 18446744073709551616 ^ la = X at *
 generalize m * 2 ^ z = Y at *
 rw [← e2] at k1
 omega
set_option maxRecDepth 100000 in
set_option maxHeartbeats 8000000 in
theorem ref_div2 (B C D : Nat) (u v : Value) (n m : Nat) (w : World) (h : Words C w u (limbs n)) (k : Words D w v (limbs m)) (hB : B ≤ w.heap.size) (hn : (limbs n).length ≤ 900) (hm : (limbs m).length ≤ 900) (hm2 : 2 ≤ (limbs m).length) :
   Calls Try.prog 46 #[u, v] w (DivWords B n m w) := by
 obtain ⟨i0, hi, hz0, hz1, hz2⟩ := info_parts info_u64
 obtain ⟨la, hla⟩ : ∃ la, (limbs n).length = la := ⟨_, rfl⟩
 obtain ⟨lb, hlb⟩ : ∃ lb, (limbs m).length = lb := ⟨_, rfl⟩
 obtain ⟨a, ca, rfl, a1, a2, _⟩ := h.shape la hla
 obtain ⟨b, cb, rfl, b1, b2, _⟩ := k.shape lb hlb
 rw [hla] at hn
 rw [hlb] at hm hm2
 have HA := hide hla
 have HBB := hide hlb
 have KA := hide h
 have KB := hide k
 have HZ2 := hide hz2
 have hne : ¬ ((lb : Int) = 1) := by omega
 clear hla hlb h k hz2
 go_enter Try.func46, Try.ntmps46
 go_upto_region 2 with (at_make; refine wpList_make_full _ rfl _ _ 69 rfl w.heap.size 22 i0 (.int .u64 0) 1 Try.underlying69 hi hz0 hz1 _ _ _ _ la rfl rfl rfl rfl (by rw [HZ2.out]; omega) (by unfold maxLen; omega) (Nat.le_refl _) ?_; intro w1 hown hgr)
 have H1 : Hid (Words w.heap.size w1 (.slice (some ⟨w.heap.size, 0, none⟩) la la) (List.replicate la 0)) := words_made hown
 have E1 := ext_grown hgr (by simp)
 clear hown hgr
 obtain ⟨g, hg⟩ : ∃ g, w.heap.size = g := ⟨_, rfl⟩
 have HG := hide hg
 rw [hg] at H1 hB
 rw [hg]
 clear hg
 have KA1 := hide (KA.out.ext E1)
 have KB1 := hide (KB.out.ext E1)
 have g1 : g < w1.heap.size := (H1.out.1.lt g rfl).2
 have HE0 := hide (words_empty w1.heap.size w1 w1.heap.size rfl (Nat.le_refl _))
 have hE0 := hide (ext_alloc w1 (.cells #[] 22))
 go_upto_region 10 with (first
   | (at_builtin; refine append_words rfl (.tmp 46) (.tmp 47) rfl w1.heap.size C _ _ [] (limbs n) rfl rfl HE0.out (KA1.out.ext hE0.out) (by simp) (by rw [HA.out]; simp; omega) w1 hE0.out (Nat.le_refl _) ?_; intro v2 w2 hv2 hE2)
   | (go_at_call 48; refine (trim_any _ _ _ _ hv2).mono ?_; rintro e w' ⟨v9, rfl, hv9, rfl⟩))
 have HV9 : Hid (Words w1.heap.size w2 v9 (limbs n)) := by
   have := hv9
   rw [List.nil_append, val_limbs] at this
   exact this
 have KB2 := hide (KB1.out.ext hE2)
 have H12 := hide (H1.out.ext hE2)
 have EE := hide (E1.trans hE2)
 have EE1 := hE2
 clear hv9 hv2 hE2 HE0 hE0 KB1 KA1
 go_upto_region 11 with (first
   | (go_at_call 64; (with_reducible refine (ref_size _ n v9 _ HV9.out (by rw [HA.out]; omega)).mono ?_); rintro e w' ⟨s1, rfl, hs1, bs1, rfl⟩; have HS1 := hide hs1; clear hs1)
   | (go_at_call 64; (with_reducible refine (ref_size _ m _ _ KB2.out (by rw [HBB.out]; omega)).mono ?_); rintro e w' ⟨s2, rfl, hs2, bs2, rfl⟩; have HS2 := hide hs2; clear hs2))
 have hm0 : m ≠ 0 := by
   intro h0
   have := HBB.out
   rw [h0, limbs_zero] at this
   simp at this
   omega
 obtain ⟨h2a, h2b⟩ := HS2.out.2.1 hm0
 by_cases hlt : s1 < s2
 · have hnm : n < m := by
     have h1 := HS1.out.1
     have h2 : 2 ^ s1 ≤ 2 ^ (s2 - 1) := Nat.pow_le_pow_right (by omega) (by omega)
     omega
   have HD : Hid (n / m = 0 ∧ n % m = n) := ⟨Nat.div_eq_of_lt hnm, Nat.mod_eq_of_lt hnm⟩
   have hlt' : (s1 : Int) - (s2 : Int) < 0 := by omega
   clear h2a h2b hnm hlt
   go_wp2_with fail
   go_ret2
   exact ⟨_, _, rfl, by rw [HD.out.1, limbs_zero]; exact words_none _ _, by rw [HD.out.2]; exact HV9.out.base (Nat.le_trans hB (by omega)), EE.out⟩
 · obtain ⟨z, hz⟩ : ∃ z, s1 = s2 + z := ⟨s1 - s2, by omega⟩
   have hz' : (s1 : Int) - (s2 : Int) = (z : Int) := by omega
   rw [hz']
   obtain ⟨u1, u2⟩ := up_lt HS1.out HS2.out hz h2a HA.out
   have U1 := hide u1
   have HZ := hide hz
   have zb : z ≤ 100000 := by omega
   clear u1 h2b hlt hz hz'
   go_upto_region 14 with (go_at_call 65; (with_reducible refine (ref_up w2.heap.size D _ m z _ KB2.out (Nat.le_refl _) (by rw [HBB.out]; omega) zb).mono ?_); rintro e w3 ⟨v11, rfl, hv11, hE3⟩)
   have hup0 : 0 < m * 2 ^ z := Nat.mul_pos (by omega) (Nat.two_pow_pos z)
   obtain ⟨gd, cd, rfl, d1, d2, d3, d4, _⟩ := hv11.pos _ rfl (len_pos _ |>.2 (by omega))
   have hw12 : w1.heap.size ≤ w2.heap.size := by
     have := (H12.out.1.lt g rfl).2
     exact EE1.size
   have A9 : Apart gd v9 := HV9.out.apart d3
   have hgd : g ≠ gd := by omega
   have HV9 := hide (HV9.out.ext hE3)
   have H13 := hide (H12.out.ext hE3)
   have D13 := hide (hv11.base hw12)
   have EE := hide (EE.out.trans hE3)
   have n0 : val (List.replicate la 0) = 0 := val_zeros la
   have HG2 : Hid (w.heap.size ≤ gd) := by rw [HG.out]; unfold Hid; omega
   clear hv11 hE3
   go_wp2_with fail
   go_loopw [9, 11, 12] (fun r d i wr => ∃ (k R : Nat) (os : List Nat), i = .int .i64 ((k : Int) - 1) ∧ k ≤ z + 1 ∧ Hid (R < m * 2 ^ k) ∧ d = .slice (some ⟨gd, 0, none⟩) (limbs (m * 2 ^ k / 2)).length cd ∧ Words w1.heap.size wr r (limbs R) ∧ Apart gd r ∧ Words w1.heap.size wr (.slice (some ⟨gd, 0, none⟩) (limbs (m * 2 ^ k / 2)).length cd) (limbs (m * 2 ^ k / 2)) ∧ Words g wr (.slice (some ⟨g, 0, none⟩) la la) os ∧ Hid (os.length = la ∧ val os * m + R = n ∧ val os % 2 ^ k = 0) ∧ Ext w wr) (fun _ _ i _ => (intOf i + 1).toNat)
   case atStart => exact ⟨z + 1, n, List.replicate la 0, by congr 1; omega, Nat.le_refl _, u2, by rw [half_of], HV9.out, A9, by rw [half_of]; exact D13.out, H13.out, ⟨by simp, by rw [n0]; omega, by rw [n0, Nat.zero_mod]⟩, EE.out⟩
   case round =>
     clear HV9 A9 H13 D13 EE n0
     obtain ⟨k, R, os, rfl, hk, HR, rfl, hr, A9, hd, hq, HO, hE⟩ := hrel
     by_cases hk0 : k = 0
     · subst hk0
       have HR0 : Hid (R < m ∧ val os = n / m ∧ R = n % m) := by
         have h1 := HR.out
         rw [Nat.pow_zero, Nat.mul_one] at h1
         have h2 := HO.out.2.1
         refine ⟨h1, ?_, ?_⟩
         · rw [← h2, Nat.mul_comm, Nat.mul_add_div (by omega), Nat.div_eq_of_lt h1, Nat.add_zero]
         · rw [← h2, Nat.mul_comm, Nat.mul_add_mod, Nat.mod_eq_of_lt h1]
       clear hd
       go_wp2_with (go_at_call 48; (with_reducible refine (trim_any _ _ _ _ hq).mono ?_); rintro e w' ⟨v3, rfl, hv3, rfl⟩)
       go_ret2
       exact ⟨_, _, rfl, by rw [← HR0.out.2.1]; exact hv3.base hB, by rw [← HR0.out.2.2]; exact hr.base (Nat.le_trans hB (by omega)), hE⟩
     · obtain ⟨j, rfl⟩ : ∃ j, k = j + 1 := ⟨k - 1, by omega⟩
       rw [half_of] at hd ⊢
       obtain ⟨T, hT⟩ : ∃ T, m * 2 ^ j = T := ⟨_, rfl⟩
       have hTj : m * 2 ^ j / 2 = T / 2 := by rw [hT]
       have HR2 : Hid (R < 2 * T) := by
         have := HR.out
         rw [Nat.pow_succ, ← Nat.mul_assoc, hT] at this
         unfold Hid; omega
       have hTl : (limbs T).length ≤ 901 := by
         have h1 : T ≤ m * 2 ^ z := by rw [← hT]; exact Nat.mul_le_mul_left _ (Nat.pow_le_pow_right (by omega) (by omega))
         have h2 := U1.out
         exact Nat.le_trans (limbs_len_le.2 (Nat.lt_of_le_of_lt h1 h2)) (by omega)
       have hRl : (limbs R).length ≤ 900 := by
         have h1 : R ≤ n := by have := HO.out.2.1; omega
         have h2 : n < 18446744073709551616 ^ la := limbs_len_le.1 (by rw [HA.out]; exact Nat.le_refl _)
         exact Nat.le_trans (limbs_len_le.2 (Nat.lt_of_le_of_lt h1 h2)) hn
       rw [hT] at hd ⊢
       have HT := hide hT
       have HTJ := hide hTj
       have HTL := hide hTl
       have HRL := hide hRl
       clear hT hTj hTl hRl hk0
       by_cases hlt : R < T
       · have HS : Hid (sgnN R T = -1) := if_pos hlt
         have HN : Hid (R < m * 2 ^ j ∧ val os % 2 ^ j = 0) := by
           refine ⟨by rw [HT.out]; exact hlt, ?_⟩
           have h1 := HO.out.2.2
           have h2 : 2 ^ j ∣ val os := Nat.dvd_trans (Nat.pow_dvd_pow 2 (Nat.le_succ j)) (Nat.dvd_of_mod_eq_zero h1)
           exact Nat.mod_eq_zero_of_dvd h2
         clear hlt
         go_wp2_with (first
           | (go_at_call 33; (with_reducible refine (compare_any _ _ _ _ _ _ _ hr hd).mono ?_); rintro e w4 ⟨rfl, hE4⟩; rw [HS.out]; have hr4 := hr.ext hE4; have hd4 := hd.ext hE4; have hq4 := hq.ext hE4; have hE4 := hide (hE.trans hE4))
           | (go_at_call 66; (with_reducible refine (ref_half _ _ _ _ _ hd4 (Nat.le_trans HTL.out (by omega))).mono ?_); rintro e w5 ⟨rfl, hd5, hU5⟩))
         exact ⟨⟨j, R, os, by first | rfl | (congr 1; omega), by omega, HN.out.1, by rw [HTJ.out], hr4.upd hU5 A9, A9, by rw [HTJ.out]; exact hd5, hq4.upd hU5 (apart_at hgd), ⟨HO.out.1, HO.out.2.1, HN.out.2⟩, hU5.ext hE4.out HG2.out⟩, by first | (simp [intOf]; done) | (simp [intOf]; omega)⟩
       · have h01 : (0 : Int) ≤ sgnN R T := by unfold sgnN; rw [if_neg hlt]; split <;> omega
         obtain ⟨sg, hsg⟩ : ∃ sg, sgnN R T = sg := ⟨_, rfl⟩
         rw [hsg] at h01
         have HS := hide hsg
         clear hsg
         obtain ⟨jq, jr, hjqr, hjr⟩ : ∃ jq jr, j = 64 * jq + jr ∧ jr < 64 := ⟨j / 64, j % 64, by omega, by omega⟩
         obtain ⟨t1, t2, t3, t4⟩ := quo64 j jq jr hjqr hjr
         have hjql : jq < la := by
           have h1 : 2 ^ j ≤ n := by
             have h2 : 1 * 2 ^ j ≤ m * 2 ^ j := Nat.mul_le_mul_right _ (by omega)
             have h3 := HO.out.2.1
             rw [HT.out] at h2
             omega
           have h4 := bit_in h1 (limbs_len_le.1 (by rw [HA.out]; exact Nat.le_refl la))
           omega
         obtain ⟨g', e', _, _, _, _⟩ := hq.at jq (by rw [HO.out.1]; exact hjql)
         obtain rfl : g = g' := by injection e' with e'; injection e'
         obtain ⟨x, hx⟩ : ∃ x, os[jq]'(by rw [HO.out.1]; exact hjql) = x := ⟨_, rfl⟩
         obtain ⟨t, o1, o2, HTT⟩ := one_shl jr hjr
         obtain ⟨zz, o3, HZZ⟩ := bit_set os jq jr x (by rw [HO.out.1]; exact hjql) hx hq.2 hjr (by rw [← hjqr]; exact HO.out.2.2)
         rw [← HTT.out] at o3
         have HN : Hid (R - T < m * 2 ^ j ∧ val (os.set jq zz) * m + (R - T) = n ∧ val (os.set jq zz) % 2 ^ j = 0) := by
           have h1 := HO.out.2.2
           have h2 : 2 ^ j ∣ val os := Nat.dvd_trans (Nat.pow_dvd_pow 2 (Nat.le_succ j)) (Nat.dvd_of_mod_eq_zero h1)
           rw [HZZ.out.2, ← hjqr]
           refine ⟨by rw [HT.out]; have := HR2.out; omega, ?_, Nat.mod_eq_zero_of_dvd ((Nat.dvd_add_right h2).2 (Nat.dvd_refl _))⟩
           have h3 := HO.out.2.1
           rw [Nat.add_mul, Nat.mul_comm (2 ^ j) m, HT.out]
           omega
         have HLT := hide hlt
         have HX := hide hx
         have HJ := hide hjqr
         clear hlt hx hjqr
         go_upto_region 19 with (first
           | (go_at_call 33; (with_reducible refine (compare_any _ _ _ _ _ _ _ hr hd).mono ?_); rintro e w4 ⟨rfl, hE4⟩; rw [HS.out]; have hr4 := hr.ext hE4; have hd4 := hd.ext hE4; have hq4 := hq.ext hE4; have hE4 := hide (hE.trans hE4))
           | (go_at_call 34; refine (ref_sub w4.heap.size _ _ _ _ R T _ hr4 hd4 (Nat.le_refl _) (Nat.le_trans HRL.out (by omega)) (Nat.le_trans HTL.out (by omega)) (by have := HLT.out; omega)).mono ?_; rintro e w5 ⟨v5, rfl, hv5, hE5⟩))
         have hd5 := hd4.ext hE5
         have hq5 := hq4.ext hE5
         have A5 : Apart gd v5 := hv5.apart' (hd4.1.lt gd rfl).2
         have hE6 := hide (hE4.out.trans hE5)
         have hr5 := hv5.base (Nat.le_of_lt (Nat.lt_of_le_of_lt (hd4.1.lt gd rfl).1 (hd4.1.lt gd rfl).2))
         obtain ⟨g', e', _, _, cg, fg⟩ := hq5.at jq (by rw [HO.out.1]; exact hjql)
         obtain rfl : g = g' := by injection e' with e'; injection e'
         rw [HX.out] at cg
         have hq6 := hide (hq5.set HO.out.1 jq zz HZZ.out.1)
         have U6 := (Upd.refl g w5).set jq (.int .u64 (zz : Int))
         have hd6 := hd5.upd U6 (apart_at (Ne.symm hgd))
         have hr6 := hide (hr5.upd U6 (hv5.apart' (hq4.1.lt g rfl).2))
         have E6 := hide (U6.ext hE6.out (by rw [HG.out]; exact Nat.le_refl _))
         clear U6 hv5 hq5 hd5 hr5 hE5 hq4 hr4 hd4
         go_wp2_with (go_at_call 66; (with_reducible refine (ref_half _ _ _ _ _ hd6 (Nat.le_trans HTL.out (by omega))).mono ?_); rintro e w7 ⟨rfl, hd7, hU7⟩)
         exact ⟨⟨j, R - T, os.set jq zz, by first | rfl | (congr 1; omega), by omega, HN.out.1, by rw [HTJ.out], hr6.out.upd hU7 A5, A5, by rw [HTJ.out]; exact hd7, hq6.out.upd hU7 (apart_at hgd), ⟨by rw [List.length_set]; exact HO.out.1, HN.out.2.1, HN.out.2.2⟩, hU7.ext E6.out HG2.out⟩, by first | (simp [intOf]; done) | (simp [intOf]; omega)⟩
end
section
open Go Go.RowKit Go.Sort
def Ret (v : Value) (w : World) (e : Ending) (w' : World) : Prop := e = .returned v ∧ Ext w w'
def RetSame (v : Value) (w : World) (e : Ending) (w' : World) : Prop := e = .returned v ∧ w = w'
theorem quiet_ret {f : FuncId} {args : Array Value} {W : World} {d : Nat} {os : Array Obj} {v : Value} (h : Calls Try.prog f args (grow (redrawn W d) os) (Ret v (grow (redrawn W d) os))) :
   Calls Try.prog f args (grow (redrawn W d) os) fun e w'' => e = .returned v ∧ ∃ p : Regrown, w'' = grow (redrawn W p.d) p.os := Calls.regrown_of h
theorem ext_regrown (W : World) (d : Nat) (os : Array Obj) : Ext W (grow (redrawn W d) os) := below_regrown W d os
end
section
open Go Go.RowKit
theorem OwnB.upd {B b : Nat} {w w' : World} {v : Value} {l : List Nat} (h : OwnB B w v l) (u : Upd b w w') (hb : b < B) : OwnB B w' v l := by
 refine ⟨?_, h.2⟩
 obtain ⟨h1, h2 | ⟨g, cap, cur, hv, hg, hh, r⟩⟩ := h.1
 · exact ⟨h1, Or.inl h2⟩
 · exact ⟨h1, Or.inr ⟨g, cap, cur, hv, hg, by rw [u.2.2.2.2 g (Array.getElem?_eq_some_iff.1 hh).1 (by omega)]; exact hh, r⟩⟩
theorem BytesAt.upd {b : Nat} {w w' : World} {A : Option Addr} {l : List Nat} (h : BytesAt w A l) (u : Upd b w w') (hb : ∀ g off, A = some ⟨g, off, none⟩ → g ≠ b) : BytesAt w' A l :=
 h.keep u.2.2.2.1 fun g off hA hg => u.2.2.2.2 g hg (hb g off hA)
theorem grown_below {w w' : World} {row : Option Nat} (h : w.grownBy w' row) (B : Nat) (hB : B ≤ w.heap.size) (hr : ∀ k, row = some k → B ≤ k) : Below B w w' := (Below.refl B w).grown h hB hr
theorem upd_grown {W w w' : World} {row : Option Nat} {b : Nat} (u : Upd b W w) (h : w.grownBy w' row) (hr : ∀ k, row = some k → W.heap.size ≤ k) : Upd b W w' :=
 ⟨h.os.trans u.1, h.tape.trans u.2.1, h.output.trans u.2.2.1, Nat.le_trans u.2.2.2.1 h.size, fun k hk hn => (h.block k (Nat.lt_of_lt_of_le hk u.2.2.2.1) (fun e => by have := hr k e.symm; omega)).trans (u.2.2.2.2 k hk hn)⟩
end
section
open Go Go.RowKit
def w5 (C i : Nat) : Nat := C / 18446744073709551616 ^ i % 18446744073709551616
end
section
open Go Go.RowKit
theorem IsQ.nil : IsQ [] := by intro x hx; simp at hx
theorem IsQ.app {l m : List Nat} (h : IsQ l) (k : IsQ m) : IsQ (l ++ m) := by
 intro x hx; rcases List.mem_append.1 hx with a | a
 · exact h x a
 · exact k x a
theorem IsQ.one {x : Nat} (h : x < 18446744073709551616) : IsQ [x] := by intro y hy; simp at hy; omega
theorem IsQ.take {l : List Nat} (h : IsQ l) (k : Nat) : IsQ (l.take k) := fun x hx => h x (List.mem_of_mem_take hx)
theorem IsQ.drop {l : List Nat} (h : IsQ l) (k : Nat) : IsQ (l.drop k) := fun x hx => h x (List.mem_of_mem_drop hx)
theorem IsQ.get {l : List Nat} (h : IsQ l) (k : Nat) : l.getD k 0 < 18446744073709551616 := by
 rw [List.getD_eq_getElem?_getD]
 cases hk : l[k]? with
 | none => simp
 | some x => exact h x (List.mem_of_getElem? hk)
def q8s (l : List Nat) : List Value := l.map fun x : Nat => Value.int .u64 (x : Int)
def WordsAt (w : World) (A : Option Addr) (l : List Nat) : Prop :=
 IsQ l ∧ l.length ≤ 9223372036854775807 ∧ (0 < l.length → ∃ b off, A = some ⟨b, off, none⟩ ∧ b < w.heap.size ∧ ∀ j, j < l.length → w.cell? ⟨b, off + j, none⟩ = some (.int .u64 ((l.getD j 0 : Nat) : Int)))
theorem WordsAt.nil (w : World) (A : Option Addr) : WordsAt w A [] := ⟨IsQ.nil, by simp, fun h => absurd h (by simp)⟩
theorem WordsAt.ext {w w' : World} {A : Option Addr} {l : List Nat} (h : WordsAt w A l) (e : Ext w w') : WordsAt w' A l :=
 ⟨h.1, h.2.1, fun hp => by
   obtain ⟨b, off, hA, hb, hc⟩ := h.2.2 hp
   exact ⟨b, off, hA, Nat.lt_of_lt_of_le hb e.size, fun j hj => (e.cell (p := ⟨b, off + j, none⟩) hb).trans (hc j hj)⟩⟩
theorem WordsAt.keep {w w' : World} {A : Option Addr} {l : List Nat} (h : WordsAt w A l) (hs : w.heap.size ≤ w'.heap.size) (e : ∀ b off, A = some ⟨b, off, none⟩ → b < w.heap.size → w'.heap[b]? = w.heap[b]?) : WordsAt w' A l :=
 ⟨h.1, h.2.1, fun hp => by
   obtain ⟨b, off, hA, hb, hc⟩ := h.2.2 hp
   exact ⟨b, off, hA, Nat.lt_of_lt_of_le hb hs, fun j hj => (World.cell?_of_block (a := ⟨b, off + j, none⟩) (e b off hA hb)).trans (hc j hj)⟩⟩
theorem WordsAt.drop {w : World} {A : Option Addr} {l : List Nat} (h : WordsAt w A l) (k cap : Nat) (hc : l.length ≤ cap) :
   WordsAt w (if cap = k then A else A.map (·.add (k * 1))) (l.drop k) := by
 refine ⟨h.1.drop k, by rw [List.length_drop]; have := h.2.1; omega, fun hp => ?_⟩
 rw [List.length_drop] at hp
 obtain ⟨b, off, rfl, hb, hcl⟩ := h.2.2 (by omega)
 rw [if_neg (by omega)]
 refine ⟨b, off + k, by
   simp only [Option.map_some, Option.some.injEq]
   unfold Addr.add
   split
   · rename_i h0; simp only [Addr.mk.injEq, and_true, true_and]; omega
   · simp, hb, fun j hj => ?_⟩
 rw [List.length_drop] at hj
 rw [Nat.add_assoc, hcl (k + j) (by omega)]
 simp [List.getD_eq_getElem?_getD, List.getElem?_drop]
theorem WordsAt.take {w : World} {A : Option Addr} {l : List Nat} (h : WordsAt w A l) (k : Nat) : WordsAt w A (l.take k) := by
 refine ⟨h.1.take k, by rw [List.length_take]; have := h.2.1; omega, fun hp => ?_⟩
 rw [List.length_take] at hp
 obtain ⟨b, off, rfl, hb, hcl⟩ := h.2.2 (by omega)
 refine ⟨b, off, rfl, hb, fun j hj => ?_⟩
 rw [List.length_take] at hj
 rw [hcl j (by omega)]
 simp [List.getD_eq_getElem?_getD, List.getElem?_take, show j < k by omega]
def OwnQ (B : Nat) (w : World) (v : Value) (l : List Nat) : Prop := w.ownsRow B 22 1 v l.length (q8s l) ∧ IsQ l
theorem OwnQ.at_ {B : Nat} {w : World} {v : Value} {l : List Nat} (h : OwnQ B w v l) : ∃ A cap, v = .slice A l.length cap ∧ l.length ≤ cap ∧ cap ≤ 9223372036854775807 ∧ WordsAt w A l := by
 rcases h.1.2 with ⟨rfl, h0⟩ | ⟨g, cap, cur, rfl, hg, hh, hnc, hcp, hcs, htake⟩
 · obtain rfl : l = [] := List.length_eq_zero_iff.1 h0
   exact ⟨none, 0, rfl, Nat.le_refl _, by omega, WordsAt.nil _ _⟩
 · unfold maxLen at hcp
   refine ⟨_, cap, rfl, hnc, hcp, h.2, by omega, fun _ => ⟨g, 0, rfl, (Array.getElem?_eq_some_iff.1 hh).1, fun j hj => ?_⟩⟩
   have := h.1.cells (g := g) rfl j (Value.int .u64 ((l.getD j 0 : Nat) : Int)) (by rw [getD_lt hj]; simp [q8s, hj])
   have e : (⟨g, 0, none⟩ : Addr).add j = ⟨g, 0 + j, none⟩ := by unfold Addr.add; split <;> simp_all
   rw [e] at this
   exact this
theorem OwnQ.kept {B : Nat} {w w' : World} {v : Value} {l : List Nat} (h : OwnQ B w v l) {row : Option Nat} (hg : w.grownBy w' row) (hne : v.ownBlock = none ∨ v.ownBlock ≠ row) : OwnQ B w' v l := ⟨h.1.kept hg hne, h.2⟩
theorem OwnQ.alloc {B : Nat} {w : World} {v : Value} {l : List Nat} (h : OwnQ B w v l) (o : Obj) : OwnQ B (w.alloc o) v l := ⟨h.1.alloc o, h.2⟩
theorem OwnQ.drew {B : Nat} {w : World} {v : Value} {l : List Nat} (h : OwnQ B w v l) : OwnQ B w.drew v l := h
theorem OwnQ.nil_ (B : Nat) (w : World) : OwnQ B w (.slice none 0 0) [] := ⟨World.ownsRow_nil _ _ _ _, IsQ.nil⟩
theorem OwnQ.keep {B : Nat} {w w' : World} {v : Value} {l : List Nat} (h : OwnQ B w v l) (hs : w.heap.size ≤ w'.heap.size) (e : ∀ g, v.ownBlock = some g → w'.heap[g]? = w.heap[g]?) : OwnQ B w' v l := by
 refine ⟨?_, h.2⟩
 obtain ⟨h1, h2 | ⟨g, cap, cur, hv, hg, hh, r⟩⟩ := h.1
 · exact ⟨h1, Or.inl h2⟩
 · exact ⟨h1, Or.inr ⟨g, cap, cur, hv, hg, by rw [e g (by rw [hv]; rfl)]; exact hh, r⟩⟩
theorem OwnQ.ext {B : Nat} {w w' : World} {v : Value} {l : List Nat} (h : OwnQ B w v l) (e : Ext w w') : OwnQ B w' v l := by
 refine ⟨?_, h.2⟩
 obtain ⟨h1, h2 | ⟨g, cap, cur, hv, hg, hh, r⟩⟩ := h.1
 · exact ⟨h1, Or.inl h2⟩
 · exact ⟨h1, Or.inr ⟨g, cap, cur, hv, hg, by rw [e.block g (Array.getElem?_eq_some_iff.1 hh).1]; exact hh, r⟩⟩
theorem OwnQ.less {B B' : Nat} {w : World} {v : Value} {l : List Nat} (h : OwnQ B w v l) (hB : B' ≤ B) : OwnQ B' w v l := by
 refine ⟨?_, h.2⟩
 obtain ⟨h1, h2 | ⟨g, cap, cur, hv, hg, r⟩⟩ := h.1
 · exact ⟨h1, Or.inl h2⟩
 · exact ⟨h1, Or.inr ⟨g, cap, cur, hv, by omega, r⟩⟩
theorem OwnQ.upd {B b : Nat} {w w' : World} {v : Value} {l : List Nat} (h : OwnQ B w v l) (u : Upd b w w') (hb : b < B) : OwnQ B w' v l := by
 refine ⟨?_, h.2⟩
 obtain ⟨h1, h2 | ⟨g, cap, cur, hv, hg, hh, r⟩⟩ := h.1
 · exact ⟨h1, Or.inl h2⟩
 · exact ⟨h1, Or.inr ⟨g, cap, cur, hv, hg, by rw [u.2.2.2.2 g (Array.getElem?_eq_some_iff.1 hh).1 (by omega)]; exact hh, r⟩⟩
theorem WordsAt.upd {b : Nat} {w w' : World} {A : Option Addr} {l : List Nat} (h : WordsAt w A l) (u : Upd b w w') (hb : ∀ g off, A = some ⟨g, off, none⟩ → g ≠ b) : WordsAt w' A l :=
 h.keep u.2.2.2.1 fun g off hA hg => u.2.2.2.2 g hg (hb g off hA)
end
section
open Go Go.RowKit
inductive Tag | q | al | st (j : Nat) | so (k : Nat)
 deriving DecidableEq
def dstOf (l : List Oper) (i : Nat) : Option Tmp := (l[i]?).bind (·.dst)
def dep (o : Oper) (k : Nat) : Bool := o.after.any fun e => Region.binds .any e && e.on == k
def anc (l : List Oper) : Nat → Nat → Nat → Bool
 | 0, _, _ => false
 | n + 1, s, i => match l[s]? with
   | none => false
   | some o => dep o i || (List.range l.length).any fun k => dep o k && anc l n k i
def ptrTo (g : Nat) : Value := .pointer (some ⟨g, 0, none⟩)
def Same (kd : List Tag) (tgt : Nat → Nat) (W w : World) : Prop := w.os = W.os ∧ w.tape = W.tape ∧ w.output = W.output ∧ W.heap.size ≤ w.heap.size ∧ ∀ k, k < W.heap.size → (∀ c, .so c ∈ kd → tgt c ≠ k) → w.heap[k]? = W.heap[k]?
def qUpon (P : Program) (w : World) (v : Value) : Result Next → Prop
 | .ok (.value u) w' => w' = w ∧ u = v
 | .ok (.enter f args) w' => w' = w ∧ Calls P f args w (fun e w'' => e = .returned v ∧ Below w.heap.size w w'')
 | _ => False
def Stores (P : Program) (ρ : Operand → Value) (o : Oper) (w : World) (g : Nat) (f : Obj) : Prop := ∃ w1, (execOp ρ o).run P w = .ok .skip w1 ∧ w1.heap[g]? = some f ∧ (∀ k, k ≠ g → w1.heap[k]? = w.heap[k]?) ∧ w1.heap.size = w.heap.size ∧ w1.os = w.os ∧ w1.tape = w.tape ∧ w1.output = w.output
def AllOps (R : Nat → Oper → Prop) : Nat → List Oper → Prop
 | i, o :: l => R i o ∧ AllOps R (i + 1) l
 | _, [] => True
theorem AllOps.get {R : Nat → Oper → Prop} : ∀ {l : List Oper} {k : Nat}, AllOps R k l → ∀ i o, l[i]? = some o → R (k + i) o
 | [], _, _, i, o, h => by simp at h
 | x :: l, k, hA, 0, o, h => by
   obtain rfl : x = o := by simpa using h
   exact hA.1
 | x :: l, k, hA, i + 1, o, h => by
   have := AllOps.get hA.2 i o (by simpa using h)
   rwa [Nat.add_assoc, Nat.add_comm 1 i] at this
section
variable {l : List Oper} {kd : List Tag} {V : List Value}
theorem put_size (a : Act) (d : Option Tmp) (v : Value) : (a.put d v).tmps.size = a.tmps.size := by cases d <;> simp [Act.put]
def OneWriter (l : List Oper) : Prop := ∀ i j t, dstOf l i = some t → dstOf l j = some t → i = j
theorem dst_lt {k : Nat} {t : Tmp} (h : dstOf l k = some t) : k < l.length := by
 unfold dstOf at h
 cases hx : l[k]? with
 | none => rw [hx] at h; simp at h
 | some o => exact (List.getElem?_eq_some_iff.1 hx).1
theorem ready_spec {listed : Array Bool} {i : Nat} (h : i ∈ Region.ready .any l.toArray listed) : ∃ o, l[i]? = some o ∧ listed.getD i true = false ∧ ∀ k, dep o k = true → listed.getD k false = true := by
 unfold Region.ready at h
 rw [List.mem_filter] at h
 obtain ⟨h1, h2⟩ := h
 simp only [Bool.and_eq_true] at h2
 obtain ⟨h2, h3⟩ := h2
 have hi : i < l.length := by simpa using h1
 refine ⟨l[i], List.getElem?_eq_getElem hi, by simpa using h2, ?_⟩
 intro k hk
 rw [List.getElem?_toArray, List.getElem?_eq_getElem hi] at h3
 simp only [Option.map_some, Option.getD_some] at h3
 unfold dep at hk
 rw [Array.any_eq_true'] at hk
 obtain ⟨e, he, hb⟩ := hk
 simp only [Bool.and_eq_true, beq_iff_eq] at hb
 have := Array.all_eq_true_iff_forall_mem.1 h3 e he
 rw [hb.1, hb.2] at this
 simpa using this
theorem kept {w w' : World} {k : Nat} {x : Obj} (h : Below w.heap.size w w') (e : w.heap[k]? = some x) : w'.heap[k]? = some x := by
 rw [h.block k (Array.getElem?_eq_some_iff.1 e).1]; exact e
theorem Same.below {tgt : Nat → Nat} {W w w' : World} (h : Same kd tgt W w) (k : Below w.heap.size w w') : Same kd tgt W w' :=
 ⟨k.os.trans h.1, k.tape.trans h.2.1, k.output.trans h.2.2.1, Nat.le_trans h.2.2.2.1 k.size, fun j hj hc => (k.block j (Nat.lt_of_lt_of_le hj h.2.2.2.1)).trans (h.2.2.2.2 j hj hc)⟩
variable {zero full : Nat → Obj} {tgt : Nat → Nat} {a0 : Act} {W : World} {S : List Nat} {G : Nat → Nat} {w : World}
theorem nodup_sub : ∀ (T S : List Nat), T.Nodup → (∀ x ∈ T, x ∈ S) → T.length ≤ S.length
 | [], _, _, _ => by simp
 | x :: T, S, hn, h => by
   obtain ⟨hx, hn'⟩ := List.nodup_cons.1 hn
   have h1 := h x (by simp)
   have h2 := nodup_sub T (S.erase x) hn' (fun y hy => (List.mem_erase_of_ne (fun e => hx (by rw [← e]; exact hy))).2 (h y (by simp [hy])))
   rw [List.length_erase_of_mem h1] at h2
   have h3 : 0 < S.length := List.length_pos_of_mem h1
   simp only [List.length_cons]
   omega
theorem nodup_snoc {i : Nat} (h : S.Nodup) (hi : i ∉ S) : (S ++ [i]).Nodup := by
 rw [List.nodup_append]
 refine ⟨h, by simp, ?_⟩
 intro a ha b hb
 simp at hb
 subst hb
 intro e; subst e; exact hi ha
theorem anc_in (hc : ∀ s ∈ S, ∀ o, l[s]? = some o → ∀ k, dep o k = true → k ∈ S) : ∀ (n s i : Nat), s ∈ S → anc l n s i = true → i ∈ S
 | 0, _, _, _, h => by simp [anc] at h
 | n + 1, s, i, hs, h => by
   unfold anc at h
   split at h
   · simp at h
   · rename_i o ho
     simp only [Bool.or_eq_true, List.any_eq_true, Bool.and_eq_true] at h
     rcases h with h | ⟨k, _, hk, h⟩
     · exact hc s hs o ho i h
     · exact anc_in hc n k i (hc s hs o ho k hk) h
theorem anc_lt {n s i : Nat} (h : anc l n s i = true) : s < l.length := by
 cases n with
 | zero => simp [anc] at h
 | succ n =>
   unfold anc at h
   split at h
   · simp at h
   · rename_i o ho
     exact (List.getElem?_eq_some_iff.1 ho).1
theorem cl_snoc {i : Nat} (hc : ∀ s ∈ S, ∀ o, l[s]? = some o → ∀ k, dep o k = true → k ∈ S) (hi : ∀ o, l[i]? = some o → ∀ k, dep o k = true → k ∈ S) : ∀ s ∈ S ++ [i], ∀ o, l[s]? = some o → ∀ k, dep o k = true → k ∈ S ++ [i] := by
 intro s hs o ho k hk
 rcases List.mem_append.1 hs with h | h
 · exact List.mem_append.2 (Or.inl (hc s h o ho k hk))
 · simp at h; subst h
   exact List.mem_append.2 (Or.inl (hi o ho k hk))
theorem below_alloc (w : World) (o : Obj) : Below w.heap.size w (w.alloc o) := (Below.refl _ _).alloc (Nat.le_refl _) o
def Filled (w w1 : World) (g : Nat) (f : Obj) : Prop := w1.heap[g]? = some f ∧ (∀ k, k ≠ g → w1.heap[k]? = w.heap[k]?) ∧ w1.heap.size = w.heap.size ∧ w1.os = w.os ∧ w1.tape = w.tape ∧ w1.output = w.output
def dstB (l : List Oper) (n : Nat) : Bool := l.all fun o => match o.dst with | some d => decide (d < n) | none => true
theorem dst_in {n : Nat} (h : dstB l n = true) {i : Nat} {t : Tmp} (ht : dstOf l i = some t) : t < n := by
 unfold dstB at h
 rw [List.all_eq_true] at h
 have hi := dst_lt ht
 have := h l[i] (List.getElem_mem hi)
 have hd : l[i].dst = some t := by unfold dstOf at ht; rw [List.getElem?_eq_getElem hi] at ht; simpa using ht
 rw [hd] at this
 simpa using this
variable {P : Program} {Q : Exit → Act → World → Prop} {C : World → Prop}
def slotV (t : Tag) (v : Value) (g : Nat) : Value := match t with | .q => v | .al => ptrTo g | _ => undef
def putAll : List Oper → List Tag → List Value → (Nat → Nat) → Nat → Act → Act
 | o :: l, t :: kd, v :: V, G, i, a => putAll l kd V G (i + 1) (a.put o.dst (slotV t v (G i)))
 | _, _, _, _, _, a => a
theorem Same.block {W w : World} (h : Same kd tgt W w) {g : Nat} {x : Obj} (hx : W.heap[g]? = some x) (hc : ∀ c, Tag.so c ∈ kd → tgt c ≠ g) : w.heap[g]? = some x := by
 rw [h.2.2.2.2 g (Array.getElem?_eq_some_iff.1 hx).1 hc]; exact hx
theorem Same.ext {W0 W w : World} (h : Same kd tgt W w) (k : Below W0.heap.size W0 W) (hc : ∀ c, Tag.so c ∈ kd → W0.heap.size ≤ tgt c) : Below W0.heap.size W0 w :=
 ⟨h.1.trans k.os, h.2.1.trans k.tape, h.2.2.1.trans k.output, Nat.le_trans k.size h.2.2.2.1, fun j hj => (h.2.2.2.2 j (Nat.lt_of_lt_of_le hj k.size) (fun c hc' e => by have := hc c hc'; omega)).trans (k.block j hj)⟩
end
end
section
open Go Go.RowKit
theorem run_storeOp {ρ : Operand → Value} {o : Oper} {T : TypeId} {p x : Operand} {w w1 : World} (h : o.op = .store T p x) (hr : (Instr.storeAt T (ρ p) (ρ x)).run Try.prog w = .ok () w1) : (execOp ρ o).run Try.prog w = .ok .skip w1 := by
 unfold execOp; rw [h]
 show Sem.run Try.prog (do Instr.storeAt T (ρ p) (ρ x); pure Next.skip) w = _
 rw [Sem.run_bind, hr]
 rfl
theorem store_row {ρ : Operand → Value} {o : Oper} {T : TypeId} {p x : Operand} {w : World} {g : Nat} {cs ds : Array Value} (hop : o.op = .store T p x) (hp : ρ p = ptrTo g) (hx : ρ x = .agg ds) (hz : w.heap[g]? = some (.cells cs T (0, 0))) (hi : (Try.prog.info? T).map (·.size) = some cs.size) (hs : ds.size = cs.size) (h1 : ds.all (·.oneCell') = true) :
   Stores Try.prog ρ o w g (.cells ds T (0, 0)) := by
 refine ⟨w.setRow g ds, ?_, Blk.setRow (show Blk w g T cs from hz) ds, fun k hk => setRow_other w g k ds (by omega), by simp [World.setRow], rfl, rfl, rfl⟩
 refine run_storeOp hop ?_
 rw [hp, hx]
 unfold Instr.storeAt ptrTo
 simp only [Instr.sureAddr, Sem.run_bind, Sem.run_pure, Result.andThen_ok]
 exact run_storeVar_row w g _ _ _ _ hz (by rw [hi, hs]) (by rw [hs]) h1
end
section
open Go Go.RowKit
theorem shr_cast (u m : Nat) : (u : Int) / 2 ^ m = ((u >>> m : Nat) : Int) := by rw [Nat.shiftRight_eq_div_pow]; simp
attribute [local go_sem] qUpon putAll slotV
def PkPost (o : Option (List Nat)) (W : World) (e : Ending) (w' : World) : Prop := ∃ v, e = .returned (.tuple #[v, .bool o.isSome]) ∧ OwnB W.heap.size w' v (o.getD []) ∧ Ext W w'
def UpPost (o : Option (List Nat)) (W : World) (e : Ending) (w' : World) : Prop := ∃ v, e = .returned (.tuple #[v, .bool o.isSome]) ∧ OwnQ W.heap.size w' v (o.getD []) ∧ Ext W w'
def part (L : List Nat) (m k : Nat) : List Nat := L.take k ++ List.replicate (m - k) 0
end
section
open Go Go.RowKit Go.Sort
def numL (v : Nat) : Nat → List Nat
 | 0 => []
 | n + 1 => numL v n ++ [v / 256 ^ n % 256]
end
section
def b1 (v : Nat) : BitVec 32 := BitVec.ofNat 32 (v % 2)
end
section
open Go Go.RowKit
def hd5 (k n : Nat) : List Nat := k :: numL n 4
def OwnL (l : List Nat) (n : Nat) (w : World) (e : Ending) (w' : World) : Prop := ∃ A cap, e = .returned (.slice A n cap) ∧ l.length = n ∧ n ≤ cap ∧ cap ≤ 9223372036854775807 ∧ OwnB w.heap.size w' (.slice A n cap) l ∧ BytesAt w' A l ∧ Ext w w'
theorem OwnRet.len {l : List Nat} {n : Nat} {w : World} {e : Ending} {w' : World} (hn : l.length = n) (h : OwnRet l w e w') : OwnL l n w e w' := by
 subst hn
 obtain ⟨v, rfl, hO, hE⟩ := h
 obtain ⟨A, cap, rfl, h1, h2, hb⟩ := hO.at_
 exact ⟨A, cap, rfl, rfl, h1, h2, hO, hb, hE⟩
attribute [local go_sem] qUpon putAll slotV
end
section
open Go Go.RowKit
def EncRet (x : List Nat) (n : Nat) (W : World) (e : Ending) (w' : World) : Prop := ∃ v, e = .returned (.tuple #[v, .int .i64 (n : Int)]) ∧ OwnB W.heap.size w' v x ∧ Ext W w'
def NumRet (r : List Nat × Int × Int) (W : World) (e : Ending) (w' : World) : Prop := ∃ v, e = .returned (.tuple #[v, .int .i64 r.2.1, .int .i64 r.2.2]) ∧ OwnQ W.heap.size w' v r.1 ∧ Ext W w'
theorem NumRet.parts {r : List Nat × Int × Int} {W : World} {e : Ending} {w' : World} (h : NumRet r W e w') : ∃ A cap, e = .returned (.tuple #[.slice A r.1.length cap, .int .i64 r.2.1, .int .i64 r.2.2]) ∧ r.1.length ≤ cap ∧ cap ≤ 9223372036854775807 ∧ OwnQ W.heap.size w' (.slice A r.1.length cap) r.1 ∧ WordsAt w' A r.1 ∧ Ext W w' := by
 obtain ⟨v, rfl, hO, hE⟩ := h
 obtain ⟨A, cap, rfl, h1, h2, h3⟩ := hO.at_
 exact ⟨A, cap, rfl, h1, h2, hO, h3, hE⟩
theorem EncRet.parts {x : List Nat} {n : Nat} {W : World} {e : Ending} {w' : World} (h : EncRet x n W e w') : ∃ A cap, e = .returned (.tuple #[.slice A x.length cap, .int .i64 (n : Int)]) ∧ x.length ≤ cap ∧ cap ≤ 9223372036854775807 ∧ OwnB W.heap.size w' (.slice A x.length cap) x ∧ BytesAt w' A x ∧ Ext W w' := by
 obtain ⟨v, rfl, hO, hE⟩ := h
 obtain ⟨A, cap, rfl, h1, h2, h3⟩ := hO.at_
 exact ⟨A, cap, rfl, h1, h2, hO, h3, hE⟩
end
section
open Go Go.RowKit
theorem PkPost.parts {o : Option (List Nat)} {W : World} {e : Ending} {w' : World} (h : PkPost o W e w') : ∃ A cap, e = .returned (.tuple #[.slice A (o.getD []).length cap, .bool o.isSome]) ∧ (o.getD []).length ≤ cap ∧ cap ≤ 9223372036854775807 ∧ OwnB W.heap.size w' (.slice A (o.getD []).length cap) (o.getD []) ∧ BytesAt w' A (o.getD []) ∧ Ext W w' := by
 obtain ⟨v, rfl, hO, hE⟩ := h
 obtain ⟨A, cap, rfl, h1, h2, h3⟩ := hO.at_
 exact ⟨A, cap, rfl, h1, h2, hO, h3, hE⟩
theorem UpPost.parts {o : Option (List Nat)} {W : World} {e : Ending} {w' : World} (h : UpPost o W e w') : ∃ A cap, e = .returned (.tuple #[.slice A (o.getD []).length cap, .bool o.isSome]) ∧ (o.getD []).length ≤ cap ∧ cap ≤ 9223372036854775807 ∧ OwnQ W.heap.size w' (.slice A (o.getD []).length cap) (o.getD []) ∧ WordsAt w' A (o.getD []) ∧ Ext W w' := by
 obtain ⟨v, rfl, hO, hE⟩ := h
 obtain ⟨A, cap, rfl, h1, h2, h3⟩ := hO.at_
 exact ⟨A, cap, rfl, h1, h2, hO, h3, hE⟩
structure Bs (W : World) (B : Nat) (A : Option Addr) (n cap : Nat) (m : List Nat) (w : World) : Prop where
 e : Ext W w
 t : TapeOk W.heap.size w W.heap.size
 o : OwnQ B w (.slice A n cap) m
 gb : W.heap.size < B
section
variable {W : World} {B : Nat} {A : Option Addr} {n cap : Nat} {m : List Nat} {w w' : World}
theorem Bs.ext (s : Bs W B A n cap m w) (k : Ext w w') : Bs W B A n cap m w' := ⟨s.e.trans k, s.t.ext k, s.o.ext k, s.gb⟩
theorem Bs.upd (s : Bs W B A n cap m w) (u : Upd W.heap.size w w') (t : TapeOk W.heap.size w' W.heap.size) : Bs W B A n cap m w' := ⟨Upd.ext u s.e (Nat.le_refl _), t, s.o.upd u s.gb, s.gb⟩
theorem Bs.of {w1 : World} (h1 : Ext W w1) (hT : TapeOk W.heap.size w1 W.heap.size) {v : Value} (hs : v = .slice A n cap) (o : OwnQ w1.heap.size w v m) (t : TapeOk W.heap.size w W.heap.size) (u : Upd W.heap.size w1 w) : Bs W w1.heap.size A n cap m w := by
 subst hs
 exact ⟨Upd.ext u h1 (Nat.le_refl _), t, o, hT.2.1⟩
end
end
section
open Go Go.RowKit
def IsT (l : List Int) : Prop := ∀ x ∈ l, I64 x
theorem getDT {l : List Int} {k : Nat} (h : k < l.length) : l.getD k 0 = l[k] := by simp [List.getD_eq_getElem?_getD, h]
theorem takeT_succ {l : List Int} {k : Nat} (h : k < l.length) : l.take (k + 1) = l.take k ++ [l.getD k 0] := by
 rw [getDT h, List.take_succ_eq_append_getElem h]
theorem IsT.nil : IsT [] := by intro x hx; simp at hx
theorem IsT.app {l m : List Int} (h : IsT l) (k : IsT m) : IsT (l ++ m) := by
 intro x hx; rcases List.mem_append.1 hx with a | a
 · exact h x a
 · exact k x a
theorem IsT.one {x : Int} (h : I64 x) : IsT [x] := by intro y hy; simp at hy; subst hy; exact h
theorem IsT.take {l : List Int} (h : IsT l) (k : Nat) : IsT (l.take k) := fun x hx => h x (List.mem_of_mem_take hx)
theorem IsT.drop {l : List Int} (h : IsT l) (k : Nat) : IsT (l.drop k) := fun x hx => h x (List.mem_of_mem_drop hx)
theorem IsT.get {l : List Int} (h : IsT l) (k : Nat) : I64 (l.getD k 0) := by
 rw [List.getD_eq_getElem?_getD]
 cases hk : l[k]? with
 | none => exact ⟨by simp, by simp⟩
 | some x => exact h x (List.mem_of_getElem? hk)
def t8s (l : List Int) : List Value := l.map fun x : Int => Value.int .i64 x
theorem t8s_len (l : List Int) : (t8s l).length = l.length := by simp [t8s]
theorem t8s_one (l : List Int) : ∀ u ∈ t8s l, u.oneCell' = true := by
 intro u hu; simp only [t8s, List.mem_map] at hu; obtain ⟨x, _, rfl⟩ := hu; rfl
theorem t8s_app (l m : List Int) : t8s (l ++ m) = t8s l ++ t8s m := by simp [t8s]
def TimesAt (w : World) (A : Option Addr) (l : List Int) : Prop :=
 IsT l ∧ l.length ≤ 9223372036854775807 ∧ (0 < l.length → ∃ b off, A = some ⟨b, off, none⟩ ∧ b < w.heap.size ∧ ∀ j, j < l.length → w.cell? ⟨b, off + j, none⟩ = some (.int .i64 (l.getD j 0)))
theorem TimesAt.nil (w : World) (A : Option Addr) : TimesAt w A [] := ⟨IsT.nil, by simp, fun h => absurd h (by simp)⟩
theorem TimesAt.ext {w w' : World} {A : Option Addr} {l : List Int} (h : TimesAt w A l) (e : Ext w w') : TimesAt w' A l :=
 ⟨h.1, h.2.1, fun hp => by
   obtain ⟨b, off, hA, hb, hc⟩ := h.2.2 hp
   exact ⟨b, off, hA, Nat.lt_of_lt_of_le hb e.size, fun j hj => (e.cell (p := ⟨b, off + j, none⟩) hb).trans (hc j hj)⟩⟩
theorem TimesAt.keep {w w' : World} {A : Option Addr} {l : List Int} (h : TimesAt w A l) (hs : w.heap.size ≤ w'.heap.size) (e : ∀ b off, A = some ⟨b, off, none⟩ → b < w.heap.size → w'.heap[b]? = w.heap[b]?) : TimesAt w' A l :=
 ⟨h.1, h.2.1, fun hp => by
   obtain ⟨b, off, hA, hb, hc⟩ := h.2.2 hp
   exact ⟨b, off, hA, Nat.lt_of_lt_of_le hb hs, fun j hj => (World.cell?_of_block (a := ⟨b, off + j, none⟩) (e b off hA hb)).trans (hc j hj)⟩⟩
theorem TimesAt.drop {w : World} {A : Option Addr} {l : List Int} (h : TimesAt w A l) (k cap : Nat) (hc : l.length ≤ cap) :
   TimesAt w (if cap = k then A else A.map (·.add (k * 1))) (l.drop k) := by
 refine ⟨h.1.drop k, by rw [List.length_drop]; have := h.2.1; omega, fun hp => ?_⟩
 rw [List.length_drop] at hp
 obtain ⟨b, off, rfl, hb, hcl⟩ := h.2.2 (by omega)
 rw [if_neg (by omega)]
 refine ⟨b, off + k, by
   simp only [Option.map_some, Option.some.injEq]
   unfold Addr.add
   split
   · rename_i h0; simp only [Addr.mk.injEq, and_true, true_and]; omega
   · simp, hb, fun j hj => ?_⟩
 rw [List.length_drop] at hj
 rw [Nat.add_assoc, hcl (k + j) (by omega)]
 simp [List.getD_eq_getElem?_getD, List.getElem?_drop]
theorem TimesAt.take {w : World} {A : Option Addr} {l : List Int} (h : TimesAt w A l) (k : Nat) : TimesAt w A (l.take k) := by
 refine ⟨h.1.take k, by rw [List.length_take]; have := h.2.1; omega, fun hp => ?_⟩
 rw [List.length_take] at hp
 obtain ⟨b, off, rfl, hb, hcl⟩ := h.2.2 (by omega)
 refine ⟨b, off, rfl, hb, fun j hj => ?_⟩
 rw [List.length_take] at hj
 rw [hcl j (by omega)]
 simp [List.getD_eq_getElem?_getD, List.getElem?_take, show j < k by omega]
theorem info_t64 : (Try.prog.info? 2).map (fun i => (i.zero, i.size, i.bytes)) = some (some (.int .i64 0), 1, 8) := by kernel_rfl
def OwnT (B : Nat) (w : World) (v : Value) (l : List Int) : Prop := w.ownsRow B 2 1 v l.length (t8s l) ∧ IsT l
theorem OwnT.at_ {B : Nat} {w : World} {v : Value} {l : List Int} (h : OwnT B w v l) : ∃ A cap, v = .slice A l.length cap ∧ l.length ≤ cap ∧ cap ≤ 9223372036854775807 ∧ TimesAt w A l := by
 rcases h.1.2 with ⟨rfl, h0⟩ | ⟨g, cap, cur, rfl, hg, hh, hnc, hcp, hcs, htake⟩
 · obtain rfl : l = [] := List.length_eq_zero_iff.1 h0
   exact ⟨none, 0, rfl, Nat.le_refl _, by omega, TimesAt.nil _ _⟩
 · unfold maxLen at hcp
   refine ⟨_, cap, rfl, hnc, hcp, h.2, by omega, fun _ => ⟨g, 0, rfl, (Array.getElem?_eq_some_iff.1 hh).1, fun j hj => ?_⟩⟩
   have := h.1.cells (g := g) rfl j (Value.int .i64 (l.getD j 0)) (by rw [getDT hj]; simp [t8s, hj])
   have e : (⟨g, 0, none⟩ : Addr).add j = ⟨g, 0 + j, none⟩ := by unfold Addr.add; split <;> simp_all
   rw [e] at this
   exact this
theorem OwnT.kept {B : Nat} {w w' : World} {v : Value} {l : List Int} (h : OwnT B w v l) {row : Option Nat} (hg : w.grownBy w' row) (hne : v.ownBlock = none ∨ v.ownBlock ≠ row) : OwnT B w' v l := ⟨h.1.kept hg hne, h.2⟩
theorem OwnT.alloc {B : Nat} {w : World} {v : Value} {l : List Int} (h : OwnT B w v l) (o : Obj) : OwnT B (w.alloc o) v l := ⟨h.1.alloc o, h.2⟩
theorem OwnT.drew {B : Nat} {w : World} {v : Value} {l : List Int} (h : OwnT B w v l) : OwnT B w.drew v l := h
theorem OwnT.nil_ (B : Nat) (w : World) : OwnT B w (.slice none 0 0) [] := ⟨World.ownsRow_nil _ _ _ _, IsT.nil⟩
theorem OwnT.keep {B : Nat} {w w' : World} {v : Value} {l : List Int} (h : OwnT B w v l) (hs : w.heap.size ≤ w'.heap.size) (e : ∀ g, v.ownBlock = some g → w'.heap[g]? = w.heap[g]?) : OwnT B w' v l := by
 refine ⟨?_, h.2⟩
 obtain ⟨h1, h2 | ⟨g, cap, cur, hv, hg, hh, r⟩⟩ := h.1
 · exact ⟨h1, Or.inl h2⟩
 · exact ⟨h1, Or.inr ⟨g, cap, cur, hv, hg, by rw [e g (by rw [hv]; rfl)]; exact hh, r⟩⟩
theorem OwnT.ext {B : Nat} {w w' : World} {v : Value} {l : List Int} (h : OwnT B w v l) (e : Ext w w') : OwnT B w' v l := by
 refine ⟨?_, h.2⟩
 obtain ⟨h1, h2 | ⟨g, cap, cur, hv, hg, hh, r⟩⟩ := h.1
 · exact ⟨h1, Or.inl h2⟩
 · exact ⟨h1, Or.inr ⟨g, cap, cur, hv, hg, by rw [e.block g (Array.getElem?_eq_some_iff.1 hh).1]; exact hh, r⟩⟩
theorem OwnT.less {B B' : Nat} {w : World} {v : Value} {l : List Int} (h : OwnT B w v l) (hB : B' ≤ B) : OwnT B' w v l := by
 refine ⟨?_, h.2⟩
 obtain ⟨h1, h2 | ⟨g, cap, cur, hv, hg, r⟩⟩ := h.1
 · exact ⟨h1, Or.inl h2⟩
 · exact ⟨h1, Or.inr ⟨g, cap, cur, hv, by omega, r⟩⟩
theorem run_appendT (B : Nat) (w : World) (ty : TypeId) (v : Value) (l0 l : List Int) (hown : OwnT B w v l0) (A : Option Addr) (m c : Nat) (hb : TimesAt w A l) (hm : l.length = m) (hlen : l0.length + l.length ≤ 17592186044416) (hbase : B ≤ w.heap.size) :
   ∃ v' w', (Builtin.append_ #[43, 43] ty #[v, .slice A m c]).run Try.prog w = .ok v' w' ∧ OwnT B w' v' (l0 ++ l) ∧ w.grownBy w' v.ownBlock ∧ (v'.ownBlock = v.ownBlock ∨ v'.ownBlock = some w.heap.size) := by
 subst hm
 obtain ⟨i0, hi0, hz0, hz1, hz2⟩ := info_parts info_t64
 have h63 : l0.length + l.length ≤ maxLen := by unfold maxLen; omega
 rcases A with _ | ad
 · have h0 : l = [] := by
     rcases Nat.eq_zero_or_pos l.length with h | h
     · exact List.length_eq_zero_iff.1 h
     · obtain ⟨b, off, h', _⟩ := hb.2.2 h
       cases h'
   subst h0
   refine ⟨v, w, ?_, by rw [List.append_nil]; exact hown, World.grownBy.refl w _, .inl rfl⟩
   rcases hown.1.2 with ⟨rfl, _⟩ | ⟨g, cap, cur, rfl, _, _, hnc, _⟩
   · simp [Builtin.append_, run_underlying Try.underlying43, sizeOf, typeInfo, hi0, Builtin.lenOf, Builtin.firstCells]
   · simp [Builtin.append_, run_underlying Try.underlying43, sizeOf, typeInfo, hi0, Builtin.lenOf, Builtin.firstCells, hnc, storeCells]
 · have hcells : ∀ j u, (t8s l)[j]? = some u → w.cell? (ad.add j) = some u := by
     intro j u hu
     have hj : j < l.length := by
       rcases Nat.lt_or_ge j (t8s l).length with h | h
       · rwa [t8s_len] at h
       · rw [List.getElem?_eq_none h] at hu; cases hu
     obtain ⟨b, off, h', _, hc⟩ := hb.2.2 (by omega)
     obtain rfl : ad = ⟨b, off, none⟩ := Option.some.inj h'
     rw [add_at, hc j hj, ← hu, getDT hj]
     simp [t8s, hj]
   obtain ⟨v', w', hrun, h2, h3, _, h5⟩ := run_append_own_at (P := Try.prog) w B 43 ty 2 i0 _ 1 8 Try.underlying43 hi0 hz0 hz1 hz2 rfl (by omega) v l0.length (t8s l0) hown.1 ad l.length c (t8s l) (by rw [t8s_len]; omega) hcells (t8s_one l) h63 (by omega) hbase
   refine ⟨v', w', hrun, ⟨?_, hown.2.app hb.1⟩, h3, h5⟩
   rw [t8s_app, List.length_append]
   exact h2
theorem wl_appendT {ops : Array Oper} {rest : List Oper} {o : Oper} {a : Act} {Q : Exit → Act → World → Prop} {w : World} (hgd : o.guard = none) (s x : Operand)
   (ho : o.op = .call { callee := .builtin .append, args := #[s, x], argTypes := #[43, 43] })
   (B : Nat) (v : Value) (l0 l : List Int) (hs : a.eval s = v) (hown : OwnT B w v l0) (A : Option Addr) (m c : Nat) (hx : a.eval x = .slice A m c) (hb : TimesAt w A l) (hm : l.length = m) (hlen : l0.length + l.length ≤ 17592186044416) (hbase : B ≤ w.heap.size)
   (h : ∀ v' w', OwnT B w' v' (l0 ++ l) → w.grownBy w' v.ownBlock → (v'.ownBlock = v.ownBlock ∨ v'.ownBlock = some w.heap.size) → wpList Try.prog ops Q rest (a.put o.dst v') w') : wpList Try.prog ops Q (o :: rest) a w :=
 wpList_plain hgd fun _ hK => by
   obtain ⟨v', w', hrun, h2, h3, h4⟩ := run_appendT B w o.type v l0 l hown A m c hb hm hlen hbase
   unfold Oper.wp execOp
   simp only [ho, resolve, invoke, builtin, Sem.run_bind, Sem.run_pure, Result.andThen_ok, List.map_toArray, List.map_cons, List.map_nil, hs, hx, hrun]
   exact hK _ _ (h v' w' h2 h3 h4)
theorem one_atT (w : World) (x : Int) (hx : I64 x) (u : Value) (hu : u = .int .i64 x) : TimesAt (w.alloc (.cells #[u] 2)) (some ⟨w.heap.size, 0, none⟩) [x] := by
 subst hu
 refine ⟨IsT.one hx, by simp, fun _ => ⟨w.heap.size, 0, rfl, by simp, fun j hj => ?_⟩⟩
 obtain rfl : j = 0 := by simpa using hj
 rw [World.cell?_alloc_at _ _ _ _ rfl]; rfl
theorem new_atT (w : World) (l : List Int) (hl : IsT l) (hm : l.length ≤ 9223372036854775807) (cs : Array Value) (hc : cs = (t8s l).toArray) : TimesAt (w.alloc (.cells cs 2)) (some ⟨w.heap.size, 0, none⟩) l := by
 subst hc
 refine ⟨hl, hm, fun _ => ⟨w.heap.size, 0, rfl, by simp, fun j hj => ?_⟩⟩
 rw [Nat.zero_add, cell_of_row _ w.heap.size j _ _ _ (heap_alloc_new w _), getDT hj]
 simp [t8s, hj]
theorem below_grownT {W w w' : World} {v : Value} {l : List Int} {B : Nat} (h : Below W.heap.size W w) (hB : W.heap.size ≤ B) (hown : OwnT B w v l) (hg : w.grownBy w' v.ownBlock) : Below W.heap.size W w' :=
 h.grown hg h.size (fun k hk => by
   obtain ⟨h1, h2⟩ := hown.1.lt k hk
   omega)
theorem OwnT.upd {B b : Nat} {w w' : World} {v : Value} {l : List Int} (h : OwnT B w v l) (u : Upd b w w') (hb : b < B) : OwnT B w' v l := by
 refine ⟨?_, h.2⟩
 obtain ⟨h1, h2 | ⟨g, cap, cur, hv, hg, hh, r⟩⟩ := h.1
 · exact ⟨h1, Or.inl h2⟩
 · exact ⟨h1, Or.inr ⟨g, cap, cur, hv, hg, by rw [u.2.2.2.2 g (Array.getElem?_eq_some_iff.1 hh).1 (by omega)]; exact hh, r⟩⟩
theorem TimesAt.upd {b : Nat} {w w' : World} {A : Option Addr} {l : List Int} (h : TimesAt w A l) (u : Upd b w w') (hb : ∀ g off, A = some ⟨g, off, none⟩ → g ≠ b) : TimesAt w' A l :=
 h.keep u.2.2.2.1 fun g off hA hg => u.2.2.2.2 g hg (hb g off hA)
theorem idxT (b off N cap j : Nat) (h : j < N) (w : World) : (Instr.indexAt 43 (.slice (some ⟨b, off, none⟩) N cap) (.int .i64 (j : Int))).run Try.prog w = .ok (.pointer (some ⟨b, off + j, none⟩)) w := by
 have hz := Try.sizeOf2
 have he : Try.prog.elem 43 = 2 := by kernel_rfl
 have hr := run_indexAt_slice (P := Try.prog) (w := w) 43 ⟨b, off, none⟩ N cap .i64 (j : Int) (by kernel_rfl)
 rw [hr, if_pos ⟨by omega, by omega⟩, he, hz]
 simp [Result.andThen, add_at]
theorem own_times {w : World} {A : Option Addr} {c cap B : Nat} {l : List Int} (h : OwnT B w (.slice A c cap) l) : TimesAt w A l := by
 obtain ⟨A', cap', he, _, _, hw⟩ := h.at_
 cases he
 exact hw
def incB (l : List Int) : Bool := decide (∀ i, i < l.length - 1 → l.getD i 0 < l.getD (i + 1) 0)
theorem incB_iff {l : List Int} : incB l = true ↔ ∀ i, i + 1 < l.length → l.getD i 0 < l.getD (i + 1) 0 := by
 unfold incB
 rw [decide_eq_true_iff]
 exact ⟨fun h i hi => h i (by omega), fun h i hi => h i (by omega)⟩
theorem getD_appL {l : List Int} (m : List Int) {i : Nat} (h : i < l.length) : (l ++ m).getD i 0 = l.getD i 0 := by
 simp only [List.getD_eq_getElem?_getD, List.getElem?_append_left h]
theorem getD_end (l : List Int) (x : Int) : (l ++ [x]).getD l.length 0 = x := by simp [List.getD_eq_getElem?_getD]
theorem incB_snoc {l : List Int} {i : Nat} (h : incB l = true) (hl : l.length = i + 1) {x : Int} (hx : l.getD i 0 < x) : incB (l ++ [x]) = true := by
 rw [incB_iff] at h ⊢
 intro j hj
 rw [List.length_append, List.length_singleton] at hj
 rw [getD_appL [x] (by omega)]
 by_cases hji : j = i
 · subst hji
   have := getD_end l x
   rw [hl] at this
   rw [this]; exact hx
 · rw [getD_appL [x] (by omega)]
   exact h j (by omega)
theorem rb1T {k : IntKind} {a a' : Int} (h1 : a = a') : Ending.returned (Value.int k a) = .returned (.int k a') := by rw [h1]
theorem dst_mod {a b : Int} (ha : I64 a) (hb : I64 b) (h : b ≤ a) : IntKind.u64.wrap (IntKind.u64.wrap a - IntKind.u64.wrap b) = (((a - b).natAbs : Nat) : Int) := by
 unfold I64 at ha hb
 have w : ∀ n : Int, IntKind.u64.wrap n = n % 18446744073709551616 := fun n => by simp [IntKind.wrap, IntKind.bits, IntKind.signed]
 rw [w, w, w]; omega
theorem p_diff (a b : Int) (w : World) (ha : I64 a) (hb : I64 b) (h : b ≤ a) : Calls Try.prog 93 #[.int .i64 a, .int .i64 b] w (RetSame (.int .u64 ((a - b).natAbs : Nat)) w) := by
 have e := hide (dst_mod ha hb h)
 obtain ⟨a1, a2⟩ := ha
 obtain ⟨b1, b2⟩ := hb
 go_enter Try.func93, Try.ntmps93
 go_wp2
 all_goals (first | go_ret | (exfalso; simp_all; done))
 all_goals exact ⟨rb1T e.out, rfl⟩
theorem p_dist (a b : Int) (w : World) (ha : I64 a) (hb : I64 b) : Calls Try.prog 84 #[.int .i64 a, .int .i64 b] w (RetSame (.int .u64 ((a - b).natAbs : Nat)) w) := by
 by_cases h : a < b
 · have K := hide (fun w => p_diff b a w hb ha (by omega))
   have hd : decide (a < b) = true := decide_eq_true h
   rw [show (b - a).natAbs = (a - b).natAbs by omega] at K
   clear ha hb
   go_enter Try.func84, Try.ntmps84
   go_wp2_with (go_at_call 93; (with_reducible refine (K.out _).mono ?_); rintro e w3 ⟨rfl, rfl⟩)
   go_ret
   exact ⟨rfl, rfl⟩
 · have K := hide (fun w => p_diff a b w ha hb (by omega))
   have hd : decide (a < b) = false := decide_eq_false h
   clear ha hb
   go_enter Try.func84, Try.ntmps84
   go_wp2_with (go_at_call 93; (with_reducible refine (K.out _).mono ?_); rintro e w3 ⟨rfl, rfl⟩)
   go_ret
   exact ⟨rfl, rfl⟩
theorem r_dist (a b : Int) (w : World) (ha : I64 a) (hb : I64 b) : Calls Try.prog 44 #[.int .i64 a, .int .i64 b] w (RetSame (.int .u64 ((a - b).natAbs : Nat)) w) := by
 by_cases h : a < b
 · have e := hide (dst_mod hb ha (by omega))
   rw [show (b - a).natAbs = (a - b).natAbs by omega] at e
   obtain ⟨a1, a2⟩ := ha
   obtain ⟨b1, b2⟩ := hb
   have hd : decide (a < b) = true := decide_eq_true h
   go_enter Try.func44, Try.ntmps44
   go_wp2_with fail
   go_ret
   exact ⟨rb1T e.out, rfl⟩
 · have e := hide (dst_mod ha hb (by omega))
   obtain ⟨a1, a2⟩ := ha
   obtain ⟨b1, b2⟩ := hb
   have hd : decide (a < b) = false := decide_eq_false h
   go_enter Try.func44, Try.ntmps44
   go_wp2_with fail
   go_ret
   exact ⟨rb1T e.out, rfl⟩
end
section
open Go Go.ChangeShapes Go.WideShapes Go.ChangeAt Go.RowKit
theorem cellsI64 : Try.prog.cellsOf 2 = 1 := by kernel_rfl
theorem timesU8 : Try.prog.bytesOf 2 = 8 := by kernel_rfl
theorem i64_range {x : Int} (h : (Lit.int .i64 x).wf = true) : I64 x := by
 have h1 : IntKind.i64.min = -9223372036854775808 := rfl
 have h2 : IntKind.i64.max = 9223372036854775807 := rfl
 simp only [Lit.wf, Bool.and_eq_true, decide_eq_true_eq] at h
 unfold I64
 omega
def InT (W : World) (a : Option Addr) (len cap : Nat) (l : List Int) : Prop := l.length = len ∧ len ≤ cap ∧ cap ≤ 17592186043904 ∧ TimesAt W a l
theorem times_of_trod {H : Type} {enc : TypeId × Value → H} {W : World} {a : Option Addr} {len cap : Nat} {d : DataW H} {ps : List MemPlace} {ts : List TypeId} {ds : List (DataW H)} {j : Nat}
   (h : DataW.Trod enc Try.prog W 0 (fun _ => true) true 43 (.slice a len cap) d ps) (hsz : (DataW.weightsEach Try.prog ts ds).all (· ≤ reachBytes) = true) (ht : ts[j]? = some 43) (hd : ds[j]? = some d) : ∃ l, InT W a len cap l := by
 obtain ⟨fuel, hf⟩ := h
 rcases open_ints Try.underlying43 Try.underlying2 cellsI64 hf with ⟨hcs, _⟩ | ⟨x, n, c, zs, hcs, _, hl, hm, hz, hx, hcell, hwz⟩
 · simp [Value.cells] at hcs
   obtain ⟨rfl, rfl, rfl⟩ := hcs
   exact ⟨[], rfl, Nat.le_refl _, by omega, TimesAt.nil _ _⟩
 · simp [Value.cells] at hcs
   obtain ⟨rfl, rfl, rfl⟩ := hcs
   simp only [Prod.mk.injEq] at hx
   obtain ⟨rfl, _⟩ := hx
   have hw := sized_slice hsz (j := j) (t := 43) (e := 2) ht hd Try.underlying43
   rw [timesU8] at hw
   simp only [lits, List.length_map, List.length_take, List.length_drop, reachBytes] at hw
   have hz : zs.length = cap := by simpa using hz
   have hr : ∀ z ∈ zs, I64 z := fun z hz => i64_range (hwz _ hz)
   refine ⟨zs.take len, by simp; omega, hl, by omega, fun y hy => hr y (List.mem_of_mem_take hy), by simp; omega, fun hp => ?_⟩
   simp only [List.length_take] at hp ⊢
   obtain ⟨b, off, rfl, hc'⟩ := ints_at hcell (by omega)
   refine ⟨b, off, rfl, block_lt_of_cell (a := ⟨b, off + 0, none⟩) (hc' 0 (by omega)), fun i hi => ?_⟩
   have hi2 : i < zs.length := by omega
   rw [hc' i (by omega)]
   congr 2
   simp [List.getD_eq_getElem?_getD, List.getElem?_take, show i < len by omega, hi2]
end
end Go.Proofs.Ytlfmeiejocpnfaa
