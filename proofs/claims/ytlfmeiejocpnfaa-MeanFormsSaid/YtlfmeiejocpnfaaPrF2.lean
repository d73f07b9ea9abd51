/- Part 2 of what these claims stand on: contracts of the program's and the reference's functions, and plain facts. Conditions: each states its own. -/
import Derived.Test.YtlfmeiejocpnfaaPrF1
import Derived.Shelf.Small.Bits
import Derived.Lib.BitFns
import Derived.OwnWalk
import Derived.Laws.IdiomCopy
namespace Go.Proofs.Ytlfmeiejocpnfaa
set_option linter.unusedVariables false
set_option linter.unusedSimpArgs false
section
open Go Go.RowKit
def lzRen : Go.Shelf.Ren := ⟨fun | 134 => 74 | 129 => 75 | n => n, fun | 53 => 22 | 3 => 3 | 4 => 4 | 46 => 81 | 5 => 5 | 9 => 9 | n => n, fun | n => n⟩
theorem lzLays : Go.Proofs.Lays.n134 Try.prog lzRen := {
 mixed := by kernel_rfl
 f129 := Try.func75.trans (congrArg some (by kernel_rfl))
 f134 := Try.func74.trans (congrArg some (by kernel_rfl))
 t3 := Try.underlying3
 a3 := Try.isAgg3
 z3 := Try.sizeOf3
 v3 := Try.zeroValue3
 t4 := Try.underlying4
 a4 := Try.isAgg4
 z4 := Try.sizeOf4
 v4 := Try.zeroValue4
 t5 := Try.underlying5
 a5 := Try.isAgg5
 z5 := Try.sizeOf5
 v5 := Try.zeroValue5
 t9 := Try.underlying9
 a9 := Try.isAgg9
 z9 := Try.sizeOf9
 v9 := Try.zeroValue9
 t46 := Try.underlying81
 a46 := Try.isAgg81
 z46 := Try.sizeOf81
 v46 := Try.zeroValue81
 t53 := Try.underlying22
 a53 := Try.isAgg22
 z53 := Try.sizeOf22
 v53 := Try.zeroValue22 }
theorem bitLen_spec (x : Nat) : x < 2 ^ 64 → Lib.bitLen x ≤ 64 ∧ x < 2 ^ Lib.bitLen x ∧ (x ≠ 0 → 1 ≤ Lib.bitLen x ∧ 2 ^ (Lib.bitLen x - 1) ≤ x) := by
 intro h
 have key : ∀ k x : Nat, x < 2 ^ k → k ≤ 64 → Lib.bitLen x ≤ k ∧ x < 2 ^ Lib.bitLen x ∧ (x ≠ 0 → 1 ≤ Lib.bitLen x ∧ 2 ^ (Lib.bitLen x - 1) ≤ x) := by
   intro k
   induction k with
   | zero => intro x hx _; have : x = 0 := by omega
             subst this; decide
   | succ k ih =>
     intro x hx hk
     by_cases h0 : x = 0
     · subst h0; have e0 : Lib.bitLen 0 = 0 := by decide
       rw [e0]
       exact ⟨by omega, by omega, fun h => absurd rfl h⟩
     · have h64 : x < 2 ^ 64 := Nat.lt_of_lt_of_le hx (Nat.pow_le_pow_right (by omega) hk)
       have e := Lib.bitLen_half x h0 h64
       obtain ⟨i1, i2, i3⟩ := ih (x / 2) (by rw [Nat.pow_succ] at hx; omega) (by omega)
       rw [e]
       refine ⟨by omega, by rw [Nat.add_comm, Nat.pow_succ]; omega, fun _ => ⟨by omega, ?_⟩⟩
       rw [Nat.add_sub_cancel_left]
       by_cases h1 : x / 2 = 0
       · rw [h1]; have : Lib.bitLen 0 = 0 := by decide
         rw [this]; omega
       · obtain ⟨j1, j2⟩ := i3 h1
         obtain ⟨q, hq⟩ : ∃ q, Lib.bitLen (x / 2) = q + 1 := ⟨_, (Nat.sub_add_cancel j1).symm⟩
         rw [hq] at j2 ⊢
         simp only [Nat.add_sub_cancel] at j2
         rw [Nat.pow_succ]; omega
 exact key 64 x h (by omega)
theorem b_lz (x : Nat) (w : World) (hx : x < 18446744073709551616) (h0 : 0 < x) : Calls Try.prog 74 #[.int .u64 (x : Int)] w fun e w' => ∃ s : Nat, e = .returned (.int .i64 (s : Int)) ∧ s < 64 ∧ x * 2 ^ s < 18446744073709551616 ∧ 9223372036854775808 ≤ x * 2 ^ s ∧ w = w' := by
 refine (Go.Proofs.Any.bits_LeadingZeros64 lzLays (x : Int) w (by omega) (by omega)).mono ?_
 rintro e w' ⟨rfl, rfl⟩
 obtain ⟨i1, i2, i3⟩ := bitLen_spec x hx
 obtain ⟨j1, j2⟩ := i3 (by omega)
 have e : (64 : Nat) = Lib.bitLen x + (64 - Lib.bitLen x) := by omega
 refine ⟨64 - Lib.bitLen x, by rw [Int.toNat_natCast]; congr 2; omega, by omega, ?_, ?_, rfl⟩
 · have h1 : x * 2 ^ (64 - Lib.bitLen x) < 2 ^ Lib.bitLen x * 2 ^ (64 - Lib.bitLen x) := Nat.mul_lt_mul_of_pos_right i2 (Nat.two_pow_pos _)
   rw [← Nat.pow_add, ← e] at h1
   exact h1
 · have h1 : 2 ^ (Lib.bitLen x - 1) * 2 ^ (64 - Lib.bitLen x) ≤ x * 2 ^ (64 - Lib.bitLen x) := Nat.mul_le_mul_right _ j2
   rw [← Nat.pow_add, show Lib.bitLen x - 1 + (64 - Lib.bitLen x) = 63 by omega] at h1
   exact h1
open Go Go.RowKit
theorem wM (x y : Nat) : ∃ m : Nat, IntKind.u64.wrap ((x : Int) * (y : Int)) = (m : Int) ∧ Hid (m = x * y % 18446744073709551616) :=
 ⟨x * y % 18446744073709551616, by rw [wrap_u64', Int.natCast_emod, Int.natCast_mul]; rfl, rfl⟩
theorem wMl (x : Nat) : ∃ m : Nat, IntKind.u64.wrap ((x : Int) * 4294967296) = (m : Int) ∧ Hid (m = x * 4294967296 % 18446744073709551616) :=
 ⟨x * 4294967296 % 18446744073709551616, by rw [wrap_u64', Int.natCast_emod, Int.natCast_mul]; rfl, rfl⟩
theorem wlM (x : Nat) : ∃ m : Nat, IntKind.u64.wrap (4294967296 * (x : Int)) = (m : Int) ∧ Hid (m = x * 4294967296 % 18446744073709551616) := by
 obtain ⟨m, h1, h2⟩ := wMl x
 exact ⟨m, by rw [Int.mul_comm]; exact h1, h2⟩
theorem wA (x y : Nat) : ∃ m : Nat, IntKind.u64.wrap ((x : Int) + (y : Int)) = (m : Int) ∧ Hid (m = (x + y) % 18446744073709551616) :=
 ⟨(x + y) % 18446744073709551616, by rw [wrap_u64']; omega, rfl⟩
theorem wS (x y : Nat) (hy : y ≤ 18446744073709551616) : ∃ m : Nat, IntKind.u64.wrap ((x : Int) - (y : Int)) = (m : Int) ∧ Hid (m = (x + 18446744073709551616 - y) % 18446744073709551616) :=
 ⟨(x + 18446744073709551616 - y) % 18446744073709551616, by rw [wrap_u64']; omega, rfl⟩
theorem wS1 (x : Nat) : ∃ m : Nat, IntKind.u64.wrap ((x : Int) - 1) = (m : Int) ∧ Hid (m = (x + 18446744073709551615) % 18446744073709551616) :=
 ⟨(x + 18446744073709551615) % 18446744073709551616, by rw [wrap_u64']; omega, rfl⟩
theorem wD (x y : Nat) : ∃ m : Nat, (x : Int).tdiv (y : Int) = (m : Int) ∧ (x : Int) / (y : Int) = (m : Int) ∧ Hid (m = x / y) :=
 ⟨x / y, (Int.ofNat_tdiv x y).symm, (Int.natCast_ediv x y).symm, rfl⟩
theorem wI (x : Nat) (h : x < 18446744073709551616) : IntKind.u64.wrap (x : Int) = (x : Int) := by rw [wrap_u64']; omega
theorem or_sum (x y s : Nat) (hs : s ≤ 64) (hy : y < 2 ^ s) (hx : x * 2 ^ s < 18446744073709551616) : bits .or .u64 ((x * 2 ^ s : Nat) : Int) (y : Int) = ((x * 2 ^ s + y : Nat) : Int) := by
 have h64 : (2 : Nat) ^ s ≤ 18446744073709551616 := Nat.le_trans (Nat.pow_le_pow_right (by omega) hs) (by decide)
 have e1 : (BitVec.ofInt 64 ((x * 2 ^ s : Nat) : Int)).toNat = x * 2 ^ s := by
   rw [BitVec.ofInt_natCast, BitVec.toNat_ofNat]; exact Nat.mod_eq_of_lt hx
 have e2 : (BitVec.ofInt 64 (y : Int)).toNat = y := by
   rw [BitVec.ofInt_natCast, BitVec.toNat_ofNat]; exact Nat.mod_eq_of_lt (by omega)
 have e3 : x * 2 ^ s ||| y = x * 2 ^ s + y := by
   rw [Nat.mul_comm x, Nat.two_pow_add_eq_or_of_lt hy]
 show IntKind.u64.wrap ((BitVec.ofInt 64 ((x * 2 ^ s : Nat) : Int) ||| BitVec.ofInt 64 (y : Int)).toNat : Int) = _
 rw [BitVec.toNat_or, e1, e2, e3, wrap_u64']
 have h5 : x * 2 ^ s + y < 18446744073709551616 := by
   by_cases h : s = 64
   · subst h
     have h0 : x = 0 := by
       rcases Nat.eq_zero_or_pos x with h | h
       · exact h
       · exfalso
         have : 1 * 2 ^ 64 ≤ x * 2 ^ 64 := Nat.mul_le_mul_right _ h
         omega
     subst h0; simp; exact hy
   · have h6 : x * 2 ^ s + 2 ^ s ≤ 18446744073709551616 := by
       have h7 : (18446744073709551616 : Nat) = 2 ^ (64 - s) * 2 ^ s := by rw [← Nat.pow_add, Nat.sub_add_cancel hs]
       rw [h7] at hx ⊢
       have h8 := Nat.lt_of_mul_lt_mul_right hx
       have h9 : (x + 1) * 2 ^ s ≤ 2 ^ (64 - s) * 2 ^ s := Nat.mul_le_mul_right _ h8
       rw [Nat.add_mul, Nat.one_mul] at h9
       exact h9
     omega
 omega
theorem div_head (hi lo y s : Nat) (h1 : hi < y) (_h2 : y < 18446744073709551616) (h3 : lo < 18446744073709551616) (hs : s < 64) (k2 : y * 2 ^ s < 18446744073709551616) (k3 : 9223372036854775808 ≤ y * 2 ^ s) :
   ∃ v n1 n0 hs' lt u32 u10 u1 u0 : Nat, IntKind.u64.wrap ((y : Int) * 2 ^ s) = (v : Int) ∧ (v : Int) / 4294967296 = (n1 : Int) ∧ bits .and .u64 (v : Int) 4294967295 = (n0 : Int) ∧
     IntKind.u64.wrap ((hi : Int) * 2 ^ s) = (hs' : Int) ∧ (lo : Int) / 2 ^ (64 - s) = (lt : Int) ∧ bits .or .u64 (hs' : Int) (lt : Int) = (u32 : Int) ∧ IntKind.u64.wrap ((lo : Int) * 2 ^ s) = (u10 : Int) ∧ (u10 : Int) / 4294967296 = (u1 : Int) ∧ bits .and .u64 (u10 : Int) 4294967295 = (u0 : Int) ∧
     Hid (v = n1 * 4294967296 + n0 ∧ n0 < 4294967296 ∧ 2147483648 ≤ n1 ∧ n1 < 4294967296 ∧ u10 = u1 * 4294967296 + u0 ∧ u0 < 4294967296 ∧ u1 < 4294967296 ∧ u32 < v ∧ v < 18446744073709551616 ∧ u32 * 18446744073709551616 + u10 = (hi * 18446744073709551616 + lo) * 2 ^ s ∧ v = y * 2 ^ s) := by
 have hp : (18446744073709551616 : Nat) = 2 ^ s * 2 ^ (64 - s) := by rw [← Nat.pow_add, show s + (64 - s) = 64 by omega]
 have c2 : ((2 : Int) ^ s) = ((2 ^ s : Nat) : Int) := by rw [Int.natCast_pow]; rfl
 have c3 : ((2 : Int) ^ (64 - s)) = ((2 ^ (64 - s) : Nat) : Int) := by rw [Int.natCast_pow]; rfl
 have hhi : hi * 2 ^ s < 18446744073709551616 := Nat.lt_of_le_of_lt (Nat.mul_le_mul_right _ (Nat.le_of_lt h1)) k2
 have hlt : lo / 2 ^ (64 - s) < 2 ^ s := by
   rw [Nat.div_lt_iff_lt_mul (Nat.two_pow_pos _), ← hp]; exact h3
 refine ⟨y * 2 ^ s, y * 2 ^ s / 4294967296, y * 2 ^ s % 4294967296, hi * 2 ^ s, lo / 2 ^ (64 - s), hi * 2 ^ s + lo / 2 ^ (64 - s), lo * 2 ^ s % 18446744073709551616, lo * 2 ^ s % 18446744073709551616 / 4294967296, lo * 2 ^ s % 18446744073709551616 % 4294967296, ?_, ?_, ?_, ?_, ?_, ?_, ?_, ?_, ?_, ?_⟩
 · rw [c2, ← Int.natCast_mul, wI _ k2]
 · rw [Int.natCast_ediv]; rfl
 · rw [m32, Int.natCast_emod]; rfl
 · rw [c2, ← Int.natCast_mul, wI _ hhi]
 · rw [c3, Int.natCast_ediv]
 · exact or_sum hi (lo / 2 ^ (64 - s)) s (by omega) hlt hhi
 · rw [c2, ← Int.natCast_mul, wrap_u64', Int.natCast_emod]; rfl
 · rw [Int.natCast_ediv]; rfl
 · rw [m32, Int.natCast_emod]; rfl
 · have e1 : lo * 2 ^ s = lo / 2 ^ (64 - s) * 18446744073709551616 + lo * 2 ^ s % 18446744073709551616 := by
     have e2 : lo * 2 ^ s / 18446744073709551616 = lo / 2 ^ (64 - s) := by
       rw [hp, Nat.mul_comm lo, Nat.mul_div_mul_left _ _ (Nat.two_pow_pos s)]
     have := Nat.div_add_mod (lo * 2 ^ s) 18446744073709551616
     rw [e2] at this; omega
   have e3 : hi * 2 ^ s + 2 ^ s ≤ y * 2 ^ s := by
     have : (hi + 1) * 2 ^ s ≤ y * 2 ^ s := Nat.mul_le_mul_right _ h1
     rw [Nat.add_mul, Nat.one_mul] at this; exact this
   refine ⟨by omega, by omega, by omega, by omega, by omega, by omega, by omega, by omega, k2, ?_, rfl⟩
   rw [Nat.add_mul, Nat.add_mul, Nat.mul_right_comm hi]
   omega
open Go Go.RowKit
def DigRel (u v n1 c q r : Nat) : Prop := u = q * n1 + r ∧ r < 4294967296 ∧ u * 4294967296 + c < (q + 1) * v
theorem dig_iff (u v n1 n0 c q r : Nat) (hv : v = n1 * 4294967296 + n0) (e : u = q * n1 + r) : q * n0 ≤ r * 4294967296 + c ↔ q * v ≤ u * 4294967296 + c := by
 subst hv; subst e
 rw [Nat.mul_add, Nat.add_mul, ← Nat.mul_assoc]
 omega
theorem dig_lt (u v c : Nat) (hu : u < v) (hc : c < 4294967296) : u * 4294967296 + c < 4294967296 * v := by omega
theorem dig_stop (u v n1 n0 c q r : Nat) (hv : v = n1 * 4294967296 + n0) (_hn0 : n0 < 4294967296) (hu : u < v) (hc : c < 4294967296) (h : DigRel u v n1 c q r) (c1 : q * v ≤ u * 4294967296 + c) : q < 4294967296 ∧ q * n0 ≤ r * 4294967296 + c := by
 refine ⟨?_, (dig_iff u v n1 n0 c q r hv h.1).2 c1⟩
 have := dig_lt u v c hu hc
 exact Nat.lt_of_mul_lt_mul_right (Nat.lt_of_le_of_lt c1 this)
theorem dig_noWrap (n0 c q r m1 m2 m3 : Nat) (hn0 : n0 < 4294967296) (hc : c < 4294967296) (hq : q < 4294967296) (hr : r < 4294967296) (h1 : m1 = q * n0 % 18446744073709551616) (h2 : m2 = r * 4294967296 % 18446744073709551616) (h3 : m3 = (m2 + c) % 18446744073709551616) : m1 = q * n0 ∧ m3 = r * 4294967296 + c := by
 have : q * n0 ≤ 4294967295 * 4294967295 := Nat.mul_le_mul (by omega) (by omega)
 omega
theorem bnd_u21 (u v n1 q r : Nat) (hn1 : 2147483648 ≤ n1) (hu : u < v) (hv : v < 18446744073709551616) (e : u = q * n1 + r) : q < 18446744073709551616 := by
 have : q * 1 ≤ q * n1 := Nat.mul_le_mul_left _ (by omega)
 omega
theorem dig_dec (u v n1 n0 c q r : Nat) (hv : v = n1 * 4294967296 + n0) (hn0 : n0 < 4294967296) (hn1 : 0 < n1) (hu : u < v) (hc : c < 4294967296) (h : DigRel u v n1 c q r) (c1 : ¬ q * v ≤ u * 4294967296 + c) (q' r' : Nat) (bn : r + n1 < 18446744073709551616) (bq : q < 18446744073709551616)
   (hq' : q' = (q + 18446744073709551615) % 18446744073709551616) (hr' : r' = (r + n1) % 18446744073709551616) :
   q' < q ∧ (r' < 4294967296 → DigRel u v n1 c q' r') ∧ (4294967296 ≤ r' → q' * v ≤ u * 4294967296 + c ∧ u * 4294967296 + c < (q' + 1) * v ∧ q' < 4294967296) := by
 have hq0 : 0 < q := by
   rcases Nat.eq_zero_or_pos q with h0 | h0
   · subst h0; simp at c1
   · exact h0
 have e1 : q = q' + 1 := by omega
 have e2 : r' = r + n1 := by omega
 obtain ⟨h1, h2, h3⟩ := h
 have e3 : u = q' * n1 + r' := by rw [h1, e1, e2, Nat.add_mul]; omega
 have e4 : u * 4294967296 + c < (q' + 1) * v := by rw [← e1]; omega
 refine ⟨by omega, fun h => ⟨e3, h, e4⟩, fun h => ?_⟩
 have h5 : q' < 4294967296 := by
   have h6 : q' * n1 < 4294967296 * n1 := by omega
   exact Nat.lt_of_mul_lt_mul_right h6
 refine ⟨(dig_iff u v n1 n0 c q' r' hv e3).1 ?_, e4, h5⟩
 have : q' * n0 ≤ 4294967295 * 4294967295 := Nat.mul_le_mul (by omega) (by omega)
 omega
theorem dig_init (u v n1 n0 c g a r0 : Nat) (hv : v = n1 * 4294967296 + n0) (_hn0 : n0 < 4294967296) (hn1 : 0 < n1 ∧ n1 < 4294967296) (hu : u < v) (hv2 : v < 18446744073709551616) (hc : c < 4294967296) (hg : g = u / n1) (ha : a = g * n1 % 18446744073709551616) (hr : r0 = (u + 18446744073709551616 - a) % 18446744073709551616) : DigRel u v n1 c g r0 := by
 have h1 := Nat.div_add_mod u n1
 have h2 := Nat.mod_lt u hn1.1
 rw [← hg, Nat.mul_comm] at h1
 have h3 : (g + 1) * v = (g * n1 + n1) * 4294967296 + (g + 1) * n0 := by subst hv; rw [Nat.mul_add, ← Nat.mul_assoc, Nat.add_mul, Nat.one_mul]
 refine ⟨by omega, by omega, ?_⟩
 rw [h3]; omega
theorem dig_rest (u v c q a1 a2 a3 x : Nat) {n1 n0 u10 u0 X y s : Nat} (hv : v = n1 * 4294967296 + n0 ∧ n0 < 4294967296 ∧ 2147483648 ≤ n1 ∧ n1 < 4294967296 ∧ u10 = c * 4294967296 + u0 ∧ u0 < 4294967296 ∧ c < 4294967296 ∧ u < v ∧ v < 18446744073709551616 ∧ u * 18446744073709551616 + u10 = X * 2 ^ s ∧ v = y * 2 ^ s)
   (hq : q * v ≤ u * 4294967296 + c ∧ u * 4294967296 + c < (q + 1) * v ∧ q < 4294967296) (h1 : a1 = u * 4294967296 % 18446744073709551616) (h2 : a2 = (a1 + c) % 18446744073709551616) (h3 : a3 = q * v % 18446744073709551616) (h4 : x = (a2 + 18446744073709551616 - a3) % 18446744073709551616) :
   u * 4294967296 + c = q * v + x ∧ x < v := by
 obtain ⟨_, _, _, _, _, _, hc, hu, hb, _, _⟩ := hv
 obtain ⟨k1, k2, k3⟩ := hq
 rw [Nat.add_mul, Nat.one_mul] at k2
 generalize q * v = t at *
 omega
theorem fin_b (v u p c b3 b4 b5 b6 : Nat) (hv : v < 18446744073709551616) (hu : u < v) (hc : c < 4294967296) (p1 : p * v ≤ u * 4294967296 + c) (p2 : u * 4294967296 + c < (p + 1) * v) (h3 : b3 = u * 4294967296 % 18446744073709551616) (h4 : b4 = (b3 + c) % 18446744073709551616) (h5 : b5 = p * v % 18446744073709551616) (h6 : b6 = (b4 + 18446744073709551616 - b5) % 18446744073709551616) :
   u * 4294967296 + c = p * v + b6 ∧ b6 < v := by
 rw [Nat.add_mul, Nat.one_mul] at p2
 generalize p * v = t at *
 omega
theorem fin_q (q p b1 b2 : Nat) (hq : q < 4294967296) (hp : p < 4294967296) (h1 : b1 = q * 4294967296 % 18446744073709551616) (h2 : b2 = (b1 + p) % 18446744073709551616) : b2 = q * 4294967296 + p := by omega
theorem fin_x {v u32 u1 u0 u21 q p b6 : Nat} (h1 : u32 * 4294967296 + u1 = q * v + u21) (h2 : u21 * 4294967296 + u0 = p * v + b6) : u32 * 18446744073709551616 + (u1 * 4294967296 + u0) = q * v * 4294967296 + p * v + b6 := by
 have h3 : u32 * 18446744073709551616 + u1 * 4294967296 = q * v * 4294967296 + u21 * 4294967296 := by
   have h4 := congrArg (· * 4294967296) h1
   simp only [Nat.add_mul] at h4
   rw [Nat.mul_assoc u32] at h4
   exact h4
 rw [← Nat.add_assoc, h3, Nat.add_assoc, h2, Nat.add_assoc]
theorem div_fin (hi lo y s v u32 u10 u1 u0 n1 n0 q p u21 b1 b2 b3 b4 b5 b6 : Nat) (hv : v = n1 * 4294967296 + n0 ∧ n0 < 4294967296 ∧ 2147483648 ≤ n1 ∧ n1 < 4294967296 ∧ u10 = u1 * 4294967296 + u0 ∧ u0 < 4294967296 ∧ u1 < 4294967296 ∧ u32 < v ∧ v < 18446744073709551616 ∧ u32 * 18446744073709551616 + u10 = (hi * 18446744073709551616 + lo) * 2 ^ s ∧ v = y * 2 ^ s)
   (hq : q * v ≤ u32 * 4294967296 + u1 ∧ u32 * 4294967296 + u1 < (q + 1) * v ∧ q < 4294967296) (hu : u32 * 4294967296 + u1 = q * v + u21 ∧ u21 < v) (hp : p * v ≤ u21 * 4294967296 + u0 ∧ u21 * 4294967296 + u0 < (p + 1) * v ∧ p < 4294967296) (_h1 : hi < y)
   (h1 : b1 = q * 4294967296 % 18446744073709551616) (h2 : b2 = (b1 + p) % 18446744073709551616) (h3 : b3 = u21 * 4294967296 % 18446744073709551616) (h4 : b4 = (b3 + u0) % 18446744073709551616) (h5 : b5 = p * v % 18446744073709551616) (h6 : b6 = (b4 + 18446744073709551616 - b5) % 18446744073709551616) :
   (hi * 18446744073709551616 + lo) / y = b2 ∧ (hi * 18446744073709551616 + lo) % y = b6 / 2 ^ s := by
 obtain ⟨_, _, _, _, e10, hc0, _, _, hvb, eX, ev⟩ := hv
 obtain ⟨p1, p2, p3⟩ := hp
 have eb := fin_b v u21 p u0 b3 b4 b5 b6 hvb hu.2 hc0 p1 p2 h3 h4 h5 h6
 have e2 := fin_q q p b1 b2 hq.2.2 p3 h1 h2
 have eT : (hi * 18446744073709551616 + lo) * 2 ^ s = b2 * v + b6 := by
   rw [← eX, e10, e2, Nat.add_mul, Nat.mul_right_comm q]
   exact fin_x hu.1 eb.1
 have hy : 0 < y := by omega
 have ps := Nat.two_pow_pos s
 rw [ev, ← Nat.mul_assoc] at eT
 have hb6 : b6 / 2 ^ s * 2 ^ s = b6 := by
   have hd : 2 ^ s ∣ b6 := by
     have h7 : 2 ^ s ∣ b2 * y * 2 ^ s + b6 := by rw [← eT]; exact Nat.dvd_mul_left _ _
     exact (Nat.dvd_add_right (Nat.dvd_mul_left _ _)).1 h7
   exact Nat.div_mul_cancel hd
 have hX : hi * 18446744073709551616 + lo = b2 * y + b6 / 2 ^ s := by
   have h8 : (hi * 18446744073709551616 + lo) * 2 ^ s = (b2 * y + b6 / 2 ^ s) * 2 ^ s := by rw [Nat.add_mul (b2 * y), hb6]; exact eT
   exact Nat.eq_of_mul_eq_mul_right ps h8
 have hlt : b6 / 2 ^ s < y := by
   rw [Nat.div_lt_iff_lt_mul ps, ← ev]; exact eb.2
 rw [hX]
 constructor
 · rw [Nat.mul_comm, Nat.mul_add_div hy, Nat.div_eq_of_lt hlt, Nat.add_zero]
 · rw [Nat.mul_comm, Nat.mul_add_mod, Nat.mod_eq_of_lt hlt]
theorem sh2 (b s : Nat) : (b : Int) / 2 ^ s = ((b / 2 ^ s : Nat) : Int) := by
 rw [Int.natCast_ediv, Int.natCast_pow]; rfl
set_option maxRecDepth 100000 in
set_option maxHeartbeats 2000000 in
theorem b_div64_big (hi lo y : Nat) (w : World) (h1 : hi < y) (h2 : y < 18446744073709551616) (h3 : lo < 18446744073709551616) (h0 : 0 < hi) :
   Calls Try.prog 63 #[.int .u64 (hi : Int), .int .u64 (lo : Int), .int .u64 (y : Int)] w fun e w' => e = .returned (.tuple #[.int .u64 (((hi * 18446744073709551616 + lo) / y : Nat) : Int), .int .u64 (((hi * 18446744073709551616 + lo) % y : Nat) : Int)]) ∧ w = w' := by
 have e1 : ((y : Int) == 0) = false := by simp; omega
 have e2 : ((hi : Int) == 0) = false := by simp; omega
 have e3 : ¬ ((y : Int) ≤ (hi : Int)) := by omega
 have e4 : ¬ (y ≤ hi) := by omega
 obtain ⟨dq, hdq⟩ : ∃ dq, (hi * 18446744073709551616 + lo) / y = dq := ⟨_, rfl⟩
 obtain ⟨dr, hdr⟩ : ∃ dr, (hi * 18446744073709551616 + lo) % y = dr := ⟨_, rfl⟩
 rw [hdq, hdr]
 have HDQ := hide hdq
 have HDR := hide hdr
 clear hdq hdr
 go_enter Try.func63, Try.ntmps63
 go_wp2_with (go_at_call 74; refine (b_lz y _ h2 (by omega)).mono ?_; rintro e w' ⟨s, rfl, k1, k2, k3, rfl⟩; obtain ⟨v, n1, n0, hs', lt, u32, u10, u1, u0, f1, f2, f3, f4, f5, f6, f7, f8, f9, HV⟩ := div_head hi lo y s h1 h2 h3 k1 k2 k3; clear k2 k3; have HN : Hid (0 < n1 ∧ n1 < 4294967296) := (by have := HV.out; exact ⟨by omega, by omega⟩); have hn1 : ¬ ((n1 : Int) = 0) := (by have := HN.out; omega); have hn2 : ¬ (n1 = 0) := (by have := HN.out; omega); obtain ⟨g1, t11, t12, GG⟩ := wD u32 n1; have t13 := wI g1 (by have := GG.out; have := HV.out; have : u32 / n1 ≤ u32 := Nat.div_le_self _ _; omega); obtain ⟨a0, w01, A01⟩ := wM g1 n1; obtain ⟨r1, w02, A02⟩ := wS u32 a0 (by have := A01.out; omega); have HI1 := hide (dig_init u32 v n1 n0 u1 g1 a0 r1 HV.out.1 HV.out.2.1 HN.out HV.out.2.2.2.2.2.2.2.1 HV.out.2.2.2.2.2.2.2.2.1 HV.out.2.2.2.2.2.2.1 GG.out A01.out A02.out))
 go_loop [15, 16] (fun x1 x2 => ∃ (q r : Nat), x1 = .int .u64 q ∧ x2 = .int .u64 r ∧ Hid (DigRel u32 v n1 u1 q r)) (fun x1 _ => (intOf x1).toNat)
 case atStart => exact ⟨g1, r1, rfl, rfl, HI1.out⟩
 case round =>
   obtain ⟨q, r, rfl, rfl, HR⟩ := hrel
   by_cases c1 : q * v ≤ u32 * 4294967296 + u1
   · have hstop := dig_stop u32 v n1 n0 u1 q r HV.out.1 HV.out.2.1 HV.out.2.2.2.2.2.2.2.1 HV.out.2.2.2.2.2.2.1 HR.out c1
     obtain ⟨m1, x1, X1⟩ := wM q n0
     obtain ⟨m2, x2, X2⟩ := wlM r
     obtain ⟨m3, x3, X3⟩ := wA m2 u1
     have hq : ¬ ((4294967296 : Int) ≤ (q : Int)) := by have := hstop.1; omega
     have hm : ¬ ((m3 : Int) < (m1 : Int)) := by have := dig_noWrap n0 u1 q r m1 m2 m3 HV.out.2.1 HV.out.2.2.2.2.2.2.1 hstop.1 HR.out.2.1 X1.out X2.out X3.out; have h3 := hstop.2; omega
     have HQ : Hid (q * v ≤ u32 * 4294967296 + u1 ∧ u32 * 4294967296 + u1 < (q + 1) * v ∧ q < 4294967296) := ⟨c1, HR.out.2.2, hstop.1⟩
     clear hstop c1
     obtain ⟨a1, w1, A1⟩ := wMl u32
     obtain ⟨a2, w2, A2⟩ := wA a1 u1
     obtain ⟨a3, w3, A3⟩ := wM q v
     obtain ⟨u21, w4, A4⟩ := wS a2 a3 (by have := A3.out; omega)
     have HU := hide (dig_rest u32 v u1 q a1 a2 a3 u21 HV.out HQ.out A1.out A2.out A3.out A4.out)
     obtain ⟨g, t1, t2, G1⟩ := wD u21 n1
     have t3 := wI g (by have := G1.out; have := HU.out; have := HV.out; have : u21 / n1 ≤ u21 := Nat.div_le_self _ _; omega)
     obtain ⟨a4, w6, A5⟩ := wM g n1
     obtain ⟨r0, w7, A6⟩ := wS u21 a4 (by have := A5.out; omega)
     have HI := hide (dig_init u21 v n1 n0 u0 g a4 r0 HV.out.1 HV.out.2.1 HN.out HU.out.2 HV.out.2.2.2.2.2.2.2.2.1 HV.out.2.2.2.2.2.1 G1.out A5.out A6.out)
     go_wp2_with fail
     go_loop [18, 16] (fun x1 x2 => ∃ (p r2 : Nat), x1 = .int .u64 p ∧ x2 = .int .u64 r2 ∧ Hid (DigRel u21 v n1 u0 p r2)) (fun x1 _ => (intOf x1).toNat)
     case atStart => exact ⟨g, r0, rfl, rfl, HI.out⟩
     case round =>
       obtain ⟨p, r2, rfl, rfl, HR⟩ := hrel
       by_cases c1 : p * v ≤ u21 * 4294967296 + u0
       · have hstop := dig_stop u21 v n1 n0 u0 p r2 HV.out.1 HV.out.2.1 HU.out.2 HV.out.2.2.2.2.2.1 HR.out c1
         obtain ⟨m1, x1, X1⟩ := wM p n0
         obtain ⟨m2, x2, X2⟩ := wlM r2
         obtain ⟨m3, x3, X3⟩ := wA m2 u0
         have hq : ¬ ((4294967296 : Int) ≤ (p : Int)) := by have := hstop.1; omega
         have hm : ¬ ((m3 : Int) < (m1 : Int)) := by have := dig_noWrap n0 u0 p r2 m1 m2 m3 HV.out.2.1 HV.out.2.2.2.2.2.1 hstop.1 HR.out.2.1 X1.out X2.out X3.out; have h3 := hstop.2; omega
         have HQ0 : Hid (p * v ≤ u21 * 4294967296 + u0 ∧ u21 * 4294967296 + u0 < (p + 1) * v ∧ p < 4294967296) := ⟨c1, HR.out.2.2, hstop.1⟩
         obtain ⟨b1, y1, Y1⟩ := wMl q
         obtain ⟨b2, y2, Y2⟩ := wA b1 p
         obtain ⟨b3, y3, Y3⟩ := wMl u21
         obtain ⟨b4, y4, Y4⟩ := wA b3 u0
         obtain ⟨b5, y5, Y5⟩ := wM p v
         obtain ⟨b6, y6, Y6⟩ := wS b4 b5 (by have := Y5.out; omega)
         have HF := hide (div_fin hi lo y s v u32 u10 u1 u0 n1 n0 q p u21 b1 b2 b3 b4 b5 b6 HV.out HQ.out HU.out HQ0.out h1 Y1.out Y2.out Y3.out Y4.out Y5.out Y6.out)
         clear hstop c1
         go_wp2_with fail
         go_ret2
         exact ⟨rr2 (by rw [← HDQ.out, HF.out.1]) (by rw [← HDR.out, HF.out.2]; exact sh2 b6 s), rfl⟩
       · have hs2 := dig_dec u21 v n1 n0 u0 p r2 HV.out.1 HV.out.2.1 HN.out.1 HU.out.2 HV.out.2.2.2.2.2.1 HR.out c1
         obtain ⟨p', z1, Z1⟩ := wS1 p
         obtain ⟨r2', z2, Z2⟩ := wA r2 n1
         obtain ⟨hp, hd, hb⟩ := hs2 p' r2' (by have := HR.out.2.1; have := HV.out; omega) (bnd_u21 u21 v n1 p r2 HV.out.2.2.1 HU.out.2 HV.out.2.2.2.2.2.2.2.2.1 HR.out.1) Z1.out Z2.out
         have hp := hide hp
         have hd := hide hd
         have hb := hide hb
         by_cases hq : 4294967296 ≤ p
         · have hqI : (4294967296 : Int) ≤ (p : Int) := by omega
           by_cases hr : 4294967296 ≤ r2'
           · have hrI : (4294967296 : Int) ≤ (r2' : Int) := by omega
             have HQ0 : Hid (p' * v ≤ u21 * 4294967296 + u0 ∧ u21 * 4294967296 + u0 < (p' + 1) * v ∧ p' < 4294967296) := hb.out hr
             obtain ⟨b1, y1, Y1⟩ := wMl q
             obtain ⟨b2, y2, Y2⟩ := wA b1 p'
             obtain ⟨b3, y3, Y3⟩ := wMl u21
             obtain ⟨b4, y4, Y4⟩ := wA b3 u0
             obtain ⟨b5, y5, Y5⟩ := wM p' v
             obtain ⟨b6, y6, Y6⟩ := wS b4 b5 (by have := Y5.out; omega)
             have HF := hide (div_fin hi lo y s v u32 u10 u1 u0 n1 n0 q p' u21 b1 b2 b3 b4 b5 b6 HV.out HQ.out HU.out HQ0.out h1 Y1.out Y2.out Y3.out Y4.out Y5.out Y6.out)
             clear c1 hq hr hs2
             go_wp2_with fail
             go_ret2
             exact ⟨rr2 (by rw [← HDQ.out, HF.out.1]) (by rw [← HDR.out, HF.out.2]; exact sh2 b6 s), rfl⟩
           · have hrI : ¬ ((4294967296 : Int) ≤ (r2' : Int)) := by omega
             have HD := hide (hd.out (by omega))
             have hlt : p' < p := hp.out
             clear c1 hq hr hs2
             go_wp2_with fail
             exact ⟨⟨p', r2', rfl, rfl, HD.out⟩, by simp [intOf]; omega⟩
         · obtain ⟨m1, x1, X1⟩ := wM p n0
           obtain ⟨m2, x2, X2⟩ := wlM r2
           obtain ⟨m3, x3, X3⟩ := wA m2 u0
           have hqI : ¬ ((4294967296 : Int) ≤ (p : Int)) := by omega
           have hm : ((m3 : Int) < (m1 : Int)) := by
             have h4 := dig_noWrap n0 u0 p r2 m1 m2 m3 HV.out.2.1 HV.out.2.2.2.2.2.1 (by omega) HR.out.2.1 X1.out X2.out X3.out
             have h5 := dig_iff u21 v n1 n0 u0 p r2 HV.out.1 HR.out.1
             omega
           by_cases hr : 4294967296 ≤ r2'
           · have hrI : (4294967296 : Int) ≤ (r2' : Int) := by omega
             have HQ0 : Hid (p' * v ≤ u21 * 4294967296 + u0 ∧ u21 * 4294967296 + u0 < (p' + 1) * v ∧ p' < 4294967296) := hb.out hr
             obtain ⟨b1, y1, Y1⟩ := wMl q
             obtain ⟨b2, y2, Y2⟩ := wA b1 p'
             obtain ⟨b3, y3, Y3⟩ := wMl u21
             obtain ⟨b4, y4, Y4⟩ := wA b3 u0
             obtain ⟨b5, y5, Y5⟩ := wM p' v
             obtain ⟨b6, y6, Y6⟩ := wS b4 b5 (by have := Y5.out; omega)
             have HF := hide (div_fin hi lo y s v u32 u10 u1 u0 n1 n0 q p' u21 b1 b2 b3 b4 b5 b6 HV.out HQ.out HU.out HQ0.out h1 Y1.out Y2.out Y3.out Y4.out Y5.out Y6.out)
             clear c1 hq hr hs2
             go_wp2_with fail
             go_ret2
             exact ⟨rr2 (by rw [← HDQ.out, HF.out.1]) (by rw [← HDR.out, HF.out.2]; exact sh2 b6 s), rfl⟩
           · have hrI : ¬ ((4294967296 : Int) ≤ (r2' : Int)) := by omega
             have HD := hide (hd.out (by omega))
             have hlt : p' < p := hp.out
             clear c1 hq hr hs2
             go_wp2_with fail
             exact ⟨⟨p', r2', rfl, rfl, HD.out⟩, by simp [intOf]; omega⟩
   · have hs2 := dig_dec u32 v n1 n0 u1 q r HV.out.1 HV.out.2.1 HN.out.1 HV.out.2.2.2.2.2.2.2.1 HV.out.2.2.2.2.2.2.1 HR.out c1
     obtain ⟨q', z1, Z1⟩ := wS1 q
     obtain ⟨r', z2, Z2⟩ := wA r n1
     obtain ⟨hp, hd, hb⟩ := hs2 q' r' (by have := HR.out.2.1; have := HV.out; omega) (bnd_u21 u32 v n1 q r HV.out.2.2.1 HV.out.2.2.2.2.2.2.2.1 HV.out.2.2.2.2.2.2.2.2.1 HR.out.1) Z1.out Z2.out
     have hp := hide hp
     have hd := hide hd
     have hb := hide hb
     by_cases hq : 4294967296 ≤ q
     · have hqI : (4294967296 : Int) ≤ (q : Int) := by omega
       by_cases hr : 4294967296 ≤ r'
       · have hrI : (4294967296 : Int) ≤ (r' : Int) := by omega
         have HQ : Hid (q' * v ≤ u32 * 4294967296 + u1 ∧ u32 * 4294967296 + u1 < (q' + 1) * v ∧ q' < 4294967296) := hb.out hr
         clear c1 hq hr hs2
         obtain ⟨a1, w1, A1⟩ := wMl u32
         obtain ⟨a2, w2, A2⟩ := wA a1 u1
         obtain ⟨a3, w3, A3⟩ := wM q' v
         obtain ⟨u21, w4, A4⟩ := wS a2 a3 (by have := A3.out; omega)
         have HU := hide (dig_rest u32 v u1 q' a1 a2 a3 u21 HV.out HQ.out A1.out A2.out A3.out A4.out)
         obtain ⟨g, t1, t2, G1⟩ := wD u21 n1
         have t3 := wI g (by have := G1.out; have := HU.out; have := HV.out; have : u21 / n1 ≤ u21 := Nat.div_le_self _ _; omega)
         obtain ⟨a4, w6, A5⟩ := wM g n1
         obtain ⟨r0, w7, A6⟩ := wS u21 a4 (by have := A5.out; omega)
         have HI := hide (dig_init u21 v n1 n0 u0 g a4 r0 HV.out.1 HV.out.2.1 HN.out HU.out.2 HV.out.2.2.2.2.2.2.2.2.1 HV.out.2.2.2.2.2.1 G1.out A5.out A6.out)
         go_wp2_with fail
         go_loop [18, 16] (fun x1 x2 => ∃ (p r2 : Nat), x1 = .int .u64 p ∧ x2 = .int .u64 r2 ∧ Hid (DigRel u21 v n1 u0 p r2)) (fun x1 _ => (intOf x1).toNat)
         case atStart => exact ⟨g, r0, rfl, rfl, HI.out⟩
         case round =>
           obtain ⟨p, r2, rfl, rfl, HR⟩ := hrel
           by_cases c1 : p * v ≤ u21 * 4294967296 + u0
           · have hstop := dig_stop u21 v n1 n0 u0 p r2 HV.out.1 HV.out.2.1 HU.out.2 HV.out.2.2.2.2.2.1 HR.out c1
             obtain ⟨m1, x1, X1⟩ := wM p n0
             obtain ⟨m2, x2, X2⟩ := wlM r2
             obtain ⟨m3, x3, X3⟩ := wA m2 u0
             have hq : ¬ ((4294967296 : Int) ≤ (p : Int)) := by have := hstop.1; omega
             have hm : ¬ ((m3 : Int) < (m1 : Int)) := by have := dig_noWrap n0 u0 p r2 m1 m2 m3 HV.out.2.1 HV.out.2.2.2.2.2.1 hstop.1 HR.out.2.1 X1.out X2.out X3.out; have h3 := hstop.2; omega
             have HQ0 : Hid (p * v ≤ u21 * 4294967296 + u0 ∧ u21 * 4294967296 + u0 < (p + 1) * v ∧ p < 4294967296) := ⟨c1, HR.out.2.2, hstop.1⟩
             obtain ⟨b1, y1, Y1⟩ := wMl q'
             obtain ⟨b2, y2, Y2⟩ := wA b1 p
             obtain ⟨b3, y3, Y3⟩ := wMl u21
             obtain ⟨b4, y4, Y4⟩ := wA b3 u0
             obtain ⟨b5, y5, Y5⟩ := wM p v
             obtain ⟨b6, y6, Y6⟩ := wS b4 b5 (by have := Y5.out; omega)
             have HF := hide (div_fin hi lo y s v u32 u10 u1 u0 n1 n0 q' p u21 b1 b2 b3 b4 b5 b6 HV.out HQ.out HU.out HQ0.out h1 Y1.out Y2.out Y3.out Y4.out Y5.out Y6.out)
             clear hstop c1
             go_wp2_with fail
             go_ret2
             exact ⟨rr2 (by rw [← HDQ.out, HF.out.1]) (by rw [← HDR.out, HF.out.2]; exact sh2 b6 s), rfl⟩
           · have hs2 := dig_dec u21 v n1 n0 u0 p r2 HV.out.1 HV.out.2.1 HN.out.1 HU.out.2 HV.out.2.2.2.2.2.1 HR.out c1
             obtain ⟨p', z1, Z1⟩ := wS1 p
             obtain ⟨r2', z2, Z2⟩ := wA r2 n1
             obtain ⟨hp, hd, hb⟩ := hs2 p' r2' (by have := HR.out.2.1; have := HV.out; omega) (bnd_u21 u21 v n1 p r2 HV.out.2.2.1 HU.out.2 HV.out.2.2.2.2.2.2.2.2.1 HR.out.1) Z1.out Z2.out
             have hp := hide hp
             have hd := hide hd
             have hb := hide hb
             by_cases hq : 4294967296 ≤ p
             · have hqI : (4294967296 : Int) ≤ (p : Int) := by omega
               by_cases hr : 4294967296 ≤ r2'
               · have hrI : (4294967296 : Int) ≤ (r2' : Int) := by omega
                 have HQ0 : Hid (p' * v ≤ u21 * 4294967296 + u0 ∧ u21 * 4294967296 + u0 < (p' + 1) * v ∧ p' < 4294967296) := hb.out hr
                 obtain ⟨b1, y1, Y1⟩ := wMl q'
                 obtain ⟨b2, y2, Y2⟩ := wA b1 p'
                 obtain ⟨b3, y3, Y3⟩ := wMl u21
                 obtain ⟨b4, y4, Y4⟩ := wA b3 u0
                 obtain ⟨b5, y5, Y5⟩ := wM p' v
                 obtain ⟨b6, y6, Y6⟩ := wS b4 b5 (by have := Y5.out; omega)
                 have HF := hide (div_fin hi lo y s v u32 u10 u1 u0 n1 n0 q' p' u21 b1 b2 b3 b4 b5 b6 HV.out HQ.out HU.out HQ0.out h1 Y1.out Y2.out Y3.out Y4.out Y5.out Y6.out)
                 clear c1 hq hr hs2
                 go_wp2_with fail
                 go_ret2
                 exact ⟨rr2 (by rw [← HDQ.out, HF.out.1]) (by rw [← HDR.out, HF.out.2]; exact sh2 b6 s), rfl⟩
               · have hrI : ¬ ((4294967296 : Int) ≤ (r2' : Int)) := by omega
                 have HD := hide (hd.out (by omega))
                 have hlt : p' < p := hp.out
                 clear c1 hq hr hs2
                 go_wp2_with fail
                 exact ⟨⟨p', r2', rfl, rfl, HD.out⟩, by simp [intOf]; omega⟩
             · obtain ⟨m1, x1, X1⟩ := wM p n0
               obtain ⟨m2, x2, X2⟩ := wlM r2
               obtain ⟨m3, x3, X3⟩ := wA m2 u0
               have hqI : ¬ ((4294967296 : Int) ≤ (p : Int)) := by omega
               have hm : ((m3 : Int) < (m1 : Int)) := by
                 have h4 := dig_noWrap n0 u0 p r2 m1 m2 m3 HV.out.2.1 HV.out.2.2.2.2.2.1 (by omega) HR.out.2.1 X1.out X2.out X3.out
                 have h5 := dig_iff u21 v n1 n0 u0 p r2 HV.out.1 HR.out.1
                 omega
               by_cases hr : 4294967296 ≤ r2'
               · have hrI : (4294967296 : Int) ≤ (r2' : Int) := by omega
                 have HQ0 : Hid (p' * v ≤ u21 * 4294967296 + u0 ∧ u21 * 4294967296 + u0 < (p' + 1) * v ∧ p' < 4294967296) := hb.out hr
                 obtain ⟨b1, y1, Y1⟩ := wMl q'
                 obtain ⟨b2, y2, Y2⟩ := wA b1 p'
                 obtain ⟨b3, y3, Y3⟩ := wMl u21
                 obtain ⟨b4, y4, Y4⟩ := wA b3 u0
                 obtain ⟨b5, y5, Y5⟩ := wM p' v
                 obtain ⟨b6, y6, Y6⟩ := wS b4 b5 (by have := Y5.out; omega)
                 have HF := hide (div_fin hi lo y s v u32 u10 u1 u0 n1 n0 q' p' u21 b1 b2 b3 b4 b5 b6 HV.out HQ.out HU.out HQ0.out h1 Y1.out Y2.out Y3.out Y4.out Y5.out Y6.out)
                 clear c1 hq hr hs2
                 go_wp2_with fail
                 go_ret2
                 exact ⟨rr2 (by rw [← HDQ.out, HF.out.1]) (by rw [← HDR.out, HF.out.2]; exact sh2 b6 s), rfl⟩
               · have hrI : ¬ ((4294967296 : Int) ≤ (r2' : Int)) := by omega
                 have HD := hide (hd.out (by omega))
                 have hlt : p' < p := hp.out
                 clear c1 hq hr hs2
                 go_wp2_with fail
                 exact ⟨⟨p', r2', rfl, rfl, HD.out⟩, by simp [intOf]; omega⟩
       · have hrI : ¬ ((4294967296 : Int) ≤ (r' : Int)) := by omega
         have HD := hide (hd.out (by omega))
         have hlt : q' < q := hp.out
         clear c1 hq hr hs2
         go_wp2_with fail
         exact ⟨⟨q', r', rfl, rfl, HD.out⟩, by simp [intOf]; omega⟩
     · obtain ⟨m1, x1, X1⟩ := wM q n0
       obtain ⟨m2, x2, X2⟩ := wlM r
       obtain ⟨m3, x3, X3⟩ := wA m2 u1
       have hqI : ¬ ((4294967296 : Int) ≤ (q : Int)) := by omega
       have hm : ((m3 : Int) < (m1 : Int)) := by
         have h4 := dig_noWrap n0 u1 q r m1 m2 m3 HV.out.2.1 HV.out.2.2.2.2.2.2.1 (by omega) HR.out.2.1 X1.out X2.out X3.out
         have h5 := dig_iff u32 v n1 n0 u1 q r HV.out.1 HR.out.1
         omega
       by_cases hr : 4294967296 ≤ r'
       · have hrI : (4294967296 : Int) ≤ (r' : Int) := by omega
         have HQ : Hid (q' * v ≤ u32 * 4294967296 + u1 ∧ u32 * 4294967296 + u1 < (q' + 1) * v ∧ q' < 4294967296) := hb.out hr
         clear c1 hq hr hs2
         obtain ⟨a1, w1, A1⟩ := wMl u32
         obtain ⟨a2, w2, A2⟩ := wA a1 u1
         obtain ⟨a3, w3, A3⟩ := wM q' v
         obtain ⟨u21, w4, A4⟩ := wS a2 a3 (by have := A3.out; omega)
         have HU := hide (dig_rest u32 v u1 q' a1 a2 a3 u21 HV.out HQ.out A1.out A2.out A3.out A4.out)
         obtain ⟨g, t1, t2, G1⟩ := wD u21 n1
         have t3 := wI g (by have := G1.out; have := HU.out; have := HV.out; have : u21 / n1 ≤ u21 := Nat.div_le_self _ _; omega)
         obtain ⟨a4, w6, A5⟩ := wM g n1
         obtain ⟨r0, w7, A6⟩ := wS u21 a4 (by have := A5.out; omega)
         have HI := hide (dig_init u21 v n1 n0 u0 g a4 r0 HV.out.1 HV.out.2.1 HN.out HU.out.2 HV.out.2.2.2.2.2.2.2.2.1 HV.out.2.2.2.2.2.1 G1.out A5.out A6.out)
         go_wp2_with fail
         go_loop [18, 16] (fun x1 x2 => ∃ (p r2 : Nat), x1 = .int .u64 p ∧ x2 = .int .u64 r2 ∧ Hid (DigRel u21 v n1 u0 p r2)) (fun x1 _ => (intOf x1).toNat)
         case atStart => exact ⟨g, r0, rfl, rfl, HI.out⟩
         case round =>
           obtain ⟨p, r2, rfl, rfl, HR⟩ := hrel
           by_cases c1 : p * v ≤ u21 * 4294967296 + u0
           · have hstop := dig_stop u21 v n1 n0 u0 p r2 HV.out.1 HV.out.2.1 HU.out.2 HV.out.2.2.2.2.2.1 HR.out c1
             obtain ⟨m1, x1, X1⟩ := wM p n0
             obtain ⟨m2, x2, X2⟩ := wlM r2
             obtain ⟨m3, x3, X3⟩ := wA m2 u0
             have hq : ¬ ((4294967296 : Int) ≤ (p : Int)) := by have := hstop.1; omega
             have hm : ¬ ((m3 : Int) < (m1 : Int)) := by have := dig_noWrap n0 u0 p r2 m1 m2 m3 HV.out.2.1 HV.out.2.2.2.2.2.1 hstop.1 HR.out.2.1 X1.out X2.out X3.out; have h3 := hstop.2; omega
             have HQ0 : Hid (p * v ≤ u21 * 4294967296 + u0 ∧ u21 * 4294967296 + u0 < (p + 1) * v ∧ p < 4294967296) := ⟨c1, HR.out.2.2, hstop.1⟩
             obtain ⟨b1, y1, Y1⟩ := wMl q'
             obtain ⟨b2, y2, Y2⟩ := wA b1 p
             obtain ⟨b3, y3, Y3⟩ := wMl u21
             obtain ⟨b4, y4, Y4⟩ := wA b3 u0
             obtain ⟨b5, y5, Y5⟩ := wM p v
             obtain ⟨b6, y6, Y6⟩ := wS b4 b5 (by have := Y5.out; omega)
             have HF := hide (div_fin hi lo y s v u32 u10 u1 u0 n1 n0 q' p u21 b1 b2 b3 b4 b5 b6 HV.out HQ.out HU.out HQ0.out h1 Y1.out Y2.out Y3.out Y4.out Y5.out Y6.out)
             clear hstop c1
             go_wp2_with fail
             go_ret2
             exact ⟨rr2 (by rw [← HDQ.out, HF.out.1]) (by rw [← HDR.out, HF.out.2]; exact sh2 b6 s), rfl⟩
           · have hs2 := dig_dec u21 v n1 n0 u0 p r2 HV.out.1 HV.out.2.1 HN.out.1 HU.out.2 HV.out.2.2.2.2.2.1 HR.out c1
             obtain ⟨p', z1, Z1⟩ := wS1 p
             obtain ⟨r2', z2, Z2⟩ := wA r2 n1
             obtain ⟨hp, hd, hb⟩ := hs2 p' r2' (by have := HR.out.2.1; have := HV.out; omega) (bnd_u21 u21 v n1 p r2 HV.out.2.2.1 HU.out.2 HV.out.2.2.2.2.2.2.2.2.1 HR.out.1) Z1.out Z2.out
             have hp := hide hp
             have hd := hide hd
             have hb := hide hb
             by_cases hq : 4294967296 ≤ p
             · have hqI : (4294967296 : Int) ≤ (p : Int) := by omega
               by_cases hr : 4294967296 ≤ r2'
               · have hrI : (4294967296 : Int) ≤ (r2' : Int) := by omega
                 have HQ0 : Hid (p' * v ≤ u21 * 4294967296 + u0 ∧ u21 * 4294967296 + u0 < (p' + 1) * v ∧ p' < 4294967296) := hb.out hr
                 obtain ⟨b1, y1, Y1⟩ := wMl q'
                 obtain ⟨b2, y2, Y2⟩ := wA b1 p'
                 obtain ⟨b3, y3, Y3⟩ := wMl u21
                 obtain ⟨b4, y4, Y4⟩ := wA b3 u0
                 obtain ⟨b5, y5, Y5⟩ := wM p' v
                 obtain ⟨b6, y6, Y6⟩ := wS b4 b5 (by have := Y5.out; omega)
                 have HF := hide (div_fin hi lo y s v u32 u10 u1 u0 n1 n0 q' p' u21 b1 b2 b3 b4 b5 b6 HV.out HQ.out HU.out HQ0.out h1 Y1.out Y2.out Y3.out Y4.out Y5.out Y6.out)
                 clear c1 hq hr hs2
                 go_wp2_with fail
                 go_ret2
                 exact ⟨rr2 (by rw [← HDQ.out, HF.out.1]) (by rw [← HDR.out, HF.out.2]; exact sh2 b6 s), rfl⟩
               · have hrI : ¬ ((4294967296 : Int) ≤ (r2' : Int)) := by omega
                 have HD := hide (hd.out (by omega))
                 have hlt : p' < p := hp.out
                 clear c1 hq hr hs2
                 go_wp2_with fail
                 exact ⟨⟨p', r2', rfl, rfl, HD.out⟩, by simp [intOf]; omega⟩
             · obtain ⟨m1, x1, X1⟩ := wM p n0
               obtain ⟨m2, x2, X2⟩ := wlM r2
               obtain ⟨m3, x3, X3⟩ := wA m2 u0
               have hqI : ¬ ((4294967296 : Int) ≤ (p : Int)) := by omega
               have hm : ((m3 : Int) < (m1 : Int)) := by
                 have h4 := dig_noWrap n0 u0 p r2 m1 m2 m3 HV.out.2.1 HV.out.2.2.2.2.2.1 (by omega) HR.out.2.1 X1.out X2.out X3.out
                 have h5 := dig_iff u21 v n1 n0 u0 p r2 HV.out.1 HR.out.1
                 omega
               by_cases hr : 4294967296 ≤ r2'
               · have hrI : (4294967296 : Int) ≤ (r2' : Int) := by omega
                 have HQ0 : Hid (p' * v ≤ u21 * 4294967296 + u0 ∧ u21 * 4294967296 + u0 < (p' + 1) * v ∧ p' < 4294967296) := hb.out hr
                 obtain ⟨b1, y1, Y1⟩ := wMl q'
                 obtain ⟨b2, y2, Y2⟩ := wA b1 p'
                 obtain ⟨b3, y3, Y3⟩ := wMl u21
                 obtain ⟨b4, y4, Y4⟩ := wA b3 u0
                 obtain ⟨b5, y5, Y5⟩ := wM p' v
                 obtain ⟨b6, y6, Y6⟩ := wS b4 b5 (by have := Y5.out; omega)
                 have HF := hide (div_fin hi lo y s v u32 u10 u1 u0 n1 n0 q' p' u21 b1 b2 b3 b4 b5 b6 HV.out HQ.out HU.out HQ0.out h1 Y1.out Y2.out Y3.out Y4.out Y5.out Y6.out)
                 clear c1 hq hr hs2
                 go_wp2_with fail
                 go_ret2
                 exact ⟨rr2 (by rw [← HDQ.out, HF.out.1]) (by rw [← HDR.out, HF.out.2]; exact sh2 b6 s), rfl⟩
               · have hrI : ¬ ((4294967296 : Int) ≤ (r2' : Int)) := by omega
                 have HD := hide (hd.out (by omega))
                 have hlt : p' < p := hp.out
                 clear c1 hq hr hs2
                 go_wp2_with fail
                 exact ⟨⟨p', r2', rfl, rfl, HD.out⟩, by simp [intOf]; omega⟩
       · have hrI : ¬ ((4294967296 : Int) ≤ (r' : Int)) := by omega
         have HD := hide (hd.out (by omega))
         have hlt : q' < q := hp.out
         clear c1 hq hr hs2
         go_wp2_with fail
         exact ⟨⟨q', r', rfl, rfl, HD.out⟩, by simp [intOf]; omega⟩
open Go Go.RowKit
theorem b_div64_small (lo y : Nat) (w : World) (h2 : y < 18446744073709551616) (h3 : lo < 18446744073709551616) (h0 : 0 < y) :
   Calls Try.prog 63 #[.int .u64 0, .int .u64 (lo : Int), .int .u64 (y : Int)] w fun e w' => ∃ n, e = .returned (.tuple #[.int .u64 ((lo / y : Nat) : Int), .int .u64 ((lo % y : Nat) : Int)]) ∧ w' = w.drewN n := by
 have e1 : ((y : Int) == 0) = false := by simp; omega
 have e3 : ¬ ((y : Int) ≤ 0) := by omega
 have e4 : ¬ (y ≤ 0) := by omega
 have e5 : ¬ ((y : Int) = 0) := by omega
 have e6 : ¬ (y = 0) := by omega
 obtain ⟨q, t1, t2, Q⟩ := wD lo y
 obtain ⟨r, hr⟩ : ∃ r, lo % y = r := ⟨_, rfl⟩
 have t4 : (lo : Int).tmod (y : Int) = (r : Int) := by rw [← hr]; exact (Int.ofNat_tmod lo y).symm
 have t5 : (lo : Int) % (y : Int) = (r : Int) := by rw [← hr]; exact (Int.natCast_emod lo y).symm
 have hq : q < 18446744073709551616 := by have := Q.out; have : lo / y ≤ lo := Nat.div_le_self _ _; omega
 have hr2 : r < 18446744073709551616 := by rw [← hr]; have := Nat.mod_lt lo h0; omega
 have t3 := wI q hq
 have t6 := wI r hr2
 have HR := hide hr
 rw [← Q.out, hr]
 clear hr
 go_enter Try.func63, Try.ntmps63
 go_wp2_with fail
 go_quiet (fail)
 go_wp2_with fail
 go_ret2
 exact ⟨_, rfl, rfl⟩
def TwoRet (q r : Nat) (w : World) (e : Ending) (w' : World) : Prop := e = .returned (.tuple #[.int .u64 (q : Int), .int .u64 (r : Int)]) ∧ Ext w w'
theorem b_div64 (hi lo y q r : Nat) (w : World) (h1 : hi < y) (h2 : y < 18446744073709551616) (h3 : lo < 18446744073709551616) (hq : Hid ((hi * 18446744073709551616 + lo) / y = q)) (hr : Hid ((hi * 18446744073709551616 + lo) % y = r)) :
   Calls Try.prog 63 #[.int .u64 (hi : Int), .int .u64 (lo : Int), .int .u64 (y : Int)] w (TwoRet q r w) := by
 by_cases h0 : 0 < hi
 · refine (b_div64_big hi lo y w h1 h2 h3 h0).mono ?_
   rintro e w' ⟨rfl, rfl⟩
   exact ⟨by rw [hq.out, hr.out], Ext.refl _⟩
 · obtain rfl : hi = 0 := by omega
   refine (b_div64_small lo y w h2 h3 h1).mono ?_
   rintro e w' ⟨n, rfl, rfl⟩
   refine ⟨?_, ext_drewN _ _⟩
   have := hq.out
   have := hr.out
   simp only [Nat.zero_mul, Nat.zero_add] at *
   simp [*]
def DivRel (L os : List Nat) (b k c : Nat) : Prop := os.length = L.length ∧ os.take k = L.take k ∧ c < b ∧ val (os.drop k) * b + c = val (L.drop k)
theorem DivRel.step {L os : List Nat} {b j c x q r : Nat} (h : DivRel L os b (j + 1) c) (hj : j < L.length) (hx : L[j] = x) (bx : x < 18446744073709551616) (hb : 0 < b) (hq : (c * 18446744073709551616 + x) / b = q) (hr : (c * 18446744073709551616 + x) % b = r) :
   DivRel L (os.set j q) b j r ∧ q < 18446744073709551616 ∧ r < b ∧ ∀ h : j < os.length, os[j] = x := by
 obtain ⟨h1, h2, h3, h4⟩ := h
 have hjo : j < os.length := by omega
 have e := Nat.div_add_mod (c * 18446744073709551616 + x) b
 rw [hq, hr] at e
 have hr2 : r < b := by rw [← hr]; exact Nat.mod_lt _ hb
 have hq2 : q < 18446744073709551616 := by
   rw [← hq, Nat.div_lt_iff_lt_mul hb]
   have : c * 18446744073709551616 + 18446744073709551616 ≤ b * 18446744073709551616 := by
     have h5 : (c + 1) * 18446744073709551616 ≤ b * 18446744073709551616 := Nat.mul_le_mul_right _ h3
     omega
   have h6 : 18446744073709551616 * b = b * 18446744073709551616 := Nat.mul_comm _ _
   omega
 refine ⟨⟨by simpa using h1, ?_, hr2, ?_⟩, hq2, hr2, ?_⟩
 · rw [List.take_set_of_le (Nat.le_refl _)]
   have := congrArg (List.take j) h2
   rw [List.take_take, List.take_take, Nat.min_eq_left (by omega)] at this
   exact this
 · rw [val_drop _ j (by simpa using hjo), val_drop L j hj, List.getElem_set_self, List.drop_set_of_lt (by omega), hx, ← h4, Nat.add_mul, Nat.mul_assoc]
   generalize val (os.drop (j + 1)) * b = z at *
   rw [Nat.mul_comm b q] at e
   omega
 · intro h0
   have := congrArg (fun l => l[j]?) h2
   simp only [List.getElem?_take, Nat.lt_succ_self, if_true] at this
   rw [List.getElem?_eq_getElem h0, List.getElem?_eq_getElem hj, hx] at this
   exact Option.some.inj this
def DivWordRet (n b : Nat) (w : World) (e : Ending) (w' : World) : Prop := ∃ a1 b1 c1 d1 r : Nat, e = .returned (.tuple #[.agg #[.int .u64 (a1 : Int), .int .u64 (b1 : Int), .int .u64 (c1 : Int), .int .u64 (d1 : Int)], .int .u64 (r : Int)]) ∧ W64 [a1, b1, c1, d1] ∧ mag4 a1 b1 c1 d1 = n / b ∧ r = n % b ∧ Ext w w'
set_option maxHeartbeats 1000000 in
theorem p_divWord (a b c d n y : Nat) (hn : mag4 a b c d = n) (w : World) (hw : W64 [a, b, c, d]) (hy : 0 < y) (hy2 : y < 18446744073709551616) :
   Calls Try.prog 97 #[.agg #[.int .u64 (a : Int), .int .u64 (b : Int), .int .u64 (c : Int), .int .u64 (d : Int)], .int .u64 (y : Int)] w (DivWordRet n y w) := by
 have H1 := two_blocks w (.cells #[.int .u64 (a : Int), .int .u64 (b : Int), .int .u64 (c : Int), .int .u64 (d : Int)] 107) (.cells #[.int .u64 0, .int .u64 0, .int .u64 0, .int .u64 0] 107)
 obtain ⟨W, hW⟩ : ∃ W, W = (w.alloc (.cells #[.int .u64 (a : Int), .int .u64 (b : Int), .int .u64 (c : Int), .int .u64 (d : Int)] 107)).alloc (.cells #[.int .u64 0, .int .u64 0, .int .u64 0, .int .u64 0] 107) := ⟨_, rfl⟩
 have E0 : Ext w W := by rw [hW]; exact (ext_alloc _ _).trans (ext_alloc _ _)
 rw [← hW] at H1
 obtain ⟨L, hL⟩ : ∃ L, L = [a, b, c, d] := ⟨_, rfl⟩
 have A0 : Arr W w.heap.size 107 L := by rw [hL]; exact H1.1
 have A1 : Arr W (w.heap.size + 1) 107 [0, 0, 0, 0] := H1.2
 have HL : Hid (L.length = 4) := by rw [hL]; exact rfl
 have VL : Hid (val L = n) := by rw [hL]; exact hn
 rw [← hL] at hw
 have HW := hide hW
 clear hW H1 hL hn
 go_enter Try.func97, Try.ntmps97
 go_wp2_with fail
 rw [← HW.out]
 clear HW
 go_loopw [7, 6] (fun i t wr => ∃ (k c : Nat) (os : List Nat), i = .int .i64 ((k : Int) - 1) ∧ t = .int .u64 c ∧ k ≤ 4 ∧ Hid (DivRel L os y k c) ∧ W64 os ∧ Arr wr w.heap.size 107 os ∧ Upd w.heap.size W wr) (fun i _ _ => (intOf i + 1).toNat)
 case atStart => exact ⟨4, 0, L, rfl, rfl, by omega, ⟨rfl, rfl, hy, by rw [List.drop_of_length_le (by rw [HL.out]; omega)]; simp [val]⟩, hw, A0, Upd.refl _ _⟩
 case round =>
   obtain ⟨k, c, os, rfl, rfl, hk, HR, wo, hA, hU⟩ := hrel
   have HO : Hid (os.length = 4) := HR.out.1.trans HL.out
   by_cases hk0 : k = 0
   · subst hk0
     have B1 := A1.upd hU (by omega)
     have E1 := hU.ext E0 (Nat.le_refl _)
     have H1 : Hid (val os = n / y ∧ c = n % y) := by
       obtain ⟨_, _, h3, h4⟩ := HR.out
       rw [List.drop_zero, List.drop_zero, VL.out] at h4
       rw [← h4]
       constructor
       · rw [Nat.mul_comm, Nat.mul_add_div hy, Nat.div_eq_of_lt h3, Nat.add_zero]
       · rw [Nat.mul_comm, Nat.mul_add_mod, Nat.mod_eq_of_lt h3]
     obtain ⟨a1, b1, c1, d1, rfl⟩ := four_list HO.out
     obtain ⟨c0, c1', c2, c3, f0, f1, f2, f3⟩ := hA.four
     obtain ⟨d0, d1', d2, d3, g0, g1, g2, g3⟩ := B1.four
     clear hU hA B1
     go_wp2_with fail
     exact bodyPost_ret (v := .tuple #[.agg #[.int .u64 (a1 : Int), .int .u64 (b1 : Int), .int .u64 (c1 : Int), .int .u64 (d1 : Int)], .int .u64 (c : Int)]) (by simp [results, Try.results97, go_sem, d0, d1', d2, d3]) rfl ⟨a1, b1, c1, d1, c, rfl, wo, H1.out.1, H1.out.2, ext_four E1 (by omega) _ _ _ _⟩
   · obtain ⟨j, rfl⟩ : ∃ j, k = j + 1 := ⟨k - 1, by omega⟩
     have hj : j < L.length := by rw [HL.out]; omega
     have hjo : j < os.length := by rw [HO.out]; omega
     obtain ⟨x, hx⟩ : ∃ x, L[j] = x := ⟨_, rfl⟩
     have bx : x < 18446744073709551616 := by rw [← hx]; exact w64_get hw j hj
     obtain ⟨q, hq⟩ : ∃ q, (c * 18446744073709551616 + x) / y = q := ⟨_, rfl⟩
     obtain ⟨r, hr⟩ : ∃ r, (c * 18446744073709551616 + x) % y = r := ⟨_, rfl⟩
     obtain ⟨hS, z1, z2, z3⟩ := HR.out.step hj hx bx hy hq hr
     have cg := hA.at j hjo
     have fg := hA.free j
     rw [z3 hjo] at cg
     have hcy : c < y := HR.out.2.2.1
     have HQ := hide hq
     have HRR := hide hr
     have HS := hide hS
     have HA := hide hA
     have HU := hide hU
     have lg := hA.lt
     clear hq hr hx hS z3 hA hU
     go_wp2_with (go_at_call 63; refine (b_div64 c x y q r _ hcy hy2 bx HQ HRR).mono ?_; rintro e' w' ⟨rfl, hE⟩; have hA2 := HA.out.ext hE; have cg2 := hA2.at j hjo; have fg2 := hA2.free j; have HA3 := hide (hA2.set j q); have HU3 := hide ((HU.out.trans (hE.upd _)).set j (.int .u64 (q : Int))); clear hA2 hE)
     exact ⟨⟨j, _, _, by go_num, rfl, by omega, HS, w64_set wo _ _ z1, HA3.out, HU3.out⟩, by simp [intOf]⟩
open Go Go.RowKit
theorem or_sum' (x y s : Nat) (hs : s ≤ 64) (hy : y < 2 ^ s) (hx : x * 2 ^ s < 18446744073709551616) : bits .or .u64 (y : Int) ((x * 2 ^ s : Nat) : Int) = ((x * 2 ^ s + y : Nat) : Int) := by
 rw [← or_sum x y s hs hy hx]
 show IntKind.u64.wrap ((BitVec.ofInt 64 (y : Int) ||| BitVec.ofInt 64 ((x * 2 ^ s : Nat) : Int)).toNat : Int) = IntKind.u64.wrap ((BitVec.ofInt 64 ((x * 2 ^ s : Nat) : Int) ||| BitVec.ofInt 64 (y : Int)).toNat : Int)
 rw [BitVec.or_comm]
theorem two64 (s : Nat) (hs : s ≤ 64) : (18446744073709551616 : Nat) = 2 ^ s * 2 ^ (64 - s) := by
 rw [← Nat.pow_add, show s + (64 - s) = 64 by omega]
theorem shl_parts (x s c : Nat) (hs : s < 64) (hx : x < 18446744073709551616) (hc : c < 2 ^ s) :
   ∃ l t z : Nat, IntKind.u64.wrap ((x : Int) * 2 ^ s) = (l : Int) ∧ bits .or .u64 (l : Int) (c : Int) = (z : Int) ∧ (x : Int) / 2 ^ (64 - s) = (t : Int) ∧ Hid (z + 18446744073709551616 * t = x * 2 ^ s + c ∧ z < 18446744073709551616 ∧ t < 2 ^ s) := by
 have c2 : ((2 : Int) ^ s) = ((2 ^ s : Nat) : Int) := by rw [Int.natCast_pow]; rfl
 have c3 : ((2 : Int) ^ (64 - s)) = ((2 ^ (64 - s) : Nat) : Int) := by rw [Int.natCast_pow]; rfl
 have hp := two64 s (by omega)
 have ps := Nat.two_pow_pos s
 have pt := Nat.two_pow_pos (64 - s)
 have e1 := Nat.div_add_mod x (2 ^ (64 - s))
 have hm := Nat.mod_lt x pt
 have hl : x % 2 ^ (64 - s) * 2 ^ s < 18446744073709551616 := by
   rw [hp, Nat.mul_comm (2 ^ s)]; exact Nat.mul_lt_mul_of_pos_right hm ps
 have e2 : x * 2 ^ s = x % 2 ^ (64 - s) * 2 ^ s + 18446744073709551616 * (x / 2 ^ (64 - s)) := by
   have h1 := congrArg (· * 2 ^ s) e1
   simp only [Nat.add_mul] at h1
   have h2 : 2 ^ (64 - s) * (x / 2 ^ (64 - s)) * 2 ^ s = 18446744073709551616 * (x / 2 ^ (64 - s)) := by
     rw [hp, Nat.mul_right_comm, Nat.mul_comm (2 ^ (64 - s)) (2 ^ s)]
   omega
 have ht : x / 2 ^ (64 - s) < 2 ^ s := by rw [Nat.div_lt_iff_lt_mul pt, ← hp]; exact hx
 have ho := or_sum (x % 2 ^ (64 - s)) c s (by omega) hc hl
 have hz : x % 2 ^ (64 - s) * 2 ^ s + c < 18446744073709551616 := by
   have h3 : (x % 2 ^ (64 - s) + 1) * 2 ^ s ≤ 2 ^ (64 - s) * 2 ^ s := Nat.mul_le_mul_right _ hm
   rw [Nat.add_mul, Nat.one_mul, Nat.mul_comm (2 ^ (64 - s)), ← hp] at h3
   omega
 refine ⟨x % 2 ^ (64 - s) * 2 ^ s, x / 2 ^ (64 - s), x % 2 ^ (64 - s) * 2 ^ s + c, ?_, ho, ?_, ?_⟩
 · rw [c2, ← Int.natCast_mul, wrap_u64', e2]; omega
 · rw [c3, Int.natCast_ediv]
 · exact ⟨by omega, hz, ht⟩
def UpRel (L os : List Nat) (s k c : Nat) : Prop := os.length = L.length ∧ os.drop k = L.drop k ∧ c < 2 ^ s ∧ val (os.take k) + 18446744073709551616 ^ k * c = val (L.take k) * 2 ^ s
theorem UpRel.step {L os : List Nat} {s k c x z t : Nat} (h : UpRel L os s k c) (hk : k < L.length) (hx : L[k] = x) (hz : z + 18446744073709551616 * t = x * 2 ^ s + c ∧ z < 18446744073709551616 ∧ t < 2 ^ s) : UpRel L (os.set k z) s (k + 1) t := by
 obtain ⟨h1, h2, h3, h4⟩ := h
 refine ⟨by simpa using h1, by rw [drop_set]; exact (drop_get h2 (by omega) hk).2, hz.2.2, ?_⟩
 rw [val_set_take _ _ _ (by omega), val_take_succ L k hk, hx, Nat.pow_succ, Nat.add_mul, ← h4, Nat.mul_assoc, Nat.mul_assoc]
 have e := congrArg (18446744073709551616 ^ k * ·) hz.1
 simp only [Nat.mul_add] at e
 omega
def ShiftRet (n s : Nat) (w : World) (e : Ending) (w' : World) : Prop := ∃ a1 b1 c1 d1 r : Nat, e = .returned (.tuple #[.agg #[.int .u64 (a1 : Int), .int .u64 (b1 : Int), .int .u64 (c1 : Int), .int .u64 (d1 : Int)], .int .u64 (r : Int)]) ∧ W64 [a1, b1, c1, d1] ∧ mag4 a1 b1 c1 d1 + 115792089237316195423570985008687907853269984665640564039457584007913129639936 * r = n * 2 ^ s ∧ r < 2 ^ s ∧ Ext w w'
set_option maxHeartbeats 1000000 in
theorem p_shiftUp (a b c d n s : Nat) (hn : mag4 a b c d = n) (w : World) (hw : W64 [a, b, c, d]) (hs : s < 64) :
   Calls Try.prog 98 #[.agg #[.int .u64 (a : Int), .int .u64 (b : Int), .int .u64 (c : Int), .int .u64 (d : Int)], .int .u64 (s : Int)] w (ShiftRet n s w) := by
 have H1 := two_blocks w (.cells #[.int .u64 (a : Int), .int .u64 (b : Int), .int .u64 (c : Int), .int .u64 (d : Int)] 107) (.cells #[.int .u64 0, .int .u64 0, .int .u64 0, .int .u64 0] 107)
 obtain ⟨W, hW⟩ : ∃ W, W = (w.alloc (.cells #[.int .u64 (a : Int), .int .u64 (b : Int), .int .u64 (c : Int), .int .u64 (d : Int)] 107)).alloc (.cells #[.int .u64 0, .int .u64 0, .int .u64 0, .int .u64 0] 107) := ⟨_, rfl⟩
 have E0 : Ext w W := by rw [hW]; exact (ext_alloc _ _).trans (ext_alloc _ _)
 rw [← hW] at H1
 obtain ⟨L, hL⟩ : ∃ L, L = [a, b, c, d] := ⟨_, rfl⟩
 have A0 : Arr W w.heap.size 107 L := by rw [hL]; exact H1.1
 have A1 : Arr W (w.heap.size + 1) 107 [0, 0, 0, 0] := H1.2
 have HL : Hid (L.length = 4) := by rw [hL]; exact rfl
 have VL : Hid (val L = n) := by rw [hL]; exact hn
 have HLL := hide hL
 rw [← hL] at hw
 have HW := hide hW
 clear hW H1 hL hn
 go_enter Try.func98, Try.ntmps98
 go_wp2_with fail
 rw [← HW.out]
 clear HW
 go_loopw [10, 6] (fun i t wr => ∃ (k c : Nat) (os : List Nat), i = .int .i64 k ∧ t = .int .u64 c ∧ k ≤ 4 ∧ Hid (UpRel L os s k c) ∧ W64 os ∧ Arr wr w.heap.size 107 os ∧ Upd w.heap.size W wr) (fun i _ _ => 4 - (intOf i).toNat)
 case atStart => exact ⟨0, 0, L, rfl, rfl, by omega, ⟨rfl, rfl, Nat.two_pow_pos _, by simp [val]⟩, hw, A0, Upd.refl _ _⟩
 case round =>
   obtain ⟨k, c', os, rfl, rfl, hk, HR, wo, hA, hU⟩ := hrel
   have HO : Hid (os.length = 4) := HR.out.1.trans HL.out
   by_cases hk4 : k < 4
   · have hkL : k < L.length := by rw [HL.out]; omega
     have hko : k < os.length := by rw [HO.out]; omega
     obtain ⟨x, hx⟩ : ∃ x, L[k] = x := ⟨_, rfl⟩
     have bx : x < 18446744073709551616 := by rw [← hx]; exact w64_get hw k hkL
     have hidx : ∀ w, (Instr.index 107 (.agg #[.int .u64 (a : Int), .int .u64 (b : Int), .int .u64 (c : Int), .int .u64 (d : Int)]) (.int .i64 (k : Int))).run Try.prog w = .ok (.int .u64 (x : Int)) w := by
       have e := HLL.out; subst e; exact idxRun a b c d k x hkL hx
     obtain ⟨l, t, z, z1, z2, z3, HZ⟩ := shl_parts x s c' hs bx HR.out.2.2.1
     have HS := hide (HR.out.step hkL hx HZ.out)
     have cg := hA.at k hko
     have fg := hA.free k
     have HA := hide (hA.set k z)
     have HU := hide (hU.set k (.int .u64 (z : Int)))
     have w2 := w64_set wo k z HZ.out.2.1
     clear hx hA hU
     go_wp2_with fail
     exact ⟨⟨k + 1, _, _, by go_num, rfl, by omega, HS, w2, HA.out, HU.out⟩, by simp [intOf]; omega⟩
   · obtain rfl : k = 4 := by omega
     have B1 := A1.upd hU (by omega)
     have E1 := hU.ext E0 (Nat.le_refl _)
     have H1 : Hid (val os + 18446744073709551616 ^ 4 * c' = n * 2 ^ s) := by
       obtain ⟨_, _, h3, h4⟩ := HR.out
       rw [List.take_of_length_le (by rw [HO.out]; omega), List.take_of_length_le (by rw [HL.out]; omega), VL.out] at h4
       exact h4
     obtain ⟨a1, b1, c1, d1, rfl⟩ := four_list HO.out
     obtain ⟨c0, c1', c2, c3, f0, f1, f2, f3⟩ := hA.four
     obtain ⟨d0, d1', d2, d3, g0, g1, g2, g3⟩ := B1.four
     clear hU hA B1
     go_wp2_with fail
     exact bodyPost_ret (v := .tuple #[.agg #[.int .u64 (a1 : Int), .int .u64 (b1 : Int), .int .u64 (c1 : Int), .int .u64 (d1 : Int)], .int .u64 (c' : Int)]) (by simp [results, Try.results98, go_sem, d0, d1', d2, d3]) rfl ⟨a1, b1, c1, d1, c', rfl, wo, by have h := H1.out; rw [p4] at h; exact h, HR.out.2.2.1, ext_four E1 (by omega) _ _ _ _⟩
open Go Go.RowKit
theorem shr_parts (x s m : Nat) (hs : s < 64) (hx : x < 18446744073709551616) (hm : m < 2 ^ s) :
   ∃ l t z o : Nat, (x : Int) / 2 ^ s = (l : Int) ∧ IntKind.u64.wrap ((x : Int) * 2 ^ (64 - s)) = (t : Int) ∧ bits .or .u64 (l : Int) ((m * 2 ^ (64 - s) : Nat) : Int) = (z : Int) ∧ Hid (t = o * 2 ^ (64 - s) ∧ o < 2 ^ s ∧ z * 2 ^ s + o = x + 18446744073709551616 * m ∧ z < 18446744073709551616) := by
 have c2 : ((2 : Int) ^ s) = ((2 ^ s : Nat) : Int) := by rw [Int.natCast_pow]; rfl
 have c3 : ((2 : Int) ^ (64 - s)) = ((2 ^ (64 - s) : Nat) : Int) := by rw [Int.natCast_pow]; rfl
 have hp := two64 s (by omega)
 have ps := Nat.two_pow_pos s
 have pt := Nat.two_pow_pos (64 - s)
 have hl : x / 2 ^ s < 2 ^ (64 - s) := by rw [Nat.div_lt_iff_lt_mul ps, Nat.mul_comm, ← hp]; exact hx
 have hmt : m * 2 ^ (64 - s) < 18446744073709551616 := by rw [hp]; exact Nat.mul_lt_mul_of_pos_right hm pt
 have ho := or_sum' m (x / 2 ^ s) (64 - s) (by omega) hl hmt
 have e1 := Nat.div_add_mod x (2 ^ s)
 have h2 := Nat.mod_lt x ps
 have hz : m * 2 ^ (64 - s) + x / 2 ^ s < 18446744073709551616 := by
   have h3 : (m + 1) * 2 ^ (64 - s) ≤ 2 ^ s * 2 ^ (64 - s) := Nat.mul_le_mul_right _ hm
   rw [Nat.add_mul, Nat.one_mul, ← hp] at h3
   omega
 have ht : x * 2 ^ (64 - s) % 18446744073709551616 = x % 2 ^ s * 2 ^ (64 - s) := by rw [hp, Nat.mul_mod_mul_right]
 refine ⟨x / 2 ^ s, x * 2 ^ (64 - s) % 18446744073709551616, m * 2 ^ (64 - s) + x / 2 ^ s, x % 2 ^ s, ?_, ?_, ho, ht, h2, ?_, hz⟩
 · rw [c2, Int.natCast_ediv]
 · rw [c3, ← Int.natCast_mul, wrap_u64', Int.natCast_emod]; rfl
 · rw [Nat.add_mul, Nat.mul_assoc, Nat.mul_comm (2 ^ (64 - s)) (2 ^ s), ← hp, Nat.mul_comm (x / 2 ^ s) (2 ^ s)]
   omega
def DownRel (L os : List Nat) (s k m : Nat) : Prop := os.length = L.length ∧ os.take k = L.take k ∧ m < 2 ^ s ∧ val (os.drop k) * 2 ^ s + m = val (L.drop k)
theorem take_at {L os : List Nat} {j x : Nat} (h : os.take (j + 1) = L.take (j + 1)) (hj : j < L.length) (hx : L[j] = x) (h0 : j < os.length) : os[j] = x := by
 have := congrArg (fun l => l[j]?) h
 simp only [List.getElem?_take, Nat.lt_succ_self, if_true] at this
 rw [List.getElem?_eq_getElem h0, List.getElem?_eq_getElem hj, hx] at this
 exact Option.some.inj this
theorem DownRel.step {L os : List Nat} {s j m x z o : Nat} (h : DownRel L os s (j + 1) m) (hj : j < L.length) (hx : L[j] = x) (ho : o < 2 ^ s) (hz : z * 2 ^ s + o = x + 18446744073709551616 * m) : DownRel L (os.set j z) s j o := by
 obtain ⟨h1, h2, h3, h4⟩ := h
 have hjo : j < os.length := by omega
 refine ⟨by simpa using h1, ?_, ho, ?_⟩
 · rw [List.take_set_of_le (Nat.le_refl _)]
   have := congrArg (List.take j) h2
   rw [List.take_take, List.take_take, Nat.min_eq_left (by omega)] at this
   exact this
 · rw [val_drop _ j (by simpa using hjo), val_drop L j hj, List.getElem_set_self, List.drop_set_of_lt (by omega), hx, ← h4, Nat.add_mul, Nat.mul_assoc]
   generalize val (os.drop (j + 1)) * 2 ^ s = y at *
   generalize z * 2 ^ s = t at *
   omega
set_option maxHeartbeats 1000000 in
theorem p_shiftDown (a b c d n s : Nat) (hn : mag4 a b c d = n) (w : World) (hw : W64 [a, b, c, d]) (hs : s < 64) :
   Calls Try.prog 100 #[.agg #[.int .u64 (a : Int), .int .u64 (b : Int), .int .u64 (c : Int), .int .u64 (d : Int)], .int .u64 (s : Int)] w (WordsOnly (n / 2 ^ s) w) := by
 have H1 := two_blocks w (.cells #[.int .u64 (a : Int), .int .u64 (b : Int), .int .u64 (c : Int), .int .u64 (d : Int)] 107) (.cells #[.int .u64 0, .int .u64 0, .int .u64 0, .int .u64 0] 107)
 obtain ⟨W, hW⟩ : ∃ W, W = (w.alloc (.cells #[.int .u64 (a : Int), .int .u64 (b : Int), .int .u64 (c : Int), .int .u64 (d : Int)] 107)).alloc (.cells #[.int .u64 0, .int .u64 0, .int .u64 0, .int .u64 0] 107) := ⟨_, rfl⟩
 have E0 : Ext w W := by rw [hW]; exact (ext_alloc _ _).trans (ext_alloc _ _)
 rw [← hW] at H1
 obtain ⟨L, hL⟩ : ∃ L, L = [a, b, c, d] := ⟨_, rfl⟩
 have A0 : Arr W w.heap.size 107 L := by rw [hL]; exact H1.1
 have A1 : Arr W (w.heap.size + 1) 107 [0, 0, 0, 0] := H1.2
 have HL : Hid (L.length = 4) := by rw [hL]; exact rfl
 have VL : Hid (val L = n) := by rw [hL]; exact hn
 rw [← hL] at hw
 have HW := hide hW
 clear hW H1 hL hn
 go_enter Try.func100, Try.ntmps100
 go_wp2_with fail
 rw [← HW.out]
 clear HW
 go_loopw [6, 5] (fun i t wr => ∃ (k c m : Nat) (os : List Nat), i = .int .i64 ((k : Int) - 1) ∧ t = .int .u64 c ∧ k ≤ 4 ∧ Hid (c = m * 2 ^ (64 - s)) ∧ Hid (DownRel L os s k m) ∧ W64 os ∧ Arr wr w.heap.size 107 os ∧ Upd w.heap.size W wr) (fun i _ _ => (intOf i + 1).toNat)
 case atStart => exact ⟨4, 0, 0, L, rfl, rfl, by omega, by simp [Hid], ⟨rfl, rfl, Nat.two_pow_pos _, by rw [List.drop_of_length_le (by rw [HL.out]; omega)]; simp [val]⟩, hw, A0, Upd.refl _ _⟩
 case round =>
   obtain ⟨k, c', m, os, rfl, rfl, hk, HC, HR, wo, hA, hU⟩ := hrel
   have HO : Hid (os.length = 4) := HR.out.1.trans HL.out
   by_cases hk0 : k = 0
   · subst hk0
     have B1 := A1.upd hU (by omega)
     have E1 := hU.ext E0 (Nat.le_refl _)
     have H1 : Hid (val os = n / 2 ^ s) := by
       obtain ⟨_, _, h3, h4⟩ := HR.out
       rw [List.drop_zero, List.drop_zero, VL.out] at h4
       unfold Hid
       rw [← h4, Nat.mul_comm, Nat.mul_add_div (Nat.two_pow_pos _), Nat.div_eq_of_lt h3, Nat.add_zero]
     obtain ⟨a1, b1, c1, d1, rfl⟩ := four_list HO.out
     obtain ⟨c0, c1', c2, c3, f0, f1, f2, f3⟩ := hA.four
     obtain ⟨d0, d1', d2, d3, g0, g1, g2, g3⟩ := B1.four
     clear hU hA B1
     go_wp2_with fail
     exact bodyPost_ret (v := .agg #[.int .u64 (a1 : Int), .int .u64 (b1 : Int), .int .u64 (c1 : Int), .int .u64 (d1 : Int)]) (by simp [results, Try.results100, go_sem, d0, d1', d2, d3]) rfl ⟨a1, b1, c1, d1, rfl, wo, H1.out, ext_four E1 (by omega) _ _ _ _⟩
   · obtain ⟨j, rfl⟩ : ∃ j, k = j + 1 := ⟨k - 1, by omega⟩
     have hj : j < L.length := by rw [HL.out]; omega
     have hjo : j < os.length := by rw [HO.out]; omega
     obtain ⟨x, hx⟩ : ∃ x, L[j] = x := ⟨_, rfl⟩
     have bx : x < 18446744073709551616 := by rw [← hx]; exact w64_get hw j hj
     obtain ⟨l, t, z, o, z1, z2, z3, HZ⟩ := shr_parts x s m hs bx HR.out.2.2.1
     rw [← HC.out] at z3
     have HS := hide (HR.out.step hj hx HZ.out.2.1 HZ.out.2.2.1)
     have cg := hA.at j hjo
     rw [take_at HR.out.2.1 hj hx hjo] at cg
     have fg := hA.free j
     have HA := hide (hA.set j z)
     have HU := hide (hU.set j (.int .u64 (z : Int)))
     have w2 := w64_set wo j z HZ.out.2.2.2
     have HC2 : Hid (t = o * 2 ^ (64 - s)) := HZ.out.1
     clear hx hA hU
     go_wp2_with fail
     exact ⟨⟨j, _, o, _, by go_num, rfl, by omega, HC2, HS, w2, HA.out, HU.out⟩, by first | (simp [intOf]; done) | (simp [intOf]; omega)⟩
def guessV (h l t : Nat) : Nat := if t ≤ h then 18446744073709551615 else (h * 18446744073709551616 + l) / t
end
section
open Go Go.RowKit
theorem TapeOk.store {B b g k : Nat} {w : World} (h : TapeOk B w b) (hg : b < g) (u : Value) : TapeOk B (w.setCell ⟨g, k, none⟩ u) b := h.below ((Below.refl _ _).setCell (p := ⟨g, k, none⟩) hg u)
theorem TapeOk.alloc {B b : Nat} {w : World} (h : TapeOk B w b) (o : Obj) : TapeOk B (w.alloc o) b := h.below ((Below.refl _ _).alloc h.2.1 o)
theorem TapeOk.ext {B b : Nat} {w w' : World} (h : TapeOk B w b) (k : Ext w w') : TapeOk B w' b := h.below (Below.mono k h.2.1)
theorem Upd.store {b g k : Nat} {W w : World} (h : Upd b W w) (hg : W.heap.size ≤ g) (u : Value) : Upd b W (w.setCell ⟨g, k, none⟩ u) :=
 ⟨h.1, h.2.1, h.2.2.1, by simpa [World.setCell] using h.2.2.2.1, fun i hi hn => (heap_setCell_other w ⟨g, k, none⟩ i u (by simp; omega)).trans (h.2.2.2.2 i hi hn)⟩
theorem Upd.more {b : Nat} {W w w' : World} (h : Upd b W w) (k : Ext w w') : Upd b W w' := h.trans (k.upd b)
theorem IsList.ext {w w' : World} {a : Option Addr} {len cap : Nat} (h : IsList w a len cap) (k : Ext w w') : IsList w' a len cap := by
 obtain ⟨h1, h2⟩ := h
 refine ⟨h1, ?_⟩
 rcases h2 with h2 | ⟨xb, xo, e, hb, hl, hc⟩
 · exact Or.inl h2
 · refine Or.inr ⟨xb, xo, e, Nat.lt_of_lt_of_le hb k.size, hl, fun i hi => ?_⟩
   obtain ⟨v, hv, cv⟩ := hc i hi
   exact ⟨v, hv, (k.cell (p := ⟨xb, xo + i, none⟩) hb).trans cv⟩
end
section
open Go Go.RowKit
def BoolPost (B b : Nat) (W : World) (e : Ending) (w' : World) : Prop := ∃ v : Bool, e = .returned (.bool v) ∧ TapeOk B w' b ∧ Upd b W w'
theorem t_bool (B b : Nat) (n : Int) (W w : World) (h1 : 2 ≤ n) (h2 : n ≤ 4) (hT : TapeOk B w b) (hW : Upd b W w) :
   Calls Try.prog 61 #[.pointer (some ⟨b, 0, none⟩), .int .i64 n] w (BoolPost B b W) := by
 have hn0 : ¬ (n = 0) := by omega
 have hm : (1 : Int).tmod n = 1 := by
   rw [Int.tmod_eq_emod_of_nonneg (by omega)]; exact Int.emod_eq_of_lt (by omega) (by omega)
 have hm2 : (1 : Int) % n = 1 := Int.emod_eq_of_lt (by omega) (by omega)
 have hT' := hT.below (below_drewN' (b + 1) w 1)
 go_enter Try.func61, Try.ntmps61
 go_wp2_with fail
 go_region_with (go_at_call 11; refine (t_next' B b n W _ ⟨by omega, by omega⟩ (by first | exact hT | exact (hT.below (below_drewN' (b + 1) w 1))) (by first | exact hW | exact hW.drew)).mono ?_; rintro e w' ⟨u, rfl, hu, hT2, hB2⟩)
 all_goals go_wp2_with fail
 all_goals go_ret
 all_goals exact ⟨_, rfl, hT2, hB2⟩
def Bx (w : World) (g : Nat) (L : List Nat) : Prop := w.heap[g]? = some (.cells (Value.bool false :: wd L).toArray 25 (0, 0))
theorem Bx.at {w : World} {g : Nat} {L : List Nat} (h : Bx w g L) (i : Nat) (hi : i < L.length) : w.cell? ⟨g, 1 + i, none⟩ = some (.int .u64 (L[i] : Int)) := by
 rw [cell_of_block h, Nat.add_comm]; simp [wd, hi]
theorem Bx.free {w : World} {g : Nat} {L : List Nat} (h : Bx w g L) (i : Nat) : w.frozen? ⟨g, i, none⟩ = false := free_of_block h i
theorem Bx.lt {w : World} {g : Nat} {L : List Nat} (h : Bx w g L) : g < w.heap.size := (Array.getElem?_eq_some_iff.1 h).1
theorem Bx.set {w : World} {g : Nat} {L : List Nat} (h : Bx w g L) (k x : Nat) : Bx (w.setCell ⟨g, 1 + k, none⟩ (.int .u64 (x : Int))) g (L.set k x) := by
 unfold Bx
 rw [store_block h (1 + k), Nat.add_comm]
 simp [wd, List.map_set]
theorem Bx.upd {w w' : World} {g b : Nat} {L : List Nat} (h : Bx w g L) (k : Upd b w w') (hn : g ≠ b) : Bx w' g L := by
 have := h.lt; unfold Bx; rw [k.2.2.2.2 g this hn]; exact h
theorem Bx.ext {w w' : World} {g : Nat} {L : List Nat} (h : Bx w g L) (k : Ext w w') : Bx w' g L := by
 have := h.lt; unfold Bx; rw [k.block g this]; exact h
theorem Box.upd {w w' : World} {g b' : Nat} {s : Bool} {a b c d : Nat} (h : Box w g s a b c d) (k : Upd b' w w') (hn : g ≠ b') : Box w' g s a b c d := by
 have := h.lt; unfold Box; rw [k.2.2.2.2 g this hn]; exact h
end
section
open Go Go.RowKit
theorem val_set (l : List Nat) (j x : Nat) (h : j < l.length) : val (l.set j x) + 18446744073709551616 ^ j * l[j] = val l + 18446744073709551616 ^ j * x := by
 induction l generalizing j with
 | nil => simp at h
 | cons y r ih =>
   cases j with
   | zero => simp [val]; omega
   | succ j =>
     have hj : j < r.length := by simpa using h
     have := ih j hj
     simp only [List.set_cons_succ, val, List.getElem_cons_succ, Nat.pow_succ]
     generalize val (r.set j x) = A at *
     generalize val r = C at *
     generalize r[j] = z at *
     generalize 18446744073709551616 ^ j = P at *
     grind
theorem w64_zeros (n : Nat) : W64 (List.replicate n 0) := by intro x hx; rw [List.mem_replicate] at hx; omega
def RMul (p q os : List Nat) (i k c : Nat) : Prop := os.length = p.length + q.length + 1 ∧ W64 os ∧ c < 18446744073709551616 ∧ (∀ j, i + q.length ≤ j → os.getD j 0 = 0) ∧
 val os + 18446744073709551616 ^ (i + k) * c = val (p.take i) * val q + 18446744073709551616 ^ i * (p.getD i 0 * val (q.take k))
theorem RMul.start (p q : List Nat) : RMul p q (List.replicate (p.length + q.length + 1) 0) 0 0 0 := by
 refine ⟨by simp, w64_zeros _, by omega, fun j _ => ?_, by simp [val_zeros, val]⟩
 rw [List.getD_eq_getElem?_getD]
 by_cases h : j < p.length + q.length + 1
 · simp [List.getElem?_replicate, h]
 · simp [List.getElem?_replicate, h]
theorem mul_word {x y o c : Nat} (hx : x < 18446744073709551616) (hy : y < 18446744073709551616) (ho : o < 18446744073709551616) (hc : c < 18446744073709551616) : x * y + o + c < 340282366920938463463374607431768211456 := by
 have h1 : x * y ≤ 18446744073709551615 * 18446744073709551615 := Nat.mul_le_mul (by omega) (by omega)
 omega
theorem RMul.step {p q os : List Nat} {i k c x y o lo hi : Nat} (h : RMul p q os i k c) (hi0 : i < p.length) (hk : k < q.length) (hx : p[i] = x) (hy : q[k] = y) (hik : i + k < os.length) (ho : os[i + k] = o) (bx : x < 18446744073709551616) (by' : y < 18446744073709551616)
   (hs : x * y + o + c = lo + 18446744073709551616 * hi) (bl : lo < 18446744073709551616) : RMul p q (os.set (i + k) lo) i (k + 1) hi := by
 obtain ⟨h1, h2, h3, h4, h5⟩ := h
 have bo : o < 18446744073709551616 := by rw [← ho]; exact w64_get h2 _ hik
 have bb := mul_word bx by' bo h3
 refine ⟨by simpa using h1, w64_set h2 _ _ bl, by omega, fun j hj => ?_, ?_⟩
 · rw [List.getD_eq_getElem?_getD, List.getElem?_set_ne (by omega), ← List.getD_eq_getElem?_getD]; exact h4 j hj
 · have hv := val_set os (i + k) lo hik
   have hg : p.getD i 0 = x := by simp [List.getD, hi0, hx]
   rw [ho] at hv
   rw [hg] at h5 ⊢
   rw [val_take_succ q k hk, hy, ← Nat.add_assoc, Nat.pow_succ]
   have e : 18446744073709551616 ^ (i + k) = 18446744073709551616 ^ i * 18446744073709551616 ^ k := Nat.pow_add _ _ _
   rw [e] at hv h5 ⊢
   generalize 18446744073709551616 ^ i = I at *
   generalize 18446744073709551616 ^ k = K at *
   generalize val (os.set (i + k) lo) = A at *
   generalize val os = C at *
   generalize val (q.take k) = Q at *
   generalize val (p.take i) * val q = R at *
   have e2 : I * K * (x * y + o + c) = I * K * (lo + 18446744073709551616 * hi) := by rw [hs]
   grind
theorem RMul.row {p q os : List Nat} {i c : Nat} (h : RMul p q os i q.length c) (hi0 : i < p.length) : RMul p q (os.set (i + q.length) c) (i + 1) 0 0 := by
 obtain ⟨h1, h2, h3, h4, h5⟩ := h
 have hl : i + q.length < os.length := by omega
 refine ⟨by simpa using h1, w64_set h2 _ _ h3, by omega, fun j hj => ?_, ?_⟩
 · rw [List.getD_eq_getElem?_getD, List.getElem?_set_ne (by omega), ← List.getD_eq_getElem?_getD]; exact h4 j (by omega)
 · have hv := val_set os (i + q.length) c hl
   have ho : os[i + q.length] = 0 := by have := h4 (i + q.length) (by omega); simpa [List.getD, hl] using this
   rw [ho] at hv
   rw [List.take_length] at h5
   rw [val_take_succ p i hi0, List.take_zero]
   have hg : p.getD i 0 = p[i] := by simp [List.getD, hi0]
   rw [hg] at h5
   have hz : val [] = 0 := rfl
   rw [hz]
   generalize 18446744073709551616 ^ (i + q.length) = Z at *
   generalize 18446744073709551616 ^ (i + 1 + 0) = Y at *
   generalize 18446744073709551616 ^ (i + 1) = X at *
   generalize 18446744073709551616 ^ i = W at *
   generalize val (os.set (i + q.length) c) = A at *
   generalize val os = B at *
   generalize val (List.take i p) = C at *
   generalize val q = D at *
   generalize p[i] = E at *
   have e : (C + W * E) * D = C * D + W * (E * D) := by rw [Nat.add_mul, Nat.mul_assoc]
   rw [e]
   omega
theorem RMul.done {p q os : List Nat} (h : RMul p q os p.length 0 0) : val os = val p * val q := by
 obtain ⟨_, _, _, _, h5⟩ := h
 rw [List.take_length] at h5
 simpa [val] using h5
theorem getD_set_ne (l : List Nat) (k j x : Nat) (h : k ≠ j) : (l.set k x).getD j 0 = l.getD j 0 := by
 rw [List.getD_eq_getElem?_getD, List.getElem?_set_ne h, ← List.getD_eq_getElem?_getD]
theorem getD_of_get {l : List Nat} {k x : Nat} (h : k < l.length) (hx : l[k] = x) : l.getD k 0 = x := by simp [List.getD, h, hx]
theorem get_of_getD {l : List Nat} {k x : Nat} (h : k < l.length) (hx : l.getD k 0 = x) : l[k] = x := by simpa [List.getD, h] using hx
theorem getD_set_self (l : List Nat) (k x : Nat) (h : k < l.length) : (l.set k x).getD k 0 = x := by simp [List.getD, h]
theorem set_same (l : List Nat) (k x : Nat) (h : l.getD k 0 = x) : l.set k x = l := by
 by_cases hk : k < l.length
 · have := get_of_getD hk h
   subst this
   exact List.set_getElem_self hk
 · exact List.set_eq_of_length_le (by omega)
def RUp (p os : List Nat) (q r i : Nat) : Prop := os.length = p.length + q + 1 ∧ W64 os ∧ os.getD (i + q) 0 < 2 ^ r ∧ (∀ j, i + q < j → os.getD j 0 = 0) ∧ val os = 18446744073709551616 ^ q * (val (p.take i) * 2 ^ r)
theorem RUp.start (p : List Nat) (q r : Nat) : RUp p (List.replicate (p.length + q + 1) 0) q r 0 := by
 have hz : ∀ j, (List.replicate (p.length + q + 1) 0).getD j 0 = 0 := by
   intro j
   rw [List.getD_eq_getElem?_getD, List.getElem?_replicate]
   split <;> rfl
 refine ⟨by simp, w64_zeros _, by rw [hz]; exact Nat.two_pow_pos _, fun j _ => hz j, by simp [val_zeros, val]⟩
theorem RUp.step {p os : List Nat} {q r i x o z t : Nat} (h : RUp p os q r i) (hi : i < p.length) (hx : p[i] = x) (ho : os.getD (i + q) 0 = o) (hs : z + 18446744073709551616 * t = x * 2 ^ r + o) (bz : z < 18446744073709551616) (bt : t < 2 ^ r) (hr : r < 64) :
   RUp p ((os.set (i + q) z).set (i + q + 1) t) q r (i + 1) := by
 obtain ⟨h1, h2, h3, h4, h5⟩ := h
 have hl : i + q < os.length := by omega
 have hl1 : i + q + 1 < (os.set (i + q) z).length := by rw [List.length_set]; omega
 have bt2 : t < 18446744073709551616 := by
   have : 2 ^ r ≤ 2 ^ 63 := Nat.pow_le_pow_right (by omega) (by omega)
   omega
 refine ⟨by simpa using h1, w64_set (w64_set h2 _ _ bz) _ _ bt2, ?_, fun j hj => ?_, ?_⟩
 · rw [show i + 1 + q = i + q + 1 by omega, getD_set_self _ _ _ hl1]; exact bt
 · rw [getD_set_ne _ _ _ _ (by omega), getD_set_ne _ _ _ _ (by omega)]; exact h4 j (by omega)
 · have v1 := val_set os (i + q) z hl
   have v2 := val_set (os.set (i + q) z) (i + q + 1) t hl1
   have e1 := get_of_getD hl ho
   have e2 : (os.set (i + q) z)[i + q + 1] = 0 := get_of_getD hl1 (by rw [getD_set_ne _ _ _ _ (by omega)]; exact h4 _ (by omega))
   rw [e1] at v1
   rw [e2, Nat.pow_succ] at v2
   rw [val_take_succ p i hi, hx]
   rw [Nat.pow_add 18446744073709551616 i q] at v1 v2
   rw [h5] at v1
   generalize val ((os.set (i + q) z).set (i + q + 1) t) = A at *
   generalize val (os.set (i + q) z) = C at *
   generalize 18446744073709551616 ^ i = I at *
   generalize 18446744073709551616 ^ q = Q at *
   generalize val (List.take i p) = V at *
   generalize 2 ^ r = R at *
   clear h1 h2 h3 h4 h5 e1 e2 hl hl1 bt2 bz bt
   have e3 : I * Q * (z + 18446744073709551616 * t) = I * Q * (x * R + o) := by rw [hs]
   grind
theorem RUp.done {p os : List Nat} {q r : Nat} (h : RUp p os q r p.length) : val os = val p * 2 ^ (64 * q + r) := by
 obtain ⟨_, _, _, _, h5⟩ := h
 rw [List.take_length] at h5
 rw [h5, Nat.pow_add, Nat.pow_mul, show (2 : Nat) ^ 64 = 18446744073709551616 from rfl]
 generalize 18446744073709551616 ^ q = Q
 grind
theorem or_comm' (x y : Int) : bits .or .u64 x y = bits .or .u64 y x := by
 show IntKind.u64.wrap ((BitVec.ofInt 64 x ||| BitVec.ofInt 64 y).toNat : Int) = IntKind.u64.wrap ((BitVec.ofInt 64 y ||| BitVec.ofInt 64 x).toNat : Int)
 rw [BitVec.or_comm]
theorem or_zero' (t : Nat) (h : t < 18446744073709551616) : bits .or .u64 0 (t : Int) = (t : Int) := by
 have e : (2 : Nat) ^ 64 = 18446744073709551616 := by decide
 have := or_sum 0 t 64 (by omega) (by rw [e]; exact h) (by rw [Nat.zero_mul]; omega)
 rw [Nat.zero_mul, Nat.zero_add] at this
 exact this
theorem shl_or (x s c : Nat) (hs : s < 64) (hx : x < 18446744073709551616) (hc : c < 2 ^ s) :
   ∃ l t z : Nat, IntKind.u64.wrap ((x : Int) * 2 ^ s) = (l : Int) ∧ bits .or .u64 (c : Int) (l : Int) = (z : Int) ∧ (x : Int) / 2 ^ (64 - s) = (t : Int) ∧ bits .or .u64 0 (t : Int) = (t : Int) ∧ Hid (z + 18446744073709551616 * t = x * 2 ^ s + c ∧ z < 18446744073709551616 ∧ t < 2 ^ s ∧ t < 18446744073709551616) := by
 obtain ⟨l, t, z, h1, h2, h3, h4⟩ := shl_parts x s c hs hx hc
 have ht : t < 18446744073709551616 := by
   have h5 := h4.out.2.2
   have : 2 ^ s ≤ 2 ^ 63 := Nat.pow_le_pow_right (by omega) (by omega)
   omega
 exact ⟨l, t, z, h1, by rw [or_comm']; exact h2, h3, or_zero' t ht, ⟨h4.out.1, h4.out.2.1, h4.out.2.2, ht⟩⟩
def RHalf (p os : List Nat) (i : Nat) : Prop := os.length = p.length ∧ W64 os ∧ os.drop i = p.drop i ∧ 2 * val (os.take i) + p.getD 0 0 % 2 = val (p.take i) + 18446744073709551616 ^ i * (p.getD i 0 % 2)
theorem RHalf.start (p : List Nat) (h : W64 p) : RHalf p p 0 := ⟨rfl, h, rfl, by simp [val]⟩
theorem RHalf.step {p os : List Nat} {i x z : Nat} (h : RHalf p os i) (hi : i < p.length) (hx : p[i] = x) (hz : z = x / 2 + 9223372036854775808 * (p.getD (i + 1) 0 % 2)) (bx : x < 18446744073709551616) : RHalf p (os.set i z) (i + 1) := by
 obtain ⟨h1, h2, h3, h4⟩ := h
 refine ⟨by simpa using h1, w64_set h2 _ _ (by omega), by rw [drop_set]; exact (drop_get h3 (by omega) hi).2, ?_⟩
 rw [val_set_take _ _ _ (by omega), val_take_succ p i hi, hx, Nat.pow_succ]
 rw [getD_of_get hi hx] at h4
 have e := Nat.div_add_mod x 2
 generalize p.getD (i + 1) 0 % 2 = y at *
 generalize p.getD 0 0 % 2 = f at *
 generalize val (os.take i) = A at *
 generalize val (p.take i) = C at *
 generalize 18446744073709551616 ^ i = I at *
 generalize x % 2 = m at *
 generalize x / 2 = d at *
 subst e
 subst hz
 clear h1 h2 h3 bx hi hx
 grind
theorem RHalf.done {p os : List Nat} (h : RHalf p os p.length) : val os = val p / 2 := by
 obtain ⟨h1, _, _, h4⟩ := h
 rw [List.take_length, List.take_of_length_le (by omega)] at h4
 have : p.getD p.length 0 = 0 := by simp [List.getD]
 rw [this] at h4
 generalize 18446744073709551616 ^ p.length = I at *
 cases p with
 | nil => cases os with
   | nil => rfl
   | cons y r => simp at h1
 | cons y r =>
   simp only [val] at *
   simp only [List.getD_cons_zero] at h4
   omega
def Size (n s : Nat) : Prop := n < 2 ^ s ∧ (n ≠ 0 → 1 ≤ s ∧ 2 ^ (s - 1) ≤ n) ∧ (n = 0 → s = 0)
theorem size_words (l : List Nat) (x k : Nat) (hl : W64 l) (h1 : x < 2 ^ k) (h2 : 1 ≤ k) (h3 : 2 ^ (k - 1) ≤ x) : Size (val (l ++ [x])) (64 * l.length + k) := by
 have e : 18446744073709551616 ^ l.length = 2 ^ (64 * l.length) := by rw [Nat.pow_mul]
 have hv := val_lt l hl
 rw [val_snoc]
 rw [e] at hv ⊢
 have e1 : 2 ^ (64 * l.length + k) = 2 ^ (64 * l.length) * 2 ^ k := Nat.pow_add _ _ _
 have e2 : 2 ^ (64 * l.length + k - 1) = 2 ^ (64 * l.length) * 2 ^ (k - 1) := by rw [← Nat.pow_add]; congr 1; omega
 have p1 := Nat.two_pow_pos (64 * l.length)
 have p2 := Nat.two_pow_pos (k - 1)
 generalize 2 ^ (64 * l.length) = I at *
 refine ⟨?_, fun _ => ⟨by omega, ?_⟩, fun h => ?_⟩
 · rw [e1]
   have : I * (x + 1) ≤ I * 2 ^ k := Nat.mul_le_mul_left _ h1
   rw [Nat.mul_add, Nat.mul_one] at this
   omega
 · rw [e2]
   have : I * 2 ^ (k - 1) ≤ I * x := Nat.mul_le_mul_left _ h3
   omega
 · exfalso
   have : I * 1 ≤ I * x := Nat.mul_le_mul_left _ (by omega)
   omega
theorem bit_set (l : List Nat) (j s x : Nat) (hj : j < l.length) (hx : l[j] = x) (hl : W64 l) (hs : s < 64) (hd : val l % 2 ^ (64 * j + s + 1) = 0) :
   ∃ z : Nat, bits .or .u64 (x : Int) ((2 ^ s : Nat) : Int) = (z : Int) ∧ Hid (z < 18446744073709551616 ∧ val (l.set j z) = val l + 2 ^ (64 * j + s)) := by
 have bx : x < 18446744073709551616 := by rw [← hx]; exact w64_get hl j hj
 have hv := val_take_drop l j (by omega)
 rw [val_drop l j hj, hx] at hv
 have e : 18446744073709551616 ^ j = 2 ^ (64 * j) := by rw [Nat.pow_mul]
 have ht := val_lt (l.take j) (w64_take hl j)
 rw [List.length_take, Nat.min_eq_left (by omega)] at ht
 have hset := val_set l j
 rw [e] at hv ht hset
 have hdv : 2 ^ (64 * j) * 2 ^ (s + 1) ∣ val l := by rw [← Nat.pow_add]; exact Nat.dvd_of_mod_eq_zero hd
 have e1 : 2 ^ (64 * j + s) = 2 ^ (64 * j) * 2 ^ s := Nat.pow_add _ _ _
 have h64 : (2 : Nat) ^ (s + 1) ∣ 18446744073709551616 := by
   have : (2 : Nat) ^ (s + 1) ∣ 2 ^ 64 := Nat.pow_dvd_pow 2 (by omega)
   exact this
 have p1 := Nat.two_pow_pos (64 * j)
 have h0 : val (l.take j) = 0 := by
   obtain ⟨m, hm⟩ := hdv
   have h1 : (val (l.take j) + 2 ^ (64 * j) * (x + 18446744073709551616 * val (l.drop (j + 1)))) % 2 ^ (64 * j) = 0 := by
     rw [← hv, hm, Nat.mul_assoc, Nat.mul_mod_right]
   rw [Nat.add_mul_mod_self_left, Nat.mod_eq_of_lt ht] at h1
   exact h1
 have hdx : 2 ^ (s + 1) ∣ x := by
   rw [hv, h0, Nat.zero_add] at hdv
   have h1 := Nat.dvd_of_mul_dvd_mul_left p1 hdv
   exact (Nat.dvd_add_left (Nat.dvd_trans h64 (Nat.dvd_mul_right _ _))).1 h1
 obtain ⟨y, hy⟩ := hdx
 have hyx : x = y * 2 ^ (s + 1) := by rw [hy, Nat.mul_comm]
 have hor := or_sum y (2 ^ s) (s + 1) (by omega) (by rw [Nat.pow_succ]; have := Nat.two_pow_pos s; omega) (by rw [← hyx]; exact bx)
 rw [← hyx] at hor
 have hz := hset (x + 2 ^ s) hj
 rw [hx] at hz
 have hw : x + 2 ^ s < 18446744073709551616 := by
   have e3 : (18446744073709551616 : Nat) = 2 ^ (63 - s) * 2 ^ (s + 1) := by rw [← Nat.pow_add, show 63 - s + (s + 1) = 64 by omega]
   have h2 : y * 2 ^ (s + 1) < 2 ^ (63 - s) * 2 ^ (s + 1) := by rw [← e3, ← hyx]; exact bx
   have h3 := Nat.lt_of_mul_lt_mul_right h2
   have h4 : (y + 1) * 2 ^ (s + 1) ≤ 2 ^ (63 - s) * 2 ^ (s + 1) := Nat.mul_le_mul_right _ h3
   rw [← e3, Nat.add_mul, Nat.one_mul, ← hyx, Nat.pow_succ] at h4
   have := Nat.two_pow_pos s
   omega
 refine ⟨x + 2 ^ s, hor, ⟨hw, ?_⟩⟩
 rw [e1]
 rw [Nat.mul_add] at hz
 omega
theorem wd_zeros (n : Nat) : (madeCells (Value.int .u64 0).cells (n * 1)).toList = wd (List.replicate n 0) := by
 rw [Nat.mul_one]
 apply List.ext_getElem
 · simp [madeCells, wd]
 · intro i h1 h2
   simp [madeCells, wd, Value.cells, Nat.mod_one]
theorem words_made {B : Nat} {w : World} {v : Value} {n : Nat} (h : w.ownsRow B 22 1 v n (madeCells (Value.int .u64 0).cells (n * 1)).toList) : Words B w v (List.replicate n 0) := by
 refine ⟨?_, w64_zeros n⟩
 rw [wd_zeros] at h
 simpa using h
theorem mul_word_parts (x y o c : Nat) (bx : x < 18446744073709551616) (by' : y < 18446744073709551616) (bo : o < 18446744073709551616) (bc : c < 18446744073709551616) :
   ∃ h1 l1 c1 l2 h2 c2 l3 h3 : Nat, Hid (x * y / 18446744073709551616 = h1) ∧ Hid (x * y % 18446744073709551616 = l1) ∧ Hid ((l1 + o) % 18446744073709551616 = l2) ∧ Hid ((l1 + o) / 18446744073709551616 = c1) ∧
     IntKind.u64.wrap ((h1 : Int) + (c1 : Int)) = (h2 : Int) ∧ Hid ((l2 + c) % 18446744073709551616 = l3) ∧ Hid ((l2 + c) / 18446744073709551616 = c2) ∧ IntKind.u64.wrap ((h2 : Int) + (c2 : Int)) = (h3 : Int) ∧
     Hid (x * y + o + c = l3 + 18446744073709551616 * h3 ∧ l3 < 18446744073709551616 ∧ h3 < 18446744073709551616) := by
 have hb := mul_word bx by' bo bc
 have hp := prod_le bx by'
 obtain ⟨P, hP⟩ : ∃ P, x * y = P := ⟨_, rfl⟩
 rw [hP] at hb hp ⊢
 clear hP
 refine ⟨_, _, _, _, P / 18446744073709551616 + (P % 18446744073709551616 + o) / 18446744073709551616, _, _, P / 18446744073709551616 + (P % 18446744073709551616 + o) / 18446744073709551616 + ((P % 18446744073709551616 + o) % 18446744073709551616 + c) / 18446744073709551616, rfl, rfl, rfl, rfl, ?_, rfl, rfl, ?_, ⟨?_, ?_, ?_⟩⟩
 · rw [wrap_u64']; omega
 · rw [wrap_u64']; omega
 · omega
 · omega
 · omega
set_option maxRecDepth 100000 in
set_option maxHeartbeats 4000000 in
theorem ref_mul (B C D : Nat) (u v : Value) (n m : Nat) (w : World) (h : Words C w u (limbs n)) (k : Words D w v (limbs m)) (hB : B ≤ w.heap.size) (hn : (limbs n).length ≤ 1000) (hm : (limbs m).length ≤ 1000) :
   Calls Try.prog 85 #[u, v] w (NewWords B (n * m) w) := by
 obtain ⟨i0, hi, hz0, hz1, hz2⟩ := info_parts info_u64
 obtain ⟨p, hp⟩ : ∃ p, limbs n = p := ⟨_, rfl⟩
 obtain ⟨q, hq⟩ : ∃ q, limbs m = q := ⟨_, rfl⟩
 have wp : W64 p := by rw [← hp]; exact limbs_w n
 have wq : W64 q := by rw [← hq]; exact limbs_w m
 have HV : Hid (val p = n ∧ val q = m) := ⟨by rw [← hp, val_limbs], by rw [← hq, val_limbs]⟩
 rw [hp] at h hn
 rw [hq] at k hm
 clear hp hq
 obtain ⟨la, hla⟩ : ∃ la, p.length = la := ⟨_, rfl⟩
 obtain ⟨lb, hlb⟩ : ∃ lb, q.length = lb := ⟨_, rfl⟩
 obtain ⟨N, hN⟩ : ∃ N, la + lb + 1 = N := ⟨_, rfl⟩
 obtain ⟨a, ca, rfl, a1, a2, _⟩ := h.shape la hla
 obtain ⟨b, cb, rfl, b1, b2, _⟩ := k.shape lb hlb
 rw [hla] at hn
 rw [hlb] at hm
 have HA := hide hla
 have HB := hide hlb
 have KA := hide h
 have KB := hide k
 have HZ2 := hide hz2
 have HN := hide hN
 have n1 : la + lb < N := by omega
 have n2 : N ≤ 2001 := by omega
 clear hla hlb h k hz2
 go_enter Try.func85, Try.ntmps85
 go_wp2_with (at_make; refine wpList_make_full _ rfl _ _ 69 rfl w.heap.size 22 i0 (.int .u64 0) 1 Try.underlying69 hi hz0 hz1 _ _ _ _ N rfl rfl (by omega) (by omega) (by rw [HZ2.out]; omega) (by unfold maxLen; omega) (Nat.le_refl _) ?_; intro w1 hown hgr)
 have H1 : Hid (Words w.heap.size w1 (.slice (some ⟨w.heap.size, 0, none⟩) N N) (List.replicate N 0)) := words_made hown
 have E1 := ext_grown hgr (by simp)
 clear hown hgr
 obtain ⟨g, hg⟩ : ∃ g, w.heap.size = g := ⟨_, rfl⟩
 have HG := hide hg
 rw [hg] at H1 hB
 rw [hg]
 clear hg
 go_wp2_with fail
 go_loopw [6] (fun i wr => ∃ (k : Nat) (os : List Nat), i = .int .i64 k ∧ k ≤ la ∧ Hid (RMul p q os k 0 0) ∧ Words g wr (.slice (some ⟨g, 0, none⟩) N N) os ∧ Ext w wr) (fun i _ => la - (intOf i).toNat)
 case atStart => exact ⟨0, List.replicate N 0, rfl, by omega, by have := RMul.start p q; rw [HA.out, HB.out, HN.out] at this; exact this, H1.out, E1⟩
 case round =>
   obtain ⟨k, os, rfl, hk, HR, hW, hE⟩ := hrel
   have HO : Hid (os.length = N) := by rw [← HN.out, ← HA.out, ← HB.out]; exact HR.out.1
   by_cases hkl : k < la
   · obtain ⟨ga, rfl, _, hga, cga, _⟩ := KA.out.at k (by rw [HA.out]; exact hkl)
     obtain ⟨x, hx⟩ : ∃ x, p[k]'(by rw [HA.out]; exact hkl) = x := ⟨_, rfl⟩
     have bx : x < 18446744073709551616 := by rw [← hx]; exact w64_get wp k _
     rw [hx] at cga
     have HX := hide hx
     clear hx
     go_wp2_with fail
     go_loopw [8, 7] (fun j t wr' => ∃ (j' c : Nat) (os : List Nat), j = .int .i64 j' ∧ t = .int .u64 c ∧ j' ≤ lb ∧ c < 18446744073709551616 ∧ Hid (RMul p q os k j' c) ∧ Words g wr' (.slice (some ⟨g, 0, none⟩) N N) os ∧ Ext w wr') (fun j _ _ => lb - (intOf j).toNat)
     case atStart => exact ⟨0, 0, os, rfl, rfl, by omega, by omega, HR, hW, hE⟩
     case round =>
       clear HR hW hE HO
       obtain ⟨j, c, os, rfl, rfl, hj, hc, HR, hW, hE⟩ := hrel
       have HO : Hid (os.length = N) := by rw [← HN.out, ← HA.out, ← HB.out]; exact HR.out.1
       have cgx : wr.cell? ⟨ga, k, none⟩ = _ := (hE.cell (p := ⟨ga, k, none⟩) hga).trans cga
       by_cases hjl : j < lb
       · obtain ⟨gb, rfl, _, hgb, cgb, _⟩ := KB.out.at j (by rw [HB.out]; exact hjl)
         obtain ⟨y, hy⟩ : ∃ y, q[j]'(by rw [HB.out]; exact hjl) = y := ⟨_, rfl⟩
         have by' : y < 18446744073709551616 := by rw [← hy]; exact w64_get wq j _
         rw [hy] at cgb
         have HY := hide hy
         clear hy
         have cgy : wr.cell? ⟨gb, j, none⟩ = _ := (hE.cell (p := ⟨gb, j, none⟩) hgb).trans cgb
         obtain ⟨g', e', _, hg', cg, fg⟩ := hW.at (k + j) (by rw [HO.out]; omega)
         obtain rfl : g = g' := by injection e' with e'; injection e'
         obtain ⟨o, ho⟩ : ∃ o, os[k + j]'(by rw [HO.out]; omega) = o := ⟨_, rfl⟩
         have bo : o < 18446744073709551616 := by rw [← ho]; exact w64_get hW.2 _ _
         rw [ho] at cg
         obtain ⟨h1, l1, c1, l2, h2, c2, l3, h3, e1, e2, e3, e4, e5, e6, e7, e8, e9⟩ := mul_word_parts x y o c bx by' bo hc
         have HS : Hid (RMul p q (os.set (k + j) l3) k (j + 1) h3) := HR.out.step (by rw [HA.out]; exact hkl) (by rw [HB.out]; exact hjl) HX.out HY.out (by rw [HO.out]; omega) ho bx by' e9.out.1 e9.out.2.1
         have r1 := add64_eq0 l1 o l2 c1 e3.out e4.out
         have r2 := add64_eq0 l2 c l3 c2 e6.out e7.out
         have HW := hide (fun n => (hW.ext (ext_drewN wr n)).set HO.out (k + j) l3 e9.out.2.1)
         have HE := hide (fun n => ext_set (hE.trans (ext_drewN wr n)) (g := g) (by rw [HG.out]; exact Nat.le_refl _) (k + j) (.int .u64 (l3 : Int)))
         have b3 := e9.out.2.2
         have bN : k + j < N := by omega
         clear ho HO hW HR
         go_wp2_with fail
         go_quiet ((go_at_call 94; exact Calls.quiet_of_same ((b_mul64 x y h1 l1 _ bx by' e1 e2).mono fun _ _ h => ⟨h.1, h.2.symm⟩)))
         go_wp2_with fail
         exact ⟨⟨j + 1, _, _, by go_num, rfl, by omega, b3, HS, HW.out _, HE.out _⟩, by simp [intOf]; omega⟩
       · obtain rfl : j = lb := by omega
         obtain ⟨g', e', _, hg', cg, fg⟩ := hW.at (k + j) (by rw [HO.out]; omega)
         obtain rfl : g = g' := by injection e' with e'; injection e'
         obtain ⟨o, ho⟩ : ∃ o, os[k + j]'(by rw [HO.out]; omega) = o := ⟨_, rfl⟩
         rw [ho] at cg
         have HS : Hid (RMul p q (os.set (k + j) c) (k + 1) 0 0) := by
           have h := HR.out
           rw [← HB.out] at h ⊢
           exact h.row (by rw [HA.out]; exact hkl)
         have HW := hide (hW.set HO.out (k + j) c hc)
         have HE := hide (ext_set hE (g := g) (by rw [HG.out]; exact Nat.le_refl _) (k + j) (.int .u64 (c : Int)))
         have bN : k + j < N := by omega
         clear ho HO hW HR
         go_wp2_with fail
         exact ⟨⟨k + 1, _, by go_num, by omega, HS, HW.out, HE.out⟩, by simp [intOf]; omega⟩
   · obtain rfl : k = la := by omega
     have H2 : Hid (val os = n * m) := by
       have h := HR.out
       rw [← HA.out] at h
       have h2 := h.done
       rw [HV.out.1, HV.out.2] at h2
       exact h2
     go_wp2_with (go_at_call 48; refine (trim_any _ _ _ _ hW).mono ?_; rintro e w' ⟨v3, rfl, hv3, rfl⟩)
     go_ret
     exact ⟨_, rfl, by rw [← H2.out]; exact hv3.base hB, hE⟩
theorem quo64 (k q r : Nat) (h : k = 64 * q + r) (hr : r < 64) : (k : Int).tdiv 64 = (q : Int) ∧ (k : Int) / 64 = (q : Int) ∧ (k : Int).tmod 64 = (r : Int) ∧ (k : Int) % 64 = (r : Int) := by
 have h1 : (k : Int).tdiv 64 = (k : Int) / 64 := Int.tdiv_eq_ediv_of_nonneg (by omega)
 have h2 : (k : Int).tmod 64 = (k : Int) % 64 := Int.tmod_eq_emod_of_nonneg (by omega)
 rw [h1, h2]
 omega
set_option maxRecDepth 100000 in
set_option maxHeartbeats 4000000 in
theorem ref_up (B C : Nat) (u : Value) (n k : Nat) (w : World) (h : Words C w u (limbs n)) (hB : B ≤ w.heap.size) (hn : (limbs n).length ≤ 1000) (hk : k ≤ 100000) :
   Calls Try.prog 65 #[u, .int .i64 (k : Int)] w (NewWords B (n * 2 ^ k) w) := by
 obtain ⟨i0, hi, hz0, hz1, hz2⟩ := info_parts info_u64
 obtain ⟨p, hp⟩ : ∃ p, limbs n = p := ⟨_, rfl⟩
 have wp : W64 p := by rw [← hp]; exact limbs_w n
 have HV : Hid (val p = n) := by rw [← hp]; exact val_limbs n
 rw [hp] at h hn
 clear hp
 obtain ⟨la, hla⟩ : ∃ la, p.length = la := ⟨_, rfl⟩
 obtain ⟨q, r, hqr, hr⟩ : ∃ q r, k = 64 * q + r ∧ r < 64 := ⟨k / 64, k % 64, by omega, by omega⟩
 obtain ⟨N, hN⟩ : ∃ N, la + q + 1 = N := ⟨_, rfl⟩
 obtain ⟨a, ca, rfl, a1, a2, _⟩ := h.shape la hla
 rw [hla] at hn
 obtain ⟨t1, t2, t3, t4⟩ := quo64 k q r hqr hr
 have HA := hide hla
 have KA := hide h
 have HZ2 := hide hz2
 have HN := hide hN
 have HQ := hide hqr
 have n1 : la + q < N := by omega
 have n2 : N ≤ 100000 := by omega
 have n3 : q ≤ 10000 := by omega
 clear hla h hz2 hqr
 go_enter Try.func65, Try.ntmps65
 go_wp2_with (at_make; refine wpList_make_full _ rfl _ _ 69 rfl w.heap.size 22 i0 (.int .u64 0) 1 Try.underlying69 hi hz0 hz1 _ _ _ _ N rfl rfl (by omega) (by omega) (by rw [HZ2.out]; omega) (by unfold maxLen; omega) (Nat.le_refl _) ?_; intro w1 hown hgr)
 have H1 : Hid (Words w.heap.size w1 (.slice (some ⟨w.heap.size, 0, none⟩) N N) (List.replicate N 0)) := words_made hown
 have E1 := ext_grown hgr (by simp)
 clear hown hgr hN
 obtain ⟨g, hg⟩ : ∃ g, w.heap.size = g := ⟨_, rfl⟩
 have HG := hide hg
 rw [hg] at H1 hB
 rw [hg]
 clear hg
 go_wp2_with fail
 go_loopw [6] (fun i wr => ∃ (j : Nat) (os : List Nat), i = .int .i64 j ∧ j ≤ la ∧ Hid (RUp p os q r j) ∧ Words g wr (.slice (some ⟨g, 0, none⟩) N N) os ∧ Ext w wr) (fun i _ => la - (intOf i).toNat)
 case atStart => exact ⟨0, List.replicate N 0, rfl, by omega, by have := RUp.start p q r; rw [HA.out, HN.out] at this; exact this, H1.out, E1⟩
 case round =>
   obtain ⟨j, os, rfl, hj, HR, hW, hE⟩ := hrel
   have HO : Hid (os.length = N) := by rw [← HN.out, ← HA.out]; exact HR.out.1
   by_cases hjl : j < la
   · obtain ⟨ga, rfl, _, hga, cga, _⟩ := KA.out.at j (by rw [HA.out]; exact hjl)
     obtain ⟨x, hx⟩ : ∃ x, p[j]'(by rw [HA.out]; exact hjl) = x := ⟨_, rfl⟩
     have bx : x < 18446744073709551616 := by rw [← hx]; exact w64_get wp j _
     rw [hx] at cga
     have HX := hide hx
     clear hx
     have cgx : wr.cell? ⟨ga, j, none⟩ = _ := (hE.cell (p := ⟨ga, j, none⟩) hga).trans cga
     have hne : ga ≠ g := by have := HG.out; omega
     obtain ⟨g', e', _, hg', cg, fg⟩ := hW.at (j + q) (by rw [HO.out]; omega)
     obtain rfl : g = g' := by injection e' with e'; injection e'
     obtain ⟨g', e', _, _, cg1, fg1⟩ := hW.at (j + q + 1) (by rw [HO.out]; omega)
     obtain rfl : g = g' := by injection e' with e'; injection e'
     obtain ⟨o, ho⟩ : ∃ o, os[j + q]'(by rw [HO.out]; omega) = o := ⟨_, rfl⟩
     have ho1 : os[j + q + 1]'(by rw [HO.out]; omega) = 0 := get_of_getD (by rw [HO.out]; omega) (HR.out.2.2.2.1 _ (by omega))
     rw [ho] at cg
     rw [ho1] at cg1
     have HOO : Hid (os.getD (j + q) 0 = o) := getD_of_get (by rw [HO.out]; omega) ho
     obtain ⟨l, t, z, z1, z2, z3, z4, HZ⟩ := shl_or x r o hr bx (by rw [← HOO.out]; exact HR.out.2.2.1)
     have HS := hide (HR.out.step (by rw [HA.out]; exact hjl) HX.out HOO.out HZ.out.1 HZ.out.2.1 HZ.out.2.2.1 hr)
     have bN : j + q < N := by omega
     have bN1 : j + q + 1 < N := by omega
     clear ho ho1
     by_cases hr0 : r = 0
     · have hr1 : ¬ ((0 : Int) < (r : Int)) := by omega
       have HT : Hid (t = 0) := by
         have := HZ.out.2.2.1
         rw [hr0] at this
         unfold Hid; omega
       have HSS : Hid ((os.set (j + q) z).set (j + q + 1) t = os.set (j + q) z) := by
         rw [HT.out]
         exact set_same _ _ _ (by rw [getD_set_ne _ _ _ _ (by omega)]; exact HR.out.2.2.2.1 _ (by omega))
       have HW := hide (hW.set HO.out (j + q) z HZ.out.2.1)
       have HE := hide (ext_set hE (g := g) (by rw [HG.out]; exact Nat.le_refl _) (j + q) (.int .u64 (z : Int)))
       have HR0 := hide hr0
       clear hr0
       go_wp2_with fail
       go_region
       go_wp2_with fail
       exact ⟨⟨j + 1, _, by go_num, by omega, by rw [← HSS.out]; exact HS, HW.out, HE.out.trans (ext_drew _)⟩, by simp [intOf]; omega⟩
     · have hr1 : (0 : Int) < (r : Int) := by omega
       have HW := hide ((hW.set HO.out (j + q) z HZ.out.2.1).set (by rw [List.length_set]; exact HO.out) (j + q + 1) t HZ.out.2.2.2)
       have HE := hide (ext_set (ext_set hE (g := g) (by rw [HG.out]; exact Nat.le_refl _) (j + q) (.int .u64 (z : Int))) (g := g) (by rw [HG.out]; exact Nat.le_refl _) (j + q + 1) (.int .u64 (t : Int)))
       have HR0 := hide hr0
       clear hr0
       go_wp2_with fail
       go_region
       go_wp2_with fail
       go_region
       go_wp2_with fail
       exact ⟨⟨j + 1, _, by go_num, by omega, HS, HW.out, (HE.out.trans (ext_drew _)).trans (ext_drew _)⟩, by simp [intOf]; omega⟩
   · obtain rfl : j = la := by omega
     have H2 : Hid (val os = n * 2 ^ k) := by
       have h := HR.out
       rw [← HA.out] at h
       have h2 := h.done
       rw [HV.out, ← HQ.out] at h2
       exact h2
     go_wp2_with (go_at_call 48; refine (trim_any _ _ _ _ hW).mono ?_; rintro e w' ⟨v3, rfl, hv3, rfl⟩)
     go_ret
     exact ⟨_, rfl, by rw [← H2.out]; exact hv3.base hB, hE⟩
def Apart (g : Nat) (v : Value) : Prop := ∀ g' n c, v = .slice (some ⟨g', 0, none⟩) n c → g' ≠ g
theorem Words.upd {B g : Nat} {w w' : World} {v : Value} {l : List Nat} (h : Words B w v l) (k : Upd g w w') (ha : Apart g v) : Words B w' v l := by
 refine ⟨?_, h.2⟩
 obtain ⟨h1, h2 | ⟨g', cap, cur, hv, hg, hh, r⟩⟩ := h.1
 · exact ⟨h1, Or.inl h2⟩
 · have hlt := (h.1.lt g' (by rw [hv]; rfl)).2
   exact ⟨h1, Or.inr ⟨g', cap, cur, hv, hg, by rw [k.2.2.2.2 g' hlt (ha _ _ _ hv)]; exact hh, r⟩⟩
theorem Words.apart {B g : Nat} {w : World} {v : Value} {l : List Nat} (h : Words B w v l) (hg : w.heap.size ≤ g) : Apart g v := by
 rintro g' n c rfl
 have := (h.1.lt g' rfl).2
 omega
theorem Words.apart' {B g : Nat} {w : World} {v : Value} {l : List Nat} (h : Words B w v l) (hg : g < B) : Apart g v := by
 rintro g' n c rfl
 have := (h.1.lt g' rfl).1
 omega
def AtWords (B g cap : Nat) (l : List Nat) (w : World) (e : Ending) (w' : World) : Prop := e = .returned (.slice (some ⟨g, 0, none⟩) l.length cap) ∧ Words B w' (.slice (some ⟨g, 0, none⟩) l.length cap) l ∧ w = w'
theorem trim_at (B g cap : Nat) (l : List Nat) (w : World) (h : Words B w (.slice (some ⟨g, 0, none⟩) l.length cap) l) : Calls Try.prog 48 #[.slice (some ⟨g, 0, none⟩) l.length cap] w (AtWords B g cap (limbs (val l)) w) := by
 go_enter Try.func48, Try.ntmps48
 go_wp2_with fail
 go_loop [0] (fun v => ∃ m, v = .slice (some ⟨g, 0, none⟩) m.length cap ∧ Words B w (.slice (some ⟨g, 0, none⟩) m.length cap) m ∧ val m = val l) (fun v => lenOf v)
 case atStart => exact ⟨l, rfl, h, rfl⟩
 case round =>
   obtain ⟨m, rfl, hm, e⟩ := hrel
   rcases nil_or_snoc m with rfl | ⟨r, x, rfl⟩
   · have HE : Hid (limbs (val l) = []) := by rw [← e]; simp [Hid, val, limbs_zero]
     clear e
     go_wp2
     go_ret
     exact ⟨by rw [HE.out]; rfl, by rw [HE.out]; exact hm, rfl⟩
   · obtain ⟨g', cap', e', h1, h2, h3, h4, hc, hf⟩ := hm.pos (r.length + 1) (by simp) (by omega)
     simp only [List.length_append, List.length_cons, List.length_nil, Nat.zero_add, Value.slice.injEq, Option.some.injEq, Addr.mk.injEq, and_true, true_and] at e'
     obtain ⟨rfl, rfl⟩ := e'
     have hx := hc r.length (by simp)
     rw [show (r ++ [x])[r.length]'(by simp) = x by simp] at hx
     have hl : (r ++ [x]).length = r.length + 1 := by simp
     rw [hl] at hm ⊢
     have hpop := hm.pop
     clear hc hf
     by_cases hz : x = 0
     · subst hz
       have e2 : val r = val l := by rw [← e, val_snoc]; simp
       have HE := (show Hid _ from e2)
       clear e e2
       go_wp2
       exact ⟨⟨r, rfl, hpop, HE.out⟩, by simp [lenOf]⟩
     · have hz' : ((x : Int) == 0) = false := by simp; omega
       have e2 : limbs (val (r ++ [x])) = r ++ [x] := limbs_of _ hm.2 (by simp [hz])
       have HE : Hid (limbs (val l) = r ++ [x]) := by rw [← e]; exact e2
       clear e e2
       go_wp2
       go_ret
       exact ⟨by rw [HE.out, hl]; rfl, by rw [HE.out, hl]; exact hm, rfl⟩
theorem half_parts (x y : Nat) (hx : x < 18446744073709551616) (hy : y < 18446744073709551616) :
   ∃ h l z : Nat, (x : Int) / 2 = (h : Int) ∧ IntKind.u64.wrap ((y : Int) * 9223372036854775808) = (l : Int) ∧ bits .or .u64 (h : Int) (l : Int) = (z : Int) ∧ Hid (h = x / 2 ∧ z = x / 2 + 9223372036854775808 * (y % 2) ∧ z < 18446744073709551616 ∧ h < 9223372036854775808) := by
 have e63 : (2 : Nat) ^ 63 = 9223372036854775808 := by decide
 obtain ⟨k, b, hk, hb⟩ : ∃ k b, y = 2 * k + b ∧ b < 2 := ⟨y / 2, y % 2, by omega, by omega⟩
 have hyb : y % 2 = b := by omega
 obtain ⟨h, m, hh, hm⟩ : ∃ h m, x = 2 * h + m ∧ m < 2 := ⟨x / 2, x % 2, by omega, by omega⟩
 have hxh : x / 2 = h := by omega
 have h1 : b * 2 ^ 63 < 18446744073709551616 := by rw [e63]; omega
 have ho := or_sum b h 63 (by omega) (by rw [e63]; omega) h1
 rw [e63] at ho
 have hw : IntKind.u64.wrap ((y : Int) * 9223372036854775808) = ((b * 9223372036854775808 : Nat) : Int) := by
   rw [wrap_u64', hk]
   have e : ((2 * k + b : Nat) : Int) * 9223372036854775808 = (b : Int) * 9223372036854775808 + 18446744073709551616 * (k : Int) := by push_cast; omega
   rw [e, Int.add_mul_emod_self_left, Int.natCast_mul]
   exact Int.emod_eq_of_lt (by omega) (by omega)
 rw [hyb, hxh]
 have ho2 := (or_comm' _ _).trans ho
 have h2 : (x : Int) / 2 = (h : Int) := by omega
 have h3 : b * 9223372036854775808 + h = h + 9223372036854775808 * b := (Nat.add_comm _ _).trans (congrArg (h + ·) (Nat.mul_comm _ _))
 have h4 : b * 9223372036854775808 ≤ 1 * 9223372036854775808 := Nat.mul_le_mul_right _ (by omega)
 have h5 : h < 9223372036854775808 := by omega
 have h6 : b * 9223372036854775808 + h < 18446744073709551616 := Nat.lt_of_lt_of_le (Nat.add_lt_add_of_le_of_lt h4 h5) (by decide)
 exact ⟨h, _, _, h2, hw, ho2, ⟨rfl, h3, h6, h5⟩⟩
def HalfRet (B g cap n : Nat) (w : World) (e : Ending) (w' : World) : Prop := e = .returned (.slice (some ⟨g, 0, none⟩) (limbs n).length cap) ∧ Words B w' (.slice (some ⟨g, 0, none⟩) (limbs n).length cap) (limbs n) ∧ Upd g w w'
set_option maxRecDepth 100000 in
set_option maxHeartbeats 4000000 in
theorem ref_half (B g cap n : Nat) (w : World) (h : Words B w (.slice (some ⟨g, 0, none⟩) (limbs n).length cap) (limbs n)) (hn : (limbs n).length ≤ 1000) :
   Calls Try.prog 66 #[.slice (some ⟨g, 0, none⟩) (limbs n).length cap] w (HalfRet B g cap (n / 2) w) := by
 obtain ⟨p, hp⟩ : ∃ p, limbs n = p := ⟨_, rfl⟩
 have wp : W64 p := by rw [← hp]; exact limbs_w n
 have HV : Hid (val p = n) := by rw [← hp]; exact val_limbs n
 rw [hp] at h hn ⊢
 clear hp
 obtain ⟨L, hL⟩ : ∃ L, p.length = L := ⟨_, rfl⟩
 rw [hL] at h hn ⊢
 have HL := hide hL
 have HH := hide h
 obtain ⟨_, _, e', hc1, hc2, _⟩ := h.shape L hL
 simp only [Value.slice.injEq] at e'
 obtain ⟨rfl, _, rfl⟩ := e'
 clear hL h
 go_enter Try.func66, Try.ntmps66
 go_wp2_with fail
 go_loopw [3] (fun i wr => ∃ (j : Nat) (os : List Nat), i = .int .i64 j ∧ j ≤ L ∧ Hid (RHalf p os j) ∧ Words B wr (.slice (some ⟨g, 0, none⟩) L cap) os ∧ Upd g w wr) (fun i _ => L - (intOf i).toNat)
 case atStart => exact ⟨0, p, rfl, by omega, RHalf.start p wp, HH.out, Upd.refl _ _⟩
 case round =>
   obtain ⟨j, os, rfl, hj, HR, hW, hU⟩ := hrel
   have HO : Hid (os.length = L) := by rw [← HL.out]; exact HR.out.1
   by_cases hjl : j < L
   · obtain ⟨g', e', _, _, cg, fg⟩ := hW.at j (by rw [HO.out]; exact hjl)
     obtain rfl : g = g' := by injection e' with e'; injection e'
     obtain ⟨x, hx⟩ : ∃ x, p[j]'(by rw [HL.out]; exact hjl) = x := ⟨_, rfl⟩
     have bx : x < 18446744073709551616 := by rw [← hx]; exact w64_get wp j _
     have hox : os[j]'(by rw [HO.out]; exact hjl) = x := by rw [← hx]; exact (drop_get HR.out.2.2.1 (by rw [HO.out]; exact hjl) (by rw [HL.out]; exact hjl)).1
     rw [hox] at cg
     have HX := hide hx
     clear hx hox
     by_cases hj1 : j + 1 < L
     · obtain ⟨g', e', _, _, cg1, fg1⟩ := hW.at (j + 1) (by rw [HO.out]; exact hj1)
       obtain rfl : g = g' := by injection e' with e'; injection e'
       obtain ⟨y, hy⟩ : ∃ y, p[j + 1]'(by rw [HL.out]; exact hj1) = y := ⟨_, rfl⟩
       have by' : y < 18446744073709551616 := by rw [← hy]; exact w64_get wp (j + 1) _
       have hoy : os[j + 1]'(by rw [HO.out]; exact hj1) = y := by
         have := (drop_get HR.out.2.2.1 (by rw [HO.out]; exact hjl) (by rw [HL.out]; exact hjl)).2
         rw [← hy]; exact (drop_get this (by rw [HO.out]; exact hj1) (by rw [HL.out]; exact hj1)).1
       rw [hoy] at cg1
       obtain ⟨h, l, z, z1, z2, z3, HZ⟩ := half_parts x y bx by'
       have HS := hide (HR.out.step (z := z) (by rw [HL.out]; exact hjl) HX.out (by rw [getD_of_get (by rw [HL.out]; exact hj1) hy]; exact HZ.out.2.1) bx)
       have hW2 := (hW.set HO.out j h (by have := HZ.out.2.2.2; omega)).set (by rw [List.length_set]; exact HO.out) j z HZ.out.2.2.1
       rw [List.set_set] at hW2
       have HW := hide hW2.drew
       clear hW2
       have HU := hide ((hU.set j (.int .u64 (h : Int))).set j (.int .u64 (z : Int)))
       have HY := hide hy
       clear hy hoy
       go_wp2_with fail
       go_region
       go_wp2_with fail
       exact ⟨⟨j + 1, _, by go_num, by omega, HS, HW.out, HU.out.drew⟩, by simp [intOf]; omega⟩
     · obtain ⟨h, l, z, z1, z2, z3, HZ⟩ := half_parts x 0 bx (by omega)
       have hz : z = h := by have h1 := HZ.out.1; have h2 := HZ.out.2.1; omega
       have HS := hide (HR.out.step (z := h) (by rw [HL.out]; exact hjl) HX.out (by rw [show p.getD (j + 1) 0 = 0 by simp [List.getD, show p.length ≤ j + 1 by rw [HL.out]; omega]]; rw [← hz]; exact HZ.out.2.1) bx)
       have HW := hide (hW.set HO.out j h (by have := HZ.out.2.2.2; omega))
       have HU := hide (hU.set j (.int .u64 (h : Int)))
       clear hz z2 z3
       go_wp2_with fail
       exact ⟨⟨j + 1, _, by go_num, by omega, HS, HW.out, HU.out⟩, by simp [intOf]; omega⟩
   · obtain rfl : j = L := by omega
     have H2 : Hid (val os = n / 2) := by
       have h := HR.out
       rw [← HL.out] at h
       rw [h.done, HV.out]
       exact rfl
     have HLO := HO.out
     subst HLO
     go_wp2_with (go_at_call 48; refine (trim_at B g cap os _ hW).mono ?_; rintro e w' ⟨rfl, hv3, rfl⟩; rw [H2.out] at hv3 ⊢)
     go_ret
     exact ⟨rfl, hv3, hU⟩
theorem b_len (x : Nat) (w : World) (hx : x < 18446744073709551616) (h0 : 0 < x) : Calls Try.prog 75 #[.int .u64 (x : Int)] w fun e w' => ∃ s : Nat, e = .returned (.int .i64 (s : Int)) ∧ 1 ≤ s ∧ s ≤ 64 ∧ x < 2 ^ s ∧ 2 ^ (s - 1) ≤ x ∧ w = w' := by
 refine (Go.Proofs.Any.bits_Len64 (P := Try.prog) (ρ := lzRen) { lzLays with } (x : Int) w (by omega) (by omega)).mono ?_
 rintro e w' ⟨rfl, rfl⟩
 obtain ⟨i1, i2, i3⟩ := bitLen_spec x hx
 obtain ⟨j1, j2⟩ := i3 (by omega)
 exact ⟨Lib.bitLen x, by rw [Int.toNat_natCast], j1, i1, i2, j2, rfl⟩
def SizeRet (n : Nat) (w : World) (e : Ending) (w' : World) : Prop := ∃ s : Nat, e = .returned (.int .i64 (s : Int)) ∧ Size n s ∧ s ≤ 64000 ∧ w = w'
set_option maxHeartbeats 4000000 in
theorem ref_size (B n : Nat) (v : Value) (w : World) (h : Words B w v (limbs n)) (hn : (limbs n).length ≤ 1000) : Calls Try.prog 64 #[v] w (SizeRet n w) := by
 obtain ⟨p, hp⟩ : ∃ p, limbs n = p := ⟨_, rfl⟩
 have wp : W64 p := by rw [← hp]; exact limbs_w n
 have HV : Hid (val p = n) := by rw [← hp]; exact val_limbs n
 have hlast := limbs_last n
 rw [hp] at h hn hlast
 clear hp
 rcases nil_or_snoc p with rfl | ⟨r, x, rfl⟩
 · obtain ⟨a, cap, rfl, _⟩ := h.nil
   go_enter Try.func64, Try.ntmps64
   go_wp2_with fail
   go_ret
   exact ⟨0, rfl, ⟨by rw [← HV.out]; simp [val], by rw [← HV.out]; simp [val], fun _ => rfl⟩, by omega, rfl⟩
 · obtain ⟨L, hL⟩ : ∃ L, r.length = L := ⟨_, rfl⟩
   have bx : x < 18446744073709551616 := wp x (by simp)
   have hx0 : 0 < x := by
     rcases Nat.eq_zero_or_pos x with h0 | h0
     · subst h0; simp at hlast
     · exact h0
   obtain ⟨g, cap, rfl, h1, h2, h3, h4, hc, hf⟩ := h.pos (L + 1) (by simp [hL]) (by omega)
   have hcx := hc L (by simp [hL])
   rw [show (r ++ [x])[L]'(by simp [hL]) = x by subst hL; simp] at hcx
   have hL2 : L ≤ 999 := by simp [hL] at hn; omega
   have HL := hide hL
   have wr : W64 r := fun y hy => wp y (by simp [hy])
   clear hc hf hn hlast hL h
   go_enter Try.func64, Try.ntmps64
   go_wp2_with (go_at_call 75; refine (b_len x _ bx hx0).mono ?_; rintro e w' ⟨k, rfl, k1, k2, k3, k4, rfl⟩; have K3 := hide k3; have K4 := hide k4; clear k3 k4)
   go_ret
   exact ⟨64 * L + k, by rfl, by rw [← HV.out, ← HL.out]; exact size_words r x k wr K3.out k1 K4.out, by omega, rfl⟩
def RDiv (p os : List Nat) (y k c : Nat) : Prop := os.length = p.length ∧ W64 os ∧ c < y ∧ val (os.drop k) * y + c = val (p.drop k)
theorem RDiv.start (p : List Nat) (y : Nat) (hy : 0 < y) : RDiv p (List.replicate p.length 0) y p.length 0 :=
 ⟨by simp, w64_zeros _, hy, by rw [List.drop_of_length_le (by simp), List.drop_of_length_le (Nat.le_refl _)]; simp [val]⟩
theorem RDiv.step {p os : List Nat} {y j c x q r : Nat} (h : RDiv p os y (j + 1) c) (hj : j < p.length) (hx : p[j] = x) (bx : x < 18446744073709551616) (hq : (c * 18446744073709551616 + x) / y = q) (hr : (c * 18446744073709551616 + x) % y = r) :
   RDiv p (os.set j q) y j r ∧ q < 18446744073709551616 := by
 obtain ⟨h1, h2, h3, h4⟩ := h
 have hq2 : q < 18446744073709551616 := by
   rw [← hq, Nat.div_lt_iff_lt_mul (by omega)]
   have : (c + 1) * 18446744073709551616 ≤ y * 18446744073709551616 := Nat.mul_le_mul_right _ h3
   omega
 refine ⟨⟨by simpa using h1, w64_set h2 _ _ hq2, by rw [← hr]; exact Nat.mod_lt _ (by omega), ?_⟩, hq2⟩
 have hl : j < (os.set j q).length := by rw [List.length_set]; omega
 rw [val_drop _ j hl, List.getElem_set_self, drop_set, val_drop p j hj, hx, ← h4]
 have e := Nat.div_add_mod (c * 18446744073709551616 + x) y
 rw [hq, hr] at e
 generalize val (os.drop (j + 1)) = V at *
 rw [Nat.add_mul, Nat.mul_assoc, Nat.mul_add]
 rw [Nat.mul_comm q y]
 omega
theorem RDiv.done {p os : List Nat} {y c : Nat} (h : RDiv p os y 0 c) : val os = val p / y ∧ c = val p % y := by
 obtain ⟨_, _, h3, h4⟩ := h
 simp only [List.drop_zero] at h4
 rw [← h4]
 have e1 : (val os * y + c) / y = val os := by rw [Nat.mul_comm, Nat.mul_add_div (by omega), Nat.div_eq_of_lt h3, Nat.add_zero]
 have e2 : (val os * y + c) % y = c := by rw [Nat.mul_comm, Nat.mul_add_mod, Nat.mod_eq_of_lt h3]
 exact ⟨e1.symm, e2.symm⟩
def DivWords (B n m : Nat) (w : World) (e : Ending) (w' : World) : Prop := ∃ v1 v2, e = .returned (.tuple #[v1, v2]) ∧ Words B w' v1 (limbs (n / m)) ∧ Words B w' v2 (limbs (n % m)) ∧ Ext w w'
theorem words_none (B : Nat) (w : World) : Words B w (.slice none 0 0) [] := ⟨⟨by simp [wd], Or.inl ⟨rfl, rfl⟩⟩, by intro x hx; simp at hx⟩
theorem limbs_one (y : Nat) (h0 : 0 < y) (hy : y < 18446744073709551616) : limbs y = [y] := by
 rw [limbs_pos (by omega), Nat.mod_eq_of_lt hy, Nat.div_eq_of_lt hy, limbs_zero]
set_option maxRecDepth 100000 in
set_option maxHeartbeats 4000000 in
theorem ref_div1 (B C D : Nat) (u v : Value) (n y : Nat) (w : World) (h : Words C w u (limbs n)) (k : Words D w v [y]) (hB : B ≤ w.heap.size) (hn : (limbs n).length ≤ 1000) (h0 : 0 < y) :
   Calls Try.prog 46 #[u, v] w (DivWords B n y w) := by
 obtain ⟨i0, hi, hz0, hz1, hz2⟩ := info_parts info_u64
 obtain ⟨p, hp⟩ : ∃ p, limbs n = p := ⟨_, rfl⟩
 have wp : W64 p := by rw [← hp]; exact limbs_w n
 have HV : Hid (val p = n) := by rw [← hp]; exact val_limbs n
 rw [hp] at h hn
 clear hp
 have hy : y < 18446744073709551616 := k.2 y (by simp)
 obtain ⟨la, hla⟩ : ∃ la, p.length = la := ⟨_, rfl⟩
 obtain ⟨a, ca, rfl, a1, a2, _⟩ := h.shape la hla
 obtain ⟨gb, cb, rfl, b1, b2, b3, b4, hcb, _⟩ := k.pos 1 rfl (by omega)
 have cgb := hcb 0 (by simp)
 simp only [List.getElem_cons_zero] at cgb
 rw [hla] at hn
 have HA := hide hla
 have KA := hide h
 have HZ2 := hide hz2
 clear hla h hz2 hcb k
 go_enter Try.func46, Try.ntmps46
 go_wp2_with (at_make; refine wpList_make_full _ rfl _ _ 69 rfl w.heap.size 22 i0 (.int .u64 0) 1 Try.underlying69 hi hz0 hz1 _ _ _ _ la rfl rfl rfl rfl (by rw [HZ2.out]; omega) (by unfold maxLen; omega) (Nat.le_refl _) ?_; intro w1 hown hgr)
 have H1 : Hid (Words w.heap.size w1 (.slice (some ⟨w.heap.size, 0, none⟩) la la) (List.replicate la 0)) := words_made hown
 have E1 := ext_grown hgr (by simp)
 clear hown hgr
 obtain ⟨g, hg⟩ : ∃ g, w.heap.size = g := ⟨_, rfl⟩
 have HG := hide hg
 rw [hg] at H1 hB b4
 rw [hg]
 clear hg
 go_wp2_with fail
 go_loopw [7, 8] (fun t i wr => ∃ (j c : Nat) (os : List Nat), i = .int .i64 ((j : Int) - 1) ∧ t = .int .u64 c ∧ j ≤ la ∧ c < y ∧ Hid (RDiv p os y j c) ∧ Words g wr (.slice (some ⟨g, 0, none⟩) la la) os ∧ Ext w wr) (fun _ i _ => (intOf i + 1).toNat)
 case atStart => exact ⟨la, 0, List.replicate la 0, rfl, rfl, by omega, h0, by have := RDiv.start p y h0; rw [HA.out] at this; exact this, H1.out, E1⟩
 case round =>
   obtain ⟨j, c, os, rfl, rfl, hj, hc, HR, hW, hE⟩ := hrel
   have HO : Hid (os.length = la) := by rw [← HA.out]; exact HR.out.1
   by_cases hj0 : j = 0
   · subst hj0
     have H2 : Hid (val os = n / y ∧ c = n % y) := by have := HR.out.done; rw [HV.out] at this; exact this
     have H3 : Hid (limbs (val [c]) = limbs (n % y)) := by rw [← H2.out.2]; simp [Hid, val]
     have H4 := hide (words_one wr.heap.size wr c wr.heap.size rfl (Nat.le_refl _) (by omega))
     have hE2 := hide (ext_alloc wr (.cells #[.int .u64 (c : Int)] 22))
     go_wp2_with (first
       | (go_at_call 48; (with_reducible refine (trim_any _ _ _ _ hW).mono ?_); rintro e w' ⟨v3, rfl, hv3, rfl⟩; have hv4 := hide (hv3.ext hE2.out))
       | (go_at_call 48; refine (trim_any _ _ _ _ H4.out).mono ?_; rintro e w' ⟨v5, rfl, hv5, rfl⟩))
     go_ret2
     exact ⟨_, _, rfl, by rw [← H2.out.1]; exact hv4.out.base hB, by rw [← H3.out]; exact hv5.base (Nat.le_trans hB (by rw [← HG.out]; exact hE.size)), hE.trans hE2.out⟩
   · obtain ⟨j, rfl⟩ : ∃ i, j = i + 1 := ⟨j - 1, by omega⟩
     have hjl : j < la := by omega
     obtain ⟨ga, rfl, _, hga, cga, _⟩ := KA.out.at j (by rw [HA.out]; exact hjl)
     obtain ⟨x, hx⟩ : ∃ x, p[j]'(by rw [HA.out]; exact hjl) = x := ⟨_, rfl⟩
     have bx : x < 18446744073709551616 := by rw [← hx]; exact w64_get wp j _
     rw [hx] at cga
     have cgx : wr.cell? ⟨ga, j, none⟩ = _ := (hE.cell (p := ⟨ga, j, none⟩) hga).trans cga
     have cgy : wr.cell? ⟨gb, 0, none⟩ = _ := (hE.cell (p := ⟨gb, 0, none⟩) (by rw [HG.out]; exact b4)).trans cgb
     obtain ⟨g', e', _, _, cg, fg⟩ := hW.at j (by rw [HO.out]; exact hjl)
     obtain rfl : g = g' := by injection e' with e'; injection e'
     obtain ⟨o, ho⟩ : ∃ o, os[j]'(by rw [HO.out]; omega) = o := ⟨_, rfl⟩
     rw [ho] at cg
     obtain ⟨q, hq⟩ : ∃ q, (c * 18446744073709551616 + x) / y = q := ⟨_, rfl⟩
     obtain ⟨r, hr⟩ : ∃ r, (c * 18446744073709551616 + x) % y = r := ⟨_, rfl⟩
     have HS := hide (HR.out.step (by rw [HA.out]; exact hjl) hx bx hq hr)
     have br : r < y := HS.out.1.2.2.1
     have HQ := hide hq
     have HRR := hide hr
     clear ho hx hq hr
     go_wp2_with fail
     go_region_with (go_at_call 63; refine (b_div64 c x y q r _ hc hy bx HQ HRR).mono ?_; rintro e w2 ⟨rfl, hE2⟩; have hW2 := hW.drew.ext hE2; have EE2 := hE.trans ((ext_drew _).trans hE2); obtain ⟨g', e', _, _, cg2, fg2⟩ := hW2.at j (by rw [HO.out]; exact hjl); obtain rfl : g = g' := (by injection e' with e'; injection e'))
     all_goals go_wp2_with fail
     all_goals exact ⟨⟨j, r, _, rfl, rfl, by omega, br, HS.out.1, hW2.set HO.out j q HS.out.2, ext_set EE2 (g := g) (by rw [HG.out]; exact Nat.le_refl _) j (.int .u64 (q : Int))⟩, by first | (simp [intOf]; done) | (simp [intOf]; omega)⟩
theorem half_of (m j : Nat) : m * 2 ^ (j + 1) / 2 = m * 2 ^ j := by
 rw [Nat.pow_succ, ← Nat.mul_assoc, Nat.mul_div_cancel _ (by omega)]
theorem apart_at {g gd n c : Nat} (h : g ≠ gd) : Apart gd (.slice (some ⟨g, 0, none⟩) n c) := by
 rintro g' n' c' e
 simp only [Value.slice.injEq, Option.some.injEq, Addr.mk.injEq] at e
 omega
theorem bit_in {j n la : Nat} (h : 2 ^ j ≤ n) (hn : n < 18446744073709551616 ^ la) : j < 64 * la := by
 have e : 18446744073709551616 ^ la = 2 ^ (64 * la) := by rw [Nat.pow_mul]
 rw [e] at hn
 exact (Nat.pow_lt_pow_iff_right (by omega)).1 (Nat.lt_of_le_of_lt h hn)
theorem one_shl (s : Nat) (hs : s < 64) : ∃ t : Nat, IntKind.u64.wrap ((2 : Int) ^ s) = (t : Int) ∧ IntKind.u64.wrap (1 * (2 : Int) ^ s) = (t : Int) ∧ Hid (t = 2 ^ s) := by
 have h1 : 2 ^ s < 18446744073709551616 := Nat.lt_of_le_of_lt (Nat.pow_le_pow_right (by omega) (show s ≤ 63 by omega)) (by decide)
 have h2 : ((2 : Int) ^ s) = ((2 ^ s : Nat) : Int) := by rw [Int.natCast_pow]; rfl
 have h3 : IntKind.u64.wrap ((2 : Int) ^ s) = ((2 ^ s : Nat) : Int) := by
   rw [h2, wrap_u64']
   generalize 2 ^ s = t at *
   omega
 exact ⟨2 ^ s, h3, by rw [Int.one_mul]; exact h3, rfl⟩
theorem size_pos {n s : Nat} (h : Size n s) (h1 : 1 ≤ s) : n ≠ 0 := fun e => by have := h.2.2 e; omega
theorem up_lt {n m s1 s2 z la : Nat} (h1 : Size n s1) (h2 : Size m s2) (hz : s1 = s2 + z) (h3 : 1 ≤ s2) (hl : (limbs n).length = la) : m * 2 ^ z < 18446744073709551616 ^ (la + 1) ∧ n < m * 2 ^ (z + 1) := by
 have hn0 := size_pos h1 (by omega)
 have hm0 := size_pos h2 h3
 obtain ⟨_, i2⟩ := h1.2.1 hn0
 obtain ⟨_, j2⟩ := h2.2.1 hm0
 have hb : n < 18446744073709551616 ^ la := limbs_len_le.1 (by omega)
 have e1 : 2 ^ s1 = 2 * 2 ^ (s1 - 1) := by rw [← Nat.pow_succ']; congr 1; omega
 have e2 : 2 ^ s1 = 2 ^ s2 * 2 ^ z := by rw [hz, Nat.pow_add]
 have e3 : 2 ^ s2 = 2 * 2 ^ (s2 - 1) := by rw [← Nat.pow_succ']; congr 1; omega
 have k1 : m * 2 ^ z < 2 ^ s2 * 2 ^ z := Nat.mul_lt_mul_of_pos_right h2.1 (Nat.two_pow_pos _)
 have k2 : 2 ^ (s2 - 1) * 2 ^ (z + 1) ≤ m * 2 ^ (z + 1) := Nat.mul_le_mul_right _ j2
 have k3 : 2 ^ (s2 - 1) * 2 ^ (z + 1) = 2 ^ s1 := by rw [← Nat.pow_add]; congr 1; omega
 have hn1 := h1.1
 refine ⟨?_, by omega⟩
 rw [Nat.pow_succ]
 generalize 18446744073709551616 ^ la = X at *
 generalize m * 2 ^ z = Y at *
 rw [← e2] at k1
 omega
set_option maxRecDepth 100000 in
set_option maxHeartbeats 8000000 in
theorem ref_div2 (B C D : Nat) (u v : Value) (n m : Nat) (w : World) (h : Words C w u (limbs n)) (k : Words D w v (limbs m)) (hB : B ≤ w.heap.size) (hn : (limbs n).length ≤ 900) (hm : (limbs m).length ≤ 900) (hm2 : 2 ≤ (limbs m).length) :
   Calls Try.prog 46 #[u, v] w (DivWords B n m w) := by
 obtain ⟨i0, hi, hz0, hz1, hz2⟩ := info_parts info_u64
 obtain ⟨la, hla⟩ : ∃ la, (limbs n).length = la := ⟨_, rfl⟩
 obtain ⟨lb, hlb⟩ : ∃ lb, (limbs m).length = lb := ⟨_, rfl⟩
 obtain ⟨a, ca, rfl, a1, a2, _⟩ := h.shape la hla
 obtain ⟨b, cb, rfl, b1, b2, _⟩ := k.shape lb hlb
 rw [hla] at hn
 rw [hlb] at hm hm2
 have HA := hide hla
 have HBB := hide hlb
 have KA := hide h
 have KB := hide k
 have HZ2 := hide hz2
 have hne : ¬ ((lb : Int) = 1) := by omega
 clear hla hlb h k hz2
 go_enter Try.func46, Try.ntmps46
 go_upto_region 2 with (at_make; refine wpList_make_full _ rfl _ _ 69 rfl w.heap.size 22 i0 (.int .u64 0) 1 Try.underlying69 hi hz0 hz1 _ _ _ _ la rfl rfl rfl rfl (by rw [HZ2.out]; omega) (by unfold maxLen; omega) (Nat.le_refl _) ?_; intro w1 hown hgr)
 have H1 : Hid (Words w.heap.size w1 (.slice (some ⟨w.heap.size, 0, none⟩) la la) (List.replicate la 0)) := words_made hown
 have E1 := ext_grown hgr (by simp)
 clear hown hgr
 obtain ⟨g, hg⟩ : ∃ g, w.heap.size = g := ⟨_, rfl⟩
 have HG := hide hg
 rw [hg] at H1 hB
 rw [hg]
 clear hg
 have KA1 := hide (KA.out.ext E1)
 have KB1 := hide (KB.out.ext E1)
 have g1 : g < w1.heap.size := (H1.out.1.lt g rfl).2
 have HE0 := hide (words_empty w1.heap.size w1 w1.heap.size rfl (Nat.le_refl _))
 have hE0 := hide (ext_alloc w1 (.cells #[] 22))
 go_upto_region 10 with (first
   | (at_builtin; refine append_words rfl (.tmp 46) (.tmp 47) rfl w1.heap.size C _ _ [] (limbs n) rfl rfl HE0.out (KA1.out.ext hE0.out) (by simp) (by rw [HA.out]; simp; omega) w1 hE0.out (Nat.le_refl _) ?_; intro v2 w2 hv2 hE2)
   | (go_at_call 48; refine (trim_any _ _ _ _ hv2).mono ?_; rintro e w' ⟨v9, rfl, hv9, rfl⟩))
 have HV9 : Hid (Words w1.heap.size w2 v9 (limbs n)) := by
   have := hv9
   rw [List.nil_append, val_limbs] at this
   exact this
 have KB2 := hide (KB1.out.ext hE2)
 have H12 := hide (H1.out.ext hE2)
 have EE := hide (E1.trans hE2)
 have EE1 := hE2
 clear hv9 hv2 hE2 HE0 hE0 KB1 KA1
 go_upto_region 11 with (first
   | (go_at_call 64; (with_reducible refine (ref_size _ n v9 _ HV9.out (by rw [HA.out]; omega)).mono ?_); rintro e w' ⟨s1, rfl, hs1, bs1, rfl⟩; have HS1 := hide hs1; clear hs1)
   | (go_at_call 64; (with_reducible refine (ref_size _ m _ _ KB2.out (by rw [HBB.out]; omega)).mono ?_); rintro e w' ⟨s2, rfl, hs2, bs2, rfl⟩; have HS2 := hide hs2; clear hs2))
 have hm0 : m ≠ 0 := by
   intro h0
   have := HBB.out
   rw [h0, limbs_zero] at this
   simp at this
   omega
 obtain ⟨h2a, h2b⟩ := HS2.out.2.1 hm0
 by_cases hlt : s1 < s2
 · have hnm : n < m := by
     have h1 := HS1.out.1
     have h2 : 2 ^ s1 ≤ 2 ^ (s2 - 1) := Nat.pow_le_pow_right (by omega) (by omega)
     omega
   have HD : Hid (n / m = 0 ∧ n % m = n) := ⟨Nat.div_eq_of_lt hnm, Nat.mod_eq_of_lt hnm⟩
   have hlt' : (s1 : Int) - (s2 : Int) < 0 := by omega
   clear h2a h2b hnm hlt
   go_wp2_with fail
   go_ret2
   exact ⟨_, _, rfl, by rw [HD.out.1, limbs_zero]; exact words_none _ _, by rw [HD.out.2]; exact HV9.out.base (Nat.le_trans hB (by omega)), EE.out⟩
 · obtain ⟨z, hz⟩ : ∃ z, s1 = s2 + z := ⟨s1 - s2, by omega⟩
   have hz' : (s1 : Int) - (s2 : Int) = (z : Int) := by omega
   rw [hz']
   obtain ⟨u1, u2⟩ := up_lt HS1.out HS2.out hz h2a HA.out
   have U1 := hide u1
   have HZ := hide hz
   have zb : z ≤ 100000 := by omega
   clear u1 h2b hlt hz hz'
   go_upto_region 14 with (go_at_call 65; (with_reducible refine (ref_up w2.heap.size D _ m z _ KB2.out (Nat.le_refl _) (by rw [HBB.out]; omega) zb).mono ?_); rintro e w3 ⟨v11, rfl, hv11, hE3⟩)
   have hup0 : 0 < m * 2 ^ z := Nat.mul_pos (by omega) (Nat.two_pow_pos z)
   obtain ⟨gd, cd, rfl, d1, d2, d3, d4, _⟩ := hv11.pos _ rfl (len_pos _ |>.2 (by omega))
   have hw12 : w1.heap.size ≤ w2.heap.size := by
     have := (H12.out.1.lt g rfl).2
     exact EE1.size
   have A9 : Apart gd v9 := HV9.out.apart d3
   have hgd : g ≠ gd := by omega
   have HV9 := hide (HV9.out.ext hE3)
   have H13 := hide (H12.out.ext hE3)
   have D13 := hide (hv11.base hw12)
   have EE := hide (EE.out.trans hE3)
   have n0 : val (List.replicate la 0) = 0 := val_zeros la
   have HG2 : Hid (w.heap.size ≤ gd) := by rw [HG.out]; unfold Hid; omega
   clear hv11 hE3
   go_wp2_with fail
   go_loopw [9, 11, 12] (fun r d i wr => ∃ (k R : Nat) (os : List Nat), i = .int .i64 ((k : Int) - 1) ∧ k ≤ z + 1 ∧ Hid (R < m * 2 ^ k) ∧ d = .slice (some ⟨gd, 0, none⟩) (limbs (m * 2 ^ k / 2)).length cd ∧ Words w1.heap.size wr r (limbs R) ∧ Apart gd r ∧ Words w1.heap.size wr (.slice (some ⟨gd, 0, none⟩) (limbs (m * 2 ^ k / 2)).length cd) (limbs (m * 2 ^ k / 2)) ∧ Words g wr (.slice (some ⟨g, 0, none⟩) la la) os ∧ Hid (os.length = la ∧ val os * m + R = n ∧ val os % 2 ^ k = 0) ∧ Ext w wr) (fun _ _ i _ => (intOf i + 1).toNat)
   case atStart => exact ⟨z + 1, n, List.replicate la 0, by congr 1; omega, Nat.le_refl _, u2, by rw [half_of], HV9.out, A9, by rw [half_of]; exact D13.out, H13.out, ⟨by simp, by rw [n0]; omega, by rw [n0, Nat.zero_mod]⟩, EE.out⟩
   case round =>
     clear HV9 A9 H13 D13 EE n0
     obtain ⟨k, R, os, rfl, hk, HR, rfl, hr, A9, hd, hq, HO, hE⟩ := hrel
     by_cases hk0 : k = 0
     · subst hk0
       have HR0 : Hid (R < m ∧ val os = n / m ∧ R = n % m) := by
         have h1 := HR.out
         rw [Nat.pow_zero, Nat.mul_one] at h1
         have h2 := HO.out.2.1
         refine ⟨h1, ?_, ?_⟩
         · rw [← h2, Nat.mul_comm, Nat.mul_add_div (by omega), Nat.div_eq_of_lt h1, Nat.add_zero]
         · rw [← h2, Nat.mul_comm, Nat.mul_add_mod, Nat.mod_eq_of_lt h1]
       clear hd
       go_wp2_with (go_at_call 48; (with_reducible refine (trim_any _ _ _ _ hq).mono ?_); rintro e w' ⟨v3, rfl, hv3, rfl⟩)
       go_ret2
       exact ⟨_, _, rfl, by rw [← HR0.out.2.1]; exact hv3.base hB, by rw [← HR0.out.2.2]; exact hr.base (Nat.le_trans hB (by omega)), hE⟩
     · obtain ⟨j, rfl⟩ : ∃ j, k = j + 1 := ⟨k - 1, by omega⟩
       rw [half_of] at hd ⊢
       obtain ⟨T, hT⟩ : ∃ T, m * 2 ^ j = T := ⟨_, rfl⟩
       have hTj : m * 2 ^ j / 2 = T / 2 := by rw [hT]
       have HR2 : Hid (R < 2 * T) := by
         have := HR.out
         rw [Nat.pow_succ, ← Nat.mul_assoc, hT] at this
         unfold Hid; omega
       have hTl : (limbs T).length ≤ 901 := by
         have h1 : T ≤ m * 2 ^ z := by rw [← hT]; exact Nat.mul_le_mul_left _ (Nat.pow_le_pow_right (by omega) (by omega))
         have h2 := U1.out
         exact Nat.le_trans (limbs_len_le.2 (Nat.lt_of_le_of_lt h1 h2)) (by omega)
       have hRl : (limbs R).length ≤ 900 := by
         have h1 : R ≤ n := by have := HO.out.2.1; omega
         have h2 : n < 18446744073709551616 ^ la := limbs_len_le.1 (by rw [HA.out]; exact Nat.le_refl _)
         exact Nat.le_trans (limbs_len_le.2 (Nat.lt_of_le_of_lt h1 h2)) hn
       rw [hT] at hd ⊢
       have HT := hide hT
       have HTJ := hide hTj
       have HTL := hide hTl
       have HRL := hide hRl
       clear hT hTj hTl hRl hk0
       by_cases hlt : R < T
       · have HS : Hid (sgnN R T = -1) := if_pos hlt
         have HN : Hid (R < m * 2 ^ j ∧ val os % 2 ^ j = 0) := by
           refine ⟨by rw [HT.out]; exact hlt, ?_⟩
           have h1 := HO.out.2.2
           have h2 : 2 ^ j ∣ val os := Nat.dvd_trans (Nat.pow_dvd_pow 2 (Nat.le_succ j)) (Nat.dvd_of_mod_eq_zero h1)
           exact Nat.mod_eq_zero_of_dvd h2
         clear hlt
         go_wp2_with (first
           | (go_at_call 33; (with_reducible refine (compare_any _ _ _ _ _ _ _ hr hd).mono ?_); rintro e w4 ⟨rfl, hE4⟩; rw [HS.out]; have hr4 := hr.ext hE4; have hd4 := hd.ext hE4; have hq4 := hq.ext hE4; have hE4 := hide (hE.trans hE4))
           | (go_at_call 66; (with_reducible refine (ref_half _ _ _ _ _ hd4 (Nat.le_trans HTL.out (by omega))).mono ?_); rintro e w5 ⟨rfl, hd5, hU5⟩))
         exact ⟨⟨j, R, os, by first | rfl | (congr 1; omega), by omega, HN.out.1, by rw [HTJ.out], hr4.upd hU5 A9, A9, by rw [HTJ.out]; exact hd5, hq4.upd hU5 (apart_at hgd), ⟨HO.out.1, HO.out.2.1, HN.out.2⟩, hU5.ext hE4.out HG2.out⟩, by first | (simp [intOf]; done) | (simp [intOf]; omega)⟩
       · have h01 : (0 : Int) ≤ sgnN R T := by unfold sgnN; rw [if_neg hlt]; split <;> omega
         obtain ⟨sg, hsg⟩ : ∃ sg, sgnN R T = sg := ⟨_, rfl⟩
         rw [hsg] at h01
         have HS := hide hsg
         clear hsg
         obtain ⟨jq, jr, hjqr, hjr⟩ : ∃ jq jr, j = 64 * jq + jr ∧ jr < 64 := ⟨j / 64, j % 64, by omega, by omega⟩
         obtain ⟨t1, t2, t3, t4⟩ := quo64 j jq jr hjqr hjr
         have hjql : jq < la := by
           have h1 : 2 ^ j ≤ n := by
             have h2 : 1 * 2 ^ j ≤ m * 2 ^ j := Nat.mul_le_mul_right _ (by omega)
             have h3 := HO.out.2.1
             rw [HT.out] at h2
             omega
           have h4 := bit_in h1 (limbs_len_le.1 (by rw [HA.out]; exact Nat.le_refl la))
           omega
         obtain ⟨g', e', _, _, _, _⟩ := hq.at jq (by rw [HO.out.1]; exact hjql)
         obtain rfl : g = g' := by injection e' with e'; injection e'
         obtain ⟨x, hx⟩ : ∃ x, os[jq]'(by rw [HO.out.1]; exact hjql) = x := ⟨_, rfl⟩
         obtain ⟨t, o1, o2, HTT⟩ := one_shl jr hjr
         obtain ⟨zz, o3, HZZ⟩ := bit_set os jq jr x (by rw [HO.out.1]; exact hjql) hx hq.2 hjr (by rw [← hjqr]; exact HO.out.2.2)
         rw [← HTT.out] at o3
         have HN : Hid (R - T < m * 2 ^ j ∧ val (os.set jq zz) * m + (R - T) = n ∧ val (os.set jq zz) % 2 ^ j = 0) := by
           have h1 := HO.out.2.2
           have h2 : 2 ^ j ∣ val os := Nat.dvd_trans (Nat.pow_dvd_pow 2 (Nat.le_succ j)) (Nat.dvd_of_mod_eq_zero h1)
           rw [HZZ.out.2, ← hjqr]
           refine ⟨by rw [HT.out]; have := HR2.out; omega, ?_, Nat.mod_eq_zero_of_dvd ((Nat.dvd_add_right h2).2 (Nat.dvd_refl _))⟩
           have h3 := HO.out.2.1
           rw [Nat.add_mul, Nat.mul_comm (2 ^ j) m, HT.out]
           omega
         have HLT := hide hlt
         have HX := hide hx
         have HJ := hide hjqr
         clear hlt hx hjqr
         go_upto_region 19 with (first
           | (go_at_call 33; (with_reducible refine (compare_any _ _ _ _ _ _ _ hr hd).mono ?_); rintro e w4 ⟨rfl, hE4⟩; rw [HS.out]; have hr4 := hr.ext hE4; have hd4 := hd.ext hE4; have hq4 := hq.ext hE4; have hE4 := hide (hE.trans hE4))
           | (go_at_call 34; refine (ref_sub w4.heap.size _ _ _ _ R T _ hr4 hd4 (Nat.le_refl _) (Nat.le_trans HRL.out (by omega)) (Nat.le_trans HTL.out (by omega)) (by have := HLT.out; omega)).mono ?_; rintro e w5 ⟨v5, rfl, hv5, hE5⟩))
         have hd5 := hd4.ext hE5
         have hq5 := hq4.ext hE5
         have A5 : Apart gd v5 := hv5.apart' (hd4.1.lt gd rfl).2
         have hE6 := hide (hE4.out.trans hE5)
         have hr5 := hv5.base (Nat.le_of_lt (Nat.lt_of_le_of_lt (hd4.1.lt gd rfl).1 (hd4.1.lt gd rfl).2))
         obtain ⟨g', e', _, _, cg, fg⟩ := hq5.at jq (by rw [HO.out.1]; exact hjql)
         obtain rfl : g = g' := by injection e' with e'; injection e'
         rw [HX.out] at cg
         have hq6 := hide (hq5.set HO.out.1 jq zz HZZ.out.1)
         have U6 := (Upd.refl g w5).set jq (.int .u64 (zz : Int))
         have hd6 := hd5.upd U6 (apart_at (Ne.symm hgd))
         have hr6 := hide (hr5.upd U6 (hv5.apart' (hq4.1.lt g rfl).2))
         have E6 := hide (U6.ext hE6.out (by rw [HG.out]; exact Nat.le_refl _))
         clear U6 hv5 hq5 hd5 hr5 hE5 hq4 hr4 hd4
         go_wp2_with (go_at_call 66; (with_reducible refine (ref_half _ _ _ _ _ hd6 (Nat.le_trans HTL.out (by omega))).mono ?_); rintro e w7 ⟨rfl, hd7, hU7⟩)
         exact ⟨⟨j, R - T, os.set jq zz, by first | rfl | (congr 1; omega), by omega, HN.out.1, by rw [HTJ.out], hr6.out.upd hU7 A5, A5, by rw [HTJ.out]; exact hd7, hq6.out.upd hU7 (apart_at hgd), ⟨by rw [List.length_set]; exact HO.out.1, HN.out.2.1, HN.out.2.2⟩, hU7.ext E6.out HG2.out⟩, by first | (simp [intOf]; done) | (simp [intOf]; omega)⟩
end
section
open Go Go.RowKit
def SubMul (p q : List Nat) (f : Nat) (os : List Nat) (k c b : Nat) : Prop := os.length = p.length ∧ os.drop k = p.drop k ∧ c < 18446744073709551616 ∧ b ≤ 1 ∧ val (p.take k) + 18446744073709551616 ^ k * (c + b) = val (os.take k) + val (q.take k) * f
theorem SubMul.step {p q os : List Nat} {f k c b x y h l l1 c1 s b2 : Nat} (hr : SubMul p q f os k c b) (hk : k < p.length) (hq : k < q.length) (hx : p[k] = x) (hy : q[k] = y) (bx : x < 18446744073709551616) (by' : y < 18446744073709551616) (bf : f < 18446744073709551616)
   (hh : y * f / 18446744073709551616 = h) (hl : y * f % 18446744073709551616 = l) (h1 : (l + c) % 18446744073709551616 = l1) (h2 : (l + c) / 18446744073709551616 = c1) (h3 : (x + 18446744073709551616 - l1 - b) % 18446744073709551616 = s) (h4 : (if x < l1 + b then 1 else 0) = b2) :
   SubMul p q f (os.set k s) (k + 1) (h + c1) b2 ∧ h + c1 < 18446744073709551616 ∧ s < 18446744073709551616 := by
 obtain ⟨r1, r2, r3, rb, r4⟩ := hr
 have hp := prod_le by' bf
 have hb2 : b2 ≤ 1 := by rw [← h4]; split <;> omega
 have e1 : y * f + c = l1 + 18446744073709551616 * (h + c1) := by omega
 have e2 : x + 18446744073709551616 * b2 = s + l1 + b := by rw [← h4]; split <;> omega
 have b' : h + c1 < 18446744073709551616 := by omega
 refine ⟨⟨by simpa using r1, by rw [drop_set]; exact (drop_get r2 (by omega) hk).2, b', hb2, ?_⟩, b', by omega⟩
 rw [val_set_take _ _ _ (by omega), val_take_succ p k hk, val_take_succ q k hq, hx, hy, Nat.pow_succ, Nat.add_mul, Nat.mul_assoc (18446744073709551616 ^ k) y f]
 generalize y * f = t at *
 generalize h + c1 = z at *
 generalize 18446744073709551616 ^ k = K at *
 have e3 : K * (t + c) = K * (l1 + 18446744073709551616 * z) := by rw [e1]
 have e4 : K * (x + 18446744073709551616 * b2) = K * (s + l1 + b) := by rw [e2]
 rw [Nat.mul_add, Nat.mul_add, ← Nat.mul_assoc] at e3 e4
 rw [Nat.mul_add K s l1] at e4
 rw [Nat.mul_add] at r4 ⊢
 omega
theorem sub_end (p os q : List Nat) (f n c b x s b2 : Nat) (hr : SubMul p q f os n c b) (hp : p.length = n + 1) (hq : q.length = n) (hx : ∀ h : n < p.length, p[n] = x) (bx : x < 18446744073709551616) (h3 : (x + 18446744073709551616 - c - b) % 18446744073709551616 = s) (h4 : (if x < c + b then 1 else 0) = b2) :
   val p + 18446744073709551616 ^ (n + 1) * b2 = val (os.set n s) + val q * f ∧ (os.set n s).length = n + 1 ∧ s < 18446744073709551616 ∧ b2 ≤ 1 := by
 obtain ⟨r1, r2, r3, rb, r4⟩ := hr
 have hb2 : b2 ≤ 1 := by rw [← h4]; split <;> omega
 have e2 : x + 18446744073709551616 * b2 = s + c + b := by rw [← h4]; split <;> omega
 refine ⟨?_, by simp; omega, by omega, hb2⟩
 have hn : n < p.length := by omega
 have ho : n < os.length := by omega
 have e5 := val_take_succ p n hn
 have e6 := val_set_take os n s ho
 rw [List.take_of_length_le (by omega)] at e5
 rw [List.take_of_length_le (by simp; omega)] at e6
 rw [List.take_of_length_le (l := q) (by omega)] at r4
 rw [e5, e6, hx hn, Nat.pow_succ]
 generalize 18446744073709551616 ^ n = K at *
 have e4 : K * (x + 18446744073709551616 * b2) = K * (s + c + b) := by rw [e2]
 rw [Nat.mul_add, ← Nat.mul_assoc, Nat.add_assoc, Nat.mul_add K s] at e4
 omega
def SubProdPost (g n : Nat) (T : TypeId) (P p Q q : List Nat) (f : Nat) (w : World) (e : Ending) (w' : World) : Prop :=
 ∃ (c : Nat) (os : List Nat), e = .returned (.int .u64 (c : Int)) ∧ c ≤ 1 ∧ os.length = n + 1 ∧ W64 os ∧ val p + 18446744073709551616 ^ (n + 1) * c = val os + val q * f ∧ Arr w' g T (P ++ os ++ Q) ∧ Upd g w w'
set_option maxHeartbeats 1000000 in
theorem p_subProduct (g o n ca gb ob cb f : Nat) (T : TypeId) (P p Q q : List Nat) (w : World) (hA : Arr w g T (P ++ p ++ Q)) (hP : P.length = o) (hp : p.length = n + 1) (hq : q.length = n) (hB : Reads w gb ob q) (hne : gb ≠ g) (hn : n ≤ 1000) (wp : W64 p) (wq : W64 q) (hf : f < 18446744073709551616) :
   Calls Try.prog 104 #[.slice (some ⟨g, o, none⟩) (n + 1) ca, .slice (some ⟨gb, ob, none⟩) n cb, .int .u64 (f : Int)] w (SubProdPost g n T P p Q q f w) := by
 have HP := hide hP
 have Hp := hide hp
 have Hq := hide hq
 have HA := hide hA
 have HB := hide hB
 clear hP hp hq hA hB
 go_enter Try.func104, Try.ntmps104
 go_wp2_with fail
 go_loopw [16, 7, 8] (fun i t u wr => ∃ (k c b : Nat) (os : List Nat), i = .int .i64 k ∧ t = .int .u64 c ∧ u = .int .u64 b ∧ k ≤ n ∧ c < 18446744073709551616 ∧ b ≤ 1 ∧ Hid (SubMul p q f os k c b) ∧ W64 os ∧ Hid (Arr wr g T (P ++ os ++ Q)) ∧ Upd g w wr) (fun i _ _ _ => n - (intOf i).toNat)
 case atStart => exact ⟨0, 0, 0, p, rfl, rfl, rfl, by omega, by omega, by omega, ⟨rfl, rfl, by omega, by omega, by simp [val]⟩, wp, HA, Upd.refl _ _⟩
 case round =>
   obtain ⟨k, c, b, os, rfl, rfl, rfl, hk, hc, hb, HR, wo, HO, hU⟩ := hrel
   have HL : Hid (os.length = n + 1) := HR.out.1.trans Hp.out
   have hkn : k < os.length := by rw [HL.out]; omega
   have hkp : k < p.length := by rw [Hp.out]; omega
   have cg := HO.out.seg HP.out k hkn
   have fg := HO.out.free (o + k)
   obtain ⟨x, hx⟩ : ∃ x, os[k] = x := ⟨_, rfl⟩
   have hx2 : p[k] = x := by rw [← hx]; exact (drop_get HR.out.2.1 hkn hkp).1.symm
   have bx : x < 18446744073709551616 := by rw [← hx]; exact w64_get wo k hkn
   rw [hx] at cg
   by_cases hkl : k < n
   · have hkq : k < q.length := by rw [Hq.out]; omega
     have cb := (HB.out.upd hU hne).2 k hkq
     obtain ⟨y, hy⟩ : ∃ y, q[k] = y := ⟨_, rfl⟩
     have b_y : y < 18446744073709551616 := by rw [← hy]; exact w64_get wq k hkq
     rw [hy] at cb
     obtain ⟨h, hh⟩ : ∃ h, y * f / 18446744073709551616 = h := ⟨_, rfl⟩
     obtain ⟨l, hl⟩ : ∃ l, y * f % 18446744073709551616 = l := ⟨_, rfl⟩
     obtain ⟨l1, h1⟩ : ∃ l1, (l + c) % 18446744073709551616 = l1 := ⟨_, rfl⟩
     obtain ⟨c1, h2⟩ : ∃ c1, (l + c) / 18446744073709551616 = c1 := ⟨_, rfl⟩
     obtain ⟨s, h3⟩ : ∃ s, (x + 18446744073709551616 - l1 - b) % 18446744073709551616 = s := ⟨_, rfl⟩
     obtain ⟨b2, h4⟩ : ∃ b2, (if x < l1 + b then 1 else 0) = b2 := ⟨_, rfl⟩
     obtain ⟨hS, z1, z2⟩ := HR.out.step hkp hkq hx2 hy bx b_y hf hh hl h1 h2 h3 h4
     have hadd := add64_eq0 l c l1 c1 h1 h2
     have hsub := sub64_eq x l1 b s b2 hb h3 h4
     have hb2 : b2 ≤ 1 := hS.2.2.2.1
     have HHH := hide hh
     have HLL := hide hl
     have HS := hide hS
     have HW := hide (HO.out.segset HP.out k s hkn)
     have HU := hide (hU.set (o + k) (.int .u64 (s : Int)))
     have q1 : (h : Int) + c1 ≤ 18446744073709551615 := by omega
     clear hx hy hx2 hh hl h1 h2 h3 h4 hS
     go_wp2_with (go_at_call 94; refine (b_mul64 y f h l _ b_y hf HHH HLL).mono ?_; rintro e' w' ⟨rfl, rfl⟩)
     exact ⟨⟨k + 1, _, _, _, by go_num, by go_num, rfl, by omega, z1, hb2, HS, w64_set wo _ _ z2, HW, HU.out⟩, by simp [intOf]; omega⟩
   · obtain rfl : k = n := by omega
     obtain ⟨s, h3⟩ : ∃ s, (x + 18446744073709551616 - c - b) % 18446744073709551616 = s := ⟨_, rfl⟩
     obtain ⟨b2, h4⟩ : ∃ b2, (if x < c + b then 1 else 0) = b2 := ⟨_, rfl⟩
     have HE := hide (sub_end p os q f k c b x s b2 HR.out Hp.out Hq.out (fun _ => hx2) bx h3 h4)
     have hsub := sub64_eq x c b s b2 hb h3 h4
     have HW := hide (HO.out.segset HP.out k s hkn)
     have HU := hide (hU.set (o + k) (.int .u64 (s : Int)))
     have hkI : (k : Int) < (k : Int) + 1 := by omega
     clear hx hx2 h3 h4
     go_wp2_with fail
     go_ret
     exact ⟨b2, os.set k s, rfl, HE.out.2.2.2, HE.out.2.1, w64_set wo _ _ HE.out.2.2.1, HE.out.1, HW.out, HU.out⟩
open Go Go.RowKit
theorem guess_ge (p q : List Nat) (n g : Nat) (hp : p.length = n + 1 + 1) (hq : q.length = n + 1) (wp : W64 p) (h1 : n + 1 < p.length) (h2 : n < p.length) (h3 : n < q.length) (hg : guessV p[n + 1] p[n] q[n] = g) (hlt : val p < val q * 18446744073709551616) :
   val p < (g + 1) * val q ∧ g < 18446744073709551616 := by
 have e1 := val_take_succ p (n + 1) h1
 have e2 := val_take_succ p n h2
 have e3 := val_take_succ q n h3
 rw [List.take_of_length_le (by omega)] at e1
 rw [List.take_of_length_le (by omega)] at e3
 rw [e2] at e1
 have hr := val_lt (p.take n) (w64_take wp n)
 rw [List.length_take, Nat.min_eq_left (by omega)] at hr
 have bl := w64_get wp n h2
 have bh := w64_get wp (n + 1) h1
 generalize p[n + 1] = h at *
 generalize p[n] = l at *
 generalize q[n] = t at *
 unfold guessV at hg
 by_cases ht : t ≤ h
 · rw [if_pos ht] at hg
   subst hg
   rw [Nat.mul_comm]
   exact ⟨hlt, by omega⟩
 · rw [if_neg ht] at hg
   have ht0 : 0 < t := by omega
   have hm := Nat.div_add_mod (h * 18446744073709551616 + l) t
   have hm2 := Nat.mod_lt (h * 18446744073709551616 + l) ht0
   rw [hg] at hm
   have hgb : g < 18446744073709551616 := by
     rw [← hg, Nat.div_lt_iff_lt_mul ht0]
     have h5 : (h + 1) * 18446744073709551616 ≤ t * 18446744073709551616 := Nat.mul_le_mul_right _ (by omega)
     rw [Nat.add_mul] at h5
     rw [Nat.mul_comm 18446744073709551616 t]
     omega
   refine ⟨?_, hgb⟩
   rw [Nat.pow_succ] at e1
   generalize 18446744073709551616 ^ n = K at *
   have h6 : h * 18446744073709551616 + l + 1 ≤ (g + 1) * t := by
     rw [Nat.add_mul, Nat.one_mul, Nat.mul_comm g t]
     omega
   have h7 : K * (h * 18446744073709551616 + l + 1) ≤ K * ((g + 1) * t) := Nat.mul_le_mul_left _ h6
   rw [Nat.mul_add, Nat.mul_add, Nat.mul_one] at h7
   have h8 : K * 18446744073709551616 * h = K * (h * 18446744073709551616) := by rw [Nat.mul_assoc, Nat.mul_comm 18446744073709551616 h]
   have h9 : (g + 1) * val q = (g + 1) * val (q.take n) + K * ((g + 1) * t) := by rw [e3, Nat.mul_add, Nat.mul_left_comm]
   rw [h9, e1, h8]
   omega
def OneQ (q : Nat) (w : World) (e : Ending) (w' : World) : Prop := e = .returned (.int .u64 (q : Int)) ∧ ∃ n, w' = w.drewN n
theorem b_div64q (hi lo y q r : Nat) (w : World) (h1 : hi < y) (h2 : y < 18446744073709551616) (h3 : lo < 18446744073709551616) (hq : Hid ((hi * 18446744073709551616 + lo) / y = q)) (hr : Hid ((hi * 18446744073709551616 + lo) % y = r)) :
   Calls Try.prog 63 #[.int .u64 (hi : Int), .int .u64 (lo : Int), .int .u64 (y : Int)] w fun e w' => e = .returned (.tuple #[.int .u64 (q : Int), .int .u64 (r : Int)]) ∧ ∃ n, w' = w.drewN n := by
 by_cases h0 : 0 < hi
 · refine (b_div64_big hi lo y w h1 h2 h3 h0).mono ?_
   rintro e w' ⟨rfl, rfl⟩
   exact ⟨by rw [hq.out, hr.out], 0, rfl⟩
 · obtain rfl : hi = 0 := by omega
   refine (b_div64_small lo y w h2 h3 h1).mono ?_
   rintro e w' ⟨n, rfl, rfl⟩
   refine ⟨?_, n, rfl⟩
   have := hq.out
   have := hr.out
   simp only [Nat.zero_mul, Nat.zero_add] at *
   simp [*]
theorem p_guessq (h l t g : Nat) (w : World) (h2 : l < 18446744073709551616) (h3 : t < 18446744073709551616) (hg : Hid (guessV h l t = g)) :
   Calls Try.prog 103 #[.int .u64 (h : Int), .int .u64 (l : Int), .int .u64 (t : Int)] w (OneQ g w) := by
 by_cases ht : t ≤ h
 · have hI : (t : Int) ≤ (h : Int) := by omega
   have HG : Hid (18446744073709551615 = g) := by rw [← hg.out]; exact (if_pos ht).symm
   go_enter Try.func103, Try.ntmps103
   go_wp2_with fail
   go_ret
   exact ⟨by rw [← HG.out]; rfl, 0, rfl⟩
 · have hI : ¬ ((t : Int) ≤ (h : Int)) := by omega
   have hlt : h < t := by omega
   obtain ⟨r, hr⟩ : ∃ r, (h * 18446744073709551616 + l) % t = r := ⟨_, rfl⟩
   have HR := hide hr
   have HG : Hid ((h * 18446744073709551616 + l) / t = g) := by rw [← hg.out]; exact (if_neg ht).symm
   clear hr
   go_enter Try.func103, Try.ntmps103
   go_wp2_with (go_at_call 63; refine (b_div64q h l t g r _ hlt h3 h2 HG HR).mono ?_; rintro e' w' ⟨rfl, n, rfl⟩)
   go_ret
   exact ⟨rfl, n, rfl⟩
def TakeRel (R D M : Nat) (os : List Nat) (g b : Nat) : Prop := b ≤ 1 ∧ R + M * b = val os + D * g ∧ R < (g + 1) * D
theorem TakeRel.step {R D M : Nat} {os os2 : List Nat} {g c : Nat} (h : TakeRel R D M os g 1) (hM : val os < M) (hc : c ≤ 1) (he : val os2 + M * c = val os + D) : 0 < g ∧ TakeRel R D M os2 (g - 1) (1 - c) := by
 obtain ⟨_, h2, h3⟩ := h
 rw [Nat.mul_one] at h2
 have hg : 0 < g := by
   rcases Nat.eq_zero_or_pos g with h0 | h0
   · subst h0; simp at h2; omega
   · exact h0
 obtain ⟨k, rfl⟩ : ∃ k, g = k + 1 := ⟨g - 1, by omega⟩
 rw [Nat.mul_add, Nat.mul_one] at h2
 refine ⟨hg, by omega, ?_, ?_⟩
 · rw [Nat.add_sub_cancel]
   rcases (by omega : c = 0 ∨ c = 1) with rfl | rfl
   · simp at he ⊢; omega
   · simp at he ⊢; omega
 · rw [Nat.add_sub_cancel, Nat.mul_comm, Nat.mul_add, Nat.mul_one]; omega
theorem TakeRel.done {R D M : Nat} {os : List Nat} {g : Nat} (h : TakeRel R D M os g 0) : val os = R % D ∧ g = R / D := by
 obtain ⟨_, h2, h3⟩ := h
 rw [Nat.mul_zero, Nat.add_zero] at h2
 have hlt : val os < D := by
   rw [h2, Nat.add_mul, Nat.one_mul, Nat.mul_comm] at h3; omega
 have hD : 0 < D := by omega
 rw [h2, Nat.add_comm]
 constructor
 · rw [Nat.mul_add_mod, Nat.mod_eq_of_lt hlt]
 · rw [Nat.mul_add_div hD, Nat.div_eq_of_lt hlt, Nat.add_zero]
def TakePost (g n : Nat) (T : TypeId) (P p Q q : List Nat) (w : World) (e : Ending) (w' : World) : Prop :=
 ∃ (d : Nat) (os : List Nat), e = .returned (.int .u64 (d : Int)) ∧ d = val p / val q ∧ d < 18446744073709551616 ∧ os.length = n + 1 ∧ W64 os ∧ val os = val p % val q ∧ Arr w' g T (P ++ os ++ Q) ∧ Upd g w w'
set_option maxHeartbeats 2000000 in
theorem p_takeDigit (g o n ca gb ob cb : Nat) (T : TypeId) (P p Q q : List Nat) (w : World) (hA : Arr w g T (P ++ p ++ Q)) (hP : P.length = o) (hp : p.length = n + 1 + 1) (hq : q.length = n + 1) (hB : Reads w gb ob q) (hne : gb ≠ g) (hn : n ≤ 900) (wp : W64 p) (wq : W64 q) (hlt : val p < val q * 18446744073709551616) :
   Calls Try.prog 99 #[.slice (some ⟨g, o, none⟩) (n + 1 + 1) ca, .slice (some ⟨gb, ob, none⟩) (n + 1) cb] w (TakePost g (n + 1) T P p Q q w) := by
 have h1 : n + 1 < p.length := by omega
 have h2 : n < p.length := by omega
 have h3 : n < q.length := by omega
 have c1 := hA.seg hP (n + 1) h1
 have c2 := hA.seg hP n h2
 have c3 := hB.2 n h3
 obtain ⟨x, hx⟩ : ∃ x, p[n + 1] = x := ⟨_, rfl⟩
 obtain ⟨y, hy⟩ : ∃ y, p[n] = y := ⟨_, rfl⟩
 obtain ⟨z, hz⟩ : ∃ z, q[n] = z := ⟨_, rfl⟩
 rw [hx] at c1
 rw [hy] at c2
 rw [hz] at c3
 obtain ⟨g0, hg⟩ : ∃ g0, guessV x y z = g0 := ⟨_, rfl⟩
 have HG := hide hg
 have HGE := hide (guess_ge p q n g0 hp hq wp h1 h2 h3 (by rw [hx, hy, hz]; exact hg) hlt)
 have bx : x < 18446744073709551616 := by rw [← hx]; exact w64_get wp _ h1
 have b_y : y < 18446744073709551616 := by rw [← hy]; exact w64_get wp _ h2
 have bz : z < 18446744073709551616 := by rw [← hz]; exact w64_get wq _ h3
 have bg := HGE.out.2
 have HP := hide hP
 have Hp := hide hp
 have Hq := hide hq
 have HA := hide hA
 have HB := hide hB
 have hw1 : IntKind.i64.wrap ((n : Int) + 1 - 1) = (n : Int) := by rw [IntKind.wrap_i64]; omega
 have hw2 : (n : Int) + 1 - 1 = (n : Int) := by omega
 have hI1 : (n : Int) + 1 < (n : Int) + 1 + 1 := by omega
 have hI2 : (n : Int) < (n : Int) + 1 + 1 := by omega
 have hI3 : (n : Int) < (n : Int) + 1 := by omega
 obtain ⟨M, hM⟩ : ∃ M, 18446744073709551616 ^ (n + 1 + 1) = M := ⟨_, rfl⟩
 have HM := hide hM
 clear hP hp hq hA hB hx hy hz hg h1 h2 h3 hlt hM
 go_enter Try.func99, Try.ntmps99
 go_wp2_with fail
 go_quiet ((go_at_call 103; exact Calls.quiet_of (p_guessq x y z g0 _ b_y bz HG)))
 have HE := hide (ext_drewN w nq)
 go_wp2_with (go_at_call 104; refine (p_subProduct g o (n + 1) ca gb ob cb g0 T P p Q q _ (HA.out.ext HE.out) HP.out Hp.out Hq.out (HB.out.ext HE.out) hne (by omega) wp wq bg).mono ?_; rintro e' w'' ⟨b, os, rfl, hb, hl, wo, hv, hA2, hU2⟩; rw [HM.out] at hv; have HU := hide ((HE.out.upd g).trans hU2); have HA2 := hide hA2; have HV := hide hv; have HL := hide hl; clear hU2 hA2 hv hl)
 go_loopw [6, 7] (fun s t wr => ∃ (d b : Nat) (os : List Nat), s = .int .u64 d ∧ t = .int .u64 b ∧ b ≤ 1 ∧ d < 18446744073709551616 ∧ Hid (TakeRel (val p) (val q) M os d b) ∧ Hid (os.length = n + 1 + 1) ∧ W64 os ∧ Hid (Arr wr g T (P ++ os ++ Q)) ∧ Upd g w wr) (fun s _ _ => (intOf s).toNat)
 case atStart => exact ⟨g0, b, os, rfl, rfl, hb, bg, ⟨hb, HV.out, HGE.out.1⟩, HL, wo, HA2, HU.out⟩
 case round =>
   clear hb wo HU HA2 HV HL
   obtain ⟨d, b, os, rfl, rfl, hb, hd, HR, HL, wo, HA2, hU⟩ := hrel
   rcases (by omega : b = 0 ∨ b = 1) with rfl | rfl
   · have HD := hide HR.out.done
     go_wp2_with fail
     go_ret
     exact ⟨d, os, rfl, HD.out.2, hd, HL.out, wo, HD.out.1, HA2.out, hU⟩
   · obtain ⟨d', hd'⟩ : ∃ d', d = d' + 1 ∨ d = 0 ∧ d' = 0 := ⟨d - 1, by omega⟩
     have hM : val os < M := by
       have := val_lt os wo; rw [HL.out, HM.out] at this; exact this
     have hstep := fun c os2 h1 h2 => HR.out.step (c := c) (os2 := os2) hM h1 h2
     have HST := hide hstep
     have hpos : 0 < d := (hstep 0 [val os + val q] (by omega) (by simp [val])).1
     have hdd : d = d' + 1 := by omega
     have hw1' : IntKind.u64.wrap ((d : Int) - 1) = (d' : Int) := by rw [wrap_u64']; omega
     have hw2' : (d : Int) - 1 = (d' : Int) := by omega
     have HDD := hide hdd
     have hdlt : d' < d := by omega
     have HU := hide hU
     have HAR := hide ((HB.out.ext HE.out))
     clear hdd hd' hstep hM hU
     go_wp2_with (go_at_call 95; refine (p_addTo g o (n + 1 + 1) ca gb ob (n + 1) cb T P os Q q _ HA2.out HP.out HL.out Hq.out (HB.out.upd HU.out hne) hne (by omega) (by omega) wo wq).mono ?_; rintro e' w3 ⟨c2, os2, rfl, hc2, hl2, wo2, hv2, hA3, hU3⟩; rw [HM.out] at hv2; have HST2 := hide (HST.out c2 os2 hc2 hv2).2; have HA3 := hide hA3; have HU4 := hide (HU.out.trans hU3); have HL2 := hide hl2; have hw3 : IntKind.u64.wrap (1 - (c2 : Int)) = ((1 - c2 : Nat) : Int) := (by rw [wrap_u64']; omega); have hw4 : (1 : Int) - (c2 : Int) = ((1 - c2 : Nat) : Int) := (by omega); clear hA3 hU3 hv2 hl2)
     exact ⟨⟨d', 1 - c2, os2, rfl, rfl, by omega, by omega, by have := HST2.out; rw [show d' = d - 1 from by have := HDD.out; omega]; exact this, HL2.out, wo2, HA3, HU4.out⟩, by simp [intOf]; omega⟩
open Go Go.RowKit
def TwoWords (q r : Nat) (w : World) (e : Ending) (w' : World) : Prop := ∃ a b c d e' f g h : Nat, e = .returned (.tuple #[.agg #[.int .u64 (a : Int), .int .u64 (b : Int), .int .u64 (c : Int), .int .u64 (d : Int)], .agg #[.int .u64 (e' : Int), .int .u64 (f : Int), .int .u64 (g : Int), .int .u64 (h : Int)]]) ∧ W64 [a, b, c, d] ∧ W64 [e', f, g, h] ∧ mag4 a b c d = q ∧ mag4 e' f g h = r ∧ Ext w w'
theorem four_words (w : World) (a b c d e f g h : Nat) : ∃ W, ((((w.alloc (.cells #[.int .u64 (a : Int), .int .u64 (b : Int), .int .u64 (c : Int), .int .u64 (d : Int)] 107)).alloc (.cells #[.int .u64 (e : Int), .int .u64 (f : Int), .int .u64 (g : Int), .int .u64 (h : Int)] 107)).alloc (.cells #[.int .u64 0, .int .u64 0, .int .u64 0, .int .u64 0] 107)).alloc (.cells #[.int .u64 0, .int .u64 0, .int .u64 0, .int .u64 0] 107)) = W ∧
   Arr W w.heap.size 107 [a, b, c, d] ∧ Arr W (w.heap.size + 1) 107 [e, f, g, h] ∧ Arr W (w.heap.size + 1 + 1) 107 [0, 0, 0, 0] ∧ Arr W (w.heap.size + 1 + 1 + 1) 107 [0, 0, 0, 0] ∧ Ext w W := by
 have h := four_new w (.cells #[.int .u64 (a : Int), .int .u64 (b : Int), .int .u64 (c : Int), .int .u64 (d : Int)] 107) (.cells #[.int .u64 (e : Int), .int .u64 (f : Int), .int .u64 (g : Int), .int .u64 (h : Int)] 107) (.cells #[.int .u64 0, .int .u64 0, .int .u64 0, .int .u64 0] 107) (.cells #[.int .u64 0, .int .u64 0, .int .u64 0, .int .u64 0] 107)
 exact ⟨_, rfl, h.1, h.2.1, h.2.2.1, h.2.2.2, (((ext_alloc _ _).trans (ext_alloc _ _)).trans (ext_alloc _ _)).trans (ext_alloc _ _)⟩
set_option maxHeartbeats 2000000 in
theorem p_divWords_lt (a b c d e f g h n m : Nat) (hn : mag4 a b c d = n) (hm : mag4 e f g h = m) (w : World) (hw : W64 [a, b, c, d]) (hw' : W64 [e, f, g, h]) (hlt : n < m) :
   Calls Try.prog 88 #[.agg #[.int .u64 (a : Int), .int .u64 (b : Int), .int .u64 (c : Int), .int .u64 (d : Int)], .agg #[.int .u64 (e : Int), .int .u64 (f : Int), .int .u64 (g : Int), .int .u64 (h : Int)]] w (TwoWords (n / m) (n % m) w) := by
 obtain ⟨W, hW, A0, A1, A2, A3, E0⟩ := four_words w a b c d e f g h
 have HW := hide hW
 have HS : Hid (sgnN n m = -1) := if_pos hlt
 have HQ : Hid (mag4 0 0 0 0 = n / m ∧ mag4 a b c d = n % m) := ⟨by rw [Nat.div_eq_of_lt hlt]; rfl, by rw [Nat.mod_eq_of_lt hlt]; exact hn⟩
 have HN := hide hn
 have HM := hide hm
 obtain ⟨c0, c1, c2, c3, f0, f1, f2, f3⟩ := A0.four
 obtain ⟨d0, d1, d2, d3, g0, g1, g2, g3⟩ := A1.four
 clear hW hn hm hlt
 go_enter Try.func88, Try.ntmps88
 go_upto_region 1 with fail
 rw [HW.out]
 clear HW
 go_wp2_with (go_at_call 83; refine (p_cmpWords a b c d e f g h n m HN.out HM.out _ hw hw').mono ?_; rintro e' w' ⟨rfl, hE⟩; rw [HS.out]; have R0 := A0.ext hE; have R2 := A2.ext hE; have R3 := A3.ext hE; obtain ⟨c0, c1, c2, c3, f0, f1, f2, f3⟩ := R0.four; obtain ⟨i0, i1, i2, i3, j0, j1, j2, j3⟩ := R2.four; obtain ⟨k0, k1, k2, k3, l0, l1, l2, l3⟩ := R3.four; have E1 := E0.trans hE; clear hE)
 go_region
 all_goals go_wp2_with fail
 all_goals exact bodyPost_ret (v := .tuple #[.agg #[.int .u64 0, .int .u64 0, .int .u64 0, .int .u64 0], .agg #[.int .u64 (a : Int), .int .u64 (b : Int), .int .u64 (c : Int), .int .u64 (d : Int)]]) (by simp [results, Try.results88, go_sem, i0, i1, i2, i3, k0, k1, k2, k3]) rfl ⟨0, 0, 0, 0, a, b, c, d, rfl, (by intro x hx; simp at hx; omega), hw, HQ.out.1, HQ.out.2, (ext_four (ext_four E1 (by omega) _ _ _ _) (by omega) _ _ _ _).trans (ext_drew _)⟩
set_option maxHeartbeats 2000000 in
theorem p_divWords_one (a b c d e f g h n m : Nat) (hn : mag4 a b c d = n) (hm : mag4 e f g h = m) (w : World) (hw : W64 [a, b, c, d]) (hw' : W64 [e, f, g, h]) (hlt : ¬ n < m) (hlen : (limbs m).length = 1) :
   Calls Try.prog 88 #[.agg #[.int .u64 (a : Int), .int .u64 (b : Int), .int .u64 (c : Int), .int .u64 (d : Int)], .agg #[.int .u64 (e : Int), .int .u64 (f : Int), .int .u64 (g : Int), .int .u64 (h : Int)]] w (TwoWords (n / m) (n % m) w) := by
 obtain ⟨W, hW, A0, A1, A2, A3, E0⟩ := four_words w a b c d e f g h
 have hml : m < 18446744073709551616 := by have := (limbs_len_le (n := m) (k := 1)).1 (by omega); simpa using this
 have hem : e = m := by simp only [mag4, val] at hm; omega
 have he := (w64_four hw').1
 have hm0 : 0 < e := by
   rcases Nat.eq_zero_or_pos m with h0 | h0
   · rw [h0, limbs_zero] at hlen; simp at hlen
   · omega
 have HEM := hide hem
 have h01 : (0 : Int) ≤ sgnN n m := by unfold sgnN; rw [if_neg hlt]; split <;> omega
 obtain ⟨q, hq⟩ : ∃ q, sgnN n m = q := ⟨_, rfl⟩
 rw [hq] at h01
 have HS := hide hq
 have HLN := hide hlen
 have HW := hide hW
 have HN := hide hn
 have HM := hide hm
 obtain ⟨c0, c1, c2, c3, f0, f1, f2, f3⟩ := A0.four
 obtain ⟨d0, d1, d2, d3, g0, g1, g2, g3⟩ := A1.four
 clear hW hn hm hem hlt hq hlen hml
 go_enter Try.func88, Try.ntmps88
 go_upto_region 1 with fail
 rw [HW.out]
 clear HW
 go_wp2_with (first
   | (go_at_call 83; refine (p_cmpWords a b c d e f g h n m HN.out HM.out _ hw hw').mono ?_; rintro e' w' ⟨rfl, hE⟩; rw [HS.out]; have R0 := A0.ext hE; have R1 := A1.ext hE; have R2 := A2.ext hE; have R3 := A3.ext hE; obtain ⟨c0, c1, c2, c3, f0, f1, f2, f3⟩ := R0.four; obtain ⟨d0, d1, d2, d3, g0, g1, g2, g3⟩ := R1.four; have E1 := E0.trans hE; clear hE)
   | (go_at_call 96; refine (p_length e f g h m HM.out _ hw').mono ?_; rintro e' w' ⟨rfl, hE⟩; rw [HLN.out]; have R0 := R0.ext hE; have R1 := R1.ext hE; have R2 := R2.ext hE; have R3 := R3.ext hE; obtain ⟨c0, c1, c2, c3, f0, f1, f2, f3⟩ := R0.four; obtain ⟨d0, d1, d2, d3, g0, g1, g2, g3⟩ := R1.four; have E1 := E1.trans hE; clear hE)
   | (go_at_call 97; refine (p_divWord a b c d n e HN.out _ hw hm0 he).mono ?_; rintro e' w' ⟨a1, b1, c1', d1', r, rfl, hw1, hq, hr, hE⟩; rw [HEM.out] at hq hr; have HQ := hide hq; have HR := hide hr; have R2 := R2.ext hE; have R3 := R3.ext hE; obtain ⟨i0, i1, i2, i3, j0, j1, j2, j3⟩ := R2.four; obtain ⟨k0, k1, k2, k3, l0, l1, l2, l3⟩ := R3.four; have E1 := E1.trans hE; have y2 := R2.lt; have y3 := R3.lt; clear hE hq hr))
 all_goals exact bodyPost_ret (v := .tuple #[.agg #[.int .u64 (a1 : Int), .int .u64 (b1 : Int), .int .u64 (c1' : Int), .int .u64 (d1' : Int)], .agg #[.int .u64 (r : Int), .int .u64 0, .int .u64 0, .int .u64 0]]) (by simp [results, Try.results88, go_sem, i0, i1, i2, i3, k0, k1, k2, k3, y2, y3]) rfl ⟨a1, b1, c1', d1', r, 0, 0, 0, rfl, hw1, (by have := HR.out; have := Nat.mod_lt n (show 0 < m by rw [← HEM.out]; exact hm0); have := HEM.out; intro x hx; simp at hx; omega), HQ.out, (by have := HR.out; simp [mag4, val]; exact this), (ext_four (ext_four E1 (by omega) _ _ _ _) (by omega) _ _ _ _).trans (ext_alloc _ _)⟩
open Go Go.RowKit
def LongRel (N D : Nat) (R Q : List Nat) (j : Nat) : Prop := R.length = 5 ∧ Q.length = 4 ∧ val Q * D + val R = N ∧ val (R.drop j) < D ∧ Q.take j = List.replicate j 0
theorem val_set_zero (Q : List Nat) (i d : Nat) (hi : i < Q.length) (h0 : Q[i] = 0) : val (Q.set i d) = val Q + 18446744073709551616 ^ i * d := by
 have e1 := val_append (Q.take i) (Q.drop i)
 have e2 := val_append (Q.take i) (d :: Q.drop (i + 1))
 rw [List.take_append_drop] at e1
 have e3 : Q.set i d = Q.take i ++ d :: Q.drop (i + 1) := List.set_eq_take_append_cons_drop.trans (if_pos hi)
 rw [e3, e2, e1, List.drop_eq_getElem_cons hi, h0, val, val, List.length_take, Nat.min_eq_left (by omega), Nat.mul_add, Nat.mul_add]
 omega
theorem seg_zero (D K x y z : Nat) (h : x = y + K * z) (hx : x < D) (hK : D ≤ K) : z = 0 := by
 rcases Nat.eq_zero_or_pos z with h0 | h0
 · exact h0
 · exfalso
   have h1 : K ≤ K * z := Nat.le_mul_of_pos_right K h0
   omega
theorem seg_lt (D a x r : Nat) (ha : a < 18446744073709551616) (hx : x < D) (hr : r = a + 18446744073709551616 * x) : r < D * 18446744073709551616 := by omega
theorem long_seg {N D K : Nat} {R Q : List Nat} {i k : Nat} (h : LongRel N D R Q (i + 1)) (hk : i + k + 1 ≤ 5) (hK : 18446744073709551616 ^ k = K) (hD : D ≤ K) (wR : W64 R) :
   val ((R.drop i).take (k + 1)) = val (R.drop i) ∧ val (R.drop i) < D * 18446744073709551616 ∧ val (R.drop (i + k + 1)) = 0 := by
 obtain ⟨h1, h2, h3, h4, h5⟩ := h
 have hi : i < R.length := by omega
 have e1 := val_drop R i hi
 have e2 := val_take_drop (R.drop (i + 1)) k (by simp; omega)
 rw [List.drop_drop, hK] at e2
 have hz : val (R.drop (i + 1 + k)) = 0 := seg_zero D K _ _ _ e2 h4 hD
 rw [show i + k + 1 = i + 1 + k by omega]
 refine ⟨?_, seg_lt D _ _ _ (w64_get wR i hi) h4 e1, hz⟩
 have e3 := val_take_drop (R.drop i) (k + 1) (by simp; omega)
 rw [List.drop_drop, show i + (k + 1) = i + 1 + k by omega, hz, Nat.mul_zero, Nat.add_zero] at e3
 exact e3.symm
theorem zeros_at (Q : List Nat) (i : Nat) (h : Q.take (i + 1) = List.replicate (i + 1) 0) (hi : i < Q.length) : Q[i] = 0 := by
 have := congrArg (fun l => l[i]?) h
 simp only [List.getElem?_take, Nat.lt_succ_self, if_true] at this
 rw [List.getElem?_eq_getElem hi, List.getElem?_replicate, if_pos (Nat.lt_succ_self i)] at this
 exact Option.some.inj this
theorem long_arith (N D K vq vr a p q r d : Nat) (h3 : vq * D + vr = N) (e : vr = a + K * p) (hp : p = d * D + r) (hq : q = vq + K * d) : q * D + (a + K * r) = N := by
 subst hq
 have h1 : K * p = K * (d * D) + K * r := by rw [hp, Nat.mul_add]
 rw [Nat.add_mul, Nat.mul_assoc]
 omega
theorem long_step {N D K : Nat} {R Q os : List Nat} {i k d : Nat} (h : LongRel N D R Q (i + 1)) (hk : i + k + 1 ≤ 5) (hk2 : 2 ≤ k) (hK : 18446744073709551616 ^ k = K) (hD : D ≤ K) (hD0 : 0 < D) (wR : W64 R) (ho : os.length = k + 1) (hv : val os = val ((R.drop i).take (k + 1)) % D) (hd : d = val ((R.drop i).take (k + 1)) / D) :
   LongRel N D (R.take i ++ os ++ R.drop (i + k + 1)) (Q.set i d) i := by
 obtain ⟨s1, s2, s3⟩ := long_seg h hk hK hD wR
 obtain ⟨h1, h2, h3, h4, h5⟩ := h
 rw [s1] at hv hd
 have hT : (R.take i).length = i := by simp; omega
 have e1 := val_take_drop R i (by omega)
 have hQ : i < Q.length := by omega
 have e4 := val_set_zero Q i d hQ (zeros_at Q i h5 hQ)
 have e5 : val (R.take i ++ os ++ R.drop (i + k + 1)) = val (R.take i) + 18446744073709551616 ^ i * val os := by
   rw [val_append, val_append, s3, hT, Nat.mul_zero, Nat.add_zero]
 refine ⟨by simp [hT, ho]; omega, by simpa using h2, ?_, ?_, ?_⟩
 · rw [e5]
   have hm := Nat.div_add_mod (val (R.drop i)) D
   rw [← hd, ← hv, Nat.mul_comm] at hm
   exact long_arith N D (18446744073709551616 ^ i) _ _ _ _ _ _ d h3 e1 hm.symm e4
 · rw [List.append_assoc, List.drop_append_of_le_length (by omega), List.drop_of_length_le (by omega), List.nil_append, val_append, s3, Nat.mul_zero, Nat.add_zero, hv]
   exact Nat.mod_lt _ hD0
 · rw [List.take_set_of_le (Nat.le_refl _)]
   have := congrArg (List.take i) h5
   rw [List.take_take, Nat.min_eq_left (by omega), List.take_replicate, Nat.min_eq_left (by omega)] at this
   exact this
theorem long_done {n m s : Nat} {R Q : List Nat} (h : LongRel (n * 2 ^ s) (m * 2 ^ s) R Q 0) : val Q = n / m ∧ val R / 2 ^ s = n % m ∧ val R < m * 2 ^ s := by
 obtain ⟨h1, h2, h3, h4, h5⟩ := h
 rw [List.drop_zero] at h4
 have ps := Nat.two_pow_pos s
 have hd : 2 ^ s ∣ val R := by
   have h7 : 2 ^ s ∣ val Q * (m * 2 ^ s) + val R := by rw [h3]; exact Nat.dvd_mul_left _ _
   exact (Nat.dvd_add_right (by rw [← Nat.mul_assoc]; exact Nat.dvd_mul_left _ _)).1 h7
 have hR := Nat.div_mul_cancel hd
 have hlt : val R / 2 ^ s < m := by rw [Nat.div_lt_iff_lt_mul ps]; exact h4
 have hX : n = val Q * m + val R / 2 ^ s := by
   have h8 : n * 2 ^ s = (val Q * m + val R / 2 ^ s) * 2 ^ s := by rw [Nat.add_mul (val Q * m), hR, Nat.mul_assoc]; exact h3.symm
   exact Nat.eq_of_mul_eq_mul_right ps h8
 have hm : 0 < m := Nat.lt_of_le_of_lt (Nat.zero_le _) hlt
 refine ⟨?_, ?_, h4⟩
 · rw [hX, Nat.mul_comm, Nat.mul_add_div hm, Nat.div_eq_of_lt hlt, Nat.add_zero]
 · conv => rhs; rw [hX, Nat.mul_comm, Nat.mul_add_mod, Nat.mod_eq_of_lt hlt]
theorem top_arith (m lo K t s : Nat) (hs : s < 64) (hm : m = lo + K * t) (hlo : lo < K) (ht : t * 2 ^ s < 18446744073709551616) : m * 2 ^ s < K * 18446744073709551616 := by
 have hp := two64 s (by omega)
 have ps := Nat.two_pow_pos s
 have h1 : t < 2 ^ (64 - s) := by
   rw [hp, Nat.mul_comm] at ht
   exact Nat.lt_of_mul_lt_mul_left ht
 have h2 : m < K * (t + 1) := by rw [Nat.mul_add, Nat.mul_one]; omega
 have h3 : m * 2 ^ s < K * (t + 1) * 2 ^ s := Nat.mul_lt_mul_of_pos_right h2 ps
 have h4 : K * (t + 1) * 2 ^ s ≤ K * 2 ^ (64 - s) * 2 ^ s := Nat.mul_le_mul_right _ (Nat.mul_le_mul_left _ h1)
 rw [Nat.mul_assoc K (2 ^ (64 - s)), Nat.mul_comm (2 ^ (64 - s)), ← hp] at h4
 exact Nat.lt_of_lt_of_le h3 h4
theorem top_word (M : List Nat) (m k : Nat) (hM : M.length = 4) (wM : W64 M) (hv : val M = m) (hk : (limbs m).length = k + 1) (hk4 : k < M.length) :
   1 ≤ M[k] ∧ 18446744073709551616 ^ k ≤ m ∧ ∀ s, s < 64 → M[k] * 2 ^ s < 18446744073709551616 → m * 2 ^ s < 18446744073709551616 ^ (k + 1) := by
 have h1 := (limbs_len_le (n := m) (k := k + 1)).1 (by omega)
 have h2 : ¬ m < 18446744073709551616 ^ k := fun e => by have := limbs_len_le.2 e; omega
 have e1 := val_take_drop M (k + 1) (by omega)
 have e2 := val_take_succ M k hk4
 have h3 := val_lt (M.take k) (w64_take wM k)
 rw [List.length_take, Nat.min_eq_left (by omega)] at h3
 rw [hv] at e1
 rw [Nat.pow_succ] at h1 e1
 rw [Nat.pow_succ]
 generalize 18446744073709551616 ^ k = K at *
 have hz : val (M.drop (k + 1)) = 0 := seg_zero (K * 18446744073709551616) (K * 18446744073709551616) m _ _ e1 h1 (Nat.le_refl _)
 rw [hz, Nat.mul_zero, Nat.add_zero, e2] at e1
 refine ⟨?_, by omega, fun s hs ht => top_arith m _ K M[k] s hs e1 h3 ht⟩
 rcases Nat.eq_zero_or_pos M[k] with h | h
 · rw [h, Nat.mul_zero, Nat.add_zero] at e1; omega
 · exact h
theorem up_take (U : List Nat) (r D k : Nat) (hU : U.length = 4) (hk : k ≤ 4) (hv : val U + 115792089237316195423570985008687907853269984665640564039457584007913129639936 * r = D) (hD : D < 18446744073709551616 ^ k) : val (U.take k) = D := by
 have h4 : (18446744073709551616 : Nat) ^ k ≤ 115792089237316195423570985008687907853269984665640564039457584007913129639936 := by rw [← p4]; exact Nat.pow_le_pow_right (by omega) hk
 have e1 := val_take_drop U k (by omega)
 generalize 18446744073709551616 ^ k = K at *
 have hr : r = 0 := by omega
 subst hr
 rw [Nat.mul_zero, Nat.add_zero] at hv
 rw [hv] at e1
 have hz := seg_zero K K D _ _ e1 hD (Nat.le_refl _)
 rw [hz, Nat.mul_zero, Nat.add_zero] at e1
 exact e1.symm
theorem long_init (L : List Nat) (over n m s k : Nat) (hL : L.length = 4) (hv : val L + 115792089237316195423570985008687907853269984665640564039457584007913129639936 * over = n * 2 ^ s) (hn : n < 115792089237316195423570985008687907853269984665640564039457584007913129639936) (hk : k + 1 ≤ 4) (hm : 18446744073709551616 ^ k ≤ m) :
   LongRel (n * 2 ^ s) (m * 2 ^ s) (L ++ [over]) [0, 0, 0, 0] (4 - k) := by
 have ps := Nat.two_pow_pos s
 have e0 : val (L ++ [over]) = n * 2 ^ s := by rw [val_snoc, hL, p4]; exact hv
 have e1 := val_take_drop (L ++ [over]) (4 - k) (by simp [hL]; omega)
 rw [e0] at e1
 refine ⟨by simp [hL], rfl, by simp [val]; rw [val_snoc, hL, p4]; exact hv, ?_, ?_⟩
 · have hp : (115792089237316195423570985008687907853269984665640564039457584007913129639936 : Nat) = 18446744073709551616 ^ (4 - k) * 18446744073709551616 ^ k := by rw [← Nat.pow_add, show 4 - k + k = 4 by omega, p4]
   have h1 : n * 2 ^ s < 115792089237316195423570985008687907853269984665640564039457584007913129639936 * 2 ^ s := Nat.mul_lt_mul_of_pos_right hn ps
   rw [hp, Nat.mul_assoc] at h1
   have h2 : 18446744073709551616 ^ k * 2 ^ s ≤ m * 2 ^ s := Nat.mul_le_mul_right _ hm
   have h3 : 18446744073709551616 ^ (4 - k) * val ((L ++ [over]).drop (4 - k)) < 18446744073709551616 ^ (4 - k) * (18446744073709551616 ^ k * 2 ^ s) := Nat.lt_of_le_of_lt (by rw [e1]; exact Nat.le_add_left _ _) h1
   exact Nat.lt_of_lt_of_le (Nat.lt_of_mul_lt_mul_left h3) h2
 · have : 4 - k = 0 ∨ 4 - k = 1 ∨ 4 - k = 2 ∨ 4 - k = 3 ∨ 4 - k = 4 := by omega
   rcases this with h | h | h | h | h <;> rw [h] <;> rfl
end
section
open Go Go.RowKit
theorem slHead (T n g : Nat) (h : Int) (m : Nat) (hm : h = ((m : Nat) : Int)) (hT : Try.prog.underlying T = some (.array (Try.prog.arrayLen T) (Try.prog.elem T))) (hn : Try.prog.arrayLen T = n) (he : Try.prog.elem T = 22) (h2 : m ≤ n) (h3 : 0 < n) (w : World) :
   (Instr.sliceAt T (.pointer (some ⟨g, 0, none⟩)) none (some (.int .i64 h)) none).run Try.prog w = .ok (.slice (some ⟨g, 0, none⟩) m n) w := by
 subst hm
 rw [run_sliceAt_array_h w T ⟨g, 0, none⟩ hT .i64 (m : Int) (by omega) (by rw [hn]; omega), he, Try.sizeOf22, hn]
 simp only [Result.andThen_ok, slicedAt, Int.toNat_natCast, Nat.mul_one, Nat.sub_zero]
 rw [if_neg (by omega)]
 simp [Addr.add]
theorem five_list {L : List Nat} (h : L.length = 5) : ∃ a b c d e, L = [a, b, c, d, e] := by
 match L, h with
 | [a, b, c, d, e], _ => exact ⟨a, b, c, d, e, rfl⟩
theorem five_top {a b c d e : Nat} (h : val [a, b, c, d, e] < 115792089237316195423570985008687907853269984665640564039457584007913129639936) : mag4 a b c d = val [a, b, c, d, e] := by
 simp only [mag4, val] at h ⊢; omega
theorem copy4 (w : World) (g b : Nat) (v0 v1 v2 v3 : Nat) (hg : Arr w g 128 [0, 0, 0, 0, 0]) (hb : Arr w b 107 [v0, v1, v2, v3]) :
   (Builtin.copy_ #[68, 68] 3 #[.slice (some ⟨g, 0, none⟩) 5 5, .slice (some ⟨b, 0, none⟩) 4 4]).run Try.prog w = .ok (.int .i64 4) ((((w.setCell ⟨g, 0, none⟩ (.int .u64 (v0 : Int))).setCell ⟨g, 1, none⟩ (.int .u64 (v1 : Int))).setCell ⟨g, 2, none⟩ (.int .u64 (v2 : Int))).setCell ⟨g, 3, none⟩ (.int .u64 (v3 : Int))) := by
 have h := run_copy_cells (P := Try.prog) w 68 68 3 22 g 0 5 5 ⟨b, 0, none⟩ 4 4 [.int .u64 (v0 : Int), .int .u64 (v1 : Int), .int .u64 (v2 : Int), .int .u64 (v3 : Int)] Try.underlying68 (by kernel_rfl) rfl
   (fun j v hj => by
     have hj4 : j < 4 := by have := (List.getElem?_eq_some_iff.1 hj).1; simpa using this
     have : j = 0 ∨ j = 1 ∨ j = 2 ∨ j = 3 := by omega
     obtain ⟨i0, i1, i2, i3, _, _, _, _⟩ := hb.four
     rcases this with rfl | rfl | rfl | rfl <;> (simp at hj; subst hj; simpa [Addr.add] using by assumption))
   (fun j hj => by
     simp at hj
     have := hg.at (0 + j) (by simp; omega)
     rw [this]; rfl)
   (fun j _ => hg.free _) (fun v hv => by simp at hv; rcases hv with rfl | rfl | rfl | rfl <;> rfl)
 simpa [World.setCells, goInt] using h
set_option maxRecDepth 100000 in
set_option maxHeartbeats 4000000 in
theorem p_divWords_many (a b c d e f g h n m k : Nat) (hn : mag4 a b c d = n) (hm : mag4 e f g h = m) (w : World) (hw : W64 [a, b, c, d]) (hw' : W64 [e, f, g, h]) (hlt : ¬ n < m) (hlen : (limbs m).length = k + 1) (hk0 : 1 ≤ k) (hk3 : k ≤ 3) :
   Calls Try.prog 88 #[.agg #[.int .u64 (a : Int), .int .u64 (b : Int), .int .u64 (c : Int), .int .u64 (d : Int)], .agg #[.int .u64 (e : Int), .int .u64 (f : Int), .int .u64 (g : Int), .int .u64 (h : Int)]] w (TwoWords (n / m) (n % m) w) := by
 obtain ⟨W, hW, A0, A1, A2, A3, E0⟩ := four_words w a b c d e f g h
 have h01 : (0 : Int) ≤ sgnN n m := by unfold sgnN; rw [if_neg hlt]; split <;> omega
 obtain ⟨q, hq⟩ : ∃ q, sgnN n m = q := ⟨_, rfl⟩
 rw [hq] at h01
 have HS := hide hq
 have hkM : k < [e, f, g, h].length := by simp; omega
 have HTW := hide (top_word [e, f, g, h] m k rfl hw' hm hlen hkM)
 obtain ⟨t, ht⟩ : ∃ t, [e, f, g, h][k] = t := ⟨_, rfl⟩
 have HT := hide ht
 have bt : t < 18446744073709551616 := by rw [← ht]; exact w64_get hw' k hkM
 have bt0 : 0 < t := by have := HTW.out.1; rw [ht] at this; omega
 have HLN : Hid (((limbs m).length : Int) = (k : Int) + 1) := by unfold Hid; rw [hlen]; omega
 have hk1 : (((k : Int) + 1) == 1) = false := by simp; omega
 have hw1 : IntKind.i64.wrap ((k : Int) + 1 - 1) = (k : Int) := by rw [IntKind.wrap_i64]; omega
 have hw2 : (k : Int) + 1 - 1 = (k : Int) := by omega
 have hw3 : IntKind.i64.wrap (4 - ((k : Int) + 1)) = 4 - ((k : Int) + 1) := by rw [IntKind.wrap_i64]; omega
 have hsl := fun g => slHead 107 4 g ((k : Int) + 1) (k + 1) (by omega) (by kernel_rfl) (by kernel_rfl) (by kernel_rfl) (by omega) (by omega)
 have HW := hide hW
 have HN := hide hn
 have HM := hide hm
 obtain ⟨c0, c1, c2, c3, f0, f1, f2, f3⟩ := A0.four
 obtain ⟨d0, d1, d2, d3, g0, g1, g2, g3⟩ := A1.four
 clear hW hn hm hlt hq hlen ht
 go_enter Try.func88, Try.ntmps88
 go_upto_region 1 with fail
 rw [HW.out]
 clear HW
 go_wp2_with (first
   | (go_at_call 83; refine (p_cmpWords a b c d e f g h n m HN.out HM.out _ hw hw').mono ?_; rintro e' w' ⟨rfl, hE⟩; rw [HS.out]; have R0 := A0.ext hE; have R1 := A1.ext hE; have R2 := A2.ext hE; have R3 := A3.ext hE; obtain ⟨c0, c1, c2, c3, f0, f1, f2, f3⟩ := R0.four; obtain ⟨d0, d1, d2, d3, g0, g1, g2, g3⟩ := R1.four; have E1 := E0.trans hE; clear hE)
   | (go_at_call 96; refine (p_length e f g h m HM.out _ hw').mono ?_; rintro e' w' ⟨rfl, hE⟩; rw [HLN.out]; have R0 := R0.ext hE; have R1 := R1.ext hE; have R2 := R2.ext hE; have R3 := R3.ext hE; obtain ⟨c0, c1, c2, c3, f0, f1, f2, f3⟩ := R0.four; obtain ⟨d0, d1, d2, d3, g0, g1, g2, g3⟩ := R1.four; have ck := R1.at k hkM; rw [HT.out] at ck; have E1 := E1.trans hE; clear hE)
   | (go_at_call 74; refine (b_lz t _ bt bt0).mono ?_; rintro e w' ⟨s, rfl, k1, k2, k3, rfl⟩; have HDB := hide (HTW.out.2.2 s k1 (by rw [HT.out]; exact k2)); clear k2 k3)
   | (go_at_call_of 98 (Value.agg #[Value.int IntKind.u64 (e : Int), Value.int IntKind.u64 (f : Int), Value.int IntKind.u64 (g : Int), Value.int IntKind.u64 (h : Int)]); refine (p_shiftUp e f g h m s HM.out _ hw' k1).mono ?_; rintro e' w' ⟨u0, u1, u2, u3, r, rfl, wu, hu, hr, hE⟩; have HU := hide hu; have R0 := R0.ext hE; have R2 := R2.ext hE; have R3 := R3.ext hE; obtain ⟨c0, c1, c2, c3, f0, f1, f2, f3⟩ := R0.four; have l0 := R0.lt; have E1 := E1.trans hE; clear hE hu)
   | (go_at_call 98; refine (p_shiftUp a b c d n s HN.out _ hw k1).mono ?_; rintro e' w'' ⟨v0, v1, v2, v3, o, rfl, wv, hv, ho, hE⟩; have HV := hide hv; obtain ⟨bU, bR⟩ := two_kept hE; have AU : Arr w'' w'.heap.size 107 [u0, u1, u2, u3] := bU; have AR : Arr w'' (w'.heap.size + 1) 128 [0, 0, 0, 0, 0] := bR; have AQ := ((R2.ext (ext_alloc _ _)).ext (ext_alloc _ _)).ext hE; have AT := ((R3.ext (ext_alloc _ _)).ext (ext_alloc _ _)).ext hE; have E2 := ((E1.trans (ext_alloc _ _)).trans (ext_alloc _ _)).trans hE; have lU := R2.lt; have lT := R3.lt; clear hE hv bU bR))
 have hA4 := arr_new w'' 107 [v0, v1, v2, v3] #[.int .u64 (v0 : Int), .int .u64 (v1 : Int), .int .u64 (v2 : Int), .int .u64 (v3 : Int)] rfl
 have x1 := AU.ext (ext_alloc w'' (.cells #[.int .u64 (v0 : Int), .int .u64 (v1 : Int), .int .u64 (v2 : Int), .int .u64 (v3 : Int)] 107))
 have x2 := AR.ext (ext_alloc w'' (.cells #[.int .u64 (v0 : Int), .int .u64 (v1 : Int), .int .u64 (v2 : Int), .int .u64 (v3 : Int)] 107))
 have x3 := AQ.ext (ext_alloc w'' (.cells #[.int .u64 (v0 : Int), .int .u64 (v1 : Int), .int .u64 (v2 : Int), .int .u64 (v3 : Int)] 107))
 have x4 := AT.ext (ext_alloc w'' (.cells #[.int .u64 (v0 : Int), .int .u64 (v1 : Int), .int .u64 (v2 : Int), .int .u64 (v3 : Int)] 107))
 have x5 := E2.trans (ext_alloc w'' (.cells #[.int .u64 (v0 : Int), .int .u64 (v1 : Int), .int .u64 (v2 : Int), .int .u64 (v3 : Int)] 107))
 have lR := AR.lt
 generalize w''.alloc (.cells #[.int .u64 (v0 : Int), .int .u64 (v1 : Int), .int .u64 (v2 : Int), .int .u64 (v3 : Int)] 107) = W2 at *
 generalize w''.heap.size = gL at *
 have r0 := x2.at 0 (by simp)
 have r1 := x2.at 1 (by simp)
 have r2 := x2.at 2 (by simp)
 have r3 := x2.at 3 (by simp)
 have r4 := x2.at 4 (by simp)
 simp only [List.getElem_cons_zero, List.getElem_cons_succ] at r0 r1 r2 r3 r4
 have q0 := x2.free 0
 have q1 := x2.free 1
 have q2 := x2.free 2
 have q3 := x2.free 3
 have q4 := x2.free 4
 obtain ⟨i0, i1, i2, i3, j0, j1, j2, j3⟩ := hA4.four
 have hcp := copy4 W2.drew (w'.heap.size + 1) gL v0 v1 v2 v3 x2.drew hA4.drew
 have y2 := hide ((((x2.drew.set 0 v0).set 1 v1).set 2 v2).set 3 v3)
 have y1 := hide ((((x1.drew.far (b := w'.heap.size + 1) (by omega) 0 (.int .u64 (v0 : Int))).far (b := w'.heap.size + 1) (by omega) 1 (.int .u64 (v1 : Int))).far (b := w'.heap.size + 1) (by omega) 2 (.int .u64 (v2 : Int))).far (b := w'.heap.size + 1) (by omega) 3 (.int .u64 (v3 : Int)))
 have y3 := hide ((((x3.drew.far (b := w'.heap.size + 1) (by omega) 0 (.int .u64 (v0 : Int))).far (b := w'.heap.size + 1) (by omega) 1 (.int .u64 (v1 : Int))).far (b := w'.heap.size + 1) (by omega) 2 (.int .u64 (v2 : Int))).far (b := w'.heap.size + 1) (by omega) 3 (.int .u64 (v3 : Int)))
 have y4 := hide ((((x4.drew.far (b := w'.heap.size + 1) (by omega) 0 (.int .u64 (v0 : Int))).far (b := w'.heap.size + 1) (by omega) 1 (.int .u64 (v1 : Int))).far (b := w'.heap.size + 1) (by omega) 2 (.int .u64 (v2 : Int))).far (b := w'.heap.size + 1) (by omega) 3 (.int .u64 (v3 : Int)))
 have y5 := hide (ext_four (x5.trans (ext_drew _)) (b := w'.heap.size + 1) (by have := E1.size; omega) (.int .u64 (v0 : Int)) (.int .u64 (v1 : Int)) (.int .u64 (v2 : Int)) (.int .u64 (v3 : Int)))
 have HE1 := hide E1
 clear AU AR AQ AT E2
 go_cut [] (fun wx => Arr wx (w'.heap.size + 1) 128 [v0, v1, v2, v3, 0] ∧ Arr wx w'.heap.size 107 [u0, u1, u2, u3] ∧ Arr wx (w.heap.size + 1 + 1) 107 [0, 0, 0, 0] ∧ Arr wx (w.heap.size + 1 + 1 + 1) 107 [0, 0, 0, 0] ∧ Ext w wx)
 case first =>
   go_region
   all_goals go_wp2_with fail
   all_goals go_meet
   all_goals exact ⟨y2.out, y1.out, y3.out, y4.out, y5.out⟩
 case rest =>
   clear y1 y2 y3 y4 y5 x1 x2 x3 x4 x5 hA4 hcp
   obtain ⟨y2, y1, y3, y4, y5⟩ := hcut
   have r4 := y2.at 4 (by simp)
   have q4 := y2.free 4
   simp only [List.getElem_cons_zero, List.getElem_cons_succ] at r4
   have HI := hide (long_init [v0, v1, v2, v3] o n m s k rfl HV.out (by have := mag_lt (w64_four hw).1 (w64_four hw).2.1 (w64_four hw).2.2.1 (w64_four hw).2.2.2; rw [HN.out] at this; exact this) (by omega) HTW.out.2.1)
   have HUT := hide (up_take [u0, u1, u2, u3] r (m * 2 ^ s) (k + 1) rfl (by omega) HU.out HDB.out)
   have wo : o < 18446744073709551616 := Nat.lt_of_lt_of_le ho (Nat.le_trans (Nat.pow_le_pow_right (by omega) (Nat.le_of_lt k1)) (by decide))
   have wR0 : W64 [v0, v1, v2, v3, o] := by
     obtain ⟨b0, b1, b2, b3⟩ := w64_four wv
     intro x hx; simp at hx; omega
   have z2 := hide (y2.set 4 o)
   have z1 := hide (y1.far (b := w'.heap.size + 1) (by omega) 4 (.int .u64 (o : Int)))
   have z3 := hide (y3.far (b := w'.heap.size + 1) (by omega) 4 (.int .u64 (o : Int)))
   have z4 := hide (y4.far (b := w'.heap.size + 1) (by omega) 4 (.int .u64 (o : Int)))
   have z5 := hide (ext_set y5 (g := w'.heap.size + 1) (by have := HE1.out.size; omega) 4 (.int .u64 (o : Int)))
   have HDP : Hid (0 < m * 2 ^ s) := by
     have h1 := HTW.out.2.1
     have h2 : 0 < 18446744073709551616 ^ k := Nat.pow_pos (by omega)
     exact Nat.mul_pos (Nat.lt_of_lt_of_le h2 h1) (Nat.two_pow_pos s)
   have hsz := HE1.out.size
   obtain ⟨K, hK⟩ : ∃ K, 18446744073709551616 ^ (k + 1) = K := ⟨_, rfl⟩
   have HK := hide hK
   have HDK : Hid (m * 2 ^ s ≤ K) := by rw [← hK]; exact Nat.le_of_lt HDB.out
   have gne : w'.heap.size ≠ w'.heap.size + 1 := by omega
   clear hK y1 y2 y3 y4 y5
   go_wp2_with fail
   go_loopw [16] (fun i wr => ∃ (j : Nat) (R Q : List Nat), i = .int .i64 ((j : Int) - 1) ∧ j ≤ 4 - k ∧ Hid (LongRel (n * 2 ^ s) (m * 2 ^ s) R Q j) ∧ W64 R ∧ W64 Q ∧ Hid (Arr wr (w'.heap.size + 1) 128 R) ∧ Hid (Arr wr w'.heap.size 107 [u0, u1, u2, u3]) ∧ Hid (Arr wr (w.heap.size + 1 + 1) 107 Q) ∧ Hid (Arr wr (w.heap.size + 1 + 1 + 1) 107 [0, 0, 0, 0]) ∧ Ext w wr) (fun i _ => (intOf i + 1).toNat)
   case atStart => exact ⟨4 - k, [v0, v1, v2, v3, o], [0, 0, 0, 0], by go_num, by omega, HI.out, wR0, (by intro x hx; simp at hx; omega), z2, z1, z3, z4, z5.out⟩
   case round =>
     clear z1 z2 z3 z4 z5 r4 q4
     obtain ⟨j, R, Q, rfl, hj, HR, wR, wQ, z2, z1, z3, z4, hE⟩ := hrel
     by_cases hj0 : j = 0
     · subst hj0
       have HF := hide (long_done HR.out)
       obtain ⟨r0, r1, r2, r3, r5, rfl⟩ := five_list HR.out.1
       obtain ⟨q0', q1', q2', q3', rfl⟩ := four_list HR.out.2.1
       have wr4 : W64 [r0, r1, r2, r3] := fun x hx => wR x (by simp at hx ⊢; omega)
       have HR4 : Hid (mag4 r0 r1 r2 r3 = val [r0, r1, r2, r3, r5]) := by
         have h1 := HF.out.2.2
         have h2 := HDB.out
         have h3 : (18446744073709551616 : Nat) ^ (k + 1) ≤ 115792089237316195423570985008687907853269984665640564039457584007913129639936 := by rw [← p4]; exact Nat.pow_le_pow_right (by omega) (by omega)
         have h4 : val [r0, r1, r2, r3, r5] < 115792089237316195423570985008687907853269984665640564039457584007913129639936 := Nat.lt_of_lt_of_le (Nat.lt_trans h1 h2) h3
         exact five_top h4
       have x0 := z2.out.at 0 (by simp)
       have x1 := z2.out.at 1 (by simp)
       have x2 := z2.out.at 2 (by simp)
       have x3 := z2.out.at 3 (by simp)
       simp only [List.getElem_cons_zero, List.getElem_cons_succ] at x0 x1 x2 x3
       obtain ⟨i0, i1, i2, i3, j0, j1, j2, j3⟩ := z3.out.four
       obtain ⟨k0, kk1, kk2, kk3, l0, l1, l2, l3⟩ := z4.out.four
       have hslH := slHead 128 5 (w'.heap.size + 1) 4 4 (by omega) (by kernel_rfl) (by kernel_rfl) (by kernel_rfl) (by omega) (by omega)
       have hat1 : ∀ w2, (Instr.arrayAt 107 (.slice (some ⟨w'.heap.size + 1, 0, none⟩) 4 5)).run Try.prog w2 = .ok (.pointer (some ⟨w'.heap.size + 1, 0, none⟩)) w2 := fun w2 => run_arrayAt w2 107 _ 4 _ 4 5 Try.underlying107 (by omega)
       go_wp2_with fail
       go_region_with (go_at_call 100; refine (p_shiftDown r0 r1 r2 r3 _ s HR4.out _ wr4 k1).mono ?_; rintro e' wd ⟨b0, b1, b2, b3, rfl, wb, hb, hE2⟩; rw [HF.out.2.1] at hb; have HB := hide hb; have y3 := (z3.out.drew.ext hE2); have y4 := (z4.out.drew.ext hE2); have y5 := (hE.trans (ext_drew _)).trans hE2; obtain ⟨i0, i1, i2, i3, j0, j1, j2, j3⟩ := y3.four; obtain ⟨k0, kk1, kk2, kk3, l0, l1, l2, l3⟩ := y4.four; clear hb hE2)
       all_goals go_wp2_with fail
       all_goals exact bodyPost_ret (v := .tuple #[.agg #[.int .u64 (q0' : Int), .int .u64 (q1' : Int), .int .u64 (q2' : Int), .int .u64 (q3' : Int)], .agg #[.int .u64 (b0 : Int), .int .u64 (b1 : Int), .int .u64 (b2 : Int), .int .u64 (b3 : Int)]]) (by simp [results, Try.results88, go_sem, i0, i1, i2, i3, k0, kk1, kk2, kk3]) rfl ⟨q0', q1', q2', q3', b0, b1, b2, b3, rfl, wQ, wb, HF.out.1, HB.out, ext_four (ext_four y5 (by omega) _ _ _ _) (by omega) _ _ _ _⟩
     · obtain ⟨i, rfl⟩ : ∃ i, j = i + 1 := ⟨j - 1, by omega⟩
       have hseg := long_seg HR.out (k := k + 1) (by omega) HK.out HDK.out wR
       have HST : Hid (∀ (os : List Nat) (d : Nat), os.length = k + 1 + 1 → val os = val ((R.drop i).take (k + 1 + 1)) % (m * 2 ^ s) → d = val ((R.drop i).take (k + 1 + 1)) / (m * 2 ^ s) → LongRel (n * 2 ^ s) (m * 2 ^ s) (R.take i ++ os ++ R.drop (i + (k + 1) + 1)) (Q.set i d) i) := fun os d h1 h2 h3 => long_step HR.out (by omega) (by omega) HK.out HDK.out HDP.out wR h1 h2 h3
       have hRl : Hid (R.length = 5) := HR.out.1
       have hQl : Hid (Q.length = 4) := HR.out.2.1
       have HCT : Hid (R.take i ++ (R.drop i).take (k + 1 + 1) ++ R.drop (i + (k + 1) + 1) = R) := by
         unfold Hid
         rw [List.append_assoc, show i + (k + 1) + 1 = i + (k + 1 + 1) by omega, ← List.drop_drop, List.take_append_drop, List.take_append_drop]
       have HPA : Hid (Arr wr (w'.heap.size + 1) 128 (R.take i ++ (R.drop i).take (k + 1 + 1) ++ R.drop (i + (k + 1) + 1))) := by rw [HCT.out]; exact z2
       have T1 : Hid ((R.take i).length = i) := by unfold Hid; rw [List.length_take, hRl.out]; omega
       have T2 : Hid (((R.drop i).take (k + 1 + 1)).length = k + 1 + 1) := by unfold Hid; rw [List.length_take, List.length_drop, hRl.out]; omega
       have T3 : Hid (([u0, u1, u2, u3].take (k + 1)).length = k + 1) := by unfold Hid; rw [List.length_take]; simp; omega
       have wp2 : W64 ((R.drop i).take (k + 1 + 1)) := w64_take (w64_drop wR i) _
       have wq2 : W64 ([u0, u1, u2, u3].take (k + 1)) := w64_take wu _
       have hrd : Reads wr w'.heap.size 0 ([u0, u1, u2, u3].take (k + 1)) := ⟨z1.out.lt, fun x hx => by
         have hx2 : x < [u0, u1, u2, u3].length := by rw [List.length_take] at hx; omega
         rw [Nat.zero_add, z1.out.at x hx2, List.getElem_take]⟩
       have HRD := hide hrd
       have HLT : Hid (val ((R.drop i).take (k + 1 + 1)) < val ([u0, u1, u2, u3].take (k + 1)) * 18446744073709551616) := by
         unfold Hid; rw [HUT.out, hseg.1]; exact hseg.2.1
       have hsl2 := slRun 128 5 (w'.heap.size + 1) i ((i : Int) + ((k : Int) + 1) + 1) (i + (k + 1) + 1) (by omega) (by kernel_rfl) (by kernel_rfl) (by kernel_rfl) (by omega) (by omega) (by omega)
       rw [show i + (k + 1) + 1 - i = k + 1 + 1 by omega] at hsl2
       have hiQ : i < Q.length := by rw [hQl.out]; omega
       have lq := z3.out.lt
       have hi4 : (i : Int) < 4 := by omega
       clear hseg hrd
       go_wp2_with (go_at_call 99; refine (p_takeDigit (w'.heap.size + 1) i k (5 - i) w'.heap.size 0 4 128 (R.take i) ((R.drop i).take (k + 1 + 1)) (R.drop (i + (k + 1) + 1)) ([u0, u1, u2, u3].take (k + 1)) _ HPA.out T1.out T2.out T3.out HRD.out gne (by omega) wp2 wq2 HLT.out).mono ?_; rintro e' wd ⟨dg, os, rfl, hdg, hdl, hol, wos, hov, hAd, hUd⟩; rw [HUT.out] at hdg hov; have HN2 := hide (HST.out os dg hol hov hdg); have x1 := (z1.out.upd hUd gne); have x3 := (z3.out.upd hUd (by omega)); have x4 := (z4.out.upd hUd (by omega)); have x5 := hUd.ext hE (by omega); have cq := x3.at i hiQ; have fq := x3.free i; have lx := x3.lt; have X1 := hide (x1.far (b := w.heap.size + 1 + 1) (by omega) i (.int .u64 (dg : Int))); have X2 := hide (hAd.far (b := w.heap.size + 1 + 1) (by omega) i (.int .u64 (dg : Int))); have X3 := hide (x3.set i dg); have X4 := hide (x4.far (b := w.heap.size + 1 + 1) (by omega) i (.int .u64 (dg : Int))); have X5 := hide (ext_set x5 (g := w.heap.size + 1 + 1) (by omega) i (.int .u64 (dg : Int))); have HOL := hide hol; clear hdg hov hAd hUd x1 x3 x4 x5 hol)
       exact ⟨⟨i, _, _, by go_num, by omega, HN2, w64_cat (w64_cat (w64_take wR i) wos) (w64_drop wR _), w64_set wQ _ _ hdl, X2, X1, X3, X4, X5.out⟩, by first | (simp [intOf]; done) | (simp [intOf]; omega)⟩
theorem p_divWords (a b c d e f g h n m : Nat) (hn : mag4 a b c d = n) (hm : mag4 e f g h = m) (w : World) (hw : W64 [a, b, c, d]) (hw' : W64 [e, f, g, h]) (hm0 : 0 < m) :
   Calls Try.prog 88 #[.agg #[.int .u64 (a : Int), .int .u64 (b : Int), .int .u64 (c : Int), .int .u64 (d : Int)], .agg #[.int .u64 (e : Int), .int .u64 (f : Int), .int .u64 (g : Int), .int .u64 (h : Int)]] w (TwoWords (n / m) (n % m) w) := by
 by_cases hlt : n < m
 · exact p_divWords_lt a b c d e f g h n m hn hm w hw hw' hlt
 · have hl1 : (limbs m).length ≤ 4 := limbs_len_le.2 (by rw [p4, ← hm]; exact mag_lt (w64_four hw').1 (w64_four hw').2.1 (w64_four hw').2.2.1 (w64_four hw').2.2.2)
   have hl0 : (limbs m).length ≠ 0 := fun h0 => by
     have := List.eq_nil_of_length_eq_zero h0
     rw [limbs_nil] at this; omega
   by_cases h1 : (limbs m).length = 1
   · exact p_divWords_one a b c d e f g h n m hn hm w hw hw' hlt h1
   · exact p_divWords_many a b c d e f g h n m ((limbs m).length - 1) hn hm w hw hw' hlt (by omega) (by omega) (by omega)
end
end Go.Proofs.Ytlfmeiejocpnfaa
