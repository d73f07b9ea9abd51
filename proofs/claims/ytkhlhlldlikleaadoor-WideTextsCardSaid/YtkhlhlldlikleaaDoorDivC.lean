/- The quotient of two words and a word, and the rest, of the library's package bits. Conditions: the divisor is greater than the upper word. -/
import Derived.Test.YtkhlhlldlikleaaDoorDivB
namespace Go.Proofs.YtkhlhlldlikleaaDoor
set_option linter.unusedVariables false
set_option linter.unusedSimpArgs false
open Go Go.RowKit
/-- A guess of a digit, and what it leaves. -/
def DigRel (u v n1 c q r : Nat) : Prop := u = q * n1 + r ∧ r < 4294967296 ∧ u * 4294967296 + c < (q + 1) * v
theorem dig_iff (u v n1 n0 c q r : Nat) (hv : v = n1 * 4294967296 + n0) (e : u = q * n1 + r) : q * n0 ≤ r * 4294967296 + c ↔ q * v ≤ u * 4294967296 + c := by
  subst hv; subst e
  rw [Nat.mul_add, Nat.add_mul, ← Nat.mul_assoc]
  omega
theorem dig_lt (u v c : Nat) (hu : u < v) (hc : c < 4294967296) : u * 4294967296 + c < 4294967296 * v := by omega
theorem dig_stop (u v n1 n0 c q r : Nat) (hv : v = n1 * 4294967296 + n0) (_hn0 : n0 < 4294967296) (hu : u < v) (hc : c < 4294967296) (h : DigRel u v n1 c q r) (c1 : q * v ≤ u * 4294967296 + c) : q < 4294967296 ∧ q * n0 ≤ r * 4294967296 + c := by
  refine ⟨?_, (dig_iff u v n1 n0 c q r hv h.1).2 c1⟩
  have := dig_lt u v c hu hc
  exact Nat.lt_of_mul_lt_mul_right (Nat.lt_of_le_of_lt c1 this)
theorem dig_noWrap (n0 c q r m1 m2 m3 : Nat) (hn0 : n0 < 4294967296) (hc : c < 4294967296) (hq : q < 4294967296) (hr : r < 4294967296) (h1 : m1 = q * n0 % 18446744073709551616) (h2 : m2 = r * 4294967296 % 18446744073709551616) (h3 : m3 = (m2 + c) % 18446744073709551616) : m1 = q * n0 ∧ m3 = r * 4294967296 + c := by
  have : q * n0 ≤ 4294967295 * 4294967295 := Nat.mul_le_mul (by omega) (by omega)
  omega
theorem bnd_u21 (u v n1 q r : Nat) (hn1 : 2147483648 ≤ n1) (hu : u < v) (hv : v < 18446744073709551616) (e : u = q * n1 + r) : q < 18446744073709551616 := by
  have : q * 1 ≤ q * n1 := Nat.mul_le_mul_left _ (by omega)
  omega
theorem dig_dec (u v n1 n0 c q r : Nat) (hv : v = n1 * 4294967296 + n0) (hn0 : n0 < 4294967296) (hn1 : 0 < n1) (hu : u < v) (hc : c < 4294967296) (h : DigRel u v n1 c q r) (c1 : ¬ q * v ≤ u * 4294967296 + c) (q' r' : Nat) (bn : r + n1 < 18446744073709551616) (bq : q < 18446744073709551616)
    (hq' : q' = (q + 18446744073709551615) % 18446744073709551616) (hr' : r' = (r + n1) % 18446744073709551616) :
    q' < q ∧ (r' < 4294967296 → DigRel u v n1 c q' r') ∧ (4294967296 ≤ r' → q' * v ≤ u * 4294967296 + c ∧ u * 4294967296 + c < (q' + 1) * v ∧ q' < 4294967296) := by
  have hq0 : 0 < q := by
    rcases Nat.eq_zero_or_pos q with h0 | h0
    · subst h0; simp at c1
    · exact h0
  have e1 : q = q' + 1 := by omega
  have e2 : r' = r + n1 := by omega
  obtain ⟨h1, h2, h3⟩ := h
  have e3 : u = q' * n1 + r' := by rw [h1, e1, e2, Nat.add_mul]; omega
  have e4 : u * 4294967296 + c < (q' + 1) * v := by rw [← e1]; omega
  refine ⟨by omega, fun h => ⟨e3, h, e4⟩, fun h => ?_⟩
  have h5 : q' < 4294967296 := by
    have h6 : q' * n1 < 4294967296 * n1 := by omega
    exact Nat.lt_of_mul_lt_mul_right h6
  refine ⟨(dig_iff u v n1 n0 c q' r' hv e3).1 ?_, e4, h5⟩
  have : q' * n0 ≤ 4294967295 * 4294967295 := Nat.mul_le_mul (by omega) (by omega)
  omega
theorem dig_init (u v n1 n0 c g a r0 : Nat) (hv : v = n1 * 4294967296 + n0) (_hn0 : n0 < 4294967296) (hn1 : 0 < n1 ∧ n1 < 4294967296) (hu : u < v) (hv2 : v < 18446744073709551616) (hc : c < 4294967296) (hg : g = u / n1) (ha : a = g * n1 % 18446744073709551616) (hr : r0 = (u + 18446744073709551616 - a) % 18446744073709551616) : DigRel u v n1 c g r0 := by
  have h1 := Nat.div_add_mod u n1
  have h2 := Nat.mod_lt u hn1.1
  rw [← hg, Nat.mul_comm] at h1
  have h3 : (g + 1) * v = (g * n1 + n1) * 4294967296 + (g + 1) * n0 := by subst hv; rw [Nat.mul_add, ← Nat.mul_assoc, Nat.add_mul, Nat.one_mul]
  refine ⟨by omega, by omega, ?_⟩
  rw [h3]; omega
theorem dig_rest (u v c q a1 a2 a3 x : Nat) {n1 n0 u10 u0 X y s : Nat} (hv : v = n1 * 4294967296 + n0 ∧ n0 < 4294967296 ∧ 2147483648 ≤ n1 ∧ n1 < 4294967296 ∧ u10 = c * 4294967296 + u0 ∧ u0 < 4294967296 ∧ c < 4294967296 ∧ u < v ∧ v < 18446744073709551616 ∧ u * 18446744073709551616 + u10 = X * 2 ^ s ∧ v = y * 2 ^ s)
    (hq : q * v ≤ u * 4294967296 + c ∧ u * 4294967296 + c < (q + 1) * v ∧ q < 4294967296) (h1 : a1 = u * 4294967296 % 18446744073709551616) (h2 : a2 = (a1 + c) % 18446744073709551616) (h3 : a3 = q * v % 18446744073709551616) (h4 : x = (a2 + 18446744073709551616 - a3) % 18446744073709551616) :
    u * 4294967296 + c = q * v + x ∧ x < v := by
  obtain ⟨_, _, _, _, _, _, hc, hu, hb, _, _⟩ := hv
  obtain ⟨k1, k2, k3⟩ := hq
  rw [Nat.add_mul, Nat.one_mul] at k2
  generalize q * v = t at *
  omega
theorem fin_b (v u p c b3 b4 b5 b6 : Nat) (hv : v < 18446744073709551616) (hu : u < v) (hc : c < 4294967296) (p1 : p * v ≤ u * 4294967296 + c) (p2 : u * 4294967296 + c < (p + 1) * v) (h3 : b3 = u * 4294967296 % 18446744073709551616) (h4 : b4 = (b3 + c) % 18446744073709551616) (h5 : b5 = p * v % 18446744073709551616) (h6 : b6 = (b4 + 18446744073709551616 - b5) % 18446744073709551616) :
    u * 4294967296 + c = p * v + b6 ∧ b6 < v := by
  rw [Nat.add_mul, Nat.one_mul] at p2
  generalize p * v = t at *
  omega
theorem fin_q (q p b1 b2 : Nat) (hq : q < 4294967296) (hp : p < 4294967296) (h1 : b1 = q * 4294967296 % 18446744073709551616) (h2 : b2 = (b1 + p) % 18446744073709551616) : b2 = q * 4294967296 + p := by omega
theorem fin_x {v u32 u1 u0 u21 q p b6 : Nat} (h1 : u32 * 4294967296 + u1 = q * v + u21) (h2 : u21 * 4294967296 + u0 = p * v + b6) : u32 * 18446744073709551616 + (u1 * 4294967296 + u0) = q * v * 4294967296 + p * v + b6 := by
  have h3 : u32 * 18446744073709551616 + u1 * 4294967296 = q * v * 4294967296 + u21 * 4294967296 := by
    have h4 := congrArg (· * 4294967296) h1
    simp only [Nat.add_mul] at h4
    rw [Nat.mul_assoc u32] at h4
    exact h4
  rw [← Nat.add_assoc, h3, Nat.add_assoc, h2, Nat.add_assoc]
theorem div_fin (hi lo y s v u32 u10 u1 u0 n1 n0 q p u21 b1 b2 b3 b4 b5 b6 : Nat) (hv : v = n1 * 4294967296 + n0 ∧ n0 < 4294967296 ∧ 2147483648 ≤ n1 ∧ n1 < 4294967296 ∧ u10 = u1 * 4294967296 + u0 ∧ u0 < 4294967296 ∧ u1 < 4294967296 ∧ u32 < v ∧ v < 18446744073709551616 ∧ u32 * 18446744073709551616 + u10 = (hi * 18446744073709551616 + lo) * 2 ^ s ∧ v = y * 2 ^ s)
    (hq : q * v ≤ u32 * 4294967296 + u1 ∧ u32 * 4294967296 + u1 < (q + 1) * v ∧ q < 4294967296) (hu : u32 * 4294967296 + u1 = q * v + u21 ∧ u21 < v) (hp : p * v ≤ u21 * 4294967296 + u0 ∧ u21 * 4294967296 + u0 < (p + 1) * v ∧ p < 4294967296) (_h1 : hi < y)
    (h1 : b1 = q * 4294967296 % 18446744073709551616) (h2 : b2 = (b1 + p) % 18446744073709551616) (h3 : b3 = u21 * 4294967296 % 18446744073709551616) (h4 : b4 = (b3 + u0) % 18446744073709551616) (h5 : b5 = p * v % 18446744073709551616) (h6 : b6 = (b4 + 18446744073709551616 - b5) % 18446744073709551616) :
    (hi * 18446744073709551616 + lo) / y = b2 ∧ (hi * 18446744073709551616 + lo) % y = b6 / 2 ^ s := by
  obtain ⟨_, _, _, _, e10, hc0, _, _, hvb, eX, ev⟩ := hv
  obtain ⟨p1, p2, p3⟩ := hp
  have eb := fin_b v u21 p u0 b3 b4 b5 b6 hvb hu.2 hc0 p1 p2 h3 h4 h5 h6
  have e2 := fin_q q p b1 b2 hq.2.2 p3 h1 h2
  have eT : (hi * 18446744073709551616 + lo) * 2 ^ s = b2 * v + b6 := by
    rw [← eX, e10, e2, Nat.add_mul, Nat.mul_right_comm q]
    exact fin_x hu.1 eb.1
  have hy : 0 < y := by omega
  have ps := Nat.two_pow_pos s
  rw [ev, ← Nat.mul_assoc] at eT
  have hb6 : b6 / 2 ^ s * 2 ^ s = b6 := by
    have hd : 2 ^ s ∣ b6 := by
      have h7 : 2 ^ s ∣ b2 * y * 2 ^ s + b6 := by rw [← eT]; exact Nat.dvd_mul_left _ _
      exact (Nat.dvd_add_right (Nat.dvd_mul_left _ _)).1 h7
    exact Nat.div_mul_cancel hd
  have hX : hi * 18446744073709551616 + lo = b2 * y + b6 / 2 ^ s := by
    have h8 : (hi * 18446744073709551616 + lo) * 2 ^ s = (b2 * y + b6 / 2 ^ s) * 2 ^ s := by rw [Nat.add_mul (b2 * y), hb6]; exact eT
    exact Nat.eq_of_mul_eq_mul_right ps h8
  have hlt : b6 / 2 ^ s < y := by
    rw [Nat.div_lt_iff_lt_mul ps, ← ev]; exact eb.2
  rw [hX]
  constructor
  · rw [Nat.mul_comm, Nat.mul_add_div hy, Nat.div_eq_of_lt hlt, Nat.add_zero]
  · rw [Nat.mul_comm, Nat.mul_add_mod, Nat.mod_eq_of_lt hlt]
theorem sh2 (b s : Nat) : (b : Int) / 2 ^ s = ((b / 2 ^ s : Nat) : Int) := by
  rw [Int.natCast_ediv, Int.natCast_pow]; rfl
set_option maxRecDepth 100000 in
set_option maxHeartbeats 2000000 in
theorem b_div64_big (hi lo y : Nat) (w : World) (h1 : hi < y) (h2 : y < 18446744073709551616) (h3 : lo < 18446744073709551616) (h0 : 0 < hi) :
    Calls Tryd.prog 73 #[.int .u64 (hi : Int), .int .u64 (lo : Int), .int .u64 (y : Int)] w fun e w' => e = .returned (.tuple #[.int .u64 (((hi * 18446744073709551616 + lo) / y : Nat) : Int), .int .u64 (((hi * 18446744073709551616 + lo) % y : Nat) : Int)]) ∧ w = w' := by
  have e1 : ((y : Int) == 0) = false := by simp; omega
  have e2 : ((hi : Int) == 0) = false := by simp; omega
  have e3 : ¬ ((y : Int) ≤ (hi : Int)) := by omega
  have e4 : ¬ (y ≤ hi) := by omega
  obtain ⟨dq, hdq⟩ : ∃ dq, (hi * 18446744073709551616 + lo) / y = dq := ⟨_, rfl⟩
  obtain ⟨dr, hdr⟩ : ∃ dr, (hi * 18446744073709551616 + lo) % y = dr := ⟨_, rfl⟩
  rw [hdq, hdr]
  have HDQ := hide hdq
  have HDR := hide hdr
  clear hdq hdr
  go_enter Tryd.func73, Tryd.ntmps73
  go_wp2_with (go_at_call 68; refine (b_lz y _ h2 (by omega)).mono ?_; rintro e w' ⟨s, rfl, k1, k2, k3, rfl⟩; obtain ⟨v, n1, n0, hs', lt, u32, u10, u1, u0, f1, f2, f3, f4, f5, f6, f7, f8, f9, HV⟩ := div_head hi lo y s h1 h2 h3 k1 k2 k3; clear k2 k3; have HN : Hid (0 < n1 ∧ n1 < 4294967296) := (by have := HV.out; exact ⟨by omega, by omega⟩); have hn1 : ¬ ((n1 : Int) = 0) := (by have := HN.out; omega); have hn2 : ¬ (n1 = 0) := (by have := HN.out; omega); obtain ⟨g1, t11, t12, GG⟩ := wD u32 n1; have t13 := wI g1 (by have := GG.out; have := HV.out; have : u32 / n1 ≤ u32 := Nat.div_le_self _ _; omega); obtain ⟨a0, w01, A01⟩ := wM g1 n1; obtain ⟨r1, w02, A02⟩ := wS u32 a0 (by have := A01.out; omega); have HI1 := hide (dig_init u32 v n1 n0 u1 g1 a0 r1 HV.out.1 HV.out.2.1 HN.out HV.out.2.2.2.2.2.2.2.1 HV.out.2.2.2.2.2.2.2.2.1 HV.out.2.2.2.2.2.2.1 GG.out A01.out A02.out))
  go_loop [15, 16] (fun x1 x2 => ∃ (q r : Nat), x1 = .int .u64 q ∧ x2 = .int .u64 r ∧ Hid (DigRel u32 v n1 u1 q r)) (fun x1 _ => (intOf x1).toNat)
  case atStart => exact ⟨g1, r1, rfl, rfl, HI1.out⟩
  case round =>
    obtain ⟨q, r, rfl, rfl, HR⟩ := hrel
    by_cases c1 : q * v ≤ u32 * 4294967296 + u1
    · have hstop := dig_stop u32 v n1 n0 u1 q r HV.out.1 HV.out.2.1 HV.out.2.2.2.2.2.2.2.1 HV.out.2.2.2.2.2.2.1 HR.out c1
      obtain ⟨m1, x1, X1⟩ := wM q n0
      obtain ⟨m2, x2, X2⟩ := wlM r
      obtain ⟨m3, x3, X3⟩ := wA m2 u1
      have hq : ¬ ((4294967296 : Int) ≤ (q : Int)) := by have := hstop.1; omega
      have hm : ¬ ((m3 : Int) < (m1 : Int)) := by have := dig_noWrap n0 u1 q r m1 m2 m3 HV.out.2.1 HV.out.2.2.2.2.2.2.1 hstop.1 HR.out.2.1 X1.out X2.out X3.out; have h3 := hstop.2; omega
      have HQ : Hid (q * v ≤ u32 * 4294967296 + u1 ∧ u32 * 4294967296 + u1 < (q + 1) * v ∧ q < 4294967296) := ⟨c1, HR.out.2.2, hstop.1⟩
      clear hstop c1
      obtain ⟨a1, w1, A1⟩ := wMl u32
      obtain ⟨a2, w2, A2⟩ := wA a1 u1
      obtain ⟨a3, w3, A3⟩ := wM q v
      obtain ⟨u21, w4, A4⟩ := wS a2 a3 (by have := A3.out; omega)
      have HU := hide (dig_rest u32 v u1 q a1 a2 a3 u21 HV.out HQ.out A1.out A2.out A3.out A4.out)
      obtain ⟨g, t1, t2, G1⟩ := wD u21 n1
      have t3 := wI g (by have := G1.out; have := HU.out; have := HV.out; have : u21 / n1 ≤ u21 := Nat.div_le_self _ _; omega)
      obtain ⟨a4, w6, A5⟩ := wM g n1
      obtain ⟨r0, w7, A6⟩ := wS u21 a4 (by have := A5.out; omega)
      have HI := hide (dig_init u21 v n1 n0 u0 g a4 r0 HV.out.1 HV.out.2.1 HN.out HU.out.2 HV.out.2.2.2.2.2.2.2.2.1 HV.out.2.2.2.2.2.1 G1.out A5.out A6.out)
      go_wp2_with fail
      go_loop [18, 16] (fun x1 x2 => ∃ (p r2 : Nat), x1 = .int .u64 p ∧ x2 = .int .u64 r2 ∧ Hid (DigRel u21 v n1 u0 p r2)) (fun x1 _ => (intOf x1).toNat)
      case atStart => exact ⟨g, r0, rfl, rfl, HI.out⟩
      case round =>
        obtain ⟨p, r2, rfl, rfl, HR⟩ := hrel
        by_cases c1 : p * v ≤ u21 * 4294967296 + u0
        · have hstop := dig_stop u21 v n1 n0 u0 p r2 HV.out.1 HV.out.2.1 HU.out.2 HV.out.2.2.2.2.2.1 HR.out c1
          obtain ⟨m1, x1, X1⟩ := wM p n0
          obtain ⟨m2, x2, X2⟩ := wlM r2
          obtain ⟨m3, x3, X3⟩ := wA m2 u0
          have hq : ¬ ((4294967296 : Int) ≤ (p : Int)) := by have := hstop.1; omega
          have hm : ¬ ((m3 : Int) < (m1 : Int)) := by have := dig_noWrap n0 u0 p r2 m1 m2 m3 HV.out.2.1 HV.out.2.2.2.2.2.1 hstop.1 HR.out.2.1 X1.out X2.out X3.out; have h3 := hstop.2; omega
          have HQ0 : Hid (p * v ≤ u21 * 4294967296 + u0 ∧ u21 * 4294967296 + u0 < (p + 1) * v ∧ p < 4294967296) := ⟨c1, HR.out.2.2, hstop.1⟩
          obtain ⟨b1, y1, Y1⟩ := wMl q
          obtain ⟨b2, y2, Y2⟩ := wA b1 p
          obtain ⟨b3, y3, Y3⟩ := wMl u21
          obtain ⟨b4, y4, Y4⟩ := wA b3 u0
          obtain ⟨b5, y5, Y5⟩ := wM p v
          obtain ⟨b6, y6, Y6⟩ := wS b4 b5 (by have := Y5.out; omega)
          have HF := hide (div_fin hi lo y s v u32 u10 u1 u0 n1 n0 q p u21 b1 b2 b3 b4 b5 b6 HV.out HQ.out HU.out HQ0.out h1 Y1.out Y2.out Y3.out Y4.out Y5.out Y6.out)
          clear hstop c1
          go_wp2_with fail
          go_ret2
          exact ⟨rr2 (by rw [← HDQ.out, HF.out.1]) (by rw [← HDR.out, HF.out.2]; exact sh2 b6 s), rfl⟩
        · have hs2 := dig_dec u21 v n1 n0 u0 p r2 HV.out.1 HV.out.2.1 HN.out.1 HU.out.2 HV.out.2.2.2.2.2.1 HR.out c1
          obtain ⟨p', z1, Z1⟩ := wS1 p
          obtain ⟨r2', z2, Z2⟩ := wA r2 n1
          obtain ⟨hp, hd, hb⟩ := hs2 p' r2' (by have := HR.out.2.1; have := HV.out; omega) (bnd_u21 u21 v n1 p r2 HV.out.2.2.1 HU.out.2 HV.out.2.2.2.2.2.2.2.2.1 HR.out.1) Z1.out Z2.out
          have hp := hide hp
          have hd := hide hd
          have hb := hide hb
          by_cases hq : 4294967296 ≤ p
          · have hqI : (4294967296 : Int) ≤ (p : Int) := by omega
            by_cases hr : 4294967296 ≤ r2'
            · have hrI : (4294967296 : Int) ≤ (r2' : Int) := by omega
              have HQ0 : Hid (p' * v ≤ u21 * 4294967296 + u0 ∧ u21 * 4294967296 + u0 < (p' + 1) * v ∧ p' < 4294967296) := hb.out hr
              obtain ⟨b1, y1, Y1⟩ := wMl q
              obtain ⟨b2, y2, Y2⟩ := wA b1 p'
              obtain ⟨b3, y3, Y3⟩ := wMl u21
              obtain ⟨b4, y4, Y4⟩ := wA b3 u0
              obtain ⟨b5, y5, Y5⟩ := wM p' v
              obtain ⟨b6, y6, Y6⟩ := wS b4 b5 (by have := Y5.out; omega)
              have HF := hide (div_fin hi lo y s v u32 u10 u1 u0 n1 n0 q p' u21 b1 b2 b3 b4 b5 b6 HV.out HQ.out HU.out HQ0.out h1 Y1.out Y2.out Y3.out Y4.out Y5.out Y6.out)
              clear c1 hq hr hs2
              go_wp2_with fail
              go_ret2
              exact ⟨rr2 (by rw [← HDQ.out, HF.out.1]) (by rw [← HDR.out, HF.out.2]; exact sh2 b6 s), rfl⟩
            · have hrI : ¬ ((4294967296 : Int) ≤ (r2' : Int)) := by omega
              have HD := hide (hd.out (by omega))
              have hlt : p' < p := hp.out
              clear c1 hq hr hs2
              go_wp2_with fail
              exact ⟨⟨p', r2', rfl, rfl, HD.out⟩, by simp [intOf]; omega⟩
          · obtain ⟨m1, x1, X1⟩ := wM p n0
            obtain ⟨m2, x2, X2⟩ := wlM r2
            obtain ⟨m3, x3, X3⟩ := wA m2 u0
            have hqI : ¬ ((4294967296 : Int) ≤ (p : Int)) := by omega
            have hm : ((m3 : Int) < (m1 : Int)) := by
              have h4 := dig_noWrap n0 u0 p r2 m1 m2 m3 HV.out.2.1 HV.out.2.2.2.2.2.1 (by omega) HR.out.2.1 X1.out X2.out X3.out
              have h5 := dig_iff u21 v n1 n0 u0 p r2 HV.out.1 HR.out.1
              omega
            by_cases hr : 4294967296 ≤ r2'
            · have hrI : (4294967296 : Int) ≤ (r2' : Int) := by omega
              have HQ0 : Hid (p' * v ≤ u21 * 4294967296 + u0 ∧ u21 * 4294967296 + u0 < (p' + 1) * v ∧ p' < 4294967296) := hb.out hr
              obtain ⟨b1, y1, Y1⟩ := wMl q
              obtain ⟨b2, y2, Y2⟩ := wA b1 p'
              obtain ⟨b3, y3, Y3⟩ := wMl u21
              obtain ⟨b4, y4, Y4⟩ := wA b3 u0
              obtain ⟨b5, y5, Y5⟩ := wM p' v
              obtain ⟨b6, y6, Y6⟩ := wS b4 b5 (by have := Y5.out; omega)
              have HF := hide (div_fin hi lo y s v u32 u10 u1 u0 n1 n0 q p' u21 b1 b2 b3 b4 b5 b6 HV.out HQ.out HU.out HQ0.out h1 Y1.out Y2.out Y3.out Y4.out Y5.out Y6.out)
              clear c1 hq hr hs2
              go_wp2_with fail
              go_ret2
              exact ⟨rr2 (by rw [← HDQ.out, HF.out.1]) (by rw [← HDR.out, HF.out.2]; exact sh2 b6 s), rfl⟩
            · have hrI : ¬ ((4294967296 : Int) ≤ (r2' : Int)) := by omega
              have HD := hide (hd.out (by omega))
              have hlt : p' < p := hp.out
              clear c1 hq hr hs2
              go_wp2_with fail
              exact ⟨⟨p', r2', rfl, rfl, HD.out⟩, by simp [intOf]; omega⟩
    · have hs2 := dig_dec u32 v n1 n0 u1 q r HV.out.1 HV.out.2.1 HN.out.1 HV.out.2.2.2.2.2.2.2.1 HV.out.2.2.2.2.2.2.1 HR.out c1
      obtain ⟨q', z1, Z1⟩ := wS1 q
      obtain ⟨r', z2, Z2⟩ := wA r n1
      obtain ⟨hp, hd, hb⟩ := hs2 q' r' (by have := HR.out.2.1; have := HV.out; omega) (bnd_u21 u32 v n1 q r HV.out.2.2.1 HV.out.2.2.2.2.2.2.2.1 HV.out.2.2.2.2.2.2.2.2.1 HR.out.1) Z1.out Z2.out
      have hp := hide hp
      have hd := hide hd
      have hb := hide hb
      by_cases hq : 4294967296 ≤ q
      · have hqI : (4294967296 : Int) ≤ (q : Int) := by omega
        by_cases hr : 4294967296 ≤ r'
        · have hrI : (4294967296 : Int) ≤ (r' : Int) := by omega
          have HQ : Hid (q' * v ≤ u32 * 4294967296 + u1 ∧ u32 * 4294967296 + u1 < (q' + 1) * v ∧ q' < 4294967296) := hb.out hr
          clear c1 hq hr hs2
          obtain ⟨a1, w1, A1⟩ := wMl u32
          obtain ⟨a2, w2, A2⟩ := wA a1 u1
          obtain ⟨a3, w3, A3⟩ := wM q' v
          obtain ⟨u21, w4, A4⟩ := wS a2 a3 (by have := A3.out; omega)
          have HU := hide (dig_rest u32 v u1 q' a1 a2 a3 u21 HV.out HQ.out A1.out A2.out A3.out A4.out)
          obtain ⟨g, t1, t2, G1⟩ := wD u21 n1
          have t3 := wI g (by have := G1.out; have := HU.out; have := HV.out; have : u21 / n1 ≤ u21 := Nat.div_le_self _ _; omega)
          obtain ⟨a4, w6, A5⟩ := wM g n1
          obtain ⟨r0, w7, A6⟩ := wS u21 a4 (by have := A5.out; omega)
          have HI := hide (dig_init u21 v n1 n0 u0 g a4 r0 HV.out.1 HV.out.2.1 HN.out HU.out.2 HV.out.2.2.2.2.2.2.2.2.1 HV.out.2.2.2.2.2.1 G1.out A5.out A6.out)
          go_wp2_with fail
          go_loop [18, 16] (fun x1 x2 => ∃ (p r2 : Nat), x1 = .int .u64 p ∧ x2 = .int .u64 r2 ∧ Hid (DigRel u21 v n1 u0 p r2)) (fun x1 _ => (intOf x1).toNat)
          case atStart => exact ⟨g, r0, rfl, rfl, HI.out⟩
          case round =>
            obtain ⟨p, r2, rfl, rfl, HR⟩ := hrel
            by_cases c1 : p * v ≤ u21 * 4294967296 + u0
            · have hstop := dig_stop u21 v n1 n0 u0 p r2 HV.out.1 HV.out.2.1 HU.out.2 HV.out.2.2.2.2.2.1 HR.out c1
              obtain ⟨m1, x1, X1⟩ := wM p n0
              obtain ⟨m2, x2, X2⟩ := wlM r2
              obtain ⟨m3, x3, X3⟩ := wA m2 u0
              have hq : ¬ ((4294967296 : Int) ≤ (p : Int)) := by have := hstop.1; omega
              have hm : ¬ ((m3 : Int) < (m1 : Int)) := by have := dig_noWrap n0 u0 p r2 m1 m2 m3 HV.out.2.1 HV.out.2.2.2.2.2.1 hstop.1 HR.out.2.1 X1.out X2.out X3.out; have h3 := hstop.2; omega
              have HQ0 : Hid (p * v ≤ u21 * 4294967296 + u0 ∧ u21 * 4294967296 + u0 < (p + 1) * v ∧ p < 4294967296) := ⟨c1, HR.out.2.2, hstop.1⟩
              obtain ⟨b1, y1, Y1⟩ := wMl q'
              obtain ⟨b2, y2, Y2⟩ := wA b1 p
              obtain ⟨b3, y3, Y3⟩ := wMl u21
              obtain ⟨b4, y4, Y4⟩ := wA b3 u0
              obtain ⟨b5, y5, Y5⟩ := wM p v
              obtain ⟨b6, y6, Y6⟩ := wS b4 b5 (by have := Y5.out; omega)
              have HF := hide (div_fin hi lo y s v u32 u10 u1 u0 n1 n0 q' p u21 b1 b2 b3 b4 b5 b6 HV.out HQ.out HU.out HQ0.out h1 Y1.out Y2.out Y3.out Y4.out Y5.out Y6.out)
              clear hstop c1
              go_wp2_with fail
              go_ret2
              exact ⟨rr2 (by rw [← HDQ.out, HF.out.1]) (by rw [← HDR.out, HF.out.2]; exact sh2 b6 s), rfl⟩
            · have hs2 := dig_dec u21 v n1 n0 u0 p r2 HV.out.1 HV.out.2.1 HN.out.1 HU.out.2 HV.out.2.2.2.2.2.1 HR.out c1
              obtain ⟨p', z1, Z1⟩ := wS1 p
              obtain ⟨r2', z2, Z2⟩ := wA r2 n1
              obtain ⟨hp, hd, hb⟩ := hs2 p' r2' (by have := HR.out.2.1; have := HV.out; omega) (bnd_u21 u21 v n1 p r2 HV.out.2.2.1 HU.out.2 HV.out.2.2.2.2.2.2.2.2.1 HR.out.1) Z1.out Z2.out
              have hp := hide hp
              have hd := hide hd
              have hb := hide hb
              by_cases hq : 4294967296 ≤ p
              · have hqI : (4294967296 : Int) ≤ (p : Int) := by omega
                by_cases hr : 4294967296 ≤ r2'
                · have hrI : (4294967296 : Int) ≤ (r2' : Int) := by omega
                  have HQ0 : Hid (p' * v ≤ u21 * 4294967296 + u0 ∧ u21 * 4294967296 + u0 < (p' + 1) * v ∧ p' < 4294967296) := hb.out hr
                  obtain ⟨b1, y1, Y1⟩ := wMl q'
                  obtain ⟨b2, y2, Y2⟩ := wA b1 p'
                  obtain ⟨b3, y3, Y3⟩ := wMl u21
                  obtain ⟨b4, y4, Y4⟩ := wA b3 u0
                  obtain ⟨b5, y5, Y5⟩ := wM p' v
                  obtain ⟨b6, y6, Y6⟩ := wS b4 b5 (by have := Y5.out; omega)
                  have HF := hide (div_fin hi lo y s v u32 u10 u1 u0 n1 n0 q' p' u21 b1 b2 b3 b4 b5 b6 HV.out HQ.out HU.out HQ0.out h1 Y1.out Y2.out Y3.out Y4.out Y5.out Y6.out)
                  clear c1 hq hr hs2
                  go_wp2_with fail
                  go_ret2
                  exact ⟨rr2 (by rw [← HDQ.out, HF.out.1]) (by rw [← HDR.out, HF.out.2]; exact sh2 b6 s), rfl⟩
                · have hrI : ¬ ((4294967296 : Int) ≤ (r2' : Int)) := by omega
                  have HD := hide (hd.out (by omega))
                  have hlt : p' < p := hp.out
                  clear c1 hq hr hs2
                  go_wp2_with fail
                  exact ⟨⟨p', r2', rfl, rfl, HD.out⟩, by simp [intOf]; omega⟩
              · obtain ⟨m1, x1, X1⟩ := wM p n0
                obtain ⟨m2, x2, X2⟩ := wlM r2
                obtain ⟨m3, x3, X3⟩ := wA m2 u0
                have hqI : ¬ ((4294967296 : Int) ≤ (p : Int)) := by omega
                have hm : ((m3 : Int) < (m1 : Int)) := by
                  have h4 := dig_noWrap n0 u0 p r2 m1 m2 m3 HV.out.2.1 HV.out.2.2.2.2.2.1 (by omega) HR.out.2.1 X1.out X2.out X3.out
                  have h5 := dig_iff u21 v n1 n0 u0 p r2 HV.out.1 HR.out.1
                  omega
                by_cases hr : 4294967296 ≤ r2'
                · have hrI : (4294967296 : Int) ≤ (r2' : Int) := by omega
                  have HQ0 : Hid (p' * v ≤ u21 * 4294967296 + u0 ∧ u21 * 4294967296 + u0 < (p' + 1) * v ∧ p' < 4294967296) := hb.out hr
                  obtain ⟨b1, y1, Y1⟩ := wMl q'
                  obtain ⟨b2, y2, Y2⟩ := wA b1 p'
                  obtain ⟨b3, y3, Y3⟩ := wMl u21
                  obtain ⟨b4, y4, Y4⟩ := wA b3 u0
                  obtain ⟨b5, y5, Y5⟩ := wM p' v
                  obtain ⟨b6, y6, Y6⟩ := wS b4 b5 (by have := Y5.out; omega)
                  have HF := hide (div_fin hi lo y s v u32 u10 u1 u0 n1 n0 q' p' u21 b1 b2 b3 b4 b5 b6 HV.out HQ.out HU.out HQ0.out h1 Y1.out Y2.out Y3.out Y4.out Y5.out Y6.out)
                  clear c1 hq hr hs2
                  go_wp2_with fail
                  go_ret2
                  exact ⟨rr2 (by rw [← HDQ.out, HF.out.1]) (by rw [← HDR.out, HF.out.2]; exact sh2 b6 s), rfl⟩
                · have hrI : ¬ ((4294967296 : Int) ≤ (r2' : Int)) := by omega
                  have HD := hide (hd.out (by omega))
                  have hlt : p' < p := hp.out
                  clear c1 hq hr hs2
                  go_wp2_with fail
                  exact ⟨⟨p', r2', rfl, rfl, HD.out⟩, by simp [intOf]; omega⟩
        · have hrI : ¬ ((4294967296 : Int) ≤ (r' : Int)) := by omega
          have HD := hide (hd.out (by omega))
          have hlt : q' < q := hp.out
          clear c1 hq hr hs2
          go_wp2_with fail
          exact ⟨⟨q', r', rfl, rfl, HD.out⟩, by simp [intOf]; omega⟩
      · obtain ⟨m1, x1, X1⟩ := wM q n0
        obtain ⟨m2, x2, X2⟩ := wlM r
        obtain ⟨m3, x3, X3⟩ := wA m2 u1
        have hqI : ¬ ((4294967296 : Int) ≤ (q : Int)) := by omega
        have hm : ((m3 : Int) < (m1 : Int)) := by
          have h4 := dig_noWrap n0 u1 q r m1 m2 m3 HV.out.2.1 HV.out.2.2.2.2.2.2.1 (by omega) HR.out.2.1 X1.out X2.out X3.out
          have h5 := dig_iff u32 v n1 n0 u1 q r HV.out.1 HR.out.1
          omega
        by_cases hr : 4294967296 ≤ r'
        · have hrI : (4294967296 : Int) ≤ (r' : Int) := by omega
          have HQ : Hid (q' * v ≤ u32 * 4294967296 + u1 ∧ u32 * 4294967296 + u1 < (q' + 1) * v ∧ q' < 4294967296) := hb.out hr
          clear c1 hq hr hs2
          obtain ⟨a1, w1, A1⟩ := wMl u32
          obtain ⟨a2, w2, A2⟩ := wA a1 u1
          obtain ⟨a3, w3, A3⟩ := wM q' v
          obtain ⟨u21, w4, A4⟩ := wS a2 a3 (by have := A3.out; omega)
          have HU := hide (dig_rest u32 v u1 q' a1 a2 a3 u21 HV.out HQ.out A1.out A2.out A3.out A4.out)
          obtain ⟨g, t1, t2, G1⟩ := wD u21 n1
          have t3 := wI g (by have := G1.out; have := HU.out; have := HV.out; have : u21 / n1 ≤ u21 := Nat.div_le_self _ _; omega)
          obtain ⟨a4, w6, A5⟩ := wM g n1
          obtain ⟨r0, w7, A6⟩ := wS u21 a4 (by have := A5.out; omega)
          have HI := hide (dig_init u21 v n1 n0 u0 g a4 r0 HV.out.1 HV.out.2.1 HN.out HU.out.2 HV.out.2.2.2.2.2.2.2.2.1 HV.out.2.2.2.2.2.1 G1.out A5.out A6.out)
          go_wp2_with fail
          go_loop [18, 16] (fun x1 x2 => ∃ (p r2 : Nat), x1 = .int .u64 p ∧ x2 = .int .u64 r2 ∧ Hid (DigRel u21 v n1 u0 p r2)) (fun x1 _ => (intOf x1).toNat)
          case atStart => exact ⟨g, r0, rfl, rfl, HI.out⟩
          case round =>
            obtain ⟨p, r2, rfl, rfl, HR⟩ := hrel
            by_cases c1 : p * v ≤ u21 * 4294967296 + u0
            · have hstop := dig_stop u21 v n1 n0 u0 p r2 HV.out.1 HV.out.2.1 HU.out.2 HV.out.2.2.2.2.2.1 HR.out c1
              obtain ⟨m1, x1, X1⟩ := wM p n0
              obtain ⟨m2, x2, X2⟩ := wlM r2
              obtain ⟨m3, x3, X3⟩ := wA m2 u0
              have hq : ¬ ((4294967296 : Int) ≤ (p : Int)) := by have := hstop.1; omega
              have hm : ¬ ((m3 : Int) < (m1 : Int)) := by have := dig_noWrap n0 u0 p r2 m1 m2 m3 HV.out.2.1 HV.out.2.2.2.2.2.1 hstop.1 HR.out.2.1 X1.out X2.out X3.out; have h3 := hstop.2; omega
              have HQ0 : Hid (p * v ≤ u21 * 4294967296 + u0 ∧ u21 * 4294967296 + u0 < (p + 1) * v ∧ p < 4294967296) := ⟨c1, HR.out.2.2, hstop.1⟩
              obtain ⟨b1, y1, Y1⟩ := wMl q'
              obtain ⟨b2, y2, Y2⟩ := wA b1 p
              obtain ⟨b3, y3, Y3⟩ := wMl u21
              obtain ⟨b4, y4, Y4⟩ := wA b3 u0
              obtain ⟨b5, y5, Y5⟩ := wM p v
              obtain ⟨b6, y6, Y6⟩ := wS b4 b5 (by have := Y5.out; omega)
              have HF := hide (div_fin hi lo y s v u32 u10 u1 u0 n1 n0 q' p u21 b1 b2 b3 b4 b5 b6 HV.out HQ.out HU.out HQ0.out h1 Y1.out Y2.out Y3.out Y4.out Y5.out Y6.out)
              clear hstop c1
              go_wp2_with fail
              go_ret2
              exact ⟨rr2 (by rw [← HDQ.out, HF.out.1]) (by rw [← HDR.out, HF.out.2]; exact sh2 b6 s), rfl⟩
            · have hs2 := dig_dec u21 v n1 n0 u0 p r2 HV.out.1 HV.out.2.1 HN.out.1 HU.out.2 HV.out.2.2.2.2.2.1 HR.out c1
              obtain ⟨p', z1, Z1⟩ := wS1 p
              obtain ⟨r2', z2, Z2⟩ := wA r2 n1
              obtain ⟨hp, hd, hb⟩ := hs2 p' r2' (by have := HR.out.2.1; have := HV.out; omega) (bnd_u21 u21 v n1 p r2 HV.out.2.2.1 HU.out.2 HV.out.2.2.2.2.2.2.2.2.1 HR.out.1) Z1.out Z2.out
              have hp := hide hp
              have hd := hide hd
              have hb := hide hb
              by_cases hq : 4294967296 ≤ p
              · have hqI : (4294967296 : Int) ≤ (p : Int) := by omega
                by_cases hr : 4294967296 ≤ r2'
                · have hrI : (4294967296 : Int) ≤ (r2' : Int) := by omega
                  have HQ0 : Hid (p' * v ≤ u21 * 4294967296 + u0 ∧ u21 * 4294967296 + u0 < (p' + 1) * v ∧ p' < 4294967296) := hb.out hr
                  obtain ⟨b1, y1, Y1⟩ := wMl q'
                  obtain ⟨b2, y2, Y2⟩ := wA b1 p'
                  obtain ⟨b3, y3, Y3⟩ := wMl u21
                  obtain ⟨b4, y4, Y4⟩ := wA b3 u0
                  obtain ⟨b5, y5, Y5⟩ := wM p' v
                  obtain ⟨b6, y6, Y6⟩ := wS b4 b5 (by have := Y5.out; omega)
                  have HF := hide (div_fin hi lo y s v u32 u10 u1 u0 n1 n0 q' p' u21 b1 b2 b3 b4 b5 b6 HV.out HQ.out HU.out HQ0.out h1 Y1.out Y2.out Y3.out Y4.out Y5.out Y6.out)
                  clear c1 hq hr hs2
                  go_wp2_with fail
                  go_ret2
                  exact ⟨rr2 (by rw [← HDQ.out, HF.out.1]) (by rw [← HDR.out, HF.out.2]; exact sh2 b6 s), rfl⟩
                · have hrI : ¬ ((4294967296 : Int) ≤ (r2' : Int)) := by omega
                  have HD := hide (hd.out (by omega))
                  have hlt : p' < p := hp.out
                  clear c1 hq hr hs2
                  go_wp2_with fail
                  exact ⟨⟨p', r2', rfl, rfl, HD.out⟩, by simp [intOf]; omega⟩
              · obtain ⟨m1, x1, X1⟩ := wM p n0
                obtain ⟨m2, x2, X2⟩ := wlM r2
                obtain ⟨m3, x3, X3⟩ := wA m2 u0
                have hqI : ¬ ((4294967296 : Int) ≤ (p : Int)) := by omega
                have hm : ((m3 : Int) < (m1 : Int)) := by
                  have h4 := dig_noWrap n0 u0 p r2 m1 m2 m3 HV.out.2.1 HV.out.2.2.2.2.2.1 (by omega) HR.out.2.1 X1.out X2.out X3.out
                  have h5 := dig_iff u21 v n1 n0 u0 p r2 HV.out.1 HR.out.1
                  omega
                by_cases hr : 4294967296 ≤ r2'
                · have hrI : (4294967296 : Int) ≤ (r2' : Int) := by omega
                  have HQ0 : Hid (p' * v ≤ u21 * 4294967296 + u0 ∧ u21 * 4294967296 + u0 < (p' + 1) * v ∧ p' < 4294967296) := hb.out hr
                  obtain ⟨b1, y1, Y1⟩ := wMl q'
                  obtain ⟨b2, y2, Y2⟩ := wA b1 p'
                  obtain ⟨b3, y3, Y3⟩ := wMl u21
                  obtain ⟨b4, y4, Y4⟩ := wA b3 u0
                  obtain ⟨b5, y5, Y5⟩ := wM p' v
                  obtain ⟨b6, y6, Y6⟩ := wS b4 b5 (by have := Y5.out; omega)
                  have HF := hide (div_fin hi lo y s v u32 u10 u1 u0 n1 n0 q' p' u21 b1 b2 b3 b4 b5 b6 HV.out HQ.out HU.out HQ0.out h1 Y1.out Y2.out Y3.out Y4.out Y5.out Y6.out)
                  clear c1 hq hr hs2
                  go_wp2_with fail
                  go_ret2
                  exact ⟨rr2 (by rw [← HDQ.out, HF.out.1]) (by rw [← HDR.out, HF.out.2]; exact sh2 b6 s), rfl⟩
                · have hrI : ¬ ((4294967296 : Int) ≤ (r2' : Int)) := by omega
                  have HD := hide (hd.out (by omega))
                  have hlt : p' < p := hp.out
                  clear c1 hq hr hs2
                  go_wp2_with fail
                  exact ⟨⟨p', r2', rfl, rfl, HD.out⟩, by simp [intOf]; omega⟩
        · have hrI : ¬ ((4294967296 : Int) ≤ (r' : Int)) := by omega
          have HD := hide (hd.out (by omega))
          have hlt : q' < q := hp.out
          clear c1 hq hr hs2
          go_wp2_with fail
          exact ⟨⟨q', r', rfl, rfl, HD.out⟩, by simp [intOf]; omega⟩
end Go.Proofs.YtkhlhlldlikleaaDoor
