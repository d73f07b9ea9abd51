/- varint: pure parts; the program's functions over 64 bits (groups, Size, Zigzag, appendGroups, Append, behind, Read). Conditions: the slices read as bytes. -/
import Derived.KernelRfl
import Derived.Test.YtjmigglibidbdaaMulX
import Derived.Test.YtjmigglibidbdaaBase
import Derived.Test.YtjmigglibidbdaaLen6
import Derived.Test.YtjmigglibidbdaaByB
import Derived.Test.YtjmigglibidbdaaSpoA
namespace Go.Proofs.Ytjmigglibidbdaa
set_option linter.unusedVariables false
set_option linter.unusedSimpArgs false
open Go Go.RowKit
/-- The bytes of a number: its groups of seven bits, the least significant one first, 128 added to each that another one follows. -/
def encB (n : Nat) : List Nat := if h : n < 128 then [n] else (n % 128 + 128) :: encB (n / 128)
termination_by n
decreasing_by omega
/-- What bytes stand for. -/
def decB : List Nat → Nat
  | [] => 0
  | b :: l => b % 128 + 128 * decB l
/-- Bytes that end with the first one below 128, which is 0 only if it is alone. -/
def Canon : List Nat → Prop
  | [] => False
  | [b] => b < 128
  | b :: c :: l => 128 ≤ b ∧ b < 256 ∧ Canon (c :: l) ∧ (l = [] → c ≠ 0)
theorem encB_small {n : Nat} (h : n < 128) : encB n = [n] := by rw [encB, dif_pos h]
theorem encB_big {n : Nat} (h : 128 ≤ n) : encB n = (n % 128 + 128) :: encB (n / 128) := by rw [encB, dif_neg (by omega)]
theorem encB_ne (n : Nat) : encB n ≠ [] := by
  by_cases h : n < 128
  · rw [encB_small h]; simp
  · rw [encB_big (by omega)]; simp
theorem decB_encB (n : Nat) : decB (encB n) = n := by
  induction n using Nat.strongRecOn with
  | ind n ih =>
    by_cases h : n < 128
    · rw [encB_small h]; simp [decB]; omega
    · rw [encB_big (by omega)]
      simp only [decB]
      rw [ih (n / 128) (by omega)]; omega
theorem encB_canon (n : Nat) : Canon (encB n) := by
  induction n using Nat.strongRecOn with
  | ind n ih =>
    by_cases h : n < 128
    · rw [encB_small h]; exact h
    · rw [encB_big (by omega)]
      have k := ih (n / 128) (by omega)
      by_cases h2 : n / 128 < 128
      · rw [encB_small h2] at k ⊢
        exact ⟨by omega, by omega, k, fun _ => by omega⟩
      · rw [encB_big (by omega)] at k ⊢
        refine ⟨by omega, by omega, k, fun e => absurd e (encB_ne _)⟩
theorem decB_pos : ∀ (l : List Nat), Canon l → (∀ b, l = [b] → b ≠ 0) → 0 < decB l
  | [], h, _ => absurd h (by simp [Canon])
  | [b], h, k => by
    have := k b rfl
    have hb : b < 128 := h
    simp [decB]; omega
  | b :: c :: l, h, _ => by
    have := decB_pos (c :: l) h.2.2.1 (fun d e => by
      have e1 : c = d ∧ l = [] := by simpa using e
      rw [← e1.1]; exact h.2.2.2 e1.2)
    simp only [decB] at this ⊢
    omega
/-- Encodings are canonical. -/
theorem encB_decB : ∀ (l : List Nat), Canon l → encB (decB l) = l
  | [], h => absurd h (by simp [Canon])
  | [b], h => by
    have hb : b < 128 := h
    have e : decB [b] = b := by simp [decB]; omega
    rw [e, encB_small hb]
  | b :: c :: l, h => by
    obtain ⟨h1, h2, h3, h4⟩ := h
    have ih := encB_decB (c :: l) h3
    have hp := decB_pos (c :: l) h3 (fun d e => by
      have e1 : c = d ∧ l = [] := by simpa using e
      rw [← e1.1]; exact h4 e1.2)
    have e : decB (b :: c :: l) = b % 128 + 128 * decB (c :: l) := rfl
    rw [e, encB_big (by omega)]
    have e1 : (b % 128 + 128 * decB (c :: l)) % 128 + 128 = b := by omega
    have e2 : (b % 128 + 128 * decB (c :: l)) / 128 = decB (c :: l) := by omega
    rw [e1, e2, ih]
theorem encB_length_le (n k : Nat) (h : n < 128 ^ (k + 1)) : (encB n).length ≤ k + 1 := by
  induction k generalizing n with
  | zero => rw [encB_small (by simpa using h)]; simp
  | succ k ih =>
    by_cases h1 : n < 128
    · rw [encB_small h1]; simp
    · rw [encB_big (by omega)]
      have := ih (n / 128) (by rw [Nat.pow_succ] at h; exact Nat.div_lt_of_lt_mul (by rw [Nat.mul_comm]; exact h))
      simp; omega
theorem encB_length_gt (n k : Nat) (h : 128 ^ k ≤ n) : k + 1 ≤ (encB n).length := by
  induction k generalizing n with
  | zero => have := encB_ne n; have : 0 < (encB n).length := List.length_pos_iff.2 this; omega
  | succ k ih =>
    have h1 : 128 ≤ n := by
      have : 128 ^ 1 ≤ 128 ^ (k + 1) := Nat.pow_le_pow_right (by omega) (by omega)
      omega
    rw [encB_big h1]
    have := ih (n / 128) (by rw [Nat.pow_succ] at h; exact (Nat.le_div_iff_mul_le (by omega)).2 h)
    simp; omega
theorem encB_mono {a b : Nat} (h : a ≤ b) : (encB a).length ≤ (encB b).length := by
  induction b using Nat.strongRecOn generalizing a with
  | ind b ih =>
    by_cases h1 : a < 128
    · rw [encB_small h1]
      have := List.length_pos_iff.2 (encB_ne b)
      simp; omega
    · rw [encB_big (n := a) (by omega), encB_big (n := b) (by omega)]
      have := ih (b / 128) (by omega) (a := a / 128) (Nat.div_le_div_right h)
      simp; omega
/-- No encoding is the beginning of another one. -/
theorem canon_prefix : ∀ (l m : List Nat) (x : List Nat), Canon l → Canon m → l ++ x = m → x = []
  | [], _, _, h, _, _ => absurd h (by simp [Canon])
  | [b], m, x, h, k, e => by
    cases x with
    | nil => rfl
    | cons c x =>
      subst e
      have h1 : b < 128 := h
      have h2 : 128 ≤ b := k.1
      omega
  | b :: c :: l, m, x, h, k, e => by
    cases m with
    | nil => simp at e
    | cons b' m =>
      simp only [List.cons_append, List.cons.injEq] at e
      obtain ⟨rfl, e⟩ := e
      subst e
      exact canon_prefix (c :: l) _ x h.2.2.1 k.2.2.1 rfl
/-- zigzag -/
def zig (v : Int) : Nat := if 0 ≤ v then (2 * v).toNat else (-2 * v - 1).toNat
def zag (n : Nat) : Int := if n % 2 = 0 then (n / 2 : Nat) else -((n / 2 : Nat) : Int) - 1
theorem zag_zig (v : Int) : zag (zig v) = v := by
  unfold zag zig
  by_cases h : 0 ≤ v
  · rw [if_pos h, if_pos (by omega)]; omega
  · rw [if_neg h, if_neg (by omega)]; omega
theorem zig_zag (n : Nat) : zig (zag n) = n := by
  unfold zag zig
  by_cases h : n % 2 = 0
  · rw [if_pos h, if_pos (by omega)]; omega
  · rw [if_neg h, if_neg (by omega)]; omega
theorem zig_lt {v : Int} (h1 : -9223372036854775808 ≤ v) (h2 : v ≤ 9223372036854775807) : zig v < 18446744073709551616 := by
  unfold zig; split <;> omega
theorem zig_near {v w : Int} (h : v.natAbs < w.natAbs) : zig v ≤ zig w := by
  unfold zig; split <;> split <;> omega
/-- The group j of a number. -/
def gr (v j : Nat) : Nat := v / 128 ^ j % 128
/-- k groups of a number, 128 added to each. -/
def grs (v : Nat) : Nat → List Nat
  | 0 => []
  | k + 1 => grs v k ++ [gr v k + 128]
theorem gr_lt (v j : Nat) : gr v j < 128 := Nat.mod_lt _ (by omega)
theorem grs_len (v k : Nat) : (grs v k).length = k := by
  induction k with
  | zero => rfl
  | succ k ih => simp [grs, ih]
theorem gr_succ (v j : Nat) : gr v (j + 1) = gr (v / 128) j := by
  unfold gr; rw [Nat.pow_succ, Nat.div_div_eq_div_mul, Nat.mul_comm]
theorem grs_succ (v : Nat) : ∀ k, grs v (k + 1) = (v % 128 + 128) :: grs (v / 128) k
  | 0 => by simp [grs, gr]
  | k + 1 => by
    show grs v (k + 1) ++ [gr v (k + 1) + 128] = _
    rw [grs_succ v k, gr_succ]; rfl
/-- An encoding, group by group. -/
theorem encB_grs (v k : Nat) (h : (encB v).length = k + 1) : encB v = grs v k ++ [gr v k] := by
  induction k generalizing v with
  | zero =>
    by_cases h1 : v < 128
    · rw [encB_small h1]; simp [grs, gr]; omega
    · rw [encB_big (by omega)] at h
      have := List.length_pos_iff.2 (encB_ne (v / 128))
      rw [List.length_cons] at h; omega
  | succ k ih =>
    by_cases h1 : v < 128
    · rw [encB_small h1] at h; simp at h
    · rw [encB_big (by omega)] at h ⊢
      rw [ih (v / 128) (by simpa using h), grs_succ, gr_succ]; rfl
theorem encB_pos (v : Nat) : 1 ≤ (encB v).length := List.length_pos_iff.2 (encB_ne v)
/-- The bytes up to the first one below 128, of at most so many. -/
def scanG : Nat → List Nat → Option (List Nat)
  | 0, _ => none
  | _ + 1, [] => none
  | m + 1, b :: l => if b < 128 then some [b] else (scanG m l).map (b :: ·)
theorem scanG_some : ∀ (m : Nat) (l g : List Nat), scanG m l = some g → ∃ r x, g = r ++ [x] ∧ x < 128 ∧ (∀ y ∈ r, 128 ≤ y) ∧ g <+: l ∧ g.length ≤ m
  | m + 1, b :: l, g, h => by
    unfold scanG at h
    by_cases hb : b < 128
    · rw [if_pos hb] at h
      have h := Option.some.inj h
      subst h
      exact ⟨[], b, rfl, hb, by simp, ⟨l, rfl⟩, by simp⟩
    · rw [if_neg hb] at h
      cases hs : scanG m l with
      | none => rw [hs] at h; cases h
      | some g' =>
        rw [hs] at h
        have h := Option.some.inj h
        subst h
        obtain ⟨r, x, rfl, hx, hr, ⟨t, ht⟩, hl⟩ := scanG_some m l g' hs
        refine ⟨b :: r, x, rfl, hx, ?_, ⟨t, by rw [← ht]; rfl⟩, by simp at hl ⊢; omega⟩
        intro y hy
        rcases List.mem_cons.1 hy with rfl | hy
        · omega
        · exact hr y hy
/-- Found at the place j. -/
theorem scanG_at : ∀ (m : Nat) (l : List Nat) (j : Nat), j < m → j < l.length → l.getD j 0 < 128 → (∀ i, i < j → 128 ≤ l.getD i 0) → scanG m l = some (l.take (j + 1))
  | m + 1, b :: l, 0, _, _, h, _ => by
    have h : b < 128 := h
    unfold scanG; rw [if_pos h]; rfl
  | m + 1, b :: l, j + 1, h1, h2, h, hr => by
    have hb : 128 ≤ b := hr 0 (by omega)
    unfold scanG
    rw [if_neg (by omega), scanG_at m l j (by omega) (by simpa using h2) (by simpa using h) (fun i hi => by have := hr (i + 1) (by omega); simpa using this)]
    rfl
theorem scanG_none : ∀ (m : Nat) (l : List Nat), (∀ i, i < m → i < l.length → 128 ≤ l.getD i 0) → scanG m l = none
  | 0, _, _ => rfl
  | _ + 1, [], _ => rfl
  | m + 1, b :: l, hr => by
    have hb : 128 ≤ b := hr 0 (by omega) (by simp)
    unfold scanG
    rw [if_neg (by omega), scanG_none m l (fun i hi h2 => by have := hr (i + 1) (by omega) (by simpa using h2); simpa using this)]
    rfl
/-- Word i of a number. -/
def w5 (C i : Nat) : Nat := C / 18446744073709551616 ^ i % 18446744073709551616
theorem w5_lt (C i : Nat) : w5 C i < 18446744073709551616 := Nat.mod_lt _ (by omega)
theorem w5_top (C : Nat) (h : C < 18446744073709551616 ^ 5) : w5 C 5 = 0 := by
  unfold w5; rw [Nat.div_eq_of_lt h]
theorem down_div (C p i : Nat) : C / p / 18446744073709551616 ^ i = C / 18446744073709551616 ^ i / p := by
  rw [Nat.div_div_eq_div_mul, Nat.div_div_eq_div_mul, Nat.mul_comm]
theorem up_div (X : Nat) (i : Nat) : X / 18446744073709551616 ^ (i + 1) = X / 18446744073709551616 ^ i / 18446744073709551616 := by
  rw [Nat.pow_succ, Nat.div_div_eq_div_mul]
theorem down7 (C i : Nat) : w5 (C / 128) i = w5 C i / 128 + w5 C (i + 1) * 144115188075855872 % 18446744073709551616 := by
  unfold w5
  rw [down_div, up_div]
  generalize C / 18446744073709551616 ^ i = X
  omega
theorem down1 (C i : Nat) : w5 (C / 2) i = w5 C i / 2 + w5 C (i + 1) * 9223372036854775808 % 18446744073709551616 := by
  unfold w5
  rw [down_div, up_div]
  generalize C / 18446744073709551616 ^ i = X
  omega
theorem up7_0 (C : Nat) : w5 (C * 128) 0 = w5 C 0 * 128 % 18446744073709551616 := by
  unfold w5; simp only [Nat.pow_zero, Nat.div_one]; omega
theorem up1_0 (C : Nat) : w5 (C * 2) 0 = w5 C 0 * 2 % 18446744073709551616 := by
  unfold w5; simp only [Nat.pow_zero, Nat.div_one]; omega
theorem mul_split (X m n p : Nat) (hn : 0 < n) (hpm : p * m = 18446744073709551616) : X * p / 18446744073709551616 = X / m := by
  have hp : 0 < p := by
    rcases Nat.eq_zero_or_pos p with h | h
    · subst h; omega
    · exact h
  rw [← hpm, Nat.mul_comm X p, Nat.mul_div_mul_left _ _ hp]
theorem up7 (C i : Nat) : w5 (C * 128) (i + 1) = w5 C (i + 1) * 128 % 18446744073709551616 + w5 C i / 144115188075855872 := by
  unfold w5
  have e : C * 128 / 18446744073709551616 ^ (i + 1) = C / 18446744073709551616 ^ i / 144115188075855872 := by
    rw [Nat.pow_succ, Nat.mul_comm (18446744073709551616 ^ i), ← Nat.div_div_eq_div_mul, mul_split C 144115188075855872 1 128 (by omega) (by omega), Nat.div_div_eq_div_mul, Nat.div_div_eq_div_mul, Nat.mul_comm]
  rw [e, up_div]
  generalize C / 18446744073709551616 ^ i = X
  omega
theorem up1 (C i : Nat) : w5 (C * 2) (i + 1) = w5 C (i + 1) * 2 % 18446744073709551616 + w5 C i / 9223372036854775808 := by
  unfold w5
  have e : C * 2 / 18446744073709551616 ^ (i + 1) = C / 18446744073709551616 ^ i / 9223372036854775808 := by
    rw [Nat.pow_succ, Nat.mul_comm (18446744073709551616 ^ i), ← Nat.div_div_eq_div_mul, mul_split C 9223372036854775808 1 2 (by omega) (by omega), Nat.div_div_eq_div_mul, Nat.div_div_eq_div_mul, Nat.mul_comm]
  rw [e, up_div]
  generalize C / 18446744073709551616 ^ i = X
  omega
theorem p_groups (n m : Int) (w : World) (h0 : 0 ≤ n) (h1 : n ≤ 10000) (hm : max 1 ((n + 7 - 1) / 7) = m) : Calls Try.prog 63 #[.int .i64 n] w (RetSame (.int .i64 m) w) := by
  go_enter Try.func63, Try.ntmps63
  go_wp2_with fail
  go_ret
  exact ⟨rfl, rfl⟩
theorem b_lenQ (x : Nat) (w : World) (hx : x < 18446744073709551616) (h0 : 0 < x) : Calls Try.prog 51 #[.int .u64 (x : Int)] w fun e w' => ∃ s : Nat, e = .returned (.int .i64 (s : Int)) ∧ 1 ≤ s ∧ s ≤ 64 ∧ x < 2 ^ s ∧ 2 ^ (s - 1) ≤ x ∧ w = w' := by
  refine (p_len64 x w hx).mono ?_
  rintro e w' ⟨rfl, rfl⟩
  obtain ⟨i1, i2, i3⟩ := bitLen_spec x hx
  obtain ⟨j1, j2⟩ := i3 (by omega)
  exact ⟨Lib.bitLen x, rfl, j1, i1, i2, j2, rfl⟩
theorem b_len0 (w : World) : Calls Try.prog 51 #[.int .u64 0] w (RetSame (.int .i64 0) w) := by
  refine (Go.Proofs.Any.bits_Len64 (P := Try.prog) (ρ := l64Ren) l64Lays 0 w (by omega) (by omega)).mono ?_
  rintro e w' ⟨rfl, rfl⟩
  exact ⟨by rw [show Lib.bitLen (0 : Int).toNat = 0 by decide +kernel]; rfl, rfl⟩
theorem pow_seven (k : Nat) : 2 ^ (7 * k) = 128 ^ k := by rw [Nat.pow_mul]
theorem size_groups {v s : Nat} (h1 : 2 ^ s ≤ v) (h2 : v < 2 ^ (s + 1)) : (encB v).length = (s + 7) / 7 := by
  have a : v < 128 ^ (s / 7 + 1) := by
    rw [← pow_seven]
    exact Nat.lt_of_lt_of_le h2 (Nat.pow_le_pow_right (by omega) (by omega))
  have b : 128 ^ (s / 7) ≤ v := by
    rw [← pow_seven]
    exact Nat.le_trans (Nat.pow_le_pow_right (by omega) (by omega)) h1
  have a' := encB_length_le v _ a
  have b' := encB_length_gt v _ b
  omega
theorem p_size (v : Nat) (w : World) (hv : v < 18446744073709551616) : Calls Try.prog 53 #[.int .u64 (v : Int)] w (RetSame (.int .i64 ((encB v).length : Int)) w) := by
  obtain ⟨L, hL⟩ : ∃ L : Int, ((encB v).length : Int) = L := ⟨_, rfl⟩
  rw [hL]
  by_cases h0 : v = 0
  · subst h0
    have hL1 : L = 1 := by rw [← hL, encB_small (by omega)]; rfl
    subst hL1
    clear hL hv
    have kg : Hid (∀ w, Calls Try.prog 63 #[.int .i64 0] w (RetSame (.int .i64 1) w)) := fun w => p_groups 0 1 w (by omega) (by omega) (by omega)
    go_enter Try.func53, Try.ntmps53
    go_wp2_with (first
      | (go_at_call 51; (with_reducible refine (b_len0 _).mono ?_); rintro e w' ⟨rfl, rfl⟩)
      | (go_at_call 63; (with_reducible refine (kg.out _).mono ?_); rintro e w' ⟨rfl, rfl⟩))
    go_ret
    exact ⟨rfl, rfl⟩
  · have kg : Hid (∀ (s : Nat) (w : World), 1 ≤ s → s ≤ 64 → v < 2 ^ s → 2 ^ (s - 1) ≤ v → Calls Try.prog 63 #[.int .i64 (s : Int)] w (RetSame (.int .i64 L) w)) := by
      intro s w h1 h2 h3 h4
      refine p_groups _ _ w (by omega) (by omega) ?_
      obtain ⟨k, rfl⟩ : ∃ k, s = k + 1 := ⟨s - 1, by omega⟩
      have := size_groups (s := k) (by simpa using h4) h3
      rw [← hL, this]
      omega
    have hv0 : 0 < v := by omega
    clear hL h0
    go_enter Try.func53, Try.ntmps53
    go_wp2_with (first
      | (go_at_call 51; (with_reducible refine (b_lenQ v _ hv hv0).mono ?_); rintro e w' ⟨s, rfl, s1, s2, s3, s4, rfl⟩; have kk := hide (kg.out s · s1 s2 s3 s4); clear s3 s4)
      | (go_at_call 63; (with_reducible refine (kk.out _).mono ?_); rintro e w' ⟨rfl, rfl⟩))
    go_ret
    exact ⟨rfl, rfl⟩
theorem ofInt_nat (x : Int) (h0 : 0 ≤ x) (h1 : x < 18446744073709551616) : ((BitVec.ofInt 64 x).toNat : Int) = x := by
  rw [BitVec.toNat_ofInt]; omega
theorem xor_zero64 {x : Int} (h0 : 0 ≤ x) (h1 : x < 18446744073709551616) : bits .xor .u64 x 0 = x := by
  show IntKind.u64.wrap ((BitVec.ofInt 64 x ^^^ BitVec.ofInt 64 0).toNat : Int) = _
  have e : BitVec.ofInt 64 0 = 0#64 := by decide
  rw [e, BitVec.xor_zero, ofInt_nat x h0 h1, wrap_u64']; omega
theorem xor_ones64 {x : Int} (h0 : 0 ≤ x) (h1 : x < 18446744073709551616) : bits .xor .u64 x 18446744073709551615 = 18446744073709551615 - x := by
  show IntKind.u64.wrap ((BitVec.ofInt 64 x ^^^ BitVec.ofInt 64 18446744073709551615).toNat : Int) = _
  have e : BitVec.ofInt 64 18446744073709551615 = BitVec.allOnes 64 := by decide
  have k := ofInt_nat x h0 h1
  rw [e, BitVec.xor_allOnes, BitVec.toNat_not, wrap_u64']
  omega
theorem and_one64 (n : Nat) (h : n < 18446744073709551616) : bits .and .u64 (n : Int) 1 = ((n % 2 : Nat) : Int) := by
  show IntKind.u64.wrap ((BitVec.ofInt 64 n &&& BitVec.ofInt 64 1).toNat : Int) = _
  have e : (BitVec.ofInt 64 1).toNat = 1 := by decide
  have k := ofInt_nat n (by omega) (by omega)
  have k' : (BitVec.ofInt 64 (n : Int)).toNat = n := by omega
  rw [BitVec.toNat_and, e, k', Nat.and_one_is_mod, wrap_u64']
  omega
theorem xor_zero_i {x : Int} (h0 : 0 ≤ x) (h1 : x ≤ 9223372036854775807) : bits .xor .i64 x 0 = x := by
  show IntKind.i64.wrap ((BitVec.ofInt 64 x ^^^ BitVec.ofInt 64 0).toNat : Int) = _
  have e : BitVec.ofInt 64 0 = 0#64 := by decide
  rw [e, BitVec.xor_zero, ofInt_nat x h0 (by omega)]
  exact IntWalk.i64_in _ (by omega)
theorem xor_ones_i {x : Int} (h0 : 0 ≤ x) (h1 : x ≤ 9223372036854775807) : bits .xor .i64 x (-1) = -x - 1 := by
  show IntKind.i64.wrap ((BitVec.ofInt 64 x ^^^ BitVec.ofInt 64 (-1)).toNat : Int) = _
  have e : BitVec.ofInt 64 (-1) = BitVec.allOnes 64 := by decide
  have k := ofInt_nat x h0 (by omega)
  rw [e, BitVec.xor_allOnes, BitVec.toNat_not]
  simp [IntKind.wrap, IntKind.bits, IntKind.signed]
  omega
theorem p_zigzag (v : Int) (w : World) (h1 : -9223372036854775808 ≤ v) (h2 : v ≤ 9223372036854775807) : Calls Try.prog 39 #[.int .i64 v] w (RetSame (.int .u64 (zig v : Int)) w) := by
  by_cases h : 0 ≤ v
  · have e : Hid (bits BinOp.xor IntKind.u64 (v * 2) (v / 9223372036854775808) = (zig v : Int)) := by
      have : v / 9223372036854775808 = 0 := by omega
      show _ = _
      rw [this, xor_zero64 (by omega) (by omega)]; unfold zig; rw [if_pos h]; omega
    go_enter Try.func39, Try.ntmps39
    go_wp2_with fail
    go_ret
    exact ⟨congrArg (fun x => Ending.returned (Value.int .u64 x)) e.out, rfl⟩
  · have e : Hid (bits BinOp.xor IntKind.u64 (IntKind.u64.wrap (IntKind.u64.wrap v * 2)) (IntKind.u64.wrap (v / 9223372036854775808)) = (zig v : Int)) := by
      have a : v / 9223372036854775808 = -1 := by omega
      have b : IntKind.u64.wrap (-1) = 18446744073709551615 := by rw [wrap_u64']; omega
      have c : IntKind.u64.wrap (IntKind.u64.wrap v * 2) = v * 2 + 18446744073709551616 := by rw [wrap_u64', wrap_u64']; omega
      show _ = _
      rw [a, b, c, xor_ones64 (by omega) (by omega)]; unfold zig; rw [if_neg h]; omega
    go_enter Try.func39, Try.ntmps39
    go_wp2_with fail
    go_ret
    exact ⟨congrArg (fun x => Ending.returned (Value.int .u64 x)) e.out.symm.symm, rfl⟩
theorem p_unzigzag (n : Nat) (w : World) (h : n < 18446744073709551616) : Calls Try.prog 62 #[.int .u64 (n : Int)] w (RetSame (.int .i64 (zag n)) w) := by
  have e : Hid (bits BinOp.xor IntKind.i64 ((n : Int) / 2) (wrap64 (-wrap64 (bits BinOp.and IntKind.u64 (n : Int) 1))) = zag n) := by
    show _ = _
    rw [and_one64 n h]
    unfold zag
    by_cases k : n % 2 = 0
    · rw [k, if_pos rfl]
      have a : wrap64 (-wrap64 ((0 : Nat) : Int)) = 0 := by simp [wrap64]
      rw [a, xor_zero_i (by omega) (by omega)]; omega
    · have k1 : n % 2 = 1 := by omega
      rw [k1, if_neg (by omega)]
      have a : wrap64 (-wrap64 ((1 : Nat) : Int)) = -1 := by simp [wrap64]
      rw [a, xor_ones_i (by omega) (by omega)]; omega
  go_enter Try.func62, Try.ntmps62
  go_wp2_with fail
  go_ret
  exact ⟨congrArg (fun x => Ending.returned (Value.int .i64 x)) e.out, rfl⟩
/-- What is returned is owned, made since W; of what was there only block g may have changed. -/
def OwnUpd (g : Nat) (l : List Nat) (W : World) (e : Ending) (w' : World) : Prop := ∃ v, e = .returned v ∧ OwnB W.heap.size w' v l ∧ Upd g W w'
/-- A function that yields group after group; its state lies in block g. -/
structure Yields (f : FuncId) (cp : Array Value) (g : Nat) (St : Nat → World → Prop) (q : Nat → Nat) : Prop where
  call : ∀ j w, St j w → Calls Try.prog f cp w (fun e w' => e = .returned (.int .u8 (q j : Int)) ∧ St (j + 1) w' ∧ Upd g w w')
  keep : ∀ j w w', St j w → w.heap.size ≤ w'.heap.size → w'.heap[g]? = w.heap[g]? → St j w'
  enter : ∀ w, (callFunc f cp).run Try.prog w = .ok (.enter f cp) w
  lt : ∀ j, q j < 128
  inn : ∀ j w, St j w → g < w.heap.size
def qs (q : Nat → Nat) : Nat → List Nat
  | 0 => []
  | k + 1 => qs q k ++ [q k + 128]
theorem qs_len (q : Nat → Nat) (k : Nat) : (qs q k).length = k := by
  induction k with
  | zero => rfl
  | succ k ih => simp [qs, ih]
theorem run_make8 (n m : Nat) (hnm : n ≤ m) (hm : m ≤ 281474976710656) (w : World) : (Instr.makeSlice 29 (.int .i64 (n : Int)) (.int .i64 (m : Int))).run Try.prog w = .ok (.slice (some ⟨w.heap.size, 0, none⟩) n m) (w.alloc (.cells (u8s (List.replicate m 0)).toArray 5)) := by
  obtain ⟨i0, hi0, hz0, hz1, hz2⟩ := info_parts info_u8
  have := run_make (P := Try.prog) w 29 5 i0 (.int .u8 0) Try.underlying29 hi0 hz0 .i64 .i64 (n : Int) (m : Int) (by omega) (by omega) (by rw [hz2]; omega) (by omega)
  rw [this, hz1, Int.toNat_natCast, Int.toNat_natCast]
  have e : madeCells (Value.int .u8 0).cells (m * 1) = (u8s (List.replicate m 0)).toArray := by
    rw [← made8 m]
  rw [e]
theorem grown_at {W w w' : World} {row : Option Nat} {g : Nat} (h : w.grownBy w' row) (hg : g < W.heap.size) (hs : W.heap.size ≤ w.heap.size) (hr : ∀ k, row = some k → W.heap.size ≤ k) : w'.heap[g]? = w.heap[g]? :=
  h.block g (by omega) (fun e => by have := hr g e.symm; omega)
set_option maxRecDepth 100000 in
set_option maxHeartbeats 1600000 in
theorem p_ag (f : Nat) (g : Nat) (St : Nat → World → Prop) (q : Nat → Nat) (A : Option Addr) (c cap k : Nat) (l : List Nat) (W : World) (hY : Yields f #[.pointer (some ⟨g, 0, none⟩)] g St q) (hS : St 0 W) (hb : BytesAt W A l) (hc : l.length = c) (hlen : c ≤ 140737488355264) (hk : k ≤ 36) :
    Calls Try.prog 65 #[.slice A c cap, .int .i64 ((k : Int) + 1), .func (.func f) #[] #[.pointer (some ⟨g, 0, none⟩)]] W (OwnUpd g (l ++ (qs q k ++ [q k])) W) := by
  have hgW := hY.inn 0 W hS
  have hm := fun w => run_make8 c (c + (k + 1)) (by omega) (by omega) w
  have ec : ((c + (k + 1) : Nat) : Int) = (c : Int) + ((k : Int) + 1) := by omega
  rw [ec] at hm
  have E0 := ext_alloc W (.cells (u8s (List.replicate (c + (k + 1)) 0)).toArray 5)
  have hb1 := hb.ext E0
  have hS1 : St 0 (W.alloc (.cells (u8s (List.replicate (c + (k + 1)) 0)).toArray 5)) := hY.keep 0 _ _ hS E0.size (E0.block g hgW)
  have hpos : 0 < (u8s l).length → (some (⟨W.heap.size, 0, none⟩ : Addr)) = some ⟨W.heap.size, 0, none⟩ ∧ ∃ ad, A = some ad ∧ ∀ j v, (u8s l)[j]? = some v → (W.alloc (.cells (u8s (List.replicate (c + (k + 1)) 0)).toArray 5)).cell? (ad.add j) = some v := fun hp => by
    rw [u8s_len] at hp
    obtain ⟨b, off, rfl, _, _⟩ := hb1.2.2 hp
    exact ⟨rfl, _, rfl, cells_of_bytes hb1⟩
  have hsz8 : (Try.prog.info? 5).map (·.size) = some 1 := by kernel_rfl
  have hfit : 0 + (u8s l).length ≤ (u8s (List.replicate (c + (k + 1)) 0)).length := by rw [u8s_len, u8s_len, List.length_replicate]; omega
  have hmin : (u8s l).length = Nat.min c c := by rw [u8s_len, hc]; exact (Nat.min_self c).symm
  have HE0 := hide E0
  have HC := hide hc
  have HI := hide hb.1
  have HY := hide hY
  have hen := hY.enter
  have HS := hide hS
  clear ec hb hS hb1 hS1 hY hc E0
  go_enter Try.func65, Try.ntmps65
  go_wp2_with (refine wpList_copy_splice rfl (.tmp 15) (.tmp 16) 29 29 rfl 5 Try.underlying29 hsz8 (some ⟨W.heap.size, 0, none⟩) A c (c + (k + 1)) c cap rfl rfl W.heap.size 0 (u8s (List.replicate (c + (k + 1)) 0)) 5 (heap_alloc_new W _) (u8s l) hmin hpos hfit (u8s_one l) W.heap.size W HE0.out (Nat.le_refl _) ?_; intro w1 hrow hE1)
  have hO : OwnB W.heap.size w1 (.slice (some ⟨W.heap.size, 0, none⟩) c (c + (k + 1))) l := by
    refine own_of (m := List.replicate (k + 1) 0) (Nat.le_refl _) ?_ HC.out (by simp) (by omega) HI.out
    rw [hrow.out]
    congr 2
    unfold splice
    rw [u8s_app, u8s_len, HC.out]
    simp [u8s]
  have hS1 : Hid (St 0 w1) := HY.out.keep 0 W w1 HS.out hE1.size (hE1.block g hgW)
  have hU1 : Hid (Upd g W w1) := Ext.upd hE1 g
  have hO := hide hO
  clear hrow hE1 hpos hfit hmin hsz8 hm HE0
  go_loopw [7, 20] (fun u i wr => ∃ j : Nat, j ≤ k ∧ i = .int .i64 j ∧ Hid (OwnB W.heap.size wr u (l ++ qs q j)) ∧ Hid (St j wr) ∧ Hid (Upd g W wr)) (fun _ i _ => k - (intOf i).toNat)
  case atStart => exact ⟨0, by omega, rfl, hide (by rw [qs, List.append_nil]; exact hO.out), hS1, hU1⟩
  case round =>
    clear hO hS1 hU1
    obtain ⟨j, hj, rfl, HO, HSt, HU⟩ := hrel
    have hqj := HY.out.lt j
    by_cases hlt : j < k
    · go_wp2_with fail
      (with_reducible refine (HY.out.call j _ HSt.out).mono ?_)
      rintro e w2 ⟨rfl, hS2, hU2⟩
      have hO2 := hide ((HO.out.upd hU2 hgW).alloc (.cells #[Value.int .u8 ((q j : Int) + 128)] 5))
      have hUU := hide ((HU.out.trans hU2).trans (Ext.upd (ext_alloc w2 (.cells #[Value.int .u8 ((q j : Int) + 128)] 5)) g))
      have hgw2 := HY.out.inn _ _ hS2
      have hSS := hide (HY.out.keep (j + 1) _ (w2.alloc (.cells #[Value.int .u8 ((q j : Int) + 128)] 5)) hS2 (by simp) ((ext_alloc w2 _).block g hgw2))
      have hone := hide (one_at w2 (q j + 128) (by omega) (Value.int .u8 ((q j : Int) + 128)) rfl)
      have hsz : W.heap.size ≤ (w2.alloc (.cells #[Value.int .u8 ((q j : Int) + 128)] 5)).heap.size := hUU.out.2.2.2.1
      have hle : (l ++ qs q j).length + [q j + 128].length ≤ 140737488355328 := by rw [List.length_append, qs_len]; have := HC.out; simp; omega
      clear HO HSt HU hS2 hU2
      go_wp2_with (at_builtin; refine wl_append8 rfl (.tmp 22) (.tmp 26) rfl W.heap.size _ _ _ rfl hO2.out _ 1 1 rfl hone.out rfl hle hsz ?_; intro v3 w3 hO3 hG3 hA3)
      have hr := fun k hk => (hO2.out.1.lt k hk).1
      have hO3 := hide hO3
      have hU3 := hide (upd_grown hUU.out hG3 hr)
      have hS3 := hide (HY.out.keep (j + 1) _ w3 hSS.out hG3.size (grown_at hG3 hgW hsz hr))
      clear hG3 hA3 hr hUU hSS hO2 hone hsz hle
      go_wp2_with fail
      go_roundw
      case rel => exact ⟨j + 1, by omega, by go_num, hide (by rw [qs, ← List.append_assoc]; exact hO3.out), hS3, hU3⟩
      case measure => simp [intOf]; omega
    · obtain rfl : j = k := by omega
      go_wp2_with fail
      (with_reducible refine (HY.out.call j _ HSt.out).mono ?_)
      rintro e w2 ⟨rfl, hS2, hU2⟩
      have hO2 := hide ((HO.out.upd hU2 hgW).alloc (.cells #[Value.int .u8 (q j : Int)] 5))
      have hUU := hide ((HU.out.trans hU2).trans (Ext.upd (ext_alloc w2 (.cells #[Value.int .u8 (q j : Int)] 5)) g))
      have hone := hide (one_at w2 (q j) (by omega) (Value.int .u8 (q j : Int)) rfl)
      have hsz : W.heap.size ≤ (w2.alloc (.cells #[Value.int .u8 (q j : Int)] 5)).heap.size := hUU.out.2.2.2.1
      have hle : (l ++ qs q j).length + [q j].length ≤ 140737488355328 := by rw [List.length_append, qs_len]; have := HC.out; simp; omega
      clear HO HSt HU hS2 hU2
      go_wp2_with (at_builtin; refine wl_append8 rfl (.tmp 29) (.tmp 32) rfl W.heap.size _ _ _ rfl hO2.out _ 1 1 rfl hone.out rfl hle hsz ?_; intro v3 w3 hO3 hG3 hA3)
      have hr := fun k hk => (hO2.out.1.lt k hk).1
      have hU3 := hide (upd_grown hUU.out hG3 hr)
      have hO3 := hide hO3
      clear hG3 hA3 hr
      go_wp2_with fail
      go_ret
      exact ⟨_, rfl, by rw [← List.append_assoc]; exact hO3.out, hU3.out⟩
def StV (v g j : Nat) (w : World) : Prop := Blk w g 52 #[.int .u64 ((v / 128 ^ j : Nat) : Int)]
theorem p_next1 (v g j : Nat) (w : World) (hv : v < 18446744073709551616) (h : StV v g j w) : Calls Try.prog 66 #[.pointer (some ⟨g, 0, none⟩)] w (fun e w' => e = .returned (.int .u8 (gr v j : Int)) ∧ StV v g (j + 1) w' ∧ Upd g w w') := by
  have hx : v / 128 ^ j < 18446744073709551616 := Nat.lt_of_le_of_lt (Nat.div_le_self _ _) hv
  have hs := hide (Blk.set_ h 0 (.int .u64 ((v / 128 ^ (j + 1) : Nat) : Int)))
  have e1 : Hid (v / 128 ^ (j + 1) = v / 128 ^ j / 128) := by
    show _ = _
    rw [Nat.pow_succ, Nat.div_div_eq_div_mul]
  have e2 : Hid (gr v j = v / 128 ^ j % 128) := rfl
  have f0 := h.frozen 0
  have c0 : w.cell? ⟨g, 0, none⟩ = some (.int .u64 ((v / 128 ^ j : Nat) : Int)) := h.cell 0
  obtain ⟨x, hxx⟩ : ∃ x, v / 128 ^ j = x := ⟨_, rfl⟩
  rw [hxx] at c0 e1 e2 hx
  have hm : x % 128 < 256 := by omega
  clear h hxx
  have eg : Hid (∀ y : Int, y = (x : Int) % 128 → Ending.returned (.int .u8 y) = .returned (.int .u8 (gr v j : Int))) := fun y hy => by rw [hy, e2.out]; rfl
  have es : Hid (∀ y : Int, y = (x : Int) / 128 → StV v g (j + 1) (w.setCell ⟨g, 0, none⟩ (.int .u64 y))) := fun y hy => by
    have := hs.out
    rw [e1.out] at this
    rw [hy]
    unfold StV
    rw [e1.out]
    simpa using this
  clear hs e1 e2
  go_enter Try.func66, Try.ntmps66
  go_wp2_with fail
  go_ret
  exact ⟨eg.out _ rfl, es.out _ rfl, upd_set _ _ _ _⟩
theorem yields1 (v g : Nat) (hv : v < 18446744073709551616) : Yields 66 #[.pointer (some ⟨g, 0, none⟩)] g (StV v g) (gr v) :=
  ⟨fun j w h => p_next1 v g j w hv h, fun j w w' h hs e => e.trans h, fun w => by go_simp, fun j => gr_lt v j, fun j w h => h.lt⟩
theorem qs_grs (v k : Nat) : qs (gr v) k = grs v k := by
  induction k with
  | zero => rfl
  | succ k ih => simp [qs, grs, ih]
set_option maxRecDepth 100000 in
theorem p_vappend (A : Option Addr) (c cap v : Nat) (l : List Nat) (W : World) (hb : BytesAt W A l) (hc : l.length = c) (hlen : c ≤ 140737488355264) (hv : v < 18446744073709551616) :
    Calls Try.prog 55 #[.slice A c cap, .int .u64 (v : Int)] W (OwnRet (l ++ encB v) W) := by
  obtain ⟨k, hk⟩ : ∃ k, (encB v).length = k + 1 := ⟨(encB v).length - 1, by have := encB_pos v; omega⟩
  have hk9 : k ≤ 9 := by
    have := encB_length_le v 9 (by omega)
    omega
  have e := encB_grs v k hk
  have E0 := ext_alloc W (.cells #[.int .u64 (v : Int)] 52)
  have hB : Blk (W.alloc (.cells #[.int .u64 (v : Int)] 52)) W.heap.size 52 #[.int .u64 (v : Int)] := Blk.new W _ _
  have hS : StV v W.heap.size 0 (W.alloc (.cells #[.int .u64 (v : Int)] 52)) := by
    unfold StV; simpa using hB
  have KZ : Hid (∀ w, Calls Try.prog 53 #[.int .u64 (v : Int)] w (RetSame (.int .i64 ((k : Int) + 1)) w)) := fun w => by
    have := p_size v w hv
    rw [hk] at this
    exact this
  have KA : Hid (Calls Try.prog 65 #[.slice A c cap, .int .i64 ((k : Int) + 1), .func (.func 66) #[] #[.pointer (some ⟨W.heap.size, 0, none⟩)]] (W.alloc (.cells #[.int .u64 (v : Int)] 52)) (OwnUpd W.heap.size (l ++ encB v) (W.alloc (.cells #[.int .u64 (v : Int)] 52)))) := by
    have := p_ag 66 W.heap.size (StV v W.heap.size) (gr v) A c cap k l _ (yields1 v W.heap.size hv) hS (hb.ext E0) hc hlen (by omega)
    rw [qs_grs, ← e] at this
    exact this
  have hmf : ∀ (fn : Fn) (first cap : Array Value) (w : World), (Instr.makeFunc fn first cap).run Try.prog w = .ok (.func fn first cap) w := fun _ _ _ _ => rfl
  have c0 : (W.alloc (.cells #[.int .u64 (v : Int)] 52)).cell? ⟨W.heap.size, 0, none⟩ = some (.int .u64 (v : Int)) := hB.cell 0
  have HE := hide E0
  clear hk e hS hB hb hc E0
  go_enter Try.func55, Try.ntmps55
  go_wp2_with (first
    | (go_at_call 53; (with_reducible refine (KZ.out _).mono ?_); rintro e w1 ⟨rfl, rfl⟩)
    | (go_at_call 65; (with_reducible refine (KA.out).mono ?_); rintro e w2 ⟨u, rfl, hO, hU⟩))
  go_ret
  exact ⟨_, rfl, hO.less HE.out.size, Upd.ext hU HE.out (Nat.le_refl _)⟩
def l8Ren : Go.Shelf.Ren := ⟨fun | 126 => 75 | n => n, fun | 3 => 3 | 5 => 5 | 9 => 9 | n => n, fun | n => n⟩
theorem l8Lays : Go.Proofs.Lays.n126 Try.prog l8Ren := {
  mixed := l64Lays.mixed
  f126 := by kernel_rfl
  t3 := l64Lays.t3
  a3 := l64Lays.a3
  z3 := l64Lays.z3
  v3 := l64Lays.v3
  t5 := l64Lays.t5
  a5 := l64Lays.a5
  z5 := l64Lays.z5
  v5 := l64Lays.v5
  t9 := l64Lays.t9
  a9 := l64Lays.a9
  z9 := l64Lays.z9
  v9 := l64Lays.v9 }
theorem p_len8 (x : Nat) (w : World) (h : x < 256) : Calls Try.prog 75 #[.int .u8 (x : Int)] w (RetSame (.int .i64 (Lib.bitLen x : Int)) w) := by
  refine (Go.Proofs.Any.bits_Len8 (P := Try.prog) (ρ := l8Ren) l8Lays (x : Int) w (by omega) (by omega)).mono ?_
  rintro e w' ⟨rfl, rfl⟩
  exact ⟨by rw [Int.toNat_natCast], rfl⟩
theorem bl8 (x : Nat) (h : x < 128) : Lib.bitLen x ≤ 7 ∧ x < 2 ^ Lib.bitLen x := by
  obtain ⟨a, b, c⟩ := bitLen_spec x (by omega)
  refine ⟨?_, b⟩
  by_cases h0 : x = 0
  · subst h0; decide +kernel
  · obtain ⟨d, e⟩ := c h0
    rcases Nat.lt_or_ge (Lib.bitLen x) 8 with h | h
    · omega
    · have : 2 ^ 7 ≤ 2 ^ (Lib.bitLen x - 1) := Nat.pow_le_pow_right (by omega) (by omega)
      omega
/-- Groups are those of a number of so many bits. -/
def okG (width : Nat) (g : List Nat) : Bool := !(decide (g.getLastD 0 = 0) && decide (1 < g.length)) && decide (7 * (g.length - 1) + Lib.bitLen (g.getLastD 0) ≤ width)
/-- The index behind the groups, and the error. -/
def bhd (l : List Nat) (at_ : Int) (width most : Nat) : Int × Int :=
  if at_ < 0 ∨ (l.length : Int) < at_ then (0, 2)
  else match scanG most (l.drop at_.toNat) with
    | none => (0, if l.length - at_.toNat < most then 4 else 5)
    | some g => if okG width g then (at_ + g.length, 0) else (0, 5)
theorem run_mid (A : Option Addr) (n a e cap : Nat) (hk : a ≤ e) (he : e ≤ cap) (w : World) : (Instr.slice 29 (.slice A n cap) (some (.int .i64 (a : Int))) (some (.int .i64 (e : Int))) none).run Try.prog w = .ok (.slice (if cap = a then A else A.map (·.add (a * 1))) (e - a) (cap - a)) w := by
  have hE : Try.prog.elem 29 = 5 := by kernel_rfl
  have hz := Try.sizeOf5
  rw [run_slice_lh w 29 A n cap (by kernel_rfl) .i64 .i64 a e (by omega) (by omega) (by omega), hE, hz]
  simp [Result.andThen, sliced]
theorem okG_form {width j x : Nat} {g : List Nat} (hl : g.length = j + 1) (hx : g.getLastD 0 = x) : okG width g = (!(decide (x = 0) && decide (0 < j)) && decide (7 * j + Lib.bitLen x ≤ width)) := by
  unfold okG
  rw [hl, hx]
  have e1 : decide (1 < j + 1) = decide (0 < j) := by
    by_cases h : 0 < j
    · rw [decide_eq_true h, decide_eq_true (by omega)]
    · rw [decide_eq_false h, decide_eq_false (by omega)]
  rw [e1, Nat.add_sub_cancel]
theorem last_take {l : List Nat} {j : Nat} (h : j < l.length) : (l.take (j + 1)).getLastD 0 = l.getD j 0 := by
  rw [take_succ h]; simp
set_option maxRecDepth 100000 in
set_option maxHeartbeats 1600000 in
theorem p_behind (A : Option Addr) (c cap : Nat) (l : List Nat) (at_ : Int) (width most : Nat) (W : World) (hb : BytesAt W A l) (hc : l.length = c) (hcap : c ≤ cap) (hcap2 : c ≤ 4611686018427387904) (hat : I64 at_) (hw : width ≤ 300) (hmost : most ≤ 50) (hm : max 1 (((width : Int) + 7 - 1) / 7) = (most : Int)) (r1 r2 : Int) (hr : bhd l at_ width most = (r1, r2)) :
    Calls Try.prog 72 #[.slice A c cap, .int .i64 at_, .int .i64 (width : Int)] W (RetSame (.tuple #[.int .i64 r1, .int .i64 r2]) W) := by
  have KG : Hid (∀ w, Calls Try.prog 63 #[.int .i64 (width : Int)] w (RetSame (.int .i64 (most : Int)) w)) := fun w => p_groups _ _ w (by omega) (by omega) hm
  clear hm
  obtain ⟨a1, a2⟩ := hat
  by_cases h1 : at_ < 0 ∨ (c : Int) < at_
  · unfold bhd at hr
    rw [hc, if_pos h1] at hr
    obtain ⟨rfl, rfl⟩ := Prod.mk.inj hr
    by_cases h0 : at_ < 0
    · have d0 : decide (at_ < 0) = true := decide_eq_true h0
      clear h1
      go_enter Try.func72, Try.ntmps72
      go_wp2_with fail
      go_ret2
      exact ⟨rfl, rfl⟩
    · have d0 : decide (at_ < 0) = false := decide_eq_false h0
      have h2 : (c : Int) < at_ := by omega
      have d1 : decide ((c : Int) < at_) = true := decide_eq_true h2
      clear h1
      go_enter Try.func72, Try.ntmps72
      go_wp2_with fail
      go_ret2
      exact ⟨rfl, rfl⟩
  · have h0 : ¬ at_ < 0 := by omega
    obtain ⟨a, rfl⟩ := Int.eq_ofNat_of_zero_le (show 0 ≤ at_ by omega)
    have hac : a ≤ c := by omega
    have hr' : (match scanG most (l.drop a) with | none => (0, if c - a < most then 4 else 5) | some g => if okG width g then ((a : Int) + g.length, 0) else (0, 5)) = (r1, r2) := by
      unfold bhd at hr
      rw [hc, if_neg h1, Int.toNat_natCast] at hr
      exact hr
    obtain ⟨D, hD⟩ : ∃ D, l.drop a = D := ⟨_, rfl⟩
    obtain ⟨e, he⟩ : ∃ e, min (a + most) c = e := ⟨_, rfl⟩
    have hmin : min ((a : Int) + (most : Int)) (c : Int) = (e : Int) := by omega
    have hae : a ≤ e := by omega
    have hec : e ≤ c := by omega
    have hs := run_mid A c a e cap hae (by omega)
    have hbs := (hb.drop a cap (by omega)).take (e - a)
    obtain ⟨A2, hA2⟩ : ∃ A2, (if cap = a then A else A.map (·.add (a * 1))) = A2 := ⟨_, rfl⟩
    have hDl : D.length = c - a := by rw [← hD, List.length_drop, hc]
    rw [hA2] at hs hbs
    rw [hD] at hbs hr'
    have hlen : (D.take (e - a)).length = e - a := by rw [List.length_take, hDl]; omega
    have hget : ∀ j, j < e - a → (D.take (e - a)).getD j 0 = D.getD j 0 := fun j hj => by
      simp [List.getD_eq_getElem?_getD, List.getElem?_take, hj]
    have nd0 : decide ((a : Int) < 0) = false := decide_eq_false h0
    have n1 : ¬ (c : Int) < (a : Int) := by omega
    have nd1 : decide ((c : Int) < (a : Int)) = false := decide_eq_false n1
    obtain ⟨m, hmm⟩ : ∃ m, e - a = m := ⟨_, rfl⟩
    rw [hmm] at hs hbs hlen hget
    have hHr := hide hr'
    have hHD := hide hDl
    have hHb := hide hbs
    have hHl := hide hlen
    have hHg := hide hget
    have hHm : Hid (m = min most (c - a)) := by
      show _ = _
      omega
    have hem : a + m = e := by omega
    have hHem := hide hem
    have hm50 : m ≤ 50 := by omega
    clear hr hr' hbs hlen hget hDl hA2 hD he hb hc hmm hem h1
    go_enter Try.func72, Try.ntmps72
    go_wp2_with (go_at_call 63; (with_reducible refine (KG.out _).mono ?_); rintro e w1 ⟨rfl, rfl⟩)
    go_loop [31] (fun i => ∃ j : Nat, j ≤ m ∧ i = .int .i64 j ∧ Hid (∀ i, i < j → 128 ≤ D.getD i 0)) (fun i => m - (intOf i).toNat)
    case atStart => exact ⟨0, by omega, rfl, fun i h => by omega⟩
    case round =>
      obtain ⟨j, hj, rfl, HI⟩ := hrel
      by_cases hlt : j < m
      · obtain ⟨b, off, rfl, hbW, hcl⟩ := hHb.out.2.2 (by rw [hHl.out]; omega)
        have d1 := hcl j (by rw [hHl.out]; exact hlt)
        rw [hHg.out j hlt] at d1
        have hx256 : D.getD j 0 < 256 := by rw [← hHg.out j hlt]; exact hHb.out.1.get j
        obtain ⟨x, hx⟩ : ∃ x, D.getD j 0 = x := ⟨_, rfl⟩
        rw [hx] at d1 hx256
        have Hx := hide hx
        clear hcl hx hbW
        by_cases h128 : 128 ≤ x
        · go_wp2_with fail
          go_round
          case rel => exact ⟨j + 1, by omega, by go_num, fun i hi => by
            rcases Nat.lt_or_ge i j with h | h
            · exact HI.out i h
            · obtain rfl : i = j := by omega
              rw [Hx.out]; exact h128⟩
          case measure => simp [intOf]; omega
        · have hjD : j < D.length := by have := hHD.out; have := hHm.out; omega
          have hsc := scanG_at most D j (by have := hHm.out; omega) hjD (by rw [Hx.out]; omega) HI.out
          have hfin := hHr.out
          rw [hsc] at hfin
          simp only [okG_form (g := D.take (j + 1)) (width := width) (j := j) (x := x) (by rw [List.length_take]; omega) (by rw [last_take hjD]; exact Hx.out), List.length_take] at hfin
          rw [show min (j + 1) D.length = j + 1 by omega] at hfin
          have hbl := bl8 x (by omega)
          have KL : Hid (∀ w, Calls Try.prog 75 #[.int .u8 (x : Int)] w (RetSame (.int .i64 (Lib.bitLen x : Int)) w)) := fun w => p_len8 x w hx256
          obtain ⟨y, hy⟩ : ∃ y, Lib.bitLen x = y := ⟨_, rfl⟩
          rw [hy] at hfin hbl KL
          have hy7 := hbl.1
          have hxn : ¬ (128 : Int) ≤ (x : Int) := by omega
          clear hbl hy hsc HI
          by_cases hz : x = 0 ∧ 0 < j
          · obtain ⟨hz1, hz2⟩ := hz
            have q1 : ((x : Int) == 0) = true := beq_iff_eq.2 (by omega)
            rw [decide_eq_true hz1, decide_eq_true hz2] at hfin
            obtain ⟨rfl, rfl⟩ : 0 = r1 ∧ 5 = r2 := by simpa using hfin
            have q2 : (0 : Int) < (j : Int) := by omega
            clear hfin hz1
            go_wp2_with (go_at_call 75; (with_reducible refine (KL.out _).mono ?_); rintro e w1 ⟨rfl, rfl⟩)
            go_ret2
            exact ⟨rfl, rfl⟩
          · have hzb : (!(decide (x = 0) && decide (0 < j))) = true := by
              by_cases h : x = 0
              · rw [decide_eq_true h, decide_eq_false (by omega)]; rfl
              · rw [decide_eq_false h]; rfl
            rw [hzb] at hfin
            clear hzb
            have fin1 : Hid (7 * j + y ≤ width → (a : Int) + (j : Int) + 1 = r1 ∧ 0 = r2) := fun h => by
              rw [decide_eq_true h] at hfin
              have := Prod.mk.inj (show ((a : Int) + ((j + 1 : Nat) : Int), (0 : Int)) = (r1, r2) from hfin)
              exact ⟨by omega, this.2⟩
            have fin2 : Hid (¬ 7 * j + y ≤ width → 0 = r1 ∧ 5 = r2) := fun h => by
              rw [decide_eq_false h] at hfin
              exact Prod.mk.inj (show ((0 : Int), (5 : Int)) = (r1, r2) from hfin)
            clear hfin
            by_cases h0x : x = 0
            · have q1 : ((x : Int) == 0) = true := beq_iff_eq.2 (by omega)
              have q2 : ¬ (0 : Int) < (j : Int) := by omega
              have HZ := hide h0x
              clear hz h0x
              by_cases hwd : 7 * j + y ≤ width
              · obtain ⟨rfl, rfl⟩ := fin1.out hwd
                have q3 : ¬ (width : Int) < (j : Int) * 7 + (y : Int) := by omega
                have ej : (a : Int) + (j : Int) + 1 = (a : Int) + 1 := by omega
                rw [ej]
                clear ej
                clear fin1 fin2
                go_wp2_with (go_at_call 75; (with_reducible refine (KL.out _).mono ?_); rintro e w1 ⟨rfl, rfl⟩)
                go_ret2
                exact ⟨rfl, rfl⟩
              · obtain ⟨rfl, rfl⟩ := fin2.out hwd
                have q3 : (width : Int) < (j : Int) * 7 + (y : Int) := by omega
                clear fin1 fin2
                go_wp2_with (go_at_call 75; (with_reducible refine (KL.out _).mono ?_); rintro e w1 ⟨rfl, rfl⟩)
                go_ret2
                exact ⟨rfl, rfl⟩
            · have q1 : ((x : Int) == 0) = false := beq_eq_false_iff_ne.2 (by omega)
              have HZ := hide h0x
              clear hz h0x
              by_cases hwd : 7 * j + y ≤ width
              · obtain ⟨rfl, rfl⟩ := fin1.out hwd
                have q3 : ¬ (width : Int) < (j : Int) * 7 + (y : Int) := by omega
                clear fin1 fin2
                go_wp2_with (go_at_call 75; (with_reducible refine (KL.out _).mono ?_); rintro e w1 ⟨rfl, rfl⟩)
                go_ret2
                exact ⟨rfl, rfl⟩
              · obtain ⟨rfl, rfl⟩ := fin2.out hwd
                have q3 : (width : Int) < (j : Int) * 7 + (y : Int) := by omega
                clear fin1 fin2
                go_wp2_with (go_at_call 75; (with_reducible refine (KL.out _).mono ?_); rintro e w1 ⟨rfl, rfl⟩)
                go_ret2
                exact ⟨rfl, rfl⟩
      · obtain rfl : j = m := by omega
        have hsc : scanG most D = none := scanG_none most D (fun i hi h2 => HI.out i (by have := hHm.out; have := hHD.out; omega))
        have hfin := hHr.out
        rw [hsc] at hfin
        obtain ⟨rfl, e2⟩ := Prod.mk.inj (show ((0 : Int), (if c - a < most then (4 : Int) else 5)) = (r1, r2) from hfin)
        clear hfin hsc
        by_cases hcm : c - a < most
        · rw [if_pos hcm] at e2
          subst e2
          have q3 : (c : Int) - (a : Int) < (most : Int) := by omega
          go_wp2_with fail
          go_ret2
          exact ⟨rfl, rfl⟩
        · rw [if_neg hcm] at e2
          subst e2
          have q3 : ¬ (c : Int) - (a : Int) < (most : Int) := by omega
          go_wp2_with fail
          go_ret2
          exact ⟨rfl, rfl⟩
/-- The groups of an encoding of a number of at most so many bits, at a place. -/
def rdG (l : List Nat) (at_ : Int) (width most : Nat) : Option (List Nat) :=
  if at_ < 0 ∨ (l.length : Int) < at_ then none
  else match scanG most (l.drop at_.toNat) with
    | none => none
    | some g => if okG width g then some g else none
theorem bhd_some {l : List Nat} {at_ : Int} {width most : Nat} {g : List Nat} (h : rdG l at_ width most = some g) : ∃ a : Nat, at_ = (a : Int) ∧ a ≤ l.length ∧ bhd l at_ width most = ((a : Int) + (g.length : Int), 0) ∧ scanG most (l.drop a) = some g ∧ okG width g = true := by
  unfold rdG at h
  by_cases h1 : at_ < 0 ∨ (l.length : Int) < at_
  · rw [if_pos h1] at h; cases h
  · rw [if_neg h1] at h
    obtain ⟨a, rfl⟩ := Int.eq_ofNat_of_zero_le (show 0 ≤ at_ by omega)
    rw [Int.toNat_natCast] at h
    cases hs : scanG most (l.drop a) with
    | none => rw [hs] at h; cases h
    | some g' =>
      rw [hs] at h
      by_cases hk : okG width g' = true
      · have h : (if okG width g' = true then some g' else none) = some g := h
        rw [if_pos hk] at h
        have h := Option.some.inj h
        subst h
        refine ⟨a, rfl, by omega, ?_, hs, hk⟩
        unfold bhd
        rw [if_neg h1, Int.toNat_natCast, hs]
        simp [hk]
      · have h : (if okG width g' = true then some g' else none) = some g := h
        rw [if_neg hk] at h; cases h
theorem bhd_none {l : List Nat} {at_ : Int} {width most : Nat} (h : rdG l at_ width most = none) : ∃ e : Int, bhd l at_ width most = (0, e) ∧ (e = 2 ∨ e = 4 ∨ e = 5) := by
  unfold rdG at h
  unfold bhd
  by_cases h1 : at_ < 0 ∨ (l.length : Int) < at_
  · rw [if_pos h1]; exact ⟨2, rfl, by omega⟩
  · rw [if_neg h1] at h ⊢
    cases hs : scanG most (l.drop at_.toNat) with
    | none =>
      refine ⟨_, rfl, ?_⟩
      split <;> omega
    | some g' =>
      rw [hs] at h
      have h : (if okG width g' = true then some g' else none) = none := h
      by_cases hk : okG width g' = true
      · rw [if_pos hk] at h; cases h
      · refine ⟨5, ?_, by omega⟩
        show (if okG width g' = true then _ else _) = _
        rw [if_neg hk]
def rdE (l : List Nat) (at_ : Int) (width most : Nat) : Int := (bhd l at_ width most).2
theorem decB_snoc (b : Nat) : ∀ (r : List Nat) (x : Nat), x < 2 ^ b → x < 128 → decB (r ++ [x]) < 2 ^ (7 * r.length + b)
  | [], x, h, h2 => by
    have : x % 128 = x := Nat.mod_eq_of_lt h2
    simp [decB, this]; exact h
  | y :: r, x, h, h2 => by
    have ih := decB_snoc b r x h h2
    show y % 128 + 128 * decB (r ++ [x]) < 2 ^ (7 * (r.length + 1) + b)
    have e : 2 ^ (7 * (r.length + 1) + b) = 128 * 2 ^ (7 * r.length + b) := by
      rw [show 7 * (r.length + 1) + b = 7 + (7 * r.length + b) by omega, Nat.pow_add]
    rw [e]; omega
theorem decB_ok {width most : Nat} {l g : List Nat} (h : scanG most l = some g) (hk : okG width g = true) : decB g < 2 ^ width := by
  obtain ⟨r, x, rfl, hx, _, _, _⟩ := scanG_some most l g h
  have e := okG_form (g := r ++ [x]) (width := width) (j := r.length) (x := x) (by simp) (by simp)
  rw [e] at hk
  simp only [Bool.and_eq_true, decide_eq_true_eq] at hk
  exact Nat.lt_of_lt_of_le (decB_snoc _ r x (bl8 x hx).2 hx) (Nat.pow_le_pow_right (by omega) hk.2)
theorem decB_drop {g : List Nat} {k : Nat} (h : k < g.length) : decB (g.drop k) = g.getD k 0 % 128 + 128 * decB (g.drop (k + 1)) := by
  rw [List.drop_eq_getElem_cons h, getD_lt h]; rfl
theorem decB_drop_le (g : List Nat) : ∀ k, decB (g.drop k) ≤ decB g
  | 0 => by simp
  | k + 1 => by
    have ih := decB_drop_le g k
    rcases Nat.lt_or_ge k g.length with h | h
    · rw [decB_drop h] at ih; omega
    · rw [List.drop_of_length_le (by omega)]; simp [decB]
theorem or_low (v r : Nat) (hr : r < 128) (h : v * 128 + r < 18446744073709551616) : bits .or .u64 ((v : Int) * 128) (r : Int) = ((v * 128 + r : Nat) : Int) := by
  show IntKind.u64.wrap ((BitVec.ofInt 64 ((v : Int) * 128) ||| BitVec.ofInt 64 (r : Int)).toNat : Int) = _
  rw [BitVec.toNat_or]
  have e1 : (BitVec.ofInt 64 ((v : Int) * 128)).toNat = 2 ^ 7 * v := by rw [BitVec.toNat_ofInt]; omega
  have e2 : (BitVec.ofInt 64 (r : Int)).toNat = r := by rw [BitVec.toNat_ofInt]; omega
  rw [e1, e2, ← Nat.two_pow_add_eq_or_of_lt (show r < 2 ^ 7 by omega), wrap_u64']
  omega
/-- What Read returns. -/
def rdV (l : List Nat) (at_ : Int) : Int × Int × Int := match rdG l at_ 64 10 with
  | some g => (decB g, at_ + g.length, 0)
  | none => (0, 0, rdE l at_ 64 10)
set_option maxRecDepth 100000 in
set_option maxHeartbeats 1600000 in
theorem p_read (A : Option Addr) (c cap : Nat) (l : List Nat) (at_ : Int) (W : World) (hb : BytesAt W A l) (hc : l.length = c) (hcap : c ≤ cap) (hcap2 : c ≤ 4611686018427387904) (hat : I64 at_) (r1 r2 r3 : Int) (hr : rdV l at_ = (r1, r2, r3)) :
    Calls Try.prog 69 #[.slice A c cap, .int .i64 at_] W (RetSame (.tuple #[.int .u64 r1, .int .i64 r2, .int .i64 r3]) W) := by
  have KB : Hid (∀ w e1 e2, Ext W w → bhd l at_ 64 10 = (e1, e2) → Calls Try.prog 72 #[.slice A c cap, .int .i64 at_, .int .i64 64] w (RetSame (.tuple #[.int .i64 e1, .int .i64 e2]) w)) := fun w e1 e2 he hbd => p_behind A c cap l at_ 64 10 w (hb.ext he) hc hcap hcap2 hat (by omega) (by omega) (by omega) e1 e2 hbd
  unfold rdV at hr
  cases hg : rdG l at_ 64 10 with
  | none =>
    obtain ⟨e, hbd, he⟩ := bhd_none hg
    have hk := hide (KB.out W _ _ (Ext.refl _) hbd)
    rw [hg] at hr
    have hre : rdE l at_ 64 10 = e := by unfold rdE; rw [hbd]
    obtain ⟨rfl, h2⟩ := Prod.mk.inj (show ((0 : Int), (0 : Int), rdE l at_ 64 10) = (r1, r2, r3) from hr)
    obtain ⟨rfl, h3⟩ := Prod.mk.inj h2
    rw [hre] at h3
    subst h3
    have q1 : (e != 0) = true := by rw [bne_iff_ne]; omega
    clear hr hg KB hbd hre h2 hb hc
    go_enter Try.func69, Try.ntmps69
    go_wp2_with (go_at_call 72; (with_reducible refine (hk.out).mono ?_); rintro e w1 ⟨rfl, rfl⟩)
    go_ret3
    exact ⟨rfl, rfl⟩
  | some g =>
    obtain ⟨a, rfl, hal, hbd, hsc, hok⟩ := bhd_some hg
    have hk := hide (KB.out W _ _ (Ext.refl _) hbd)
    rw [hg] at hr
    obtain ⟨rfl, h2⟩ := Prod.mk.inj (show ((decB g : Int), (a : Int) + g.length, (0 : Int)) = (r1, r2, r3) from hr)
    obtain ⟨rfl, rfl⟩ := Prod.mk.inj h2
    obtain ⟨n, hn⟩ : ∃ n, g.length = n := ⟨_, rfl⟩
    obtain ⟨r, x, hgr, hx, _, ⟨t, ht⟩, hmost⟩ := scanG_some 10 _ g hsc
    have hlt := decB_ok hsc hok
    have hlt : decB g < 18446744073709551616 := hlt
    have hnc : a + n ≤ c := by
      have := congrArg List.length ht
      rw [List.length_append, List.length_drop] at this
      omega
    have hn1 : 1 ≤ n := by rw [← hn, hgr]; simp
    have hget : Hid (∀ j, j < n → l.getD (a + j) 0 = g.getD j 0) := fun j hj => by
      have h1 : l.getD (a + j) 0 = (l.drop a).getD j 0 := by simp [List.getD_eq_getElem?_getD, List.getElem?_drop]
      rw [h1, ← ht]
      simp [List.getD_eq_getElem?_getD, List.getElem?_append_left (show j < g.length by omega)]
    rw [hn] at hk hmost ⊢
    have Hb := hide hb
    have Hc := hide hc
    have Hn := hide hn
    clear hr hg KB hbd h2 hb hc hsc hok hgr ht hn hal
    go_enter Try.func69, Try.ntmps69
    go_wp2_with (go_at_call 72; (with_reducible refine (hk.out).mono ?_); rintro e w1 ⟨rfl, rfl⟩)
    go_loop [9, 10] (fun v i => ∃ j : Nat, j ≤ n ∧ i = .int .i64 ((a : Int) + (j : Int) - 1) ∧ v = .int .u64 (decB (g.drop j) : Int)) (fun _ i => (intOf i + 1 - a).toNat)
    case atStart => exact ⟨n, Nat.le_refl _, rfl, by rw [List.drop_of_length_le (by rw [Hn.out]; exact Nat.le_refl _)]; rfl⟩
    case round =>
      obtain ⟨j, hj, rfl, rfl⟩ := hrel
      have hle := decB_drop_le g j
      obtain ⟨v, hv⟩ : ∃ v, decB (g.drop j) = v := ⟨_, rfl⟩
      rw [hv] at hle ⊢
      cases j with
      | zero =>
        have Hv : Hid (v = decB g) := by show _ = _; rw [← hv]; simp
        have n1 : ¬ (a : Int) ≤ (a : Int) + ((0 : Nat) : Int) - 1 := by omega
        clear hv
        go_wp2_with fail
        go_ret3
        exact ⟨by rw [← Hv.out]; rfl, rfl⟩
      | succ j =>
        have e1 : ((a : Int) + ((j + 1 : Nat) : Int) - 1) = (a : Int) + (j : Int) := by omega
        rw [e1]
        clear e1
        have hjg : j < g.length := by rw [Hn.out]; omega
        have hst := decB_drop hjg
        rw [hv] at hst
        have hle2 := decB_drop_le g j
        obtain ⟨b, off, rfl, _, hcl⟩ := Hb.out.2.2 (by rw [Hc.out]; omega)
        have d2 := hcl (a + j) (by rw [Hc.out]; omega)
        rw [hget.out j (by omega)] at d2
        have hyb : g.getD j 0 < 256 := by rw [← hget.out j (by omega)]; exact Hb.out.1.get _
        obtain ⟨y, hy⟩ : ∃ y, g.getD j 0 = y := ⟨_, rfl⟩
        rw [hy] at d2 hst hyb
        have ho := or_low v (y % 128) (Nat.mod_lt _ (by omega)) (by omega)
        have ey : ((y % 128 : Nat) : Int) = (y : Int) % (128 : Int) := by omega
        rw [ey] at ho
        have hv57 : v ≤ 144115188075855871 := by omega
        have Hst : Hid (decB (g.drop j) = v * 128 + y % 128) := by show _ = _; omega
        have ge : (a : Int) ≤ (a : Int) + (j : Int) := by omega
        clear hcl hy hv hst hle2 hjg ey hle
        go_wp2_with fail
        go_round
        case rel => exact ⟨j, by omega, rfl, by rw [Hst.out]; exact congrArg (Value.int .u64) (by omega)⟩
        case measure => simp [intOf]; omega
end Go.Proofs.Ytjmigglibidbdaa
