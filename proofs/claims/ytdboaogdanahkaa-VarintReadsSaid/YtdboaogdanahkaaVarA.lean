/- The program's package varint: functions of numbers alone. Conditions: the numbers fit. -/
import Derived.Test.YtdboaogdanahkaaVgr
import Derived.Test.YtdboaogdanahkaaMulX
import Derived.Test.YtdboaogdanahkaaBase
namespace Go.Proofs.Ytdboaogdanahkaa
set_option linter.unusedVariables false
set_option linter.unusedSimpArgs false
open Go Go.RowKit
theorem p_groups (n m : Int) (w : World) (h0 : 0 ≤ n) (h1 : n ≤ 10000) (hm : max 1 ((n + 7 - 1) / 7) = m) : Calls Try.prog 54 #[.int .i64 n] w (RetSame (.int .i64 m) w) := by
  go_enter Try.func54, Try.ntmps54
  go_wp2_with fail
  go_ret
  exact ⟨rfl, rfl⟩
theorem b_len0 (w : World) : Calls Try.prog 70 #[.int .u64 0] w (RetSame (.int .i64 0) w) := by
  refine (Go.Proofs.Any.bits_Len64 (P := Try.prog) (ρ := lzRen) { lzLays with } 0 w (by omega) (by omega)).mono ?_
  rintro e w' ⟨rfl, rfl⟩
  exact ⟨by rw [show Lib.bitLen (0 : Int).toNat = 0 by decide +kernel]; rfl, rfl⟩
theorem pow_seven (k : Nat) : 2 ^ (7 * k) = 128 ^ k := by rw [Nat.pow_mul]
theorem size_groups {v s : Nat} (h1 : 2 ^ s ≤ v) (h2 : v < 2 ^ (s + 1)) : (encB v).length = (s + 7) / 7 := by
  have a : v < 128 ^ (s / 7 + 1) := by
    rw [← pow_seven]
    exact Nat.lt_of_lt_of_le h2 (Nat.pow_le_pow_right (by omega) (by omega))
  have b : 128 ^ (s / 7) ≤ v := by
    rw [← pow_seven]
    exact Nat.le_trans (Nat.pow_le_pow_right (by omega) (by omega)) h1
  have a' := encB_length_le v _ a
  have b' := encB_length_gt v _ b
  omega
theorem p_size (v : Nat) (w : World) (hv : v < 18446744073709551616) : Calls Try.prog 42 #[.int .u64 (v : Int)] w (RetSame (.int .i64 ((encB v).length : Int)) w) := by
  obtain ⟨L, hL⟩ : ∃ L : Int, ((encB v).length : Int) = L := ⟨_, rfl⟩
  rw [hL]
  by_cases h0 : v = 0
  · subst h0
    have hL1 : L = 1 := by rw [← hL, encB_small (by omega)]; rfl
    subst hL1
    clear hL hv
    have kg : Hid (∀ w, Calls Try.prog 54 #[.int .i64 0] w (RetSame (.int .i64 1) w)) := fun w => p_groups 0 1 w (by omega) (by omega) (by omega)
    go_enter Try.func42, Try.ntmps42
    go_wp2_with (first
      | (go_at_call 70; (with_reducible refine (b_len0 _).mono ?_); rintro e w' ⟨rfl, rfl⟩)
      | (go_at_call 54; (with_reducible refine (kg.out _).mono ?_); rintro e w' ⟨rfl, rfl⟩))
    go_ret
    exact ⟨rfl, rfl⟩
  · have kg : Hid (∀ (s : Nat) (w : World), 1 ≤ s → s ≤ 64 → v < 2 ^ s → 2 ^ (s - 1) ≤ v → Calls Try.prog 54 #[.int .i64 (s : Int)] w (RetSame (.int .i64 L) w)) := by
      intro s w h1 h2 h3 h4
      refine p_groups _ _ w (by omega) (by omega) ?_
      obtain ⟨k, rfl⟩ : ∃ k, s = k + 1 := ⟨s - 1, by omega⟩
      have := size_groups (s := k) (by simpa using h4) h3
      rw [← hL, this]
      omega
    have hv0 : 0 < v := by omega
    clear hL h0
    go_enter Try.func42, Try.ntmps42
    go_wp2_with (first
      | (go_at_call 70; (with_reducible refine (b_len v _ hv hv0).mono ?_); rintro e w' ⟨s, rfl, s1, s2, s3, s4, rfl⟩; have kk := hide (kg.out s · s1 s2 s3 s4); clear s3 s4)
      | (go_at_call 54; (with_reducible refine (kk.out _).mono ?_); rintro e w' ⟨rfl, rfl⟩))
    go_ret
    exact ⟨rfl, rfl⟩
theorem ofInt_nat (x : Int) (h0 : 0 ≤ x) (h1 : x < 18446744073709551616) : ((BitVec.ofInt 64 x).toNat : Int) = x := by
  rw [BitVec.toNat_ofInt]; omega
theorem xor_zero64 {x : Int} (h0 : 0 ≤ x) (h1 : x < 18446744073709551616) : bits .xor .u64 x 0 = x := by
  show IntKind.u64.wrap ((BitVec.ofInt 64 x ^^^ BitVec.ofInt 64 0).toNat : Int) = _
  have e : BitVec.ofInt 64 0 = 0#64 := by decide
  rw [e, BitVec.xor_zero, ofInt_nat x h0 h1, wrap_u64']; omega
theorem xor_ones64 {x : Int} (h0 : 0 ≤ x) (h1 : x < 18446744073709551616) : bits .xor .u64 x 18446744073709551615 = 18446744073709551615 - x := by
  show IntKind.u64.wrap ((BitVec.ofInt 64 x ^^^ BitVec.ofInt 64 18446744073709551615).toNat : Int) = _
  have e : BitVec.ofInt 64 18446744073709551615 = BitVec.allOnes 64 := by decide
  have k := ofInt_nat x h0 h1
  rw [e, BitVec.xor_allOnes, BitVec.toNat_not, wrap_u64']
  omega
theorem and_one64 (n : Nat) (h : n < 18446744073709551616) : bits .and .u64 (n : Int) 1 = ((n % 2 : Nat) : Int) := by
  show IntKind.u64.wrap ((BitVec.ofInt 64 n &&& BitVec.ofInt 64 1).toNat : Int) = _
  have e : (BitVec.ofInt 64 1).toNat = 1 := by decide
  have k := ofInt_nat n (by omega) (by omega)
  have k' : (BitVec.ofInt 64 (n : Int)).toNat = n := by omega
  rw [BitVec.toNat_and, e, k', Nat.and_one_is_mod, wrap_u64']
  omega
theorem xor_zero_i {x : Int} (h0 : 0 ≤ x) (h1 : x ≤ 9223372036854775807) : bits .xor .i64 x 0 = x := by
  show IntKind.i64.wrap ((BitVec.ofInt 64 x ^^^ BitVec.ofInt 64 0).toNat : Int) = _
  have e : BitVec.ofInt 64 0 = 0#64 := by decide
  rw [e, BitVec.xor_zero, ofInt_nat x h0 (by omega)]
  exact IntWalk.i64_in _ (by omega)
theorem xor_ones_i {x : Int} (h0 : 0 ≤ x) (h1 : x ≤ 9223372036854775807) : bits .xor .i64 x (-1) = -x - 1 := by
  show IntKind.i64.wrap ((BitVec.ofInt 64 x ^^^ BitVec.ofInt 64 (-1)).toNat : Int) = _
  have e : BitVec.ofInt 64 (-1) = BitVec.allOnes 64 := by decide
  have k := ofInt_nat x h0 (by omega)
  rw [e, BitVec.xor_allOnes, BitVec.toNat_not]
  simp [IntKind.wrap, IntKind.bits, IntKind.signed]
  omega
theorem p_zigzag (v : Int) (w : World) (h1 : -9223372036854775808 ≤ v) (h2 : v ≤ 9223372036854775807) : Calls Try.prog 41 #[.int .i64 v] w (RetSame (.int .u64 (zig v : Int)) w) := by
  by_cases h : 0 ≤ v
  · have e : Hid (bits BinOp.xor IntKind.u64 (v * 2) (v / 9223372036854775808) = (zig v : Int)) := by
      have : v / 9223372036854775808 = 0 := by omega
      show _ = _
      rw [this, xor_zero64 (by omega) (by omega)]; unfold zig; rw [if_pos h]; omega
    go_enter Try.func41, Try.ntmps41
    go_wp2_with fail
    go_ret
    exact ⟨congrArg (fun x => Ending.returned (Value.int .u64 x)) e.out, rfl⟩
  · have e : Hid (bits BinOp.xor IntKind.u64 (IntKind.u64.wrap (IntKind.u64.wrap v * 2)) (IntKind.u64.wrap (v / 9223372036854775808)) = (zig v : Int)) := by
      have a : v / 9223372036854775808 = -1 := by omega
      have b : IntKind.u64.wrap (-1) = 18446744073709551615 := by rw [wrap_u64']; omega
      have c : IntKind.u64.wrap (IntKind.u64.wrap v * 2) = v * 2 + 18446744073709551616 := by rw [wrap_u64', wrap_u64']; omega
      show _ = _
      rw [a, b, c, xor_ones64 (by omega) (by omega)]; unfold zig; rw [if_neg h]; omega
    go_enter Try.func41, Try.ntmps41
    go_wp2_with fail
    go_ret
    exact ⟨congrArg (fun x => Ending.returned (Value.int .u64 x)) e.out.symm.symm, rfl⟩
theorem p_unzigzag (n : Nat) (w : World) (h : n < 18446744073709551616) : Calls Try.prog 72 #[.int .u64 (n : Int)] w (RetSame (.int .i64 (zag n)) w) := by
  have e : Hid (bits BinOp.xor IntKind.i64 ((n : Int) / 2) (wrap64 (-wrap64 (bits BinOp.and IntKind.u64 (n : Int) 1))) = zag n) := by
    show _ = _
    rw [and_one64 n h]
    unfold zag
    by_cases k : n % 2 = 0
    · rw [k, if_pos rfl]
      have a : wrap64 (-wrap64 ((0 : Nat) : Int)) = 0 := by simp [wrap64]
      rw [a, xor_zero_i (by omega) (by omega)]; omega
    · have k1 : n % 2 = 1 := by omega
      rw [k1, if_neg (by omega)]
      have a : wrap64 (-wrap64 ((1 : Nat) : Int)) = -1 := by simp [wrap64]
      rw [a, xor_ones_i (by omega) (by omega)]; omega
  go_enter Try.func72, Try.ntmps72
  go_wp2_with fail
  go_ret
  exact ⟨congrArg (fun x => Ending.returned (Value.int .i64 x)) e.out, rfl⟩
end Go.Proofs.Ytdboaogdanahkaa
