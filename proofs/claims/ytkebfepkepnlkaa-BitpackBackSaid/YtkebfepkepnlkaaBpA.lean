/- The program's Width and Bytes. Conditions: the slice reads as numbers of 64 bits. -/
import Derived.Test.YtkebfepkepnlkaaWdA
import Derived.Test.YtkebfepkepnlkaaBase
import Derived.Shelf.Strconv.Itoa0
namespace Go.Proofs.Ytkebfepkepnlkaa
set_option linter.unusedVariables false
set_option linter.unusedSimpArgs false
open Go Go.RowKit
def l64Ren : Go.Shelf.Ren := ⟨fun | 129 => 26 | n => n, fun | 53 => 48 | 3 => 3 | 4 => 4 | 46 => 47 | 5 => 5 | 9 => 9 | n => n, fun | n => n⟩
theorem l64Lays : Go.Proofs.Lays.n129 Try.prog l64Ren := {
  mixed := by kernel_rfl
  f129 := Try.func26.trans (congrArg some (by kernel_rfl))
  t3 := Try.underlying3
  a3 := Try.isAgg3
  z3 := Try.sizeOf3
  v3 := Try.zeroValue3
  t4 := Try.underlying4
  a4 := Try.isAgg4
  z4 := Try.sizeOf4
  v4 := Try.zeroValue4
  t5 := Try.underlying5
  a5 := Try.isAgg5
  z5 := Try.sizeOf5
  v5 := Try.zeroValue5
  t9 := Try.underlying9
  a9 := Try.isAgg9
  z9 := Try.sizeOf9
  v9 := Try.zeroValue9
  t46 := Try.underlying47
  a46 := Try.isAgg47
  z46 := Try.sizeOf47
  v46 := Try.zeroValue47
  t53 := Try.underlying48
  a53 := Try.isAgg48
  z53 := Try.sizeOf48
  v53 := Try.zeroValue48 }
theorem p_len64 (x : Nat) (w : World) (h : x < 18446744073709551616) : Calls Try.prog 26 #[.int .u64 (x : Int)] w (RetSame (.int .i64 (Lib.bitLen x : Int)) w) := by
  refine (Go.Proofs.Any.bits_Len64 (P := Try.prog) (ρ := l64Ren) l64Lays (x : Int) w (by omega) (by omega)).mono ?_
  rintro e w' ⟨rfl, rfl⟩
  exact ⟨by rw [Int.toNat_natCast], rfl⟩
theorem or_64 (a b : Nat) (ha : a < 18446744073709551616) (hb : b < 18446744073709551616) : bits .or .u64 (a : Int) (b : Int) = ((a ||| b : Nat) : Int) := by
  have hlt : (a ||| b) < 18446744073709551616 := Nat.or_lt_two_pow (n := 64) ha hb
  show IntKind.u64.wrap ((BitVec.ofInt 64 (a : Int) ||| BitVec.ofInt 64 (b : Int)).toNat : Int) = _
  have e : (BitVec.ofInt 64 (a : Int) ||| BitVec.ofInt 64 (b : Int)).toNat = (a ||| b) := by
    rw [BitVec.toNat_or, BitVec.toNat_ofInt, BitVec.toNat_ofInt]
    have e1 : ((a : Int) % ((2 ^ 64 : Nat) : Int)).toNat = a := by omega
    have e2 : ((b : Int) % ((2 ^ 64 : Nat) : Int)).toNat = b := by omega
    rw [e1, e2]
  rw [e, wrap_u64']
  omega
theorem or_8 (a b : Nat) (ha : a < 256) (hb : b < 256) : bits .or .u8 (a : Int) (b : Int) = ((a ||| b : Nat) : Int) := by
  have hlt : (a ||| b) < 256 := Nat.or_lt_two_pow (n := 8) ha hb
  show IntKind.u8.wrap ((BitVec.ofInt 8 (a : Int) ||| BitVec.ofInt 8 (b : Int)).toNat : Int) = _
  have e : (BitVec.ofInt 8 (a : Int) ||| BitVec.ofInt 8 (b : Int)).toNat = (a ||| b) := by
    rw [BitVec.toNat_or, BitVec.toNat_ofInt, BitVec.toNat_ofInt]
    have e1 : ((a : Int) % ((2 ^ 8 : Nat) : Int)).toNat = a := by omega
    have e2 : ((b : Int) % ((2 ^ 8 : Nat) : Int)).toNat = b := by omega
    rw [e1, e2]
  rw [e]
  simp [IntKind.wrap, IntKind.bits, IntKind.signed]
  omega
set_option maxRecDepth 100000 in
set_option maxHeartbeats 1600000 in
theorem p_wd (A : Option Addr) (n c : Nat) (l : List Nat) (W : World) (hl : WordsAt W A l) (hn : l.length = n) : Calls Try.prog 19 #[.slice A n c] W (Ret (.int .i64 (wdt l : Int)) W) := by
  have hq := hl.1
  have KL : Hid (∀ (x : Nat) (w : World), x < 18446744073709551616 → Calls Try.prog 26 #[.int .u64 (x : Int)] w (RetSame (.int .i64 (Lib.bitLen x : Int)) w)) := fun x w h => p_len64 x w h
  have HL := hide hl
  have Hn := hide hn
  have Hq := hide hq
  have hn63 : n ≤ 9223372036854775807 := by have := hl.2.1; omega
  clear hl hn hq
  go_enter Try.func19, Try.ntmps19
  go_wp2_with fail
  go_loop [3, 8] (fun t i => ∃ k V : Nat, k ≤ n ∧ i = .int .i64 k ∧ t = .int .u64 V ∧ Hid (orl (l.take k) = V)) (fun _ i => n - (intOf i).toNat)
  case atStart => exact ⟨0, 0, by omega, rfl, rfl, hide (by simp [orl])⟩
  case round =>
    obtain ⟨k, V, hk, rfl, rfl, HV⟩ := hrel
    by_cases hlt : k < n
    · have hkl : k < l.length := by rw [Hn.out]; exact hlt
      obtain ⟨b, off, rfl, hb1, hc1⟩ := HL.out.2.2 (by omega)
      have d1 := hc1 k hkl
      have hst := hide (orl_snoc (l.take k) (l.getD k 0))
      have hts := hide (take_succ hkl)
      have hx : l.getD k 0 < 18446744073709551616 := Hq.out.get k
      have hV : V < 18446744073709551616 := by
        rw [← HV.out]
        exact (orl_lt (l.take k) 64).2 (Hq.out.take k)
      obtain ⟨x, hxx⟩ : ∃ x, l.getD k 0 = x := ⟨_, rfl⟩
      rw [hxx] at d1 hst hts hx
      have ho := or_64 V x hV hx
      have HV1 : Hid (orl (l.take (k + 1)) = (V ||| x)) := hide (by rw [hts.out, hst.out, HV.out])
      clear hc1 hxx hkl hb1 hst hts
      go_wp2_with fail
      go_round
      case rel => exact ⟨k + 1, _, by omega, by go_num, rfl, HV1⟩
      case measure => simp [intOf]; omega
    · obtain rfl : k = n := by omega
      have hV : V < 18446744073709551616 := by
        rw [← HV.out]
        exact (orl_lt (l.take k) 64).2 (Hq.out.take k)
      have KL := hide (KL.out V W hV)
      go_wp2_with (go_at_call 26; (with_reducible refine (KL.out).mono ?_); rintro e w1 ⟨rfl, rfl⟩)
      go_ret
      refine ⟨?_, Ext.refl _⟩
      rw [wdt, ← HV.out, List.take_of_length_le (by have := Hn.out; omega)]
      rfl
set_option maxRecDepth 100000 in
theorem p_siz (n w : Int) (W : World) (hn : I64 n) (hw : I64 w) : Calls Try.prog 14 #[.int .i64 n, .int .i64 w] W (RetSame (.int .i64 (siz n w)) W) := by
  obtain ⟨n1, n2⟩ := hn
  obtain ⟨w1, w2⟩ := hw
  by_cases h1 : n < 0
  · have e : siz n w = -1 := if_pos (Or.inl h1)
    rw [e]
    go_enter Try.func14, Try.ntmps14
    go_wp2_with fail
    go_ret
    exact ⟨rfl, rfl⟩
  · by_cases h2 : 65536 < n
    · have e : siz n w = -1 := if_pos (Or.inr (Or.inl h2))
      rw [e]
      go_enter Try.func14, Try.ntmps14
      go_wp2_with fail
      go_ret
      exact ⟨rfl, rfl⟩
    · by_cases h3 : w < 0
      · have e : siz n w = -1 := if_pos (Or.inr (Or.inr (Or.inl h3)))
        rw [e]
        go_enter Try.func14, Try.ntmps14
        go_wp2_with fail
        go_ret
        exact ⟨rfl, rfl⟩
      · by_cases h4 : 64 < w
        · have e : siz n w = -1 := if_pos (Or.inr (Or.inr (Or.inr h4)))
          rw [e]
          go_enter Try.func14, Try.ntmps14
          go_wp2_with fail
          go_ret
          exact ⟨rfl, rfl⟩
        · have e : siz n w = (n * w + 7) / 8 := if_neg (by omega)
          rw [e]
          have hm0 : 0 ≤ n * w := Int.mul_nonneg (by omega) (by omega)
          have hm1 : n * w ≤ 65536 * 64 := Int.mul_le_mul (by omega) (by omega) (by omega) (by omega)
          obtain ⟨p, hp⟩ : ∃ p, n * w = p := ⟨_, rfl⟩
          rw [hp] at hm0 hm1 ⊢
          have ep : IntKind.i64.wrap (n * w) = p := by rw [hp]; simp [IntKind.wrap, IntKind.bits, IntKind.signed]; omega
          have ed : (p + 7).tdiv 8 = (p + 7) / 8 := Int.tdiv_eq_ediv_of_nonneg (by omega)
          go_enter Try.func14, Try.ntmps14
          go_wp2_with fail
          go_ret
          exact ⟨rfl, rfl⟩
end Go.Proofs.Ytkebfepkepnlkaa
