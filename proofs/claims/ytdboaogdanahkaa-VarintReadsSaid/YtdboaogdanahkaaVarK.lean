/- The program's length of a code; AppendWide. Conditions: the slice reads as at most 2^47 - 64 bytes; the cells stand for a number. -/
import Derived.Test.YtdboaogdanahkaaVarJ
namespace Go.Proofs.Ytdboaogdanahkaa
set_option linter.unusedVariables false
set_option linter.unusedSimpArgs false
open Go Go.RowKit
theorem pow_split (n s : Nat) : 2 ^ (64 * n + s) = 18446744073709551616 ^ n * 2 ^ s := by
  rw [Nat.pow_add, Nat.pow_mul]
theorem size_word (C i s : Nat) (hC : C < 18446744073709551616 ^ (i + 1)) (h0 : w5 C i ≠ 0) (h1 : w5 C i < 2 ^ s) (h2 : 1 ≤ s) (h3 : 2 ^ (s - 1) ≤ w5 C i) : C < 2 ^ (64 * i + s) ∧ 2 ^ (64 * i + s - 1) ≤ C := by
  have hd : C / 18446744073709551616 ^ i < 18446744073709551616 := by
    rw [Nat.pow_succ, Nat.mul_comm] at hC
    exact Nat.div_lt_of_lt_mul (by rw [Nat.mul_comm]; exact hC)
  have e : w5 C i = C / 18446744073709551616 ^ i := Nat.mod_eq_of_lt hd
  rw [e] at h0 h1 h3
  have hp : 0 < 18446744073709551616 ^ i := Nat.pow_pos (by omega)
  constructor
  · rw [pow_split]
    have := (Nat.div_lt_iff_lt_mul hp).1 h1
    rw [Nat.mul_comm]; exact this
  · have e2 : 64 * i + s - 1 = 64 * i + (s - 1) := by omega
    rw [e2, pow_split]
    have := (Nat.le_div_iff_mul_le hp).1 h3
    rw [Nat.mul_comm]; exact this
theorem top_zero (C i : Nat) (hC : C < 18446744073709551616 ^ (i + 1)) (h0 : w5 C i = 0) : C < 18446744073709551616 ^ i := by
  have hp : 0 < 18446744073709551616 ^ i := Nat.pow_pos (by omega)
  have hd : C / 18446744073709551616 ^ i < 18446744073709551616 := by
    rw [Nat.pow_succ, Nat.mul_comm] at hC
    exact Nat.div_lt_of_lt_mul (by rw [Nat.mul_comm]; exact hC)
  have e : w5 C i = C / 18446744073709551616 ^ i := Nat.mod_eq_of_lt hd
  rw [e] at h0
  rcases Nat.lt_or_ge C (18446744073709551616 ^ i) with h | h
  · exact h
  · have := (Nat.le_div_iff_mul_le hp).2 (by rw [Nat.one_mul]; exact h)
    omega
def LenRet (C : Nat) (W : World) (e : Ending) (w' : World) : Prop := ∃ s : Nat, e = .returned (.int .i64 (s : Int)) ∧ s ≤ 320 ∧ C < 2 ^ s ∧ (C ≠ 0 → 1 ≤ s ∧ 2 ^ (s - 1) ≤ C) ∧ (C = 0 → s = 0) ∧ Ext W w'
set_option maxRecDepth 100000 in
set_option maxHeartbeats 1600000 in
theorem p_length (C : Nat) (W : World) (hC : C < 18446744073709551616 ^ 5) : Calls Try.prog 55 #[.agg (ag5 C)] W (LenRet C W) := by
  have P1 : Blk (W.alloc (.cells (ag5 C) 82)) W.heap.size 82 (ag5 C) := Blk.new W _ _
  have E : Ext W (W.alloc (.cells (ag5 C) 82)) := ext_alloc _ _
  unfold ag5 at P1 E ⊢
  obtain ⟨w1, hw1⟩ : ∃ w1, W.alloc (.cells #[.int .u64 (w5 C 0 : Int), .int .u64 (w5 C 1 : Int), .int .u64 (w5 C 2 : Int), .int .u64 (w5 C 3 : Int), .int .u64 (w5 C 4 : Int)] 82) = w1 := ⟨_, rfl⟩
  rw [hw1] at P1 E
  obtain ⟨g, hg⟩ : ∃ g, W.heap.size = g := ⟨_, rfl⟩
  rw [hg] at P1
  have H1 := hide P1
  have E := hide E
  have Hw := hide hw1
  have Hg := hide hg
  clear hw1 hg P1
  go_enter Try.func55, Try.ntmps55
  go_wp2_with fail
  rw [Hw.out, Hg.out]
  clear Hw Hg
  go_loop [3] (fun i => ∃ k : Nat, k ≤ 5 ∧ i = .int .i64 (4 - (k : Int)) ∧ Hid (C < 18446744073709551616 ^ (5 - k))) (fun i => (intOf i + 1).toNat)
  case atStart => exact ⟨0, by omega, rfl, hC⟩
  case round =>
    obtain ⟨k, hk, rfl, HC⟩ := hrel
    have hcc : k = 0 ∨ k = 1 ∨ k = 2 ∨ k = 3 ∨ k = 4 ∨ k = 5 := by omega
    rcases hcc with rfl | rfl | rfl | rfl | rfl | rfl
    · have hx := w5_lt C 4
      have hsz := hide (size_word C 4 · HC.out)
      have htz := hide (top_zero C 4 HC.out)
      have c1 : w1.cell? ⟨g, 4, none⟩ = some (.int .u64 (w5 C 4 : Int)) := H1.out.cell 4
      obtain ⟨x, hxx⟩ : ∃ x, w5 C 4 = x := ⟨_, rfl⟩
      rw [hxx] at hx hsz htz c1
      clear hxx
      by_cases h0 : x = 0
      · have q1 : ((x : Int) != 0) = false := by rw [bne_eq_false_iff_eq]; omega
        have HT := hide (htz.out h0)
        clear htz hsz h0
        go_wp2_with fail
        go_round
        case rel => exact ⟨1, by omega, by simp, HT⟩
        case measure => simp [intOf]
      · have q1 : ((x : Int) != 0) = true := by rw [bne_iff_ne]; omega
        have KL : Hid (∀ w, Calls Try.prog 70 #[.int .u64 (x : Int)] w fun e w' => ∃ s : Nat, e = .returned (.int .i64 (s : Int)) ∧ 1 ≤ s ∧ s ≤ 64 ∧ x < 2 ^ s ∧ 2 ^ (s - 1) ≤ x ∧ w = w') := fun w => b_len x w hx (by omega)
        have H0 := hide h0
        clear htz h0
        go_wp2_with fail
        (with_reducible refine (KL.out _).mono ?_)
        rintro e v2 ⟨s, rfl, s1, s2, s3, s4, rfl⟩
        have hf := hide (hsz.out s H0.out s3 s1 s4)
        clear s3 s4 hsz
        go_wp2_with fail
        go_ret
        exact ⟨64 * 4 + s, congrArg (fun z => Ending.returned (Value.int .i64 z)) (by omega), by omega, hf.out.1, fun _ => ⟨by omega, hf.out.2⟩, fun h => by have := hf.out.2; have := Nat.two_pow_pos (64 * 4 + s - 1); omega, E.out⟩
    · have hx := w5_lt C 3
      have hsz := hide (size_word C 3 · HC.out)
      have htz := hide (top_zero C 3 HC.out)
      have c1 : w1.cell? ⟨g, 3, none⟩ = some (.int .u64 (w5 C 3 : Int)) := H1.out.cell 3
      obtain ⟨x, hxx⟩ : ∃ x, w5 C 3 = x := ⟨_, rfl⟩
      rw [hxx] at hx hsz htz c1
      clear hxx
      by_cases h0 : x = 0
      · have q1 : ((x : Int) != 0) = false := by rw [bne_eq_false_iff_eq]; omega
        have HT := hide (htz.out h0)
        clear htz hsz h0
        go_wp2_with fail
        go_round
        case rel => exact ⟨2, by omega, by simp, HT⟩
        case measure => simp [intOf]
      · have q1 : ((x : Int) != 0) = true := by rw [bne_iff_ne]; omega
        have KL : Hid (∀ w, Calls Try.prog 70 #[.int .u64 (x : Int)] w fun e w' => ∃ s : Nat, e = .returned (.int .i64 (s : Int)) ∧ 1 ≤ s ∧ s ≤ 64 ∧ x < 2 ^ s ∧ 2 ^ (s - 1) ≤ x ∧ w = w') := fun w => b_len x w hx (by omega)
        have H0 := hide h0
        clear htz h0
        go_wp2_with fail
        (with_reducible refine (KL.out _).mono ?_)
        rintro e v2 ⟨s, rfl, s1, s2, s3, s4, rfl⟩
        have hf := hide (hsz.out s H0.out s3 s1 s4)
        clear s3 s4 hsz
        go_wp2_with fail
        go_ret
        exact ⟨64 * 3 + s, congrArg (fun z => Ending.returned (Value.int .i64 z)) (by omega), by omega, hf.out.1, fun _ => ⟨by omega, hf.out.2⟩, fun h => by have := hf.out.2; have := Nat.two_pow_pos (64 * 3 + s - 1); omega, E.out⟩
    · have hx := w5_lt C 2
      have hsz := hide (size_word C 2 · HC.out)
      have htz := hide (top_zero C 2 HC.out)
      have c1 : w1.cell? ⟨g, 2, none⟩ = some (.int .u64 (w5 C 2 : Int)) := H1.out.cell 2
      obtain ⟨x, hxx⟩ : ∃ x, w5 C 2 = x := ⟨_, rfl⟩
      rw [hxx] at hx hsz htz c1
      clear hxx
      by_cases h0 : x = 0
      · have q1 : ((x : Int) != 0) = false := by rw [bne_eq_false_iff_eq]; omega
        have HT := hide (htz.out h0)
        clear htz hsz h0
        go_wp2_with fail
        go_round
        case rel => exact ⟨3, by omega, by simp, HT⟩
        case measure => simp [intOf]
      · have q1 : ((x : Int) != 0) = true := by rw [bne_iff_ne]; omega
        have KL : Hid (∀ w, Calls Try.prog 70 #[.int .u64 (x : Int)] w fun e w' => ∃ s : Nat, e = .returned (.int .i64 (s : Int)) ∧ 1 ≤ s ∧ s ≤ 64 ∧ x < 2 ^ s ∧ 2 ^ (s - 1) ≤ x ∧ w = w') := fun w => b_len x w hx (by omega)
        have H0 := hide h0
        clear htz h0
        go_wp2_with fail
        (with_reducible refine (KL.out _).mono ?_)
        rintro e v2 ⟨s, rfl, s1, s2, s3, s4, rfl⟩
        have hf := hide (hsz.out s H0.out s3 s1 s4)
        clear s3 s4 hsz
        go_wp2_with fail
        go_ret
        exact ⟨64 * 2 + s, congrArg (fun z => Ending.returned (Value.int .i64 z)) (by omega), by omega, hf.out.1, fun _ => ⟨by omega, hf.out.2⟩, fun h => by have := hf.out.2; have := Nat.two_pow_pos (64 * 2 + s - 1); omega, E.out⟩
    · have hx := w5_lt C 1
      have hsz := hide (size_word C 1 · HC.out)
      have htz := hide (top_zero C 1 HC.out)
      have c1 : w1.cell? ⟨g, 1, none⟩ = some (.int .u64 (w5 C 1 : Int)) := H1.out.cell 1
      obtain ⟨x, hxx⟩ : ∃ x, w5 C 1 = x := ⟨_, rfl⟩
      rw [hxx] at hx hsz htz c1
      clear hxx
      by_cases h0 : x = 0
      · have q1 : ((x : Int) != 0) = false := by rw [bne_eq_false_iff_eq]; omega
        have HT := hide (htz.out h0)
        clear htz hsz h0
        go_wp2_with fail
        go_round
        case rel => exact ⟨4, by omega, by simp, HT⟩
        case measure => simp [intOf]
      · have q1 : ((x : Int) != 0) = true := by rw [bne_iff_ne]; omega
        have KL : Hid (∀ w, Calls Try.prog 70 #[.int .u64 (x : Int)] w fun e w' => ∃ s : Nat, e = .returned (.int .i64 (s : Int)) ∧ 1 ≤ s ∧ s ≤ 64 ∧ x < 2 ^ s ∧ 2 ^ (s - 1) ≤ x ∧ w = w') := fun w => b_len x w hx (by omega)
        have H0 := hide h0
        clear htz h0
        go_wp2_with fail
        (with_reducible refine (KL.out _).mono ?_)
        rintro e v2 ⟨s, rfl, s1, s2, s3, s4, rfl⟩
        have hf := hide (hsz.out s H0.out s3 s1 s4)
        clear s3 s4 hsz
        go_wp2_with fail
        go_ret
        exact ⟨64 * 1 + s, congrArg (fun z => Ending.returned (Value.int .i64 z)) (by omega), by omega, hf.out.1, fun _ => ⟨by omega, hf.out.2⟩, fun h => by have := hf.out.2; have := Nat.two_pow_pos (64 * 1 + s - 1); omega, E.out⟩
    · have hx := w5_lt C 0
      have hsz := hide (size_word C 0 · HC.out)
      have htz := hide (top_zero C 0 HC.out)
      have c1 : w1.cell? ⟨g, 0, none⟩ = some (.int .u64 (w5 C 0 : Int)) := H1.out.cell 0
      obtain ⟨x, hxx⟩ : ∃ x, w5 C 0 = x := ⟨_, rfl⟩
      rw [hxx] at hx hsz htz c1
      clear hxx
      by_cases h0 : x = 0
      · have q1 : ((x : Int) != 0) = false := by rw [bne_eq_false_iff_eq]; omega
        have HT := hide (htz.out h0)
        clear htz hsz h0
        go_wp2_with fail
        go_round
        case rel => exact ⟨5, by omega, by simp, HT⟩
        case measure => simp [intOf]
      · have q1 : ((x : Int) != 0) = true := by rw [bne_iff_ne]; omega
        have KL : Hid (∀ w, Calls Try.prog 70 #[.int .u64 (x : Int)] w fun e w' => ∃ s : Nat, e = .returned (.int .i64 (s : Int)) ∧ 1 ≤ s ∧ s ≤ 64 ∧ x < 2 ^ s ∧ 2 ^ (s - 1) ≤ x ∧ w = w') := fun w => b_len x w hx (by omega)
        have H0 := hide h0
        clear htz h0
        go_wp2_with fail
        (with_reducible refine (KL.out _).mono ?_)
        rintro e v2 ⟨s, rfl, s1, s2, s3, s4, rfl⟩
        have hf := hide (hsz.out s H0.out s3 s1 s4)
        clear s3 s4 hsz
        go_wp2_with fail
        go_ret
        exact ⟨64 * 0 + s, congrArg (fun z => Ending.returned (Value.int .i64 z)) (by omega), by omega, hf.out.1, fun _ => ⟨by omega, hf.out.2⟩, fun h => by have := hf.out.2; have := Nat.two_pow_pos (64 * 0 + s - 1); omega, E.out⟩
    · have hz : C = 0 := by have := HC.out; simpa using this
      have HZ := hide hz
      clear hz
      have n1 : ¬ (0 : Int) ≤ 4 - ((5 : Nat) : Int) := by omega
      go_wp2_with fail
      go_ret
      exact ⟨0, rfl, by omega, by rw [HZ.out]; decide, fun h => absurd HZ.out h, fun _ => rfl, E.out⟩
end Go.Proofs.Ytdboaogdanahkaa
