/- Numbers that were appended are read. No condition. -/
import Derived.Test.YtjmigglibidbdaaVar1
import Derived.Test.YtjmigglibidbdaaVarG
namespace Go.Proofs.Ytjmigglibidbdaa
set_option linter.unusedVariables false
set_option linter.unusedSimpArgs false
open Go Go.RowKit
theorem enc_bounds {v n : Nat} (h : (encB v).length = n + 1) : v < 128 ^ (n + 1) ∧ (0 < n → 128 ^ n ≤ v) := by
  constructor
  · rcases Nat.lt_or_ge v (128 ^ (n + 1)) with h1 | h1
    · exact h1
    · have := encB_length_gt v (n + 1) h1; omega
  · intro hn
    obtain ⟨m, rfl⟩ : ∃ m, n = m + 1 := ⟨n - 1, by omega⟩
    rcases Nat.lt_or_ge v (128 ^ (m + 1)) with h1 | h1
    · have := encB_length_le v m h1; omega
    · exact h1
theorem grs_hi (v : Nat) : ∀ n, ∀ y ∈ grs v n, 128 ≤ y
  | 0 => by simp [grs]
  | n + 1 => by
    intro y hy
    rcases List.mem_append.1 hy with h | h
    · exact grs_hi v n y h
    · have : y = gr v n + 128 := by simpa using h
      omega
theorem scan_enc (v : Nat) (t : List Nat) (m : Nat) (hm : (encB v).length ≤ m) : scanG m (encB v ++ t) = some (encB v) := by
  obtain ⟨n, hn⟩ : ∃ n, (encB v).length = n + 1 := ⟨(encB v).length - 1, by have := encB_pos v; omega⟩
  have e := encB_grs v n hn
  have hl : n < (encB v ++ t).length := by rw [List.length_append]; omega
  have := scanG_at m (encB v ++ t) n (by omega) hl (by
    rw [e]
    have h1 : n = (grs v n).length := (grs_len v n).symm
    simp only [List.getD_eq_getElem?_getD, List.append_assoc]
    rw [List.getElem?_append_right (by rw [grs_len]; exact Nat.le_refl _), grs_len, Nat.sub_self]
    exact gr_lt v n) (fun i hi => by
    rw [e]
    simp only [List.getD_eq_getElem?_getD, List.append_assoc]
    have hin : i < (grs v n).length := by rw [grs_len]; exact hi
    rw [List.getElem?_append_left hin, List.getElem?_eq_getElem hin]
    exact grs_hi v n _ (List.getElem_mem hin))
  rw [this]
  congr 1
  rw [← hn, List.take_left']
  rfl
theorem ok_enc (v width : Nat) (h : v < 2 ^ width) : okG width (encB v) = true := by
  obtain ⟨n, hn⟩ : ∃ n, (encB v).length = n + 1 := ⟨(encB v).length - 1, by have := encB_pos v; omega⟩
  have e := encB_grs v n hn
  obtain ⟨b1, b2⟩ := enc_bounds hn
  have hg : gr v n = v / 128 ^ n := by
    unfold gr
    refine Nat.mod_eq_of_lt ?_
    rw [Nat.pow_succ] at b1
    exact Nat.div_lt_of_lt_mul b1
  rw [okG_form (j := n) (x := gr v n) hn (by rw [e]; simp)]
  have hp : 0 < 128 ^ n := Nat.pow_pos (by omega)
  have c1 : ¬ (gr v n = 0 ∧ 0 < n) := by
    rintro ⟨h0, hn0⟩
    have := (Nat.le_div_iff_mul_le hp).2 (by rw [Nat.one_mul]; exact b2 hn0)
    omega
  have c2 : 7 * n + Lib.bitLen (gr v n) ≤ width := by
    have hlt := gr_lt v n
    obtain ⟨_, _, cc⟩ := bitLen_spec (gr v n) (by omega)
    by_cases h0 : gr v n = 0
    · have hn0 : ¬ 0 < n := fun hn0 => c1 ⟨h0, hn0⟩
      rw [h0, show Lib.bitLen 0 = 0 by decide +kernel]; omega
    · obtain ⟨d1, d2⟩ := cc h0
      rcases Nat.lt_or_ge width (7 * n + Lib.bitLen (gr v n)) with hw | hw
      · have h1 : 2 ^ width ≤ 2 ^ (7 * n + (Lib.bitLen (gr v n) - 1)) := Nat.pow_le_pow_right (by omega) (by omega)
        rw [Nat.pow_add, pow_seven] at h1
        have h2 : 128 ^ n * 2 ^ (Lib.bitLen (gr v n) - 1) ≤ 128 ^ n * gr v n := Nat.mul_le_mul_left _ d2
        have h3 : 128 ^ n * gr v n ≤ v := by rw [hg]; exact Nat.mul_div_le v _
        omega
      · exact hw
  rw [decide_eq_true c2, Bool.and_true]
  by_cases h0 : gr v n = 0
  · have : ¬ 0 < n := fun hn0 => c1 ⟨h0, hn0⟩
    rw [decide_eq_false this, Bool.and_false]; rfl
  · rw [decide_eq_false h0]; rfl
theorem rd_enc (lb lr : List Nat) (v width most : Nat) (h : v < 2 ^ width) (hm : (encB v).length ≤ most) : rdG (lb ++ encB v ++ lr) (lb.length : Int) width most = some (encB v) := by
  unfold rdG
  rw [if_neg (by rw [List.append_assoc, List.length_append]; omega), Int.toNat_natCast, List.append_assoc, List.drop_left, scan_enc v lr most hm]
  show (if okG width (encB v) = true then _ else _) = _
  rw [if_pos (ok_enc v width h)]
theorem rdV_enc (lb lr : List Nat) (v : Nat) (h : v < 18446744073709551616) : rdV (lb ++ encB v ++ lr) (lb.length : Int) = ((v : Int), (lb.length : Int) + ((encB v).length : Int), 0) := by
  unfold rdV
  rw [rd_enc lb lr v 64 10 h (encB_length_le v 9 (by omega))]
  show (((decB (encB v) : Nat) : Int), _, _) = _
  rw [decB_encB]
theorem rdS_enc (lb lr : List Nat) (s : Int) (h : I64 s) : rdS (lb ++ encB (zig s) ++ lr) (lb.length : Int) = (s, (lb.length : Int) + ((encB (zig s)).length : Int), 0) := by
  unfold rdS
  rw [rdV_enc lb lr _ (zig_lt h.1 h.2), Int.toNat_natCast, zag_zig]
end Go.Proofs.Ytjmigglibidbdaa
