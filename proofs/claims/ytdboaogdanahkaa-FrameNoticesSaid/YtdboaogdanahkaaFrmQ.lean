/- Frames in which bits within 32 consecutive bits are inverted. No condition. -/
import Derived.Test.YtdboaogdanahkaaFrmG
namespace Go.Proofs.Ytdboaogdanahkaa
set_option linter.unusedVariables false
set_option linter.unusedSimpArgs false
open Go Go.RowKit
theorem valLE_app : ∀ (l m : List Nat), valLE (l ++ m) = valLE l + 256 ^ l.length * valLE m
  | [], m => by simp [valLE]
  | x :: l, m => by
    have := valLE_app l m
    simp only [List.cons_append, valLE, this, List.length_cons, Nat.pow_succ, Nat.mul_add]
    have e : 256 * (256 ^ l.length * valLE m) = 256 ^ l.length * 256 * valLE m := by rw [← Nat.mul_assoc, Nat.mul_comm 256]
    rw [e]; omega
theorem valLE_take9 {q : List Nat} (hb : IsB q) (h : 9 ≤ q.length) : valLE (q.take 9) = valLE q % 2 ^ 72 ∧ valLE (q.drop 9) = valLE q / 2 ^ 72 := by
  have hl : (q.take 9).length = 9 := by rw [List.length_take]; omega
  have h1 := valLE_app (q.take 9) (q.drop 9)
  rw [List.take_append_drop, hl] at h1
  have h2 := valLE_lt (q.take 9) (hb.take 9)
  rw [hl] at h2
  rw [h1]
  have e : (256 : Nat) ^ 9 = 2 ^ 72 := by decide
  rw [e] at h2 ⊢
  constructor
  · rw [Nat.add_mul_mod_self_left, Nat.mod_eq_of_lt h2]
  · rw [Nat.add_mul_div_left _ _ (by decide), Nat.div_eq_of_lt h2, Nat.zero_add]
theorem frD_err6 {s : List Nat} (h9 : 9 ≤ s.length) (h : chk (s.take 9) = false) : (frD s).2.2.2 = 6 := by
  rw [frD_no (frH_B (by omega) h) (by omega)]
theorem frD_burst_core {kd : Nat} {p q t : List Nat} (hk : kd < 256) (hp : IsB p) (h4 : p.length ≤ 4194304) (hq : IsB q) (hl : q.length = p.length + 13)
    (P1 K1 a1 P2 K2 a2 : Nat) (hP1 : P1 < 2 ^ K1) (hK1 : K1 ≤ 32) (ha1 : a1 + K1 ≤ 72) (hv1 : valLE (q.take 9) = valLE (hd9 kd p.length) ^^^ (P1 <<< a1))
    (hP2 : P2 < 2 ^ K2) (hK2 : K2 ≤ 32) (ha2 : a2 + K2 ≤ 8 * (p.length + 4)) (hv2 : valLE (q.drop 9) = valLE (p ++ tailL (crcB 0#32 p)) ^^^ (P2 <<< a2)) :
    (frD (q ++ t)).2.2.2 = if P1 ≠ 0 ∨ P2 ≠ 0 then 6 else 0 := by
  have hq9 : (q.take 9).length = 9 := by rw [List.length_take]; omega
  have ht9 : (q ++ t).take 9 = q.take 9 := List.take_append_of_le_length (by omega)
  have hd9' : (q ++ t).drop 9 = q.drop 9 ++ t := List.drop_append_of_le_length (by omega)
  have b1 := burst (hd9_b hk p.length) (hq.take 9) (by rw [hq9, hd9_len]) (by rw [hd9_len]; omega) (chk_hd9 kd p.length) P1 a1 K1 hP1 hK1 (by rw [hd9_len]; omega) hv1
  by_cases h1 : P1 = 0
  · subst h1
    have e1 : q.take 9 = hd9 kd p.length := valLE_inj _ _ (hq.take 9) (hd9_b hk _) (by rw [hq9, hd9_len]) (by rw [hv1]; simp)
    have e2 : q ++ t = hd9 kd p.length ++ (q.drop 9 ++ t) := by rw [← e1, ← List.append_assoc, List.take_append_drop]
    have hH : frH (q ++ t) = (p.length, 0) := by rw [e2, frH_hd9 _ _ _ (by omega), if_neg (by omega)]
    have hdl : (q.drop 9).length = p.length + 4 := by rw [List.length_drop]; omega
    have b2 := burst (hp.app (tailL_b (crcB 0#32 p))) (hq.drop 9) (by rw [hdl, List.length_append]; rfl) (by rw [List.length_append]; simp [tailL]) (chk_app p) P2 a2 K2 hP2 hK2 (by rw [List.length_append]; exact ha2) hv2
    have hB : ((q ++ t).drop 9).take (p.length + 4) = q.drop 9 := by rw [hd9', List.take_left' hdl]
    have hL : ¬ ((q ++ t).drop 9).length < p.length + 4 := by rw [hd9', List.length_append, hdl]; omega
    by_cases h2 : P2 = 0
    · subst h2
      have b3 : chk (q.drop 9) = true := by rw [b2]; simp
      rw [frD_F hH hL (by rw [hB]; exact b3)]
      simp
    · have b3 : chk (q.drop 9) = false := by rw [b2]; simp [h2]
      rw [frD_E hH hL (by rw [hB]; exact b3), if_pos (Or.inr h2)]
  · have b3 : chk ((q ++ t).take 9) = false := by rw [ht9, b1]; simp [h1]
    rw [frD_err6 (by rw [List.length_append]; omega) b3, if_pos (Or.inl h1)]
theorem frD_burst {kd : Nat} {p q t : List Nat} (hk : kd < 256) (hp : IsB p) (h4 : p.length ≤ 4194304) (hq : IsB q) (hl : q.length = p.length + 13)
    (P a K : Nat) (hP : P < 2 ^ K) (hK : K ≤ 32) (ha : a + K ≤ 8 * (p.length + 13)) (hv : valLE q = valLE (frE kd p) ^^^ (P <<< a)) :
    (frD (q ++ t)).2.2.2 = if P ≠ 0 then 6 else 0 := by
  obtain ⟨q1, q2⟩ := valLE_take9 hq (by omega)
  obtain ⟨f1, f2⟩ := valLE_take9 (frE_b hk hp) (by rw [frE_len]; omega)
  have e1 : (frE kd p).take 9 = hd9 kd p.length := hd9_take _ _ _
  have e2 : (frE kd p).drop 9 = p ++ tailL (crcB 0#32 p) := hd9_drop _ _ _
  rw [e1] at f1
  rw [e2] at f2
  rw [hv, Nat.xor_mod_two_pow, ← f1, Nat.shiftLeft_eq] at q1
  rw [hv, Nat.xor_div_two_pow, ← f2, Nat.shiftLeft_eq] at q2
  by_cases h72 : 72 ≤ a
  · have ev : P * 2 ^ a = P * 2 ^ (a - 72) * 2 ^ 72 := by rw [Nat.mul_assoc, ← Nat.pow_add, show a - 72 + 72 = a by omega]
    rw [ev, Nat.mul_mod_left] at q1
    rw [ev, Nat.mul_div_cancel _ (by decide)] at q2
    rw [frD_burst_core (t := t) hk hp h4 hq hl 0 0 0 P K (a - 72) (by decide) (by omega) (by omega) (by rw [q1]; rfl) hP hK (by omega) (by rw [q2, Nat.shiftLeft_eq])]
    simp
  · obtain ⟨j, hj⟩ : ∃ j, 72 - a = j := ⟨_, rfl⟩
    have h72' : 2 ^ j * 2 ^ a = 2 ^ 72 := by rw [← Nat.pow_add, show j + a = 72 by omega]
    have hs : P = P % 2 ^ j + 2 ^ j * (P / 2 ^ j) := (Nat.mod_add_div P (2 ^ j)).symm
    have hj0 : 0 < 2 ^ j := Nat.pow_pos (by omega)
    have hlt : P % 2 ^ j < 2 ^ j := Nat.mod_lt _ hj0
    obtain ⟨P1, hP1⟩ : ∃ x, P % 2 ^ j = x := ⟨_, rfl⟩
    obtain ⟨P2, hP2⟩ : ∃ x, P / 2 ^ j = x := ⟨_, rfl⟩
    rw [hP1, hP2] at hs
    rw [hP1] at hlt
    have ev : P * 2 ^ a = P1 * 2 ^ a + 2 ^ 72 * P2 := by
      rw [hs, Nat.add_mul, ← h72', Nat.mul_assoc, Nat.mul_assoc, Nat.mul_comm P2]
    have hlow : P1 * 2 ^ a < 2 ^ 72 := by rw [← h72']; exact Nat.mul_lt_mul_of_pos_right hlt (Nat.pow_pos (by omega))
    rw [ev, Nat.add_mul_mod_self_left, Nat.mod_eq_of_lt hlow] at q1
    rw [ev, Nat.add_mul_div_left _ _ (by decide), Nat.div_eq_of_lt hlow, Nat.zero_add] at q2
    have hP1K : P1 < 2 ^ min K j := by
      have : P1 ≤ P := by rw [← hP1]; exact Nat.mod_le _ _
      rcases Nat.le_total K j with h | h
      · rw [Nat.min_eq_left h]; omega
      · rw [Nat.min_eq_right h]; exact hlt
    have hP2K : P2 < 2 ^ (K - j) := by
      rw [← hP2]
      rcases Nat.le_total K j with h | h
      · rw [Nat.div_eq_of_lt (Nat.lt_of_lt_of_le hP (Nat.pow_le_pow_right (by omega) h))]
        exact Nat.pow_pos (by omega)
      · rw [Nat.div_lt_iff_lt_mul hj0, ← Nat.pow_add, show K - j + j = K by omega]; exact hP
    rw [frD_burst_core (t := t) hk hp h4 hq hl P1 (min K j) a P2 (K - j) 0 hP1K (by omega) (by omega) (by rw [q1, Nat.shiftLeft_eq]) hP2K (by omega) (by omega) (by rw [q2, Nat.shiftLeft_eq, Nat.pow_zero, Nat.mul_one])]
    have hiff : (P1 ≠ 0 ∨ P2 ≠ 0) ↔ P ≠ 0 := by
      constructor
      · intro h e
        subst e
        have z1 : P1 = 0 := by rw [← hP1, Nat.zero_mod]
        have z2 : P2 = 0 := by rw [← hP2, Nat.zero_div]
        omega
      · intro h
        by_cases z1 : P1 = 0
        · right
          intro z2
          apply h
          rw [hs, z1, z2]; simp
        · exact Or.inl z1
    by_cases hP0 : P ≠ 0
    · rw [if_pos hP0, if_pos (hiff.2 hP0)]
    · rw [if_neg hP0, if_neg (fun h => hP0 (hiff.1 h))]
theorem frR_burst {kd : Nat} {p q t : List Nat} (hk : kd < 256) (hp : IsB p) (h4 : p.length ≤ 4194304) (hq : IsB q) (hl : q.length = p.length + 13)
    (P a K : Nat) (hP : P < 2 ^ K) (hK : K ≤ 32) (ha : a + K ≤ 8 * (p.length + 13)) (hv : valLE q = valLE (frE kd p) ^^^ (P <<< a)) :
    (frR (q ++ t) 0).2.2.2 = if P ≠ 0 then 6 else 0 := by
  have := frD_burst (t := t) hk hp h4 hq hl P a K hP hK ha hv
  unfold frR
  rw [if_neg (by omega)]
  exact this
end Go.Proofs.Ytdboaogdanahkaa
