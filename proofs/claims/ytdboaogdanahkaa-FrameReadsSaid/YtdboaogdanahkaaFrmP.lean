/- Frames as lists of bytes. No condition; nothing of the program but its checksum. -/
import Derived.Test.YtdboaogdanahkaaLawH
import Derived.Test.YtdboaogdanahkaaBurst
namespace Go.Proofs.Ytdboaogdanahkaa
set_option linter.unusedVariables false
set_option linter.unusedSimpArgs false
open Go Go.RowKit
def hd5 (k n : Nat) : List Nat := k :: numL n 4
def hd9 (k n : Nat) : List Nat := hd5 k n ++ tailL (crcB 0#32 (hd5 k n))
def frE (k : Nat) (p : List Nat) : List Nat := hd9 k p.length ++ (p ++ tailL (crcB 0#32 p))
/-- The number of bytes that the head gives, and the error. -/
def frH (s : List Nat) : Nat × Nat :=
  if s.length < 9 then (0, 4) else if chk (s.take 9) = false then (0, 6) else if 4194304 < valLE ((s.drop 1).take 4) then (0, 3) else (valLE ((s.drop 1).take 4), 0)
/-- The payload that begins s, and the error. -/
def frB (s : List Nat) (n : Nat) : List Nat × Nat :=
  if s.length < n + 4 then ([], 4) else if chk (s.take (n + 4)) = false then ([], 6) else (s.take n, 0)
/-- Kind, payload, bytes, error. -/
def frD (s : List Nat) : Nat × List Nat × Nat × Nat :=
  if (frH s).2 ≠ 0 then (0, [], 0, (frH s).2) else if (frB (s.drop 9) (frH s).1).2 ≠ 0 then (0, [], 0, (frB (s.drop 9) (frH s).1).2) else (s.getD 0 0, (frB (s.drop 9) (frH s).1).1, (frH s).1 + 13, 0)
theorem hd5_len (k n : Nat) : (hd5 k n).length = 5 := by simp [hd5, numL_len]
theorem hd9_len (k n : Nat) : (hd9 k n).length = 9 := by simp [hd9, hd5_len, tailL]
theorem frE_len (k : Nat) (p : List Nat) : (frE k p).length = p.length + 13 := by simp [frE, hd9_len, tailL]; omega
theorem hd5_b {k : Nat} (h : k < 256) (n : Nat) : IsB (hd5 k n) := by
  have := (IsB.one h).app (numL_b n 4)
  exact this
theorem hd9_b {k : Nat} (h : k < 256) (n : Nat) : IsB (hd9 k n) := (hd5_b h n).app (tailL_b _)
theorem frE_b {k : Nat} (h : k < 256) {p : List Nat} (hp : IsB p) : IsB (frE k p) := (hd9_b h _).app (hp.app (tailL_b _))
theorem valLE_num (n : Nat) (h : n < 4294967296) : valLE (numL n 4) = n := by
  simp [numL, valLE]; omega
theorem hd9_num (k n : Nat) (t : List Nat) : ((hd9 k n ++ t).drop 1).take 4 = numL n 4 := by
  have h4 := numL_len n 4
  simp only [hd9, hd5, List.cons_append, List.append_assoc, List.drop_succ_cons, List.drop_zero]
  exact List.take_left' h4
theorem hd9_take (k n : Nat) (t : List Nat) : (hd9 k n ++ t).take 9 = hd9 k n := List.take_left' (hd9_len k n)
theorem hd9_drop (k n : Nat) (t : List Nat) : (hd9 k n ++ t).drop 9 = t := List.drop_left' (hd9_len k n)
theorem chk_hd9 (k n : Nat) : chk (hd9 k n) = true := chk_app _
theorem frH_hd9 (k n : Nat) (t : List Nat) (h : n < 4294967296) : frH (hd9 k n ++ t) = if 4194304 < n then (0, 3) else (n, 0) := by
  unfold frH
  rw [if_neg (by rw [List.length_append, hd9_len]; omega), hd9_take, chk_hd9, if_neg (by simp), hd9_num, valLE_num n h]
theorem frH_le (s : List Nat) : (frH s).1 ≤ 4194304 := by
  unfold frH
  split
  · exact Nat.zero_le _
  · split
    · exact Nat.zero_le _
    · split
      · exact Nat.zero_le _
      · rename_i h; exact Nat.le_of_not_lt h
theorem frH_ok {s : List Nat} (h : (frH s).2 = 0) : 9 ≤ s.length := by
  unfold frH at h
  split at h
  · simp at h
  · omega
theorem frB_ok {s : List Nat} {n : Nat} (h : (frB s n).2 = 0) : n + 4 ≤ s.length ∧ (frB s n).1 = s.take n := by
  unfold frB at h ⊢
  split at h
  · simp at h
  · rename_i h1
    rw [if_neg h1]
    split at h
    · simp at h
    · rename_i h2
      rw [if_neg h2]
      exact ⟨by omega, rfl⟩
theorem frB_app (p t : List Nat) : frB (p ++ tailL (crcB 0#32 p) ++ t) p.length = (p, 0) := by
  have hl : (p ++ tailL (crcB 0#32 p)).length = p.length + 4 := by simp [tailL]
  unfold frB
  rw [if_neg (by rw [List.length_append, hl]; omega), List.take_left' hl, chk_app, if_neg (by simp), List.append_assoc, List.take_left' rfl]
/-- What is encoded is read. -/
theorem frD_enc (k : Nat) (p t : List Nat) (h : p.length ≤ 4194304) : frD (frE k p ++ t) = (k, p, p.length + 13, 0) := by
  have e : frE k p ++ t = hd9 k p.length ++ (p ++ tailL (crcB 0#32 p) ++ t) := by simp [frE, List.append_assoc]
  have h0 : (frE k p ++ t).getD 0 0 = k := by simp [frE, hd9, hd5]
  have h1 : frH (frE k p ++ t) = (p.length, 0) := by rw [e, frH_hd9 _ _ _ (by omega), if_neg (by omega)]
  unfold frD
  rw [h0, h1, e, hd9_drop, frB_app]
  simp
/-- A proper beginning is truncated. -/
theorem frD_cut (k : Nat) (p : List Nat) (m : Nat) (h : p.length ≤ 4194304) (hm : m < p.length + 13) : frD ((frE k p).take m) = (0, [], 0, 4) := by
  by_cases h9 : m < 9
  · have h1 : frH ((frE k p).take m) = (0, 4) := by
      unfold frH
      rw [if_pos (by rw [List.length_take]; omega)]
    unfold frD
    rw [h1]; simp
  · have e : (frE k p).take m = hd9 k p.length ++ (p ++ tailL (crcB 0#32 p)).take (m - 9) := by
      unfold frE
      rw [List.take_append, List.take_of_length_le (by rw [hd9_len]; omega), hd9_len]
    have h1 : frH ((frE k p).take m) = (p.length, 0) := by rw [e, frH_hd9 _ _ _ (by omega), if_neg (by omega)]
    have h2 : frB ((p ++ tailL (crcB 0#32 p)).take (m - 9)) p.length = ([], 4) := by
      unfold frB
      rw [if_pos (by rw [List.length_take, List.length_append]; simp [tailL]; omega)]
    unfold frD
    rw [h1, e, hd9_drop, h2]
    simp
end Go.Proofs.Ytdboaogdanahkaa
