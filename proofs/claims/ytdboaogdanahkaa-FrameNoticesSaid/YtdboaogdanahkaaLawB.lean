/- Layer 6: CrcBursts. Conditions: the slice reads as bytes. -/
import Derived.Test.YtdboaogdanahkaaLawH
import Derived.Test.YtdboaogdanahkaaBurst
namespace Go.Proofs.Ytdboaogdanahkaa
set_option linter.unusedVariables false
set_option linter.unusedSimpArgs false
open Go Go.RowKit Go.Sort
/-- The bits of the pattern below k that are set. -/
def Pk (pat : Nat) : Nat → Nat
  | 0 => 0
  | k + 1 => if Nat.testBit pat k then Pk pat k ^^^ 2 ^ k else Pk pat k
theorem Pk_lt (pat : Nat) : ∀ k, Pk pat k < 2 ^ k
  | 0 => by simp [Pk]
  | k + 1 => by
    have h := Pk_lt pat k
    have h2 : Pk pat k < 2 ^ (k + 1) := by rw [Nat.pow_succ]; omega
    unfold Pk
    split
    · exact Nat.xor_lt_two_pow h2 (Nat.pow_lt_pow_right (by omega) (by omega))
    · exact h2
theorem Pk_ne (pat k : Nat) (h : Nat.testBit pat k = true) : Pk pat (k + 1) ≠ 0 := by
  intro e
  have h2 := congrArg (fun z => Nat.testBit z k) e
  unfold Pk at h2
  rw [if_pos h] at h2
  simp only [Nat.testBit_xor, Nat.zero_testBit, Nat.testBit_two_pow_self] at h2
  rw [Nat.testBit_lt_two_pow (Pk_lt pat k)] at h2
  simp at h2
/-- What lies in the slice after k steps. -/
structure Bst (m : List Nat) (at_ pat : Nat) (B g : Nat) (rest : List Value) (k : Nat) (ch : Bool) (q : List Nat) (w : World) : Prop where
  b : IsB q
  len : q.length = m.length
  val : valLE q = valLE m ^^^ (Pk pat k <<< at_)
  ch : ch = decide (Pk pat k ≠ 0)
  row : w.heap[g]? = some (.cells (u8s q ++ rest).toArray 5 (0, 0))
theorem Bst.skip {m : List Nat} {at_ pat B g : Nat} {rest : List Value} {k : Nat} {ch : Bool} {q : List Nat} {w : World} (h : Bst m at_ pat B g rest k ch q w) (hb : Nat.testBit pat k = false) : Bst m at_ pat B g rest (k + 1) ch q w := by
  have e : Pk pat (k + 1) = Pk pat k := by show (if _ then _ else _) = _; rw [hb]; rfl
  exact ⟨h.b, h.len, by rw [e]; exact h.val, by rw [e]; exact h.ch, h.row⟩
theorem Bst.flip {m : List Nat} {at_ pat B g : Nat} {rest : List Value} {k : Nat} {ch : Bool} {q : List Nat} {w : World} (h : Bst m at_ pat B g rest k ch q w) (hb : Nat.testBit pat k = true) (hp : at_ + k < 8 * m.length) (x : Nat) (hx : x = q.getD ((at_ + k) / 8) 0 ^^^ 2 ^ ((at_ + k) % 8)) : Bst m at_ pat B g rest (k + 1) true (flip q (at_ + k)) (w.setCell ⟨g, (at_ + k) / 8, none⟩ (.int .u8 (x : Int))) := by
  have e : Pk pat (k + 1) = Pk pat k ^^^ 2 ^ k := by show (if _ then _ else _) = _; rw [hb]; rfl
  refine ⟨flip_b h.b _, by rw [flip_len]; exact h.len, ?_, ?_, ?_⟩
  · rw [valLE_flip q _ h.b (by rw [h.len]; exact hp), h.val, e, Nat.shiftLeft_xor_distrib, Nat.xor_assoc]
    congr 2
    rw [Nat.shiftLeft_eq, ← Nat.pow_add]
    congr 1
    omega
  · rw [decide_eq_true (Pk_ne pat k hb)]
  · have := Blk.set_ (show Blk w g 5 (u8s q ++ rest).toArray from h.row) ((at_ + k) / 8) (.int .u8 (x : Int))
    have e2 : (u8s q ++ rest).toArray.setIfInBounds ((at_ + k) / 8) (.int .u8 (x : Int)) = (u8s (Go.Proofs.Ytdboaogdanahkaa.flip q (at_ + k)) ++ rest).toArray := by
      have hlt : (at_ + k) / 8 < (u8s q).length := by rw [u8s_len, h.len]; omega
      rw [List.setIfInBounds_toArray, List.set_append_left _ _ hlt]
      unfold Go.Proofs.Ytdboaogdanahkaa.flip
      rw [hx]
      simp [u8s, List.map_set]
    rw [e2] at this
    exact this
theorem bit_at (pat k : Nat) (h : pat < 4294967296) : (bits .and .u32 ((pat : Int) / 2 ^ k) 1 == 1) = Nat.testBit pat k := by
  have e : (pat : Int) / 2 ^ k = (((BitVec.ofNat 32 (pat / 2 ^ k)).toNat : Nat) : Int) := by
    have h2 : pat / 2 ^ k ≤ pat := Nat.div_le_self _ _
    rw [BitVec.toNat_ofNat, Nat.mod_eq_of_lt (by omega)]
    simp
  rw [e, and_one32, ← e]
  rw [Nat.testBit_eq_decide_div_mod_eq]
  have e2 : (pat : Int) / 2 ^ k % 2 = ((pat / 2 ^ k % 2 : Nat) : Int) := by simp
  rw [e2]
  by_cases h1 : pat / 2 ^ k % 2 = 1
  · rw [h1]; rfl
  · have h0 : pat / 2 ^ k % 2 = 0 := by omega
    rw [h0]; rfl
theorem xor_bit (y j : Nat) (hy : y < 256) (hj : j < 8) : bits .xor .u8 (y : Int) (2 ^ j % 256) = ((y ^^^ 2 ^ j : Nat) : Int) := by
  have h : 2 ^ j < 256 := Nat.pow_lt_pow_right (m := j) (n := 8) (by omega) hj
  have := xor8 y (2 ^ j) hy h
  have e : (2 : Int) ^ j % 256 = ((2 ^ j : Nat) : Int) := by
    have e2 : (2 : Int) ^ j = ((2 ^ j : Nat) : Int) := by simp
    rw [e2]
    generalize 2 ^ j = t at h
    omega
  rw [e]; exact this
theorem idxB (g N cap j : Nat) (x : Int) (hx : x = (j : Int)) (h : j < N) (w : World) : (Instr.indexAt 22 (.slice (some ⟨g, 0, none⟩) N cap) (.int .i64 x)).run Try.prog w = .ok (.pointer (some ⟨g, j, none⟩)) w := by
  subst hx
  have hz := Try.sizeOf5
  have he : Try.prog.elem 22 = 5 := by kernel_rfl
  have hr := run_indexAt_slice (P := Try.prog) (w := w) 22 ⟨g, 0, none⟩ N cap .i64 (j : Int) (by kernel_rfl)
  rw [hr, if_pos ⟨by omega, by omega⟩, he, hz]
  simp [Result.andThen, Addr.add]
  try (intro hh; omega)
end Go.Proofs.Ytdboaogdanahkaa
