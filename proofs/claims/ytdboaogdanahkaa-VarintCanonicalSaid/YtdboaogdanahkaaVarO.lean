/- The program's ReadWide. Conditions: the slice reads as bytes. -/
import Derived.Test.YtdboaogdanahkaaVarN
namespace Go.Proofs.Ytdboaogdanahkaa
set_option linter.unusedVariables false
set_option linter.unusedSimpArgs false
open Go Go.RowKit
theorem w5_low (V r : Nat) (hr : r < 128) : w5 (V * 128 + r) 0 = w5 (V * 128) 0 + r := by unfold w5; simp only [Nat.pow_zero, Nat.div_one]; omega
theorem w5_high (V r i : Nat) (hr : r < 128) : w5 (V * 128 + r) (i + 1) = w5 (V * 128) (i + 1) := by
  unfold w5
  have e : (V * 128 + r) / 18446744073709551616 ^ (i + 1) = V * 128 / 18446744073709551616 ^ (i + 1) := by
    have h2 : ∀ X, X / 18446744073709551616 ^ (i + 1) = X / 128 / (144115188075855872 * 18446744073709551616 ^ i) := fun X => by
      rw [Nat.div_div_eq_div_mul, Nat.pow_succ, Nat.mul_comm (18446744073709551616 ^ i), ← Nat.mul_assoc]
    rw [h2, h2]
    congr 1
    omega
  rw [e]
theorem ag5_low (V r : Nat) (hr : r < 128) : (ag5 (V * 128)).setIfInBounds 0 (.int .u64 ((w5 (V * 128) 0 + r : Nat) : Int)) = ag5 (V * 128 + r) := by
  unfold ag5
  rw [w5_low V r hr, w5_high V r 0 hr, w5_high V r 1 hr, w5_high V r 2 hr, w5_high V r 3 hr]
  simp
theorem low_blk (w : World) (g V r x : Nat) (hr : r < 128) (hx : w5 (V * 128) 0 = x) (h : Blk w g 82 (ag5 (V * 128))) : Blk (w.setCell ⟨g, 0, none⟩ (.int .u64 ((x + r : Nat) : Int))) g 82 (ag5 (V * 128 + r)) := by
  have := h.set_ 0 (.int .u64 ((x + r : Nat) : Int))
  rw [← hx, ag5_low V r hr] at this
  rw [← hx]; exact this
theorem or_low5 (V r x : Nat) (hr : r < 128) (hx : w5 (V * 128) 0 = x) : bits .or .u64 (x : Int) (r : Int) = ((x + r : Nat) : Int) ∧ x + r < 18446744073709551616 := by
  have hl := w5_lt (V * 128) 0
  have hm : w5 (V * 128) 0 % 128 = 0 := by unfold w5; simp only [Nat.pow_zero, Nat.div_one]; omega
  rw [hx] at hl hm
  obtain ⟨u, rfl⟩ : ∃ u, x = u * 128 := ⟨x / 128, by omega⟩
  have h : u * 128 + r < 18446744073709551616 := by omega
  exact ⟨by have := or_low u r hr h; simpa using this, h⟩
theorem mag4_w5 (D : Nat) (h : D < 2 ^ 256) : mag4 (w5 D 0) (w5 D 1) (w5 D 2) (w5 D 3) = D := by
  have e1 : D / 18446744073709551616 ^ 1 = D / 18446744073709551616 := by rw [Nat.pow_one]
  have e2 : D / 18446744073709551616 ^ 2 = D / 18446744073709551616 / 18446744073709551616 := by rw [Nat.div_div_eq_div_mul]
  have e3 : D / 18446744073709551616 ^ 3 = D / 18446744073709551616 / 18446744073709551616 / 18446744073709551616 := by rw [Nat.div_div_eq_div_mul, Nat.div_div_eq_div_mul]
  have h4 : D / 18446744073709551616 / 18446744073709551616 / 18446744073709551616 < 18446744073709551616 := by
    rw [Nat.div_div_eq_div_mul, Nat.div_div_eq_div_mul]
    exact Nat.div_lt_of_lt_mul h
  unfold mag4 val val val val val w5
  rw [e1, e2, e3, Nat.pow_zero, Nat.div_one]
  omega
/-- The number with a code. -/
def unc (C : Nat) : Int := if C % 2 = 1 then -((C / 2 : Nat) : Int) else ((C / 2 : Nat) : Int)
theorem unc_isw (C : Nat) (o : Bool) (h : C < 2 ^ 257) (ho : decide (C % 2 = 1) = o) : IsW o (w5 (C / 2) 0) (w5 (C / 2) 1) (w5 (C / 2) 2) (w5 (C / 2) 3) (unc C) := by
  refine ⟨w5_lt _ _, w5_lt _ _, w5_lt _ _, w5_lt _ _, ?_⟩
  rw [mag4_w5 _ (by rw [show (2 : Nat) ^ 257 = 2 ^ 256 * 2 by decide +kernel] at h; omega)]
  unfold unc
  cases o
  · rw [if_neg (of_decide_eq_false ho)]; rfl
  · rw [if_pos (of_decide_eq_true ho)]; rfl
theorem unc_cod (z : Int) : unc (cod z) = z := by
  unfold unc cod
  split <;> split at * <;> omega
theorem cod_unc {C : Nat} (h : C ≠ 1) : cod (unc C) = C := by
  unfold unc cod
  split <;> split <;> omega
end Go.Proofs.Ytdboaogdanahkaa
