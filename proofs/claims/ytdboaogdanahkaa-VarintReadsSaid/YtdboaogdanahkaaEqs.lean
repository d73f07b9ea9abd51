/- Equal cells of equal numbers; an integer that fits has cells. No condition. -/
import Derived.Test.YtdboaogdanahkaaTapeC
namespace Go.Proofs.Ytdboaogdanahkaa
set_option linter.unusedVariables false
set_option linter.unusedSimpArgs false
open Go Go.RowKit
theorem neq_same (s : Bool) (a b c d : Int) (w : World) : (binOp .neq 32 (.agg #[.bool s, .int .u64 a, .int .u64 b, .int .u64 c, .int .u64 d]) (.agg #[.bool s, .int .u64 a, .int .u64 b, .int .u64 c, .int .u64 d])).run Try.prog w = .ok (.bool false) w := by
  rw [neq5]; simp
theorem eq_same' (s : Bool) (a b c d : Int) (w : World) : (binOp .eql 32 (.agg #[.bool s, .int .u64 a, .int .u64 b, .int .u64 c, .int .u64 d]) (.agg #[.bool s, .int .u64 a, .int .u64 b, .int .u64 c, .int .u64 d])).run Try.prog w = .ok (.bool true) w := by
  rw [eq5]; simp
theorem isC_some (z : Int) (h : z.natAbs < 115792089237316195423570985008687907853269984665640564039457584007913129639936) : ∃ (s : Bool) (a b c d : Nat), IsC s a b c d z := by
  obtain ⟨a, b, c, d, _, hC⟩ := natV_isC (decide (z < 0)) z.natAbs (limbs_len_le.2 h)
  have e : (if decide (z < 0) then -(z.natAbs : Int) else (z.natAbs : Int)) = z := by
    by_cases h0 : z < 0
    · rw [decide_eq_true h0]; simp; omega
    · rw [decide_eq_false h0]; simp; omega
  rw [e] at hC
  exact ⟨_, a, b, c, d, hC⟩
theorem isW_fits {s : Bool} {a b c d : Nat} {x : Int} (h : IsW s a b c d x) : x.natAbs < 115792089237316195423570985008687907853269984665640564039457584007913129639936 := by
  obtain ⟨h1, h2, h3, h4, h5⟩ := h
  have := mag_lt h1 h2 h3 h4
  cases s <;> simp at h5 <;> omega
end Go.Proofs.Ytdboaogdanahkaa
