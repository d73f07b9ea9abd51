/- Add and Sub of the program. Conditions: the cells stand for numbers. -/
import Derived.Test.YtjmigglibidbdaaWrd2
import Derived.Test.YtjmigglibidbdaaMagH
namespace Go.Proofs.Ytjmigglibidbdaa
set_option linter.unusedVariables false
set_option linter.unusedSimpArgs false
open Go Go.RowKit
theorem p4' : (18446744073709551616 : Nat) ^ 4 = 115792089237316195423570985008687907853269984665640564039457584007913129639936 := p4
/-- What a sum returns: the sum if it fits, else 0. -/
theorem wideRet_yes {z : Int} {w w' : World} {s : Bool} {a b c d : Nat} (hf : z.natAbs < 115792089237316195423570985008687907853269984665640564039457584007913129639936) (hC : IsC s a b c d z) (hE : Ext w w') :
    WideRet z w (.returned (.tuple #[.agg #[.bool s, .int .u64 (a : Int), .int .u64 (b : Int), .int .u64 (c : Int), .int .u64 (d : Int)], .bool true])) w' :=
  ⟨s, a, b, c, d, true, rfl, (decide_eq_true hf).symm, by rw [if_pos hf]; exact hC, hE⟩
theorem wideRet_no {z : Int} {w w' : World} (hf : ¬ z.natAbs < 115792089237316195423570985008687907853269984665640564039457584007913129639936) (hE : Ext w w') :
    WideRet z w (.returned (.tuple #[.agg #[.bool false, .int .u64 0, .int .u64 0, .int .u64 0, .int .u64 0], .bool false])) w' :=
  ⟨false, 0, 0, 0, 0, false, rfl, (decide_eq_false hf).symm, by rw [if_neg hf]; exact ⟨⟨by omega, by omega, by omega, by omega, by simp [mag4, val]⟩, by simp⟩, hE⟩
theorem IsC.fits {s : Bool} {a b c d : Nat} {z : Int} (h : IsW s a b c d z) : z.natAbs < 115792089237316195423570985008687907853269984665640564039457584007913129639936 := by
  rw [← h.abs]; exact mag_lt h.1 h.2.1 h.2.2.1 h.2.2.2.1
end Go.Proofs.Ytjmigglibidbdaa
