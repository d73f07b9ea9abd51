/- addWords and subWords of the program. Condition: the words are of 64 bits; what is subtracted is not greater. -/
import Derived.Test.YtjmigglibidbdaaWrd1
import Derived.Test.YtjmigglibidbdaaMagJ
namespace Go.Proofs.Ytjmigglibidbdaa
set_option linter.unusedVariables false
set_option linter.unusedSimpArgs false
open Go Go.RowKit
theorem p4 : 18446744073709551616 ^ 4 = 115792089237316195423570985008687907853269984665640564039457584007913129639936 := by decide
/-- Words and a bool are returned. -/
def WordsRet (n : Nat) (o : Bool) (w : World) (e : Ending) (w' : World) : Prop := ∃ a b c d : Nat, e = .returned (.tuple #[.agg #[.int .u64 (a : Int), .int .u64 (b : Int), .int .u64 (c : Int), .int .u64 (d : Int)], .bool o]) ∧ W64 [a, b, c, d] ∧ mag4 a b c d = n ∧ Ext w w'
def WordsOnly (n : Nat) (w : World) (e : Ending) (w' : World) : Prop := ∃ a b c d : Nat, e = .returned (.agg #[.int .u64 (a : Int), .int .u64 (b : Int), .int .u64 (c : Int), .int .u64 (d : Int)]) ∧ W64 [a, b, c, d] ∧ mag4 a b c d = n ∧ Ext w w'
theorem ext_four {W w : World} (h : Ext W w) {b : Nat} (hb : W.heap.size ≤ b) (u0 u1 u2 u3 : Value) : Ext W ((((w.setCell ⟨b, 0, none⟩ u0).setCell ⟨b, 1, none⟩ u1).setCell ⟨b, 2, none⟩ u2).setCell ⟨b, 3, none⟩ u3) :=
  ext_set (ext_set (ext_set (ext_set h hb _ _) hb _ _) hb _ _) hb _ _
end Go.Proofs.Ytjmigglibidbdaa
/- Sign, Neg, Of, OfUnsigned, Unsigned, Int64 and Compare of the program. Conditions: the cells stand for numbers; the integers are of 64 bits. -/
namespace Go.Proofs.Ytjmigglibidbdaa
set_option linter.unusedVariables false
set_option linter.unusedSimpArgs false
open Go Go.RowKit
theorem IsW.w64 {s : Bool} {a b c d : Nat} {z : Int} (h : IsW s a b c d z) : W64 [a, b, c, d] := by
  obtain ⟨ha, hb, hc, hd, _⟩ := h
  intro x hx; simp at hx; omega
theorem IsW.abs {s : Bool} {a b c d : Nat} {z : Int} (h : IsW s a b c d z) : mag4 a b c d = z.natAbs := by
  obtain ⟨_, _, _, _, hz⟩ := h
  cases s <;> simp at hz <;> omega
theorem w64_four {a b c d : Nat} (h : W64 [a, b, c, d]) : a < 18446744073709551616 ∧ b < 18446744073709551616 ∧ c < 18446744073709551616 ∧ d < 18446744073709551616 :=
  ⟨h a (by simp), h b (by simp), h c (by simp), h d (by simp)⟩
end Go.Proofs.Ytjmigglibidbdaa
/- Int64 and Compare of the program. Conditions: the cells stand for numbers. -/
namespace Go.Proofs.Ytjmigglibidbdaa
set_option linter.unusedVariables false
set_option linter.unusedSimpArgs false
open Go Go.RowKit
end Go.Proofs.Ytjmigglibidbdaa
