/- addWords and subWords of the program. Condition: the words are of 64 bits; what is subtracted is not greater. -/
import Derived.Test.YtdboaogdanahkaaWrd1
import Derived.Test.YtdboaogdanahkaaMagJ
namespace Go.Proofs.Ytdboaogdanahkaa
set_option linter.unusedVariables false
set_option linter.unusedSimpArgs false
open Go Go.RowKit
theorem p4 : 18446744073709551616 ^ 4 = 115792089237316195423570985008687907853269984665640564039457584007913129639936 := by decide
/-- Words and a bool are returned. -/
def WordsRet (n : Nat) (o : Bool) (w : World) (e : Ending) (w' : World) : Prop := ∃ a b c d : Nat, e = .returned (.tuple #[.agg #[.int .u64 (a : Int), .int .u64 (b : Int), .int .u64 (c : Int), .int .u64 (d : Int)], .bool o]) ∧ W64 [a, b, c, d] ∧ mag4 a b c d = n ∧ Ext w w'
def WordsOnly (n : Nat) (w : World) (e : Ending) (w' : World) : Prop := ∃ a b c d : Nat, e = .returned (.agg #[.int .u64 (a : Int), .int .u64 (b : Int), .int .u64 (c : Int), .int .u64 (d : Int)]) ∧ W64 [a, b, c, d] ∧ mag4 a b c d = n ∧ Ext w w'
theorem three_words (w : World) (a b c d e f g h : Nat) (T : TypeId) : ∃ W, (((w.alloc (.cells #[.int .u64 (a : Int), .int .u64 (b : Int), .int .u64 (c : Int), .int .u64 (d : Int)] 103)).alloc (.cells #[.int .u64 (e : Int), .int .u64 (f : Int), .int .u64 (g : Int), .int .u64 (h : Int)] 103)).alloc (.cells #[.int .u64 0, .int .u64 0, .int .u64 0, .int .u64 0] T)) = W ∧
    Arr W w.heap.size 103 [a, b, c, d] ∧ Arr W (w.heap.size + 1) 103 [e, f, g, h] ∧ Arr W (w.heap.size + 1 + 1) T [0, 0, 0, 0] ∧ Ext w W := by
  have h := three_boxes w (.cells #[.int .u64 (a : Int), .int .u64 (b : Int), .int .u64 (c : Int), .int .u64 (d : Int)] 103) (.cells #[.int .u64 (e : Int), .int .u64 (f : Int), .int .u64 (g : Int), .int .u64 (h : Int)] 103) (.cells #[.int .u64 0, .int .u64 0, .int .u64 0, .int .u64 0] T)
  exact ⟨_, rfl, h.1, h.2.1, h.2.2, ((ext_alloc _ _).trans (ext_alloc _ _)).trans (ext_alloc _ _)⟩
theorem ext_four {W w : World} (h : Ext W w) {b : Nat} (hb : W.heap.size ≤ b) (u0 u1 u2 u3 : Value) : Ext W ((((w.setCell ⟨b, 0, none⟩ u0).setCell ⟨b, 1, none⟩ u1).setCell ⟨b, 2, none⟩ u2).setCell ⟨b, 3, none⟩ u3) :=
  ext_set (ext_set (ext_set (ext_set h hb _ _) hb _ _) hb _ _) hb _ _
end Go.Proofs.Ytdboaogdanahkaa
/- Sign, Neg, Of, OfUnsigned, Unsigned, Int64 and Compare of the program. Conditions: the cells stand for numbers; the integers are of 64 bits. -/
namespace Go.Proofs.Ytdboaogdanahkaa
set_option linter.unusedVariables false
set_option linter.unusedSimpArgs false
open Go Go.RowKit
theorem IsW.w64 {s : Bool} {a b c d : Nat} {z : Int} (h : IsW s a b c d z) : W64 [a, b, c, d] := by
  obtain ⟨ha, hb, hc, hd, _⟩ := h
  intro x hx; simp at hx; omega
theorem IsW.abs {s : Bool} {a b c d : Nat} {z : Int} (h : IsW s a b c d z) : mag4 a b c d = z.natAbs := by
  obtain ⟨_, _, _, _, hz⟩ := h
  cases s <;> simp at hz <;> omega
theorem w64_four {a b c d : Nat} (h : W64 [a, b, c, d]) : a < 18446744073709551616 ∧ b < 18446744073709551616 ∧ c < 18446744073709551616 ∧ d < 18446744073709551616 :=
  ⟨h a (by simp), h b (by simp), h c (by simp), h d (by simp)⟩
theorem p_sign (s : Bool) (a b c d : Nat) (z : Int) (w : World) (h : IsW s a b c d z) :
    Calls Try.prog 76 #[.agg #[.bool s, .int .u64 (a : Int), .int .u64 (b : Int), .int .u64 (c : Int), .int .u64 (d : Int)]] w (IntRet .i64 z.sign w) := by
  obtain ⟨o, ho⟩ : ∃ o, decide (mag4 a b c d ≠ 0) = o := ⟨_, rfl⟩
  have hq := eql0 30 Try.underlying30 a b c d o ho
  have hz := h.2.2.2.2
  cases o
  · have hS : Hid (z.sign = 0) := by
      have : mag4 a b c d = 0 := by simpa using ho
      rw [this] at hz; cases s <;> simp at hz <;> subst hz <;> rfl
    clear ho hz
    go_enter Try.func76, Try.ntmps76
    go_wp2
    go_ret
    exact ⟨rb1 hS.out.symm, ext_alloc _ _⟩
  · have hp : mag4 a b c d ≠ 0 := by simpa using ho
    cases s
    · have hS : Hid (z.sign = 1) := Int.sign_eq_one_of_pos (by simp at hz; omega)
      clear ho hz hp
      go_enter Try.func76, Try.ntmps76
      go_wp2
      go_ret
      exact ⟨rb1 hS.out.symm, ext_alloc _ _⟩
    · have hS : Hid (z.sign = -1) := Int.sign_eq_neg_one_of_neg (by simp at hz; omega)
      clear ho hz hp
      go_enter Try.func76, Try.ntmps76
      go_wp2
      go_ret
      exact ⟨rb1 hS.out.symm, ext_alloc _ _⟩
end Go.Proofs.Ytdboaogdanahkaa
/- Int64 and Compare of the program. Conditions: the cells stand for numbers. -/
namespace Go.Proofs.Ytdboaogdanahkaa
set_option linter.unusedVariables false
set_option linter.unusedSimpArgs false
open Go Go.RowKit
end Go.Proofs.Ytdboaogdanahkaa
