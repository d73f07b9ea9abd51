/- A number's five cells are fixed by the number; the contracts of both packages of wide integers, their values fixed. Conditions: the numbers fit. -/
import Derived.Test.YtdboaogdanahkaaMulY
import Derived.Test.YtdboaogdanahkaaBase
import Derived.Test.YtdboaogdanahkaaDivL
import Derived.Test.YtdboaogdanahkaaWrd3
import Derived.Test.YtdboaogdanahkaaWrd2
import Derived.Test.YtdboaogdanahkaaMagI
import Derived.Test.YtdboaogdanahkaaMagJ
import Derived.Test.YtdboaogdanahkaaMagK
import Derived.Test.YtdboaogdanahkaaMagL
import Derived.Test.YtdboaogdanahkaaEqs
namespace Go.Proofs.Ytdboaogdanahkaa
set_option linter.unusedVariables false
set_option linter.unusedSimpArgs false
open Go Go.RowKit
def sg (z : Int) : Bool := decide (z < 0)
def l0 (z : Int) : Nat := z.natAbs % 18446744073709551616
def l1 (z : Int) : Nat := z.natAbs / 18446744073709551616 % 18446744073709551616
def l2 (z : Int) : Nat := z.natAbs / 340282366920938463463374607431768211456 % 18446744073709551616
def l3 (z : Int) : Nat := z.natAbs / 6277101735386680763835789423207666416102355444464034512896 % 18446744073709551616
def F256 (z : Int) : Prop := z.natAbs < 115792089237316195423570985008687907853269984665640564039457584007913129639936
theorem isC_fix {s : Bool} {a b c d : Nat} {z : Int} (h : IsC s a b c d z) : s = sg z ∧ a = l0 z ∧ b = l1 z ∧ c = l2 z ∧ d = l3 z := by
  obtain ⟨⟨h1, h2, h3, h4, h5⟩, h6⟩ := h
  have hm : z.natAbs = mag4 a b c d := by cases s <;> simp at h5 <;> omega
  simp only [mag4, val] at hm h5
  refine ⟨?_, ?_, ?_, ?_, ?_⟩
  · cases s
    · simp at h5; unfold sg; symm; rw [decide_eq_false_iff_not]; omega
    · have := h6 rfl; simp at h5; unfold sg; symm; rw [decide_eq_true_iff]; omega
  · unfold l0; omega
  · unfold l1; omega
  · unfold l2; omega
  · unfold l3; omega
theorem isC_of {z : Int} (h : F256 z) : IsC (sg z) (l0 z) (l1 z) (l2 z) (l3 z) z := by
  obtain ⟨s, a, b, c, d, k⟩ := isC_some z h
  obtain ⟨rfl, rfl, rfl, rfl, rfl⟩ := isC_fix k
  exact k
theorem isC_fits {s : Bool} {a b c d : Nat} {z : Int} (h : IsC s a b c d z) : F256 z := isW_fits h.1
theorem ret_wide {z : Int} {w w' : World} {e : Ending} (h : WideOnly z w e w') : Ret (.agg #[.bool (sg z), .int .u64 (l0 z : Int), .int .u64 (l1 z : Int), .int .u64 (l2 z : Int), .int .u64 (l3 z : Int)]) w e w' := by
  obtain ⟨s, a, b, c, d, rfl, k, hE⟩ := h
  obtain ⟨rfl, rfl, rfl, rfl, rfl⟩ := isC_fix k
  exact ⟨rfl, hE⟩
theorem ret_pair {z : Int} {w w' : World} {e : Ending} (h : WideRet z w e w') (hz : F256 z) : Ret (.tuple #[.agg #[.bool (sg z), .int .u64 (l0 z : Int), .int .u64 (l1 z : Int), .int .u64 (l2 z : Int), .int .u64 (l3 z : Int)], .bool true]) w e w' := by
  obtain ⟨s, a, b, c, d, o, rfl, ho, hC, hE⟩ := h
  rw [if_pos (show z.natAbs < 115792089237316195423570985008687907853269984665640564039457584007913129639936 from hz)] at hC
  have : o = true := by rw [ho, decide_eq_true_iff]; exact hz
  subst this
  obtain ⟨rfl, rfl, rfl, rfl, rfl⟩ := isC_fix hC
  exact ⟨rfl, hE⟩
theorem ret_div {x y : Int} {w w' : World} {e : Ending} (h : DivRet x y w e w') (hy : y ≠ 0) : Ret (.tuple #[.agg #[.bool (sg (x / y)), .int .u64 (l0 (x / y) : Int), .int .u64 (l1 (x / y) : Int), .int .u64 (l2 (x / y) : Int), .int .u64 (l3 (x / y) : Int)], .agg #[.bool (sg (x % y)), .int .u64 (l0 (x % y) : Int), .int .u64 (l1 (x % y) : Int), .int .u64 (l2 (x % y) : Int), .int .u64 (l3 (x % y) : Int)], .bool true]) w e w' := by
  obtain ⟨s, a, b, c, d, s', a', b', c', d', o, rfl, ho, k1, k2, hE⟩ := h
  rw [if_neg hy] at k1 k2
  have : o = true := by rw [ho, decide_eq_true_iff]; exact hy
  subst this
  obtain ⟨rfl, rfl, rfl, rfl, rfl⟩ := isC_fix k1
  obtain ⟨rfl, rfl, rfl, rfl, rfl⟩ := isC_fix k2
  exact ⟨rfl, hE⟩
theorem c_sign {x r : Int} (hx : F256 x) (e : x.sign = r) (w : World) : Calls Try.prog 76 #[.agg #[.bool (sg x), .int .u64 (l0 x : Int), .int .u64 (l1 x : Int), .int .u64 (l2 x : Int), .int .u64 (l3 x : Int)]] w (Ret (.int .i64 r) w) :=
  (p_sign _ _ _ _ _ x w (isC_of hx).1).mono fun _ _ h => by rw [e] at h; exact h
theorem c_valid {x : Int} (hx : F256 x) (w : World) : Calls Try.prog 52 #[.agg #[.bool (sg x), .int .u64 (l0 x : Int), .int .u64 (l1 x : Int), .int .u64 (l2 x : Int), .int .u64 (l3 x : Int)]] w (Ret (.bool true) w) :=
  (p_valid _ _ _ _ _ x w (isC_of hx).1).mono fun _ _ h => by
    have : (!sg x || decide (x ≠ 0)) = true := by
      have := (isC_of hx).2
      cases hs : sg x <;> simp; exact this hs
    rw [this] at h; exact h
theorem d_add {x y z : Int} (hx : F256 x) (hy : F256 y) (e : x + y = z) (hz : F256 z) (w : World) : Calls Try.prog 94 #[.agg #[.bool (sg x), .int .u64 (l0 x : Int), .int .u64 (l1 x : Int), .int .u64 (l2 x : Int), .int .u64 (l3 x : Int)], .agg #[.bool (sg y), .int .u64 (l0 y : Int), .int .u64 (l1 y : Int), .int .u64 (l2 y : Int), .int .u64 (l3 y : Int)]] w (Ret (.tuple #[.agg #[.bool (sg z), .int .u64 (l0 z : Int), .int .u64 (l1 z : Int), .int .u64 (l2 z : Int), .int .u64 (l3 z : Int)], .bool true]) w) :=
  (ref_wadd _ _ _ _ _ _ _ _ _ _ x y w (isC_of hx).1 (isC_of hy).1).mono fun _ _ h => ret_pair (by rw [e] at h; exact h) hz
theorem d_mul {x y z : Int} (hx : F256 x) (hy : F256 y) (e : x * y = z) (hz : F256 z) (w : World) : Calls Try.prog 93 #[.agg #[.bool (sg x), .int .u64 (l0 x : Int), .int .u64 (l1 x : Int), .int .u64 (l2 x : Int), .int .u64 (l3 x : Int)], .agg #[.bool (sg y), .int .u64 (l0 y : Int), .int .u64 (l1 y : Int), .int .u64 (l2 y : Int), .int .u64 (l3 y : Int)]] w (Ret (.tuple #[.agg #[.bool (sg z), .int .u64 (l0 z : Int), .int .u64 (l1 z : Int), .int .u64 (l2 z : Int), .int .u64 (l3 z : Int)], .bool true]) w) :=
  (ref_wmul _ _ _ _ _ _ _ _ _ _ x y w (isC_of hx).1 (isC_of hy).1).mono fun _ _ h => ret_pair (by rw [e] at h; exact h) hz
theorem d_div {x y q r : Int} (hx : F256 x) (hy : F256 y) (y0 : y ≠ 0) (e1 : x / y = q) (e2 : x % y = r) (w : World) : Calls Try.prog 34 #[.agg #[.bool (sg x), .int .u64 (l0 x : Int), .int .u64 (l1 x : Int), .int .u64 (l2 x : Int), .int .u64 (l3 x : Int)], .agg #[.bool (sg y), .int .u64 (l0 y : Int), .int .u64 (l1 y : Int), .int .u64 (l2 y : Int), .int .u64 (l3 y : Int)]] w (Ret (.tuple #[.agg #[.bool (sg q), .int .u64 (l0 q : Int), .int .u64 (l1 q : Int), .int .u64 (l2 q : Int), .int .u64 (l3 q : Int)], .agg #[.bool (sg r), .int .u64 (l0 r : Int), .int .u64 (l1 r : Int), .int .u64 (l2 r : Int), .int .u64 (l3 r : Int)], .bool true]) w) :=
  (ref_wdiv _ _ _ _ _ _ _ _ _ _ x y w (isC_of hx).1 (isC_of hy).1).mono fun _ _ h => by have h := ret_div h y0; rw [e1, e2] at h; exact h
theorem d_sign {x r : Int} (hx : F256 x) (e : x.sign = r) (w : World) : Calls Try.prog 37 #[.agg #[.bool (sg x), .int .u64 (l0 x : Int), .int .u64 (l1 x : Int), .int .u64 (l2 x : Int), .int .u64 (l3 x : Int)]] w (Ret (.int .i64 r) w) :=
  (ref_sign _ _ _ _ _ x w (isC_of hx).1).mono fun _ _ h => by rw [e] at h; exact h
theorem d_neg {x z : Int} (hx : F256 x) (e : -x = z) (w : World) : Calls Try.prog 40 #[.agg #[.bool (sg x), .int .u64 (l0 x : Int), .int .u64 (l1 x : Int), .int .u64 (l2 x : Int), .int .u64 (l3 x : Int)]] w (Ret (.agg #[.bool (sg z), .int .u64 (l0 z : Int), .int .u64 (l1 z : Int), .int .u64 (l2 z : Int), .int .u64 (l3 z : Int)]) w) :=
  (ref_neg _ _ _ _ _ x w (isC_of hx).1).mono fun _ _ h => by rw [e] at h; exact ret_wide h
theorem d_ofi {x : Int} (h1 : -9223372036854775808 ≤ x) (h2 : x ≤ 9223372036854775807) (w : World) : Calls Try.prog 35 #[.int .i64 x] w (Ret (.agg #[.bool (sg x), .int .u64 (l0 x : Int), .int .u64 (l1 x : Int), .int .u64 (l2 x : Int), .int .u64 (l3 x : Int)]) w) :=
  (ref_ofi x w h1 h2).mono fun _ _ h => ret_wide h
theorem d_ofu {n : Nat} (h : n < 18446744073709551616) (w : World) : Calls Try.prog 95 #[.int .u64 (n : Int)] w (Ret (.agg #[.bool (sg (n : Int)), .int .u64 (l0 (n : Int) : Int), .int .u64 (l1 (n : Int) : Int), .int .u64 (l2 (n : Int) : Int), .int .u64 (l3 (n : Int) : Int)]) w) :=
  (ref_ofu n w h).mono fun _ _ h => ret_wide h
theorem d_valid {x : Int} (hx : F256 x) (w : World) : Calls Try.prog 84 #[.agg #[.bool (sg x), .int .u64 (l0 x : Int), .int .u64 (l1 x : Int), .int .u64 (l2 x : Int), .int .u64 (l3 x : Int)]] w (Ret (.bool true) w) :=
  (ref_valid _ _ _ _ _ x w (isC_of hx).1).mono fun _ _ h => by
    have : (!sg x || decide (x ≠ 0)) = true := by
      have := (isC_of hx).2
      cases hs : sg x <;> simp; exact this hs
    rw [this] at h; exact h
end Go.Proofs.Ytdboaogdanahkaa
