/- Layer 6: CrcForms. Conditions: the slices read as bytes and numbers. -/
import Derived.Test.YtjmigglibidbdaaLawF
import Derived.Test.YtjmigglibidbdaaSpoA
import Derived.Test.YtjmigglibidbdaaSamA
import Derived.Test.YtjmigglibidbdaaCrc1
namespace Go.Proofs.Ytjmigglibidbdaa
set_option linter.unusedVariables false
set_option linter.unusedSimpArgs false
open Go Go.RowKit Go.Sort
theorem chk_short {l : List Nat} (h : l.length < 4) : chk l = false := by unfold chk; rw [decide_eq_false (by omega)]; rfl
theorem chk_long {l : List Nat} {k : Nat} (h : l.length = k + 4) : chk l = decide (l.drop k = tailL (crcB 0#32 (l.take k))) := by
  unfold chk; rw [decide_eq_true (by omega), h]; simp
theorem chk_app (l : List Nat) : chk (l ++ tailL (crcB 0#32 l)) = true := by
  rw [chk_long (k := l.length) (by simp [tailL])]
  simp
end Go.Proofs.Ytjmigglibidbdaa
