/- The program's AppendSigned, ReadSigned; the laws' sanity check. Conditions: the slices read as bytes. -/
import Derived.Test.YtjmigglibidbdaaVar1
import Derived.Test.YtjmigglibidbdaaConA
namespace Go.Proofs.Ytjmigglibidbdaa
set_option linter.unusedVariables false
set_option linter.unusedSimpArgs false
open Go Go.RowKit
/-- What ReadSigned returns, of what Read returns. -/
def rdS (l : List Nat) (at_ : Int) : Int × Int × Int := (zag (rdV l at_).1.toNat, (rdV l at_).2.1, (rdV l at_).2.2)
theorem rdV_nat (l : List Nat) (at_ : Int) : ∃ v : Nat, (rdV l at_).1 = (v : Int) ∧ v < 18446744073709551616 := by
  unfold rdV
  cases hg : rdG l at_ 64 10 with
  | none => exact ⟨0, rfl, by omega⟩
  | some g =>
    obtain ⟨a, _, _, _, hs, hk⟩ := bhd_some hg
    exact ⟨decB g, rfl, decB_ok hs hk⟩
end Go.Proofs.Ytjmigglibidbdaa
