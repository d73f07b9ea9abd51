/-
  No cell of these rows narrows 'for every input' (looked for: loops, veiled, ifaces, maps, wideKeys, modest, calm, conditions, laid).
  DERIVED. THE GIVEN ROWS OF THIS SEAT. 5 by the template 'for every input the law returns true; each argument reads behind the call as it read before'; 0 by the template 'total and deterministic' (their statements: YtbgnfdamggainaaTotals.lean).
  GIVEN WITH THE SEED: the statements are not yours to turn. If you find one false, say at which input.
  Laid BY PROGRAM, IN A SANDBOX (cutbox-rows.mjs): the forced cells as the released guide's own fill.sh prints them over the translation 397ca74d36a88f33… (all of the seat's roots in one cut). By AI agents, Wed Nov 11 2026. No macro, syntax, notation, axiom, sorry.
-/
import Derived.Test.YtbgnfdamggainaaChecked
import GoSem.Claim
import GoSem.ClaimJoined
import GoSem.ClaimMapViews
import Derived.JoinedTies
import Derived.KernelRfl
namespace Go.Proofs.Ytbgnfdamggainaa
/- THE CELL 'sum', in the pinned program and in every row, IS THE sha256 OF THE DUMP (.gsa) THAT YtbgnfdamggainaaProg.lean LOADS. Nothing in Lean hashes anything: it is a label: what it is worth is what the hold of that sum in a sandbox is worth. -/
noncomputable def Try.pinned : Pinned := { name := "ytbgnfdamggainaa", sum := "397ca74d36a88f339babf37bdc22c0a8530b824a3f6bda07ad45f7e81dbf13b6", checked := Try.checked }
namespace Rows
def none {H : Type} : Left H := { results := [], args := [] }

/-- 'tscodeclaw01.CheckedSums': WHATEVER THE INPUT: true; the input reads as it did. -/
def checkedSumsSpec : ChangeSpec := { name := "checkedSums", fn := fun _ => fun
  | [d1, d2, d3] => { results := [.lit (.bool true)], args := [d1, d2, d3] }
  | _ => none }
def checkedSumsRow : OpenClaim := { program := "ytbgnfdamggainaa", sum := "397ca74d36a88f339babf37bdc22c0a8530b824a3f6bda07ad45f7e81dbf13b6", func := "tscodec/tscodeclaw01.CheckedSums", spec := "checkedSums", apart := false }
def CheckedSumsSaid : Prop := checkedSumsRow.holds Try.pinned (OpenSpec.ofChange checkedSumsSpec)

/-- ITS FALSE NEIGHBOUR: 'it returns false'. Refute it at one input. -/
def checkedSumsWrong : ChangeSpec := { name := "checkedSums", fn := fun _ => fun
  | [d1, d2, d3] => { results := [.lit (.bool false)], args := [d1, d2, d3] }
  | _ => none }
def CheckedSumsWrongFalsely : Prop := checkedSumsRow.holds Try.pinned (OpenSpec.ofChange checkedSumsWrong)

/-- 'tscodeclaw01.CheckedDivides': WHATEVER THE INPUT: true; the input reads as it did. -/
def checkedDividesSpec : ChangeSpec := { name := "checkedDivides", fn := fun _ => fun
  | [d1, d2, d3] => { results := [.lit (.bool true)], args := [d1, d2, d3] }
  | _ => none }
def checkedDividesRow : OpenClaim := { program := "ytbgnfdamggainaa", sum := "397ca74d36a88f339babf37bdc22c0a8530b824a3f6bda07ad45f7e81dbf13b6", func := "tscodec/tscodeclaw01.CheckedDivides", spec := "checkedDivides", apart := false }
def CheckedDividesSaid : Prop := checkedDividesRow.holds Try.pinned (OpenSpec.ofChange checkedDividesSpec)

/-- ITS FALSE NEIGHBOUR: 'it returns false'. Refute it at one input. -/
def checkedDividesWrong : ChangeSpec := { name := "checkedDivides", fn := fun _ => fun
  | [d1, d2, d3] => { results := [.lit (.bool false)], args := [d1, d2, d3] }
  | _ => none }
def CheckedDividesWrongFalsely : Prop := checkedDividesRow.holds Try.pinned (OpenSpec.ofChange checkedDividesWrong)

/-- 'tscodeclaw01.CheckedApplies': WHATEVER THE INPUT: true; the input reads as it did. -/
def checkedAppliesSpec : ChangeSpec := { name := "checkedApplies", fn := fun _ => fun
  | [d1, d2, d3, d4, d5] => { results := [.lit (.bool true)], args := [d1, d2, d3, d4, d5] }
  | _ => none }
def checkedAppliesRow : OpenClaim := { program := "ytbgnfdamggainaa", sum := "397ca74d36a88f339babf37bdc22c0a8530b824a3f6bda07ad45f7e81dbf13b6", func := "tscodec/tscodeclaw01.CheckedApplies", spec := "checkedApplies", apart := false }
def CheckedAppliesSaid : Prop := checkedAppliesRow.holds Try.pinned (OpenSpec.ofChange checkedAppliesSpec)

/-- ITS FALSE NEIGHBOUR: 'it returns false'. Refute it at one input. -/
def checkedAppliesWrong : ChangeSpec := { name := "checkedApplies", fn := fun _ => fun
  | [d1, d2, d3, d4, d5] => { results := [.lit (.bool false)], args := [d1, d2, d3, d4, d5] }
  | _ => none }
def CheckedAppliesWrongFalsely : Prop := checkedAppliesRow.holds Try.pinned (OpenSpec.ofChange checkedAppliesWrong)

/-- 'tscodeclaw01.CheckedFloors': WHATEVER THE INPUT: true; the input reads as it did. -/
def checkedFloorsSpec : ChangeSpec := { name := "checkedFloors", fn := fun _ => fun
  | [d1, d2] => { results := [.lit (.bool true)], args := [d1, d2] }
  | _ => none }
def checkedFloorsRow : OpenClaim := { program := "ytbgnfdamggainaa", sum := "397ca74d36a88f339babf37bdc22c0a8530b824a3f6bda07ad45f7e81dbf13b6", func := "tscodec/tscodeclaw01.CheckedFloors", spec := "checkedFloors", apart := false }
def CheckedFloorsSaid : Prop := checkedFloorsRow.holds Try.pinned (OpenSpec.ofChange checkedFloorsSpec)

/-- ITS FALSE NEIGHBOUR: 'it returns false'. Refute it at one input. -/
def checkedFloorsWrong : ChangeSpec := { name := "checkedFloors", fn := fun _ => fun
  | [d1, d2] => { results := [.lit (.bool false)], args := [d1, d2] }
  | _ => none }
def CheckedFloorsWrongFalsely : Prop := checkedFloorsRow.holds Try.pinned (OpenSpec.ofChange checkedFloorsWrong)

/-- 'tscodeclaw01.CheckedMiddles': WHATEVER THE INPUT: true; the input reads as it did. -/
def checkedMiddlesSpec : ChangeSpec := { name := "checkedMiddles", fn := fun _ => fun
  | [d1, d2] => { results := [.lit (.bool true)], args := [d1, d2] }
  | _ => none }
def checkedMiddlesRow : OpenClaim := { program := "ytbgnfdamggainaa", sum := "397ca74d36a88f339babf37bdc22c0a8530b824a3f6bda07ad45f7e81dbf13b6", func := "tscodec/tscodeclaw01.CheckedMiddles", spec := "checkedMiddles", apart := false }
def CheckedMiddlesSaid : Prop := checkedMiddlesRow.holds Try.pinned (OpenSpec.ofChange checkedMiddlesSpec)

/-- ITS FALSE NEIGHBOUR: 'it returns false'. Refute it at one input. -/
def checkedMiddlesWrong : ChangeSpec := { name := "checkedMiddles", fn := fun _ => fun
  | [d1, d2] => { results := [.lit (.bool false)], args := [d1, d2] }
  | _ => none }
def CheckedMiddlesWrongFalsely : Prop := checkedMiddlesRow.holds Try.pinned (OpenSpec.ofChange checkedMiddlesWrong)

/- THE SECOND FORM. 'bulk': how many values and letters a reading holds, each counted each time it is reached (what is shared counts as often as it is met; a slice's spare places count too). A statement '..UptoSaid' is the law's where the arguments, and the package variables that the reading takes, are together of bulk at most 1048576: NARROWER than '..Said'. Prove '..Said' where nothing that the law and all that it calls make is longer than what came in: it says more and counts as full. Else prove '..UptoSaid'. A law counts once. -/
mutual
def uptoBulk {H : Type} : DataW H → Nat
  | .lit (.string bytes) => bytes.length + 1
  | .lit _ => 1
  | .nil => 1
  | .ptr d => uptoBulk d + 1
  | .slice elems spare => uptoBulkAll elems + uptoBulkAll spare + 1
  | .agg parts => uptoBulkAll parts + 1
  | .iface _ d => uptoBulk d + 1
  | .map entries => uptoBulkEntries entries + 1
  | .held _ => 1
def uptoBulkAll {H : Type} : List (DataW H) → Nat
  | [] => 0
  | d :: r => uptoBulk d + uptoBulkAll r
def uptoBulkEntries {H : Type} : List (Lit × DataW H) → Nat
  | [] => 0
  | x :: r => uptoBulkEntry x + uptoBulkEntries r
def uptoBulkEntry {H : Type} : Lit × DataW H → Nat
  | (.string bytes, d) => bytes.length + uptoBulk d + 1
  | (_, d) => uptoBulk d + 1
 end
def uptoSmall : (H : Type) → List (DataW H) → Bool := fun _ ds => decide (uptoBulkAll ds ≤ 1048576)
def OpenSpec.upto (s : _root_.Go.ChangeSpec) : _root_.Go.OpenSpec := { _root_.Go.OpenSpec.ofChange s with cond := some uptoSmall }

/-- 'tscodeclaw01.CheckedSums', WHERE WHAT IT READS IS OF BULK AT MOST 1048576: true; the input reads as it did. -/
def checkedSumsUptoRow : OpenClaim := { program := "ytbgnfdamggainaa", sum := "397ca74d36a88f339babf37bdc22c0a8530b824a3f6bda07ad45f7e81dbf13b6", func := "tscodec/tscodeclaw01.CheckedSums", spec := "checkedSums", apart := false, narrowed := true }
def CheckedSumsUptoSaid : Prop := checkedSumsUptoRow.holds Try.pinned (OpenSpec.upto checkedSumsSpec)

/-- 'tscodeclaw01.CheckedDivides', WHERE WHAT IT READS IS OF BULK AT MOST 1048576: true; the input reads as it did. -/
def checkedDividesUptoRow : OpenClaim := { program := "ytbgnfdamggainaa", sum := "397ca74d36a88f339babf37bdc22c0a8530b824a3f6bda07ad45f7e81dbf13b6", func := "tscodec/tscodeclaw01.CheckedDivides", spec := "checkedDivides", apart := false, narrowed := true }
def CheckedDividesUptoSaid : Prop := checkedDividesUptoRow.holds Try.pinned (OpenSpec.upto checkedDividesSpec)

/-- 'tscodeclaw01.CheckedApplies', WHERE WHAT IT READS IS OF BULK AT MOST 1048576: true; the input reads as it did. -/
def checkedAppliesUptoRow : OpenClaim := { program := "ytbgnfdamggainaa", sum := "397ca74d36a88f339babf37bdc22c0a8530b824a3f6bda07ad45f7e81dbf13b6", func := "tscodec/tscodeclaw01.CheckedApplies", spec := "checkedApplies", apart := false, narrowed := true }
def CheckedAppliesUptoSaid : Prop := checkedAppliesUptoRow.holds Try.pinned (OpenSpec.upto checkedAppliesSpec)

/-- 'tscodeclaw01.CheckedFloors', WHERE WHAT IT READS IS OF BULK AT MOST 1048576: true; the input reads as it did. -/
def checkedFloorsUptoRow : OpenClaim := { program := "ytbgnfdamggainaa", sum := "397ca74d36a88f339babf37bdc22c0a8530b824a3f6bda07ad45f7e81dbf13b6", func := "tscodec/tscodeclaw01.CheckedFloors", spec := "checkedFloors", apart := false, narrowed := true }
def CheckedFloorsUptoSaid : Prop := checkedFloorsUptoRow.holds Try.pinned (OpenSpec.upto checkedFloorsSpec)

/-- 'tscodeclaw01.CheckedMiddles', WHERE WHAT IT READS IS OF BULK AT MOST 1048576: true; the input reads as it did. -/
def checkedMiddlesUptoRow : OpenClaim := { program := "ytbgnfdamggainaa", sum := "397ca74d36a88f339babf37bdc22c0a8530b824a3f6bda07ad45f7e81dbf13b6", func := "tscodec/tscodeclaw01.CheckedMiddles", spec := "checkedMiddles", apart := false, narrowed := true }
def CheckedMiddlesUptoSaid : Prop := checkedMiddlesUptoRow.holds Try.pinned (OpenSpec.upto checkedMiddlesSpec)

end Rows
end Go.Proofs.Ytbgnfdamggainaa
