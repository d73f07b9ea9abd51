/-
  No cell of these rows narrows 'for every input' (looked for: loops, veiled, ifaces, maps, wideKeys, modest, calm, conditions, laid).
  DERIVED. THE GIVEN ROWS OF THIS SEAT. 4 by the template 'for every input the law returns true; each argument reads behind the call as it read before'; 0 by the template 'total and deterministic' (their statements: YtlfmeiejocpnfaaTotals.lean).
  GIVEN WITH THE SEED: the statements are not yours to turn. If you find one false, say at which input.
  Laid BY PROGRAM, IN A SANDBOX (cutbox-rows.mjs): the forced cells as the released guide's own fill.sh prints them over the translation 4bd9b27fef81e0d8… (all of the seat's roots in one cut). By AI agents, Wed Nov 11 2026. No macro, syntax, notation, axiom, sorry.
-/
import Derived.Test.YtlfmeiejocpnfaaChecked
import GoSem.Claim
import GoSem.ClaimJoined
import GoSem.ClaimMapViews
import Derived.JoinedTies
import Derived.KernelRfl
namespace Go.Proofs.Ytlfmeiejocpnfaa
/- THE CELL 'sum', in the pinned program and in every row, IS THE sha256 OF THE DUMP (.gsa) THAT YtlfmeiejocpnfaaProg.lean LOADS. Nothing in Lean hashes anything: it is a label: what it is worth is what the hold of that sum in a sandbox is worth. -/
noncomputable def Try.pinned : Pinned := { name := "ytlfmeiejocpnfaa", sum := "4bd9b27fef81e0d8d573cc171f431d3e9400e96d7728bbac97eb7c8e7a942950", checked := Try.checked }
namespace Rows
def none {H : Type} : Left H := { results := [], args := [] }

/-- 'tscodeclaw16.MeanForms': WHATEVER THE INPUT: true; the input reads as it did. -/
def meanFormsSpec : ChangeSpec := { name := "meanForms", fn := fun _ => fun
  | [d1, d2, d3, d4] => { results := [.lit (.bool true)], args := [d1, d2, d3, d4] }
  | _ => none }
def meanFormsRow : OpenClaim := { program := "ytlfmeiejocpnfaa", sum := "4bd9b27fef81e0d8d573cc171f431d3e9400e96d7728bbac97eb7c8e7a942950", func := "tscodec/tscodeclaw16.MeanForms", spec := "meanForms", inPlace := ["math/bits.Add64", "math/bits.Sub64"], unfollowed := true, recurses := true, named := ["math/bits.divideError", "math/bits.overflowError"], apart := false }
def MeanFormsSaid : Prop := meanFormsRow.holds Try.pinned (OpenSpec.ofChange meanFormsSpec)

/-- ITS FALSE NEIGHBOUR: 'it returns false'. Refute it at one input. -/
def meanFormsWrong : ChangeSpec := { name := "meanForms", fn := fun _ => fun
  | [d1, d2, d3, d4] => { results := [.lit (.bool false)], args := [d1, d2, d3, d4] }
  | _ => none }
def MeanFormsWrongFalsely : Prop := meanFormsRow.holds Try.pinned (OpenSpec.ofChange meanFormsWrong)

/-- 'tscodeclaw16.MeanAlls': WHATEVER THE INPUT: true; the input reads as it did. -/
def meanAllsSpec : ChangeSpec := { name := "meanAlls", fn := fun _ => fun
  | [d1, d2, d3] => { results := [.lit (.bool true)], args := [d1, d2, d3] }
  | _ => none }
def meanAllsRow : OpenClaim := { program := "ytlfmeiejocpnfaa", sum := "4bd9b27fef81e0d8d573cc171f431d3e9400e96d7728bbac97eb7c8e7a942950", func := "tscodec/tscodeclaw16.MeanAlls", spec := "meanAlls", inPlace := ["math/bits.Add64", "math/bits.Sub64"], unfollowed := true, recurses := true, named := ["math/bits.divideError", "math/bits.overflowError"], apart := false }
def MeanAllsSaid : Prop := meanAllsRow.holds Try.pinned (OpenSpec.ofChange meanAllsSpec)

/-- ITS FALSE NEIGHBOUR: 'it returns false'. Refute it at one input. -/
def meanAllsWrong : ChangeSpec := { name := "meanAlls", fn := fun _ => fun
  | [d1, d2, d3] => { results := [.lit (.bool false)], args := [d1, d2, d3] }
  | _ => none }
def MeanAllsWrongFalsely : Prop := meanAllsRow.holds Try.pinned (OpenSpec.ofChange meanAllsWrong)

/-- 'tscodeclaw16.MeanWithin': WHATEVER THE INPUT: true; the input reads as it did. -/
def meanWithinSpec : ChangeSpec := { name := "meanWithin", fn := fun _ => fun
  | [d1, d2] => { results := [.lit (.bool true)], args := [d1, d2] }
  | _ => none }
def meanWithinRow : OpenClaim := { program := "ytlfmeiejocpnfaa", sum := "4bd9b27fef81e0d8d573cc171f431d3e9400e96d7728bbac97eb7c8e7a942950", func := "tscodec/tscodeclaw16.MeanWithin", spec := "meanWithin", inPlace := ["math/bits.Add64", "math/bits.Sub64"], unfollowed := true, recurses := true, named := ["math/bits.divideError", "math/bits.overflowError"], apart := false }
def MeanWithinSaid : Prop := meanWithinRow.holds Try.pinned (OpenSpec.ofChange meanWithinSpec)

/-- ITS FALSE NEIGHBOUR: 'it returns false'. Refute it at one input. -/
def meanWithinWrong : ChangeSpec := { name := "meanWithin", fn := fun _ => fun
  | [d1, d2] => { results := [.lit (.bool false)], args := [d1, d2] }
  | _ => none }
def MeanWithinWrongFalsely : Prop := meanWithinRow.holds Try.pinned (OpenSpec.ofChange meanWithinWrong)

/-- 'tscodeclaw16.MeanMaximal': WHATEVER THE INPUT: true; the input reads as it did. -/
def meanMaximalSpec : ChangeSpec := { name := "meanMaximal", fn := fun _ => fun
  | [d] => { results := [.lit (.bool true)], args := [d] }
  | _ => none }
def meanMaximalRow : OpenClaim := { program := "ytlfmeiejocpnfaa", sum := "4bd9b27fef81e0d8d573cc171f431d3e9400e96d7728bbac97eb7c8e7a942950", func := "tscodec/tscodeclaw16.MeanMaximal", spec := "meanMaximal", inPlace := ["math/bits.Add64", "math/bits.Sub64"], unfollowed := true, recurses := true, named := ["math/bits.divideError", "math/bits.overflowError"], apart := false }
def MeanMaximalSaid : Prop := meanMaximalRow.holds Try.pinned (OpenSpec.ofChange meanMaximalSpec)

/-- ITS FALSE NEIGHBOUR: 'it returns false'. Refute it at one input. -/
def meanMaximalWrong : ChangeSpec := { name := "meanMaximal", fn := fun _ => fun
  | [d] => { results := [.lit (.bool false)], args := [d] }
  | _ => none }
def MeanMaximalWrongFalsely : Prop := meanMaximalRow.holds Try.pinned (OpenSpec.ofChange meanMaximalWrong)

/- THE SECOND FORM. 'bulk': how many values and letters a reading holds, each counted each time it is reached (what is shared counts as often as it is met; a slice's spare places count too). A statement '..UptoSaid' is the law's where the arguments, and the package variables that the reading takes, are together of bulk at most 1048576: NARROWER than '..Said'. Prove '..Said' where nothing that the law and all that it calls make is longer than what came in: it says more and counts as full. Else prove '..UptoSaid'. A law counts once. -/
mutual
def uptoBulk {H : Type} : DataW H → Nat
  | .lit (.string bytes) => bytes.length + 1
  | .lit _ => 1
  | .nil => 1
  | .ptr d => uptoBulk d + 1
  | .slice elems spare => uptoBulkAll elems + uptoBulkAll spare + 1
  | .agg parts => uptoBulkAll parts + 1
  | .iface _ d => uptoBulk d + 1
  | .map entries => uptoBulkEntries entries + 1
  | .held _ => 1
def uptoBulkAll {H : Type} : List (DataW H) → Nat
  | [] => 0
  | d :: r => uptoBulk d + uptoBulkAll r
def uptoBulkEntries {H : Type} : List (Lit × DataW H) → Nat
  | [] => 0
  | x :: r => uptoBulkEntry x + uptoBulkEntries r
def uptoBulkEntry {H : Type} : Lit × DataW H → Nat
  | (.string bytes, d) => bytes.length + uptoBulk d + 1
  | (_, d) => uptoBulk d + 1
 end
def uptoSmall : (H : Type) → List (DataW H) → Bool := fun _ ds => decide (uptoBulkAll ds ≤ 1048576)
def OpenSpec.upto (s : _root_.Go.ChangeSpec) : _root_.Go.OpenSpec := { _root_.Go.OpenSpec.ofChange s with cond := some uptoSmall }

/-- 'tscodeclaw16.MeanForms', WHERE WHAT IT READS IS OF BULK AT MOST 1048576: true; the input reads as it did. -/
def meanFormsUptoRow : OpenClaim := { program := "ytlfmeiejocpnfaa", sum := "4bd9b27fef81e0d8d573cc171f431d3e9400e96d7728bbac97eb7c8e7a942950", func := "tscodec/tscodeclaw16.MeanForms", spec := "meanForms", inPlace := ["math/bits.Add64", "math/bits.Sub64"], unfollowed := true, recurses := true, named := ["math/bits.divideError", "math/bits.overflowError"], apart := false, narrowed := true }
def MeanFormsUptoSaid : Prop := meanFormsUptoRow.holds Try.pinned (OpenSpec.upto meanFormsSpec)

/-- 'tscodeclaw16.MeanAlls', WHERE WHAT IT READS IS OF BULK AT MOST 1048576: true; the input reads as it did. -/
def meanAllsUptoRow : OpenClaim := { program := "ytlfmeiejocpnfaa", sum := "4bd9b27fef81e0d8d573cc171f431d3e9400e96d7728bbac97eb7c8e7a942950", func := "tscodec/tscodeclaw16.MeanAlls", spec := "meanAlls", inPlace := ["math/bits.Add64", "math/bits.Sub64"], unfollowed := true, recurses := true, named := ["math/bits.divideError", "math/bits.overflowError"], apart := false, narrowed := true }
def MeanAllsUptoSaid : Prop := meanAllsUptoRow.holds Try.pinned (OpenSpec.upto meanAllsSpec)

/-- 'tscodeclaw16.MeanWithin', WHERE WHAT IT READS IS OF BULK AT MOST 1048576: true; the input reads as it did. -/
def meanWithinUptoRow : OpenClaim := { program := "ytlfmeiejocpnfaa", sum := "4bd9b27fef81e0d8d573cc171f431d3e9400e96d7728bbac97eb7c8e7a942950", func := "tscodec/tscodeclaw16.MeanWithin", spec := "meanWithin", inPlace := ["math/bits.Add64", "math/bits.Sub64"], unfollowed := true, recurses := true, named := ["math/bits.divideError", "math/bits.overflowError"], apart := false, narrowed := true }
def MeanWithinUptoSaid : Prop := meanWithinUptoRow.holds Try.pinned (OpenSpec.upto meanWithinSpec)

/-- 'tscodeclaw16.MeanMaximal', WHERE WHAT IT READS IS OF BULK AT MOST 1048576: true; the input reads as it did. -/
def meanMaximalUptoRow : OpenClaim := { program := "ytlfmeiejocpnfaa", sum := "4bd9b27fef81e0d8d573cc171f431d3e9400e96d7728bbac97eb7c8e7a942950", func := "tscodec/tscodeclaw16.MeanMaximal", spec := "meanMaximal", inPlace := ["math/bits.Add64", "math/bits.Sub64"], unfollowed := true, recurses := true, named := ["math/bits.divideError", "math/bits.overflowError"], apart := false, narrowed := true }
def MeanMaximalUptoSaid : Prop := meanMaximalUptoRow.holds Try.pinned (OpenSpec.upto meanMaximalSpec)

end Rows
end Go.Proofs.Ytlfmeiejocpnfaa
