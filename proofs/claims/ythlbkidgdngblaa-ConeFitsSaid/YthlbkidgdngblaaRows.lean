/-
  No cell of these rows narrows 'for every input' (looked for: loops, veiled, ifaces, maps, wideKeys, modest, calm, conditions, laid).
  DERIVED. THE GIVEN ROWS OF THIS SEAT. 4 by the template 'for every input the law returns true; each argument reads behind the call as it read before'; 0 by the template 'total and deterministic' (their statements: YthlbkidgdngblaaTotals.lean).
  GIVEN WITH THE SEED: the statements are not yours to turn. If you find one false, say at which input.
  Laid BY PROGRAM, IN A SANDBOX (cutbox-rows.mjs): the forced cells as the released guide's own fill.sh prints them over the translation 976c5dbd6dac8702… (all of the seat's roots in one cut). By AI agents, Wed Nov 11 2026. No macro, syntax, notation, axiom, sorry.
-/
import Derived.Test.YthlbkidgdngblaaChecked
import GoSem.Claim
import GoSem.ClaimJoined
import GoSem.ClaimMapViews
import Derived.JoinedTies
import Derived.KernelRfl
namespace Go.Proofs.Ythlbkidgdngblaa
/- THE CELL 'sum', in the pinned program and in every row, IS THE sha256 OF THE DUMP (.gsa) THAT YthlbkidgdngblaaProg.lean LOADS. Nothing in Lean hashes anything: it is a label: what it is worth is what the hold of that sum in a sandbox is worth. -/
noncomputable def Try.pinned : Pinned := { name := "ythlbkidgdngblaa", sum := "976c5dbd6dac870287ad77bcd2c71614bb9667d78656b75e6a152dcfb9fe3fca", checked := Try.checked }
namespace Rows
def none {H : Type} : Left H := { results := [], args := [] }

/-- 'tscodeclaw13.ConeThrough': WHATEVER THE INPUT: true; the input reads as it did. -/
def coneThroughSpec : ChangeSpec := { name := "coneThrough", fn := fun _ => fun
  | [d1, d2, d3, d4, d5] => { results := [.lit (.bool true)], args := [d1, d2, d3, d4, d5] }
  | _ => none }
def coneThroughRow : OpenClaim := { program := "ythlbkidgdngblaa", sum := "976c5dbd6dac870287ad77bcd2c71614bb9667d78656b75e6a152dcfb9fe3fca", func := "tscodec/tscodeclaw13.ConeThrough", spec := "coneThrough", inPlace := ["math/bits.Add64", "math/bits.Sub64"], recurses := true, named := ["math/bits.divideError", "math/bits.overflowError"], apart := false }
def ConeThroughSaid : Prop := coneThroughRow.holds Try.pinned (OpenSpec.ofChange coneThroughSpec)

/-- ITS FALSE NEIGHBOUR: 'it returns false'. Refute it at one input. -/
def coneThroughWrong : ChangeSpec := { name := "coneThrough", fn := fun _ => fun
  | [d1, d2, d3, d4, d5] => { results := [.lit (.bool false)], args := [d1, d2, d3, d4, d5] }
  | _ => none }
def ConeThroughWrongFalsely : Prop := coneThroughRow.holds Try.pinned (OpenSpec.ofChange coneThroughWrong)

/-- 'tscodeclaw13.ConeFits': WHATEVER THE INPUT: true; the input reads as it did. -/
def coneFitsSpec : ChangeSpec := { name := "coneFits", fn := fun _ => fun
  | [d] => { results := [.lit (.bool true)], args := [d] }
  | _ => none }
def coneFitsRow : OpenClaim := { program := "ythlbkidgdngblaa", sum := "976c5dbd6dac870287ad77bcd2c71614bb9667d78656b75e6a152dcfb9fe3fca", func := "tscodec/tscodeclaw13.ConeFits", spec := "coneFits", inPlace := ["math/bits.Add64", "math/bits.Sub64"], recurses := true, named := ["math/bits.divideError", "math/bits.overflowError"], apart := false }
def ConeFitsSaid : Prop := coneFitsRow.holds Try.pinned (OpenSpec.ofChange coneFitsSpec)

/-- ITS FALSE NEIGHBOUR: 'it returns false'. Refute it at one input. -/
def coneFitsWrong : ChangeSpec := { name := "coneFits", fn := fun _ => fun
  | [d] => { results := [.lit (.bool false)], args := [d] }
  | _ => none }
def ConeFitsWrongFalsely : Prop := coneFitsRow.holds Try.pinned (OpenSpec.ofChange coneFitsWrong)

/-- 'tscodeclaw13.ConeMeets': WHATEVER THE INPUT: true; the input reads as it did. -/
def coneMeetsSpec : ChangeSpec := { name := "coneMeets", fn := fun _ => fun
  | [d] => { results := [.lit (.bool true)], args := [d] }
  | _ => none }
def coneMeetsRow : OpenClaim := { program := "ythlbkidgdngblaa", sum := "976c5dbd6dac870287ad77bcd2c71614bb9667d78656b75e6a152dcfb9fe3fca", func := "tscodec/tscodeclaw13.ConeMeets", spec := "coneMeets", inPlace := ["math/bits.Add64", "math/bits.Sub64"], recurses := true, named := ["math/bits.divideError", "math/bits.overflowError"], apart := false }
def ConeMeetsSaid : Prop := coneMeetsRow.holds Try.pinned (OpenSpec.ofChange coneMeetsSpec)

/-- ITS FALSE NEIGHBOUR: 'it returns false'. Refute it at one input. -/
def coneMeetsWrong : ChangeSpec := { name := "coneMeets", fn := fun _ => fun
  | [d] => { results := [.lit (.bool false)], args := [d] }
  | _ => none }
def ConeMeetsWrongFalsely : Prop := coneMeetsRow.holds Try.pinned (OpenSpec.ofChange coneMeetsWrong)

/-- 'tscodeclaw13.ConeChooses': WHATEVER THE INPUT: true; the input reads as it did. -/
def coneChoosesSpec : ChangeSpec := { name := "coneChooses", fn := fun _ => fun
  | [d] => { results := [.lit (.bool true)], args := [d] }
  | _ => none }
def coneChoosesRow : OpenClaim := { program := "ythlbkidgdngblaa", sum := "976c5dbd6dac870287ad77bcd2c71614bb9667d78656b75e6a152dcfb9fe3fca", func := "tscodec/tscodeclaw13.ConeChooses", spec := "coneChooses", inPlace := ["math/bits.Add64", "math/bits.Sub64"], recurses := true, named := ["math/bits.divideError", "math/bits.overflowError"], apart := false }
def ConeChoosesSaid : Prop := coneChoosesRow.holds Try.pinned (OpenSpec.ofChange coneChoosesSpec)

/-- ITS FALSE NEIGHBOUR: 'it returns false'. Refute it at one input. -/
def coneChoosesWrong : ChangeSpec := { name := "coneChooses", fn := fun _ => fun
  | [d] => { results := [.lit (.bool false)], args := [d] }
  | _ => none }
def ConeChoosesWrongFalsely : Prop := coneChoosesRow.holds Try.pinned (OpenSpec.ofChange coneChoosesWrong)

/- THE SECOND FORM. 'bulk': how many values and letters a reading holds, each counted each time it is reached (what is shared counts as often as it is met; a slice's spare places count too). A statement '..UptoSaid' is the law's where the arguments, and the package variables that the reading takes, are together of bulk at most 1048576: NARROWER than '..Said'. Prove '..Said' where nothing that the law and all that it calls make is longer than what came in: it says more and counts as full. Else prove '..UptoSaid'. A law counts once. -/
mutual
def uptoBulk {H : Type} : DataW H → Nat
  | .lit (.string bytes) => bytes.length + 1
  | .lit _ => 1
  | .nil => 1
  | .ptr d => uptoBulk d + 1
  | .slice elems spare => uptoBulkAll elems + uptoBulkAll spare + 1
  | .agg parts => uptoBulkAll parts + 1
  | .iface _ d => uptoBulk d + 1
  | .map entries => uptoBulkEntries entries + 1
  | .held _ => 1
def uptoBulkAll {H : Type} : List (DataW H) → Nat
  | [] => 0
  | d :: r => uptoBulk d + uptoBulkAll r
def uptoBulkEntries {H : Type} : List (Lit × DataW H) → Nat
  | [] => 0
  | x :: r => uptoBulkEntry x + uptoBulkEntries r
def uptoBulkEntry {H : Type} : Lit × DataW H → Nat
  | (.string bytes, d) => bytes.length + uptoBulk d + 1
  | (_, d) => uptoBulk d + 1
 end
def uptoSmall : (H : Type) → List (DataW H) → Bool := fun _ ds => decide (uptoBulkAll ds ≤ 1048576)
def OpenSpec.upto (s : _root_.Go.ChangeSpec) : _root_.Go.OpenSpec := { _root_.Go.OpenSpec.ofChange s with cond := some uptoSmall }

/-- 'tscodeclaw13.ConeThrough', WHERE WHAT IT READS IS OF BULK AT MOST 1048576: true; the input reads as it did. -/
def coneThroughUptoRow : OpenClaim := { program := "ythlbkidgdngblaa", sum := "976c5dbd6dac870287ad77bcd2c71614bb9667d78656b75e6a152dcfb9fe3fca", func := "tscodec/tscodeclaw13.ConeThrough", spec := "coneThrough", inPlace := ["math/bits.Add64", "math/bits.Sub64"], recurses := true, named := ["math/bits.divideError", "math/bits.overflowError"], apart := false, narrowed := true }
def ConeThroughUptoSaid : Prop := coneThroughUptoRow.holds Try.pinned (OpenSpec.upto coneThroughSpec)

/-- 'tscodeclaw13.ConeFits', WHERE WHAT IT READS IS OF BULK AT MOST 1048576: true; the input reads as it did. -/
def coneFitsUptoRow : OpenClaim := { program := "ythlbkidgdngblaa", sum := "976c5dbd6dac870287ad77bcd2c71614bb9667d78656b75e6a152dcfb9fe3fca", func := "tscodec/tscodeclaw13.ConeFits", spec := "coneFits", inPlace := ["math/bits.Add64", "math/bits.Sub64"], recurses := true, named := ["math/bits.divideError", "math/bits.overflowError"], apart := false, narrowed := true }
def ConeFitsUptoSaid : Prop := coneFitsUptoRow.holds Try.pinned (OpenSpec.upto coneFitsSpec)

/-- 'tscodeclaw13.ConeMeets', WHERE WHAT IT READS IS OF BULK AT MOST 1048576: true; the input reads as it did. -/
def coneMeetsUptoRow : OpenClaim := { program := "ythlbkidgdngblaa", sum := "976c5dbd6dac870287ad77bcd2c71614bb9667d78656b75e6a152dcfb9fe3fca", func := "tscodec/tscodeclaw13.ConeMeets", spec := "coneMeets", inPlace := ["math/bits.Add64", "math/bits.Sub64"], recurses := true, named := ["math/bits.divideError", "math/bits.overflowError"], apart := false, narrowed := true }
def ConeMeetsUptoSaid : Prop := coneMeetsUptoRow.holds Try.pinned (OpenSpec.upto coneMeetsSpec)

/-- 'tscodeclaw13.ConeChooses', WHERE WHAT IT READS IS OF BULK AT MOST 1048576: true; the input reads as it did. -/
def coneChoosesUptoRow : OpenClaim := { program := "ythlbkidgdngblaa", sum := "976c5dbd6dac870287ad77bcd2c71614bb9667d78656b75e6a152dcfb9fe3fca", func := "tscodec/tscodeclaw13.ConeChooses", spec := "coneChooses", inPlace := ["math/bits.Add64", "math/bits.Sub64"], recurses := true, named := ["math/bits.divideError", "math/bits.overflowError"], apart := false, narrowed := true }
def ConeChoosesUptoSaid : Prop := coneChoosesUptoRow.holds Try.pinned (OpenSpec.upto coneChoosesSpec)

end Rows
end Go.Proofs.Ythlbkidgdngblaa
