/-
  No cell of these rows narrows 'for every input' (looked for: loops, veiled, ifaces, maps, wideKeys, modest, calm, conditions, laid).
  DERIVED. THE GIVEN ROWS OF THIS SEAT. 12 by the template 'for every input the law returns true; each argument reads behind the call as it read before'; 0 by the template 'total and deterministic' (their statements: YtbnbkondbdakeaaTotals.lean).
  GIVEN WITH THE SEED: the statements are not yours to turn. If you find one false, say at which input.
  Laid BY PROGRAM, IN A SANDBOX (cutbox-rows.mjs): the forced cells as the released guide's own fill.sh prints them over the translation acc729230142b8e8… (all of the seat's roots in one cut). By AI agents, Wed Nov 11 2026. No macro, syntax, notation, axiom, sorry.
-/
import Derived.Test.YtbnbkondbdakeaaChecked
import GoSem.Claim
import GoSem.ClaimJoined
import GoSem.ClaimMapViews
import Derived.JoinedTies
import Derived.KernelRfl
namespace Go.Proofs.Ytbnbkondbdakeaa
/- THE CELL 'sum', in the pinned program and in every row, IS THE sha256 OF THE DUMP (.gsa) THAT YtbnbkondbdakeaaProg.lean LOADS. Nothing in Lean hashes anything: it is a label: what it is worth is what the hold of that sum in a sandbox is worth. -/
noncomputable def Try.pinned : Pinned := { name := "ytbnbkondbdakeaa", sum := "acc729230142b8e8553dfcef42ed9fad17e566b24db7139252919e20de373128", checked := Try.checked }
namespace Rows
def none {H : Type} : Left H := { results := [], args := [] }

/-- 'tscodeclaw03.RatioMakes': WHATEVER THE INPUT: true; the input reads as it did. -/
def ratioMakesSpec : ChangeSpec := { name := "ratioMakes", fn := fun _ => fun
  | [d1, d2, d3] => { results := [.lit (.bool true)], args := [d1, d2, d3] }
  | _ => none }
def ratioMakesRow : OpenClaim := { program := "ytbnbkondbdakeaa", sum := "acc729230142b8e8553dfcef42ed9fad17e566b24db7139252919e20de373128", func := "tscodec/tscodeclaw03.RatioMakes", spec := "ratioMakes", inPlace := ["math/bits.Add64", "math/bits.Sub64"], named := ["math/bits.divideError", "math/bits.overflowError"], apart := false }
def RatioMakesSaid : Prop := ratioMakesRow.holds Try.pinned (OpenSpec.ofChange ratioMakesSpec)

/-- ITS FALSE NEIGHBOUR: 'it returns false'. Refute it at one input. -/
def ratioMakesWrong : ChangeSpec := { name := "ratioMakes", fn := fun _ => fun
  | [d1, d2, d3] => { results := [.lit (.bool false)], args := [d1, d2, d3] }
  | _ => none }
def RatioMakesWrongFalsely : Prop := ratioMakesRow.holds Try.pinned (OpenSpec.ofChange ratioMakesWrong)

/-- 'tscodeclaw04.SimplestForms': WHATEVER THE INPUT: true; the input reads as it did. -/
def simplestFormsSpec : ChangeSpec := { name := "simplestForms", fn := fun _ => fun
  | [d1, d2, d3] => { results := [.lit (.bool true)], args := [d1, d2, d3] }
  | _ => none }
def simplestFormsRow : OpenClaim := { program := "ytbnbkondbdakeaa", sum := "acc729230142b8e8553dfcef42ed9fad17e566b24db7139252919e20de373128", func := "tscodec/tscodeclaw04.SimplestForms", spec := "simplestForms", inPlace := ["math/bits.Add64", "math/bits.Sub64"], recurses := true, named := ["math/bits.divideError", "math/bits.overflowError"], apart := false }
def SimplestFormsSaid : Prop := simplestFormsRow.holds Try.pinned (OpenSpec.ofChange simplestFormsSpec)

/-- ITS FALSE NEIGHBOUR: 'it returns false'. Refute it at one input. -/
def simplestFormsWrong : ChangeSpec := { name := "simplestForms", fn := fun _ => fun
  | [d1, d2, d3] => { results := [.lit (.bool false)], args := [d1, d2, d3] }
  | _ => none }
def SimplestFormsWrongFalsely : Prop := simplestFormsRow.holds Try.pinned (OpenSpec.ofChange simplestFormsWrong)

/-- 'tscodeclaw04.SimplestInside': WHATEVER THE INPUT: true; the input reads as it did. -/
def simplestInsideSpec : ChangeSpec := { name := "simplestInside", fn := fun _ => fun
  | [d] => { results := [.lit (.bool true)], args := [d] }
  | _ => none }
def simplestInsideRow : OpenClaim := { program := "ytbnbkondbdakeaa", sum := "acc729230142b8e8553dfcef42ed9fad17e566b24db7139252919e20de373128", func := "tscodec/tscodeclaw04.SimplestInside", spec := "simplestInside", inPlace := ["math/bits.Add64", "math/bits.Sub64"], recurses := true, named := ["math/bits.divideError", "math/bits.overflowError"], apart := false }
def SimplestInsideSaid : Prop := simplestInsideRow.holds Try.pinned (OpenSpec.ofChange simplestInsideSpec)

/-- ITS FALSE NEIGHBOUR: 'it returns false'. Refute it at one input. -/
def simplestInsideWrong : ChangeSpec := { name := "simplestInside", fn := fun _ => fun
  | [d] => { results := [.lit (.bool false)], args := [d] }
  | _ => none }
def SimplestInsideWrongFalsely : Prop := simplestInsideRow.holds Try.pinned (OpenSpec.ofChange simplestInsideWrong)

/-- 'tscodeclaw04.SimplestLeast': WHATEVER THE INPUT: true; the input reads as it did. -/
def simplestLeastSpec : ChangeSpec := { name := "simplestLeast", fn := fun _ => fun
  | [d1, d2, d3, d4] => { results := [.lit (.bool true)], args := [d1, d2, d3, d4] }
  | _ => none }
def simplestLeastRow : OpenClaim := { program := "ytbnbkondbdakeaa", sum := "acc729230142b8e8553dfcef42ed9fad17e566b24db7139252919e20de373128", func := "tscodec/tscodeclaw04.SimplestLeast", spec := "simplestLeast", inPlace := ["math/bits.Sub64", "math/bits.Add64"], recurses := true, named := ["math/bits.divideError", "math/bits.overflowError"], apart := false }
def SimplestLeastSaid : Prop := simplestLeastRow.holds Try.pinned (OpenSpec.ofChange simplestLeastSpec)

/-- ITS FALSE NEIGHBOUR: 'it returns false'. Refute it at one input. -/
def simplestLeastWrong : ChangeSpec := { name := "simplestLeast", fn := fun _ => fun
  | [d1, d2, d3, d4] => { results := [.lit (.bool false)], args := [d1, d2, d3, d4] }
  | _ => none }
def SimplestLeastWrongFalsely : Prop := simplestLeastRow.holds Try.pinned (OpenSpec.ofChange simplestLeastWrong)

/-- 'tscodeclaw04.SimplestZero': WHATEVER THE INPUT: true; the input reads as it did. -/
def simplestZeroSpec : ChangeSpec := { name := "simplestZero", fn := fun _ => fun
  | [d] => { results := [.lit (.bool true)], args := [d] }
  | _ => none }
def simplestZeroRow : OpenClaim := { program := "ytbnbkondbdakeaa", sum := "acc729230142b8e8553dfcef42ed9fad17e566b24db7139252919e20de373128", func := "tscodec/tscodeclaw04.SimplestZero", spec := "simplestZero", inPlace := ["math/bits.Add64", "math/bits.Sub64"], recurses := true, named := ["math/bits.divideError", "math/bits.overflowError"], apart := false }
def SimplestZeroSaid : Prop := simplestZeroRow.holds Try.pinned (OpenSpec.ofChange simplestZeroSpec)

/-- ITS FALSE NEIGHBOUR: 'it returns false'. Refute it at one input. -/
def simplestZeroWrong : ChangeSpec := { name := "simplestZero", fn := fun _ => fun
  | [d] => { results := [.lit (.bool false)], args := [d] }
  | _ => none }
def SimplestZeroWrongFalsely : Prop := simplestZeroRow.holds Try.pinned (OpenSpec.ofChange simplestZeroWrong)

/-- 'tscodeclaw04.SimplestNests': WHATEVER THE INPUT: true; the input reads as it did. -/
def simplestNestsSpec : ChangeSpec := { name := "simplestNests", fn := fun _ => fun
  | [d] => { results := [.lit (.bool true)], args := [d] }
  | _ => none }
def simplestNestsRow : OpenClaim := { program := "ytbnbkondbdakeaa", sum := "acc729230142b8e8553dfcef42ed9fad17e566b24db7139252919e20de373128", func := "tscodec/tscodeclaw04.SimplestNests", spec := "simplestNests", inPlace := ["math/bits.Add64", "math/bits.Sub64"], recurses := true, named := ["math/bits.divideError", "math/bits.overflowError"], apart := false }
def SimplestNestsSaid : Prop := simplestNestsRow.holds Try.pinned (OpenSpec.ofChange simplestNestsSpec)

/-- ITS FALSE NEIGHBOUR: 'it returns false'. Refute it at one input. -/
def simplestNestsWrong : ChangeSpec := { name := "simplestNests", fn := fun _ => fun
  | [d] => { results := [.lit (.bool false)], args := [d] }
  | _ => none }
def SimplestNestsWrongFalsely : Prop := simplestNestsRow.holds Try.pinned (OpenSpec.ofChange simplestNestsWrong)

/-- 'tscodeclaw05.VarintForms': WHATEVER THE INPUT: true; the input reads as it did. -/
def varintFormsSpec : ChangeSpec := { name := "varintForms", fn := fun _ => fun
  | [d1, d2, d3, d4, d5] => { results := [.lit (.bool true)], args := [d1, d2, d3, d4, d5] }
  | _ => none }
def varintFormsRow : OpenClaim := { program := "ytbnbkondbdakeaa", sum := "acc729230142b8e8553dfcef42ed9fad17e566b24db7139252919e20de373128", func := "tscodec/tscodeclaw05.VarintForms", spec := "varintForms", inPlace := ["math/bits.Sub64", "math/bits.Add64"], unfollowed := true, recurses := true, named := ["math/bits.divideError", "math/bits.overflowError"], apart := false }
def VarintFormsSaid : Prop := varintFormsRow.holds Try.pinned (OpenSpec.ofChange varintFormsSpec)

/-- ITS FALSE NEIGHBOUR: 'it returns false'. Refute it at one input. -/
def varintFormsWrong : ChangeSpec := { name := "varintForms", fn := fun _ => fun
  | [d1, d2, d3, d4, d5] => { results := [.lit (.bool false)], args := [d1, d2, d3, d4, d5] }
  | _ => none }
def VarintFormsWrongFalsely : Prop := varintFormsRow.holds Try.pinned (OpenSpec.ofChange varintFormsWrong)

/-- 'tscodeclaw05.VarintReads': WHATEVER THE INPUT: true; the input reads as it did. -/
def varintReadsSpec : ChangeSpec := { name := "varintReads", fn := fun _ => fun
  | [d1, d2, d3, d4, d5] => { results := [.lit (.bool true)], args := [d1, d2, d3, d4, d5] }
  | _ => none }
def varintReadsRow : OpenClaim := { program := "ytbnbkondbdakeaa", sum := "acc729230142b8e8553dfcef42ed9fad17e566b24db7139252919e20de373128", func := "tscodec/tscodeclaw05.VarintReads", spec := "varintReads", inPlace := ["math/bits.Sub64", "math/bits.Add64"], unfollowed := true, recurses := true, named := ["math/bits.divideError", "math/bits.overflowError"], apart := false }
def VarintReadsSaid : Prop := varintReadsRow.holds Try.pinned (OpenSpec.ofChange varintReadsSpec)

/-- ITS FALSE NEIGHBOUR: 'it returns false'. Refute it at one input. -/
def varintReadsWrong : ChangeSpec := { name := "varintReads", fn := fun _ => fun
  | [d1, d2, d3, d4, d5] => { results := [.lit (.bool false)], args := [d1, d2, d3, d4, d5] }
  | _ => none }
def VarintReadsWrongFalsely : Prop := varintReadsRow.holds Try.pinned (OpenSpec.ofChange varintReadsWrong)

/-- 'tscodeclaw05.VarintBack': WHATEVER THE INPUT: true; the input reads as it did. -/
def varintBackSpec : ChangeSpec := { name := "varintBack", fn := fun _ => fun
  | [d1, d2, d3, d4, d5] => { results := [.lit (.bool true)], args := [d1, d2, d3, d4, d5] }
  | _ => none }
def varintBackRow : OpenClaim := { program := "ytbnbkondbdakeaa", sum := "acc729230142b8e8553dfcef42ed9fad17e566b24db7139252919e20de373128", func := "tscodec/tscodeclaw05.VarintBack", spec := "varintBack", unfollowed := true, recurses := true, apart := false }
def VarintBackSaid : Prop := varintBackRow.holds Try.pinned (OpenSpec.ofChange varintBackSpec)

/-- ITS FALSE NEIGHBOUR: 'it returns false'. Refute it at one input. -/
def varintBackWrong : ChangeSpec := { name := "varintBack", fn := fun _ => fun
  | [d1, d2, d3, d4, d5] => { results := [.lit (.bool false)], args := [d1, d2, d3, d4, d5] }
  | _ => none }
def VarintBackWrongFalsely : Prop := varintBackRow.holds Try.pinned (OpenSpec.ofChange varintBackWrong)

/-- 'tscodeclaw05.VarintCanonical': WHATEVER THE INPUT: true; the input reads as it did. -/
def varintCanonicalSpec : ChangeSpec := { name := "varintCanonical", fn := fun _ => fun
  | [d1, d2] => { results := [.lit (.bool true)], args := [d1, d2] }
  | _ => none }
def varintCanonicalRow : OpenClaim := { program := "ytbnbkondbdakeaa", sum := "acc729230142b8e8553dfcef42ed9fad17e566b24db7139252919e20de373128", func := "tscodec/tscodeclaw05.VarintCanonical", spec := "varintCanonical", inPlace := ["math/bits.Sub64", "math/bits.Add64"], unfollowed := true, recurses := true, named := ["math/bits.divideError", "math/bits.overflowError"], apart := false }
def VarintCanonicalSaid : Prop := varintCanonicalRow.holds Try.pinned (OpenSpec.ofChange varintCanonicalSpec)

/-- ITS FALSE NEIGHBOUR: 'it returns false'. Refute it at one input. -/
def varintCanonicalWrong : ChangeSpec := { name := "varintCanonical", fn := fun _ => fun
  | [d1, d2] => { results := [.lit (.bool false)], args := [d1, d2] }
  | _ => none }
def VarintCanonicalWrongFalsely : Prop := varintCanonicalRow.holds Try.pinned (OpenSpec.ofChange varintCanonicalWrong)

/-- 'tscodeclaw05.VarintCut': WHATEVER THE INPUT: true; the input reads as it did. -/
def varintCutSpec : ChangeSpec := { name := "varintCut", fn := fun _ => fun
  | [d1, d2, d3] => { results := [.lit (.bool true)], args := [d1, d2, d3] }
  | _ => none }
def varintCutRow : OpenClaim := { program := "ytbnbkondbdakeaa", sum := "acc729230142b8e8553dfcef42ed9fad17e566b24db7139252919e20de373128", func := "tscodec/tscodeclaw05.VarintCut", spec := "varintCut", unfollowed := true, recurses := true, apart := false }
def VarintCutSaid : Prop := varintCutRow.holds Try.pinned (OpenSpec.ofChange varintCutSpec)

/-- ITS FALSE NEIGHBOUR: 'it returns false'. Refute it at one input. -/
def varintCutWrong : ChangeSpec := { name := "varintCut", fn := fun _ => fun
  | [d1, d2, d3] => { results := [.lit (.bool false)], args := [d1, d2, d3] }
  | _ => none }
def VarintCutWrongFalsely : Prop := varintCutRow.holds Try.pinned (OpenSpec.ofChange varintCutWrong)

/-- 'tscodeclaw05.VarintZigzag': WHATEVER THE INPUT: true; the input reads as it did. -/
def varintZigzagSpec : ChangeSpec := { name := "varintZigzag", fn := fun _ => fun
  | [d1, d2, d3] => { results := [.lit (.bool true)], args := [d1, d2, d3] }
  | _ => none }
def varintZigzagRow : OpenClaim := { program := "ytbnbkondbdakeaa", sum := "acc729230142b8e8553dfcef42ed9fad17e566b24db7139252919e20de373128", func := "tscodec/tscodeclaw05.VarintZigzag", spec := "varintZigzag", unfollowed := true, recurses := true, apart := false }
def VarintZigzagSaid : Prop := varintZigzagRow.holds Try.pinned (OpenSpec.ofChange varintZigzagSpec)

/-- ITS FALSE NEIGHBOUR: 'it returns false'. Refute it at one input. -/
def varintZigzagWrong : ChangeSpec := { name := "varintZigzag", fn := fun _ => fun
  | [d1, d2, d3] => { results := [.lit (.bool false)], args := [d1, d2, d3] }
  | _ => none }
def VarintZigzagWrongFalsely : Prop := varintZigzagRow.holds Try.pinned (OpenSpec.ofChange varintZigzagWrong)

/- THE SECOND FORM. 'bulk': how many values and letters a reading holds, each counted each time it is reached (what is shared counts as often as it is met; a slice's spare places count too). A statement '..UptoSaid' is the law's where the arguments, and the package variables that the reading takes, are together of bulk at most 1048576: NARROWER than '..Said'. Prove '..Said' where nothing that the law and all that it calls make is longer than what came in: it says more and counts as full. Else prove '..UptoSaid'. A law counts once. -/
mutual
def uptoBulk {H : Type} : DataW H → Nat
  | .lit (.string bytes) => bytes.length + 1
  | .lit _ => 1
  | .nil => 1
  | .ptr d => uptoBulk d + 1
  | .slice elems spare => uptoBulkAll elems + uptoBulkAll spare + 1
  | .agg parts => uptoBulkAll parts + 1
  | .iface _ d => uptoBulk d + 1
  | .map entries => uptoBulkEntries entries + 1
  | .held _ => 1
def uptoBulkAll {H : Type} : List (DataW H) → Nat
  | [] => 0
  | d :: r => uptoBulk d + uptoBulkAll r
def uptoBulkEntries {H : Type} : List (Lit × DataW H) → Nat
  | [] => 0
  | x :: r => uptoBulkEntry x + uptoBulkEntries r
def uptoBulkEntry {H : Type} : Lit × DataW H → Nat
  | (.string bytes, d) => bytes.length + uptoBulk d + 1
  | (_, d) => uptoBulk d + 1
 end
def uptoSmall : (H : Type) → List (DataW H) → Bool := fun _ ds => decide (uptoBulkAll ds ≤ 1048576)
def OpenSpec.upto (s : _root_.Go.ChangeSpec) : _root_.Go.OpenSpec := { _root_.Go.OpenSpec.ofChange s with cond := some uptoSmall }

/-- 'tscodeclaw03.RatioMakes', WHERE WHAT IT READS IS OF BULK AT MOST 1048576: true; the input reads as it did. -/
def ratioMakesUptoRow : OpenClaim := { program := "ytbnbkondbdakeaa", sum := "acc729230142b8e8553dfcef42ed9fad17e566b24db7139252919e20de373128", func := "tscodec/tscodeclaw03.RatioMakes", spec := "ratioMakes", inPlace := ["math/bits.Add64", "math/bits.Sub64"], named := ["math/bits.divideError", "math/bits.overflowError"], apart := false, narrowed := true }
def RatioMakesUptoSaid : Prop := ratioMakesUptoRow.holds Try.pinned (OpenSpec.upto ratioMakesSpec)

/-- 'tscodeclaw04.SimplestForms', WHERE WHAT IT READS IS OF BULK AT MOST 1048576: true; the input reads as it did. -/
def simplestFormsUptoRow : OpenClaim := { program := "ytbnbkondbdakeaa", sum := "acc729230142b8e8553dfcef42ed9fad17e566b24db7139252919e20de373128", func := "tscodec/tscodeclaw04.SimplestForms", spec := "simplestForms", inPlace := ["math/bits.Add64", "math/bits.Sub64"], recurses := true, named := ["math/bits.divideError", "math/bits.overflowError"], apart := false, narrowed := true }
def SimplestFormsUptoSaid : Prop := simplestFormsUptoRow.holds Try.pinned (OpenSpec.upto simplestFormsSpec)

/-- 'tscodeclaw04.SimplestInside', WHERE WHAT IT READS IS OF BULK AT MOST 1048576: true; the input reads as it did. -/
def simplestInsideUptoRow : OpenClaim := { program := "ytbnbkondbdakeaa", sum := "acc729230142b8e8553dfcef42ed9fad17e566b24db7139252919e20de373128", func := "tscodec/tscodeclaw04.SimplestInside", spec := "simplestInside", inPlace := ["math/bits.Add64", "math/bits.Sub64"], recurses := true, named := ["math/bits.divideError", "math/bits.overflowError"], apart := false, narrowed := true }
def SimplestInsideUptoSaid : Prop := simplestInsideUptoRow.holds Try.pinned (OpenSpec.upto simplestInsideSpec)

/-- 'tscodeclaw04.SimplestLeast', WHERE WHAT IT READS IS OF BULK AT MOST 1048576: true; the input reads as it did. -/
def simplestLeastUptoRow : OpenClaim := { program := "ytbnbkondbdakeaa", sum := "acc729230142b8e8553dfcef42ed9fad17e566b24db7139252919e20de373128", func := "tscodec/tscodeclaw04.SimplestLeast", spec := "simplestLeast", inPlace := ["math/bits.Sub64", "math/bits.Add64"], recurses := true, named := ["math/bits.divideError", "math/bits.overflowError"], apart := false, narrowed := true }
def SimplestLeastUptoSaid : Prop := simplestLeastUptoRow.holds Try.pinned (OpenSpec.upto simplestLeastSpec)

/-- 'tscodeclaw04.SimplestZero', WHERE WHAT IT READS IS OF BULK AT MOST 1048576: true; the input reads as it did. -/
def simplestZeroUptoRow : OpenClaim := { program := "ytbnbkondbdakeaa", sum := "acc729230142b8e8553dfcef42ed9fad17e566b24db7139252919e20de373128", func := "tscodec/tscodeclaw04.SimplestZero", spec := "simplestZero", inPlace := ["math/bits.Add64", "math/bits.Sub64"], recurses := true, named := ["math/bits.divideError", "math/bits.overflowError"], apart := false, narrowed := true }
def SimplestZeroUptoSaid : Prop := simplestZeroUptoRow.holds Try.pinned (OpenSpec.upto simplestZeroSpec)

/-- 'tscodeclaw04.SimplestNests', WHERE WHAT IT READS IS OF BULK AT MOST 1048576: true; the input reads as it did. -/
def simplestNestsUptoRow : OpenClaim := { program := "ytbnbkondbdakeaa", sum := "acc729230142b8e8553dfcef42ed9fad17e566b24db7139252919e20de373128", func := "tscodec/tscodeclaw04.SimplestNests", spec := "simplestNests", inPlace := ["math/bits.Add64", "math/bits.Sub64"], recurses := true, named := ["math/bits.divideError", "math/bits.overflowError"], apart := false, narrowed := true }
def SimplestNestsUptoSaid : Prop := simplestNestsUptoRow.holds Try.pinned (OpenSpec.upto simplestNestsSpec)

/-- 'tscodeclaw05.VarintForms', WHERE WHAT IT READS IS OF BULK AT MOST 1048576: true; the input reads as it did. -/
def varintFormsUptoRow : OpenClaim := { program := "ytbnbkondbdakeaa", sum := "acc729230142b8e8553dfcef42ed9fad17e566b24db7139252919e20de373128", func := "tscodec/tscodeclaw05.VarintForms", spec := "varintForms", inPlace := ["math/bits.Sub64", "math/bits.Add64"], unfollowed := true, recurses := true, named := ["math/bits.divideError", "math/bits.overflowError"], apart := false, narrowed := true }
def VarintFormsUptoSaid : Prop := varintFormsUptoRow.holds Try.pinned (OpenSpec.upto varintFormsSpec)

/-- 'tscodeclaw05.VarintReads', WHERE WHAT IT READS IS OF BULK AT MOST 1048576: true; the input reads as it did. -/
def varintReadsUptoRow : OpenClaim := { program := "ytbnbkondbdakeaa", sum := "acc729230142b8e8553dfcef42ed9fad17e566b24db7139252919e20de373128", func := "tscodec/tscodeclaw05.VarintReads", spec := "varintReads", inPlace := ["math/bits.Sub64", "math/bits.Add64"], unfollowed := true, recurses := true, named := ["math/bits.divideError", "math/bits.overflowError"], apart := false, narrowed := true }
def VarintReadsUptoSaid : Prop := varintReadsUptoRow.holds Try.pinned (OpenSpec.upto varintReadsSpec)

/-- 'tscodeclaw05.VarintBack', WHERE WHAT IT READS IS OF BULK AT MOST 1048576: true; the input reads as it did. -/
def varintBackUptoRow : OpenClaim := { program := "ytbnbkondbdakeaa", sum := "acc729230142b8e8553dfcef42ed9fad17e566b24db7139252919e20de373128", func := "tscodec/tscodeclaw05.VarintBack", spec := "varintBack", unfollowed := true, recurses := true, apart := false, narrowed := true }
def VarintBackUptoSaid : Prop := varintBackUptoRow.holds Try.pinned (OpenSpec.upto varintBackSpec)

/-- 'tscodeclaw05.VarintCanonical', WHERE WHAT IT READS IS OF BULK AT MOST 1048576: true; the input reads as it did. -/
def varintCanonicalUptoRow : OpenClaim := { program := "ytbnbkondbdakeaa", sum := "acc729230142b8e8553dfcef42ed9fad17e566b24db7139252919e20de373128", func := "tscodec/tscodeclaw05.VarintCanonical", spec := "varintCanonical", inPlace := ["math/bits.Sub64", "math/bits.Add64"], unfollowed := true, recurses := true, named := ["math/bits.divideError", "math/bits.overflowError"], apart := false, narrowed := true }
def VarintCanonicalUptoSaid : Prop := varintCanonicalUptoRow.holds Try.pinned (OpenSpec.upto varintCanonicalSpec)

/-- 'tscodeclaw05.VarintCut', WHERE WHAT IT READS IS OF BULK AT MOST 1048576: true; the input reads as it did. -/
def varintCutUptoRow : OpenClaim := { program := "ytbnbkondbdakeaa", sum := "acc729230142b8e8553dfcef42ed9fad17e566b24db7139252919e20de373128", func := "tscodec/tscodeclaw05.VarintCut", spec := "varintCut", unfollowed := true, recurses := true, apart := false, narrowed := true }
def VarintCutUptoSaid : Prop := varintCutUptoRow.holds Try.pinned (OpenSpec.upto varintCutSpec)

/-- 'tscodeclaw05.VarintZigzag', WHERE WHAT IT READS IS OF BULK AT MOST 1048576: true; the input reads as it did. -/
def varintZigzagUptoRow : OpenClaim := { program := "ytbnbkondbdakeaa", sum := "acc729230142b8e8553dfcef42ed9fad17e566b24db7139252919e20de373128", func := "tscodec/tscodeclaw05.VarintZigzag", spec := "varintZigzag", unfollowed := true, recurses := true, apart := false, narrowed := true }
def VarintZigzagUptoSaid : Prop := varintZigzagUptoRow.holds Try.pinned (OpenSpec.upto varintZigzagSpec)

end Rows
end Go.Proofs.Ytbnbkondbdakeaa
