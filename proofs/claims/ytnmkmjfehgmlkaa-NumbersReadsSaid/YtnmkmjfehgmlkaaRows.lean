/-
  No cell of these rows narrows 'for every input' (looked for: loops, veiled, ifaces, maps, wideKeys, modest, calm, conditions, laid).
  DERIVED. THE GIVEN ROWS OF THIS SEAT. 5 by the template 'for every input the law returns true; each argument reads behind the call as it read before'; 0 by the template 'total and deterministic' (their statements: YtnmkmjfehgmlkaaTotals.lean).
  GIVEN WITH THE SEED: the statements are not yours to turn. If you find one false, say at which input.
  Laid BY PROGRAM, IN A SANDBOX (cutbox-rows.mjs): the forced cells as the released guide's own fill.sh prints them over the translation 986443a766e07a6a… (all of the seat's roots in one cut). By AI agents, Wed Nov 11 2026. No macro, syntax, notation, axiom, sorry.
-/
import Derived.Test.YtnmkmjfehgmlkaaChecked
import GoSem.Claim
import GoSem.ClaimJoined
import GoSem.ClaimMapViews
import Derived.JoinedTies
import Derived.KernelRfl
namespace Go.Proofs.Ytnmkmjfehgmlkaa
/- THE CELL 'sum', in the pinned program and in every row, IS THE sha256 OF THE DUMP (.gsa) THAT YtnmkmjfehgmlkaaProg.lean LOADS. Nothing in Lean hashes anything: it is a label: what it is worth is what the hold of that sum in a sandbox is worth. -/
noncomputable def Try.pinned : Pinned := { name := "ytnmkmjfehgmlkaa", sum := "986443a766e07a6ade342814b52192aa76f5ac725a9d37ab205cc00908691784", checked := Try.checked }
namespace Rows
def none {H : Type} : Left H := { results := [], args := [] }

/-- 'tscodeclaw09.NumbersForms': WHATEVER THE INPUT: true; the input reads as it did. -/
def numbersFormsSpec : ChangeSpec := { name := "numbersForms", fn := fun _ => fun
  | [d1, d2] => { results := [.lit (.bool true)], args := [d1, d2] }
  | _ => none }
def numbersFormsRow : OpenClaim := { program := "ytnmkmjfehgmlkaa", sum := "986443a766e07a6ade342814b52192aa76f5ac725a9d37ab205cc00908691784", func := "tscodec/tscodeclaw09.NumbersForms", spec := "numbersForms", unfollowed := true, recurses := true, apart := false }
def NumbersFormsSaid : Prop := numbersFormsRow.holds Try.pinned (OpenSpec.ofChange numbersFormsSpec)

/-- ITS FALSE NEIGHBOUR: 'it returns false'. Refute it at one input. -/
def numbersFormsWrong : ChangeSpec := { name := "numbersForms", fn := fun _ => fun
  | [d1, d2] => { results := [.lit (.bool false)], args := [d1, d2] }
  | _ => none }
def NumbersFormsWrongFalsely : Prop := numbersFormsRow.holds Try.pinned (OpenSpec.ofChange numbersFormsWrong)

/-- 'tscodeclaw09.NumbersReads': WHATEVER THE INPUT: true; the input reads as it did. -/
def numbersReadsSpec : ChangeSpec := { name := "numbersReads", fn := fun _ => fun
  | [d1, d2, d3, d4] => { results := [.lit (.bool true)], args := [d1, d2, d3, d4] }
  | _ => none }
def numbersReadsRow : OpenClaim := { program := "ytnmkmjfehgmlkaa", sum := "986443a766e07a6ade342814b52192aa76f5ac725a9d37ab205cc00908691784", func := "tscodec/tscodeclaw09.NumbersReads", spec := "numbersReads", unfollowed := true, recurses := true, apart := false }
def NumbersReadsSaid : Prop := numbersReadsRow.holds Try.pinned (OpenSpec.ofChange numbersReadsSpec)

/-- ITS FALSE NEIGHBOUR: 'it returns false'. Refute it at one input. -/
def numbersReadsWrong : ChangeSpec := { name := "numbersReads", fn := fun _ => fun
  | [d1, d2, d3, d4] => { results := [.lit (.bool false)], args := [d1, d2, d3, d4] }
  | _ => none }
def NumbersReadsWrongFalsely : Prop := numbersReadsRow.holds Try.pinned (OpenSpec.ofChange numbersReadsWrong)

/-- 'tscodeclaw09.NumbersBack': WHATEVER THE INPUT: true; the input reads as it did. -/
def numbersBackSpec : ChangeSpec := { name := "numbersBack", fn := fun _ => fun
  | [d1, d2, d3] => { results := [.lit (.bool true)], args := [d1, d2, d3] }
  | _ => none }
def numbersBackRow : OpenClaim := { program := "ytnmkmjfehgmlkaa", sum := "986443a766e07a6ade342814b52192aa76f5ac725a9d37ab205cc00908691784", func := "tscodec/tscodeclaw09.NumbersBack", spec := "numbersBack", unfollowed := true, recurses := true, apart := false }
def NumbersBackSaid : Prop := numbersBackRow.holds Try.pinned (OpenSpec.ofChange numbersBackSpec)

/-- ITS FALSE NEIGHBOUR: 'it returns false'. Refute it at one input. -/
def numbersBackWrong : ChangeSpec := { name := "numbersBack", fn := fun _ => fun
  | [d1, d2, d3] => { results := [.lit (.bool false)], args := [d1, d2, d3] }
  | _ => none }
def NumbersBackWrongFalsely : Prop := numbersBackRow.holds Try.pinned (OpenSpec.ofChange numbersBackWrong)

/-- 'tscodeclaw09.NumbersCanonical': WHATEVER THE INPUT: true; the input reads as it did. -/
def numbersCanonicalSpec : ChangeSpec := { name := "numbersCanonical", fn := fun _ => fun
  | [d1, d2, d3] => { results := [.lit (.bool true)], args := [d1, d2, d3] }
  | _ => none }
def numbersCanonicalRow : OpenClaim := { program := "ytnmkmjfehgmlkaa", sum := "986443a766e07a6ade342814b52192aa76f5ac725a9d37ab205cc00908691784", func := "tscodec/tscodeclaw09.NumbersCanonical", spec := "numbersCanonical", unfollowed := true, recurses := true, apart := false }
def NumbersCanonicalSaid : Prop := numbersCanonicalRow.holds Try.pinned (OpenSpec.ofChange numbersCanonicalSpec)

/-- ITS FALSE NEIGHBOUR: 'it returns false'. Refute it at one input. -/
def numbersCanonicalWrong : ChangeSpec := { name := "numbersCanonical", fn := fun _ => fun
  | [d1, d2, d3] => { results := [.lit (.bool false)], args := [d1, d2, d3] }
  | _ => none }
def NumbersCanonicalWrongFalsely : Prop := numbersCanonicalRow.holds Try.pinned (OpenSpec.ofChange numbersCanonicalWrong)

/-- 'tscodeclaw09.NumbersShort': WHATEVER THE INPUT: true; the input reads as it did. -/
def numbersShortSpec : ChangeSpec := { name := "numbersShort", fn := fun _ => fun
  | [d] => { results := [.lit (.bool true)], args := [d] }
  | _ => none }
def numbersShortRow : OpenClaim := { program := "ytnmkmjfehgmlkaa", sum := "986443a766e07a6ade342814b52192aa76f5ac725a9d37ab205cc00908691784", func := "tscodec/tscodeclaw09.NumbersShort", spec := "numbersShort", unfollowed := true, recurses := true, apart := false }
def NumbersShortSaid : Prop := numbersShortRow.holds Try.pinned (OpenSpec.ofChange numbersShortSpec)

/-- ITS FALSE NEIGHBOUR: 'it returns false'. Refute it at one input. -/
def numbersShortWrong : ChangeSpec := { name := "numbersShort", fn := fun _ => fun
  | [d] => { results := [.lit (.bool false)], args := [d] }
  | _ => none }
def NumbersShortWrongFalsely : Prop := numbersShortRow.holds Try.pinned (OpenSpec.ofChange numbersShortWrong)

/- THE SECOND FORM. 'bulk': how many values and letters a reading holds, each counted each time it is reached (what is shared counts as often as it is met; a slice's spare places count too). A statement '..UptoSaid' is the law's where the arguments, and the package variables that the reading takes, are together of bulk at most 1048576: NARROWER than '..Said'. Prove '..Said' where nothing that the law and all that it calls make is longer than what came in: it says more and counts as full. Else prove '..UptoSaid'. A law counts once. -/
mutual
def uptoBulk {H : Type} : DataW H → Nat
  | .lit (.string bytes) => bytes.length + 1
  | .lit _ => 1
  | .nil => 1
  | .ptr d => uptoBulk d + 1
  | .slice elems spare => uptoBulkAll elems + uptoBulkAll spare + 1
  | .agg parts => uptoBulkAll parts + 1
  | .iface _ d => uptoBulk d + 1
  | .map entries => uptoBulkEntries entries + 1
  | .held _ => 1
def uptoBulkAll {H : Type} : List (DataW H) → Nat
  | [] => 0
  | d :: r => uptoBulk d + uptoBulkAll r
def uptoBulkEntries {H : Type} : List (Lit × DataW H) → Nat
  | [] => 0
  | x :: r => uptoBulkEntry x + uptoBulkEntries r
def uptoBulkEntry {H : Type} : Lit × DataW H → Nat
  | (.string bytes, d) => bytes.length + uptoBulk d + 1
  | (_, d) => uptoBulk d + 1
 end
def uptoSmall : (H : Type) → List (DataW H) → Bool := fun _ ds => decide (uptoBulkAll ds ≤ 1048576)
def OpenSpec.upto (s : _root_.Go.ChangeSpec) : _root_.Go.OpenSpec := { _root_.Go.OpenSpec.ofChange s with cond := some uptoSmall }

/-- 'tscodeclaw09.NumbersForms', WHERE WHAT IT READS IS OF BULK AT MOST 1048576: true; the input reads as it did. -/
def numbersFormsUptoRow : OpenClaim := { program := "ytnmkmjfehgmlkaa", sum := "986443a766e07a6ade342814b52192aa76f5ac725a9d37ab205cc00908691784", func := "tscodec/tscodeclaw09.NumbersForms", spec := "numbersForms", unfollowed := true, recurses := true, apart := false, narrowed := true }
def NumbersFormsUptoSaid : Prop := numbersFormsUptoRow.holds Try.pinned (OpenSpec.upto numbersFormsSpec)

/-- 'tscodeclaw09.NumbersReads', WHERE WHAT IT READS IS OF BULK AT MOST 1048576: true; the input reads as it did. -/
def numbersReadsUptoRow : OpenClaim := { program := "ytnmkmjfehgmlkaa", sum := "986443a766e07a6ade342814b52192aa76f5ac725a9d37ab205cc00908691784", func := "tscodec/tscodeclaw09.NumbersReads", spec := "numbersReads", unfollowed := true, recurses := true, apart := false, narrowed := true }
def NumbersReadsUptoSaid : Prop := numbersReadsUptoRow.holds Try.pinned (OpenSpec.upto numbersReadsSpec)

/-- 'tscodeclaw09.NumbersBack', WHERE WHAT IT READS IS OF BULK AT MOST 1048576: true; the input reads as it did. -/
def numbersBackUptoRow : OpenClaim := { program := "ytnmkmjfehgmlkaa", sum := "986443a766e07a6ade342814b52192aa76f5ac725a9d37ab205cc00908691784", func := "tscodec/tscodeclaw09.NumbersBack", spec := "numbersBack", unfollowed := true, recurses := true, apart := false, narrowed := true }
def NumbersBackUptoSaid : Prop := numbersBackUptoRow.holds Try.pinned (OpenSpec.upto numbersBackSpec)

/-- 'tscodeclaw09.NumbersCanonical', WHERE WHAT IT READS IS OF BULK AT MOST 1048576: true; the input reads as it did. -/
def numbersCanonicalUptoRow : OpenClaim := { program := "ytnmkmjfehgmlkaa", sum := "986443a766e07a6ade342814b52192aa76f5ac725a9d37ab205cc00908691784", func := "tscodec/tscodeclaw09.NumbersCanonical", spec := "numbersCanonical", unfollowed := true, recurses := true, apart := false, narrowed := true }
def NumbersCanonicalUptoSaid : Prop := numbersCanonicalUptoRow.holds Try.pinned (OpenSpec.upto numbersCanonicalSpec)

/-- 'tscodeclaw09.NumbersShort', WHERE WHAT IT READS IS OF BULK AT MOST 1048576: true; the input reads as it did. -/
def numbersShortUptoRow : OpenClaim := { program := "ytnmkmjfehgmlkaa", sum := "986443a766e07a6ade342814b52192aa76f5ac725a9d37ab205cc00908691784", func := "tscodec/tscodeclaw09.NumbersShort", spec := "numbersShort", unfollowed := true, recurses := true, apart := false, narrowed := true }
def NumbersShortUptoSaid : Prop := numbersShortUptoRow.holds Try.pinned (OpenSpec.upto numbersShortSpec)

end Rows
end Go.Proofs.Ytnmkmjfehgmlkaa
