/-
  No cell of these rows narrows 'for every input' (looked for: loops, veiled, ifaces, maps, wideKeys, modest, calm, conditions, laid).
  DERIVED. THE GIVEN ROWS OF THIS SEAT. 5 by the template 'for every input the law returns true; each argument reads behind the call as it read before'; 0 by the template 'total and deterministic' (their statements: YtjmigglibidbdaaTotals.lean).
  GIVEN WITH THE SEED: the statements are not yours to turn. If you find one false, say at which input.
  Laid BY PROGRAM, IN A SANDBOX (cutbox-rows.mjs): the forced cells as the released guide's own fill.sh prints them over the translation 08cbd4b516a47620… (all of the seat's roots in one cut). By AI agents, Wed Nov 11 2026. No macro, syntax, notation, axiom, sorry.
-/
import Derived.Test.YtjmigglibidbdaaChecked
import GoSem.Claim
import GoSem.ClaimJoined
import GoSem.ClaimMapViews
import Derived.JoinedTies
import Derived.KernelRfl
namespace Go.Proofs.Ytjmigglibidbdaa
/- THE CELL 'sum', in the pinned program and in every row, IS THE sha256 OF THE DUMP (.gsa) THAT YtjmigglibidbdaaProg.lean LOADS. Nothing in Lean hashes anything: it is a label: what it is worth is what the hold of that sum in a sandbox is worth. -/
noncomputable def Try.pinned : Pinned := { name := "ytjmigglibidbdaa", sum := "08cbd4b516a47620467566bd4a054441c8c83934da3dd31531e9b83d6e1fa4ec", checked := Try.checked }
namespace Rows
def none {H : Type} : Left H := { results := [], args := [] }

/-- 'tscodeclaw10.StampsForms': WHATEVER THE INPUT: true; the input reads as it did. -/
def stampsFormsSpec : ChangeSpec := { name := "stampsForms", fn := fun _ => fun
  | [d1, d2] => { results := [.lit (.bool true)], args := [d1, d2] }
  | _ => none }
def stampsFormsRow : OpenClaim := { program := "ytjmigglibidbdaa", sum := "08cbd4b516a47620467566bd4a054441c8c83934da3dd31531e9b83d6e1fa4ec", func := "tscodec/tscodeclaw10.StampsForms", spec := "stampsForms", unfollowed := true, recurses := true, apart := false }
def StampsFormsSaid : Prop := stampsFormsRow.holds Try.pinned (OpenSpec.ofChange stampsFormsSpec)

/-- ITS FALSE NEIGHBOUR: 'it returns false'. Refute it at one input. -/
def stampsFormsWrong : ChangeSpec := { name := "stampsForms", fn := fun _ => fun
  | [d1, d2] => { results := [.lit (.bool false)], args := [d1, d2] }
  | _ => none }
def StampsFormsWrongFalsely : Prop := stampsFormsRow.holds Try.pinned (OpenSpec.ofChange stampsFormsWrong)

/-- 'tscodeclaw10.StampsReads': WHATEVER THE INPUT: true; the input reads as it did. -/
def stampsReadsSpec : ChangeSpec := { name := "stampsReads", fn := fun _ => fun
  | [d1, d2, d3, d4, d5] => { results := [.lit (.bool true)], args := [d1, d2, d3, d4, d5] }
  | _ => none }
def stampsReadsRow : OpenClaim := { program := "ytjmigglibidbdaa", sum := "08cbd4b516a47620467566bd4a054441c8c83934da3dd31531e9b83d6e1fa4ec", func := "tscodec/tscodeclaw10.StampsReads", spec := "stampsReads", unfollowed := true, recurses := true, apart := false }
def StampsReadsSaid : Prop := stampsReadsRow.holds Try.pinned (OpenSpec.ofChange stampsReadsSpec)

/-- ITS FALSE NEIGHBOUR: 'it returns false'. Refute it at one input. -/
def stampsReadsWrong : ChangeSpec := { name := "stampsReads", fn := fun _ => fun
  | [d1, d2, d3, d4, d5] => { results := [.lit (.bool false)], args := [d1, d2, d3, d4, d5] }
  | _ => none }
def StampsReadsWrongFalsely : Prop := stampsReadsRow.holds Try.pinned (OpenSpec.ofChange stampsReadsWrong)

/-- 'tscodeclaw10.StampsBack': WHATEVER THE INPUT: true; the input reads as it did. -/
def stampsBackSpec : ChangeSpec := { name := "stampsBack", fn := fun _ => fun
  | [d1, d2, d3] => { results := [.lit (.bool true)], args := [d1, d2, d3] }
  | _ => none }
def stampsBackRow : OpenClaim := { program := "ytjmigglibidbdaa", sum := "08cbd4b516a47620467566bd4a054441c8c83934da3dd31531e9b83d6e1fa4ec", func := "tscodec/tscodeclaw10.StampsBack", spec := "stampsBack", unfollowed := true, recurses := true, apart := false }
def StampsBackSaid : Prop := stampsBackRow.holds Try.pinned (OpenSpec.ofChange stampsBackSpec)

/-- ITS FALSE NEIGHBOUR: 'it returns false'. Refute it at one input. -/
def stampsBackWrong : ChangeSpec := { name := "stampsBack", fn := fun _ => fun
  | [d1, d2, d3] => { results := [.lit (.bool false)], args := [d1, d2, d3] }
  | _ => none }
def StampsBackWrongFalsely : Prop := stampsBackRow.holds Try.pinned (OpenSpec.ofChange stampsBackWrong)

/-- 'tscodeclaw10.StampsCanonical': WHATEVER THE INPUT: true; the input reads as it did. -/
def stampsCanonicalSpec : ChangeSpec := { name := "stampsCanonical", fn := fun _ => fun
  | [d1, d2, d3, d4] => { results := [.lit (.bool true)], args := [d1, d2, d3, d4] }
  | _ => none }
def stampsCanonicalRow : OpenClaim := { program := "ytjmigglibidbdaa", sum := "08cbd4b516a47620467566bd4a054441c8c83934da3dd31531e9b83d6e1fa4ec", func := "tscodec/tscodeclaw10.StampsCanonical", spec := "stampsCanonical", unfollowed := true, recurses := true, apart := false }
def StampsCanonicalSaid : Prop := stampsCanonicalRow.holds Try.pinned (OpenSpec.ofChange stampsCanonicalSpec)

/-- ITS FALSE NEIGHBOUR: 'it returns false'. Refute it at one input. -/
def stampsCanonicalWrong : ChangeSpec := { name := "stampsCanonical", fn := fun _ => fun
  | [d1, d2, d3, d4] => { results := [.lit (.bool false)], args := [d1, d2, d3, d4] }
  | _ => none }
def StampsCanonicalWrongFalsely : Prop := stampsCanonicalRow.holds Try.pinned (OpenSpec.ofChange stampsCanonicalWrong)

/-- 'tscodeclaw10.StampsRegular': WHATEVER THE INPUT: true; the input reads as it did. -/
def stampsRegularSpec : ChangeSpec := { name := "stampsRegular", fn := fun _ => fun
  | [d1, d2, d3] => { results := [.lit (.bool true)], args := [d1, d2, d3] }
  | _ => none }
def stampsRegularRow : OpenClaim := { program := "ytjmigglibidbdaa", sum := "08cbd4b516a47620467566bd4a054441c8c83934da3dd31531e9b83d6e1fa4ec", func := "tscodec/tscodeclaw10.StampsRegular", spec := "stampsRegular", unfollowed := true, recurses := true, apart := false }
def StampsRegularSaid : Prop := stampsRegularRow.holds Try.pinned (OpenSpec.ofChange stampsRegularSpec)

/-- ITS FALSE NEIGHBOUR: 'it returns false'. Refute it at one input. -/
def stampsRegularWrong : ChangeSpec := { name := "stampsRegular", fn := fun _ => fun
  | [d1, d2, d3] => { results := [.lit (.bool false)], args := [d1, d2, d3] }
  | _ => none }
def StampsRegularWrongFalsely : Prop := stampsRegularRow.holds Try.pinned (OpenSpec.ofChange stampsRegularWrong)

/- THE SECOND FORM. 'bulk': how many values and letters a reading holds, each counted each time it is reached (what is shared counts as often as it is met; a slice's spare places count too). A statement '..UptoSaid' is the law's where the arguments, and the package variables that the reading takes, are together of bulk at most 1048576: NARROWER than '..Said'. Prove '..Said' where nothing that the law and all that it calls make is longer than what came in: it says more and counts as full. Else prove '..UptoSaid'. A law counts once. -/
mutual
def uptoBulk {H : Type} : DataW H → Nat
  | .lit (.string bytes) => bytes.length + 1
  | .lit _ => 1
  | .nil => 1
  | .ptr d => uptoBulk d + 1
  | .slice elems spare => uptoBulkAll elems + uptoBulkAll spare + 1
  | .agg parts => uptoBulkAll parts + 1
  | .iface _ d => uptoBulk d + 1
  | .map entries => uptoBulkEntries entries + 1
  | .held _ => 1
def uptoBulkAll {H : Type} : List (DataW H) → Nat
  | [] => 0
  | d :: r => uptoBulk d + uptoBulkAll r
def uptoBulkEntries {H : Type} : List (Lit × DataW H) → Nat
  | [] => 0
  | x :: r => uptoBulkEntry x + uptoBulkEntries r
def uptoBulkEntry {H : Type} : Lit × DataW H → Nat
  | (.string bytes, d) => bytes.length + uptoBulk d + 1
  | (_, d) => uptoBulk d + 1
 end
def uptoSmall : (H : Type) → List (DataW H) → Bool := fun _ ds => decide (uptoBulkAll ds ≤ 1048576)
def OpenSpec.upto (s : _root_.Go.ChangeSpec) : _root_.Go.OpenSpec := { _root_.Go.OpenSpec.ofChange s with cond := some uptoSmall }

/-- 'tscodeclaw10.StampsForms', WHERE WHAT IT READS IS OF BULK AT MOST 1048576: true; the input reads as it did. -/
def stampsFormsUptoRow : OpenClaim := { program := "ytjmigglibidbdaa", sum := "08cbd4b516a47620467566bd4a054441c8c83934da3dd31531e9b83d6e1fa4ec", func := "tscodec/tscodeclaw10.StampsForms", spec := "stampsForms", unfollowed := true, recurses := true, apart := false, narrowed := true }
def StampsFormsUptoSaid : Prop := stampsFormsUptoRow.holds Try.pinned (OpenSpec.upto stampsFormsSpec)

/-- 'tscodeclaw10.StampsReads', WHERE WHAT IT READS IS OF BULK AT MOST 1048576: true; the input reads as it did. -/
def stampsReadsUptoRow : OpenClaim := { program := "ytjmigglibidbdaa", sum := "08cbd4b516a47620467566bd4a054441c8c83934da3dd31531e9b83d6e1fa4ec", func := "tscodec/tscodeclaw10.StampsReads", spec := "stampsReads", unfollowed := true, recurses := true, apart := false, narrowed := true }
def StampsReadsUptoSaid : Prop := stampsReadsUptoRow.holds Try.pinned (OpenSpec.upto stampsReadsSpec)

/-- 'tscodeclaw10.StampsBack', WHERE WHAT IT READS IS OF BULK AT MOST 1048576: true; the input reads as it did. -/
def stampsBackUptoRow : OpenClaim := { program := "ytjmigglibidbdaa", sum := "08cbd4b516a47620467566bd4a054441c8c83934da3dd31531e9b83d6e1fa4ec", func := "tscodec/tscodeclaw10.StampsBack", spec := "stampsBack", unfollowed := true, recurses := true, apart := false, narrowed := true }
def StampsBackUptoSaid : Prop := stampsBackUptoRow.holds Try.pinned (OpenSpec.upto stampsBackSpec)

/-- 'tscodeclaw10.StampsCanonical', WHERE WHAT IT READS IS OF BULK AT MOST 1048576: true; the input reads as it did. -/
def stampsCanonicalUptoRow : OpenClaim := { program := "ytjmigglibidbdaa", sum := "08cbd4b516a47620467566bd4a054441c8c83934da3dd31531e9b83d6e1fa4ec", func := "tscodec/tscodeclaw10.StampsCanonical", spec := "stampsCanonical", unfollowed := true, recurses := true, apart := false, narrowed := true }
def StampsCanonicalUptoSaid : Prop := stampsCanonicalUptoRow.holds Try.pinned (OpenSpec.upto stampsCanonicalSpec)

/-- 'tscodeclaw10.StampsRegular', WHERE WHAT IT READS IS OF BULK AT MOST 1048576: true; the input reads as it did. -/
def stampsRegularUptoRow : OpenClaim := { program := "ytjmigglibidbdaa", sum := "08cbd4b516a47620467566bd4a054441c8c83934da3dd31531e9b83d6e1fa4ec", func := "tscodec/tscodeclaw10.StampsRegular", spec := "stampsRegular", unfollowed := true, recurses := true, apart := false, narrowed := true }
def StampsRegularUptoSaid : Prop := stampsRegularUptoRow.holds Try.pinned (OpenSpec.upto stampsRegularSpec)

end Rows
end Go.Proofs.Ytjmigglibidbdaa
