/-
  No cell of these rows narrows 'for every input' (looked for: loops, veiled, ifaces, maps, wideKeys, modest, calm, conditions, laid).
  DERIVED. THE GIVEN ROWS OF THIS SEAT. 5 by the template 'for every input the law returns true; each argument reads behind the call as it read before'; 0 by the template 'total and deterministic' (their statements: YtijfojbonceffaaTotals.lean).
  GIVEN WITH THE SEED: the statements are not yours to turn. If you find one false, say at which input.
  Laid BY PROGRAM, IN A SANDBOX (cutbox-rows.mjs): the forced cells as the released guide's own fill.sh prints them over the translation 5669fc620c218ee3… (all of the seat's roots in one cut). By AI agents, Wed Nov 11 2026. No macro, syntax, notation, axiom, sorry.
-/
import Derived.Test.YtijfojbonceffaaChecked
import GoSem.Claim
import GoSem.ClaimJoined
import GoSem.ClaimMapViews
import Derived.JoinedTies
import Derived.KernelRfl
namespace Go.Proofs.Ytijfojbonceffaa
/- THE CELL 'sum', in the pinned program and in every row, IS THE sha256 OF THE DUMP (.gsa) THAT YtijfojbonceffaaProg.lean LOADS. Nothing in Lean hashes anything: it is a label: what it is worth is what the hold of that sum in a sandbox is worth. -/
noncomputable def Try.pinned : Pinned := { name := "ytijfojbonceffaa", sum := "5669fc620c218ee3ee0c2f3e51fa8552f4b53a8d69da3a3dab2352203ff713a1", checked := Try.checked }
namespace Rows
def none {H : Type} : Left H := { results := [], args := [] }

/-- 'tscodeclaw11.ResidualForms': WHATEVER THE INPUT: true; the input reads as it did. -/
def residualFormsSpec : ChangeSpec := { name := "residualForms", fn := fun _ => fun
  | [d1, d2, d3] => { results := [.lit (.bool true)], args := [d1, d2, d3] }
  | _ => none }
def residualFormsRow : OpenClaim := { program := "ytijfojbonceffaa", sum := "5669fc620c218ee3ee0c2f3e51fa8552f4b53a8d69da3a3dab2352203ff713a1", func := "tscodec/tscodeclaw11.ResidualForms", spec := "residualForms", unfollowed := true, recurses := true, apart := false }
def ResidualFormsSaid : Prop := residualFormsRow.holds Try.pinned (OpenSpec.ofChange residualFormsSpec)

/-- ITS FALSE NEIGHBOUR: 'it returns false'. Refute it at one input. -/
def residualFormsWrong : ChangeSpec := { name := "residualForms", fn := fun _ => fun
  | [d1, d2, d3] => { results := [.lit (.bool false)], args := [d1, d2, d3] }
  | _ => none }
def ResidualFormsWrongFalsely : Prop := residualFormsRow.holds Try.pinned (OpenSpec.ofChange residualFormsWrong)

/-- 'tscodeclaw11.ResidualReads': WHATEVER THE INPUT: true; the input reads as it did. -/
def residualReadsSpec : ChangeSpec := { name := "residualReads", fn := fun _ => fun
  | [d1, d2, d3, d4] => { results := [.lit (.bool true)], args := [d1, d2, d3, d4] }
  | _ => none }
def residualReadsRow : OpenClaim := { program := "ytijfojbonceffaa", sum := "5669fc620c218ee3ee0c2f3e51fa8552f4b53a8d69da3a3dab2352203ff713a1", func := "tscodec/tscodeclaw11.ResidualReads", spec := "residualReads", unfollowed := true, recurses := true, apart := false }
def ResidualReadsSaid : Prop := residualReadsRow.holds Try.pinned (OpenSpec.ofChange residualReadsSpec)

/-- ITS FALSE NEIGHBOUR: 'it returns false'. Refute it at one input. -/
def residualReadsWrong : ChangeSpec := { name := "residualReads", fn := fun _ => fun
  | [d1, d2, d3, d4] => { results := [.lit (.bool false)], args := [d1, d2, d3, d4] }
  | _ => none }
def ResidualReadsWrongFalsely : Prop := residualReadsRow.holds Try.pinned (OpenSpec.ofChange residualReadsWrong)

/-- 'tscodeclaw11.ResidualBack': WHATEVER THE INPUT: true; the input reads as it did. -/
def residualBackSpec : ChangeSpec := { name := "residualBack", fn := fun _ => fun
  | [d1, d2, d3, d4] => { results := [.lit (.bool true)], args := [d1, d2, d3, d4] }
  | _ => none }
def residualBackRow : OpenClaim := { program := "ytijfojbonceffaa", sum := "5669fc620c218ee3ee0c2f3e51fa8552f4b53a8d69da3a3dab2352203ff713a1", func := "tscodec/tscodeclaw11.ResidualBack", spec := "residualBack", unfollowed := true, recurses := true, apart := false }
def ResidualBackSaid : Prop := residualBackRow.holds Try.pinned (OpenSpec.ofChange residualBackSpec)

/-- ITS FALSE NEIGHBOUR: 'it returns false'. Refute it at one input. -/
def residualBackWrong : ChangeSpec := { name := "residualBack", fn := fun _ => fun
  | [d1, d2, d3, d4] => { results := [.lit (.bool false)], args := [d1, d2, d3, d4] }
  | _ => none }
def ResidualBackWrongFalsely : Prop := residualBackRow.holds Try.pinned (OpenSpec.ofChange residualBackWrong)

/-- 'tscodeclaw11.ResidualCanonical': WHATEVER THE INPUT: true; the input reads as it did. -/
def residualCanonicalSpec : ChangeSpec := { name := "residualCanonical", fn := fun _ => fun
  | [d1, d2, d3] => { results := [.lit (.bool true)], args := [d1, d2, d3] }
  | _ => none }
def residualCanonicalRow : OpenClaim := { program := "ytijfojbonceffaa", sum := "5669fc620c218ee3ee0c2f3e51fa8552f4b53a8d69da3a3dab2352203ff713a1", func := "tscodec/tscodeclaw11.ResidualCanonical", spec := "residualCanonical", unfollowed := true, recurses := true, apart := false }
def ResidualCanonicalSaid : Prop := residualCanonicalRow.holds Try.pinned (OpenSpec.ofChange residualCanonicalSpec)

/-- ITS FALSE NEIGHBOUR: 'it returns false'. Refute it at one input. -/
def residualCanonicalWrong : ChangeSpec := { name := "residualCanonical", fn := fun _ => fun
  | [d1, d2, d3] => { results := [.lit (.bool false)], args := [d1, d2, d3] }
  | _ => none }
def ResidualCanonicalWrongFalsely : Prop := residualCanonicalRow.holds Try.pinned (OpenSpec.ofChange residualCanonicalWrong)

/-- 'tscodeclaw11.ResidualShortest': WHATEVER THE INPUT: true; the input reads as it did. -/
def residualShortestSpec : ChangeSpec := { name := "residualShortest", fn := fun _ => fun
  | [d1, d2, d3, d4] => { results := [.lit (.bool true)], args := [d1, d2, d3, d4] }
  | _ => none }
def residualShortestRow : OpenClaim := { program := "ytijfojbonceffaa", sum := "5669fc620c218ee3ee0c2f3e51fa8552f4b53a8d69da3a3dab2352203ff713a1", func := "tscodec/tscodeclaw11.ResidualShortest", spec := "residualShortest", unfollowed := true, recurses := true, apart := false }
def ResidualShortestSaid : Prop := residualShortestRow.holds Try.pinned (OpenSpec.ofChange residualShortestSpec)

/-- ITS FALSE NEIGHBOUR: 'it returns false'. Refute it at one input. -/
def residualShortestWrong : ChangeSpec := { name := "residualShortest", fn := fun _ => fun
  | [d1, d2, d3, d4] => { results := [.lit (.bool false)], args := [d1, d2, d3, d4] }
  | _ => none }
def ResidualShortestWrongFalsely : Prop := residualShortestRow.holds Try.pinned (OpenSpec.ofChange residualShortestWrong)

/- THE SECOND FORM. 'bulk': how many values and letters a reading holds, each counted each time it is reached (what is shared counts as often as it is met; a slice's spare places count too). A statement '..UptoSaid' is the law's where the arguments, and the package variables that the reading takes, are together of bulk at most 1048576: NARROWER than '..Said'. Prove '..Said' where nothing that the law and all that it calls make is longer than what came in: it says more and counts as full. Else prove '..UptoSaid'. A law counts once. -/
mutual
def uptoBulk {H : Type} : DataW H → Nat
  | .lit (.string bytes) => bytes.length + 1
  | .lit _ => 1
  | .nil => 1
  | .ptr d => uptoBulk d + 1
  | .slice elems spare => uptoBulkAll elems + uptoBulkAll spare + 1
  | .agg parts => uptoBulkAll parts + 1
  | .iface _ d => uptoBulk d + 1
  | .map entries => uptoBulkEntries entries + 1
  | .held _ => 1
def uptoBulkAll {H : Type} : List (DataW H) → Nat
  | [] => 0
  | d :: r => uptoBulk d + uptoBulkAll r
def uptoBulkEntries {H : Type} : List (Lit × DataW H) → Nat
  | [] => 0
  | x :: r => uptoBulkEntry x + uptoBulkEntries r
def uptoBulkEntry {H : Type} : Lit × DataW H → Nat
  | (.string bytes, d) => bytes.length + uptoBulk d + 1
  | (_, d) => uptoBulk d + 1
 end
def uptoSmall : (H : Type) → List (DataW H) → Bool := fun _ ds => decide (uptoBulkAll ds ≤ 1048576)
def OpenSpec.upto (s : _root_.Go.ChangeSpec) : _root_.Go.OpenSpec := { _root_.Go.OpenSpec.ofChange s with cond := some uptoSmall }

/-- 'tscodeclaw11.ResidualForms', WHERE WHAT IT READS IS OF BULK AT MOST 1048576: true; the input reads as it did. -/
def residualFormsUptoRow : OpenClaim := { program := "ytijfojbonceffaa", sum := "5669fc620c218ee3ee0c2f3e51fa8552f4b53a8d69da3a3dab2352203ff713a1", func := "tscodec/tscodeclaw11.ResidualForms", spec := "residualForms", unfollowed := true, recurses := true, apart := false, narrowed := true }
def ResidualFormsUptoSaid : Prop := residualFormsUptoRow.holds Try.pinned (OpenSpec.upto residualFormsSpec)

/-- 'tscodeclaw11.ResidualReads', WHERE WHAT IT READS IS OF BULK AT MOST 1048576: true; the input reads as it did. -/
def residualReadsUptoRow : OpenClaim := { program := "ytijfojbonceffaa", sum := "5669fc620c218ee3ee0c2f3e51fa8552f4b53a8d69da3a3dab2352203ff713a1", func := "tscodec/tscodeclaw11.ResidualReads", spec := "residualReads", unfollowed := true, recurses := true, apart := false, narrowed := true }
def ResidualReadsUptoSaid : Prop := residualReadsUptoRow.holds Try.pinned (OpenSpec.upto residualReadsSpec)

/-- 'tscodeclaw11.ResidualBack', WHERE WHAT IT READS IS OF BULK AT MOST 1048576: true; the input reads as it did. -/
def residualBackUptoRow : OpenClaim := { program := "ytijfojbonceffaa", sum := "5669fc620c218ee3ee0c2f3e51fa8552f4b53a8d69da3a3dab2352203ff713a1", func := "tscodec/tscodeclaw11.ResidualBack", spec := "residualBack", unfollowed := true, recurses := true, apart := false, narrowed := true }
def ResidualBackUptoSaid : Prop := residualBackUptoRow.holds Try.pinned (OpenSpec.upto residualBackSpec)

/-- 'tscodeclaw11.ResidualCanonical', WHERE WHAT IT READS IS OF BULK AT MOST 1048576: true; the input reads as it did. -/
def residualCanonicalUptoRow : OpenClaim := { program := "ytijfojbonceffaa", sum := "5669fc620c218ee3ee0c2f3e51fa8552f4b53a8d69da3a3dab2352203ff713a1", func := "tscodec/tscodeclaw11.ResidualCanonical", spec := "residualCanonical", unfollowed := true, recurses := true, apart := false, narrowed := true }
def ResidualCanonicalUptoSaid : Prop := residualCanonicalUptoRow.holds Try.pinned (OpenSpec.upto residualCanonicalSpec)

/-- 'tscodeclaw11.ResidualShortest', WHERE WHAT IT READS IS OF BULK AT MOST 1048576: true; the input reads as it did. -/
def residualShortestUptoRow : OpenClaim := { program := "ytijfojbonceffaa", sum := "5669fc620c218ee3ee0c2f3e51fa8552f4b53a8d69da3a3dab2352203ff713a1", func := "tscodec/tscodeclaw11.ResidualShortest", spec := "residualShortest", unfollowed := true, recurses := true, apart := false, narrowed := true }
def ResidualShortestUptoSaid : Prop := residualShortestUptoRow.holds Try.pinned (OpenSpec.upto residualShortestSpec)

end Rows
end Go.Proofs.Ytijfojbonceffaa
