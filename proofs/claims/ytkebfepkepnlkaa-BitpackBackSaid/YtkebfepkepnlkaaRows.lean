/-
  No cell of these rows narrows 'for every input' (looked for: loops, veiled, ifaces, maps, wideKeys, modest, calm, conditions, laid).
  DERIVED. THE GIVEN ROWS OF THIS SEAT. 4 by the template 'for every input the law returns true; each argument reads behind the call as it read before'; 0 by the template 'total and deterministic' (their statements: YtkebfepkepnlkaaTotals.lean).
  GIVEN WITH THE SEED: the statements are not yours to turn. If you find one false, say at which input.
  Laid BY PROGRAM, IN A SANDBOX (cutbox-rows.mjs): the forced cells as the released guide's own fill.sh prints them over the translation bc509a033dda6135… (all of the seat's roots in one cut). By AI agents, Wed Nov 11 2026. No macro, syntax, notation, axiom, sorry.
-/
import Derived.Test.YtkebfepkepnlkaaChecked
import GoSem.Claim
import GoSem.ClaimJoined
import GoSem.ClaimMapViews
import Derived.JoinedTies
import Derived.KernelRfl
namespace Go.Proofs.Ytkebfepkepnlkaa
/- THE CELL 'sum', in the pinned program and in every row, IS THE sha256 OF THE DUMP (.gsa) THAT YtkebfepkepnlkaaProg.lean LOADS. Nothing in Lean hashes anything: it is a label: what it is worth is what the hold of that sum in a sandbox is worth. -/
noncomputable def Try.pinned : Pinned := { name := "ytkebfepkepnlkaa", sum := "bc509a033dda61351412ca2d2b92d5b573a52be0fc195ff05a89672c4541f78e", checked := Try.checked }
namespace Rows
def none {H : Type} : Left H := { results := [], args := [] }

/-- 'tscodeclaw08.BitpackForms': WHATEVER THE INPUT: true; the input reads as it did. -/
def bitpackFormsSpec : ChangeSpec := { name := "bitpackForms", fn := fun _ => fun
  | [d1, d2, d3, d4] => { results := [.lit (.bool true)], args := [d1, d2, d3, d4] }
  | _ => none }
def bitpackFormsRow : OpenClaim := { program := "ytkebfepkepnlkaa", sum := "bc509a033dda61351412ca2d2b92d5b573a52be0fc195ff05a89672c4541f78e", func := "tscodec/tscodeclaw08.BitpackForms", spec := "bitpackForms", apart := false }
def BitpackFormsSaid : Prop := bitpackFormsRow.holds Try.pinned (OpenSpec.ofChange bitpackFormsSpec)

/-- ITS FALSE NEIGHBOUR: 'it returns false'. Refute it at one input. -/
def bitpackFormsWrong : ChangeSpec := { name := "bitpackForms", fn := fun _ => fun
  | [d1, d2, d3, d4] => { results := [.lit (.bool false)], args := [d1, d2, d3, d4] }
  | _ => none }
def BitpackFormsWrongFalsely : Prop := bitpackFormsRow.holds Try.pinned (OpenSpec.ofChange bitpackFormsWrong)

/-- 'tscodeclaw08.BitpackReads': WHATEVER THE INPUT: true; the input reads as it did. -/
def bitpackReadsSpec : ChangeSpec := { name := "bitpackReads", fn := fun _ => fun
  | [d1, d2, d3, d4] => { results := [.lit (.bool true)], args := [d1, d2, d3, d4] }
  | _ => none }
def bitpackReadsRow : OpenClaim := { program := "ytkebfepkepnlkaa", sum := "bc509a033dda61351412ca2d2b92d5b573a52be0fc195ff05a89672c4541f78e", func := "tscodec/tscodeclaw08.BitpackReads", spec := "bitpackReads", apart := false }
def BitpackReadsSaid : Prop := bitpackReadsRow.holds Try.pinned (OpenSpec.ofChange bitpackReadsSpec)

/-- ITS FALSE NEIGHBOUR: 'it returns false'. Refute it at one input. -/
def bitpackReadsWrong : ChangeSpec := { name := "bitpackReads", fn := fun _ => fun
  | [d1, d2, d3, d4] => { results := [.lit (.bool false)], args := [d1, d2, d3, d4] }
  | _ => none }
def BitpackReadsWrongFalsely : Prop := bitpackReadsRow.holds Try.pinned (OpenSpec.ofChange bitpackReadsWrong)

/-- 'tscodeclaw08.BitpackBack': WHATEVER THE INPUT: true; the input reads as it did. -/
def bitpackBackSpec : ChangeSpec := { name := "bitpackBack", fn := fun _ => fun
  | [d1, d2] => { results := [.lit (.bool true)], args := [d1, d2] }
  | _ => none }
def bitpackBackRow : OpenClaim := { program := "ytkebfepkepnlkaa", sum := "bc509a033dda61351412ca2d2b92d5b573a52be0fc195ff05a89672c4541f78e", func := "tscodec/tscodeclaw08.BitpackBack", spec := "bitpackBack", apart := false }
def BitpackBackSaid : Prop := bitpackBackRow.holds Try.pinned (OpenSpec.ofChange bitpackBackSpec)

/-- ITS FALSE NEIGHBOUR: 'it returns false'. Refute it at one input. -/
def bitpackBackWrong : ChangeSpec := { name := "bitpackBack", fn := fun _ => fun
  | [d1, d2] => { results := [.lit (.bool false)], args := [d1, d2] }
  | _ => none }
def BitpackBackWrongFalsely : Prop := bitpackBackRow.holds Try.pinned (OpenSpec.ofChange bitpackBackWrong)

/-- 'tscodeclaw08.BitpackCanonical': WHATEVER THE INPUT: true; the input reads as it did. -/
def bitpackCanonicalSpec : ChangeSpec := { name := "bitpackCanonical", fn := fun _ => fun
  | [d1, d2] => { results := [.lit (.bool true)], args := [d1, d2] }
  | _ => none }
def bitpackCanonicalRow : OpenClaim := { program := "ytkebfepkepnlkaa", sum := "bc509a033dda61351412ca2d2b92d5b573a52be0fc195ff05a89672c4541f78e", func := "tscodec/tscodeclaw08.BitpackCanonical", spec := "bitpackCanonical", apart := false }
def BitpackCanonicalSaid : Prop := bitpackCanonicalRow.holds Try.pinned (OpenSpec.ofChange bitpackCanonicalSpec)

/-- ITS FALSE NEIGHBOUR: 'it returns false'. Refute it at one input. -/
def bitpackCanonicalWrong : ChangeSpec := { name := "bitpackCanonical", fn := fun _ => fun
  | [d1, d2] => { results := [.lit (.bool false)], args := [d1, d2] }
  | _ => none }
def BitpackCanonicalWrongFalsely : Prop := bitpackCanonicalRow.holds Try.pinned (OpenSpec.ofChange bitpackCanonicalWrong)

/- THE SECOND FORM. 'bulk': how many values and letters a reading holds, each counted each time it is reached (what is shared counts as often as it is met; a slice's spare places count too). A statement '..UptoSaid' is the law's where the arguments, and the package variables that the reading takes, are together of bulk at most 1048576: NARROWER than '..Said'. Prove '..Said' where nothing that the law and all that it calls make is longer than what came in: it says more and counts as full. Else prove '..UptoSaid'. A law counts once. -/
mutual
def uptoBulk {H : Type} : DataW H → Nat
  | .lit (.string bytes) => bytes.length + 1
  | .lit _ => 1
  | .nil => 1
  | .ptr d => uptoBulk d + 1
  | .slice elems spare => uptoBulkAll elems + uptoBulkAll spare + 1
  | .agg parts => uptoBulkAll parts + 1
  | .iface _ d => uptoBulk d + 1
  | .map entries => uptoBulkEntries entries + 1
  | .held _ => 1
def uptoBulkAll {H : Type} : List (DataW H) → Nat
  | [] => 0
  | d :: r => uptoBulk d + uptoBulkAll r
def uptoBulkEntries {H : Type} : List (Lit × DataW H) → Nat
  | [] => 0
  | x :: r => uptoBulkEntry x + uptoBulkEntries r
def uptoBulkEntry {H : Type} : Lit × DataW H → Nat
  | (.string bytes, d) => bytes.length + uptoBulk d + 1
  | (_, d) => uptoBulk d + 1
 end
def uptoSmall : (H : Type) → List (DataW H) → Bool := fun _ ds => decide (uptoBulkAll ds ≤ 1048576)
def OpenSpec.upto (s : _root_.Go.ChangeSpec) : _root_.Go.OpenSpec := { _root_.Go.OpenSpec.ofChange s with cond := some uptoSmall }

/-- 'tscodeclaw08.BitpackForms', WHERE WHAT IT READS IS OF BULK AT MOST 1048576: true; the input reads as it did. -/
def bitpackFormsUptoRow : OpenClaim := { program := "ytkebfepkepnlkaa", sum := "bc509a033dda61351412ca2d2b92d5b573a52be0fc195ff05a89672c4541f78e", func := "tscodec/tscodeclaw08.BitpackForms", spec := "bitpackForms", apart := false, narrowed := true }
def BitpackFormsUptoSaid : Prop := bitpackFormsUptoRow.holds Try.pinned (OpenSpec.upto bitpackFormsSpec)

/-- 'tscodeclaw08.BitpackReads', WHERE WHAT IT READS IS OF BULK AT MOST 1048576: true; the input reads as it did. -/
def bitpackReadsUptoRow : OpenClaim := { program := "ytkebfepkepnlkaa", sum := "bc509a033dda61351412ca2d2b92d5b573a52be0fc195ff05a89672c4541f78e", func := "tscodec/tscodeclaw08.BitpackReads", spec := "bitpackReads", apart := false, narrowed := true }
def BitpackReadsUptoSaid : Prop := bitpackReadsUptoRow.holds Try.pinned (OpenSpec.upto bitpackReadsSpec)

/-- 'tscodeclaw08.BitpackBack', WHERE WHAT IT READS IS OF BULK AT MOST 1048576: true; the input reads as it did. -/
def bitpackBackUptoRow : OpenClaim := { program := "ytkebfepkepnlkaa", sum := "bc509a033dda61351412ca2d2b92d5b573a52be0fc195ff05a89672c4541f78e", func := "tscodec/tscodeclaw08.BitpackBack", spec := "bitpackBack", apart := false, narrowed := true }
def BitpackBackUptoSaid : Prop := bitpackBackUptoRow.holds Try.pinned (OpenSpec.upto bitpackBackSpec)

/-- 'tscodeclaw08.BitpackCanonical', WHERE WHAT IT READS IS OF BULK AT MOST 1048576: true; the input reads as it did. -/
def bitpackCanonicalUptoRow : OpenClaim := { program := "ytkebfepkepnlkaa", sum := "bc509a033dda61351412ca2d2b92d5b573a52be0fc195ff05a89672c4541f78e", func := "tscodec/tscodeclaw08.BitpackCanonical", spec := "bitpackCanonical", apart := false, narrowed := true }
def BitpackCanonicalUptoSaid : Prop := bitpackCanonicalUptoRow.holds Try.pinned (OpenSpec.upto bitpackCanonicalSpec)

end Rows
end Go.Proofs.Ytkebfepkepnlkaa
