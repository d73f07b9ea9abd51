/-
  No cell of these rows narrows 'for every input' (looked for: loops, veiled, ifaces, maps, wideKeys, modest, calm, conditions, laid).
  DERIVED. THE GIVEN ROWS OF THIS SEAT. 4 by the template 'for every input the law returns true; each argument reads behind the call as it read before'; 0 by the template 'total and deterministic' (their statements: YtmgkcgnnfgdapaaTotals.lean).
  GIVEN WITH THE SEED: the statements are not yours to turn. If you find one false, say at which input.
  Laid BY PROGRAM, IN A SANDBOX (cutbox-rows.mjs): the forced cells as the released guide's own fill.sh prints them over the translation aae9735503b9631b… (all of the seat's roots in one cut). By AI agents, Wed Nov 11 2026. No macro, syntax, notation, axiom, sorry.
-/
import Derived.Test.YtmgkcgnnfgdapaaChecked
import GoSem.Claim
import GoSem.ClaimJoined
import GoSem.ClaimMapViews
import Derived.JoinedTies
import Derived.KernelRfl
namespace Go.Proofs.Ytmgkcgnnfgdapaa
/- THE CELL 'sum', in the pinned program and in every row, IS THE sha256 OF THE DUMP (.gsa) THAT YtmgkcgnnfgdapaaProg.lean LOADS. Nothing in Lean hashes anything: it is a label: what it is worth is what the hold of that sum in a sandbox is worth. -/
noncomputable def Try.pinned : Pinned := { name := "ytmgkcgnnfgdapaa", sum := "aae9735503b9631bfb10de8d2a0de3dc1f87521d16204694bfc23e2599ef239f", checked := Try.checked }
namespace Rows
def none {H : Type} : Left H := { results := [], args := [] }

/-- 'tscodeclaw12.SeriesForms': WHATEVER THE INPUT: true; the input reads as it did. -/
def seriesFormsSpec : ChangeSpec := { name := "seriesForms", fn := fun _ => fun
  | [d1, d2, d3, d4, d5, d6, d7, d8] => { results := [.lit (.bool true)], args := [d1, d2, d3, d4, d5, d6, d7, d8] }
  | _ => none }
def seriesFormsRow : OpenClaim := { program := "ytmgkcgnnfgdapaa", sum := "aae9735503b9631bfb10de8d2a0de3dc1f87521d16204694bfc23e2599ef239f", func := "tscodec/tscodeclaw12.SeriesForms", spec := "seriesForms", unfollowed := true, recurses := true, apart := false }
def SeriesFormsSaid : Prop := seriesFormsRow.holds Try.pinned (OpenSpec.ofChange seriesFormsSpec)

/-- ITS FALSE NEIGHBOUR: 'it returns false'. Refute it at one input. -/
def seriesFormsWrong : ChangeSpec := { name := "seriesForms", fn := fun _ => fun
  | [d1, d2, d3, d4, d5, d6, d7, d8] => { results := [.lit (.bool false)], args := [d1, d2, d3, d4, d5, d6, d7, d8] }
  | _ => none }
def SeriesFormsWrongFalsely : Prop := seriesFormsRow.holds Try.pinned (OpenSpec.ofChange seriesFormsWrong)

/-- 'tscodeclaw12.SeriesCuts': WHATEVER THE INPUT: true; the input reads as it did. -/
def seriesCutsSpec : ChangeSpec := { name := "seriesCuts", fn := fun _ => fun
  | [d1, d2, d3, d4] => { results := [.lit (.bool true)], args := [d1, d2, d3, d4] }
  | _ => none }
def seriesCutsRow : OpenClaim := { program := "ytmgkcgnnfgdapaa", sum := "aae9735503b9631bfb10de8d2a0de3dc1f87521d16204694bfc23e2599ef239f", func := "tscodec/tscodeclaw12.SeriesCuts", spec := "seriesCuts", unfollowed := true, recurses := true, apart := false }
def SeriesCutsSaid : Prop := seriesCutsRow.holds Try.pinned (OpenSpec.ofChange seriesCutsSpec)

/-- ITS FALSE NEIGHBOUR: 'it returns false'. Refute it at one input. -/
def seriesCutsWrong : ChangeSpec := { name := "seriesCuts", fn := fun _ => fun
  | [d1, d2, d3, d4] => { results := [.lit (.bool false)], args := [d1, d2, d3, d4] }
  | _ => none }
def SeriesCutsWrongFalsely : Prop := seriesCutsRow.holds Try.pinned (OpenSpec.ofChange seriesCutsWrong)

/-- 'tscodeclaw12.SeriesParts': WHATEVER THE INPUT: true; the input reads as it did. -/
def seriesPartsSpec : ChangeSpec := { name := "seriesParts", fn := fun _ => fun
  | [d1, d2] => { results := [.lit (.bool true)], args := [d1, d2] }
  | _ => none }
def seriesPartsRow : OpenClaim := { program := "ytmgkcgnnfgdapaa", sum := "aae9735503b9631bfb10de8d2a0de3dc1f87521d16204694bfc23e2599ef239f", func := "tscodec/tscodeclaw12.SeriesParts", spec := "seriesParts", unfollowed := true, recurses := true, apart := false }
def SeriesPartsSaid : Prop := seriesPartsRow.holds Try.pinned (OpenSpec.ofChange seriesPartsSpec)

/-- ITS FALSE NEIGHBOUR: 'it returns false'. Refute it at one input. -/
def seriesPartsWrong : ChangeSpec := { name := "seriesParts", fn := fun _ => fun
  | [d1, d2] => { results := [.lit (.bool false)], args := [d1, d2] }
  | _ => none }
def SeriesPartsWrongFalsely : Prop := seriesPartsRow.holds Try.pinned (OpenSpec.ofChange seriesPartsWrong)

/-- 'tscodeclaw12.SeriesRanges': WHATEVER THE INPUT: true; the input reads as it did. -/
def seriesRangesSpec : ChangeSpec := { name := "seriesRanges", fn := fun _ => fun
  | [d1, d2, d3] => { results := [.lit (.bool true)], args := [d1, d2, d3] }
  | _ => none }
def seriesRangesRow : OpenClaim := { program := "ytmgkcgnnfgdapaa", sum := "aae9735503b9631bfb10de8d2a0de3dc1f87521d16204694bfc23e2599ef239f", func := "tscodec/tscodeclaw12.SeriesRanges", spec := "seriesRanges", unfollowed := true, recurses := true, apart := false }
def SeriesRangesSaid : Prop := seriesRangesRow.holds Try.pinned (OpenSpec.ofChange seriesRangesSpec)

/-- ITS FALSE NEIGHBOUR: 'it returns false'. Refute it at one input. -/
def seriesRangesWrong : ChangeSpec := { name := "seriesRanges", fn := fun _ => fun
  | [d1, d2, d3] => { results := [.lit (.bool false)], args := [d1, d2, d3] }
  | _ => none }
def SeriesRangesWrongFalsely : Prop := seriesRangesRow.holds Try.pinned (OpenSpec.ofChange seriesRangesWrong)

/- THE SECOND FORM. 'bulk': how many values and letters a reading holds, each counted each time it is reached (what is shared counts as often as it is met; a slice's spare places count too). A statement '..UptoSaid' is the law's where the arguments, and the package variables that the reading takes, are together of bulk at most 1048576: NARROWER than '..Said'. Prove '..Said' where nothing that the law and all that it calls make is longer than what came in: it says more and counts as full. Else prove '..UptoSaid'. A law counts once. -/
mutual
def uptoBulk {H : Type} : DataW H → Nat
  | .lit (.string bytes) => bytes.length + 1
  | .lit _ => 1
  | .nil => 1
  | .ptr d => uptoBulk d + 1
  | .slice elems spare => uptoBulkAll elems + uptoBulkAll spare + 1
  | .agg parts => uptoBulkAll parts + 1
  | .iface _ d => uptoBulk d + 1
  | .map entries => uptoBulkEntries entries + 1
  | .held _ => 1
def uptoBulkAll {H : Type} : List (DataW H) → Nat
  | [] => 0
  | d :: r => uptoBulk d + uptoBulkAll r
def uptoBulkEntries {H : Type} : List (Lit × DataW H) → Nat
  | [] => 0
  | x :: r => uptoBulkEntry x + uptoBulkEntries r
def uptoBulkEntry {H : Type} : Lit × DataW H → Nat
  | (.string bytes, d) => bytes.length + uptoBulk d + 1
  | (_, d) => uptoBulk d + 1
 end
def uptoSmall : (H : Type) → List (DataW H) → Bool := fun _ ds => decide (uptoBulkAll ds ≤ 1048576)
def OpenSpec.upto (s : _root_.Go.ChangeSpec) : _root_.Go.OpenSpec := { _root_.Go.OpenSpec.ofChange s with cond := some uptoSmall }

/-- 'tscodeclaw12.SeriesForms', WHERE WHAT IT READS IS OF BULK AT MOST 1048576: true; the input reads as it did. -/
def seriesFormsUptoRow : OpenClaim := { program := "ytmgkcgnnfgdapaa", sum := "aae9735503b9631bfb10de8d2a0de3dc1f87521d16204694bfc23e2599ef239f", func := "tscodec/tscodeclaw12.SeriesForms", spec := "seriesForms", unfollowed := true, recurses := true, apart := false, narrowed := true }
def SeriesFormsUptoSaid : Prop := seriesFormsUptoRow.holds Try.pinned (OpenSpec.upto seriesFormsSpec)

/-- 'tscodeclaw12.SeriesCuts', WHERE WHAT IT READS IS OF BULK AT MOST 1048576: true; the input reads as it did. -/
def seriesCutsUptoRow : OpenClaim := { program := "ytmgkcgnnfgdapaa", sum := "aae9735503b9631bfb10de8d2a0de3dc1f87521d16204694bfc23e2599ef239f", func := "tscodec/tscodeclaw12.SeriesCuts", spec := "seriesCuts", unfollowed := true, recurses := true, apart := false, narrowed := true }
def SeriesCutsUptoSaid : Prop := seriesCutsUptoRow.holds Try.pinned (OpenSpec.upto seriesCutsSpec)

/-- 'tscodeclaw12.SeriesParts', WHERE WHAT IT READS IS OF BULK AT MOST 1048576: true; the input reads as it did. -/
def seriesPartsUptoRow : OpenClaim := { program := "ytmgkcgnnfgdapaa", sum := "aae9735503b9631bfb10de8d2a0de3dc1f87521d16204694bfc23e2599ef239f", func := "tscodec/tscodeclaw12.SeriesParts", spec := "seriesParts", unfollowed := true, recurses := true, apart := false, narrowed := true }
def SeriesPartsUptoSaid : Prop := seriesPartsUptoRow.holds Try.pinned (OpenSpec.upto seriesPartsSpec)

/-- 'tscodeclaw12.SeriesRanges', WHERE WHAT IT READS IS OF BULK AT MOST 1048576: true; the input reads as it did. -/
def seriesRangesUptoRow : OpenClaim := { program := "ytmgkcgnnfgdapaa", sum := "aae9735503b9631bfb10de8d2a0de3dc1f87521d16204694bfc23e2599ef239f", func := "tscodec/tscodeclaw12.SeriesRanges", spec := "seriesRanges", unfollowed := true, recurses := true, apart := false, narrowed := true }
def SeriesRangesUptoSaid : Prop := seriesRangesUptoRow.holds Try.pinned (OpenSpec.upto seriesRangesSpec)

end Rows
end Go.Proofs.Ytmgkcgnnfgdapaa
