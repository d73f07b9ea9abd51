/-
  No cell of these rows narrows 'for every input' (looked for: loops, veiled, ifaces, maps, wideKeys, modest, calm, conditions, laid).
  DERIVED. THE GIVEN ROWS OF THIS SEAT. 5 by the template 'for every input the law returns true; each argument reads behind the call as it read before'; 0 by the template 'total and deterministic' (their statements: YtojbopibfflnoaaGreatTotals.lean).
  GIVEN WITH THE SEED: the statements are not yours to turn. If you find one false, say at which input.
  Laid BY PROGRAM, IN A SANDBOX (cutbox-rows.mjs): the forced cells as the released guide's own fill.sh prints them over the translation 071630b6a5ce1253… (all of the seat's roots in one cut). By AI agents, Wed Nov 11 2026. No macro, syntax, notation, axiom, sorry.
-/
import Derived.Test.YtojbopibfflnoaaGreatChecked
import GoSem.Claim
import GoSem.ClaimJoined
import GoSem.ClaimMapViews
import Derived.JoinedTies
import Derived.KernelRfl
namespace Go.Proofs.YtojbopibfflnoaaGreat
/- THE CELL 'sum', in the pinned program and in every row, IS THE sha256 OF THE DUMP (.gsa) THAT YtojbopibfflnoaaGreatProg.lean LOADS. Nothing in Lean hashes anything: it is a label: what it is worth is what the hold of that sum in a sandbox is worth. -/
noncomputable def Tryz.pinned : Pinned := { name := "ytojbopibfflnoaagreat", sum := "071630b6a5ce125341715340531ea096097010d01fb62c06e824724938bef686", checked := Tryz.checked }
namespace Rows
def none {H : Type} : Left H := { results := [], args := [] }

/-- 'tscodeclaw14.SwingForms': WHATEVER THE INPUT: true; the input reads as it did. -/
def swingFormsSpec : ChangeSpec := { name := "swingForms", fn := fun _ => fun
  | [d1, d2, d3, d4] => { results := [.lit (.bool true)], args := [d1, d2, d3, d4] }
  | _ => none }
def swingFormsRow : OpenClaim := { program := "ytojbopibfflnoaagreat", sum := "071630b6a5ce125341715340531ea096097010d01fb62c06e824724938bef686", func := "tscodec/tscodeclaw14.SwingForms", spec := "swingForms", inPlace := ["math/bits.Sub64", "math/bits.Add64"], unfollowed := true, recurses := true, named := ["math/bits.divideError", "math/bits.overflowError"], apart := false }
def SwingFormsSaid : Prop := swingFormsRow.holds Tryz.pinned (OpenSpec.ofChange swingFormsSpec)

/-- ITS FALSE NEIGHBOUR: 'it returns false'. Refute it at one input. -/
def swingFormsWrong : ChangeSpec := { name := "swingForms", fn := fun _ => fun
  | [d1, d2, d3, d4] => { results := [.lit (.bool false)], args := [d1, d2, d3, d4] }
  | _ => none }
def SwingFormsWrongFalsely : Prop := swingFormsRow.holds Tryz.pinned (OpenSpec.ofChange swingFormsWrong)

/-- 'tscodeclaw14.SwingAlls': WHATEVER THE INPUT: true; the input reads as it did. -/
def swingAllsSpec : ChangeSpec := { name := "swingAlls", fn := fun _ => fun
  | [d1, d2, d3] => { results := [.lit (.bool true)], args := [d1, d2, d3] }
  | _ => none }
def swingAllsRow : OpenClaim := { program := "ytojbopibfflnoaagreat", sum := "071630b6a5ce125341715340531ea096097010d01fb62c06e824724938bef686", func := "tscodec/tscodeclaw14.SwingAlls", spec := "swingAlls", inPlace := ["math/bits.Add64", "math/bits.Sub64"], unfollowed := true, recurses := true, named := ["math/bits.divideError", "math/bits.overflowError"], apart := false }
def SwingAllsSaid : Prop := swingAllsRow.holds Tryz.pinned (OpenSpec.ofChange swingAllsSpec)

/-- ITS FALSE NEIGHBOUR: 'it returns false'. Refute it at one input. -/
def swingAllsWrong : ChangeSpec := { name := "swingAlls", fn := fun _ => fun
  | [d1, d2, d3] => { results := [.lit (.bool false)], args := [d1, d2, d3] }
  | _ => none }
def SwingAllsWrongFalsely : Prop := swingAllsRow.holds Tryz.pinned (OpenSpec.ofChange swingAllsWrong)

/-- 'tscodeclaw14.SwingWithin': WHATEVER THE INPUT: true; the input reads as it did. -/
def swingWithinSpec : ChangeSpec := { name := "swingWithin", fn := fun _ => fun
  | [d] => { results := [.lit (.bool true)], args := [d] }
  | _ => none }
def swingWithinRow : OpenClaim := { program := "ytojbopibfflnoaagreat", sum := "071630b6a5ce125341715340531ea096097010d01fb62c06e824724938bef686", func := "tscodec/tscodeclaw14.SwingWithin", spec := "swingWithin", inPlace := ["math/bits.Add64", "math/bits.Sub64"], unfollowed := true, recurses := true, named := ["math/bits.divideError", "math/bits.overflowError"], apart := false }
def SwingWithinSaid : Prop := swingWithinRow.holds Tryz.pinned (OpenSpec.ofChange swingWithinSpec)

/-- ITS FALSE NEIGHBOUR: 'it returns false'. Refute it at one input. -/
def swingWithinWrong : ChangeSpec := { name := "swingWithin", fn := fun _ => fun
  | [d] => { results := [.lit (.bool false)], args := [d] }
  | _ => none }
def SwingWithinWrongFalsely : Prop := swingWithinRow.holds Tryz.pinned (OpenSpec.ofChange swingWithinWrong)

/-- 'tscodeclaw14.SwingMaximal': WHATEVER THE INPUT: true; the input reads as it did. -/
def swingMaximalSpec : ChangeSpec := { name := "swingMaximal", fn := fun _ => fun
  | [d] => { results := [.lit (.bool true)], args := [d] }
  | _ => none }
def swingMaximalRow : OpenClaim := { program := "ytojbopibfflnoaagreat", sum := "071630b6a5ce125341715340531ea096097010d01fb62c06e824724938bef686", func := "tscodec/tscodeclaw14.SwingMaximal", spec := "swingMaximal", inPlace := ["math/bits.Add64", "math/bits.Sub64"], unfollowed := true, recurses := true, named := ["math/bits.divideError", "math/bits.overflowError"], apart := false }
def SwingMaximalSaid : Prop := swingMaximalRow.holds Tryz.pinned (OpenSpec.ofChange swingMaximalSpec)

/-- ITS FALSE NEIGHBOUR: 'it returns false'. Refute it at one input. -/
def swingMaximalWrong : ChangeSpec := { name := "swingMaximal", fn := fun _ => fun
  | [d] => { results := [.lit (.bool false)], args := [d] }
  | _ => none }
def SwingMaximalWrongFalsely : Prop := swingMaximalRow.holds Tryz.pinned (OpenSpec.ofChange swingMaximalWrong)

/-- 'tscodeclaw14.SwingSimplest': WHATEVER THE INPUT: true; the input reads as it did. -/
def swingSimplestSpec : ChangeSpec := { name := "swingSimplest", fn := fun _ => fun
  | [d] => { results := [.lit (.bool true)], args := [d] }
  | _ => none }
def swingSimplestRow : OpenClaim := { program := "ytojbopibfflnoaagreat", sum := "071630b6a5ce125341715340531ea096097010d01fb62c06e824724938bef686", func := "tscodec/tscodeclaw14.SwingSimplest", spec := "swingSimplest", inPlace := ["math/bits.Add64", "math/bits.Sub64"], unfollowed := true, recurses := true, named := ["math/bits.divideError", "math/bits.overflowError"], apart := false }
def SwingSimplestSaid : Prop := swingSimplestRow.holds Tryz.pinned (OpenSpec.ofChange swingSimplestSpec)

/-- ITS FALSE NEIGHBOUR: 'it returns false'. Refute it at one input. -/
def swingSimplestWrong : ChangeSpec := { name := "swingSimplest", fn := fun _ => fun
  | [d] => { results := [.lit (.bool false)], args := [d] }
  | _ => none }
def SwingSimplestWrongFalsely : Prop := swingSimplestRow.holds Tryz.pinned (OpenSpec.ofChange swingSimplestWrong)

/- THE SECOND FORM. 'bulk': how many values and letters a reading holds, each counted each time it is reached (what is shared counts as often as it is met; a slice's spare places count too). A statement '..UptoSaid' is the law's where the arguments, and the package variables that the reading takes, are together of bulk at most 1048576: NARROWER than '..Said'. Prove '..Said' where nothing that the law and all that it calls make is longer than what came in: it says more and counts as full. Else prove '..UptoSaid'. A law counts once. -/
mutual
def uptoBulk {H : Type} : DataW H → Nat
  | .lit (.string bytes) => bytes.length + 1
  | .lit _ => 1
  | .nil => 1
  | .ptr d => uptoBulk d + 1
  | .slice elems spare => uptoBulkAll elems + uptoBulkAll spare + 1
  | .agg parts => uptoBulkAll parts + 1
  | .iface _ d => uptoBulk d + 1
  | .map entries => uptoBulkEntries entries + 1
  | .held _ => 1
def uptoBulkAll {H : Type} : List (DataW H) → Nat
  | [] => 0
  | d :: r => uptoBulk d + uptoBulkAll r
def uptoBulkEntries {H : Type} : List (Lit × DataW H) → Nat
  | [] => 0
  | x :: r => uptoBulkEntry x + uptoBulkEntries r
def uptoBulkEntry {H : Type} : Lit × DataW H → Nat
  | (.string bytes, d) => bytes.length + uptoBulk d + 1
  | (_, d) => uptoBulk d + 1
 end
def uptoSmall : (H : Type) → List (DataW H) → Bool := fun _ ds => decide (uptoBulkAll ds ≤ 1048576)
def OpenSpec.upto (s : _root_.Go.ChangeSpec) : _root_.Go.OpenSpec := { _root_.Go.OpenSpec.ofChange s with cond := some uptoSmall }

/-- 'tscodeclaw14.SwingForms', WHERE WHAT IT READS IS OF BULK AT MOST 1048576: true; the input reads as it did. -/
def swingFormsUptoRow : OpenClaim := { program := "ytojbopibfflnoaagreat", sum := "071630b6a5ce125341715340531ea096097010d01fb62c06e824724938bef686", func := "tscodec/tscodeclaw14.SwingForms", spec := "swingForms", inPlace := ["math/bits.Sub64", "math/bits.Add64"], unfollowed := true, recurses := true, named := ["math/bits.divideError", "math/bits.overflowError"], apart := false, narrowed := true }
def SwingFormsUptoSaid : Prop := swingFormsUptoRow.holds Tryz.pinned (OpenSpec.upto swingFormsSpec)

/-- 'tscodeclaw14.SwingAlls', WHERE WHAT IT READS IS OF BULK AT MOST 1048576: true; the input reads as it did. -/
def swingAllsUptoRow : OpenClaim := { program := "ytojbopibfflnoaagreat", sum := "071630b6a5ce125341715340531ea096097010d01fb62c06e824724938bef686", func := "tscodec/tscodeclaw14.SwingAlls", spec := "swingAlls", inPlace := ["math/bits.Add64", "math/bits.Sub64"], unfollowed := true, recurses := true, named := ["math/bits.divideError", "math/bits.overflowError"], apart := false, narrowed := true }
def SwingAllsUptoSaid : Prop := swingAllsUptoRow.holds Tryz.pinned (OpenSpec.upto swingAllsSpec)

/-- 'tscodeclaw14.SwingWithin', WHERE WHAT IT READS IS OF BULK AT MOST 1048576: true; the input reads as it did. -/
def swingWithinUptoRow : OpenClaim := { program := "ytojbopibfflnoaagreat", sum := "071630b6a5ce125341715340531ea096097010d01fb62c06e824724938bef686", func := "tscodec/tscodeclaw14.SwingWithin", spec := "swingWithin", inPlace := ["math/bits.Add64", "math/bits.Sub64"], unfollowed := true, recurses := true, named := ["math/bits.divideError", "math/bits.overflowError"], apart := false, narrowed := true }
def SwingWithinUptoSaid : Prop := swingWithinUptoRow.holds Tryz.pinned (OpenSpec.upto swingWithinSpec)

/-- 'tscodeclaw14.SwingMaximal', WHERE WHAT IT READS IS OF BULK AT MOST 1048576: true; the input reads as it did. -/
def swingMaximalUptoRow : OpenClaim := { program := "ytojbopibfflnoaagreat", sum := "071630b6a5ce125341715340531ea096097010d01fb62c06e824724938bef686", func := "tscodec/tscodeclaw14.SwingMaximal", spec := "swingMaximal", inPlace := ["math/bits.Add64", "math/bits.Sub64"], unfollowed := true, recurses := true, named := ["math/bits.divideError", "math/bits.overflowError"], apart := false, narrowed := true }
def SwingMaximalUptoSaid : Prop := swingMaximalUptoRow.holds Tryz.pinned (OpenSpec.upto swingMaximalSpec)

/-- 'tscodeclaw14.SwingSimplest', WHERE WHAT IT READS IS OF BULK AT MOST 1048576: true; the input reads as it did. -/
def swingSimplestUptoRow : OpenClaim := { program := "ytojbopibfflnoaagreat", sum := "071630b6a5ce125341715340531ea096097010d01fb62c06e824724938bef686", func := "tscodec/tscodeclaw14.SwingSimplest", spec := "swingSimplest", inPlace := ["math/bits.Add64", "math/bits.Sub64"], unfollowed := true, recurses := true, named := ["math/bits.divideError", "math/bits.overflowError"], apart := false, narrowed := true }
def SwingSimplestUptoSaid : Prop := swingSimplestUptoRow.holds Tryz.pinned (OpenSpec.upto swingSimplestSpec)

end Rows
end Go.Proofs.YtojbopibfflnoaaGreat
