/- Layer 9: NumbersCanonical. Conditions: the slices read as bytes and numbers. -/
import Derived.Test.YtjmigglibidbdaaLwNr
import Derived.Deep.RegionHeld3
namespace Go.Proofs.Ytjmigglibidbdaa
set_option linter.unusedVariables false
set_option linter.unusedSimpArgs false
open Go Go.RowKit
theorem idxBB (g N cap j : Nat) (h : j < N) (w : World) : (Instr.indexAt 46 (.slice (some ⟨g, 0, none⟩) N cap) (.int .i64 (j : Int))).run Try.prog w = .ok (.pointer (some ⟨g, j, none⟩)) w := by
  have hz := Try.sizeOf29
  have he : Try.prog.elem 46 = 29 := by kernel_rfl
  have hr := run_indexAt_slice (P := Try.prog) (w := w) 46 ⟨g, 0, none⟩ N cap .i64 (j : Int) (by kernel_rfl)
  rw [hr, if_pos ⟨by omega, by omega⟩, he, hz]
  simp [Result.andThen, add_at]
theorem idxII (g N cap j : Nat) (h : j < N) (w : World) : (Instr.indexAt 23 (.slice (some ⟨g, 0, none⟩) N cap) (.int .i64 (j : Int))).run Try.prog w = .ok (.pointer (some ⟨g, j, none⟩)) w := by
  have hz := Try.sizeOf3
  have he : Try.prog.elem 23 = 3 := by kernel_rfl
  have hr := run_indexAt_slice (P := Try.prog) (w := w) 23 ⟨g, 0, none⟩ N cap .i64 (j : Int) (by kernel_rfl)
  rw [hr, if_pos ⟨by omega, by omega⟩, he, hz]
  simp [Result.andThen, add_at]
end Go.Proofs.Ytjmigglibidbdaa
