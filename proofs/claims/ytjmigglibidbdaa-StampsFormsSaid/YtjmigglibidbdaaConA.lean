/- '[]byte("..")' of a constant. No condition. -/
import Derived.Test.YtjmigglibidbdaaByB
namespace Go.Proofs.Ytjmigglibidbdaa
set_option linter.unusedVariables false
set_option linter.unusedSimpArgs false
open Go Go.RowKit
theorem conv_lit (w : World) (g n : Nat) (cs : Array Value) (hg : w.heap[g]? = some (.cells cs 5 (0, 0))) : (convert 29 29 (.slice (some ⟨g, 0, none⟩) n n)).run Try.prog w = .ok (.slice (some ⟨g, 0, none⟩) n n) (w.freeze ⟨g, cs.size, none⟩ 1) := by
  simp [convert, run_underlying Try.underlying29, run_underlying Try.underlying5, markStringish, World.shape?, hg]
theorem freeze_size (w : World) (a : Addr) : (w.freeze a 1).heap.size = w.heap.size := by unfold World.freeze; simp
theorem freeze_other (w : World) (a : Addr) (k : Nat) (h : k ≠ a.block) : (w.freeze a 1).heap[k]? = w.heap[k]? := by
  unfold World.freeze
  simp only [Nat.one_ne_zero, if_false]
  rw [Array.getElem?_modify, if_neg (fun e => h e.symm)]
theorem freeze_cell (w : World) (a : Addr) (p : Addr) : (w.freeze a 1).cell? p = w.cell? p := by
  unfold World.freeze World.cell?
  simp only [Nat.one_ne_zero, if_false]
  rw [Array.getElem?_modify]
  by_cases h : a.block = p.block
  · rw [if_pos h]
    cases hb : w.heap[p.block]? with
    | none => rfl
    | some o => cases o <;> rfl
  · rw [if_neg h]
theorem below_freeze {W w : World} {a : Addr} (h : Below W.heap.size W w) (ha : W.heap.size ≤ a.block) : Below W.heap.size W (w.freeze a 1) := by
  refine ⟨?_, ?_, ?_, by rw [freeze_size]; exact h.size, fun k hk => by rw [freeze_other _ _ _ (by omega)]; exact h.block k hk⟩
  · rw [← h.os]; unfold World.freeze; simp
  · rw [← h.tape]; unfold World.freeze; simp
  · rw [← h.output]; unfold World.freeze; simp
theorem BytesAt.freeze {w : World} {A : Option Addr} {l : List Nat} (h : BytesAt w A l) (a : Addr) : BytesAt (w.freeze a 1) A l :=
  ⟨h.1, h.2.1, fun hp => by
    obtain ⟨b, off, hA, hb, hc⟩ := h.2.2 hp
    exact ⟨b, off, hA, by rw [freeze_size]; exact hb, fun j hj => (freeze_cell _ _ _).trans (hc j hj)⟩⟩
end Go.Proofs.Ytjmigglibidbdaa
