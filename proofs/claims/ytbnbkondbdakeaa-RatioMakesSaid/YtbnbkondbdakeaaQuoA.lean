/- A Wide that a statement leaves in new memory, whatever order the statement takes. No condition. -/
import Derived.Test.YtbnbkondbdakeaaEqs
import Derived.Test.YtbnbkondbdakeaaMag1
namespace Go.Proofs.Ytbnbkondbdakeaa
set_option linter.unusedVariables false
set_option linter.unusedSimpArgs false
open Go Go.RowKit
/-- p shows a new block that holds the number z; the elder blocks are as they were. -/
def Quot (B : World) (z : Int) (p : Value) (wx : World) : Prop := ∃ g s a b c d, p = .pointer (some ⟨g, 0, none⟩) ∧ IsC s a b c d z ∧ Box wx g s a b c d ∧ B.heap.size ≤ g ∧ Ext B wx
section
variable {B U : World} {z : Int} {s : Bool} {a b c d : Nat} {o : Obj} {u0 u1 u2 u3 u4 : Value} {g g' : Nat}
theorem quo0 (hC : IsC s a b c d z) (hE : Ext B U) : Quot B z (.pointer (some ⟨U.heap.size, 0, none⟩)) ((U.alloc (.cells #[.bool s, .int .u64 (a : Int), .int .u64 (b : Int), .int .u64 (c : Int), .int .u64 (d : Int)] 25)).alloc o) :=
  ⟨_, s, a, b, c, d, rfl, hC, (Box.new U s a b c d).ext (ext_alloc _ _), hE.size, (hE.al _).al _⟩
theorem quo0' (hC : IsC s a b c d z) (hE : Ext B U) : Quot B z (.pointer (some ⟨U.heap.size + 1, 0, none⟩)) ((U.alloc o).alloc (.cells #[.bool s, .int .u64 (a : Int), .int .u64 (b : Int), .int .u64 (c : Int), .int .u64 (d : Int)] 25)) :=
  ⟨_, s, a, b, c, d, rfl, hC, (two_blocks U _ _).2, Nat.le_succ_of_le hE.size, (hE.al _).al _⟩
theorem quo1 (hC : IsC s a b c d z) (hE : Ext B U) (hz : Box U g false 0 0 0 0) (h1 : B.heap.size ≤ g) : Quot B z (.pointer (some ⟨g, 0, none⟩)) ((((((U.setCell ⟨g, 0, none⟩ (.bool s)).setCell ⟨g, 1, none⟩ (.int .u64 (a : Int))).setCell ⟨g, 2, none⟩ (.int .u64 (b : Int))).setCell ⟨g, 3, none⟩ (.int .u64 (c : Int))).setCell ⟨g, 4, none⟩ (.int .u64 (d : Int))).alloc o) :=
  ⟨_, s, a, b, c, d, rfl, hC, (hz.put).ext (ext_alloc _ _), h1, (ext_five hE h1 _ _ _ _ _).al _⟩
theorem quo1' (hC : IsC s a b c d z) (hE : Ext B U) (h1 : B.heap.size ≤ g) : Quot B z (.pointer (some ⟨U.heap.size, 0, none⟩)) ((((((U.setCell ⟨g, 0, none⟩ u0).setCell ⟨g, 1, none⟩ u1).setCell ⟨g, 2, none⟩ u2).setCell ⟨g, 3, none⟩ u3).setCell ⟨g, 4, none⟩ u4).alloc (.cells #[.bool s, .int .u64 (a : Int), .int .u64 (b : Int), .int .u64 (c : Int), .int .u64 (d : Int)] 25)) := by
  have h := Box.new (((((U.setCell ⟨g, 0, none⟩ u0).setCell ⟨g, 1, none⟩ u1).setCell ⟨g, 2, none⟩ u2).setCell ⟨g, 3, none⟩ u3).setCell ⟨g, 4, none⟩ u4) s a b c d
  simp only [World.size_setCell] at h
  exact ⟨_, s, a, b, c, d, rfl, hC, h, hE.size, (ext_five hE h1 _ _ _ _ _).al _⟩
theorem quo2 (hC : IsC s a b c d z) (hE : Ext B U) (hz : Box U g false 0 0 0 0) (h1 : B.heap.size ≤ g) (h2 : B.heap.size ≤ g') (hn : g ≠ g') : Quot B z (.pointer (some ⟨g, 0, none⟩)) ((((((((((U.setCell ⟨g, 0, none⟩ (.bool s)).setCell ⟨g, 1, none⟩ (.int .u64 (a : Int))).setCell ⟨g, 2, none⟩ (.int .u64 (b : Int))).setCell ⟨g, 3, none⟩ (.int .u64 (c : Int))).setCell ⟨g, 4, none⟩ (.int .u64 (d : Int))).setCell ⟨g', 0, none⟩ u0).setCell ⟨g', 1, none⟩ u1).setCell ⟨g', 2, none⟩ u2).setCell ⟨g', 3, none⟩ u3).setCell ⟨g', 4, none⟩ u4) :=
  ⟨_, s, a, b, c, d, rfl, hC, (hz.put).far hn _ _ _ _ _, h1, ext_five (ext_five hE h1 _ _ _ _ _) h2 _ _ _ _ _⟩
theorem one0 (hC : IsC s a b c d z) (hE : Ext B U) : Quot B z (.pointer (some ⟨U.heap.size, 0, none⟩)) (U.alloc (.cells #[.bool s, .int .u64 (a : Int), .int .u64 (b : Int), .int .u64 (c : Int), .int .u64 (d : Int)] 25)) :=
  ⟨_, s, a, b, c, d, rfl, hC, Box.new U s a b c d, hE.size, hE.al _⟩
theorem one1 (hC : IsC s a b c d z) (hE : Ext B U) (hz : Box U g false 0 0 0 0) (h1 : B.heap.size ≤ g) : Quot B z (.pointer (some ⟨g, 0, none⟩)) (((((U.setCell ⟨g, 0, none⟩ (.bool s)).setCell ⟨g, 1, none⟩ (.int .u64 (a : Int))).setCell ⟨g, 2, none⟩ (.int .u64 (b : Int))).setCell ⟨g, 3, none⟩ (.int .u64 (c : Int))).setCell ⟨g, 4, none⟩ (.int .u64 (d : Int))) :=
  ⟨_, s, a, b, c, d, rfl, hC, hz.put, h1, ext_five hE h1 _ _ _ _ _⟩
end
end Go.Proofs.Ytbnbkondbdakeaa
