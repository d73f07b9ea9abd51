/- A tape beside other memory. No condition. -/
import Derived.Test.YtjmigglibidbdaaTapeB
namespace Go.Proofs.Ytjmigglibidbdaa
set_option linter.unusedVariables false
set_option linter.unusedSimpArgs false
open Go Go.RowKit
theorem TapeOk.store {B b g k : Nat} {w : World} (h : TapeOk B w b) (hg : b < g) (u : Value) : TapeOk B (w.setCell ⟨g, k, none⟩ u) b := h.below ((Below.refl _ _).setCell (p := ⟨g, k, none⟩) hg u)
theorem TapeOk.alloc {B b : Nat} {w : World} (h : TapeOk B w b) (o : Obj) : TapeOk B (w.alloc o) b := h.below ((Below.refl _ _).alloc h.2.1 o)
theorem TapeOk.ext {B b : Nat} {w w' : World} (h : TapeOk B w b) (k : Ext w w') : TapeOk B w' b := h.below (Below.mono k h.2.1)
theorem Upd.store {b g k : Nat} {W w : World} (h : Upd b W w) (hg : W.heap.size ≤ g) (u : Value) : Upd b W (w.setCell ⟨g, k, none⟩ u) :=
  ⟨h.1, h.2.1, h.2.2.1, by simpa [World.setCell] using h.2.2.2.1, fun i hi hn => (heap_setCell_other w ⟨g, k, none⟩ i u (by simp; omega)).trans (h.2.2.2.2 i hi hn)⟩
theorem Upd.more {b : Nat} {W w w' : World} (h : Upd b W w) (k : Ext w w') : Upd b W w' := h.trans (k.upd b)
theorem IsList.ext {w w' : World} {a : Option Addr} {len cap : Nat} (h : IsList w a len cap) (k : Ext w w') : IsList w' a len cap := by
  obtain ⟨h1, h2⟩ := h
  refine ⟨h1, ?_⟩
  rcases h2 with h2 | ⟨xb, xo, e, hb, hl, hc⟩
  · exact Or.inl h2
  · refine Or.inr ⟨xb, xo, e, Nat.lt_of_lt_of_le hb k.size, hl, fun i hi => ?_⟩
    obtain ⟨v, hv, cv⟩ := hc i hi
    exact ⟨v, hv, (k.cell (p := ⟨xb, xo + i, none⟩) hb).trans cv⟩
end Go.Proofs.Ytjmigglibidbdaa
