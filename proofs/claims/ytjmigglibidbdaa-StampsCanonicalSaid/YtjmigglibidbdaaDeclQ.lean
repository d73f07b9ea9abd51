/- The rules of wp_decl's operations; nothing of the program but its stores. No condition. -/
import Derived.Test.YtjmigglibidbdaaDecl
import Derived.Test.YtjmigglibidbdaaByA
import Derived.Lib.QuietBelow
namespace Go.Proofs.Ytjmigglibidbdaa
set_option linter.unusedVariables false
set_option linter.unusedSimpArgs false
open Go Go.RowKit
section
variable {P : Program} {C : World → Prop} {l : List Oper} {kd : List Tag} {V : List Value} {zero full : Nat → Obj} {tgt : Nat → Nat} {W : World} {A : Act} {i : Nat} {o : Oper}
theorem op_q (v : Value) (h : tagOf kd i = .q) (hv : V.getD i undef = v) (hq : ∀ w, C w → qUpon P w v ((execOp A.eval o).run P w)) : OpRule P C l kd V zero full tgt W A i o := by
  unfold OpRule; rw [h]; simp only [hv]; exact fun w hw => hq w hw.1
/-- .. that comes ahead of a store, and reads what the store will fill. -/
theorem op_qa (v : Value) (h : tagOf kd i = .q) (hv : V.getD i undef = v) (hq : ∀ w, C w → (∀ s c, tagOf kd s = .so c → anc l l.length s i = true → w.heap[tgt c]? = W.heap[tgt c]?) → qUpon P w v ((execOp A.eval o).run P w)) : OpRule P C l kd V zero full tgt W A i o := by
  unfold OpRule; rw [h]; simp only [hv]; exact fun w hw => hq w hw.1 hw.2
theorem op_al (z : Obj) (h : tagOf kd i = .al) (hz : zero i = z) (hr : ∀ (ρ : Operand → Value) (w : World), (execOp ρ o).run P w = .ok (.value (ptrTo w.heap.size)) (w.alloc z)) : OpRule P C l kd V zero full tgt W A i o := by
  unfold OpRule; rw [h]; simp only [hz]; exact hr
theorem op_st {j : Nat} {T : TypeId} {p x : Operand} (f z : Obj) (v : Value) (h : tagOf kd i = .st j) (hop : o.op = .store T p x) (hf : full i = f) (hz : zero j = z) (hv : A.eval x = v) (hs : ∀ (ρ : Operand → Value) (w : World) (g : Nat), ρ p = ptrTo g → ρ x = v → w.heap[g]? = some z → Stores P ρ o w g f) : OpRule P C l kd V zero full tgt W A i o := by
  unfold OpRule; simp only [h, hop, hf, hz, hv]; exact hs
theorem op_so {c : Nat} {T : TypeId} {p x : Operand} (g : Nat) (f : Obj) (v : Value) (h : tagOf kd i = .so c) (hop : o.op = .store T p x) (hf : full i = f) (hg : tgt c = g) (hp : A.eval p = ptrTo g) (hv : A.eval x = v) (hs : ∀ (ρ : Operand → Value) (w : World), ρ p = ptrTo g → ρ x = v → w.heap[g]? = W.heap[g]? → Stores P ρ o w g f) : OpRule P C l kd V zero full tgt W A i o := by
  unfold OpRule; simp only [h, hop, hf, hg, hp, hv]; exact ⟨trivial, hs⟩
end
theorem Same.ext' {kd : List Tag} {tgt : Nat → Nat} {W0 W w : World} (h : Same kd tgt W w) (k : Ext W0 W) (hc : ∀ c, Tag.so c ∈ kd → W0.heap.size ≤ tgt c) : Ext W0 w := h.ext k hc
theorem far_set {w : World} {g k : Nat} (hk : k ≠ g) (j : Nat) (u : Value) : (w.setCell ⟨g, j, none⟩ u).heap[k]? = w.heap[k]? := heap_setCell_other _ _ _ _ (by simpa using hk)
theorem os_set (w : World) (a : Addr) (v : Value) : (w.setCell a v).os = w.os := rfl
theorem tape_set (w : World) (a : Addr) (v : Value) : (w.setCell a v).tape = w.tape := rfl
theorem output_set (w : World) (a : Addr) (v : Value) : (w.setCell a v).output = w.output := rfl
theorem run_storeOp {ρ : Operand → Value} {o : Oper} {T : TypeId} {p x : Operand} {w w1 : World} (h : o.op = .store T p x) (hr : (Instr.storeAt T (ρ p) (ρ x)).run Try.prog w = .ok () w1) : (execOp ρ o).run Try.prog w = .ok .skip w1 := by
  unfold execOp; rw [h]
  show Sem.run Try.prog (do Instr.storeAt T (ρ p) (ρ x); pure Next.skip) w = _
  rw [Sem.run_bind, hr]
  rfl
/-- A store that fills a whole row. -/
theorem store_row {ρ : Operand → Value} {o : Oper} {T : TypeId} {p x : Operand} {w : World} {g : Nat} {cs ds : Array Value} (hop : o.op = .store T p x) (hp : ρ p = ptrTo g) (hx : ρ x = .agg ds) (hz : w.heap[g]? = some (.cells cs T (0, 0))) (hi : (Try.prog.info? T).map (·.size) = some cs.size) (hs : ds.size = cs.size) (h1 : ds.all (·.oneCell') = true) :
    Stores Try.prog ρ o w g (.cells ds T (0, 0)) := by
  refine ⟨w.setRow g ds, ?_, Blk.setRow (show Blk w g T cs from hz) ds, fun k hk => setRow_other w g k ds (by omega), by simp [World.setRow], rfl, rfl, rfl⟩
  refine run_storeOp hop ?_
  rw [hp, hx]
  unfold Instr.storeAt ptrTo
  simp only [Instr.sureAddr, Sem.run_bind, Sem.run_pure, Result.andThen_ok]
  exact run_storeVar_row w g _ _ _ _ hz (by rw [hi, hs]) (by rw [hs]) h1
end Go.Proofs.Ytjmigglibidbdaa
