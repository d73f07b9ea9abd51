/- A number and a truth value as what a Go program holds. Conditions: none. -/
import Derived.Test.YtojbopibfflnoaaGreatRows
namespace Go.Proofs.YtojbopibfflnoaaGreat
set_option linter.unusedVariables false
set_option linter.unusedSimpArgs false
open Go
instance aoW : Coe Nat Value := ⟨fun n => .int .u64 (n : Int)⟩
instance aoU : Coe Bool Value := ⟨fun b => .bool b⟩
instance aoY : Coe Unit Value := ⟨fun _ => .int .u64 0⟩
structure atk where
  g : Nat
  o : Nat
def yj (g o : Nat) : atk := ⟨g, o⟩
instance awE (g o : Nat) : CoeDep atk (yj g o) Value := ⟨.pointer (some ⟨g, o, none⟩)⟩
theorem aM {α : Type _} (a : α) : ∃ x, a = x := ⟨a, rfl⟩
theorem eo {α : Type _} (a : α) : ∃ x, x = a := ⟨a, rfl⟩
end Go.Proofs.YtojbopibfflnoaaGreat
