/- A slice of numbers of type int64 that came in as an argument. No condition. -/
import Derived.Test.YtjmigglibidbdaaTms1
import Derived.Test.YtjmigglibidbdaaLaidD
import Derived.SizedLaws
namespace Go.Proofs.Ytjmigglibidbdaa
set_option linter.unusedVariables false
set_option linter.unusedSimpArgs false
open Go Go.ChangeShapes Go.WideShapes Go.ChangeAt Go.RowKit
theorem cellsI64 : Try.prog.cellsOf 2 = 1 := by kernel_rfl
theorem timesU8 : Try.prog.bytesOf 2 = 8 := by kernel_rfl
theorem i64_range {x : Int} (h : (Lit.int .i64 x).wf = true) : I64 x := by
  have h1 : IntKind.i64.min = -9223372036854775808 := rfl
  have h2 : IntKind.i64.max = 9223372036854775807 := rfl
  simp only [Lit.wf, Bool.and_eq_true, decide_eq_true_eq] at h
  unfold I64
  omega
/-- What an argument of type []byte is, and how long. -/
def InT (W : World) (a : Option Addr) (len cap : Nat) (l : List Int) : Prop := l.length = len ∧ len ≤ cap ∧ cap ≤ 17592186043904 ∧ TimesAt W a l
theorem times_of_trod {H : Type} {enc : TypeId × Value → H} {W : World} {a : Option Addr} {len cap : Nat} {d : DataW H} {ps : List MemPlace} {ts : List TypeId} {ds : List (DataW H)} {j : Nat}
    (h : DataW.Trod enc Try.prog W 0 (fun _ => true) true 22 (.slice a len cap) d ps) (hsz : (DataW.weightsEach Try.prog ts ds).all (· ≤ reachBytes) = true) (ht : ts[j]? = some 22) (hd : ds[j]? = some d) : ∃ l, InT W a len cap l := by
  obtain ⟨fuel, hf⟩ := h
  rcases open_ints Try.underlying22 Try.underlying2 cellsI64 hf with ⟨hcs, _⟩ | ⟨x, n, c, zs, hcs, _, hl, hm, hz, hx, hcell, hwz⟩
  · simp [Value.cells] at hcs
    obtain ⟨rfl, rfl, rfl⟩ := hcs
    exact ⟨[], rfl, Nat.le_refl _, by omega, TimesAt.nil _ _⟩
  · simp [Value.cells] at hcs
    obtain ⟨rfl, rfl, rfl⟩ := hcs
    simp only [Prod.mk.injEq] at hx
    obtain ⟨rfl, _⟩ := hx
    have hw := sized_slice hsz (j := j) (t := 22) (e := 2) ht hd Try.underlying22
    rw [timesU8] at hw
    simp only [lits, List.length_map, List.length_take, List.length_drop, reachBytes] at hw
    have hz : zs.length = cap := by simpa using hz
    have hr : ∀ z ∈ zs, I64 z := fun z hz => i64_range (hwz _ hz)
    refine ⟨zs.take len, by simp; omega, hl, by omega, fun y hy => hr y (List.mem_of_mem_take hy), by simp; omega, fun hp => ?_⟩
    simp only [List.length_take] at hp ⊢
    obtain ⟨b, off, rfl, hc'⟩ := ints_at hcell (by omega)
    refine ⟨b, off, rfl, block_lt_of_cell (a := ⟨b, off + 0, none⟩) (hc' 0 (by omega)), fun i hi => ?_⟩
    have hi2 : i < zs.length := by omega
    rw [hc' i (by omega)]
    congr 2
    simp [List.getD_eq_getElem?_getD, List.getElem?_take, show i < len by omega, hi2]
end Go.Proofs.Ytjmigglibidbdaa
