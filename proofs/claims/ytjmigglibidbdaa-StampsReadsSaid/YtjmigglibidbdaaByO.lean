/- A slice of bytes that came in as an argument. No condition. -/
import Derived.Test.YtjmigglibidbdaaByA
import Derived.Test.YtjmigglibidbdaaLaidD
import Derived.SizedLaws
namespace Go.Proofs.Ytjmigglibidbdaa
set_option linter.unusedVariables false
set_option linter.unusedSimpArgs false
open Go Go.ChangeShapes Go.WideShapes Go.ChangeAt Go.RowKit
theorem cellsU8 : Try.prog.cellsOf 5 = 1 := by kernel_rfl
theorem bytesU8 : Try.prog.bytesOf 5 = 1 := by kernel_rfl
theorem u8_range {x : Int} (h : (Lit.int .u8 x).wf = true) : 0 ≤ x ∧ x < 256 := by
  have h1 : IntKind.u8.min = 0 := rfl
  have h2 : IntKind.u8.max = 255 := rfl
  simp only [Lit.wf, Bool.and_eq_true, decide_eq_true_eq] at h
  omega
/-- What an argument of type []byte is, and how long. -/
def InB (W : World) (a : Option Addr) (len cap : Nat) (l : List Nat) : Prop := l.length = len ∧ len ≤ cap ∧ cap ≤ 140737488351232 ∧ BytesAt W a l
theorem bytes_of_trod {H : Type} {enc : TypeId × Value → H} {W : World} {a : Option Addr} {len cap : Nat} {d : DataW H} {ps : List MemPlace} {ts : List TypeId} {ds : List (DataW H)} {j : Nat}
    (h : DataW.Trod enc Try.prog W 0 (fun _ => true) true 29 (.slice a len cap) d ps) (hsz : (DataW.weightsEach Try.prog ts ds).all (· ≤ reachBytes) = true) (ht : ts[j]? = some 29) (hd : ds[j]? = some d) : ∃ l, InB W a len cap l := by
  obtain ⟨fuel, hf⟩ := h
  rcases open_ints Try.underlying29 Try.underlying5 cellsU8 hf with ⟨hcs, _⟩ | ⟨x, n, c, zs, hcs, _, hl, hm, hz, hx, hcell, hwz⟩
  · simp [Value.cells] at hcs
    obtain ⟨rfl, rfl, rfl⟩ := hcs
    exact ⟨[], rfl, Nat.le_refl _, by omega, BytesAt.nil _ _⟩
  · simp [Value.cells] at hcs
    obtain ⟨rfl, rfl, rfl⟩ := hcs
    simp only [Prod.mk.injEq] at hx
    obtain ⟨rfl, _⟩ := hx
    have hw := sized_slice hsz (j := j) (t := 29) (e := 5) ht hd Try.underlying29
    rw [bytesU8] at hw
    simp only [lits, List.length_map, List.length_take, List.length_drop, reachBytes] at hw
    have hz : zs.length = cap := by simpa using hz
    have hr : ∀ i, i < zs.length → 0 ≤ zs.getD i 0 ∧ zs.getD i 0 < 256 := fun i hi => by
      have hg : zs.getD i 0 = zs[i] := by simp [List.getD, hi]
      rw [hg]
      exact u8_range (hwz _ (List.getElem_mem _))
    refine ⟨(zs.take len).map Int.toNat, by simp; omega, hl, by omega, ?_, by simp; omega, fun hp => ?_⟩
    · intro y hy
      simp only [List.mem_map] at hy
      obtain ⟨z, hz1, rfl⟩ := hy
      have := u8_range (hwz z (List.mem_of_mem_take hz1))
      omega
    · simp only [List.length_map, List.length_take] at hp ⊢
      obtain ⟨b, off, rfl, hc'⟩ := ints_at hcell (by omega)
      refine ⟨b, off, rfl, block_lt_of_cell (a := ⟨b, off + 0, none⟩) (hc' 0 (by omega)), fun i hi => ?_⟩
      have hi2 : i < zs.length := by omega
      have h3 := hr i hi2
      rw [hc' i (by omega)]
      congr 2
      have : (List.map Int.toNat (List.take len zs)).getD i 0 = (zs.getD i 0).toNat := by
        simp [List.getD_eq_getElem?_getD, List.getElem?_take, show i < len by omega, hi2]
      rw [this]
      omega
end Go.Proofs.Ytjmigglibidbdaa
