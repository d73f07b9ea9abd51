/- A list of numbers, and an integer, that came in as an argument. No condition. -/
import Derived.Test.YtdboaogdanahkaaTapeB
import Derived.WalkKit
import Derived.ProofKit
import Derived.OpenShut
import Derived.ShutString
import Derived.ChangeOld
import Derived.Test.YtdboaogdanahkaaMag1
import Derived.Lib.SmallJoins
namespace Go.Proofs.Ytdboaogdanahkaa
set_option linter.unusedVariables false
set_option linter.unusedSimpArgs false
open Go Go.RowKit
section
open Go Go.ChangeShapes Go.WideShapes Go.ChangeAt Go.RowKit
theorem laidOut : laidOutB Try.prog = true := by kernel_rfl
theorem list_of_trod {H : Type} {enc : TypeId × Value → H} {W : World} {a : Option Addr} {len cap : Nat} {d : DataW H} {ps : List MemPlace} (h : DataW.Trod enc Try.prog W 0 (fun _ => true) true 23 (.slice a len cap) d ps) (_ : ∀ x ∈ ps, x.block < W.heap.size) : IsList W a len cap := by
  obtain ⟨fuel, hf⟩ := h
  rcases open_ints Try.underlying23 Try.underlying3 (by kernel_rfl) hf with ⟨hcs, _⟩ | ⟨x, l, c, zs, hcs, _, hl, hm, hz, _, hcell, hwz⟩
  · simp [Value.cells] at hcs
    obtain ⟨rfl, rfl, rfl⟩ := hcs
    exact ⟨by omega, Or.inl rfl⟩
  · simp [Value.cells] at hcs
    obtain ⟨rfl, rfl, rfl⟩ := hcs
    have hz : zs.length = cap := by simpa using hz
    unfold maxLen at hm
    refine ⟨by omega, ?_⟩
    by_cases h0 : len = 0
    · exact Or.inl h0
    · obtain ⟨b, off, rfl, hc'⟩ := ints_at hcell (by omega)
      refine Or.inr ⟨b, off, rfl, block_lt_of_cell (a := ⟨b, off + 0, none⟩) (hc' 0 (by omega)), hl, fun i hi => ⟨zs.getD i 0, ?_, hc' i (by omega)⟩⟩
      have hg : zs.getD i 0 = zs[i] := by simp [List.getD, show i < zs.length by omega]
      rw [hg]
      exact bounds_i64 (hwz _ (List.getElem_mem _))
end
section
open Go Go.ChangeShapes Go.WideShapes Go.ChangeAt Go.RowKit
theorem array5 {α : Type} {cs : Array α} (h : cs.size = 5) : ∃ c0 c1 c2 c3 c4, cs = #[c0, c1, c2, c3, c4] := by
  obtain ⟨l⟩ := cs
  match l, h with
  | [c0, c1, c2, c3, c4], _ => exact ⟨c0, c1, c2, c3, c4, rfl⟩
theorem cellsWide : Try.prog.cellsOf 32 = 5 := by kernel_rfl
theorem cellsArr : Try.prog.cellsOf 30 = 4 := by kernel_rfl
theorem cellsBool : Try.prog.cellsOf 4 = 1 := by kernel_rfl
theorem cellsWord : Try.prog.cellsOf 28 = 1 := by kernel_rfl
theorem isW_of (s : Bool) (a b c d : Nat) (ha : a < 18446744073709551616) (hb : b < 18446744073709551616) (hc : c < 18446744073709551616) (hd : d < 18446744073709551616) : ∃ z, IsW s a b c d z := ⟨_, ha, hb, hc, hd, rfl⟩
theorem word_of {H : Type} {enc : TypeId × Value → H} {W : World} {m : Nat} {v : Value} {x : DataW H × List MemPlace} (h : DataW.trod enc Try.prog W 0 (fun _ => true) true m 28 [v] = some x) : ∃ a : Nat, v = .int .u64 (a : Int) ∧ a < 18446744073709551616 := by
  obtain ⟨n, hn, _, hw⟩ := DataW.trod_int Try.underlying28 h
  simp at hn
  subst hn
  obtain ⟨h1, h2⟩ := bounds_u64 hw
  exact ⟨n.toNat, by rw [Int.toNat_of_nonneg h1], by omega⟩
set_option maxRecDepth 100000 in
theorem wide_open {H : Type} {enc : TypeId × Value → H} {W : World} {base : Nat} {v : Value} {d : DataW H} {p : List MemPlace} (hv : Value.okWide Try.prog W .any base 32 v) (h : DataW.Trod enc Try.prog W 0 (fun _ => true) true 32 v d p) :
    ∃ (s : Bool) (a b c e : Nat) (z : Int), v = .agg #[.bool s, .int .u64 (a : Int), .int .u64 (b : Int), .int .u64 (c : Int), .int .u64 (e : Int)] ∧ IsW s a b c e z := by
  obtain ⟨cs, rfl, hsz⟩ := okWide_struct Try.underlying32 hv
  obtain ⟨c0, c1, c2, c3, c4, rfl⟩ := array5 (hsz.trans cellsWide)
  obtain ⟨fuel, hf⟩ := h
  obtain ⟨y0, y1, n, hx, hl, h0, h1⟩ := trod_struct2 Try.underlying32 hf
  simp only [cellsBool, cellsArr] at h0 h1
  have h0 : DataW.trod enc Try.prog W 0 (fun _ => true) true n 4 [c0] = some y0 := h0
  have h1 : DataW.trod enc Try.prog W 0 (fun _ => true) true n 30 [c1, c2, c3, c4] = some y1 := h1
  obtain ⟨s, hs, _⟩ := DataW.trod_bool Try.underlying4 h0
  obtain ⟨xs, m, _, _, _, hlen, he⟩ := DataW.trod_array Try.underlying30 h1
  obtain ⟨x0, x1, x2, x3, rfl⟩ : ∃ x0 x1 x2 x3, xs = [x0, x1, x2, x3] := by
    match xs, hlen with
    | [x0, x1, x2, x3], _ => exact ⟨x0, x1, x2, x3, rfl⟩
  have e0 := he 0 (by omega)
  have e1 := he 1 (by omega)
  have e2 := he 2 (by omega)
  have e3 := he 3 (by omega)
  rw [cellsWord] at e0 e1 e2 e3
  obtain ⟨a, rfl, ha⟩ := word_of (show DataW.trod enc Try.prog W 0 (fun _ => true) true m 28 [c1] = some x0 from e0)
  obtain ⟨b, rfl, hb⟩ := word_of (show DataW.trod enc Try.prog W 0 (fun _ => true) true m 28 [c2] = some x1 from e1)
  obtain ⟨c, rfl, hc⟩ := word_of (show DataW.trod enc Try.prog W 0 (fun _ => true) true m 28 [c3] = some x2 from e2)
  obtain ⟨e, rfl, hd⟩ := word_of (show DataW.trod enc Try.prog W 0 (fun _ => true) true m 28 [c4] = some x3 from e3)
  obtain rfl : c0 = .bool s := by simpa using hs
  obtain ⟨z, hz⟩ := isW_of s a b c e ha hb hc hd
  exact ⟨s, a, b, c, e, z, rfl, hz⟩
end
end Go.Proofs.Ytdboaogdanahkaa
