/- A fraction that came in: its ten cells. No condition. -/
import Derived.Test.YtbnbkondbdakeaaLaidD
namespace Go.Proofs.Ytbnbkondbdakeaa
set_option linter.unusedVariables false
set_option linter.unusedSimpArgs false
open Go Go.ChangeShapes Go.WideShapes Go.ChangeAt Go.RowKit
theorem array10 {α : Type} {cs : Array α} (h : cs.size = 10) : ∃ c0 c1 c2 c3 c4 c5 c6 c7 c8 c9, cs = #[c0, c1, c2, c3, c4, c5, c6, c7, c8, c9] := by
  obtain ⟨l⟩ := cs
  match l, h with
  | [c0, c1, c2, c3, c4, c5, c6, c7, c8, c9], _ => exact ⟨c0, c1, c2, c3, c4, c5, c6, c7, c8, c9, rfl⟩
theorem cellsRatio : Try.prog.cellsOf 35 = 10 := by kernel_rfl
set_option maxRecDepth 100000 in
theorem wide_trod {H : Type} {enc : TypeId × Value → H} {W : World} {n : Nat} {c0 c1 c2 c3 c4 : Value} {x : DataW H × List MemPlace} (hf : DataW.trod enc Try.prog W 0 (fun _ => true) true n 25 [c0, c1, c2, c3, c4] = some x) :
    ∃ (s : Bool) (a b c e : Nat) (z : Int), c0 = .bool s ∧ c1 = .int .u64 (a : Int) ∧ c2 = .int .u64 (b : Int) ∧ c3 = .int .u64 (c : Int) ∧ c4 = .int .u64 (e : Int) ∧ IsW s a b c e z := by
  obtain ⟨y0, y1, n, hx, hl, h0, h1⟩ := trod_struct2 Try.underlying25 hf
  simp only [cellsBool, cellsArr] at h0 h1
  have h0 : DataW.trod enc Try.prog W 0 (fun _ => true) true n 4 [c0] = some y0 := h0
  have h1 : DataW.trod enc Try.prog W 0 (fun _ => true) true n 23 [c1, c2, c3, c4] = some y1 := h1
  obtain ⟨s, hs, _⟩ := DataW.trod_bool Try.underlying4 h0
  obtain ⟨xs, m, _, _, _, hlen, he⟩ := DataW.trod_array Try.underlying23 h1
  obtain ⟨x0, x1, x2, x3, rfl⟩ : ∃ x0 x1 x2 x3, xs = [x0, x1, x2, x3] := by
    match xs, hlen with
    | [x0, x1, x2, x3], _ => exact ⟨x0, x1, x2, x3, rfl⟩
  have e0 := he 0 (by omega)
  have e1 := he 1 (by omega)
  have e2 := he 2 (by omega)
  have e3 := he 3 (by omega)
  rw [cellsWord] at e0 e1 e2 e3
  obtain ⟨a, rfl, ha⟩ := word_of (show DataW.trod enc Try.prog W 0 (fun _ => true) true m 22 [c1] = some x0 from e0)
  obtain ⟨b, rfl, hb⟩ := word_of (show DataW.trod enc Try.prog W 0 (fun _ => true) true m 22 [c2] = some x1 from e1)
  obtain ⟨c, rfl, hc⟩ := word_of (show DataW.trod enc Try.prog W 0 (fun _ => true) true m 22 [c3] = some x2 from e2)
  obtain ⟨e, rfl, hd⟩ := word_of (show DataW.trod enc Try.prog W 0 (fun _ => true) true m 22 [c4] = some x3 from e3)
  obtain rfl : c0 = .bool s := by simpa using hs
  obtain ⟨z, hz⟩ := isW_of s a b c e ha hb hc hd
  exact ⟨s, a, b, c, e, z, rfl, rfl, rfl, rfl, rfl, hz⟩
set_option maxRecDepth 100000 in
theorem ratio_open {H : Type} {enc : TypeId × Value → H} {W : World} {base : Nat} {v : Value} {d : DataW H} {p : List MemPlace} (hv : Value.okWide Try.prog W .any base 35 v) (h : DataW.Trod enc Try.prog W 0 (fun _ => true) true 35 v d p) :
    ∃ (s : Bool) (a b c e : Nat) (t : Bool) (a' b' c' e' : Nat) (x y : Int), v = .agg #[.bool s, .int .u64 (a : Int), .int .u64 (b : Int), .int .u64 (c : Int), .int .u64 (e : Int), .bool t, .int .u64 (a' : Int), .int .u64 (b' : Int), .int .u64 (c' : Int), .int .u64 (e' : Int)] ∧ IsW s a b c e x ∧ IsW t a' b' c' e' y := by
  obtain ⟨cs, rfl, hsz⟩ := okWide_struct Try.underlying35 hv
  obtain ⟨c0, c1, c2, c3, c4, c5, c6, c7, c8, c9, rfl⟩ := array10 (hsz.trans cellsRatio)
  obtain ⟨fuel, hf⟩ := h
  obtain ⟨y0, y1, n, hx, hl, h0, h1⟩ := trod_struct2 Try.underlying35 hf
  simp only [cellsWide] at h0 h1
  obtain ⟨s, a, b, c, e, x, rfl, rfl, rfl, rfl, rfl, hz⟩ := wide_trod (show DataW.trod enc Try.prog W 0 (fun _ => true) true n 25 [c0, c1, c2, c3, c4] = some y0 from h0)
  obtain ⟨t, a', b', c', e', y, rfl, rfl, rfl, rfl, rfl, hz'⟩ := wide_trod (show DataW.trod enc Try.prog W 0 (fun _ => true) true n 25 [c5, c6, c7, c8, c9] = some y1 from h1)
  exact ⟨s, a, b, c, e, t, a', b', c', e', x, y, rfl, hz, hz'⟩
end Go.Proofs.Ytbnbkondbdakeaa
