/- Layer 8's laws: the list, the sanity check, what a law keeps, BitpackCanonical, BitpackBack. Conditions: the slices read as bytes and numbers. -/
import Derived.Test.YtjmigglibidbdaaBpk1
import Derived.Test.YtjmigglibidbdaaSamW
import Derived.Test.YtjmigglibidbdaaSpoA
namespace Go.Proofs.Ytjmigglibidbdaa
set_option linter.unusedVariables false
set_option linter.unusedSimpArgs false
open Go Go.RowKit
/-- The numbers that the tape gives: owned. -/
def ListPost (B b : Nat) (W : World) (e : Ending) (w' : World) : Prop := ∃ A n cap l, e = .returned (.slice A n cap) ∧ l.length = n ∧ n ≤ 29 ∧ n ≤ cap ∧ OwnQ W.heap.size w' (.slice A n cap) l ∧ TapeOk B w' b ∧ Upd b W w'
/-- What PkPost says, by the slice's parts. -/
theorem PkPost.parts {o : Option (List Nat)} {W : World} {e : Ending} {w' : World} (h : PkPost o W e w') : ∃ A cap, e = .returned (.tuple #[.slice A (o.getD []).length cap, .bool o.isSome]) ∧ (o.getD []).length ≤ cap ∧ cap ≤ 9223372036854775807 ∧ OwnB W.heap.size w' (.slice A (o.getD []).length cap) (o.getD []) ∧ BytesAt w' A (o.getD []) ∧ Ext W w' := by
  obtain ⟨v, rfl, hO, hE⟩ := h
  obtain ⟨A, cap, rfl, h1, h2, h3⟩ := hO.at_
  exact ⟨A, cap, rfl, h1, h2, hO, h3, hE⟩
theorem UpPost.parts {o : Option (List Nat)} {W : World} {e : Ending} {w' : World} (h : UpPost o W e w') : ∃ A cap, e = .returned (.tuple #[.slice A (o.getD []).length cap, .bool o.isSome]) ∧ (o.getD []).length ≤ cap ∧ cap ≤ 9223372036854775807 ∧ OwnQ W.heap.size w' (.slice A (o.getD []).length cap) (o.getD []) ∧ WordsAt w' A (o.getD []) ∧ Ext W w' := by
  obtain ⟨v, rfl, hO, hE⟩ := h
  obtain ⟨A, cap, rfl, h1, h2, h3⟩ := hO.at_
  exact ⟨A, cap, rfl, h1, h2, hO, h3, hE⟩
theorem known_pk : pkR [5, 2, 7] 3 = some [213, 1] := by decide +kernel
theorem known_up : upR [213, 1] 3 3 = some [5, 2, 7] := by decide +kernel
theorem t_modI (a n : Int) (w : World) (ha : I64 a) (hn : I64 n) : Calls Try.prog 17 #[.int .i64 a, .int .i64 n] w (IntIn (InN n) .i64 w) :=
  (t_mod a n w ha hn).mono fun _ _ q => ⟨_, q.1, modN_in _ _, q.2.symm⟩
/-- A list that the tape gave: kept while other memory changes. -/
structure Bs (W : World) (B : Nat) (A : Option Addr) (n cap : Nat) (m : List Nat) (w : World) : Prop where
  e : Ext W w
  t : TapeOk W.heap.size w W.heap.size
  o : OwnQ B w (.slice A n cap) m
  gb : W.heap.size < B
section
variable {W : World} {B : Nat} {A : Option Addr} {n cap : Nat} {m : List Nat} {w w' : World}
theorem Bs.ext (s : Bs W B A n cap m w) (k : Ext w w') : Bs W B A n cap m w' := ⟨s.e.trans k, s.t.ext k, s.o.ext k, s.gb⟩
theorem Bs.upd (s : Bs W B A n cap m w) (u : Upd W.heap.size w w') (t : TapeOk W.heap.size w' W.heap.size) : Bs W B A n cap m w' := ⟨Upd.ext u s.e (Nat.le_refl _), t, s.o.upd u s.gb, s.gb⟩
theorem Bs.words (s : Bs W B A n cap m w) : WordsAt w A m := own_words s.o
theorem Bs.of {w1 : World} (h1 : Ext W w1) (hT : TapeOk W.heap.size w1 W.heap.size) {v : Value} (hs : v = .slice A n cap) (o : OwnQ w1.heap.size w v m) (t : TapeOk W.heap.size w W.heap.size) (u : Upd W.heap.size w1 w) : Bs W w1.heap.size A n cap m w := by
  subst hs
  exact ⟨Upd.ext u h1 (Nat.le_refl _), t, o, hT.2.1⟩
end
end Go.Proofs.Ytjmigglibidbdaa
