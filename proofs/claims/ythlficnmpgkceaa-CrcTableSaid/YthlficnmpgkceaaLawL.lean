/- Layer 6: CrcLinear. Conditions: the slices read as bytes and numbers. -/
import Derived.Test.YthlficnmpgkceaaLawF
import Derived.Test.YthlficnmpgkceaaSpoA
import Derived.StillTailTactics
namespace Go.Proofs.Ythlficnmpgkceaa
set_option linter.unusedVariables false
set_option linter.unusedSimpArgs false
open Go Go.RowKit Go.Sort
/-- Of byte strings of one length: bit by bit, modulo 2. -/
def xor3 : List Nat → List Nat → List Nat → List Nat
  | a :: l, b :: m, c :: n => ((a ^^^ b) ^^^ c) :: xor3 l m n
  | _, _, _ => []
theorem xor3_len : ∀ (l m n : List Nat), l.length = m.length → l.length = n.length → (xor3 l m n).length = l.length
  | [], _, _, _, _ => by simp [xor3]
  | a :: l, b :: m, c :: n, h, k => by simp only [xor3, List.length_cons]; rw [xor3_len l m n (by simpa using h) (by simpa using k)]
theorem xor3_snoc : ∀ (l m n : List Nat) (a b c : Nat), l.length = m.length → l.length = n.length → xor3 (l ++ [a]) (m ++ [b]) (n ++ [c]) = xor3 l m n ++ [(a ^^^ b) ^^^ c]
  | [], [], [], _, _, _, _, _ => rfl
  | x :: l, y :: m, z :: n, a, b, c, h, k => by
    simp only [List.cons_append, xor3]
    rw [xor3_snoc l m n a b c (by simpa using h) (by simpa using k)]
theorem ofNat_xor (a b : Nat) : BitVec.ofNat 32 (a ^^^ b) = BitVec.ofNat 32 a ^^^ BitVec.ofNat 32 b := by
  apply BitVec.eq_of_getLsbD_eq
  intro i hi
  simp [BitVec.getLsbD_ofNat, Nat.testBit_xor, hi]
theorem xor_comm3 (p q r s t u : BitVec 32) : (p ^^^ q ^^^ r) ^^^ (s ^^^ t ^^^ u) = (p ^^^ s) ^^^ (q ^^^ t) ^^^ (r ^^^ u) := by
  apply BitVec.eq_of_getLsbD_eq
  intro i hi
  simp only [BitVec.getLsbD_xor]
  cases p.getLsbD i <;> cases q.getLsbD i <;> cases r.getLsbD i <;> cases s.getLsbD i <;> cases t.getLsbD i <;> cases u.getLsbD i <;> rfl
theorem xor_b {a b : Nat} (ha : a < 256) (hb : b < 256) : a ^^^ b < 256 := Nat.xor_lt_two_pow (n := 8) ha hb
theorem runB_xor3 : ∀ (l m n : List Nat) (p q r : BitVec 32), IsB l → IsB m → IsB n → l.length = m.length → l.length = n.length → runB (p ^^^ q ^^^ r) (xor3 l m n) = runB p l ^^^ runB q m ^^^ runB r n
  | [], [], [], _, _, _, _, _, _, _, _ => rfl
  | a :: l, b :: m, c :: n, p, q, r, hl, hm, hn, h, k => by
    have h1 := hl a List.mem_cons_self
    have h2 := hm b List.mem_cons_self
    have h3 := hn c List.mem_cons_self
    show runB (updB (p ^^^ q ^^^ r) ((a ^^^ b) ^^^ c)) (xor3 l m n) = runB (updB p a) l ^^^ runB (updB q b) m ^^^ runB (updB r c) n
    rw [← runB_xor3 l m n _ _ _ (fun x hx => hl x (List.mem_cons_of_mem _ hx)) (fun x hx => hm x (List.mem_cons_of_mem _ hx)) (fun x hx => hn x (List.mem_cons_of_mem _ hx)) (by simpa using h) (by simpa using k)]
    congr 1
    rw [updB_eq _ _ (xor_b (xor_b h1 h2) h3), updB_eq _ _ h1, updB_eq _ _ h2, updB_eq _ _ h3, ofNat_xor, ofNat_xor, xor_comm3, itB_xor, itB_xor]
theorem crcB_xor3 (l m n : List Nat) (hl : IsB l) (hm : IsB m) (hn : IsB n) (h : l.length = m.length) (k : l.length = n.length) : crcB 0#32 (xor3 l m n) = crcB 0#32 l ^^^ crcB 0#32 m ^^^ crcB 0#32 n := by
  unfold crcB
  have e : (~~~0#32 : BitVec 32) = ~~~0#32 ^^^ ~~~0#32 ^^^ ~~~0#32 := by decide
  have := runB_xor3 l m n (~~~0#32) (~~~0#32) (~~~0#32) hl hm hn h k
  rw [← e] at this
  rw [this]
  apply BitVec.eq_of_getLsbD_eq
  intro i hi
  simp only [BitVec.getLsbD_xor, BitVec.getLsbD_not]
  cases (runB (~~~0#32) l).getLsbD i <;> cases (runB (~~~0#32) m).getLsbD i <;> cases (runB (~~~0#32) n).getLsbD i <;> simp [hi]
theorem xor3_b : ∀ (l m n : List Nat), IsB l → IsB m → IsB n → IsB (xor3 l m n)
  | a :: l, b :: m, c :: n, hl, hm, hn => by
    intro x hx
    simp only [xor3, List.mem_cons] at hx
    rcases hx with rfl | hx
    · exact xor_b (xor_b (hl a List.mem_cons_self) (hm b List.mem_cons_self)) (hn c List.mem_cons_self)
    · exact xor3_b l m n (fun x hx => hl x (List.mem_cons_of_mem _ hx)) (fun x hx => hm x (List.mem_cons_of_mem _ hx)) (fun x hx => hn x (List.mem_cons_of_mem _ hx)) x hx
  | [], _, _, _, _, _ => by simp [xor3]; exact IsB.nil
  | _ :: _, [], _, _, _, _ => by simp [xor3]; exact IsB.nil
  | _ :: _, _ :: _, [], _, _, _ => by simp [xor3]; exact IsB.nil
/-- Two slices own no block in common. -/
def Apart2 (u v : Value) : Prop := u.ownBlock = none ∨ u.ownBlock ≠ v.ownBlock
theorem Apart2.symm {u v : Value} (h : Apart2 u v) : Apart2 v u := by
  unfold Apart2 at *
  rcases h with h | h
  · cases hv : v.ownBlock with
    | none => exact Or.inl rfl
    | some g => right; rw [h]; simp
  · exact Or.inr (fun e => h e.symm)
theorem Apart2.moved {B : Nat} {w : World} {u v v' : Value} {l : List Nat} (h : Apart2 u v) (hu : OwnB B w u l) (hv : v'.ownBlock = v.ownBlock ∨ v'.ownBlock = some w.heap.size) : Apart2 u v' := by
  unfold Apart2 at *
  rcases hv with e | e
  · rw [e]; exact h
  · cases hb : u.ownBlock with
    | none => exact Or.inl rfl
    | some g =>
      have := (hu.1.lt g hb).2
      right; rw [e]; simp; omega
end Go.Proofs.Ythlficnmpgkceaa
