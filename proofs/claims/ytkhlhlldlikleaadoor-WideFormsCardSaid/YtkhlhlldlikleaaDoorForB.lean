/- Text of an integer: its decimal digits, a minus ahead of them where it is negative, for every Wide. Conditions: the table of the powers of ten lies in the world. -/
import Derived.Test.YtkhlhlldlikleaaDoorForA
import Derived.Test.YtkhlhlldlikleaaDoorDivD
import Derived.Test.YtkhlhlldlikleaaDoorWrdF
namespace Go.Proofs.YtkhlhlldlikleaaDoor
set_option linter.unusedVariables false
set_option linter.unusedSimpArgs false
open Go Go.RowKit Go.Sort Go.Lib
def pad : Nat → Nat → List UInt8
  | 0, _ => []
  | k + 1, p => pad k (p / 10) ++ [UInt8.ofNat (48 + p % 10)]
theorem dec_pad : ∀ (k r p : Nat), 1 ≤ r → p < 10 ^ k → decDigits (r * 10 ^ k + p) = decDigits r ++ pad k p
  | 0, r, p, _, hp => by
    have : p = 0 := by simpa using hp
    subst this; simp [pad]
  | k + 1, r, p, hr, hp => by
    have h1 : 1 ≤ 10 ^ k := Nat.one_le_pow _ _ (by decide)
    have e : r * 10 ^ (k + 1) = 10 * (r * 10 ^ k) := by rw [Nat.pow_succ]; simp only [Nat.mul_comm, Nat.mul_left_comm]
    have h2 : 1 ≤ r * 10 ^ k := Nat.mul_pos hr h1
    rw [Nat.pow_succ] at hp
    rw [decDigits, dif_neg (by omega), e, show (10 * (r * 10 ^ k) + p) / 10 = r * 10 ^ k + p / 10 by omega, show (10 * (r * 10 ^ k) + p) % 10 = p % 10 by omega, dec_pad k r (p / 10) hr (by omega)]
    simp [pad]
theorem pad_zero : ∀ k, pad k 0 = List.replicate k 48
  | 0 => rfl
  | k + 1 => by rw [pad, Nat.zero_div, pad_zero k, List.replicate_succ']; rfl
theorem pad_dec : ∀ (k p : Nat), 1 ≤ k → p < 10 ^ k → pad k p = List.replicate (k - nDigits p) 48 ++ decDigits p
  | k + 1, p, _, hp => by
    rw [Nat.pow_succ] at hp
    by_cases h : p < 10
    · rw [pad, show p / 10 = 0 by omega, pad_zero, nDigits_small h, decDigits_one h, Nat.add_sub_cancel, Nat.mod_eq_of_lt h]
    · have hk : 1 ≤ k := by
        rcases k with _ | k
        · simp at hp; omega
        · omega
      rw [pad, pad_dec k (p / 10) hk (by omega), nDigits_big h, Nat.add_sub_add_right]
      conv => rhs; rw [decDigits, dif_neg h]
      simp
theorem nd_le (p k : Nat) (hk : 1 ≤ k) (h : p < 10 ^ k) : nDigits p ≤ k := by
  induction k generalizing p with
  | zero => omega
  | succ k ih =>
    rw [Nat.pow_succ] at h
    by_cases h' : p < 10
    · rw [nDigits_small h']; omega
    · rw [nDigits_big h']
      have : 1 ≤ k := by
        rcases k with _ | k
        · simp at h; omega
        · omega
      have := ih (p / 10) this (by omega)
      omega
theorem rep48 (c : Nat) : Lib.repeatL [48] c = List.replicate c 48 := by
  induction c with
  | zero => rfl
  | succ c ih => rw [Lib.repeatL, ih, List.replicate_succ]; rfl
theorem dec_part (r p : Nat) (hr : 1 ≤ r) (hp : p < 10000000000000000000) : decDigits (r * 10000000000000000000 + p) = decDigits r ++ (Lib.repeatL [48] (19 - nDigits p) ++ decDigits p) := by
  have h := dec_pad 19 r p hr (by simpa using hp)
  rw [pad_dec 19 p (by omega) (by simpa using hp), ← rep48] at h
  exact h
theorem Tab.ext {w w' : World} (h : Tab w) (k : Ext w w') : Tab w' := by
  unfold Tab Lib.TabIs World.var? at *
  cases hg : Tryd.prog.globalNamed "internal/strconv.uint64pow10" with
  | none => simp [hg] at h
  | some g =>
    simp only [hg, Option.bind_some] at h ⊢
    have hlt : g < w.heap.size := by
      rcases Nat.lt_or_ge g w.heap.size with h' | h'
      · exact h'
      · rw [Array.getElem?_eq_none h'] at h; simp at h
    rw [k.block g hlt]
    exact h
theorem ext_grow (w : World) (os : Array Obj) : Ext w (grow w os) :=
  ⟨rfl, rfl, rfl, by simp, fun k hk => by show (w.heap ++ os)[k]? = _; rw [Array.getElem?_append_left hk]⟩
theorem ext_fmt {w w' : World} (h : ∃ k os, w' = grow (w.drewN k) os) : Ext w w' := by
  obtain ⟨k, os, rfl⟩ := h
  exact (ext_drewN _ _).trans (ext_grow _ _)
def strLen : Value → Nat
  | .string s => s.size
  | _ => 0
theorem p_dw19 (a b c d n : Nat) (hn : mag4 a b c d = n) (w : World) (hw : W64 [a, b, c, d]) :
    Calls Tryd.prog 51 #[.agg #[.int .u64 (a : Int), .int .u64 (b : Int), .int .u64 (c : Int), .int .u64 (d : Int)], .int .u64 10000000000000000000] w (DivWordRet n 10000000000000000000 w) := p_divWord a b c d n 10000000000000000000 hn w hw (by omega) (by omega)
end Go.Proofs.YtkhlhlldlikleaaDoor
