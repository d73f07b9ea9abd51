/- DivMod of the program. Conditions: the cells stand for numbers. -/
import Derived.Test.YtdboaogdanahkaaDivK
namespace Go.Proofs.Ytdboaogdanahkaa
set_option linter.unusedVariables false
set_option linter.unusedSimpArgs false
open Go Go.RowKit
/-- A quotient and a rest are returned, or 0 and 0. -/
def DivRet (x y : Int) (w : World) (e : Ending) (w' : World) : Prop := ∃ (s : Bool) (a b c d : Nat) (t : Bool) (e' f g h : Nat) (o : Bool), e = .returned (.tuple #[.agg #[.bool s, .int .u64 (a : Int), .int .u64 (b : Int), .int .u64 (c : Int), .int .u64 (d : Int)], .agg #[.bool t, .int .u64 (e' : Int), .int .u64 (f : Int), .int .u64 (g : Int), .int .u64 (h : Int)], .bool o]) ∧
  o = decide (y ≠ 0) ∧ IsC s a b c d (if y = 0 then 0 else x / y) ∧ IsC t e' f g h (if y = 0 then 0 else x % y) ∧ Ext w w'
theorem isC_zero : IsC false 0 0 0 0 0 := ⟨⟨by omega, by omega, by omega, by omega, by simp [mag4, val]⟩, by simp⟩
theorem divRet_no {x y : Int} {w w' : World} (hy : y = 0) (hE : Ext w w') :
    DivRet x y w (.returned (.tuple #[.agg #[.bool false, .int .u64 0, .int .u64 0, .int .u64 0, .int .u64 0], .agg #[.bool false, .int .u64 0, .int .u64 0, .int .u64 0, .int .u64 0], .bool false])) w' :=
  ⟨false, 0, 0, 0, 0, false, 0, 0, 0, 0, false, rfl, by simp [hy], by rw [if_pos hy]; exact isC_zero, by rw [if_pos hy]; exact isC_zero, hE⟩
theorem divRet_yes {x y : Int} {w w' : World} {s t : Bool} {a b c d e f g h : Nat} (hy : y ≠ 0) (h1 : IsC s a b c d (x / y)) (h2 : IsC t e f g h (x % y)) (hE : Ext w w') :
    DivRet x y w (.returned (.tuple #[.agg #[.bool s, .int .u64 (a : Int), .int .u64 (b : Int), .int .u64 (c : Int), .int .u64 (d : Int)], .agg #[.bool t, .int .u64 (e : Int), .int .u64 (f : Int), .int .u64 (g : Int), .int .u64 (h : Int)], .bool true])) w' :=
  ⟨s, a, b, c, d, t, e, f, g, h, true, rfl, by simp [hy], by rw [if_neg hy]; exact h1, by rw [if_neg hy]; exact h2, hE⟩
/-- The quotient and the rest of signed numbers by those of their absolute values. -/
theorem div_signs (s t : Bool) (n m : Nat) (x y : Int) (hx : x = if s then -(n : Int) else n) (hy : y = if t then -(m : Int) else m) (hm : 0 < m) :
    ((s = false ∨ n % m = 0) → x / y = (if (s != t) then -((n / m : Nat) : Int) else ((n / m : Nat) : Int)) ∧ x % y = ((n % m : Nat) : Int)) ∧
    (s = true ∧ n % m ≠ 0 → x / y = (if (s != t) then -((n / m + 1 : Nat) : Int) else ((n / m + 1 : Nat) : Int)) ∧ x % y = ((m - n % m : Nat) : Int)) := by
  have e := Nat.div_add_mod n m
  have hr := Nat.mod_lt n hm
  have key : ∀ (q r : Int), x = y * q + r → 0 ≤ r → r < m → x / y = q ∧ x % y = r := by
    intro q r h1 h2 h3
    have hy0 : y ≠ 0 := by cases t <;> simp at hy <;> omega
    have hya : (y.natAbs : Int) = m := by cases t <;> simp at hy <;> omega
    have h4 := Int.emod_add_mul_ediv x y
    have h5 := Int.emod_nonneg x hy0
    have h6 := Int.emod_lt x hy0
    rw [hya] at h6
    have h7 : y * (x / y - q) = r - x % y := by rw [Int.mul_sub]; omega
    have h8 : (x / y - q) = 0 := by
      have h9 : (y * (x / y - q)).natAbs < m := by rw [h7]; omega
      rw [Int.natAbs_mul, show y.natAbs = m by omega] at h9
      have h10 : (x / y - q).natAbs = 0 := by
        rcases Nat.eq_zero_or_pos (x / y - q).natAbs with h | h
        · exact h
        · exfalso
          have : m * 1 ≤ m * (x / y - q).natAbs := Nat.mul_le_mul_left _ h
          omega
      omega
    rw [h8, Int.mul_zero] at h7
    exact ⟨by omega, by omega⟩
  generalize n / m = q at *
  generalize n % m = r at *
  have e' : (n : Int) = m * q + r := by rw [← e]; simp
  constructor
  · intro h
    refine key _ _ ?_ (by omega) (by omega)
    cases s <;> cases t <;> simp at hx hy h ⊢ <;> subst hx <;> subst hy <;> rw [e'] <;> (try subst h) <;> simp [Int.neg_mul, Int.mul_neg]
  · rintro ⟨h, h0⟩
    refine key _ _ ?_ (by omega) (by omega)
    have e2 : ((m - r : Nat) : Int) = (m : Int) - r := by omega
    rw [e2]
    subst h
    cases t <;> simp at hx hy ⊢ <;> subst hx <;> subst hy <;> rw [e'] <;> simp [Int.neg_mul, Int.mul_neg, Int.mul_add] <;> omega
theorem four_boxes (w : World) (s t : Bool) (a b c d e f g h : Nat) : ∃ W, ((((w.alloc (.cells #[.bool s, .int .u64 (a : Int), .int .u64 (b : Int), .int .u64 (c : Int), .int .u64 (d : Int)] 32)).alloc (.cells #[.bool t, .int .u64 (e : Int), .int .u64 (f : Int), .int .u64 (g : Int), .int .u64 (h : Int)] 32)).alloc (.cells #[.bool false, .int .u64 0, .int .u64 0, .int .u64 0, .int .u64 0] 32)).alloc (.cells #[.bool false, .int .u64 0, .int .u64 0, .int .u64 0, .int .u64 0] 32)) = W ∧
    Box W w.heap.size s a b c d ∧ Box W (w.heap.size + 1) t e f g h ∧ Box W (w.heap.size + 1 + 1) false 0 0 0 0 ∧ Box W (w.heap.size + 1 + 1 + 1) false 0 0 0 0 ∧ Ext w W := by
  have h := four_new w (.cells #[.bool s, .int .u64 (a : Int), .int .u64 (b : Int), .int .u64 (c : Int), .int .u64 (d : Int)] 32) (.cells #[.bool t, .int .u64 (e : Int), .int .u64 (f : Int), .int .u64 (g : Int), .int .u64 (h : Int)] 32) (.cells #[.bool false, .int .u64 0, .int .u64 0, .int .u64 0, .int .u64 0] 32) (.cells #[.bool false, .int .u64 0, .int .u64 0, .int .u64 0, .int .u64 0] 32)
  exact ⟨_, rfl, h.1, h.2.1, h.2.2.1, h.2.2.2, (((ext_alloc _ _).trans (ext_alloc _ _)).trans (ext_alloc _ _)).trans (ext_alloc _ _)⟩
theorem Box.far4 {w : World} {g b' : Nat} {s : Bool} {a b c d : Nat} (k : Box w g s a b c d) (h : g ≠ b') (u0 u1 u2 u3 : Value) : Box ((((w.setCell ⟨b', 0, none⟩ u0).setCell ⟨b', 1, none⟩ u1).setCell ⟨b', 2, none⟩ u2).setCell ⟨b', 3, none⟩ u3) g s a b c d := by
  unfold Box at *
  rw [heap_setCell_other _ _ _ _ (by simpa using h), heap_setCell_other _ _ _ _ (by simpa using h), heap_setCell_other _ _ _ _ (by simpa using h), heap_setCell_other _ _ _ _ (by first | (simp; done) | (simp [h]; done))]
  exact k
theorem cell_far5 (w : World) {g b' i : Nat} {u0 u1 u2 u3 u4 : Value} (h : g ≠ b') : (((((w.setCell ⟨b', 0, none⟩ u0).setCell ⟨b', 1, none⟩ u1).setCell ⟨b', 2, none⟩ u2).setCell ⟨b', 3, none⟩ u3).setCell ⟨b', 4, none⟩ u4).cell? ⟨g, i, none⟩ = w.cell? ⟨g, i, none⟩ := by
  rw [World.cell?_setCell_other _ _ _ _ (by first | (simp; done) | (simp [h]; done)), World.cell?_setCell_other _ _ _ _ (by first | (simp; done) | (simp [h]; done)), World.cell?_setCell_other _ _ _ _ (by first | (simp; done) | (simp [h]; done)), World.cell?_setCell_other _ _ _ _ (by first | (simp; done) | (simp [h]; done)), World.cell?_setCell_other _ _ _ _ (by first | (simp; done) | (simp [h]; done))]
theorem quot_fits (n m : Nat) (hm : 0 < m) (hr : n % m ≠ 0) (hn : n < 115792089237316195423570985008687907853269984665640564039457584007913129639936) : n / m + 1 < 115792089237316195423570985008687907853269984665640564039457584007913129639936 := by
  have h1 : m ≠ 1 := fun h => by subst h; rw [Nat.mod_one] at hr; exact hr rfl
  have e := Nat.div_add_mod n m
  have h2 : 2 * (n / m) ≤ m * (n / m) := Nat.mul_le_mul_right _ (by omega)
  omega
end Go.Proofs.Ytdboaogdanahkaa
