/- Valid and clean of the reference of layer 2. Conditions: the cells stand for a number. -/
import Derived.Test.YtkhlhlldlikleaaDoorMagD
namespace Go.Proofs.YtkhlhlldlikleaaDoor
set_option linter.unusedVariables false
set_option linter.unusedSimpArgs false
open Go Go.RowKit
theorem rbb {b b' : Bool} (h2 : b = b') : Ending.returned (Value.bool b) = .returned (.bool b') := by rw [h2]
def BoolRet (b : Bool) (w : World) (e : Ending) (w' : World) : Prop := e = .returned (.bool b) ∧ Ext w w'
theorem mag_lt {a b c d : Nat} (ha : a < 18446744073709551616) (hb : b < 18446744073709551616) (hc : c < 18446744073709551616) (hd : d < 18446744073709551616) : mag4 a b c d < 115792089237316195423570985008687907853269984665640564039457584007913129639936 := by
  simp only [mag4, val]; omega
theorem len_pos (n : Nat) : 0 < (limbs n).length ↔ n ≠ 0 := by
  have := @limbs_nil n
  rw [← List.length_eq_zero_iff] at this; omega
theorem ref_valid (s : Bool) (a b c d : Nat) (z : Int) (w : World) (h : IsW s a b c d z) :
    Calls Tryd.prog 40 #[.agg #[.bool s, .int .u64 (a : Int), .int .u64 (b : Int), .int .u64 (c : Int), .int .u64 (d : Int)]] w (BoolRet (!s || decide (z ≠ 0)) w) := by
  obtain ⟨ha, hb, hc, hd, hz⟩ := h
  obtain ⟨n, hn⟩ : ∃ n, mag4 a b c d = n := ⟨_, rfl⟩
  have HX := hide (ext_alloc w (.cells #[.bool s, .int .u64 (a : Int), .int .u64 (b : Int), .int .u64 (c : Int), .int .u64 (d : Int)] 25))
  have HN := hide hn
  obtain ⟨L, hL⟩ : ∃ L, (limbs n).length = L := ⟨_, rfl⟩
  have HL := hide hL
  have hp := len_pos n
  rw [hL] at hp
  rw [hn] at hz
  cases s
  · have HB : Hid ((!false || decide (z ≠ 0)) = true) := by simp [Hid]
    clear hp hz hn hL
    go_enter Tryd.func40, Tryd.ntmps40
    go_wp2
    go_ret
    exact ⟨rbb HB.out.symm, HX.out⟩
  · have HB : Hid ((!true || decide (z ≠ 0)) = decide (0 < L)) := by
      simp only [if_true] at hz
      have e : decide (z ≠ 0) = decide (0 < L) := by rw [decide_eq_decide]; omega
      rw [e]; exact rfl
    clear hp hz hn hL
    go_enter Tryd.func40, Tryd.ntmps40
    go_wp2_with (go_at_call 55; refine (of_any w.heap.size true a b c d _ (Nat.le_trans (Nat.le_refl _) HX.out.size) ha hb hc hd).mono ?_; rintro e w' ⟨v, rfl, hv, hE⟩; rw [HN.out] at hv; obtain ⟨a3, c3, rfl, h3a, h3b, _⟩ := hv.shape L HL.out)
    go_ret
    exact ⟨rbb (by first | exact HB.out.symm | (rw [HB.out]; simp)), HX.out.trans hE⟩

theorem two_kept {w w' : World} {o p : Obj} (h : Ext ((w.alloc o).alloc p) w') : w'.heap[w.heap.size]? = some o ∧ w'.heap[w.heap.size + 1]? = some p := by
  obtain ⟨h1, h2⟩ := two_blocks w o p
  have hs : ((w.alloc o).alloc p).heap.size = w.heap.size + 1 + 1 := by simp
  exact ⟨(h.block _ (by omega)).trans h1, (h.block _ (by omega)).trans h2⟩
theorem five_cells {w : World} {b : Nat} {v0 v1 v2 v3 v4 : Value} {e : TypeId} (h : w.heap[b]? = some (.cells #[v0, v1, v2, v3, v4] e (0, 0))) :
    w.cell? ⟨b, 0, none⟩ = some v0 ∧ w.cell? ⟨b, 1, none⟩ = some v1 ∧ w.cell? ⟨b, 2, none⟩ = some v2 ∧ w.cell? ⟨b, 3, none⟩ = some v3 ∧ w.cell? ⟨b, 4, none⟩ = some v4 ∧
    w.frozen? ⟨b, 0, none⟩ = false ∧ w.frozen? ⟨b, 1, none⟩ = false ∧ w.frozen? ⟨b, 2, none⟩ = false ∧ w.frozen? ⟨b, 3, none⟩ = false ∧ w.frozen? ⟨b, 4, none⟩ = false := by
  refine ⟨?_, ?_, ?_, ?_, ?_, free_of_block h 0, free_of_block h 1, free_of_block h 2, free_of_block h 3, free_of_block h 4⟩ <;> (rw [cell_of_block h]; rfl)
theorem ext_five {W w : World} (h : Ext W w) {b : Nat} (hb : W.heap.size ≤ b) (u0 u1 u2 u3 u4 : Value) : Ext W (((((w.setCell ⟨b, 0, none⟩ u0).setCell ⟨b, 1, none⟩ u1).setCell ⟨b, 2, none⟩ u2).setCell ⟨b, 3, none⟩ u3).setCell ⟨b, 4, none⟩ u4) :=
  ext_set (ext_set (ext_set (ext_set (ext_set h hb _ _) hb _ _) hb _ _) hb _ _) hb _ _
/-- A Wide is returned that stands for z and is valid. -/
def WideOnly (z : Int) (w : World) (e : Ending) (w' : World) : Prop := ∃ (s : Bool) (a b c d : Nat), e = .returned (.agg #[.bool s, .int .u64 (a : Int), .int .u64 (b : Int), .int .u64 (c : Int), .int .u64 (d : Int)]) ∧ IsC s a b c d z ∧ Ext w w'
theorem ref_clean (s : Bool) (a b c d : Nat) (z : Int) (w : World) (h : IsW s a b c d z) :
    Calls Tryd.prog 54 #[.agg #[.bool s, .int .u64 (a : Int), .int .u64 (b : Int), .int .u64 (c : Int), .int .u64 (d : Int)]] w (WideOnly z w) := by
  have HX := hide (ext_alloc w (.cells #[.bool s, .int .u64 (a : Int), .int .u64 (b : Int), .int .u64 (c : Int), .int .u64 (d : Int)] 25))
  have HX2 := hide ((ext_alloc w (.cells #[.bool s, .int .u64 (a : Int), .int .u64 (b : Int), .int .u64 (c : Int), .int .u64 (d : Int)] 25)).trans (ext_alloc _ (.cells #[.bool false, .int .u64 0, .int .u64 0, .int .u64 0, .int .u64 0] 25)))
  by_cases hv : (!s || decide (z ≠ 0)) = true
  · have HV := hide hv
    have HC : Hid (IsC s a b c d z) := ⟨h, fun e => by subst e; simpa using hv⟩
    clear hv
    have HH := hide h
    clear h
    go_enter Tryd.func54, Tryd.ntmps54
    go_wp2_with (go_at_call 40; refine (ref_valid s a b c d z _ HH.out).mono ?_; rintro e w' ⟨rfl, hE⟩; rw [HV.out]; obtain ⟨q0, q1⟩ := two_kept hE; obtain ⟨c0, c1, c2, c3, c4, f0, f1, f2, f3, f4⟩ := five_cells q0; obtain ⟨d0, d1, d2, d3, d4, g0, g1, g2, g3, g4⟩ := five_cells q1; have HE := hide hE; clear q0 q1 hE)
    exact bodyPost_ret (v := .agg #[.bool s, .int .u64 (a : Int), .int .u64 (b : Int), .int .u64 (c : Int), .int .u64 (d : Int)]) (by simp [results, Tryd.results54, go_sem, d0, d1, d2, d3, d4]) rfl ⟨s, a, b, c, d, rfl, HC.out, ext_five (HX2.out.trans HE.out) (by simp) _ _ _ _ _⟩
  · have HV : Hid ((!s || decide (z ≠ 0)) = false) := by unfold Hid; simpa using hv
    have HC : Hid (IsC false 0 0 0 0 z) := by
      have : z = 0 := by simp at hv; exact hv.2
      subst this
      exact ⟨⟨by omega, by omega, by omega, by omega, by simp [mag4, val]⟩, by simp⟩
    clear hv
    have HH := hide h
    clear h
    go_enter Tryd.func54, Tryd.ntmps54
    go_wp2_with (go_at_call 40; refine (ref_valid s a b c d z _ HH.out).mono ?_; rintro e w' ⟨rfl, hE⟩; rw [HV.out]; obtain ⟨q0, q1⟩ := two_kept hE; obtain ⟨d0, d1, d2, d3, d4, g0, g1, g2, g3, g4⟩ := five_cells q1; have HE := hide hE; clear q0 q1 hE)
    exact bodyPost_ret (v := .agg #[.bool false, .int .u64 ((0 : Nat) : Int), .int .u64 ((0 : Nat) : Int), .int .u64 ((0 : Nat) : Int), .int .u64 ((0 : Nat) : Int)]) (by simp [results, Tryd.results54, go_sem, d0, d1, d2, d3, d4]) rfl ⟨false, 0, 0, 0, 0, rfl, HC.out, ext_five (HX2.out.trans HE.out) (by simp) _ _ _ _ _⟩
end Go.Proofs.YtkhlhlldlikleaaDoor
