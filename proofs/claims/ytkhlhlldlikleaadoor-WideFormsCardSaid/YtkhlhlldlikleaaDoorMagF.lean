/- Sign, Of and OfUnsigned of the reference of layer 2. Conditions: the cells stand for a number; the numbers are of 64 bits. -/
import Derived.Test.YtkhlhlldlikleaaDoorMagE
namespace Go.Proofs.YtkhlhlldlikleaaDoor
set_option linter.unusedVariables false
set_option linter.unusedSimpArgs false
open Go Go.RowKit
def IntRet (k : IntKind) (x : Int) (w : World) (e : Ending) (w' : World) : Prop := e = .returned (.int k x) ∧ Ext w w'
theorem one_kept {w w' : World} {o : Obj} (h : Ext (w.alloc o) w') : w'.heap[w.heap.size]? = some o := by
  have hs : (w.alloc o).heap.size = w.heap.size + 1 := by simp
  exact (h.block _ (by omega)).trans (heap_alloc_new w o)
theorem ref_sign (s : Bool) (a b c d : Nat) (z : Int) (w : World) (h : IsW s a b c d z) :
    Calls Tryd.prog 41 #[.agg #[.bool s, .int .u64 (a : Int), .int .u64 (b : Int), .int .u64 (c : Int), .int .u64 (d : Int)]] w (IntRet .i64 z.sign w) := by
  obtain ⟨ha, hb, hc, hd, hz⟩ := h
  obtain ⟨n, hn⟩ : ∃ n, mag4 a b c d = n := ⟨_, rfl⟩
  have HX := hide (ext_alloc w (.cells #[.bool s, .int .u64 (a : Int), .int .u64 (b : Int), .int .u64 (c : Int), .int .u64 (d : Int)] 25))
  have HN := hide hn
  obtain ⟨L, hL⟩ : ∃ L, (limbs n).length = L := ⟨_, rfl⟩
  have HL := hide hL
  have hp := len_pos n
  rw [hL] at hp
  rw [hn] at hz
  have hS : L = 0 ∧ z = 0 ∨ 0 < L ∧ s = true ∧ z < 0 ∨ 0 < L ∧ s = false ∧ 0 < z := by cases s <;> simp at hz <;> simp <;> omega
  clear hz hp hL hn
  rcases hS with ⟨rfl, h1⟩ | ⟨h0, rfl, h1⟩ | ⟨h0, rfl, h1⟩
  · have HS : Hid (z.sign = 0) := by subst h1; rfl
    clear h1
    go_enter Tryd.func41, Tryd.ntmps41
    go_wp2_with (go_at_call 55; refine (of_any w.heap.size s a b c d _ (Nat.le_trans (Nat.le_refl _) HX.out.size) ha hb hc hd).mono ?_; rintro e w' ⟨v, rfl, hv, hE⟩; rw [HN.out] at hv; obtain ⟨a3, c3, rfl, h3a, h3b, _⟩ := hv.shape 0 HL.out)
    go_ret
    exact ⟨rb1 HS.out.symm, HX.out.trans hE⟩
  · have HS : Hid (z.sign = -1) := Int.sign_eq_neg_one_of_neg h1
    clear h1
    go_enter Tryd.func41, Tryd.ntmps41
    go_wp2_with (go_at_call 55; refine (of_any w.heap.size true a b c d _ (Nat.le_trans (Nat.le_refl _) HX.out.size) ha hb hc hd).mono ?_; rintro e w' ⟨v, rfl, hv, hE⟩; rw [HN.out] at hv; obtain ⟨a3, c3, rfl, h3a, h3b, _⟩ := hv.shape L HL.out; obtain ⟨d0, _⟩ := five_cells (one_kept hE))
    go_ret
    exact ⟨rb1 HS.out.symm, HX.out.trans hE⟩
  · have HS : Hid (z.sign = 1) := Int.sign_eq_one_of_pos h1
    clear h1
    go_enter Tryd.func41, Tryd.ntmps41
    go_wp2_with (go_at_call 55; refine (of_any w.heap.size false a b c d _ (Nat.le_trans (Nat.le_refl _) HX.out.size) ha hb hc hd).mono ?_; rintro e w' ⟨v, rfl, hv, hE⟩; rw [HN.out] at hv; obtain ⟨a3, c3, rfl, h3a, h3b, _⟩ := hv.shape L HL.out; obtain ⟨d0, _⟩ := five_cells (one_kept hE))
    go_ret
    exact ⟨rb1 HS.out.symm, HX.out.trans hE⟩
theorem ref_ofu (n : Nat) (w : World) (hn : n < 18446744073709551616) : Calls Tryd.prog 18 #[.int .u64 (n : Int)] w (WideOnly n w) := by
  have hc : IsC false n 0 0 0 n := ⟨⟨hn, by omega, by omega, by omega, by simp [mag4, val]⟩, by simp⟩
  have HX := hide (ext_alloc w (.cells #[.bool false, .int .u64 (n : Int), .int .u64 0, .int .u64 0, .int .u64 0] 25))
  go_enter Tryd.func18, Tryd.ntmps18
  go_wp2
  exact bodyPost_ret (v := .agg #[.bool false, .int .u64 (n : Int), .int .u64 ((0 : Nat) : Int), .int .u64 ((0 : Nat) : Int), .int .u64 ((0 : Nat) : Int)]) (by simp [results, Tryd.results18, go_sem]) rfl ⟨false, n, 0, 0, 0, rfl, hc, HX.out⟩
theorem ref_ofi (z : Int) (w : World) (h1 : -9223372036854775808 ≤ z) (h2 : z ≤ 9223372036854775807) : Calls Tryd.prog 17 #[.int .i64 z] w (WideOnly z w) := by
  obtain ⟨n, hn⟩ : ∃ n, z.natAbs = n := ⟨_, rfl⟩
  have hc : IsC (decide (z < 0)) n 0 0 0 z := ⟨⟨by omega, by omega, by omega, by omega, by simp [mag4, val]; split <;> omega⟩, by simp; omega⟩
  have hneg : z < 0 → IntKind.u64.wrap (-IntKind.u64.wrap z) = (n : Int) := by intro h; simp only [IntKind.wrap_u64]; omega
  have hpos : 0 ≤ z → IntKind.u64.wrap z = (n : Int) := by intro h; simp only [IntKind.wrap_u64]; omega
  by_cases h : z < 0
  · have e := hneg h
    have HX := hide (ext_alloc w (.cells #[.bool true, .int .u64 (n : Int), .int .u64 0, .int .u64 0, .int .u64 0] 25))
    have HC : Hid (IsC true n 0 0 0 z) := by have h2 := hc; simp only [h, decide_true] at h2; exact h2
    clear hneg hpos hn hc
    go_enter Tryd.func17, Tryd.ntmps17
    go_wp2
    exact bodyPost_ret (v := .agg #[.bool true, .int .u64 (n : Int), .int .u64 ((0 : Nat) : Int), .int .u64 ((0 : Nat) : Int), .int .u64 ((0 : Nat) : Int)]) (by simp [results, Tryd.results17, go_sem]) rfl ⟨true, n, 0, 0, 0, rfl, HC.out, HX.out⟩
  · have e := hpos (by omega)
    have HX := hide (ext_alloc w (.cells #[.bool false, .int .u64 (n : Int), .int .u64 0, .int .u64 0, .int .u64 0] 25))
    have HC : Hid (IsC false n 0 0 0 z) := by have h2 := hc; simp only [h, decide_false] at h2; exact h2
    clear hneg hpos hn hc
    go_enter Tryd.func17, Tryd.ntmps17
    go_wp2
    exact bodyPost_ret (v := .agg #[.bool false, .int .u64 (n : Int), .int .u64 ((0 : Nat) : Int), .int .u64 ((0 : Nat) : Int), .int .u64 ((0 : Nat) : Int)]) (by simp [results, Tryd.results17, go_sem]) rfl ⟨false, n, 0, 0, 0, rfl, HC.out, HX.out⟩
end Go.Proofs.YtkhlhlldlikleaaDoor
