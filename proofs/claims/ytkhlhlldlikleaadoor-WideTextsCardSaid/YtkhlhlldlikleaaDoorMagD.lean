/- The Wide that the reference of layer 2 builds of a sign and words, and when it is one. Conditions: the slice is words that lie in memory. -/
import Derived.Test.YtkhlhlldlikleaaDoorMagC
namespace Go.Proofs.YtkhlhlldlikleaaDoor
set_option linter.unusedVariables false
set_option linter.unusedSimpArgs false
open Go Go.RowKit
/-- A Wide as a value: its sign and the four words of its absolute value. -/
def wideV (s : Bool) (a b c d : Nat) : Value := .agg #[.bool s, .int .u64 (a : Int), .int .u64 (b : Int), .int .u64 (c : Int), .int .u64 (d : Int)]
def natV (s : Bool) (n : Nat) : Value := wideV s (n % 18446744073709551616) (n / 18446744073709551616 % 18446744073709551616) (n / 340282366920938463463374607431768211456 % 18446744073709551616) (n / 6277101735386680763835789423207666416102355444464034512896 % 18446744073709551616)
theorem cell_of_block {w : World} {b : Nat} {cur : Array Value} {e : TypeId} (h : w.heap[b]? = some (.cells cur e (0, 0))) (i : Nat) : w.cell? ⟨b, i, none⟩ = cur[i]? := by simp [World.cell?, h]
theorem free_of_block {w : World} {b : Nat} {cur : Array Value} {e : TypeId} (h : w.heap[b]? = some (.cells cur e (0, 0))) (i : Nat) : w.frozen? ⟨b, i, none⟩ = false := by simp [World.frozen?, h]

theorem Words.store_other {B : Nat} {w : World} {v : Value} {l : List Nat} (h : Words B w v l) {b : Nat} {cur : Array Value} (hb : w.heap[b]? = some (.cells cur 25 (0, 0))) (j : Nat) (u : Value) : Words B (w.setCell ⟨b, j, none⟩ u) v l := by
  refine ⟨?_, h.2⟩
  obtain ⟨h1, h2 | ⟨g, cap, c, hv, hg, hh, r⟩⟩ := h.1
  · exact ⟨h1, Or.inl h2⟩
  · have hne : g ≠ b := by rintro rfl; rw [hh] at hb; simp at hb
    exact ⟨h1, Or.inr ⟨g, cap, c, hv, hg, by rw [heap_setCell_other w ⟨b, j, none⟩ g u hne]; exact hh, r⟩⟩
theorem limbs_getD (n i : Nat) : (limbs n).getD i 0 = n / 18446744073709551616 ^ i % 18446744073709551616 := by
  induction i generalizing n with
  | zero =>
    by_cases h : n = 0
    · subst h; simp [limbs_zero]
    · rw [limbs_pos h]; simp
  | succ i ih =>
    by_cases h : n = 0
    · subst h; simp [limbs_zero]
    · rw [limbs_pos h, List.getD_cons_succ, ih, Nat.div_div_eq_div_mul, Nat.pow_succ, Nat.mul_comm]
def g4 (l : List Nat) (k i : Nat) : Int := if i < k then ((l.getD i 0 : Nat) : Int) else 0
def wcur (s : Bool) (l : List Nat) (k : Nat) : Array Value := #[.bool s, .int .u64 (g4 l k 0), .int .u64 (g4 l k 1), .int .u64 (g4 l k 2), .int .u64 (g4 l k 3)]
theorem wcur_all (s : Bool) (n : Nat) : (Value.agg (wcur s (limbs n) (limbs n).length)) = natV s n := by
  have hg : ∀ i, g4 (limbs n) (limbs n).length i = ((n / 18446744073709551616 ^ i % 18446744073709551616 : Nat) : Int) := by
    intro i
    unfold g4
    split
    · rw [limbs_getD]
    · rename_i h
      rw [← limbs_getD]; simp [List.getD, show (limbs n).length ≤ i by omega]
  unfold wcur natV wideV
  rw [hg 0, hg 1, hg 2, hg 3]
  simp
theorem wcur_set (s : Bool) (l : List Nat) (k : Nat) (hk : k < 4) (hl : k < l.length) : (wcur s l k).setIfInBounds (k + 1) (.int .u64 ((l[k] : Nat) : Int)) = wcur s l (k + 1) := by
  have hd : l.getD k 0 = l[k] := by simp [List.getD, hl]
  have : k = 0 ∨ k = 1 ∨ k = 2 ∨ k = 3 := by omega
  rcases this with rfl | rfl | rfl | rfl <;> simp [wcur, g4, ← hd, Array.setIfInBounds]
theorem wcur_zero (s : Bool) (l : List Nat) (k : Nat) (hk : k < 4) : (wcur s l k)[k + 1]? = some (.int .u64 0) := by
  have : k = 0 ∨ k = 1 ∨ k = 2 ∨ k = 3 := by omega
  rcases this with rfl | rfl | rfl | rfl <;> simp [wcur, g4]
theorem store_block {w : World} {b : Nat} {cur : Array Value} {e : TypeId} (h : w.heap[b]? = some (.cells cur e (0, 0))) (j : Nat) (u : Value) : (w.setCell ⟨b, j, none⟩ u).heap[b]? = some (.cells (cur.setIfInBounds j u) e (0, 0)) := heap_setCell_same w b j cur e u h
theorem two_blocks (w : World) (o p : Obj) : ((w.alloc o).alloc p).heap[w.heap.size]? = some o ∧ ((w.alloc o).alloc p).heap[w.heap.size + 1]? = some p := by
  have h1 := heap_alloc_new w o
  have h2 := heap_alloc_new (w.alloc o) p
  have h3 : (w.alloc o).heap.size = w.heap.size + 1 := by simp
  rw [h3] at h2
  exact ⟨(Below.heap_alloc (w.alloc o) p w.heap.size (by omega)).trans h1, h2⟩
/-- The Wide that is built, and its sign and its number. -/
def Wide4 (v : Value) (o : Bool) (w : World) (e : Ending) (w' : World) : Prop := e = .returned (.tuple #[v, .bool o]) ∧ Ext w w'
theorem wide_fits (C : Nat) (s : Bool) (v : Value) (l : List Nat) (n : Nat) (w : World) (h : Words C w v l) (hn : val l = n) (hf : (limbs n).length ≤ 4) :
    Calls Tryd.prog 58 #[.bool s, v] w (Wide4 (natV (s && decide (n ≠ 0)) n) true w) := by
  obtain ⟨m, hm⟩ : ∃ m, limbs n = m := ⟨_, rfl⟩
  obtain ⟨L, hL⟩ : ∃ L, m.length = L := ⟨_, rfl⟩
  rw [hm, hL] at hf
  have HN : Hid (limbs (val l) = m) := by rw [hn]; exact hm
  have HM := hide hm
  have HL := hide hL
  have hz : n = 0 ↔ L = 0 := by rw [← hL, ← hm, List.length_eq_zero_iff, limbs_nil]
  clear hm hn
  have hLs : L = 0 ∨ 0 < L := by omega
  cases s <;> rcases hLs with hL0 | hL0
  · subst hL0
    have hd : decide (n ≠ 0) = false := by simp; omega
    have HZ : Hid (natV (false && decide (n ≠ 0)) n = natV false n) := by rw [hd]; exact rfl
    clear hd hz hL
    have hb0 := hide (show ((w.alloc (.cells (wcur false [] 0) 25)).alloc (.cells (wcur false m 0) 25)).heap[w.heap.size]? = some (.cells (wcur false [] 0) 25 (0, 0)) from (two_blocks _ _ _).1)
    have hb1 := hide (show ((w.alloc (.cells (wcur false [] 0) 25)).alloc (.cells (wcur false m 0) 25)).heap[w.heap.size + 1]? = some (.cells (wcur false m 0) 25 (0, 0)) from (two_blocks _ _ _).2)
    have hx2 := hide ((ext_alloc w (.cells (wcur false [] 0) 25)).trans (ext_alloc _ (.cells (wcur false m 0) 25)))
    have HK : Hid (limbs n = m ∧ m.length = 0) := ⟨HM.out, HL.out⟩
    go_enter Tryd.func58, Tryd.ntmps58
    go_wp2_with (go_at_call 81; refine (trim_any _ _ _ _ (h.ext (ext_alloc w _))).mono ?_; rintro e w' ⟨v3, rfl, hv3, rfl⟩; rw [HN.out] at hv3; obtain ⟨a3, c3, rfl, h3a, h3b, _⟩ := hv3.shape 0 HL.out)
    go_loopw [7] (fun i wr => ∃ k : Nat, i = .int .i64 k ∧ k ≤ 0 ∧ Hid (wr.heap[w.heap.size]? = some (.cells (wcur false [] 0) 25 (0, 0))) ∧ Hid (wr.heap[w.heap.size + 1]? = some (.cells (wcur false m k) 25 (0, 0))) ∧ Words C wr (.slice a3 0 c3) m ∧ Ext w wr) (fun i _ => 0 - (intOf i).toNat)
    case atStart => exact ⟨0, rfl, by omega, hb0, hb1, hv3.ext (ext_alloc _ _), hx2.out⟩
    case round =>
      obtain ⟨k, rfl, hk, hc0, hc1, hW, hE⟩ := hrel
      · obtain rfl : k = 0 := by omega
        have d0 := cell_of_block hc0.out 0
        have d1 := cell_of_block hc0.out 1
        have d2 := cell_of_block hc0.out 2
        have d3 := cell_of_block hc0.out 3
        have d4 := cell_of_block hc0.out 4
        have f0 := free_of_block hc0.out 0
        have f1 := free_of_block hc0.out 1
        have f2 := free_of_block hc0.out 2
        have f3 := free_of_block hc0.out 3
        have f4 := free_of_block hc0.out 4
        have e0 := cell_of_block hc1.out 0
        have e1 := cell_of_block hc1.out 1
        have e2 := cell_of_block hc1.out 2
        have e3 := cell_of_block hc1.out 3
        have e4 := cell_of_block hc1.out 4
        simp only [wcur] at d0 d1 d2 d3 d4 e0 e1 e2 e3 e4
        go_wp2
        refine bodyPost_ret (v := .tuple #[.agg (wcur false m 0), .bool true]) (by simp [results, Tryd.results58, go_sem, d0, d1, d2, d3, d4, wcur]) rfl ⟨?_, ?_⟩
        · have e := HK.out
          rw [HZ.out, ← wcur_all, e.1, e.2]
        · exact ext_set (ext_set (ext_set (ext_set (ext_set hE (Nat.le_refl _) _ _) (Nat.le_refl _) _ _) (Nat.le_refl _) _ _) (Nat.le_refl _) _ _) (Nat.le_refl _) _ _
  · have hd : decide (n ≠ 0) = true := by simp; omega
    have HZ : Hid (natV (false && decide (n ≠ 0)) n = natV false n) := by rw [hd]; exact rfl
    clear hd hz hL
    have hb0 := hide (show ((w.alloc (.cells (wcur false [] 0) 25)).alloc (.cells (wcur false m 0) 25)).heap[w.heap.size]? = some (.cells (wcur false [] 0) 25 (0, 0)) from (two_blocks _ _ _).1)
    have hb1 := hide (show ((w.alloc (.cells (wcur false [] 0) 25)).alloc (.cells (wcur false m 0) 25)).heap[w.heap.size + 1]? = some (.cells (wcur false m 0) 25 (0, 0)) from (two_blocks _ _ _).2)
    have hx2 := hide ((ext_alloc w (.cells (wcur false [] 0) 25)).trans (ext_alloc _ (.cells (wcur false m 0) 25)))
    have HK : Hid (limbs n = m ∧ m.length = L) := ⟨HM.out, HL.out⟩
    go_enter Tryd.func58, Tryd.ntmps58
    go_wp2_with (go_at_call 81; refine (trim_any _ _ _ _ (h.ext (ext_alloc w _))).mono ?_; rintro e w' ⟨v3, rfl, hv3, rfl⟩; rw [HN.out] at hv3; obtain ⟨a3, c3, rfl, h3a, h3b, _⟩ := hv3.shape L HL.out)
    go_loopw [7] (fun i wr => ∃ k : Nat, i = .int .i64 k ∧ k ≤ L ∧ Hid (wr.heap[w.heap.size]? = some (.cells (wcur false [] 0) 25 (0, 0))) ∧ Hid (wr.heap[w.heap.size + 1]? = some (.cells (wcur false m k) 25 (0, 0))) ∧ Words C wr (.slice a3 L c3) m ∧ Ext w wr) (fun i _ => L - (intOf i).toNat)
    case atStart => exact ⟨0, rfl, by omega, hb0, hb1, hv3.ext (ext_alloc _ _), hx2.out⟩
    case round =>
      obtain ⟨k, rfl, hk, hc0, hc1, hW, hE⟩ := hrel
      by_cases hkl : k < L
      · obtain ⟨g, rfl, hg0, hg, cg, fg⟩ := hW.at k (by rw [HK.out.2]; exact hkl)
        have HS : Hid ((wcur false m k).setIfInBounds (k + 1) (.int .u64 ((m[k]'(by rw [HK.out.2]; exact hkl) : Nat) : Int)) = wcur false m (k + 1)) := wcur_set false m k (by omega) (by rw [HK.out.2]; exact hkl)
        obtain ⟨x, hx⟩ : ∃ x, m[k]'(by rw [HK.out.2]; exact hkl) = x := ⟨_, rfl⟩
        rw [hx] at cg HS
        clear hx
        have hfr := free_of_block hc1.out (k + 1)
        have hsz : 1 + k = k + 1 := by omega
        have hk4 : (k : Int) < 4 := by omega
        have hce : wr.cell? ⟨w.heap.size + 1, k + 1, none⟩ = some (.int .u64 0) := by rw [cell_of_block hc1.out, wcur_zero _ _ _ (by omega)]
        have H0 := hide (show (wr.setCell ⟨w.heap.size + 1, k + 1, none⟩ (.int .u64 (x : Int))).heap[w.heap.size]? = some (.cells (wcur false [] 0) 25 (0, 0)) from (heap_setCell_other wr ⟨w.heap.size + 1, k + 1, none⟩ w.heap.size _ (by simp)).trans hc0.out)
        have H1 : Hid ((wr.setCell ⟨w.heap.size + 1, k + 1, none⟩ (.int .u64 (x : Int))).heap[w.heap.size + 1]? = some (.cells (wcur false m (k + 1)) 25 (0, 0))) := by rw [← HS.out]; exact store_block hc1.out _ _
        have HW := hide (hW.store_other hc1.out (k + 1) (.int .u64 (x : Int)))
        have HE := hide (ext_set hE (g := w.heap.size + 1) (by omega) (k + 1) (.int .u64 (x : Int)))
        go_wp2
        exact ⟨⟨k + 1, by go_num, by omega, H0, H1, HW.out, HE.out⟩, by simp [intOf]; omega⟩
      · obtain rfl : k = L := by omega
        have d0 := cell_of_block hc0.out 0
        have d1 := cell_of_block hc0.out 1
        have d2 := cell_of_block hc0.out 2
        have d3 := cell_of_block hc0.out 3
        have d4 := cell_of_block hc0.out 4
        have f0 := free_of_block hc0.out 0
        have f1 := free_of_block hc0.out 1
        have f2 := free_of_block hc0.out 2
        have f3 := free_of_block hc0.out 3
        have f4 := free_of_block hc0.out 4
        have e0 := cell_of_block hc1.out 0
        have e1 := cell_of_block hc1.out 1
        have e2 := cell_of_block hc1.out 2
        have e3 := cell_of_block hc1.out 3
        have e4 := cell_of_block hc1.out 4
        simp only [wcur] at d0 d1 d2 d3 d4 e0 e1 e2 e3 e4
        go_wp2
        refine bodyPost_ret (v := .tuple #[.agg (wcur false m k), .bool true]) (by simp [results, Tryd.results58, go_sem, d0, d1, d2, d3, d4, wcur]) rfl ⟨?_, ?_⟩
        · have e := HK.out
          rw [HZ.out, ← wcur_all, e.1, e.2]
        · exact ext_set (ext_set (ext_set (ext_set (ext_set hE (Nat.le_refl _) _ _) (Nat.le_refl _) _ _) (Nat.le_refl _) _ _) (Nat.le_refl _) _ _) (Nat.le_refl _) _ _
  · subst hL0
    have hd : decide (n ≠ 0) = false := by simp; omega
    have HZ : Hid (natV (true && decide (n ≠ 0)) n = natV false n) := by rw [hd]; exact rfl
    clear hd hz hL
    have hb0 := hide (show ((w.alloc (.cells (wcur false [] 0) 25)).alloc (.cells (wcur false m 0) 25)).heap[w.heap.size]? = some (.cells (wcur false [] 0) 25 (0, 0)) from (two_blocks _ _ _).1)
    have hb1 := hide (show ((w.alloc (.cells (wcur false [] 0) 25)).alloc (.cells (wcur false m 0) 25)).heap[w.heap.size + 1]? = some (.cells (wcur false m 0) 25 (0, 0)) from (two_blocks _ _ _).2)
    have hx2 := hide ((ext_alloc w (.cells (wcur false [] 0) 25)).trans (ext_alloc _ (.cells (wcur false m 0) 25)))
    have HK : Hid (limbs n = m ∧ m.length = 0) := ⟨HM.out, HL.out⟩
    go_enter Tryd.func58, Tryd.ntmps58
    go_wp2_with (go_at_call 81; refine (trim_any _ _ _ _ (h.ext (ext_alloc w _))).mono ?_; rintro e w' ⟨v3, rfl, hv3, rfl⟩; rw [HN.out] at hv3; obtain ⟨a3, c3, rfl, h3a, h3b, _⟩ := hv3.shape 0 HL.out)
    go_loopw [7] (fun i wr => ∃ k : Nat, i = .int .i64 k ∧ k ≤ 0 ∧ Hid (wr.heap[w.heap.size]? = some (.cells (wcur false [] 0) 25 (0, 0))) ∧ Hid (wr.heap[w.heap.size + 1]? = some (.cells (wcur false m k) 25 (0, 0))) ∧ Words C wr (.slice a3 0 c3) m ∧ Ext w wr) (fun i _ => 0 - (intOf i).toNat)
    case atStart => exact ⟨0, rfl, by omega, hb0, hb1, hv3.ext (ext_alloc _ _), hx2.out⟩
    case round =>
      obtain ⟨k, rfl, hk, hc0, hc1, hW, hE⟩ := hrel
      · obtain rfl : k = 0 := by omega
        have d0 := cell_of_block hc0.out 0
        have d1 := cell_of_block hc0.out 1
        have d2 := cell_of_block hc0.out 2
        have d3 := cell_of_block hc0.out 3
        have d4 := cell_of_block hc0.out 4
        have f0 := free_of_block hc0.out 0
        have f1 := free_of_block hc0.out 1
        have f2 := free_of_block hc0.out 2
        have f3 := free_of_block hc0.out 3
        have f4 := free_of_block hc0.out 4
        have e0 := cell_of_block hc1.out 0
        have e1 := cell_of_block hc1.out 1
        have e2 := cell_of_block hc1.out 2
        have e3 := cell_of_block hc1.out 3
        have e4 := cell_of_block hc1.out 4
        simp only [wcur] at d0 d1 d2 d3 d4 e0 e1 e2 e3 e4
        go_wp2
        refine bodyPost_ret (v := .tuple #[.agg (wcur false m 0), .bool true]) (by simp [results, Tryd.results58, go_sem, d0, d1, d2, d3, d4, wcur]) rfl ⟨?_, ?_⟩
        · have e := HK.out
          rw [HZ.out, ← wcur_all, e.1, e.2]
        · exact ext_set (ext_set (ext_set (ext_set (ext_set hE (Nat.le_refl _) _ _) (Nat.le_refl _) _ _) (Nat.le_refl _) _ _) (Nat.le_refl _) _ _) (Nat.le_refl _) _ _
  · have hd : decide (n ≠ 0) = true := by simp; omega
    have HZ : Hid (natV (true && decide (n ≠ 0)) n = natV true n) := by rw [hd]; exact rfl
    clear hd hz hL
    have hb0 := hide (show ((w.alloc (.cells (wcur false [] 0) 25)).alloc (.cells (wcur true m 0) 25)).heap[w.heap.size]? = some (.cells (wcur false [] 0) 25 (0, 0)) from (two_blocks _ _ _).1)
    have hb1 := hide (show ((w.alloc (.cells (wcur false [] 0) 25)).alloc (.cells (wcur true m 0) 25)).heap[w.heap.size + 1]? = some (.cells (wcur true m 0) 25 (0, 0)) from (two_blocks _ _ _).2)
    have hx2 := hide ((ext_alloc w (.cells (wcur false [] 0) 25)).trans (ext_alloc _ (.cells (wcur true m 0) 25)))
    have HK : Hid (limbs n = m ∧ m.length = L) := ⟨HM.out, HL.out⟩
    go_enter Tryd.func58, Tryd.ntmps58
    go_wp2_with (go_at_call 81; refine (trim_any _ _ _ _ (h.ext (ext_alloc w _))).mono ?_; rintro e w' ⟨v3, rfl, hv3, rfl⟩; rw [HN.out] at hv3; obtain ⟨a3, c3, rfl, h3a, h3b, _⟩ := hv3.shape L HL.out)
    go_loopw [7] (fun i wr => ∃ k : Nat, i = .int .i64 k ∧ k ≤ L ∧ Hid (wr.heap[w.heap.size]? = some (.cells (wcur false [] 0) 25 (0, 0))) ∧ Hid (wr.heap[w.heap.size + 1]? = some (.cells (wcur true m k) 25 (0, 0))) ∧ Words C wr (.slice a3 L c3) m ∧ Ext w wr) (fun i _ => L - (intOf i).toNat)
    case atStart => exact ⟨0, rfl, by omega, hb0, hb1, hv3.ext (ext_alloc _ _), hx2.out⟩
    case round =>
      obtain ⟨k, rfl, hk, hc0, hc1, hW, hE⟩ := hrel
      by_cases hkl : k < L
      · obtain ⟨g, rfl, hg0, hg, cg, fg⟩ := hW.at k (by rw [HK.out.2]; exact hkl)
        have HS : Hid ((wcur true m k).setIfInBounds (k + 1) (.int .u64 ((m[k]'(by rw [HK.out.2]; exact hkl) : Nat) : Int)) = wcur true m (k + 1)) := wcur_set true m k (by omega) (by rw [HK.out.2]; exact hkl)
        obtain ⟨x, hx⟩ : ∃ x, m[k]'(by rw [HK.out.2]; exact hkl) = x := ⟨_, rfl⟩
        rw [hx] at cg HS
        clear hx
        have hfr := free_of_block hc1.out (k + 1)
        have hsz : 1 + k = k + 1 := by omega
        have hk4 : (k : Int) < 4 := by omega
        have hce : wr.cell? ⟨w.heap.size + 1, k + 1, none⟩ = some (.int .u64 0) := by rw [cell_of_block hc1.out, wcur_zero _ _ _ (by omega)]
        have H0 := hide (show (wr.setCell ⟨w.heap.size + 1, k + 1, none⟩ (.int .u64 (x : Int))).heap[w.heap.size]? = some (.cells (wcur false [] 0) 25 (0, 0)) from (heap_setCell_other wr ⟨w.heap.size + 1, k + 1, none⟩ w.heap.size _ (by simp)).trans hc0.out)
        have H1 : Hid ((wr.setCell ⟨w.heap.size + 1, k + 1, none⟩ (.int .u64 (x : Int))).heap[w.heap.size + 1]? = some (.cells (wcur true m (k + 1)) 25 (0, 0))) := by rw [← HS.out]; exact store_block hc1.out _ _
        have HW := hide (hW.store_other hc1.out (k + 1) (.int .u64 (x : Int)))
        have HE := hide (ext_set hE (g := w.heap.size + 1) (by omega) (k + 1) (.int .u64 (x : Int)))
        go_wp2
        exact ⟨⟨k + 1, by go_num, by omega, H0, H1, HW.out, HE.out⟩, by simp [intOf]; omega⟩
      · obtain rfl : k = L := by omega
        have d0 := cell_of_block hc0.out 0
        have d1 := cell_of_block hc0.out 1
        have d2 := cell_of_block hc0.out 2
        have d3 := cell_of_block hc0.out 3
        have d4 := cell_of_block hc0.out 4
        have f0 := free_of_block hc0.out 0
        have f1 := free_of_block hc0.out 1
        have f2 := free_of_block hc0.out 2
        have f3 := free_of_block hc0.out 3
        have f4 := free_of_block hc0.out 4
        have e0 := cell_of_block hc1.out 0
        have e1 := cell_of_block hc1.out 1
        have e2 := cell_of_block hc1.out 2
        have e3 := cell_of_block hc1.out 3
        have e4 := cell_of_block hc1.out 4
        simp only [wcur] at d0 d1 d2 d3 d4 e0 e1 e2 e3 e4
        go_wp2
        refine bodyPost_ret (v := .tuple #[.agg (wcur true m k), .bool true]) (by simp [results, Tryd.results58, go_sem, d0, d1, d2, d3, d4, wcur]) rfl ⟨?_, ?_⟩
        · have e := HK.out
          rw [HZ.out, ← wcur_all, e.1, e.2]
        · exact ext_set (ext_set (ext_set (ext_set (ext_set hE (Nat.le_refl _) _ _) (Nat.le_refl _) _ _) (Nat.le_refl _) _ _) (Nat.le_refl _) _ _) (Nat.le_refl _) _ _
theorem wide_over (C : Nat) (s : Bool) (v : Value) (l : List Nat) (n : Nat) (w : World) (h : Words C w v l) (hn : val l = n) (hf : 4 < (limbs n).length) :
    Calls Tryd.prog 58 #[.bool s, v] w (Wide4 (natV false 0) false w) := by
  obtain ⟨m, hm⟩ : ∃ m, limbs n = m := ⟨_, rfl⟩
  obtain ⟨L, hL⟩ : ∃ L, m.length = L := ⟨_, rfl⟩
  rw [hm, hL] at hf
  have HN : Hid (limbs (val l) = m) := by rw [hn]; exact hm
  have HL := hide hL
  have HX := hide (ext_alloc w (.cells #[.bool false, .int .u64 0, .int .u64 0, .int .u64 0, .int .u64 0] 25))
  clear hm hn hL
  go_enter Tryd.func58, Tryd.ntmps58
  go_wp2_with (go_at_call 81; refine (trim_any _ _ _ _ (h.ext (ext_alloc w _))).mono ?_; rintro e w' ⟨v3, rfl, hv3, rfl⟩; rw [HN.out] at hv3; obtain ⟨a3, c3, rfl, h3a, h3b, _⟩ := hv3.shape L HL.out)
  exact bodyPost_ret (v := .tuple #[natV false 0, .bool false]) (by simp [results, Tryd.results58, go_sem, natV, wideV]) rfl ⟨rfl, HX.out⟩
/-- Five cells that stand for the number z, whether they are valid or not. -/
def IsW (s : Bool) (a b c d : Nat) (z : Int) : Prop := a < 18446744073709551616 ∧ b < 18446744073709551616 ∧ c < 18446744073709551616 ∧ d < 18446744073709551616 ∧ z = if s then -(mag4 a b c d : Int) else (mag4 a b c d : Int)
/-- .. and are valid. -/
def IsC (s : Bool) (a b c d : Nat) (z : Int) : Prop := IsW s a b c d z ∧ (s = true → z ≠ 0)
theorem IsC.uniq {s s' : Bool} {a b c d a' b' c' d' : Nat} {z : Int} (h : IsC s a b c d z) (k : IsC s' a' b' c' d' z) : s = s' ∧ a = a' ∧ b = b' ∧ c = c' ∧ d = d' := by
  obtain ⟨⟨h1, h2, h3, h4, h5⟩, h6⟩ := h
  obtain ⟨⟨k1, k2, k3, k4, k5⟩, k6⟩ := k
  simp only [mag4, val] at h5 k5
  cases s <;> cases s' <;> simp at * <;> omega
theorem natV_isC (s : Bool) (n : Nat) (h : (limbs n).length ≤ 4) : ∃ a b c d : Nat, natV (s && decide (n ≠ 0)) n = .agg #[.bool (s && decide (n ≠ 0)), .int .u64 (a : Int), .int .u64 (b : Int), .int .u64 (c : Int), .int .u64 (d : Int)] ∧ IsC (s && decide (n ≠ 0)) a b c d (if s then -(n : Int) else n) := by
  have h4 := limbs_len_le.1 h
  refine ⟨_, _, _, _, rfl, ⟨Nat.mod_lt _ (by omega), Nat.mod_lt _ (by omega), Nat.mod_lt _ (by omega), Nat.mod_lt _ (by omega), ?_⟩, ?_⟩
  · simp only [mag4, val]
    by_cases hn : n = 0
    · subst hn; simp
    · cases s <;> simp [hn] <;> omega
  · cases s <;> simp
/-- A Wide and a bool are returned: z and true if it fits, else 0 and false. -/
def WideRet (z : Int) (w : World) (e : Ending) (w' : World) : Prop := ∃ (s : Bool) (a b c d : Nat) (o : Bool), e = .returned (.tuple #[.agg #[.bool s, .int .u64 (a : Int), .int .u64 (b : Int), .int .u64 (c : Int), .int .u64 (d : Int)], .bool o]) ∧
  o = decide (z.natAbs < 115792089237316195423570985008687907853269984665640564039457584007913129639936) ∧ IsC s a b c d (if z.natAbs < 115792089237316195423570985008687907853269984665640564039457584007913129639936 then z else 0) ∧ Ext w w'
theorem ref_wide (C : Nat) (s : Bool) (v : Value) (l : List Nat) (w : World) (h : Words C w v l) :
    Calls Tryd.prog 58 #[.bool s, v] w (WideRet (if s then -(val l : Int) else (val l : Int)) w) := by
  have hz : (if s then -(val l : Int) else (val l : Int)).natAbs = val l := by cases s <;> simp
  by_cases hf : (limbs (val l)).length ≤ 4
  · have h4 : val l < 115792089237316195423570985008687907853269984665640564039457584007913129639936 := limbs_len_le.1 hf
    obtain ⟨a, b, c, d, e, hc⟩ := natV_isC s (val l) hf
    refine (wide_fits C s v l (val l) w h rfl hf).mono ?_
    rintro e' w' ⟨rfl, hE⟩
    refine ⟨_, a, b, c, d, true, by rw [e], by rw [hz]; simp [h4], ?_, hE⟩
    rw [hz, if_pos h4]; exact hc
  · have h4 : ¬ val l < 115792089237316195423570985008687907853269984665640564039457584007913129639936 := fun e => hf (limbs_len_le.2 e)
    refine (wide_over C s v l (val l) w h rfl (by omega)).mono ?_
    rintro e' w' ⟨rfl, hE⟩
    refine ⟨false, 0, 0, 0, 0, false, by simp [natV, wideV], by rw [hz]; simp [h4], ?_, hE⟩
    rw [hz, if_neg h4]; exact ⟨⟨by omega, by omega, by omega, by omega, by simp [mag4, val]⟩, by simp⟩
end Go.Proofs.YtkhlhlldlikleaaDoor
