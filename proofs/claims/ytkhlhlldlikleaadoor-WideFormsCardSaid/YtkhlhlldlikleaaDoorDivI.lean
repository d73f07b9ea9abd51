/- divWords of the program where the divisor is greater, or has one word. Conditions: the words are of 64 bits; the divisor is not 0. -/
import Derived.Test.YtkhlhlldlikleaaDoorDivH
namespace Go.Proofs.YtkhlhlldlikleaaDoor
set_option linter.unusedVariables false
set_option linter.unusedSimpArgs false
open Go Go.RowKit
def TwoWords (q r : Nat) (w : World) (e : Ending) (w' : World) : Prop := ∃ a b c d e' f g h : Nat, e = .returned (.tuple #[.agg #[.int .u64 (a : Int), .int .u64 (b : Int), .int .u64 (c : Int), .int .u64 (d : Int)], .agg #[.int .u64 (e' : Int), .int .u64 (f : Int), .int .u64 (g : Int), .int .u64 (h : Int)]]) ∧ W64 [a, b, c, d] ∧ W64 [e', f, g, h] ∧ mag4 a b c d = q ∧ mag4 e' f g h = r ∧ Ext w w'
theorem four_words (w : World) (a b c d e f g h : Nat) : ∃ W, ((((w.alloc (.cells #[.int .u64 (a : Int), .int .u64 (b : Int), .int .u64 (c : Int), .int .u64 (d : Int)] 59)).alloc (.cells #[.int .u64 (e : Int), .int .u64 (f : Int), .int .u64 (g : Int), .int .u64 (h : Int)] 59)).alloc (.cells #[.int .u64 0, .int .u64 0, .int .u64 0, .int .u64 0] 59)).alloc (.cells #[.int .u64 0, .int .u64 0, .int .u64 0, .int .u64 0] 59)) = W ∧
    Arr W w.heap.size 59 [a, b, c, d] ∧ Arr W (w.heap.size + 1) 59 [e, f, g, h] ∧ Arr W (w.heap.size + 1 + 1) 59 [0, 0, 0, 0] ∧ Arr W (w.heap.size + 1 + 1 + 1) 59 [0, 0, 0, 0] ∧ Ext w W := by
  have h := four_new w (.cells #[.int .u64 (a : Int), .int .u64 (b : Int), .int .u64 (c : Int), .int .u64 (d : Int)] 59) (.cells #[.int .u64 (e : Int), .int .u64 (f : Int), .int .u64 (g : Int), .int .u64 (h : Int)] 59) (.cells #[.int .u64 0, .int .u64 0, .int .u64 0, .int .u64 0] 59) (.cells #[.int .u64 0, .int .u64 0, .int .u64 0, .int .u64 0] 59)
  exact ⟨_, rfl, h.1, h.2.1, h.2.2.1, h.2.2.2, (((ext_alloc _ _).trans (ext_alloc _ _)).trans (ext_alloc _ _)).trans (ext_alloc _ _)⟩
set_option maxHeartbeats 2000000 in
theorem p_divWords_lt (a b c d e f g h n m : Nat) (hn : mag4 a b c d = n) (hm : mag4 e f g h = m) (w : World) (hw : W64 [a, b, c, d]) (hw' : W64 [e, f, g, h]) (hlt : n < m) :
    Calls Tryd.prog 49 #[.agg #[.int .u64 (a : Int), .int .u64 (b : Int), .int .u64 (c : Int), .int .u64 (d : Int)], .agg #[.int .u64 (e : Int), .int .u64 (f : Int), .int .u64 (g : Int), .int .u64 (h : Int)]] w (TwoWords (n / m) (n % m) w) := by
  obtain ⟨W, hW, A0, A1, A2, A3, E0⟩ := four_words w a b c d e f g h
  have HW := hide hW
  have HS : Hid (sgnN n m = -1) := if_pos hlt
  have HQ : Hid (mag4 0 0 0 0 = n / m ∧ mag4 a b c d = n % m) := ⟨by rw [Nat.div_eq_of_lt hlt]; rfl, by rw [Nat.mod_eq_of_lt hlt]; exact hn⟩
  have HN := hide hn
  have HM := hide hm
  obtain ⟨c0, c1, c2, c3, f0, f1, f2, f3⟩ := A0.four
  obtain ⟨d0, d1, d2, d3, g0, g1, g2, g3⟩ := A1.four
  clear hW hn hm hlt
  go_enter Tryd.func49, Tryd.ntmps49
  go_upto_region 1 with fail
  rw [HW.out]
  clear HW
  go_wp2_with (go_at_call 46; refine (p_cmpWords a b c d e f g h n m HN.out HM.out _ hw hw').mono ?_; rintro e' w' ⟨rfl, hE⟩; rw [HS.out]; have R0 := A0.ext hE; have R2 := A2.ext hE; have R3 := A3.ext hE; obtain ⟨c0, c1, c2, c3, f0, f1, f2, f3⟩ := R0.four; obtain ⟨i0, i1, i2, i3, j0, j1, j2, j3⟩ := R2.four; obtain ⟨k0, k1, k2, k3, l0, l1, l2, l3⟩ := R3.four; have E1 := E0.trans hE; clear hE)
  go_region
  all_goals go_wp2_with fail
  all_goals exact bodyPost_ret (v := .tuple #[.agg #[.int .u64 0, .int .u64 0, .int .u64 0, .int .u64 0], .agg #[.int .u64 (a : Int), .int .u64 (b : Int), .int .u64 (c : Int), .int .u64 (d : Int)]]) (by simp [results, Tryd.results49, go_sem, i0, i1, i2, i3, k0, k1, k2, k3]) rfl ⟨0, 0, 0, 0, a, b, c, d, rfl, (by intro x hx; simp at hx; omega), hw, HQ.out.1, HQ.out.2, (ext_four (ext_four E1 (by omega) _ _ _ _) (by omega) _ _ _ _).trans (ext_drew _)⟩
set_option maxHeartbeats 2000000 in
theorem p_divWords_one (a b c d e f g h n m : Nat) (hn : mag4 a b c d = n) (hm : mag4 e f g h = m) (w : World) (hw : W64 [a, b, c, d]) (hw' : W64 [e, f, g, h]) (hlt : ¬ n < m) (hlen : (limbs m).length = 1) :
    Calls Tryd.prog 49 #[.agg #[.int .u64 (a : Int), .int .u64 (b : Int), .int .u64 (c : Int), .int .u64 (d : Int)], .agg #[.int .u64 (e : Int), .int .u64 (f : Int), .int .u64 (g : Int), .int .u64 (h : Int)]] w (TwoWords (n / m) (n % m) w) := by
  obtain ⟨W, hW, A0, A1, A2, A3, E0⟩ := four_words w a b c d e f g h
  have hml : m < 18446744073709551616 := by have := (limbs_len_le (n := m) (k := 1)).1 (by omega); simpa using this
  have hem : e = m := by simp only [mag4, val] at hm; omega
  have he := (w64_four hw').1
  have hm0 : 0 < e := by
    rcases Nat.eq_zero_or_pos m with h0 | h0
    · rw [h0, limbs_zero] at hlen; simp at hlen
    · omega
  have HEM := hide hem
  have h01 : (0 : Int) ≤ sgnN n m := by unfold sgnN; rw [if_neg hlt]; split <;> omega
  obtain ⟨q, hq⟩ : ∃ q, sgnN n m = q := ⟨_, rfl⟩
  rw [hq] at h01
  have HS := hide hq
  have HLN := hide hlen
  have HW := hide hW
  have HN := hide hn
  have HM := hide hm
  obtain ⟨c0, c1, c2, c3, f0, f1, f2, f3⟩ := A0.four
  obtain ⟨d0, d1, d2, d3, g0, g1, g2, g3⟩ := A1.four
  clear hW hn hm hem hlt hq hlen hml
  go_enter Tryd.func49, Tryd.ntmps49
  go_upto_region 1 with fail
  rw [HW.out]
  clear HW
  go_wp2_with (first
    | (go_at_call 46; refine (p_cmpWords a b c d e f g h n m HN.out HM.out _ hw hw').mono ?_; rintro e' w' ⟨rfl, hE⟩; rw [HS.out]; have R0 := A0.ext hE; have R1 := A1.ext hE; have R2 := A2.ext hE; have R3 := A3.ext hE; obtain ⟨c0, c1, c2, c3, f0, f1, f2, f3⟩ := R0.four; obtain ⟨d0, d1, d2, d3, g0, g1, g2, g3⟩ := R1.four; have E1 := E0.trans hE; clear hE)
    | (go_at_call 67; refine (p_length e f g h m HM.out _ hw').mono ?_; rintro e' w' ⟨rfl, hE⟩; rw [HLN.out]; have R0 := R0.ext hE; have R1 := R1.ext hE; have R2 := R2.ext hE; have R3 := R3.ext hE; obtain ⟨c0, c1, c2, c3, f0, f1, f2, f3⟩ := R0.four; obtain ⟨d0, d1, d2, d3, g0, g1, g2, g3⟩ := R1.four; have E1 := E1.trans hE; clear hE)
    | (go_at_call 51; refine (p_divWord a b c d n e HN.out _ hw hm0 he).mono ?_; rintro e' w' ⟨a1, b1, c1', d1', r, rfl, hw1, hq, hr, hE⟩; rw [HEM.out] at hq hr; have HQ := hide hq; have HR := hide hr; have R2 := R2.ext hE; have R3 := R3.ext hE; obtain ⟨i0, i1, i2, i3, j0, j1, j2, j3⟩ := R2.four; obtain ⟨k0, k1, k2, k3, l0, l1, l2, l3⟩ := R3.four; have E1 := E1.trans hE; have y2 := R2.lt; have y3 := R3.lt; clear hE hq hr))
  all_goals exact bodyPost_ret (v := .tuple #[.agg #[.int .u64 (a1 : Int), .int .u64 (b1 : Int), .int .u64 (c1' : Int), .int .u64 (d1' : Int)], .agg #[.int .u64 (r : Int), .int .u64 0, .int .u64 0, .int .u64 0]]) (by simp [results, Tryd.results49, go_sem, i0, i1, i2, i3, k0, k1, k2, k3, y2, y3]) rfl ⟨a1, b1, c1', d1', r, 0, 0, 0, rfl, hw1, (by have := HR.out; have := Nat.mod_lt n (show 0 < m by rw [← HEM.out]; exact hm0); have := HEM.out; intro x hx; simp at hx; omega), HQ.out, (by have := HR.out; simp [mag4, val]; exact this), (ext_four (ext_four E1 (by omega) _ _ _ _) (by omega) _ _ _ _).trans (ext_alloc _ _)⟩
end Go.Proofs.YtkhlhlldlikleaaDoor
