/- addWords and subWords of the program. Condition: the words are of 64 bits; what is subtracted is not greater. -/
import Derived.Test.YtkhlhlldlikleaaDoorWrdC
namespace Go.Proofs.YtkhlhlldlikleaaDoor
set_option linter.unusedVariables false
set_option linter.unusedSimpArgs false
open Go Go.RowKit
theorem p4 : 18446744073709551616 ^ 4 = 115792089237316195423570985008687907853269984665640564039457584007913129639936 := by decide
/-- Words and a bool are returned. -/
def WordsRet (n : Nat) (o : Bool) (w : World) (e : Ending) (w' : World) : Prop := ∃ a b c d : Nat, e = .returned (.tuple #[.agg #[.int .u64 (a : Int), .int .u64 (b : Int), .int .u64 (c : Int), .int .u64 (d : Int)], .bool o]) ∧ W64 [a, b, c, d] ∧ mag4 a b c d = n ∧ Ext w w'
def WordsOnly (n : Nat) (w : World) (e : Ending) (w' : World) : Prop := ∃ a b c d : Nat, e = .returned (.agg #[.int .u64 (a : Int), .int .u64 (b : Int), .int .u64 (c : Int), .int .u64 (d : Int)]) ∧ W64 [a, b, c, d] ∧ mag4 a b c d = n ∧ Ext w w'
theorem three_words (w : World) (a b c d e f g h : Nat) (T : TypeId) : ∃ W, (((w.alloc (.cells #[.int .u64 (a : Int), .int .u64 (b : Int), .int .u64 (c : Int), .int .u64 (d : Int)] 59)).alloc (.cells #[.int .u64 (e : Int), .int .u64 (f : Int), .int .u64 (g : Int), .int .u64 (h : Int)] 59)).alloc (.cells #[.int .u64 0, .int .u64 0, .int .u64 0, .int .u64 0] T)) = W ∧
    Arr W w.heap.size 59 [a, b, c, d] ∧ Arr W (w.heap.size + 1) 59 [e, f, g, h] ∧ Arr W (w.heap.size + 1 + 1) T [0, 0, 0, 0] ∧ Ext w W := by
  have h := three_boxes w (.cells #[.int .u64 (a : Int), .int .u64 (b : Int), .int .u64 (c : Int), .int .u64 (d : Int)] 59) (.cells #[.int .u64 (e : Int), .int .u64 (f : Int), .int .u64 (g : Int), .int .u64 (h : Int)] 59) (.cells #[.int .u64 0, .int .u64 0, .int .u64 0, .int .u64 0] T)
  exact ⟨_, rfl, h.1, h.2.1, h.2.2, ((ext_alloc _ _).trans (ext_alloc _ _)).trans (ext_alloc _ _)⟩
theorem ext_four {W w : World} (h : Ext W w) {b : Nat} (hb : W.heap.size ≤ b) (u0 u1 u2 u3 : Value) : Ext W ((((w.setCell ⟨b, 0, none⟩ u0).setCell ⟨b, 1, none⟩ u1).setCell ⟨b, 2, none⟩ u2).setCell ⟨b, 3, none⟩ u3) :=
  ext_set (ext_set (ext_set (ext_set h hb _ _) hb _ _) hb _ _) hb _ _
set_option maxHeartbeats 1000000 in
theorem p_addWords (a b c d e f g h n m : Nat) (hn : mag4 a b c d = n) (hm : mag4 e f g h = m) (w : World) (hw : W64 [a, b, c, d]) (hw' : W64 [e, f, g, h]) :
    Calls Tryd.prog 45 #[.agg #[.int .u64 (a : Int), .int .u64 (b : Int), .int .u64 (c : Int), .int .u64 (d : Int)], .agg #[.int .u64 (e : Int), .int .u64 (f : Int), .int .u64 (g : Int), .int .u64 (h : Int)]] w
      (WordsRet ((n + m) % 115792089237316195423570985008687907853269984665640564039457584007913129639936) (decide (n + m < 115792089237316195423570985008687907853269984665640564039457584007913129639936)) w) := by
  obtain ⟨W, hW, A0, A1, A2, E0⟩ := three_words w a b c d e f g h 59
  obtain ⟨o, ho⟩ : ∃ o, decide (n + m < 115792089237316195423570985008687907853269984665640564039457584007913129639936) = o := ⟨_, rfl⟩
  have HW := hide hW
  have HN := hide hn
  have HM := hide hm
  have HO := hide ho
  rw [ho]
  clear hW hn hm ho
  go_enter Tryd.func45, Tryd.ntmps45
  go_upto_region 1 with fail
  rw [HW.out]
  clear HW
  go_region_with (go_at_call 63; refine (p_addTo w.heap.size 0 4 4 (w.heap.size + 1) 0 4 4 59 [] [a, b, c, d] [] [e, f, g, h] _ A0.drew rfl rfl rfl ((show Arr W _ _ ([] ++ [e, f, g, h] ++ []) from A1).reads rfl |>.ext (ext_drew _)) (by omega) (by omega) (by omega) hw hw').mono ?_; rintro e' w' ⟨c', os, rfl, hc', hl, hws, hv, hA', hU⟩; obtain ⟨a1, b1, c1, d1, rfl⟩ := four_list hl; have B0 : Arr w' w.heap.size 59 [a1, b1, c1, d1] := hA'; have B2 := A2.drew.upd hU (by omega); have E1 := hU.ext (E0.trans (ext_drew _)) (Nat.le_refl _); have HV := hide hv; clear hv hA' hU; obtain ⟨c0, c1', c2, c3, f0, f1, f2, f3⟩ := B0.four; obtain ⟨d0, d1', d2, d3, g0, g1, g2, g3⟩ := B2.four)
  all_goals go_wp2_with fail
  all_goals refine bodyPost_ret (v := .tuple #[.agg #[.int .u64 (a1 : Int), .int .u64 (b1 : Int), .int .u64 (c1 : Int), .int .u64 (d1 : Int)], .bool ((c' : Int) == 0)]) (by simp [results, Tryd.results45, go_sem, d0, d1', d2, d3]) rfl ⟨a1, b1, c1, d1, ?_, hws, ?_, ext_four E1 (by omega) _ _ _ _⟩
  · have h1 : val [a1, b1, c1, d1] + 115792089237316195423570985008687907853269984665640564039457584007913129639936 * c' = n + m := by have hv := HV.out; rw [p4] at hv; rw [← HN.out, ← HM.out]; exact hv
    have h2 : val [a1, b1, c1, d1] < 115792089237316195423570985008687907853269984665640564039457584007913129639936 := by have h2 := val_lt _ hws; rw [hl, p4] at h2; exact h2
    have e : ((c' : Int) == 0) = o := by
      rw [← HO.out]
      rcases (by omega : c' = 0 ∨ c' = 1) with h0 | h0
      · rw [decide_eq_true (by omega), h0]; rfl
      · rw [decide_eq_false (by omega), h0]; rfl
    rw [e]
  · have h1 : val [a1, b1, c1, d1] + 115792089237316195423570985008687907853269984665640564039457584007913129639936 * c' = n + m := by have hv := HV.out; rw [p4] at hv; rw [← HN.out, ← HM.out]; exact hv
    have h2 : val [a1, b1, c1, d1] < 115792089237316195423570985008687907853269984665640564039457584007913129639936 := by have h2 := val_lt _ hws; rw [hl, p4] at h2; exact h2
    have h3 : mag4 a1 b1 c1 d1 = val [a1, b1, c1, d1] := rfl
    rw [h3, ← h1, Nat.add_mul_mod_self_left, Nat.mod_eq_of_lt h2]
set_option maxHeartbeats 1000000 in
theorem p_subWords (a b c d e f g h n m : Nat) (hn : mag4 a b c d = n) (hm : mag4 e f g h = m) (w : World) (hw : W64 [a, b, c, d]) (hw' : W64 [e, f, g, h]) (hle : m ≤ n) :
    Calls Tryd.prog 47 #[.agg #[.int .u64 (a : Int), .int .u64 (b : Int), .int .u64 (c : Int), .int .u64 (d : Int)], .agg #[.int .u64 (e : Int), .int .u64 (f : Int), .int .u64 (g : Int), .int .u64 (h : Int)]] w (WordsOnly (n - m) w) := by
  obtain ⟨W, hW, A0, A1, A2, E0⟩ := three_words w a b c d e f g h 59
  obtain ⟨L, hL⟩ : ∃ L, L = [a, b, c, d] := ⟨_, rfl⟩
  obtain ⟨M, hM⟩ : ∃ M, M = [e, f, g, h] := ⟨_, rfl⟩
  have HL : Hid (L.length = 4) := by rw [hL]; exact rfl
  have HM : Hid (M.length = 4) := by rw [hM]; exact rfl
  have VL : Hid (val L = n) := by rw [hL]; exact hn
  have VM : Hid (val M = m) := by rw [hM]; exact hm
  rw [← hL] at A0 hw
  rw [← hM] at A1 hw'
  have HW := hide hW
  clear hW hn hm hL hM
  go_enter Tryd.func47, Tryd.ntmps47
  go_wp2_with fail
  rw [HW.out]
  clear HW
  go_loopw [7, 5] (fun i t wr => ∃ (k c : Nat) (os : List Nat), i = .int .i64 k ∧ t = .int .u64 c ∧ k ≤ 4 ∧ c ≤ 1 ∧ Hid (SubRel L M os k c) ∧ W64 os ∧ Arr wr w.heap.size 59 os ∧ Upd w.heap.size W wr) (fun i _ _ => 4 - (intOf i).toNat)
  case atStart => exact ⟨0, 0, L, rfl, rfl, by omega, by omega, ⟨rfl, rfl, by omega, by simp [val]⟩, hw, A0, Upd.refl _ _⟩
  case round =>
    obtain ⟨k, c, os, rfl, rfl, hk, hc, HR, wo, hA, hU⟩ := hrel
    have HO : Hid (os.length = 4) := HR.out.1.trans HL.out
    have B1 := A1.upd hU (by omega)
    by_cases hk4 : k < 4
    · have hkn : k < os.length := by rw [HO.out]; omega
      have cg := hA.at k hkn
      have fg := hA.free k
      have cb := B1.at k (by rw [HM.out]; omega)
      obtain ⟨x, hx⟩ : ∃ x, os[k] = x := ⟨_, rfl⟩
      obtain ⟨y, hy⟩ : ∃ y, M[k]'(by rw [HM.out]; omega) = y := ⟨_, rfl⟩
      rw [hx] at cg
      rw [hy] at cb
      have HX : Hid (x = L[k]'(by rw [HL.out]; omega)) := by rw [← hx]; exact (drop_get HR.out.2.1 hkn (by rw [HL.out]; omega)).1
      have HY : Hid (M.getD k 0 = y) := by rw [← hy]; simp [Hid, List.getD, show k < M.length by rw [HM.out]; omega]
      clear hx hy
      have hadd := sub64_run x y c hc
      have HS : Hid (SubRel L M (os.set k ((x + 18446744073709551616 - y - c) % 18446744073709551616)) (k + 1) (if x < y + c then 1 else 0)) := by
        have := HR.out.step (by rw [HL.out]; omega) hw hw'
        rw [← HX.out, HY.out] at this
        exact this
      have HA := hide (hA.set k ((x + 18446744073709551616 - y - c) % 18446744073709551616))
      have HU := hide (hU.set k (.int .u64 (((x + 18446744073709551616 - y - c) % 18446744073709551616 : Nat) : Int)))
      have w2 := w64_set wo k ((x + 18446744073709551616 - y - c) % 18446744073709551616) (by omega)
      go_wp2
      go_region
      go_wp2
      exact ⟨⟨k + 1, _, _, by go_num, by (first | rfl | go_num | simp), by omega, HS.out.2.2.1, HS, w2, HA.out, HU.out.drew⟩, by first | (simp [intOf]; done) | (simp [intOf]; omega)⟩
    · obtain rfl : k = 4 := by omega
      have H1 : Hid (val os = n - m) := by
        have h1 := HR.out
        rw [show 4 = L.length from HL.out.symm] at h1
        have := h1.done (by rw [HM.out, HL.out]; omega) wo (by rw [VL.out, VM.out]; exact hle)
        rwa [VL.out, VM.out] at this
      have B2 := A2.upd hU (by omega)
      have E1 := hU.ext E0 (Nat.le_refl _)
      obtain ⟨a1, b1, c1, d1, rfl⟩ := four_list HO.out
      obtain ⟨c0, c1', c2, c3, f0, f1, f2, f3⟩ := hA.four
      obtain ⟨d0, d1', d2, d3, g0, g1, g2, g3⟩ := B2.four
      clear hU hA B2 B1
      go_wp2
      exact bodyPost_ret (v := .agg #[.int .u64 (a1 : Int), .int .u64 (b1 : Int), .int .u64 (c1 : Int), .int .u64 (d1 : Int)]) (by simp [results, Tryd.results47, go_sem, d0, d1', d2, d3]) rfl ⟨a1, b1, c1, d1, rfl, wo, H1.out, ext_four E1 (by omega) _ _ _ _⟩
end Go.Proofs.YtkhlhlldlikleaaDoor
