/- addWords and subWords of the program. Condition: the words are of 64 bits; what is subtracted is not greater. -/
import Derived.Test.YtbnbkondbdakeaaWrd1
import Derived.Test.YtbnbkondbdakeaaMagJ
namespace Go.Proofs.Ytbnbkondbdakeaa
set_option linter.unusedVariables false
set_option linter.unusedSimpArgs false
open Go Go.RowKit
theorem p4 : 18446744073709551616 ^ 4 = 115792089237316195423570985008687907853269984665640564039457584007913129639936 := by decide
/-- Words and a bool are returned. -/
def WordsRet (n : Nat) (o : Bool) (w : World) (e : Ending) (w' : World) : Prop := ∃ a b c d : Nat, e = .returned (.tuple #[.agg #[.int .u64 (a : Int), .int .u64 (b : Int), .int .u64 (c : Int), .int .u64 (d : Int)], .bool o]) ∧ W64 [a, b, c, d] ∧ mag4 a b c d = n ∧ Ext w w'
def WordsOnly (n : Nat) (w : World) (e : Ending) (w' : World) : Prop := ∃ a b c d : Nat, e = .returned (.agg #[.int .u64 (a : Int), .int .u64 (b : Int), .int .u64 (c : Int), .int .u64 (d : Int)]) ∧ W64 [a, b, c, d] ∧ mag4 a b c d = n ∧ Ext w w'
theorem three_words (w : World) (a b c d e f g h : Nat) (T : TypeId) : ∃ W, (((w.alloc (.cells #[.int .u64 (a : Int), .int .u64 (b : Int), .int .u64 (c : Int), .int .u64 (d : Int)] 118)).alloc (.cells #[.int .u64 (e : Int), .int .u64 (f : Int), .int .u64 (g : Int), .int .u64 (h : Int)] 118)).alloc (.cells #[.int .u64 0, .int .u64 0, .int .u64 0, .int .u64 0] T)) = W ∧
    Arr W w.heap.size 118 [a, b, c, d] ∧ Arr W (w.heap.size + 1) 118 [e, f, g, h] ∧ Arr W (w.heap.size + 1 + 1) T [0, 0, 0, 0] ∧ Ext w W := by
  have h := three_boxes w (.cells #[.int .u64 (a : Int), .int .u64 (b : Int), .int .u64 (c : Int), .int .u64 (d : Int)] 118) (.cells #[.int .u64 (e : Int), .int .u64 (f : Int), .int .u64 (g : Int), .int .u64 (h : Int)] 118) (.cells #[.int .u64 0, .int .u64 0, .int .u64 0, .int .u64 0] T)
  exact ⟨_, rfl, h.1, h.2.1, h.2.2, ((ext_alloc _ _).trans (ext_alloc _ _)).trans (ext_alloc _ _)⟩
theorem ext_four {W w : World} (h : Ext W w) {b : Nat} (hb : W.heap.size ≤ b) (u0 u1 u2 u3 : Value) : Ext W ((((w.setCell ⟨b, 0, none⟩ u0).setCell ⟨b, 1, none⟩ u1).setCell ⟨b, 2, none⟩ u2).setCell ⟨b, 3, none⟩ u3) :=
  ext_set (ext_set (ext_set (ext_set h hb _ _) hb _ _) hb _ _) hb _ _
set_option maxHeartbeats 1000000 in
theorem p_addWords (a b c d e f g h n m : Nat) (hn : mag4 a b c d = n) (hm : mag4 e f g h = m) (w : World) (hw : W64 [a, b, c, d]) (hw' : W64 [e, f, g, h]) :
    Calls Try.prog 114 #[.agg #[.int .u64 (a : Int), .int .u64 (b : Int), .int .u64 (c : Int), .int .u64 (d : Int)], .agg #[.int .u64 (e : Int), .int .u64 (f : Int), .int .u64 (g : Int), .int .u64 (h : Int)]] w
      (WordsRet ((n + m) % 115792089237316195423570985008687907853269984665640564039457584007913129639936) (decide (n + m < 115792089237316195423570985008687907853269984665640564039457584007913129639936)) w) := by
  obtain ⟨W, hW, A0, A1, A2, E0⟩ := three_words w a b c d e f g h 118
  obtain ⟨o, ho⟩ : ∃ o, decide (n + m < 115792089237316195423570985008687907853269984665640564039457584007913129639936) = o := ⟨_, rfl⟩
  have HW := hide hW
  have HN := hide hn
  have HM := hide hm
  have HO := hide ho
  rw [ho]
  clear hW hn hm ho
  go_enter Try.func114, Try.ntmps114
  go_upto_region 1 with fail
  rw [HW.out]
  clear HW
  go_region_with (go_at_call 143; refine (p_addTo w.heap.size 0 4 4 (w.heap.size + 1) 0 4 4 118 [] [a, b, c, d] [] [e, f, g, h] _ A0.drew rfl rfl rfl ((show Arr W _ _ ([] ++ [e, f, g, h] ++ []) from A1).reads rfl |>.ext (ext_drew _)) (by omega) (by omega) (by omega) hw hw').mono ?_; rintro e' w' ⟨c', os, rfl, hc', hl, hws, hv, hA', hU⟩; obtain ⟨a1, b1, c1, d1, rfl⟩ := four_list hl; have B0 : Arr w' w.heap.size 118 [a1, b1, c1, d1] := hA'; have B2 := A2.drew.upd hU (by omega); have E1 := hU.ext (E0.trans (ext_drew _)) (Nat.le_refl _); have HV := hide hv; clear hv hA' hU; obtain ⟨c0, c1', c2, c3, f0, f1, f2, f3⟩ := B0.four; obtain ⟨d0, d1', d2, d3, g0, g1, g2, g3⟩ := B2.four)
  all_goals go_wp2_with fail
  all_goals refine bodyPost_ret (v := .tuple #[.agg #[.int .u64 (a1 : Int), .int .u64 (b1 : Int), .int .u64 (c1 : Int), .int .u64 (d1 : Int)], .bool ((c' : Int) == 0)]) (by simp [results, Try.results114, go_sem, d0, d1', d2, d3]) rfl ⟨a1, b1, c1, d1, ?_, hws, ?_, ext_four E1 (by omega) _ _ _ _⟩
  · have h1 : val [a1, b1, c1, d1] + 115792089237316195423570985008687907853269984665640564039457584007913129639936 * c' = n + m := by have hv := HV.out; rw [p4] at hv; rw [← HN.out, ← HM.out]; exact hv
    have h2 : val [a1, b1, c1, d1] < 115792089237316195423570985008687907853269984665640564039457584007913129639936 := by have h2 := val_lt _ hws; rw [hl, p4] at h2; exact h2
    have e : ((c' : Int) == 0) = o := by
      rw [← HO.out]
      rcases (by omega : c' = 0 ∨ c' = 1) with h0 | h0
      · rw [decide_eq_true (by omega), h0]; rfl
      · rw [decide_eq_false (by omega), h0]; rfl
    rw [e]
  · have h1 : val [a1, b1, c1, d1] + 115792089237316195423570985008687907853269984665640564039457584007913129639936 * c' = n + m := by have hv := HV.out; rw [p4] at hv; rw [← HN.out, ← HM.out]; exact hv
    have h2 : val [a1, b1, c1, d1] < 115792089237316195423570985008687907853269984665640564039457584007913129639936 := by have h2 := val_lt _ hws; rw [hl, p4] at h2; exact h2
    have h3 : mag4 a1 b1 c1 d1 = val [a1, b1, c1, d1] := rfl
    rw [h3, ← h1, Nat.add_mul_mod_self_left, Nat.mod_eq_of_lt h2]
set_option maxHeartbeats 1000000 in
theorem p_subWords (a b c d e f g h n m : Nat) (hn : mag4 a b c d = n) (hm : mag4 e f g h = m) (w : World) (hw : W64 [a, b, c, d]) (hw' : W64 [e, f, g, h]) (hle : m ≤ n) :
    Calls Try.prog 115 #[.agg #[.int .u64 (a : Int), .int .u64 (b : Int), .int .u64 (c : Int), .int .u64 (d : Int)], .agg #[.int .u64 (e : Int), .int .u64 (f : Int), .int .u64 (g : Int), .int .u64 (h : Int)]] w (WordsOnly (n - m) w) := by
  obtain ⟨W, hW, A0, A1, A2, E0⟩ := three_words w a b c d e f g h 118
  obtain ⟨L, hL⟩ : ∃ L, L = [a, b, c, d] := ⟨_, rfl⟩
  obtain ⟨M, hM⟩ : ∃ M, M = [e, f, g, h] := ⟨_, rfl⟩
  have HL : Hid (L.length = 4) := by rw [hL]; exact rfl
  have HM : Hid (M.length = 4) := by rw [hM]; exact rfl
  have VL : Hid (val L = n) := by rw [hL]; exact hn
  have VM : Hid (val M = m) := by rw [hM]; exact hm
  rw [← hL] at A0 hw
  rw [← hM] at A1 hw'
  have HW := hide hW
  clear hW hn hm hL hM
  go_enter Try.func115, Try.ntmps115
  go_wp2_with fail
  rw [HW.out]
  clear HW
  go_loopw [7, 5] (fun i t wr => ∃ (k c : Nat) (os : List Nat), i = .int .i64 k ∧ t = .int .u64 c ∧ k ≤ 4 ∧ c ≤ 1 ∧ Hid (SubRel L M os k c) ∧ W64 os ∧ Arr wr w.heap.size 118 os ∧ Upd w.heap.size W wr) (fun i _ _ => 4 - (intOf i).toNat)
  case atStart => exact ⟨0, 0, L, rfl, rfl, by omega, by omega, ⟨rfl, rfl, by omega, by simp [val]⟩, hw, A0, Upd.refl _ _⟩
  case round =>
    obtain ⟨k, c, os, rfl, rfl, hk, hc, HR, wo, hA, hU⟩ := hrel
    have HO : Hid (os.length = 4) := HR.out.1.trans HL.out
    have B1 := A1.upd hU (by omega)
    by_cases hk4 : k < 4
    · have hkn : k < os.length := by rw [HO.out]; omega
      have cg := hA.at k hkn
      have fg := hA.free k
      have cb := B1.at k (by rw [HM.out]; omega)
      obtain ⟨x, hx⟩ : ∃ x, os[k] = x := ⟨_, rfl⟩
      obtain ⟨y, hy⟩ : ∃ y, M[k]'(by rw [HM.out]; omega) = y := ⟨_, rfl⟩
      rw [hx] at cg
      rw [hy] at cb
      have HX : Hid (x = L[k]'(by rw [HL.out]; omega)) := by rw [← hx]; exact (drop_get HR.out.2.1 hkn (by rw [HL.out]; omega)).1
      have HY : Hid (M.getD k 0 = y) := by rw [← hy]; simp [Hid, List.getD, show k < M.length by rw [HM.out]; omega]
      clear hx hy
      have hadd := sub64_run x y c hc
      have HS : Hid (SubRel L M (os.set k ((x + 18446744073709551616 - y - c) % 18446744073709551616)) (k + 1) (if x < y + c then 1 else 0)) := by
        have := HR.out.step (by rw [HL.out]; omega) hw hw'
        rw [← HX.out, HY.out] at this
        exact this
      have HA := hide (hA.set k ((x + 18446744073709551616 - y - c) % 18446744073709551616))
      have HU := hide (hU.set k (.int .u64 (((x + 18446744073709551616 - y - c) % 18446744073709551616 : Nat) : Int)))
      have w2 := w64_set wo k ((x + 18446744073709551616 - y - c) % 18446744073709551616) (by omega)
      go_wp2
      go_region
      go_wp2
      exact ⟨⟨k + 1, _, _, by go_num, by (first | rfl | go_num | simp), by omega, HS.out.2.2.1, HS, w2, HA.out, HU.out.drew⟩, by first | (simp [intOf]; done) | (simp [intOf]; omega)⟩
    · obtain rfl : k = 4 := by omega
      have H1 : Hid (val os = n - m) := by
        have h1 := HR.out
        rw [show 4 = L.length from HL.out.symm] at h1
        have := h1.done (by rw [HM.out, HL.out]; omega) wo (by rw [VL.out, VM.out]; exact hle)
        rwa [VL.out, VM.out] at this
      have B2 := A2.upd hU (by omega)
      have E1 := hU.ext E0 (Nat.le_refl _)
      obtain ⟨a1, b1, c1, d1, rfl⟩ := four_list HO.out
      obtain ⟨c0, c1', c2, c3, f0, f1, f2, f3⟩ := hA.four
      obtain ⟨d0, d1', d2, d3, g0, g1, g2, g3⟩ := B2.four
      clear hU hA B2 B1
      go_wp2
      exact bodyPost_ret (v := .agg #[.int .u64 (a1 : Int), .int .u64 (b1 : Int), .int .u64 (c1 : Int), .int .u64 (d1 : Int)]) (by simp [results, Try.results115, go_sem, d0, d1', d2, d3]) rfl ⟨a1, b1, c1, d1, rfl, wo, H1.out, ext_four E1 (by omega) _ _ _ _⟩
end Go.Proofs.Ytbnbkondbdakeaa
/- Sign, Neg, Of, OfUnsigned, Unsigned, Int64 and Compare of the program. Conditions: the cells stand for numbers; the integers are of 64 bits. -/
namespace Go.Proofs.Ytbnbkondbdakeaa
set_option linter.unusedVariables false
set_option linter.unusedSimpArgs false
open Go Go.RowKit
theorem IsW.w64 {s : Bool} {a b c d : Nat} {z : Int} (h : IsW s a b c d z) : W64 [a, b, c, d] := by
  obtain ⟨ha, hb, hc, hd, _⟩ := h
  intro x hx; simp at hx; omega
theorem IsW.abs {s : Bool} {a b c d : Nat} {z : Int} (h : IsW s a b c d z) : mag4 a b c d = z.natAbs := by
  obtain ⟨_, _, _, _, hz⟩ := h
  cases s <;> simp at hz <;> omega
theorem w64_four {a b c d : Nat} (h : W64 [a, b, c, d]) : a < 18446744073709551616 ∧ b < 18446744073709551616 ∧ c < 18446744073709551616 ∧ d < 18446744073709551616 :=
  ⟨h a (by simp), h b (by simp), h c (by simp), h d (by simp)⟩
theorem p_sign (s : Bool) (a b c d : Nat) (z : Int) (w : World) (h : IsW s a b c d z) :
    Calls Try.prog 62 #[.agg #[.bool s, .int .u64 (a : Int), .int .u64 (b : Int), .int .u64 (c : Int), .int .u64 (d : Int)]] w (IntRet .i64 z.sign w) := by
  obtain ⟨o, ho⟩ : ∃ o, decide (mag4 a b c d ≠ 0) = o := ⟨_, rfl⟩
  have hq := eql0 23 Try.underlying23 a b c d o ho
  have hz := h.2.2.2.2
  cases o
  · have hS : Hid (z.sign = 0) := by
      have : mag4 a b c d = 0 := by simpa using ho
      rw [this] at hz; cases s <;> simp at hz <;> subst hz <;> rfl
    clear ho hz
    go_enter Try.func62, Try.ntmps62
    go_wp2
    go_ret
    exact ⟨rb1 hS.out.symm, ext_alloc _ _⟩
  · have hp : mag4 a b c d ≠ 0 := by simpa using ho
    cases s
    · have hS : Hid (z.sign = 1) := Int.sign_eq_one_of_pos (by simp at hz; omega)
      clear ho hz hp
      go_enter Try.func62, Try.ntmps62
      go_wp2
      go_ret
      exact ⟨rb1 hS.out.symm, ext_alloc _ _⟩
    · have hS : Hid (z.sign = -1) := Int.sign_eq_neg_one_of_neg (by simp at hz; omega)
      clear ho hz hp
      go_enter Try.func62, Try.ntmps62
      go_wp2
      go_ret
      exact ⟨rb1 hS.out.symm, ext_alloc _ _⟩
theorem p_neg (s : Bool) (a b c d : Nat) (z : Int) (w : World) (h : IsW s a b c d z) :
    Calls Try.prog 63 #[.agg #[.bool s, .int .u64 (a : Int), .int .u64 (b : Int), .int .u64 (c : Int), .int .u64 (d : Int)]] w (WideOnly (-z) w) := by
  obtain ⟨ha, hb, hc, hd, hz⟩ := h
  have HZ : Hid ((if (!s) = true then -(mag4 a b c d : Int) else (mag4 a b c d : Int)) = -z) := by unfold Hid; cases s <;> simp at hz ⊢ <;> omega
  clear hz
  have HX := hide ((ext_alloc w (.cells #[.bool s, .int .u64 (a : Int), .int .u64 (b : Int), .int .u64 (c : Int), .int .u64 (d : Int)] 25)).trans (ext_alloc _ (.cells #[.bool false, .int .u64 0, .int .u64 0, .int .u64 0, .int .u64 0] 25)))
  go_enter Try.func63, Try.ntmps63
  go_wp2_with (go_at_call 109; refine (p_signed (!s) a b c d _ ha hb hc hd).mono ?_; rintro e' w' ⟨s', a', b', c', d', rfl, hC, hE⟩; rw [HZ.out] at hC; obtain ⟨q0, q1⟩ := two_kept hE; obtain ⟨d0, d1, d2, d3, d4, g0, g1, g2, g3, g4⟩ := five_cells q1; have HE := hide (HX.out.trans hE); clear q0 q1 hE)
  exact bodyPost_ret (v := .agg #[.bool s', .int .u64 (a' : Int), .int .u64 (b' : Int), .int .u64 (c' : Int), .int .u64 (d' : Int)]) (by simp [results, Try.results63, go_sem, d0, d1, d2, d3, d4]) rfl ⟨s', a', b', c', d', rfl, hC, ext_five HE.out (Nat.le_succ _) _ _ _ _ _⟩
theorem p_ofu (n : Nat) (w : World) (hn : n < 18446744073709551616) : Calls Try.prog 111 #[.int .u64 (n : Int)] w (WideOnly n w) := by
  have HX := hide (ext_alloc w (.cells #[.bool false, .int .u64 0, .int .u64 0, .int .u64 0, .int .u64 0] 25))
  have hM : Hid (((mag4 n 0 0 0 : Nat) : Int) = n) := by simp [Hid, mag4, val]
  have hs := fun W => p_signed false n 0 0 0 W hn (by omega) (by omega) (by omega)
  go_enter Try.func111, Try.ntmps111
  go_wp2_with (go_at_call 109; refine (hs _).mono ?_; rintro e' w' ⟨s', a', b', c', d', rfl, hC, hE⟩; simp only [Bool.false_eq_true, if_false] at hC; rw [hM.out] at hC; have q1 := one_kept hE; obtain ⟨d0, d1, d2, d3, d4, g0, g1, g2, g3, g4⟩ := five_cells q1; have HE := hide (HX.out.trans hE); clear q1 hE)
  exact bodyPost_ret (v := .agg #[.bool s', .int .u64 (a' : Int), .int .u64 (b' : Int), .int .u64 (c' : Int), .int .u64 (d' : Int)]) (by simp [results, Try.results111, go_sem, d0, d1, d2, d3, d4]) rfl ⟨s', a', b', c', d', rfl, hC, ext_five HE.out (Nat.le_refl _) _ _ _ _ _⟩
theorem p_ofi (z : Int) (w : World) (h1 : -9223372036854775808 ≤ z) (h2 : z ≤ 9223372036854775807) : Calls Try.prog 122 #[.int .i64 z] w (WideOnly z w) := by
  obtain ⟨n, hn⟩ : ∃ n, z.natAbs = n := ⟨_, rfl⟩
  have hb : n < 18446744073709551616 := by omega
  have hneg : z < 0 → IntKind.u64.wrap (-IntKind.u64.wrap z) = (n : Int) := by intro h; simp only [IntKind.wrap_u64]; omega
  have hpos : 0 ≤ z → IntKind.u64.wrap z = (n : Int) := by intro h; simp only [IntKind.wrap_u64]; omega
  have HX := hide (ext_alloc w (.cells #[.bool false, .int .u64 0, .int .u64 0, .int .u64 0, .int .u64 0] 25))
  by_cases h : z < 0
  · have e := hneg h
    have hM : Hid (-((mag4 n 0 0 0 : Nat) : Int) = z) := by simp [Hid, mag4, val]; omega
    have hs := fun W => p_signed true n 0 0 0 W hb (by omega) (by omega) (by omega)
    clear hneg hpos hn
    go_enter Try.func122, Try.ntmps122
    go_wp2_with (go_at_call 109; refine (hs _).mono ?_; rintro e' w' ⟨s', a', b', c', d', rfl, hC, hE⟩; simp only [if_true] at hC; rw [hM.out] at hC; have q1 := one_kept hE; obtain ⟨d0, d1, d2, d3, d4, g0, g1, g2, g3, g4⟩ := five_cells q1; have HE := hide (HX.out.trans hE); clear q1 hE)
    exact bodyPost_ret (v := .agg #[.bool s', .int .u64 (a' : Int), .int .u64 (b' : Int), .int .u64 (c' : Int), .int .u64 (d' : Int)]) (by simp [results, Try.results122, go_sem, d0, d1, d2, d3, d4]) rfl ⟨s', a', b', c', d', rfl, hC, ext_five HE.out (Nat.le_refl _) _ _ _ _ _⟩
  · have e := hpos (by omega)
    have hM : Hid ((n : Int) = z) := by unfold Hid; omega
    clear hneg hpos hn
    go_enter Try.func122, Try.ntmps122
    go_wp2_with (go_at_call 111; refine (p_ofu n _ hb).mono ?_; rintro e' w' ⟨s', a', b', c', d', rfl, hC, hE⟩; rw [hM.out] at hC; have q1 := one_kept hE; obtain ⟨d0, d1, d2, d3, d4, g0, g1, g2, g3, g4⟩ := five_cells q1; have HE := hide (HX.out.trans hE); clear q1 hE)
    exact bodyPost_ret (v := .agg #[.bool s', .int .u64 (a' : Int), .int .u64 (b' : Int), .int .u64 (c' : Int), .int .u64 (d' : Int)]) (by simp [results, Try.results122, go_sem, d0, d1, d2, d3, d4]) rfl ⟨s', a', b', c', d', rfl, hC, ext_five HE.out (Nat.le_refl _) _ _ _ _ _⟩
set_option maxRecDepth 100000 in
theorem p_unsigned (s : Bool) (a b c d : Nat) (z : Int) (w : World) (h : IsW s a b c d z) :
    Calls Try.prog 110 #[.agg #[.bool s, .int .u64 (a : Int), .int .u64 (b : Int), .int .u64 (c : Int), .int .u64 (d : Int)]] w (PairRet .u64 (if 0 ≤ z ∧ z < 18446744073709551616 then z else 0) (decide (0 ≤ z ∧ z < 18446744073709551616)) w) := by
  obtain ⟨r, hr⟩ : ∃ r, (if 0 ≤ z ∧ z < 18446744073709551616 then z else 0) = r := ⟨_, rfl⟩
  obtain ⟨o, ho⟩ : ∃ o, decide (0 ≤ z ∧ z < 18446744073709551616) = o := ⟨_, rfl⟩
  rw [hr, ho]
  have hab := h.abs
  have hlow : mag4 a b c d < 18446744073709551616 → a = mag4 a b c d := by intro h; simp only [mag4, val] at h ⊢; omega
  have hz := h.2.2.2.2
  have ha := h.1
  have HH := hide h
  have HX := hide (ext_alloc w (.cells #[.bool s, .int .u64 (a : Int), .int .u64 (b : Int), .int .u64 (c : Int), .int .u64 (d : Int)] 25))
  obtain ⟨n, hn⟩ : ∃ n, mag4 a b c d = n := ⟨_, rfl⟩
  rw [hn] at hab hlow hz
  by_cases hb : n < 18446744073709551616
  · have hO : Hid (decide (mag4 a b c d < 18446744073709551616) = true) := by unfold Hid; rw [decide_eq_true_iff, hn]; exact hb
    replace hlow := hlow hb
    by_cases hz0 : z < 0
    · have hS : Hid (z.sign = -1) := Int.sign_eq_neg_one_of_neg hz0
      have HR : Hid (0 = r ∧ false = o) := ⟨by rw [← hr, if_neg (by omega)], by rw [← ho]; symm; rw [decide_eq_false_iff_not]; omega⟩
      clear hz hab hlow hz0 h hn hr ho
      go_enter Try.func110, Try.ntmps110
      go_wp2_with (first
        | (go_at_call 136; refine (p_oneWord a b c d _ ha).mono ?_; rintro e' w' ⟨rfl, hE⟩; rw [hO.out]; have q := one_kept hE; obtain ⟨c0, c1, c2, c3, c4, f0, f1, f2, f3, f4⟩ := five_cells q; have HE := hide (HX.out.trans hE); clear q hE)
        | (go_at_call 62; refine (p_sign s a b c d z _ HH.out).mono ?_; rintro e' w' ⟨rfl, hE⟩; rw [hS.out]; have HE := hide (HE.out.trans hE); clear hE))
      go_ret2
      exact ⟨rb2' HR.out.1 HR.out.2, HE.out⟩
    · have hS : Hid (z.sign = 0 ∨ z.sign = 1) := by
        unfold Hid
        rcases (by omega : z = 0 ∨ 0 < z) with h1 | h1
        · subst h1; exact Or.inl rfl
        · exact Or.inr (Int.sign_eq_one_of_pos h1)
      have HR : Hid ((a : Int) = r ∧ true = o) := ⟨by rw [← hr, if_pos (by omega)]; omega, by rw [← ho]; symm; rw [decide_eq_true_iff]; omega⟩
      obtain ⟨q, hq⟩ : ∃ q, z.sign = q := ⟨_, rfl⟩
      have hq0 : 0 ≤ q := by rcases hS.out with h1 | h1 <;> omega
      have HQ := hide hq
      clear hz hab hlow hz0 h hn hr ho hq hS
      go_enter Try.func110, Try.ntmps110
      go_wp2_with (first
        | (go_at_call 136; refine (p_oneWord a b c d _ ha).mono ?_; rintro e' w' ⟨rfl, hE⟩; rw [hO.out]; have q := one_kept hE; obtain ⟨c0, c1, c2, c3, c4, f0, f1, f2, f3, f4⟩ := five_cells q; have HE := hide (HX.out.trans hE); clear q hE)
        | (go_at_call 62; refine (p_sign s a b c d z _ HH.out).mono ?_; rintro e' w' ⟨rfl, hE⟩; rw [HQ.out]; have HE := hide (HE.out.trans hE); clear hE))
      go_ret2
      exact ⟨rb2' HR.out.1 HR.out.2, HE.out⟩
  · have hO : Hid (decide (mag4 a b c d < 18446744073709551616) = false) := by unfold Hid; rw [decide_eq_false_iff_not, hn]; exact hb
    have HR : Hid (0 = r ∧ false = o) := ⟨by rw [← hr, if_neg (by omega)], by rw [← ho]; symm; rw [decide_eq_false_iff_not]; omega⟩
    clear hz hab hlow h hn hb hr ho
    go_enter Try.func110, Try.ntmps110
    go_wp2_with (go_at_call 136; refine (p_oneWord a b c d _ ha).mono ?_; rintro e' w' ⟨rfl, hE⟩; rw [hO.out]; have HE := hide (HX.out.trans hE); clear hE)
    go_ret2
    exact ⟨rb2' HR.out.1 HR.out.2, HE.out⟩
end Go.Proofs.Ytbnbkondbdakeaa
/- Int64 and Compare of the program. Conditions: the cells stand for numbers. -/
namespace Go.Proofs.Ytbnbkondbdakeaa
set_option linter.unusedVariables false
set_option linter.unusedSimpArgs false
open Go Go.RowKit
set_option maxHeartbeats 2000000 in
theorem p_compare (s t : Bool) (a b c d e f g h : Nat) (x y : Int) (w : World) (hx : IsW s a b c d x) (hy : IsW t e f g h y) :
    Calls Try.prog 82 #[.agg #[.bool s, .int .u64 (a : Int), .int .u64 (b : Int), .int .u64 (c : Int), .int .u64 (d : Int)], .agg #[.bool t, .int .u64 (e : Int), .int .u64 (f : Int), .int .u64 (g : Int), .int .u64 (h : Int)]] w (IntRet .i64 (cmpI x y) w) := by
  obtain ⟨W, hW⟩ : ∃ W, W = ((w.alloc (.cells #[.bool s, .int .u64 (a : Int), .int .u64 (b : Int), .int .u64 (c : Int), .int .u64 (d : Int)] 25)).alloc (.cells #[.bool t, .int .u64 (e : Int), .int .u64 (f : Int), .int .u64 (g : Int), .int .u64 (h : Int)] 25)) := ⟨_, rfl⟩
  have H3 := two_blocks w (.cells #[.bool s, .int .u64 (a : Int), .int .u64 (b : Int), .int .u64 (c : Int), .int .u64 (d : Int)] 25) (.cells #[.bool t, .int .u64 (e : Int), .int .u64 (f : Int), .int .u64 (g : Int), .int .u64 (h : Int)] 25)
  rw [← hW] at H3
  have B0 : Box W w.heap.size s a b c d := H3.1
  have B1 : Box W (w.heap.size + 1) t e f g h := H3.2
  have E0 : Ext w W := by rw [hW]; exact (ext_alloc _ _).trans (ext_alloc _ _)
  have HW := hide hW
  clear hW H3
  have MX := hide hx.abs
  have MY := hide hy.abs
  have wx := hx.w64
  have wy := hy.w64
  have HX := hide hx
  have HY := hide hy
  have CS := hide (@cmp_sign x y)
  obtain ⟨p, hp⟩ : ∃ p, x.sign = p := ⟨_, rfl⟩
  obtain ⟨q, hq⟩ : ∃ q, y.sign = q := ⟨_, rfl⟩
  have HP := hide hp
  have HQ := hide hq
  clear hp hq hx hy
  obtain ⟨c0, c1, c2, c3, c4, f0, f1, f2, f3, f4⟩ := five_cells B0
  obtain ⟨d0, d1, d2, d3, d4, g0, g1, g2, g3, g4⟩ := five_cells B1
  by_cases hpq : p = q
  · subst hpq
    have HR : Hid (cmpI x y = p * sgnN x.natAbs y.natAbs) := by rw [← HP.out]; exact CS.out.2.2 (by rw [HP.out, HQ.out])
    obtain ⟨r, hr⟩ : ∃ r, sgnN x.natAbs y.natAbs = r := ⟨_, rfl⟩
    have hr1 : -1 ≤ r ∧ r ≤ 1 := by rw [← hr]; unfold sgnN; split <;> (try split) <;> omega
    have hp1 : p = -1 ∨ p = 0 ∨ p = 1 := by
      rw [← HP.out]
      rcases Int.lt_trichotomy x 0 with h | h | h
      · exact Or.inl (Int.sign_eq_neg_one_of_neg h)
      · subst h; exact Or.inr (Or.inl rfl)
      · exact Or.inr (Or.inr (Int.sign_eq_one_of_pos h))
    have HS := hide hr
    have HT : Hid (wrap64 (p * r) = cmpI x y) := by rw [HR.out, hr]; rcases hp1 with rfl | rfl | rfl <;> simp [Hid, wrap64] <;> omega
    clear hr hr1 hp1
    go_enter Try.func82, Try.ntmps82
    go_upto_region 1 with fail
    rw [← HW.out]
    clear HW
    go_wp2_with (first
      | (go_at_call_of 62 (Value.agg #[Value.bool s, Value.int IntKind.u64 (a : Int), Value.int IntKind.u64 (b : Int), Value.int IntKind.u64 (c : Int), Value.int IntKind.u64 (d : Int)]); refine (p_sign s a b c d x _ HX.out).mono ?_; rintro e' w' ⟨rfl, hE⟩; rw [HP.out]; have R0 := B0.ext hE; have R1 := B1.ext hE; obtain ⟨c0, c1, c2, c3, c4, f0, f1, f2, f3, f4⟩ := five_cells R0; obtain ⟨d0, d1, d2, d3, d4, g0, g1, g2, g3, g4⟩ := five_cells R1; have E1 := E0.trans hE; clear hE)
      | (go_at_call 62; refine (p_sign t e f g h y _ HY.out).mono ?_; rintro e' w' ⟨rfl, hE⟩; rw [HQ.out]; have R0 := R0.ext hE; have R1 := R1.ext hE; obtain ⟨c0, c1, c2, c3, c4, f0, f1, f2, f3, f4⟩ := five_cells R0; obtain ⟨d0, d1, d2, d3, d4, g0, g1, g2, g3, g4⟩ := five_cells R1; have E1 := E1.trans hE; clear hE)
      | (go_at_call 124; refine (p_cmpWords a b c d e f g h _ _ MX.out MY.out _ wx wy).mono ?_; rintro e' w' ⟨rfl, hE⟩; rw [HS.out]; have E1 := E1.trans hE; clear hE))
    all_goals go_ret
    all_goals exact ⟨rb1 (by first | exact HT.out | (rw [← HT.out, ← IntKind.wrap_i64]; rfl) | (rw [← HT.out]; simp only [wrap64, IntKind.wrap_i64])), E1⟩
  · have hne : (p != q) = true := by simpa using hpq
    have HR : Hid (sgnI p q = cmpI x y) := by
      unfold Hid sgnI
      rcases (by omega : p < q ∨ q < p) with h1 | h1
      · rw [if_pos h1, CS.out.1 (by rw [HP.out, HQ.out]; exact h1)]
      · rw [if_neg (by omega), if_pos h1, CS.out.2.1 (by rw [HP.out, HQ.out]; exact h1)]
    clear hpq
    go_enter Try.func82, Try.ntmps82
    go_upto_region 1 with fail
    rw [← HW.out]
    clear HW
    go_wp2_with (first
      | (go_at_call_of 62 (Value.agg #[Value.bool s, Value.int IntKind.u64 (a : Int), Value.int IntKind.u64 (b : Int), Value.int IntKind.u64 (c : Int), Value.int IntKind.u64 (d : Int)]); refine (p_sign s a b c d x _ HX.out).mono ?_; rintro e' w' ⟨rfl, hE⟩; rw [HP.out]; have R0 := B0.ext hE; have R1 := B1.ext hE; obtain ⟨c0, c1, c2, c3, c4, f0, f1, f2, f3, f4⟩ := five_cells R0; obtain ⟨d0, d1, d2, d3, d4, g0, g1, g2, g3, g4⟩ := five_cells R1; have E1 := E0.trans hE; clear hE)
      | (go_at_call 62; refine (p_sign t e f g h y _ HY.out).mono ?_; rintro e' w' ⟨rfl, hE⟩; rw [HQ.out]; have R0 := R0.ext hE; have R1 := R1.ext hE; obtain ⟨c0, c1, c2, c3, c4, f0, f1, f2, f3, f4⟩ := five_cells R0; obtain ⟨d0, d1, d2, d3, d4, g0, g1, g2, g3, g4⟩ := five_cells R1; have E1 := E1.trans hE; clear hE)
      | (go_at_call 123; refine (c_cmpI p q _).mono ?_; rintro e' w' ⟨rfl, rfl⟩))
    all_goals go_ret
    all_goals exact ⟨rb1 HR.out, E1⟩
end Go.Proofs.Ytbnbkondbdakeaa
