/- Add and Sub of the program. Conditions: the cells stand for numbers. -/
import Derived.Test.YtbnbkondbdakeaaWrd2
import Derived.Test.YtbnbkondbdakeaaMagH
namespace Go.Proofs.Ytbnbkondbdakeaa
set_option linter.unusedVariables false
set_option linter.unusedSimpArgs false
open Go Go.RowKit
theorem p4' : (18446744073709551616 : Nat) ^ 4 = 115792089237316195423570985008687907853269984665640564039457584007913129639936 := p4
/-- What a sum returns: the sum if it fits, else 0. -/
theorem wideRet_yes {z : Int} {w w' : World} {s : Bool} {a b c d : Nat} (hf : z.natAbs < 115792089237316195423570985008687907853269984665640564039457584007913129639936) (hC : IsC s a b c d z) (hE : Ext w w') :
    WideRet z w (.returned (.tuple #[.agg #[.bool s, .int .u64 (a : Int), .int .u64 (b : Int), .int .u64 (c : Int), .int .u64 (d : Int)], .bool true])) w' :=
  ⟨s, a, b, c, d, true, rfl, (decide_eq_true hf).symm, by rw [if_pos hf]; exact hC, hE⟩
theorem wideRet_no {z : Int} {w w' : World} (hf : ¬ z.natAbs < 115792089237316195423570985008687907853269984665640564039457584007913129639936) (hE : Ext w w') :
    WideRet z w (.returned (.tuple #[.agg #[.bool false, .int .u64 0, .int .u64 0, .int .u64 0, .int .u64 0], .bool false])) w' :=
  ⟨false, 0, 0, 0, 0, false, rfl, (decide_eq_false hf).symm, by rw [if_neg hf]; exact ⟨⟨by omega, by omega, by omega, by omega, by simp [mag4, val]⟩, by simp⟩, hE⟩
theorem IsC.fits {s : Bool} {a b c d : Nat} {z : Int} (h : IsW s a b c d z) : z.natAbs < 115792089237316195423570985008687907853269984665640564039457584007913129639936 := by
  rw [← h.abs]; exact mag_lt h.1 h.2.1 h.2.2.1 h.2.2.2.1
set_option maxHeartbeats 4000000 in
theorem p_wadd_same (s : Bool) (a b c d e f g h : Nat) (x y : Int) (w : World) (hx : IsW s a b c d x) (hy : IsW s e f g h y) :
    Calls Try.prog 117 #[.agg #[.bool s, .int .u64 (a : Int), .int .u64 (b : Int), .int .u64 (c : Int), .int .u64 (d : Int)], .agg #[.bool s, .int .u64 (e : Int), .int .u64 (f : Int), .int .u64 (g : Int), .int .u64 (h : Int)]] w (WideRet (x + y) w) := by
  obtain ⟨W, hW⟩ : ∃ W, W = (((w.alloc (.cells #[.bool s, .int .u64 (a : Int), .int .u64 (b : Int), .int .u64 (c : Int), .int .u64 (d : Int)] 25)).alloc (.cells #[.bool s, .int .u64 (e : Int), .int .u64 (f : Int), .int .u64 (g : Int), .int .u64 (h : Int)] 25)).alloc (.cells #[.bool false, .int .u64 0, .int .u64 0, .int .u64 0, .int .u64 0] 25)) := ⟨_, rfl⟩
  have H3 := three_boxes w (.cells #[.bool s, .int .u64 (a : Int), .int .u64 (b : Int), .int .u64 (c : Int), .int .u64 (d : Int)] 25) (.cells #[.bool s, .int .u64 (e : Int), .int .u64 (f : Int), .int .u64 (g : Int), .int .u64 (h : Int)] 25) (.cells #[.bool false, .int .u64 0, .int .u64 0, .int .u64 0, .int .u64 0] 25)
  rw [← hW] at H3
  have B0 : Box W w.heap.size s a b c d := H3.1
  have B1 : Box W (w.heap.size + 1) s e f g h := H3.2.1
  have B2 : Box W (w.heap.size + 1 + 1) false 0 0 0 0 := H3.2.2
  have E0 : Ext w W := by rw [hW]; exact ((ext_alloc _ _).trans (ext_alloc _ _)).trans (ext_alloc _ _)
  have HW := hide hW
  clear hW H3
  obtain ⟨n, hn⟩ : ∃ n, x.natAbs = n := ⟨_, rfl⟩
  obtain ⟨m, hm⟩ : ∃ m, y.natAbs = m := ⟨_, rfl⟩
  have MX : Hid (mag4 a b c d = n) := by rw [← hn]; exact hx.abs
  have MY : Hid (mag4 e f g h = m) := by rw [← hm]; exact hy.abs
  have wx := hx.w64
  have wy := hy.w64
  have SZ : Hid ((if s then -((n + m : Nat) : Int) else ((n + m : Nat) : Int)) = x + y ∧ (x + y).natAbs = n + m) := by
    have h1 := hx.2.2.2.2
    have h2 := hy.2.2.2.2
    rw [MX.out] at h1
    rw [MY.out] at h2
    unfold Hid
    cases s <;> simp only [Bool.false_eq_true, if_false, if_true] at h1 h2 ⊢ <;> omega
  clear hn hm hx hy
  obtain ⟨c0, c1, c2, c3, c4, f0, f1, f2, f3, f4⟩ := five_cells B0
  obtain ⟨d0, d1, d2, d3, d4, g0, g1, g2, g3, g4⟩ := five_cells B1
  by_cases hf : n + m < 115792089237316195423570985008687907853269984665640564039457584007913129639936
  · have HO : Hid (decide (n + m < 115792089237316195423570985008687907853269984665640564039457584007913129639936) = true) := decide_eq_true hf
    have HM : Hid ((n + m) % 115792089237316195423570985008687907853269984665640564039457584007913129639936 = n + m) := Nat.mod_eq_of_lt hf
    have HF : Hid ((x + y).natAbs < 115792089237316195423570985008687907853269984665640564039457584007913129639936) := by rw [SZ.out.2]; exact hf
    clear hf
    go_enter Try.func117, Try.ntmps117
    go_upto_region 1 with fail
    rw [← HW.out]
    clear HW
    go_wp2_with (first
      | (go_at_call 114; refine (p_addWords a b c d e f g h n m MX.out MY.out _ wx wy).mono ?_; rintro e' w' ⟨a1, b1, c1', d1', rfl, hw1, hm1, hE⟩; rw [HO.out]; rw [HM.out] at hm1; have hm1 := hide hm1; have R0 := B0.ext hE; have R2 := B2.ext hE; obtain ⟨c0, c1, c2, c3, c4, f0, f1, f2, f3, f4⟩ := five_cells R0; have l0 := R0.lt; have l2 := R2.lt; have E1 := E0.trans hE; clear hE)
      | (go_at_call 109; refine (p_signed s a1 b1 c1' d1' _ (w64_four hw1).1 (w64_four hw1).2.1 (w64_four hw1).2.2.1 (w64_four hw1).2.2.2).mono ?_; rintro e' w' ⟨s', a', b', c', d', rfl, hC, hE⟩; rw [hm1.out, SZ.out.1] at hC; have E1 := (E1.trans (ext_alloc _ _)).trans hE; have R3 := (R2.ext (ext_alloc _ _)).ext hE; obtain ⟨d0, d1, d2, d3, d4, g0, g1, g2, g3, g4⟩ := five_cells R3; clear hE))
    all_goals exact bodyPost_ret (v := .tuple #[.agg #[.bool s', .int .u64 (a' : Int), .int .u64 (b' : Int), .int .u64 (c' : Int), .int .u64 (d' : Int)], .bool true]) (by simp [results, Try.results117, go_sem, d0, d1, d2, d3, d4]) rfl (wideRet_yes HF.out hC (ext_five E1 (by omega) _ _ _ _ _))
  · have HO : Hid (decide (n + m < 115792089237316195423570985008687907853269984665640564039457584007913129639936) = false) := decide_eq_false hf
    have HF : Hid (¬ (x + y).natAbs < 115792089237316195423570985008687907853269984665640564039457584007913129639936) := by rw [SZ.out.2]; exact hf
    clear hf
    go_enter Try.func117, Try.ntmps117
    go_upto_region 1 with fail
    rw [← HW.out]
    clear HW
    go_wp2_with (go_at_call 114; refine (p_addWords a b c d e f g h n m MX.out MY.out _ wx wy).mono ?_; rintro e' w' ⟨a1, b1, c1', d1', rfl, hw1, hm1, hE⟩; rw [HO.out]; have hm1 := hide hm1; have R2 := B2.ext hE; have l2 := R2.lt; obtain ⟨d0, d1, d2, d3, d4, g0, g1, g2, g3, g4⟩ := five_cells R2; have E1 := E0.trans hE; clear hE)
    all_goals exact bodyPost_ret (v := .tuple #[.agg #[.bool false, .int .u64 0, .int .u64 0, .int .u64 0, .int .u64 0], .bool false]) (by simp [results, Try.results117, go_sem, d0, d1, d2, d3, d4, l2]) rfl (wideRet_no HF.out ((ext_five E1 (by omega) _ _ _ _ _).trans (ext_alloc _ _)))
set_option maxHeartbeats 4000000 in
theorem p_wadd_other (s : Bool) (a b c d e f g h : Nat) (x y : Int) (w : World) (hx : IsW s a b c d x) (hy : IsW (!s) e f g h y) :
    Calls Try.prog 117 #[.agg #[.bool s, .int .u64 (a : Int), .int .u64 (b : Int), .int .u64 (c : Int), .int .u64 (d : Int)], .agg #[.bool (!s), .int .u64 (e : Int), .int .u64 (f : Int), .int .u64 (g : Int), .int .u64 (h : Int)]] w (WideRet (x + y) w) := by
  obtain ⟨t, ht⟩ : ∃ t, t = !s := ⟨_, rfl⟩
  rw [← ht] at hy ⊢
  obtain ⟨W, hW⟩ : ∃ W, W = (((w.alloc (.cells #[.bool s, .int .u64 (a : Int), .int .u64 (b : Int), .int .u64 (c : Int), .int .u64 (d : Int)] 25)).alloc (.cells #[.bool t, .int .u64 (e : Int), .int .u64 (f : Int), .int .u64 (g : Int), .int .u64 (h : Int)] 25)).alloc (.cells #[.bool false, .int .u64 0, .int .u64 0, .int .u64 0, .int .u64 0] 25)) := ⟨_, rfl⟩
  have H3 := three_boxes w (.cells #[.bool s, .int .u64 (a : Int), .int .u64 (b : Int), .int .u64 (c : Int), .int .u64 (d : Int)] 25) (.cells #[.bool t, .int .u64 (e : Int), .int .u64 (f : Int), .int .u64 (g : Int), .int .u64 (h : Int)] 25) (.cells #[.bool false, .int .u64 0, .int .u64 0, .int .u64 0, .int .u64 0] 25)
  rw [← hW] at H3
  have B0 : Box W w.heap.size s a b c d := H3.1
  have B1 : Box W (w.heap.size + 1) t e f g h := H3.2.1
  have B2 : Box W (w.heap.size + 1 + 1) false 0 0 0 0 := H3.2.2
  have E0 : Ext w W := by rw [hW]; exact ((ext_alloc _ _).trans (ext_alloc _ _)).trans (ext_alloc _ _)
  have HW := hide hW
  clear hW H3
  obtain ⟨n, hn⟩ : ∃ n, x.natAbs = n := ⟨_, rfl⟩
  obtain ⟨m, hm⟩ : ∃ m, y.natAbs = m := ⟨_, rfl⟩
  have MX : Hid (mag4 a b c d = n) := by rw [← hn]; exact hx.abs
  have MY : Hid (mag4 e f g h = m) := by rw [← hm]; exact hy.abs
  have wx := hx.w64
  have wy := hy.w64
  have bn := IsC.fits hx
  have bm := IsC.fits hy
  rw [hn] at bn
  rw [hm] at bm
  have h1 := hx.2.2.2.2
  have h2 := hy.2.2.2.2
  rw [MX.out] at h1
  rw [MY.out] at h2
  have HF : Hid ((x + y).natAbs < 115792089237316195423570985008687907853269984665640564039457584007913129639936) := by
    unfold Hid; subst ht; cases s <;> simp only [Bool.false_eq_true, if_false, if_true, Bool.not_false, Bool.not_true] at h1 h2 <;> omega
  have SN : Hid (m ≤ n → (if s then -((n - m : Nat) : Int) else ((n - m : Nat) : Int)) = x + y) := by
    intro h3; subst ht; cases s <;> simp only [Bool.false_eq_true, if_false, if_true, Bool.not_false, Bool.not_true] at h1 h2 ⊢ <;> omega
  have SM : Hid (n < m → (if t then -((m - n : Nat) : Int) else ((m - n : Nat) : Int)) = x + y) := by
    intro h3; subst ht; cases s <;> simp only [Bool.false_eq_true, if_false, if_true, Bool.not_false, Bool.not_true] at h1 h2 ⊢ <;> omega
  have hst : (s == t) = false := by subst ht; cases s <;> rfl
  clear hn hm hx hy h1 h2 bn bm ht
  obtain ⟨c0, c1, c2, c3, c4, f0, f1, f2, f3, f4⟩ := five_cells B0
  obtain ⟨d0, d1, d2, d3, d4, g0, g1, g2, g3, g4⟩ := five_cells B1
  by_cases hlt : n < m
  · have HS : Hid (sgnN n m = -1) := if_pos hlt
    have SZ := hide (SM.out hlt)
    have hle : m - n ≤ m := by omega
    clear SN SM
    go_enter Try.func117, Try.ntmps117
    go_upto_region 1 with fail
    rw [← HW.out]
    clear HW
    go_upto_if 33 with (go_at_call 124; refine (p_cmpWords a b c d e f g h n m MX.out MY.out _ wx wy).mono ?_; rintro e' w' ⟨rfl, hE⟩; rw [HS.out]; have R0 := B0.ext hE; have R1 := B1.ext hE; have R2 := B2.ext hE; have E1 := E0.trans hE; clear hE; obtain ⟨c0, c1, c2, c3, c4, f0, f1, f2, f3, f4⟩ := five_cells R0; obtain ⟨d0, d1, d2, d3, d4, g0, g1, g2, g3, g4⟩ := five_cells R1)
    go_cut [] (fun wx => Box wx w.heap.size t e f g h ∧ Box wx (w.heap.size + 1) s a b c d ∧ Box wx (w.heap.size + 1 + 1) false 0 0 0 0 ∧ Ext w wx)
    case first =>
      go_wp2_with fail
      all_goals go_meet
      all_goals exact ⟨(R0.put).far (by omega) _ _ _ _ _, (R1.far (by omega) _ _ _ _ _).put, (R2.far (by omega) _ _ _ _ _).far (by omega) _ _ _ _ _, ext_five (ext_five E1 (Nat.le_refl _) _ _ _ _ _) (by omega) _ _ _ _ _⟩
    case rest =>
      clear B0 B1 B2 E0 R0 R1 R2 E1
      obtain ⟨B0, B1, B2, E0⟩ := hcut
      obtain ⟨c0, c1, c2, c3, c4, f0, f1, f2, f3, f4⟩ := five_cells B0
      obtain ⟨d0, d1, d2, d3, d4, g0, g1, g2, g3, g4⟩ := five_cells B1
      go_wp2_with fail
      go_region_with (first
        | (go_at_call 115; refine (p_subWords e f g h a b c d m n MY.out MX.out _ wy wx (Nat.le_of_lt hlt)).mono ?_; rintro e' w' ⟨a1, b1, c1', d1', rfl, hw1, hm1, hE⟩; have hm1 := hide hm1; have R0 := B0.drew.ext hE; have R2 := B2.drew.ext hE; obtain ⟨c0, c1, c2, c3, c4, f0, f1, f2, f3, f4⟩ := five_cells R0; have E1 := (E0.trans (ext_drew _)).trans hE; clear hE)
        | (go_at_call 109; refine (p_signed t a1 b1 c1' d1' _ (w64_four hw1).1 (w64_four hw1).2.1 (w64_four hw1).2.2.1 (w64_four hw1).2.2.2).mono ?_; rintro e' w' ⟨s', a', b', c', d', rfl, hC, hE⟩; rw [hm1.out, SZ.out] at hC; have E2 := E1.trans hE; have R3 := R2.ext hE; obtain ⟨i0, i1, i2, i3, i4, j0, j1, j2, j3, j4⟩ := five_cells R3; clear hE))
      all_goals go_wp2_with fail
      all_goals exact bodyPost_ret (v := .tuple #[.agg #[.bool s', .int .u64 (a' : Int), .int .u64 (b' : Int), .int .u64 (c' : Int), .int .u64 (d' : Int)], .bool true]) (by simp [results, Try.results117, go_sem, i0, i1, i2, i3, i4]) rfl (wideRet_yes HF.out hC (ext_five E2 (by omega) _ _ _ _ _))
  · have hle : m ≤ n := by omega
    have h01 : (0 : Int) ≤ sgnN n m := by unfold sgnN; rw [if_neg hlt]; split <;> omega
    obtain ⟨q, hq⟩ : ∃ q, sgnN n m = q := ⟨_, rfl⟩
    rw [hq] at h01
    have HS := hide hq
    have SZ := hide (SN.out hle)
    clear SN SM hlt hq
    go_enter Try.func117, Try.ntmps117
    go_upto_region 1 with fail
    rw [← HW.out]
    clear HW
    go_wp2_with (go_at_call 124; refine (p_cmpWords a b c d e f g h n m MX.out MY.out _ wx wy).mono ?_; rintro e' w' ⟨rfl, hE⟩; rw [HS.out]; have R0 := B0.ext hE; have R1 := B1.ext hE; have R2 := B2.ext hE; have E1 := E0.trans hE; clear hE; obtain ⟨c0, c1, c2, c3, c4, f0, f1, f2, f3, f4⟩ := five_cells R0; obtain ⟨d0, d1, d2, d3, d4, g0, g1, g2, g3, g4⟩ := five_cells R1)
    clear B0 B1 B2 E0
    go_region_with (first
      | (go_at_call 115; refine (p_subWords a b c d e f g h n m MX.out MY.out _ wx wy hle).mono ?_; rintro e' w' ⟨a1, b1, c1', d1', rfl, hw1, hm1, hE⟩; have hm1 := hide hm1; have R0' := R0.drew.ext hE; have R2' := R2.drew.ext hE; obtain ⟨c0, c1, c2, c3, c4, f0, f1, f2, f3, f4⟩ := five_cells R0'; have E1' := (E1.trans (ext_drew _)).trans hE; clear hE)
      | (go_at_call 109; refine (p_signed s a1 b1 c1' d1' _ (w64_four hw1).1 (w64_four hw1).2.1 (w64_four hw1).2.2.1 (w64_four hw1).2.2.2).mono ?_; rintro e' w' ⟨s', a', b', c', d', rfl, hC, hE⟩; rw [hm1.out, SZ.out] at hC; have E2 := E1'.trans hE; have R3 := R2'.ext hE; obtain ⟨i0, i1, i2, i3, i4, j0, j1, j2, j3, j4⟩ := five_cells R3; clear hE))
    all_goals go_wp2_with fail
    all_goals exact bodyPost_ret (v := .tuple #[.agg #[.bool s', .int .u64 (a' : Int), .int .u64 (b' : Int), .int .u64 (c' : Int), .int .u64 (d' : Int)], .bool true]) (by simp [results, Try.results117, go_sem, i0, i1, i2, i3, i4]) rfl (wideRet_yes HF.out hC (ext_five E2 (by omega) _ _ _ _ _))
theorem p_wadd (s t : Bool) (a b c d e f g h : Nat) (x y : Int) (w : World) (hx : IsW s a b c d x) (hy : IsW t e f g h y) :
    Calls Try.prog 117 #[.agg #[.bool s, .int .u64 (a : Int), .int .u64 (b : Int), .int .u64 (c : Int), .int .u64 (d : Int)], .agg #[.bool t, .int .u64 (e : Int), .int .u64 (f : Int), .int .u64 (g : Int), .int .u64 (h : Int)]] w (WideRet (x + y) w) := by
  by_cases h1 : t = s
  · subst h1; exact p_wadd_same _ a b c d e f g h x y w hx hy
  · obtain rfl : t = !s := by cases s <;> cases t <;> simp at h1 ⊢
    exact p_wadd_other s a b c d e f g h x y w hx hy
end Go.Proofs.Ytbnbkondbdakeaa
