/- The program's codeOf. Conditions: the cells stand for a number. -/
import Derived.Test.YtdboaogdanahkaaVarI
import Derived.Deep.MidRow
namespace Go.Proofs.Ytdboaogdanahkaa
set_option linter.unusedVariables false
set_option linter.unusedSimpArgs false
open Go Go.RowKit
/-- The code of a number. -/
def cod (z : Int) : Nat := 2 * z.natAbs + (if z < 0 then 1 else 0)
theorem ag5_mag (a b c d : Nat) (ha : a < 18446744073709551616) (hb : b < 18446744073709551616) (hc : c < 18446744073709551616) (hd : d < 18446744073709551616) : ag5 (mag4 a b c d) = #[.int .u64 (a : Int), .int .u64 (b : Int), .int .u64 (c : Int), .int .u64 (d : Int), .int .u64 0] := by
  have e0 : w5 (mag4 a b c d) 0 = a := by unfold w5 mag4 val val val val val; simp only [Nat.pow_zero, Nat.div_one]; omega
  have e1 : w5 (mag4 a b c d) 1 = b := by unfold w5 mag4 val val val val val; simp only [Nat.pow_one]; omega
  have e2 : w5 (mag4 a b c d) 2 = c := by
    unfold w5 mag4 val val val val val
    rw [show (18446744073709551616 : Nat) ^ 2 = 340282366920938463463374607431768211456 by decide]; omega
  have e3 : w5 (mag4 a b c d) 3 = d := by
    unfold w5 mag4 val val val val val
    rw [show (18446744073709551616 : Nat) ^ 3 = 6277101735386680763835789423207666416102355444464034512896 by decide]; omega
  have e4 : w5 (mag4 a b c d) 4 = 0 := by
    unfold w5 mag4 val val val val val
    rw [show (18446744073709551616 : Nat) ^ 4 = 115792089237316195423570985008687907853269984665640564039457584007913129639936 by decide]; omega
  unfold ag5
  rw [e0, e1, e2, e3, e4]; rfl
theorem w5_even (M : Nat) : w5 (M * 2 + 1) 0 = w5 (M * 2) 0 + 1 := by unfold w5; simp only [Nat.pow_zero, Nat.div_one]; omega
theorem w5_odd (M i : Nat) : w5 (M * 2 + 1) (i + 1) = w5 (M * 2) (i + 1) := by
  unfold w5
  have e : (M * 2 + 1) / 18446744073709551616 ^ (i + 1) = M * 2 / 18446744073709551616 ^ (i + 1) := by
    have h2 : ∀ X, X / 18446744073709551616 ^ (i + 1) = X / 2 / (9223372036854775808 * 18446744073709551616 ^ i) := fun X => by
      rw [Nat.div_div_eq_div_mul, Nat.pow_succ, Nat.mul_comm (18446744073709551616 ^ i), ← Nat.mul_assoc]
    rw [h2, h2]
    congr 1
    omega
  rw [e]
theorem ag5_inc (M : Nat) : (ag5 (M * 2)).setIfInBounds 0 (.int .u64 ((w5 (M * 2) 0 : Int) + 1)) = ag5 (M * 2 + 1) := by
  unfold ag5
  rw [w5_even, w5_odd M 0, w5_odd M 1, w5_odd M 2, w5_odd M 3]
  simp
theorem info8 : (Try.prog.info? 28).map (·.size) = some 1 := by kernel_rfl
theorem infoW : (Try.prog.info? 32).map (·.size) = some 5 := by kernel_rfl
theorem Blk.rowfar {w : World} {g g' : Nat} {t : TypeId} {cs ds : Array Value} (h : Blk w g t cs) (hn : g ≠ g') : Blk (w.setRow g' ds) g t cs := by
  unfold Blk at h ⊢
  show (w.heap.modify g' _)[g]? = _
  rw [Array.getElem?_modify, if_neg (by omega)]; exact h
theorem Blk.below {w w' : World} {g B : Nat} {t : TypeId} {cs : Array Value} (h : Blk w g t cs) (k : Below B w w') (hg : g < B) : Blk w' g t cs := (k.block g hg).trans h
theorem inc_blk (w : World) (g M x : Nat) (hx : w5 (M * 2) 0 = x) (h : Blk w g 82 (ag5 (M * 2))) : Blk (w.setCell ⟨g, 0, none⟩ (.int .u64 ((x : Int) + 1))) g 82 (ag5 (M * 2 + 1)) := by
  have := h.set_ 0 (.int .u64 ((x : Int) + 1))
  rw [← hx, ag5_inc] at this
  rw [← hx]; exact this
set_option maxRecDepth 100000 in
set_option maxHeartbeats 1600000 in
theorem p_codeOf (s : Bool) (a b c d : Nat) (z : Int) (W : World) (hz : IsW s a b c d z) : Calls Try.prog 53 #[.agg #[.bool s, .int .u64 (a : Int), .int .u64 (b : Int), .int .u64 (c : Int), .int .u64 (d : Int)]] W (Ret (.agg (ag5 (cod z))) W) := by
  have KS : Hid (∀ w, Calls Try.prog 76 #[.agg #[.bool s, .int .u64 (a : Int), .int .u64 (b : Int), .int .u64 (c : Int), .int .u64 (d : Int)]] w (Ret (.int .i64 z.sign) w)) := fun w => p_sign s a b c d z w hz
  go_enter Try.func53, Try.ntmps53
  go_upto_region 2 with fail
  have P1 : Blk (W.alloc (.cells #[.bool s, .int .u64 (a : Int), .int .u64 (b : Int), .int .u64 (c : Int), .int .u64 (d : Int)] 32)) W.heap.size 32 #[.bool s, .int .u64 (a : Int), .int .u64 (b : Int), .int .u64 (c : Int), .int .u64 (d : Int)] := Blk.new W _ _
  obtain ⟨w1, hw1⟩ : ∃ w1, W.alloc (.cells #[.bool s, .int .u64 (a : Int), .int .u64 (b : Int), .int .u64 (c : Int), .int .u64 (d : Int)] 32) = w1 := ⟨_, rfl⟩
  have E1 : Ext W w1 := by rw [← hw1]; exact ext_alloc _ _
  have z1 : w1.heap.size = W.heap.size + 1 := by rw [← hw1]; simp
  rw [hw1] at P1 ⊢
  have P2 : Blk (w1.alloc (.cells z5c 82)) w1.heap.size 82 z5c := Blk.new w1 _ _
  have P1 := P1.alloc (.cells z5c 82)
  unfold z5c at P1 P2
  obtain ⟨w2, hw2⟩ : ∃ w2, w1.alloc (.cells #[.int .u64 0, .int .u64 0, .int .u64 0, .int .u64 0, .int .u64 0] 82) = w2 := ⟨_, rfl⟩
  have E2 : Ext w1 w2 := by rw [← hw2]; exact ext_alloc _ _
  have z2 : w2.heap.size = W.heap.size + 1 + 1 := by rw [← hw2]; simp [z1]
  rw [hw2] at P1 P2 ⊢
  rw [z1] at P2
  have P3 : Blk (w2.alloc (.cells z5c 82)) w2.heap.size 82 z5c := Blk.new w2 _ _
  have P1 := P1.alloc (.cells z5c 82)
  have P2 := P2.alloc (.cells z5c 82)
  unfold z5c at P1 P2 P3
  obtain ⟨w3, hw3⟩ : ∃ w3, w2.alloc (.cells #[.int .u64 0, .int .u64 0, .int .u64 0, .int .u64 0, .int .u64 0] 82) = w3 := ⟨_, rfl⟩
  have E3 : Ext w2 w3 := by rw [← hw3]; exact ext_alloc _ _
  rw [hw3] at P1 P2 P3 ⊢
  rw [z2] at P3
  have E : Hid (Ext W w3) := (E1.trans E2).trans E3
  obtain ⟨g, hg⟩ : ∃ g, W.heap.size = g := ⟨_, rfl⟩
  rw [hg] at P1 P2 P3 ⊢
  have Hg := hide hg
  have H1 := hide P1
  have H2 := hide P2
  have H3 := hide P3
  have hcs : Hid (∀ j v, ([.int .u64 (a : Int), .int .u64 (b : Int), .int .u64 (c : Int), .int .u64 (d : Int)] : List Value)[j]? = some v → w3.drew.cell? ((⟨g, 1, none⟩ : Addr).add j) = some v) := fun j v hv => by
    rw [Addr.add_mid]
    show w3.cell? ⟨g, 1 + j, none⟩ = some v
    rw [H1.out.cell]
    match j, hv with
    | 0, hv => simpa using hv
    | 1, hv => simpa using hv
    | 2, hv => simpa using hv
    | 3, hv => simpa using hv
    | j + 4, hv => simp at hv
  have hM : Hid (ag5 (mag4 a b c d) = #[.int .u64 (a : Int), .int .u64 (b : Int), .int .u64 (c : Int), .int .u64 (d : Int), .int .u64 0]) := ag5_mag a b c d hz.1 hz.2.1 hz.2.2.1 hz.2.2.2.1
  have hzz := hide hz
  clear hw1 hw2 hw3 z1 z2 E1 E2 E3 P1 P2 P3 hg hz
  go_region_law (refine step_copy_splice rfl (.tmp 4) (.tmp 6) 70 70 rfl 28 Try.underlying70 info8 (some ⟨g + 1 + 1, 0, none⟩) (some ⟨g, 1, none⟩) 5 5 4 4 (by rfl) (by rfl) (g + 1 + 1) 0 [.int .u64 0, .int .u64 0, .int .u64 0, .int .u64 0, .int .u64 0] 82 H3.out [.int .u64 (a : Int), .int .u64 (b : Int), .int .u64 (c : Int), .int .u64 (d : Int)] (by rfl) (fun _ => ⟨rfl, _, rfl, hcs.out⟩) (by simp) (by intro v hv; simp at hv; rcases hv with rfl | rfl | rfl | rfl <;> rfl) (g + 1 + 1) w3.drew (Below.refl _ _) (Nat.le_refl _) ?_; intro w4 hr4 hb4)
  obtain ⟨M, hMM⟩ : ∃ M, mag4 a b c d = M := ⟨_, rfl⟩
  rw [hMM] at hM
  have A3 : Hid (Blk w4 (g + 1 + 1) 82 (ag5 M)) := by
    show w4.heap[g + 1 + 1]? = _
    rw [hr4.out, hM.out]; rfl
  have A1 : Hid (Blk w4 g 32 #[.bool s, .int .u64 (a : Int), .int .u64 (b : Int), .int .u64 (c : Int), .int .u64 (d : Int)]) := Blk.below (w := w3.drew) H1.out hb4 (by omega)
  have A2 : Hid (Blk w4 (g + 1) 82 z5c) := Blk.below (w := w3.drew) H2.out hb4 (by omega)
  have hEW : Hid (Below W.heap.size W w4) := Below.trans (Below.drew E.out) (hb4.mono (by rw [Hg.out]; omega))
  have HMM := hide hMM
  clear hr4 hb4 hcs H1 H2 H3 E hMM hM
  have KU : Hid (∀ w, Calls Try.prog 50 #[.agg (ag5 M), .int .u64 1] w (Ret (.agg (ag5 (M * 2))) w)) := fun w => p_up1 M w
  go_upto_region 4 with (first
    | (refine wpList_load_row rfl 82 (.tmp 3) rfl (g + 1 + 1) rfl 82 (ag5 M) (0, 0) _ A3.out Try.underlying82 rfl (by rw [info5, ag5_size]) ?_)
    | (go_at_call 50; (with_reducible refine (KU.out _).mono ?_); rintro e v5 ⟨rfl, hE5⟩; have A3 := hide (A3.out.ext hE5); have A1 := hide (A1.out.ext hE5); have A2 := hide (A2.out.ext hE5); have hEW := hide (Ext.trans hEW.out hE5); clear hE5)
    | (refine wpList_store_row rfl 82 (.tmp 3) (.tmp 9) rfl (g + 1 + 1) (ag5 (M * 2)) rfl rfl 82 (ag5 M) A3.out (by rw [info5, ag5_size]) (by rw [ag5_size, ag5_size]) (ag5_one _) ?_))
  have B3 := A3.out.setRow (ag5 (M * 2))
  have B1 := A1.out.rowfar (g' := g + 1 + 1) (ds := ag5 (M * 2)) (by omega)
  have B2 := A2.out.rowfar (g' := g + 1 + 1) (ds := ag5 (M * 2)) (by omega)
  have BE := below_row' (g := g + 1 + 1) hEW.out (by rw [Hg.out]; omega) (ag5 (M * 2))
  obtain ⟨w6, hw6⟩ : ∃ w6, v5.setRow (g + 1 + 1) (ag5 (M * 2)) = w6 := ⟨_, rfl⟩
  rw [hw6] at B1 B2 B3 BE ⊢
  have B1 := hide B1
  have B2 := hide B2
  have B3 := hide B3
  have BE := hide BE
  clear hw6 A1 A2 A3 hEW KU
  have c1 : w6.cell? ⟨g, 0, none⟩ = some (.bool s) := B1.out.cell 0
  have c2 : w6.cell? ⟨g, 1, none⟩ = some (.int .u64 (a : Int)) := B1.out.cell 1
  have c3 : w6.cell? ⟨g, 2, none⟩ = some (.int .u64 (b : Int)) := B1.out.cell 2
  have c4 : w6.cell? ⟨g, 3, none⟩ = some (.int .u64 (c : Int)) := B1.out.cell 3
  have c5 : w6.cell? ⟨g, 4, none⟩ = some (.int .u64 (d : Int)) := B1.out.cell 4
  have hzM : z.natAbs = M := by
    have h5 := hzz.out.2.2.2.2
    rw [HMM.out] at h5
    cases s <;> simp at h5 <;> omega
  have Hfin : Hid ((z < 0 → cod z = M * 2 + 1) ∧ (¬ z < 0 → cod z = M * 2)) := by
    unfold cod
    rw [hzM]
    exact ⟨fun h => by rw [if_pos h]; omega, fun h => by rw [if_neg h]; omega⟩
  clear hzM
  by_cases hneg : z < 0
  · have q1 : z.sign < 0 := by rw [Int.sign_eq_neg_one_of_neg hneg]; omega
    have hc := hide (Hfin.out.1 hneg)
    clear Hfin
    have hl : w5 (M * 2) 0 < 18446744073709551615 := by have := w5_lt (M * 2) 0; have : w5 (M * 2) 0 % 2 = 0 := by unfold w5; simp only [Nat.pow_zero, Nat.div_one]; omega
                                                        omega
    obtain ⟨x0, hx0⟩ : ∃ x, w5 (M * 2) 0 = x := ⟨_, rfl⟩
    rw [hx0] at hl
    have HX := hide hx0
    clear hx0
    go_wp2_with fail
    (with_reducible refine (KS.out _).mono ?_)
    rintro e v7 ⟨rfl, hE7⟩
    have B3 := hide (B3.out.ext hE7)
    have d0 : v7.cell? ⟨g + 1 + 1, 0, none⟩ = some (.int .u64 (x0 : Int)) := by
      rw [← HX.out]
      exact B3.out.cell 0
    have f0 := B3.out.frozen 0
    have S3 := hide (inc_blk v7 (g + 1 + 1) M x0 HX.out B3.out)
    have S2 := hide ((B2.out.ext hE7).far (p := ⟨g + 1 + 1, 0, none⟩) (by simp) (.int .u64 ((x0 : Int) + 1)))
    have SE := hide (Below.setCell (Ext.trans BE.out hE7) (p := ⟨g + 1 + 1, 0, none⟩) (by have := Hg.out; (try show W.heap.size ≤ g + 1 + 1); omega) (.int .u64 ((x0 : Int) + 1)))
    go_wp2_with (first
      | (refine wpList_load_row rfl 82 (.tmp 3) rfl (g + 1 + 1) rfl 82 (ag5 (M * 2 + 1)) (0, 0) _ S3.out Try.underlying82 rfl (by rw [info5, ag5_size]) ?_)
      | (refine wpList_store_row rfl 82 (.tmp 2) (.tmp 17) rfl (g + 1) (ag5 (M * 2 + 1)) rfl rfl 82 z5c S2.out (by rw [info5, ag5_size]) (by rw [ag5_size]; rfl) (ag5_one _) ?_))
    have hr := S2.out.setRow (ag5 (M * 2 + 1))
    exact bodyPost_ret (results_cell_row (p := 2) (ty := 82) rfl _ _ (g + 1) 82 (ag5 (M * 2 + 1)) (0, 0) _ rfl hr Try.underlying82 rfl (by rw [info5, ag5_size])) rfl ⟨by rw [hc.out], below_row' SE.out (by have := Hg.out; omega) _⟩
  · have q1 : ¬ z.sign < 0 := by
      rcases Int.lt_trichotomy z 0 with h | h | h
      · omega
      · subst h; decide
      · rw [Int.sign_eq_one_of_pos h]; omega
    have hc := hide (Hfin.out.2 hneg)
    clear Hfin
    go_wp2_with (first
      | (go_at_call 76; (with_reducible refine (KS.out _).mono ?_); rintro e v7 ⟨rfl, hE7⟩; have S3 := hide (B3.out.ext hE7); have S2 := hide (B2.out.ext hE7); have SE := hide (Ext.trans BE.out hE7))
      | (refine wpList_load_row rfl 82 (.tmp 3) rfl (g + 1 + 1) rfl 82 (ag5 (M * 2)) (0, 0) _ S3.out Try.underlying82 rfl (by rw [info5, ag5_size]) ?_)
      | (refine wpList_store_row rfl 82 (.tmp 2) (.tmp 17) rfl (g + 1) (ag5 (M * 2)) rfl rfl 82 z5c S2.out (by rw [info5, ag5_size]) (by rw [ag5_size]; rfl) (ag5_one _) ?_))
    have hr := S2.out.setRow (ag5 (M * 2))
    exact bodyPost_ret (results_cell_row (p := 2) (ty := 82) rfl _ _ (g + 1) 82 (ag5 (M * 2)) (0, 0) _ rfl hr Try.underlying82 rfl (by rw [info5, ag5_size])) rfl ⟨by rw [hc.out], below_row' SE.out (by have := Hg.out; omega) _⟩
end Go.Proofs.Ytdboaogdanahkaa
