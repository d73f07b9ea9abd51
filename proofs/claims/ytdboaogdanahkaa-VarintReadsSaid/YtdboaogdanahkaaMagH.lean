/- The negative of a Wide of the reference of layer 2. Conditions: the cells stand for a number. -/
import Derived.Test.YtdboaogdanahkaaMag1
import Derived.Deep.RegionWith
import Derived.Deep.DeepCutAuto
namespace Go.Proofs.Ytdboaogdanahkaa
set_option linter.unusedVariables false
set_option linter.unusedSimpArgs false
open Go Go.RowKit
set_option maxHeartbeats 16000000 in
theorem ref_neg (s : Bool) (a b c d : Nat) (z : Int) (w : World) (h : IsW s a b c d z) :
    Calls Try.prog 40 #[.agg #[.bool s, .int .u64 (a : Int), .int .u64 (b : Int), .int .u64 (c : Int), .int .u64 (d : Int)]] w (WideOnly (-z) w) := by
  obtain ⟨W, hW⟩ : ∃ W, W = (w.alloc (.cells #[.bool s, .int .u64 (a : Int), .int .u64 (b : Int), .int .u64 (c : Int), .int .u64 (d : Int)] 32)).alloc (.cells #[.bool false, .int .u64 0, .int .u64 0, .int .u64 0, .int .u64 0] 32) := ⟨_, rfl⟩
  have H3 := two_blocks w (.cells #[.bool s, .int .u64 (a : Int), .int .u64 (b : Int), .int .u64 (c : Int), .int .u64 (d : Int)] 32) (.cells #[.bool false, .int .u64 0, .int .u64 0, .int .u64 0, .int .u64 0] 32)
  rw [← hW] at H3
  have B0 : Box W w.heap.size s a b c d := H3.1
  have B1 : Box W (w.heap.size + 1) false 0 0 0 0 := H3.2
  have E0 : Ext w W := by rw [hW]; exact (ext_alloc _ _).trans (ext_alloc _ _)
  have z0 := B0.lt
  have z1 := B1.lt
  have zW := z1
  have HW := hide hW
  clear hW H3
  obtain ⟨ha, hb, hc, hd, hz⟩ := h
  obtain ⟨n, hn⟩ : ∃ n, mag4 a b c d = n := ⟨_, rfl⟩
  have MX := hide hn
  have hlt := mag_lt ha hb hc hd
  rw [hn] at hz hlt
  have SZ : Hid ((if !s then -(n : Int) else (n : Int)) = -z ∧ (-z).natAbs < 115792089237316195423570985008687907853269984665640564039457584007913129639936) := by
    unfold Hid; cases s <;> simp only [Bool.false_eq_true, if_false, if_true, Bool.not_false, Bool.not_true] at hz ⊢ <;> omega
  clear hz hn hlt
  go_enter Try.func40, Try.ntmps40
  go_upto_region 1 with fail
  rw [← HW.out]
  clear HW
  obtain ⟨c0, c1, c2, c3, c4, f0, f1, f2, f3, f4⟩ := five_cells B0
  obtain ⟨d0, d1, d2, d3, d4, g0, g1, g2, g3, g4⟩ := five_cells B1
  go_cut [3] (fun s3 wx => ∃ (k : Nat) (s' : Bool) (a' b' c' d' : Nat), s3 = .pointer (some ⟨k, 0, none⟩) ∧ w.heap.size + 1 < k ∧ Box wx k s' a' b' c' d' ∧ Box wx (w.heap.size + 1) false 0 0 0 0 ∧ IsC s' a' b' c' d' (-z) ∧ Ext w wx)
  case first =>
    go_region_with (first
      | (go_at_call 66; refine (of_any w.heap.size s a b c d _ (by first | exact E0.size | exact (E0.dr.al _).size) ha hb hc hd).mono ?_; rintro e' w' ⟨v, rfl, hv, hE⟩; rw [MX.out] at hv; have R0 := (by first | exact B0.drew | exact B0.drew.ext (ext_alloc _ _) : Box _ w.heap.size s a b c d).ext hE; have R1 := (by first | exact B1.drew | exact B1.drew.ext (ext_alloc _ _) : Box _ (w.heap.size + 1) false 0 0 0 0).ext hE; (try have R3 : Box _ W.heap.size false 0 0 0 0 := (show Box _ W.drew.heap.size false 0 0 0 0 from (Box.new0 W.drew).ext hE)); have E1 := (by first | exact E0.dr | exact E0.dr.al _ : Ext w _).trans hE; obtain ⟨c0, c1, c2, c3, c4, f0, f1, f2, f3, f4⟩ := five_cells R0; have z0 := R0.lt; have z1 := R1.lt)
      | (go_at_call 69; refine (ref_wide _ _ _ _ _ (by first | exact hv | exact hv.ext (ext_alloc _ _))).mono ?_; rintro e' w' ⟨s', a', b', c', d', o', rfl, ho, hC, hE⟩; rw [val_limbs, SZ.out.1, if_pos SZ.out.2] at hC; clear ho; have R1' := (by first | exact R1 | exact R1.ext (ext_alloc _ _) : Box _ (w.heap.size + 1) false 0 0 0 0).ext hE; (first | (have R3' := R3.ext hE; obtain ⟨i0, i1, i2, i3, i4, j0, j1, j2, j3, j4⟩ := five_cells R3') | (have R3' := (Box.new0 _).ext hE; obtain ⟨i0, i1, i2, i3, i4, j0, j1, j2, j3, j4⟩ := five_cells R3') | skip); have E2 := (by first | exact E1 | exact E1.al _ : Ext w _).trans hE))
    all_goals go_wp2_with fail
    all_goals go_meet
    all_goals (with_reducible first
      | exact ⟨_, s', a', b', c', d', rfl, R1'.lt, Box.new _ _ _ _ _ _, R1'.ext (ext_alloc _ _), hC, E2.al _⟩
      | exact ⟨_, s', a', b', c', d', rfl, z1, R3'.put, R1'.far (Nat.ne_of_lt z1) _ _ _ _ _, hC, ext_five E2 (Nat.le_trans (Nat.le_succ _) (Nat.le_of_lt z1)) _ _ _ _ _⟩
      | exact ⟨_, s', a', b', c', d', rfl, zW, R3'.put, R1'.far (Nat.ne_of_lt zW) _ _ _ _ _, hC, ext_five E2 (Nat.le_trans (Nat.le_succ _) (Nat.le_of_lt zW)) _ _ _ _ _⟩)
  case rest =>
    obtain ⟨k, s', a', b', c', d', rfl, hk, B3, B4, hC, E3⟩ := hcut
    clear c0 c1 c2 c3 c4 f0 f1 f2 f3 f4 d0 d1 d2 d3 d4 g0 g1 g2 g3 g4
    obtain ⟨c0, c1, c2, c3, c4, f0, f1, f2, f3, f4⟩ := five_cells B3
    obtain ⟨d0, d1, d2, d3, d4, g0, g1, g2, g3, g4⟩ := five_cells B4
    go_wp2
    exact bodyPost_ret (v := .agg #[.bool s', .int .u64 (a' : Int), .int .u64 (b' : Int), .int .u64 (c' : Int), .int .u64 (d' : Int)]) (by simp [results, Try.results40, go_sem, d0, d1, d2, d3, d4]) rfl ⟨s', a', b', c', d', rfl, hC, ext_five E3 (by omega) _ _ _ _ _⟩
end Go.Proofs.Ytdboaogdanahkaa
