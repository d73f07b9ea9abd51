/- The sum of two Wides of the reference of layer 2. Conditions: the cells stand for numbers. -/
import Derived.Test.YtdboaogdanahkaaMag1
import Derived.Deep.RegionWith
import Derived.Deep.RegionHeld3
import Derived.Deep.DeepCutAuto
namespace Go.Proofs.Ytdboaogdanahkaa
set_option linter.unusedVariables false
set_option linter.unusedSimpArgs false
open Go Go.RowKit
set_option maxHeartbeats 16000000 in
theorem ref_wadd (s t : Bool) (a b c d e f g h : Nat) (x y : Int) (w : World) (hx : IsW s a b c d x) (hy : IsW t e f g h y) :
    Calls Try.prog 94 #[.agg #[.bool s, .int .u64 (a : Int), .int .u64 (b : Int), .int .u64 (c : Int), .int .u64 (d : Int)], .agg #[.bool t, .int .u64 (e : Int), .int .u64 (f : Int), .int .u64 (g : Int), .int .u64 (h : Int)]] w (WideRet (x + y) w) := by
  obtain ⟨W, hW⟩ : ∃ W, W = (((w.alloc (.cells #[.bool s, .int .u64 (a : Int), .int .u64 (b : Int), .int .u64 (c : Int), .int .u64 (d : Int)] 32)).alloc (.cells #[.bool t, .int .u64 (e : Int), .int .u64 (f : Int), .int .u64 (g : Int), .int .u64 (h : Int)] 32)).alloc (.cells #[.bool false, .int .u64 0, .int .u64 0, .int .u64 0, .int .u64 0] 32)) := ⟨_, rfl⟩
  have H3 := three_boxes w (.cells #[.bool s, .int .u64 (a : Int), .int .u64 (b : Int), .int .u64 (c : Int), .int .u64 (d : Int)] 32) (.cells #[.bool t, .int .u64 (e : Int), .int .u64 (f : Int), .int .u64 (g : Int), .int .u64 (h : Int)] 32) (.cells #[.bool false, .int .u64 0, .int .u64 0, .int .u64 0, .int .u64 0] 32)
  rw [← hW] at H3
  have B0 : Box W w.heap.size s a b c d := H3.1
  have B1 : Box W (w.heap.size + 1) t e f g h := H3.2.1
  have B2 : Box W (w.heap.size + 1 + 1) false 0 0 0 0 := H3.2.2
  have E0 : Ext w W := by rw [hW]; exact ((ext_alloc _ _).trans (ext_alloc _ _)).trans (ext_alloc _ _)
  have HW := hide hW
  clear hW H3
  go_enter Try.func94, Try.ntmps94
  go_upto_region 1 with fail
  rw [← HW.out]
  clear HW
  go_cut [] (fun wx => Two w x y wx)
  case first =>
    obtain ⟨c0, c1, c2, c3, c4, f0, f1, f2, f3, f4⟩ := five_cells B0
    obtain ⟨d0, d1, d2, d3, d4, g0, g1, g2, g3, g4⟩ := five_cells B1
    go_region_with (first
      | (go_at_call 64; refine (ref_clean _ _ _ _ _ _ _ (by assumption)).mono ?_; rintro e' w' ⟨s', a', b', c', d', rfl, hC, hE⟩; have R0 := (by first | assumption | exact B0.drew : Box _ w.heap.size s a b c d).ext hE; have R1 := (by first | assumption | exact B1.drew : Box _ (w.heap.size + 1) t e f g h).ext hE; have R2 := (by first | assumption | exact B2.drew : Box _ (w.heap.size + 1 + 1) false 0 0 0 0).ext hE; obtain ⟨c0, c1, c2, c3, c4, f0, f1, f2, f3, f4⟩ := five_cells R0; obtain ⟨d0, d1, d2, d3, d4, g0, g1, g2, g3, g4⟩ := five_cells R1; have E1 := (by first | assumption | exact E0.trans (ext_drew _) : Ext w _).trans hE))
    all_goals go_wp2_with fail
    all_goals go_meet
    all_goals exact ⟨_, _, _, _, _, _, _, _, _, _, ‹IsC _ _ _ _ _ x›, ‹IsC _ _ _ _ _ y›, (R0.put).far (by omega) _ _ _ _ _, (R1.far (by omega) _ _ _ _ _).put, (R2.far (by omega) _ _ _ _ _).far (by omega) _ _ _ _ _, ext_five (ext_five E1 (Nat.le_refl _) _ _ _ _ _) (by omega) _ _ _ _ _⟩
  case rest =>
    clear B0 B1 B2 E0 hx hy
    obtain ⟨s, a, b, c, d, t, e, f, g, h, hx, hy, B0, B1, B2, E0⟩ := hcut
    obtain ⟨ha, hb, hc, hd, hxz⟩ := hx.1
    obtain ⟨he, hf, hg, hh, hyz⟩ := hy.1
    have MX : Hid (mag4 a b c d = x.natAbs) := by unfold Hid; cases s <;> simp at hxz <;> omega
    have MY : Hid (mag4 e f g h = y.natAbs) := by unfold Hid; cases t <;> simp at hyz <;> omega
    have SX : Hid (x = if s then -(x.natAbs : Int) else (x.natAbs : Int)) := by rw [← MX.out]; exact hxz
    have SY : Hid (y = if t then -(y.natAbs : Int) else (y.natAbs : Int)) := by rw [← MY.out]; exact hyz
    clear hxz hyz
    go_upto_region 2 with fail
    go_cut [6, 7] (fun s6 s7 wx => Words w.heap.size wx s6 (limbs x.natAbs) ∧ Words w.heap.size wx s7 (limbs y.natAbs) ∧ Box wx w.heap.size s a b c d ∧ Box wx (w.heap.size + 1) t e f g h ∧ Box wx (w.heap.size + 1 + 1) false 0 0 0 0 ∧ Ext w wx)
    case first =>
      obtain ⟨c0, c1, c2, c3, c4, f0, f1, f2, f3, f4⟩ := five_cells B0
      obtain ⟨d0, d1, d2, d3, d4, g0, g1, g2, g3, g4⟩ := five_cells B1
      go_region_with (first
        | (go_at_call_of 66 (Value.bool s); refine (of_any w.heap.size s a b c d _ (by first | exact E1.size | exact E0.size) ha hb hc hd).mono ?_; rintro e' w' ⟨v6, rfl, hv6, hE⟩; rw [MX.out] at hv6; have R0 := (by first | assumption | exact B0.drew : Box _ w.heap.size s a b c d).ext hE; have R1 := (by first | assumption | exact B1.drew : Box _ (w.heap.size + 1) t e f g h).ext hE; have R2 := (by first | assumption | exact B2.drew : Box _ (w.heap.size + 1 + 1) false 0 0 0 0).ext hE; obtain ⟨c0, c1, c2, c3, c4, f0, f1, f2, f3, f4⟩ := five_cells R0; obtain ⟨d0, d1, d2, d3, d4, g0, g1, g2, g3, g4⟩ := five_cells R1; have E1 := (by first | assumption | exact E0.trans (ext_drew _) : Ext w _).trans hE)
        | (go_at_call_of 66 (Value.bool t); refine (of_any w.heap.size t e f g h _ (by first | exact E1.size | exact E0.size) he hf hg hh).mono ?_; rintro e' w' ⟨v7, rfl, hv7, hE⟩; rw [MY.out] at hv7; have hv6' := hv6.ext hE; have R0 := (by first | assumption | exact B0.drew : Box _ w.heap.size s a b c d).ext hE; have R1 := (by first | assumption | exact B1.drew : Box _ (w.heap.size + 1) t e f g h).ext hE; have R2 := (by first | assumption | exact B2.drew : Box _ (w.heap.size + 1 + 1) false 0 0 0 0).ext hE; have E1 := (by first | assumption | exact E0.trans (ext_drew _) : Ext w _).trans hE))
      all_goals go_wp2_with fail
      all_goals go_meet
      all_goals exact ⟨hv6', hv7, R0, R1, R2, E1⟩
    case rest =>
      clear B0 B1 B2 E0
      obtain ⟨h6, h7, B0, B1, B2, E0⟩ := hcut
      have l6 : (limbs x.natAbs).length ≤ 4 := limbs_len_le.2 (by rw [← MX.out]; exact mag_lt ha hb hc hd)
      have l7 : (limbs y.natAbs).length ≤ 4 := limbs_len_le.2 (by rw [← MY.out]; exact mag_lt he hf hg hh)
      have L6 := hide l6
      have L7 := hide l7
      clear l6 l7
      obtain ⟨c0, c1, c2, c3, c4, f0, f1, f2, f3, f4⟩ := five_cells B0
      obtain ⟨d0, d1, d2, d3, d4, g0, g1, g2, g3, g4⟩ := five_cells B1
      by_cases hst : s = t
      · subst hst
        have SZ : Hid ((if s then -((x.natAbs + y.natAbs : Nat) : Int) else ((x.natAbs + y.natAbs : Nat) : Int)) = x + y) := by
          have h1 := SX.out
          have h2 := SY.out
          cases s <;> simp only [Bool.false_eq_true, if_false, if_true] at h1 h2 <;> simp [Hid] <;> omega
        go_wp2_with fail
        go_region_with (first
          | (go_at_call 67; refine (ref_add w.heap.size _ _ _ _ _ _ _ h6.drew h7.drew (by first | exact E1.size | exact E0.size) (Nat.le_trans L6.out (by omega)) (Nat.le_trans L7.out (by omega))).mono ?_; rintro e' w' ⟨v8, rfl, hv8, hE⟩; have R0 := B0.drew.ext hE; have R2 := B2.drew.ext hE; obtain ⟨c0, c1, c2, c3, c4, f0, f1, f2, f3, f4⟩ := five_cells R0; have E1 := (E0.trans (ext_drew _)).trans hE)
          | (go_at_call 69; refine (ref_wide _ _ _ _ _ hv8).mono ?_; rintro e' w' ⟨s', a', b', c', d', o', rfl, ho, hC, hE⟩; rw [val_limbs, SZ.out] at ho hC; have Ho := hide ho; clear ho; have R3 := R2.ext hE; obtain ⟨i0, i1, i2, i3, i4, j0, j1, j2, j3, j4⟩ := five_cells R3; have E2 := E1.trans hE))
        all_goals go_wp2_with fail
        all_goals exact bodyPost_ret (v := .tuple #[.agg #[.bool s', .int .u64 (a' : Int), .int .u64 (b' : Int), .int .u64 (c' : Int), .int .u64 (d' : Int)], .bool o']) (by simp [results, Try.results94, go_sem, i0, i1, i2, i3, i4]) rfl ⟨s', a', b', c', d', o', rfl, Ho.out, hC, ext_five E2 (by omega) _ _ _ _ _⟩
      · have hts : t = !s := by cases s <;> cases t <;> simp at hst ⊢
        subst hts
        clear hst
        by_cases hlt : x.natAbs < y.natAbs
        · have HS : Hid (sgnN x.natAbs y.natAbs = -1) := if_pos hlt
          have SZ : Hid ((if !s then -((y.natAbs - x.natAbs : Nat) : Int) else ((y.natAbs - x.natAbs : Nat) : Int)) = x + y) := by
            have h1 := SX.out
            have h2 := SY.out
            unfold Hid
            cases s <;> simp only [Bool.false_eq_true, if_false, if_true, Bool.not_false, Bool.not_true] at h1 h2 ⊢ <;> omega
          go_wp2_with (go_at_call 89; refine (compare_any _ _ _ _ _ _ _ h6 h7).mono ?_; rintro e' w' ⟨rfl, hE⟩; rw [HS.out]; have R0 := B0.ext hE; have R1 := B1.ext hE; have R2 := B2.ext hE; have h6' := h6.ext hE; have h7' := h7.ext hE; obtain ⟨c0, c1, c2, c3, c4, f0, f1, f2, f3, f4⟩ := five_cells R0; obtain ⟨d0, d1, d2, d3, d4, g0, g1, g2, g3, g4⟩ := five_cells R1; have E1 := E0.trans hE)
          go_region_with (first
            | (go_at_call 68; refine (ref_sub w.heap.size _ _ _ _ _ _ _ h7'.drew h6'.drew E1.size (Nat.le_trans L7.out (by omega)) (Nat.le_trans L6.out (by omega)) (by omega)).mono ?_; rintro e' w' ⟨v8, rfl, hv8, hE⟩; have R0' := R0.drew.ext hE; have R1' := R1.drew.ext hE; have R2' := R2.drew.ext hE; obtain ⟨c0, c1, c2, c3, c4, f0, f1, f2, f3, f4⟩ := five_cells R0'; obtain ⟨d0, d1, d2, d3, d4, g0, g1, g2, g3, g4⟩ := five_cells R1'; have E1' := (E1.trans (ext_drew _)).trans hE)
            | (go_at_call 69; refine (ref_wide _ _ _ _ _ hv8).mono ?_; rintro e' w' ⟨s', a', b', c', d', o', rfl, ho, hC, hE⟩; rw [val_limbs, SZ.out] at ho hC; have Ho := hide ho; clear ho; have R3 := R2'.ext hE; obtain ⟨i0, i1, i2, i3, i4, j0, j1, j2, j3, j4⟩ := five_cells R3; have E2 := E1'.trans hE))
          all_goals go_wp2_with fail
          all_goals exact bodyPost_ret (v := .tuple #[.agg #[.bool s', .int .u64 (a' : Int), .int .u64 (b' : Int), .int .u64 (c' : Int), .int .u64 (d' : Int)], .bool o']) (by simp [results, Try.results94, go_sem, i0, i1, i2, i3, i4]) rfl ⟨s', a', b', c', d', o', rfl, Ho.out, hC, ext_five E2 (by omega) _ _ _ _ _⟩
        · have h01 : (0 : Int) ≤ sgnN x.natAbs y.natAbs := by unfold sgnN; rw [if_neg hlt]; split <;> omega
          obtain ⟨q, hq⟩ : ∃ q, sgnN x.natAbs y.natAbs = q := ⟨_, rfl⟩
          rw [hq] at h01
          have HS := hide hq
          clear hq
          have SZ : Hid ((if s then -((x.natAbs - y.natAbs : Nat) : Int) else ((x.natAbs - y.natAbs : Nat) : Int)) = x + y) := by
            have h1 := SX.out
            have h2 := SY.out
            unfold Hid
            cases s <;> simp only [Bool.false_eq_true, if_false, if_true, Bool.not_false, Bool.not_true] at h1 h2 ⊢ <;> omega
          go_wp2_with (go_at_call 89; refine (compare_any _ _ _ _ _ _ _ h6 h7).mono ?_; rintro e' w' ⟨rfl, hE⟩; rw [HS.out]; have R0 := B0.ext hE; have R1 := B1.ext hE; have R2 := B2.ext hE; have h6' := h6.ext hE; have h7' := h7.ext hE; obtain ⟨c0, c1, c2, c3, c4, f0, f1, f2, f3, f4⟩ := five_cells R0; obtain ⟨d0, d1, d2, d3, d4, g0, g1, g2, g3, g4⟩ := five_cells R1; have E1 := E0.trans hE)
          go_region_with (first
            | (go_at_call 68; refine (ref_sub w.heap.size _ _ _ _ _ _ _ h6'.drew h7'.drew E1.size (Nat.le_trans L6.out (by omega)) (Nat.le_trans L7.out (by omega)) (by omega)).mono ?_; rintro e' w' ⟨v8, rfl, hv8, hE⟩; have R0' := R0.drew.ext hE; have R1' := R1.drew.ext hE; have R2' := R2.drew.ext hE; obtain ⟨c0, c1, c2, c3, c4, f0, f1, f2, f3, f4⟩ := five_cells R0'; obtain ⟨d0, d1, d2, d3, d4, g0, g1, g2, g3, g4⟩ := five_cells R1'; have E1' := (E1.trans (ext_drew _)).trans hE)
            | (go_at_call 69; refine (ref_wide _ _ _ _ _ hv8).mono ?_; rintro e' w' ⟨s', a', b', c', d', o', rfl, ho, hC, hE⟩; rw [val_limbs, SZ.out] at ho hC; have Ho := hide ho; clear ho; have R3 := R2'.ext hE; obtain ⟨i0, i1, i2, i3, i4, j0, j1, j2, j3, j4⟩ := five_cells R3; have E2 := E1'.trans hE))
          all_goals go_wp2_with fail
          all_goals exact bodyPost_ret (v := .tuple #[.agg #[.bool s', .int .u64 (a' : Int), .int .u64 (b' : Int), .int .u64 (c' : Int), .int .u64 (d' : Int)], .bool o']) (by simp [results, Try.results94, go_sem, i0, i1, i2, i3, i4]) rfl ⟨s', a', b', c', d', o', rfl, Ho.out, hC, ext_five E2 (by omega) _ _ _ _ _⟩
end Go.Proofs.Ytdboaogdanahkaa
