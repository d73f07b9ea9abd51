/- Mul and DivMod of the reference of layer 2. Conditions: the cells stand for numbers. -/
import Derived.Test.YtdboaogdanahkaaMulX
import Derived.Test.YtdboaogdanahkaaWrd3
import Derived.Test.YtdboaogdanahkaaDivL
namespace Go.Proofs.Ytdboaogdanahkaa
set_option linter.unusedVariables false
set_option linter.unusedSimpArgs false
open Go Go.RowKit
theorem le_drew {n : Nat} {w : World} (h : n ≤ w.heap.size) : n ≤ w.drew.heap.size := h
theorem abs_of {s : Bool} {a b c d : Nat} {x : Int} (h : IsC s a b c d x) : mag4 a b c d = x.natAbs ∧ x = if s then -(x.natAbs : Int) else (x.natAbs : Int) := by
  obtain ⟨⟨h1, h2, h3, h4, h5⟩, _⟩ := h
  have e : mag4 a b c d = x.natAbs := by cases s <;> simp at h5 <;> omega
  exact ⟨e, by rw [← e]; exact h5⟩
set_option maxRecDepth 100000 in
set_option maxHeartbeats 16000000 in
theorem ref_wmul (s t : Bool) (a b c d e f g h : Nat) (x y : Int) (w : World) (hx : IsW s a b c d x) (hy : IsW t e f g h y) :
    Calls Try.prog 93 #[.agg #[.bool s, .int .u64 (a : Int), .int .u64 (b : Int), .int .u64 (c : Int), .int .u64 (d : Int)], .agg #[.bool t, .int .u64 (e : Int), .int .u64 (f : Int), .int .u64 (g : Int), .int .u64 (h : Int)]] w (WideRet (x * y) w) := by
  obtain ⟨W, hW⟩ : ∃ W, W = (((w.alloc (.cells #[.bool s, .int .u64 (a : Int), .int .u64 (b : Int), .int .u64 (c : Int), .int .u64 (d : Int)] 32)).alloc (.cells #[.bool t, .int .u64 (e : Int), .int .u64 (f : Int), .int .u64 (g : Int), .int .u64 (h : Int)] 32)).alloc (.cells #[.bool false, .int .u64 0, .int .u64 0, .int .u64 0, .int .u64 0] 32)) := ⟨_, rfl⟩
  have H3 := three_boxes w (.cells #[.bool s, .int .u64 (a : Int), .int .u64 (b : Int), .int .u64 (c : Int), .int .u64 (d : Int)] 32) (.cells #[.bool t, .int .u64 (e : Int), .int .u64 (f : Int), .int .u64 (g : Int), .int .u64 (h : Int)] 32) (.cells #[.bool false, .int .u64 0, .int .u64 0, .int .u64 0, .int .u64 0] 32)
  rw [← hW] at H3
  have B0 : Box W w.heap.size s a b c d := H3.1
  have B1 : Box W (w.heap.size + 1) t e f g h := H3.2.1
  have B2 : Box W (w.heap.size + 1 + 1) false 0 0 0 0 := H3.2.2
  have E0 : Ext w W := by rw [hW]; exact ((ext_alloc _ _).trans (ext_alloc _ _)).trans (ext_alloc _ _)
  have HW := hide hW
  clear hW H3
  go_enter Try.func93, Try.ntmps93
  go_upto_region 1 with fail
  rw [← HW.out]
  clear HW
  go_cut [] (fun wx => Two w x y wx)
  case first =>
    obtain ⟨c0, c1, c2, c3, c4, f0, f1, f2, f3, f4⟩ := five_cells B0
    obtain ⟨d0, d1, d2, d3, d4, g0, g1, g2, g3, g4⟩ := five_cells B1
    go_region_with (first
      | (go_at_call 64; refine (ref_clean _ _ _ _ _ _ _ (by assumption)).mono ?_; rintro e' w' ⟨s', a', b', c', d', rfl, hC, hE⟩; have R0 := (by first | assumption | exact B0.drew : Box _ w.heap.size s a b c d).ext hE; have R1 := (by first | assumption | exact B1.drew : Box _ (w.heap.size + 1) t e f g h).ext hE; have R2 := (by first | assumption | exact B2.drew : Box _ (w.heap.size + 1 + 1) false 0 0 0 0).ext hE; obtain ⟨c0, c1, c2, c3, c4, f0, f1, f2, f3, f4⟩ := five_cells R0; obtain ⟨d0, d1, d2, d3, d4, g0, g1, g2, g3, g4⟩ := five_cells R1; have E1 := (by first | assumption | exact E0.trans (ext_drew _) : Ext w _).trans hE))
    all_goals go_wp2_with fail
    all_goals go_meet
    all_goals exact ⟨_, _, _, _, _, _, _, _, _, _, ‹IsC _ _ _ _ _ x›, ‹IsC _ _ _ _ _ y›, (R0.put).far (by omega) _ _ _ _ _, (R1.far (by omega) _ _ _ _ _).put, (R2.far (by omega) _ _ _ _ _).far (by omega) _ _ _ _ _, ext_five (ext_five E1 (Nat.le_refl _) _ _ _ _ _) (by omega) _ _ _ _ _⟩
  case rest =>
    clear B0 B1 B2 E0 hx hy
    obtain ⟨s, a, b, c, d, t, e, f, g, h, hx, hy, B0, B1, B2, E0⟩ := hcut
    obtain ⟨n, hn⟩ : ∃ n, x.natAbs = n := ⟨_, rfl⟩
    obtain ⟨m, hm⟩ : ∃ m, y.natAbs = m := ⟨_, rfl⟩
    obtain ⟨mx, sx⟩ := abs_of hx
    obtain ⟨my, sy⟩ := abs_of hy
    rw [hn] at mx sx
    rw [hm] at my sy
    obtain ⟨u, hu⟩ : ∃ u, (s != t) = u := ⟨_, rfl⟩
    have SZ : Hid ((if u then -((n * m : Nat) : Int) else ((n * m : Nat) : Int)) = x * y) := by rw [← hu]; exact (mul_abs s t n m x y sx sy).1
    have hnb := neqB s t u hu
    have kA : Hid (∀ w', w.heap.size ≤ w'.heap.size → Calls Try.prog 66 #[.agg #[.bool s, .int .u64 (a : Int), .int .u64 (b : Int), .int .u64 (c : Int), .int .u64 (d : Int)]] w' (NewWords w.heap.size n w')) := fun w' hw' => by
      obtain ⟨ha, hb, hc, hd, _⟩ := hx.1
      rw [← mx]; exact of_any w.heap.size s a b c d w' hw' ha hb hc hd
    have kB : Hid (∀ w', w.heap.size ≤ w'.heap.size → Calls Try.prog 66 #[.agg #[.bool t, .int .u64 (e : Int), .int .u64 (f : Int), .int .u64 (g : Int), .int .u64 (h : Int)]] w' (NewWords w.heap.size m w')) := fun w' hw' => by
      obtain ⟨ha, hb, hc, hd, _⟩ := hy.1
      rw [← my]; exact of_any w.heap.size t e f g h w' hw' ha hb hc hd
    have L6 : Hid ((limbs n).length ≤ 4) := limbs_len_le.2 (by rw [← mx]; exact mag_lt hx.1.1 hx.1.2.1 hx.1.2.2.1 hx.1.2.2.2.1)
    have L7 : Hid ((limbs m).length ≤ 4) := limbs_len_le.2 (by rw [← my]; exact mag_lt hy.1.1 hy.1.2.1 hy.1.2.2.1 hy.1.2.2.2.1)
    clear hn hm mx my sx sy hu hx hy
    have s0 := E0.size
    obtain ⟨c0, c1, c2, c3, c4, _⟩ := five_cells B0
    obtain ⟨d0, d1, d2, d3, d4, _⟩ := five_cells B1
    obtain ⟨i0, i1, i2, i3, i4, j0, j1, j2, j3, j4⟩ := five_cells B2
    have n02 : w.heap.size ≠ w.heap.size + 1 + 1 := by omega
    have n12 : w.heap.size + 1 ≠ w.heap.size + 1 + 1 := by omega
    go_upto_region 2 with fail
    go_region_held3 (fun w' => w'.cell? ⟨w.heap.size, 0, none⟩ = some (.bool s) ∧ w'.cell? ⟨w.heap.size, 1, none⟩ = some (.int .u64 (a : Int)) ∧ w'.cell? ⟨w.heap.size, 2, none⟩ = some (.int .u64 (b : Int)) ∧ w'.cell? ⟨w.heap.size, 3, none⟩ = some (.int .u64 (c : Int)) ∧ w'.cell? ⟨w.heap.size, 4, none⟩ = some (.int .u64 (d : Int)) ∧ w'.cell? ⟨w.heap.size + 1, 0, none⟩ = some (.bool t) ∧ w'.cell? ⟨w.heap.size + 1, 1, none⟩ = some (.int .u64 (e : Int)) ∧ w'.cell? ⟨w.heap.size + 1, 2, none⟩ = some (.int .u64 (f : Int)) ∧ w'.cell? ⟨w.heap.size + 1, 3, none⟩ = some (.int .u64 (g : Int)) ∧ w'.cell? ⟨w.heap.size + 1, 4, none⟩ = some (.int .u64 (h : Int))) (first | (with_reducible exact ⟨c0, c1, c2, c3, c4, d0, d1, d2, d3, d4⟩) | (with_reducible exact ⟨(cell_far5 _ n02).trans c0, (cell_far5 _ n02).trans c1, (cell_far5 _ n02).trans c2, (cell_far5 _ n02).trans c3, (cell_far5 _ n02).trans c4, (cell_far5 _ n12).trans d0, (cell_far5 _ n12).trans d1, (cell_far5 _ n12).trans d2, (cell_far5 _ n12).trans d3, (cell_far5 _ n12).trans d4⟩) | go_keep) (first
      | (go_at_call 66; (with_reducible refine (kA.out _ (by first | exact s0 | exact le_drew s0)).mono ?_); rintro e' y6 ⟨v6, rfl, hv6, hE⟩; (try (have hv7 := hv7.ext hE)); have B0 : Box y6 w.heap.size s a b c d := (by first | exact B0.ext hE | exact B0.drew.ext hE); have B1 : Box y6 (w.heap.size + 1) t e f g h := (by first | exact B1.ext hE | exact B1.drew.ext hE); have B2 : Box y6 (w.heap.size + 1 + 1) false 0 0 0 0 := (by first | exact B2.ext hE | exact B2.drew.ext hE); have E0 : Ext w y6 := (by first | exact E0.trans hE | exact (E0.trans (ext_drew _)).trans hE); have s0 := E0.size; obtain ⟨c0, c1, c2, c3, c4, _⟩ := five_cells B0; obtain ⟨d0, d1, d2, d3, d4, _⟩ := five_cells B1; obtain ⟨i0, i1, i2, i3, i4, j0, j1, j2, j3, j4⟩ := five_cells B2; clear hE)
      | (go_at_call 66; (with_reducible refine (kB.out _ (by first | exact s0 | exact le_drew s0)).mono ?_); rintro e' y7 ⟨v7, rfl, hv7, hE⟩; (try (have hv6 := hv6.ext hE)); have B0 : Box y7 w.heap.size s a b c d := (by first | exact B0.ext hE | exact B0.drew.ext hE); have B1 : Box y7 (w.heap.size + 1) t e f g h := (by first | exact B1.ext hE | exact B1.drew.ext hE); have B2 : Box y7 (w.heap.size + 1 + 1) false 0 0 0 0 := (by first | exact B2.ext hE | exact B2.drew.ext hE); have E0 : Ext w y7 := (by first | exact E0.trans hE | exact (E0.trans (ext_drew _)).trans hE); have s0 := E0.size; obtain ⟨c0, c1, c2, c3, c4, _⟩ := five_cells B0; obtain ⟨d0, d1, d2, d3, d4, _⟩ := five_cells B1; obtain ⟨i0, i1, i2, i3, i4, j0, j1, j2, j3, j4⟩ := five_cells B2; clear hE)
      | (go_at_call 101; refine (ref_mul w.heap.size _ _ _ _ _ _ _ hv6 hv7 s0 (Nat.le_trans L6.out (by omega)) (Nat.le_trans L7.out (by omega))).mono ?_; rintro e' y8 ⟨v8, rfl, hv8, hE⟩; have B0 := B0.ext hE; have B1 := B1.ext hE; have B2 := B2.ext hE; have E0 := E0.trans hE; have s0 := E0.size; obtain ⟨c0, c1, c2, c3, c4, _⟩ := five_cells B0; obtain ⟨d0, d1, d2, d3, d4, _⟩ := five_cells B1; obtain ⟨i0, i1, i2, i3, i4, j0, j1, j2, j3, j4⟩ := five_cells B2; clear hE)
      | (go_at_call 69; refine (ref_wide _ u _ _ _ hv8).mono ?_; rintro e' y9 ⟨s', a', b', c', d', o', rfl, ho, hC, hE⟩; rw [val_limbs, SZ.out] at ho hC; have Ho := hide ho; clear ho; have B0 := B0.ext hE; have B1 := B1.ext hE; have B2 := B2.ext hE; have E0 := E0.trans hE; have s0 := E0.size; obtain ⟨c0, c1, c2, c3, c4, _⟩ := five_cells B0; obtain ⟨d0, d1, d2, d3, d4, _⟩ := five_cells B1; obtain ⟨i0, i1, i2, i3, i4, j0, j1, j2, j3, j4⟩ := five_cells B2; clear hE))
    all_goals go_wp2_with fail
    all_goals exact bodyPost_ret (v := .tuple #[.agg #[.bool s', .int .u64 (a' : Int), .int .u64 (b' : Int), .int .u64 (c' : Int), .int .u64 (d' : Int)], .bool o']) (by simp [results, Try.results93, go_sem, i0, i1, i2, i3, i4]) rfl ⟨s', a', b', c', d', o', rfl, Ho.out, hC, ext_five E0 (by omega) _ _ _ _ _⟩
theorem ref_divmod (B C D : Nat) (u v : Value) (n m : Nat) (w : World) (h : Words C w u (limbs n)) (k : Words D w v (limbs m)) (hB : B ≤ w.heap.size) (hn : (limbs n).length ≤ 900) (hm : (limbs m).length ≤ 900) (h0 : 0 < m) :
    Calls Try.prog 65 #[u, v] w (DivWords B n m w) := by
  by_cases h1 : m < 18446744073709551616
  · rw [limbs_one m h0 h1] at k
    exact ref_div1 B C D u v n m w h k hB (by omega) h0
  · refine ref_div2 B C D u v n m w h k hB hn hm ?_
    have h2 : ¬ (limbs m).length ≤ 1 := fun e => by have := limbs_len_le.1 e; omega
    omega
/-- A Wide is returned that stands for z, and true. -/
def WideYes (z : Int) (w : World) (e : Ending) (w' : World) : Prop := ∃ (s : Bool) (a b c d : Nat), e = .returned (.tuple #[.agg #[.bool s, .int .u64 (a : Int), .int .u64 (b : Int), .int .u64 (c : Int), .int .u64 (d : Int)], .bool true]) ∧ IsC s a b c d z ∧ Ext w w'
theorem ref_wide_yes (C Q : Nat) (s : Bool) (v : Value) (z : Int) (w : World) (h : Words C w v (limbs Q)) (hf : Q < 115792089237316195423570985008687907853269984665640564039457584007913129639936) (hz : (if s then -(Q : Int) else (Q : Int)) = z) :
    Calls Try.prog 69 #[.bool s, v] w (WideYes z w) := by
  refine (ref_wide C s v _ w h).mono ?_
  rintro e w' ⟨s', a, b, c, d, o, rfl, ho, hC, hE⟩
  rw [val_limbs, hz] at ho hC
  have hn : z.natAbs = Q := by rw [← hz]; cases s <;> simp
  rw [hn, if_pos hf] at hC
  have : o = true := by rw [ho, decide_eq_true_iff, hn]; exact hf
  subst this
  exact ⟨s', a, b, c, d, rfl, hC, hE⟩
theorem upd_five (g : Nat) (w : World) (u0 u1 u2 u3 u4 : Value) : Upd g w (((((w.setCell ⟨g, 0, none⟩ u0).setCell ⟨g, 1, none⟩ u1).setCell ⟨g, 2, none⟩ u2).setCell ⟨g, 3, none⟩ u3).setCell ⟨g, 4, none⟩ u4) := (((((Upd.refl g w).set 0 u0).set 1 u1).set 2 u2).set 3 u3).set 4 u4
def Four (w : World) (x y : Int) (wx : World) : Prop := ∃ (s : Bool) (a b c d : Nat) (t : Bool) (e f g h : Nat), IsC s a b c d x ∧ IsC t e f g h y ∧ Box wx w.heap.size s a b c d ∧ Box wx (w.heap.size + 1) t e f g h ∧ Box wx (w.heap.size + 1 + 1) false 0 0 0 0 ∧ Box wx (w.heap.size + 1 + 1 + 1) false 0 0 0 0 ∧ Ext w wx
set_option maxRecDepth 100000 in
set_option maxHeartbeats 16000000 in
theorem ref_wdiv (s t : Bool) (a b c d e f g h : Nat) (x y : Int) (w : World) (hx : IsW s a b c d x) (hy : IsW t e f g h y) :
    Calls Try.prog 34 #[.agg #[.bool s, .int .u64 (a : Int), .int .u64 (b : Int), .int .u64 (c : Int), .int .u64 (d : Int)], .agg #[.bool t, .int .u64 (e : Int), .int .u64 (f : Int), .int .u64 (g : Int), .int .u64 (h : Int)]] w (DivRet x y w) := by
  obtain ⟨W, hW, B0, B1, B2, B3, E0⟩ := four_boxes w s t a b c d e f g h
  have HW := hide hW
  clear hW
  go_enter Try.func34, Try.ntmps34
  go_upto_region 1 with fail
  rw [HW.out]
  clear HW
  go_cut [] (fun wx => Four w x y wx)
  case first =>
    obtain ⟨c0, c1, c2, c3, c4, f0, f1, f2, f3, f4⟩ := five_cells B0
    obtain ⟨d0, d1, d2, d3, d4, g0, g1, g2, g3, g4⟩ := five_cells B1
    go_region_with (first
      | (go_at_call 64; refine (ref_clean _ _ _ _ _ _ _ (by assumption)).mono ?_; rintro e' w' ⟨s', a', b', c', d', rfl, hC, hE⟩; have R0 := (by first | assumption | exact B0.drew : Box _ w.heap.size s a b c d).ext hE; have R1 := (by first | assumption | exact B1.drew : Box _ (w.heap.size + 1) t e f g h).ext hE; have R2 := (by first | assumption | exact B2.drew : Box _ (w.heap.size + 1 + 1) false 0 0 0 0).ext hE; have R3 := (by first | assumption | exact B3.drew : Box _ (w.heap.size + 1 + 1 + 1) false 0 0 0 0).ext hE; obtain ⟨c0, c1, c2, c3, c4, f0, f1, f2, f3, f4⟩ := five_cells R0; obtain ⟨d0, d1, d2, d3, d4, g0, g1, g2, g3, g4⟩ := five_cells R1; have E1 := (by first | assumption | exact E0.trans (ext_drew _) : Ext w _).trans hE))
    all_goals go_wp2_with fail
    all_goals go_meet
    all_goals exact ⟨_, _, _, _, _, _, _, _, _, _, ‹IsC _ _ _ _ _ x›, ‹IsC _ _ _ _ _ y›, (R0.put).far (by omega) _ _ _ _ _, (R1.far (by omega) _ _ _ _ _).put, (R2.far (by omega) _ _ _ _ _).far (by omega) _ _ _ _ _, (R3.far (by omega) _ _ _ _ _).far (by omega) _ _ _ _ _, ext_five (ext_five E1 (Nat.le_refl _) _ _ _ _ _) (by omega) _ _ _ _ _⟩
  case rest =>
    clear B0 B1 B2 B3 E0 hx hy
    obtain ⟨s, a, b, c, d, t, e, f, g, h, hx, hy, B0, B1, B2, B3, E0⟩ := hcut
    by_cases hy0 : y = 0
    · have ks : Hid (∀ w', Calls Try.prog 37 #[.agg #[.bool t, .int .u64 (e : Int), .int .u64 (f : Int), .int .u64 (g : Int), .int .u64 (h : Int)]] w' (IntRet .i64 0 w')) := fun w' => by have := ref_sign _ _ _ _ _ _ w' hy.1; rw [hy0] at this; exact this
      have HY := hide hy0
      clear hx hy hy0 B0
      obtain ⟨d0, d1, d2, d3, d4, _⟩ := five_cells B1
      go_wp2_with (go_at_call 37; (with_reducible refine (ks.out _).mono ?_); rintro e' w2 ⟨rfl, hE⟩; have B2 := B2.ext hE; have B3 := B3.ext hE; have E0 := E0.trans hE; obtain ⟨i0, i1, i2, i3, i4, j0, j1, j2, j3, j4⟩ := five_cells B2; obtain ⟨k0, k1, k2, k3, k4, l0, l1, l2, l3, l4⟩ := five_cells B3; clear hE)
      all_goals exact bodyPost_ret (v := .tuple #[.agg #[.bool false, .int .u64 0, .int .u64 0, .int .u64 0, .int .u64 0], .agg #[.bool false, .int .u64 0, .int .u64 0, .int .u64 0, .int .u64 0], .bool false]) (by simp [results, Try.results34, go_sem, i0, i1, i2, i3, i4, k0, k1, k2, k3, k4]) rfl (divRet_no HY.out (ext_five (ext_five E0 (by omega) _ _ _ _ _) (by omega) _ _ _ _ _))
    · obtain ⟨n, hn⟩ : ∃ n, x.natAbs = n := ⟨_, rfl⟩
      obtain ⟨m, hm⟩ : ∃ m, y.natAbs = m := ⟨_, rfl⟩
      obtain ⟨mx, sx⟩ := abs_of hx
      obtain ⟨my, sy⟩ := abs_of hy
      rw [hn] at mx sx
      rw [hm] at my sy
      have hm0 : 0 < m := by omega
      obtain ⟨u, hu⟩ : ∃ u, (s != t) = u := ⟨_, rfl⟩
      have hds := div_signs s t n m x y sx sy hm0
      rw [hu] at hds
      have HDS := hide hds
      have hnb := neqB s t u hu
      have kA : Hid (∀ w', w.heap.size ≤ w'.heap.size → Calls Try.prog 66 #[.agg #[.bool s, .int .u64 (a : Int), .int .u64 (b : Int), .int .u64 (c : Int), .int .u64 (d : Int)]] w' (NewWords w.heap.size n w')) := fun w' hw' => by
        obtain ⟨ha, hb, hc, hd, _⟩ := hx.1
        rw [← mx]; exact of_any w.heap.size s a b c d w' hw' ha hb hc hd
      have kB : Hid (∀ w', w.heap.size ≤ w'.heap.size → Calls Try.prog 66 #[.agg #[.bool t, .int .u64 (e : Int), .int .u64 (f : Int), .int .u64 (g : Int), .int .u64 (h : Int)]] w' (NewWords w.heap.size m w')) := fun w' hw' => by
        obtain ⟨ha, hb, hc, hd, _⟩ := hy.1
        rw [← my]; exact of_any w.heap.size t e f g h w' hw' ha hb hc hd
      have FN : Hid (n < 115792089237316195423570985008687907853269984665640564039457584007913129639936) := by rw [← mx]; exact mag_lt hx.1.1 hx.1.2.1 hx.1.2.2.1 hx.1.2.2.2.1
      have FM : Hid (m < 115792089237316195423570985008687907853269984665640564039457584007913129639936) := by rw [← my]; exact mag_lt hy.1.1 hy.1.2.1 hy.1.2.2.1 hy.1.2.2.2.1
      have L6 : Hid ((limbs n).length ≤ 4) := limbs_len_le.2 FN.out
      have L7 : Hid ((limbs m).length ≤ 4) := limbs_len_le.2 FM.out
      obtain ⟨sg, hsg⟩ : ∃ sg, y.sign = sg := ⟨_, rfl⟩
      have hsg0 : ¬ (sg = 0) := by rw [← hsg]; intro e; exact hy0 (Int.sign_eq_zero_iff_zero.1 e)
      have ks : Hid (∀ w', Calls Try.prog 37 #[.agg #[.bool t, .int .u64 (e : Int), .int .u64 (f : Int), .int .u64 (g : Int), .int .u64 (h : Int)]] w' (IntRet .i64 sg w')) := fun w' => by rw [← hsg]; exact ref_sign _ _ _ _ _ _ w' hy.1
      have HY := hide hy0
      clear hn hm mx my sx sy hu hx hy hds hsg hy0
      obtain ⟨c0, c1, c2, c3, c4, _⟩ := five_cells B0
      obtain ⟨d0, d1, d2, d3, d4, _⟩ := five_cells B1
      go_upto_region 4 with (go_at_call 37; (with_reducible refine (ks.out _).mono ?_); rintro e' w2 ⟨rfl, hE⟩; have B0 := B0.ext hE; have B1 := B1.ext hE; have B2 := B2.ext hE; have B3 := B3.ext hE; have E0 := E0.trans hE; obtain ⟨c0, c1, c2, c3, c4, _⟩ := five_cells B0; obtain ⟨d0, d1, d2, d3, d4, _⟩ := five_cells B1; clear hE)
      have s0 := E0.size
      go_region_held3 (fun w' => w'.cell? ⟨w.heap.size, 0, none⟩ = some (.bool s) ∧ w'.cell? ⟨w.heap.size, 1, none⟩ = some (.int .u64 (a : Int)) ∧ w'.cell? ⟨w.heap.size, 2, none⟩ = some (.int .u64 (b : Int)) ∧ w'.cell? ⟨w.heap.size, 3, none⟩ = some (.int .u64 (c : Int)) ∧ w'.cell? ⟨w.heap.size, 4, none⟩ = some (.int .u64 (d : Int)) ∧ w'.cell? ⟨w.heap.size + 1, 0, none⟩ = some (.bool t) ∧ w'.cell? ⟨w.heap.size + 1, 1, none⟩ = some (.int .u64 (e : Int)) ∧ w'.cell? ⟨w.heap.size + 1, 2, none⟩ = some (.int .u64 (f : Int)) ∧ w'.cell? ⟨w.heap.size + 1, 3, none⟩ = some (.int .u64 (g : Int)) ∧ w'.cell? ⟨w.heap.size + 1, 4, none⟩ = some (.int .u64 (h : Int))) (first | (with_reducible exact ⟨c0, c1, c2, c3, c4, d0, d1, d2, d3, d4⟩) | go_keep) (first
        | (go_at_call 66; (with_reducible refine (kA.out _ (by first | exact s0 | exact le_drew s0)).mono ?_); rintro e' y6 ⟨v6, rfl, hv6, hE⟩; (try (have hv7 := hv7.ext hE)); have B0 : Box y6 w.heap.size s a b c d := (by first | exact B0.ext hE | exact B0.drew.ext hE); have B1 : Box y6 (w.heap.size + 1) t e f g h := (by first | exact B1.ext hE | exact B1.drew.ext hE); have B2 : Box y6 (w.heap.size + 1 + 1) false 0 0 0 0 := (by first | exact B2.ext hE | exact B2.drew.ext hE); have B3 : Box y6 (w.heap.size + 1 + 1 + 1) false 0 0 0 0 := (by first | exact B3.ext hE | exact B3.drew.ext hE); have E0 : Ext w y6 := (by first | exact E0.trans hE | exact (E0.trans (ext_drew _)).trans hE); have s0 := E0.size; obtain ⟨c0, c1, c2, c3, c4, _⟩ := five_cells B0; obtain ⟨d0, d1, d2, d3, d4, _⟩ := five_cells B1; clear hE)
        | (go_at_call 66; (with_reducible refine (kB.out _ (by first | exact s0 | exact le_drew s0)).mono ?_); rintro e' y7 ⟨v7, rfl, hv7, hE⟩; (try (have hv6 := hv6.ext hE)); have B0 : Box y7 w.heap.size s a b c d := (by first | exact B0.ext hE | exact B0.drew.ext hE); have B1 : Box y7 (w.heap.size + 1) t e f g h := (by first | exact B1.ext hE | exact B1.drew.ext hE); have B2 : Box y7 (w.heap.size + 1 + 1) false 0 0 0 0 := (by first | exact B2.ext hE | exact B2.drew.ext hE); have B3 : Box y7 (w.heap.size + 1 + 1 + 1) false 0 0 0 0 := (by first | exact B3.ext hE | exact B3.drew.ext hE); have E0 : Ext w y7 := (by first | exact E0.trans hE | exact (E0.trans (ext_drew _)).trans hE); have s0 := E0.size; obtain ⟨c0, c1, c2, c3, c4, _⟩ := five_cells B0; obtain ⟨d0, d1, d2, d3, d4, _⟩ := five_cells B1; clear hE)
        | (go_at_call 65; have l3 := B3.lt; refine (ref_divmod _ _ _ _ _ _ _ _ hv6 hv7 (Nat.le_refl _) (Nat.le_trans L6.out (by omega)) (Nat.le_trans L7.out (by omega)) hm0).mono ?_; rintro e' y8 ⟨vq, vr, rfl, hvq, hvr, hE⟩; have B0 := B0.ext hE; have B1 := B1.ext hE; have B2 := B2.ext hE; have B3 := B3.ext hE; have E0 := E0.trans hE; have s0 := E0.size; obtain ⟨c0, c1, c2, c3, c4, _⟩ := five_cells B0; obtain ⟨d0, d1, d2, d3, d4, _⟩ := five_cells B1; clear hE))
      have fq : n / m < 115792089237316195423570985008687907853269984665640564039457584007913129639936 := Nat.lt_of_le_of_lt (Nat.div_le_self _ _) FN.out
      have fr : n % m < 115792089237316195423570985008687907853269984665640564039457584007913129639936 := Nat.lt_of_le_of_lt (Nat.mod_le _ _) FN.out
      obtain ⟨L, hL⟩ : ∃ L, (limbs (n % m)).length = L := ⟨_, rfl⟩
      obtain ⟨ar, cr, rfl, _, _, _⟩ := hvr.shape L hL
      have hLp := len_pos (n % m)
      rw [hL] at hLp
      clear hv6 hv7 kA hL
      cases s
      · have HZ := hide (HDS.out.1 (Or.inl rfl))
        have kq : Hid (∀ C' w', Words C' w' vq (limbs (n / m)) → Calls Try.prog 69 #[.bool u, vq] w' (WideYes (x / y) w')) := fun C' w' hw => ref_wide_yes C' _ u vq _ w' hw fq HZ.out.1.symm
        have kr : Hid (∀ C' w', Words C' w' (.slice ar L cr) (limbs (n % m)) → Calls Try.prog 69 #[.bool false, .slice ar L cr] w' (WideYes (x % y) w')) := fun C' w' hw => ref_wide_yes C' _ false _ _ w' hw fr HZ.out.2.symm
        clear hLp fq fr kB
        have n02 : w.heap.size + 1 + 1 ≠ w.heap.size := by omega
        have n12 : w.heap.size + 1 + 1 ≠ w.heap.size + 1 := by omega
        go_upto_region 10 with (go_at_call 69; (with_reducible refine (kq.out _ _ hvq).mono ?_); rintro e' y9 ⟨s7, a7, b7, c7, d7, rfl, C7, hE⟩; have B2 := B2.ext hE; have B3 := B3.ext hE; have E0 := E0.trans hE; have hvr := hvr.ext hE; obtain ⟨i0, i1, i2, i3, i4, j0, j1, j2, j3, j4⟩ := five_cells B2; clear hE)
        have K7 := hide C7
        have P2 := B2.put (t := s7) (a' := a7) (b' := b7) (c' := c7) (d' := d7)
        have P3 := B3.far (b' := w.heap.size + 1 + 1) (by omega) (.bool s7) (.int .u64 (a7 : Int)) (.int .u64 (b7 : Int)) (.int .u64 (c7 : Int)) (.int .u64 (d7 : Int))
        have P0 := ext_five E0 (b := w.heap.size + 1 + 1) (by omega) (.bool s7) (.int .u64 (a7 : Int)) (.int .u64 (b7 : Int)) (.int .u64 (c7 : Int)) (.int .u64 (d7 : Int))
        have hvr := hvr.upd (upd_five (w.heap.size + 1 + 1) y9 (.bool s7) (.int .u64 (a7 : Int)) (.int .u64 (b7 : Int)) (.int .u64 (c7 : Int)) (.int .u64 (d7 : Int))) (hvr.apart' (by omega))
        generalize ((((y9.setCell ⟨w.heap.size + 1 + 1, 0, none⟩ (.bool s7)).setCell ⟨w.heap.size + 1 + 1, 1, none⟩ (.int .u64 (a7 : Int))).setCell ⟨w.heap.size + 1 + 1, 2, none⟩ (.int .u64 (b7 : Int))).setCell ⟨w.heap.size + 1 + 1, 3, none⟩ (.int .u64 (c7 : Int))).setCell ⟨w.heap.size + 1 + 1, 4, none⟩ (.int .u64 (d7 : Int)) = Y at *
        clear B2 B3 E0 C7
        go_upto_region 11 with (go_at_call 69; (with_reducible refine (kr.out _ _ hvr).mono ?_); rintro e' y10 ⟨s8, a8, b8, c8, d8, rfl, C8, hE⟩; have P2 := P2.ext hE; have P3 := P3.ext hE; have P0 := P0.trans hE; obtain ⟨k0, k1, k2, k3, k4, l0, l1, l2, l3, l4⟩ := five_cells P3; clear hE)
        have K8 := hide C8
        have Q3 := P3.put (t := s8) (a' := a8) (b' := b8) (c' := c8) (d' := d8)
        have Q2 := P2.far (b' := w.heap.size + 1 + 1 + 1) (by omega) (.bool s8) (.int .u64 (a8 : Int)) (.int .u64 (b8 : Int)) (.int .u64 (c8 : Int)) (.int .u64 (d8 : Int))
        have Q0 := ext_five P0 (b := w.heap.size + 1 + 1 + 1) (by omega) (.bool s8) (.int .u64 (a8 : Int)) (.int .u64 (b8 : Int)) (.int .u64 (c8 : Int)) (.int .u64 (d8 : Int))
        generalize ((((y10.setCell ⟨w.heap.size + 1 + 1 + 1, 0, none⟩ (.bool s8)).setCell ⟨w.heap.size + 1 + 1 + 1, 1, none⟩ (.int .u64 (a8 : Int))).setCell ⟨w.heap.size + 1 + 1 + 1, 2, none⟩ (.int .u64 (b8 : Int))).setCell ⟨w.heap.size + 1 + 1 + 1, 3, none⟩ (.int .u64 (c8 : Int))).setCell ⟨w.heap.size + 1 + 1 + 1, 4, none⟩ (.int .u64 (d8 : Int)) = Y2 at *
        clear P2 P3 P0 C8
        obtain ⟨i0, i1, i2, i3, i4, j0, j1, j2, j3, j4⟩ := five_cells Q2
        obtain ⟨k0, k1, k2, k3, k4, l0, l1, l2, l3, l4⟩ := five_cells Q3
        go_region
        all_goals go_wp2_with fail
        all_goals exact bodyPost_ret (v := .tuple #[.agg #[.bool s7, .int .u64 (a7 : Int), .int .u64 (b7 : Int), .int .u64 (c7 : Int), .int .u64 (d7 : Int)], .agg #[.bool s8, .int .u64 (a8 : Int), .int .u64 (b8 : Int), .int .u64 (c8 : Int), .int .u64 (d8 : Int)], .bool true]) (by simp [results, Try.results34, go_sem, i0, i1, i2, i3, i4, k0, k1, k2, k3, k4]) rfl (divRet_yes HY.out K7.out K8.out ((ext_five (ext_five Q0 (by omega) _ _ _ _ _) (by omega) _ _ _ _ _).trans (ext_drew _)))
      · by_cases hz : n % m = 0
        · have HZ := hide (HDS.out.1 (Or.inr hz))
          have hL0 : L = 0 := by omega
          subst hL0
          have kq : Hid (∀ C' w', Words C' w' vq (limbs (n / m)) → Calls Try.prog 69 #[.bool u, vq] w' (WideYes (x / y) w')) := fun C' w' hw => ref_wide_yes C' _ u vq _ w' hw fq HZ.out.1.symm
          have kr : Hid (∀ C' w', Words C' w' (.slice ar 0 cr) (limbs (n % m)) → Calls Try.prog 69 #[.bool false, .slice ar 0 cr] w' (WideYes (x % y) w')) := fun C' w' hw => ref_wide_yes C' _ false _ _ w' hw fr HZ.out.2.symm
          clear hLp fq fr kB hz
          have n02 : w.heap.size + 1 + 1 ≠ w.heap.size := by omega
          have n12 : w.heap.size + 1 + 1 ≠ w.heap.size + 1 := by omega
          go_upto_region 10 with (go_at_call 69; (with_reducible refine (kq.out _ _ hvq).mono ?_); rintro e' y9 ⟨s7, a7, b7, c7, d7, rfl, C7, hE⟩; have B2 := B2.ext hE; have B3 := B3.ext hE; have E0 := E0.trans hE; have hvr := hvr.ext hE; obtain ⟨i0, i1, i2, i3, i4, j0, j1, j2, j3, j4⟩ := five_cells B2; clear hE)
          have K7 := hide C7
          have P2 := B2.put (t := s7) (a' := a7) (b' := b7) (c' := c7) (d' := d7)
          have P3 := B3.far (b' := w.heap.size + 1 + 1) (by omega) (.bool s7) (.int .u64 (a7 : Int)) (.int .u64 (b7 : Int)) (.int .u64 (c7 : Int)) (.int .u64 (d7 : Int))
          have P0 := ext_five E0 (b := w.heap.size + 1 + 1) (by omega) (.bool s7) (.int .u64 (a7 : Int)) (.int .u64 (b7 : Int)) (.int .u64 (c7 : Int)) (.int .u64 (d7 : Int))
          have hvr := hvr.upd (upd_five (w.heap.size + 1 + 1) y9 (.bool s7) (.int .u64 (a7 : Int)) (.int .u64 (b7 : Int)) (.int .u64 (c7 : Int)) (.int .u64 (d7 : Int))) (hvr.apart' (by omega))
          generalize ((((y9.setCell ⟨w.heap.size + 1 + 1, 0, none⟩ (.bool s7)).setCell ⟨w.heap.size + 1 + 1, 1, none⟩ (.int .u64 (a7 : Int))).setCell ⟨w.heap.size + 1 + 1, 2, none⟩ (.int .u64 (b7 : Int))).setCell ⟨w.heap.size + 1 + 1, 3, none⟩ (.int .u64 (c7 : Int))).setCell ⟨w.heap.size + 1 + 1, 4, none⟩ (.int .u64 (d7 : Int)) = Y at *
          clear B2 B3 E0 C7
          go_upto_region 11 with (go_at_call 69; (with_reducible refine (kr.out _ _ hvr).mono ?_); rintro e' y10 ⟨s8, a8, b8, c8, d8, rfl, C8, hE⟩; have P2 := P2.ext hE; have P3 := P3.ext hE; have P0 := P0.trans hE; obtain ⟨k0, k1, k2, k3, k4, l0, l1, l2, l3, l4⟩ := five_cells P3; clear hE)
          have K8 := hide C8
          have Q3 := P3.put (t := s8) (a' := a8) (b' := b8) (c' := c8) (d' := d8)
          have Q2 := P2.far (b' := w.heap.size + 1 + 1 + 1) (by omega) (.bool s8) (.int .u64 (a8 : Int)) (.int .u64 (b8 : Int)) (.int .u64 (c8 : Int)) (.int .u64 (d8 : Int))
          have Q0 := ext_five P0 (b := w.heap.size + 1 + 1 + 1) (by omega) (.bool s8) (.int .u64 (a8 : Int)) (.int .u64 (b8 : Int)) (.int .u64 (c8 : Int)) (.int .u64 (d8 : Int))
          generalize ((((y10.setCell ⟨w.heap.size + 1 + 1 + 1, 0, none⟩ (.bool s8)).setCell ⟨w.heap.size + 1 + 1 + 1, 1, none⟩ (.int .u64 (a8 : Int))).setCell ⟨w.heap.size + 1 + 1 + 1, 2, none⟩ (.int .u64 (b8 : Int))).setCell ⟨w.heap.size + 1 + 1 + 1, 3, none⟩ (.int .u64 (c8 : Int))).setCell ⟨w.heap.size + 1 + 1 + 1, 4, none⟩ (.int .u64 (d8 : Int)) = Y2 at *
          clear P2 P3 P0 C8
          obtain ⟨i0, i1, i2, i3, i4, j0, j1, j2, j3, j4⟩ := five_cells Q2
          obtain ⟨k0, k1, k2, k3, k4, l0, l1, l2, l3, l4⟩ := five_cells Q3
          go_region
          all_goals go_wp2_with fail
          all_goals exact bodyPost_ret (v := .tuple #[.agg #[.bool s7, .int .u64 (a7 : Int), .int .u64 (b7 : Int), .int .u64 (c7 : Int), .int .u64 (d7 : Int)], .agg #[.bool s8, .int .u64 (a8 : Int), .int .u64 (b8 : Int), .int .u64 (c8 : Int), .int .u64 (d8 : Int)], .bool true]) (by simp [results, Try.results34, go_sem, i0, i1, i2, i3, i4, k0, k1, k2, k3, k4]) rfl (divRet_yes HY.out K7.out K8.out ((ext_five (ext_five Q0 (by omega) _ _ _ _ _) (by omega) _ _ _ _ _).trans (ext_drew _)))
        · have HZ := hide (HDS.out.2 ⟨rfl, hz⟩)
          have hL0 : (0 : Int) < (L : Int) := by omega
          have fq1 : n / m + 1 < 115792089237316195423570985008687907853269984665640564039457584007913129639936 := quot_fits n m hm0 hz FN.out
          have fr1 : m - n % m < 115792089237316195423570985008687907853269984665640564039457584007913129639936 := Nat.lt_of_le_of_lt (Nat.sub_le _ _) FM.out
          have hrm : n % m ≤ m := Nat.le_of_lt (Nat.mod_lt _ hm0)
          have lq : Hid ((limbs (n / m)).length ≤ 4) := limbs_len_le.2 fq
          have lr : Hid ((limbs (n % m)).length ≤ 4) := limbs_len_le.2 fr
          have one1 := limbs_one 1 (by omega) (by omega)
          have ONE := hide one1
          have lone : Hid ((limbs 1).length ≤ 1000) := by rw [one1]; unfold Hid; simp
          clear hLp fq fr hz one1
          have s0 := E0.size
          obtain ⟨c0, c1, c2, c3, c4, _⟩ := five_cells B0
          obtain ⟨d0, d1, d2, d3, d4, _⟩ := five_cells B1
          go_upto_region 6 with fail
          have hw1 := words_one y8.drew.heap.size y8.drew 1 y8.drew.heap.size rfl (Nat.le_refl _) (by omega)
          rw [← ONE.out] at hw1
          have HW1 := hide hw1
          clear hw1
          have nn0 := World.new_ne y8 _ (show y8.cell? ⟨w.heap.size + 1, 0, none⟩ = some _ from d0)
          have nn1 := World.new_ne y8 _ (show y8.cell? ⟨w.heap.size + 1, 1, none⟩ = some _ from d1)
          have nn2 := World.new_ne y8 _ (show y8.cell? ⟨w.heap.size + 1, 2, none⟩ = some _ from d2)
          have nn3 := World.new_ne y8 _ (show y8.cell? ⟨w.heap.size + 1, 3, none⟩ = some _ from d3)
          have nn4 := World.new_ne y8 _ (show y8.cell? ⟨w.heap.size + 1, 4, none⟩ = some _ from d4)
          go_region_held3 (fun w' => w'.cell? ⟨w.heap.size + 1, 0, none⟩ = some (.bool t) ∧ w'.cell? ⟨w.heap.size + 1, 1, none⟩ = some (.int .u64 (e : Int)) ∧ w'.cell? ⟨w.heap.size + 1, 2, none⟩ = some (.int .u64 (f : Int)) ∧ w'.cell? ⟨w.heap.size + 1, 3, none⟩ = some (.int .u64 (g : Int)) ∧ w'.cell? ⟨w.heap.size + 1, 4, none⟩ = some (.int .u64 (h : Int))) (first | (with_reducible exact ⟨d0, d1, d2, d3, d4⟩) | go_keep) (first
            | (go_at_call 67; refine (ref_add _ _ _ _ _ (n / m) 1 _ (hvq.ext ((ext_drew _).trans (ext_alloc _ _))) HW1.out (Nat.le_refl _) (Nat.le_trans lq.out (by omega)) lone.out).mono ?_; rintro e' y11 ⟨v11, rfl, hv11, hE0⟩; have hE := ((ext_drew y8).trans (ext_alloc _ _)).trans hE0; have B0 := B0.ext hE; have B1 := B1.ext hE; have B2 := B2.ext hE; have B3 := B3.ext hE; have E0 := E0.trans hE; have s0 := E0.size; have hvr := hvr.ext hE; obtain ⟨d0, d1, d2, d3, d4, _⟩ := five_cells B1; clear hE hE0)
            | (go_at_call 66; (with_reducible refine (kB.out _ s0).mono ?_); rintro e' y12 ⟨v12, rfl, hv12, hE⟩; have hv11 := hv11.ext hE; have B0 := B0.ext hE; have B1 := B1.ext hE; have B2 := B2.ext hE; have B3 := B3.ext hE; have E0 := E0.trans hE; have s0 := E0.size; have hvr := hvr.ext hE; obtain ⟨d0, d1, d2, d3, d4, _⟩ := five_cells B1; clear hE)
            | (go_at_call 68; refine (ref_sub _ _ _ _ _ m (n % m) _ hv12 hvr (Nat.le_refl _) (Nat.le_trans L7.out (by omega)) (Nat.le_trans lr.out (by omega)) hrm).mono ?_; rintro e' y13 ⟨v13, rfl, hv13, hE⟩; have hv11 := hv11.ext hE; have l3 := B3.lt; have B0 := B0.ext hE; have B1 := B1.ext hE; have B2 := B2.ext hE; have B3 := B3.ext hE; have E0 := E0.trans hE; have s0 := E0.size; have hvr := hvr.ext hE; obtain ⟨d0, d1, d2, d3, d4, _⟩ := five_cells B1; clear hE))
          have hvq := hv11
          have hvr := hv13
          have kq : Hid (∀ C' w', Words C' w' v11 (limbs (n / m + 1)) → Calls Try.prog 69 #[.bool u, v11] w' (WideYes (x / y) w')) := fun C' w' hw => ref_wide_yes C' _ u _ _ w' hw fq1 HZ.out.1.symm
          have kr : Hid (∀ C' w', Words C' w' v13 (limbs (m - n % m)) → Calls Try.prog 69 #[.bool false, v13] w' (WideYes (x % y) w')) := fun C' w' hw => ref_wide_yes C' _ false _ _ w' hw fr1 HZ.out.2.symm
          clear fq1 fr1 hrm kB nn0 nn1 nn2 nn3 nn4 hv11 hv13 hv12 HW1
          obtain ⟨c0, c1, c2, c3, c4, _⟩ := five_cells B0
          have n02 : w.heap.size + 1 + 1 ≠ w.heap.size := by omega
          have n12 : w.heap.size + 1 + 1 ≠ w.heap.size + 1 := by omega
          go_upto_region 10 with (go_at_call 69; (with_reducible refine (kq.out _ _ hvq).mono ?_); rintro e' y9 ⟨s7, a7, b7, c7, d7, rfl, C7, hE⟩; have B2 := B2.ext hE; have B3 := B3.ext hE; have E0 := E0.trans hE; have hvr := hvr.ext hE; obtain ⟨i0, i1, i2, i3, i4, j0, j1, j2, j3, j4⟩ := five_cells B2; clear hE)
          have K7 := hide C7
          have P2 := B2.put (t := s7) (a' := a7) (b' := b7) (c' := c7) (d' := d7)
          have P3 := B3.far (b' := w.heap.size + 1 + 1) (by omega) (.bool s7) (.int .u64 (a7 : Int)) (.int .u64 (b7 : Int)) (.int .u64 (c7 : Int)) (.int .u64 (d7 : Int))
          have P0 := ext_five E0 (b := w.heap.size + 1 + 1) (by omega) (.bool s7) (.int .u64 (a7 : Int)) (.int .u64 (b7 : Int)) (.int .u64 (c7 : Int)) (.int .u64 (d7 : Int))
          have hvr := hvr.upd (upd_five (w.heap.size + 1 + 1) y9 (.bool s7) (.int .u64 (a7 : Int)) (.int .u64 (b7 : Int)) (.int .u64 (c7 : Int)) (.int .u64 (d7 : Int))) (hvr.apart' (by omega))
          generalize ((((y9.setCell ⟨w.heap.size + 1 + 1, 0, none⟩ (.bool s7)).setCell ⟨w.heap.size + 1 + 1, 1, none⟩ (.int .u64 (a7 : Int))).setCell ⟨w.heap.size + 1 + 1, 2, none⟩ (.int .u64 (b7 : Int))).setCell ⟨w.heap.size + 1 + 1, 3, none⟩ (.int .u64 (c7 : Int))).setCell ⟨w.heap.size + 1 + 1, 4, none⟩ (.int .u64 (d7 : Int)) = Y at *
          clear B2 B3 E0 C7
          go_upto_region 11 with (go_at_call 69; (with_reducible refine (kr.out _ _ hvr).mono ?_); rintro e' y10 ⟨s8, a8, b8, c8, d8, rfl, C8, hE⟩; have P2 := P2.ext hE; have P3 := P3.ext hE; have P0 := P0.trans hE; obtain ⟨k0, k1, k2, k3, k4, l0, l1, l2, l3, l4⟩ := five_cells P3; clear hE)
          have K8 := hide C8
          have Q3 := P3.put (t := s8) (a' := a8) (b' := b8) (c' := c8) (d' := d8)
          have Q2 := P2.far (b' := w.heap.size + 1 + 1 + 1) (by omega) (.bool s8) (.int .u64 (a8 : Int)) (.int .u64 (b8 : Int)) (.int .u64 (c8 : Int)) (.int .u64 (d8 : Int))
          have Q0 := ext_five P0 (b := w.heap.size + 1 + 1 + 1) (by omega) (.bool s8) (.int .u64 (a8 : Int)) (.int .u64 (b8 : Int)) (.int .u64 (c8 : Int)) (.int .u64 (d8 : Int))
          generalize ((((y10.setCell ⟨w.heap.size + 1 + 1 + 1, 0, none⟩ (.bool s8)).setCell ⟨w.heap.size + 1 + 1 + 1, 1, none⟩ (.int .u64 (a8 : Int))).setCell ⟨w.heap.size + 1 + 1 + 1, 2, none⟩ (.int .u64 (b8 : Int))).setCell ⟨w.heap.size + 1 + 1 + 1, 3, none⟩ (.int .u64 (c8 : Int))).setCell ⟨w.heap.size + 1 + 1 + 1, 4, none⟩ (.int .u64 (d8 : Int)) = Y2 at *
          clear P2 P3 P0 C8
          obtain ⟨i0, i1, i2, i3, i4, j0, j1, j2, j3, j4⟩ := five_cells Q2
          obtain ⟨k0, k1, k2, k3, k4, l0, l1, l2, l3, l4⟩ := five_cells Q3
          go_region
          all_goals go_wp2_with fail
          all_goals exact bodyPost_ret (v := .tuple #[.agg #[.bool s7, .int .u64 (a7 : Int), .int .u64 (b7 : Int), .int .u64 (c7 : Int), .int .u64 (d7 : Int)], .agg #[.bool s8, .int .u64 (a8 : Int), .int .u64 (b8 : Int), .int .u64 (c8 : Int), .int .u64 (d8 : Int)], .bool true]) (by simp [results, Try.results34, go_sem, i0, i1, i2, i3, i4, k0, k1, k2, k3, k4]) rfl (divRet_yes HY.out K7.out K8.out ((ext_five (ext_five Q0 (by omega) _ _ _ _ _) (by omega) _ _ _ _ _).trans (ext_drew _)))
end Go.Proofs.Ytdboaogdanahkaa
