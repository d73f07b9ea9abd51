/- What the makers' tape returns: Bool and Wide. Conditions: the numbers of the tape lie in memory that was there. -/
import Derived.Test.YtdboaogdanahkaaTapS
import Derived.Test.YtdboaogdanahkaaMagH
import Derived.Test.YtdboaogdanahkaaWrd2
namespace Go.Proofs.Ytdboaogdanahkaa
set_option linter.unusedVariables false
set_option linter.unusedSimpArgs false
open Go Go.RowKit
def BoolPost (B b : Nat) (W : World) (e : Ending) (w' : World) : Prop := ∃ v : Bool, e = .returned (.bool v) ∧ TapeOk B w' b ∧ Upd b W w'
theorem t_bool (B b : Nat) (n : Int) (W w : World) (h1 : 2 ≤ n) (h2 : n ≤ 4) (hT : TapeOk B w b) (hW : Upd b W w) :
    Calls Try.prog 38 #[.pointer (some ⟨b, 0, none⟩), .int .i64 n] w (BoolPost B b W) := by
  have hn0 : ¬ (n = 0) := by omega
  have hm : (1 : Int).tmod n = 1 := by
    rw [Int.tmod_eq_emod_of_nonneg (by omega)]; exact Int.emod_eq_of_lt (by omega) (by omega)
  have hm2 : (1 : Int) % n = 1 := Int.emod_eq_of_lt (by omega) (by omega)
  have hT' := hT.below (below_drewN' (b + 1) w 1)
  go_enter Try.func38, Try.ntmps38
  go_wp2_with fail
  go_region_with (go_at_call 19; refine (t_next' B b n W _ ⟨by omega, by omega⟩ (by first | exact hT | exact (hT.below (below_drewN' (b + 1) w 1))) (by first | exact hW | exact hW.drew)).mono ?_; rintro e w' ⟨u, rfl, hu, hT2, hB2⟩)
  all_goals go_wp2_with fail
  all_goals go_ret
  all_goals exact ⟨_, rfl, hT2, hB2⟩
/-- Block g is a Wide that is not negative, its words listed. -/
def Bx (w : World) (g : Nat) (L : List Nat) : Prop := w.heap[g]? = some (.cells (Value.bool false :: wd L).toArray 32 (0, 0))
theorem Bx.at {w : World} {g : Nat} {L : List Nat} (h : Bx w g L) (i : Nat) (hi : i < L.length) : w.cell? ⟨g, 1 + i, none⟩ = some (.int .u64 (L[i] : Int)) := by
  rw [cell_of_block h, Nat.add_comm]; simp [wd, hi]
theorem Bx.free {w : World} {g : Nat} {L : List Nat} (h : Bx w g L) (i : Nat) : w.frozen? ⟨g, i, none⟩ = false := free_of_block h i
theorem Bx.lt {w : World} {g : Nat} {L : List Nat} (h : Bx w g L) : g < w.heap.size := (Array.getElem?_eq_some_iff.1 h).1
theorem Bx.set {w : World} {g : Nat} {L : List Nat} (h : Bx w g L) (k x : Nat) : Bx (w.setCell ⟨g, 1 + k, none⟩ (.int .u64 (x : Int))) g (L.set k x) := by
  unfold Bx
  rw [store_block h (1 + k), Nat.add_comm]
  simp [wd, List.map_set]
theorem Bx.upd {w w' : World} {g b : Nat} {L : List Nat} (h : Bx w g L) (k : Upd b w w') (hn : g ≠ b) : Bx w' g L := by
  have := h.lt; unfold Bx; rw [k.2.2.2.2 g this hn]; exact h
theorem Bx.ext {w w' : World} {g : Nat} {L : List Nat} (h : Bx w g L) (k : Ext w w') : Bx w' g L := by
  have := h.lt; unfold Bx; rw [k.block g this]; exact h
theorem Box.upd {w w' : World} {g b' : Nat} {s : Bool} {a b c d : Nat} (h : Box w g s a b c d) (k : Upd b' w w') (hn : g ≠ b') : Box w' g s a b c d := by
  have := h.lt; unfold Box; rw [k.2.2.2.2 g this hn]; exact h
theorem Box.other {w : World} {g g' j : Nat} {s : Bool} {a b c d : Nat} (h : Box w g s a b c d) (hn : g ≠ g') (u : Value) : Box (w.setCell ⟨g', j, none⟩ u) g s a b c d := by
  unfold Box; rw [heap_setCell_other w ⟨g', j, none⟩ g u hn]; exact h
theorem four_c : W64 [0, 1, 9223372036854775808, 18446744073709551615] := by intro x hx; simp at hx; omega
def TapeWide (B b : Nat) (W : World) (e : Ending) (w' : World) : Prop := ∃ (s : Bool) (a b' c d : Nat) (z : Int), e = .returned (.agg #[.bool s, .int .u64 (a : Int), .int .u64 (b' : Int), .int .u64 (c : Int), .int .u64 (d : Int)]) ∧ IsC s a b' c d z ∧ TapeOk B w' b ∧ Upd b W w'
set_option maxRecDepth 100000 in
set_option maxHeartbeats 2000000 in
theorem t_wide (B b : Nat) (W w : World) (hT : TapeOk B w b) (hW : Upd b W w) :
    Calls Try.prog 14 #[.pointer (some ⟨b, 0, none⟩)] w (TapeWide B b W) := by
  have hbw := hT.2.1
  have hWw := hW.2.2.2.1
  have H2 := two_blocks w (.cells #[.bool false, .int .u64 0, .int .u64 0, .int .u64 0, .int .u64 0] 32) (.cells #[.bool false, .int .u64 0, .int .u64 0, .int .u64 0, .int .u64 0] 32)
  obtain ⟨W1, hW1⟩ : ∃ W1, W1 = (w.alloc (.cells #[.bool false, .int .u64 0, .int .u64 0, .int .u64 0, .int .u64 0] 32)).alloc (.cells #[.bool false, .int .u64 0, .int .u64 0, .int .u64 0, .int .u64 0] 32) := ⟨_, rfl⟩
  have E1 : Ext w W1 := by rw [hW1]; exact (ext_alloc _ _).trans (ext_alloc _ _)
  rw [← hW1] at H2
  have B0 : Box W1 w.heap.size false 0 0 0 0 := H2.1
  have B1 : Bx W1 (w.heap.size + 1) [0, 0, 0, 0] := H2.2
  have T1 := hT.ext E1
  have HUW := hide hW
  have HW1 := hide hW1
  clear H2 hW1 hT hW
  go_enter Try.func14, Try.ntmps14
  go_upto_region 2 with fail
  rw [← HW1.out]
  clear HW1
  have hg3 : w.heap.size + 1 ≠ b := by omega
  have hg2 : w.heap.size ≠ b := by omega
  have hg3b : b < w.heap.size + 1 := by omega
  have hg2b : b < w.heap.size := by omega
  have HE1 := hide E1
  clear E1
  go_wp2_with (go_at_call 19; refine (t_next B b 5 _ ⟨by omega, by omega⟩ T1).mono ?_; rintro e w' ⟨u, rfl, hu, hT2, hB2⟩; have Y3 := B1.upd hB2 hg3; have Y2 := B0.upd hB2 hg2; obtain ⟨v, rfl⟩ := Int.eq_ofNat_of_zero_le hu.1; have hv4 : v ≤ 4 := (by have := hu.2.1; omega); have UK := hide ((Ext.upd HE1.out b).trans hB2); clear hu hB2)
  go_loopw [4] (fun i wr => ∃ (k : Nat) (L : List Nat), i = .int .i64 k ∧ k ≤ 4 ∧ Hid (L.length = 4) ∧ W64 L ∧ Bx wr (w.heap.size + 1) L ∧ Box wr w.heap.size false 0 0 0 0 ∧ TapeOk B wr b ∧ Hid (Upd b w wr)) (fun i _ => (intOf i).toNat)
  case atStart => exact ⟨v, [0, 0, 0, 0], rfl, hv4, rfl, (by intro x hx; simp at hx; omega), Y3, Y2, hT2, UK⟩
  case round =>
    clear T1 B0 B1 Y3 Y2 hT2 UK hv4
    obtain ⟨k, L, rfl, hk, HL, wL, Y3, Y2, hT, UK⟩ := hrel
    by_cases hk0 : k = 0
    · subst hk0
      obtain ⟨ax, bx, cx, dx, rfl⟩ := four_list HL.out
      obtain ⟨sx, hsx⟩ : ∃ sx, sx = false := ⟨_, rfl⟩
      have P3 : Box wr (w.heap.size + 1) sx ax bx cx dx := by rw [hsx]; exact Y3
      have CC : ∃ z, IsC sx ax bx cx dx z := by
        obtain ⟨h1, h2, h3, h4⟩ := w64_four wL
        exact ⟨(mag4 ax bx cx dx : Int), ⟨h1, h2, h3, h4, by rw [hsx]; simp⟩, by rw [hsx]; simp⟩
      obtain ⟨zx, CC⟩ := CC
      clear hsx Y3 HL wL
      have P2 := Y2
      have TT := hT
      have UU := UK
      clear Y2 hT UK
      go_wp2_with (first
        | (go_at_call 38; (with_reducible refine (t_bool B b 3 _ _ (by omega) (by omega) TT (Upd.refl _ _)).mono ?_); rintro e w1 ⟨bv, rfl, TT, hU⟩; have P3 := P3.upd hU hg3; have P2 := P2.upd hU hg2; have UU := hide (UU.out.trans hU); obtain ⟨c0, c1, c2, c3, c4, f0, f1, f2, f3, f4⟩ := five_cells P3; obtain ⟨d0, d1, d2, d3, d4, g0, g1, g2, g3, g4⟩ := five_cells P2; clear hU)
        | (go_at_call 39; refine (t_int B b _ _ TT (Upd.refl _ _)).mono ?_; rintro e w1 ⟨zz, rfl, hzz, TT, hU⟩; have P3 := P3.upd hU hg3; have P2 := P2.upd hU hg2; have UU := hide (UU.out.trans hU); clear hU)
        | (go_at_call 35; refine (ref_ofi zz _ hzz.1 hzz.2).mono ?_; rintro e w1 ⟨sx, ax, bx, cx, dx, rfl, CC, hE⟩; have R3 := P3.ext hE; have R2 := P2.ext hE; have RT := TT.ext hE; have RU := UU.out.more hE; obtain ⟨c0, c1, c2, c3, c4, f0, f1, f2, f3, f4⟩ := five_cells R3; have P3 := R3.put (t := sx) (a' := ax) (b' := bx) (c' := cx) (d' := dx); have P2 := R2.far (b' := w.heap.size + 1) (by omega) (.bool sx) (.int .u64 (ax : Int)) (.int .u64 (bx : Int)) (.int .u64 (cx : Int)) (.int .u64 (dx : Int)); have TT := ((((RT.store (k := 0) hg3b (.bool sx)).store (k := 1) hg3b (.int .u64 (ax : Int))).store (k := 2) hg3b (.int .u64 (bx : Int))).store (k := 3) hg3b (.int .u64 (cx : Int))).store (k := 4) hg3b (.int .u64 (dx : Int)); have UU := hide (((((RU.store (k := 0) (g := w.heap.size + 1) (by omega) (.bool sx)).store (k := 1) (g := w.heap.size + 1) (by omega) (.int .u64 (ax : Int))).store (k := 2) (g := w.heap.size + 1) (by omega) (.int .u64 (bx : Int))).store (k := 3) (g := w.heap.size + 1) (by omega) (.int .u64 (cx : Int))).store (k := 4) (g := w.heap.size + 1) (by omega) (.int .u64 (dx : Int))); clear hE R3 R2 RT RU))
      all_goals ((with_reducible refine (t_bool B b 2 _ _ (by omega) (by omega) TT (Upd.refl _ _)).mono ?_); rintro e w1 ⟨bv2, rfl, TT, hU⟩)
      all_goals have P3 := P3.upd hU hg3
      all_goals have P2 := P2.upd hU hg2
      all_goals have UU := hide (UU.out.trans hU)
      all_goals clear hU
      all_goals obtain ⟨c0, c1, c2, c3, c4, f0, f1, f2, f3, f4⟩ := five_cells P3
      all_goals obtain ⟨d0, d1, d2, d3, d4, g0, g1, g2, g3, g4⟩ := five_cells P2
      all_goals have HCC := hide CC
      all_goals clear CC
      all_goals cases bv2
      all_goals go_wp2_with fail
      · exact bodyPost_ret (v := .agg #[.bool sx, .int .u64 (ax : Int), .int .u64 (bx : Int), .int .u64 (cx : Int), .int .u64 (dx : Int)]) (by simp [results, Try.results14, go_sem, d0, d1, d2, d3, d4]) rfl ⟨sx, ax, bx, cx, dx, _, rfl, HCC.out, ((((TT.store (k := 0) hg2b _).store (k := 1) hg2b _).store (k := 2) hg2b _).store (k := 3) hg2b _).store (k := 4) hg2b _, ((((((HUW.out.trans UU.out).store (k := 0) (g := w.heap.size) hWw _).store (k := 1) (g := w.heap.size) hWw _).store (k := 2) (g := w.heap.size) hWw _).store (k := 3) (g := w.heap.size) hWw _).store (k := 4) (g := w.heap.size) hWw _)⟩
      · (refine (ref_neg sx ax bx cx dx _ _ HCC.out.1).mono ?_; rintro e w1 ⟨sx, ax, bx, cx, dx, rfl, CC, hE⟩; have HCC := hide CC; have P3 := P3.ext hE; have P2 := P2.ext hE; have TT := TT.ext hE; have UU := hide (UU.out.more hE); obtain ⟨c0, c1, c2, c3, c4, f0, f1, f2, f3, f4⟩ := five_cells P3; obtain ⟨d0, d1, d2, d3, d4, g0, g1, g2, g3, g4⟩ := five_cells P2; clear hE CC; have TT := ((((TT.store (k := 0) hg3b (.bool sx)).store (k := 1) hg3b (.int .u64 (ax : Int))).store (k := 2) hg3b (.int .u64 (bx : Int))).store (k := 3) hg3b (.int .u64 (cx : Int))).store (k := 4) hg3b (.int .u64 (dx : Int)); have UU := hide (((((UU.out.store (k := 0) (g := w.heap.size + 1) (by omega) (.bool sx)).store (k := 1) (g := w.heap.size + 1) (by omega) (.int .u64 (ax : Int))).store (k := 2) (g := w.heap.size + 1) (by omega) (.int .u64 (bx : Int))).store (k := 3) (g := w.heap.size + 1) (by omega) (.int .u64 (cx : Int))).store (k := 4) (g := w.heap.size + 1) (by omega) (.int .u64 (dx : Int))); go_wp2_with fail; exact bodyPost_ret (v := .agg #[.bool sx, .int .u64 (ax : Int), .int .u64 (bx : Int), .int .u64 (cx : Int), .int .u64 (dx : Int)]) (by simp [results, Try.results14, go_sem, d0, d1, d2, d3, d4]) rfl ⟨sx, ax, bx, cx, dx, _, rfl, HCC.out, ((((TT.store (k := 0) hg2b _).store (k := 1) hg2b _).store (k := 2) hg2b _).store (k := 3) hg2b _).store (k := 4) hg2b _, ((((((HUW.out.trans UU.out).store (k := 0) (g := w.heap.size) hWw _).store (k := 1) (g := w.heap.size) hWw _).store (k := 2) (g := w.heap.size) hWw _).store (k := 3) (g := w.heap.size) hWw _).store (k := 4) (g := w.heap.size) hWw _)⟩)
      · exact bodyPost_ret (v := .agg #[.bool sx, .int .u64 (ax : Int), .int .u64 (bx : Int), .int .u64 (cx : Int), .int .u64 (dx : Int)]) (by simp [results, Try.results14, go_sem, d0, d1, d2, d3, d4]) rfl ⟨sx, ax, bx, cx, dx, _, rfl, HCC.out, ((((TT.store (k := 0) hg2b _).store (k := 1) hg2b _).store (k := 2) hg2b _).store (k := 3) hg2b _).store (k := 4) hg2b _, ((((((HUW.out.trans UU.out).store (k := 0) (g := w.heap.size) hWw _).store (k := 1) (g := w.heap.size) hWw _).store (k := 2) (g := w.heap.size) hWw _).store (k := 3) (g := w.heap.size) hWw _).store (k := 4) (g := w.heap.size) hWw _)⟩
      · (refine (ref_neg sx ax bx cx dx _ _ HCC.out.1).mono ?_; rintro e w1 ⟨sx, ax, bx, cx, dx, rfl, CC, hE⟩; have HCC := hide CC; have P3 := P3.ext hE; have P2 := P2.ext hE; have TT := TT.ext hE; have UU := hide (UU.out.more hE); obtain ⟨c0, c1, c2, c3, c4, f0, f1, f2, f3, f4⟩ := five_cells P3; obtain ⟨d0, d1, d2, d3, d4, g0, g1, g2, g3, g4⟩ := five_cells P2; clear hE CC; have TT := ((((TT.store (k := 0) hg3b (.bool sx)).store (k := 1) hg3b (.int .u64 (ax : Int))).store (k := 2) hg3b (.int .u64 (bx : Int))).store (k := 3) hg3b (.int .u64 (cx : Int))).store (k := 4) hg3b (.int .u64 (dx : Int)); have UU := hide (((((UU.out.store (k := 0) (g := w.heap.size + 1) (by omega) (.bool sx)).store (k := 1) (g := w.heap.size + 1) (by omega) (.int .u64 (ax : Int))).store (k := 2) (g := w.heap.size + 1) (by omega) (.int .u64 (bx : Int))).store (k := 3) (g := w.heap.size + 1) (by omega) (.int .u64 (cx : Int))).store (k := 4) (g := w.heap.size + 1) (by omega) (.int .u64 (dx : Int))); go_wp2_with fail; exact bodyPost_ret (v := .agg #[.bool sx, .int .u64 (ax : Int), .int .u64 (bx : Int), .int .u64 (cx : Int), .int .u64 (dx : Int)]) (by simp [results, Try.results14, go_sem, d0, d1, d2, d3, d4]) rfl ⟨sx, ax, bx, cx, dx, _, rfl, HCC.out, ((((TT.store (k := 0) hg2b _).store (k := 1) hg2b _).store (k := 2) hg2b _).store (k := 3) hg2b _).store (k := 4) hg2b _, ((((((HUW.out.trans UU.out).store (k := 0) (g := w.heap.size) hWw _).store (k := 1) (g := w.heap.size) hWw _).store (k := 2) (g := w.heap.size) hWw _).store (k := 3) (g := w.heap.size) hWw _).store (k := 4) (g := w.heap.size) hWw _)⟩)
    · obtain ⟨j, rfl⟩ : ∃ j, k = j + 1 := ⟨k - 1, by omega⟩
      have hjL : j < L.length := by rw [HL.out]; omega
      have hj4 : (j : Int) < 4 := by omega
      have hbr := hT.2.1
      go_wp2_with (first
        | (go_at_call 13; refine (t_word B b _ hT).mono ?_; rintro e w1 ⟨v, rfl, hv, hT1, hU1⟩; obtain ⟨x, rfl⟩ := Int.eq_ofNat_of_zero_le hv.1; have hx : x < 18446744073709551616 := (by have := hv.2; omega); clear hv; have X3 := Y3.upd hU1 hg3; have X2 := Y2.upd hU1 hg2; have cx := X3.at j hjL; have fx := X3.free (1 + j); have Z3 := X3.set j x; have Z2 := X2.other (g' := w.heap.size + 1) (j := 1 + j) (by omega) (.int .u64 (x : Int)); have ZT := hT1.store (k := 1 + j) hg3b (.int .u64 (x : Int)); have UZ := hide ((UK.out.trans hU1).store (k := 1 + j) (g := w.heap.size + 1) (by omega) (.int .u64 (x : Int))); clear hU1)
        | (go_at_call 38; refine (t_bool B b 4 _ _ (by omega) (by omega) ZT (Upd.refl _ _)).mono ?_; rintro e w2 ⟨bv, rfl, hT2, hU2⟩; have V3 := Z3.upd hU2 hg3; have V2 := Z2.upd hU2 hg2; have UV := hide (UZ.out.trans hU2); have lb := hT2.2.1; clear hU2)
        | (go_at_call 19; refine (t_next B b 4 _ ⟨by omega, by omega⟩ (hT2.alloc _)).mono ?_; rintro e w3 ⟨u, rfl, hu, hT3, hU3⟩; obtain ⟨y, rfl⟩ := Int.eq_ofNat_of_zero_le hu.1; have hy4 : y < 4 := (by have := hu.2.1; omega); clear hu; have Q4 := (arr_new w2 28 [0, 1, 9223372036854775808, 18446744073709551615] #[.int .u64 0, .int .u64 1, .int .u64 9223372036854775808, .int .u64 18446744073709551615] rfl).upd hU3 (by omega); have cq := Q4.at y hy4; obtain ⟨q, hq⟩ : ∃ q, [0, 1, 9223372036854775808, 18446744073709551615][y] = q := ⟨_, rfl⟩; have bq : q < 18446744073709551616 := (by rw [← hq]; exact w64_get four_c y hy4); rw [hq] at cq; clear hq; have N3 := (V3.ext (ext_alloc _ _)).upd hU3 hg3; have N2 := (V2.ext (ext_alloc _ _)).upd hU3 hg2; have cn := N3.at j (by simpa using hjL); have fn := N3.free (1 + j); have hyI : (y : Int) < 4 := (by omega); have UN := hide (((UV.out.more (ext_alloc _ _)).trans hU3).store (k := 1 + j) (g := w.heap.size + 1) (by omega) (.int .u64 (q : Int))); have M3 := N3.set j q; have M2 := N2.other (g' := w.heap.size + 1) (j := 1 + j) (by omega) (.int .u64 (q : Int)); have MT := hT3.store (k := 1 + j) hg3b (.int .u64 (q : Int)); clear hU3))
      · exact ⟨⟨j, _, by go_num, by omega, (by unfold Hid; simp; exact HL.out), w64_set (w64_set wL _ _ hx) _ _ bq, M3, M2, MT, UN⟩, by simp [intOf]⟩
      · exact ⟨⟨j, _, by go_num, by omega, (by unfold Hid; simp; exact HL.out), w64_set wL _ _ hx, V3, V2, hT2, UV⟩, by simp [intOf]⟩
end Go.Proofs.Ytdboaogdanahkaa
