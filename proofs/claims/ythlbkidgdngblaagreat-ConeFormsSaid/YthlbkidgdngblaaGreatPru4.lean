/- Part 4 of what these claims stand on: contracts of the program's and the reference's functions, and plain facts. Conditions: each states its own. -/
import Derived.Test.YthlbkidgdngblaaGreatPru3
import Derived.Deep.RegionWith
import Derived.Deep.RegionHeld3
import Derived.Deep.DeepCutAuto
import Derived.Deep.LoopGhost
import Derived.Lib.QuietBelow
namespace Go.Proofs.YthlbkidgdngblaaGreat
set_option linter.unusedVariables false
set_option linter.unusedSimpArgs false
section
open Go Go.RowKit
set_option maxHeartbeats 16000000 in
theorem ref_wadd (s t : Bool) (a b c d e f g h : Nat) (x y : Int) (w : World) (hx : IsW s a b c d x) (hy : IsW t e f g h y) :
   Calls Tryz.prog 90 #[.agg #[.bool s, .int .u64 (a : Int), .int .u64 (b : Int), .int .u64 (c : Int), .int .u64 (d : Int)], .agg #[.bool t, .int .u64 (e : Int), .int .u64 (f : Int), .int .u64 (g : Int), .int .u64 (h : Int)]] w (WideRet (x + y) w) := by
 obtain ⟨W, hW⟩ : ∃ W, W = (((w.alloc (.cells #[.bool s, .int .u64 (a : Int), .int .u64 (b : Int), .int .u64 (c : Int), .int .u64 (d : Int)] 25)).alloc (.cells #[.bool t, .int .u64 (e : Int), .int .u64 (f : Int), .int .u64 (g : Int), .int .u64 (h : Int)] 25)).alloc (.cells #[.bool false, .int .u64 0, .int .u64 0, .int .u64 0, .int .u64 0] 25)) := ⟨_, rfl⟩
 have H3 := three_boxes w (.cells #[.bool s, .int .u64 (a : Int), .int .u64 (b : Int), .int .u64 (c : Int), .int .u64 (d : Int)] 25) (.cells #[.bool t, .int .u64 (e : Int), .int .u64 (f : Int), .int .u64 (g : Int), .int .u64 (h : Int)] 25) (.cells #[.bool false, .int .u64 0, .int .u64 0, .int .u64 0, .int .u64 0] 25)
 rw [← hW] at H3
 have B0 : Box W w.heap.size s a b c d := H3.1
 have B1 : Box W (w.heap.size + 1) t e f g h := H3.2.1
 have B2 : Box W (w.heap.size + 1 + 1) false 0 0 0 0 := H3.2.2
 have E0 : Ext w W := by rw [hW]; exact ((ext_alloc _ _).trans (ext_alloc _ _)).trans (ext_alloc _ _)
 have HW := hide hW
 clear hW H3
 go_enter Tryz.func90, Tryz.ntmps90
 go_upto_region 1 with fail
 rw [← HW.out]
 clear HW
 go_cut [] (fun wx => Two w x y wx)
 case first =>
   obtain ⟨c0, c1, c2, c3, c4, f0, f1, f2, f3, f4⟩ := five_cells B0
   obtain ⟨d0, d1, d2, d3, d4, g0, g1, g2, g3, g4⟩ := five_cells B1
   go_region_with (first
     | (go_at_call 46; refine (ref_clean _ _ _ _ _ _ _ (by assumption)).mono ?_; rintro e' w' ⟨s', a', b', c', d', rfl, hC, hE⟩; have R0 := (by first | assumption | exact B0.drew : Box _ w.heap.size s a b c d).ext hE; have R1 := (by first | assumption | exact B1.drew : Box _ (w.heap.size + 1) t e f g h).ext hE; have R2 := (by first | assumption | exact B2.drew : Box _ (w.heap.size + 1 + 1) false 0 0 0 0).ext hE; obtain ⟨c0, c1, c2, c3, c4, f0, f1, f2, f3, f4⟩ := five_cells R0; obtain ⟨d0, d1, d2, d3, d4, g0, g1, g2, g3, g4⟩ := five_cells R1; have E1 := (by first | assumption | exact E0.trans (ext_drew _) : Ext w _).trans hE))
   all_goals go_wp2_with fail
   all_goals go_meet
   all_goals exact ⟨_, _, _, _, _, _, _, _, _, _, ‹IsC _ _ _ _ _ x›, ‹IsC _ _ _ _ _ y›, (R0.put).far (by omega) _ _ _ _ _, (R1.far (by omega) _ _ _ _ _).put, (R2.far (by omega) _ _ _ _ _).far (by omega) _ _ _ _ _, ext_five (ext_five E1 (Nat.le_refl _) _ _ _ _ _) (by omega) _ _ _ _ _⟩
 case rest =>
   clear B0 B1 B2 E0 hx hy
   obtain ⟨s, a, b, c, d, t, e, f, g, h, hx, hy, B0, B1, B2, E0⟩ := hcut
   obtain ⟨ha, hb, hc, hd, hxz⟩ := hx.1
   obtain ⟨he, hf, hg, hh, hyz⟩ := hy.1
   have MX : Hid (mag4 a b c d = x.natAbs) := by unfold Hid; cases s <;> simp at hxz <;> omega
   have MY : Hid (mag4 e f g h = y.natAbs) := by unfold Hid; cases t <;> simp at hyz <;> omega
   have SX : Hid (x = if s then -(x.natAbs : Int) else (x.natAbs : Int)) := by rw [← MX.out]; exact hxz
   have SY : Hid (y = if t then -(y.natAbs : Int) else (y.natAbs : Int)) := by rw [← MY.out]; exact hyz
   clear hxz hyz
   go_upto_region 2 with fail
   go_cut [6, 7] (fun s6 s7 wx => Words w.heap.size wx s6 (limbs x.natAbs) ∧ Words w.heap.size wx s7 (limbs y.natAbs) ∧ Box wx w.heap.size s a b c d ∧ Box wx (w.heap.size + 1) t e f g h ∧ Box wx (w.heap.size + 1 + 1) false 0 0 0 0 ∧ Ext w wx)
   case first =>
     obtain ⟨c0, c1, c2, c3, c4, f0, f1, f2, f3, f4⟩ := five_cells B0
     obtain ⟨d0, d1, d2, d3, d4, g0, g1, g2, g3, g4⟩ := five_cells B1
     go_region_with (first
       | (go_at_call_of 49 (Value.bool s); refine (of_any w.heap.size s a b c d _ (by first | exact E1.size | exact E0.size) ha hb hc hd).mono ?_; rintro e' w' ⟨v6, rfl, hv6, hE⟩; rw [MX.out] at hv6; have R0 := (by first | assumption | exact B0.drew : Box _ w.heap.size s a b c d).ext hE; have R1 := (by first | assumption | exact B1.drew : Box _ (w.heap.size + 1) t e f g h).ext hE; have R2 := (by first | assumption | exact B2.drew : Box _ (w.heap.size + 1 + 1) false 0 0 0 0).ext hE; obtain ⟨c0, c1, c2, c3, c4, f0, f1, f2, f3, f4⟩ := five_cells R0; obtain ⟨d0, d1, d2, d3, d4, g0, g1, g2, g3, g4⟩ := five_cells R1; have E1 := (by first | assumption | exact E0.trans (ext_drew _) : Ext w _).trans hE)
       | (go_at_call_of 49 (Value.bool t); refine (of_any w.heap.size t e f g h _ (by first | exact E1.size | exact E0.size) he hf hg hh).mono ?_; rintro e' w' ⟨v7, rfl, hv7, hE⟩; rw [MY.out] at hv7; have hv6' := hv6.ext hE; have R0 := (by first | assumption | exact B0.drew : Box _ w.heap.size s a b c d).ext hE; have R1 := (by first | assumption | exact B1.drew : Box _ (w.heap.size + 1) t e f g h).ext hE; have R2 := (by first | assumption | exact B2.drew : Box _ (w.heap.size + 1 + 1) false 0 0 0 0).ext hE; have E1 := (by first | assumption | exact E0.trans (ext_drew _) : Ext w _).trans hE))
     all_goals go_wp2_with fail
     all_goals go_meet
     all_goals exact ⟨hv6', hv7, R0, R1, R2, E1⟩
   case rest =>
     clear B0 B1 B2 E0
     obtain ⟨h6, h7, B0, B1, B2, E0⟩ := hcut
     have l6 : (limbs x.natAbs).length ≤ 4 := limbs_len_le.2 (by rw [← MX.out]; exact mag_lt ha hb hc hd)
     have l7 : (limbs y.natAbs).length ≤ 4 := limbs_len_le.2 (by rw [← MY.out]; exact mag_lt he hf hg hh)
     have L6 := hide l6
     have L7 := hide l7
     clear l6 l7
     obtain ⟨c0, c1, c2, c3, c4, f0, f1, f2, f3, f4⟩ := five_cells B0
     obtain ⟨d0, d1, d2, d3, d4, g0, g1, g2, g3, g4⟩ := five_cells B1
     by_cases hst : s = t
     · subst hst
       have SZ : Hid ((if s then -((x.natAbs + y.natAbs : Nat) : Int) else ((x.natAbs + y.natAbs : Nat) : Int)) = x + y) := by
         have h1 := SX.out
         have h2 := SY.out
         cases s <;> simp only [Bool.false_eq_true, if_false, if_true] at h1 h2 <;> simp [Hid] <;> omega
       go_wp2_with fail
       go_region_with (first
         | (go_at_call 79; refine (ref_add w.heap.size _ _ _ _ _ _ _ h6.drew h7.drew (by first | exact E1.size | exact E0.size) (Nat.le_trans L6.out (by omega)) (Nat.le_trans L7.out (by omega))).mono ?_; rintro e' w' ⟨v8, rfl, hv8, hE⟩; have R0 := B0.drew.ext hE; have R2 := B2.drew.ext hE; obtain ⟨c0, c1, c2, c3, c4, f0, f1, f2, f3, f4⟩ := five_cells R0; have E1 := (E0.trans (ext_drew _)).trans hE)
         | (go_at_call 47; refine (ref_wide _ _ _ _ _ hv8).mono ?_; rintro e' w' ⟨s', a', b', c', d', o', rfl, ho, hC, hE⟩; rw [val_limbs, SZ.out] at ho hC; have Ho := hide ho; clear ho; have R3 := R2.ext hE; obtain ⟨i0, i1, i2, i3, i4, j0, j1, j2, j3, j4⟩ := five_cells R3; have E2 := E1.trans hE))
       all_goals go_wp2_with fail
       all_goals exact bodyPost_ret (v := .tuple #[.agg #[.bool s', .int .u64 (a' : Int), .int .u64 (b' : Int), .int .u64 (c' : Int), .int .u64 (d' : Int)], .bool o']) (by simp [results, Tryz.results90, go_sem, i0, i1, i2, i3, i4]) rfl ⟨s', a', b', c', d', o', rfl, Ho.out, hC, ext_five E2 (by omega) _ _ _ _ _⟩
     · have hts : t = !s := by cases s <;> cases t <;> simp at hst ⊢
       subst hts
       clear hst
       by_cases hlt : x.natAbs < y.natAbs
       · have HS : Hid (sgnN x.natAbs y.natAbs = -1) := if_pos hlt
         have SZ : Hid ((if !s then -((y.natAbs - x.natAbs : Nat) : Int) else ((y.natAbs - x.natAbs : Nat) : Int)) = x + y) := by
           have h1 := SX.out
           have h2 := SY.out
           unfold Hid
           cases s <;> simp only [Bool.false_eq_true, if_false, if_true, Bool.not_false, Bool.not_true] at h1 h2 ⊢ <;> omega
         go_wp2_with (go_at_call 56; refine (compare_any _ _ _ _ _ _ _ h6 h7).mono ?_; rintro e' w' ⟨rfl, hE⟩; rw [HS.out]; have R0 := B0.ext hE; have R1 := B1.ext hE; have R2 := B2.ext hE; have h6' := h6.ext hE; have h7' := h7.ext hE; obtain ⟨c0, c1, c2, c3, c4, f0, f1, f2, f3, f4⟩ := five_cells R0; obtain ⟨d0, d1, d2, d3, d4, g0, g1, g2, g3, g4⟩ := five_cells R1; have E1 := E0.trans hE)
         go_region_with (first
           | (go_at_call 80; refine (ref_sub w.heap.size _ _ _ _ _ _ _ h7'.drew h6'.drew E1.size (Nat.le_trans L7.out (by omega)) (Nat.le_trans L6.out (by omega)) (by omega)).mono ?_; rintro e' w' ⟨v8, rfl, hv8, hE⟩; have R0' := R0.drew.ext hE; have R1' := R1.drew.ext hE; have R2' := R2.drew.ext hE; obtain ⟨c0, c1, c2, c3, c4, f0, f1, f2, f3, f4⟩ := five_cells R0'; obtain ⟨d0, d1, d2, d3, d4, g0, g1, g2, g3, g4⟩ := five_cells R1'; have E1' := (E1.trans (ext_drew _)).trans hE)
           | (go_at_call 47; refine (ref_wide _ _ _ _ _ hv8).mono ?_; rintro e' w' ⟨s', a', b', c', d', o', rfl, ho, hC, hE⟩; rw [val_limbs, SZ.out] at ho hC; have Ho := hide ho; clear ho; have R3 := R2'.ext hE; obtain ⟨i0, i1, i2, i3, i4, j0, j1, j2, j3, j4⟩ := five_cells R3; have E2 := E1'.trans hE))
         all_goals go_wp2_with fail
         all_goals exact bodyPost_ret (v := .tuple #[.agg #[.bool s', .int .u64 (a' : Int), .int .u64 (b' : Int), .int .u64 (c' : Int), .int .u64 (d' : Int)], .bool o']) (by simp [results, Tryz.results90, go_sem, i0, i1, i2, i3, i4]) rfl ⟨s', a', b', c', d', o', rfl, Ho.out, hC, ext_five E2 (by omega) _ _ _ _ _⟩
       · have h01 : (0 : Int) ≤ sgnN x.natAbs y.natAbs := by unfold sgnN; rw [if_neg hlt]; split <;> omega
         obtain ⟨q, hq⟩ : ∃ q, sgnN x.natAbs y.natAbs = q := ⟨_, rfl⟩
         rw [hq] at h01
         have HS := hide hq
         clear hq
         have SZ : Hid ((if s then -((x.natAbs - y.natAbs : Nat) : Int) else ((x.natAbs - y.natAbs : Nat) : Int)) = x + y) := by
           have h1 := SX.out
           have h2 := SY.out
           unfold Hid
           cases s <;> simp only [Bool.false_eq_true, if_false, if_true, Bool.not_false, Bool.not_true] at h1 h2 ⊢ <;> omega
         go_wp2_with (go_at_call 56; refine (compare_any _ _ _ _ _ _ _ h6 h7).mono ?_; rintro e' w' ⟨rfl, hE⟩; rw [HS.out]; have R0 := B0.ext hE; have R1 := B1.ext hE; have R2 := B2.ext hE; have h6' := h6.ext hE; have h7' := h7.ext hE; obtain ⟨c0, c1, c2, c3, c4, f0, f1, f2, f3, f4⟩ := five_cells R0; obtain ⟨d0, d1, d2, d3, d4, g0, g1, g2, g3, g4⟩ := five_cells R1; have E1 := E0.trans hE)
         go_region_with (first
           | (go_at_call 80; refine (ref_sub w.heap.size _ _ _ _ _ _ _ h6'.drew h7'.drew E1.size (Nat.le_trans L6.out (by omega)) (Nat.le_trans L7.out (by omega)) (by omega)).mono ?_; rintro e' w' ⟨v8, rfl, hv8, hE⟩; have R0' := R0.drew.ext hE; have R1' := R1.drew.ext hE; have R2' := R2.drew.ext hE; obtain ⟨c0, c1, c2, c3, c4, f0, f1, f2, f3, f4⟩ := five_cells R0'; obtain ⟨d0, d1, d2, d3, d4, g0, g1, g2, g3, g4⟩ := five_cells R1'; have E1' := (E1.trans (ext_drew _)).trans hE)
           | (go_at_call 47; refine (ref_wide _ _ _ _ _ hv8).mono ?_; rintro e' w' ⟨s', a', b', c', d', o', rfl, ho, hC, hE⟩; rw [val_limbs, SZ.out] at ho hC; have Ho := hide ho; clear ho; have R3 := R2'.ext hE; obtain ⟨i0, i1, i2, i3, i4, j0, j1, j2, j3, j4⟩ := five_cells R3; have E2 := E1'.trans hE))
         all_goals go_wp2_with fail
         all_goals exact bodyPost_ret (v := .tuple #[.agg #[.bool s', .int .u64 (a' : Int), .int .u64 (b' : Int), .int .u64 (c' : Int), .int .u64 (d' : Int)], .bool o']) (by simp [results, Tryz.results90, go_sem, i0, i1, i2, i3, i4]) rfl ⟨s', a', b', c', d', o', rfl, Ho.out, hC, ext_five E2 (by omega) _ _ _ _ _⟩
end
section
open Go Go.RowKit
set_option maxHeartbeats 16000000 in
theorem ref_wsub (s t : Bool) (a b c d e f g h : Nat) (x y : Int) (w : World) (hx : IsW s a b c d x) (hy : IsW t e f g h y) :
   Calls Tryz.prog 91 #[.agg #[.bool s, .int .u64 (a : Int), .int .u64 (b : Int), .int .u64 (c : Int), .int .u64 (d : Int)], .agg #[.bool t, .int .u64 (e : Int), .int .u64 (f : Int), .int .u64 (g : Int), .int .u64 (h : Int)]] w (WideRet (x - y) w) := by
 obtain ⟨W, hW⟩ : ∃ W, W = (((w.alloc (.cells #[.bool s, .int .u64 (a : Int), .int .u64 (b : Int), .int .u64 (c : Int), .int .u64 (d : Int)] 25)).alloc (.cells #[.bool t, .int .u64 (e : Int), .int .u64 (f : Int), .int .u64 (g : Int), .int .u64 (h : Int)] 25)).alloc (.cells #[.bool false, .int .u64 0, .int .u64 0, .int .u64 0, .int .u64 0] 25)) := ⟨_, rfl⟩
 have H3 := three_boxes w (.cells #[.bool s, .int .u64 (a : Int), .int .u64 (b : Int), .int .u64 (c : Int), .int .u64 (d : Int)] 25) (.cells #[.bool t, .int .u64 (e : Int), .int .u64 (f : Int), .int .u64 (g : Int), .int .u64 (h : Int)] 25) (.cells #[.bool false, .int .u64 0, .int .u64 0, .int .u64 0, .int .u64 0] 25)
 rw [← hW] at H3
 have B0 : Box W w.heap.size s a b c d := H3.1
 have B1 : Box W (w.heap.size + 1) t e f g h := H3.2.1
 have B2 : Box W (w.heap.size + 1 + 1) false 0 0 0 0 := H3.2.2
 have E0 : Ext w W := by rw [hW]; exact ((ext_alloc _ _).trans (ext_alloc _ _)).trans (ext_alloc _ _)
 have HW := hide hW
 clear hW H3
 go_enter Tryz.func91, Tryz.ntmps91
 go_upto_region 1 with fail
 rw [← HW.out]
 clear HW
 obtain ⟨c0, c1, c2, c3, c4, f0, f1, f2, f3, f4⟩ := five_cells B0
 obtain ⟨d0, d1, d2, d3, d4, g0, g1, g2, g3, g4⟩ := five_cells B1
 go_region_with (first
   | (go_at_call 55; refine (ref_neg t e f g h y _ hy).mono ?_; rintro e' w' ⟨t1, e1, f1', g1', h1, rfl, hC1, hE⟩; have R0 := B0.drew.ext hE; have R2 := B2.drew.ext hE; have E1 := E0.dr.trans hE; obtain ⟨c0, c1, c2, c3, c4, f0, f1, f2, f3, f4⟩ := five_cells R0)
   | (go_at_call 90; refine (ref_wadd _ _ _ _ _ _ _ _ _ _ _ _ _ hx hC1.1).mono ?_; rintro e' w' ⟨s', a', b', c', d', o', rfl, ho, hC, hE⟩; rw [← Int.sub_eq_add_neg] at ho hC; have Ho := hide ho; clear ho; have R3 := R2.ext hE; obtain ⟨i0, i1, i2, i3, i4, j0, j1, j2, j3, j4⟩ := five_cells R3; have E2 := E1.trans hE))
 all_goals go_wp2_with fail
 all_goals exact bodyPost_ret (v := .tuple #[.agg #[.bool s', .int .u64 (a' : Int), .int .u64 (b' : Int), .int .u64 (c' : Int), .int .u64 (d' : Int)], .bool o']) (by simp [results, Tryz.results91, go_sem, i0, i1, i2, i3, i4]) rfl ⟨s', a', b', c', d', o', rfl, Ho.out, hC, ext_five E2 (Nat.le_trans (Nat.le_succ _) (Nat.le_succ _)) _ _ _ _ _⟩
end
section
open Go Go.RowKit
def sg (z : Int) : Bool := decide (z < 0)
def l0 (z : Int) : Nat := z.natAbs % 18446744073709551616
def l1 (z : Int) : Nat := z.natAbs / 18446744073709551616 % 18446744073709551616
def l2 (z : Int) : Nat := z.natAbs / 340282366920938463463374607431768211456 % 18446744073709551616
def l3 (z : Int) : Nat := z.natAbs / 6277101735386680763835789423207666416102355444464034512896 % 18446744073709551616
def F256 (z : Int) : Prop := z.natAbs < 115792089237316195423570985008687907853269984665640564039457584007913129639936
theorem isC_fix {s : Bool} {a b c d : Nat} {z : Int} (h : IsC s a b c d z) : s = sg z ∧ a = l0 z ∧ b = l1 z ∧ c = l2 z ∧ d = l3 z := by
 obtain ⟨⟨h1, h2, h3, h4, h5⟩, h6⟩ := h
 have hm : z.natAbs = mag4 a b c d := by cases s <;> simp at h5 <;> omega
 simp only [mag4, val] at hm h5
 refine ⟨?_, ?_, ?_, ?_, ?_⟩
 · cases s
   · simp at h5; unfold sg; symm; rw [decide_eq_false_iff_not]; omega
   · have := h6 rfl; simp at h5; unfold sg; symm; rw [decide_eq_true_iff]; omega
 · unfold l0; omega
 · unfold l1; omega
 · unfold l2; omega
 · unfold l3; omega
theorem isC_of {z : Int} (h : F256 z) : IsC (sg z) (l0 z) (l1 z) (l2 z) (l3 z) z := by
 obtain ⟨s, a, b, c, d, k⟩ := isC_some z h
 obtain ⟨rfl, rfl, rfl, rfl, rfl⟩ := isC_fix k
 exact k
theorem ret_wide {z : Int} {w w' : World} {e : Ending} (h : WideOnly z w e w') : Ret (.agg #[.bool (sg z), .int .u64 (l0 z : Int), .int .u64 (l1 z : Int), .int .u64 (l2 z : Int), .int .u64 (l3 z : Int)]) w e w' := by
 obtain ⟨s, a, b, c, d, rfl, k, hE⟩ := h
 obtain ⟨rfl, rfl, rfl, rfl, rfl⟩ := isC_fix k
 exact ⟨rfl, hE⟩
theorem ret_pair {z : Int} {w w' : World} {e : Ending} (h : WideRet z w e w') (hz : F256 z) : Ret (.tuple #[.agg #[.bool (sg z), .int .u64 (l0 z : Int), .int .u64 (l1 z : Int), .int .u64 (l2 z : Int), .int .u64 (l3 z : Int)], .bool true]) w e w' := by
 obtain ⟨s, a, b, c, d, o, rfl, ho, hC, hE⟩ := h
 rw [if_pos (show z.natAbs < 115792089237316195423570985008687907853269984665640564039457584007913129639936 from hz)] at hC
 have : o = true := by rw [ho, decide_eq_true_iff]; exact hz
 subst this
 obtain ⟨rfl, rfl, rfl, rfl, rfl⟩ := isC_fix hC
 exact ⟨rfl, hE⟩
theorem ret_div {x y : Int} {w w' : World} {e : Ending} (h : DivRet x y w e w') (hy : y ≠ 0) : Ret (.tuple #[.agg #[.bool (sg (x / y)), .int .u64 (l0 (x / y) : Int), .int .u64 (l1 (x / y) : Int), .int .u64 (l2 (x / y) : Int), .int .u64 (l3 (x / y) : Int)], .agg #[.bool (sg (x % y)), .int .u64 (l0 (x % y) : Int), .int .u64 (l1 (x % y) : Int), .int .u64 (l2 (x % y) : Int), .int .u64 (l3 (x % y) : Int)], .bool true]) w e w' := by
 obtain ⟨s, a, b, c, d, s', a', b', c', d', o, rfl, ho, k1, k2, hE⟩ := h
 rw [if_neg hy] at k1 k2
 have : o = true := by rw [ho, decide_eq_true_iff]; exact hy
 subst this
 obtain ⟨rfl, rfl, rfl, rfl, rfl⟩ := isC_fix k1
 obtain ⟨rfl, rfl, rfl, rfl, rfl⟩ := isC_fix k2
 exact ⟨rfl, hE⟩
theorem c_add {x y z : Int} (hx : F256 x) (hy : F256 y) (e : x + y = z) (hz : F256 z) (w : World) : Calls Tryz.prog 35 #[.agg #[.bool (sg x), .int .u64 (l0 x : Int), .int .u64 (l1 x : Int), .int .u64 (l2 x : Int), .int .u64 (l3 x : Int)], .agg #[.bool (sg y), .int .u64 (l0 y : Int), .int .u64 (l1 y : Int), .int .u64 (l2 y : Int), .int .u64 (l3 y : Int)]] w (Ret (.tuple #[.agg #[.bool (sg z), .int .u64 (l0 z : Int), .int .u64 (l1 z : Int), .int .u64 (l2 z : Int), .int .u64 (l3 z : Int)], .bool true]) w) :=
 (p_wadd _ _ _ _ _ _ _ _ _ _ x y w (isC_of hx).1 (isC_of hy).1).mono fun _ _ h => ret_pair (by rw [e] at h; exact h) hz
theorem c_mul {x y z : Int} (hx : F256 x) (hy : F256 y) (e : x * y = z) (hz : F256 z) (w : World) : Calls Tryz.prog 68 #[.agg #[.bool (sg x), .int .u64 (l0 x : Int), .int .u64 (l1 x : Int), .int .u64 (l2 x : Int), .int .u64 (l3 x : Int)], .agg #[.bool (sg y), .int .u64 (l0 y : Int), .int .u64 (l1 y : Int), .int .u64 (l2 y : Int), .int .u64 (l3 y : Int)]] w (Ret (.tuple #[.agg #[.bool (sg z), .int .u64 (l0 z : Int), .int .u64 (l1 z : Int), .int .u64 (l2 z : Int), .int .u64 (l3 z : Int)], .bool true]) w) :=
 (p_wmul _ _ _ _ _ _ _ _ _ _ x y w (isC_of hx).1 (isC_of hy).1).mono fun _ _ h => ret_pair (by rw [e] at h; exact h) hz
theorem c_div {x y q r : Int} (hx : F256 x) (hy : F256 y) (y0 : y ≠ 0) (e1 : x / y = q) (e2 : x % y = r) (w : World) : Calls Tryz.prog 65 #[.agg #[.bool (sg x), .int .u64 (l0 x : Int), .int .u64 (l1 x : Int), .int .u64 (l2 x : Int), .int .u64 (l3 x : Int)], .agg #[.bool (sg y), .int .u64 (l0 y : Int), .int .u64 (l1 y : Int), .int .u64 (l2 y : Int), .int .u64 (l3 y : Int)]] w (Ret (.tuple #[.agg #[.bool (sg q), .int .u64 (l0 q : Int), .int .u64 (l1 q : Int), .int .u64 (l2 q : Int), .int .u64 (l3 q : Int)], .agg #[.bool (sg r), .int .u64 (l0 r : Int), .int .u64 (l1 r : Int), .int .u64 (l2 r : Int), .int .u64 (l3 r : Int)], .bool true]) w) :=
 (p_divMod _ _ _ _ _ _ _ _ _ _ x y w (isC_of hx).1 (isC_of hy).1).mono fun _ _ h => by have h := ret_div h y0; rw [e1, e2] at h; exact h
theorem c_sign {x r : Int} (hx : F256 x) (e : x.sign = r) (w : World) : Calls Tryz.prog 63 #[.agg #[.bool (sg x), .int .u64 (l0 x : Int), .int .u64 (l1 x : Int), .int .u64 (l2 x : Int), .int .u64 (l3 x : Int)]] w (Ret (.int .i64 r) w) :=
 (p_sign _ _ _ _ _ x w (isC_of hx).1).mono fun _ _ h => by rw [e] at h; exact h
theorem c_neg {x z : Int} (hx : F256 x) (e : -x = z) (w : World) : Calls Tryz.prog 58 #[.agg #[.bool (sg x), .int .u64 (l0 x : Int), .int .u64 (l1 x : Int), .int .u64 (l2 x : Int), .int .u64 (l3 x : Int)]] w (Ret (.agg #[.bool (sg z), .int .u64 (l0 z : Int), .int .u64 (l1 z : Int), .int .u64 (l2 z : Int), .int .u64 (l3 z : Int)]) w) :=
 (p_neg _ _ _ _ _ x w (isC_of hx).1).mono fun _ _ h => by rw [e] at h; exact ret_wide h
theorem c_ofi {x : Int} (h1 : -9223372036854775808 ≤ x) (h2 : x ≤ 9223372036854775807) (w : World) : Calls Tryz.prog 34 #[.int .i64 x] w (Ret (.agg #[.bool (sg x), .int .u64 (l0 x : Int), .int .u64 (l1 x : Int), .int .u64 (l2 x : Int), .int .u64 (l3 x : Int)]) w) :=
 (p_ofi x w h1 h2).mono fun _ _ h => ret_wide h
theorem c_ofu {n : Nat} (h : n < 18446744073709551616) (w : World) : Calls Tryz.prog 37 #[.int .u64 (n : Int)] w (Ret (.agg #[.bool (sg (n : Int)), .int .u64 (l0 (n : Int) : Int), .int .u64 (l1 (n : Int) : Int), .int .u64 (l2 (n : Int) : Int), .int .u64 (l3 (n : Int) : Int)]) w) :=
 (p_ofu n w h).mono fun _ _ h => ret_wide h
theorem c_valid {x : Int} (hx : F256 x) (w : World) : Calls Tryz.prog 57 #[.agg #[.bool (sg x), .int .u64 (l0 x : Int), .int .u64 (l1 x : Int), .int .u64 (l2 x : Int), .int .u64 (l3 x : Int)]] w (Ret (.bool true) w) :=
 (p_valid _ _ _ _ _ x w (isC_of hx).1).mono fun _ _ h => by
   have : (!sg x || decide (x ≠ 0)) = true := by
     have := (isC_of hx).2
     cases hs : sg x <;> simp; exact this hs
   rw [this] at h; exact h
theorem d_add {x y z : Int} (hx : F256 x) (hy : F256 y) (e : x + y = z) (hz : F256 z) (w : World) : Calls Tryz.prog 90 #[.agg #[.bool (sg x), .int .u64 (l0 x : Int), .int .u64 (l1 x : Int), .int .u64 (l2 x : Int), .int .u64 (l3 x : Int)], .agg #[.bool (sg y), .int .u64 (l0 y : Int), .int .u64 (l1 y : Int), .int .u64 (l2 y : Int), .int .u64 (l3 y : Int)]] w (Ret (.tuple #[.agg #[.bool (sg z), .int .u64 (l0 z : Int), .int .u64 (l1 z : Int), .int .u64 (l2 z : Int), .int .u64 (l3 z : Int)], .bool true]) w) :=
 (ref_wadd _ _ _ _ _ _ _ _ _ _ x y w (isC_of hx).1 (isC_of hy).1).mono fun _ _ h => ret_pair (by rw [e] at h; exact h) hz
theorem d_sub {x y z : Int} (hx : F256 x) (hy : F256 y) (e : x - y = z) (hz : F256 z) (w : World) : Calls Tryz.prog 91 #[.agg #[.bool (sg x), .int .u64 (l0 x : Int), .int .u64 (l1 x : Int), .int .u64 (l2 x : Int), .int .u64 (l3 x : Int)], .agg #[.bool (sg y), .int .u64 (l0 y : Int), .int .u64 (l1 y : Int), .int .u64 (l2 y : Int), .int .u64 (l3 y : Int)]] w (Ret (.tuple #[.agg #[.bool (sg z), .int .u64 (l0 z : Int), .int .u64 (l1 z : Int), .int .u64 (l2 z : Int), .int .u64 (l3 z : Int)], .bool true]) w) :=
 (ref_wsub _ _ _ _ _ _ _ _ _ _ x y w (isC_of hx).1 (isC_of hy).1).mono fun _ _ h => ret_pair (by rw [e] at h; exact h) hz
theorem d_mul {x y z : Int} (hx : F256 x) (hy : F256 y) (e : x * y = z) (hz : F256 z) (w : World) : Calls Tryz.prog 28 #[.agg #[.bool (sg x), .int .u64 (l0 x : Int), .int .u64 (l1 x : Int), .int .u64 (l2 x : Int), .int .u64 (l3 x : Int)], .agg #[.bool (sg y), .int .u64 (l0 y : Int), .int .u64 (l1 y : Int), .int .u64 (l2 y : Int), .int .u64 (l3 y : Int)]] w (Ret (.tuple #[.agg #[.bool (sg z), .int .u64 (l0 z : Int), .int .u64 (l1 z : Int), .int .u64 (l2 z : Int), .int .u64 (l3 z : Int)], .bool true]) w) :=
 (ref_wmul _ _ _ _ _ _ _ _ _ _ x y w (isC_of hx).1 (isC_of hy).1).mono fun _ _ h => ret_pair (by rw [e] at h; exact h) hz
theorem d_div {x y q r : Int} (hx : F256 x) (hy : F256 y) (y0 : y ≠ 0) (e1 : x / y = q) (e2 : x % y = r) (w : World) : Calls Tryz.prog 54 #[.agg #[.bool (sg x), .int .u64 (l0 x : Int), .int .u64 (l1 x : Int), .int .u64 (l2 x : Int), .int .u64 (l3 x : Int)], .agg #[.bool (sg y), .int .u64 (l0 y : Int), .int .u64 (l1 y : Int), .int .u64 (l2 y : Int), .int .u64 (l3 y : Int)]] w (Ret (.tuple #[.agg #[.bool (sg q), .int .u64 (l0 q : Int), .int .u64 (l1 q : Int), .int .u64 (l2 q : Int), .int .u64 (l3 q : Int)], .agg #[.bool (sg r), .int .u64 (l0 r : Int), .int .u64 (l1 r : Int), .int .u64 (l2 r : Int), .int .u64 (l3 r : Int)], .bool true]) w) :=
 (ref_wdiv _ _ _ _ _ _ _ _ _ _ x y w (isC_of hx).1 (isC_of hy).1).mono fun _ _ h => by have h := ret_div h y0; rw [e1, e2] at h; exact h
theorem d_cmp {x y r : Int} (hx : F256 x) (hy : F256 y) (e : cmpI x y = r) (w : World) : Calls Tryz.prog 31 #[.agg #[.bool (sg x), .int .u64 (l0 x : Int), .int .u64 (l1 x : Int), .int .u64 (l2 x : Int), .int .u64 (l3 x : Int)], .agg #[.bool (sg y), .int .u64 (l0 y : Int), .int .u64 (l1 y : Int), .int .u64 (l2 y : Int), .int .u64 (l3 y : Int)]] w (Ret (.int .i64 r) w) :=
 (ref_compare _ _ _ _ _ _ _ _ _ _ x y w (isC_of hx).1 (isC_of hy).1).mono fun _ _ h => by rw [e] at h; exact h
theorem d_sign {x r : Int} (hx : F256 x) (e : x.sign = r) (w : World) : Calls Tryz.prog 51 #[.agg #[.bool (sg x), .int .u64 (l0 x : Int), .int .u64 (l1 x : Int), .int .u64 (l2 x : Int), .int .u64 (l3 x : Int)]] w (Ret (.int .i64 r) w) :=
 (ref_sign _ _ _ _ _ x w (isC_of hx).1).mono fun _ _ h => by rw [e] at h; exact h
theorem d_neg {x z : Int} (hx : F256 x) (e : -x = z) (w : World) : Calls Tryz.prog 55 #[.agg #[.bool (sg x), .int .u64 (l0 x : Int), .int .u64 (l1 x : Int), .int .u64 (l2 x : Int), .int .u64 (l3 x : Int)]] w (Ret (.agg #[.bool (sg z), .int .u64 (l0 z : Int), .int .u64 (l1 z : Int), .int .u64 (l2 z : Int), .int .u64 (l3 z : Int)]) w) :=
 (ref_neg _ _ _ _ _ x w (isC_of hx).1).mono fun _ _ h => by rw [e] at h; exact ret_wide h
theorem d_ofi {x : Int} (h1 : -9223372036854775808 ≤ x) (h2 : x ≤ 9223372036854775807) (w : World) : Calls Tryz.prog 14 #[.int .i64 x] w (Ret (.agg #[.bool (sg x), .int .u64 (l0 x : Int), .int .u64 (l1 x : Int), .int .u64 (l2 x : Int), .int .u64 (l3 x : Int)]) w) :=
 (ref_ofi x w h1 h2).mono fun _ _ h => ret_wide h
theorem d_ofu {n : Nat} (h : n < 18446744073709551616) (w : World) : Calls Tryz.prog 26 #[.int .u64 (n : Int)] w (Ret (.agg #[.bool (sg (n : Int)), .int .u64 (l0 (n : Int) : Int), .int .u64 (l1 (n : Int) : Int), .int .u64 (l2 (n : Int) : Int), .int .u64 (l3 (n : Int) : Int)]) w) :=
 (ref_ofu n w h).mono fun _ _ h => ret_wide h
end
section
open Go Go.RowKit
theorem rem_parts (a b : Nat) (h : 0 < b) : (a : Int).tmod (b : Int) = ((a % b : Nat) : Int) ∧ (a : Int) % (b : Int) = ((a % b : Nat) : Int) := ⟨(Int.ofNat_tmod a b).symm, (Int.natCast_emod a b).symm⟩
set_option maxHeartbeats 1000000 in
theorem r_gcdW (a b : Nat) (w : World) (ha : a < 18446744073709551616) (hb : b < 18446744073709551616) :
   Calls Tryz.prog 85 #[.int .u64 (a : Int), .int .u64 (b : Int)] w (IntRet .u64 ((Nat.gcd a b : Nat) : Int) w) := by
 go_enter Tryz.func85, Tryz.ntmps85
 go_wp2_with fail
 go_loopw [0, 1] (fun x y wr => ∃ a' b' : Nat, x = .int .u64 (a' : Int) ∧ y = .int .u64 (b' : Int) ∧ a' < 18446744073709551616 ∧ b' < 18446744073709551616 ∧ Hid (Nat.gcd a' b' = Nat.gcd a b) ∧ Ext w wr) (fun _ y _ => (intOf y).toNat)
 case atStart => exact ⟨a, b, rfl, rfl, ha, hb, rfl, Ext.refl _⟩
 case round =>
   clear ha hb
   obtain ⟨a', b', rfl, rfl, ha, hb, HG, hE⟩ := hrel
   by_cases h0 : b' = 0
   · subst h0
     have HR : Hid (Nat.gcd a b = a') := by rw [← HG.out]; exact Nat.gcd_zero_right a'
     clear HG
     go_wp2_with fail
     go_ret
     exact ⟨by rw [HR.out]; rfl, hE⟩
   · have h1 : ((b' : Int) == 0) = false := by rw [beq_eq_false_iff_ne]; omega
     have h2 : ¬ ((b' : Int) = 0) := by omega
     obtain ⟨r1, r2⟩ := rem_parts a' b' (by omega)
     obtain ⟨r, hr⟩ : ∃ r, a' % b' = r := ⟨_, rfl⟩
     rw [hr] at r1 r2
     have hrb : r < b' := by rw [← hr]; exact Nat.mod_lt _ (by omega)
     have HG2 : Hid (Nat.gcd b' r = Nat.gcd a b) := by rw [← HG.out, ← hr, Nat.gcd_comm a' b', Nat.gcd_rec b' a', Nat.gcd_comm]; exact rfl
     have hr64 : r < 18446744073709551616 := by omega
     have HR := hide hr
     have HB := hide hrb
     clear hr hrb HG h0
     go_wp2_with fail
     go_quiet (fail)
     go_wp2_with fail
     exact ⟨⟨b', r, rfl, rfl, hb, hr64, HG2, hE.trans (ext_drewN _ _)⟩, by have := HB.out; simp [intOf]; omega⟩
theorem fits_cells {s : Bool} {a b c d : Nat} {z : Int} (h : IsC s a b c d z) : z.natAbs < 170141183460469231731687303715884105728 ↔ (d = 0 ∧ c = 0 ∧ b < 9223372036854775808) := by
 obtain ⟨⟨h1, h2, h3, h4, h5⟩, _⟩ := h
 have e : z.natAbs = mag4 a b c d := by cases s <;> simp at h5 <;> omega
 rw [e]
 simp only [mag4, val]
 omega
set_option maxHeartbeats 1000000 in
theorem r_fits (s : Bool) (a b c d : Nat) (z : Int) (w : World) (h : IsC s a b c d z) :
   Calls Tryz.prog 66 #[.agg #[.bool s, .int .u64 (a : Int), .int .u64 (b : Int), .int .u64 (c : Int), .int .u64 (d : Int)]] w (BoolRet (decide (z.natAbs < 170141183460469231731687303715884105728)) w) := by
 have hf := fits_cells h
 have HX := hide (ext_alloc w (.cells #[.bool s, .int .u64 (a : Int), .int .u64 (b : Int), .int .u64 (c : Int), .int .u64 (d : Int)] 25))
 by_cases h3 : d = 0
 · by_cases h2 : c = 0
   · by_cases h1 : b < 9223372036854775808
     · have HB : Hid (decide (z.natAbs < 170141183460469231731687303715884105728) = true) := decide_eq_true (hf.2 ⟨h3, h2, h1⟩)
       have h1' : decide ((b : Int) < 9223372036854775808) = true := by rw [decide_eq_true_iff]; omega
       have h1'' : decide ((9223372036854775808 : Int) ≤ (b : Int)) = false := by rw [decide_eq_false_iff_not]; omega
       subst h3; subst h2
       clear hf h h1
       go_enter Tryz.func66, Tryz.ntmps66
       go_wp2
       go_ret
       exact ⟨rbb HB.out.symm, HX.out⟩
     · have HB : Hid (decide (z.natAbs < 170141183460469231731687303715884105728) = false) := decide_eq_false (fun e => h1 (hf.1 e).2.2)
       have h1' : decide ((b : Int) < 9223372036854775808) = false := by rw [decide_eq_false_iff_not]; omega
       have h1'' : decide ((9223372036854775808 : Int) ≤ (b : Int)) = true := by rw [decide_eq_true_iff]; omega
       subst h3; subst h2
       clear hf h h1
       go_enter Tryz.func66, Tryz.ntmps66
       go_wp2
       go_ret
       exact ⟨rbb HB.out.symm, HX.out⟩
   · have HB : Hid (decide (z.natAbs < 170141183460469231731687303715884105728) = false) := decide_eq_false (fun e => h2 (hf.1 e).2.1)
     have h2' : ((c : Int) == 0) = false := by rw [beq_eq_false_iff_ne]; omega
     have h2'' : ¬ ((c : Int) = 0) := by omega
     subst h3
     clear hf h h2
     go_enter Tryz.func66, Tryz.ntmps66
     go_wp2
     go_ret
     exact ⟨rbb HB.out.symm, HX.out⟩
 · have HB : Hid (decide (z.natAbs < 170141183460469231731687303715884105728) = false) := decide_eq_false (fun e => h3 (hf.1 e).1)
   have h3' : ((d : Int) == 0) = false := by rw [beq_eq_false_iff_ne]; omega
   have h3'' : ¬ ((d : Int) = 0) := by omega
   clear hf h h3
   go_enter Tryz.func66, Tryz.ntmps66
   go_wp2
   go_ret
   exact ⟨rbb HB.out.symm, HX.out⟩
set_option maxRecDepth 100000 in
set_option maxHeartbeats 4000000 in
theorem r_gcd (s t : Bool) (a b c d e f g h : Nat) (x y : Int) (w : World) (hx : IsC s a b c d x) (hy : IsC t e f g h y) (hy0 : 0 < y) :
   Calls Tryz.prog 64 #[.agg #[.bool s, .int .u64 (a : Int), .int .u64 (b : Int), .int .u64 (c : Int), .int .u64 (d : Int)], .agg #[.bool t, .int .u64 (e : Int), .int .u64 (f : Int), .int .u64 (g : Int), .int .u64 (h : Int)]] w (WideOnly (Int.gcd x y : Int) w) := by
 obtain ⟨W, hW⟩ : ∃ W, W = (((w.alloc (.cells #[.bool s, .int .u64 (a : Int), .int .u64 (b : Int), .int .u64 (c : Int), .int .u64 (d : Int)] 25)).alloc (.cells #[.bool t, .int .u64 (e : Int), .int .u64 (f : Int), .int .u64 (g : Int), .int .u64 (h : Int)] 25)).alloc (.cells #[.bool false, .int .u64 0, .int .u64 0, .int .u64 0, .int .u64 0] 25)) := ⟨_, rfl⟩
 have H3 := three_boxes w (.cells #[.bool s, .int .u64 (a : Int), .int .u64 (b : Int), .int .u64 (c : Int), .int .u64 (d : Int)] 25) (.cells #[.bool t, .int .u64 (e : Int), .int .u64 (f : Int), .int .u64 (g : Int), .int .u64 (h : Int)] 25) (.cells #[.bool false, .int .u64 0, .int .u64 0, .int .u64 0, .int .u64 0] 25)
 rw [← hW] at H3
 obtain ⟨G, hG⟩ : ∃ G, Int.gcd x y = G := ⟨_, rfl⟩
 have B0 : Box W w.heap.size s a b c d := H3.1
 have B1 : Box W (w.heap.size + 1) t e f g h := H3.2.1
 have B2 : Box W (w.heap.size + 1 + 1) false 0 0 0 0 := H3.2.2
 have E0 : Ext w W := by rw [hW]; exact ((ext_alloc _ _).trans (ext_alloc _ _)).trans (ext_alloc _ _)
 have HW := hide hW
 have HGG := hide hG
 rw [hG]
 clear hW H3 hG
 go_enter Tryz.func64, Tryz.ntmps64
 go_upto_region 1 with fail
 rw [← HW.out]
 clear HW
 go_loopg [] (y.natAbs) (fun k wr => ∃ (s : Bool) (a b c d : Nat) (t : Bool) (e f g h : Nat) (x y : Int), Box wr w.heap.size s a b c d ∧ Box wr (w.heap.size + 1) t e f g h ∧ Box wr (w.heap.size + 1 + 1) false 0 0 0 0 ∧ IsC s a b c d x ∧ IsC t e f g h y ∧ Hid (0 ≤ y ∧ y.natAbs ≤ k ∧ Int.gcd x y = G ∧ (0 < y ∨ 0 ≤ x)) ∧ Ext w wr)
 case atStart => exact ⟨s, a, b, c, d, t, e, f, g, h, x, y, B0, B1, B2, hx, hy, ⟨by omega, Nat.le_refl _, HGG.out, Or.inl hy0⟩, E0⟩
 case round =>
   clear B0 B1 B2 hx hy hy0 E0 HGG
   obtain ⟨s, a, b, c, d, t, e, f, g, h, x, y, B0, B1, B2, hx, hy, HH, EE⟩ := hrel
   have KX := hide hx
   have KY := hide hy
   clear hx hy
   obtain ⟨sg, hsg⟩ : ∃ sg, y.sign = sg := ⟨_, rfl⟩
   have ks : Hid (∀ w', Calls Tryz.prog 63 #[.agg #[.bool t, .int .u64 (e : Int), .int .u64 (f : Int), .int .u64 (g : Int), .int .u64 (h : Int)]] w' (IntRet .i64 sg w')) := fun w' => by rw [← hsg]; exact p_sign _ _ _ _ _ _ w' KY.out.1
   obtain ⟨c0, c1, c2, c3, c4, _⟩ := five_cells B0
   obtain ⟨d0, d1, d2, d3, d4, _⟩ := five_cells B1
   obtain ⟨i0, i1, i2, i3, i4, j0, j1, j2, j3, j4⟩ := five_cells B2
   by_cases hy0 : y = 0
   · have hsg0 : sg = 0 := by rw [← hsg, hy0]; rfl
     subst hsg0
     have KR : Hid (IsC s a b c d (G : Int)) := by
       have h1 := HH.out
       have h2 := KX.out
       have e : (G : Int) = x := by
         have h3 := h1.2.2.1
         rw [hy0, Int.gcd_zero_right] at h3
         have h4 := h1.2.2.2
         omega
       unfold Hid
       rw [e]; exact h2
     clear hsg hy0 HH
     go_wp2_with (go_at_call 63; (with_reducible refine (ks.out _).mono ?_); rintro e' w2 ⟨rfl, hE⟩; have B0 := B0.ext hE; have B1 := B1.ext hE; have B2 := B2.ext hE; have EE := EE.trans hE; obtain ⟨c0, c1, c2, c3, c4, f0, f1, f2, f3, f4⟩ := five_cells B0; obtain ⟨d0, d1, d2, d3, d4, g0, g1, g2, g3, g4⟩ := five_cells B1; obtain ⟨i0, i1, i2, i3, i4, j0, j1, j2, j3, j4⟩ := five_cells B2; clear hE)
     all_goals exact bodyPost_ret (v := .agg #[.bool s, .int .u64 (a : Int), .int .u64 (b : Int), .int .u64 (c : Int), .int .u64 (d : Int)]) (by simp [results, Tryz.results64, go_sem, i0, i1, i2, i3, i4]) rfl ⟨s, a, b, c, d, rfl, KR.out, ext_five EE (by omega) _ _ _ _ _⟩
   · have hsg0 : ¬ (sg = 0) := by rw [← hsg]; intro e; exact hy0 (Int.sign_eq_zero_iff_zero.1 e)
     have hsg1 : (sg == 0) = false := by rw [beq_eq_false_iff_ne]; exact hsg0
     obtain ⟨r1, hr1⟩ : ∃ r, (if 0 ≤ x ∧ x < 18446744073709551616 then x else 0) = r := ⟨_, rfl⟩
     obtain ⟨o1, ho1⟩ : ∃ o, decide (0 ≤ x ∧ x < 18446744073709551616) = o := ⟨_, rfl⟩
     obtain ⟨r2, hr2⟩ : ∃ r, (if 0 ≤ y ∧ y < 18446744073709551616 then y else 0) = r := ⟨_, rfl⟩
     obtain ⟨o2, ho2⟩ : ∃ o, decide (0 ≤ y ∧ y < 18446744073709551616) = o := ⟨_, rfl⟩
     have k1 : Hid (∀ w', Calls Tryz.prog 84 #[.agg #[.bool s, .int .u64 (a : Int), .int .u64 (b : Int), .int .u64 (c : Int), .int .u64 (d : Int)]] w' (PairRet .u64 r1 o1 w')) := fun w' => by rw [← hr1, ← ho1]; exact p_unsigned _ _ _ _ _ _ w' KX.out.1
     have k2 : Hid (∀ w', Calls Tryz.prog 84 #[.agg #[.bool t, .int .u64 (e : Int), .int .u64 (f : Int), .int .u64 (g : Int), .int .u64 (h : Int)]] w' (PairRet .u64 r2 o2 w')) := fun w' => by rw [← hr2, ← ho2]; exact p_unsigned _ _ _ _ _ _ w' KY.out.1
     by_cases hb : o1 = true ∧ o2 = true
     · obtain ⟨rfl, rfl⟩ := hb
       have hx1 := of_decide_eq_true ho1
       have hy1 := of_decide_eq_true ho2
       rw [if_pos hx1] at hr1
       rw [if_pos hy1] at hr2
       obtain ⟨n, hn⟩ : ∃ n : Nat, x = n := ⟨x.toNat, by omega⟩
       obtain ⟨m, hm⟩ : ∃ m : Nat, y = m := ⟨y.toNat, by omega⟩
       have hn2 : n < 18446744073709551616 := by omega
       have hm2 : m < 18446744073709551616 := by omega
       have HGM : Hid (Nat.gcd n m = G) := by
         have h3 := HH.out.2.2.1
         rw [hn, hm] at h3
         exact h3
       have hG64 : G < 18446744073709551616 := by
         have h1 : Nat.gcd n m ≤ m := Nat.gcd_le_right _ (by omega)
         rw [HGM.out] at h1
         omega
       rw [← hr1, hn] at k1
       rw [← hr2, hm] at k2
       clear hr1 hr2 ho1 ho2 hx1 hy1 hn hm HH hsg hy0 KX KY
       go_wp2_with (first
         | (go_at_call 63; (with_reducible refine (ks.out _).mono ?_); rintro e' w2 ⟨rfl, hE⟩; have B0 := B0.ext hE; have B1 := B1.ext hE; have B2 := B2.ext hE; have EE := EE.trans hE; obtain ⟨c0, c1, c2, c3, c4, f0, f1, f2, f3, f4⟩ := five_cells B0; obtain ⟨d0, d1, d2, d3, d4, g0, g1, g2, g3, g4⟩ := five_cells B1; obtain ⟨i0, i1, i2, i3, i4, j0, j1, j2, j3, j4⟩ := five_cells B2; clear hE)
         | (go_at_call 84; (with_reducible refine (k1.out _).mono ?_); rintro e' w3 ⟨rfl, hE⟩; have B0 := B0.ext hE; have B1 := B1.ext hE; have B2 := B2.ext hE; have EE := EE.trans hE; obtain ⟨c0, c1, c2, c3, c4, f0, f1, f2, f3, f4⟩ := five_cells B0; obtain ⟨d0, d1, d2, d3, d4, g0, g1, g2, g3, g4⟩ := five_cells B1; obtain ⟨i0, i1, i2, i3, i4, j0, j1, j2, j3, j4⟩ := five_cells B2; clear hE)
         | (go_at_call 84; (with_reducible refine (k2.out _).mono ?_); rintro e' w4 ⟨rfl, hE⟩; have B0 := B0.ext hE; have B1 := B1.ext hE; have B2 := B2.ext hE; have EE := EE.trans hE; obtain ⟨c0, c1, c2, c3, c4, f0, f1, f2, f3, f4⟩ := five_cells B0; obtain ⟨d0, d1, d2, d3, d4, g0, g1, g2, g3, g4⟩ := five_cells B1; obtain ⟨i0, i1, i2, i3, i4, j0, j1, j2, j3, j4⟩ := five_cells B2; clear hE)
         | (go_at_call 85; refine (r_gcdW n m _ hn2 hm2).mono ?_; rintro e' w5 ⟨rfl, hE⟩; rw [HGM.out]; have B0 := B0.ext hE; have B1 := B1.ext hE; have B2 := B2.ext hE; have EE := EE.trans hE; obtain ⟨c0, c1, c2, c3, c4, f0, f1, f2, f3, f4⟩ := five_cells B0; obtain ⟨d0, d1, d2, d3, d4, g0, g1, g2, g3, g4⟩ := five_cells B1; obtain ⟨i0, i1, i2, i3, i4, j0, j1, j2, j3, j4⟩ := five_cells B2; clear hE)
         | (go_at_call 37; refine (p_ofu G _ hG64).mono ?_; rintro e' w6 ⟨s6, a6, b6, c6, d6, rfl, hC, hE⟩; have B0 := B0.ext hE; have B1 := B1.ext hE; have B2 := B2.ext hE; have EE := EE.trans hE; obtain ⟨c0, c1, c2, c3, c4, f0, f1, f2, f3, f4⟩ := five_cells B0; obtain ⟨d0, d1, d2, d3, d4, g0, g1, g2, g3, g4⟩ := five_cells B1; obtain ⟨i0, i1, i2, i3, i4, j0, j1, j2, j3, j4⟩ := five_cells B2; clear hE))
       all_goals exact bodyPost_ret (v := .agg #[.bool s6, .int .u64 (a6 : Int), .int .u64 (b6 : Int), .int .u64 (c6 : Int), .int .u64 (d6 : Int)]) (by simp [results, Tryz.results64, go_sem, i0, i1, i2, i3, i4]) rfl ⟨s6, a6, b6, c6, d6, rfl, hC, ext_five EE (by omega) _ _ _ _ _⟩
     · have HN : Hid (0 < x % y + 1 ∧ x % y < y ∧ 0 ≤ x % y ∧ Int.gcd y (x % y) = G ∧ (x % y).natAbs < gk) := by
         have h1 := HH.out
         have h2 := Int.emod_nonneg x hy0
         have h3 := Int.emod_lt_of_pos x (show 0 < y by omega)
         refine ⟨by omega, h3, h2, by rw [← gcd_mod]; exact h1.2.2.1, by omega⟩
       have HY0 : Hid (0 < y) := by have := HH.out.1; unfold Hid; omega
       have hY := hide hy0
       have hways : o1 = false ∨ (o1 = true ∧ o2 = false) := by cases o1 <;> cases o2 <;> simp at hb ⊢
       clear hr1 hr2 ho1 ho2 hsg HH hy0 hb
       rcases hways with rfl | ⟨rfl, rfl⟩
       all_goals go_upto_region 6 with (first
         | (go_at_call 63; (with_reducible refine (ks.out _).mono ?_); rintro e' w2 ⟨rfl, hE⟩; have B0 := B0.ext hE; have B1 := B1.ext hE; have B2 := B2.ext hE; have EE := EE.trans hE; obtain ⟨c0, c1, c2, c3, c4, f0, f1, f2, f3, f4⟩ := five_cells B0; obtain ⟨d0, d1, d2, d3, d4, g0, g1, g2, g3, g4⟩ := five_cells B1; obtain ⟨i0, i1, i2, i3, i4, j0, j1, j2, j3, j4⟩ := five_cells B2; clear hE)
         | (go_at_call 84; (with_reducible refine (k1.out _).mono ?_); rintro e' w3 ⟨rfl, hE⟩; have B0 := B0.ext hE; have B1 := B1.ext hE; have B2 := B2.ext hE; have EE := EE.trans hE; obtain ⟨c0, c1, c2, c3, c4, f0, f1, f2, f3, f4⟩ := five_cells B0; obtain ⟨d0, d1, d2, d3, d4, g0, g1, g2, g3, g4⟩ := five_cells B1; obtain ⟨i0, i1, i2, i3, i4, j0, j1, j2, j3, j4⟩ := five_cells B2; clear hE)
         | (go_at_call 84; (with_reducible refine (k2.out _).mono ?_); rintro e' w4 ⟨rfl, hE⟩; have B0 := B0.ext hE; have B1 := B1.ext hE; have B2 := B2.ext hE; have EE := EE.trans hE; obtain ⟨c0, c1, c2, c3, c4, f0, f1, f2, f3, f4⟩ := five_cells B0; obtain ⟨d0, d1, d2, d3, d4, g0, g1, g2, g3, g4⟩ := five_cells B1; obtain ⟨i0, i1, i2, i3, i4, j0, j1, j2, j3, j4⟩ := five_cells B2; clear hE))
       all_goals (go_upto_region 7 with (go_at_call 65; refine (p_divMod s t a b c d e f g h x y _ KX.out.1 KY.out.1).mono ?_; rintro e' w7 ⟨s7, a7, b7, c7, d7, s8, a8, b8, c8, d8, o8, rfl, ho, C7, C8, hE⟩; have Ho := hide ho; rw [if_neg hY.out] at C7 C8; have K8 := hide C8; clear ho C7 C8; have B0 := B0.ext hE; have B1 := B1.ext hE; have B2 := B2.ext hE; have EE := EE.trans hE; clear hE))
       all_goals have Q := two_blocks w7 (.cells #[.bool s7, .int .u64 (a7 : Int), .int .u64 (b7 : Int), .int .u64 (c7 : Int), .int .u64 (d7 : Int)] 25) (.cells #[.bool s8, .int .u64 (a8 : Int), .int .u64 (b8 : Int), .int .u64 (c8 : Int), .int .u64 (d8 : Int)] 25)
       all_goals have hE := (ext_alloc w7 (.cells #[.bool s7, .int .u64 (a7 : Int), .int .u64 (b7 : Int), .int .u64 (c7 : Int), .int .u64 (d7 : Int)] 25)).trans (ext_alloc _ (.cells #[.bool s8, .int .u64 (a8 : Int), .int .u64 (b8 : Int), .int .u64 (c8 : Int), .int .u64 (d8 : Int)] 25))
       all_goals have l2 := B2.lt
       all_goals have B0 := B0.ext hE
       all_goals have B1 := B1.ext hE
       all_goals have B2 := B2.ext hE
       all_goals have EE := EE.trans hE
       all_goals clear hE
       all_goals (obtain ⟨W7, hW7⟩ : ∃ W7, W7 = (w7.alloc (.cells #[.bool s7, .int .u64 (a7 : Int), .int .u64 (b7 : Int), .int .u64 (c7 : Int), .int .u64 (d7 : Int)] 25)).alloc (.cells #[.bool s8, .int .u64 (a8 : Int), .int .u64 (b8 : Int), .int .u64 (c8 : Int), .int .u64 (d8 : Int)] 25) := ⟨_, rfl⟩)
       all_goals rw [← hW7] at Q B0 B1 B2 EE ⊢
       all_goals (obtain ⟨g7, hg7⟩ : ∃ g7, w7.heap.size = g7 := ⟨_, rfl⟩)
       all_goals rw [hg7] at Q l2 ⊢
       all_goals have B8 : Box W7 (g7 + 1) s8 a8 b8 c8 d8 := Q.2
       all_goals clear hW7 hg7 Q
       all_goals (obtain ⟨c0, c1, c2, c3, c4, f0, f1, f2, f3, f4⟩ := five_cells B0)
       all_goals (obtain ⟨d0, d1, d2, d3, d4, g0, g1, g2, g3, g4⟩ := five_cells B1)
       all_goals (obtain ⟨i0, i1, i2, i3, i4, _⟩ := five_cells B8)
       all_goals have KE := ext_five (ext_five EE (b := w.heap.size) (Nat.le_refl _) (.bool t) (.int .u64 (e : Int)) (.int .u64 (f : Int)) (.int .u64 (g : Int)) (.int .u64 (h : Int))) (b := w.heap.size + 1) (by omega) (.bool s8) (.int .u64 (a8 : Int)) (.int .u64 (b8 : Int)) (.int .u64 (c8 : Int)) (.int .u64 (d8 : Int))
       all_goals have KB0 := (B0.put (t := t) (a' := e) (b' := f) (c' := g) (d' := h)).far (b' := w.heap.size + 1) (by omega) (.bool s8) (.int .u64 (a8 : Int)) (.int .u64 (b8 : Int)) (.int .u64 (c8 : Int)) (.int .u64 (d8 : Int))
       all_goals have KB1 := (B1.far (b' := w.heap.size) (by omega) (.bool t) (.int .u64 (e : Int)) (.int .u64 (f : Int)) (.int .u64 (g : Int)) (.int .u64 (h : Int))).put (t := s8) (a' := a8) (b' := b8) (c' := c8) (d' := d8)
       all_goals have KB2 := (B2.far (b' := w.heap.size) (by omega) (.bool t) (.int .u64 (e : Int)) (.int .u64 (f : Int)) (.int .u64 (g : Int)) (.int .u64 (h : Int))).far (b' := w.heap.size + 1) (by omega) (.bool s8) (.int .u64 (a8 : Int)) (.int .u64 (b8 : Int)) (.int .u64 (c8 : Int)) (.int .u64 (d8 : Int))
       all_goals go_region
       all_goals go_wp2_with fail
       all_goals go_roundg ((x % y).natAbs)
       all_goals first
         | exact HN.out.2.2.2.2
         | exact ⟨t, e, f, g, h, s8, a8, b8, c8, d8, y, x % y, KB0.drew, KB1.drew, KB2.drew, KY.out, K8.out, ⟨HN.out.2.2.1, Nat.le_refl _, HN.out.2.2.2.1, Or.inr (by have := HY0.out; omega)⟩, KE.trans (ext_drew _)⟩
end
section
open Go Go.RowKit
def Box10 (W : World) (k : Nat) (s : Bool) (a b c d : Nat) (t : Bool) (e f g h : Nat) : Prop := W.heap[k]? = some (.cells #[.bool s, .int .u64 (a : Int), .int .u64 (b : Int), .int .u64 (c : Int), .int .u64 (d : Int), .bool t, .int .u64 (e : Int), .int .u64 (f : Int), .int .u64 (g : Int), .int .u64 (h : Int)] 27 (0, 0))
theorem Box10.ext {w w' : World} {k : Nat} {s : Bool} {a b c d : Nat} {t : Bool} {e f g h : Nat} (x : Box10 w k s a b c d t e f g h) (y : Ext w w') : Box10 w' k s a b c d t e f g h := keep5 y x
theorem Box10.drew {w : World} {k : Nat} {s : Bool} {a b c d : Nat} {t : Bool} {e f g h : Nat} (x : Box10 w k s a b c d t e f g h) : Box10 w.drew k s a b c d t e f g h := x
theorem Box10.lt {w : World} {k : Nat} {s : Bool} {a b c d : Nat} {t : Bool} {e f g h : Nat} (x : Box10 w k s a b c d t e f g h) : k < w.heap.size := (Array.getElem?_eq_some_iff.1 x).1
theorem ten_cells {w : World} {b : Nat} {v0 v1 v2 v3 v4 v5 v6 v7 v8 v9 : Value} {e : TypeId} (h : w.heap[b]? = some (.cells #[v0, v1, v2, v3, v4, v5, v6, v7, v8, v9] e (0, 0))) :
   w.cell? ⟨b, 0, none⟩ = some v0 ∧ w.cell? ⟨b, 1, none⟩ = some v1 ∧ w.cell? ⟨b, 2, none⟩ = some v2 ∧ w.cell? ⟨b, 3, none⟩ = some v3 ∧ w.cell? ⟨b, 4, none⟩ = some v4 ∧ w.cell? ⟨b, 5, none⟩ = some v5 ∧ w.cell? ⟨b, 6, none⟩ = some v6 ∧ w.cell? ⟨b, 7, none⟩ = some v7 ∧ w.cell? ⟨b, 8, none⟩ = some v8 ∧ w.cell? ⟨b, 9, none⟩ = some v9 ∧
   w.frozen? ⟨b, 0, none⟩ = false ∧ w.frozen? ⟨b, 1, none⟩ = false ∧ w.frozen? ⟨b, 2, none⟩ = false ∧ w.frozen? ⟨b, 3, none⟩ = false ∧ w.frozen? ⟨b, 4, none⟩ = false ∧ w.frozen? ⟨b, 5, none⟩ = false ∧ w.frozen? ⟨b, 6, none⟩ = false ∧ w.frozen? ⟨b, 7, none⟩ = false ∧ w.frozen? ⟨b, 8, none⟩ = false ∧ w.frozen? ⟨b, 9, none⟩ = false := by
 refine ⟨?_, ?_, ?_, ?_, ?_, ?_, ?_, ?_, ?_, ?_, free_of_block h 0, free_of_block h 1, free_of_block h 2, free_of_block h 3, free_of_block h 4, free_of_block h 5, free_of_block h 6, free_of_block h 7, free_of_block h 8, free_of_block h 9⟩ <;> (rw [cell_of_block h]; rfl)
theorem ext_ten {W w : World} (h : Ext W w) {b : Nat} (hb : W.heap.size ≤ b) (u0 u1 u2 u3 u4 u5 u6 u7 u8 u9 : Value) : Ext W ((((((((((w.setCell ⟨b, 0, none⟩ u0).setCell ⟨b, 1, none⟩ u1).setCell ⟨b, 2, none⟩ u2).setCell ⟨b, 3, none⟩ u3).setCell ⟨b, 4, none⟩ u4).setCell ⟨b, 5, none⟩ u5).setCell ⟨b, 6, none⟩ u6).setCell ⟨b, 7, none⟩ u7).setCell ⟨b, 8, none⟩ u8).setCell ⟨b, 9, none⟩ u9) :=
 ext_set (ext_set (ext_set (ext_set (ext_set (ext_set (ext_set (ext_set (ext_set (ext_set h hb _ _) hb _ _) hb _ _) hb _ _) hb _ _) hb _ _) hb _ _) hb _ _) hb _ _) hb _ _
def MakeRet (o : Bool) (n d : Int) (w : World) (e : Ending) (w' : World) : Prop := ∃ (s : Bool) (a b c d' : Nat) (t : Bool) (e' f g h : Nat), e = .returned (.tuple #[.agg #[.bool s, .int .u64 (a : Int), .int .u64 (b : Int), .int .u64 (c : Int), .int .u64 (d' : Int), .bool t, .int .u64 (e' : Int), .int .u64 (f : Int), .int .u64 (g : Int), .int .u64 (h : Int)], .bool o]) ∧ IsC s a b c d' n ∧ IsC t e' f g h d ∧ Ext w w'
theorem makeRet_no {w w' : World} (h : Ext w w') : MakeRet false 0 0 w (.returned (.tuple #[.agg #[.bool false, .int .u64 0, .int .u64 0, .int .u64 0, .int .u64 0, .bool false, .int .u64 0, .int .u64 0, .int .u64 0, .int .u64 0], .bool false])) w' :=
 ⟨false, 0, 0, 0, 0, false, 0, 0, 0, 0, rfl, isC_zero, isC_zero, h⟩
def Good (s : Bool) (z : Int) : Prop := s = true → z ≠ 0
set_option maxRecDepth 100000 in
set_option maxHeartbeats 4000000 in
theorem r_make_no (s t : Bool) (a b c d e f g h : Nat) (x y : Int) (w : World) (hx : IsW s a b c d x) (hy : IsW t e f g h y) (hno : ¬ (Good s x ∧ Good t y ∧ y ≠ 0)) :
   Calls Tryz.prog 36 #[.agg #[.bool s, .int .u64 (a : Int), .int .u64 (b : Int), .int .u64 (c : Int), .int .u64 (d : Int)], .agg #[.bool t, .int .u64 (e : Int), .int .u64 (f : Int), .int .u64 (g : Int), .int .u64 (h : Int)]] w (MakeRet false 0 0 w) := by
 obtain ⟨W, hW⟩ : ∃ W, W = (((w.alloc (.cells #[.bool s, .int .u64 (a : Int), .int .u64 (b : Int), .int .u64 (c : Int), .int .u64 (d : Int)] 25)).alloc (.cells #[.bool t, .int .u64 (e : Int), .int .u64 (f : Int), .int .u64 (g : Int), .int .u64 (h : Int)] 25)).alloc (.cells #[.bool false, .int .u64 0, .int .u64 0, .int .u64 0, .int .u64 0, .bool false, .int .u64 0, .int .u64 0, .int .u64 0, .int .u64 0] 27)) := ⟨_, rfl⟩
 have H3 := three_boxes w (.cells #[.bool s, .int .u64 (a : Int), .int .u64 (b : Int), .int .u64 (c : Int), .int .u64 (d : Int)] 25) (.cells #[.bool t, .int .u64 (e : Int), .int .u64 (f : Int), .int .u64 (g : Int), .int .u64 (h : Int)] 25) (.cells #[.bool false, .int .u64 0, .int .u64 0, .int .u64 0, .int .u64 0, .bool false, .int .u64 0, .int .u64 0, .int .u64 0, .int .u64 0] 27)
 rw [← hW] at H3
 have B0 : Box W w.heap.size s a b c d := H3.1
 have B1 : Box W (w.heap.size + 1) t e f g h := H3.2.1
 have B2 : Box10 W (w.heap.size + 1 + 1) false 0 0 0 0 false 0 0 0 0 := H3.2.2
 have EE : Ext w W := by rw [hW]; exact ((ext_alloc _ _).trans (ext_alloc _ _)).trans (ext_alloc _ _)
 have HW := hide hW
 obtain ⟨o1, ho1⟩ : ∃ o, (!s || decide (x ≠ 0)) = o := ⟨_, rfl⟩
 obtain ⟨o2, ho2⟩ : ∃ o, (!t || decide (y ≠ 0)) = o := ⟨_, rfl⟩
 obtain ⟨sg, hsg⟩ : ∃ sg, y.sign = sg := ⟨_, rfl⟩
 have k1 : Hid (∀ w', Calls Tryz.prog 57 #[.agg #[.bool s, .int .u64 (a : Int), .int .u64 (b : Int), .int .u64 (c : Int), .int .u64 (d : Int)]] w' (BoolRet o1 w')) := fun w' => by rw [← ho1]; exact p_valid _ _ _ _ _ _ w' hx
 have k2 : Hid (∀ w', Calls Tryz.prog 57 #[.agg #[.bool t, .int .u64 (e : Int), .int .u64 (f : Int), .int .u64 (g : Int), .int .u64 (h : Int)]] w' (BoolRet o2 w')) := fun w' => by rw [← ho2]; exact p_valid _ _ _ _ _ _ w' hy
 have k3 : Hid (∀ w', Calls Tryz.prog 63 #[.agg #[.bool t, .int .u64 (e : Int), .int .u64 (f : Int), .int .u64 (g : Int), .int .u64 (h : Int)]] w' (IntRet .i64 sg w')) := fun w' => by rw [← hsg]; exact p_sign _ _ _ _ _ _ w' hy
 have hways : o1 = false ∨ (o1 = true ∧ o2 = false) ∨ (o1 = true ∧ o2 = true ∧ sg = 0) := by
   unfold Good at hno
   rw [← ho1, ← ho2, ← hsg]
   by_cases hx0 : x = 0 <;> by_cases hy0 : y = 0 <;> cases s <;> cases t <;> simp [hx0, hy0] at hno ⊢
 clear hW H3 ho1 ho2 hsg hx hy hno
 obtain ⟨c0, c1, c2, c3, c4, _⟩ := five_cells B0
 obtain ⟨d0, d1, d2, d3, d4, _⟩ := five_cells B1
 go_enter Tryz.func36, Tryz.ntmps36
 go_upto_region 1 with fail
 rw [← HW.out]
 clear HW
 rcases hways with rfl | ⟨rfl, rfl⟩ | ⟨rfl, rfl, rfl⟩
 all_goals go_wp2_with (first
   | (go_at_call 57; (with_reducible refine (k1.out _).mono ?_); rintro e' w2 ⟨rfl, hE⟩; have B1 := B1.ext hE; have B2 := B2.ext hE; have EE := EE.trans hE; obtain ⟨d0, d1, d2, d3, d4, _⟩ := five_cells B1; obtain ⟨i0, i1, i2, i3, i4, i5, i6, i7, i8, i9, j0, j1, j2, j3, j4, j5, j6, j7, j8, j9⟩ := ten_cells B2; clear hE)
   | (go_at_call 57; (with_reducible refine (k2.out _).mono ?_); rintro e' w3 ⟨rfl, hE⟩; have B1 := B1.ext hE; have B2 := B2.ext hE; have EE := EE.trans hE; obtain ⟨d0, d1, d2, d3, d4, _⟩ := five_cells B1; obtain ⟨i0, i1, i2, i3, i4, i5, i6, i7, i8, i9, j0, j1, j2, j3, j4, j5, j6, j7, j8, j9⟩ := ten_cells B2; clear hE)
   | (go_at_call 63; (with_reducible refine (k3.out _).mono ?_); rintro e' w4 ⟨rfl, hE⟩; have B1 := B1.ext hE; have B2 := B2.ext hE; have EE := EE.trans hE; obtain ⟨d0, d1, d2, d3, d4, _⟩ := five_cells B1; obtain ⟨i0, i1, i2, i3, i4, i5, i6, i7, i8, i9, j0, j1, j2, j3, j4, j5, j6, j7, j8, j9⟩ := ten_cells B2; clear hE))
 all_goals exact bodyPost_ret (v := .tuple #[.agg #[.bool false, .int .u64 0, .int .u64 0, .int .u64 0, .int .u64 0, .bool false, .int .u64 0, .int .u64 0, .int .u64 0, .int .u64 0], .bool false]) (by simp [results, Tryz.results36, go_sem, i0, i1, i2, i3, i4, i5, i6, i7, i8, i9]) rfl (makeRet_no (ext_ten EE (by omega) _ _ _ _ _ _ _ _ _ _))
theorem Box10.far {w : World} {k b' : Nat} {s : Bool} {a b c d : Nat} {t : Bool} {e f g h : Nat} (x : Box10 w k s a b c d t e f g h) (hn : k ≠ b') (u0 u1 u2 u3 u4 : Value) : Box10 (((((w.setCell ⟨b', 0, none⟩ u0).setCell ⟨b', 1, none⟩ u1).setCell ⟨b', 2, none⟩ u2).setCell ⟨b', 3, none⟩ u3).setCell ⟨b', 4, none⟩ u4) k s a b c d t e f g h := by
 unfold Box10 at *
 rw [heap_setCell_other _ _ _ _ (by simpa using hn), heap_setCell_other _ _ _ _ (by simpa using hn), heap_setCell_other _ _ _ _ (by simpa using hn), heap_setCell_other _ _ _ _ (by simpa using hn), heap_setCell_other _ _ _ _ (by simpa using hn)]
 exact x
def Three (w : World) (x y : Int) (wx : World) : Prop := ∃ (s : Bool) (a b c d : Nat) (t : Bool) (e f g h : Nat), IsC s a b c d x ∧ IsC t e f g h y ∧ Box wx w.heap.size s a b c d ∧ Box wx (w.heap.size + 1) t e f g h ∧ Box10 wx (w.heap.size + 1 + 1) false 0 0 0 0 false 0 0 0 0 ∧ Ext w wx
set_option maxRecDepth 100000 in
set_option maxHeartbeats 16000000 in
theorem r_make_yes (s t : Bool) (a b c d e f g h : Nat) (x y : Int) (w : World) (hx : IsC s a b c d x) (hy : IsC t e f g h y) (hy0 : y ≠ 0) (o : Bool) (ho : decide ((numR x y).natAbs < 170141183460469231731687303715884105728 ∧ (denR x y).natAbs < 170141183460469231731687303715884105728) = o) :
   Calls Tryz.prog 36 #[.agg #[.bool s, .int .u64 (a : Int), .int .u64 (b : Int), .int .u64 (c : Int), .int .u64 (d : Int)], .agg #[.bool t, .int .u64 (e : Int), .int .u64 (f : Int), .int .u64 (g : Int), .int .u64 (h : Int)]] w (MakeRet o (if o then numR x y else 0) (if o then denR x y else 0) w) := by
 obtain ⟨N, hN⟩ : ∃ N, (if o then numR x y else 0) = N := ⟨_, rfl⟩
 obtain ⟨D, hD⟩ : ∃ D, (if o then denR x y else 0) = D := ⟨_, rfl⟩
 rw [hN, hD]
 have HN := hide hN
 have HD := hide hD
 obtain ⟨x', hx'⟩ : ∃ x', (if y < 0 then -x else x) = x' := ⟨_, rfl⟩
 have HX' := hide hx'
 clear hN hD hx'
 obtain ⟨W, hW⟩ : ∃ W, W = (((w.alloc (.cells #[.bool s, .int .u64 (a : Int), .int .u64 (b : Int), .int .u64 (c : Int), .int .u64 (d : Int)] 25)).alloc (.cells #[.bool t, .int .u64 (e : Int), .int .u64 (f : Int), .int .u64 (g : Int), .int .u64 (h : Int)] 25)).alloc (.cells #[.bool false, .int .u64 0, .int .u64 0, .int .u64 0, .int .u64 0, .bool false, .int .u64 0, .int .u64 0, .int .u64 0, .int .u64 0] 27)) := ⟨_, rfl⟩
 have H3 := three_boxes w (.cells #[.bool s, .int .u64 (a : Int), .int .u64 (b : Int), .int .u64 (c : Int), .int .u64 (d : Int)] 25) (.cells #[.bool t, .int .u64 (e : Int), .int .u64 (f : Int), .int .u64 (g : Int), .int .u64 (h : Int)] 25) (.cells #[.bool false, .int .u64 0, .int .u64 0, .int .u64 0, .int .u64 0, .bool false, .int .u64 0, .int .u64 0, .int .u64 0, .int .u64 0] 27)
 rw [← hW] at H3
 have B0 : Box W w.heap.size s a b c d := H3.1
 have B1 : Box W (w.heap.size + 1) t e f g h := H3.2.1
 have B2 : Box10 W (w.heap.size + 1 + 1) false 0 0 0 0 false 0 0 0 0 := H3.2.2
 have EE : Ext w W := by rw [hW]; exact ((ext_alloc _ _).trans (ext_alloc _ _)).trans (ext_alloc _ _)
 have HW := hide hW
 obtain ⟨sg, hsg⟩ : ∃ sg, y.sign = sg := ⟨_, rfl⟩
 have hgx : (!s || decide (x ≠ 0)) = true := by have := hx.2; cases s <;> simp at this ⊢; exact this
 have hgy : (!t || decide (y ≠ 0)) = true := by simp [hy0]
 have k1 : Hid (∀ w', Calls Tryz.prog 57 #[.agg #[.bool s, .int .u64 (a : Int), .int .u64 (b : Int), .int .u64 (c : Int), .int .u64 (d : Int)]] w' (BoolRet true w')) := fun w' => by rw [← hgx]; exact p_valid _ _ _ _ _ _ w' hx.1
 have k2 : Hid (∀ w', Calls Tryz.prog 57 #[.agg #[.bool t, .int .u64 (e : Int), .int .u64 (f : Int), .int .u64 (g : Int), .int .u64 (h : Int)]] w' (BoolRet true w')) := fun w' => by rw [← hgy]; exact p_valid _ _ _ _ _ _ w' hy.1
 have k3 : Hid (∀ w', Calls Tryz.prog 63 #[.agg #[.bool t, .int .u64 (e : Int), .int .u64 (f : Int), .int .u64 (g : Int), .int .u64 (h : Int)]] w' (IntRet .i64 sg w')) := fun w' => by rw [← hsg]; exact p_sign _ _ _ _ _ _ w' hy.1
 have hs0 : ¬ (sg = 0) := by rw [← hsg]; intro e; exact hy0 (Int.sign_eq_zero_iff_zero.1 e)
 have hsn : sg < 0 ↔ y < 0 := by
   rw [← hsg]
   rcases Int.lt_trichotomy y 0 with h1 | h1 | h1
   · rw [Int.sign_eq_neg_one_of_neg h1]; omega
   · exact absurd h1 hy0
   · rw [Int.sign_eq_one_of_pos h1]; omega
 have kn1 : Hid (∀ w', Calls Tryz.prog 58 #[.agg #[.bool s, .int .u64 (a : Int), .int .u64 (b : Int), .int .u64 (c : Int), .int .u64 (d : Int)]] w' (WideOnly (-x) w')) := fun w' => p_neg _ _ _ _ _ _ w' hx.1
 have kn2 : Hid (∀ w', Calls Tryz.prog 58 #[.agg #[.bool t, .int .u64 (e : Int), .int .u64 (f : Int), .int .u64 (g : Int), .int .u64 (h : Int)]] w' (WideOnly (-y) w')) := fun w' => p_neg _ _ _ _ _ _ w' hy.1
 have HO := hide ho
 have HSN := hide hsn
 have KX := hide hx
 have KY := hide hy
 clear hW H3 hsg hx hy hgx hgy ho hsn
 obtain ⟨c0, c1, c2, c3, c4, f0, f1, f2, f3, f4⟩ := five_cells B0
 obtain ⟨d0, d1, d2, d3, d4, g0, g1, g2, g3, g4⟩ := five_cells B1
 go_enter Tryz.func36, Tryz.ntmps36
 go_upto_region 1 with fail
 rw [← HW.out]
 clear HW
 go_upto_if 23 with (first
   | (go_at_call 57; (with_reducible refine (k1.out _).mono ?_); rintro e' w2 ⟨rfl, hE⟩; have B0 := B0.ext hE; have B1 := B1.ext hE; have B2 := B2.ext hE; have EE := EE.trans hE; obtain ⟨c0, c1, c2, c3, c4, f0, f1, f2, f3, f4⟩ := five_cells B0; obtain ⟨d0, d1, d2, d3, d4, g0, g1, g2, g3, g4⟩ := five_cells B1; obtain ⟨i0, i1, i2, i3, i4, i5, i6, i7, i8, i9, j0, j1, j2, j3, j4, j5, j6, j7, j8, j9⟩ := ten_cells B2; clear hE)
   | (go_at_call 57; (with_reducible refine (k2.out _).mono ?_); rintro e' w3 ⟨rfl, hE⟩; have B0 := B0.ext hE; have B1 := B1.ext hE; have B2 := B2.ext hE; have EE := EE.trans hE; obtain ⟨c0, c1, c2, c3, c4, f0, f1, f2, f3, f4⟩ := five_cells B0; obtain ⟨d0, d1, d2, d3, d4, g0, g1, g2, g3, g4⟩ := five_cells B1; obtain ⟨i0, i1, i2, i3, i4, i5, i6, i7, i8, i9, j0, j1, j2, j3, j4, j5, j6, j7, j8, j9⟩ := ten_cells B2; clear hE)
   | (go_at_call 63; (with_reducible refine (k3.out _).mono ?_); rintro e' w4 ⟨rfl, hE⟩; have B0 := B0.ext hE; have B1 := B1.ext hE; have B2 := B2.ext hE; have EE := EE.trans hE; obtain ⟨c0, c1, c2, c3, c4, f0, f1, f2, f3, f4⟩ := five_cells B0; obtain ⟨d0, d1, d2, d3, d4, g0, g1, g2, g3, g4⟩ := five_cells B1; obtain ⟨i0, i1, i2, i3, i4, i5, i6, i7, i8, i9, j0, j1, j2, j3, j4, j5, j6, j7, j8, j9⟩ := ten_cells B2; clear hE))
 obtain ⟨y', hy'⟩ : ∃ y', (if y < 0 then -y else y) = y' := ⟨_, rfl⟩
 have HY' := hide hy'
 clear hy'
 have HY0 := hide hy0
 clear hy0
 go_cut [] (fun wx => Three w x' y' wx)
 case first =>
   by_cases hn : sg < 0
   · have hneg := HSN.out.1 hn
     have hx1 : Hid (x' = -x) := by rw [← HX'.out, if_pos hneg]; exact rfl
     have hy1 : Hid (y' = -y) := by rw [← HY'.out, if_pos hneg]; exact rfl
     clear hneg
     go_wp2_with fail
     go_region_with (first
       | (go_at_call 58; (with_reducible refine (kn1.out _).mono ?_); rintro e' w5 ⟨s5, a5, b5, c5, d5, rfl, hC5, hE⟩; have B0 : Box w5 w.heap.size s a b c d := (by first | exact B0.ext hE | exact B0.drew.ext hE); have B1 : Box w5 (w.heap.size + 1) t e f g h := (by first | exact B1.ext hE | exact B1.drew.ext hE); have B2 : Box10 w5 (w.heap.size + 1 + 1) false 0 0 0 0 false 0 0 0 0 := (by first | exact B2.ext hE | exact B2.drew.ext hE); have EE : Ext w w5 := (by first | exact EE.trans hE | exact (EE.trans (ext_drew _)).trans hE); obtain ⟨c0, c1, c2, c3, c4, f0, f1, f2, f3, f4⟩ := five_cells B0; obtain ⟨d0, d1, d2, d3, d4, g0, g1, g2, g3, g4⟩ := five_cells B1; clear hE)
       | (go_at_call 58; (with_reducible refine (kn2.out _).mono ?_); rintro e' w6 ⟨s6, a6, b6, c6, d6, rfl, hC6, hE⟩; have B0 : Box w6 w.heap.size s a b c d := (by first | exact B0.ext hE | exact B0.drew.ext hE); have B1 : Box w6 (w.heap.size + 1) t e f g h := (by first | exact B1.ext hE | exact B1.drew.ext hE); have B2 : Box10 w6 (w.heap.size + 1 + 1) false 0 0 0 0 false 0 0 0 0 := (by first | exact B2.ext hE | exact B2.drew.ext hE); have EE : Ext w w6 := (by first | exact EE.trans hE | exact (EE.trans (ext_drew _)).trans hE); obtain ⟨c0, c1, c2, c3, c4, f0, f1, f2, f3, f4⟩ := five_cells B0; obtain ⟨d0, d1, d2, d3, d4, g0, g1, g2, g3, g4⟩ := five_cells B1; clear hE))
     all_goals go_wp2_with fail
     all_goals go_meet
     all_goals exact ⟨s5, a5, b5, c5, d5, s6, a6, b6, c6, d6, by rw [hx1.out]; exact hC5, by rw [hy1.out]; exact hC6, (B0.put).far (by omega) _ _ _ _ _, (B1.far (by omega) _ _ _ _ _).put, (B2.far (by omega) _ _ _ _ _).far (by omega) _ _ _ _ _, ext_five (ext_five EE (Nat.le_refl _) _ _ _ _ _) (by omega) _ _ _ _ _⟩
   · have hneg : ¬ y < 0 := fun e => hn (HSN.out.2 e)
     have hx1 : Hid (x' = x) := by rw [← HX'.out, if_neg hneg]; exact rfl
     have hy1 : Hid (y' = y) := by rw [← HY'.out, if_neg hneg]; exact rfl
     clear hneg
     go_wp2_with fail
     all_goals go_meet
     all_goals exact ⟨s, a, b, c, d, t, e, f, g, h, by rw [hx1.out]; exact KX.out, by rw [hy1.out]; exact KY.out, B0, B1, B2, EE⟩
 case rest =>
   clear B0 B1 B2 EE k1 k2 k3 kn1 kn2
   obtain ⟨s, a, b, c, d, t, e, f, g, h, hx, hy, B0, B1, B2, EE⟩ := hcut
   have hyp : 0 < y' := by
     have h1 := HY'.out
     have h2 := HY0.out
     split at h1 <;> omega
   have hgg : Int.gcd x' y' = Int.gcd x y := by
     rw [← HX'.out, ← HY'.out]
     by_cases hn : y < 0
     · rw [if_pos hn, if_pos hn, Int.gcd_neg, Int.neg_gcd]
     · rw [if_neg hn, if_neg hn]
   obtain ⟨G, hG⟩ : ∃ G : Int, (Int.gcd x' y' : Int) = G := ⟨_, rfl⟩
   have hG0 : 0 < G := by rw [← hG]; have := Int.gcd_pos_of_ne_zero_right x' (show y' ≠ 0 by omega); omega
   have hn1 : numR x y = x' / G := by unfold numR; rw [HX'.out, ← hgg, hG]
   have hd1 : denR x y = y' / G := by unfold denR; rw [HY'.out, ← hgg, hG]
   obtain ⟨n, hn⟩ : ∃ n, x' / G = n := ⟨_, rfl⟩
   obtain ⟨m, hm⟩ : ∃ m, y' / G = m := ⟨_, rfl⟩
   rw [hn] at hn1
   rw [hm] at hd1
   have HN1 := hide hn1
   have HD1 := hide hd1
   have HGG := hide hG
   have HNN := hide hn
   have HMM := hide hm
   have hGne : Hid (G ≠ 0) := by unfold Hid; omega
   have HYP := hide hyp
   have KX' := hide hx
   have KY' := hide hy
   clear hn1 hd1 hG hn hm hG0 hgg hx hy hyp
   obtain ⟨c0, c1, c2, c3, c4, f0, f1, f2, f3, f4⟩ := five_cells B0
   obtain ⟨d0, d1, d2, d3, d4, g0, g1, g2, g3, g4⟩ := five_cells B1
   go_upto_region 6 with (go_at_call 64; refine (r_gcd s t a b c d e f g h x' y' _ KX'.out KY'.out HYP.out).mono ?_; rintro e' w5 ⟨s5, a5, b5, c5, d5, rfl, C5, hE⟩; rw [HGG.out] at C5; have B0 := B0.ext hE; have B1 := B1.ext hE; have B2 := B2.ext hE; have EE := EE.trans hE; clear hE)
   have K5 := hide C5
   have B5 : Box (w5.alloc (.cells #[.bool s5, .int .u64 (a5 : Int), .int .u64 (b5 : Int), .int .u64 (c5 : Int), .int .u64 (d5 : Int)] 25)) w5.heap.size s5 a5 b5 c5 d5 := heap_alloc_new w5 _
   have hE := ext_alloc w5 (.cells #[.bool s5, .int .u64 (a5 : Int), .int .u64 (b5 : Int), .int .u64 (c5 : Int), .int .u64 (d5 : Int)] 25)
   have l2 := B2.lt
   have B0 := B0.ext hE
   have B1 := B1.ext hE
   have B2 := B2.ext hE
   have EE := EE.trans hE
   generalize w5.alloc (.cells #[.bool s5, .int .u64 (a5 : Int), .int .u64 (b5 : Int), .int .u64 (c5 : Int), .int .u64 (d5 : Int)] 25) = W5 at *
   generalize w5.heap.size = g5 at *
   clear C5 hE
   obtain ⟨c0, c1, c2, c3, c4, f0, f1, f2, f3, f4⟩ := five_cells B0
   obtain ⟨i0, i1, i2, i3, i4, _⟩ := five_cells B5
   go_upto_region 7 with (go_at_call 65; refine (p_divMod s s5 a b c d a5 b5 c5 d5 x' G _ KX'.out.1 K5.out.1).mono ?_; rintro e' w6 ⟨s6, a6, b6, c6, d6, s7, a7, b7, c7, d7, o7, rfl, ho7, C6, C7, hE⟩; have Ho7 := hide ho7; rw [if_neg hGne.out] at C6; rw [HNN.out] at C6; have K6 := hide C6; clear ho7 C6 C7; have B0 := B0.ext hE; have B1 := B1.ext hE; have B2 := B2.ext hE; have B5 := B5.ext hE; have EE := EE.trans hE; clear hE; obtain ⟨c0, c1, c2, c3, c4, f0, f1, f2, f3, f4⟩ := five_cells B0)
   have B1 := B1.far (b' := w.heap.size) (by omega) (.bool s6) (.int .u64 (a6 : Int)) (.int .u64 (b6 : Int)) (.int .u64 (c6 : Int)) (.int .u64 (d6 : Int))
   have B2 := B2.far (b' := w.heap.size) (by omega) (.bool s6) (.int .u64 (a6 : Int)) (.int .u64 (b6 : Int)) (.int .u64 (c6 : Int)) (.int .u64 (d6 : Int))
   have B5 := B5.far (b' := w.heap.size) (by omega) (.bool s6) (.int .u64 (a6 : Int)) (.int .u64 (b6 : Int)) (.int .u64 (c6 : Int)) (.int .u64 (d6 : Int))
   have B0 := B0.put (t := s6) (a' := a6) (b' := b6) (c' := c6) (d' := d6)
   have EE := ext_five EE (b := w.heap.size) (Nat.le_refl _) (.bool s6) (.int .u64 (a6 : Int)) (.int .u64 (b6 : Int)) (.int .u64 (c6 : Int)) (.int .u64 (d6 : Int))
   generalize ((((w6.setCell ⟨w.heap.size, 0, none⟩ (.bool s6)).setCell ⟨w.heap.size, 1, none⟩ (.int .u64 (a6 : Int))).setCell ⟨w.heap.size, 2, none⟩ (.int .u64 (b6 : Int))).setCell ⟨w.heap.size, 3, none⟩ (.int .u64 (c6 : Int))).setCell ⟨w.heap.size, 4, none⟩ (.int .u64 (d6 : Int)) = W6 at *
   obtain ⟨d0, d1, d2, d3, d4, g0, g1, g2, g3, g4⟩ := five_cells B1
   obtain ⟨i0, i1, i2, i3, i4, _⟩ := five_cells B5
   go_upto_region 8 with (go_at_call 65; refine (p_divMod t s5 e f g h a5 b5 c5 d5 y' G _ KY'.out.1 K5.out.1).mono ?_; rintro e' w7 ⟨s8, a8, b8, c8, d8, s9, a9, b9, c9, d9, o9, rfl, ho9, C8, C9, hE⟩; have Ho9 := hide ho9; rw [if_neg hGne.out] at C8; rw [HMM.out] at C8; have K8 := hide C8; clear ho9 C8 C9; have B0 := B0.ext hE; have B1 := B1.ext hE; have B2 := B2.ext hE; have EE := EE.trans hE; clear hE; obtain ⟨d0, d1, d2, d3, d4, g0, g1, g2, g3, g4⟩ := five_cells B1)
   have B0 := B0.far (b' := w.heap.size + 1) (by omega) (.bool s8) (.int .u64 (a8 : Int)) (.int .u64 (b8 : Int)) (.int .u64 (c8 : Int)) (.int .u64 (d8 : Int))
   have B2 := B2.far (b' := w.heap.size + 1) (by omega) (.bool s8) (.int .u64 (a8 : Int)) (.int .u64 (b8 : Int)) (.int .u64 (c8 : Int)) (.int .u64 (d8 : Int))
   have B1 := B1.put (t := s8) (a' := a8) (b' := b8) (c' := c8) (d' := d8)
   have EE := ext_five EE (b := w.heap.size + 1) (by omega) (.bool s8) (.int .u64 (a8 : Int)) (.int .u64 (b8 : Int)) (.int .u64 (c8 : Int)) (.int .u64 (d8 : Int))
   generalize ((((w7.setCell ⟨w.heap.size + 1, 0, none⟩ (.bool s8)).setCell ⟨w.heap.size + 1, 1, none⟩ (.int .u64 (a8 : Int))).setCell ⟨w.heap.size + 1, 2, none⟩ (.int .u64 (b8 : Int))).setCell ⟨w.heap.size + 1, 3, none⟩ (.int .u64 (c8 : Int))).setCell ⟨w.heap.size + 1, 4, none⟩ (.int .u64 (d8 : Int)) = W8 at *
   obtain ⟨q1, hq1⟩ : ∃ o, decide (n.natAbs < 170141183460469231731687303715884105728) = o := ⟨_, rfl⟩
   obtain ⟨q2, hq2⟩ : ∃ o, decide (m.natAbs < 170141183460469231731687303715884105728) = o := ⟨_, rfl⟩
   have kf1 : Hid (∀ w', Calls Tryz.prog 66 #[.agg #[.bool s6, .int .u64 (a6 : Int), .int .u64 (b6 : Int), .int .u64 (c6 : Int), .int .u64 (d6 : Int)]] w' (BoolRet q1 w')) := fun w' => by rw [← hq1]; exact r_fits _ _ _ _ _ _ w' K6.out
   have kf2 : Hid (∀ w', Calls Tryz.prog 66 #[.agg #[.bool s8, .int .u64 (a8 : Int), .int .u64 (b8 : Int), .int .u64 (c8 : Int), .int .u64 (d8 : Int)]] w' (BoolRet q2 w')) := fun w' => by rw [← hq2]; exact r_fits _ _ _ _ _ _ w' K8.out
   have hoq : o = (q1 && q2) := by
     rw [← HO.out, HN1.out, HD1.out, ← hq1, ← hq2, Bool.decide_and]
   clear HO
   obtain ⟨c0, c1, c2, c3, c4, f0, f1, f2, f3, f4⟩ := five_cells B0
   obtain ⟨d0, d1, d2, d3, d4, g0, g1, g2, g3, g4⟩ := five_cells B1
   obtain ⟨i0, i1, i2, i3, i4, i5, i6, i7, i8, i9, j0, j1, j2, j3, j4, j5, j6, j7, j8, j9⟩ := ten_cells B2
   have hways : (q1 = false ∧ o = false) ∨ (q1 = true ∧ q2 = false ∧ o = false) ∨ (q1 = true ∧ q2 = true ∧ o = true) := by
     rw [hoq]; cases q1 <;> cases q2 <;> simp
   clear hoq hq1 hq2
   rcases hways with ⟨rfl, rfl⟩ | ⟨rfl, rfl, rfl⟩ | ⟨rfl, rfl, rfl⟩
   · have KR : Hid (N = 0 ∧ D = 0) := ⟨HN.out.symm, HD.out.symm⟩
     go_wp2_with (first
       | (go_at_call 66; (with_reducible refine (kf1.out _).mono ?_); rintro e' w8 ⟨rfl, hE⟩; have B0 := B0.ext hE; have B1 := B1.ext hE; have B2 := B2.ext hE; have EE := EE.trans hE; obtain ⟨c0, c1, c2, c3, c4, f0, f1, f2, f3, f4⟩ := five_cells B0; obtain ⟨d0, d1, d2, d3, d4, g0, g1, g2, g3, g4⟩ := five_cells B1; obtain ⟨i0, i1, i2, i3, i4, i5, i6, i7, i8, i9, j0, j1, j2, j3, j4, j5, j6, j7, j8, j9⟩ := ten_cells B2; clear hE))
     all_goals exact bodyPost_ret (v := .tuple #[.agg #[.bool false, .int .u64 0, .int .u64 0, .int .u64 0, .int .u64 0, .bool false, .int .u64 0, .int .u64 0, .int .u64 0, .int .u64 0], .bool false]) (by simp [results, Tryz.results36, go_sem, i0, i1, i2, i3, i4, i5, i6, i7, i8, i9]) rfl (by rw [KR.out.1, KR.out.2]; exact makeRet_no (ext_ten EE (by omega) _ _ _ _ _ _ _ _ _ _))
   · have KR : Hid (N = 0 ∧ D = 0) := ⟨HN.out.symm, HD.out.symm⟩
     go_wp2_with (first
       | (go_at_call 66; (with_reducible refine (kf1.out _).mono ?_); rintro e' w8 ⟨rfl, hE⟩; have B0 := B0.ext hE; have B1 := B1.ext hE; have B2 := B2.ext hE; have EE := EE.trans hE; obtain ⟨c0, c1, c2, c3, c4, f0, f1, f2, f3, f4⟩ := five_cells B0; obtain ⟨d0, d1, d2, d3, d4, g0, g1, g2, g3, g4⟩ := five_cells B1; obtain ⟨i0, i1, i2, i3, i4, i5, i6, i7, i8, i9, j0, j1, j2, j3, j4, j5, j6, j7, j8, j9⟩ := ten_cells B2; clear hE)
       | (go_at_call 66; (with_reducible refine (kf2.out _).mono ?_); rintro e' w9 ⟨rfl, hE⟩; have B0 := B0.ext hE; have B1 := B1.ext hE; have B2 := B2.ext hE; have EE := EE.trans hE; obtain ⟨c0, c1, c2, c3, c4, f0, f1, f2, f3, f4⟩ := five_cells B0; obtain ⟨d0, d1, d2, d3, d4, g0, g1, g2, g3, g4⟩ := five_cells B1; obtain ⟨i0, i1, i2, i3, i4, i5, i6, i7, i8, i9, j0, j1, j2, j3, j4, j5, j6, j7, j8, j9⟩ := ten_cells B2; clear hE))
     all_goals exact bodyPost_ret (v := .tuple #[.agg #[.bool false, .int .u64 0, .int .u64 0, .int .u64 0, .int .u64 0, .bool false, .int .u64 0, .int .u64 0, .int .u64 0, .int .u64 0], .bool false]) (by simp [results, Tryz.results36, go_sem, i0, i1, i2, i3, i4, i5, i6, i7, i8, i9]) rfl (by rw [KR.out.1, KR.out.2]; exact makeRet_no (ext_ten EE (by omega) _ _ _ _ _ _ _ _ _ _))
   · have KR : Hid (IsC s6 a6 b6 c6 d6 N ∧ IsC s8 a8 b8 c8 d8 D) := by
       have h1 := HN.out
       have h2 := HD.out
       rw [if_pos rfl] at h1 h2
       rw [← h1, ← h2, HN1.out, HD1.out]
       exact ⟨K6.out, K8.out⟩
     go_wp2_with (first
       | (go_at_call 66; (with_reducible refine (kf1.out _).mono ?_); rintro e' w8 ⟨rfl, hE⟩; have B0 := B0.ext hE; have B1 := B1.ext hE; have B2 := B2.ext hE; have EE := EE.trans hE; obtain ⟨c0, c1, c2, c3, c4, f0, f1, f2, f3, f4⟩ := five_cells B0; obtain ⟨d0, d1, d2, d3, d4, g0, g1, g2, g3, g4⟩ := five_cells B1; obtain ⟨i0, i1, i2, i3, i4, i5, i6, i7, i8, i9, j0, j1, j2, j3, j4, j5, j6, j7, j8, j9⟩ := ten_cells B2; clear hE)
       | (go_at_call 66; (with_reducible refine (kf2.out _).mono ?_); rintro e' w9 ⟨rfl, hE⟩; have B0 := B0.ext hE; have B1 := B1.ext hE; have B2 := B2.ext hE; have EE := EE.trans hE; obtain ⟨c0, c1, c2, c3, c4, f0, f1, f2, f3, f4⟩ := five_cells B0; obtain ⟨d0, d1, d2, d3, d4, g0, g1, g2, g3, g4⟩ := five_cells B1; obtain ⟨i0, i1, i2, i3, i4, i5, i6, i7, i8, i9, j0, j1, j2, j3, j4, j5, j6, j7, j8, j9⟩ := ten_cells B2; clear hE))
     all_goals exact bodyPost_ret (v := .tuple #[.agg #[.bool s6, .int .u64 (a6 : Int), .int .u64 (b6 : Int), .int .u64 (c6 : Int), .int .u64 (d6 : Int), .bool s8, .int .u64 (a8 : Int), .int .u64 (b8 : Int), .int .u64 (c8 : Int), .int .u64 (d8 : Int)], .bool true]) (by simp [results, Tryz.results36, go_sem, i0, i1, i2, i3, i4, i5, i6, i7, i8, i9]) rfl ⟨s6, a6, b6, c6, d6, s8, a8, b8, c8, d8, rfl, KR.out.1, KR.out.2, ext_ten EE (by omega) _ _ _ _ _ _ _ _ _ _⟩
end
section
open Go Go.RowKit
instance (s : Bool) (z : Int) : Decidable (Good s z) := by unfold Good; infer_instance
def RatOk (s : Bool) (x : Int) (t : Bool) (y : Int) : Prop := Good s x ∧ Good t y ∧ Frac x y
instance (s : Bool) (x : Int) (t : Bool) (y : Int) : Decidable (RatOk s x t y) := by unfold RatOk; infer_instance
set_option maxRecDepth 100000 in
set_option maxHeartbeats 8000000 in
theorem r_valid (s t : Bool) (a b c d e f g h : Nat) (x y : Int) (w : World) (hx : IsW s a b c d x) (hy : IsW t e f g h y) (v : Bool) (hv : decide (RatOk s x t y) = v) :
   Calls Tryz.prog 42 #[.agg #[.bool s, .int .u64 (a : Int), .int .u64 (b : Int), .int .u64 (c : Int), .int .u64 (d : Int), .bool t, .int .u64 (e : Int), .int .u64 (f : Int), .int .u64 (g : Int), .int .u64 (h : Int)]] w (BoolRet v w) := by
 have HX := hide (ext_alloc w (.cells #[.bool s, .int .u64 (a : Int), .int .u64 (b : Int), .int .u64 (c : Int), .int .u64 (d : Int), .bool t, .int .u64 (e : Int), .int .u64 (f : Int), .int .u64 (g : Int), .int .u64 (h : Int)] 27))
 have H0 : Box10 (w.alloc (.cells #[.bool s, .int .u64 (a : Int), .int .u64 (b : Int), .int .u64 (c : Int), .int .u64 (d : Int), .bool t, .int .u64 (e : Int), .int .u64 (f : Int), .int .u64 (g : Int), .int .u64 (h : Int)] 27)) w.heap.size s a b c d t e f g h := heap_alloc_new w _
 obtain ⟨W, hW⟩ : ∃ W, W = w.alloc (.cells #[.bool s, .int .u64 (a : Int), .int .u64 (b : Int), .int .u64 (c : Int), .int .u64 (d : Int), .bool t, .int .u64 (e : Int), .int .u64 (f : Int), .int .u64 (g : Int), .int .u64 (h : Int)] 27) := ⟨_, rfl⟩
 rw [← hW] at HX H0
 have HW := hide hW
 clear hW
 obtain ⟨c0, c1, c2, c3, c4, c5, c6, c7, c8, c9, _⟩ := ten_cells H0
 by_cases hg : Good s x ∧ Good t y ∧ y ≠ 0
 · have kx : IsC s a b c d x := ⟨hx, hg.1⟩
   have ky : IsC t e f g h y := ⟨hy, hg.2.1⟩
   obtain ⟨o, ho⟩ : ∃ o, decide ((numR x y).natAbs < 170141183460469231731687303715884105728 ∧ (denR x y).natAbs < 170141183460469231731687303715884105728) = o := ⟨_, rfl⟩
   cases o
   · have km : Hid (∀ w', Calls Tryz.prog 36 #[.agg #[.bool s, .int .u64 (a : Int), .int .u64 (b : Int), .int .u64 (c : Int), .int .u64 (d : Int)], .agg #[.bool t, .int .u64 (e : Int), .int .u64 (f : Int), .int .u64 (g : Int), .int .u64 (h : Int)]] w' (MakeRet false 0 0 w')) := fun w' => by have := r_make_yes s t a b c d e f g h x y w' kx ky hg.2.2 false ho; simpa using this
     have hv0 : v = false := by
       rw [← hv, decide_eq_false_iff_not]
       intro h1
       have h2 := frac_makes h1.2.2
       exact (of_decide_eq_false ho) ⟨h2.2.1, h2.2.2⟩
     subst hv0
     clear hv ho hg kx ky hx hy
     go_enter Tryz.func42, Tryz.ntmps42
     go_upto_region 1 with fail
     rw [← HW.out]
     clear HW
     go_wp2_with (go_at_call 36; (with_reducible refine (km.out _).mono ?_); rintro e' w2 ⟨s1, a1, b1, c1, d1, t1, e1, f1, g1, h1, rfl, _, _, hE⟩; have EE := hide ((HX.out.trans hE).trans (ext_alloc w2 (.cells #[.bool s1, .int .u64 (a1 : Int), .int .u64 (b1 : Int), .int .u64 (c1 : Int), .int .u64 (d1 : Int), .bool t1, .int .u64 (e1 : Int), .int .u64 (f1 : Int), .int .u64 (g1 : Int), .int .u64 (h1 : Int)] 27))); clear hE)
     all_goals go_ret
     all_goals exact ⟨rfl, EE.out⟩
   · have km : Hid (∀ w', Calls Tryz.prog 36 #[.agg #[.bool s, .int .u64 (a : Int), .int .u64 (b : Int), .int .u64 (c : Int), .int .u64 (d : Int)], .agg #[.bool t, .int .u64 (e : Int), .int .u64 (f : Int), .int .u64 (g : Int), .int .u64 (h : Int)]] w' (MakeRet true (numR x y) (denR x y) w')) := fun w' => by have := r_make_yes s t a b c d e f g h x y w' kx ky hg.2.2 true ho; simpa using this
     have hmk : Makes x y := ⟨hg.2.2, of_decide_eq_true ho⟩
     have hvv : v = (decide (numR x y = x) && decide (denR x y = y)) := by
       rw [← hv, ← Bool.decide_and, decide_eq_decide]
       constructor
       · intro h1; exact frac_red h1.2.2
       · rintro ⟨h1, h2⟩
         have h3 := makes_frac hmk
         rw [h1, h2] at h3
         exact ⟨hg.1, hg.2.1, h3⟩
     have KX := hide kx
     have KY := hide ky
     have HVV := hide hvv
     clear hv ho hg kx ky hx hy hmk hvv
     go_enter Tryz.func42, Tryz.ntmps42
     go_upto_region 1 with fail
     rw [← HW.out]
     clear HW
     go_upto_region 2 with (go_at_call 36; (with_reducible refine (km.out _).mono ?_); rintro e' w2 ⟨s1, a1, b1, c1, d1, t1, e1, f1, g1, h1, rfl, C1, D1, hE⟩; have EE := hide (HX.out.trans hE); have H0 := H0.ext hE; clear hE)
     have P1 : Box10 (w2.alloc (.cells #[.bool s1, .int .u64 (a1 : Int), .int .u64 (b1 : Int), .int .u64 (c1 : Int), .int .u64 (d1 : Int), .bool t1, .int .u64 (e1 : Int), .int .u64 (f1 : Int), .int .u64 (g1 : Int), .int .u64 (h1 : Int)] 27)) w2.heap.size s1 a1 b1 c1 d1 t1 e1 f1 g1 h1 := heap_alloc_new w2 _
     have hE := ext_alloc w2 (.cells #[.bool s1, .int .u64 (a1 : Int), .int .u64 (b1 : Int), .int .u64 (c1 : Int), .int .u64 (d1 : Int), .bool t1, .int .u64 (e1 : Int), .int .u64 (f1 : Int), .int .u64 (g1 : Int), .int .u64 (h1 : Int)] 27)
     have H0 := H0.ext hE
     have EE := hide (EE.out.trans hE)
     have hq := eq10 s1 s a1 b1 c1 d1 a b c d t1 t e1 f1 g1 h1 e f g h
     rw [same_isC C1 KX.out, same_isC D1 KY.out, ← HVV.out] at hq
     obtain ⟨c0, c1', c2, c3, c4, c5, c6, c7, c8, c9, _⟩ := ten_cells H0
     obtain ⟨p0, p1, p2, p3, p4, p5, p6, p7, p8, p9, _⟩ := ten_cells P1
     clear C1 D1 hE
     go_wp2_with fail
     all_goals go_ret
     all_goals exact ⟨rfl, EE.out⟩
 · have km : Hid (∀ w', Calls Tryz.prog 36 #[.agg #[.bool s, .int .u64 (a : Int), .int .u64 (b : Int), .int .u64 (c : Int), .int .u64 (d : Int)], .agg #[.bool t, .int .u64 (e : Int), .int .u64 (f : Int), .int .u64 (g : Int), .int .u64 (h : Int)]] w' (MakeRet false 0 0 w')) := fun w' => r_make_no s t a b c d e f g h x y w' hx hy hg
   have hv0 : v = false := by
     rw [← hv, decide_eq_false_iff_not]
     intro h1
     exact hg ⟨h1.1, h1.2.1, by have := h1.2.2.1; omega⟩
   subst hv0
   clear hv hg hx hy
   go_enter Tryz.func42, Tryz.ntmps42
   go_upto_region 1 with fail
   rw [← HW.out]
   clear HW
   go_wp2_with (go_at_call 36; (with_reducible refine (km.out _).mono ?_); rintro e' w2 ⟨s1, a1, b1, c1, d1, t1, e1, f1, g1, h1, rfl, _, _, hE⟩; have EE := hide ((HX.out.trans hE).trans (ext_alloc w2 (.cells #[.bool s1, .int .u64 (a1 : Int), .int .u64 (b1 : Int), .int .u64 (c1 : Int), .int .u64 (d1 : Int), .bool t1, .int .u64 (e1 : Int), .int .u64 (f1 : Int), .int .u64 (g1 : Int), .int .u64 (h1 : Int)] 27))); clear hE)
   all_goals go_ret
   all_goals exact ⟨rfl, EE.out⟩
open Go Go.RowKit
def RatRet (n m : Int) (w : World) (e : Ending) (w' : World) : Prop := ∃ (s : Bool) (a b c d : Nat) (t : Bool) (e' f g h : Nat), e = .returned (.agg #[.bool s, .int .u64 (a : Int), .int .u64 (b : Int), .int .u64 (c : Int), .int .u64 (d : Int), .bool t, .int .u64 (e' : Int), .int .u64 (f : Int), .int .u64 (g : Int), .int .u64 (h : Int)]) ∧ IsC s a b c d n ∧ IsC t e' f g h m ∧ Ext w w'
set_option maxRecDepth 100000 in
set_option maxHeartbeats 4000000 in
theorem r_of (v : Int) (w : World) (v1 : -9223372036854775808 ≤ v) (v2 : v ≤ 9223372036854775807) : Calls Tryz.prog 39 #[.int .i64 v] w (RatRet v 1 w) := by
 have P0 : Box10 (w.alloc (.cells #[.bool false, .int .u64 0, .int .u64 0, .int .u64 0, .int .u64 0, .bool false, .int .u64 0, .int .u64 0, .int .u64 0, .int .u64 0] 27)) w.heap.size false 0 0 0 0 false 0 0 0 0 := heap_alloc_new w _
 have EE := ext_alloc w (.cells #[.bool false, .int .u64 0, .int .u64 0, .int .u64 0, .int .u64 0, .bool false, .int .u64 0, .int .u64 0, .int .u64 0, .int .u64 0] 27)
 obtain ⟨W, hW⟩ : ∃ W, W = w.alloc (.cells #[.bool false, .int .u64 0, .int .u64 0, .int .u64 0, .int .u64 0, .bool false, .int .u64 0, .int .u64 0, .int .u64 0, .int .u64 0] 27) := ⟨_, rfl⟩
 rw [← hW] at P0 EE
 have HW := hide hW
 clear hW
 have k1 : Hid (∀ w', Calls Tryz.prog 34 #[.int .i64 v] w' (WideOnly v w')) := fun w' => p_ofi v w' v1 v2
 have k2 : Hid (∀ w', Calls Tryz.prog 34 #[.int .i64 1] w' (WideOnly 1 w')) := fun w' => p_ofi 1 w' (by omega) (by omega)
 clear v1 v2
 go_enter Tryz.func39, Tryz.ntmps39
 go_upto_region 1 with fail
 rw [← HW.out]
 clear HW
 go_wp2_with (first
   | (go_at_call 34; (with_reducible refine (k1.out _).mono ?_); rintro e' w2 ⟨s1, a1, b1, c1, d1, rfl, C1, hE⟩; have K1 := hide C1; have P0 := P0.ext hE; have EE := EE.trans hE; obtain ⟨i0, i1, i2, i3, i4, i5, i6, i7, i8, i9, j0, j1, j2, j3, j4, j5, j6, j7, j8, j9⟩ := ten_cells P0; clear hE C1)
   | (go_at_call 34; (with_reducible refine (k2.out _).mono ?_); rintro e' w3 ⟨s2, a2, b2, c2, d2, rfl, C2, hE⟩; have K2 := hide C2; have P0 := P0.ext hE; have EE := EE.trans hE; obtain ⟨i0, i1, i2, i3, i4, i5, i6, i7, i8, i9, j0, j1, j2, j3, j4, j5, j6, j7, j8, j9⟩ := ten_cells P0; clear hE C2))
 all_goals exact bodyPost_ret (v := .agg #[.bool s1, .int .u64 (a1 : Int), .int .u64 (b1 : Int), .int .u64 (c1 : Int), .int .u64 (d1 : Int), .bool s2, .int .u64 (a2 : Int), .int .u64 (b2 : Int), .int .u64 (c2 : Int), .int .u64 (d2 : Int)]) (by simp [results, Tryz.results39, go_sem, i0, i1, i2, i3, i4, i5, i6, i7, i8, i9]) rfl ⟨s1, a1, b1, c1, d1, s2, a2, b2, c2, d2, rfl, K1.out, K2.out, ext_ten EE (Nat.le_refl _) _ _ _ _ _ _ _ _ _ _⟩
def cN (v : Bool) (x : Int) : Int := if v then x else 0
def cD (v : Bool) (y : Int) : Int := if v then y else 1
set_option maxRecDepth 100000 in
set_option maxHeartbeats 4000000 in
theorem r_counted (s t : Bool) (a b c d e f g h : Nat) (x y : Int) (w : World) (hx : IsW s a b c d x) (hy : IsW t e f g h y) (v : Bool) (hv : decide (RatOk s x t y) = v) :
   Calls Tryz.prog 67 #[.agg #[.bool s, .int .u64 (a : Int), .int .u64 (b : Int), .int .u64 (c : Int), .int .u64 (d : Int), .bool t, .int .u64 (e : Int), .int .u64 (f : Int), .int .u64 (g : Int), .int .u64 (h : Int)]] w (RatRet (cN v x) (cD v y) w) := by
 have H2 := two_blocks w (.cells #[.bool s, .int .u64 (a : Int), .int .u64 (b : Int), .int .u64 (c : Int), .int .u64 (d : Int), .bool t, .int .u64 (e : Int), .int .u64 (f : Int), .int .u64 (g : Int), .int .u64 (h : Int)] 27) (.cells #[.bool false, .int .u64 0, .int .u64 0, .int .u64 0, .int .u64 0, .bool false, .int .u64 0, .int .u64 0, .int .u64 0, .int .u64 0] 27)
 have EE := hide ((ext_alloc w (.cells #[.bool s, .int .u64 (a : Int), .int .u64 (b : Int), .int .u64 (c : Int), .int .u64 (d : Int), .bool t, .int .u64 (e : Int), .int .u64 (f : Int), .int .u64 (g : Int), .int .u64 (h : Int)] 27)).trans (ext_alloc _ (.cells #[.bool false, .int .u64 0, .int .u64 0, .int .u64 0, .int .u64 0, .bool false, .int .u64 0, .int .u64 0, .int .u64 0, .int .u64 0] 27)))
 obtain ⟨W, hW⟩ : ∃ W, W = (w.alloc (.cells #[.bool s, .int .u64 (a : Int), .int .u64 (b : Int), .int .u64 (c : Int), .int .u64 (d : Int), .bool t, .int .u64 (e : Int), .int .u64 (f : Int), .int .u64 (g : Int), .int .u64 (h : Int)] 27)).alloc (.cells #[.bool false, .int .u64 0, .int .u64 0, .int .u64 0, .int .u64 0, .bool false, .int .u64 0, .int .u64 0, .int .u64 0, .int .u64 0] 27) := ⟨_, rfl⟩
 rw [← hW] at H2 EE
 have P0 : Box10 W w.heap.size s a b c d t e f g h := H2.1
 have P1 : Box10 W (w.heap.size + 1) false 0 0 0 0 false 0 0 0 0 := H2.2
 have HW := hide hW
 have kv : Hid (∀ w', Calls Tryz.prog 42 #[.agg #[.bool s, .int .u64 (a : Int), .int .u64 (b : Int), .int .u64 (c : Int), .int .u64 (d : Int), .bool t, .int .u64 (e : Int), .int .u64 (f : Int), .int .u64 (g : Int), .int .u64 (h : Int)]] w' (BoolRet v w')) := fun w' => r_valid s t a b c d e f g h x y w' hx hy v hv
 have KK : Hid (v = true → IsC s a b c d x ∧ IsC t e f g h y) := by
   intro h1
   rw [h1] at hv
   have h2 := of_decide_eq_true hv
   exact ⟨⟨hx, h2.1⟩, ⟨hy, h2.2.1⟩⟩
 clear hW H2 hv hx hy
 obtain ⟨c0, c1, c2, c3, c4, c5, c6, c7, c8, c9, _⟩ := ten_cells P0
 go_enter Tryz.func67, Tryz.ntmps67
 go_upto_region 1 with fail
 rw [← HW.out]
 clear HW
 cases v
 · go_wp2_with (first
     | (go_at_call 42; (with_reducible refine (kv.out _).mono ?_); rintro e' w2 ⟨rfl, hE⟩; have P1 := P1.ext hE; have EE := hide (EE.out.trans hE); clear hE)
     | (go_at_call 39; refine (r_of 0 _ (by omega) (by omega)).mono ?_; rintro e' w3 ⟨s1, a1, b1, c1, d1, t1, e1, f1, g1, h1, rfl, C1, D1, hE⟩; have K1 := hide C1; have K2 := hide D1; have P1 := P1.ext hE; have EE := hide (EE.out.trans hE); obtain ⟨i0, i1, i2, i3, i4, i5, i6, i7, i8, i9, j0, j1, j2, j3, j4, j5, j6, j7, j8, j9⟩ := ten_cells P1; clear hE C1 D1))
   all_goals exact bodyPost_ret (v := .agg #[.bool s1, .int .u64 (a1 : Int), .int .u64 (b1 : Int), .int .u64 (c1 : Int), .int .u64 (d1 : Int), .bool t1, .int .u64 (e1 : Int), .int .u64 (f1 : Int), .int .u64 (g1 : Int), .int .u64 (h1 : Int)]) (by simp [results, Tryz.results67, go_sem, i0, i1, i2, i3, i4, i5, i6, i7, i8, i9]) rfl ⟨s1, a1, b1, c1, d1, t1, e1, f1, g1, h1, rfl, K1.out, K2.out, ext_ten EE.out (by omega) _ _ _ _ _ _ _ _ _ _⟩
 · obtain ⟨K1, K2⟩ := KK.out rfl
   have K1 := hide K1
   have K2 := hide K2
   go_wp2_with (go_at_call 42; (with_reducible refine (kv.out _).mono ?_); rintro e' w2 ⟨rfl, hE⟩; have P0 := P0.ext hE; have P1 := P1.ext hE; have EE := hide (EE.out.trans hE); obtain ⟨c0, c1, c2, c3, c4, c5, c6, c7, c8, c9, _⟩ := ten_cells P0; obtain ⟨i0, i1, i2, i3, i4, i5, i6, i7, i8, i9, j0, j1, j2, j3, j4, j5, j6, j7, j8, j9⟩ := ten_cells P1; clear hE)
   all_goals exact bodyPost_ret (v := .agg #[.bool s, .int .u64 (a : Int), .int .u64 (b : Int), .int .u64 (c : Int), .int .u64 (d : Int), .bool t, .int .u64 (e : Int), .int .u64 (f : Int), .int .u64 (g : Int), .int .u64 (h : Int)]) (by simp [results, Tryz.results67, go_sem, i0, i1, i2, i3, i4, i5, i6, i7, i8, i9]) rfl ⟨s, a, b, c, d, t, e, f, g, h, rfl, K1.out, K2.out, ext_ten EE.out (by omega) _ _ _ _ _ _ _ _ _ _⟩
end
section
open Go Go.RowKit
theorem Box10.far10 {w : World} {k : Nat} {s : Bool} {a b c d : Nat} {t : Bool} {e f g h : Nat} {b' : Nat} (x : Box10 w k s a b c d t e f g h) (hn : k ≠ b') (u0 u1 u2 u3 u4 u5 u6 u7 u8 u9 : Value) : Box10 ((((((((((w.setCell ⟨b', 0, none⟩ u0).setCell ⟨b', 1, none⟩ u1).setCell ⟨b', 2, none⟩ u2).setCell ⟨b', 3, none⟩ u3).setCell ⟨b', 4, none⟩ u4).setCell ⟨b', 5, none⟩ u5).setCell ⟨b', 6, none⟩ u6).setCell ⟨b', 7, none⟩ u7).setCell ⟨b', 8, none⟩ u8).setCell ⟨b', 9, none⟩ u9) k s a b c d t e f g h := by
 unfold Box10 at *
 rw [heap_setCell_other _ _ _ _ (by simpa using hn), heap_setCell_other _ _ _ _ (by simpa using hn), heap_setCell_other _ _ _ _ (by simpa using hn), heap_setCell_other _ _ _ _ (by simpa using hn), heap_setCell_other _ _ _ _ (by simpa using hn), heap_setCell_other _ _ _ _ (by simpa using hn), heap_setCell_other _ _ _ _ (by simpa using hn), heap_setCell_other _ _ _ _ (by simpa using hn), heap_setCell_other _ _ _ _ (by simpa using hn), heap_setCell_other _ _ _ _ (by simpa using hn)]
 exact x
theorem set10 (v0 v1 v2 v3 v4 v5 v6 v7 v8 v9 u0 u1 u2 u3 u4 u5 u6 u7 u8 u9 : Value) : ((((((((((#[v0, v1, v2, v3, v4, v5, v6, v7, v8, v9] : Array Value).setIfInBounds 0 u0).setIfInBounds 1 u1).setIfInBounds 2 u2).setIfInBounds 3 u3).setIfInBounds 4 u4).setIfInBounds 5 u5).setIfInBounds 6 u6).setIfInBounds 7 u7).setIfInBounds 8 u8).setIfInBounds 9 u9 = #[u0, u1, u2, u3, u4, u5, u6, u7, u8, u9] := by
 apply Array.ext'
 simp only [Array.toList_setIfInBounds, List.set_cons_zero, List.set_cons_succ]
theorem Box10.put {w : World} {k : Nat} {s : Bool} {a b c d : Nat} {t : Bool} {e f g h : Nat} {s' : Bool} {a' b' c' d' : Nat} {t' : Bool} {e' f' g' h' : Nat} (x : Box10 w k s a b c d t e f g h) : Box10 ((((((((((w.setCell ⟨k, 0, none⟩ (.bool s')).setCell ⟨k, 1, none⟩ (.int .u64 (a' : Int))).setCell ⟨k, 2, none⟩ (.int .u64 (b' : Int))).setCell ⟨k, 3, none⟩ (.int .u64 (c' : Int))).setCell ⟨k, 4, none⟩ (.int .u64 (d' : Int))).setCell ⟨k, 5, none⟩ (.bool t')).setCell ⟨k, 6, none⟩ (.int .u64 (e' : Int))).setCell ⟨k, 7, none⟩ (.int .u64 (f' : Int))).setCell ⟨k, 8, none⟩ (.int .u64 (g' : Int))).setCell ⟨k, 9, none⟩ (.int .u64 (h' : Int))) k s' a' b' c' d' t' e' f' g' h' := by
 have y := store_block (store_block (store_block (store_block (store_block (store_block (store_block (store_block (store_block (store_block x 0 (.bool s')) 1 (.int .u64 (a' : Int))) 2 (.int .u64 (b' : Int))) 3 (.int .u64 (c' : Int))) 4 (.int .u64 (d' : Int))) 5 (.bool t')) 6 (.int .u64 (e' : Int))) 7 (.int .u64 (f' : Int))) 8 (.int .u64 (g' : Int))) 9 (.int .u64 (h' : Int))
 rw [set10] at y
 exact y
theorem cBound {s : Bool} {x : Int} {t : Bool} {y : Int} {v : Bool} (hv : decide (RatOk s x t y) = v) : (cN v x).natAbs < 170141183460469231731687303715884105728 ∧ (cD v y).natAbs < 170141183460469231731687303715884105728 ∧ 0 < cD v y ∧ Frac (cN v x) (cD v y) := by
 cases v
 · simp [cN, cD, Frac]
 · have h := (of_decide_eq_true hv).2.2
   exact ⟨h.2.1, h.2.2.1, h.1, h⟩
theorem mul_bound {n m : Int} (hn : n.natAbs < 170141183460469231731687303715884105728) (hm : m.natAbs < 170141183460469231731687303715884105728) : (n * m).natAbs < 115792089237316195423570985008687907853269984665640564039457584007913129639936 := by
 rw [Int.natAbs_mul]
 have h1 : n.natAbs * m.natAbs ≤ 170141183460469231731687303715884105728 * m.natAbs := Nat.mul_le_mul_right _ (by omega)
 omega
def PairR (w : World) (n1 m1 n2 m2 : Int) (wx : World) : Prop := ∃ (s : Bool) (a b c d : Nat) (t : Bool) (e f g h : Nat) (s' : Bool) (a' b' c' d' : Nat) (t' : Bool) (e' f' g' h' : Nat), IsC s a b c d n1 ∧ IsC t e f g h m1 ∧ IsC s' a' b' c' d' n2 ∧ IsC t' e' f' g' h' m2 ∧ Box10 wx w.heap.size s a b c d t e f g h ∧ Box10 wx (w.heap.size + 1) s' a' b' c' d' t' e' f' g' h' ∧ Ext w wx
def WideYes' (z : Int) (w : World) (e : Ending) (w' : World) : Prop := ∃ (s : Bool) (a b c d : Nat), e = .returned (.tuple #[.agg #[.bool s, .int .u64 (a : Int), .int .u64 (b : Int), .int .u64 (c : Int), .int .u64 (d : Int)], .bool true]) ∧ IsC s a b c d z ∧ Ext w w'
theorem wide_ret {z : Int} {w : World} {e : Ending} {w' : World} (h : WideRet z w e w') (hz : z.natAbs < 115792089237316195423570985008687907853269984665640564039457584007913129639936) : WideYes' z w e w' := by
 obtain ⟨s, a, b, c, d, o, rfl, ho, hC, hE⟩ := h
 rw [if_pos hz] at hC
 have : o = true := by rw [ho, decide_eq_true_iff]; exact hz
 subst this
 exact ⟨s, a, b, c, d, rfl, hC, hE⟩
set_option maxRecDepth 100000 in
set_option maxHeartbeats 16000000 in
theorem r_compare (s1 : Bool) (a1 b1 c1 d1 : Nat) (t1 : Bool) (e1 f1 g1 h1 : Nat) (s2 : Bool) (a2 b2 c2 d2 : Nat) (t2 : Bool) (e2 f2 g2 h2 : Nat) (x1 y1 x2 y2 : Int) (w : World) (hx1 : IsW s1 a1 b1 c1 d1 x1) (hy1 : IsW t1 e1 f1 g1 h1 y1) (hx2 : IsW s2 a2 b2 c2 d2 x2) (hy2 : IsW t2 e2 f2 g2 h2 y2) (v1 v2 : Bool) (hv1 : decide (RatOk s1 x1 t1 y1) = v1) (hv2 : decide (RatOk s2 x2 t2 y2) = v2) :
   Calls Tryz.prog 38 #[.agg #[.bool s1, .int .u64 (a1 : Int), .int .u64 (b1 : Int), .int .u64 (c1 : Int), .int .u64 (d1 : Int), .bool t1, .int .u64 (e1 : Int), .int .u64 (f1 : Int), .int .u64 (g1 : Int), .int .u64 (h1 : Int)], .agg #[.bool s2, .int .u64 (a2 : Int), .int .u64 (b2 : Int), .int .u64 (c2 : Int), .int .u64 (d2 : Int), .bool t2, .int .u64 (e2 : Int), .int .u64 (f2 : Int), .int .u64 (g2 : Int), .int .u64 (h2 : Int)]] w (IntRet .i64 (cmpI (cN v1 x1 * cD v2 y2) (cN v2 x2 * cD v1 y1)) w) := by
 have H2 := two_blocks w (.cells #[.bool s1, .int .u64 (a1 : Int), .int .u64 (b1 : Int), .int .u64 (c1 : Int), .int .u64 (d1 : Int), .bool t1, .int .u64 (e1 : Int), .int .u64 (f1 : Int), .int .u64 (g1 : Int), .int .u64 (h1 : Int)] 27) (.cells #[.bool s2, .int .u64 (a2 : Int), .int .u64 (b2 : Int), .int .u64 (c2 : Int), .int .u64 (d2 : Int), .bool t2, .int .u64 (e2 : Int), .int .u64 (f2 : Int), .int .u64 (g2 : Int), .int .u64 (h2 : Int)] 27)
 have EE := (ext_alloc w (.cells #[.bool s1, .int .u64 (a1 : Int), .int .u64 (b1 : Int), .int .u64 (c1 : Int), .int .u64 (d1 : Int), .bool t1, .int .u64 (e1 : Int), .int .u64 (f1 : Int), .int .u64 (g1 : Int), .int .u64 (h1 : Int)] 27)).trans (ext_alloc _ (.cells #[.bool s2, .int .u64 (a2 : Int), .int .u64 (b2 : Int), .int .u64 (c2 : Int), .int .u64 (d2 : Int), .bool t2, .int .u64 (e2 : Int), .int .u64 (f2 : Int), .int .u64 (g2 : Int), .int .u64 (h2 : Int)] 27))
 obtain ⟨W, hW⟩ : ∃ W, W = (w.alloc (.cells #[.bool s1, .int .u64 (a1 : Int), .int .u64 (b1 : Int), .int .u64 (c1 : Int), .int .u64 (d1 : Int), .bool t1, .int .u64 (e1 : Int), .int .u64 (f1 : Int), .int .u64 (g1 : Int), .int .u64 (h1 : Int)] 27)).alloc (.cells #[.bool s2, .int .u64 (a2 : Int), .int .u64 (b2 : Int), .int .u64 (c2 : Int), .int .u64 (d2 : Int), .bool t2, .int .u64 (e2 : Int), .int .u64 (f2 : Int), .int .u64 (g2 : Int), .int .u64 (h2 : Int)] 27) := ⟨_, rfl⟩
 rw [← hW] at H2 EE
 have P1 : Box10 W w.heap.size s1 a1 b1 c1 d1 t1 e1 f1 g1 h1 := H2.1
 have P2 : Box10 W (w.heap.size + 1) s2 a2 b2 c2 d2 t2 e2 f2 g2 h2 := H2.2
 have HW := hide hW
 clear hW H2
 have k1 : Hid (∀ w', Calls Tryz.prog 67 #[.agg #[.bool s1, .int .u64 (a1 : Int), .int .u64 (b1 : Int), .int .u64 (c1 : Int), .int .u64 (d1 : Int), .bool t1, .int .u64 (e1 : Int), .int .u64 (f1 : Int), .int .u64 (g1 : Int), .int .u64 (h1 : Int)]] w' (RatRet (cN v1 x1) (cD v1 y1) w')) := fun w' => r_counted _ _ _ _ _ _ _ _ _ _ x1 y1 w' hx1 hy1 v1 hv1
 have k2 : Hid (∀ w', Calls Tryz.prog 67 #[.agg #[.bool s2, .int .u64 (a2 : Int), .int .u64 (b2 : Int), .int .u64 (c2 : Int), .int .u64 (d2 : Int), .bool t2, .int .u64 (e2 : Int), .int .u64 (f2 : Int), .int .u64 (g2 : Int), .int .u64 (h2 : Int)]] w' (RatRet (cN v2 x2) (cD v2 y2) w')) := fun w' => r_counted _ _ _ _ _ _ _ _ _ _ x2 y2 w' hx2 hy2 v2 hv2
 obtain ⟨bn1, bd1, pd1, _⟩ := cBound hv1
 obtain ⟨bn2, bd2, pd2, _⟩ := cBound hv2
 obtain ⟨r, hr⟩ : ∃ r, cmpI (cN v1 x1 * cD v2 y2) (cN v2 x2 * cD v1 y1) = r := ⟨_, rfl⟩
 rw [hr]
 obtain ⟨q, hq⟩ : ∃ q, (same5 s1 s2 a1 b1 c1 d1 a2 b2 c2 d2 && same5 t1 t2 e1 f1 g1 h1 e2 f2 g2 h2) = q := ⟨_, rfl⟩
 have hqq := eq10 s1 s2 a1 b1 c1 d1 a2 b2 c2 d2 t1 t2 e1 f1 g1 h1 e2 f2 g2 h2
 rw [hq] at hqq
 have hr0 : Hid (q = true → r = 0) := by
   intro h
   rw [h] at hq
   simp only [same5, Bool.and_eq_true, beq_iff_eq] at hq
   obtain ⟨⟨rfl, i1, i2, i3, i4⟩, rfl, i5, i6, i7, i8⟩ := hq
   obtain rfl : a1 = a2 := by omega
   obtain rfl : b1 = b2 := by omega
   obtain rfl : c1 = c2 := by omega
   obtain rfl : d1 = d2 := by omega
   obtain rfl : e1 = e2 := by omega
   obtain rfl : f1 = f2 := by omega
   obtain rfl : g1 = g2 := by omega
   obtain rfl : h1 = h2 := by omega
   obtain rfl : x1 = x2 := hx1.2.2.2.2.trans hx2.2.2.2.2.symm
   obtain rfl : y1 = y2 := hy1.2.2.2.2.trans hy2.2.2.2.2.symm
   rw [hv1] at hv2
   subst hv2
   rw [← hr]; unfold cmpI
   rw [if_neg (Int.lt_irrefl _), if_neg (Int.lt_irrefl _)]
 have HR := hide hr
 clear hr hq hv1 hv2 hx1 hy1 hx2 hy2
 obtain ⟨n1, hn1⟩ : ∃ n, cN v1 x1 = n := ⟨_, rfl⟩
 obtain ⟨m1, hm1⟩ : ∃ n, cD v1 y1 = n := ⟨_, rfl⟩
 obtain ⟨n2, hn2⟩ : ∃ n, cN v2 x2 = n := ⟨_, rfl⟩
 obtain ⟨m2, hm2⟩ : ∃ n, cD v2 y2 = n := ⟨_, rfl⟩
 rw [hn1] at k1 HR bn1
 rw [hm1] at k1 HR bd1
 rw [hn2] at k2 HR bn2
 rw [hm2] at k2 HR bd2
 have B12 := hide (mul_bound bn1 bd2)
 have B21 := hide (mul_bound bn2 bd1)
 clear hn1 hm1 hn2 hm2 pd1 pd2 bn1 bn2 bd1 bd2
 obtain ⟨p0, p1, p2, p3, p4, p5, p6, p7, p8, p9, pf0, pf1, pf2, pf3, pf4, pf5, pf6, pf7, pf8, pf9⟩ := ten_cells P1
 obtain ⟨q0, q1, q2, q3, q4, q5, q6, q7, q8, q9, qf0, qf1, qf2, qf3, qf4, qf5, qf6, qf7, qf8, qf9⟩ := ten_cells P2
 go_enter Tryz.func38, Tryz.ntmps38
 go_upto_region 1 with fail
 rw [← HW.out]
 clear HW
 cases q
 · clear hr0
   go_upto_region 3 with fail
   clear hqq
   go_cut [] (fun wx => PairR w n1 m1 n2 m2 wx)
   case first =>
     go_region_with (first
       | (go_at_call 67; (with_reducible refine (k1.out _).mono ?_); rintro e' w5 ⟨s5, a5, b5, c5, d5, t5, e5, f5, g5, h5, rfl, hC5, hD5, hE⟩; have P1 : Box10 w5 w.heap.size s1 a1 b1 c1 d1 t1 e1 f1 g1 h1 := (by first | exact P1.ext hE | exact P1.drew.ext hE); have P2 : Box10 w5 (w.heap.size + 1) s2 a2 b2 c2 d2 t2 e2 f2 g2 h2 := (by first | exact P2.ext hE | exact P2.drew.ext hE); have EE : Ext w w5 := (by first | exact EE.trans hE | exact (EE.trans (ext_drew _)).trans hE); obtain ⟨p0, p1, p2, p3, p4, p5, p6, p7, p8, p9, pf0, pf1, pf2, pf3, pf4, pf5, pf6, pf7, pf8, pf9⟩ := ten_cells P1; obtain ⟨q0, q1, q2, q3, q4, q5, q6, q7, q8, q9, qf0, qf1, qf2, qf3, qf4, qf5, qf6, qf7, qf8, qf9⟩ := ten_cells P2; clear hE)
       | (go_at_call 67; (with_reducible refine (k2.out _).mono ?_); rintro e' w6 ⟨s6, a6, b6, c6, d6, t6, e6, f6, g6, h6, rfl, hC6, hD6, hE⟩; have P1 : Box10 w6 w.heap.size s1 a1 b1 c1 d1 t1 e1 f1 g1 h1 := (by first | exact P1.ext hE | exact P1.drew.ext hE); have P2 : Box10 w6 (w.heap.size + 1) s2 a2 b2 c2 d2 t2 e2 f2 g2 h2 := (by first | exact P2.ext hE | exact P2.drew.ext hE); have EE : Ext w w6 := (by first | exact EE.trans hE | exact (EE.trans (ext_drew _)).trans hE); obtain ⟨p0, p1, p2, p3, p4, p5, p6, p7, p8, p9, pf0, pf1, pf2, pf3, pf4, pf5, pf6, pf7, pf8, pf9⟩ := ten_cells P1; obtain ⟨q0, q1, q2, q3, q4, q5, q6, q7, q8, q9, qf0, qf1, qf2, qf3, qf4, qf5, qf6, qf7, qf8, qf9⟩ := ten_cells P2; clear hE))
     all_goals go_wp2_with fail
     all_goals go_meet
     all_goals exact ⟨s5, a5, b5, c5, d5, t5, e5, f5, g5, h5, s6, a6, b6, c6, d6, t6, e6, f6, g6, h6, hC5, hD5, hC6, hD6, (P1.put).far10 (by omega) _ _ _ _ _ _ _ _ _ _, (P2.far10 (by omega) _ _ _ _ _ _ _ _ _ _).put, ext_ten (ext_ten EE (Nat.le_refl _) _ _ _ _ _ _ _ _ _ _) (by omega) _ _ _ _ _ _ _ _ _ _⟩
   case rest =>
     clear P1 P2 EE
     obtain ⟨s1, a1, b1, c1, d1, t1, e1, f1, g1, h1, s2, a2, b2, c2, d2, t2, e2, f2, g2, h2, C1, D1, C2, D2, P1, P2, EE⟩ := hcut
     have K1 := hide C1
     have L1 := hide D1
     have K2 := hide C2
     have L2 := hide D2
     clear C1 D1 C2 D2 k1 k2
     have kc : Hid (∀ (s5 : Bool) (a5 b5 c5 d5 : Nat) (s6 : Bool) (a6 b6 c6 d6 : Nat) w', IsC s5 a5 b5 c5 d5 (n1 * m2) → IsC s6 a6 b6 c6 d6 (n2 * m1) → Calls Tryz.prog 69 #[.agg #[.bool s5, .int .u64 (a5 : Int), .int .u64 (b5 : Int), .int .u64 (c5 : Int), .int .u64 (d5 : Int)], .agg #[.bool s6, .int .u64 (a6 : Int), .int .u64 (b6 : Int), .int .u64 (c6 : Int), .int .u64 (d6 : Int)]] w' (IntRet .i64 r w')) := fun s5 a5 b5 c5 d5 s6 a6 b6 c6 d6 w' h5 h6 => by rw [← HR.out]; exact p_compare _ _ _ _ _ _ _ _ _ _ _ _ w' h5.1 h6.1
     obtain ⟨p0, p1, p2, p3, p4, p5, p6, p7, p8, p9, pf0, pf1, pf2, pf3, pf4, pf5, pf6, pf7, pf8, pf9⟩ := ten_cells P1
     obtain ⟨q0, q1, q2, q3, q4, q5, q6, q7, q8, q9, qf0, qf1, qf2, qf3, qf4, qf5, qf6, qf7, qf8, qf9⟩ := ten_cells P2
     go_upto_region 5 with (go_at_call 68; refine (p_wmul s1 t2 a1 b1 c1 d1 e2 f2 g2 h2 n1 m2 _ K1.out.1 L2.out.1).mono ?_; intro e' w7 hr7; obtain ⟨s5, a5, b5, c5, d5, rfl, C5, hE⟩ := wide_ret hr7 B12.out; have P1 := P1.ext hE; have P2 := P2.ext hE; have EE := EE.trans hE; clear hE hr7)
     have K5 := hide C5
     have B5 : Box (w7.alloc (.cells #[.bool s5, .int .u64 (a5 : Int), .int .u64 (b5 : Int), .int .u64 (c5 : Int), .int .u64 (d5 : Int)] 25)) w7.heap.size s5 a5 b5 c5 d5 := heap_alloc_new w7 _
     have hE := ext_alloc w7 (.cells #[.bool s5, .int .u64 (a5 : Int), .int .u64 (b5 : Int), .int .u64 (c5 : Int), .int .u64 (d5 : Int)] 25)
     have P1 := P1.ext hE
     have P2 := P2.ext hE
     have EE := EE.trans hE
     generalize w7.alloc (.cells #[.bool s5, .int .u64 (a5 : Int), .int .u64 (b5 : Int), .int .u64 (c5 : Int), .int .u64 (d5 : Int)] 25) = W7 at *
     generalize w7.heap.size = g7 at *
     clear C5 hE
     obtain ⟨p0, p1, p2, p3, p4, p5, p6, p7, p8, p9, pf0, pf1, pf2, pf3, pf4, pf5, pf6, pf7, pf8, pf9⟩ := ten_cells P1
     obtain ⟨q0, q1, q2, q3, q4, q5, q6, q7, q8, q9, qf0, qf1, qf2, qf3, qf4, qf5, qf6, qf7, qf8, qf9⟩ := ten_cells P2
     go_upto_region 6 with (go_at_call 68; refine (p_wmul s2 t1 a2 b2 c2 d2 e1 f1 g1 h1 n2 m1 _ K2.out.1 L1.out.1).mono ?_; intro e' w8 hr8; obtain ⟨s6, a6, b6, c6, d6, rfl, C6, hE⟩ := wide_ret hr8 B21.out; have B5 := B5.ext hE; have EE := EE.trans hE; clear hE hr8)
     have K6 := hide C6
     have B6 : Box (w8.alloc (.cells #[.bool s6, .int .u64 (a6 : Int), .int .u64 (b6 : Int), .int .u64 (c6 : Int), .int .u64 (d6 : Int)] 25)) w8.heap.size s6 a6 b6 c6 d6 := heap_alloc_new w8 _
     have hE := ext_alloc w8 (.cells #[.bool s6, .int .u64 (a6 : Int), .int .u64 (b6 : Int), .int .u64 (c6 : Int), .int .u64 (d6 : Int)] 25)
     have B5 := B5.ext hE
     have EE := EE.trans hE
     generalize w8.alloc (.cells #[.bool s6, .int .u64 (a6 : Int), .int .u64 (b6 : Int), .int .u64 (c6 : Int), .int .u64 (d6 : Int)] 25) = W8 at *
     generalize w8.heap.size = g8 at *
     clear C6 hE
     obtain ⟨c0, c1', c2', c3, c4, _⟩ := five_cells B5
     obtain ⟨d0, d1', d2', d3, d4, _⟩ := five_cells B6
     go_wp2_with (go_at_call 69; refine (kc.out _ _ _ _ _ _ _ _ _ _ _ K5.out K6.out).mono ?_; rintro e' w9 ⟨rfl, hE⟩; have EE := EE.trans hE; clear hE)
     all_goals go_ret
     all_goals exact ⟨rfl, EE⟩
 · have hr0 := hr0.out rfl
   subst hr0
   go_wp2_with fail
   go_ret
   exact ⟨rfl, EE⟩
end
section
open Go Go.RowKit
def Quot (B : World) (z : Int) (p : Value) (wx : World) : Prop := ∃ g s a b c d, p = .pointer (some ⟨g, 0, none⟩) ∧ IsC s a b c d z ∧ Box wx g s a b c d ∧ B.heap.size ≤ g ∧ Ext B wx
section
variable {B U : World} {z : Int} {s : Bool} {a b c d : Nat} {o : Obj} {u0 u1 u2 u3 u4 : Value} {g g' : Nat}
theorem quo0 (hC : IsC s a b c d z) (hE : Ext B U) : Quot B z (.pointer (some ⟨U.heap.size, 0, none⟩)) ((U.alloc (.cells #[.bool s, .int .u64 (a : Int), .int .u64 (b : Int), .int .u64 (c : Int), .int .u64 (d : Int)] 25)).alloc o) :=
 ⟨_, s, a, b, c, d, rfl, hC, (Box.new U s a b c d).ext (ext_alloc _ _), hE.size, (hE.al _).al _⟩
theorem quo0' (hC : IsC s a b c d z) (hE : Ext B U) : Quot B z (.pointer (some ⟨U.heap.size + 1, 0, none⟩)) ((U.alloc o).alloc (.cells #[.bool s, .int .u64 (a : Int), .int .u64 (b : Int), .int .u64 (c : Int), .int .u64 (d : Int)] 25)) :=
 ⟨_, s, a, b, c, d, rfl, hC, (two_blocks U _ _).2, Nat.le_succ_of_le hE.size, (hE.al _).al _⟩
theorem quo1 (hC : IsC s a b c d z) (hE : Ext B U) (hz : Box U g false 0 0 0 0) (h1 : B.heap.size ≤ g) : Quot B z (.pointer (some ⟨g, 0, none⟩)) ((((((U.setCell ⟨g, 0, none⟩ (.bool s)).setCell ⟨g, 1, none⟩ (.int .u64 (a : Int))).setCell ⟨g, 2, none⟩ (.int .u64 (b : Int))).setCell ⟨g, 3, none⟩ (.int .u64 (c : Int))).setCell ⟨g, 4, none⟩ (.int .u64 (d : Int))).alloc o) :=
 ⟨_, s, a, b, c, d, rfl, hC, (hz.put).ext (ext_alloc _ _), h1, (ext_five hE h1 _ _ _ _ _).al _⟩
theorem quo1' (hC : IsC s a b c d z) (hE : Ext B U) (h1 : B.heap.size ≤ g) : Quot B z (.pointer (some ⟨U.heap.size, 0, none⟩)) ((((((U.setCell ⟨g, 0, none⟩ u0).setCell ⟨g, 1, none⟩ u1).setCell ⟨g, 2, none⟩ u2).setCell ⟨g, 3, none⟩ u3).setCell ⟨g, 4, none⟩ u4).alloc (.cells #[.bool s, .int .u64 (a : Int), .int .u64 (b : Int), .int .u64 (c : Int), .int .u64 (d : Int)] 25)) := by
 have h := Box.new (((((U.setCell ⟨g, 0, none⟩ u0).setCell ⟨g, 1, none⟩ u1).setCell ⟨g, 2, none⟩ u2).setCell ⟨g, 3, none⟩ u3).setCell ⟨g, 4, none⟩ u4) s a b c d
 simp only [World.size_setCell] at h
 exact ⟨_, s, a, b, c, d, rfl, hC, h, hE.size, (ext_five hE h1 _ _ _ _ _).al _⟩
theorem quo2 (hC : IsC s a b c d z) (hE : Ext B U) (hz : Box U g false 0 0 0 0) (h1 : B.heap.size ≤ g) (h2 : B.heap.size ≤ g') (hn : g ≠ g') : Quot B z (.pointer (some ⟨g, 0, none⟩)) ((((((((((U.setCell ⟨g, 0, none⟩ (.bool s)).setCell ⟨g, 1, none⟩ (.int .u64 (a : Int))).setCell ⟨g, 2, none⟩ (.int .u64 (b : Int))).setCell ⟨g, 3, none⟩ (.int .u64 (c : Int))).setCell ⟨g, 4, none⟩ (.int .u64 (d : Int))).setCell ⟨g', 0, none⟩ u0).setCell ⟨g', 1, none⟩ u1).setCell ⟨g', 2, none⟩ u2).setCell ⟨g', 3, none⟩ u3).setCell ⟨g', 4, none⟩ u4) :=
 ⟨_, s, a, b, c, d, rfl, hC, (hz.put).far hn _ _ _ _ _, h1, ext_five (ext_five hE h1 _ _ _ _ _) h2 _ _ _ _ _⟩
theorem one0 (hC : IsC s a b c d z) (hE : Ext B U) : Quot B z (.pointer (some ⟨U.heap.size, 0, none⟩)) (U.alloc (.cells #[.bool s, .int .u64 (a : Int), .int .u64 (b : Int), .int .u64 (c : Int), .int .u64 (d : Int)] 25)) :=
 ⟨_, s, a, b, c, d, rfl, hC, Box.new U s a b c d, hE.size, hE.al _⟩
theorem one1 (hC : IsC s a b c d z) (hE : Ext B U) (hz : Box U g false 0 0 0 0) (h1 : B.heap.size ≤ g) : Quot B z (.pointer (some ⟨g, 0, none⟩)) (((((U.setCell ⟨g, 0, none⟩ (.bool s)).setCell ⟨g, 1, none⟩ (.int .u64 (a : Int))).setCell ⟨g, 2, none⟩ (.int .u64 (b : Int))).setCell ⟨g, 3, none⟩ (.int .u64 (c : Int))).setCell ⟨g, 4, none⟩ (.int .u64 (d : Int))) :=
 ⟨_, s, a, b, c, d, rfl, hC, hz.put, h1, ext_five hE h1 _ _ _ _ _⟩
end
end
section
open Go Go.RowKit
theorem Box.far10 {w : World} {k : Nat} {s : Bool} {a b c d : Nat} {b' : Nat} (x : Box w k s a b c d) (hn : k ≠ b') (u0 u1 u2 u3 u4 u5 u6 u7 u8 u9 : Value) : Box ((((((((((w.setCell ⟨b', 0, none⟩ u0).setCell ⟨b', 1, none⟩ u1).setCell ⟨b', 2, none⟩ u2).setCell ⟨b', 3, none⟩ u3).setCell ⟨b', 4, none⟩ u4).setCell ⟨b', 5, none⟩ u5).setCell ⟨b', 6, none⟩ u6).setCell ⟨b', 7, none⟩ u7).setCell ⟨b', 8, none⟩ u8).setCell ⟨b', 9, none⟩ u9) k s a b c d := by
 unfold Box at *
 rw [heap_setCell_other _ _ _ _ (by simpa using hn), heap_setCell_other _ _ _ _ (by simpa using hn), heap_setCell_other _ _ _ _ (by simpa using hn), heap_setCell_other _ _ _ _ (by simpa using hn), heap_setCell_other _ _ _ _ (by simpa using hn), heap_setCell_other _ _ _ _ (by simpa using hn), heap_setCell_other _ _ _ _ (by simpa using hn), heap_setCell_other _ _ _ _ (by simpa using hn), heap_setCell_other _ _ _ _ (by simpa using hn), heap_setCell_other _ _ _ _ (by simpa using hn)]
 exact x
open Go Go.RowKit
open Go Go.RowKit
end
section
open Go Go.RowKit
set_option maxHeartbeats 1000000 in
theorem rf_small (s : Bool) (a b c d : Nat) (z : Int) (w : World) (h : IsC s a b c d z) :
   Calls Tryz.prog 72 #[.agg #[.bool s, .int .u64 (a : Int), .int .u64 (b : Int), .int .u64 (c : Int), .int .u64 (d : Int)]] w (BoolRet (decide (z.natAbs < 170141183460469231731687303715884105728)) w) := by
 have hf := fits_cells h
 have HX := hide (ext_alloc w (.cells #[.bool s, .int .u64 (a : Int), .int .u64 (b : Int), .int .u64 (c : Int), .int .u64 (d : Int)] 25))
 by_cases h3 : d = 0
 · by_cases h2 : c = 0
   · by_cases h1 : b < 9223372036854775808
     · have HB : Hid (decide (z.natAbs < 170141183460469231731687303715884105728) = true) := decide_eq_true (hf.2 ⟨h3, h2, h1⟩)
       have h1' : decide ((b : Int) < 9223372036854775808) = true := by rw [decide_eq_true_iff]; omega
       have h1'' : decide ((9223372036854775808 : Int) ≤ (b : Int)) = false := by rw [decide_eq_false_iff_not]; omega
       subst h3; subst h2
       clear hf h h1
       go_enter Tryz.func72, Tryz.ntmps72
       go_wp2
       go_ret
       exact ⟨rbb HB.out.symm, HX.out⟩
     · have HB : Hid (decide (z.natAbs < 170141183460469231731687303715884105728) = false) := decide_eq_false (fun e => h1 (hf.1 e).2.2)
       have h1' : decide ((b : Int) < 9223372036854775808) = false := by rw [decide_eq_false_iff_not]; omega
       have h1'' : decide ((9223372036854775808 : Int) ≤ (b : Int)) = true := by rw [decide_eq_true_iff]; omega
       subst h3; subst h2
       clear hf h h1
       go_enter Tryz.func72, Tryz.ntmps72
       go_wp2
       go_ret
       exact ⟨rbb HB.out.symm, HX.out⟩
   · have HB : Hid (decide (z.natAbs < 170141183460469231731687303715884105728) = false) := decide_eq_false (fun e => h2 (hf.1 e).2.1)
     have h2' : ((c : Int) == 0) = false := by rw [beq_eq_false_iff_ne]; omega
     have h2'' : ¬ ((c : Int) = 0) := by omega
     subst h3
     clear hf h h2
     go_enter Tryz.func72, Tryz.ntmps72
     go_wp2
     go_ret
     exact ⟨rbb HB.out.symm, HX.out⟩
 · have HB : Hid (decide (z.natAbs < 170141183460469231731687303715884105728) = false) := decide_eq_false (fun e => h3 (hf.1 e).1)
   have h3' : ((d : Int) == 0) = false := by rw [beq_eq_false_iff_ne]; omega
   have h3'' : ¬ ((d : Int) = 0) := by omega
   clear hf h h3
   go_enter Tryz.func72, Tryz.ntmps72
   go_wp2
   go_ret
   exact ⟨rbb HB.out.symm, HX.out⟩
set_option maxHeartbeats 1000000 in
theorem rf_one (w : World) : Calls Tryz.prog 41 #[] w (WideOnly 1 w) := by
 have P0 := Box.new0 w
 have EE := ext_alloc w (.cells #[.bool false, .int .u64 0, .int .u64 0, .int .u64 0, .int .u64 0] 25)
 obtain ⟨W, hW⟩ : ∃ W, W = w.alloc (.cells #[.bool false, .int .u64 0, .int .u64 0, .int .u64 0, .int .u64 0] 25) := ⟨_, rfl⟩
 rw [← hW] at P0 EE
 have HW := hide hW
 clear hW
 go_enter Tryz.func41, Tryz.ntmps41
 go_upto_region 1 with fail
 rw [← HW.out]
 clear HW
 go_wp2_with (go_at_call 14; refine (ref_ofi 1 _ (by omega) (by omega)).mono ?_; rintro e' w2 ⟨s1, a1, b1, c1, d1, rfl, C1, hE⟩; have K1 := hide C1; have P0 := P0.ext hE; have EE := EE.trans hE; obtain ⟨i0, i1, i2, i3, i4, j0, j1, j2, j3, j4⟩ := five_cells P0; clear hE C1)
 all_goals exact bodyPost_ret (v := .agg #[.bool s1, .int .u64 (a1 : Int), .int .u64 (b1 : Int), .int .u64 (c1 : Int), .int .u64 (d1 : Int)]) (by simp [results, Tryz.results41, go_sem, i0, i1, i2, i3, i4]) rfl ⟨s1, a1, b1, c1, d1, rfl, K1.out, ext_five EE (Nat.le_refl _) _ _ _ _ _⟩
theorem abs_isC {s : Bool} {a b c d : Nat} {z : Int} (h : IsW s a b c d z) : IsC false a b c d (z.natAbs : Int) := by
 obtain ⟨h1, h2, h3, h4, h5⟩ := h
 refine ⟨⟨h1, h2, h3, h4, ?_⟩, by simp⟩
 cases s <;> simp at h5 ⊢ <;> omega
set_option maxHeartbeats 1000000 in
theorem rf_abs (s : Bool) (a b c d : Nat) (z : Int) (w : World) (h : IsW s a b c d z) : Calls Tryz.prog 53 #[.agg #[.bool s, .int .u64 (a : Int), .int .u64 (b : Int), .int .u64 (c : Int), .int .u64 (d : Int)]] w (WideOnly (z.natAbs : Int) w) := by
 have K := hide (abs_isC h)
 have H2 := two_blocks w (.cells #[.bool false, .int .u64 (a : Int), .int .u64 (b : Int), .int .u64 (c : Int), .int .u64 (d : Int)] 25) (.cells #[.bool false, .int .u64 (a : Int), .int .u64 (b : Int), .int .u64 (c : Int), .int .u64 (d : Int)] 25)
 have EE := hide ((ext_alloc w (.cells #[.bool false, .int .u64 (a : Int), .int .u64 (b : Int), .int .u64 (c : Int), .int .u64 (d : Int)] 25)).trans (ext_alloc _ (.cells #[.bool false, .int .u64 (a : Int), .int .u64 (b : Int), .int .u64 (c : Int), .int .u64 (d : Int)] 25)))
 go_enter Tryz.func53, Tryz.ntmps53
 go_wp2_with fail
 all_goals exact bodyPost_ret (v := .agg #[.bool false, .int .u64 (a : Int), .int .u64 (b : Int), .int .u64 (c : Int), .int .u64 (d : Int)]) (by simp [results, Tryz.results53, go_sem]) rfl ⟨false, a, b, c, d, rfl, K.out, EE.out⟩
set_option maxRecDepth 100000 in
set_option maxHeartbeats 4000000 in
theorem rf_gcd (s t : Bool) (a b c d e f g h : Nat) (x y : Int) (w : World) (hx : IsC s a b c d x) (hy : IsC t e f g h y) (hy0 : 0 < y) :
   Calls Tryz.prog 52 #[.agg #[.bool s, .int .u64 (a : Int), .int .u64 (b : Int), .int .u64 (c : Int), .int .u64 (d : Int)], .agg #[.bool t, .int .u64 (e : Int), .int .u64 (f : Int), .int .u64 (g : Int), .int .u64 (h : Int)]] w (WideOnly (Int.gcd x y : Int) w) := by
 obtain ⟨W, hW⟩ : ∃ W, W = (((w.alloc (.cells #[.bool s, .int .u64 (a : Int), .int .u64 (b : Int), .int .u64 (c : Int), .int .u64 (d : Int)] 25)).alloc (.cells #[.bool t, .int .u64 (e : Int), .int .u64 (f : Int), .int .u64 (g : Int), .int .u64 (h : Int)] 25)).alloc (.cells #[.bool false, .int .u64 0, .int .u64 0, .int .u64 0, .int .u64 0] 25)) := ⟨_, rfl⟩
 have H3 := three_boxes w (.cells #[.bool s, .int .u64 (a : Int), .int .u64 (b : Int), .int .u64 (c : Int), .int .u64 (d : Int)] 25) (.cells #[.bool t, .int .u64 (e : Int), .int .u64 (f : Int), .int .u64 (g : Int), .int .u64 (h : Int)] 25) (.cells #[.bool false, .int .u64 0, .int .u64 0, .int .u64 0, .int .u64 0] 25)
 rw [← hW] at H3
 obtain ⟨G, hG⟩ : ∃ G, Int.gcd x y = G := ⟨_, rfl⟩
 have B0 : Box W w.heap.size s a b c d := H3.1
 have B1 : Box W (w.heap.size + 1) t e f g h := H3.2.1
 have B2 : Box W (w.heap.size + 1 + 1) false 0 0 0 0 := H3.2.2
 have E0 : Ext w W := by rw [hW]; exact ((ext_alloc _ _).trans (ext_alloc _ _)).trans (ext_alloc _ _)
 have HW := hide hW
 have HGG := hide hG
 rw [hG]
 clear hW H3 hG
 go_enter Tryz.func52, Tryz.ntmps52
 go_upto_region 1 with fail
 rw [← HW.out]
 clear HW
 go_loopg [] (y.natAbs) (fun k wr => ∃ (s : Bool) (a b c d : Nat) (t : Bool) (e f g h : Nat) (x y : Int), Box wr w.heap.size s a b c d ∧ Box wr (w.heap.size + 1) t e f g h ∧ Box wr (w.heap.size + 1 + 1) false 0 0 0 0 ∧ IsC s a b c d x ∧ IsC t e f g h y ∧ Hid (0 ≤ y ∧ y.natAbs ≤ k ∧ Int.gcd x y = G ∧ (0 < y ∨ 0 ≤ x)) ∧ Ext w wr)
 case atStart => exact ⟨s, a, b, c, d, t, e, f, g, h, x, y, B0, B1, B2, hx, hy, ⟨by omega, Nat.le_refl _, HGG.out, Or.inl hy0⟩, E0⟩
 case round =>
   clear B0 B1 B2 hx hy hy0 E0 HGG
   obtain ⟨s, a, b, c, d, t, e, f, g, h, x, y, B0, B1, B2, hx, hy, HH, EE⟩ := hrel
   have KX := hide hx
   have KY := hide hy
   clear hx hy
   obtain ⟨sg, hsg⟩ : ∃ sg, y.sign = sg := ⟨_, rfl⟩
   have ks : Hid (∀ w', Calls Tryz.prog 51 #[.agg #[.bool t, .int .u64 (e : Int), .int .u64 (f : Int), .int .u64 (g : Int), .int .u64 (h : Int)]] w' (IntRet .i64 sg w')) := fun w' => by rw [← hsg]; exact ref_sign _ _ _ _ _ _ w' KY.out.1
   obtain ⟨c0, c1, c2, c3, c4, _⟩ := five_cells B0
   obtain ⟨d0, d1, d2, d3, d4, _⟩ := five_cells B1
   obtain ⟨i0, i1, i2, i3, i4, j0, j1, j2, j3, j4⟩ := five_cells B2
   by_cases hy0 : y = 0
   · have hsg0 : sg = 0 := by rw [← hsg, hy0]; rfl
     subst hsg0
     have KR : Hid (IsC s a b c d (G : Int)) := by
       have h1 := HH.out
       have h2 := KX.out
       have e : (G : Int) = x := by
         have h3 := h1.2.2.1
         rw [hy0, Int.gcd_zero_right] at h3
         have h4 := h1.2.2.2
         omega
       unfold Hid
       rw [e]; exact h2
     clear hsg hy0 HH
     go_wp2_with (go_at_call 51; (with_reducible refine (ks.out _).mono ?_); rintro e' w2 ⟨rfl, hE⟩; have B0 := B0.ext hE; have B1 := B1.ext hE; have B2 := B2.ext hE; have EE := EE.trans hE; obtain ⟨c0, c1, c2, c3, c4, f0, f1, f2, f3, f4⟩ := five_cells B0; obtain ⟨d0, d1, d2, d3, d4, g0, g1, g2, g3, g4⟩ := five_cells B1; obtain ⟨i0, i1, i2, i3, i4, j0, j1, j2, j3, j4⟩ := five_cells B2; clear hE)
     all_goals exact bodyPost_ret (v := .agg #[.bool s, .int .u64 (a : Int), .int .u64 (b : Int), .int .u64 (c : Int), .int .u64 (d : Int)]) (by simp [results, Tryz.results52, go_sem, i0, i1, i2, i3, i4]) rfl ⟨s, a, b, c, d, rfl, KR.out, ext_five EE (by omega) _ _ _ _ _⟩
   · have hsg0 : ¬ (sg = 0) := by rw [← hsg]; intro e; exact hy0 (Int.sign_eq_zero_iff_zero.1 e)
     have hsg1 : (sg == 0) = false := by rw [beq_eq_false_iff_ne]; exact hsg0
     obtain ⟨r1, hr1⟩ : ∃ r, (if 0 ≤ x ∧ x < 18446744073709551616 then x else 0) = r := ⟨_, rfl⟩
     obtain ⟨o1, ho1⟩ : ∃ o, decide (0 ≤ x ∧ x < 18446744073709551616) = o := ⟨_, rfl⟩
     obtain ⟨r2, hr2⟩ : ∃ r, (if 0 ≤ y ∧ y < 18446744073709551616 then y else 0) = r := ⟨_, rfl⟩
     obtain ⟨o2, ho2⟩ : ∃ o, decide (0 ≤ y ∧ y < 18446744073709551616) = o := ⟨_, rfl⟩
     have k1 : Hid (∀ w', Calls Tryz.prog 77 #[.agg #[.bool s, .int .u64 (a : Int), .int .u64 (b : Int), .int .u64 (c : Int), .int .u64 (d : Int)]] w' (PairRet .u64 r1 o1 w')) := fun w' => by rw [← hr1, ← ho1]; exact ref_unsigned _ _ _ _ _ _ w' KX.out.1
     have k2 : Hid (∀ w', Calls Tryz.prog 77 #[.agg #[.bool t, .int .u64 (e : Int), .int .u64 (f : Int), .int .u64 (g : Int), .int .u64 (h : Int)]] w' (PairRet .u64 r2 o2 w')) := fun w' => by rw [← hr2, ← ho2]; exact ref_unsigned _ _ _ _ _ _ w' KY.out.1
     by_cases hb : o1 = true ∧ o2 = true
     · obtain ⟨rfl, rfl⟩ := hb
       have hx1 := of_decide_eq_true ho1
       have hy1 := of_decide_eq_true ho2
       rw [if_pos hx1] at hr1
       rw [if_pos hy1] at hr2
       obtain ⟨n, hn⟩ : ∃ n : Nat, x = n := ⟨x.toNat, by omega⟩
       obtain ⟨m, hm⟩ : ∃ m : Nat, y = m := ⟨y.toNat, by omega⟩
       have hn2 : n < 18446744073709551616 := by omega
       have hm2 : m < 18446744073709551616 := by omega
       have HGM : Hid (Nat.gcd n m = G) := by
         have h3 := HH.out.2.2.1
         rw [hn, hm] at h3
         exact h3
       have hG64 : G < 18446744073709551616 := by
         have h1 : Nat.gcd n m ≤ m := Nat.gcd_le_right _ (by omega)
         rw [HGM.out] at h1
         omega
       rw [← hr1, hn] at k1
       rw [← hr2, hm] at k2
       clear hr1 hr2 ho1 ho2 hx1 hy1 hn hm HH hsg hy0 KX KY
       go_wp2_with (first
         | (go_at_call 51; (with_reducible refine (ks.out _).mono ?_); rintro e' w2 ⟨rfl, hE⟩; have B0 := B0.ext hE; have B1 := B1.ext hE; have B2 := B2.ext hE; have EE := EE.trans hE; obtain ⟨c0, c1, c2, c3, c4, f0, f1, f2, f3, f4⟩ := five_cells B0; obtain ⟨d0, d1, d2, d3, d4, g0, g1, g2, g3, g4⟩ := five_cells B1; obtain ⟨i0, i1, i2, i3, i4, j0, j1, j2, j3, j4⟩ := five_cells B2; clear hE)
         | (go_at_call 77; (with_reducible refine (k1.out _).mono ?_); rintro e' w3 ⟨rfl, hE⟩; have B0 := B0.ext hE; have B1 := B1.ext hE; have B2 := B2.ext hE; have EE := EE.trans hE; obtain ⟨c0, c1, c2, c3, c4, f0, f1, f2, f3, f4⟩ := five_cells B0; obtain ⟨d0, d1, d2, d3, d4, g0, g1, g2, g3, g4⟩ := five_cells B1; obtain ⟨i0, i1, i2, i3, i4, j0, j1, j2, j3, j4⟩ := five_cells B2; clear hE)
         | (go_at_call 77; (with_reducible refine (k2.out _).mono ?_); rintro e' w4 ⟨rfl, hE⟩; have B0 := B0.ext hE; have B1 := B1.ext hE; have B2 := B2.ext hE; have EE := EE.trans hE; obtain ⟨c0, c1, c2, c3, c4, f0, f1, f2, f3, f4⟩ := five_cells B0; obtain ⟨d0, d1, d2, d3, d4, g0, g1, g2, g3, g4⟩ := five_cells B1; obtain ⟨i0, i1, i2, i3, i4, j0, j1, j2, j3, j4⟩ := five_cells B2; clear hE))
       go_loopw [5, 7] (fun x y wr => ∃ a' b' : Nat, x = .int .u64 (a' : Int) ∧ y = .int .u64 (b' : Int) ∧ a' < 18446744073709551616 ∧ b' < 18446744073709551616 ∧ Hid (Nat.gcd a' b' = G) ∧ Box wr (w.heap.size + 1 + 1) false 0 0 0 0 ∧ Ext w wr) (fun _ y _ => (intOf y).toNat)
       case atStart => exact ⟨n, m, rfl, rfl, hn2, hm2, HGM, B2, EE⟩
       case round =>
         clear hn2 hm2 HGM B0 B1 B2 EE c0 c1 c2 c3 c4 d0 d1 d2 d3 d4 i0 i1 i2 i3 i4
         obtain ⟨a', b', rfl, rfl, ha, hb, HGM, B2, EE⟩ := hrel
         obtain ⟨i0, i1, i2, i3, i4, j0, j1, j2, j3, j4⟩ := five_cells B2
         by_cases h0 : b' = 0
         · subst h0
           have HR : Hid (a' = G) := by have := HGM.out; rw [Nat.gcd_zero_right] at this; exact this
           clear HGM
           go_wp2_with (go_at_call 26; refine (ref_ofu a' _ ha).mono ?_; rintro e' w6 ⟨s6, a6, b6, c6, d6, rfl, hC, hE⟩; have B2 := B2.ext hE; have EE := EE.trans hE; obtain ⟨i0, i1, i2, i3, i4, j0, j1, j2, j3, j4⟩ := five_cells B2; clear hE)
           all_goals rw [HR.out] at hC
           all_goals exact bodyPost_ret (v := .agg #[.bool s6, .int .u64 (a6 : Int), .int .u64 (b6 : Int), .int .u64 (c6 : Int), .int .u64 (d6 : Int)]) (by simp [results, Tryz.results52, go_sem, i0, i1, i2, i3, i4]) rfl ⟨s6, a6, b6, c6, d6, rfl, hC, ext_five EE (by omega) _ _ _ _ _⟩
         · have h1 : ((b' : Int) == 0) = false := by rw [beq_eq_false_iff_ne]; omega
           have h2 : ¬ ((b' : Int) = 0) := by omega
           obtain ⟨r1, r2⟩ := rem_parts a' b' (by omega)
           obtain ⟨r, hr⟩ : ∃ r, a' % b' = r := ⟨_, rfl⟩
           rw [hr] at r1 r2
           have hrb : r < b' := by rw [← hr]; exact Nat.mod_lt _ (by omega)
           have HG2 : Hid (Nat.gcd b' r = G) := by rw [← HGM.out, ← hr, Nat.gcd_comm a' b', Nat.gcd_rec b' a', Nat.gcd_comm]; exact rfl
           have hr64 : r < 18446744073709551616 := by omega
           have HR := hide hr
           have HB := hide hrb
           clear hr hrb HGM h0
           go_wp2_with fail
           go_quiet (fail)
           go_wp2_with fail
           exact ⟨⟨b', r, rfl, rfl, hb, hr64, HG2, B2.ext (ext_drewN _ _), EE.trans (ext_drewN _ _)⟩, by have := HB.out; simp [intOf]; omega⟩
     · have HN : Hid (0 < x % y + 1 ∧ x % y < y ∧ 0 ≤ x % y ∧ Int.gcd y (x % y) = G ∧ (x % y).natAbs < gk) := by
         have h1 := HH.out
         have h2 := Int.emod_nonneg x hy0
         have h3 := Int.emod_lt_of_pos x (show 0 < y by omega)
         refine ⟨by omega, h3, h2, by rw [← gcd_mod]; exact h1.2.2.1, by omega⟩
       have HY0 : Hid (0 < y) := by have := HH.out.1; unfold Hid; omega
       have hY := hide hy0
       have hways : o1 = false ∨ (o1 = true ∧ o2 = false) := by cases o1 <;> cases o2 <;> simp at hb ⊢
       clear hr1 hr2 ho1 ho2 hsg HH hy0 hb
       rcases hways with rfl | ⟨rfl, rfl⟩
       all_goals go_upto_region 8 with (first
         | (go_at_call 51; (with_reducible refine (ks.out _).mono ?_); rintro e' w2 ⟨rfl, hE⟩; have B0 := B0.ext hE; have B1 := B1.ext hE; have B2 := B2.ext hE; have EE := EE.trans hE; obtain ⟨c0, c1, c2, c3, c4, f0, f1, f2, f3, f4⟩ := five_cells B0; obtain ⟨d0, d1, d2, d3, d4, g0, g1, g2, g3, g4⟩ := five_cells B1; obtain ⟨i0, i1, i2, i3, i4, j0, j1, j2, j3, j4⟩ := five_cells B2; clear hE)
         | (go_at_call 77; (with_reducible refine (k1.out _).mono ?_); rintro e' w3 ⟨rfl, hE⟩; have B0 := B0.ext hE; have B1 := B1.ext hE; have B2 := B2.ext hE; have EE := EE.trans hE; obtain ⟨c0, c1, c2, c3, c4, f0, f1, f2, f3, f4⟩ := five_cells B0; obtain ⟨d0, d1, d2, d3, d4, g0, g1, g2, g3, g4⟩ := five_cells B1; obtain ⟨i0, i1, i2, i3, i4, j0, j1, j2, j3, j4⟩ := five_cells B2; clear hE)
         | (go_at_call 77; (with_reducible refine (k2.out _).mono ?_); rintro e' w4 ⟨rfl, hE⟩; have B0 := B0.ext hE; have B1 := B1.ext hE; have B2 := B2.ext hE; have EE := EE.trans hE; obtain ⟨c0, c1, c2, c3, c4, f0, f1, f2, f3, f4⟩ := five_cells B0; obtain ⟨d0, d1, d2, d3, d4, g0, g1, g2, g3, g4⟩ := five_cells B1; obtain ⟨i0, i1, i2, i3, i4, j0, j1, j2, j3, j4⟩ := five_cells B2; clear hE))
       all_goals (go_upto_region 9 with (go_at_call 54; refine (ref_wdiv s t a b c d e f g h x y _ KX.out.1 KY.out.1).mono ?_; rintro e' w7 ⟨s7, a7, b7, c7, d7, s8, a8, b8, c8, d8, o8, rfl, ho, C7, C8, hE⟩; have Ho := hide ho; rw [if_neg hY.out] at C7 C8; have K8 := hide C8; clear ho C7 C8; have B0 := B0.ext hE; have B1 := B1.ext hE; have B2 := B2.ext hE; have EE := EE.trans hE; clear hE))
       all_goals have Q := two_blocks w7 (.cells #[.bool s7, .int .u64 (a7 : Int), .int .u64 (b7 : Int), .int .u64 (c7 : Int), .int .u64 (d7 : Int)] 25) (.cells #[.bool s8, .int .u64 (a8 : Int), .int .u64 (b8 : Int), .int .u64 (c8 : Int), .int .u64 (d8 : Int)] 25)
       all_goals have hE := (ext_alloc w7 (.cells #[.bool s7, .int .u64 (a7 : Int), .int .u64 (b7 : Int), .int .u64 (c7 : Int), .int .u64 (d7 : Int)] 25)).trans (ext_alloc _ (.cells #[.bool s8, .int .u64 (a8 : Int), .int .u64 (b8 : Int), .int .u64 (c8 : Int), .int .u64 (d8 : Int)] 25))
       all_goals have l2 := B2.lt
       all_goals have B0 := B0.ext hE
       all_goals have B1 := B1.ext hE
       all_goals have B2 := B2.ext hE
       all_goals have EE := EE.trans hE
       all_goals clear hE
       all_goals (obtain ⟨W7, hW7⟩ : ∃ W7, W7 = (w7.alloc (.cells #[.bool s7, .int .u64 (a7 : Int), .int .u64 (b7 : Int), .int .u64 (c7 : Int), .int .u64 (d7 : Int)] 25)).alloc (.cells #[.bool s8, .int .u64 (a8 : Int), .int .u64 (b8 : Int), .int .u64 (c8 : Int), .int .u64 (d8 : Int)] 25) := ⟨_, rfl⟩)
       all_goals rw [← hW7] at Q B0 B1 B2 EE ⊢
       all_goals (obtain ⟨g7, hg7⟩ : ∃ g7, w7.heap.size = g7 := ⟨_, rfl⟩)
       all_goals rw [hg7] at Q l2 ⊢
       all_goals have B8 : Box W7 (g7 + 1) s8 a8 b8 c8 d8 := Q.2
       all_goals clear hW7 hg7 Q
       all_goals (obtain ⟨c0, c1, c2, c3, c4, f0, f1, f2, f3, f4⟩ := five_cells B0)
       all_goals (obtain ⟨d0, d1, d2, d3, d4, g0, g1, g2, g3, g4⟩ := five_cells B1)
       all_goals (obtain ⟨i0, i1, i2, i3, i4, _⟩ := five_cells B8)
       all_goals have KE := ext_five (ext_five EE (b := w.heap.size) (Nat.le_refl _) (.bool t) (.int .u64 (e : Int)) (.int .u64 (f : Int)) (.int .u64 (g : Int)) (.int .u64 (h : Int))) (b := w.heap.size + 1) (by omega) (.bool s8) (.int .u64 (a8 : Int)) (.int .u64 (b8 : Int)) (.int .u64 (c8 : Int)) (.int .u64 (d8 : Int))
       all_goals have KB0 := (B0.put (t := t) (a' := e) (b' := f) (c' := g) (d' := h)).far (b' := w.heap.size + 1) (by omega) (.bool s8) (.int .u64 (a8 : Int)) (.int .u64 (b8 : Int)) (.int .u64 (c8 : Int)) (.int .u64 (d8 : Int))
       all_goals have KB1 := (B1.far (b' := w.heap.size) (by omega) (.bool t) (.int .u64 (e : Int)) (.int .u64 (f : Int)) (.int .u64 (g : Int)) (.int .u64 (h : Int))).put (t := s8) (a' := a8) (b' := b8) (c' := c8) (d' := d8)
       all_goals have KB2 := (B2.far (b' := w.heap.size) (by omega) (.bool t) (.int .u64 (e : Int)) (.int .u64 (f : Int)) (.int .u64 (g : Int)) (.int .u64 (h : Int))).far (b' := w.heap.size + 1) (by omega) (.bool s8) (.int .u64 (a8 : Int)) (.int .u64 (b8 : Int)) (.int .u64 (c8 : Int)) (.int .u64 (d8 : Int))
       all_goals go_region
       all_goals go_wp2_with fail
       all_goals go_roundg ((x % y).natAbs)
       all_goals first
         | exact HN.out.2.2.2.2
         | exact ⟨t, e, f, g, h, s8, a8, b8, c8, d8, y, x % y, KB0.drew, KB1.drew, KB2.drew, KY.out, K8.out, ⟨HN.out.2.2.1, Nat.le_refl _, HN.out.2.2.2.1, Or.inr (by have := HY0.out; omega)⟩, KE.trans (ext_drew _)⟩
open Go Go.RowKit
def FixRet (s : Bool) (a b c d : Nat) (w : World) (e : Ending) (w' : World) : Prop := e = .returned (.agg #[.bool s, .int .u64 (a : Int), .int .u64 (b : Int), .int .u64 (c : Int), .int .u64 (d : Int)]) ∧ Ext w w'
theorem fixed {z : Int} {s : Bool} {a b c d : Nat} (hC : IsC s a b c d z) {e : Ending} {w w' : World} (h : WideOnly z w e w') : FixRet s a b c d w e w' := by
 obtain ⟨s', a', b', c', d', rfl, hC', hE⟩ := h
 obtain ⟨rfl, rfl, rfl, rfl, rfl⟩ := hC.uniq hC'
 exact ⟨rfl, hE⟩
theorem eqW {s t : Bool} {a b c d e f g h : Nat} {x y : Int} (hx : IsC s a b c d x) (hy : IsC t e f g h y) (w : World) : (binOp .eql 25 (.agg #[.bool s, .int .u64 (a : Int), .int .u64 (b : Int), .int .u64 (c : Int), .int .u64 (d : Int)]) (.agg #[.bool t, .int .u64 (e : Int), .int .u64 (f : Int), .int .u64 (g : Int), .int .u64 (h : Int)])).run Tryz.prog w = .ok (.bool (decide (x = y))) w := by
 rw [eq5]
 have := same_isC hx hy
 unfold same5 at this
 rw [this]
theorem one_isC : IsC false 1 0 0 0 1 := ⟨⟨by omega, by omega, by omega, by omega, by simp [mag4, val]⟩, by simp⟩
theorem good_bool (s : Bool) (z : Int) : (!s || decide (z ≠ 0)) = decide (Good s z) := by
 cases s <;> simp [Good]
set_option maxRecDepth 100000 in
set_option maxHeartbeats 8000000 in
theorem rf_valid (s t : Bool) (a b c d e f g h : Nat) (x y : Int) (w : World) (hx : IsW s a b c d x) (hy : IsW t e f g h y) (v : Bool) (hv : decide (RatOk s x t y) = v) :
   Calls Tryz.prog 43 #[.agg #[.bool s, .int .u64 (a : Int), .int .u64 (b : Int), .int .u64 (c : Int), .int .u64 (d : Int), .bool t, .int .u64 (e : Int), .int .u64 (f : Int), .int .u64 (g : Int), .int .u64 (h : Int)]] w (BoolRet v w) := by
 have HX := hide (ext_alloc w (.cells #[.bool s, .int .u64 (a : Int), .int .u64 (b : Int), .int .u64 (c : Int), .int .u64 (d : Int), .bool t, .int .u64 (e : Int), .int .u64 (f : Int), .int .u64 (g : Int), .int .u64 (h : Int)] 27))
 have H0 : Box10 (w.alloc (.cells #[.bool s, .int .u64 (a : Int), .int .u64 (b : Int), .int .u64 (c : Int), .int .u64 (d : Int), .bool t, .int .u64 (e : Int), .int .u64 (f : Int), .int .u64 (g : Int), .int .u64 (h : Int)] 27)) w.heap.size s a b c d t e f g h := heap_alloc_new w _
 obtain ⟨W, hW⟩ : ∃ W, W = w.alloc (.cells #[.bool s, .int .u64 (a : Int), .int .u64 (b : Int), .int .u64 (c : Int), .int .u64 (d : Int), .bool t, .int .u64 (e : Int), .int .u64 (f : Int), .int .u64 (g : Int), .int .u64 (h : Int)] 27) := ⟨_, rfl⟩
 rw [← hW] at HX H0
 have HW := hide hW
 clear hW
 obtain ⟨c0, c1, c2, c3, c4, c5, c6, c7, c8, c9, cf0, cf1, cf2, cf3, cf4, cf5, cf6, cf7, cf8, cf9⟩ := ten_cells H0
 obtain ⟨p1, hp1⟩ : ∃ p, decide (Good s x) = p := ⟨_, rfl⟩
 obtain ⟨p2, hp2⟩ : ∃ p, decide (Good t y) = p := ⟨_, rfl⟩
 obtain ⟨sg, hsg⟩ : ∃ r, y.sign = r := ⟨_, rfl⟩
 have k1 : Hid (∀ w', Calls Tryz.prog 50 #[.agg #[.bool s, .int .u64 (a : Int), .int .u64 (b : Int), .int .u64 (c : Int), .int .u64 (d : Int)]] w' (BoolRet p1 w')) := fun w' => by rw [← hp1, ← good_bool]; exact ref_valid _ _ _ _ _ _ w' hx
 have k2 : Hid (∀ w', Calls Tryz.prog 50 #[.agg #[.bool t, .int .u64 (e : Int), .int .u64 (f : Int), .int .u64 (g : Int), .int .u64 (h : Int)]] w' (BoolRet p2 w')) := fun w' => by rw [← hp2, ← good_bool]; exact ref_valid _ _ _ _ _ _ w' hy
 have k3 : Hid (∀ w', Calls Tryz.prog 51 #[.agg #[.bool t, .int .u64 (e : Int), .int .u64 (f : Int), .int .u64 (g : Int), .int .u64 (h : Int)]] w' (IntRet .i64 sg w')) := fun w' => by rw [← hsg]; exact ref_sign _ _ _ _ _ _ w' hy
 cases p1
 · have hv0 : v = false := by
     rw [← hv, decide_eq_false_iff_not]
     exact fun q => (of_decide_eq_false hp1) q.1
   subst hv0
   clear hv hx hy hp1 hp2 hsg k2 k3
   go_enter Tryz.func43, Tryz.ntmps43
   go_upto_region 1 with fail
   rw [← HW.out]
   clear HW
   go_wp2_with (first
     | (go_at_call 50; (with_reducible refine (k1.out _).mono ?_); rintro e' w1 ⟨rfl, hE⟩; have H0 := H0.ext hE; have HX := hide (HX.out.trans hE); obtain ⟨c0, c1, c2, c3, c4, c5, c6, c7, c8, c9, cf0, cf1, cf2, cf3, cf4, cf5, cf6, cf7, cf8, cf9⟩ := ten_cells H0; clear hE))
   all_goals go_ret
   all_goals exact ⟨rfl, HX.out⟩
 cases p2
 · have hv0 : v = false := by
     rw [← hv, decide_eq_false_iff_not]
     exact fun q => (of_decide_eq_false hp2) q.2.1
   subst hv0
   clear hv hx hy hp1 hp2 hsg k3
   go_enter Tryz.func43, Tryz.ntmps43
   go_upto_region 1 with fail
   rw [← HW.out]
   clear HW
   go_wp2_with (first
     | (go_at_call 50; (with_reducible refine (k1.out _).mono ?_); rintro e' w1 ⟨rfl, hE⟩; have H0 := H0.ext hE; have HX := hide (HX.out.trans hE); obtain ⟨c0, c1, c2, c3, c4, c5, c6, c7, c8, c9, cf0, cf1, cf2, cf3, cf4, cf5, cf6, cf7, cf8, cf9⟩ := ten_cells H0; clear hE)
     | (go_at_call 50; (with_reducible refine (k2.out _).mono ?_); rintro e' w2 ⟨rfl, hE⟩; have H0 := H0.ext hE; have HX := hide (HX.out.trans hE); obtain ⟨c0, c1, c2, c3, c4, c5, c6, c7, c8, c9, cf0, cf1, cf2, cf3, cf4, cf5, cf6, cf7, cf8, cf9⟩ := ten_cells H0; clear hE))
   all_goals go_ret
   all_goals exact ⟨rfl, HX.out⟩
 by_cases h3 : sg ≤ 0
 · have hv0 : v = false := by
     rw [← hv, decide_eq_false_iff_not]
     exact fun q => by have h4 := q.2.2.1; have h5 := Int.sign_eq_one_of_pos h4; omega
   subst hv0
   clear hv hx hy hp1 hp2 hsg
   go_enter Tryz.func43, Tryz.ntmps43
   go_upto_region 1 with fail
   rw [← HW.out]
   clear HW
   go_wp2_with (first
     | (go_at_call 50; (with_reducible refine (k1.out _).mono ?_); rintro e' w1 ⟨rfl, hE⟩; have H0 := H0.ext hE; have HX := hide (HX.out.trans hE); obtain ⟨c0, c1, c2, c3, c4, c5, c6, c7, c8, c9, cf0, cf1, cf2, cf3, cf4, cf5, cf6, cf7, cf8, cf9⟩ := ten_cells H0; clear hE)
     | (go_at_call 50; (with_reducible refine (k2.out _).mono ?_); rintro e' w2 ⟨rfl, hE⟩; have H0 := H0.ext hE; have HX := hide (HX.out.trans hE); obtain ⟨c0, c1, c2, c3, c4, c5, c6, c7, c8, c9, cf0, cf1, cf2, cf3, cf4, cf5, cf6, cf7, cf8, cf9⟩ := ten_cells H0; clear hE)
     | (go_at_call 51; (with_reducible refine (k3.out _).mono ?_); rintro e' w3 ⟨rfl, hE⟩; have H0 := H0.ext hE; have HX := hide (HX.out.trans hE); obtain ⟨c0, c1, c2, c3, c4, c5, c6, c7, c8, c9, cf0, cf1, cf2, cf3, cf4, cf5, cf6, cf7, cf8, cf9⟩ := ten_cells H0; clear hE))
   all_goals go_ret
   all_goals exact ⟨rfl, HX.out⟩
 have g1 := of_decide_eq_true hp1
 have g2 := of_decide_eq_true hp2
 have kx : IsC s a b c d x := ⟨hx, g1⟩
 have ky : IsC t e f g h y := ⟨hy, g2⟩
 have hyp : 0 < y := by
   have h4 : 0 < y.sign := by omega
   exact Int.sign_pos_iff.1 h4
 obtain ⟨p4, hp4⟩ : ∃ p, decide (x.natAbs < 170141183460469231731687303715884105728) = p := ⟨_, rfl⟩
 obtain ⟨p5, hp5⟩ : ∃ p, decide (y.natAbs < 170141183460469231731687303715884105728) = p := ⟨_, rfl⟩
 have k4 : Hid (∀ w', Calls Tryz.prog 72 #[.agg #[.bool s, .int .u64 (a : Int), .int .u64 (b : Int), .int .u64 (c : Int), .int .u64 (d : Int)]] w' (BoolRet p4 w')) := fun w' => by rw [← hp4]; exact rf_small _ _ _ _ _ _ w' kx
 have k5 : Hid (∀ w', Calls Tryz.prog 72 #[.agg #[.bool t, .int .u64 (e : Int), .int .u64 (f : Int), .int .u64 (g : Int), .int .u64 (h : Int)]] w' (BoolRet p5 w')) := fun w' => by rw [← hp5]; exact rf_small _ _ _ _ _ _ w' ky
 cases p4
 · have hv0 : v = false := by
     rw [← hv, decide_eq_false_iff_not]
     exact fun q => (of_decide_eq_false hp4) q.2.2.2.1
   subst hv0
   clear hv hx hy hp1 hp2 hsg g1 g2 kx ky hyp hp4 hp5 k5
   go_enter Tryz.func43, Tryz.ntmps43
   go_upto_region 1 with fail
   rw [← HW.out]
   clear HW
   go_wp2_with (first
     | (go_at_call 50; (with_reducible refine (k1.out _).mono ?_); rintro e' w1 ⟨rfl, hE⟩; have H0 := H0.ext hE; have HX := hide (HX.out.trans hE); obtain ⟨c0, c1, c2, c3, c4, c5, c6, c7, c8, c9, cf0, cf1, cf2, cf3, cf4, cf5, cf6, cf7, cf8, cf9⟩ := ten_cells H0; clear hE)
     | (go_at_call 50; (with_reducible refine (k2.out _).mono ?_); rintro e' w2 ⟨rfl, hE⟩; have H0 := H0.ext hE; have HX := hide (HX.out.trans hE); obtain ⟨c0, c1, c2, c3, c4, c5, c6, c7, c8, c9, cf0, cf1, cf2, cf3, cf4, cf5, cf6, cf7, cf8, cf9⟩ := ten_cells H0; clear hE)
     | (go_at_call 51; (with_reducible refine (k3.out _).mono ?_); rintro e' w3 ⟨rfl, hE⟩; have H0 := H0.ext hE; have HX := hide (HX.out.trans hE); obtain ⟨c0, c1, c2, c3, c4, c5, c6, c7, c8, c9, cf0, cf1, cf2, cf3, cf4, cf5, cf6, cf7, cf8, cf9⟩ := ten_cells H0; clear hE)
     | (go_at_call 72; (with_reducible refine (k4.out _).mono ?_); rintro e' w4 ⟨rfl, hE⟩; have H0 := H0.ext hE; have HX := hide (HX.out.trans hE); obtain ⟨c0, c1, c2, c3, c4, c5, c6, c7, c8, c9, cf0, cf1, cf2, cf3, cf4, cf5, cf6, cf7, cf8, cf9⟩ := ten_cells H0; clear hE))
   all_goals go_ret
   all_goals exact ⟨rfl, HX.out⟩
 cases p5
 · have hv0 : v = false := by
     rw [← hv, decide_eq_false_iff_not]
     exact fun q => (of_decide_eq_false hp5) q.2.2.2.2.1
   subst hv0
   clear hv hx hy hp1 hp2 hsg g1 g2 kx ky hyp hp4 hp5
   go_enter Tryz.func43, Tryz.ntmps43
   go_upto_region 1 with fail
   rw [← HW.out]
   clear HW
   go_wp2_with (first
     | (go_at_call 50; (with_reducible refine (k1.out _).mono ?_); rintro e' w1 ⟨rfl, hE⟩; have H0 := H0.ext hE; have HX := hide (HX.out.trans hE); obtain ⟨c0, c1, c2, c3, c4, c5, c6, c7, c8, c9, cf0, cf1, cf2, cf3, cf4, cf5, cf6, cf7, cf8, cf9⟩ := ten_cells H0; clear hE)
     | (go_at_call 50; (with_reducible refine (k2.out _).mono ?_); rintro e' w2 ⟨rfl, hE⟩; have H0 := H0.ext hE; have HX := hide (HX.out.trans hE); obtain ⟨c0, c1, c2, c3, c4, c5, c6, c7, c8, c9, cf0, cf1, cf2, cf3, cf4, cf5, cf6, cf7, cf8, cf9⟩ := ten_cells H0; clear hE)
     | (go_at_call 51; (with_reducible refine (k3.out _).mono ?_); rintro e' w3 ⟨rfl, hE⟩; have H0 := H0.ext hE; have HX := hide (HX.out.trans hE); obtain ⟨c0, c1, c2, c3, c4, c5, c6, c7, c8, c9, cf0, cf1, cf2, cf3, cf4, cf5, cf6, cf7, cf8, cf9⟩ := ten_cells H0; clear hE)
     | (go_at_call 72; (with_reducible refine (k4.out _).mono ?_); rintro e' w4 ⟨rfl, hE⟩; have H0 := H0.ext hE; have HX := hide (HX.out.trans hE); obtain ⟨c0, c1, c2, c3, c4, c5, c6, c7, c8, c9, cf0, cf1, cf2, cf3, cf4, cf5, cf6, cf7, cf8, cf9⟩ := ten_cells H0; clear hE)
     | (go_at_call 72; (with_reducible refine (k5.out _).mono ?_); rintro e' w5 ⟨rfl, hE⟩; have H0 := H0.ext hE; have HX := hide (HX.out.trans hE); obtain ⟨c0, c1, c2, c3, c4, c5, c6, c7, c8, c9, cf0, cf1, cf2, cf3, cf4, cf5, cf6, cf7, cf8, cf9⟩ := ten_cells H0; clear hE))
   all_goals go_ret
   all_goals exact ⟨rfl, HX.out⟩
 have hvv : v = decide ((Int.gcd (x.natAbs : Int) y : Int) = 1) := by
   rw [← hv, decide_eq_decide]
   have e1 : Int.gcd (x.natAbs : Int) y = Int.gcd x y := by simp [Int.gcd]
   rw [e1]
   constructor
   · intro q; have := q.2.2.2.2.2; omega
   · intro q; exact ⟨g1, g2, hyp, of_decide_eq_true hp4, of_decide_eq_true hp5, by omega⟩
 obtain ⟨s8, a8, b8, c8', d8, k8⟩ : ∃ (s : Bool) (a b c d : Nat), IsC s a b c d (Int.gcd (x.natAbs : Int) y : Int) := isC_some _ (by
   have h4 : Int.gcd (x.natAbs : Int) y ≤ y.natAbs := Nat.gcd_le_right _ (by omega)
   have h5 := of_decide_eq_true hp5
   omega)
 have ka : Hid (∀ w', Calls Tryz.prog 53 #[.agg #[.bool s, .int .u64 (a : Int), .int .u64 (b : Int), .int .u64 (c : Int), .int .u64 (d : Int)]] w' (FixRet false a b c d w')) := fun w' => (rf_abs _ _ _ _ _ _ w' hx).mono (fun _ _ q => fixed (abs_isC hx) q)
 have kg : Hid (∀ w', Calls Tryz.prog 52 #[.agg #[.bool false, .int .u64 (a : Int), .int .u64 (b : Int), .int .u64 (c : Int), .int .u64 (d : Int)], .agg #[.bool t, .int .u64 (e : Int), .int .u64 (f : Int), .int .u64 (g : Int), .int .u64 (h : Int)]] w' (FixRet s8 a8 b8 c8' d8 w')) := fun w' => (rf_gcd _ _ _ _ _ _ _ _ _ _ _ _ w' (abs_isC hx) ky hyp).mono (fun _ _ q => fixed k8 q)
 have k9 : Hid (∀ w', Calls Tryz.prog 41 #[] w' (FixRet false 1 0 0 0 w')) := fun w' => (rf_one w').mono (fun _ _ q => fixed one_isC q)
 have hq : ∀ w', (binOp .eql 25 (.agg #[.bool s8, .int .u64 (a8 : Int), .int .u64 (b8 : Int), .int .u64 (c8' : Int), .int .u64 (d8 : Int)]) (.agg #[.bool false, .int .u64 1, .int .u64 0, .int .u64 0, .int .u64 0])).run Tryz.prog w' = .ok (.bool (decide ((Int.gcd (x.natAbs : Int) y : Int) = 1))) w' := fun w' => eqW k8 one_isC w'
 rw [← hvv] at hq
 have h3' : ¬ (sg ≤ 0) := h3
 clear hv hvv hp1 hp2 hsg g1 g2 kx ky hyp hp4 hp5 hx hy k8 h3
 go_enter Tryz.func43, Tryz.ntmps43
 go_upto_region 1 with fail
 rw [← HW.out]
 clear HW
 go_upto_region 3 with (first
   | (go_at_call 50; (with_reducible refine (k1.out _).mono ?_); rintro e' w1 ⟨rfl, hE⟩; have H0 := H0.ext hE; have HX := hide (HX.out.trans hE); obtain ⟨c0, c1, c2, c3, c4, c5, c6, c7, c8, c9, cf0, cf1, cf2, cf3, cf4, cf5, cf6, cf7, cf8, cf9⟩ := ten_cells H0; clear hE)
   | (go_at_call 50; (with_reducible refine (k2.out _).mono ?_); rintro e' w2 ⟨rfl, hE⟩; have H0 := H0.ext hE; have HX := hide (HX.out.trans hE); obtain ⟨c0, c1, c2, c3, c4, c5, c6, c7, c8, c9, cf0, cf1, cf2, cf3, cf4, cf5, cf6, cf7, cf8, cf9⟩ := ten_cells H0; clear hE)
   | (go_at_call 51; (with_reducible refine (k3.out _).mono ?_); rintro e' w3 ⟨rfl, hE⟩; have H0 := H0.ext hE; have HX := hide (HX.out.trans hE); obtain ⟨c0, c1, c2, c3, c4, c5, c6, c7, c8, c9, cf0, cf1, cf2, cf3, cf4, cf5, cf6, cf7, cf8, cf9⟩ := ten_cells H0; clear hE)
   | (go_at_call 72; (with_reducible refine (k4.out _).mono ?_); rintro e' w4 ⟨rfl, hE⟩; have H0 := H0.ext hE; have HX := hide (HX.out.trans hE); obtain ⟨c0, c1, c2, c3, c4, c5, c6, c7, c8, c9, cf0, cf1, cf2, cf3, cf4, cf5, cf6, cf7, cf8, cf9⟩ := ten_cells H0; clear hE)
   | (go_at_call 72; (with_reducible refine (k5.out _).mono ?_); rintro e' w5 ⟨rfl, hE⟩; have H0 := H0.ext hE; have HX := hide (HX.out.trans hE); obtain ⟨c0, c1, c2, c3, c4, c5, c6, c7, c8, c9, cf0, cf1, cf2, cf3, cf4, cf5, cf6, cf7, cf8, cf9⟩ := ten_cells H0; clear hE))
 go_region_held3 (fun w' => w'.cell? ⟨w.heap.size, 0, none⟩ = some (.bool s) ∧ w'.cell? ⟨w.heap.size, 1, none⟩ = some (.int .u64 (a : Int)) ∧ w'.cell? ⟨w.heap.size, 2, none⟩ = some (.int .u64 (b : Int)) ∧ w'.cell? ⟨w.heap.size, 3, none⟩ = some (.int .u64 (c : Int)) ∧ w'.cell? ⟨w.heap.size, 4, none⟩ = some (.int .u64 (d : Int)) ∧ w'.cell? ⟨w.heap.size, 5, none⟩ = some (.bool t) ∧ w'.cell? ⟨w.heap.size, 6, none⟩ = some (.int .u64 (e : Int)) ∧ w'.cell? ⟨w.heap.size, 7, none⟩ = some (.int .u64 (f : Int)) ∧ w'.cell? ⟨w.heap.size, 8, none⟩ = some (.int .u64 (g : Int)) ∧ w'.cell? ⟨w.heap.size, 9, none⟩ = some (.int .u64 (h : Int))) (first | (with_reducible exact ⟨c0, c1, c2, c3, c4, c5, c6, c7, c8, c9⟩) | go_keep) (first
   | (go_at_call 53; (with_reducible refine (ka.out _).mono ?_); rintro e' w6 ⟨rfl, hE⟩; have H0 : Box10 w6 w.heap.size s a b c d t e f g h := (by first | exact H0.ext hE | exact H0.drew.ext hE); have HX : Hid (Ext w w6) := (by first | exact hide (HX.out.trans hE) | exact hide ((HX.out.trans (ext_drew _)).trans hE)); obtain ⟨c0, c1, c2, c3, c4, c5, c6, c7, c8, c9, cf0, cf1, cf2, cf3, cf4, cf5, cf6, cf7, cf8, cf9⟩ := ten_cells H0; clear hE)
   | (go_at_call 52; (with_reducible refine (kg.out _).mono ?_); rintro e' w7 ⟨rfl, hE⟩; have H0 : Box10 w7 w.heap.size s a b c d t e f g h := (by first | exact H0.ext hE | exact H0.drew.ext hE); have HX : Hid (Ext w w7) := (by first | exact hide (HX.out.trans hE) | exact hide ((HX.out.trans (ext_drew _)).trans hE)); obtain ⟨c0, c1, c2, c3, c4, c5, c6, c7, c8, c9, cf0, cf1, cf2, cf3, cf4, cf5, cf6, cf7, cf8, cf9⟩ := ten_cells H0; clear hE)
   | (go_at_call 41; (with_reducible refine (k9.out _).mono ?_); rintro e' w8 ⟨rfl, hE⟩; have H0 : Box10 w8 w.heap.size s a b c d t e f g h := (by first | exact H0.ext hE | exact H0.drew.ext hE); have HX : Hid (Ext w w8) := (by first | exact hide (HX.out.trans hE) | exact hide ((HX.out.trans (ext_drew _)).trans hE)); obtain ⟨c0, c1, c2, c3, c4, c5, c6, c7, c8, c9, cf0, cf1, cf2, cf3, cf4, cf5, cf6, cf7, cf8, cf9⟩ := ten_cells H0; clear hE))
 all_goals go_wp2_with fail
 all_goals go_ret
 all_goals exact ⟨rfl, HX.out⟩
open Go Go.RowKit
set_option maxRecDepth 100000 in
set_option maxHeartbeats 4000000 in
theorem rf_of (v : Int) (w : World) (v1 : -9223372036854775808 ≤ v) (v2 : v ≤ 9223372036854775807) : Calls Tryz.prog 17 #[.int .i64 v] w (RatRet v 1 w) := by
 have P0 : Box10 (w.alloc (.cells #[.bool false, .int .u64 0, .int .u64 0, .int .u64 0, .int .u64 0, .bool false, .int .u64 0, .int .u64 0, .int .u64 0, .int .u64 0] 27)) w.heap.size false 0 0 0 0 false 0 0 0 0 := heap_alloc_new w _
 have EE := ext_alloc w (.cells #[.bool false, .int .u64 0, .int .u64 0, .int .u64 0, .int .u64 0, .bool false, .int .u64 0, .int .u64 0, .int .u64 0, .int .u64 0] 27)
 obtain ⟨W, hW⟩ : ∃ W, W = w.alloc (.cells #[.bool false, .int .u64 0, .int .u64 0, .int .u64 0, .int .u64 0, .bool false, .int .u64 0, .int .u64 0, .int .u64 0, .int .u64 0] 27) := ⟨_, rfl⟩
 rw [← hW] at P0 EE
 have HW := hide hW
 clear hW
 have k1 : Hid (∀ w', Calls Tryz.prog 14 #[.int .i64 v] w' (WideOnly v w')) := fun w' => ref_ofi v w' v1 v2
 have k2 : Hid (∀ w', Calls Tryz.prog 41 #[] w' (WideOnly 1 w')) := fun w' => rf_one w'
 clear v1 v2
 go_enter Tryz.func17, Tryz.ntmps17
 go_upto_region 1 with fail
 rw [← HW.out]
 clear HW
 go_wp2_with (first
   | (go_at_call 14; (with_reducible refine (k1.out _).mono ?_); rintro e' w2 ⟨s1, a1, b1, c1, d1, rfl, C1, hE⟩; have K1 := hide C1; have P0 := P0.ext hE; have EE := EE.trans hE; obtain ⟨i0, i1, i2, i3, i4, i5, i6, i7, i8, i9, j0, j1, j2, j3, j4, j5, j6, j7, j8, j9⟩ := ten_cells P0; clear hE C1)
   | (go_at_call 41; (with_reducible refine (k2.out _).mono ?_); rintro e' w3 ⟨s2, a2, b2, c2, d2, rfl, C2, hE⟩; have K2 := hide C2; have P0 := P0.ext hE; have EE := EE.trans hE; obtain ⟨i0, i1, i2, i3, i4, i5, i6, i7, i8, i9, j0, j1, j2, j3, j4, j5, j6, j7, j8, j9⟩ := ten_cells P0; clear hE C2))
 all_goals exact bodyPost_ret (v := .agg #[.bool s1, .int .u64 (a1 : Int), .int .u64 (b1 : Int), .int .u64 (c1 : Int), .int .u64 (d1 : Int), .bool s2, .int .u64 (a2 : Int), .int .u64 (b2 : Int), .int .u64 (c2 : Int), .int .u64 (d2 : Int)]) (by simp [results, Tryz.results17, go_sem, i0, i1, i2, i3, i4, i5, i6, i7, i8, i9]) rfl ⟨s1, a1, b1, c1, d1, s2, a2, b2, c2, d2, rfl, K1.out, K2.out, ext_ten EE (Nat.le_refl _) _ _ _ _ _ _ _ _ _ _⟩
set_option maxRecDepth 100000 in
set_option maxHeartbeats 4000000 in
theorem rf_clean (s t : Bool) (a b c d e f g h : Nat) (x y : Int) (w : World) (hx : IsW s a b c d x) (hy : IsW t e f g h y) (v : Bool) (hv : decide (RatOk s x t y) = v) :
   Calls Tryz.prog 30 #[.agg #[.bool s, .int .u64 (a : Int), .int .u64 (b : Int), .int .u64 (c : Int), .int .u64 (d : Int), .bool t, .int .u64 (e : Int), .int .u64 (f : Int), .int .u64 (g : Int), .int .u64 (h : Int)]] w (RatRet (cN v x) (cD v y) w) := by
 have H2 := two_blocks w (.cells #[.bool s, .int .u64 (a : Int), .int .u64 (b : Int), .int .u64 (c : Int), .int .u64 (d : Int), .bool t, .int .u64 (e : Int), .int .u64 (f : Int), .int .u64 (g : Int), .int .u64 (h : Int)] 27) (.cells #[.bool false, .int .u64 0, .int .u64 0, .int .u64 0, .int .u64 0, .bool false, .int .u64 0, .int .u64 0, .int .u64 0, .int .u64 0] 27)
 have EE := hide ((ext_alloc w (.cells #[.bool s, .int .u64 (a : Int), .int .u64 (b : Int), .int .u64 (c : Int), .int .u64 (d : Int), .bool t, .int .u64 (e : Int), .int .u64 (f : Int), .int .u64 (g : Int), .int .u64 (h : Int)] 27)).trans (ext_alloc _ (.cells #[.bool false, .int .u64 0, .int .u64 0, .int .u64 0, .int .u64 0, .bool false, .int .u64 0, .int .u64 0, .int .u64 0, .int .u64 0] 27)))
 obtain ⟨W, hW⟩ : ∃ W, W = (w.alloc (.cells #[.bool s, .int .u64 (a : Int), .int .u64 (b : Int), .int .u64 (c : Int), .int .u64 (d : Int), .bool t, .int .u64 (e : Int), .int .u64 (f : Int), .int .u64 (g : Int), .int .u64 (h : Int)] 27)).alloc (.cells #[.bool false, .int .u64 0, .int .u64 0, .int .u64 0, .int .u64 0, .bool false, .int .u64 0, .int .u64 0, .int .u64 0, .int .u64 0] 27) := ⟨_, rfl⟩
 rw [← hW] at H2 EE
 have P0 : Box10 W w.heap.size s a b c d t e f g h := H2.1
 have P1 : Box10 W (w.heap.size + 1) false 0 0 0 0 false 0 0 0 0 := H2.2
 have HW := hide hW
 have kv : Hid (∀ w', Calls Tryz.prog 43 #[.agg #[.bool s, .int .u64 (a : Int), .int .u64 (b : Int), .int .u64 (c : Int), .int .u64 (d : Int), .bool t, .int .u64 (e : Int), .int .u64 (f : Int), .int .u64 (g : Int), .int .u64 (h : Int)]] w' (BoolRet v w')) := fun w' => rf_valid s t a b c d e f g h x y w' hx hy v hv
 have KK : Hid (v = true → IsC s a b c d x ∧ IsC t e f g h y) := by
   intro h1
   rw [h1] at hv
   have h2 := of_decide_eq_true hv
   exact ⟨⟨hx, h2.1⟩, ⟨hy, h2.2.1⟩⟩
 clear hW H2 hv hx hy
 obtain ⟨c0, c1, c2, c3, c4, c5, c6, c7, c8, c9, _⟩ := ten_cells P0
 go_enter Tryz.func30, Tryz.ntmps30
 go_upto_region 1 with fail
 rw [← HW.out]
 clear HW
 cases v
 · go_wp2_with (first
     | (go_at_call 43; (with_reducible refine (kv.out _).mono ?_); rintro e' w2 ⟨rfl, hE⟩; have P1 := P1.ext hE; have EE := hide (EE.out.trans hE); clear hE)
     | (go_at_call 41; refine (rf_one _).mono ?_; rintro e' w3 ⟨t1, e1, f1, g1, h1, rfl, D1, hE⟩; have K2 := hide D1; have P1 := P1.ext hE; have EE := hide (EE.out.trans hE); obtain ⟨i0, i1, i2, i3, i4, i5, i6, i7, i8, i9, j0, j1, j2, j3, j4, j5, j6, j7, j8, j9⟩ := ten_cells P1; clear hE D1))
   all_goals exact bodyPost_ret (v := .agg #[.bool false, .int .u64 0, .int .u64 0, .int .u64 0, .int .u64 0, .bool t1, .int .u64 (e1 : Int), .int .u64 (f1 : Int), .int .u64 (g1 : Int), .int .u64 (h1 : Int)]) (by simp [results, Tryz.results30, go_sem, i0, i1, i2, i3, i4, i5, i6, i7, i8, i9]) rfl ⟨false, 0, 0, 0, 0, t1, e1, f1, g1, h1, rfl, isC_zero, K2.out, ext_ten EE.out (by omega) _ _ _ _ _ _ _ _ _ _⟩
 · obtain ⟨K1, K2⟩ := KK.out rfl
   have K1 := hide K1
   have K2 := hide K2
   go_wp2_with (go_at_call 43; (with_reducible refine (kv.out _).mono ?_); rintro e' w2 ⟨rfl, hE⟩; have P0 := P0.ext hE; have P1 := P1.ext hE; have EE := hide (EE.out.trans hE); obtain ⟨c0, c1, c2, c3, c4, c5, c6, c7, c8, c9, _⟩ := ten_cells P0; obtain ⟨i0, i1, i2, i3, i4, i5, i6, i7, i8, i9, j0, j1, j2, j3, j4, j5, j6, j7, j8, j9⟩ := ten_cells P1; clear hE)
   all_goals exact bodyPost_ret (v := .agg #[.bool s, .int .u64 (a : Int), .int .u64 (b : Int), .int .u64 (c : Int), .int .u64 (d : Int), .bool t, .int .u64 (e : Int), .int .u64 (f : Int), .int .u64 (g : Int), .int .u64 (h : Int)]) (by simp [results, Tryz.results30, go_sem, i0, i1, i2, i3, i4, i5, i6, i7, i8, i9]) rfl ⟨s, a, b, c, d, t, e, f, g, h, rfl, K1.out, K2.out, ext_ten EE.out (by omega) _ _ _ _ _ _ _ _ _ _⟩
end
section
open Go Go.RowKit
set_option maxRecDepth 100000 in
set_option maxHeartbeats 16000000 in
theorem rf_compare (s1 : Bool) (a1 b1 c1 d1 : Nat) (t1 : Bool) (e1 f1 g1 h1 : Nat) (s2 : Bool) (a2 b2 c2 d2 : Nat) (t2 : Bool) (e2 f2 g2 h2 : Nat) (x1 y1 x2 y2 : Int) (w : World) (hx1 : IsW s1 a1 b1 c1 d1 x1) (hy1 : IsW t1 e1 f1 g1 h1 y1) (hx2 : IsW s2 a2 b2 c2 d2 x2) (hy2 : IsW t2 e2 f2 g2 h2 y2) (v1 v2 : Bool) (hv1 : decide (RatOk s1 x1 t1 y1) = v1) (hv2 : decide (RatOk s2 x2 t2 y2) = v2) :
   Calls Tryz.prog 12 #[.agg #[.bool s1, .int .u64 (a1 : Int), .int .u64 (b1 : Int), .int .u64 (c1 : Int), .int .u64 (d1 : Int), .bool t1, .int .u64 (e1 : Int), .int .u64 (f1 : Int), .int .u64 (g1 : Int), .int .u64 (h1 : Int)], .agg #[.bool s2, .int .u64 (a2 : Int), .int .u64 (b2 : Int), .int .u64 (c2 : Int), .int .u64 (d2 : Int), .bool t2, .int .u64 (e2 : Int), .int .u64 (f2 : Int), .int .u64 (g2 : Int), .int .u64 (h2 : Int)]] w (IntRet .i64 (cmpI (cN v1 x1 * cD v2 y2) (cN v2 x2 * cD v1 y1)) w) := by
 have H2 := two_blocks w (.cells #[.bool s1, .int .u64 (a1 : Int), .int .u64 (b1 : Int), .int .u64 (c1 : Int), .int .u64 (d1 : Int), .bool t1, .int .u64 (e1 : Int), .int .u64 (f1 : Int), .int .u64 (g1 : Int), .int .u64 (h1 : Int)] 27) (.cells #[.bool s2, .int .u64 (a2 : Int), .int .u64 (b2 : Int), .int .u64 (c2 : Int), .int .u64 (d2 : Int), .bool t2, .int .u64 (e2 : Int), .int .u64 (f2 : Int), .int .u64 (g2 : Int), .int .u64 (h2 : Int)] 27)
 have EE := (ext_alloc w (.cells #[.bool s1, .int .u64 (a1 : Int), .int .u64 (b1 : Int), .int .u64 (c1 : Int), .int .u64 (d1 : Int), .bool t1, .int .u64 (e1 : Int), .int .u64 (f1 : Int), .int .u64 (g1 : Int), .int .u64 (h1 : Int)] 27)).trans (ext_alloc _ (.cells #[.bool s2, .int .u64 (a2 : Int), .int .u64 (b2 : Int), .int .u64 (c2 : Int), .int .u64 (d2 : Int), .bool t2, .int .u64 (e2 : Int), .int .u64 (f2 : Int), .int .u64 (g2 : Int), .int .u64 (h2 : Int)] 27))
 obtain ⟨W, hW⟩ : ∃ W, W = (w.alloc (.cells #[.bool s1, .int .u64 (a1 : Int), .int .u64 (b1 : Int), .int .u64 (c1 : Int), .int .u64 (d1 : Int), .bool t1, .int .u64 (e1 : Int), .int .u64 (f1 : Int), .int .u64 (g1 : Int), .int .u64 (h1 : Int)] 27)).alloc (.cells #[.bool s2, .int .u64 (a2 : Int), .int .u64 (b2 : Int), .int .u64 (c2 : Int), .int .u64 (d2 : Int), .bool t2, .int .u64 (e2 : Int), .int .u64 (f2 : Int), .int .u64 (g2 : Int), .int .u64 (h2 : Int)] 27) := ⟨_, rfl⟩
 rw [← hW] at H2 EE
 have P1 : Box10 W w.heap.size s1 a1 b1 c1 d1 t1 e1 f1 g1 h1 := H2.1
 have P2 : Box10 W (w.heap.size + 1) s2 a2 b2 c2 d2 t2 e2 f2 g2 h2 := H2.2
 have HW := hide hW
 clear hW H2
 have k1 : Hid (∀ w', Calls Tryz.prog 30 #[.agg #[.bool s1, .int .u64 (a1 : Int), .int .u64 (b1 : Int), .int .u64 (c1 : Int), .int .u64 (d1 : Int), .bool t1, .int .u64 (e1 : Int), .int .u64 (f1 : Int), .int .u64 (g1 : Int), .int .u64 (h1 : Int)]] w' (RatRet (cN v1 x1) (cD v1 y1) w')) := fun w' => rf_clean _ _ _ _ _ _ _ _ _ _ x1 y1 w' hx1 hy1 v1 hv1
 have k2 : Hid (∀ w', Calls Tryz.prog 30 #[.agg #[.bool s2, .int .u64 (a2 : Int), .int .u64 (b2 : Int), .int .u64 (c2 : Int), .int .u64 (d2 : Int), .bool t2, .int .u64 (e2 : Int), .int .u64 (f2 : Int), .int .u64 (g2 : Int), .int .u64 (h2 : Int)]] w' (RatRet (cN v2 x2) (cD v2 y2) w')) := fun w' => rf_clean _ _ _ _ _ _ _ _ _ _ x2 y2 w' hx2 hy2 v2 hv2
 obtain ⟨bn1, bd1, pd1, _⟩ := cBound hv1
 obtain ⟨bn2, bd2, pd2, _⟩ := cBound hv2
 obtain ⟨r, hr⟩ : ∃ r, cmpI (cN v1 x1 * cD v2 y2) (cN v2 x2 * cD v1 y1) = r := ⟨_, rfl⟩
 rw [hr]
 have HR := hide hr
 clear hr hv1 hv2 hx1 hy1 hx2 hy2
 obtain ⟨n1, hn1⟩ : ∃ n, cN v1 x1 = n := ⟨_, rfl⟩
 obtain ⟨m1, hm1⟩ : ∃ n, cD v1 y1 = n := ⟨_, rfl⟩
 obtain ⟨n2, hn2⟩ : ∃ n, cN v2 x2 = n := ⟨_, rfl⟩
 obtain ⟨m2, hm2⟩ : ∃ n, cD v2 y2 = n := ⟨_, rfl⟩
 rw [hn1] at k1 HR bn1
 rw [hm1] at k1 HR bd1
 rw [hn2] at k2 HR bn2
 rw [hm2] at k2 HR bd2
 have B12 := hide (mul_bound bn1 bd2)
 have B21 := hide (mul_bound bn2 bd1)
 clear hn1 hm1 hn2 hm2 pd1 pd2 bn1 bn2 bd1 bd2
 obtain ⟨p0, p1, p2, p3, p4, p5, p6, p7, p8, p9, pf0, pf1, pf2, pf3, pf4, pf5, pf6, pf7, pf8, pf9⟩ := ten_cells P1
 obtain ⟨q0, q1, q2, q3, q4, q5, q6, q7, q8, q9, qf0, qf1, qf2, qf3, qf4, qf5, qf6, qf7, qf8, qf9⟩ := ten_cells P2
 go_enter Tryz.func12, Tryz.ntmps12
 go_upto_region 1 with fail
 rw [← HW.out]
 clear HW
 go_cut [] (fun wx => PairR w n1 m1 n2 m2 wx)
 case first =>
   go_region_with (first
     | (go_at_call 30; (with_reducible refine (k1.out _).mono ?_); rintro e' w5 ⟨s5, a5, b5, c5, d5, t5, e5, f5, g5, h5, rfl, hC5, hD5, hE⟩; have P1 : Box10 w5 w.heap.size s1 a1 b1 c1 d1 t1 e1 f1 g1 h1 := (by first | exact P1.ext hE | exact P1.drew.ext hE); have P2 : Box10 w5 (w.heap.size + 1) s2 a2 b2 c2 d2 t2 e2 f2 g2 h2 := (by first | exact P2.ext hE | exact P2.drew.ext hE); have EE : Ext w w5 := (by first | exact EE.trans hE | exact (EE.trans (ext_drew _)).trans hE); obtain ⟨p0, p1, p2, p3, p4, p5, p6, p7, p8, p9, pf0, pf1, pf2, pf3, pf4, pf5, pf6, pf7, pf8, pf9⟩ := ten_cells P1; obtain ⟨q0, q1, q2, q3, q4, q5, q6, q7, q8, q9, qf0, qf1, qf2, qf3, qf4, qf5, qf6, qf7, qf8, qf9⟩ := ten_cells P2; clear hE)
     | (go_at_call 30; (with_reducible refine (k2.out _).mono ?_); rintro e' w6 ⟨s6, a6, b6, c6, d6, t6, e6, f6, g6, h6, rfl, hC6, hD6, hE⟩; have P1 : Box10 w6 w.heap.size s1 a1 b1 c1 d1 t1 e1 f1 g1 h1 := (by first | exact P1.ext hE | exact P1.drew.ext hE); have P2 : Box10 w6 (w.heap.size + 1) s2 a2 b2 c2 d2 t2 e2 f2 g2 h2 := (by first | exact P2.ext hE | exact P2.drew.ext hE); have EE : Ext w w6 := (by first | exact EE.trans hE | exact (EE.trans (ext_drew _)).trans hE); obtain ⟨p0, p1, p2, p3, p4, p5, p6, p7, p8, p9, pf0, pf1, pf2, pf3, pf4, pf5, pf6, pf7, pf8, pf9⟩ := ten_cells P1; obtain ⟨q0, q1, q2, q3, q4, q5, q6, q7, q8, q9, qf0, qf1, qf2, qf3, qf4, qf5, qf6, qf7, qf8, qf9⟩ := ten_cells P2; clear hE))
   all_goals go_wp2_with fail
   all_goals go_meet
   all_goals exact ⟨s5, a5, b5, c5, d5, t5, e5, f5, g5, h5, s6, a6, b6, c6, d6, t6, e6, f6, g6, h6, hC5, hD5, hC6, hD6, (P1.put).far10 (by omega) _ _ _ _ _ _ _ _ _ _, (P2.far10 (by omega) _ _ _ _ _ _ _ _ _ _).put, ext_ten (ext_ten EE (Nat.le_refl _) _ _ _ _ _ _ _ _ _ _) (by omega) _ _ _ _ _ _ _ _ _ _⟩
 case rest =>
   clear P1 P2 EE
   obtain ⟨s1, a1, b1, c1, d1, t1, e1, f1, g1, h1, s2, a2, b2, c2, d2, t2, e2, f2, g2, h2, C1, D1, C2, D2, P1, P2, EE⟩ := hcut
   have K1 := hide C1
   have L1 := hide D1
   have K2 := hide C2
   have L2 := hide D2
   clear C1 D1 C2 D2 k1 k2
   have kc : Hid (∀ (s5 : Bool) (a5 b5 c5 d5 : Nat) (s6 : Bool) (a6 b6 c6 d6 : Nat) w', IsC s5 a5 b5 c5 d5 (n1 * m2) → IsC s6 a6 b6 c6 d6 (n2 * m1) → Calls Tryz.prog 31 #[.agg #[.bool s5, .int .u64 (a5 : Int), .int .u64 (b5 : Int), .int .u64 (c5 : Int), .int .u64 (d5 : Int)], .agg #[.bool s6, .int .u64 (a6 : Int), .int .u64 (b6 : Int), .int .u64 (c6 : Int), .int .u64 (d6 : Int)]] w' (IntRet .i64 r w')) := fun s5 a5 b5 c5 d5 s6 a6 b6 c6 d6 w' h5 h6 => by rw [← HR.out]; exact ref_compare _ _ _ _ _ _ _ _ _ _ _ _ w' h5.1 h6.1
   obtain ⟨p0, p1, p2, p3, p4, p5, p6, p7, p8, p9, pf0, pf1, pf2, pf3, pf4, pf5, pf6, pf7, pf8, pf9⟩ := ten_cells P1
   obtain ⟨q0, q1, q2, q3, q4, q5, q6, q7, q8, q9, qf0, qf1, qf2, qf3, qf4, qf5, qf6, qf7, qf8, qf9⟩ := ten_cells P2
   go_upto_region 3 with (go_at_call 28; refine (ref_wmul s1 t2 a1 b1 c1 d1 e2 f2 g2 h2 n1 m2 _ K1.out.1 L2.out.1).mono ?_; intro e' w7 hr7; obtain ⟨s5, a5, b5, c5, d5, rfl, C5, hE⟩ := wide_ret hr7 B12.out; have P1 := P1.ext hE; have P2 := P2.ext hE; have EE := EE.trans hE; clear hE hr7)
   have K5 := hide C5
   have B5 : Box (w7.alloc (.cells #[.bool s5, .int .u64 (a5 : Int), .int .u64 (b5 : Int), .int .u64 (c5 : Int), .int .u64 (d5 : Int)] 25)) w7.heap.size s5 a5 b5 c5 d5 := heap_alloc_new w7 _
   have hE := ext_alloc w7 (.cells #[.bool s5, .int .u64 (a5 : Int), .int .u64 (b5 : Int), .int .u64 (c5 : Int), .int .u64 (d5 : Int)] 25)
   have P1 := P1.ext hE
   have P2 := P2.ext hE
   have EE := EE.trans hE
   generalize w7.alloc (.cells #[.bool s5, .int .u64 (a5 : Int), .int .u64 (b5 : Int), .int .u64 (c5 : Int), .int .u64 (d5 : Int)] 25) = W7 at *
   generalize w7.heap.size = g7 at *
   clear C5 hE
   obtain ⟨p0, p1, p2, p3, p4, p5, p6, p7, p8, p9, pf0, pf1, pf2, pf3, pf4, pf5, pf6, pf7, pf8, pf9⟩ := ten_cells P1
   obtain ⟨q0, q1, q2, q3, q4, q5, q6, q7, q8, q9, qf0, qf1, qf2, qf3, qf4, qf5, qf6, qf7, qf8, qf9⟩ := ten_cells P2
   go_upto_region 4 with (go_at_call 28; refine (ref_wmul s2 t1 a2 b2 c2 d2 e1 f1 g1 h1 n2 m1 _ K2.out.1 L1.out.1).mono ?_; intro e' w8 hr8; obtain ⟨s6, a6, b6, c6, d6, rfl, C6, hE⟩ := wide_ret hr8 B21.out; have B5 := B5.ext hE; have EE := EE.trans hE; clear hE hr8)
   have K6 := hide C6
   have B6 : Box (w8.alloc (.cells #[.bool s6, .int .u64 (a6 : Int), .int .u64 (b6 : Int), .int .u64 (c6 : Int), .int .u64 (d6 : Int)] 25)) w8.heap.size s6 a6 b6 c6 d6 := heap_alloc_new w8 _
   have hE := ext_alloc w8 (.cells #[.bool s6, .int .u64 (a6 : Int), .int .u64 (b6 : Int), .int .u64 (c6 : Int), .int .u64 (d6 : Int)] 25)
   have B5 := B5.ext hE
   have EE := EE.trans hE
   generalize w8.alloc (.cells #[.bool s6, .int .u64 (a6 : Int), .int .u64 (b6 : Int), .int .u64 (c6 : Int), .int .u64 (d6 : Int)] 25) = W8 at *
   generalize w8.heap.size = g8 at *
   clear C6 hE
   obtain ⟨c0, c1', c2', c3, c4, _⟩ := five_cells B5
   obtain ⟨d0, d1', d2', d3, d4, _⟩ := five_cells B6
   go_wp2_with (go_at_call 31; refine (kc.out _ _ _ _ _ _ _ _ _ _ _ K5.out K6.out).mono ?_; rintro e' w9 ⟨rfl, hE⟩; have EE := EE.trans hE; clear hE)
   all_goals go_ret
   all_goals exact ⟨rfl, EE⟩
end
section
open Go Go.RowKit Go.Sort
theorem F256.mk {z : Int} (h : z.natAbs < 170141183460469231731687303715884105728) : F256 z := by unfold F256; omega
theorem Frac.fn {n d : Int} (h : Frac n d) : F256 n := F256.mk h.2.1
theorem Frac.fd {n d : Int} (h : Frac n d) : F256 d := F256.mk h.2.2.1
theorem Frac.ok {n d : Int} (h : Frac n d) : decide (RatOk (sg n) n (sg d) d) = true := decide_eq_true ⟨(isC_of h.fn).2, (isC_of h.fd).2, h⟩
theorem ret_make {o : Bool} {n d : Int} {w w' : World} {e : Ending} (h : MakeRet o n d w e w') : Ret (.tuple #[.agg #[.bool (sg n), .int .u64 (l0 n : Int), .int .u64 (l1 n : Int), .int .u64 (l2 n : Int), .int .u64 (l3 n : Int), .bool (sg d), .int .u64 (l0 d : Int), .int .u64 (l1 d : Int), .int .u64 (l2 d : Int), .int .u64 (l3 d : Int)], .bool o]) w e w' := by
 obtain ⟨s, a, b, c, d', t, e', f, g, h', rfl, k1, k2, hE⟩ := h
 obtain ⟨rfl, rfl, rfl, rfl, rfl⟩ := isC_fix k1
 obtain ⟨rfl, rfl, rfl, rfl, rfl⟩ := isC_fix k2
 exact ⟨rfl, hE⟩
theorem ret_rat {n d : Int} {w w' : World} {e : Ending} (h : RatRet n d w e w') : Ret (.agg #[.bool (sg n), .int .u64 (l0 n : Int), .int .u64 (l1 n : Int), .int .u64 (l2 n : Int), .int .u64 (l3 n : Int), .bool (sg d), .int .u64 (l0 d : Int), .int .u64 (l1 d : Int), .int .u64 (l2 d : Int), .int .u64 (l3 d : Int)]) w e w' := by
 obtain ⟨s, a, b, c, d', t, e', f, g, h', rfl, k1, k2, hE⟩ := h
 obtain ⟨rfl, rfl, rfl, rfl, rfl⟩ := isC_fix k1
 obtain ⟨rfl, rfl, rfl, rfl, rfl⟩ := isC_fix k2
 exact ⟨rfl, hE⟩
def mkB (x y : Int) : Bool := decide ((numR x y).natAbs < 170141183460469231731687303715884105728 ∧ (denR x y).natAbs < 170141183460469231731687303715884105728)
theorem mkB_frac {x y : Int} (h0 : y ≠ 0) (h : mkB x y = true) : Frac (numR x y) (denR x y) := makes_frac ⟨h0, of_decide_eq_true h⟩
theorem neWs (z : Int) (w : World) : (binOp .neq 25 (.agg #[.bool (sg z), .int .u64 (l0 z : Int), .int .u64 (l1 z : Int), .int .u64 (l2 z : Int), .int .u64 (l3 z : Int)]) (.agg #[.bool (sg z), .int .u64 (l0 z : Int), .int .u64 (l1 z : Int), .int .u64 (l2 z : Int), .int .u64 (l3 z : Int)])).run Tryz.prog w = .ok (.bool false) w := neq_same _ _ _ _ _ w
theorem g_valid {n d : Int} (h : Frac n d) (w : World) : Calls Tryz.prog 42 #[.agg #[.bool (sg n), .int .u64 (l0 n : Int), .int .u64 (l1 n : Int), .int .u64 (l2 n : Int), .int .u64 (l3 n : Int), .bool (sg d), .int .u64 (l0 d : Int), .int .u64 (l1 d : Int), .int .u64 (l2 d : Int), .int .u64 (l3 d : Int)]] w (Ret (.bool true) w) :=
 r_valid _ _ _ _ _ _ _ _ _ _ n d w (isC_of h.fn).1 (isC_of h.fd).1 true h.ok
theorem g_cmp {n1 d1 n2 d2 r : Int} (h : Frac n1 d1) (k : Frac n2 d2) (e : cmpI (n1 * d2) (n2 * d1) = r) (w : World) : Calls Tryz.prog 38 #[.agg #[.bool (sg n1), .int .u64 (l0 n1 : Int), .int .u64 (l1 n1 : Int), .int .u64 (l2 n1 : Int), .int .u64 (l3 n1 : Int), .bool (sg d1), .int .u64 (l0 d1 : Int), .int .u64 (l1 d1 : Int), .int .u64 (l2 d1 : Int), .int .u64 (l3 d1 : Int)], .agg #[.bool (sg n2), .int .u64 (l0 n2 : Int), .int .u64 (l1 n2 : Int), .int .u64 (l2 n2 : Int), .int .u64 (l3 n2 : Int), .bool (sg d2), .int .u64 (l0 d2 : Int), .int .u64 (l1 d2 : Int), .int .u64 (l2 d2 : Int), .int .u64 (l3 d2 : Int)]] w (Ret (.int .i64 r) w) :=
 (r_compare _ _ _ _ _ _ _ _ _ _ _ _ _ _ _ _ _ _ _ _ n1 d1 n2 d2 w (isC_of h.fn).1 (isC_of h.fd).1 (isC_of k.fn).1 (isC_of k.fd).1 true true h.ok k.ok).mono fun _ _ q => by subst e; exact q
theorem g_of {x : Int} (h1 : -9223372036854775808 ≤ x) (h2 : x ≤ 9223372036854775807) (w : World) : Calls Tryz.prog 39 #[.int .i64 x] w (Ret (.agg #[.bool (sg x), .int .u64 (l0 x : Int), .int .u64 (l1 x : Int), .int .u64 (l2 x : Int), .int .u64 (l3 x : Int), .bool (sg 1), .int .u64 (l0 1 : Int), .int .u64 (l1 1 : Int), .int .u64 (l2 1 : Int), .int .u64 (l3 1 : Int)]) w) :=
 (r_of x w h1 h2).mono fun _ _ k => ret_rat k
theorem g_make {x y n d : Int} {o : Bool} (hx : F256 x) (hy : F256 y) (h0 : y ≠ 0) (ho : mkB x y = o) (hn : (if o then numR x y else 0) = n) (hd : (if o then denR x y else 0) = d) (w : World) : Calls Tryz.prog 36 #[.agg #[.bool (sg x), .int .u64 (l0 x : Int), .int .u64 (l1 x : Int), .int .u64 (l2 x : Int), .int .u64 (l3 x : Int)], .agg #[.bool (sg y), .int .u64 (l0 y : Int), .int .u64 (l1 y : Int), .int .u64 (l2 y : Int), .int .u64 (l3 y : Int)]] w (Ret (.tuple #[.agg #[.bool (sg n), .int .u64 (l0 n : Int), .int .u64 (l1 n : Int), .int .u64 (l2 n : Int), .int .u64 (l3 n : Int), .bool (sg d), .int .u64 (l0 d : Int), .int .u64 (l1 d : Int), .int .u64 (l2 d : Int), .int .u64 (l3 d : Int)], .bool o]) w) :=
 (r_make_yes _ _ _ _ _ _ _ _ _ _ x y w (isC_of hx) (isC_of hy) h0 o ho).mono fun _ _ k => ret_make (by subst hn hd; exact k)
theorem h_valid {n d : Int} (h : Frac n d) (w : World) : Calls Tryz.prog 43 #[.agg #[.bool (sg n), .int .u64 (l0 n : Int), .int .u64 (l1 n : Int), .int .u64 (l2 n : Int), .int .u64 (l3 n : Int), .bool (sg d), .int .u64 (l0 d : Int), .int .u64 (l1 d : Int), .int .u64 (l2 d : Int), .int .u64 (l3 d : Int)]] w (Ret (.bool true) w) :=
 rf_valid _ _ _ _ _ _ _ _ _ _ n d w (isC_of h.fn).1 (isC_of h.fd).1 true h.ok
theorem h_cmp {n1 d1 n2 d2 r : Int} (h : Frac n1 d1) (k : Frac n2 d2) (e : cmpI (n1 * d2) (n2 * d1) = r) (w : World) : Calls Tryz.prog 12 #[.agg #[.bool (sg n1), .int .u64 (l0 n1 : Int), .int .u64 (l1 n1 : Int), .int .u64 (l2 n1 : Int), .int .u64 (l3 n1 : Int), .bool (sg d1), .int .u64 (l0 d1 : Int), .int .u64 (l1 d1 : Int), .int .u64 (l2 d1 : Int), .int .u64 (l3 d1 : Int)], .agg #[.bool (sg n2), .int .u64 (l0 n2 : Int), .int .u64 (l1 n2 : Int), .int .u64 (l2 n2 : Int), .int .u64 (l3 n2 : Int), .bool (sg d2), .int .u64 (l0 d2 : Int), .int .u64 (l1 d2 : Int), .int .u64 (l2 d2 : Int), .int .u64 (l3 d2 : Int)]] w (Ret (.int .i64 r) w) :=
 (rf_compare _ _ _ _ _ _ _ _ _ _ _ _ _ _ _ _ _ _ _ _ n1 d1 n2 d2 w (isC_of h.fn).1 (isC_of h.fd).1 (isC_of k.fn).1 (isC_of k.fd).1 true true h.ok k.ok).mono fun _ _ q => by subst e; exact q
theorem h_of {x : Int} (h1 : -9223372036854775808 ≤ x) (h2 : x ≤ 9223372036854775807) (w : World) : Calls Tryz.prog 17 #[.int .i64 x] w (Ret (.agg #[.bool (sg x), .int .u64 (l0 x : Int), .int .u64 (l1 x : Int), .int .u64 (l2 x : Int), .int .u64 (l3 x : Int), .bool (sg 1), .int .u64 (l0 1 : Int), .int .u64 (l1 1 : Int), .int .u64 (l2 1 : Int), .int .u64 (l3 1 : Int)]) w) :=
 (rf_of x w h1 h2).mono fun _ _ k => ret_rat k
end
end Go.Proofs.YthlbkidgdngblaaGreat
