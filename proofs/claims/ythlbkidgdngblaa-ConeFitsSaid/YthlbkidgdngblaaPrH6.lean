/- Part 6 of what these claims stand on: contracts of the program's and the reference's functions, and plain facts. Conditions: each states its own. -/
import Derived.Test.YthlbkidgdngblaaPrH5
namespace Go.Proofs.Ythlbkidgdngblaa
set_option linter.unusedVariables false
set_option linter.unusedSimpArgs false
section
open Go Go.RowKit
set_option maxRecDepth 100000 in
set_option maxHeartbeats 16000000 in
theorem rf_make_yes (s t : Bool) (a b c d e f g h : Nat) (x y : Int) (w : World) (hx : IsC s a b c d x) (hy : IsC t e f g h y) (hy0 : y ≠ 0) (o : Bool) (ho : decide ((numR x y).natAbs < 170141183460469231731687303715884105728 ∧ (denR x y).natAbs < 170141183460469231731687303715884105728) = o) :
   Calls Try.prog 45 #[.agg #[.bool s, .int .u64 (a : Int), .int .u64 (b : Int), .int .u64 (c : Int), .int .u64 (d : Int)], .agg #[.bool t, .int .u64 (e : Int), .int .u64 (f : Int), .int .u64 (g : Int), .int .u64 (h : Int)]] w (MakeRet o (if o then numR x y else 0) (if o then denR x y else 0) w) := by
 obtain ⟨N, hN⟩ : ∃ N, (if o then numR x y else 0) = N := ⟨_, rfl⟩
 obtain ⟨D, hD⟩ : ∃ D, (if o then denR x y else 0) = D := ⟨_, rfl⟩
 rw [hN, hD]
 have HN := hide hN
 have HD := hide hD
 clear hN hD
 obtain ⟨W, hW⟩ : ∃ W, W = (((w.alloc (.cells #[.bool s, .int .u64 (a : Int), .int .u64 (b : Int), .int .u64 (c : Int), .int .u64 (d : Int)] 25)).alloc (.cells #[.bool t, .int .u64 (e : Int), .int .u64 (f : Int), .int .u64 (g : Int), .int .u64 (h : Int)] 25)).alloc (.cells #[.bool false, .int .u64 0, .int .u64 0, .int .u64 0, .int .u64 0, .bool false, .int .u64 0, .int .u64 0, .int .u64 0, .int .u64 0] 40)) := ⟨_, rfl⟩
 have H3 := three_boxes w (.cells #[.bool s, .int .u64 (a : Int), .int .u64 (b : Int), .int .u64 (c : Int), .int .u64 (d : Int)] 25) (.cells #[.bool t, .int .u64 (e : Int), .int .u64 (f : Int), .int .u64 (g : Int), .int .u64 (h : Int)] 25) (.cells #[.bool false, .int .u64 0, .int .u64 0, .int .u64 0, .int .u64 0, .bool false, .int .u64 0, .int .u64 0, .int .u64 0, .int .u64 0] 40)
 rw [← hW] at H3
 have B0 : Box W w.heap.size s a b c d := H3.1
 have B1 : Box W (w.heap.size + 1) t e f g h := H3.2.1
 have B2 : Box10 W (w.heap.size + 1 + 1) false 0 0 0 0 false 0 0 0 0 := H3.2.2
 have EE : Ext w W := by rw [hW]; exact ((ext_alloc _ _).trans (ext_alloc _ _)).trans (ext_alloc _ _)
 have HW := hide hW
 obtain ⟨sg, hsg⟩ : ∃ sg, y.sign = sg := ⟨_, rfl⟩
 have hgx : (!s || decide (x ≠ 0)) = true := by have := hx.2; cases s <;> simp at this ⊢; exact this
 have hgy : (!t || decide (y ≠ 0)) = true := by simp [hy0]
 have k1 : Hid (∀ w', Calls Try.prog 62 #[.agg #[.bool s, .int .u64 (a : Int), .int .u64 (b : Int), .int .u64 (c : Int), .int .u64 (d : Int)]] w' (BoolRet true w')) := fun w' => by rw [← hgx]; exact ref_valid _ _ _ _ _ _ w' hx.1
 have k2 : Hid (∀ w', Calls Try.prog 62 #[.agg #[.bool t, .int .u64 (e : Int), .int .u64 (f : Int), .int .u64 (g : Int), .int .u64 (h : Int)]] w' (BoolRet true w')) := fun w' => by rw [← hgy]; exact ref_valid _ _ _ _ _ _ w' hy.1
 have k3 : Hid (∀ w', Calls Try.prog 48 #[.agg #[.bool t, .int .u64 (e : Int), .int .u64 (f : Int), .int .u64 (g : Int), .int .u64 (h : Int)]] w' (IntRet .i64 sg w')) := fun w' => by rw [← hsg]; exact ref_sign _ _ _ _ _ _ w' hy.1
 have hs0 : ¬ (sg = 0) := by rw [← hsg]; intro e; exact hy0 (Int.sign_eq_zero_iff_zero.1 e)
 obtain ⟨hn, hd, hG0⟩ := make_parts hx hy hy0
 have hG256 : ((Int.gcd (x.natAbs : Int) (y.natAbs : Int) : Nat) : Int).natAbs < 115792089237316195423570985008687907853269984665640564039457584007913129639936 := by
   have h1 := isW_fits hy.1
   have h2 : Int.gcd (x.natAbs : Int) (y.natAbs : Int) ≤ (y.natAbs : Int).natAbs := Nat.gcd_le_right _ (by simp; omega)
   simp at h2 ⊢
   omega
 obtain ⟨G, hG⟩ : ∃ G : Int, ((Int.gcd (x.natAbs : Int) (y.natAbs : Int) : Nat) : Int) = G := ⟨_, rfl⟩
 have hkg := fun w' => rf_gcd _ _ _ _ _ _ _ _ _ _ _ _ w' (abs_isC hx.1) (abs_isC hy.1) (by omega)
 rw [hG] at hn hd hG0 hG256 hkg
 obtain ⟨s8, a8, b8, c8, d8, k8⟩ := isC_some G hG256
 have hGne : Hid (G ≠ 0) := by unfold Hid; omega
 obtain ⟨df, hdf⟩ : ∃ q, (s != t) = q := ⟨_, rfl⟩
 have hne : ∀ w', (binOp .neq 4 (.bool s) (.bool t)).run Try.prog w' = .ok (.bool df) w' := by
   intro w'; rw [← hdf]; cases s <;> cases t <;> rfl
 rw [hdf] at hn
 obtain ⟨n, hnn⟩ : ∃ n, (x.natAbs : Int) / G = n := ⟨_, rfl⟩
 obtain ⟨m, hmm⟩ : ∃ n, (y.natAbs : Int) / G = n := ⟨_, rfl⟩
 rw [hnn] at hn
 rw [hmm] at hd
 have HNN := hide hnn
 have HMM := hide hmm
 have HN1 := hide hn
 have HD1 := hide hd
 have K8 := hide k8
 have V8 := hide k8.1
 have XA := hide (abs_isC hx.1).1
 have YA := hide (abs_isC hy.1).1
 obtain ⟨X, hX⟩ : ∃ X : Int, (x.natAbs : Int) = X := ⟨_, rfl⟩
 obtain ⟨Y, hY⟩ : ∃ X : Int, (y.natAbs : Int) = X := ⟨_, rfl⟩
 rw [hX] at XA HNN
 rw [hY] at YA HMM
 have HVV := hide (valid_make x y hy0)
 have HO := hide ho
 have ka : Hid (∀ w', Calls Try.prog 77 #[.agg #[.bool s, .int .u64 (a : Int), .int .u64 (b : Int), .int .u64 (c : Int), .int .u64 (d : Int)]] w' (FixRet false a b c d w')) := fun w' => (rf_abs _ _ _ _ _ _ w' hx.1).mono (fun _ _ q => fixed (abs_isC hx.1) q)
 have kb : Hid (∀ w', Calls Try.prog 77 #[.agg #[.bool t, .int .u64 (e : Int), .int .u64 (f : Int), .int .u64 (g : Int), .int .u64 (h : Int)]] w' (FixRet false e f g h w')) := fun w' => (rf_abs _ _ _ _ _ _ w' hy.1).mono (fun _ _ q => fixed (abs_isC hy.1) q)
 have kg : Hid (∀ w', Calls Try.prog 76 #[.agg #[.bool false, .int .u64 (a : Int), .int .u64 (b : Int), .int .u64 (c : Int), .int .u64 (d : Int)], .agg #[.bool false, .int .u64 (e : Int), .int .u64 (f : Int), .int .u64 (g : Int), .int .u64 (h : Int)]] w' (FixRet s8 a8 b8 c8 d8 w')) := fun w' => (hkg w').mono (fun _ _ q => fixed k8 q)
 clear hkg hn hd hG0 hG256 hG hdf hnn hmm k8 hX hY hW H3 hsg hgx hgy ho hx hy hy0
 obtain ⟨c0, c1, c2, c3, c4, f0, f1, f2, f3, f4⟩ := five_cells B0
 obtain ⟨d0, d1, d2, d3, d4, g0, g1, g2, g3, g4⟩ := five_cells B1
 go_enter Try.func45, Try.ntmps45
 go_upto_region 1 with fail
 rw [← HW.out]
 clear HW
 go_upto_region 3 with (first
   | (go_at_call 62; (with_reducible refine (k1.out _).mono ?_); rintro e' w2 ⟨rfl, hE⟩; have B0 := B0.ext hE; have B1 := B1.ext hE; have B2 := B2.ext hE; have EE := EE.trans hE; obtain ⟨c0, c1, c2, c3, c4, f0, f1, f2, f3, f4⟩ := five_cells B0; obtain ⟨d0, d1, d2, d3, d4, g0, g1, g2, g3, g4⟩ := five_cells B1; clear hE)
   | (go_at_call 62; (with_reducible refine (k2.out _).mono ?_); rintro e' w3 ⟨rfl, hE⟩; have B0 := B0.ext hE; have B1 := B1.ext hE; have B2 := B2.ext hE; have EE := EE.trans hE; obtain ⟨c0, c1, c2, c3, c4, f0, f1, f2, f3, f4⟩ := five_cells B0; obtain ⟨d0, d1, d2, d3, d4, g0, g1, g2, g3, g4⟩ := five_cells B1; clear hE)
   | (go_at_call 48; (with_reducible refine (k3.out _).mono ?_); rintro e' w4 ⟨rfl, hE⟩; have B0 := B0.ext hE; have B1 := B1.ext hE; have B2 := B2.ext hE; have EE := EE.trans hE; obtain ⟨c0, c1, c2, c3, c4, f0, f1, f2, f3, f4⟩ := five_cells B0; obtain ⟨d0, d1, d2, d3, d4, g0, g1, g2, g3, g4⟩ := five_cells B1; clear hE))
 clear k1 k2 k3
 have B2_lt := B2.lt
 go_cut [6] (fun p wx => Quot w4 G p wx)
 case first =>
  have EB := Ext.refl w4
  go_region_held3 (fun w' => w'.cell? ⟨w.heap.size, 0, none⟩ = some (.bool s) ∧ w'.cell? ⟨w.heap.size, 1, none⟩ = some (.int .u64 (a : Int)) ∧ w'.cell? ⟨w.heap.size, 2, none⟩ = some (.int .u64 (b : Int)) ∧ w'.cell? ⟨w.heap.size, 3, none⟩ = some (.int .u64 (c : Int)) ∧ w'.cell? ⟨w.heap.size, 4, none⟩ = some (.int .u64 (d : Int)) ∧ w'.cell? ⟨w.heap.size + 1, 0, none⟩ = some (.bool t) ∧ w'.cell? ⟨w.heap.size + 1, 1, none⟩ = some (.int .u64 (e : Int)) ∧ w'.cell? ⟨w.heap.size + 1, 2, none⟩ = some (.int .u64 (f : Int)) ∧ w'.cell? ⟨w.heap.size + 1, 3, none⟩ = some (.int .u64 (g : Int)) ∧ w'.cell? ⟨w.heap.size + 1, 4, none⟩ = some (.int .u64 (h : Int))) (first | (with_reducible exact ⟨c0, c1, c2, c3, c4, d0, d1, d2, d3, d4⟩) | go_keep) (first
    | (go_at_call 77; (with_reducible refine (ka.out _).mono ?_); rintro e' w5 ⟨rfl, hE⟩; have hF : Ext w6 w5 := (by first | (with_reducible exact hE) | (with_reducible exact (ext_drew _).trans hE)); clear hE; have hG := hF; have B0 := B0.ext hG; have B1 := B1.ext hG; have EB := EB.trans hG; have Nw60 := Nw60.ext hG; obtain ⟨c0, c1, c2, c3, c4, f0, f1, f2, f3, f4⟩ := five_cells B0; obtain ⟨d0, d1, d2, d3, d4, g0, g1, g2, g3, g4⟩ := five_cells B1; obtain ⟨x0c0, x0c1, x0c2, x0c3, x0c4, x0f0, x0f1, x0f2, x0f3, x0f4⟩ := five_cells Nw60; have szw5 := hG.size; have loB0 := B0.lt; have loB1 := B1.lt; have loNw60 := Nw60.lt; have ne0 : w4.heap.size ≠ w.heap.size := (by omega); have ne1 : w4.heap.size ≠ w.heap.size + 1 := (by omega); clear hF hG)
    | (go_at_call 77; (with_reducible refine (ka.out _).mono ?_); rintro e' w5 ⟨rfl, hE⟩; have hF : Ext w4 w5 := (by first | (with_reducible exact hE) | (with_reducible exact (ext_drew _).trans hE)); clear hE; have hG := hF; have B0 := B0.ext hG; have B1 := B1.ext hG; have EB := EB.trans hG; obtain ⟨c0, c1, c2, c3, c4, f0, f1, f2, f3, f4⟩ := five_cells B0; obtain ⟨d0, d1, d2, d3, d4, g0, g1, g2, g3, g4⟩ := five_cells B1; have szw5 := hG.size; have loB0 := B0.lt; have loB1 := B1.lt; clear hF hG)
    | (go_at_call 77; (with_reducible refine (ka.out _).mono ?_); rintro e' w5 ⟨rfl, hE⟩; have hF : Ext (w4.alloc (.cells #[.bool false, .int .u64 0, .int .u64 0, .int .u64 0, .int .u64 0] 25)) w5 := (by first | (with_reducible exact hE) | (with_reducible exact (ext_drew _).trans hE)); clear hE; have hG := (ext_alloc w4 (.cells #[.bool false, .int .u64 0, .int .u64 0, .int .u64 0, .int .u64 0] 25)).trans hF; have Nw50 : Box w5 (w4.heap.size) false 0 0 0 0 := (Box.new0 w4).ext hF; have B0 := B0.ext hG; have B1 := B1.ext hG; have EB := EB.trans hG; obtain ⟨c0, c1, c2, c3, c4, f0, f1, f2, f3, f4⟩ := five_cells B0; obtain ⟨d0, d1, d2, d3, d4, g0, g1, g2, g3, g4⟩ := five_cells B1; obtain ⟨x0c0, x0c1, x0c2, x0c3, x0c4, x0f0, x0f1, x0f2, x0f3, x0f4⟩ := five_cells Nw50; have szw5 := hG.size; have loB0 := B0.lt; have loB1 := B1.lt; have loNw50 := Nw50.lt; have ne0 : w4.heap.size ≠ w.heap.size := (by omega); have ne1 : w4.heap.size ≠ w.heap.size + 1 := (by omega); clear hF hG)
    | (go_at_call 77; (with_reducible refine (ka.out _).mono ?_); rintro e' w5 ⟨rfl, hE⟩; have hF : Ext w6 w5 := (by first | (with_reducible exact hE) | (with_reducible exact (ext_drew _).trans hE)); clear hE; have hG := hF; have B0 := B0.ext hG; have B1 := B1.ext hG; have EB := EB.trans hG; obtain ⟨c0, c1, c2, c3, c4, f0, f1, f2, f3, f4⟩ := five_cells B0; obtain ⟨d0, d1, d2, d3, d4, g0, g1, g2, g3, g4⟩ := five_cells B1; have szw5 := hG.size; have loB0 := B0.lt; have loB1 := B1.lt; clear hF hG)
    | (go_at_call 77; (with_reducible refine (ka.out _).mono ?_); rintro e' w5 ⟨rfl, hE⟩; have hF : Ext (w6.alloc (.cells #[.bool false, .int .u64 0, .int .u64 0, .int .u64 0, .int .u64 0] 25)) w5 := (by first | (with_reducible exact hE) | (with_reducible exact (ext_drew _).trans hE)); clear hE; have hG := (ext_alloc w6 (.cells #[.bool false, .int .u64 0, .int .u64 0, .int .u64 0, .int .u64 0] 25)).trans hF; have Nw50 : Box w5 (w6.heap.size) false 0 0 0 0 := (Box.new0 w6).ext hF; have B0 := B0.ext hG; have B1 := B1.ext hG; have EB := EB.trans hG; obtain ⟨c0, c1, c2, c3, c4, f0, f1, f2, f3, f4⟩ := five_cells B0; obtain ⟨d0, d1, d2, d3, d4, g0, g1, g2, g3, g4⟩ := five_cells B1; obtain ⟨x0c0, x0c1, x0c2, x0c3, x0c4, x0f0, x0f1, x0f2, x0f3, x0f4⟩ := five_cells Nw50; have szw5 := hG.size; have loB0 := B0.lt; have loB1 := B1.lt; have loNw50 := Nw50.lt; have ne0 : w6.heap.size ≠ w.heap.size := (by omega); have ne1 : w6.heap.size ≠ w.heap.size + 1 := (by omega); clear hF hG)
    | (go_at_call 77; (with_reducible refine (kb.out _).mono ?_); rintro e' w6 ⟨rfl, hE⟩; have hF : Ext w5 w6 := (by first | (with_reducible exact hE) | (with_reducible exact (ext_drew _).trans hE)); clear hE; have hG := hF; have B0 := B0.ext hG; have B1 := B1.ext hG; have EB := EB.trans hG; have Nw50 := Nw50.ext hG; obtain ⟨c0, c1, c2, c3, c4, f0, f1, f2, f3, f4⟩ := five_cells B0; obtain ⟨d0, d1, d2, d3, d4, g0, g1, g2, g3, g4⟩ := five_cells B1; obtain ⟨x0c0, x0c1, x0c2, x0c3, x0c4, x0f0, x0f1, x0f2, x0f3, x0f4⟩ := five_cells Nw50; have szw6 := hG.size; have loB0 := B0.lt; have loB1 := B1.lt; have loNw50 := Nw50.lt; have ne0 : w4.heap.size ≠ w.heap.size := (by omega); have ne1 : w4.heap.size ≠ w.heap.size + 1 := (by omega); clear hF hG)
    | (go_at_call 77; (with_reducible refine (kb.out _).mono ?_); rintro e' w6 ⟨rfl, hE⟩; have hF : Ext w5 w6 := (by first | (with_reducible exact hE) | (with_reducible exact (ext_drew _).trans hE)); clear hE; have hG := hF; have B0 := B0.ext hG; have B1 := B1.ext hG; have EB := EB.trans hG; obtain ⟨c0, c1, c2, c3, c4, f0, f1, f2, f3, f4⟩ := five_cells B0; obtain ⟨d0, d1, d2, d3, d4, g0, g1, g2, g3, g4⟩ := five_cells B1; have szw6 := hG.size; have loB0 := B0.lt; have loB1 := B1.lt; clear hF hG)
    | (go_at_call 77; (with_reducible refine (kb.out _).mono ?_); rintro e' w6 ⟨rfl, hE⟩; have hF : Ext (w5.alloc (.cells #[.bool false, .int .u64 0, .int .u64 0, .int .u64 0, .int .u64 0] 25)) w6 := (by first | (with_reducible exact hE) | (with_reducible exact (ext_drew _).trans hE)); clear hE; have hG := (ext_alloc w5 (.cells #[.bool false, .int .u64 0, .int .u64 0, .int .u64 0, .int .u64 0] 25)).trans hF; have Nw60 : Box w6 (w5.heap.size) false 0 0 0 0 := (Box.new0 w5).ext hF; have B0 := B0.ext hG; have B1 := B1.ext hG; have EB := EB.trans hG; obtain ⟨c0, c1, c2, c3, c4, f0, f1, f2, f3, f4⟩ := five_cells B0; obtain ⟨d0, d1, d2, d3, d4, g0, g1, g2, g3, g4⟩ := five_cells B1; obtain ⟨x0c0, x0c1, x0c2, x0c3, x0c4, x0f0, x0f1, x0f2, x0f3, x0f4⟩ := five_cells Nw60; have szw6 := hG.size; have loB0 := B0.lt; have loB1 := B1.lt; have loNw60 := Nw60.lt; have ne0 : w5.heap.size ≠ w.heap.size := (by omega); have ne1 : w5.heap.size ≠ w.heap.size + 1 := (by omega); clear hF hG)
    | (go_at_call 77; (with_reducible refine (kb.out _).mono ?_); rintro e' w6 ⟨rfl, hE⟩; have hF : Ext w4 w6 := (by first | (with_reducible exact hE) | (with_reducible exact (ext_drew _).trans hE)); clear hE; have hG := hF; have B0 := B0.ext hG; have B1 := B1.ext hG; have EB := EB.trans hG; obtain ⟨c0, c1, c2, c3, c4, f0, f1, f2, f3, f4⟩ := five_cells B0; obtain ⟨d0, d1, d2, d3, d4, g0, g1, g2, g3, g4⟩ := five_cells B1; have szw6 := hG.size; have loB0 := B0.lt; have loB1 := B1.lt; clear hF hG)
    | (go_at_call 77; (with_reducible refine (kb.out _).mono ?_); rintro e' w6 ⟨rfl, hE⟩; have hF : Ext (w4.alloc (.cells #[.bool false, .int .u64 0, .int .u64 0, .int .u64 0, .int .u64 0] 25)) w6 := (by first | (with_reducible exact hE) | (with_reducible exact (ext_drew _).trans hE)); clear hE; have hG := (ext_alloc w4 (.cells #[.bool false, .int .u64 0, .int .u64 0, .int .u64 0, .int .u64 0] 25)).trans hF; have Nw60 : Box w6 (w4.heap.size) false 0 0 0 0 := (Box.new0 w4).ext hF; have B0 := B0.ext hG; have B1 := B1.ext hG; have EB := EB.trans hG; obtain ⟨c0, c1, c2, c3, c4, f0, f1, f2, f3, f4⟩ := five_cells B0; obtain ⟨d0, d1, d2, d3, d4, g0, g1, g2, g3, g4⟩ := five_cells B1; obtain ⟨x0c0, x0c1, x0c2, x0c3, x0c4, x0f0, x0f1, x0f2, x0f3, x0f4⟩ := five_cells Nw60; have szw6 := hG.size; have loB0 := B0.lt; have loB1 := B1.lt; have loNw60 := Nw60.lt; have ne0 : w4.heap.size ≠ w.heap.size := (by omega); have ne1 : w4.heap.size ≠ w.heap.size + 1 := (by omega); clear hF hG)
    | (go_at_call 76; (with_reducible refine (kg.out _).mono ?_); rintro e' w7 ⟨rfl, hE⟩; have hF : Ext w6 w7 := (by first | (with_reducible exact hE) | (with_reducible exact (ext_drew _).trans hE)); clear hE; have hG := hF; have B0 := B0.ext hG; have B1 := B1.ext hG; have EB := EB.trans hG; have Nw60 := Nw60.ext hG; obtain ⟨c0, c1, c2, c3, c4, f0, f1, f2, f3, f4⟩ := five_cells B0; obtain ⟨d0, d1, d2, d3, d4, g0, g1, g2, g3, g4⟩ := five_cells B1; obtain ⟨x0c0, x0c1, x0c2, x0c3, x0c4, x0f0, x0f1, x0f2, x0f3, x0f4⟩ := five_cells Nw60; have szw7 := hG.size; have loB0 := B0.lt; have loB1 := B1.lt; have loNw60 := Nw60.lt; have ne0 : w5.heap.size ≠ w.heap.size := (by omega); have ne1 : w5.heap.size ≠ w.heap.size + 1 := (by omega); clear hF hG)
    | (go_at_call 76; (with_reducible refine (kg.out _).mono ?_); rintro e' w7 ⟨rfl, hE⟩; have hF : Ext w6 w7 := (by first | (with_reducible exact hE) | (with_reducible exact (ext_drew _).trans hE)); clear hE; have hG := hF; have B0 := B0.ext hG; have B1 := B1.ext hG; have EB := EB.trans hG; have Nw50 := Nw50.ext hG; obtain ⟨c0, c1, c2, c3, c4, f0, f1, f2, f3, f4⟩ := five_cells B0; obtain ⟨d0, d1, d2, d3, d4, g0, g1, g2, g3, g4⟩ := five_cells B1; obtain ⟨x0c0, x0c1, x0c2, x0c3, x0c4, x0f0, x0f1, x0f2, x0f3, x0f4⟩ := five_cells Nw50; have szw7 := hG.size; have loB0 := B0.lt; have loB1 := B1.lt; have loNw50 := Nw50.lt; have ne0 : w4.heap.size ≠ w.heap.size := (by omega); have ne1 : w4.heap.size ≠ w.heap.size + 1 := (by omega); clear hF hG)
    | (go_at_call 76; (with_reducible refine (kg.out _).mono ?_); rintro e' w7 ⟨rfl, hE⟩; have hF : Ext w5 w7 := (by first | (with_reducible exact hE) | (with_reducible exact (ext_drew _).trans hE)); clear hE; have hG := hF; have B0 := B0.ext hG; have B1 := B1.ext hG; have EB := EB.trans hG; have Nw50 := Nw50.ext hG; obtain ⟨c0, c1, c2, c3, c4, f0, f1, f2, f3, f4⟩ := five_cells B0; obtain ⟨d0, d1, d2, d3, d4, g0, g1, g2, g3, g4⟩ := five_cells B1; obtain ⟨x0c0, x0c1, x0c2, x0c3, x0c4, x0f0, x0f1, x0f2, x0f3, x0f4⟩ := five_cells Nw50; have szw7 := hG.size; have loB0 := B0.lt; have loB1 := B1.lt; have loNw50 := Nw50.lt; have ne0 : w6.heap.size ≠ w.heap.size := (by omega); have ne1 : w6.heap.size ≠ w.heap.size + 1 := (by omega); clear hF hG)
    | (go_at_call 76; (with_reducible refine (kg.out _).mono ?_); rintro e' w7 ⟨rfl, hE⟩; have hF : Ext w5 w7 := (by first | (with_reducible exact hE) | (with_reducible exact (ext_drew _).trans hE)); clear hE; have hG := hF; have B0 := B0.ext hG; have B1 := B1.ext hG; have EB := EB.trans hG; have Nw60 := Nw60.ext hG; obtain ⟨c0, c1, c2, c3, c4, f0, f1, f2, f3, f4⟩ := five_cells B0; obtain ⟨d0, d1, d2, d3, d4, g0, g1, g2, g3, g4⟩ := five_cells B1; obtain ⟨x0c0, x0c1, x0c2, x0c3, x0c4, x0f0, x0f1, x0f2, x0f3, x0f4⟩ := five_cells Nw60; have szw7 := hG.size; have loB0 := B0.lt; have loB1 := B1.lt; have loNw60 := Nw60.lt; have ne0 : w4.heap.size ≠ w.heap.size := (by omega); have ne1 : w4.heap.size ≠ w.heap.size + 1 := (by omega); clear hF hG)
    | (go_at_call 76; (with_reducible refine (kg.out _).mono ?_); rintro e' w7 ⟨rfl, hE⟩; have hF : Ext w6 w7 := (by first | (with_reducible exact hE) | (with_reducible exact (ext_drew _).trans hE)); clear hE; have hG := hF; have B0 := B0.ext hG; have B1 := B1.ext hG; have EB := EB.trans hG; obtain ⟨c0, c1, c2, c3, c4, f0, f1, f2, f3, f4⟩ := five_cells B0; obtain ⟨d0, d1, d2, d3, d4, g0, g1, g2, g3, g4⟩ := five_cells B1; have szw7 := hG.size; have loB0 := B0.lt; have loB1 := B1.lt; clear hF hG)
    | (go_at_call 76; (with_reducible refine (kg.out _).mono ?_); rintro e' w7 ⟨rfl, hE⟩; have hF : Ext (w6.alloc (.cells #[.bool false, .int .u64 0, .int .u64 0, .int .u64 0, .int .u64 0] 25)) w7 := (by first | (with_reducible exact hE) | (with_reducible exact (ext_drew _).trans hE)); clear hE; have hG := (ext_alloc w6 (.cells #[.bool false, .int .u64 0, .int .u64 0, .int .u64 0, .int .u64 0] 25)).trans hF; have Nw70 : Box w7 (w6.heap.size) false 0 0 0 0 := (Box.new0 w6).ext hF; have B0 := B0.ext hG; have B1 := B1.ext hG; have EB := EB.trans hG; obtain ⟨c0, c1, c2, c3, c4, f0, f1, f2, f3, f4⟩ := five_cells B0; obtain ⟨d0, d1, d2, d3, d4, g0, g1, g2, g3, g4⟩ := five_cells B1; obtain ⟨x0c0, x0c1, x0c2, x0c3, x0c4, x0f0, x0f1, x0f2, x0f3, x0f4⟩ := five_cells Nw70; have szw7 := hG.size; have loB0 := B0.lt; have loB1 := B1.lt; have loNw70 := Nw70.lt; have ne0 : w6.heap.size ≠ w.heap.size := (by omega); have ne1 : w6.heap.size ≠ w.heap.size + 1 := (by omega); clear hF hG)
    | (go_at_call 76; (with_reducible refine (kg.out _).mono ?_); rintro e' w7 ⟨rfl, hE⟩; have hF : Ext w5 w7 := (by first | (with_reducible exact hE) | (with_reducible exact (ext_drew _).trans hE)); clear hE; have hG := hF; have B0 := B0.ext hG; have B1 := B1.ext hG; have EB := EB.trans hG; obtain ⟨c0, c1, c2, c3, c4, f0, f1, f2, f3, f4⟩ := five_cells B0; obtain ⟨d0, d1, d2, d3, d4, g0, g1, g2, g3, g4⟩ := five_cells B1; have szw7 := hG.size; have loB0 := B0.lt; have loB1 := B1.lt; clear hF hG)
    | (go_at_call 76; (with_reducible refine (kg.out _).mono ?_); rintro e' w7 ⟨rfl, hE⟩; have hF : Ext (w5.alloc (.cells #[.bool false, .int .u64 0, .int .u64 0, .int .u64 0, .int .u64 0] 25)) w7 := (by first | (with_reducible exact hE) | (with_reducible exact (ext_drew _).trans hE)); clear hE; have hG := (ext_alloc w5 (.cells #[.bool false, .int .u64 0, .int .u64 0, .int .u64 0, .int .u64 0] 25)).trans hF; have Nw70 : Box w7 (w5.heap.size) false 0 0 0 0 := (Box.new0 w5).ext hF; have B0 := B0.ext hG; have B1 := B1.ext hG; have EB := EB.trans hG; obtain ⟨c0, c1, c2, c3, c4, f0, f1, f2, f3, f4⟩ := five_cells B0; obtain ⟨d0, d1, d2, d3, d4, g0, g1, g2, g3, g4⟩ := five_cells B1; obtain ⟨x0c0, x0c1, x0c2, x0c3, x0c4, x0f0, x0f1, x0f2, x0f3, x0f4⟩ := five_cells Nw70; have szw7 := hG.size; have loB0 := B0.lt; have loB1 := B1.lt; have loNw70 := Nw70.lt; have ne0 : w5.heap.size ≠ w.heap.size := (by omega); have ne1 : w5.heap.size ≠ w.heap.size + 1 := (by omega); clear hF hG))
  all_goals go_wp2_with fail
  all_goals go_meet
  all_goals first
    | (with_reducible exact one0 K8.out EB)
    | (with_reducible exact one1 K8.out EB (g := w4.heap.size) Nw50 (by omega))
    | (with_reducible exact one1 K8.out EB (g := w6.heap.size) Nw50 (by omega))
    | (with_reducible exact one1 K8.out EB (g := w4.heap.size) Nw60 (by omega))
    | (with_reducible exact one1 K8.out EB (g := w5.heap.size) Nw60 (by omega))
    | (with_reducible exact one1 K8.out EB (g := w5.heap.size) Nw70 (by omega))
    | (with_reducible exact one1 K8.out EB (g := w6.heap.size) Nw70 (by omega))
 case rest =>
  obtain ⟨g6, s6, a6, b6, c6, d6, rfl, C6, B6, hg6, hE⟩ := hcut
  obtain ⟨rfl, rfl, rfl, rfl, rfl⟩ := K8.out.uniq C6
  have B0 := B0.ext hE; have B1 := B1.ext hE; have B2 := B2.ext hE; have EE := EE.trans hE
  have l6 := B6.lt
  have n6 : w.heap.size + 1 + 1 < g6 := Nat.lt_of_lt_of_le B2_lt hg6
  clear C6 hE hg6 B2_lt kg
  obtain ⟨c0, c1, c2, c3, c4, f0, f1, f2, f3, f4⟩ := five_cells B0
  obtain ⟨d0, d1, d2, d3, d4, g0, g1, g2, g3, g4⟩ := five_cells B1
  obtain ⟨m0, m1, m2, m3, m4, mf0, mf1, mf2, mf3, mf4⟩ := five_cells B6
  go_upto_region 4 with fail
  go_cut [7] (fun p wx => Quot wc n p wx)
  case first =>
   have EB := Ext.refl wc
   go_region_held3 (fun w' => w'.cell? ⟨w.heap.size, 0, none⟩ = some (.bool s) ∧ w'.cell? ⟨w.heap.size, 1, none⟩ = some (.int .u64 (a : Int)) ∧ w'.cell? ⟨w.heap.size, 2, none⟩ = some (.int .u64 (b : Int)) ∧ w'.cell? ⟨w.heap.size, 3, none⟩ = some (.int .u64 (c : Int)) ∧ w'.cell? ⟨w.heap.size, 4, none⟩ = some (.int .u64 (d : Int)) ∧ w'.cell? ⟨g6, 0, none⟩ = some (.bool s8) ∧ w'.cell? ⟨g6, 1, none⟩ = some (.int .u64 (a8 : Int)) ∧ w'.cell? ⟨g6, 2, none⟩ = some (.int .u64 (b8 : Int)) ∧ w'.cell? ⟨g6, 3, none⟩ = some (.int .u64 (c8 : Int)) ∧ w'.cell? ⟨g6, 4, none⟩ = some (.int .u64 (d8 : Int))) (first | (with_reducible exact ⟨c0, c1, c2, c3, c4, m0, m1, m2, m3, m4⟩) | go_keep) (first
     | (go_at_call 77; (with_reducible refine (ka.out _).mono ?_); rintro e' w5 ⟨rfl, hE⟩; have hF : Ext wc w5 := (by first | (with_reducible exact hE) | (with_reducible exact (ext_drew _).trans hE)); clear hE; have hG := hF; have B0 := B0.ext hG; have B6 := B6.ext hG; have EB := EB.trans hG; obtain ⟨c0, c1, c2, c3, c4, f0, f1, f2, f3, f4⟩ := five_cells B0; obtain ⟨m0, m1, m2, m3, m4, mf0, mf1, mf2, mf3, mf4⟩ := five_cells B6; have szw5 := hG.size; have loB0 := B0.lt; have loB6 := B6.lt; clear hF hG)
     | (go_at_call 77; (with_reducible refine (ka.out _).mono ?_); rintro e' w5 ⟨rfl, hE⟩; have hF : Ext (wc.alloc (.cells #[.bool false, .int .u64 0, .int .u64 0, .int .u64 0, .int .u64 0] 25)) w5 := (by first | (with_reducible exact hE) | (with_reducible exact (ext_drew _).trans hE)); clear hE; have hG := (ext_alloc wc (.cells #[.bool false, .int .u64 0, .int .u64 0, .int .u64 0, .int .u64 0] 25)).trans hF; have Nw50 : Box w5 (wc.heap.size) false 0 0 0 0 := (Box.new0 wc).ext hF; have B0 := B0.ext hG; have B6 := B6.ext hG; have EB := EB.trans hG; obtain ⟨c0, c1, c2, c3, c4, f0, f1, f2, f3, f4⟩ := five_cells B0; obtain ⟨m0, m1, m2, m3, m4, mf0, mf1, mf2, mf3, mf4⟩ := five_cells B6; obtain ⟨x0c0, x0c1, x0c2, x0c3, x0c4, x0f0, x0f1, x0f2, x0f3, x0f4⟩ := five_cells Nw50; have szw5 := hG.size; have loB0 := B0.lt; have loB6 := B6.lt; have loNw50 := Nw50.lt; have ne0 : wc.heap.size ≠ w.heap.size := (by omega); have ne1 : wc.heap.size ≠ g6 := (by omega); clear hF hG)
     | (go_at_call 77; (with_reducible refine (ka.out _).mono ?_); rintro e' w5 ⟨rfl, hE⟩; have hF : Ext ((wc.alloc (.cells #[.bool false, .int .u64 0, .int .u64 0, .int .u64 0, .int .u64 0] 25)).alloc (.cells #[.bool false, .int .u64 0, .int .u64 0, .int .u64 0, .int .u64 0] 25)) w5 := (by first | (with_reducible exact hE) | (with_reducible exact (ext_drew _).trans hE)); clear hE; have hG := ((ext_alloc wc (.cells #[.bool false, .int .u64 0, .int .u64 0, .int .u64 0, .int .u64 0] 25)).trans (ext_alloc _ (.cells #[.bool false, .int .u64 0, .int .u64 0, .int .u64 0, .int .u64 0] 25))).trans hF; have Nw50 : Box w5 (wc.heap.size) false 0 0 0 0 := ((Box.new0 wc).ext (ext_alloc _ _)).ext hF; have Nw51 : Box w5 (wc.heap.size + 1) false 0 0 0 0 := (show Box ((wc.alloc (.cells #[.bool false, .int .u64 0, .int .u64 0, .int .u64 0, .int .u64 0] 25)).alloc (.cells #[.bool false, .int .u64 0, .int .u64 0, .int .u64 0, .int .u64 0] 25)) (wc.heap.size + 1) false 0 0 0 0 from (two_blocks wc (.cells #[.bool false, .int .u64 0, .int .u64 0, .int .u64 0, .int .u64 0] 25) (.cells #[.bool false, .int .u64 0, .int .u64 0, .int .u64 0, .int .u64 0] 25)).2).ext hF; have B0 := B0.ext hG; have B6 := B6.ext hG; have EB := EB.trans hG; obtain ⟨c0, c1, c2, c3, c4, f0, f1, f2, f3, f4⟩ := five_cells B0; obtain ⟨m0, m1, m2, m3, m4, mf0, mf1, mf2, mf3, mf4⟩ := five_cells B6; obtain ⟨x0c0, x0c1, x0c2, x0c3, x0c4, x0f0, x0f1, x0f2, x0f3, x0f4⟩ := five_cells Nw50; obtain ⟨x1c0, x1c1, x1c2, x1c3, x1c4, x1f0, x1f1, x1f2, x1f3, x1f4⟩ := five_cells Nw51; have szw5 := hG.size; have loB0 := B0.lt; have loB6 := B6.lt; have loNw50 := Nw50.lt; have loNw51 := Nw51.lt; have ne0 : wc.heap.size ≠ w.heap.size := (by omega); have ne1 : wc.heap.size + 1 ≠ w.heap.size := (by omega); have ne2 : wc.heap.size ≠ g6 := (by omega); have ne3 : wc.heap.size + 1 ≠ g6 := (by omega); have ne4 : wc.heap.size + 1 ≠ wc.heap.size := (by omega); clear hF hG)
     | (go_at_call 55; refine (ref_wdiv false s8 a b c d a8 b8 c8 d8 X G _ XA.out V8.out).mono ?_; rintro e' w9 ⟨s3, a3, b3, c3, d3, s9, a9, b9, c9, d9, o3, rfl, ho, C3, C4, hE⟩; have Ho := hide ho; rw [if_neg hGne.out] at C3; rw [HNN.out] at C3; have K3 := hide C3; clear ho C3 C4; have hF : Ext w5 w9 := (by first | (with_reducible exact hE) | (with_reducible exact (ext_drew _).trans hE)); clear hE; have hG := hF; have B0 := B0.ext hG; have B6 := B6.ext hG; have EB := EB.trans hG; have Nw50 := Nw50.ext hG; have Nw51 := Nw51.ext hG; obtain ⟨c0, c1, c2, c3, c4, f0, f1, f2, f3, f4⟩ := five_cells B0; obtain ⟨m0, m1, m2, m3, m4, mf0, mf1, mf2, mf3, mf4⟩ := five_cells B6; obtain ⟨x0c0, x0c1, x0c2, x0c3, x0c4, x0f0, x0f1, x0f2, x0f3, x0f4⟩ := five_cells Nw50; obtain ⟨x1c0, x1c1, x1c2, x1c3, x1c4, x1f0, x1f1, x1f2, x1f3, x1f4⟩ := five_cells Nw51; have szw9 := hG.size; have loB0 := B0.lt; have loB6 := B6.lt; have loNw50 := Nw50.lt; have loNw51 := Nw51.lt; have ne0 : wc.heap.size ≠ w.heap.size := (by omega); have ne1 : wc.heap.size + 1 ≠ w.heap.size := (by omega); have ne2 : wc.heap.size ≠ g6 := (by omega); have ne3 : wc.heap.size + 1 ≠ g6 := (by omega); have ne4 : wc.heap.size + 1 ≠ wc.heap.size := (by omega); clear hF hG)
     | (go_at_call 55; refine (ref_wdiv false s8 a b c d a8 b8 c8 d8 X G _ XA.out V8.out).mono ?_; rintro e' w9 ⟨s3, a3, b3, c3, d3, s9, a9, b9, c9, d9, o3, rfl, ho, C3, C4, hE⟩; have Ho := hide ho; rw [if_neg hGne.out] at C3; rw [HNN.out] at C3; have K3 := hide C3; clear ho C3 C4; have hF : Ext w5 w9 := (by first | (with_reducible exact hE) | (with_reducible exact (ext_drew _).trans hE)); clear hE; have hG := hF; have B0 := B0.ext hG; have B6 := B6.ext hG; have EB := EB.trans hG; have Nw50 := Nw50.ext hG; obtain ⟨c0, c1, c2, c3, c4, f0, f1, f2, f3, f4⟩ := five_cells B0; obtain ⟨m0, m1, m2, m3, m4, mf0, mf1, mf2, mf3, mf4⟩ := five_cells B6; obtain ⟨x0c0, x0c1, x0c2, x0c3, x0c4, x0f0, x0f1, x0f2, x0f3, x0f4⟩ := five_cells Nw50; have szw9 := hG.size; have loB0 := B0.lt; have loB6 := B6.lt; have loNw50 := Nw50.lt; have ne0 : wc.heap.size ≠ w.heap.size := (by omega); have ne1 : wc.heap.size ≠ g6 := (by omega); clear hF hG)
     | (go_at_call 55; refine (ref_wdiv false s8 a b c d a8 b8 c8 d8 X G _ XA.out V8.out).mono ?_; rintro e' w9 ⟨s3, a3, b3, c3, d3, s9, a9, b9, c9, d9, o3, rfl, ho, C3, C4, hE⟩; have Ho := hide ho; rw [if_neg hGne.out] at C3; rw [HNN.out] at C3; have K3 := hide C3; clear ho C3 C4; have hF : Ext (w5.alloc (.cells #[.bool false, .int .u64 0, .int .u64 0, .int .u64 0, .int .u64 0] 25)) w9 := (by first | (with_reducible exact hE) | (with_reducible exact (ext_drew _).trans hE)); clear hE; have hG := (ext_alloc w5 (.cells #[.bool false, .int .u64 0, .int .u64 0, .int .u64 0, .int .u64 0] 25)).trans hF; have Nw90 : Box w9 (w5.heap.size) false 0 0 0 0 := (Box.new0 w5).ext hF; have B0 := B0.ext hG; have B6 := B6.ext hG; have EB := EB.trans hG; have Nw50 := Nw50.ext hG; obtain ⟨c0, c1, c2, c3, c4, f0, f1, f2, f3, f4⟩ := five_cells B0; obtain ⟨m0, m1, m2, m3, m4, mf0, mf1, mf2, mf3, mf4⟩ := five_cells B6; obtain ⟨x0c0, x0c1, x0c2, x0c3, x0c4, x0f0, x0f1, x0f2, x0f3, x0f4⟩ := five_cells Nw50; obtain ⟨x1c0, x1c1, x1c2, x1c3, x1c4, x1f0, x1f1, x1f2, x1f3, x1f4⟩ := five_cells Nw90; have szw9 := hG.size; have loB0 := B0.lt; have loB6 := B6.lt; have loNw50 := Nw50.lt; have loNw90 := Nw90.lt; have ne0 : wc.heap.size ≠ w.heap.size := (by omega); have ne1 : w5.heap.size ≠ w.heap.size := (by omega); have ne2 : wc.heap.size ≠ g6 := (by omega); have ne3 : w5.heap.size ≠ g6 := (by omega); have ne4 : w5.heap.size ≠ wc.heap.size := (by omega); clear hF hG)
     | (go_at_call 55; refine (ref_wdiv false s8 a b c d a8 b8 c8 d8 X G _ XA.out V8.out).mono ?_; rintro e' w9 ⟨s3, a3, b3, c3, d3, s9, a9, b9, c9, d9, o3, rfl, ho, C3, C4, hE⟩; have Ho := hide ho; rw [if_neg hGne.out] at C3; rw [HNN.out] at C3; have K3 := hide C3; clear ho C3 C4; have hF : Ext w5 w9 := (by first | (with_reducible exact hE) | (with_reducible exact (ext_drew _).trans hE)); clear hE; have hG := hF; have B0 := B0.ext hG; have B6 := B6.ext hG; have EB := EB.trans hG; obtain ⟨c0, c1, c2, c3, c4, f0, f1, f2, f3, f4⟩ := five_cells B0; obtain ⟨m0, m1, m2, m3, m4, mf0, mf1, mf2, mf3, mf4⟩ := five_cells B6; have szw9 := hG.size; have loB0 := B0.lt; have loB6 := B6.lt; clear hF hG)
     | (go_at_call 55; refine (ref_wdiv false s8 a b c d a8 b8 c8 d8 X G _ XA.out V8.out).mono ?_; rintro e' w9 ⟨s3, a3, b3, c3, d3, s9, a9, b9, c9, d9, o3, rfl, ho, C3, C4, hE⟩; have Ho := hide ho; rw [if_neg hGne.out] at C3; rw [HNN.out] at C3; have K3 := hide C3; clear ho C3 C4; have hF : Ext (w5.alloc (.cells #[.bool false, .int .u64 0, .int .u64 0, .int .u64 0, .int .u64 0] 25)) w9 := (by first | (with_reducible exact hE) | (with_reducible exact (ext_drew _).trans hE)); clear hE; have hG := (ext_alloc w5 (.cells #[.bool false, .int .u64 0, .int .u64 0, .int .u64 0, .int .u64 0] 25)).trans hF; have Nw90 : Box w9 (w5.heap.size) false 0 0 0 0 := (Box.new0 w5).ext hF; have B0 := B0.ext hG; have B6 := B6.ext hG; have EB := EB.trans hG; obtain ⟨c0, c1, c2, c3, c4, f0, f1, f2, f3, f4⟩ := five_cells B0; obtain ⟨m0, m1, m2, m3, m4, mf0, mf1, mf2, mf3, mf4⟩ := five_cells B6; obtain ⟨x0c0, x0c1, x0c2, x0c3, x0c4, x0f0, x0f1, x0f2, x0f3, x0f4⟩ := five_cells Nw90; have szw9 := hG.size; have loB0 := B0.lt; have loB6 := B6.lt; have loNw90 := Nw90.lt; have ne0 : w5.heap.size ≠ w.heap.size := (by omega); have ne1 : w5.heap.size ≠ g6 := (by omega); clear hF hG)
     | (go_at_call 55; refine (ref_wdiv false s8 a b c d a8 b8 c8 d8 X G _ XA.out V8.out).mono ?_; rintro e' w9 ⟨s3, a3, b3, c3, d3, s9, a9, b9, c9, d9, o3, rfl, ho, C3, C4, hE⟩; have Ho := hide ho; rw [if_neg hGne.out] at C3; rw [HNN.out] at C3; have K3 := hide C3; clear ho C3 C4; have hF : Ext ((w5.alloc (.cells #[.bool false, .int .u64 0, .int .u64 0, .int .u64 0, .int .u64 0] 25)).alloc (.cells #[.bool false, .int .u64 0, .int .u64 0, .int .u64 0, .int .u64 0] 25)) w9 := (by first | (with_reducible exact hE) | (with_reducible exact (ext_drew _).trans hE)); clear hE; have hG := ((ext_alloc w5 (.cells #[.bool false, .int .u64 0, .int .u64 0, .int .u64 0, .int .u64 0] 25)).trans (ext_alloc _ (.cells #[.bool false, .int .u64 0, .int .u64 0, .int .u64 0, .int .u64 0] 25))).trans hF; have Nw90 : Box w9 (w5.heap.size) false 0 0 0 0 := ((Box.new0 w5).ext (ext_alloc _ _)).ext hF; have Nw91 : Box w9 (w5.heap.size + 1) false 0 0 0 0 := (show Box ((w5.alloc (.cells #[.bool false, .int .u64 0, .int .u64 0, .int .u64 0, .int .u64 0] 25)).alloc (.cells #[.bool false, .int .u64 0, .int .u64 0, .int .u64 0, .int .u64 0] 25)) (w5.heap.size + 1) false 0 0 0 0 from (two_blocks w5 (.cells #[.bool false, .int .u64 0, .int .u64 0, .int .u64 0, .int .u64 0] 25) (.cells #[.bool false, .int .u64 0, .int .u64 0, .int .u64 0, .int .u64 0] 25)).2).ext hF; have B0 := B0.ext hG; have B6 := B6.ext hG; have EB := EB.trans hG; obtain ⟨c0, c1, c2, c3, c4, f0, f1, f2, f3, f4⟩ := five_cells B0; obtain ⟨m0, m1, m2, m3, m4, mf0, mf1, mf2, mf3, mf4⟩ := five_cells B6; obtain ⟨x0c0, x0c1, x0c2, x0c3, x0c4, x0f0, x0f1, x0f2, x0f3, x0f4⟩ := five_cells Nw90; obtain ⟨x1c0, x1c1, x1c2, x1c3, x1c4, x1f0, x1f1, x1f2, x1f3, x1f4⟩ := five_cells Nw91; have szw9 := hG.size; have loB0 := B0.lt; have loB6 := B6.lt; have loNw90 := Nw90.lt; have loNw91 := Nw91.lt; have ne0 : w5.heap.size ≠ w.heap.size := (by omega); have ne1 : w5.heap.size + 1 ≠ w.heap.size := (by omega); have ne2 : w5.heap.size ≠ g6 := (by omega); have ne3 : w5.heap.size + 1 ≠ g6 := (by omega); have ne4 : w5.heap.size + 1 ≠ w5.heap.size := (by omega); clear hF hG))
   all_goals go_wp2_with fail
   all_goals go_meet
   all_goals first
     | (with_reducible exact quo0 K3.out EB)
     | (with_reducible exact quo0' K3.out EB)
     | (with_reducible exact quo1 K3.out EB Nw50 (by omega))
     | (with_reducible exact quo1 K3.out EB Nw51 (by omega))
     | (with_reducible exact quo1 K3.out EB Nw90 (by omega))
     | (with_reducible exact quo1 K3.out EB Nw91 (by omega))
     | (with_reducible exact quo1' K3.out EB (g := wc.heap.size) (by omega))
     | (with_reducible exact quo1' K3.out EB (g := wc.heap.size + 1) (by omega))
     | (with_reducible exact quo1' K3.out EB (g := w5.heap.size) (by omega))
     | (with_reducible exact quo1' K3.out EB (g := w5.heap.size + 1) (by omega))
     | (with_reducible exact quo2 K3.out EB Nw50 (g' := wc.heap.size + 1) (by omega) (by omega) (by omega))
     | (with_reducible exact quo2 K3.out EB Nw50 (g' := w5.heap.size) (by omega) (by omega) (by omega))
     | (with_reducible exact quo2 K3.out EB Nw50 (g' := w5.heap.size + 1) (by omega) (by omega) (by omega))
     | (with_reducible exact quo2 K3.out EB Nw51 (g' := wc.heap.size) (by omega) (by omega) (by omega))
     | (with_reducible exact quo2 K3.out EB Nw51 (g' := w5.heap.size) (by omega) (by omega) (by omega))
     | (with_reducible exact quo2 K3.out EB Nw51 (g' := w5.heap.size + 1) (by omega) (by omega) (by omega))
     | (with_reducible exact quo2 K3.out EB Nw90 (g' := wc.heap.size) (by omega) (by omega) (by omega))
     | (with_reducible exact quo2 K3.out EB Nw90 (g' := wc.heap.size + 1) (by omega) (by omega) (by omega))
     | (with_reducible exact quo2 K3.out EB Nw90 (g' := w5.heap.size + 1) (by omega) (by omega) (by omega))
     | (with_reducible exact quo2 K3.out EB Nw91 (g' := wc.heap.size) (by omega) (by omega) (by omega))
     | (with_reducible exact quo2 K3.out EB Nw91 (g' := wc.heap.size + 1) (by omega) (by omega) (by omega))
     | (with_reducible exact quo2 K3.out EB Nw91 (g' := w5.heap.size) (by omega) (by omega) (by omega))
  case rest =>
   obtain ⟨g7, s7, a7, b7, c7, d7, rfl, C7, B7, hg7, hE⟩ := hcut
   have K7 := hide C7
   have B0 := B0.ext hE; have B1 := B1.ext hE; have B2 := B2.ext hE; have B6 := B6.ext hE; have EE := EE.trans hE
   have l7 := B7.lt
   have n7 : g6 < g7 := Nat.lt_of_lt_of_le l6 hg7
   clear C7 hE hg7 l6 XA ka
   obtain ⟨c0, c1, c2, c3, c4, f0, f1, f2, f3, f4⟩ := five_cells B0
   obtain ⟨d0, d1, d2, d3, d4, g0, g1, g2, g3, g4⟩ := five_cells B1
   obtain ⟨m0, m1, m2, m3, m4, mf0, mf1, mf2, mf3, mf4⟩ := five_cells B6
   go_upto_region 5 with fail
   go_cut [10] (fun p wx => Quot wc m p wx)
   case first =>
    have EB := Ext.refl wc
    go_region_held3 (fun w' => w'.cell? ⟨w.heap.size + 1, 0, none⟩ = some (.bool t) ∧ w'.cell? ⟨w.heap.size + 1, 1, none⟩ = some (.int .u64 (e : Int)) ∧ w'.cell? ⟨w.heap.size + 1, 2, none⟩ = some (.int .u64 (f : Int)) ∧ w'.cell? ⟨w.heap.size + 1, 3, none⟩ = some (.int .u64 (g : Int)) ∧ w'.cell? ⟨w.heap.size + 1, 4, none⟩ = some (.int .u64 (h : Int)) ∧ w'.cell? ⟨g6, 0, none⟩ = some (.bool s8) ∧ w'.cell? ⟨g6, 1, none⟩ = some (.int .u64 (a8 : Int)) ∧ w'.cell? ⟨g6, 2, none⟩ = some (.int .u64 (b8 : Int)) ∧ w'.cell? ⟨g6, 3, none⟩ = some (.int .u64 (c8 : Int)) ∧ w'.cell? ⟨g6, 4, none⟩ = some (.int .u64 (d8 : Int))) (first | (with_reducible exact ⟨d0, d1, d2, d3, d4, m0, m1, m2, m3, m4⟩) | go_keep) (first
      | (go_at_call 77; (with_reducible refine (kb.out _).mono ?_); rintro e' w5 ⟨rfl, hE⟩; have hF : Ext wc w5 := (by first | (with_reducible exact hE) | (with_reducible exact (ext_drew _).trans hE)); clear hE; have hG := hF; have B1 := B1.ext hG; have B6 := B6.ext hG; have EB := EB.trans hG; obtain ⟨d0, d1, d2, d3, d4, g0, g1, g2, g3, g4⟩ := five_cells B1; obtain ⟨m0, m1, m2, m3, m4, mf0, mf1, mf2, mf3, mf4⟩ := five_cells B6; have szw5 := hG.size; have loB1 := B1.lt; have loB6 := B6.lt; clear hF hG)
      | (go_at_call 77; (with_reducible refine (kb.out _).mono ?_); rintro e' w5 ⟨rfl, hE⟩; have hF : Ext (wc.alloc (.cells #[.bool false, .int .u64 0, .int .u64 0, .int .u64 0, .int .u64 0] 25)) w5 := (by first | (with_reducible exact hE) | (with_reducible exact (ext_drew _).trans hE)); clear hE; have hG := (ext_alloc wc (.cells #[.bool false, .int .u64 0, .int .u64 0, .int .u64 0, .int .u64 0] 25)).trans hF; have Nw50 : Box w5 (wc.heap.size) false 0 0 0 0 := (Box.new0 wc).ext hF; have B1 := B1.ext hG; have B6 := B6.ext hG; have EB := EB.trans hG; obtain ⟨d0, d1, d2, d3, d4, g0, g1, g2, g3, g4⟩ := five_cells B1; obtain ⟨m0, m1, m2, m3, m4, mf0, mf1, mf2, mf3, mf4⟩ := five_cells B6; obtain ⟨x0c0, x0c1, x0c2, x0c3, x0c4, x0f0, x0f1, x0f2, x0f3, x0f4⟩ := five_cells Nw50; have szw5 := hG.size; have loB1 := B1.lt; have loB6 := B6.lt; have loNw50 := Nw50.lt; have ne0 : wc.heap.size ≠ w.heap.size + 1 := (by omega); have ne1 : wc.heap.size ≠ g6 := (by omega); clear hF hG)
      | (go_at_call 77; (with_reducible refine (kb.out _).mono ?_); rintro e' w5 ⟨rfl, hE⟩; have hF : Ext ((wc.alloc (.cells #[.bool false, .int .u64 0, .int .u64 0, .int .u64 0, .int .u64 0] 25)).alloc (.cells #[.bool false, .int .u64 0, .int .u64 0, .int .u64 0, .int .u64 0] 25)) w5 := (by first | (with_reducible exact hE) | (with_reducible exact (ext_drew _).trans hE)); clear hE; have hG := ((ext_alloc wc (.cells #[.bool false, .int .u64 0, .int .u64 0, .int .u64 0, .int .u64 0] 25)).trans (ext_alloc _ (.cells #[.bool false, .int .u64 0, .int .u64 0, .int .u64 0, .int .u64 0] 25))).trans hF; have Nw50 : Box w5 (wc.heap.size) false 0 0 0 0 := ((Box.new0 wc).ext (ext_alloc _ _)).ext hF; have Nw51 : Box w5 (wc.heap.size + 1) false 0 0 0 0 := (show Box ((wc.alloc (.cells #[.bool false, .int .u64 0, .int .u64 0, .int .u64 0, .int .u64 0] 25)).alloc (.cells #[.bool false, .int .u64 0, .int .u64 0, .int .u64 0, .int .u64 0] 25)) (wc.heap.size + 1) false 0 0 0 0 from (two_blocks wc (.cells #[.bool false, .int .u64 0, .int .u64 0, .int .u64 0, .int .u64 0] 25) (.cells #[.bool false, .int .u64 0, .int .u64 0, .int .u64 0, .int .u64 0] 25)).2).ext hF; have B1 := B1.ext hG; have B6 := B6.ext hG; have EB := EB.trans hG; obtain ⟨d0, d1, d2, d3, d4, g0, g1, g2, g3, g4⟩ := five_cells B1; obtain ⟨m0, m1, m2, m3, m4, mf0, mf1, mf2, mf3, mf4⟩ := five_cells B6; obtain ⟨x0c0, x0c1, x0c2, x0c3, x0c4, x0f0, x0f1, x0f2, x0f3, x0f4⟩ := five_cells Nw50; obtain ⟨x1c0, x1c1, x1c2, x1c3, x1c4, x1f0, x1f1, x1f2, x1f3, x1f4⟩ := five_cells Nw51; have szw5 := hG.size; have loB1 := B1.lt; have loB6 := B6.lt; have loNw50 := Nw50.lt; have loNw51 := Nw51.lt; have ne0 : wc.heap.size ≠ w.heap.size + 1 := (by omega); have ne1 : wc.heap.size + 1 ≠ w.heap.size + 1 := (by omega); have ne2 : wc.heap.size ≠ w.heap.size := (by omega); have ne3 : wc.heap.size ≠ g6 := (by omega); have ne4 : wc.heap.size + 1 ≠ g6 := (by omega); have ne5 : wc.heap.size + 1 ≠ wc.heap.size := (by omega); clear hF hG)
      | (go_at_call 55; refine (ref_wdiv false s8 e f g h a8 b8 c8 d8 Y G _ YA.out V8.out).mono ?_; rintro e' w9 ⟨s3, a3, b3, c3, d3, s9, a9, b9, c9, d9, o3, rfl, ho, C3, C4, hE⟩; have Ho := hide ho; rw [if_neg hGne.out] at C3; rw [HMM.out] at C3; have K3 := hide C3; clear ho C3 C4; have hF : Ext w5 w9 := (by first | (with_reducible exact hE) | (with_reducible exact (ext_drew _).trans hE)); clear hE; have hG := hF; have B1 := B1.ext hG; have B6 := B6.ext hG; have EB := EB.trans hG; have Nw50 := Nw50.ext hG; have Nw51 := Nw51.ext hG; obtain ⟨d0, d1, d2, d3, d4, g0, g1, g2, g3, g4⟩ := five_cells B1; obtain ⟨m0, m1, m2, m3, m4, mf0, mf1, mf2, mf3, mf4⟩ := five_cells B6; obtain ⟨x0c0, x0c1, x0c2, x0c3, x0c4, x0f0, x0f1, x0f2, x0f3, x0f4⟩ := five_cells Nw50; obtain ⟨x1c0, x1c1, x1c2, x1c3, x1c4, x1f0, x1f1, x1f2, x1f3, x1f4⟩ := five_cells Nw51; have szw9 := hG.size; have loB1 := B1.lt; have loB6 := B6.lt; have loNw50 := Nw50.lt; have loNw51 := Nw51.lt; have ne0 : wc.heap.size ≠ w.heap.size + 1 := (by omega); have ne1 : wc.heap.size + 1 ≠ w.heap.size + 1 := (by omega); have ne2 : wc.heap.size ≠ w.heap.size := (by omega); have ne3 : wc.heap.size ≠ g6 := (by omega); have ne4 : wc.heap.size + 1 ≠ g6 := (by omega); have ne5 : wc.heap.size + 1 ≠ wc.heap.size := (by omega); clear hF hG)
      | (go_at_call 55; refine (ref_wdiv false s8 e f g h a8 b8 c8 d8 Y G _ YA.out V8.out).mono ?_; rintro e' w9 ⟨s3, a3, b3, c3, d3, s9, a9, b9, c9, d9, o3, rfl, ho, C3, C4, hE⟩; have Ho := hide ho; rw [if_neg hGne.out] at C3; rw [HMM.out] at C3; have K3 := hide C3; clear ho C3 C4; have hF : Ext w5 w9 := (by first | (with_reducible exact hE) | (with_reducible exact (ext_drew _).trans hE)); clear hE; have hG := hF; have B1 := B1.ext hG; have B6 := B6.ext hG; have EB := EB.trans hG; have Nw50 := Nw50.ext hG; obtain ⟨d0, d1, d2, d3, d4, g0, g1, g2, g3, g4⟩ := five_cells B1; obtain ⟨m0, m1, m2, m3, m4, mf0, mf1, mf2, mf3, mf4⟩ := five_cells B6; obtain ⟨x0c0, x0c1, x0c2, x0c3, x0c4, x0f0, x0f1, x0f2, x0f3, x0f4⟩ := five_cells Nw50; have szw9 := hG.size; have loB1 := B1.lt; have loB6 := B6.lt; have loNw50 := Nw50.lt; have ne0 : wc.heap.size ≠ w.heap.size + 1 := (by omega); have ne1 : wc.heap.size ≠ g6 := (by omega); clear hF hG)
      | (go_at_call 55; refine (ref_wdiv false s8 e f g h a8 b8 c8 d8 Y G _ YA.out V8.out).mono ?_; rintro e' w9 ⟨s3, a3, b3, c3, d3, s9, a9, b9, c9, d9, o3, rfl, ho, C3, C4, hE⟩; have Ho := hide ho; rw [if_neg hGne.out] at C3; rw [HMM.out] at C3; have K3 := hide C3; clear ho C3 C4; have hF : Ext (w5.alloc (.cells #[.bool false, .int .u64 0, .int .u64 0, .int .u64 0, .int .u64 0] 25)) w9 := (by first | (with_reducible exact hE) | (with_reducible exact (ext_drew _).trans hE)); clear hE; have hG := (ext_alloc w5 (.cells #[.bool false, .int .u64 0, .int .u64 0, .int .u64 0, .int .u64 0] 25)).trans hF; have Nw90 : Box w9 (w5.heap.size) false 0 0 0 0 := (Box.new0 w5).ext hF; have B1 := B1.ext hG; have B6 := B6.ext hG; have EB := EB.trans hG; have Nw50 := Nw50.ext hG; obtain ⟨d0, d1, d2, d3, d4, g0, g1, g2, g3, g4⟩ := five_cells B1; obtain ⟨m0, m1, m2, m3, m4, mf0, mf1, mf2, mf3, mf4⟩ := five_cells B6; obtain ⟨x0c0, x0c1, x0c2, x0c3, x0c4, x0f0, x0f1, x0f2, x0f3, x0f4⟩ := five_cells Nw50; obtain ⟨x1c0, x1c1, x1c2, x1c3, x1c4, x1f0, x1f1, x1f2, x1f3, x1f4⟩ := five_cells Nw90; have szw9 := hG.size; have loB1 := B1.lt; have loB6 := B6.lt; have loNw50 := Nw50.lt; have loNw90 := Nw90.lt; have ne0 : wc.heap.size ≠ w.heap.size + 1 := (by omega); have ne1 : w5.heap.size ≠ w.heap.size + 1 := (by omega); have ne2 : wc.heap.size ≠ g6 := (by omega); have ne3 : w5.heap.size ≠ g6 := (by omega); have ne4 : w5.heap.size ≠ wc.heap.size := (by omega); clear hF hG)
      | (go_at_call 55; refine (ref_wdiv false s8 e f g h a8 b8 c8 d8 Y G _ YA.out V8.out).mono ?_; rintro e' w9 ⟨s3, a3, b3, c3, d3, s9, a9, b9, c9, d9, o3, rfl, ho, C3, C4, hE⟩; have Ho := hide ho; rw [if_neg hGne.out] at C3; rw [HMM.out] at C3; have K3 := hide C3; clear ho C3 C4; have hF : Ext w5 w9 := (by first | (with_reducible exact hE) | (with_reducible exact (ext_drew _).trans hE)); clear hE; have hG := hF; have B1 := B1.ext hG; have B6 := B6.ext hG; have EB := EB.trans hG; obtain ⟨d0, d1, d2, d3, d4, g0, g1, g2, g3, g4⟩ := five_cells B1; obtain ⟨m0, m1, m2, m3, m4, mf0, mf1, mf2, mf3, mf4⟩ := five_cells B6; have szw9 := hG.size; have loB1 := B1.lt; have loB6 := B6.lt; clear hF hG)
      | (go_at_call 55; refine (ref_wdiv false s8 e f g h a8 b8 c8 d8 Y G _ YA.out V8.out).mono ?_; rintro e' w9 ⟨s3, a3, b3, c3, d3, s9, a9, b9, c9, d9, o3, rfl, ho, C3, C4, hE⟩; have Ho := hide ho; rw [if_neg hGne.out] at C3; rw [HMM.out] at C3; have K3 := hide C3; clear ho C3 C4; have hF : Ext (w5.alloc (.cells #[.bool false, .int .u64 0, .int .u64 0, .int .u64 0, .int .u64 0] 25)) w9 := (by first | (with_reducible exact hE) | (with_reducible exact (ext_drew _).trans hE)); clear hE; have hG := (ext_alloc w5 (.cells #[.bool false, .int .u64 0, .int .u64 0, .int .u64 0, .int .u64 0] 25)).trans hF; have Nw90 : Box w9 (w5.heap.size) false 0 0 0 0 := (Box.new0 w5).ext hF; have B1 := B1.ext hG; have B6 := B6.ext hG; have EB := EB.trans hG; obtain ⟨d0, d1, d2, d3, d4, g0, g1, g2, g3, g4⟩ := five_cells B1; obtain ⟨m0, m1, m2, m3, m4, mf0, mf1, mf2, mf3, mf4⟩ := five_cells B6; obtain ⟨x0c0, x0c1, x0c2, x0c3, x0c4, x0f0, x0f1, x0f2, x0f3, x0f4⟩ := five_cells Nw90; have szw9 := hG.size; have loB1 := B1.lt; have loB6 := B6.lt; have loNw90 := Nw90.lt; have ne0 : w5.heap.size ≠ w.heap.size + 1 := (by omega); have ne1 : w5.heap.size ≠ g6 := (by omega); clear hF hG)
      | (go_at_call 55; refine (ref_wdiv false s8 e f g h a8 b8 c8 d8 Y G _ YA.out V8.out).mono ?_; rintro e' w9 ⟨s3, a3, b3, c3, d3, s9, a9, b9, c9, d9, o3, rfl, ho, C3, C4, hE⟩; have Ho := hide ho; rw [if_neg hGne.out] at C3; rw [HMM.out] at C3; have K3 := hide C3; clear ho C3 C4; have hF : Ext ((w5.alloc (.cells #[.bool false, .int .u64 0, .int .u64 0, .int .u64 0, .int .u64 0] 25)).alloc (.cells #[.bool false, .int .u64 0, .int .u64 0, .int .u64 0, .int .u64 0] 25)) w9 := (by first | (with_reducible exact hE) | (with_reducible exact (ext_drew _).trans hE)); clear hE; have hG := ((ext_alloc w5 (.cells #[.bool false, .int .u64 0, .int .u64 0, .int .u64 0, .int .u64 0] 25)).trans (ext_alloc _ (.cells #[.bool false, .int .u64 0, .int .u64 0, .int .u64 0, .int .u64 0] 25))).trans hF; have Nw90 : Box w9 (w5.heap.size) false 0 0 0 0 := ((Box.new0 w5).ext (ext_alloc _ _)).ext hF; have Nw91 : Box w9 (w5.heap.size + 1) false 0 0 0 0 := (show Box ((w5.alloc (.cells #[.bool false, .int .u64 0, .int .u64 0, .int .u64 0, .int .u64 0] 25)).alloc (.cells #[.bool false, .int .u64 0, .int .u64 0, .int .u64 0, .int .u64 0] 25)) (w5.heap.size + 1) false 0 0 0 0 from (two_blocks w5 (.cells #[.bool false, .int .u64 0, .int .u64 0, .int .u64 0, .int .u64 0] 25) (.cells #[.bool false, .int .u64 0, .int .u64 0, .int .u64 0, .int .u64 0] 25)).2).ext hF; have B1 := B1.ext hG; have B6 := B6.ext hG; have EB := EB.trans hG; obtain ⟨d0, d1, d2, d3, d4, g0, g1, g2, g3, g4⟩ := five_cells B1; obtain ⟨m0, m1, m2, m3, m4, mf0, mf1, mf2, mf3, mf4⟩ := five_cells B6; obtain ⟨x0c0, x0c1, x0c2, x0c3, x0c4, x0f0, x0f1, x0f2, x0f3, x0f4⟩ := five_cells Nw90; obtain ⟨x1c0, x1c1, x1c2, x1c3, x1c4, x1f0, x1f1, x1f2, x1f3, x1f4⟩ := five_cells Nw91; have szw9 := hG.size; have loB1 := B1.lt; have loB6 := B6.lt; have loNw90 := Nw90.lt; have loNw91 := Nw91.lt; have ne0 : w5.heap.size ≠ w.heap.size + 1 := (by omega); have ne1 : w5.heap.size + 1 ≠ w.heap.size + 1 := (by omega); have ne2 : w5.heap.size ≠ w.heap.size := (by omega); have ne3 : w5.heap.size ≠ g6 := (by omega); have ne4 : w5.heap.size + 1 ≠ g6 := (by omega); have ne5 : w5.heap.size + 1 ≠ w5.heap.size := (by omega); clear hF hG))
    all_goals go_wp2_with fail
    all_goals go_meet
    all_goals first
      | (with_reducible exact quo0 K3.out EB)
      | (with_reducible exact quo0' K3.out EB)
      | (with_reducible exact quo1 K3.out EB Nw50 (by omega))
      | (with_reducible exact quo1 K3.out EB Nw51 (by omega))
      | (with_reducible exact quo1 K3.out EB Nw90 (by omega))
      | (with_reducible exact quo1 K3.out EB Nw91 (by omega))
      | (with_reducible exact quo1' K3.out EB (g := wc.heap.size) (by omega))
      | (with_reducible exact quo1' K3.out EB (g := wc.heap.size + 1) (by omega))
      | (with_reducible exact quo1' K3.out EB (g := w5.heap.size) (by omega))
      | (with_reducible exact quo1' K3.out EB (g := w5.heap.size + 1) (by omega))
      | (with_reducible exact quo2 K3.out EB Nw50 (g' := wc.heap.size + 1) (by omega) (by omega) (by omega))
      | (with_reducible exact quo2 K3.out EB Nw50 (g' := w5.heap.size) (by omega) (by omega) (by omega))
      | (with_reducible exact quo2 K3.out EB Nw50 (g' := w5.heap.size + 1) (by omega) (by omega) (by omega))
      | (with_reducible exact quo2 K3.out EB Nw51 (g' := wc.heap.size) (by omega) (by omega) (by omega))
      | (with_reducible exact quo2 K3.out EB Nw51 (g' := w5.heap.size) (by omega) (by omega) (by omega))
      | (with_reducible exact quo2 K3.out EB Nw51 (g' := w5.heap.size + 1) (by omega) (by omega) (by omega))
      | (with_reducible exact quo2 K3.out EB Nw90 (g' := wc.heap.size) (by omega) (by omega) (by omega))
      | (with_reducible exact quo2 K3.out EB Nw90 (g' := wc.heap.size + 1) (by omega) (by omega) (by omega))
      | (with_reducible exact quo2 K3.out EB Nw90 (g' := w5.heap.size + 1) (by omega) (by omega) (by omega))
      | (with_reducible exact quo2 K3.out EB Nw91 (g' := wc.heap.size) (by omega) (by omega) (by omega))
      | (with_reducible exact quo2 K3.out EB Nw91 (g' := wc.heap.size + 1) (by omega) (by omega) (by omega))
      | (with_reducible exact quo2 K3.out EB Nw91 (g' := w5.heap.size) (by omega) (by omega) (by omega))
   case rest =>
    obtain ⟨g10, s10, a10, b10, c10, d10, rfl, C10, B10, hg10, hE⟩ := hcut
    have K10 := hide C10
    have B0 := B0.ext hE; have B1 := B1.ext hE; have B2 := B2.ext hE; have B7 := B7.ext hE; have EE := EE.trans hE
    have n10 : g7 < g10 := Nat.lt_of_lt_of_le l7 hg10
    clear C10 hE hg10 l7 YA kb B6
    obtain ⟨c0, c1, c2, c3, c4, f0, f1, f2, f3, f4⟩ := five_cells B0
    obtain ⟨d0, d1, d2, d3, d4, g0, g1, g2, g3, g4⟩ := five_cells B1
    obtain ⟨m0, m1, m2, m3, m4, mf0, mf1, mf2, mf3, mf4⟩ := five_cells B7
    go_upto_if 53 with fail
    go_cut [] (fun wx => ∃ (s' : Bool) (a' b' c' d' : Nat), IsC s' a' b' c' d' (numR x y) ∧ Box wx g7 s' a' b' c' d' ∧ Box wx g10 s10 a10 b10 c10 d10 ∧ Box10 wx (w.heap.size + 1 + 1) false 0 0 0 0 false 0 0 0 0 ∧ Ext w wx)
    case first =>
     cases df
     · have h1 := HN1.out
       rw [if_neg (by simp)] at h1
       have HR : Hid (IsC s7 a7 b7 c7 d7 (numR x y)) := by rw [h1]; exact K7.out
       clear h1
       go_wp2_with fail
       all_goals go_meet
       all_goals exact ⟨s7, a7, b7, c7, d7, HR.out, B7, B10, B2, EE⟩
     · have h1 := HN1.out
       rw [if_pos rfl] at h1
       have kn : Hid (∀ w', Calls Try.prog 11 #[.agg #[.bool s7, .int .u64 (a7 : Int), .int .u64 (b7 : Int), .int .u64 (c7 : Int), .int .u64 (d7 : Int)]] w' (WideOnly (numR x y) w')) := fun w' => by rw [h1]; exact ref_neg _ _ _ _ _ _ w' K7.out.1
       clear h1
       go_wp2_with (go_at_call 11; (with_reducible refine (kn.out _).mono ?_); rintro e' w12 ⟨s12, a12, b12, c12, d12, rfl, C12, hE⟩; have K12 := hide C12; have B7 := B7.ext hE; have B10 := B10.ext hE; have B2 := B2.ext hE; have EE := EE.trans hE; obtain ⟨m0, m1, m2, m3, m4, mf0, mf1, mf2, mf3, mf4⟩ := five_cells B7; clear hE C12)
       all_goals go_meet
       all_goals exact ⟨s12, a12, b12, c12, d12, K12.out, B7.put, B10.far (by omega) _ _ _ _ _, B2.far (by omega) _ _ _ _ _, ext_five EE (by omega) _ _ _ _ _⟩
    case rest =>
     clear B0 B1 B7 B10 B2 EE K7
     obtain ⟨s7, a7, b7, c7, d7, C7, B7, B10, B2, EE⟩ := hcut
     have K10' : IsC s10 a10 b10 c10 d10 (denR x y) := by rw [HD1.out]; exact K10.out
     have hvo := HVV.out _ _ _ _ _ _ _ _ _ _ C7 K10'
     rw [HO.out] at hvo
     have kv : Hid (∀ w', Calls Try.prog 58 #[.agg #[.bool s7, .int .u64 (a7 : Int), .int .u64 (b7 : Int), .int .u64 (c7 : Int), .int .u64 (d7 : Int), .bool s10, .int .u64 (a10 : Int), .int .u64 (b10 : Int), .int .u64 (c10 : Int), .int .u64 (d10 : Int)]] w' (BoolRet o w')) := fun w' => rf_valid _ _ _ _ _ _ _ _ _ _ _ _ w' C7.1 K10'.1 o hvo
     have K7 := hide C7
     have K11 := hide K10'
     clear hvo C7 K10' K10
     obtain ⟨m0, m1, m2, m3, m4, mf0, mf1, mf2, mf3, mf4⟩ := five_cells B7
     obtain ⟨n0, n1, n2, n3, n4, nf0, nf1, nf2, nf3, nf4⟩ := five_cells B10
     go_upto_region 9 with fail
     have B13 : Box10 (wc.alloc (.cells #[.bool s7, .int .u64 (a7 : Int), .int .u64 (b7 : Int), .int .u64 (c7 : Int), .int .u64 (d7 : Int), .bool s10, .int .u64 (a10 : Int), .int .u64 (b10 : Int), .int .u64 (c10 : Int), .int .u64 (d10 : Int)] 40)) wc.heap.size s7 a7 b7 c7 d7 s10 a10 b10 c10 d10 := heap_alloc_new wc _
     have hE := ext_alloc wc (.cells #[.bool s7, .int .u64 (a7 : Int), .int .u64 (b7 : Int), .int .u64 (c7 : Int), .int .u64 (d7 : Int), .bool s10, .int .u64 (a10 : Int), .int .u64 (b10 : Int), .int .u64 (c10 : Int), .int .u64 (d10 : Int)] 40)
     have l2 := B2.lt
     have B2 := B2.ext hE; have EE := EE.trans hE
     generalize wc.alloc (.cells #[.bool s7, .int .u64 (a7 : Int), .int .u64 (b7 : Int), .int .u64 (c7 : Int), .int .u64 (d7 : Int), .bool s10, .int .u64 (a10 : Int), .int .u64 (b10 : Int), .int .u64 (c10 : Int), .int .u64 (d10 : Int)] 40) = W13 at *
     generalize wc.heap.size = g13 at *
     clear hE
     obtain ⟨q0, q1, q2, q3, q4, q5, q6, q7, q8, q9, qf0, qf1, qf2, qf3, qf4, qf5, qf6, qf7, qf8, qf9⟩ := ten_cells B13
     cases o
     · have KR : Hid (N = 0 ∧ D = 0) := ⟨HN.out.symm, HD.out.symm⟩
       go_wp2_with (go_at_call 58; (with_reducible refine (kv.out _).mono ?_); rintro e' w14 ⟨rfl, hE⟩; have B13 := B13.ext hE; have B2 := B2.ext hE; have EE := EE.trans hE; obtain ⟨q0, q1, q2, q3, q4, q5, q6, q7, q8, q9, qf0, qf1, qf2, qf3, qf4, qf5, qf6, qf7, qf8, qf9⟩ := ten_cells B13; obtain ⟨i0, i1, i2, i3, i4, i5, i6, i7, i8, i9, j0, j1, j2, j3, j4, j5, j6, j7, j8, j9⟩ := ten_cells B2; clear hE)
       all_goals exact bodyPost_ret (v := .tuple #[.agg #[.bool false, .int .u64 0, .int .u64 0, .int .u64 0, .int .u64 0, .bool false, .int .u64 0, .int .u64 0, .int .u64 0, .int .u64 0], .bool false]) (by simp [results, Try.results45, go_sem, i0, i1, i2, i3, i4, i5, i6, i7, i8, i9]) rfl (by rw [KR.out.1, KR.out.2]; exact makeRet_no (ext_ten EE (by omega) _ _ _ _ _ _ _ _ _ _))
     · have KR : Hid (IsC s7 a7 b7 c7 d7 N ∧ IsC s10 a10 b10 c10 d10 D) := by
         have h1 := HN.out
         have h2 := HD.out
         rw [if_pos rfl] at h1 h2
         rw [← h1, ← h2]
         exact ⟨K7.out, K11.out⟩
       go_wp2_with (go_at_call 58; (with_reducible refine (kv.out _).mono ?_); rintro e' w14 ⟨rfl, hE⟩; have B13 := B13.ext hE; have B2 := B2.ext hE; have EE := EE.trans hE; obtain ⟨q0, q1, q2, q3, q4, q5, q6, q7, q8, q9, qf0, qf1, qf2, qf3, qf4, qf5, qf6, qf7, qf8, qf9⟩ := ten_cells B13; obtain ⟨i0, i1, i2, i3, i4, i5, i6, i7, i8, i9, j0, j1, j2, j3, j4, j5, j6, j7, j8, j9⟩ := ten_cells B2; clear hE)
       all_goals exact bodyPost_ret (v := .tuple #[.agg #[.bool s7, .int .u64 (a7 : Int), .int .u64 (b7 : Int), .int .u64 (c7 : Int), .int .u64 (d7 : Int), .bool s10, .int .u64 (a10 : Int), .int .u64 (b10 : Int), .int .u64 (c10 : Int), .int .u64 (d10 : Int)], .bool true]) (by simp [results, Try.results45, go_sem, i0, i1, i2, i3, i4, i5, i6, i7, i8, i9]) rfl ⟨s7, a7, b7, c7, d7, s10, a10, b10, c10, d10, rfl, KR.out.1, KR.out.2, ext_ten EE (by omega) _ _ _ _ _ _ _ _ _ _⟩
end
section
open Go Go.RowKit Go.Sort
theorem cnC_size (c : Cn) : (cnC c).size = 21 := by
 obtain ⟨o, L, H, e, hL, hH⟩ := cnC_form c
 rw [e]; exact coneC_size o hL.size hH.size
theorem cnC_one (c : Cn) : (cnC c).all (·.oneCell') = true := by
 obtain ⟨o, L, H, e, hL, hH⟩ := cnC_form c
 rw [e]; exact cone_one o hL.one hH.one
theorem cnC_eq (c : Cn) (w : World) : (binOp .eql 42 (.agg (cnC c)) (.agg (cnC c))).run Try.prog w = .ok (.bool true) w := by
 obtain ⟨o, L, H, e, hL, hH⟩ := cnC_form c
 rw [e]; exact eq_cone o hL hH w
def moC : Option Cn → Array Value
 | some c => cnC c
 | none => z21
def PVal (f : Nat) : Prop := ∀ c, okC c → ∀ w, Calls Try.prog f #[.agg (cnC c)] w (Ret (.bool true) w)
def PCon (f : Nat) : Prop := ∀ c s, okC c → okF s → ∀ w, Calls Try.prog f #[.agg (cnC c), .agg (frC s)] w (Ret (.bool (decide (inC c s))) w)
def PCho (f : Nat) : Prop := ∀ c, okC c → ∃ s, ChC c s ∧ ∀ w, Calls Try.prog f #[.agg (cnC c)] w (Ret (.agg (frC s)) w)
def PMee (f : Nat) : Prop := ∀ a b, okC a → okC b → ∀ w, Calls Try.prog f #[.agg (cnC a), .agg (cnC b)] w (Ret (.tuple #[.agg (moC (meetC a b)), .bool (meetC a b).isSome]) w)
end
section
open Go Go.RowKit Go.Sort
theorem cmpF_le {r s : Fr} {k : Int} (h : cmpI (r.1 * s.2) (s.1 * r.2) = k) : decide (k ≤ 0) = decide (leF r s) := by
 have := cmpI_lt h
 unfold leF
 by_cases hl : r.1 * s.2 ≤ s.1 * r.2
 · rw [decide_eq_true hl, decide_eq_true (by omega)]
 · rw [decide_eq_false hl, decide_eq_false (by omega)]
theorem cmpF_lt {r s : Fr} {k : Int} (h : cmpI (r.1 * s.2) (s.1 * r.2) = k) : (0 < k ↔ ¬ leF r s) ∧ (k < 0 ↔ ¬ leF s r) := by
 have := cmpI_lt h
 unfold leF
 constructor <;> constructor <;> intro q <;> omega
end
section
open Go Go.RowKit Go.Sort
theorem rz_eq (s : Bool) (a b c e : Int) (t : Bool) (f g h i : Int) : ((#[.bool s, .int .u64 a, .int .u64 b, .int .u64 c, .int .u64 e, .bool t, .int .u64 f, .int .u64 g, .int .u64 h, .int .u64 i] : Array Value) = zR) ↔ (same5 s false a b c e 0 0 0 0 && same5 t false f g h i 0 0 0 0) = true := by
 simp [zR, same5, and_assoc]
theorem eq_cone_open {L H : Array Value} (hL : RC L) (hH : RC H) (v : Bool) (hv : (L = zR ∧ H = zR) ↔ v = true) (w : World) : (binOp .eql 42 (.agg (coneC true L H)) (.agg stC)).run Try.prog w = .ok (.bool v) w := by
 obtain ⟨s, a, b, c, e, t, f, g, h, i, rfl⟩ := hL
 obtain ⟨s', a', b', c', e', t', f', g', h', i', rfl⟩ := hH
 have hS : Try.prog.underlying 42 = some (.struct (Try.prog.fieldsOf 42)) := by kernel_rfl
 have hp : Try.prog.stoodInHeld 42 = false := by kernel_rfl
 have u4 := Try.underlying4
 have z25 := Try.sizeOf40
 have h5 := eqInR9
 rw [run_eql_struct, show (10000 : Nat) = 9999 + 1 from rfl, run_equalIn_agg w 9999 42 _ _ hS hp]
 simp only [Program.fieldsOf, Try.underlying42, stC]
 simp [Op.eqFields, part, isAgg, run_underlying u4, run_equalIn_bool', u4, h5, z25, coneC]
 rw [rz_eq, rz_eq] at hv
 revert hv
 generalize same5 s false a b c e 0 0 0 0 = p
 generalize same5 t false f g h i 0 0 0 0 = q
 generalize same5 s' false a' b' c' e' 0 0 0 0 = r
 generalize same5 t' false f' g' h' i' 0 0 0 0 = u
 intro hv
 cases p <;> cases q <;> cases r <;> cases u <;> cases v <;> simp at hv ⊢
def BadR (S : Array Value) : Prop := ∃ (s : Bool) (a b c d : Nat) (t : Bool) (e f g h : Nat) (n m : Int), S = #[.bool s, .int .u64 (a : Int), .int .u64 (b : Int), .int .u64 (c : Int), .int .u64 (d : Int), .bool t, .int .u64 (e : Int), .int .u64 (f : Int), .int .u64 (g : Int), .int .u64 (h : Int)] ∧ IsW s a b c d n ∧ IsW t e f g h m ∧ ¬ RatOk s n t m
def OkR (S : Array Value) : Prop := ∃ f, okF f ∧ S = frC f
def RawR (S : Array Value) : Prop := OkR S ∨ BadR S
theorem RawR.rc {S : Array Value} (h : RawR S) : RC S := by
 rcases h with ⟨f, _, rfl⟩ | ⟨s, a, b, c, d, t, e, f, g, h, n, m, rfl, _⟩
 · exact frC_rc f
 · exact ⟨_, _, _, _, _, _, _, _, _, _, rfl⟩
def BadC (X : Array Value) : Prop := ∃ o L H, X = coneC o L H ∧ RawR L ∧ RawR H ∧ ((o = true ∧ ¬ (L = zR ∧ H = zR)) ∨ (o = false ∧ (BadR L ∨ (OkR L ∧ BadR H) ∨ ∃ f g, okF f ∧ okF g ∧ L = frC f ∧ H = frC g ∧ ¬ leF f g)))
def OkC (X : Array Value) : Prop := ∃ c, okC c ∧ X = cnC c
def RawC (X : Array Value) : Prop := OkC X ∨ BadC X
end
section
open Go Go.RowKit Go.Sort
def RVal (f : Nat) : Prop := ∀ X, BadC X → ∀ w, Calls Try.prog f #[.agg X] w (Ret (.bool false) w)
def RCon (f : Nat) : Prop := (∀ X S, BadC X → RawR S → ∀ w, Calls Try.prog f #[.agg X, .agg S] w (Ret (.bool false) w)) ∧ (∀ c S, okC c → BadR S → ∀ w, Calls Try.prog f #[.agg (cnC c), .agg S] w (Ret (.bool false) w))
def RCho (f : Nat) : Prop := ∀ X, BadC X → ∀ w, Calls Try.prog f #[.agg X] w (Ret (.agg zR) w)
def RMee (f : Nat) : Prop := ∀ X Y, RawC X → RawC Y → (BadC X ∨ BadC Y) → ∀ w, Calls Try.prog f #[.agg X, .agg Y] w (Ret (.tuple #[.agg z21, .bool false]) w)
theorem BadR.raw {S : Array Value} (h : BadR S) : RawR S := Or.inr h
theorem raw_form {X : Array Value} (h : RawC X) : ∃ o L H, X = coneC o L H ∧ RC L ∧ RC H := by
 rcases h with ⟨c, _, rfl⟩ | ⟨o, L, H, rfl, hL, hH, _⟩
 · exact cnC_form c
 · exact ⟨o, L, H, rfl, hL.rc, hH.rc⟩
structure PAll (fv fc fh fm : Nat) : Prop where
 v : PVal fv
 c : PCon fc
 h : PCho fh
 m : PMee fm
 v' : RVal fv
 c' : RCon fc
 h' : RCho fh
 m' : RMee fm
end
section
open Go Go.RowKit Go.Sort
theorem h_make {x y n d : Int} {o : Bool} (hx : F256 x) (hy : F256 y) (h0 : y ≠ 0) (ho : mkB x y = o) (hn : (if o then numR x y else 0) = n) (hd : (if o then denR x y else 0) = d) (w : World) : Calls Try.prog 45 #[.agg #[.bool (sg x), .int .u64 (l0 x : Int), .int .u64 (l1 x : Int), .int .u64 (l2 x : Int), .int .u64 (l3 x : Int)], .agg #[.bool (sg y), .int .u64 (l0 y : Int), .int .u64 (l1 y : Int), .int .u64 (l2 y : Int), .int .u64 (l3 y : Int)]] w (Ret (.tuple #[.agg #[.bool (sg n), .int .u64 (l0 n : Int), .int .u64 (l1 n : Int), .int .u64 (l2 n : Int), .int .u64 (l3 n : Int), .bool (sg d), .int .u64 (l0 d : Int), .int .u64 (l1 d : Int), .int .u64 (l2 d : Int), .int .u64 (l3 d : Int)], .bool o]) w) :=
 (rf_make_yes _ _ _ _ _ _ _ _ _ _ x y w (isC_of hx) (isC_of hy) h0 o ho).mono fun _ _ k => ret_make (by subst hn hd; exact k)
end
section
open Go Go.RowKit Go.Sort
def wC (z : Int) : Array Value := #[.bool (sg z), .int .u64 (l0 z : Int), .int .u64 (l1 z : Int), .int .u64 (l2 z : Int), .int .u64 (l3 z : Int)]
theorem wC_one (z : Int) : (wC z).all (·.oneCell') = true := by unfold wC; kernel_rfl
theorem wC_abs (z : Int) : (wC z).setIfInBounds 0 (.bool false) = wC (z.natAbs : Int) := by
 have e : sg ((z.natAbs : Nat) : Int) = false := decide_eq_false (by omega)
 unfold wC
 rw [e]
 rfl
def ThrGood (base eps : Int) (dt : Nat) : Prop := base.natAbs < 73786976294838206464 ∧ 0 ≤ eps ∧ eps ≤ 4611686018427387904 ∧ 0 < dt
instance (base eps : Int) (dt : Nat) : Decidable (ThrGood base eps dt) := by unfold ThrGood; infer_instance
def thrC (base v eps : Int) (dt : Nat) : Array Value := if ThrGood base eps dt then cnC (thruC base v eps dt) else z21
def PThr (f : Nat) : Prop := ∀ (base v eps : Int) (dt : Nat), F256 base → -9223372036854775808 ≤ v → v ≤ 9223372036854775807 → -9223372036854775808 ≤ eps → eps ≤ 9223372036854775807 → dt < 18446744073709551616 → ∀ w, Calls Try.prog f #[.agg (wC base), .int .i64 v, .int .i64 eps, .int .u64 (dt : Int)] w (Ret (.tuple #[.agg (thrC base v eps dt), .bool (decide (ThrGood base eps dt))]) w)
theorem redF_mkB {n d : Int} (h : okF (redF n d)) : mkB n d = true := decide_eq_true ⟨h.2.1, h.2.2.1⟩
end
section
open Go Go.RowKit Go.Sort
theorem choose_uniq {c : Cn} {s r : Fr} (hc : okC c) (h : ChC c s) (k : ChC c r) : s = r := by
 cases c with
 | op => exact (show s = (0, 1) from h).trans (show r = (0, 1) from k).symm
 | cl l u =>
   obtain ⟨e, f⟩ := Best.unique hc.1.1 hc.2.1.1 h k
   exact Prod.ext e f
end
section
open Go Go.RowKit Go.Sort
attribute [local go_sem] qUpon eUpon putE slE
set_option maxHeartbeats 3200000 in
set_option maxRecDepth 100000 in
theorem l_known13r (B C D E F : Array Value) (W : World) (sC : C.size = 21) (oC : C.all (·.oneCell') = true)
   (qC : ∀ w, (binOp .eql 42 (.agg C) (.agg C)).run Try.prog w = .ok (.bool true) w) (qD : ∀ w, (binOp .eql 40 (.agg D) (.agg D)).run Try.prog w = .ok (.bool true) w)
   (k1 : Hid (∀ w, Calls Try.prog 16 #[.int .i64 10] w (Ret (.agg B) w))) (k2 : Hid (∀ w, Calls Try.prog 17 #[.agg B, .int .i64 20, .int .i64 2, .int .u64 4] w (Ret (.tuple #[.agg C, .bool true]) w)))
   (k3 : Hid (∀ w, Calls Try.prog 33 #[] w (Ret (.agg stC) w))) (k4 : Hid (∀ w, Calls Try.prog 28 #[.agg C, .agg stC] w (Ret (.tuple #[.agg C, .bool true]) w)))
   (k5 : Hid (∀ w, Calls Try.prog 18 #[.agg C] w (Ret (.agg D) w))) (k6 : Hid (∀ w, Calls Try.prog 34 #[.int .i64 2] w (Ret (.agg D) w)))
   (k7 : Hid (∀ w, Calls Try.prog 35 #[.agg C] w (Ret (.bool true) w))) (k8 : Hid (∀ w, Calls Try.prog 34 #[.int .i64 3] w (Ret (.agg E) w))) (k9 : Hid (∀ w, Calls Try.prog 34 #[.int .i64 4] w (Ret (.agg F) w)))
   (k10 : Hid (∀ w, Calls Try.prog 24 #[.agg C, .agg E] w (Ret (.bool true) w))) (k11 : Hid (∀ w, Calls Try.prog 24 #[.agg C, .agg F] w (Ret (.bool false) w))) :
   Calls Try.prog 12 #[] W (Ret (.bool true) W) := by
 replace qC := hide qC
 replace qD := hide qD
 have EE : Hid (Ext W W) := Ext.refl _
 go_enter Try.func12, Try.ntmps12
 go_upto_region 1 with fail
 refine wp_evs [.q, .q, .q, .q, .q, .al, .st 5, .q] [0, 0, 0, 0, 0, 0, 0, 0] (fun R => [.agg B, .tuple #[.agg C, .bool true], .tuple #[.agg C, .bool true], .agg C, .bool true, undef, undef, .bool true]) (fun _ => (.cells z21 42 (0, 0))) (fun R _ => (.cells C 42 (0, 0))) (fun _ => 0) (XE W) (fun _ => False) (by kernel_rfl) (by kernel_rfl) (by kernel_rfl) rfl (fun _ => rfl) (fun _ h => h.elim) (fun _ _ h => h) (by simp) (by simp) (fun R R' => ⟨fun _ => rfl, fun _ => rfl, fun _ => rfl, fun _ => rfl, fun _ => rfl, fun _ => rfl, fun _ => rfl, fun _ => rfl, trivial⟩) (fun _ _ _ _ => rfl) xe_below EE.out ?ops8 ?end8
 case ops8 =>
   refine ⟨?_, ?_, ?_, ?_, ?_, ?_, ?_, ?_, trivial⟩
   · refine er_q ?vn1 ?hn1 ?kn1 ?gn1 ?_
     case hn1 => exact rfl
     case vn1 => exact (fun R => .agg B)
     case kn1 => exact (fun R => rfl)
     case gn1 => exact gd_none rfl
     intro R s w' hT hs hw ha
     go_simp
     exact k1.out w'
   · refine er_q ?vn2 ?hn2 ?kn2 ?gn2 ?_
     case hn2 => exact rfl
     case vn2 => exact (fun R => .tuple #[.agg C, .bool true])
     case kn2 => exact (fun R => rfl)
     case gn2 => exact gd_none rfl
     intro R s w' hT hs hw ha
     go_simp
     exact k2.out w'
   · refine er_q ?vn3 ?hn3 ?kn3 ?gn3 ?_
     case hn3 => exact rfl
     case vn3 => exact (fun R => .tuple #[.agg C, .bool true])
     case kn3 => exact (fun R => rfl)
     case gn3 => exact gd_none rfl
     intro R s w' hT hs hw ha
     go_simp
   · refine er_q ?vn4 ?hn4 ?kn4 ?gn4 ?_
     case hn4 => exact rfl
     case vn4 => exact (fun R => .agg C)
     case kn4 => exact (fun R => rfl)
     case gn4 => exact gd_none rfl
     intro R s w' hT hs hw ha
     go_simp
   · refine er_q ?vn5 ?hn5 ?kn5 ?gn5 ?_
     case hn5 => exact rfl
     case vn5 => exact (fun R => .bool true)
     case kn5 => exact (fun R => rfl)
     case gn5 => exact gd_none rfl
     intro R s w' hT hs hw ha
     go_simp
   · refine er_al ?zn6 ?hn6 ?kn6 ?gn6 ?_
     case zn6 => exact (.cells z21 42 (0, 0))
     case hn6 => exact rfl
     case kn6 => exact rfl
     case gn6 => exact gd_none rfl
     intro ρ w'
     go_simp
     exact ⟨rfl, rfl⟩
   · refine er_st (j := 5) (Ty := ?Tn7) (p := ?pn7) (x := ?xn7) ?fn7 ?zn7 ?vn7 ?hn7 ?on7 ?kn7 ?ln7 ?gn7 ?en7 ?_
     case hn7 => exact rfl
     case on7 => exact rfl
     case fn7 => exact (fun R => (.cells C 42 (0, 0)))
     case zn7 => exact (.cells z21 42 (0, 0))
     case vn7 => exact (fun R => .agg C)
     case kn7 => exact (fun R => rfl)
     case ln7 => exact rfl
     case gn7 => exact gd_none rfl
     case en7 =>
       intro R
       kernel_rfl
     intro R s ρ w g hT hs hp hx hg hz
     exact ⟨store_row rfl hp hx hz iCone (sC) (oC), fun w1 hF => ext_filled hT hF (Nat.le_trans EE.out.size hg)⟩
   · refine er_q ?vn8 ?hn8 ?kn8 ?gn8 ?_
     case hn8 => exact rfl
     case vn8 => exact (fun R => .bool true)
     case kn8 => exact (fun R => rfl)
     case gn8 => exact gd_none rfl
     intro R s w' hT hs hw ha
     go_simp
 case end8 =>
  intro sI R G w9 hI
  have hS := hI.same
  have hTT := hI.holds
  have hz0 := EE.out.size
  have P1 : Blk w9 (G 5) 42 C := (hI.fulls 6 (List.mem_range.2 (show 6 < 8 by decide)) 5 rfl).2.2
  have hmP1 := (hI.made 5 (List.mem_range.2 (show 5 < 8 by decide)) rfl).1
  have P1_lo : W.heap.size ≤ G 5 := Nat.le_trans hz0 hmP1
  have EE := hide (show Ext _ _ from hTT)
  clear hS hz0 hTT hI
  generalize hF : putE _ _ _ _ _ _ _ = FF
  have hF2 : FF = { tmps := #[.bool false, .pointer (some ⟨G 5, 0, none⟩), .bool true, undef, undef, .tuple #[.agg C, .bool true], .agg B, .tuple #[.agg C, .bool true], .agg C, .bool true, undef, undef, undef, undef, undef, undef, undef, undef, undef, undef, undef, undef, undef, undef, undef, undef, undef, undef, undef, undef, undef, undef, undef, undef, undef, undef, undef, undef, undef, undef, undef, undef, undef, undef, undef, undef], defers := [] } := by subst hF; kernel_rfl
  clear hF
  subst hF2
  generalize G 5 = g1 at *
  go_upto_region 2 with fail
  have P1_lt := P1.lt
  refine wp_ev [.q, .q, .q, .q, .q, .q, .al, .st 6, .q] [0, 0, 0, 0, 0, 0, 0, 0, 0] (fun R => [.agg C, .agg stC, .tuple #[.agg C, .bool true], .tuple #[.agg C, .bool true], .agg C, .bool true, undef, undef, .bool true]) (fun _ => (.cells z21 42 (0, 0))) (fun R _ => (.cells C 42 (0, 0))) (fun _ => 0) (XE W) (fun _ => False) (by kernel_rfl) (by kernel_rfl) (by kernel_rfl) (by kernel_rfl) rfl (fun _ => rfl) (fun _ h => h.elim) (fun _ _ h => h) (by simp) (by simp) (fun R R' => ⟨fun _ => rfl, fun _ => rfl, fun _ => rfl, fun _ => rfl, fun _ => rfl, fun _ => rfl, fun _ => rfl, fun _ => rfl, fun _ => rfl, trivial⟩) (fun _ _ _ _ => rfl) xe_below (EE.out.trans (ext_drew _)) ?ops18 ?end18
  case ops18 =>
    refine ⟨?_, ?_, ?_, ?_, ?_, ?_, ?_, ?_, ?_, trivial⟩
    · refine er_q ?vn10 ?hn10 ?kn10 ?gn10 ?_
      case hn10 => exact rfl
      case vn10 => exact (fun R => .agg C)
      case kn10 => exact (fun R => rfl)
      case gn10 => exact gd_none rfl
      intro R s w' hT hs hw ha
      have L := ld_all (P1.sameE hw (fun h => h) (by simp)) uCone rfl iCone sC
      generalize hA : putE _ _ _ _ _ _ _ = AA
      refine q_load rfl ?_ L
      subst hA
      kernel_rfl
    · refine er_q ?vn11 ?hn11 ?kn11 ?gn11 ?_
      case hn11 => exact rfl
      case vn11 => exact (fun R => .agg stC)
      case kn11 => exact (fun R => rfl)
      case gn11 => exact gd_none rfl
      intro R s w' hT hs hw ha
      go_simp
      exact k3.out w'
    · refine er_q ?vn12 ?hn12 ?kn12 ?gn12 ?_
      case hn12 => exact rfl
      case vn12 => exact (fun R => .tuple #[.agg C, .bool true])
      case kn12 => exact (fun R => rfl)
      case gn12 => exact gd_none rfl
      intro R s w' hT hs hw ha
      go_simp
      exact k4.out w'
    · refine er_q ?vn13 ?hn13 ?kn13 ?gn13 ?_
      case hn13 => exact rfl
      case vn13 => exact (fun R => .tuple #[.agg C, .bool true])
      case kn13 => exact (fun R => rfl)
      case gn13 => exact gd_none rfl
      intro R s w' hT hs hw ha
      go_simp
    · refine er_q ?vn14 ?hn14 ?kn14 ?gn14 ?_
      case hn14 => exact rfl
      case vn14 => exact (fun R => .agg C)
      case kn14 => exact (fun R => rfl)
      case gn14 => exact gd_none rfl
      intro R s w' hT hs hw ha
      go_simp
    · refine er_q ?vn15 ?hn15 ?kn15 ?gn15 ?_
      case hn15 => exact rfl
      case vn15 => exact (fun R => .bool true)
      case kn15 => exact (fun R => rfl)
      case gn15 => exact gd_none rfl
      intro R s w' hT hs hw ha
      go_simp
    · refine er_al ?zn16 ?hn16 ?kn16 ?gn16 ?_
      case zn16 => exact (.cells z21 42 (0, 0))
      case hn16 => exact rfl
      case kn16 => exact rfl
      case gn16 => exact gd_none rfl
      intro ρ w'
      go_simp
      exact ⟨rfl, rfl⟩
    · refine er_st (j := 6) (Ty := ?Tn17) (p := ?pn17) (x := ?xn17) ?fn17 ?zn17 ?vn17 ?hn17 ?on17 ?kn17 ?ln17 ?gn17 ?en17 ?_
      case hn17 => exact rfl
      case on17 => exact rfl
      case fn17 => exact (fun R => (.cells C 42 (0, 0)))
      case zn17 => exact (.cells z21 42 (0, 0))
      case vn17 => exact (fun R => .agg C)
      case kn17 => exact (fun R => rfl)
      case ln17 => exact rfl
      case gn17 => exact gd_none rfl
      case en17 =>
        intro R
        kernel_rfl
      intro R s ρ w g hT hs hp hx hg hz
      exact ⟨store_row rfl hp hx hz iCone (sC) (oC), fun w1 hF => ext_filled hT hF (Nat.le_trans EE.out.size hg)⟩
    · refine er_q ?vn18 ?hn18 ?kn18 ?gn18 ?_
      case hn18 => exact rfl
      case vn18 => exact (fun R => .bool true)
      case kn18 => exact (fun R => rfl)
      case gn18 => exact gd_none rfl
      intro R s w' hT hs hw ha
      go_simp
  case end18 =>
   intro sI R G w19 hI
   have hS := hI.same
   have hTT := hI.holds
   have hz0 := EE.out.size
   have P1 := P1.sameE hS (fun h => h) (by simp)
   have P3 : Blk w19 (G 6) 42 C := (hI.fulls 7 (List.mem_range.2 (show 7 < 9 by decide)) 6 rfl).2.2
   have hmP3 := (hI.made 6 (List.mem_range.2 (show 6 < 9 by decide)) rfl).1
   have P3_lo : W.heap.size ≤ G 6 := Nat.le_trans hz0 hmP3
   have ngP1_3 : g1 ≠ G 6 := by omega
   have EE := hide (show Ext _ _ from hTT)
   clear hS hz0 hTT hI
   generalize hF : putE _ _ _ _ _ _ _ = FF
   have hF2 : FF = { tmps := #[.bool false, .pointer (some ⟨g1, 0, none⟩), .bool true, .pointer (some ⟨G 6, 0, none⟩), .bool true, .tuple #[.agg C, .bool true], .agg B, .tuple #[.agg C, .bool true], .agg C, .bool true, .tuple #[.agg C, .bool true], .agg C, .agg stC, .tuple #[.agg C, .bool true], .agg C, .bool true, undef, undef, undef, undef, undef, undef, undef, undef, undef, undef, undef, undef, undef, undef, undef, undef, undef, undef, undef, undef, undef, undef, undef, undef, undef, undef, undef, undef, undef, undef], defers := [] } := by subst hF; kernel_rfl
   clear hF
   subst hF2
   generalize G 6 = g3 at *
   go_upto_region 3 with fail
   have P1_lt := P1.lt
   have P3_lt := P3.lt
   refine wp_ev [.q, .q, .q, .q, .q, .q, .q, .q, .q, .q, .q, .q, .q, .q, .q, .q, .q, .q, .q, .q, .q, .q, .q, .q, .q, .q, .q, .q, .q, .q, .q] [0, 0, 0, 0, 0, 0, 0, 0, 0, 0, 0, 0, 0, 0, 0, 0, 0, 0, 0, 0, 0, 0, 0, 0, 0, 0, 0, 0, 0, 0, 0] (fun R => [.bool true, .bool true, .bool true, .bool true, .bool true, .agg C, .agg C, .bool true, .bool true, .bool true, .agg C, .agg D, .agg D, .bool true, .bool true, .bool true, .agg C, .bool true, .bool true, .bool true, .agg C, .agg E, .bool true, .bool true, .bool true, .agg C, .agg F, .bool false, .bool true, .bool true, .bool true]) (fun _ => (.cells #[] 0 (0, 0))) (fun R _ => (.cells #[] 0 (0, 0))) (fun _ => 0) (XE W) (fun _ => False) (by kernel_rfl) (by kernel_rfl) (by kernel_rfl) (by kernel_rfl) rfl (fun _ => rfl) (fun _ h => h.elim) (fun _ _ h => h) (by simp) (by simp) (fun R R' => ⟨fun _ => rfl, fun _ => rfl, fun _ => rfl, fun _ => rfl, fun _ => rfl, fun _ => rfl, fun _ => rfl, fun _ => rfl, fun _ => rfl, fun _ => rfl, fun _ => rfl, fun _ => rfl, fun _ => rfl, fun _ => rfl, fun _ => rfl, fun _ => rfl, fun _ => rfl, fun _ => rfl, fun _ => rfl, fun _ => rfl, fun _ => rfl, fun _ => rfl, fun _ => rfl, fun _ => rfl, fun _ => rfl, fun _ => rfl, fun _ => rfl, fun _ => rfl, fun _ => rfl, fun _ => rfl, fun _ => rfl, trivial⟩) (fun _ _ _ _ => rfl) xe_below (EE.out.trans (ext_drew _)) ?ops50 ?end50
   case ops50 =>
     refine ⟨?_, ?_, ?_, ?_, ?_, ?_, ?_, ?_, ?_, ?_, ?_, ?_, ?_, ?_, ?_, ?_, ?_, ?_, ?_, ?_, ?_, ?_, ?_, ?_, ?_, ?_, ?_, ?_, ?_, ?_, ?_, trivial⟩
     · refine er_q ?vn20 ?hn20 ?kn20 ?gn20 ?_
       case hn20 => exact rfl
       case vn20 => exact (fun R => .bool true)
       case kn20 => exact (fun R => rfl)
       case gn20 => exact gd_none rfl
       intro R s w' hT hs hw ha
       go_simp
     · refine er_q ?vn21 ?hn21 ?kn21 ?gn21 ?_
       case hn21 => exact rfl
       case vn21 => exact (fun R => .bool true)
       case kn21 => exact (fun R => rfl)
       case gn21 => exact gd_none rfl
       intro R s w' hT hs hw ha
       go_simp
     · refine er_q ?vn22 ?hn22 ?kn22 ?gn22 ?_
       case hn22 => exact rfl
       case vn22 => exact (fun R => .bool true)
       case kn22 => exact (fun R => rfl)
       case gn22 => (refine gd_some rfl ?_; intro R; kernel_rfl)
       intro R s w' hT hs hw ha
       go_simp
     · refine er_q ?vn23 ?hn23 ?kn23 ?gn23 ?_
       case hn23 => exact rfl
       case vn23 => exact (fun R => .bool true)
       case kn23 => exact (fun R => rfl)
       case gn23 => exact gd_none rfl
       intro R s w' hT hs hw ha
       go_simp
     · refine er_q ?vn24 ?hn24 ?kn24 ?gn24 ?_
       case hn24 => exact rfl
       case vn24 => exact (fun R => .bool true)
       case kn24 => exact (fun R => rfl)
       case gn24 => exact gd_none rfl
       intro R s w' hT hs hw ha
       go_simp
     · refine er_q ?vn25 ?hn25 ?kn25 ?gn25 ?_
       case hn25 => exact rfl
       case vn25 => exact (fun R => .agg C)
       case kn25 => exact (fun R => rfl)
       case gn25 => (refine gd_some rfl ?_; intro R; kernel_rfl)
       intro R s w' hT hs hw ha
       have L := ld_all (P3.sameE hw (fun h => h) (by simp)) uCone rfl iCone sC
       generalize hA : putE _ _ _ _ _ _ _ = AA
       refine q_load rfl ?_ L
       subst hA
       kernel_rfl
     · refine er_q ?vn26 ?hn26 ?kn26 ?gn26 ?_
       case hn26 => exact rfl
       case vn26 => exact (fun R => .agg C)
       case kn26 => exact (fun R => rfl)
       case gn26 => (refine gd_some rfl ?_; intro R; kernel_rfl)
       intro R s w' hT hs hw ha
       have L := ld_all (P1.sameE hw (fun h => h) (by simp)) uCone rfl iCone sC
       generalize hA : putE _ _ _ _ _ _ _ = AA
       refine q_load rfl ?_ L
       subst hA
       kernel_rfl
     · refine er_q ?vn27 ?hn27 ?kn27 ?gn27 ?_
       case hn27 => exact rfl
       case vn27 => exact (fun R => .bool true)
       case kn27 => exact (fun R => rfl)
       case gn27 => (refine gd_some rfl ?_; intro R; kernel_rfl)
       intro R s w' hT hs hw ha
       have L := qC.out w'
       generalize hA : putE _ _ _ _ _ _ _ = AA
       refine q_bin rfl ?_ ?_ (eq_agg _ _ (by kernel_rfl) _ _ _ _ w') L
       · subst hA; kernel_rfl
       · subst hA; kernel_rfl
     · refine er_q ?vn28 ?hn28 ?kn28 ?gn28 ?_
       case hn28 => exact rfl
       case vn28 => exact (fun R => .bool true)
       case kn28 => exact (fun R => rfl)
       case gn28 => exact gd_none rfl
       intro R s w' hT hs hw ha
       go_simp
     · refine er_q ?vn29 ?hn29 ?kn29 ?gn29 ?_
       case hn29 => exact rfl
       case vn29 => exact (fun R => .bool true)
       case kn29 => exact (fun R => rfl)
       case gn29 => exact gd_none rfl
       intro R s w' hT hs hw ha
       go_simp
     · refine er_q ?vn30 ?hn30 ?kn30 ?gn30 ?_
       case hn30 => exact rfl
       case vn30 => exact (fun R => .agg C)
       case kn30 => exact (fun R => rfl)
       case gn30 => (refine gd_some rfl ?_; intro R; kernel_rfl)
       intro R s w' hT hs hw ha
       have L := ld_all (P1.sameE hw (fun h => h) (by simp)) uCone rfl iCone sC
       generalize hA : putE _ _ _ _ _ _ _ = AA
       refine q_load rfl ?_ L
       subst hA
       kernel_rfl
     · refine er_q ?vn31 ?hn31 ?kn31 ?gn31 ?_
       case hn31 => exact rfl
       case vn31 => exact (fun R => .agg D)
       case kn31 => exact (fun R => rfl)
       case gn31 => (refine gd_some rfl ?_; intro R; kernel_rfl)
       intro R s w' hT hs hw ha
       go_simp
       exact k5.out w'
     · refine er_q ?vn32 ?hn32 ?kn32 ?gn32 ?_
       case hn32 => exact rfl
       case vn32 => exact (fun R => .agg D)
       case kn32 => exact (fun R => rfl)
       case gn32 => (refine gd_some rfl ?_; intro R; kernel_rfl)
       intro R s w' hT hs hw ha
       go_simp
       exact k6.out w'
     · refine er_q ?vn33 ?hn33 ?kn33 ?gn33 ?_
       case hn33 => exact rfl
       case vn33 => exact (fun R => .bool true)
       case kn33 => exact (fun R => rfl)
       case gn33 => (refine gd_some rfl ?_; intro R; kernel_rfl)
       intro R s w' hT hs hw ha
       have L := qD.out w'
       generalize hA : putE _ _ _ _ _ _ _ = AA
       refine q_bin rfl ?_ ?_ (eq_agg _ _ (by kernel_rfl) _ _ _ _ w') L
       · subst hA; kernel_rfl
       · subst hA; kernel_rfl
     · refine er_q ?vn34 ?hn34 ?kn34 ?gn34 ?_
       case hn34 => exact rfl
       case vn34 => exact (fun R => .bool true)
       case kn34 => exact (fun R => rfl)
       case gn34 => exact gd_none rfl
       intro R s w' hT hs hw ha
       go_simp
     · refine er_q ?vn35 ?hn35 ?kn35 ?gn35 ?_
       case hn35 => exact rfl
       case vn35 => exact (fun R => .bool true)
       case kn35 => exact (fun R => rfl)
       case gn35 => exact gd_none rfl
       intro R s w' hT hs hw ha
       go_simp
     · refine er_q ?vn36 ?hn36 ?kn36 ?gn36 ?_
       case hn36 => exact rfl
       case vn36 => exact (fun R => .agg C)
       case kn36 => exact (fun R => rfl)
       case gn36 => (refine gd_some rfl ?_; intro R; kernel_rfl)
       intro R s w' hT hs hw ha
       have L := ld_all (P1.sameE hw (fun h => h) (by simp)) uCone rfl iCone sC
       generalize hA : putE _ _ _ _ _ _ _ = AA
       refine q_load rfl ?_ L
       subst hA
       kernel_rfl
     · refine er_q ?vn37 ?hn37 ?kn37 ?gn37 ?_
       case hn37 => exact rfl
       case vn37 => exact (fun R => .bool true)
       case kn37 => exact (fun R => rfl)
       case gn37 => (refine gd_some rfl ?_; intro R; kernel_rfl)
       intro R s w' hT hs hw ha
       go_simp
       exact k7.out w'
     · refine er_q ?vn38 ?hn38 ?kn38 ?gn38 ?_
       case hn38 => exact rfl
       case vn38 => exact (fun R => .bool true)
       case kn38 => exact (fun R => rfl)
       case gn38 => exact gd_none rfl
       intro R s w' hT hs hw ha
       go_simp
     · refine er_q ?vn39 ?hn39 ?kn39 ?gn39 ?_
       case hn39 => exact rfl
       case vn39 => exact (fun R => .bool true)
       case kn39 => exact (fun R => rfl)
       case gn39 => exact gd_none rfl
       intro R s w' hT hs hw ha
       go_simp
     · refine er_q ?vn40 ?hn40 ?kn40 ?gn40 ?_
       case hn40 => exact rfl
       case vn40 => exact (fun R => .agg C)
       case kn40 => exact (fun R => rfl)
       case gn40 => (refine gd_some rfl ?_; intro R; kernel_rfl)
       intro R s w' hT hs hw ha
       have L := ld_all (P1.sameE hw (fun h => h) (by simp)) uCone rfl iCone sC
       generalize hA : putE _ _ _ _ _ _ _ = AA
       refine q_load rfl ?_ L
       subst hA
       kernel_rfl
     · refine er_q ?vn41 ?hn41 ?kn41 ?gn41 ?_
       case hn41 => exact rfl
       case vn41 => exact (fun R => .agg E)
       case kn41 => exact (fun R => rfl)
       case gn41 => (refine gd_some rfl ?_; intro R; kernel_rfl)
       intro R s w' hT hs hw ha
       go_simp
       exact k8.out w'
     · refine er_q ?vn42 ?hn42 ?kn42 ?gn42 ?_
       case hn42 => exact rfl
       case vn42 => exact (fun R => .bool true)
       case kn42 => exact (fun R => rfl)
       case gn42 => (refine gd_some rfl ?_; intro R; kernel_rfl)
       intro R s w' hT hs hw ha
       go_simp
       exact k10.out w'
     · refine er_q ?vn43 ?hn43 ?kn43 ?gn43 ?_
       case hn43 => exact rfl
       case vn43 => exact (fun R => .bool true)
       case kn43 => exact (fun R => rfl)
       case gn43 => exact gd_none rfl
       intro R s w' hT hs hw ha
       go_simp
     · refine er_q ?vn44 ?hn44 ?kn44 ?gn44 ?_
       case hn44 => exact rfl
       case vn44 => exact (fun R => .bool true)
       case kn44 => exact (fun R => rfl)
       case gn44 => exact gd_none rfl
       intro R s w' hT hs hw ha
       go_simp
     · refine er_q ?vn45 ?hn45 ?kn45 ?gn45 ?_
       case hn45 => exact rfl
       case vn45 => exact (fun R => .agg C)
       case kn45 => exact (fun R => rfl)
       case gn45 => (refine gd_some rfl ?_; intro R; kernel_rfl)
       intro R s w' hT hs hw ha
       have L := ld_all (P1.sameE hw (fun h => h) (by simp)) uCone rfl iCone sC
       generalize hA : putE _ _ _ _ _ _ _ = AA
       refine q_load rfl ?_ L
       subst hA
       kernel_rfl
     · refine er_q ?vn46 ?hn46 ?kn46 ?gn46 ?_
       case hn46 => exact rfl
       case vn46 => exact (fun R => .agg F)
       case kn46 => exact (fun R => rfl)
       case gn46 => (refine gd_some rfl ?_; intro R; kernel_rfl)
       intro R s w' hT hs hw ha
       go_simp
       exact k9.out w'
     · refine er_q ?vn47 ?hn47 ?kn47 ?gn47 ?_
       case hn47 => exact rfl
       case vn47 => exact (fun R => .bool false)
       case kn47 => exact (fun R => rfl)
       case gn47 => (refine gd_some rfl ?_; intro R; kernel_rfl)
       intro R s w' hT hs hw ha
       go_simp
       exact k11.out w'
     · refine er_q ?vn48 ?hn48 ?kn48 ?gn48 ?_
       case hn48 => exact rfl
       case vn48 => exact (fun R => .bool true)
       case kn48 => exact (fun R => rfl)
       case gn48 => (refine gd_some rfl ?_; intro R; kernel_rfl)
       intro R s w' hT hs hw ha
       go_simp
     · refine er_q ?vn49 ?hn49 ?kn49 ?gn49 ?_
       case hn49 => exact rfl
       case vn49 => exact (fun R => .bool true)
       case kn49 => exact (fun R => rfl)
       case gn49 => exact gd_none rfl
       intro R s w' hT hs hw ha
       go_simp
     · refine er_q ?vn50 ?hn50 ?kn50 ?gn50 ?_
       case hn50 => exact rfl
       case vn50 => exact (fun R => .bool true)
       case kn50 => exact (fun R => rfl)
       case gn50 => exact gd_none rfl
       intro R s w' hT hs hw ha
       go_simp
   case end50 =>
    intro sI R G w51 hI
    have hS := hI.same
    have hTT := hI.holds
    have hz0 := EE.out.size
    have P1 := P1.sameE hS (fun h => h) (by simp)
    have P3 := P3.sameE hS (fun h => h) (by simp)
    have EE := hide (show Ext _ _ from hTT)
    clear hS hz0 hTT hI
    generalize hF : putE _ _ _ _ _ _ _ = FF
    have hF2 : FF = { tmps := #[.bool true, .pointer (some ⟨g1, 0, none⟩), .bool true, .pointer (some ⟨g3, 0, none⟩), .bool true, .tuple #[.agg C, .bool true], .agg B, .tuple #[.agg C, .bool true], .agg C, .bool true, .tuple #[.agg C, .bool true], .agg C, .agg stC, .tuple #[.agg C, .bool true], .agg C, .bool true, .bool true, .bool true, .bool true, .bool true, .bool true, .agg C, .agg C, .bool true, .bool true, .bool true, .agg C, .agg D, .agg D, .bool true, .bool true, .bool true, .agg C, .bool true, .bool true, .bool true, .agg C, .agg E, .bool true, .bool true, .bool true, .agg C, .agg F, .bool false, .bool true, .bool true], defers := [] } := by subst hF; kernel_rfl
    clear hF
    subst hF2
    go_wp2_with fail
    go_ret
    refine ⟨?_, EE.out⟩
    kernel_rfl
theorem best_known : ChC (.cl (2, 1) (3, 1)) (2, 1) := ⟨by decide, by decide, by decide, fun p q h h1 h2 => by simp only at h1 h2 ⊢; omega⟩
end
section
open Go Go.RowKit Go.Sort
set_option maxRecDepth 100000 in
theorem pc_start (w : World) : Calls Try.prog 33 #[] w (Ret (.agg stC) w) := by
 obtain ⟨W, hW⟩ : ∃ W, w.alloc (.cells z21 42) = W := ⟨_, rfl⟩
 have P0 := Blk.new w 42 z21
 have EE := ext_alloc w (.cells z21 42)
 rw [hW] at P0 EE
 unfold z21 at hW
 have HW := hide hW
 clear hW
 go_enter Try.func33, Try.ntmps33
 go_upto_region 1 with fail
 rw [HW.out]
 have H0 : W.heap[w.heap.size]? = some (.cells z21 42 (0, 0)) := P0
 clear HW
 have hz : z21.size = stC.size := rfl
 have ha : stC.all (·.oneCell') = true := by kernel_rfl
 go_wp2_with (refine wpList_store_row rfl 42 (.tmp 0) (.tmp 1) rfl w.heap.size stC rfl rfl 42 z21 H0 iCone hz ha ?_)
 exact bodyPost_ret (results_cell_row (p := 0) (ty := 42) rfl _ _ w.heap.size 42 stC (0, 0) _ rfl (P0.setRow stC) uCone rfl iCone) rfl ⟨rfl, ext_row EE (Nat.le_refl _) _⟩
set_option maxRecDepth 100000 in
set_option maxHeartbeats 3200000 in
theorem pc_valid (o : Bool) (L H : Array Value) (hL : L.size = 10) (hH : H.size = 10) (W : World) (e bl bh : Bool) (r : Int)
   (hq : o = true → ∀ w, (binOp .eql 42 (.agg (coneC o L H)) (.agg stC)).run Try.prog w = .ok (.bool e) w)
   (KL : o = false → ∀ w, Calls Try.prog 50 #[.agg L] w (Ret (.bool bl) w)) (KH : o = false → ∀ w, Calls Try.prog 50 #[.agg H] w (Ret (.bool bh) w))
   (KC : o = false → bl = true → bh = true → ∀ w, Calls Try.prog 51 #[.agg L, .agg H] w (Ret (.int .i64 r) w))
   (v : Bool) (hv : (if o then e else (bl && (bh && decide (r ≤ 0)))) = v) :
   Calls Try.prog 35 #[.agg (coneC o L H)] W (Ret (.bool v) W) := by
 have hsz := coneC_size o hL hH
 have LD0 := fun w (h : Blk w W.heap.size 42 (coneC o L H)) => cone_loads h hL hH
 obtain ⟨X, hX⟩ : ∃ X, coneC o L H = X := ⟨_, rfl⟩
 rw [hX] at hq LD0 hsz ⊢
 have P0 := Blk.new W 42 X
 have EE := hide (ext_alloc W (.cells X 42))
 obtain ⟨W1, hW1⟩ : ∃ W1, W.alloc (.cells X 42) = W1 := ⟨_, rfl⟩
 obtain ⟨g, hg⟩ : ∃ g, W.heap.size = g := ⟨_, rfl⟩
 rw [hW1] at P0 EE
 rw [hg] at P0 LD0
 have LD := hide (fun w (h : Ext W1 w) => LD0 w (P0.ext h))
 obtain ⟨a1, a2, a3, a4⟩ := LD.out W1 (Ext.refl _)
 have HW := hide hW1
 have Hg := hide hg
 clear hW1 hg P0 LD0 hX hL hH
 cases o with
 | true =>
   obtain rfl : e = v := hv
   have hq := hq rfl
   have KS := hide (fun w => pc_start w)
   clear KL KH KC
   go_enter Try.func35, Try.ntmps35
   go_upto_region 1 with fail
   rw [HW.out, Hg.out]
   go_upto_region 2 with fail
   refine wp_region_quiet_below (by kernel_rfl) (by kernel_rfl) ?_
   refine wq_load (by kernel_rfl) rfl rfl (fun w hw => by obtain ⟨⟨d, os⟩, rfl⟩ := hw; exact (LD.out _ (ext_regrown W1 d os)).1) ?_
   repeat (first | go_big_quiet_step (with_reducible exact quiet_ret (KS.out _)) | quiet_step (with_reducible exact quiet_ret (KS.out _)))
   refine wpQuiet_nil ?_
   intro _ hw'
   obtain ⟨⟨dq, osq⟩, hw''⟩ := hw'
   subst hw''
   have X6 := hide (EE.out.trans (ext_regrown _ dq osq))
   obtain ⟨z6, hz6⟩ : ∃ w, grow (redrawn W1 dq) osq = w := ⟨_, rfl⟩
   rw [hz6] at X6 ⊢
   clear hz6
   go_wp2_with fail
   go_ret
   exact ⟨rfl, X6.out⟩
 | false =>
   have kl := hide (KL rfl)
   have kh := hide (KH rfl)
   clear KL KH
   have hv : (bl && (bh && decide (r ≤ 0))) = v := hv
   clear hq
   cases bl with
   | false =>
     obtain rfl : false = v := hv
     clear KC kh
     go_enter Try.func35, Try.ntmps35
     go_upto_region 1 with fail
     rw [HW.out, Hg.out]
     go_wp2_with (first
       | (refine wl_load (by kernel_rfl) rfl rfl a3 ?_)
       | (go_at_call 50; (with_reducible refine (kl.out _).mono ?_); rintro e w2 ⟨rfl, hE⟩; have E2 := hide (EE.out.trans hE); clear hE))
     go_ret
     exact ⟨rfl, E2.out⟩
   | true =>
     cases bh with
     | false =>
       obtain rfl : false = v := hv
       clear KC
       go_enter Try.func35, Try.ntmps35
       go_upto_region 1 with fail
       rw [HW.out, Hg.out]
       go_wp2_with (first
         | (refine wl_load (by kernel_rfl) rfl rfl a3 ?_)
         | (refine wl_load (by kernel_rfl) rfl rfl b4 ?_)
         | (refine wl_load (by kernel_rfl) rfl rfl c3 ?_)
         | (refine wl_load (by kernel_rfl) rfl rfl c4 ?_)
         | (go_at_call 50; (with_reducible refine (kl.out _).mono ?_); rintro e w2 ⟨rfl, hE⟩; have E2 := hide hE; obtain ⟨b1, b2, b3, b4⟩ := LD.out w2 hE; clear hE)
         | (go_at_call 50; (with_reducible refine (kh.out _).mono ?_); rintro e w3 ⟨rfl, hE⟩; have E3 := hide (E2.out.trans hE); clear hE))
       go_ret
       exact ⟨rfl, EE.out.trans E3.out⟩
     | true =>
       obtain rfl : decide (r ≤ 0) = v := hv
       have kc := hide (KC rfl rfl rfl)
       clear KC
       go_enter Try.func35, Try.ntmps35
       go_upto_region 1 with fail
       rw [HW.out, Hg.out]
       go_wp2_with (first
         | (refine wl_load (by kernel_rfl) rfl rfl a3 ?_)
         | (refine wl_load (by kernel_rfl) rfl rfl b4 ?_)
         | (refine wl_load (by kernel_rfl) rfl rfl c3 ?_)
         | (refine wl_load (by kernel_rfl) rfl rfl c4 ?_)
         | (go_at_call 50; (with_reducible refine (kl.out _).mono ?_); rintro e w2 ⟨rfl, hE⟩; have E2 := hide hE; obtain ⟨b1, b2, b3, b4⟩ := LD.out w2 hE; clear hE)
         | (go_at_call 50; (with_reducible refine (kh.out _).mono ?_); rintro e w3 ⟨rfl, hE⟩; have E3 := hide (E2.out.trans hE); obtain ⟨c1, c2, c3, c4⟩ := LD.out w3 E3.out; clear hE)
         | (go_at_call 51; (with_reducible refine (kc.out _).mono ?_); rintro e w4 ⟨rfl, hE⟩; have E4 := hide (E3.out.trans hE); clear hE))
       go_ret
       exact ⟨rfl, EE.out.trans E4.out⟩
set_option maxRecDepth 100000 in
set_option maxHeartbeats 3200000 in
theorem pc_choose (o : Bool) (L H S1 S2 : Array Value) (hL : L.size = 10) (hH : H.size = 10) (h1 : S1.size = 10) (h1a : S1.all (·.oneCell') = true) (h2 : S2.size = 10) (h2a : S2.all (·.oneCell') = true) (W : World) (vc b2 : Bool)
   (KV : ∀ w, Calls Try.prog 35 #[.agg (coneC o L H)] w (Ret (.bool vc) w)) (KO : vc = true → o = true → ∀ w, Calls Try.prog 43 #[.int .i64 0] w (Ret (.agg S1) w))
   (KB : vc = true → o = false → ∀ w, Calls Try.prog 44 #[.agg L, .agg H] w (Ret (.tuple #[.agg S2, .bool b2]) w)) :
   Calls Try.prog 18 #[.agg (coneC o L H)] W (Ret (.agg (if vc then (if o then S1 else S2) else zR)) W) := by
 have LD0 := fun w (h : Blk w W.heap.size 42 (coneC o L H)) => cone_loads h hL hH
 obtain ⟨X, hX⟩ : ∃ X, coneC o L H = X := ⟨_, rfl⟩
 rw [hX] at KV LD0 ⊢
 have P0 := (Blk.new W 42 X).alloc (.cells #[.bool false, .int .u64 0, .int .u64 0, .int .u64 0, .int .u64 0, .bool false, .int .u64 0, .int .u64 0, .int .u64 0, .int .u64 0] 40)
 have P1 := Blk.new (W.alloc (.cells X 42)) 40 #[.bool false, .int .u64 0, .int .u64 0, .int .u64 0, .int .u64 0, .bool false, .int .u64 0, .int .u64 0, .int .u64 0, .int .u64 0]
 have EE := hide (Ext.trans (ext_alloc W (.cells X 42)) (ext_alloc _ (.cells #[.bool false, .int .u64 0, .int .u64 0, .int .u64 0, .int .u64 0, .bool false, .int .u64 0, .int .u64 0, .int .u64 0, .int .u64 0] 40)))
 rw [alloc_size] at P1
 obtain ⟨W1, hW1⟩ : ∃ W1, (W.alloc (.cells X 42)).alloc (.cells #[.bool false, .int .u64 0, .int .u64 0, .int .u64 0, .int .u64 0, .bool false, .int .u64 0, .int .u64 0, .int .u64 0, .int .u64 0] 40) = W1 := ⟨_, rfl⟩
 obtain ⟨g, hg⟩ : ∃ g, W.heap.size = g := ⟨_, rfl⟩
 rw [hW1] at P0 P1 EE
 rw [hg] at P0 P1 LD0
 have LD := hide (fun w (h : Ext W1 w) => LD0 w (P0.ext h))
 have RB := hide (fun w (h : Ext W1 w) => P1.ext h)
 obtain ⟨k, hk⟩ : ∃ k, g + 1 = k := ⟨_, rfl⟩
 have Hk := hide hk
 rw [hk] at RB P1
 have hWk : W.heap.size ≤ k := by omega
 have HW := hide hW1
 have Hg := hide hg
 have kv := hide KV
 obtain ⟨fx0, -, -, -⟩ := LD.out W1 (Ext.refl _)
 clear hW1 hg P0 P1 LD0 hX hL hH KV hk
 cases vc with
 | false =>
   clear KO KB
   go_enter Try.func18, Try.ntmps18
   go_upto_region 1 with fail
   rw [HW.out, Hg.out, Hk.out]
   go_upto_region 2 with (first
     | (refine wl_load (by kernel_rfl) rfl rfl fx0 ?_)
     | (go_at_call 35; (with_reducible refine (kv.out _).mono ?_); rintro e w2 ⟨rfl, hE⟩; have E2 := hide hE; have st := rat_store (RB.out w2 hE) rfl (ds := zR) rfl zR_one; clear hE fx0))
   go_wp2_with (refine wl_store (by kernel_rfl) rfl rfl rfl st ?_)
   exact bodyPost_ret (results_cell_row (p := 2) (ty := 40) rfl _ _ k 40 zR (0, 0) _ rfl ((RB.out w2 E2.out).setRow zR) uRat rfl iRat) rfl ⟨rfl, ext_row (EE.out.trans E2.out) hWk _⟩
 | true =>
   have KO := KO rfl
   have KB := KB rfl
   cases o with
   | true =>
     have ko := hide (KO rfl)
     clear KO KB
     go_enter Try.func18, Try.ntmps18
     go_upto_region 1 with fail
     rw [HW.out, Hg.out, Hk.out]
     go_upto_region 4 with (first
       | (refine wl_load (by kernel_rfl) rfl rfl fx0 ?_)
       | (go_at_call 35; (with_reducible refine (kv.out _).mono ?_); rintro e w2 ⟨rfl, hE⟩; have E2 := hide hE; obtain ⟨-, fb, -, -⟩ := LD.out w2 hE; clear hE fx0))
     go_wp2_with (first
       | (refine wl_store (by kernel_rfl) rfl rfl rfl st ?_)
       | (go_at_call 43; (with_reducible refine (ko.out _).mono ?_); rintro e w3 ⟨rfl, hE⟩; have E3 := hide (Ext.trans E2.out hE); have st := rat_store (RB.out w3 E3.out) rfl h1 h1a; clear hE))
     exact bodyPost_ret (results_cell_row (p := 2) (ty := 40) rfl _ _ k 40 S1 (0, 0) _ rfl ((RB.out w3 E3.out).setRow S1) uRat rfl (by rw [iRat, h1])) rfl ⟨rfl, ext_row (EE.out.trans E3.out) hWk _⟩
   | false =>
     have kb := hide (KB rfl)
     clear KO KB
     go_enter Try.func18, Try.ntmps18
     go_upto_region 1 with fail
     rw [HW.out, Hg.out, Hk.out]
     go_upto_region 5 with (first
       | (refine wl_load (by kernel_rfl) rfl rfl fx0 ?_)
       | (go_at_call 35; (with_reducible refine (kv.out _).mono ?_); rintro e w2 ⟨rfl, hE⟩; have E2 := hide hE; obtain ⟨-, fb, fl, fh⟩ := LD.out w2 hE; clear hE fx0))
     go_upto_region 6 with (first
       | (refine wl_load (by kernel_rfl) rfl rfl fl ?_)
       | (refine wl_load (by kernel_rfl) rfl rfl fh ?_)
       | (go_at_call 44; (with_reducible refine (kb.out _).mono ?_); rintro e w3 ⟨rfl, hE⟩; have E3 := hide (Ext.trans E2.out hE); have N4 := hide (Blk.new w3 40 #[.bool false, .int .u64 0, .int .u64 0, .int .u64 0, .int .u64 0, .bool false, .int .u64 0, .int .u64 0, .int .u64 0, .int .u64 0]); have E4 := hide (Ext.trans E3.out (ext_alloc w3 (.cells #[.bool false, .int .u64 0, .int .u64 0, .int .u64 0, .int .u64 0, .bool false, .int .u64 0, .int .u64 0, .int .u64 0, .int .u64 0] 40))); have B4 := hide (RB.out _ E4.out); have hne : k ≠ w3.heap.size := Nat.ne_of_lt (RB.out w3 E3.out).lt; have st := rat_store N4.out rfl h2 h2a; clear hE fl fh)
       | (refine wl_store (by kernel_rfl) rfl rfl rfl st ?_))
     obtain ⟨w4, hw4⟩ : ∃ w, w3.alloc (.cells #[.bool false, .int .u64 0, .int .u64 0, .int .u64 0, .int .u64 0, .bool false, .int .u64 0, .int .u64 0, .int .u64 0, .int .u64 0] 40) = w := ⟨_, rfl⟩
     obtain ⟨n, hn⟩ : ∃ n, w3.heap.size = n := ⟨_, rfl⟩
     rw [hw4] at N4 E4 B4 ⊢
     rw [hn] at N4 hne ⊢
     have hnW : W.heap.size ≤ n := by have := EE.out.size; have := E3.out.size; omega
     have N5 := N4.out.setRow S2
     have B5 := B4.out.rowN (ds := S2) hne
     have E5 := hide (ext_row (EE.out.trans E4.out) hnW S2)
     obtain ⟨w5, hw5⟩ : ∃ w, w4.setRow n S2 = w := ⟨_, rfl⟩
     rw [hw5] at N5 B5 E5 ⊢
     have ld5 := rat_load N5 h2
     have st5 := rat_store B5 rfl h2 h2a
     clear hw4 hw5 hn N4 E4 B4 N5 st fb
     go_wp2_with (first
       | (refine wl_load (by kernel_rfl) rfl rfl ld5 ?_)
       | (refine wl_store (by kernel_rfl) rfl rfl rfl st5 ?_))
     exact bodyPost_ret (results_cell_row (p := 2) (ty := 40) rfl _ _ k 40 S2 (0, 0) _ rfl (B5.setRow S2) uRat rfl (by rw [iRat, h2])) rfl ⟨rfl, ext_row E5.out hWk _⟩
end
section
open Go Go.RowKit Go.Sort
def metP (va vb oa ob : Bool) (La Ha Lb Hb : Array Value) (c1 c2 c3 : Int) : Array Value × Bool :=
 if va && vb then (if oa then (coneC ob Lb Hb, true) else if ob then (coneC false La Ha, true) else if 0 < c3 then (z21, false) else (coneC false (if c1 < 0 then Lb else La) (if 0 < c2 then Hb else Ha), true)) else (z21, false)
set_option maxRecDepth 100000 in
set_option maxHeartbeats 6400000 in
theorem pc_meet (oa ob : Bool) (La Ha Lb Hb : Array Value) (sLa : La.size = 10) (sHa : Ha.size = 10) (sLb : Lb.size = 10) (sHb : Hb.size = 10) (uLa : La.all (·.oneCell') = true) (uHa : Ha.all (·.oneCell') = true) (uLb : Lb.all (·.oneCell') = true) (uHb : Hb.all (·.oneCell') = true) (W : World) (va vb : Bool) (c1 c2 c3 : Int)
   (KA : ∀ w, Calls Try.prog 35 #[.agg (coneC oa La Ha)] w (Ret (.bool va) w)) (KB : va = true → ∀ w, Calls Try.prog 35 #[.agg (coneC ob Lb Hb)] w (Ret (.bool vb) w))
   (K1 : va = true → vb = true → oa = false → ob = false → ∀ w, Calls Try.prog 51 #[.agg La, .agg Lb] w (Ret (.int .i64 c1) w)) (K2 : va = true → vb = true → oa = false → ob = false → ∀ w, Calls Try.prog 51 #[.agg Ha, .agg Hb] w (Ret (.int .i64 c2) w))
   (K3 : va = true → vb = true → oa = false → ob = false → ∀ w, Calls Try.prog 51 #[.agg (if c1 < 0 then Lb else La), .agg (if 0 < c2 then Hb else Ha)] w (Ret (.int .i64 c3) w)) :
   Calls Try.prog 28 #[.agg (coneC oa La Ha), .agg (coneC ob Lb Hb)] W (Ret (.tuple #[.agg (metP va vb oa ob La Ha Lb Hb c1 c2 c3).1, .bool (metP va vb oa ob La Ha Lb Hb c1 c2 c3).2]) W) := by
 have szX := coneC_size oa sLa sHa
 have szY := coneC_size ob sLb sHb
 have onX := cone_one oa uLa uHa
 have onY := cone_one ob uLb uHb
 have LA := fun w (h : Blk w W.heap.size 42 (coneC oa La Ha)) => cone_loads h sLa sHa
 have LB := fun w (h : Blk w (W.heap.size + 1) 42 (coneC ob Lb Hb)) => cone_loads h sLb sHb
 obtain ⟨X, hX⟩ : ∃ X, coneC oa La Ha = X := ⟨_, rfl⟩
 obtain ⟨Y, hY⟩ : ∃ Y, coneC ob Lb Hb = Y := ⟨_, rfl⟩
 rw [hX] at KA LA szX onX ⊢
 rw [hY] at KB LB szY onY ⊢
 have P0 := ((Blk.new W 42 X).alloc (.cells Y 42)).alloc (.cells #[.bool false, .bool false, .int .u64 0, .int .u64 0, .int .u64 0, .int .u64 0, .bool false, .int .u64 0, .int .u64 0, .int .u64 0, .int .u64 0, .bool false, .int .u64 0, .int .u64 0, .int .u64 0, .int .u64 0, .bool false, .int .u64 0, .int .u64 0, .int .u64 0, .int .u64 0] 42)
 have P1 := (Blk.new (W.alloc (.cells X 42)) 42 Y).alloc (.cells #[.bool false, .bool false, .int .u64 0, .int .u64 0, .int .u64 0, .int .u64 0, .bool false, .int .u64 0, .int .u64 0, .int .u64 0, .int .u64 0, .bool false, .int .u64 0, .int .u64 0, .int .u64 0, .int .u64 0, .bool false, .int .u64 0, .int .u64 0, .int .u64 0, .int .u64 0] 42)
 have P2 := Blk.new ((W.alloc (.cells X 42)).alloc (.cells Y 42)) 42 #[.bool false, .bool false, .int .u64 0, .int .u64 0, .int .u64 0, .int .u64 0, .bool false, .int .u64 0, .int .u64 0, .int .u64 0, .int .u64 0, .bool false, .int .u64 0, .int .u64 0, .int .u64 0, .int .u64 0, .bool false, .int .u64 0, .int .u64 0, .int .u64 0, .int .u64 0]
 have EE := hide (Ext.trans (Ext.trans (ext_alloc W (.cells X 42)) (ext_alloc _ (.cells Y 42))) (ext_alloc _ (.cells #[.bool false, .bool false, .int .u64 0, .int .u64 0, .int .u64 0, .int .u64 0, .bool false, .int .u64 0, .int .u64 0, .int .u64 0, .int .u64 0, .bool false, .int .u64 0, .int .u64 0, .int .u64 0, .int .u64 0, .bool false, .int .u64 0, .int .u64 0, .int .u64 0, .int .u64 0] 42)))
 rw [alloc_size] at P1 P2
 rw [alloc_size] at P2
 obtain ⟨W1, hW1⟩ : ∃ W1, ((W.alloc (.cells X 42)).alloc (.cells Y 42)).alloc (.cells #[.bool false, .bool false, .int .u64 0, .int .u64 0, .int .u64 0, .int .u64 0, .bool false, .int .u64 0, .int .u64 0, .int .u64 0, .int .u64 0, .bool false, .int .u64 0, .int .u64 0, .int .u64 0, .int .u64 0, .bool false, .int .u64 0, .int .u64 0, .int .u64 0, .int .u64 0] 42) = W1 := ⟨_, rfl⟩
 obtain ⟨g, hg⟩ : ∃ g, W.heap.size = g := ⟨_, rfl⟩
 rw [hW1] at P0 P1 P2 EE
 rw [hg] at P0 P1 P2 LA LB
 obtain ⟨b, hb⟩ : ∃ b, g + 1 = b := ⟨_, rfl⟩
 rw [hb] at P1 P2 LB
 obtain ⟨k, hk⟩ : ∃ k, b + 1 = k := ⟨_, rfl⟩
 rw [hk] at P2
 have hWk : W.heap.size ≤ k := by omega
 have hWg : W.heap.size ≤ g := by omega
 have hgb : b ≠ g := by omega
 have hgk : k ≠ g := by omega
 have HW := hide hW1
 have Hg := hide hg
 have HbE := hide hb
 have Hk := hide hk
 have LD := hide (fun w (h : Ext W1 w) => And.intro (LA w (P0.ext h)).1 (And.intro (LA w (P0.ext h)).2.1 (And.intro (LA w (P0.ext h)).2.2.1 (And.intro (LA w (P0.ext h)).2.2.2 (LB w (P1.ext h))))))
 have RB := hide (fun w (h : Ext W1 w) => P2.ext h)
 have PA := hide (fun w (h : Ext W1 w) => P0.ext h)
 have PB := hide (fun w (h : Ext W1 w) => P1.ext h)
 obtain ⟨fx0, -, -, -, -, -, -, -⟩ := LD.out W1 (Ext.refl _)
 have ka := hide KA
 clear hW1 hg hb hk P0 P1 P2 LA LB KA
 cases va with
 | false =>
   clear KB K1 K2 K3
   go_enter Try.func28, Try.ntmps28
   go_upto_region 1 with fail
   rw [HW.out, Hg.out, HbE.out, Hk.out]
   go_upto_region 2 with (first
     | (refine wl_load (by kernel_rfl) rfl rfl fx0 ?_)
     | (go_at_call 35; (with_reducible refine (ka.out _).mono ?_); rintro e w2 ⟨rfl, hE⟩; have E2 := hide hE; have st := cone_store (RB.out w2 hE) rfl (ds := z21) rfl z21_one; clear hE fx0))
   go_wp2_with (refine wl_store (by kernel_rfl) rfl rfl rfl st ?_)
   exact bodyPost_ret (res_row2 (p := 4) (u := 5) (ty := 42) rfl _ _ k 42 z21 _ rfl ((RB.out w2 E2.out).setRow z21) uCone rfl iCone) rfl ⟨rfl, ext_row (EE.out.trans E2.out) hWk _⟩
 | true =>
   have kb := hide (KB rfl)
   clear KB
   cases vb with
   | false =>
     clear K1 K2 K3
     go_enter Try.func28, Try.ntmps28
     go_upto_region 1 with fail
     rw [HW.out, Hg.out, HbE.out, Hk.out]
     go_upto_region 2 with (first
       | (refine wl_load (by kernel_rfl) rfl rfl fx0 ?_)
       | (refine wl_load (by kernel_rfl) rfl rfl fy ?_)
       | (go_at_call 35; (with_reducible refine (ka.out _).mono ?_); rintro e w2 ⟨rfl, hE⟩; have E2 := hide hE; obtain ⟨-, -, -, -, fy, -, -, -⟩ := LD.out w2 hE; clear hE fx0)
       | (go_at_call 35; (with_reducible refine (kb.out _).mono ?_); rintro e w3 ⟨rfl, hE⟩; have E3 := hide (Ext.trans E2.out hE); have st := cone_store (RB.out w3 E3.out) rfl (ds := z21) rfl z21_one; clear hE fy))
     go_wp2_with (refine wl_store (by kernel_rfl) rfl rfl rfl st ?_)
     exact bodyPost_ret (res_row2 (p := 4) (u := 5) (ty := 42) rfl _ _ k 42 z21 _ rfl ((RB.out w3 E3.out).setRow z21) uCone rfl iCone) rfl ⟨rfl, ext_row (EE.out.trans E3.out) hWk _⟩
   | true =>
     cases oa with
     | true =>
       clear K1 K2 K3
       go_enter Try.func28, Try.ntmps28
       go_upto_region 1 with fail
       rw [HW.out, Hg.out, HbE.out, Hk.out]
       go_upto_region 4 with (first
       | (refine wl_load (by kernel_rfl) rfl rfl fx0 ?_)
       | (refine wl_load (by kernel_rfl) rfl rfl fy ?_)
       | (go_at_call 35; (with_reducible refine (ka.out _).mono ?_); rintro e w2 ⟨rfl, hE⟩; have E2 := hide hE; obtain ⟨-, -, -, -, fy, -, -, -⟩ := LD.out w2 hE; clear hE fx0)
       | (go_at_call 35; (with_reducible refine (kb.out _).mono ?_); rintro e w3 ⟨rfl, hE⟩; have E3 := hide (Ext.trans E2.out hE); obtain ⟨-, fo, -, -, fy3, -, -, -⟩ := LD.out w3 E3.out; have st := cone_store (RB.out w3 E3.out) rfl szY onY; clear hE fy))
       go_wp2_with (first
         | (refine wl_load (by kernel_rfl) rfl rfl fy3 ?_)
         | (refine wl_store (by kernel_rfl) rfl rfl rfl st ?_))
       refine bodyPost_ret (res_row2 (p := 4) (u := 5) (ty := 42) rfl _ _ k 42 Y _ rfl ((RB.out w3 E3.out).setRow Y) uCone rfl (by rw [iCone, szY])) rfl ⟨?_, ext_row (EE.out.trans E3.out) hWk _⟩
       rw [← hY]; rfl
     | false =>
       have K1 := K1 rfl rfl rfl
       have K2 := K2 rfl rfl rfl
       have K3 := K3 rfl rfl rfl
       cases ob with
       | true =>
         clear K1 K2 K3
         go_enter Try.func28, Try.ntmps28
         go_upto_region 1 with fail
         rw [HW.out, Hg.out, HbE.out, Hk.out]
         go_upto_region 6 with (first
         | (refine wl_load (by kernel_rfl) rfl rfl fx0 ?_)
         | (refine wl_load (by kernel_rfl) rfl rfl fy ?_)
         | (go_at_call 35; (with_reducible refine (ka.out _).mono ?_); rintro e w2 ⟨rfl, hE⟩; have E2 := hide hE; obtain ⟨-, -, -, -, fy, -, -, -⟩ := LD.out w2 hE; clear hE fx0)
         | (go_at_call 35; (with_reducible refine (kb.out _).mono ?_); rintro e w3 ⟨rfl, hE⟩; have E3 := hide (Ext.trans E2.out hE); obtain ⟨fx3, fo, -, -, -, fob, -, -⟩ := LD.out w3 E3.out; have st := cone_store (RB.out w3 E3.out) rfl szX onX; clear hE fy))
         go_wp2_with (first
           | (refine wl_load (by kernel_rfl) rfl rfl fx3 ?_)
           | (refine wl_store (by kernel_rfl) rfl rfl rfl st ?_))
         refine bodyPost_ret (res_row2 (p := 4) (u := 5) (ty := 42) rfl _ _ k 42 X _ rfl ((RB.out w3 E3.out).setRow X) uCone rfl (by rw [iCone, szX])) rfl ⟨?_, ext_row (EE.out.trans E3.out) hWk _⟩
         rw [← hX]; rfl
       | false =>
         have k1 := hide (K1 rfl)
         have k2 := hide (K2 rfl)
         have k3 := hide (K3 rfl)
         clear K1 K2 K3
         obtain ⟨L1, hL1⟩ : ∃ L1, (if c1 < 0 then Lb else La) = L1 := ⟨_, rfl⟩
         obtain ⟨H1, hH1⟩ : ∃ H1, (if 0 < c2 then Hb else Ha) = H1 := ⟨_, rfl⟩
         rw [hL1, hH1] at k3
         have sL1 : L1.size = 10 := by rw [← hL1]; split <;> assumption
         have sH1 : H1.size = 10 := by rw [← hH1]; split <;> assumption
         have uL1 : L1.all (·.oneCell') = true := by rw [← hL1]; split <;> assumption
         have uH1 : H1.all (·.oneCell') = true := by rw [← hH1]; split <;> assumption
         go_enter Try.func28, Try.ntmps28
         go_upto_region 1 with fail
         rw [HW.out, Hg.out, HbE.out, Hk.out]
         go_upto_region 7 with (first
         | (refine wl_load (by kernel_rfl) rfl rfl fx0 ?_)
         | (refine wl_load (by kernel_rfl) rfl rfl fy ?_)
         | (go_at_call 35; (with_reducible refine (ka.out _).mono ?_); rintro e w2 ⟨rfl, hE⟩; have E2 := hide hE; obtain ⟨-, -, -, -, fy, -, -, -⟩ := LD.out w2 hE; clear hE fx0)
         | (go_at_call 35; (with_reducible refine (kb.out _).mono ?_); rintro e w3 ⟨rfl, hE⟩; have E3 := hide (Ext.trans E2.out hE); obtain ⟨-, fo, fla, -, -, fob, flb, -⟩ := LD.out w3 E3.out; clear hE fy))
         clear fo fob
         go_upto_if 28 with (first
           | (refine wl_load (by kernel_rfl) rfl rfl fla ?_)
           | (refine wl_load (by kernel_rfl) rfl rfl flb ?_)
           | (go_at_call 51; (with_reducible refine (k1.out _).mono ?_); rintro e w4 ⟨rfl, hE⟩; have E4 := hide (Ext.trans E3.out hE); clear hE fla flb))
         obtain ⟨-, -, -, -, -, -, flb4, -⟩ := LD.out w4 E4.out
         have st4 := cone_store_lo (o := false) (hX ▸ PA.out w4 E4.out) sLa sHa sLb uLb
         have F4 : Hid (Blk w4 g 42 (coneC false La Ha) ∧ Blk w4 b 42 (coneC false Lb Hb) ∧ Blk w4 k 42 z21 ∧ Ext W w4) := hide ⟨hX ▸ PA.out w4 E4.out, hY ▸ PB.out w4 E4.out, RB.out w4 E4.out, EE.out.trans E4.out⟩
         clear ka kb k1 LD RB PA PB
         go_cut [] from 28 (fun wx => Hid (Blk wx g 42 (coneC false L1 Ha) ∧ Blk wx b 42 (coneC false Lb Hb) ∧ Blk wx k 42 z21 ∧ Ext W wx))
         case first =>
           by_cases h1 : c1 < 0
           · simp only [h1, decide_true, if_true] at hL1 ⊢
             subst hL1
             go_wp2_with (first
               | (refine wl_load (by kernel_rfl) rfl rfl flb4 ?_)
               | (refine wl_store (by kernel_rfl) rfl rfl rfl st4 ?_))
             go_meet
             case rel => exact hide ⟨F4.out.1.setRow _, F4.out.2.1.rowN hgb, F4.out.2.2.1.rowN hgk, ext_row F4.out.2.2.2 hWg _⟩
           · simp only [h1, decide_false, if_false] at hL1 ⊢
             subst hL1
             go_wp2_with fail
             go_meet
             case rel => exact F4
         case rest =>
         clear st4 flb4 F4 E4
         obtain ⟨-, -, -, fh⟩ := cone_loads hcut.out.1 sL1 sHa
         obtain ⟨-, -, -, fhb⟩ := cone_loads hcut.out.2.1 sLb sHb
         go_upto_if 37 with (first
           | (refine wl_load (by kernel_rfl) rfl rfl fh ?_)
           | (refine wl_load (by kernel_rfl) rfl rfl fhb ?_)
           | (go_at_call 51; (with_reducible refine (k2.out _).mono ?_); rintro e w5 ⟨rfl, hE⟩; have E5 := hide hE; clear hE fh fhb))
         obtain ⟨-, -, -, fhb5⟩ := cone_loads (hcut.out.2.1.ext E5.out) sLb sHb
         have st5 := cone_store_hi (hcut.out.1.ext E5.out) sL1 sHa sHb uHb
         have F5 : Hid (Blk w5 g 42 (coneC false L1 Ha) ∧ Blk w5 b 42 (coneC false Lb Hb) ∧ Blk w5 k 42 z21 ∧ Ext W w5) := hide ⟨hcut.out.1.ext E5.out, hcut.out.2.1.ext E5.out, hcut.out.2.2.1.ext E5.out, hcut.out.2.2.2.trans E5.out⟩
         clear k2 E5 hcut
         go_cut [] from 37 (fun wx => Hid (Blk wx g 42 (coneC false L1 H1) ∧ Blk wx b 42 (coneC false Lb Hb) ∧ Blk wx k 42 z21 ∧ Ext W wx))
         case first =>
           by_cases h2 : 0 < c2
           · simp only [h2, decide_true, if_true] at hH1 ⊢
             subst hH1
             go_wp2_with (first
               | (refine wl_load (by kernel_rfl) rfl rfl fhb5 ?_)
               | (refine wl_store (by kernel_rfl) rfl rfl rfl st5 ?_))
             go_meet
             case rel => exact hide ⟨F5.out.1.setRow _, F5.out.2.1.rowN hgb, F5.out.2.2.1.rowN hgk, ext_row F5.out.2.2.2 hWg _⟩
           · simp only [h2, decide_false, if_false] at hH1 ⊢
             subst hH1
             go_wp2_with fail
             go_meet
             case rel => exact F5
         case rest =>
         clear st5 fhb5 F5
         obtain ⟨-, -, f1, f2⟩ := cone_loads hcut.out.1 sL1 sH1
         go_upto_if 46 with (first
           | (refine wl_load (by kernel_rfl) rfl rfl f1 ?_)
           | (refine wl_load (by kernel_rfl) rfl rfl f2 ?_)
           | (go_at_call 51; (with_reducible refine (k3.out _).mono ?_); rintro e w6 ⟨rfl, hE⟩; have E6 := hide hE; clear hE f1 f2))
         have szZ : (coneC false L1 H1).size = 21 := coneC_size false sL1 sH1
         have fz := (cone_loads (hcut.out.1.ext E6.out) sL1 sH1).1
         have sz0 := cone_store (hcut.out.2.2.1.ext E6.out) rfl (ds := z21) rfl z21_one
         have sz1 := cone_store (hcut.out.2.2.1.ext E6.out) rfl szZ (cone_one false uL1 uH1)
         by_cases h3 : 0 < c3
         · simp only [h3, decide_true]
           rw [show metP true true false false La Ha Lb Hb c1 c2 c3 = (z21, false) from by simp [metP, h3]]
           go_wp2_with (refine wl_store (by kernel_rfl) rfl rfl rfl sz0 ?_)
           exact bodyPost_ret (res_row2 (p := 4) (u := 5) (ty := 42) rfl _ _ k 42 z21 _ rfl ((hcut.out.2.2.1.ext E6.out).setRow z21) uCone rfl iCone) rfl ⟨rfl, ext_row (hcut.out.2.2.2.trans E6.out) hWk _⟩
         · simp only [h3, decide_false]
           go_wp2_with (first
             | (refine wl_load (by kernel_rfl) rfl rfl fz ?_)
             | (refine wl_store (by kernel_rfl) rfl rfl rfl sz1 ?_))
           exact bodyPost_ret (res_row2 (p := 4) (u := 5) (ty := 42) rfl _ _ k 42 (coneC false L1 H1) _ rfl ((hcut.out.2.2.1.ext E6.out).setRow _) uCone rfl (by rw [iCone, szZ])) rfl ⟨by rw [show metP true true false false La Ha Lb Hb c1 c2 c3 = (coneC false L1 H1, true) from by simp [metP, h3, hL1, hH1]]; rfl, ext_row (hcut.out.2.2.2.trans E6.out) hWk _⟩
end
section
open Go Go.RowKit Go.Sort
attribute [local go_sem] qUpon eUpon putE slE
set_option maxHeartbeats 3200000 in
set_option maxRecDepth 100000 in
theorem pc_con1 (o : Bool) (L H S : Array Value) (hL : L.size = 10) (hH : H.size = 10) (sS : S.size = 10) (oL : L.all (·.oneCell') = true) (oH : H.all (·.oneCell') = true) (oS : S.all (·.oneCell') = true) (W : World)
   (kv : Hid (∀ w, Calls Try.prog 35 #[.agg (coneC o L H)] w (Ret (.bool false) w))) :
   Calls Try.prog 24 #[.agg (coneC o L H), .agg S] W (Ret (.bool false) W) := by
 have sX := coneC_size o hL hH
 have oX := cone_one o oL oH
 have fo : (coneC o L H)[0]? = some (.bool o) := by rw [coneC, Array.append_assoc, Array.getElem?_append_left (by simp)]; rfl
 have fl := coneC_lo o hL hH
 have fh := coneC_hi o hL hH
 obtain ⟨X, hX⟩ : ∃ X, coneC o L H = X := ⟨_, rfl⟩
 rw [hX] at kv sX oX fo fl fh ⊢
 clear hX
 have P2 := (Blk.new W 42 X).alloc (.cells S 40)
 have P3 := Blk.new (W.alloc (.cells X 42)) 40 S
 rw [alloc_size] at P3
 have EE := hide ((ext_alloc W (.cells X 42)).trans (ext_alloc _ (.cells S 40)))
 obtain ⟨W1, hW1⟩ : ∃ W1, ((W.alloc (.cells X 42)).alloc (.cells S 40)) = W1 := ⟨_, rfl⟩
 obtain ⟨g0, hg⟩ : ∃ g, W.heap.size = g := ⟨_, rfl⟩
 rw [hW1] at P2 P3 EE
 rw [hg] at P2 P3
 have P2_lo : W.heap.size ≤ g0 := by omega
 have P3_lo : W.heap.size ≤ g0 + 1 := by omega
 have HW := hide hW1
 have Hg := hide hg
 clear hW1 hg
 go_enter Try.func24, Try.ntmps24
 go_upto_region 1 with fail
 rw [HW.out, Hg.out]
 clear HW Hg
 have P2_lt := P2.lt
 have P3_lt := P3.lt
 refine wp_evs [.q, .q, .q, .q, .sk, .sk, .sk, .q] [0, 0, 0, 0, 0, 0, 0, 0] (fun R => [.agg X, .bool false, .bool true, .bool true, undef, undef, undef, .bool true]) (fun _ => (.cells #[] 0 (0, 0))) (fun R _ => (.cells #[] 0 (0, 0))) (fun _ => 0) (XE W) (fun _ => False) (by kernel_rfl) (by kernel_rfl) (by kernel_rfl) rfl (fun _ => rfl) (fun _ h => h.elim) (fun _ _ h => h) (by simp) (by simp) (fun R R' => ⟨fun _ => rfl, fun _ => rfl, fun _ => rfl, fun _ => rfl, fun _ => rfl, fun _ => rfl, fun _ => rfl, fun _ => rfl, trivial⟩) (fun _ _ _ _ => rfl) xe_below EE.out ?ops8 ?end8
 case ops8 =>
   refine ⟨?_, ?_, ?_, ?_, ?_, ?_, ?_, ?_, trivial⟩
   · refine er_q ?vn1 ?hn1 ?kn1 ?gn1 ?_
     case hn1 => exact rfl
     case vn1 => exact (fun R => .agg X)
     case kn1 => exact (fun R => rfl)
     case gn1 => exact gd_none rfl
     intro R s w' hT hs hw ha
     have L := ld_all (P2.sameE hw (fun h => h) (by simp)) uCone rfl iCone sX
     generalize hA : putE _ _ _ _ _ _ _ = AA
     refine q_load rfl ?_ L
     subst hA
     kernel_rfl
   · refine er_q ?vn2 ?hn2 ?kn2 ?gn2 ?_
     case hn2 => exact rfl
     case vn2 => exact (fun R => .bool false)
     case kn2 => exact (fun R => rfl)
     case gn2 => exact gd_none rfl
     intro R s w' hT hs hw ha
     go_simp
     exact kv.out w'
   · refine er_q ?vn3 ?hn3 ?kn3 ?gn3 ?_
     case hn3 => exact rfl
     case vn3 => exact (fun R => .bool true)
     case kn3 => exact (fun R => rfl)
     case gn3 => exact gd_none rfl
     intro R s w' hT hs hw ha
     go_simp
   · refine er_q ?vn4 ?hn4 ?kn4 ?gn4 ?_
     case hn4 => exact rfl
     case vn4 => exact (fun R => .bool true)
     case kn4 => exact (fun R => rfl)
     case gn4 => exact gd_none rfl
     intro R s w' hT hs hw ha
     go_simp
   · refine er_sk ?hn5 ?gn5
     case hn5 => exact rfl
     case gn5 => (refine gd_some rfl ?_; intro R; kernel_rfl)
   · refine er_sk ?hn6 ?gn6
     case hn6 => exact rfl
     case gn6 => (refine gd_some rfl ?_; intro R; kernel_rfl)
   · refine er_sk ?hn7 ?gn7
     case hn7 => exact rfl
     case gn7 => (refine gd_some rfl ?_; intro R; kernel_rfl)
   · refine er_q ?vn8 ?hn8 ?kn8 ?gn8 ?_
     case hn8 => exact rfl
     case vn8 => exact (fun R => .bool true)
     case kn8 => exact (fun R => rfl)
     case gn8 => exact gd_none rfl
     intro R s w' hT hs hw ha
     go_simp
 case end8 =>
  intro sI R G w9 hI
  have hS := hI.same
  have hTT := hI.holds
  have hz0 := EE.out.size
  have P2 := P2.sameE hS (fun h => h) (by simp)
  have P3 := P3.sameE hS (fun h => h) (by simp)
  have EE := hide (show Ext _ _ from hTT)
  clear hS hz0 hTT hI
  generalize hF : putE _ _ _ _ _ _ _ = FF
  have hF2 : FF = { tmps := #[.agg X, .agg S, .pointer (some ⟨g0, 0, none⟩), .pointer (some ⟨g0 + 1, 0, none⟩), .bool false, .agg X, .bool false, .bool true, .bool true, undef, undef, undef, .bool true, undef, undef, undef, undef, undef, undef, undef, undef, undef, undef, undef, undef, undef, undef, undef, undef], defers := [] } := by subst hF; kernel_rfl
  clear hF
  subst hF2
  go_upto_region 2 with fail
  go_wp2_with fail
  go_ret
  exact ⟨rfl, EE.out⟩
set_option maxHeartbeats 3200000 in
set_option maxRecDepth 100000 in
theorem pc_con2 (o : Bool) (L H S : Array Value) (hL : L.size = 10) (hH : H.size = 10) (sS : S.size = 10) (oL : L.all (·.oneCell') = true) (oH : H.all (·.oneCell') = true) (oS : S.all (·.oneCell') = true) (W : World)
   (kv : Hid (∀ w, Calls Try.prog 35 #[.agg (coneC o L H)] w (Ret (.bool true) w))) (ks : Hid (∀ w, Calls Try.prog 50 #[.agg S] w (Ret (.bool false) w))) :
   Calls Try.prog 24 #[.agg (coneC o L H), .agg S] W (Ret (.bool false) W) := by
 have sX := coneC_size o hL hH
 have oX := cone_one o oL oH
 have fo : (coneC o L H)[0]? = some (.bool o) := by rw [coneC, Array.append_assoc, Array.getElem?_append_left (by simp)]; rfl
 have fl := coneC_lo o hL hH
 have fh := coneC_hi o hL hH
 obtain ⟨X, hX⟩ : ∃ X, coneC o L H = X := ⟨_, rfl⟩
 rw [hX] at kv sX oX fo fl fh ⊢
 clear hX
 have P2 := (Blk.new W 42 X).alloc (.cells S 40)
 have P3 := Blk.new (W.alloc (.cells X 42)) 40 S
 rw [alloc_size] at P3
 have EE := hide ((ext_alloc W (.cells X 42)).trans (ext_alloc _ (.cells S 40)))
 obtain ⟨W1, hW1⟩ : ∃ W1, ((W.alloc (.cells X 42)).alloc (.cells S 40)) = W1 := ⟨_, rfl⟩
 obtain ⟨g0, hg⟩ : ∃ g, W.heap.size = g := ⟨_, rfl⟩
 rw [hW1] at P2 P3 EE
 rw [hg] at P2 P3
 have P2_lo : W.heap.size ≤ g0 := by omega
 have P3_lo : W.heap.size ≤ g0 + 1 := by omega
 have HW := hide hW1
 have Hg := hide hg
 clear hW1 hg
 go_enter Try.func24, Try.ntmps24
 go_upto_region 1 with fail
 rw [HW.out, Hg.out]
 clear HW Hg
 have P2_lt := P2.lt
 have P3_lt := P3.lt
 refine wp_evs [.q, .q, .q, .q, .q, .q, .q, .q] [0, 0, 0, 0, 0, 0, 0, 0] (fun R => [.agg X, .bool true, .bool false, .bool false, .agg S, .bool false, .bool true, .bool true]) (fun _ => (.cells #[] 0 (0, 0))) (fun R _ => (.cells #[] 0 (0, 0))) (fun _ => 0) (XE W) (fun _ => False) (by kernel_rfl) (by kernel_rfl) (by kernel_rfl) rfl (fun _ => rfl) (fun _ h => h.elim) (fun _ _ h => h) (by simp) (by simp) (fun R R' => ⟨fun _ => rfl, fun _ => rfl, fun _ => rfl, fun _ => rfl, fun _ => rfl, fun _ => rfl, fun _ => rfl, fun _ => rfl, trivial⟩) (fun _ _ _ _ => rfl) xe_below EE.out ?ops8 ?end8
 case ops8 =>
   refine ⟨?_, ?_, ?_, ?_, ?_, ?_, ?_, ?_, trivial⟩
   · refine er_q ?vn1 ?hn1 ?kn1 ?gn1 ?_
     case hn1 => exact rfl
     case vn1 => exact (fun R => .agg X)
     case kn1 => exact (fun R => rfl)
     case gn1 => exact gd_none rfl
     intro R s w' hT hs hw ha
     have L := ld_all (P2.sameE hw (fun h => h) (by simp)) uCone rfl iCone sX
     generalize hA : putE _ _ _ _ _ _ _ = AA
     refine q_load rfl ?_ L
     subst hA
     kernel_rfl
   · refine er_q ?vn2 ?hn2 ?kn2 ?gn2 ?_
     case hn2 => exact rfl
     case vn2 => exact (fun R => .bool true)
     case kn2 => exact (fun R => rfl)
     case gn2 => exact gd_none rfl
     intro R s w' hT hs hw ha
     go_simp
     exact kv.out w'
   · refine er_q ?vn3 ?hn3 ?kn3 ?gn3 ?_
     case hn3 => exact rfl
     case vn3 => exact (fun R => .bool false)
     case kn3 => exact (fun R => rfl)
     case gn3 => exact gd_none rfl
     intro R s w' hT hs hw ha
     go_simp
   · refine er_q ?vn4 ?hn4 ?kn4 ?gn4 ?_
     case hn4 => exact rfl
     case vn4 => exact (fun R => .bool false)
     case kn4 => exact (fun R => rfl)
     case gn4 => exact gd_none rfl
     intro R s w' hT hs hw ha
     go_simp
   · refine er_q ?vn5 ?hn5 ?kn5 ?gn5 ?_
     case hn5 => exact rfl
     case vn5 => exact (fun R => .agg S)
     case kn5 => exact (fun R => rfl)
     case gn5 => (refine gd_some rfl ?_; intro R; kernel_rfl)
     intro R s w' hT hs hw ha
     have L := ld_all (P3.sameE hw (fun h => h) (by simp)) uRat rfl iRat sS
     generalize hA : putE _ _ _ _ _ _ _ = AA
     refine q_load rfl ?_ L
     subst hA
     kernel_rfl
   · refine er_q ?vn6 ?hn6 ?kn6 ?gn6 ?_
     case hn6 => exact rfl
     case vn6 => exact (fun R => .bool false)
     case kn6 => exact (fun R => rfl)
     case gn6 => (refine gd_some rfl ?_; intro R; kernel_rfl)
     intro R s w' hT hs hw ha
     go_simp
     exact ks.out w'
   · refine er_q ?vn7 ?hn7 ?kn7 ?gn7 ?_
     case hn7 => exact rfl
     case vn7 => exact (fun R => .bool true)
     case kn7 => exact (fun R => rfl)
     case gn7 => (refine gd_some rfl ?_; intro R; kernel_rfl)
     intro R s w' hT hs hw ha
     go_simp
   · refine er_q ?vn8 ?hn8 ?kn8 ?gn8 ?_
     case hn8 => exact rfl
     case vn8 => exact (fun R => .bool true)
     case kn8 => exact (fun R => rfl)
     case gn8 => exact gd_none rfl
     intro R s w' hT hs hw ha
     go_simp
 case end8 =>
  intro sI R G w9 hI
  have hS := hI.same
  have hTT := hI.holds
  have hz0 := EE.out.size
  have P2 := P2.sameE hS (fun h => h) (by simp)
  have P3 := P3.sameE hS (fun h => h) (by simp)
  have EE := hide (show Ext _ _ from hTT)
  clear hS hz0 hTT hI
  generalize hF : putE _ _ _ _ _ _ _ = FF
  have hF2 : FF = { tmps := #[.agg X, .agg S, .pointer (some ⟨g0, 0, none⟩), .pointer (some ⟨g0 + 1, 0, none⟩), .bool false, .agg X, .bool true, .bool false, .bool false, .agg S, .bool false, .bool true, .bool true, undef, undef, undef, undef, undef, undef, undef, undef, undef, undef, undef, undef, undef, undef, undef, undef], defers := [] } := by subst hF; kernel_rfl
  clear hF
  subst hF2
  go_upto_region 2 with fail
  go_wp2_with fail
  go_ret
  exact ⟨rfl, EE.out⟩
set_option maxHeartbeats 3200000 in
set_option maxRecDepth 100000 in
theorem pc_con3 (L H S : Array Value) (hL : L.size = 10) (hH : H.size = 10) (sS : S.size = 10) (oL : L.all (·.oneCell') = true) (oH : H.all (·.oneCell') = true) (oS : S.all (·.oneCell') = true) (W : World)
   (kv : Hid (∀ w, Calls Try.prog 35 #[.agg (coneC true L H)] w (Ret (.bool true) w))) (ks : Hid (∀ w, Calls Try.prog 50 #[.agg S] w (Ret (.bool true) w))) :
   Calls Try.prog 24 #[.agg (coneC true L H), .agg S] W (Ret (.bool true) W) := by
 have sX := coneC_size true hL hH
 have oX := cone_one true oL oH
 have fo : (coneC true L H)[0]? = some (.bool true) := by rw [coneC, Array.append_assoc, Array.getElem?_append_left (by simp)]; rfl
 have fl := coneC_lo true hL hH
 have fh := coneC_hi true hL hH
 obtain ⟨X, hX⟩ : ∃ X, coneC true L H = X := ⟨_, rfl⟩
 rw [hX] at kv sX oX fo fl fh ⊢
 clear hX
 have P2 := (Blk.new W 42 X).alloc (.cells S 40)
 have P3 := Blk.new (W.alloc (.cells X 42)) 40 S
 rw [alloc_size] at P3
 have EE := hide ((ext_alloc W (.cells X 42)).trans (ext_alloc _ (.cells S 40)))
 obtain ⟨W1, hW1⟩ : ∃ W1, ((W.alloc (.cells X 42)).alloc (.cells S 40)) = W1 := ⟨_, rfl⟩
 obtain ⟨g0, hg⟩ : ∃ g, W.heap.size = g := ⟨_, rfl⟩
 rw [hW1] at P2 P3 EE
 rw [hg] at P2 P3
 have P2_lo : W.heap.size ≤ g0 := by omega
 have P3_lo : W.heap.size ≤ g0 + 1 := by omega
 have HW := hide hW1
 have Hg := hide hg
 clear hW1 hg
 go_enter Try.func24, Try.ntmps24
 go_upto_region 1 with fail
 rw [HW.out, Hg.out]
 clear HW Hg
 have P2_lt := P2.lt
 have P3_lt := P3.lt
 refine wp_evs [.q, .q, .q, .q, .q, .q, .q, .q] [0, 0, 0, 0, 0, 0, 0, 0] (fun R => [.agg X, .bool true, .bool false, .bool false, .agg S, .bool true, .bool false, .bool false]) (fun _ => (.cells #[] 0 (0, 0))) (fun R _ => (.cells #[] 0 (0, 0))) (fun _ => 0) (XE W) (fun _ => False) (by kernel_rfl) (by kernel_rfl) (by kernel_rfl) rfl (fun _ => rfl) (fun _ h => h.elim) (fun _ _ h => h) (by simp) (by simp) (fun R R' => ⟨fun _ => rfl, fun _ => rfl, fun _ => rfl, fun _ => rfl, fun _ => rfl, fun _ => rfl, fun _ => rfl, fun _ => rfl, trivial⟩) (fun _ _ _ _ => rfl) xe_below EE.out ?ops8 ?end8
 case ops8 =>
   refine ⟨?_, ?_, ?_, ?_, ?_, ?_, ?_, ?_, trivial⟩
   · refine er_q ?vn1 ?hn1 ?kn1 ?gn1 ?_
     case hn1 => exact rfl
     case vn1 => exact (fun R => .agg X)
     case kn1 => exact (fun R => rfl)
     case gn1 => exact gd_none rfl
     intro R s w' hT hs hw ha
     have L := ld_all (P2.sameE hw (fun h => h) (by simp)) uCone rfl iCone sX
     generalize hA : putE _ _ _ _ _ _ _ = AA
     refine q_load rfl ?_ L
     subst hA
     kernel_rfl
   · refine er_q ?vn2 ?hn2 ?kn2 ?gn2 ?_
     case hn2 => exact rfl
     case vn2 => exact (fun R => .bool true)
     case kn2 => exact (fun R => rfl)
     case gn2 => exact gd_none rfl
     intro R s w' hT hs hw ha
     go_simp
     exact kv.out w'
   · refine er_q ?vn3 ?hn3 ?kn3 ?gn3 ?_
     case hn3 => exact rfl
     case vn3 => exact (fun R => .bool false)
     case kn3 => exact (fun R => rfl)
     case gn3 => exact gd_none rfl
     intro R s w' hT hs hw ha
     go_simp
   · refine er_q ?vn4 ?hn4 ?kn4 ?gn4 ?_
     case hn4 => exact rfl
     case vn4 => exact (fun R => .bool false)
     case kn4 => exact (fun R => rfl)
     case gn4 => exact gd_none rfl
     intro R s w' hT hs hw ha
     go_simp
   · refine er_q ?vn5 ?hn5 ?kn5 ?gn5 ?_
     case hn5 => exact rfl
     case vn5 => exact (fun R => .agg S)
     case kn5 => exact (fun R => rfl)
     case gn5 => (refine gd_some rfl ?_; intro R; kernel_rfl)
     intro R s w' hT hs hw ha
     have L := ld_all (P3.sameE hw (fun h => h) (by simp)) uRat rfl iRat sS
     generalize hA : putE _ _ _ _ _ _ _ = AA
     refine q_load rfl ?_ L
     subst hA
     kernel_rfl
   · refine er_q ?vn6 ?hn6 ?kn6 ?gn6 ?_
     case hn6 => exact rfl
     case vn6 => exact (fun R => .bool true)
     case kn6 => exact (fun R => rfl)
     case gn6 => (refine gd_some rfl ?_; intro R; kernel_rfl)
     intro R s w' hT hs hw ha
     go_simp
     exact ks.out w'
   · refine er_q ?vn7 ?hn7 ?kn7 ?gn7 ?_
     case hn7 => exact rfl
     case vn7 => exact (fun R => .bool false)
     case kn7 => exact (fun R => rfl)
     case gn7 => (refine gd_some rfl ?_; intro R; kernel_rfl)
     intro R s w' hT hs hw ha
     go_simp
   · refine er_q ?vn8 ?hn8 ?kn8 ?gn8 ?_
     case hn8 => exact rfl
     case vn8 => exact (fun R => .bool false)
     case kn8 => exact (fun R => rfl)
     case gn8 => exact gd_none rfl
     intro R s w' hT hs hw ha
     go_simp
 case end8 =>
  intro sI R G w9 hI
  have hS := hI.same
  have hTT := hI.holds
  have hz0 := EE.out.size
  have P2 := P2.sameE hS (fun h => h) (by simp)
  have P3 := P3.sameE hS (fun h => h) (by simp)
  have EE := hide (show Ext _ _ from hTT)
  clear hS hz0 hTT hI
  generalize hF : putE _ _ _ _ _ _ _ = FF
  have hF2 : FF = { tmps := #[.agg X, .agg S, .pointer (some ⟨g0, 0, none⟩), .pointer (some ⟨g0 + 1, 0, none⟩), .bool false, .agg X, .bool true, .bool false, .bool false, .agg S, .bool true, .bool false, .bool false, undef, undef, undef, undef, undef, undef, undef, undef, undef, undef, undef, undef, undef, undef, undef, undef], defers := [] } := by subst hF; kernel_rfl
  clear hF
  subst hF2
  go_upto_region 3 with fail
  have P2_lt := P2.lt
  have P3_lt := P3.lt
  refine wp_evs [.q, .q, .q, .sk, .sk, .sk, .sk, .sk, .sk, .sk, .sk, .sk, .sk, .sk, .sk, .q, .q] [0, 0, 0, 0, 0, 0, 0, 0, 0, 0, 0, 0, 0, 0, 0, 0, 0] (fun R => [.pointer (some ⟨g0, 0, none⟩), .bool true, .bool true, undef, undef, undef, undef, undef, undef, undef, undef, undef, undef, undef, undef, .bool true, .bool true]) (fun _ => (.cells #[] 0 (0, 0))) (fun R _ => (.cells #[] 0 (0, 0))) (fun _ => 0) (XE W) (fun _ => False) (by kernel_rfl) (by kernel_rfl) (by kernel_rfl) rfl (fun _ => rfl) (fun _ h => h.elim) (fun _ _ h => h) (by simp) (by simp) (fun R R' => ⟨fun _ => rfl, fun _ => rfl, fun _ => rfl, fun _ => rfl, fun _ => rfl, fun _ => rfl, fun _ => rfl, fun _ => rfl, fun _ => rfl, fun _ => rfl, fun _ => rfl, fun _ => rfl, fun _ => rfl, fun _ => rfl, fun _ => rfl, fun _ => rfl, fun _ => rfl, trivial⟩) (fun _ _ _ _ => rfl) xe_below EE.out ?ops26 ?end26
  case ops26 =>
    refine ⟨?_, ?_, ?_, ?_, ?_, ?_, ?_, ?_, ?_, ?_, ?_, ?_, ?_, ?_, ?_, ?_, ?_, trivial⟩
    · refine er_q ?vn10 ?hn10 ?kn10 ?gn10 ?_
      case hn10 => exact rfl
      case vn10 => exact (fun R => .pointer (some ⟨g0, 0, none⟩))
      case kn10 => exact (fun R => rfl)
      case gn10 => exact gd_none rfl
      intro R s w' hT hs hw ha
      go_simp
    · refine er_q ?vn11 ?hn11 ?kn11 ?gn11 ?_
      case hn11 => exact rfl
      case vn11 => exact (fun R => .bool true)
      case kn11 => exact (fun R => rfl)
      case gn11 => exact gd_none rfl
      intro R s w' hT hs hw ha
      have cc := ((P2.sameE hw (fun h => h) (by simp) : Blk w' g0 _ X).cell 0).trans (fo)
      go_simp
    · refine er_q ?vn12 ?hn12 ?kn12 ?gn12 ?_
      case hn12 => exact rfl
      case vn12 => exact (fun R => .bool true)
      case kn12 => exact (fun R => rfl)
      case gn12 => exact gd_none rfl
      intro R s w' hT hs hw ha
      go_simp
    · refine er_sk ?hn13 ?gn13
      case hn13 => exact rfl
      case gn13 => (refine gd_some rfl ?_; intro R; kernel_rfl)
    · refine er_sk ?hn14 ?gn14
      case hn14 => exact rfl
      case gn14 => (refine gd_some rfl ?_; intro R; kernel_rfl)
    · refine er_sk ?hn15 ?gn15
      case hn15 => exact rfl
      case gn15 => (refine gd_some rfl ?_; intro R; kernel_rfl)
    · refine er_sk ?hn16 ?gn16
      case hn16 => exact rfl
      case gn16 => (refine gd_some rfl ?_; intro R; kernel_rfl)
    · refine er_sk ?hn17 ?gn17
      case hn17 => exact rfl
      case gn17 => (refine gd_some rfl ?_; intro R; kernel_rfl)
    · refine er_sk ?hn18 ?gn18
      case hn18 => exact rfl
      case gn18 => (refine gd_some rfl ?_; intro R; kernel_rfl)
    · refine er_sk ?hn19 ?gn19
      case hn19 => exact rfl
      case gn19 => (refine gd_some rfl ?_; intro R; kernel_rfl)
    · refine er_sk ?hn20 ?gn20
      case hn20 => exact rfl
      case gn20 => (refine gd_some rfl ?_; intro R; kernel_rfl)
    · refine er_sk ?hn21 ?gn21
      case hn21 => exact rfl
      case gn21 => (refine gd_some rfl ?_; intro R; kernel_rfl)
    · refine er_sk ?hn22 ?gn22
      case hn22 => exact rfl
      case gn22 => (refine gd_some rfl ?_; intro R; kernel_rfl)
    · refine er_sk ?hn23 ?gn23
      case hn23 => exact rfl
      case gn23 => (refine gd_some rfl ?_; intro R; kernel_rfl)
    · refine er_sk ?hn24 ?gn24
      case hn24 => exact rfl
      case gn24 => (refine gd_some rfl ?_; intro R; kernel_rfl)
    · refine er_q ?vn25 ?hn25 ?kn25 ?gn25 ?_
      case hn25 => exact rfl
      case vn25 => exact (fun R => .bool true)
      case kn25 => exact (fun R => rfl)
      case gn25 => exact gd_none rfl
      intro R s w' hT hs hw ha
      go_simp
    · refine er_q ?vn26 ?hn26 ?kn26 ?gn26 ?_
      case hn26 => exact rfl
      case vn26 => exact (fun R => .bool true)
      case kn26 => exact (fun R => rfl)
      case gn26 => exact gd_none rfl
      intro R s w' hT hs hw ha
      go_simp
  case end26 =>
   intro sI R G w27 hI
   have hS := hI.same
   have hTT := hI.holds
   have hz0 := EE.out.size
   have P2 := P2.sameE hS (fun h => h) (by simp)
   have P3 := P3.sameE hS (fun h => h) (by simp)
   have EE := hide (show Ext _ _ from hTT)
   clear hS hz0 hTT hI
   generalize hF : putE _ _ _ _ _ _ _ = FF
   have hF2 : FF = { tmps := #[.agg X, .agg S, .pointer (some ⟨g0, 0, none⟩), .pointer (some ⟨g0 + 1, 0, none⟩), .bool true, .agg X, .bool true, .bool false, .bool false, .agg S, .bool true, .bool false, .bool false, .pointer (some ⟨g0, 0, none⟩), .bool true, .bool true, undef, undef, undef, undef, undef, undef, undef, undef, undef, undef, undef, undef, .bool true], defers := [] } := by subst hF; kernel_rfl
   clear hF
   subst hF2
   go_wp2_with fail
   go_ret
   exact ⟨rfl, EE.out⟩
set_option maxHeartbeats 3200000 in
set_option maxRecDepth 100000 in
theorem pc_con4 (L H S : Array Value) (hL : L.size = 10) (hH : H.size = 10) (sS : S.size = 10) (oL : L.all (·.oneCell') = true) (oH : H.all (·.oneCell') = true) (oS : S.all (·.oneCell') = true) (W : World)
   (kv : Hid (∀ w, Calls Try.prog 35 #[.agg (coneC false L H)] w (Ret (.bool true) w))) (ks : Hid (∀ w, Calls Try.prog 50 #[.agg S] w (Ret (.bool true) w))) (r1 : Int) (K1 : Hid (∀ w, Calls Try.prog 51 #[.agg L, .agg S] w (Ret (.int .i64 r1) w))) (h1 : decide (r1 ≤ 0) = false) :
   Calls Try.prog 24 #[.agg (coneC false L H), .agg S] W (Ret (.bool false) W) := by
 have sX := coneC_size false hL hH
 have oX := cone_one false oL oH
 have fo : (coneC false L H)[0]? = some (.bool false) := by rw [coneC, Array.append_assoc, Array.getElem?_append_left (by simp)]; rfl
 have fl := coneC_lo false hL hH
 have fh := coneC_hi false hL hH
 obtain ⟨X, hX⟩ : ∃ X, coneC false L H = X := ⟨_, rfl⟩
 rw [hX] at kv sX oX fo fl fh ⊢
 clear hX
 have P2 := (Blk.new W 42 X).alloc (.cells S 40)
 have P3 := Blk.new (W.alloc (.cells X 42)) 40 S
 rw [alloc_size] at P3
 have EE := hide ((ext_alloc W (.cells X 42)).trans (ext_alloc _ (.cells S 40)))
 obtain ⟨W1, hW1⟩ : ∃ W1, ((W.alloc (.cells X 42)).alloc (.cells S 40)) = W1 := ⟨_, rfl⟩
 obtain ⟨g0, hg⟩ : ∃ g, W.heap.size = g := ⟨_, rfl⟩
 rw [hW1] at P2 P3 EE
 rw [hg] at P2 P3
 have P2_lo : W.heap.size ≤ g0 := by omega
 have P3_lo : W.heap.size ≤ g0 + 1 := by omega
 have HW := hide hW1
 have Hg := hide hg
 clear hW1 hg
 go_enter Try.func24, Try.ntmps24
 go_upto_region 1 with fail
 rw [HW.out, Hg.out]
 clear HW Hg
 have P2_lt := P2.lt
 have P3_lt := P3.lt
 refine wp_evs [.q, .q, .q, .q, .q, .q, .q, .q] [0, 0, 0, 0, 0, 0, 0, 0] (fun R => [.agg X, .bool true, .bool false, .bool false, .agg S, .bool true, .bool false, .bool false]) (fun _ => (.cells #[] 0 (0, 0))) (fun R _ => (.cells #[] 0 (0, 0))) (fun _ => 0) (XE W) (fun _ => False) (by kernel_rfl) (by kernel_rfl) (by kernel_rfl) rfl (fun _ => rfl) (fun _ h => h.elim) (fun _ _ h => h) (by simp) (by simp) (fun R R' => ⟨fun _ => rfl, fun _ => rfl, fun _ => rfl, fun _ => rfl, fun _ => rfl, fun _ => rfl, fun _ => rfl, fun _ => rfl, trivial⟩) (fun _ _ _ _ => rfl) xe_below EE.out ?ops8 ?end8
 case ops8 =>
   refine ⟨?_, ?_, ?_, ?_, ?_, ?_, ?_, ?_, trivial⟩
   · refine er_q ?vn1 ?hn1 ?kn1 ?gn1 ?_
     case hn1 => exact rfl
     case vn1 => exact (fun R => .agg X)
     case kn1 => exact (fun R => rfl)
     case gn1 => exact gd_none rfl
     intro R s w' hT hs hw ha
     have L := ld_all (P2.sameE hw (fun h => h) (by simp)) uCone rfl iCone sX
     generalize hA : putE _ _ _ _ _ _ _ = AA
     refine q_load rfl ?_ L
     subst hA
     kernel_rfl
   · refine er_q ?vn2 ?hn2 ?kn2 ?gn2 ?_
     case hn2 => exact rfl
     case vn2 => exact (fun R => .bool true)
     case kn2 => exact (fun R => rfl)
     case gn2 => exact gd_none rfl
     intro R s w' hT hs hw ha
     go_simp
     exact kv.out w'
   · refine er_q ?vn3 ?hn3 ?kn3 ?gn3 ?_
     case hn3 => exact rfl
     case vn3 => exact (fun R => .bool false)
     case kn3 => exact (fun R => rfl)
     case gn3 => exact gd_none rfl
     intro R s w' hT hs hw ha
     go_simp
   · refine er_q ?vn4 ?hn4 ?kn4 ?gn4 ?_
     case hn4 => exact rfl
     case vn4 => exact (fun R => .bool false)
     case kn4 => exact (fun R => rfl)
     case gn4 => exact gd_none rfl
     intro R s w' hT hs hw ha
     go_simp
   · refine er_q ?vn5 ?hn5 ?kn5 ?gn5 ?_
     case hn5 => exact rfl
     case vn5 => exact (fun R => .agg S)
     case kn5 => exact (fun R => rfl)
     case gn5 => (refine gd_some rfl ?_; intro R; kernel_rfl)
     intro R s w' hT hs hw ha
     have L := ld_all (P3.sameE hw (fun h => h) (by simp)) uRat rfl iRat sS
     generalize hA : putE _ _ _ _ _ _ _ = AA
     refine q_load rfl ?_ L
     subst hA
     kernel_rfl
   · refine er_q ?vn6 ?hn6 ?kn6 ?gn6 ?_
     case hn6 => exact rfl
     case vn6 => exact (fun R => .bool true)
     case kn6 => exact (fun R => rfl)
     case gn6 => (refine gd_some rfl ?_; intro R; kernel_rfl)
     intro R s w' hT hs hw ha
     go_simp
     exact ks.out w'
   · refine er_q ?vn7 ?hn7 ?kn7 ?gn7 ?_
     case hn7 => exact rfl
     case vn7 => exact (fun R => .bool false)
     case kn7 => exact (fun R => rfl)
     case gn7 => (refine gd_some rfl ?_; intro R; kernel_rfl)
     intro R s w' hT hs hw ha
     go_simp
   · refine er_q ?vn8 ?hn8 ?kn8 ?gn8 ?_
     case hn8 => exact rfl
     case vn8 => exact (fun R => .bool false)
     case kn8 => exact (fun R => rfl)
     case gn8 => exact gd_none rfl
     intro R s w' hT hs hw ha
     go_simp
 case end8 =>
  intro sI R G w9 hI
  have hS := hI.same
  have hTT := hI.holds
  have hz0 := EE.out.size
  have P2 := P2.sameE hS (fun h => h) (by simp)
  have P3 := P3.sameE hS (fun h => h) (by simp)
  have EE := hide (show Ext _ _ from hTT)
  clear hS hz0 hTT hI
  generalize hF : putE _ _ _ _ _ _ _ = FF
  have hF2 : FF = { tmps := #[.agg X, .agg S, .pointer (some ⟨g0, 0, none⟩), .pointer (some ⟨g0 + 1, 0, none⟩), .bool false, .agg X, .bool true, .bool false, .bool false, .agg S, .bool true, .bool false, .bool false, undef, undef, undef, undef, undef, undef, undef, undef, undef, undef, undef, undef, undef, undef, undef, undef], defers := [] } := by subst hF; kernel_rfl
  clear hF
  subst hF2
  go_upto_region 3 with fail
  have P2_lt := P2.lt
  have P3_lt := P3.lt
  refine wp_evs [.q, .q, .q, .q, .q, .q, .q, .q, .q, .sk, .sk, .sk, .sk, .sk, .q, .q, .q] [0, 0, 0, 0, 0, 0, 0, 0, 0, 0, 0, 0, 0, 0, 0, 0, 0] (fun R => [.pointer (some ⟨g0, 0, none⟩), .bool false, .bool false, .pointer (some ⟨g0, 1, none⟩), .agg L, .agg S, .int .i64 r1, .bool false, .bool false, undef, undef, undef, undef, undef, .bool false, .bool false, .bool false]) (fun _ => (.cells #[] 0 (0, 0))) (fun R _ => (.cells #[] 0 (0, 0))) (fun _ => 0) (XE W) (fun _ => False) (by kernel_rfl) (by kernel_rfl) (by kernel_rfl) rfl (fun _ => rfl) (fun _ h => h.elim) (fun _ _ h => h) (by simp) (by simp) (fun R R' => ⟨fun _ => rfl, fun _ => rfl, fun _ => rfl, fun _ => rfl, fun _ => rfl, fun _ => rfl, fun _ => rfl, fun _ => rfl, fun _ => rfl, fun _ => rfl, fun _ => rfl, fun _ => rfl, fun _ => rfl, fun _ => rfl, fun _ => rfl, fun _ => rfl, fun _ => rfl, trivial⟩) (fun _ _ _ _ => rfl) xe_below EE.out ?ops26 ?end26
  case ops26 =>
    refine ⟨?_, ?_, ?_, ?_, ?_, ?_, ?_, ?_, ?_, ?_, ?_, ?_, ?_, ?_, ?_, ?_, ?_, trivial⟩
    · refine er_q ?vn10 ?hn10 ?kn10 ?gn10 ?_
      case hn10 => exact rfl
      case vn10 => exact (fun R => .pointer (some ⟨g0, 0, none⟩))
      case kn10 => exact (fun R => rfl)
      case gn10 => exact gd_none rfl
      intro R s w' hT hs hw ha
      go_simp
    · refine er_q ?vn11 ?hn11 ?kn11 ?gn11 ?_
      case hn11 => exact rfl
      case vn11 => exact (fun R => .bool false)
      case kn11 => exact (fun R => rfl)
      case gn11 => exact gd_none rfl
      intro R s w' hT hs hw ha
      have cc := ((P2.sameE hw (fun h => h) (by simp) : Blk w' g0 _ X).cell 0).trans (fo)
      go_simp
    · refine er_q ?vn12 ?hn12 ?kn12 ?gn12 ?_
      case hn12 => exact rfl
      case vn12 => exact (fun R => .bool false)
      case kn12 => exact (fun R => rfl)
      case gn12 => exact gd_none rfl
      intro R s w' hT hs hw ha
      go_simp
    · refine er_q ?vn13 ?hn13 ?kn13 ?gn13 ?_
      case hn13 => exact rfl
      case vn13 => exact (fun R => .pointer (some ⟨g0, 1, none⟩))
      case kn13 => exact (fun R => rfl)
      case gn13 => (refine gd_some rfl ?_; intro R; kernel_rfl)
      intro R s w' hT hs hw ha
      go_simp
    · refine er_q ?vn14 ?hn14 ?kn14 ?gn14 ?_
      case hn14 => exact rfl
      case vn14 => exact (fun R => .agg L)
      case kn14 => exact (fun R => rfl)
      case gn14 => (refine gd_some rfl ?_; intro R; kernel_rfl)
      intro R s w' hT hs hw ha
      have L := run_load_part (P2.sameE hw (fun h => h) (by simp)) _ _ uRat rfl 1 10 iRat (by rw [sX]; decide) _ (fl)
      generalize hA : putE _ _ _ _ _ _ _ = AA
      refine q_load rfl ?_ L
      subst hA
      kernel_rfl
    · refine er_q ?vn15 ?hn15 ?kn15 ?gn15 ?_
      case hn15 => exact rfl
      case vn15 => exact (fun R => .agg S)
      case kn15 => exact (fun R => rfl)
      case gn15 => (refine gd_some rfl ?_; intro R; kernel_rfl)
      intro R s w' hT hs hw ha
      have L := ld_all (P3.sameE hw (fun h => h) (by simp)) uRat rfl iRat sS
      generalize hA : putE _ _ _ _ _ _ _ = AA
      refine q_load rfl ?_ L
      subst hA
      kernel_rfl
    · refine er_q ?vn16 ?hn16 ?kn16 ?gn16 ?_
      case hn16 => exact rfl
      case vn16 => exact (fun R => .int .i64 r1)
      case kn16 => exact (fun R => rfl)
      case gn16 => (refine gd_some rfl ?_; intro R; kernel_rfl)
      intro R s w' hT hs hw ha
      go_simp
      exact K1.out w'
    · refine er_q ?vn17 ?hn17 ?kn17 ?gn17 ?_
      case hn17 => exact rfl
      case vn17 => exact (fun R => .bool false)
      case kn17 => exact (fun R => rfl)
      case gn17 => (refine gd_some rfl ?_; intro R; kernel_rfl)
      intro R s w' hT hs hw ha
      go_simp
    · refine er_q ?vn18 ?hn18 ?kn18 ?gn18 ?_
      case hn18 => exact rfl
      case vn18 => exact (fun R => .bool false)
      case kn18 => exact (fun R => rfl)
      case gn18 => (refine gd_some rfl ?_; intro R; kernel_rfl)
      intro R s w' hT hs hw ha
      go_simp
    · refine er_sk ?hn19 ?gn19
      case hn19 => exact rfl
      case gn19 => (refine gd_some rfl ?_; intro R; kernel_rfl)
    · refine er_sk ?hn20 ?gn20
      case hn20 => exact rfl
      case gn20 => (refine gd_some rfl ?_; intro R; kernel_rfl)
    · refine er_sk ?hn21 ?gn21
      case hn21 => exact rfl
      case gn21 => (refine gd_some rfl ?_; intro R; kernel_rfl)
    · refine er_sk ?hn22 ?gn22
      case hn22 => exact rfl
      case gn22 => (refine gd_some rfl ?_; intro R; kernel_rfl)
    · refine er_sk ?hn23 ?gn23
      case hn23 => exact rfl
      case gn23 => (refine gd_some rfl ?_; intro R; kernel_rfl)
    · refine er_q ?vn24 ?hn24 ?kn24 ?gn24 ?_
      case hn24 => exact rfl
      case vn24 => exact (fun R => .bool false)
      case kn24 => exact (fun R => rfl)
      case gn24 => (refine gd_some rfl ?_; intro R; kernel_rfl)
      intro R s w' hT hs hw ha
      go_simp
    · refine er_q ?vn25 ?hn25 ?kn25 ?gn25 ?_
      case hn25 => exact rfl
      case vn25 => exact (fun R => .bool false)
      case kn25 => exact (fun R => rfl)
      case gn25 => exact gd_none rfl
      intro R s w' hT hs hw ha
      go_simp
    · refine er_q ?vn26 ?hn26 ?kn26 ?gn26 ?_
      case hn26 => exact rfl
      case vn26 => exact (fun R => .bool false)
      case kn26 => exact (fun R => rfl)
      case gn26 => exact gd_none rfl
      intro R s w' hT hs hw ha
      go_simp
  case end26 =>
   intro sI R G w27 hI
   have hS := hI.same
   have hTT := hI.holds
   have hz0 := EE.out.size
   have P2 := P2.sameE hS (fun h => h) (by simp)
   have P3 := P3.sameE hS (fun h => h) (by simp)
   have EE := hide (show Ext _ _ from hTT)
   clear hS hz0 hTT hI
   generalize hF : putE _ _ _ _ _ _ _ = FF
   have hF2 : FF = { tmps := #[.agg X, .agg S, .pointer (some ⟨g0, 0, none⟩), .pointer (some ⟨g0 + 1, 0, none⟩), .bool false, .agg X, .bool true, .bool false, .bool false, .agg S, .bool true, .bool false, .bool false, .pointer (some ⟨g0, 0, none⟩), .bool false, .bool false, .pointer (some ⟨g0, 1, none⟩), .agg L, .agg S, .int .i64 r1, .bool false, .bool false, undef, undef, undef, undef, undef, .bool false, .bool false], defers := [] } := by subst hF; kernel_rfl
   clear hF
   subst hF2
   go_wp2_with fail
   go_ret
   exact ⟨rfl, EE.out⟩
set_option maxHeartbeats 3200000 in
set_option maxRecDepth 100000 in
theorem pc_con5 (L H S : Array Value) (hL : L.size = 10) (hH : H.size = 10) (sS : S.size = 10) (oL : L.all (·.oneCell') = true) (oH : H.all (·.oneCell') = true) (oS : S.all (·.oneCell') = true) (W : World)
   (kv : Hid (∀ w, Calls Try.prog 35 #[.agg (coneC false L H)] w (Ret (.bool true) w))) (ks : Hid (∀ w, Calls Try.prog 50 #[.agg S] w (Ret (.bool true) w))) (r1 r2 : Int) (K1 : Hid (∀ w, Calls Try.prog 51 #[.agg L, .agg S] w (Ret (.int .i64 r1) w))) (K2 : Hid (∀ w, Calls Try.prog 51 #[.agg S, .agg H] w (Ret (.int .i64 r2) w))) (h1 : decide (r1 ≤ 0) = true) :
   Calls Try.prog 24 #[.agg (coneC false L H), .agg S] W (Ret (.bool (decide (r2 ≤ 0))) W) := by
 have sX := coneC_size false hL hH
 have oX := cone_one false oL oH
 have fo : (coneC false L H)[0]? = some (.bool false) := by rw [coneC, Array.append_assoc, Array.getElem?_append_left (by simp)]; rfl
 have fl := coneC_lo false hL hH
 have fh := coneC_hi false hL hH
 obtain ⟨X, hX⟩ : ∃ X, coneC false L H = X := ⟨_, rfl⟩
 rw [hX] at kv sX oX fo fl fh ⊢
 clear hX
 have P2 := (Blk.new W 42 X).alloc (.cells S 40)
 have P3 := Blk.new (W.alloc (.cells X 42)) 40 S
 rw [alloc_size] at P3
 have EE := hide ((ext_alloc W (.cells X 42)).trans (ext_alloc _ (.cells S 40)))
 obtain ⟨W1, hW1⟩ : ∃ W1, ((W.alloc (.cells X 42)).alloc (.cells S 40)) = W1 := ⟨_, rfl⟩
 obtain ⟨g0, hg⟩ : ∃ g, W.heap.size = g := ⟨_, rfl⟩
 rw [hW1] at P2 P3 EE
 rw [hg] at P2 P3
 have P2_lo : W.heap.size ≤ g0 := by omega
 have P3_lo : W.heap.size ≤ g0 + 1 := by omega
 have HW := hide hW1
 have Hg := hide hg
 clear hW1 hg
 go_enter Try.func24, Try.ntmps24
 go_upto_region 1 with fail
 rw [HW.out, Hg.out]
 clear HW Hg
 have P2_lt := P2.lt
 have P3_lt := P3.lt
 refine wp_evs [.q, .q, .q, .q, .q, .q, .q, .q] [0, 0, 0, 0, 0, 0, 0, 0] (fun R => [.agg X, .bool true, .bool false, .bool false, .agg S, .bool true, .bool false, .bool false]) (fun _ => (.cells #[] 0 (0, 0))) (fun R _ => (.cells #[] 0 (0, 0))) (fun _ => 0) (XE W) (fun _ => False) (by kernel_rfl) (by kernel_rfl) (by kernel_rfl) rfl (fun _ => rfl) (fun _ h => h.elim) (fun _ _ h => h) (by simp) (by simp) (fun R R' => ⟨fun _ => rfl, fun _ => rfl, fun _ => rfl, fun _ => rfl, fun _ => rfl, fun _ => rfl, fun _ => rfl, fun _ => rfl, trivial⟩) (fun _ _ _ _ => rfl) xe_below EE.out ?ops8 ?end8
 case ops8 =>
   refine ⟨?_, ?_, ?_, ?_, ?_, ?_, ?_, ?_, trivial⟩
   · refine er_q ?vn1 ?hn1 ?kn1 ?gn1 ?_
     case hn1 => exact rfl
     case vn1 => exact (fun R => .agg X)
     case kn1 => exact (fun R => rfl)
     case gn1 => exact gd_none rfl
     intro R s w' hT hs hw ha
     have L := ld_all (P2.sameE hw (fun h => h) (by simp)) uCone rfl iCone sX
     generalize hA : putE _ _ _ _ _ _ _ = AA
     refine q_load rfl ?_ L
     subst hA
     kernel_rfl
   · refine er_q ?vn2 ?hn2 ?kn2 ?gn2 ?_
     case hn2 => exact rfl
     case vn2 => exact (fun R => .bool true)
     case kn2 => exact (fun R => rfl)
     case gn2 => exact gd_none rfl
     intro R s w' hT hs hw ha
     go_simp
     exact kv.out w'
   · refine er_q ?vn3 ?hn3 ?kn3 ?gn3 ?_
     case hn3 => exact rfl
     case vn3 => exact (fun R => .bool false)
     case kn3 => exact (fun R => rfl)
     case gn3 => exact gd_none rfl
     intro R s w' hT hs hw ha
     go_simp
   · refine er_q ?vn4 ?hn4 ?kn4 ?gn4 ?_
     case hn4 => exact rfl
     case vn4 => exact (fun R => .bool false)
     case kn4 => exact (fun R => rfl)
     case gn4 => exact gd_none rfl
     intro R s w' hT hs hw ha
     go_simp
   · refine er_q ?vn5 ?hn5 ?kn5 ?gn5 ?_
     case hn5 => exact rfl
     case vn5 => exact (fun R => .agg S)
     case kn5 => exact (fun R => rfl)
     case gn5 => (refine gd_some rfl ?_; intro R; kernel_rfl)
     intro R s w' hT hs hw ha
     have L := ld_all (P3.sameE hw (fun h => h) (by simp)) uRat rfl iRat sS
     generalize hA : putE _ _ _ _ _ _ _ = AA
     refine q_load rfl ?_ L
     subst hA
     kernel_rfl
   · refine er_q ?vn6 ?hn6 ?kn6 ?gn6 ?_
     case hn6 => exact rfl
     case vn6 => exact (fun R => .bool true)
     case kn6 => exact (fun R => rfl)
     case gn6 => (refine gd_some rfl ?_; intro R; kernel_rfl)
     intro R s w' hT hs hw ha
     go_simp
     exact ks.out w'
   · refine er_q ?vn7 ?hn7 ?kn7 ?gn7 ?_
     case hn7 => exact rfl
     case vn7 => exact (fun R => .bool false)
     case kn7 => exact (fun R => rfl)
     case gn7 => (refine gd_some rfl ?_; intro R; kernel_rfl)
     intro R s w' hT hs hw ha
     go_simp
   · refine er_q ?vn8 ?hn8 ?kn8 ?gn8 ?_
     case hn8 => exact rfl
     case vn8 => exact (fun R => .bool false)
     case kn8 => exact (fun R => rfl)
     case gn8 => exact gd_none rfl
     intro R s w' hT hs hw ha
     go_simp
 case end8 =>
  intro sI R G w9 hI
  have hS := hI.same
  have hTT := hI.holds
  have hz0 := EE.out.size
  have P2 := P2.sameE hS (fun h => h) (by simp)
  have P3 := P3.sameE hS (fun h => h) (by simp)
  have EE := hide (show Ext _ _ from hTT)
  clear hS hz0 hTT hI
  generalize hF : putE _ _ _ _ _ _ _ = FF
  have hF2 : FF = { tmps := #[.agg X, .agg S, .pointer (some ⟨g0, 0, none⟩), .pointer (some ⟨g0 + 1, 0, none⟩), .bool false, .agg X, .bool true, .bool false, .bool false, .agg S, .bool true, .bool false, .bool false, undef, undef, undef, undef, undef, undef, undef, undef, undef, undef, undef, undef, undef, undef, undef, undef], defers := [] } := by subst hF; kernel_rfl
  clear hF
  subst hF2
  go_upto_region 3 with fail
  have P2_lt := P2.lt
  have P3_lt := P3.lt
  refine wp_evs [.q, .q, .q, .q, .q, .q, .q, .q, .q, .q, .q, .q, .q, .q, .q, .q, .q] [0, 0, 0, 0, 0, 0, 0, 0, 0, 0, 0, 0, 0, 0, 0, 0, 0] (fun R => [.pointer (some ⟨g0, 0, none⟩), .bool false, .bool false, .pointer (some ⟨g0, 1, none⟩), .agg L, .agg S, .int .i64 r1, .bool true, .bool true, .agg S, .pointer (some ⟨g0, 11, none⟩), .agg H, .int .i64 r2, .bool (decide (r2 ≤ 0)), .bool (decide (r2 ≤ 0)), .bool (decide (r2 ≤ 0)), .bool (decide (r2 ≤ 0))]) (fun _ => (.cells #[] 0 (0, 0))) (fun R _ => (.cells #[] 0 (0, 0))) (fun _ => 0) (XE W) (fun _ => False) (by kernel_rfl) (by kernel_rfl) (by kernel_rfl) rfl (fun _ => rfl) (fun _ h => h.elim) (fun _ _ h => h) (by simp) (by simp) (fun R R' => ⟨fun _ => rfl, fun _ => rfl, fun _ => rfl, fun _ => rfl, fun _ => rfl, fun _ => rfl, fun _ => rfl, fun _ => rfl, fun _ => rfl, fun _ => rfl, fun _ => rfl, fun _ => rfl, fun _ => rfl, fun _ => rfl, fun _ => rfl, fun _ => rfl, fun _ => rfl, trivial⟩) (fun _ _ _ _ => rfl) xe_below EE.out ?ops26 ?end26
  case ops26 =>
    refine ⟨?_, ?_, ?_, ?_, ?_, ?_, ?_, ?_, ?_, ?_, ?_, ?_, ?_, ?_, ?_, ?_, ?_, trivial⟩
    · refine er_q ?vn10 ?hn10 ?kn10 ?gn10 ?_
      case hn10 => exact rfl
      case vn10 => exact (fun R => .pointer (some ⟨g0, 0, none⟩))
      case kn10 => exact (fun R => rfl)
      case gn10 => exact gd_none rfl
      intro R s w' hT hs hw ha
      go_simp
    · refine er_q ?vn11 ?hn11 ?kn11 ?gn11 ?_
      case hn11 => exact rfl
      case vn11 => exact (fun R => .bool false)
      case kn11 => exact (fun R => rfl)
      case gn11 => exact gd_none rfl
      intro R s w' hT hs hw ha
      have cc := ((P2.sameE hw (fun h => h) (by simp) : Blk w' g0 _ X).cell 0).trans (fo)
      go_simp
    · refine er_q ?vn12 ?hn12 ?kn12 ?gn12 ?_
      case hn12 => exact rfl
      case vn12 => exact (fun R => .bool false)
      case kn12 => exact (fun R => rfl)
      case gn12 => exact gd_none rfl
      intro R s w' hT hs hw ha
      go_simp
    · refine er_q ?vn13 ?hn13 ?kn13 ?gn13 ?_
      case hn13 => exact rfl
      case vn13 => exact (fun R => .pointer (some ⟨g0, 1, none⟩))
      case kn13 => exact (fun R => rfl)
      case gn13 => (refine gd_some rfl ?_; intro R; kernel_rfl)
      intro R s w' hT hs hw ha
      go_simp
    · refine er_q ?vn14 ?hn14 ?kn14 ?gn14 ?_
      case hn14 => exact rfl
      case vn14 => exact (fun R => .agg L)
      case kn14 => exact (fun R => rfl)
      case gn14 => (refine gd_some rfl ?_; intro R; kernel_rfl)
      intro R s w' hT hs hw ha
      have L := run_load_part (P2.sameE hw (fun h => h) (by simp)) _ _ uRat rfl 1 10 iRat (by rw [sX]; decide) _ (fl)
      generalize hA : putE _ _ _ _ _ _ _ = AA
      refine q_load rfl ?_ L
      subst hA
      kernel_rfl
    · refine er_q ?vn15 ?hn15 ?kn15 ?gn15 ?_
      case hn15 => exact rfl
      case vn15 => exact (fun R => .agg S)
      case kn15 => exact (fun R => rfl)
      case gn15 => (refine gd_some rfl ?_; intro R; kernel_rfl)
      intro R s w' hT hs hw ha
      have L := ld_all (P3.sameE hw (fun h => h) (by simp)) uRat rfl iRat sS
      generalize hA : putE _ _ _ _ _ _ _ = AA
      refine q_load rfl ?_ L
      subst hA
      kernel_rfl
    · refine er_q ?vn16 ?hn16 ?kn16 ?gn16 ?_
      case hn16 => exact rfl
      case vn16 => exact (fun R => .int .i64 r1)
      case kn16 => exact (fun R => rfl)
      case gn16 => (refine gd_some rfl ?_; intro R; kernel_rfl)
      intro R s w' hT hs hw ha
      go_simp
      exact K1.out w'
    · refine er_q ?vn17 ?hn17 ?kn17 ?gn17 ?_
      case hn17 => exact rfl
      case vn17 => exact (fun R => .bool true)
      case kn17 => exact (fun R => rfl)
      case gn17 => (refine gd_some rfl ?_; intro R; kernel_rfl)
      intro R s w' hT hs hw ha
      go_simp
    · refine er_q ?vn18 ?hn18 ?kn18 ?gn18 ?_
      case hn18 => exact rfl
      case vn18 => exact (fun R => .bool true)
      case kn18 => exact (fun R => rfl)
      case gn18 => (refine gd_some rfl ?_; intro R; kernel_rfl)
      intro R s w' hT hs hw ha
      go_simp
    · refine er_q ?vn19 ?hn19 ?kn19 ?gn19 ?_
      case hn19 => exact rfl
      case vn19 => exact (fun R => .agg S)
      case kn19 => exact (fun R => rfl)
      case gn19 => (refine gd_some rfl ?_; intro R; kernel_rfl)
      intro R s w' hT hs hw ha
      have L := ld_all (P3.sameE hw (fun h => h) (by simp)) uRat rfl iRat sS
      generalize hA : putE _ _ _ _ _ _ _ = AA
      refine q_load rfl ?_ L
      subst hA
      kernel_rfl
    · refine er_q ?vn20 ?hn20 ?kn20 ?gn20 ?_
      case hn20 => exact rfl
      case vn20 => exact (fun R => .pointer (some ⟨g0, 11, none⟩))
      case kn20 => exact (fun R => rfl)
      case gn20 => (refine gd_some rfl ?_; intro R; kernel_rfl)
      intro R s w' hT hs hw ha
      go_simp
    · refine er_q ?vn21 ?hn21 ?kn21 ?gn21 ?_
      case hn21 => exact rfl
      case vn21 => exact (fun R => .agg H)
      case kn21 => exact (fun R => rfl)
      case gn21 => (refine gd_some rfl ?_; intro R; kernel_rfl)
      intro R s w' hT hs hw ha
      have L := run_load_part (P2.sameE hw (fun h => h) (by simp)) _ _ uRat rfl 11 10 iRat (by rw [sX]; decide) _ (fh)
      generalize hA : putE _ _ _ _ _ _ _ = AA
      refine q_load rfl ?_ L
      subst hA
      kernel_rfl
    · refine er_q ?vn22 ?hn22 ?kn22 ?gn22 ?_
      case hn22 => exact rfl
      case vn22 => exact (fun R => .int .i64 r2)
      case kn22 => exact (fun R => rfl)
      case gn22 => (refine gd_some rfl ?_; intro R; kernel_rfl)
      intro R s w' hT hs hw ha
      go_simp
      exact K2.out w'
    · refine er_q ?vn23 ?hn23 ?kn23 ?gn23 ?_
      case hn23 => exact rfl
      case vn23 => exact (fun R => .bool (decide (r2 ≤ 0)))
      case kn23 => exact (fun R => rfl)
      case gn23 => (refine gd_some rfl ?_; intro R; kernel_rfl)
      intro R s w' hT hs hw ha
      go_simp
    · refine er_q ?vn24 ?hn24 ?kn24 ?gn24 ?_
      case hn24 => exact rfl
      case vn24 => exact (fun R => .bool (decide (r2 ≤ 0)))
      case kn24 => exact (fun R => rfl)
      case gn24 => (refine gd_some rfl ?_; intro R; kernel_rfl)
      intro R s w' hT hs hw ha
      go_simp
    · refine er_q ?vn25 ?hn25 ?kn25 ?gn25 ?_
      case hn25 => exact rfl
      case vn25 => exact (fun R => .bool (decide (r2 ≤ 0)))
      case kn25 => exact (fun R => rfl)
      case gn25 => exact gd_none rfl
      intro R s w' hT hs hw ha
      go_simp
    · refine er_q ?vn26 ?hn26 ?kn26 ?gn26 ?_
      case hn26 => exact rfl
      case vn26 => exact (fun R => .bool (decide (r2 ≤ 0)))
      case kn26 => exact (fun R => rfl)
      case gn26 => exact gd_none rfl
      intro R s w' hT hs hw ha
      go_simp
  case end26 =>
   intro sI R G w27 hI
   have hS := hI.same
   have hTT := hI.holds
   have hz0 := EE.out.size
   have P2 := P2.sameE hS (fun h => h) (by simp)
   have P3 := P3.sameE hS (fun h => h) (by simp)
   have EE := hide (show Ext _ _ from hTT)
   clear hS hz0 hTT hI
   generalize hF : putE _ _ _ _ _ _ _ = FF
   have hF2 : FF = { tmps := #[.agg X, .agg S, .pointer (some ⟨g0, 0, none⟩), .pointer (some ⟨g0 + 1, 0, none⟩), .bool (decide (r2 ≤ 0)), .agg X, .bool true, .bool false, .bool false, .agg S, .bool true, .bool false, .bool false, .pointer (some ⟨g0, 0, none⟩), .bool false, .bool false, .pointer (some ⟨g0, 1, none⟩), .agg L, .agg S, .int .i64 r1, .bool true, .bool true, .agg S, .pointer (some ⟨g0, 11, none⟩), .agg H, .int .i64 r2, .bool (decide (r2 ≤ 0)), .bool (decide (r2 ≤ 0)), .bool (decide (r2 ≤ 0))], defers := [] } := by subst hF; kernel_rfl
   clear hF
   subst hF2
   go_wp2_with fail
   go_ret
   exact ⟨rfl, EE.out⟩
end
section
open Go Go.RowKit Go.Sort
theorem g_cmpC {r s : Fr} (hr : okF r) (hs : okF s) {k : Int} (hk : cmpI (r.1 * s.2) (s.1 * r.2) = k) (w : World) : Calls Try.prog 51 #[.agg (frC r), .agg (frC s)] w (Ret (.int .i64 k) w) := g_cmp hr hs hk w
theorem p_val : PVal 35 := fun c hc w => by
 cases c with
 | op => exact pc_valid true zR zR rfl rfl w true false false 0 (fun _ w => eq_cone true RC.zero RC.zero w) (fun h => by cases h) (fun h => by cases h) (fun h => by cases h) true rfl
 | cl a b =>
   obtain ⟨r, hr⟩ : ∃ r, cmpI (a.1 * b.2) (b.1 * a.2) = r := ⟨_, rfl⟩
   exact pc_valid false (frC a) (frC b) rfl rfl w true true true r (fun h => by cases h) (fun _ w => g_valid hc.1 w) (fun _ w => g_valid hc.2.1 w) (fun _ _ _ w => g_cmpC hc.1 hc.2.1 hr w) true (by rw [cmpF_le hr, decide_eq_true hc.2.2]; rfl)
theorem p_con5 {L H S : Array Value} (hL : RC L) (hH : RC H) (hS : RC S) (W : World) (vs : Bool) (r1 r2 : Int) (o : Bool)
   (KV : ∀ w, Calls Try.prog 35 #[.agg (coneC o L H)] w (Ret (.bool true) w)) (KS : ∀ w, Calls Try.prog 50 #[.agg S] w (Ret (.bool vs) w))
   (K1 : vs = true → o = false → ∀ w, Calls Try.prog 51 #[.agg L, .agg S] w (Ret (.int .i64 r1) w)) (K2 : vs = true → o = false → ∀ w, Calls Try.prog 51 #[.agg S, .agg H] w (Ret (.int .i64 r2) w)) (v : Bool) (hv : (vs && (o || (decide (r1 ≤ 0) && decide (r2 ≤ 0)))) = v) :
   Calls Try.prog 24 #[.agg (coneC o L H), .agg S] W (Ret (.bool v) W) := by
 cases vs with
 | false => subst hv; exact pc_con2 o L H S hL.size hH.size hS.size hL.one hH.one hS.one W (hide KV) (hide KS)
 | true =>
   cases o with
   | true => subst hv; exact pc_con3 L H S hL.size hH.size hS.size hL.one hH.one hS.one W (hide KV) (hide KS)
   | false =>
     by_cases h1 : r1 ≤ 0
     · rw [decide_eq_true h1] at hv
       subst hv
       exact pc_con5 L H S hL.size hH.size hS.size hL.one hH.one hS.one W (hide KV) (hide KS) r1 r2 (hide (K1 rfl rfl)) (hide (K2 rfl rfl)) (decide_eq_true h1)
     · rw [decide_eq_false h1] at hv
       subst hv
       exact pc_con4 L H S hL.size hH.size hS.size hL.one hH.one hS.one W (hide KV) (hide KS) r1 (hide (K1 rfl rfl)) (decide_eq_false h1)
theorem p_con : PCon 24 := fun c s hc hs w => by
 have kv := fun w => p_val c hc w
 cases c with
 | op => exact p_con5 (L := zR) (H := zR) (S := frC s) RC.zero RC.zero (frC_rc _) w true 0 0 true kv (fun w => g_valid hs w) (fun _ h => by cases h) (fun _ h => by cases h) _ (by simp [inC]; exact decide_eq_true trivial)
 | cl a b =>
   obtain ⟨r1, h1⟩ : ∃ r, cmpI (a.1 * s.2) (s.1 * a.2) = r := ⟨_, rfl⟩
   obtain ⟨r2, h2⟩ : ∃ r, cmpI (s.1 * b.2) (b.1 * s.2) = r := ⟨_, rfl⟩
   exact p_con5 (L := frC a) (H := frC b) (S := frC s) (frC_rc _) (frC_rc _) (frC_rc _) w true r1 r2 false kv (fun w => g_valid hs w) (fun _ _ w => g_cmpC hc.1 hs h1 w) (fun _ _ w => g_cmpC hs hc.2.1 h2 w) _ (by
     rw [cmpF_le h1, cmpF_le h2]
     unfold inC
     by_cases p : leF a s <;> by_cases q : leF s b <;> simp [p, q])
theorem p_cho : PCho 18 := fun c hc => by
 cases c with
 | op => exact ⟨(0, 1), rfl, fun w => pc_choose true zR zR (frC (0, 1)) zR rfl rfl rfl (frC_rc _).one rfl zR_one w true false (fun w => p_val .op trivial w) (fun _ _ w => g_of (by omega) (by omega) w) (fun _ h => by cases h)⟩
 | cl a b =>
   obtain ⟨n, m, B⟩ := best_some hc.1.1 hc.2.1.1 hc.2.2
   exact ⟨(n, m), B, fun w => pc_choose false (frC a) (frC b) zR (frC (n, m)) rfl rfl rfl zR_one rfl (frC_rc _).one w true true (fun w => p_val (.cl a b) hc w) (fun _ h => by cases h) (fun _ _ w => s_between hc.1 hc.2.1 hc.2.2 B w)⟩
theorem p_mee : PMee 28 := fun a b ha hb w => by
 have ka := fun w => p_val a ha w
 have kb := fun w => p_val b hb w
 cases a with
 | op =>
   cases b with
   | op => exact pc_meet true true zR zR zR zR rfl rfl rfl rfl zR_one zR_one zR_one zR_one w true true 0 0 0 ka (fun _ => kb) (fun _ _ h => by cases h) (fun _ _ h => by cases h) (fun _ _ h => by cases h)
   | cl lb hb' => exact pc_meet true false zR zR (frC lb) (frC hb') rfl rfl rfl rfl zR_one zR_one (frC_rc _).one (frC_rc _).one w true true 0 0 0 ka (fun _ => kb) (fun _ _ h => by cases h) (fun _ _ h => by cases h) (fun _ _ h => by cases h)
 | cl la ha' =>
   cases b with
   | op => exact pc_meet false true (frC la) (frC ha') zR zR rfl rfl rfl rfl (frC_rc _).one (frC_rc _).one zR_one zR_one w true true 0 0 0 ka (fun _ => kb) (fun _ _ _ h => by cases h) (fun _ _ _ h => by cases h) (fun _ _ _ h => by cases h)
   | cl lb hb' =>
     obtain ⟨c1, h1⟩ : ∃ r, cmpI (la.1 * lb.2) (lb.1 * la.2) = r := ⟨_, rfl⟩
     obtain ⟨c2, h2⟩ : ∃ r, cmpI (ha'.1 * hb'.2) (hb'.1 * ha'.2) = r := ⟨_, rfl⟩
     have e1 : (if c1 < 0 then frC lb else frC la) = frC (maxF la lb) := by
       unfold maxF
       by_cases p : leF lb la
       · rw [if_pos p, if_neg (fun q => (cmpF_lt h1).2.1 q p)]
       · rw [if_neg p, if_pos ((cmpF_lt h1).2.2 p)]
     have e2 : (if 0 < c2 then frC hb' else frC ha') = frC (minF ha' hb') := by
       unfold minF
       by_cases p : leF ha' hb'
       · rw [if_pos p, if_neg (fun q => (cmpF_lt h2).1.1 q p)]
       · rw [if_neg p, if_pos ((cmpF_lt h2).1.2 p)]
     obtain ⟨c3, h3⟩ : ∃ r, cmpI ((maxF la lb).1 * (minF ha' hb').2) ((minF ha' hb').1 * (maxF la lb).2) = r := ⟨_, rfl⟩
     have hm := maxF_ok ha.1 hb.1
     have hn := minF_ok ha.2.1 hb.2.1
     have := pc_meet false false (frC la) (frC ha') (frC lb) (frC hb') rfl rfl rfl rfl (frC_rc _).one (frC_rc _).one (frC_rc _).one (frC_rc _).one w true true c1 c2 c3 ka (fun _ => kb) (fun _ _ _ _ w => g_cmpC ha.1 hb.1 h1 w) (fun _ _ _ _ w => g_cmpC ha.2.1 hb.2.1 h2 w) (fun _ _ _ _ w => by rw [e1, e2]; exact g_cmpC hm hn h3 w)
     have em : metP true true false false (frC la) (frC ha') (frC lb) (frC hb') c1 c2 c3 = (moC (meetC (.cl la ha') (.cl lb hb')), (meetC (.cl la ha') (.cl lb hb')).isSome) := by
       unfold metP
       rw [e1, e2]
       simp only [meetC]
       by_cases p : leF (maxF la lb) (minF ha' hb')
       · rw [if_pos p]
         have : ¬ 0 < c3 := fun q => (cmpF_lt h3).1.1 q p
         simp [this, moC, cnC]
       · rw [if_neg p]
         have : 0 < c3 := (cmpF_lt h3).1.2 p
         simp [this, moC]
     rw [em] at this
     exact this
theorem p_ratB {S : Array Value} (h : BadR S) (w : World) : Calls Try.prog 50 #[.agg S] w (Ret (.bool false) w) := by
 obtain ⟨s, a, b, c, d, t, e, f, g, i, n, m, rfl, hx, hy, hr⟩ := h
 exact r_valid s t a b c d e f g i n m w hx hy false (decide_eq_false hr)
theorem p_ratO {S : Array Value} (h : OkR S) (w : World) : Calls Try.prog 50 #[.agg S] w (Ret (.bool true) w) := by
 obtain ⟨f, hf, rfl⟩ := h
 exact g_valid hf w
theorem p_valB {X : Array Value} (h : BadC X) (w : World) : Calls Try.prog 35 #[.agg X] w (Ret (.bool false) w) := by
 obtain ⟨o, L, H, rfl, hL, hH, hb⟩ := h
 have sL := hL.rc.size
 have sH := hH.rc.size
 rcases hb with ⟨rfl, hb⟩ | ⟨rfl, hb⟩
 · exact pc_valid true L H sL sH w false false false 0 (fun _ w => eq_cone_open hL.rc hH.rc false (by simp [hb]) w) (fun h => by cases h) (fun h => by cases h) (fun h => by cases h) false rfl
 · rcases hb with hb | ⟨ho, hb⟩ | ⟨f, g, hf, hg, rfl, rfl, hl⟩
   · rcases hH with hH' | hH'
     · exact pc_valid false L H sL sH w false false true 0 (fun h => by cases h) (fun _ w => p_ratB hb w) (fun _ w => p_ratO hH' w) (fun _ h => by cases h) false rfl
     · exact pc_valid false L H sL sH w false false false 0 (fun h => by cases h) (fun _ w => p_ratB hb w) (fun _ w => p_ratB hH' w) (fun _ h => by cases h) false rfl
   · exact pc_valid false L H sL sH w false true false 0 (fun h => by cases h) (fun _ w => p_ratO ho w) (fun _ w => p_ratB hb w) (fun _ _ h => by cases h) false rfl
   · obtain ⟨r, hr⟩ : ∃ r, cmpI (f.1 * g.2) (g.1 * f.2) = r := ⟨_, rfl⟩
     exact pc_valid false (frC f) (frC g) rfl rfl w false true true r (fun h => by cases h) (fun _ w => g_valid hf w) (fun _ w => g_valid hg w) (fun _ _ _ w => g_cmpC hf hg hr w) false (by rw [cmpF_le hr, decide_eq_false hl]; rfl)
theorem p_valR : RVal 35 := fun _ h w => p_valB h w
theorem p_conR : RCon 24 := by
 refine ⟨fun X S hX hS w => ?_, fun c S hc hS w => ?_⟩
 · have kv := fun w => p_valB hX w
   obtain ⟨o, L, H, rfl, hL, hH, hb⟩ := hX
   exact pc_con1 o L H S hL.rc.size hH.rc.size hS.rc.size hL.rc.one hH.rc.one hS.rc.one w (hide kv)
 · have kv := fun w => p_val c hc w
   obtain ⟨o, L, H, e, hL, hH⟩ := cnC_form c
   rw [e] at kv ⊢
   exact pc_con2 o L H S hL.size hH.size hS.raw.rc.size hL.one hH.one hS.raw.rc.one w (hide kv) (hide (fun w => p_ratB hS w))
theorem p_choR : RCho 18 := fun X hX w => by
 have kv := fun w => p_valB hX w
 obtain ⟨o, L, H, rfl, hL, hH, hb⟩ := hX
 exact pc_choose o L H zR zR hL.rc.size hH.rc.size rfl zR_one rfl zR_one w false false kv (fun h => by cases h) (fun h => by cases h)
theorem raw_valP {X : Array Value} (h : RawC X) : ∃ v, (v = true → OkC X) ∧ (BadC X → v = false) ∧ ∀ w, Calls Try.prog 35 #[.agg X] w (Ret (.bool v) w) := by
 by_cases hb : BadC X
 · exact ⟨false, fun h => (by cases h), fun _ => rfl, fun w => p_valB hb w⟩
 · rcases h with ⟨c, hc, rfl⟩ | h
   · exact ⟨true, fun _ => ⟨c, hc, rfl⟩, fun h => absurd h hb, fun w => p_val c hc w⟩
   · exact absurd h hb
theorem p_meeR : RMee 28 := fun X Y hX hY hb w => by
 obtain ⟨va, _, a2, a3⟩ := raw_valP hX
 obtain ⟨vb, _, b2, b3⟩ := raw_valP hY
 obtain ⟨oa, La, Ha, rfl, hLa, hHa⟩ := raw_form hX
 obtain ⟨ob, Lb, Hb, rfl, hLb, hHb⟩ := raw_form hY
 have hv : (va && vb) = false := by
   rcases hb with h | h
   · rw [a2 h]; rfl
   · rw [b2 h, Bool.and_false]
 have hn : va = true → vb = true → False := fun p q => by rw [p, q] at hv; cases hv
 have := pc_meet oa ob La Ha Lb Hb hLa.size hHa.size hLb.size hHb.size hLa.one hHa.one hLb.one hHb.one w va vb 0 0 0 a3 (fun _ => b3) (fun p q => (hn p q).elim) (fun p q => (hn p q).elim) (fun p q => (hn p q).elim)
 unfold metP at this
 rw [hv] at this
 exact this
theorem p_all : PAll 35 24 18 28 := ⟨p_val, p_con, p_cho, p_mee, p_valR, p_conR, p_choR, p_meeR⟩
end
section
open Go Go.RowKit
theorem or_one {v : Int} (h : U64 v) : ∃ m : Nat, bits .or .u64 v 1 = (m : Int) ∧ 1 ≤ m ∧ m < 18446744073709551616 := by
 refine ⟨(BitVec.ofInt 64 v ||| BitVec.ofInt 64 1).toNat, ?_, ?_, (BitVec.ofInt 64 v ||| BitVec.ofInt 64 1).isLt⟩
 · show IntKind.u64.wrap ((BitVec.ofInt 64 v ||| BitVec.ofInt 64 1).toNat : Int) = _
   have := (BitVec.ofInt 64 v ||| BitVec.ofInt 64 1).isLt
   rw [wrap_u64']
   omega
 · have h1 : (BitVec.ofInt 64 v ||| BitVec.ofInt 64 1).getLsbD 0 = true := by
     rw [BitVec.getLsbD_or]
     have : (BitVec.ofInt 64 1).getLsbD 0 = true := by decide
     rw [this, Bool.or_true]
   rcases Nat.eq_zero_or_pos (BitVec.ofInt 64 v ||| BitVec.ofInt 64 1).toNat with h0 | h0
   · rw [BitVec.getLsbD, h0] at h1; simp at h1
   · exact h0
theorem Box10.upd {w w' : World} {k b : Nat} {s : Bool} {a b' c d : Nat} {t : Bool} {e f g h : Nat} (x : Box10 w k s a b' c d t e f g h) (u : Upd b w w') (hn : k ≠ b) : Box10 w' k s a b' c d t e f g h := by
 have := x.lt; unfold Box10; rw [u.2.2.2.2 k this hn]; exact x
theorem TapeOk.five {B b g : Nat} {w : World} (h : TapeOk B w b) (hg : b < g) (u0 u1 u2 u3 u4 : Value) : TapeOk B (((((w.setCell ⟨g, 0, none⟩ u0).setCell ⟨g, 1, none⟩ u1).setCell ⟨g, 2, none⟩ u2).setCell ⟨g, 3, none⟩ u3).setCell ⟨g, 4, none⟩ u4) b := ((((h.store hg u0).store hg u1).store hg u2).store hg u3).store hg u4
theorem Upd.five {b g : Nat} {W w : World} (h : Upd b W w) (hg : W.heap.size ≤ g) (u0 u1 u2 u3 u4 : Value) : Upd b W (((((w.setCell ⟨g, 0, none⟩ u0).setCell ⟨g, 1, none⟩ u1).setCell ⟨g, 2, none⟩ u2).setCell ⟨g, 3, none⟩ u3).setCell ⟨g, 4, none⟩ u4) := ((((h.store hg u0).store hg u1).store hg u2).store hg u3).store hg u4
theorem t_bool8 (B b : Nat) (W w : World) (hT : TapeOk B w b) (hW : Upd b W w) :
   Calls Try.prog 10 #[.pointer (some ⟨b, 0, none⟩), .int .i64 8] w (BoolPost B b W) := by
 have hm : (1 : Int).tmod 8 = 1 := by decide
 have hT' := hT.below (below_drewN' (b + 1) w 1)
 go_enter Try.func10, Try.ntmps10
 go_wp2_with fail
 go_region_with (go_at_call 9; refine (t_next' B b 8 W _ ⟨by omega, by omega⟩ (by first | exact hT | exact (hT.below (below_drewN' (b + 1) w 1))) (by first | exact hW | exact hW.drew)).mono ?_; rintro e w' ⟨u, rfl, hu, hT2, hB2⟩)
 all_goals go_wp2_with fail
 all_goals go_ret
 all_goals exact ⟨_, rfl, hT2, hB2⟩
theorem TapeOk.ten {B b g : Nat} {w : World} (h : TapeOk B w b) (hg : b < g) (u0 u1 u2 u3 u4 u5 u6 u7 u8 u9 : Value) : TapeOk B ((((((((((w.setCell ⟨g, 0, none⟩ u0).setCell ⟨g, 1, none⟩ u1).setCell ⟨g, 2, none⟩ u2).setCell ⟨g, 3, none⟩ u3).setCell ⟨g, 4, none⟩ u4).setCell ⟨g, 5, none⟩ u5).setCell ⟨g, 6, none⟩ u6).setCell ⟨g, 7, none⟩ u7).setCell ⟨g, 8, none⟩ u8).setCell ⟨g, 9, none⟩ u9) b := (((((h.five hg u0 u1 u2 u3 u4).store hg u5).store hg u6).store hg u7).store hg u8).store hg u9
theorem Upd.ten {b g : Nat} {W w : World} (h : Upd b W w) (hg : W.heap.size ≤ g) (u0 u1 u2 u3 u4 u5 u6 u7 u8 u9 : Value) : Upd b W ((((((((((w.setCell ⟨g, 0, none⟩ u0).setCell ⟨g, 1, none⟩ u1).setCell ⟨g, 2, none⟩ u2).setCell ⟨g, 3, none⟩ u3).setCell ⟨g, 4, none⟩ u4).setCell ⟨g, 5, none⟩ u5).setCell ⟨g, 6, none⟩ u6).setCell ⟨g, 7, none⟩ u7).setCell ⟨g, 8, none⟩ u8).setCell ⟨g, 9, none⟩ u9) := (((((h.five hg u0 u1 u2 u3 u4).store hg u5).store hg u6).store hg u7).store hg u8).store hg u9
def TapeRat (B b : Nat) (W : World) (e : Ending) (w' : World) : Prop := ∃ n d : Int, e = .returned (.agg #[.bool (sg n), .int .u64 (l0 n : Int), .int .u64 (l1 n : Int), .int .u64 (l2 n : Int), .int .u64 (l3 n : Int), .bool (sg d), .int .u64 (l0 d : Int), .int .u64 (l1 d : Int), .int .u64 (l2 d : Int), .int .u64 (l3 d : Int)]) ∧ Frac n d ∧ TapeOk B w' b ∧ Upd b W w'
def RatPair2 (B b : Nat) (W : World) (g g1 : Nat) (wx : World) : Prop := ∃ n d : Int, F256 n ∧ 1 ≤ d ∧ d < 18446744073709551616 ∧ Box wx g1 (sg n) (l0 n) (l1 n) (l2 n) (l3 n) ∧ Box wx (g1 + 1) (sg d) (l0 d) (l1 d) (l2 d) (l3 d) ∧ Box10 wx g false 0 0 0 0 false 0 0 0 0 ∧ TapeOk B wx b ∧ Upd b W wx
def RatPair (B b : Nat) (W : World) (g g1 : Nat) (wx : World) : Prop := ∃ n d : Int, n.natAbs < 85070591730234615865843651857942052864 ∧ 1 ≤ d ∧ d < 18446744073709551616 ∧ Box wx g1 (sg n) (l0 n) (l1 n) (l2 n) (l3 n) ∧ Box wx (g1 + 1) (sg d) (l0 d) (l1 d) (l2 d) (l3 d) ∧ Box10 wx g false 0 0 0 0 false 0 0 0 0 ∧ TapeOk B wx b ∧ Upd b W wx
set_option maxRecDepth 100000 in
set_option maxHeartbeats 8000000 in
theorem t_ratio (B b : Nat) (W w : World) (hT : TapeOk B w b) (hW : Upd b W w) : Calls Try.prog 19 #[.pointer (some ⟨b, 0, none⟩)] w (TapeRat B b W) := by
 have hbw := hT.2.1
 have hWw := hW.2.2.2.1
 have P0 : Box10 (w.alloc (.cells #[.bool false, .int .u64 0, .int .u64 0, .int .u64 0, .int .u64 0, .bool false, .int .u64 0, .int .u64 0, .int .u64 0, .int .u64 0] 40)) w.heap.size false 0 0 0 0 false 0 0 0 0 := heap_alloc_new w _
 have E0 := ext_alloc w (.cells #[.bool false, .int .u64 0, .int .u64 0, .int .u64 0, .int .u64 0, .bool false, .int .u64 0, .int .u64 0, .int .u64 0, .int .u64 0] 40)
 obtain ⟨W0, hW0⟩ : ∃ W0, W0 = w.alloc (.cells #[.bool false, .int .u64 0, .int .u64 0, .int .u64 0, .int .u64 0, .bool false, .int .u64 0, .int .u64 0, .int .u64 0, .int .u64 0] 40) := ⟨_, rfl⟩
 rw [← hW0] at P0 E0
 have T0 := hT.ext E0
 have UU := hide (hW.more E0)
 obtain ⟨g, hg⟩ : ∃ g, w.heap.size = g := ⟨_, rfl⟩
 rw [hg] at P0 hbw hWw
 have HG := hide hg
 have HW0 := hide hW0
 clear hg hW0 hT hW E0
 have neP0 : g ≠ b := by omega
 have i200 : I64 200 := ⟨by omega, by omega⟩
 have i60 : I64 60 := ⟨by omega, by omega⟩
 go_enter Try.func19, Try.ntmps19
 go_upto_region 1 with fail
 rw [← HW0.out, HG.out]
 clear HW0 HG
 go_upto_region 2 with (first
   | (go_at_call 9; (with_reducible refine (t_next B b 200 _ i200 T0).mono ?_); rintro e' w1 ⟨u, rfl, huu, T1, hU⟩; have P0 := P0.upd hU neP0; have UU := hide (UU.out.trans hU); obtain ⟨xP00, xP01, xP02, xP03, xP04, xP05, xP06, xP07, xP08, xP09, xP0f0, xP0f1, xP0f2, xP0f3, xP0f4, xP0f5, xP0f6, xP0f7, xP0f8, xP0f9⟩ := ten_cells P0; have u0 := huu.1; have u1 := huu.2.1 (by omega); clear T0 hU huu; obtain ⟨n, hn⟩ : ∃ n, u - 100 = n := ⟨_, rfl⟩; have kn : Hid (∀ w, Calls Try.prog 16 #[.int .i64 (u - 100)] w (Ret (.agg #[.bool (sg n), .int .u64 (l0 n : Int), .int .u64 (l1 n : Int), .int .u64 (l2 n : Int), .int .u64 (l3 n : Int)]) w)) := (fun w => by rw [hn]; exact d_ofi (by omega) (by omega) w); have bn : n.natAbs < 85070591730234615865843651857942052864 := (by omega); clear hn)
   | (go_at_call 16; (with_reducible refine (kn.out _).mono ?_); rintro e' w2 ⟨rfl, hE⟩; have P0 := P0.ext hE; have UU := hide (UU.out.more hE); obtain ⟨xP00, xP01, xP02, xP03, xP04, xP05, xP06, xP07, xP08, xP09, xP0f0, xP0f1, xP0f2, xP0f3, xP0f4, xP0f5, xP0f6, xP0f7, xP0f8, xP0f9⟩ := ten_cells P0; have T2 := T1.ext hE; clear T1 hE kn)
   | (go_at_call 9; (with_reducible refine (t_next B b 60 _ i60 T2).mono ?_); rintro e' w3 ⟨v, rfl, huv, T3, hU⟩; have P0 := P0.upd hU neP0; have UU := hide (UU.out.trans hU); obtain ⟨xP00, xP01, xP02, xP03, xP04, xP05, xP06, xP07, xP08, xP09, xP0f0, xP0f1, xP0f2, xP0f3, xP0f4, xP0f5, xP0f6, xP0f7, xP0f8, xP0f9⟩ := ten_cells P0; have v0 := huv.1; have v1 := huv.2.1 (by omega); clear T2 hU huv; obtain ⟨d, hd⟩ : ∃ d, 1 + v = d := ⟨_, rfl⟩; have kd : Hid (∀ w, Calls Try.prog 16 #[.int .i64 (1 + v)] w (Ret (.agg #[.bool (sg d), .int .u64 (l0 d : Int), .int .u64 (l1 d : Int), .int .u64 (l2 d : Int), .int .u64 (l3 d : Int)]) w)) := (fun w => by rw [hd]; exact d_ofi (by omega) (by omega) w); have bd1 : 1 ≤ d := (by omega); have bd2 : d < 18446744073709551616 := (by omega); clear hd)
   | (go_at_call 16; (with_reducible refine (kd.out _).mono ?_); rintro e' w4 ⟨rfl, hE⟩; have P0 := P0.ext hE; have UU := hide (UU.out.more hE); obtain ⟨xP00, xP01, xP02, xP03, xP04, xP05, xP06, xP07, xP08, xP09, xP0f0, xP0f1, xP0f2, xP0f3, xP0f4, xP0f5, xP0f6, xP0f7, xP0f8, xP0f9⟩ := ten_cells P0; have T4 := T3.ext hE; clear T3 hE kd))
 have H2 := two_blocks w4 (.cells #[.bool (sg n), .int .u64 (l0 n : Int), .int .u64 (l1 n : Int), .int .u64 (l2 n : Int), .int .u64 (l3 n : Int)] 25) (.cells #[.bool (sg d), .int .u64 (l0 d : Int), .int .u64 (l1 d : Int), .int .u64 (l2 d : Int), .int .u64 (l3 d : Int)] 25)
 have hE := (ext_alloc w4 (.cells #[.bool (sg n), .int .u64 (l0 n : Int), .int .u64 (l1 n : Int), .int .u64 (l2 n : Int), .int .u64 (l3 n : Int)] 25)).trans (ext_alloc _ (.cells #[.bool (sg d), .int .u64 (l0 d : Int), .int .u64 (l1 d : Int), .int .u64 (l2 d : Int), .int .u64 (l3 d : Int)] 25))
 have hbw4 := T4.2.1
 have lP0 := P0.lt
 have P0 := P0.ext hE
 have UU := hide (UU.out.more hE)
 have T5 := T4.ext hE
 clear hE T4
 obtain ⟨W4, hW⟩ : ∃ W, W = (w4.alloc (.cells #[.bool (sg n), .int .u64 (l0 n : Int), .int .u64 (l1 n : Int), .int .u64 (l2 n : Int), .int .u64 (l3 n : Int)] 25)).alloc (.cells #[.bool (sg d), .int .u64 (l0 d : Int), .int .u64 (l1 d : Int), .int .u64 (l2 d : Int), .int .u64 (l3 d : Int)] 25) := ⟨_, rfl⟩
 rw [← hW] at H2 UU P0 T5 ⊢
 obtain ⟨g1, hg⟩ : ∃ g, w4.heap.size = g := ⟨_, rfl⟩
 rw [hg] at H2 hbw4 lP0 ⊢
 obtain ⟨P1, P2⟩ : Box W4 g1 (sg n) (l0 n) (l1 n) (l2 n) (l3 n) ∧ Box W4 (g1 + 1) (sg d) (l0 d) (l1 d) (l2 d) (l3 d) := H2
 clear hW hg
 have neP1 : g1 ≠ b := by omega
 have neP2 : g1 + 1 ≠ b := by omega
 have ne01 : g ≠ g1 := by omega
 have ne02 : g ≠ g1 + 1 := by omega
 have hWg1 : W.heap.size ≤ g1 := by omega
 have hbg1 : b < g1 := by omega
 go_upto_if 16 with (go_at_call 10; (with_reducible refine (t_bool B b 4 _ _ (by omega) (by omega) T5 (Upd.refl _ _)).mono ?_); rintro e' w5 ⟨bv, rfl, T6, hU⟩; have P0 := P0.upd hU neP0; have P1 := P1.upd hU neP1; have P2 := P2.upd hU neP2; have UU := hide (UU.out.trans hU); clear T5 hU)
 go_cut [] (fun wx => RatPair B b W g g1 wx)
 case first =>
   cases bv
   · go_wp2_with fail
     all_goals go_meet
     all_goals exact ⟨n, d, bn, bd1, bd2, P1, P2, P0, T6, UU.out⟩
   · go_wp2_with (first
       | (go_at_call 14; (with_reducible refine (t_int B b _ _ T6 (Upd.refl _ _)).mono ?_); rintro e' w6 ⟨n', rfl, hi, T7, hU⟩; have P0 := P0.upd hU neP0; have P1 := P1.upd hU neP1; have P2 := P2.upd hU neP2; have UU := hide (UU.out.trans hU); obtain ⟨xP00, xP01, xP02, xP03, xP04, xP05, xP06, xP07, xP08, xP09, xP0f0, xP0f1, xP0f2, xP0f3, xP0f4, xP0f5, xP0f6, xP0f7, xP0f8, xP0f9⟩ := ten_cells P0; obtain ⟨xP10, xP11, xP12, xP13, xP14, xP1f0, xP1f1, xP1f2, xP1f3, xP1f4⟩ := five_cells P1; obtain ⟨xP20, xP21, xP22, xP23, xP24, xP2f0, xP2f1, xP2f2, xP2f3, xP2f4⟩ := five_cells P2; have n1 := hi.1; have n2 := hi.2; have bn' : n'.natAbs < 85070591730234615865843651857942052864 := (by omega); clear hi hU T6)
       | (go_at_call 16; (with_reducible refine (d_ofi n1 n2 _).mono ?_); rintro e' w7 ⟨rfl, hE⟩; have P0 := P0.ext hE; have P1 := P1.ext hE; have P2 := P2.ext hE; have UU := hide (UU.out.more hE); obtain ⟨xP00, xP01, xP02, xP03, xP04, xP05, xP06, xP07, xP08, xP09, xP0f0, xP0f1, xP0f2, xP0f3, xP0f4, xP0f5, xP0f6, xP0f7, xP0f8, xP0f9⟩ := ten_cells P0; obtain ⟨xP10, xP11, xP12, xP13, xP14, xP1f0, xP1f1, xP1f2, xP1f3, xP1f4⟩ := five_cells P1; obtain ⟨xP20, xP21, xP22, xP23, xP24, xP2f0, xP2f1, xP2f2, xP2f3, xP2f4⟩ := five_cells P2; have T8 := T7.ext hE; clear hE T7)
       | (go_at_call 8; (with_reducible refine (t_word' B b _ _ T8 (Upd.refl _ _)).mono ?_); rintro e' w8 ⟨v', rfl, hv', T9, hU⟩; have P0 := P0.upd hU neP0; have P1 := P1.upd hU neP1; have P2 := P2.upd hU neP2; have UU := hide (UU.out.trans hU); obtain ⟨xP00, xP01, xP02, xP03, xP04, xP05, xP06, xP07, xP08, xP09, xP0f0, xP0f1, xP0f2, xP0f3, xP0f4, xP0f5, xP0f6, xP0f7, xP0f8, xP0f9⟩ := ten_cells P0; obtain ⟨xP10, xP11, xP12, xP13, xP14, xP1f0, xP1f1, xP1f2, xP1f3, xP1f4⟩ := five_cells P1; obtain ⟨xP20, xP21, xP22, xP23, xP24, xP2f0, xP2f1, xP2f2, xP2f3, xP2f4⟩ := five_cells P2; obtain ⟨m, hm, m1, m2⟩ := or_one hv'; clear hU T8 hv')
       | (go_at_call 21; (with_reducible refine (d_ofu m2 _).mono ?_); rintro e' w9 ⟨rfl, hE⟩; have P0 := P0.ext hE; have P1 := P1.ext hE; have P2 := P2.ext hE; have UU := hide (UU.out.more hE); obtain ⟨xP00, xP01, xP02, xP03, xP04, xP05, xP06, xP07, xP08, xP09, xP0f0, xP0f1, xP0f2, xP0f3, xP0f4, xP0f5, xP0f6, xP0f7, xP0f8, xP0f9⟩ := ten_cells P0; obtain ⟨xP10, xP11, xP12, xP13, xP14, xP1f0, xP1f1, xP1f2, xP1f3, xP1f4⟩ := five_cells P1; obtain ⟨xP20, xP21, xP22, xP23, xP24, xP2f0, xP2f1, xP2f2, xP2f3, xP2f4⟩ := five_cells P2; have TA := T9.ext hE; clear hE T9 hm))
     all_goals go_meet
     all_goals exact ⟨n', (m : Int), bn', by omega, by omega, (P1.put).far (by omega) _ _ _ _ _, (P2.far (by omega) _ _ _ _ _).put, (P0.far (by omega) _ _ _ _ _).far (by omega) _ _ _ _ _, (TA.five hbg1 _ _ _ _ _).five (by omega) _ _ _ _ _, (UU.out.five hWg1 _ _ _ _ _).five (by omega) _ _ _ _ _⟩
 case rest =>
   clear P0 P1 P2 UU T6 bn bd1 bd2
   obtain ⟨n, d, bn, bd1, bd2, P1, P2, P0, T6, UU'⟩ := hcut
   have UU := hide UU'
   clear UU'
   go_upto_if 25 with (go_at_call 10; (with_reducible refine (t_bool8 B b _ _ T6 (Upd.refl _ _)).mono ?_); rintro e' w5 ⟨bv, rfl, T7, hU⟩; have P0 := P0.upd hU neP0; have P1 := P1.upd hU neP1; have P2 := P2.upd hU neP2; have UU := hide (UU.out.trans hU); clear T6 hU)
   go_cut [] (fun wx => RatPair2 B b W g g1 wx)
   case first =>
     cases bv
     · go_wp2_with fail
       all_goals go_meet
       all_goals exact ⟨n, d, by unfold F256; omega, bd1, bd2, P1, P2, P0, T7, UU.out⟩
     · obtain ⟨n', hn'⟩ : ∃ z, n * 4611686018427387904 = z := ⟨_, rfl⟩
       have fn' : F256 n' := by unfold F256; omega
       have k1 : Hid (∀ w, Calls Try.prog 16 #[.int .i64 4611686018427387904] w (Ret (.agg #[.bool (sg 4611686018427387904), .int .u64 (l0 4611686018427387904 : Int), .int .u64 (l1 4611686018427387904 : Int), .int .u64 (l2 4611686018427387904 : Int), .int .u64 (l3 4611686018427387904 : Int)]) w)) := fun w => d_ofi (by omega) (by omega) w
       have k2 : Hid (∀ w, Calls Try.prog 20 #[.agg #[.bool (sg n), .int .u64 (l0 n : Int), .int .u64 (l1 n : Int), .int .u64 (l2 n : Int), .int .u64 (l3 n : Int)], .agg #[.bool (sg 4611686018427387904), .int .u64 (l0 4611686018427387904 : Int), .int .u64 (l1 4611686018427387904 : Int), .int .u64 (l2 4611686018427387904 : Int), .int .u64 (l3 4611686018427387904 : Int)]] w (Ret (.tuple #[.agg #[.bool (sg n'), .int .u64 (l0 n' : Int), .int .u64 (l1 n' : Int), .int .u64 (l2 n' : Int), .int .u64 (l3 n' : Int)], .bool true]) w)) := fun w => d_mul (by unfold F256; omega) (by unfold F256; omega) hn' fn' w
       clear hn'
       go_upto_region 5 with fail
       have lP1 := P1.lt
       obtain ⟨xP10, xP11, xP12, xP13, xP14, xP1f0, xP1f1, xP1f2, xP1f3, xP1f4⟩ := five_cells P1
       go_region_with (first
         | (go_at_call 16; (with_reducible refine (k1.out _).mono ?_); rintro e' w6 ⟨rfl, hE⟩; have hE := (ext_drew _).trans hE; have P0 := P0.ext hE; have P1 := P1.ext hE; have P2 := P2.ext hE; have UU := hide (UU.out.more hE); obtain ⟨xP10, xP11, xP12, xP13, xP14, xP1f0, xP1f1, xP1f2, xP1f3, xP1f4⟩ := five_cells P1; have T8 := T7.ext hE; clear hE T7)
         | (go_at_call 20; (with_reducible refine (k2.out _).mono ?_); rintro e' w7 ⟨rfl, hE⟩; have P0 := P0.ext hE; have P1 := P1.ext hE; have P2 := P2.ext hE; have UU := hide (UU.out.more hE); obtain ⟨xP10, xP11, xP12, xP13, xP14, xP1f0, xP1f1, xP1f2, xP1f3, xP1f4⟩ := five_cells P1; have T9 := T8.ext hE; clear hE T8))
       all_goals go_wp2_with fail
       all_goals go_meet
       all_goals exact ⟨n', d, fn', bd1, bd2, P1.put, P2.far (by omega) _ _ _ _ _, P0.far (by omega) _ _ _ _ _, T9.five hbg1 _ _ _ _ _, UU.out.five hWg1 _ _ _ _ _⟩
   case rest =>
     clear P0 P1 P2 UU T7 bn bd1 bd2
     obtain ⟨n, d, fn, bd1, bd2, P1, P2, P0, T7, UU'⟩ := hcut
     have UU := hide UU'
     clear UU'
     obtain ⟨o, ho⟩ : ∃ o, mkB n d = o := ⟨_, rfl⟩
     obtain ⟨N, hN⟩ : ∃ N, (if o then numR n d else 0) = N := ⟨_, rfl⟩
     obtain ⟨D, hD⟩ : ∃ D, (if o then denR n d else 0) = D := ⟨_, rfl⟩
     have hF : Hid (o = true → Frac N D) := by
       rintro rfl
       rw [if_pos rfl] at hN hD
       rw [← hN, ← hD]
       exact mkB_frac (by omega) ho
     have kM : Hid (∀ w, Calls Try.prog 45 #[.agg #[.bool (sg n), .int .u64 (l0 n : Int), .int .u64 (l1 n : Int), .int .u64 (l2 n : Int), .int .u64 (l3 n : Int)], .agg #[.bool (sg d), .int .u64 (l0 d : Int), .int .u64 (l1 d : Int), .int .u64 (l2 d : Int), .int .u64 (l3 d : Int)]] w (Ret (.tuple #[.agg #[.bool (sg N), .int .u64 (l0 N : Int), .int .u64 (l1 N : Int), .int .u64 (l2 N : Int), .int .u64 (l3 N : Int), .bool (sg D), .int .u64 (l0 D : Int), .int .u64 (l1 D : Int), .int .u64 (l2 D : Int), .int .u64 (l3 D : Int)], .bool o]) w)) := fun w => h_make fn (by unfold F256; omega) (by omega) ho hN hD w
     have kO : Hid (∀ w, Calls Try.prog 34 #[.int .i64 1] w (Ret (.agg #[.bool (sg 1), .int .u64 (l0 1 : Int), .int .u64 (l1 1 : Int), .int .u64 (l2 1 : Int), .int .u64 (l3 1 : Int), .bool (sg 1), .int .u64 (l0 1 : Int), .int .u64 (l1 1 : Int), .int .u64 (l2 1 : Int), .int .u64 (l3 1 : Int)]) w)) := fun w => h_of (by omega) (by omega) w
     clear ho hN hD
     obtain ⟨xP10, xP11, xP12, xP13, xP14, xP1f0, xP1f1, xP1f2, xP1f3, xP1f4⟩ := five_cells P1; obtain ⟨xP20, xP21, xP22, xP23, xP24, xP2f0, xP2f1, xP2f2, xP2f3, xP2f4⟩ := five_cells P2
     go_upto_region 7 with (go_at_call 45; (with_reducible refine (kM.out _).mono ?_); rintro e' w11 ⟨rfl, hE⟩; have P0 := P0.ext hE; have P1 := P1.ext hE; have P2 := P2.ext hE; have UU := hide (UU.out.more hE); obtain ⟨xP00, xP01, xP02, xP03, xP04, xP05, xP06, xP07, xP08, xP09, xP0f0, xP0f1, xP0f2, xP0f3, xP0f4, xP0f5, xP0f6, xP0f7, xP0f8, xP0f9⟩ := ten_cells P0; have T8 := T7.ext hE; clear hE T7)
     have P5 : Box10 (w11.alloc (.cells #[.bool (sg N), .int .u64 (l0 N : Int), .int .u64 (l1 N : Int), .int .u64 (l2 N : Int), .int .u64 (l3 N : Int), .bool (sg D), .int .u64 (l0 D : Int), .int .u64 (l1 D : Int), .int .u64 (l2 D : Int), .int .u64 (l3 D : Int)] 40)) w11.heap.size (sg N) (l0 N) (l1 N) (l2 N) (l3 N) (sg D) (l0 D) (l1 D) (l2 D) (l3 D) := heap_alloc_new w11 _
     have hE := ext_alloc w11 (.cells #[.bool (sg N), .int .u64 (l0 N : Int), .int .u64 (l1 N : Int), .int .u64 (l2 N : Int), .int .u64 (l3 N : Int), .bool (sg D), .int .u64 (l0 D : Int), .int .u64 (l1 D : Int), .int .u64 (l2 D : Int), .int .u64 (l3 D : Int)] 40)
     have lP0 := P0.lt
     have P0 := P0.ext hE
     have UU := hide (UU.out.more hE)
     have T9 := T8.ext hE
     generalize w11.alloc (.cells #[.bool (sg N), .int .u64 (l0 N : Int), .int .u64 (l1 N : Int), .int .u64 (l2 N : Int), .int .u64 (l3 N : Int), .bool (sg D), .int .u64 (l0 D : Int), .int .u64 (l1 D : Int), .int .u64 (l2 D : Int), .int .u64 (l3 D : Int)] 40) = W11 at *
     generalize w11.heap.size = g5 at *
     clear hE T8
     obtain ⟨xP00, xP01, xP02, xP03, xP04, xP05, xP06, xP07, xP08, xP09, xP0f0, xP0f1, xP0f2, xP0f3, xP0f4, xP0f5, xP0f6, xP0f7, xP0f8, xP0f9⟩ := ten_cells P0; obtain ⟨xP50, xP51, xP52, xP53, xP54, xP55, xP56, xP57, xP58, xP59, xP5f0, xP5f1, xP5f2, xP5f3, xP5f4, xP5f5, xP5f6, xP5f7, xP5f8, xP5f9⟩ := ten_cells P5
     cases o
     · go_wp2_with (go_at_call 34; (with_reducible refine (kO.out _).mono ?_); rintro e' w12 ⟨rfl, hE⟩; have P0 := P0.ext hE; have UU := hide (UU.out.more hE); have TA := T9.ext hE; obtain ⟨xP00, xP01, xP02, xP03, xP04, xP05, xP06, xP07, xP08, xP09, xP0f0, xP0f1, xP0f2, xP0f3, xP0f4, xP0f5, xP0f6, xP0f7, xP0f8, xP0f9⟩ := ten_cells P0; clear hE T9)
       all_goals exact bodyPost_ret (v := .agg #[.bool (sg 1), .int .u64 (l0 1 : Int), .int .u64 (l1 1 : Int), .int .u64 (l2 1 : Int), .int .u64 (l3 1 : Int), .bool (sg 1), .int .u64 (l0 1 : Int), .int .u64 (l1 1 : Int), .int .u64 (l2 1 : Int), .int .u64 (l3 1 : Int)]) (by simp [results, Try.results19, go_sem, xP00, xP01, xP02, xP03, xP04, xP05, xP06, xP07, xP08, xP09]) rfl ⟨1, 1, rfl, by unfold Frac; decide, TA.ten hbw _ _ _ _ _ _ _ _ _ _, UU.out.ten hWw _ _ _ _ _ _ _ _ _ _⟩
     · have hF := hide (hF.out rfl)
       go_wp2_with fail
       all_goals exact bodyPost_ret (v := .agg #[.bool (sg N), .int .u64 (l0 N : Int), .int .u64 (l1 N : Int), .int .u64 (l2 N : Int), .int .u64 (l3 N : Int), .bool (sg D), .int .u64 (l0 D : Int), .int .u64 (l1 D : Int), .int .u64 (l2 D : Int), .int .u64 (l3 D : Int)]) (by simp [results, Try.results19, go_sem, xP00, xP01, xP02, xP03, xP04, xP05, xP06, xP07, xP08, xP09]) rfl ⟨N, D, rfl, hF.out trivial, T9.ten hbw _ _ _ _ _ _ _ _ _ _, UU.out.ten hWw _ _ _ _ _ _ _ _ _ _⟩
end
section
open Go Go.RowKit Go.Sort
attribute [local go_sem] qUpon eUpon putE slE
def IsFr (v : Value) : Prop := ∃ n d : Int, v = .agg (frC (n, d)) ∧ Frac n d
theorem build_cone {L H : Array Value} (hL : RC L) (hH : RC H) {a : Act} {o : Oper} {w : World} {x y : Operand} (ho : o.op = .build 42 #[(1, x), (2, y)]) (hx : a.eval x = .agg L) (hy : a.eval y = .agg H) : qUpon Try.prog w (.agg (coneC false L H)) ((execOp a.eval o).run Try.prog w) := by
 obtain ⟨s, a1, b, c, d, t, e, f, g, h, rfl⟩ := hL
 obtain ⟨s', a', b', c', d', t', e', f', g', h', rfl⟩ := hH
 obtain ⟨ρ, hρ⟩ : ∃ ρ, a.eval = ρ := ⟨_, rfl⟩
 rw [hρ] at hx hy ⊢
 clear hρ
 unfold execOp
 rw [ho]
 simp only [coneC]
 go_simp
end
end Go.Proofs.Ythlbkidgdngblaa
