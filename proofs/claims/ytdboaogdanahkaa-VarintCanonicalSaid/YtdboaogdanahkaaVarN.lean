/- The program's wideOf. Conditions: the code fits. -/
import Derived.Test.YtdboaogdanahkaaVarM
namespace Go.Proofs.Ytdboaogdanahkaa
set_option linter.unusedVariables false
set_option linter.unusedSimpArgs false
open Go Go.RowKit
theorem wide_one (o : Bool) (a b c d : Int) : (#[.bool o, .int .u64 a, .int .u64 b, .int .u64 c, .int .u64 d] : Array Value).all (·.oneCell') = true := by
  rw [Array.all_eq_true_iff_forall_mem]
  intro x hx
  simp at hx
  rcases hx with rfl | rfl | rfl | rfl | rfl <;> rfl
set_option maxRecDepth 100000 in
set_option maxHeartbeats 1600000 in
theorem p_wideOf (C : Nat) (o : Bool) (W : World) (hC : C < 18446744073709551616 ^ 5) (ho : decide (C % 2 = 1) = o) : Calls Try.prog 51 #[.agg (ag5 C)] W (Ret (.agg #[.bool o, .int .u64 (w5 (C / 2) 0 : Int), .int .u64 (w5 (C / 2) 1 : Int), .int .u64 (w5 (C / 2) 2 : Int), .int .u64 (w5 (C / 2) 3 : Int)]) W) := by
  have KD : Hid (∀ w, Calls Try.prog 57 #[.agg (ag5 C), .int .u64 1] w (Ret (.agg (ag5 (C / 2))) w)) := fun w => p_down1 C w hC
  have hx2 : (decide ((w5 C 0 : Int) % 2 = 1)) = o := by
    rw [← ho]
    unfold w5
    simp only [Nat.pow_zero, Nat.div_one]
    by_cases h : C % 2 = 1
    · rw [decide_eq_true h, decide_eq_true (by omega)]
    · rw [decide_eq_false h, decide_eq_false (by omega)]
  have hx3 : ((w5 C 0 : Int) % 2 == 1) = o := by
    rw [← hx2]; rfl
  have P1 := Blk.new W 82 (ag5 C)
  have E1 := ext_alloc W (.cells (ag5 C) 82)
  have z1 : (W.alloc (.cells (ag5 C) 82)).heap.size = W.heap.size + 1 := by simp
  obtain ⟨w1, hw1⟩ : ∃ w1, W.alloc (.cells (ag5 C) 82) = w1 := ⟨_, rfl⟩
  rw [hw1] at P1 E1 z1
  have P2 := Blk.new w1 32 #[.bool false, .int .u64 0, .int .u64 0, .int .u64 0, .int .u64 0]
  have E2 := Ext.trans E1 (ext_alloc w1 (.cells #[.bool false, .int .u64 0, .int .u64 0, .int .u64 0, .int .u64 0] 32))
  have P1 := P1.alloc (.cells #[.bool false, .int .u64 0, .int .u64 0, .int .u64 0, .int .u64 0] 32)
  have z2 : (w1.alloc (.cells #[.bool false, .int .u64 0, .int .u64 0, .int .u64 0, .int .u64 0] 32)).heap.size = W.heap.size + 1 + 1 := by simp [z1]
  obtain ⟨w2, hw2⟩ : ∃ w2, w1.alloc (.cells #[.bool false, .int .u64 0, .int .u64 0, .int .u64 0, .int .u64 0] 32) = w2 := ⟨_, rfl⟩
  rw [hw2] at P1 P2 E2 z2
  rw [z1] at P2
  obtain ⟨g, hg⟩ : ∃ g, W.heap.size = g := ⟨_, rfl⟩
  rw [hg] at P1 P2 z1 z2
  have Hw1 := hide hw1
  have Hw2 := hide hw2
  have Hg := hide hg
  have Z1 := hide z1
  have Z2 := hide z2
  have H1 := hide P1
  have H2 := hide P2
  have E2 := hide E2
  clear hw1 hw2 hg z1 z2 P1 P2 E1 ho hC
  go_enter Try.func51, Try.ntmps51
  go_upto_region 1 with fail
  rw [Hw1.out, Hw2.out, Hg.out]
  have c0 : w2.cell? ⟨g, 0, none⟩ = some (.int .u64 (w5 C 0 : Int)) := H1.out.cell 0
  obtain ⟨x, hx⟩ : ∃ x, w5 C 0 = x := ⟨_, rfl⟩
  rw [hx] at c0 hx2 hx3
  clear hx
  go_upto_region 2 with fail
  have P3 := Blk.new w2 32 #[.bool o, .int .u64 0, .int .u64 0, .int .u64 0, .int .u64 0]
  have P1 := H1.out.alloc (.cells #[.bool o, .int .u64 0, .int .u64 0, .int .u64 0, .int .u64 0] 32)
  have P2 := H2.out.alloc (.cells #[.bool o, .int .u64 0, .int .u64 0, .int .u64 0, .int .u64 0] 32)
  have E3 := Ext.trans E2.out (ext_alloc w2 (.cells #[.bool o, .int .u64 0, .int .u64 0, .int .u64 0, .int .u64 0] 32))
  obtain ⟨w3, hw3⟩ : ∃ w3, w2.alloc (.cells #[.bool o, .int .u64 0, .int .u64 0, .int .u64 0, .int .u64 0] 32) = w3 := ⟨_, rfl⟩
  rw [hw3] at P1 P2 P3 E3 ⊢
  rw [Z2.out] at P3 ⊢
  have A1 := hide P1
  have A2 := hide P2
  have A3 := hide P3
  have AE := hide E3
  clear hw3 P1 P2 P3 E3 H1 H2 E2 hx2 hx3 c0 Hw1 Hw2 Z1 Z2
  go_upto_region 3 with (first
    | (refine wpList_load_row rfl 82 (.tmp 1) rfl g rfl 82 (ag5 C) (0, 0) _ A1.out Try.underlying82 rfl (by rw [info5, ag5_size]) ?_)
    | (go_at_call 57; (with_reducible refine (KD.out _).mono ?_); rintro e v4 ⟨rfl, hE⟩; have A1 := hide (A1.out.ext hE); have A2 := hide (A2.out.ext hE); have A3 := hide (A3.out.ext hE); have AE := hide (Ext.trans AE.out hE); clear hE)
    | (refine wpList_store_row rfl 82 (.tmp 1) (.tmp 10) rfl g (ag5 (C / 2)) rfl rfl 82 (ag5 C) A1.out (by rw [info5, ag5_size]) (by rw [ag5_size, ag5_size]) (ag5_one _) ?_))
  have P1 := A1.out.setRow (ag5 (C / 2))
  have P2 := A2.out.rowfar (g' := g) (ds := ag5 (C / 2)) (by omega)
  have P3 := A3.out.rowfar (g' := g) (ds := ag5 (C / 2)) (by omega)
  have PE := below_row' (g := g) AE.out (by rw [Hg.out]; exact Nat.le_refl _) (ag5 (C / 2))
  obtain ⟨w5', hw5⟩ : ∃ w5, v4.setRow g (ag5 (C / 2)) = w5 := ⟨_, rfl⟩
  rw [hw5] at P1 P2 P3 PE ⊢
  obtain ⟨D, hD⟩ : ∃ D, C / 2 = D := ⟨_, rfl⟩
  rw [hD] at P1 ⊢
  have hcs : Hid (∀ j v, ([.int .u64 (w5 D 0 : Int), .int .u64 (w5 D 1 : Int), .int .u64 (w5 D 2 : Int), .int .u64 (w5 D 3 : Int)] : List Value)[j]? = some v → w5'.drew.cell? ((⟨g, 0, none⟩ : Addr).add j) = some v) := fun j v hv => by
    rw [Addr.add_mid]
    show w5'.cell? ⟨g, 0 + j, none⟩ = some v
    rw [P1.cell]
    match j, hv with
    | 0, hv => simpa [ag5] using hv
    | 1, hv => simpa [ag5] using hv
    | 2, hv => simpa [ag5] using hv
    | 3, hv => simpa [ag5] using hv
    | j + 4, hv => simp at hv
  have HD := hide hD
  have B1 := hide P1
  have B2 := hide P2
  have B3 := hide P3
  have BE := hide PE
  clear hw5 A1 A2 A3 AE KD P1 P2 P3 PE hD
  go_region_law (refine step_copy_splice rfl (.tmp 12) (.tmp 13) 70 70 rfl 28 Try.underlying70 info8 (some ⟨g + 1 + 1, 1, none⟩) (some ⟨g, 0, none⟩) 4 4 5 5 (by rfl) (by rfl) (g + 1 + 1) 1 [.bool o, .int .u64 0, .int .u64 0, .int .u64 0, .int .u64 0] 32 B3.out [.int .u64 (w5 D 0 : Int), .int .u64 (w5 D 1 : Int), .int .u64 (w5 D 2 : Int), .int .u64 (w5 D 3 : Int)] (by rfl) (fun _ => ⟨rfl, _, rfl, hcs.out⟩) (by simp) (by intro v hv; simp at hv; rcases hv with rfl | rfl | rfl | rfl <;> rfl) (g + 1 + 1) w5'.drew (Below.refl _ _) (Nat.le_refl _) ?_; intro w6 hr6 hb6)
  have A3 : Hid (Blk w6 (g + 1 + 1) 32 #[.bool o, .int .u64 (w5 D 0 : Int), .int .u64 (w5 D 1 : Int), .int .u64 (w5 D 2 : Int), .int .u64 (w5 D 3 : Int)]) := by
    show w6.heap[g + 1 + 1]? = _
    rw [hr6.out]; rfl
  have A2 : Hid (Blk w6 (g + 1) 32 #[.bool false, .int .u64 0, .int .u64 0, .int .u64 0, .int .u64 0]) := Blk.below (w := w5'.drew) B2.out hb6 (by omega)
  have hEW : Hid (Below W.heap.size W w6) := Below.trans (Below.drew BE.out) (hb6.mono (by rw [Hg.out]; omega))
  clear hr6 hb6 hcs B1 B2 B3 BE
  go_wp2_with (first
    | (refine wpList_load_row rfl 32 (.tmp 3) rfl (g + 1 + 1) rfl 32 #[.bool o, .int .u64 (w5 D 0 : Int), .int .u64 (w5 D 1 : Int), .int .u64 (w5 D 2 : Int), .int .u64 (w5 D 3 : Int)] (0, 0) _ A3.out Try.underlying32 rfl (by rw [infoW]; rfl) ?_)
    | (refine wpList_store_row rfl 32 (.tmp 2) (.tmp 15) rfl (g + 1) #[.bool o, .int .u64 (w5 D 0 : Int), .int .u64 (w5 D 1 : Int), .int .u64 (w5 D 2 : Int), .int .u64 (w5 D 3 : Int)] rfl rfl 32 #[.bool false, .int .u64 0, .int .u64 0, .int .u64 0, .int .u64 0] A2.out (by rw [infoW]; rfl) rfl (wide_one _ _ _ _ _) ?_))
  have hr := A2.out.setRow #[.bool o, .int .u64 (w5 D 0 : Int), .int .u64 (w5 D 1 : Int), .int .u64 (w5 D 2 : Int), .int .u64 (w5 D 3 : Int)]
  exact bodyPost_ret (results_cell_row (p := 2) (ty := 32) rfl _ _ (g + 1) 32 #[.bool o, .int .u64 (w5 D 0 : Int), .int .u64 (w5 D 1 : Int), .int .u64 (w5 D 2 : Int), .int .u64 (w5 D 3 : Int)] (0, 0) _ rfl hr Try.underlying32 rfl (by rw [infoW]; rfl)) rfl ⟨by rw [HD.out], below_row' hEW.out (by rw [Hg.out]; omega) _⟩
end Go.Proofs.Ytdboaogdanahkaa
