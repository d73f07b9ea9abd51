/- The program's ReadWide where the groups are none; wideOf; codes, pure. Conditions: the slice reads as bytes. -/
import Derived.Test.YtdboaogdanahkaaVarF
import Derived.Test.YtdboaogdanahkaaVarJ
namespace Go.Proofs.Ytdboaogdanahkaa
set_option linter.unusedVariables false
set_option linter.unusedSimpArgs false
open Go Go.RowKit
/-- The results where the first lies in a row of cells. -/
theorem res_row3 {fn : Func} {p u v : Tmp} {ty : TypeId} (h : fn.results = #[.cell p ty, .tmp u, .tmp v]) (tmps : Array Value) (w : World) (g : Nat) (t : TypeId) (cs : Array Value) (d : TypeDesc)
    (hp : tmps.getD p undef = .pointer (some ⟨g, 0, none⟩)) (hg : Blk w g t cs)
    (hu : Try.prog.underlying ty = some d) (hd : (match (generalizing := false) d with | .struct _ | .array _ _ => true | _ => false) = true) (hi : (Try.prog.info? ty).map (·.size) = some cs.size) :
    (results fn tmps).run Try.prog w = .ok (.tuple #[.agg cs, tmps.getD u undef, tmps.getD v undef]) w := by
  have hp' : tmps[p]?.getD undef = .pointer (some ⟨g, 0, none⟩) := by simpa using hp
  simp [results, h, hp', asAddr, run_loadVar_row w g t ty cs (0, 0) d hg hu (by cases d <;> first | rfl | exact hd) hi, Sem.run_bind, Result.andThen]
set_option maxRecDepth 100000 in
set_option maxHeartbeats 1600000 in
theorem p_rwide_err (A : Option Addr) (c cap : Nat) (l : List Nat) (at_ e : Int) (W : World) (hb : BytesAt W A l) (hc : l.length = c) (hcap : c ≤ cap) (hcap2 : c ≤ 4611686018427387904) (hat : I64 at_) (hbd : bhd l at_ 257 37 = (0, e)) (he : e = 2 ∨ e = 4 ∨ e = 5) :
    Calls Try.prog 23 #[.slice A c cap, .int .i64 at_] W (Ret (.tuple #[.agg #[.bool false, .int .u64 0, .int .u64 0, .int .u64 0, .int .u64 0], .int .i64 0, .int .i64 e]) W) := by
  have q1 : (e != 0) = true := by rw [bne_iff_ne]; omega
  have E0 := hide (ext_alloc W (.cells #[.bool false, .int .u64 0, .int .u64 0, .int .u64 0, .int .u64 0] 32))
  have KB : Hid (∀ w, Ext W w → Calls Try.prog 47 #[.slice A c cap, .int .i64 at_, .int .i64 257] w (RetSame (.tuple #[.int .i64 0, .int .i64 e]) w)) := fun w h => p_behind A c cap l at_ 257 37 w (hb.ext h) hc hcap hcap2 hat (by omega) (by omega) (by omega) 0 e hbd
  clear hb hc hcap hcap2 hbd he hat
  go_enter Try.func23, Try.ntmps23
  go_wp2_with (first
    | (go_at_call 47; (with_reducible refine (KB.out _ E0.out).mono ?_); rintro e w2 ⟨rfl, rfl⟩))
  exact bodyPost_ret (res_row3 (p := 4) (u := 5) (v := 6) (ty := 32) rfl _ _ W.heap.size 32 _ _ rfl (Blk.new W _ _) Try.underlying32 rfl (by rw [infoW]; rfl)) rfl ⟨rfl, E0.out⟩
theorem wide_one (o : Bool) (a b c d : Int) : (#[.bool o, .int .u64 a, .int .u64 b, .int .u64 c, .int .u64 d] : Array Value).all (·.oneCell') = true := by
  rw [Array.all_eq_true_iff_forall_mem]
  intro x hx
  simp at hx
  rcases hx with rfl | rfl | rfl | rfl | rfl <;> rfl
set_option maxRecDepth 100000 in
set_option maxHeartbeats 1600000 in
theorem p_wideOf (C : Nat) (o : Bool) (W : World) (hC : C < 18446744073709551616 ^ 5) (ho : decide (C % 2 = 1) = o) : Calls Try.prog 51 #[.agg (ag5 C)] W (Ret (.agg #[.bool o, .int .u64 (w5 (C / 2) 0 : Int), .int .u64 (w5 (C / 2) 1 : Int), .int .u64 (w5 (C / 2) 2 : Int), .int .u64 (w5 (C / 2) 3 : Int)]) W) := by
  have KD : Hid (∀ w, Calls Try.prog 57 #[.agg (ag5 C), .int .u64 1] w (Ret (.agg (ag5 (C / 2))) w)) := fun w => p_down1 C w hC
  have hx2 : (decide ((w5 C 0 : Int) % 2 = 1)) = o := by
    rw [← ho]
    unfold w5
    simp only [Nat.pow_zero, Nat.div_one]
    by_cases h : C % 2 = 1
    · rw [decide_eq_true h, decide_eq_true (by omega)]
    · rw [decide_eq_false h, decide_eq_false (by omega)]
  have hx3 : ((w5 C 0 : Int) % 2 == 1) = o := by
    rw [← hx2]; rfl
  have P1 := Blk.new W 82 (ag5 C)
  have E1 := ext_alloc W (.cells (ag5 C) 82)
  have z1 : (W.alloc (.cells (ag5 C) 82)).heap.size = W.heap.size + 1 := by simp
  obtain ⟨w1, hw1⟩ : ∃ w1, W.alloc (.cells (ag5 C) 82) = w1 := ⟨_, rfl⟩
  rw [hw1] at P1 E1 z1
  have P2 := Blk.new w1 32 #[.bool false, .int .u64 0, .int .u64 0, .int .u64 0, .int .u64 0]
  have E2 := Ext.trans E1 (ext_alloc w1 (.cells #[.bool false, .int .u64 0, .int .u64 0, .int .u64 0, .int .u64 0] 32))
  have P1 := P1.alloc (.cells #[.bool false, .int .u64 0, .int .u64 0, .int .u64 0, .int .u64 0] 32)
  have z2 : (w1.alloc (.cells #[.bool false, .int .u64 0, .int .u64 0, .int .u64 0, .int .u64 0] 32)).heap.size = W.heap.size + 1 + 1 := by simp [z1]
  obtain ⟨w2, hw2⟩ : ∃ w2, w1.alloc (.cells #[.bool false, .int .u64 0, .int .u64 0, .int .u64 0, .int .u64 0] 32) = w2 := ⟨_, rfl⟩
  rw [hw2] at P1 P2 E2 z2
  rw [z1] at P2
  obtain ⟨g, hg⟩ : ∃ g, W.heap.size = g := ⟨_, rfl⟩
  rw [hg] at P1 P2 z1 z2
  have Hw1 := hide hw1
  have Hw2 := hide hw2
  have Hg := hide hg
  have Z1 := hide z1
  have Z2 := hide z2
  have H1 := hide P1
  have H2 := hide P2
  have E2 := hide E2
  clear hw1 hw2 hg z1 z2 P1 P2 E1 ho hC
  go_enter Try.func51, Try.ntmps51
  go_upto_region 1 with fail
  rw [Hw1.out, Hw2.out, Hg.out]
  have c0 : w2.cell? ⟨g, 0, none⟩ = some (.int .u64 (w5 C 0 : Int)) := H1.out.cell 0
  obtain ⟨x, hx⟩ : ∃ x, w5 C 0 = x := ⟨_, rfl⟩
  rw [hx] at c0 hx2 hx3
  clear hx
  go_upto_region 2 with fail
  have P3 := Blk.new w2 32 #[.bool o, .int .u64 0, .int .u64 0, .int .u64 0, .int .u64 0]
  have P1 := H1.out.alloc (.cells #[.bool o, .int .u64 0, .int .u64 0, .int .u64 0, .int .u64 0] 32)
  have P2 := H2.out.alloc (.cells #[.bool o, .int .u64 0, .int .u64 0, .int .u64 0, .int .u64 0] 32)
  have E3 := Ext.trans E2.out (ext_alloc w2 (.cells #[.bool o, .int .u64 0, .int .u64 0, .int .u64 0, .int .u64 0] 32))
  obtain ⟨w3, hw3⟩ : ∃ w3, w2.alloc (.cells #[.bool o, .int .u64 0, .int .u64 0, .int .u64 0, .int .u64 0] 32) = w3 := ⟨_, rfl⟩
  rw [hw3] at P1 P2 P3 E3 ⊢
  rw [Z2.out] at P3 ⊢
  have A1 := hide P1
  have A2 := hide P2
  have A3 := hide P3
  have AE := hide E3
  clear hw3 P1 P2 P3 E3 H1 H2 E2 hx2 hx3 c0 Hw1 Hw2 Z1 Z2
  go_upto_region 3 with (first
    | (refine wpList_load_row rfl 82 (.tmp 1) rfl g rfl 82 (ag5 C) (0, 0) _ A1.out Try.underlying82 rfl (by rw [info5, ag5_size]) ?_)
    | (go_at_call 57; (with_reducible refine (KD.out _).mono ?_); rintro e v4 ⟨rfl, hE⟩; have A1 := hide (A1.out.ext hE); have A2 := hide (A2.out.ext hE); have A3 := hide (A3.out.ext hE); have AE := hide (Ext.trans AE.out hE); clear hE)
    | (refine wpList_store_row rfl 82 (.tmp 1) (.tmp 10) rfl g (ag5 (C / 2)) rfl rfl 82 (ag5 C) A1.out (by rw [info5, ag5_size]) (by rw [ag5_size, ag5_size]) (ag5_one _) ?_))
  have P1 := A1.out.setRow (ag5 (C / 2))
  have P2 := A2.out.rowfar (g' := g) (ds := ag5 (C / 2)) (by omega)
  have P3 := A3.out.rowfar (g' := g) (ds := ag5 (C / 2)) (by omega)
  have PE := below_row' (g := g) AE.out (by rw [Hg.out]; exact Nat.le_refl _) (ag5 (C / 2))
  obtain ⟨w5', hw5⟩ : ∃ w5, v4.setRow g (ag5 (C / 2)) = w5 := ⟨_, rfl⟩
  rw [hw5] at P1 P2 P3 PE ⊢
  obtain ⟨D, hD⟩ : ∃ D, C / 2 = D := ⟨_, rfl⟩
  rw [hD] at P1 ⊢
  have hcs : Hid (∀ j v, ([.int .u64 (w5 D 0 : Int), .int .u64 (w5 D 1 : Int), .int .u64 (w5 D 2 : Int), .int .u64 (w5 D 3 : Int)] : List Value)[j]? = some v → w5'.drew.cell? ((⟨g, 0, none⟩ : Addr).add j) = some v) := fun j v hv => by
    rw [Addr.add_mid]
    show w5'.cell? ⟨g, 0 + j, none⟩ = some v
    rw [P1.cell]
    match j, hv with
    | 0, hv => simpa [ag5] using hv
    | 1, hv => simpa [ag5] using hv
    | 2, hv => simpa [ag5] using hv
    | 3, hv => simpa [ag5] using hv
    | j + 4, hv => simp at hv
  have HD := hide hD
  have B1 := hide P1
  have B2 := hide P2
  have B3 := hide P3
  have BE := hide PE
  clear hw5 A1 A2 A3 AE KD P1 P2 P3 PE hD
  go_region_law (refine step_copy_splice rfl (.tmp 12) (.tmp 13) 70 70 rfl 28 Try.underlying70 info8 (some ⟨g + 1 + 1, 1, none⟩) (some ⟨g, 0, none⟩) 4 4 5 5 (by rfl) (by rfl) (g + 1 + 1) 1 [.bool o, .int .u64 0, .int .u64 0, .int .u64 0, .int .u64 0] 32 B3.out [.int .u64 (w5 D 0 : Int), .int .u64 (w5 D 1 : Int), .int .u64 (w5 D 2 : Int), .int .u64 (w5 D 3 : Int)] (by rfl) (fun _ => ⟨rfl, _, rfl, hcs.out⟩) (by simp) (by intro v hv; simp at hv; rcases hv with rfl | rfl | rfl | rfl <;> rfl) (g + 1 + 1) w5'.drew (Below.refl _ _) (Nat.le_refl _) ?_; intro w6 hr6 hb6)
  have A3 : Hid (Blk w6 (g + 1 + 1) 32 #[.bool o, .int .u64 (w5 D 0 : Int), .int .u64 (w5 D 1 : Int), .int .u64 (w5 D 2 : Int), .int .u64 (w5 D 3 : Int)]) := by
    show w6.heap[g + 1 + 1]? = _
    rw [hr6.out]; rfl
  have A2 : Hid (Blk w6 (g + 1) 32 #[.bool false, .int .u64 0, .int .u64 0, .int .u64 0, .int .u64 0]) := Blk.below (w := w5'.drew) B2.out hb6 (by omega)
  have hEW : Hid (Below W.heap.size W w6) := Below.trans (Below.drew BE.out) (hb6.mono (by rw [Hg.out]; omega))
  clear hr6 hb6 hcs B1 B2 B3 BE
  go_wp2_with (first
    | (refine wpList_load_row rfl 32 (.tmp 3) rfl (g + 1 + 1) rfl 32 #[.bool o, .int .u64 (w5 D 0 : Int), .int .u64 (w5 D 1 : Int), .int .u64 (w5 D 2 : Int), .int .u64 (w5 D 3 : Int)] (0, 0) _ A3.out Try.underlying32 rfl (by rw [infoW]; rfl) ?_)
    | (refine wpList_store_row rfl 32 (.tmp 2) (.tmp 15) rfl (g + 1) #[.bool o, .int .u64 (w5 D 0 : Int), .int .u64 (w5 D 1 : Int), .int .u64 (w5 D 2 : Int), .int .u64 (w5 D 3 : Int)] rfl rfl 32 #[.bool false, .int .u64 0, .int .u64 0, .int .u64 0, .int .u64 0] A2.out (by rw [infoW]; rfl) rfl (wide_one _ _ _ _ _) ?_))
  have hr := A2.out.setRow #[.bool o, .int .u64 (w5 D 0 : Int), .int .u64 (w5 D 1 : Int), .int .u64 (w5 D 2 : Int), .int .u64 (w5 D 3 : Int)]
  exact bodyPost_ret (results_cell_row (p := 2) (ty := 32) rfl _ _ (g + 1) 32 #[.bool o, .int .u64 (w5 D 0 : Int), .int .u64 (w5 D 1 : Int), .int .u64 (w5 D 2 : Int), .int .u64 (w5 D 3 : Int)] (0, 0) _ rfl hr Try.underlying32 rfl (by rw [infoW]; rfl)) rfl ⟨by rw [HD.out], below_row' hEW.out (by rw [Hg.out]; omega) _⟩
theorem w5_low (V r : Nat) (hr : r < 128) : w5 (V * 128 + r) 0 = w5 (V * 128) 0 + r := by unfold w5; simp only [Nat.pow_zero, Nat.div_one]; omega
theorem w5_high (V r i : Nat) (hr : r < 128) : w5 (V * 128 + r) (i + 1) = w5 (V * 128) (i + 1) := by
  unfold w5
  have e : (V * 128 + r) / 18446744073709551616 ^ (i + 1) = V * 128 / 18446744073709551616 ^ (i + 1) := by
    have h2 : ∀ X, X / 18446744073709551616 ^ (i + 1) = X / 128 / (144115188075855872 * 18446744073709551616 ^ i) := fun X => by
      rw [Nat.div_div_eq_div_mul, Nat.pow_succ, Nat.mul_comm (18446744073709551616 ^ i), ← Nat.mul_assoc]
    rw [h2, h2]
    congr 1
    omega
  rw [e]
theorem ag5_low (V r : Nat) (hr : r < 128) : (ag5 (V * 128)).setIfInBounds 0 (.int .u64 ((w5 (V * 128) 0 + r : Nat) : Int)) = ag5 (V * 128 + r) := by
  unfold ag5
  rw [w5_low V r hr, w5_high V r 0 hr, w5_high V r 1 hr, w5_high V r 2 hr, w5_high V r 3 hr]
  simp
theorem low_blk (w : World) (g V r x : Nat) (hr : r < 128) (hx : w5 (V * 128) 0 = x) (h : Blk w g 82 (ag5 (V * 128))) : Blk (w.setCell ⟨g, 0, none⟩ (.int .u64 ((x + r : Nat) : Int))) g 82 (ag5 (V * 128 + r)) := by
  have := h.set_ 0 (.int .u64 ((x + r : Nat) : Int))
  rw [← hx, ag5_low V r hr] at this
  rw [← hx]; exact this
theorem or_low5 (V r x : Nat) (hr : r < 128) (hx : w5 (V * 128) 0 = x) : bits .or .u64 (x : Int) (r : Int) = ((x + r : Nat) : Int) ∧ x + r < 18446744073709551616 := by
  have hl := w5_lt (V * 128) 0
  have hm : w5 (V * 128) 0 % 128 = 0 := by unfold w5; simp only [Nat.pow_zero, Nat.div_one]; omega
  rw [hx] at hl hm
  obtain ⟨u, rfl⟩ : ∃ u, x = u * 128 := ⟨x / 128, by omega⟩
  have h : u * 128 + r < 18446744073709551616 := by omega
  exact ⟨by have := or_low u r hr h; simpa using this, h⟩
theorem mag4_w5 (D : Nat) (h : D < 2 ^ 256) : mag4 (w5 D 0) (w5 D 1) (w5 D 2) (w5 D 3) = D := by
  have e1 : D / 18446744073709551616 ^ 1 = D / 18446744073709551616 := by rw [Nat.pow_one]
  have e2 : D / 18446744073709551616 ^ 2 = D / 18446744073709551616 / 18446744073709551616 := by rw [Nat.div_div_eq_div_mul]
  have e3 : D / 18446744073709551616 ^ 3 = D / 18446744073709551616 / 18446744073709551616 / 18446744073709551616 := by rw [Nat.div_div_eq_div_mul, Nat.div_div_eq_div_mul]
  have h4 : D / 18446744073709551616 / 18446744073709551616 / 18446744073709551616 < 18446744073709551616 := by
    rw [Nat.div_div_eq_div_mul, Nat.div_div_eq_div_mul]
    exact Nat.div_lt_of_lt_mul h
  unfold mag4 val val val val val w5
  rw [e1, e2, e3, Nat.pow_zero, Nat.div_one]
  omega
/-- The number with a code. -/
def unc (C : Nat) : Int := if C % 2 = 1 then -((C / 2 : Nat) : Int) else ((C / 2 : Nat) : Int)
theorem unc_isw (C : Nat) (o : Bool) (h : C < 2 ^ 257) (ho : decide (C % 2 = 1) = o) : IsW o (w5 (C / 2) 0) (w5 (C / 2) 1) (w5 (C / 2) 2) (w5 (C / 2) 3) (unc C) := by
  refine ⟨w5_lt _ _, w5_lt _ _, w5_lt _ _, w5_lt _ _, ?_⟩
  rw [mag4_w5 _ (by rw [show (2 : Nat) ^ 257 = 2 ^ 256 * 2 by decide +kernel] at h; omega)]
  unfold unc
  cases o
  · rw [if_neg (of_decide_eq_false ho)]; rfl
  · rw [if_pos (of_decide_eq_true ho)]; rfl
theorem unc_cod (z : Int) : unc (cod z) = z := by
  unfold unc cod
  split <;> split at * <;> omega
theorem cod_unc {C : Nat} (h : C ≠ 1) : cod (unc C) = C := by
  unfold unc cod
  split <;> split <;> omega
end Go.Proofs.Ytdboaogdanahkaa
