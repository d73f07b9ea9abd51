/- The program's ReadWide, where there are groups. Conditions: the slice reads as bytes. -/
import Derived.Test.YtdboaogdanahkaaVarMN
namespace Go.Proofs.Ytdboaogdanahkaa
set_option linter.unusedVariables false
set_option linter.unusedSimpArgs false
open Go Go.RowKit
/-- What ReadWide returns for a code. -/
def rwW (C a n : Nat) : Value :=
  if C = 1 then .tuple #[.agg #[.bool false, .int .u64 0, .int .u64 0, .int .u64 0, .int .u64 0], .int .i64 0, .int .i64 5]
  else .tuple #[.agg #[.bool (decide (C % 2 = 1)), .int .u64 (w5 (C / 2) 0 : Int), .int .u64 (w5 (C / 2) 1 : Int), .int .u64 (w5 (C / 2) 2 : Int), .int .u64 (w5 (C / 2) 3 : Int)], .int .i64 ((a : Int) + n), .int .i64 0]
set_option maxRecDepth 100000 in
set_option maxHeartbeats 1600000 in
theorem p_rwide (A : Option Addr) (c cap : Nat) (l : List Nat) (a : Nat) (g : List Nat) (W : World) (hb : BytesAt W A l) (hc : l.length = c) (hcap : c ≤ cap) (hcap2 : c ≤ 4611686018427387904) (hg : rdG l a 257 37 = some g) :
    Calls Try.prog 23 #[.slice A c cap, .int .i64 (a : Int)] W (Ret (rwW (decB g) a g.length) W) := by
  obtain ⟨a', haa, hal, hbd, hsc, hok⟩ := bhd_some hg
  obtain rfl : a = a' := by omega
  have hk : Hid (∀ w, Ext W w → Calls Try.prog 47 #[.slice A c cap, .int .i64 (a : Int), .int .i64 257] w (RetSame (.tuple #[.int .i64 ((a : Int) + (g.length : Int)), .int .i64 0]) w)) := fun w h => p_behind A c cap l a 257 37 w (hb.ext h) hc hcap hcap2 ⟨by omega, by omega⟩ (by omega) (by omega) (by omega) _ _ hbd
  obtain ⟨n, hn⟩ : ∃ n, g.length = n := ⟨_, rfl⟩
  obtain ⟨r, x, hgr, hx, _, ⟨t, ht⟩, hmost⟩ := scanG_some 37 _ g hsc
  have hlt := decB_ok hsc hok
  have hnc : a + n ≤ c := by
    have := congrArg List.length ht
    rw [List.length_append, List.length_drop] at this
    omega
  have hn1 : 1 ≤ n := by rw [← hn, hgr]; simp
  have hget : Hid (∀ j, j < n → l.getD (a + j) 0 = g.getD j 0) := fun j hj => by
    have h1 : l.getD (a + j) 0 = (l.drop a).getD j 0 := by simp [List.getD_eq_getElem?_getD, List.getElem?_drop]
    rw [h1, ← ht]
    simp [List.getD_eq_getElem?_getD, List.getElem?_append_left (show j < g.length by omega)]
  rw [hn] at hk hmost ⊢
  have Hlt := hide hlt
  have Hb := hide hb
  have Hc := hide hc
  have Hn := hide hn
  have E0 := ext_alloc W (.cells #[.bool false, .int .u64 0, .int .u64 0, .int .u64 0, .int .u64 0] 32)
  have P0 := Blk.new W 32 #[.bool false, .int .u64 0, .int .u64 0, .int .u64 0, .int .u64 0]
  have z1 : (W.alloc (.cells #[.bool false, .int .u64 0, .int .u64 0, .int .u64 0, .int .u64 0] 32)).heap.size = W.heap.size + 1 := by simp
  obtain ⟨w1, hw1⟩ : ∃ w1, W.alloc (.cells #[.bool false, .int .u64 0, .int .u64 0, .int .u64 0, .int .u64 0] 32) = w1 := ⟨_, rfl⟩
  rw [hw1] at E0 P0 z1
  have P1 := Blk.new w1 82 z5c
  have P0' := P0.alloc (.cells z5c 82)
  have E1 := Ext.trans E0 (ext_alloc w1 (.cells z5c 82))
  unfold z5c at P1 P0' E1
  obtain ⟨w2, hw2⟩ : ∃ w2, w1.alloc (.cells #[.int .u64 0, .int .u64 0, .int .u64 0, .int .u64 0, .int .u64 0] 82) = w2 := ⟨_, rfl⟩
  rw [hw2] at P1 P0' E1
  rw [z1] at P1
  obtain ⟨q, hq⟩ : ∃ q, W.heap.size = q := ⟨_, rfl⟩
  rw [hq] at P1 P0' z1
  have Hw1 := hide hw1
  have Hw2 := hide hw2
  have Hq := hide hq
  have Z1 := hide z1
  have A0 := hide P0'
  have A1 : Hid (Blk w2 (q + 1) 82 (ag5 0)) := P1
  have AE := hide E1
  have HE0 := hide E0
  clear hg hbd hb hc hsc hok hgr ht hn hal haa hlt hw1 hw2 hq P0 P0' P1 E1 E0 z1
  go_enter Try.func23, Try.ntmps23
  go_upto_region 1 with fail
  rw [Hw1.out, Hq.out]
  go_upto_region 5 with (go_at_call 47; (with_reducible refine (hk.out _ HE0.out).mono ?_); rintro e v1 ⟨rfl, rfl⟩)
  rw [Hw2.out, Z1.out]
  clear Hw1 Hw2 Z1 hk HE0
  go_wp2_with fail
  go_loopw [10] (fun i wr => ∃ j : Nat, j ≤ n ∧ i = .int .i64 ((a : Int) + (j : Int) - 1) ∧ Hid (Blk wr (q + 1) 82 (ag5 (decB (g.drop j)))) ∧ Hid (Blk wr q 32 #[.bool false, .int .u64 0, .int .u64 0, .int .u64 0, .int .u64 0]) ∧ Hid (Ext W wr)) (fun i _ => (intOf i + 1 - a).toNat)
  case atStart => exact ⟨n, Nat.le_refl _, rfl, by rw [List.drop_of_length_le (by rw [Hn.out]; exact Nat.le_refl _)]; exact A1, A0, AE⟩
  case round =>
    clear A0 A1 AE
    obtain ⟨j, hj, rfl, A1, A0, AE⟩ := hrel
    cases j with
    | zero =>
      have n1 : ¬ (a : Int) ≤ (a : Int) + ((0 : Nat) : Int) - 1 := by omega
      rw [List.drop_zero] at A1
      obtain ⟨C, hC⟩ : ∃ C, decB g = C := ⟨_, rfl⟩
      have hl := Hlt.out
      rw [hC] at A1 hl ⊢
      have hl5 : C < 18446744073709551616 ^ 5 := Nat.lt_trans hl (by decide +kernel)
      have KW : Hid (∀ w, Calls Try.prog 51 #[.agg (ag5 C)] w (Ret (.agg #[.bool (decide (C % 2 = 1)), .int .u64 (w5 (C / 2) 0 : Int), .int .u64 (w5 (C / 2) 1 : Int), .int .u64 (w5 (C / 2) 2 : Int), .int .u64 (w5 (C / 2) 3 : Int)]) w)) := fun w => p_wideOf C _ w hl5 rfl
      have KV : Hid (∀ w, Calls Try.prog 52 #[.agg #[.bool (decide (C % 2 = 1)), .int .u64 (w5 (C / 2) 0 : Int), .int .u64 (w5 (C / 2) 1 : Int), .int .u64 (w5 (C / 2) 2 : Int), .int .u64 (w5 (C / 2) 3 : Int)]] w (BoolRet (!decide (C % 2 = 1) || decide (unc C ≠ 0)) w)) := fun w => p_valid _ _ _ _ _ _ w (unc_isw C _ hl rfl)
      have HC := hide hC
      clear hC hl hl5 Hlt hget Hb Hc Hn hmost hnc hn1
      by_cases h1 : C = 1
      · have hv : (!decide (C % 2 = 1) || decide (unc C ≠ 0)) = false := by subst h1; decide +kernel
        rw [hv] at KV
        have HR : Hid (rwW (decB g) a n = .tuple #[.agg #[.bool false, .int .u64 0, .int .u64 0, .int .u64 0, .int .u64 0], .int .i64 0, .int .i64 5]) := by rw [HC.out]; exact if_pos h1
        clear hv h1
        go_wp2_with (first
          | (refine wpList_load_row rfl 82 (.tmp 9) rfl (q + 1) rfl 82 (ag5 C) (0, 0) _ A1.out Try.underlying82 rfl (by rw [info5, ag5_size]) ?_)
          | (go_at_call 51; (with_reducible refine (KW.out _).mono ?_); rintro e v5 ⟨rfl, hE⟩; have A0 := hide ((A0.out.ext hE).alloc (.cells #[.bool (decide (C % 2 = 1)), .int .u64 (w5 (C / 2) 0 : Int), .int .u64 (w5 (C / 2) 1 : Int), .int .u64 (w5 (C / 2) 2 : Int), .int .u64 (w5 (C / 2) 3 : Int)] 32)); have AE := hide (Ext.trans (Ext.trans AE.out hE) (ext_alloc v5 (.cells #[.bool (decide (C % 2 = 1)), .int .u64 (w5 (C / 2) 0 : Int), .int .u64 (w5 (C / 2) 1 : Int), .int .u64 (w5 (C / 2) 2 : Int), .int .u64 (w5 (C / 2) 3 : Int)] 32))); clear hE)
          | (go_at_call 52; (with_reducible refine (KV.out _).mono ?_); rintro e v6 ⟨rfl, hE⟩; have A0 := hide (A0.out.ext hE); have AE := hide (Ext.trans AE.out hE); clear hE)
          | (refine wpList_store_row rfl 32 (.tmp 4) (.tmp 46) rfl q #[.bool false, .int .u64 0, .int .u64 0, .int .u64 0, .int .u64 0] rfl rfl 32 #[.bool false, .int .u64 0, .int .u64 0, .int .u64 0, .int .u64 0] A0.out (by rw [infoW]; rfl) rfl (wide_one _ _ _ _ _) ?_))
        have hr := A0.out.setRow #[.bool false, .int .u64 0, .int .u64 0, .int .u64 0, .int .u64 0]
        exact bodyPost_ret (res_row3 (p := 4) (u := 5) (v := 6) (ty := 32) rfl _ _ q 32 _ _ rfl hr Try.underlying32 rfl (by rw [infoW]; rfl)) rfl ⟨by rw [HR.out]; rfl, below_row' AE.out (by rw [Hq.out]; exact Nat.le_refl _) _⟩
      · have hv : (!decide (C % 2 = 1) || decide (unc C ≠ 0)) = true := by
          by_cases h2 : C % 2 = 1
          · have : unc C ≠ 0 := by unfold unc; rw [if_pos h2]; omega
            rw [decide_eq_true this, Bool.or_true]
          · rw [decide_eq_false h2]; rfl
        rw [hv] at KV
        have HR : Hid (rwW (decB g) a n = .tuple #[.agg #[.bool (decide (C % 2 = 1)), .int .u64 (w5 (C / 2) 0 : Int), .int .u64 (w5 (C / 2) 1 : Int), .int .u64 (w5 (C / 2) 2 : Int), .int .u64 (w5 (C / 2) 3 : Int)], .int .i64 ((a : Int) + n), .int .i64 0]) := by rw [HC.out]; exact if_neg h1
        clear hv h1
        go_wp2_with (first
          | (refine wpList_load_row rfl 82 (.tmp 9) rfl (q + 1) rfl 82 (ag5 C) (0, 0) _ A1.out Try.underlying82 rfl (by rw [info5, ag5_size]) ?_)
          | (go_at_call 51; (with_reducible refine (KW.out _).mono ?_); rintro e v5 ⟨rfl, hE⟩; have A2 := hide (Blk.new v5 32 #[.bool (decide (C % 2 = 1)), .int .u64 (w5 (C / 2) 0 : Int), .int .u64 (w5 (C / 2) 1 : Int), .int .u64 (w5 (C / 2) 2 : Int), .int .u64 (w5 (C / 2) 3 : Int)]); have A0 := hide ((A0.out.ext hE).alloc (.cells #[.bool (decide (C % 2 = 1)), .int .u64 (w5 (C / 2) 0 : Int), .int .u64 (w5 (C / 2) 1 : Int), .int .u64 (w5 (C / 2) 2 : Int), .int .u64 (w5 (C / 2) 3 : Int)] 32)); have AE := hide (Ext.trans (Ext.trans AE.out hE) (ext_alloc v5 (.cells #[.bool (decide (C % 2 = 1)), .int .u64 (w5 (C / 2) 0 : Int), .int .u64 (w5 (C / 2) 1 : Int), .int .u64 (w5 (C / 2) 2 : Int), .int .u64 (w5 (C / 2) 3 : Int)] 32))); clear hE)
          | (go_at_call 52; (with_reducible refine (KV.out _).mono ?_); rintro e v6 ⟨rfl, hE⟩; have A2 := hide (A2.out.ext hE); have A0 := hide (A0.out.ext hE); have AE := hide (Ext.trans AE.out hE); clear hE)
          | (refine wpList_load_row rfl 32 (.tmp 11) rfl v5.heap.size rfl 32 #[.bool (decide (C % 2 = 1)), .int .u64 (w5 (C / 2) 0 : Int), .int .u64 (w5 (C / 2) 1 : Int), .int .u64 (w5 (C / 2) 2 : Int), .int .u64 (w5 (C / 2) 3 : Int)] (0, 0) _ A2.out Try.underlying32 rfl (by rw [infoW]; rfl) ?_)
          | (refine wpList_store_row rfl 32 (.tmp 4) (.tmp 47) rfl q #[.bool (decide (C % 2 = 1)), .int .u64 (w5 (C / 2) 0 : Int), .int .u64 (w5 (C / 2) 1 : Int), .int .u64 (w5 (C / 2) 2 : Int), .int .u64 (w5 (C / 2) 3 : Int)] rfl rfl 32 #[.bool false, .int .u64 0, .int .u64 0, .int .u64 0, .int .u64 0] A0.out (by rw [infoW]; rfl) rfl (wide_one _ _ _ _ _) ?_))
        have hr := A0.out.setRow #[.bool (decide (C % 2 = 1)), .int .u64 (w5 (C / 2) 0 : Int), .int .u64 (w5 (C / 2) 1 : Int), .int .u64 (w5 (C / 2) 2 : Int), .int .u64 (w5 (C / 2) 3 : Int)]
        exact bodyPost_ret (res_row3 (p := 4) (u := 5) (v := 6) (ty := 32) rfl _ _ q 32 _ _ rfl hr Try.underlying32 rfl (by rw [infoW]; rfl)) rfl ⟨by rw [HR.out]; rfl, below_row' AE.out (by rw [Hq.out]; exact Nat.le_refl _) _⟩
    | succ j =>
      have e1 : ((a : Int) + ((j + 1 : Nat) : Int) - 1) = (a : Int) + (j : Int) := by omega
      rw [e1]
      clear e1
      have hjg : j < g.length := by rw [Hn.out]; omega
      have hst := hide (decB_drop hjg)
      obtain ⟨b, off, rfl, hbw, hcl⟩ := Hb.out.2.2 (by rw [Hc.out]; omega)
      have d2 := hcl (a + j) (by rw [Hc.out]; omega)
      rw [hget.out j (by omega)] at d2
      have hyb : g.getD j 0 < 256 := by rw [← hget.out j (by omega)]; exact Hb.out.1.get _
      obtain ⟨y, hy⟩ : ∃ y, g.getD j 0 = y := ⟨_, rfl⟩
      rw [hy] at d2 hst hyb
      obtain ⟨V, hV⟩ : ∃ V, decB (g.drop (j + 1)) = V := ⟨_, rfl⟩
      rw [hV] at A1 hst
      have D2 := hide d2
      have Hbw := hide hbw
      have KU : Hid (∀ w, Calls Try.prog 50 #[.agg (ag5 V), .int .u64 7] w (Ret (.agg (ag5 (V * 128))) w)) := fun w => p_up7 V w
      have ge : (a : Int) ≤ (a : Int) + (j : Int) := by omega
      clear hcl d2 hy hV hbw hjg
      go_upto_region 9 with (first
        | (refine wpList_load_row rfl 82 (.tmp 9) rfl (q + 1) rfl 82 (ag5 V) (0, 0) _ A1.out Try.underlying82 rfl (by rw [info5, ag5_size]) ?_)
        | (go_at_call 50; (with_reducible refine (KU.out _).mono ?_); rintro e v2 ⟨rfl, hE⟩; have A1 := hide (A1.out.ext hE); have A0 := hide (A0.out.ext hE); have AE := hide (Ext.trans AE.out hE); clear hE)
        | (refine wpList_store_row rfl 82 (.tmp 9) (.tmp 30) rfl (q + 1) (ag5 (V * 128)) rfl rfl 82 (ag5 V) A1.out (by rw [info5, ag5_size]) (by rw [ag5_size, ag5_size]) (ag5_one _) ?_))
      have B1 := A1.out.setRow (ag5 (V * 128))
      have B0 := A0.out.rowfar (g' := q + 1) (ds := ag5 (V * 128)) (by omega)
      have BE := below_row' (g := q + 1) AE.out (by rw [Hq.out]; omega) (ag5 (V * 128))
      obtain ⟨w3, hw3⟩ : ∃ w3, v2.setRow (q + 1) (ag5 (V * 128)) = w3 := ⟨_, rfl⟩
      rw [hw3] at B1 B0 BE ⊢
      have d3 : w3.cell? ⟨b, off + (a + j), none⟩ = some (.int .u8 (y : Int)) := (BE.cell (p := ⟨b, off + (a + j), none⟩) Hbw.out).trans D2.out
      have c0 : w3.cell? ⟨q + 1, 0, none⟩ = some (.int .u64 (w5 (V * 128) 0 : Int)) := B1.cell 0
      have f0 := B1.frozen 0
      obtain ⟨x, hx⟩ : ∃ x, w5 (V * 128) 0 = x := ⟨_, rfl⟩
      rw [hx] at c0
      obtain ⟨ho, ho2⟩ := or_low5 V (y % 128) x (Nat.mod_lt _ (by omega)) hx
      have ey : ((y % 128 : Nat) : Int) = (y : Int) % (128 : Int) := by omega
      have C1 := hide (low_blk w3 (q + 1) V (y % 128) x (Nat.mod_lt _ (by omega)) hx B1)
      have C0 := hide (B0.far (p := ⟨q + 1, 0, none⟩) (by simp) (.int .u64 ((x + y % 128 : Nat) : Int)))
      have CE := hide (Below.setCell BE (p := ⟨q + 1, 0, none⟩) (by rw [Hq.out]; (try show q ≤ q + 1); omega) (.int .u64 ((x + y % 128 : Nat) : Int)))
      obtain ⟨u, hu⟩ : ∃ u, x + y % 128 = u := ⟨_, rfl⟩
      rw [hu] at ho ho2 C1 C0 CE
      have ew : IntKind.u64.wrap ((y : Int).tmod 128) = ((y % 128 : Nat) : Int) := by
        rw [Int.tmod_eq_emod_of_nonneg (by omega), ← ey]
        rw [wrap_u64']; omega
      rw [← ew] at ho
      have HV : Hid (V * 128 + y % 128 = decB (g.drop j)) := by show _ = _; have := hst.out; omega
      clear hw3 A1 A0 AE KU hx B1 B0 BE ey ew hu hst D2 Hbw
      have i0 : 0 ≤ (a : Int) + (j : Int) := by omega
      have i1 : (a : Int) + (j : Int) < (c : Int) := by omega
      have i2 : ((a : Int) + (j : Int)).toNat = a + j := by omega
      go_region_law (fail)
      all_goals
        have X1 : Hid (Blk (w3.setCell ⟨q + 1, 0, none⟩ (.int .u64 (u : Int))).drew (q + 1) 82 (ag5 (decB (g.drop j)))) := by rw [← HV.out]; exact C1.out
        have X0 : Hid (Blk (w3.setCell ⟨q + 1, 0, none⟩ (.int .u64 (u : Int))).drew q 32 #[.bool false, .int .u64 0, .int .u64 0, .int .u64 0, .int .u64 0]) := C0.out
        have XE : Hid (Ext W (w3.setCell ⟨q + 1, 0, none⟩ (.int .u64 (u : Int))).drew) := Below.drew CE.out
        clear ho i0 i1 i2 C1 C0 CE
        go_wp2_with fail
        go_roundw
        case rel => exact ⟨j, by omega, rfl, X1, X0, XE⟩
        case measure => simp [intOf]; omega
end Go.Proofs.Ytdboaogdanahkaa
