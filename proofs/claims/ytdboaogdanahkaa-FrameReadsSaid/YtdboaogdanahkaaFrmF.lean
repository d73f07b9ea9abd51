/- The reference's Decode of layer 7. Conditions: the slice reads as bytes. -/
import Derived.Test.YtdboaogdanahkaaFrmD
import Derived.Test.YtdboaogdanahkaaFrmE
import Derived.Test.YtdboaogdanahkaaByC
import Derived.Deep.RegionHeld3
namespace Go.Proofs.Ytdboaogdanahkaa
set_option linter.unusedVariables false
set_option linter.unusedSimpArgs false
open Go Go.RowKit
theorem Blk.rowoff {w : World} {g g' : Nat} {t : TypeId} {cs ds : Array Value} (h : Blk w g t cs) (hn : g ≠ g') : Blk (w.setRow g' ds) g t cs := (setRow_other w g' g ds hn).trans h
theorem run_midF (A : Option Addr) (n a e cap : Nat) (hk : a ≤ e) (he : e ≤ cap) (w : World) : (Instr.slice 22 (.slice A n cap) (some (.int .i64 (a : Int))) (some (.int .i64 (e : Int))) none).run Try.prog w = .ok (.slice (if cap = a then A else A.map (·.add (a * 1))) (e - a) (cap - a)) w := by
  have hE : Try.prog.elem 22 = 5 := by kernel_rfl
  have hz := Try.sizeOf5
  rw [run_slice_lh w 22 A n cap (by kernel_rfl) .i64 .i64 a e (by omega) (by omega) (by omega), hE, hz]
  simp [Result.andThen, sliced]
theorem frH_A {s : List Nat} (h : s.length < 9) : frH s = (0, 4) := by unfold frH; rw [if_pos h]
theorem frH_B {s : List Nat} (h : ¬ s.length < 9) (hc : chk (s.take 9) = false) : frH s = (0, 6) := by unfold frH; rw [if_neg h, if_pos hc]
theorem frH_C {s : List Nat} {V : Nat} (h : ¬ s.length < 9) (hc : chk (s.take 9) = true) (hV : valLE ((s.drop 1).take 4) = V) (hv : 4194304 < V) : frH s = (0, 3) := by unfold frH; rw [if_neg h, if_neg (by rw [hc]; simp), hV, if_pos hv]
theorem frH_D {s : List Nat} {V : Nat} (h : ¬ s.length < 9) (hc : chk (s.take 9) = true) (hV : valLE ((s.drop 1).take 4) = V) (hv : ¬ 4194304 < V) : frH s = (V, 0) := by unfold frH; rw [if_neg h, if_neg (by rw [hc]; simp), hV, if_neg hv]
theorem frD_no {s : List Nat} {V e : Nat} (h : frH s = (V, e)) (he : e ≠ 0) : frD s = (0, [], 0, e) := by unfold frD; rw [h]; simp [he]
theorem frD_D {s : List Nat} {V : Nat} (h : frH s = (V, 0)) (hL : (s.drop 9).length < V + 4) : frD s = (0, [], 0, 4) := by
  have : frB (s.drop 9) V = ([], 4) := by unfold frB; rw [if_pos hL]
  unfold frD; rw [h]; simp [this]
theorem frD_E {s : List Nat} {V : Nat} (h : frH s = (V, 0)) (hL : ¬ (s.drop 9).length < V + 4) (hc : chk ((s.drop 9).take (V + 4)) = false) : frD s = (0, [], 0, 6) := by
  have : frB (s.drop 9) V = ([], 6) := by unfold frB; rw [if_neg hL, if_pos hc]
  unfold frD; rw [h]; simp [this]
theorem frD_F {s : List Nat} {V : Nat} (h : frH s = (V, 0)) (hL : ¬ (s.drop 9).length < V + 4) (hc : chk ((s.drop 9).take (V + 4)) = true) : frD s = (s.getD 0 0, (s.drop 9).take V, V + 13, 0) := by
  have : frB (s.drop 9) V = ((s.drop 9).take V, 0) := by unfold frB; rw [if_neg hL, if_neg (by rw [hc]; simp)]
  unfold frD; rw [h]; simp [this]
set_option maxRecDepth 100000 in
set_option maxHeartbeats 3200000 in
theorem r_fdecode_out (A : Option Addr) (c cap : Nat) (at_ : Int) (W : World) (hcap2 : c ≤ 4611686018427387904) (hat : I64 at_) (h : at_ < 0 ∨ (c : Int) < at_) :
    Calls Try.prog 61 #[.slice A c cap, .int .i64 at_] W (FrmRet 0 [] 0 2 W) := by
  have E0 := ext_alloc W (.cells #[.int .u8 0, .slice none 0 0] 56)
  have P0 := Blk.new W 56 #[.int .u8 0, .slice none 0 0]
  obtain ⟨w1, hw1⟩ : ∃ w, W.alloc (.cells #[.int .u8 0, .slice none 0 0] 56) = w := ⟨_, rfl⟩
  rw [hw1] at E0 P0
  have N1 := Blk.new w1 56 #[.int .u8 0, .slice none 0 0]
  have P1 := N1.setRow #[.int .u8 0, .slice none 0 0]
  have P0' := (P0.alloc (.cells #[.int .u8 0, .slice none 0 0] 56)).rowoff (g' := w1.heap.size) (ds := #[.int .u8 0, .slice none 0 0]) (by have := P0.lt; omega)
  have E1 := below_rowF (g := w1.heap.size) (Ext.trans E0 (ext_alloc w1 (.cells #[.int .u8 0, .slice none 0 0] 56))) E0.size #[.int .u8 0, .slice none 0 0]
  obtain ⟨w2, hw2⟩ : ∃ w, (w1.alloc (.cells #[.int .u8 0, .slice none 0 0] 56)).setRow w1.heap.size #[.int .u8 0, .slice none 0 0] = w := ⟨_, rfl⟩
  rw [hw2] at P1 P0' E1
  have hq1 : W.heap.size < w1.heap.size := P0.lt
  have hq0 : W.heap.size ≤ w1.heap.size := E0.size
  obtain ⟨q1, hqq⟩ : ∃ q, w1.heap.size = q := ⟨_, rfl⟩
  obtain ⟨q, hq⟩ : ∃ q, W.heap.size = q := ⟨_, rfl⟩
  rw [hqq] at P1 hq1 hq0
  rw [hq] at P0' hq1
  have Hw1 := hide hw1
  have Hw2 := hide hw2
  have Hq := hide hq
  have Hqq := hide hqq
  have N1 := hide N1
  have P1 := hide P1
  have P0 := hide P0'
  have E1 : Hid (Ext W w2) := E1
  have hqW : W.heap.size ≤ q := by rw [hq]; exact Nat.le_refl _
  obtain ⟨a1, a2⟩ := hat
  clear hw1 hw2 hq hqq
  by_cases h0 : at_ < 0
  · have d0 : decide (at_ < 0) = true := decide_eq_true h0
    clear h
    go_enter Try.func61, Try.ntmps61
    go_upto_region 1 with fail
    rw [Hw1.out, Hq.out]
    go_upto_region 2 with (refine wpList_store_row rfl 56 (.tmp 7) (.tmp 10) rfl w1.heap.size #[.int .u8 0, .slice none 0 0] rfl rfl 56 #[.int .u8 0, .slice none 0 0] N1.out (by rw [infoF]; rfl) rfl (frm_one _ _ _ _) ?_)
    rw [Hw2.out, Hqq.out]
    go_wp2_with (first
      | (refine wpList_load_row rfl 56 (.tmp 7) rfl q1 rfl 56 #[.int .u8 0, .slice none 0 0] (0, 0) _ P1.out Try.underlying56 rfl (by rw [infoF]; rfl) ?_)
      | (refine wpList_store_row rfl 56 (.tmp 4) (.tmp 19) rfl q #[.int .u8 0, .slice none 0 0] rfl rfl 56 #[.int .u8 0, .slice none 0 0] P0.out (by rw [infoF]; rfl) rfl (frm_one _ _ _ _) ?_))
    have hr := P0.out.setRow #[.int .u8 0, .slice none 0 0]
    exact bodyPost_ret (res_frm3 (p := 4) (u := 5) (v := 6) (ty := 56) rfl _ _ q 56 _ _ rfl hr Try.underlying56 rfl (by rw [infoF]; rfl)) rfl ⟨_, rfl, OwnB.nil_ _ _, below_rowF E1.out hqW _⟩
  · have d0 : decide (at_ < 0) = false := decide_eq_false h0
    have h2 : (c : Int) < at_ := by omega
    have d1 : decide ((c : Int) < at_) = true := decide_eq_true h2
    clear h
    go_enter Try.func61, Try.ntmps61
    go_upto_region 1 with fail
    rw [Hw1.out, Hq.out]
    go_upto_region 2 with (refine wpList_store_row rfl 56 (.tmp 7) (.tmp 10) rfl w1.heap.size #[.int .u8 0, .slice none 0 0] rfl rfl 56 #[.int .u8 0, .slice none 0 0] N1.out (by rw [infoF]; rfl) rfl (frm_one _ _ _ _) ?_)
    rw [Hw2.out, Hqq.out]
    go_wp2_with (first
      | (refine wpList_load_row rfl 56 (.tmp 7) rfl q1 rfl 56 #[.int .u8 0, .slice none 0 0] (0, 0) _ P1.out Try.underlying56 rfl (by rw [infoF]; rfl) ?_)
      | (refine wpList_store_row rfl 56 (.tmp 4) (.tmp 19) rfl q #[.int .u8 0, .slice none 0 0] rfl rfl 56 #[.int .u8 0, .slice none 0 0] P0.out (by rw [infoF]; rfl) rfl (frm_one _ _ _ _) ?_))
    have hr := P0.out.setRow #[.int .u8 0, .slice none 0 0]
    exact bodyPost_ret (res_frm3 (p := 4) (u := 5) (v := 6) (ty := 56) rfl _ _ q 56 _ _ rfl hr Try.underlying56 rfl (by rw [infoF]; rfl)) rfl ⟨_, rfl, OwnB.nil_ _ _, below_rowF E1.out hqW _⟩
set_option maxRecDepth 100000 in
set_option maxHeartbeats 3200000 in
theorem r_fdecode (A : Option Addr) (c cap a : Nat) (l : List Nat) (W : World) (hb : BytesAt W A l) (hc : l.length = c) (hcap : c ≤ cap) (hcap2 : c ≤ 4611686018427387904) (ha : a ≤ c) (k : Nat) (p : List Nat) (n e : Nat) (hr : frD (l.drop a) = (k, p, n, e)) :
    Calls Try.prog 61 #[.slice A c cap, .int .i64 (a : Int)] W (FrmRet k p (if e = 0 then (a : Int) + n else 0) e W) := by
  have E0 := ext_alloc W (.cells #[.int .u8 0, .slice none 0 0] 56)
  have P0 := Blk.new W 56 #[.int .u8 0, .slice none 0 0]
  obtain ⟨w1, hw1⟩ : ∃ w, W.alloc (.cells #[.int .u8 0, .slice none 0 0] 56) = w := ⟨_, rfl⟩
  rw [hw1] at E0 P0
  have N1 := Blk.new w1 56 #[.int .u8 0, .slice none 0 0]
  have P1 := N1.setRow #[.int .u8 0, .slice none 0 0]
  have P0' := (P0.alloc (.cells #[.int .u8 0, .slice none 0 0] 56)).rowoff (g' := w1.heap.size) (ds := #[.int .u8 0, .slice none 0 0]) (by have := P0.lt; omega)
  have E1 := below_rowF (g := w1.heap.size) (Ext.trans E0 (ext_alloc w1 (.cells #[.int .u8 0, .slice none 0 0] 56))) E0.size #[.int .u8 0, .slice none 0 0]
  obtain ⟨w2, hw2⟩ : ∃ w, (w1.alloc (.cells #[.int .u8 0, .slice none 0 0] 56)).setRow w1.heap.size #[.int .u8 0, .slice none 0 0] = w := ⟨_, rfl⟩
  rw [hw2] at P1 P0' E1
  have hq1 : W.heap.size < w1.heap.size := P0.lt
  have hq0 : W.heap.size ≤ w1.heap.size := E0.size
  obtain ⟨q1, hqq⟩ : ∃ q, w1.heap.size = q := ⟨_, rfl⟩
  obtain ⟨q, hq⟩ : ∃ q, W.heap.size = q := ⟨_, rfl⟩
  rw [hqq] at P1 hq1 hq0
  rw [hq] at P0' hq1
  have Hw1 := hide hw1
  have Hw2 := hide hw2
  have Hq := hide hq
  have Hqq := hide hqq
  have N1 := hide N1
  have P1 := hide P1
  have P0 := hide P0'
  have E1 : Hid (Ext W w2) := E1
  have hqW : W.heap.size ≤ q := by rw [hq]; exact Nat.le_refl _
  clear hw1 hw2 hq hqq
  obtain ⟨s, hsd⟩ : ∃ s, l.drop a = s := ⟨_, rfl⟩
  rw [hsd] at hr
  have hsl : s.length = c - a := by rw [← hsd, List.length_drop, hc]
  have n0 : decide ((a : Int) < 0) = false := decide_eq_false (by omega)
  have n1 : decide ((c : Int) < (a : Int)) = false := decide_eq_false (by omega)
  by_cases h9 : c - a < 9
  · rw [frD_no (frH_A (by omega)) (by omega)] at hr
    simp only [Prod.mk.injEq] at hr
    obtain ⟨rfl, rfl, rfl, rfl⟩ := hr
    have d3 : decide ((c : Int) - (a : Int) < 9) = true := decide_eq_true (by omega)
    clear hb hc hsd hsl
    go_enter Try.func61, Try.ntmps61
    go_upto_region 1 with fail
    rw [Hw1.out, Hq.out]
    go_upto_region 2 with (refine wpList_store_row rfl 56 (.tmp 7) (.tmp 10) rfl w1.heap.size #[.int .u8 0, .slice none 0 0] rfl rfl 56 #[.int .u8 0, .slice none 0 0] N1.out (by rw [infoF]; rfl) rfl (frm_one _ _ _ _) ?_)
    rw [Hw2.out, Hqq.out]
    go_wp2_with (first
      | (refine wpList_load_row rfl 56 (.tmp 7) rfl q1 rfl 56 #[.int .u8 0, .slice none 0 0] (0, 0) _ P1.out Try.underlying56 rfl (by rw [infoF]; rfl) ?_)
      | (refine wpList_store_row rfl 56 (.tmp 4) (.tmp 25) rfl q #[.int .u8 0, .slice none 0 0] rfl rfl 56 #[.int .u8 0, .slice none 0 0] P0.out (by rw [infoF]; rfl) rfl (frm_one _ _ _ _) ?_))
    have hr := P0.out.setRow #[.int .u8 0, .slice none 0 0]
    exact bodyPost_ret (res_frm3 (p := 4) (u := 5) (v := 6) (ty := 56) rfl _ _ q 56 _ _ rfl hr Try.underlying56 rfl (by rw [infoF]; rfl)) rfl ⟨_, rfl, OwnB.nil_ _ _, below_rowF E1.out hqW _⟩
  · have hs9 : ¬ s.length < 9 := by omega
    have d3 : decide ((c : Int) - (a : Int) < 9) = false := decide_eq_false (by omega)
    have hs1 := run_midF A c a (a + 9) cap (by omega) (by omega)
    rw [show a + 9 - a = 9 by omega, show ((a + 9 : Nat) : Int) = (a : Int) + 9 by omega] at hs1
    have hsb := (hb.drop a cap (by omega)).take 9
    obtain ⟨A2, hA2⟩ : ∃ A2, (if cap = a then A else A.map (·.add (a * 1))) = A2 := ⟨_, rfl⟩
    rw [hA2] at hs1 hsb
    rw [hsd] at hsb
    obtain ⟨v1, hv1⟩ : ∃ v, chk (s.take 9) = v := ⟨_, rfl⟩
    have KC1 : Hid (∀ w, Ext W w → Calls Try.prog 81 #[.slice A2 9 (cap - a)] w (Ret (.bool v1) w)) := fun w h => r_check A2 9 (cap - a) (s.take 9) w (hsb.ext h) (by rw [List.length_take]; omega) (by omega) v1 hv1
    clear hA2 hsb
    cases v1 with
    | false =>
      rw [frD_no (frH_B hs9 hv1) (by omega)] at hr
      simp only [Prod.mk.injEq] at hr
      obtain ⟨rfl, rfl, rfl, rfl⟩ := hr
      clear hb hc hsd hsl hv1
      go_enter Try.func61, Try.ntmps61
      go_upto_region 1 with fail
      rw [Hw1.out, Hq.out]
      go_upto_region 2 with (refine wpList_store_row rfl 56 (.tmp 7) (.tmp 10) rfl w1.heap.size #[.int .u8 0, .slice none 0 0] rfl rfl 56 #[.int .u8 0, .slice none 0 0] N1.out (by rw [infoF]; rfl) rfl (frm_one _ _ _ _) ?_)
      rw [Hw2.out, Hqq.out]
      go_wp2_with (first
        | (go_at_call 81; (with_reducible refine (KC1.out _ E1.out).mono ?_); rintro e w3 ⟨rfl, hE⟩; have P0 := hide (P0.out.ext hE); have P1 := hide (P1.out.ext hE); have E3 := hide (Ext.trans E1.out hE); clear hE)
        | (refine wpList_load_row rfl 56 (.tmp 7) rfl q1 rfl 56 #[.int .u8 0, .slice none 0 0] (0, 0) _ P1.out Try.underlying56 rfl (by rw [infoF]; rfl) ?_)
        | (refine wpList_store_row rfl 56 (.tmp 4) (.tmp 33) rfl q #[.int .u8 0, .slice none 0 0] rfl rfl 56 #[.int .u8 0, .slice none 0 0] P0.out (by rw [infoF]; rfl) rfl (frm_one _ _ _ _) ?_))
      have hr := P0.out.setRow #[.int .u8 0, .slice none 0 0]
      exact bodyPost_ret (res_frm3 (p := 4) (u := 5) (v := 6) (ty := 56) rfl _ _ q 56 _ _ rfl hr Try.underlying56 rfl (by rw [infoF]; rfl)) rfl ⟨_, rfl, OwnB.nil_ _ _, below_rowF E3.out hqW _⟩
    | true =>
      have KV : Hid (∀ w, Ext W w → Calls Try.prog 82 #[.slice A c cap, .int .i64 ((a : Int) + 1), .int .i64 4] w (RetSame (.int .u64 (valLE ((s.drop 1).take 4) : Int)) w)) := fun w h => by
        have := r_value A c (a + 1) 0 4 l w (hb.ext h) (by omega) (by omega) hc cap
        rw [show ((a + 1 : Nat) : Int) = (a : Int) + 1 by omega, show l.drop (a + 1) = s.drop 1 by rw [← hsd, List.drop_drop]] at this
        exact this
      have hVl : valLE ((s.drop 1).take 4) < 4294967296 := by
        have := valLE_lt ((s.drop 1).take 4) (by rw [← hsd]; exact ((hb.1.drop a).drop 1).take 4)
        rw [List.length_take, List.length_drop, Nat.min_eq_left (by omega)] at this
        exact this
      obtain ⟨V, hVe⟩ : ∃ V, valLE ((s.drop 1).take 4) = V := ⟨_, rfl⟩
      rw [hVe] at KV hVl
      by_cases hV : 4194304 < V
      · rw [frD_no (frH_C hs9 hv1 hVe hV) (by omega)] at hr
        simp only [Prod.mk.injEq] at hr
        obtain ⟨rfl, rfl, rfl, rfl⟩ := hr
        have d4 : decide ((4194304 : Int) < (V : Int)) = true := decide_eq_true (by omega)
        clear hb hc hsd hsl hv1 hVe
        go_enter Try.func61, Try.ntmps61
        go_upto_region 1 with fail
        rw [Hw1.out, Hq.out]
        go_upto_region 2 with (refine wpList_store_row rfl 56 (.tmp 7) (.tmp 10) rfl w1.heap.size #[.int .u8 0, .slice none 0 0] rfl rfl 56 #[.int .u8 0, .slice none 0 0] N1.out (by rw [infoF]; rfl) rfl (frm_one _ _ _ _) ?_)
        rw [Hw2.out, Hqq.out]
        go_wp2_with (first
          | (go_at_call 81; (with_reducible refine (KC1.out _ E1.out).mono ?_); rintro e w3 ⟨rfl, hE⟩; have P0 := hide (P0.out.ext hE); have P1 := hide (P1.out.ext hE); have E3 := hide (Ext.trans E1.out hE); clear hE)
          | (go_at_call 82; (with_reducible refine (KV.out _ E3.out).mono ?_); rintro e w4 ⟨rfl, rfl⟩)
          | (refine wpList_load_row rfl 56 (.tmp 7) rfl q1 rfl 56 #[.int .u8 0, .slice none 0 0] (0, 0) _ P1.out Try.underlying56 rfl (by rw [infoF]; rfl) ?_)
          | (refine wpList_store_row rfl 56 (.tmp 4) (.tmp 41) rfl q #[.int .u8 0, .slice none 0 0] rfl rfl 56 #[.int .u8 0, .slice none 0 0] P0.out (by rw [infoF]; rfl) rfl (frm_one _ _ _ _) ?_))
        have hr := P0.out.setRow #[.int .u8 0, .slice none 0 0]
        exact bodyPost_ret (res_frm3 (p := 4) (u := 5) (v := 6) (ty := 56) rfl _ _ q 56 _ _ rfl hr Try.underlying56 rfl (by rw [infoF]; rfl)) rfl ⟨_, rfl, OwnB.nil_ _ _, below_rowF E3.out hqW _⟩
      · have hH := frH_D hs9 hv1 hVe hV
        have d4 : decide ((4194304 : Int) < (V : Int)) = false := decide_eq_false (by omega)
        by_cases hL : (s.drop 9).length < V + 4
        · rw [frD_D hH hL] at hr
          simp only [Prod.mk.injEq] at hr
          obtain ⟨rfl, rfl, rfl, rfl⟩ := hr
          rw [List.length_drop] at hL
          have d5 : decide ((c : Int) < (a : Int) + 13 + (V : Int)) = true := decide_eq_true (by omega)
          clear hb hc hsd hsl hv1 hVe hH
          go_enter Try.func61, Try.ntmps61
          go_upto_region 1 with fail
          rw [Hw1.out, Hq.out]
          go_upto_region 2 with (refine wpList_store_row rfl 56 (.tmp 7) (.tmp 10) rfl w1.heap.size #[.int .u8 0, .slice none 0 0] rfl rfl 56 #[.int .u8 0, .slice none 0 0] N1.out (by rw [infoF]; rfl) rfl (frm_one _ _ _ _) ?_)
          rw [Hw2.out, Hqq.out]
          go_wp2_with (first
            | (go_at_call 81; (with_reducible refine (KC1.out _ E1.out).mono ?_); rintro e w3 ⟨rfl, hE⟩; have P0 := hide (P0.out.ext hE); have P1 := hide (P1.out.ext hE); have E3 := hide (Ext.trans E1.out hE); clear hE)
            | (go_at_call 82; (with_reducible refine (KV.out _ E3.out).mono ?_); rintro e w4 ⟨rfl, rfl⟩)
            | (refine wpList_load_row rfl 56 (.tmp 7) rfl q1 rfl 56 #[.int .u8 0, .slice none 0 0] (0, 0) _ P1.out Try.underlying56 rfl (by rw [infoF]; rfl) ?_)
            | (refine wpList_store_row rfl 56 (.tmp 4) (.tmp 50) rfl q #[.int .u8 0, .slice none 0 0] rfl rfl 56 #[.int .u8 0, .slice none 0 0] P0.out (by rw [infoF]; rfl) rfl (frm_one _ _ _ _) ?_))
          have hr := P0.out.setRow #[.int .u8 0, .slice none 0 0]
          exact bodyPost_ret (res_frm3 (p := 4) (u := 5) (v := 6) (ty := 56) rfl _ _ q 56 _ _ rfl hr Try.underlying56 rfl (by rw [infoF]; rfl)) rfl ⟨_, rfl, OwnB.nil_ _ _, below_rowF E3.out hqW _⟩
        · have hL0 := hL
          rw [List.length_drop] at hL
          have hL2 : a + 13 + V ≤ c := by omega
          have d5 : decide ((c : Int) < (a : Int) + 13 + (V : Int)) = false := decide_eq_false (by omega)
          have hs2 := run_midF A c (a + 9) (a + 13 + V) cap (by omega) (by omega)
          rw [show a + 13 + V - (a + 9) = V + 4 by omega, show ((a + 9 : Nat) : Int) = (a : Int) + 9 by omega, show ((a + 13 + V : Nat) : Int) = (a : Int) + 13 + (V : Int) by omega] at hs2
          have hs3 := run_midF A c (a + 9) (a + 9 + V) cap (by omega) (by omega)
          rw [show a + 9 + V - (a + 9) = V by omega, show ((a + 9 : Nat) : Int) = (a : Int) + 9 by omega, show ((a + 9 + V : Nat) : Int) = (a : Int) + 13 + (V : Int) - 4 by omega] at hs3
          have hsb := hb.drop (a + 9) cap (by omega)
          obtain ⟨A3, hA3⟩ : ∃ A3, (if cap = a + 9 then A else A.map (·.add ((a + 9) * 1))) = A3 := ⟨_, rfl⟩
          rw [hA3] at hs2 hs3 hsb
          rw [show l.drop (a + 9) = s.drop 9 by rw [← hsd, List.drop_drop]] at hsb
          obtain ⟨v2, hv2⟩ : ∃ v, chk ((s.drop 9).take (V + 4)) = v := ⟨_, rfl⟩
          have KC2 : Hid (∀ w, Ext W w → Calls Try.prog 81 #[.slice A3 (V + 4) (cap - (a + 9))] w (Ret (.bool v2) w)) := fun w h => r_check A3 (V + 4) (cap - (a + 9)) ((s.drop 9).take (V + 4)) w ((hsb.take (V + 4)).ext h) (by rw [List.length_take, List.length_drop]; omega) (by omega) v2 hv2
          have hpb := hsb.take V
          have hpl : ((s.drop 9).take V).length = V := by rw [List.length_take, List.length_drop]; omega
          clear hA3 hsb
          cases v2 with
          | false =>
            rw [frD_E hH hL0 hv2] at hr
            simp only [Prod.mk.injEq] at hr
            obtain ⟨rfl, rfl, rfl, rfl⟩ := hr
            clear hb hc hsd hsl hpb hpl hv1 hv2 hVe hH hL0
            go_enter Try.func61, Try.ntmps61
            go_upto_region 1 with fail
            rw [Hw1.out, Hq.out]
            go_upto_region 2 with (refine wpList_store_row rfl 56 (.tmp 7) (.tmp 10) rfl w1.heap.size #[.int .u8 0, .slice none 0 0] rfl rfl 56 #[.int .u8 0, .slice none 0 0] N1.out (by rw [infoF]; rfl) rfl (frm_one _ _ _ _) ?_)
            rw [Hw2.out, Hqq.out]
            go_wp2_with (first
              | (go_at_call 81; (with_reducible refine (KC1.out _ E1.out).mono ?_); rintro e w3 ⟨rfl, hE⟩; have P0 := hide (P0.out.ext hE); have P1 := hide (P1.out.ext hE); have E3 := hide (Ext.trans E1.out hE); clear hE)
              | (go_at_call 82; (with_reducible refine (KV.out _ E3.out).mono ?_); rintro e w4 ⟨rfl, rfl⟩)
              | (go_at_call 81; (with_reducible refine (KC2.out _ E3.out).mono ?_); rintro e w5 ⟨rfl, hE⟩; have P0 := hide (P0.out.ext hE); have P1 := hide (P1.out.ext hE); have E5 := hide (Ext.trans E3.out hE); clear hE)
              | (refine wpList_load_row rfl 56 (.tmp 7) rfl q1 rfl 56 #[.int .u8 0, .slice none 0 0] (0, 0) _ P1.out Try.underlying56 rfl (by rw [infoF]; rfl) ?_)
              | (refine wpList_store_row rfl 56 (.tmp 4) (.tmp 58) rfl q #[.int .u8 0, .slice none 0 0] rfl rfl 56 #[.int .u8 0, .slice none 0 0] P0.out (by rw [infoF]; rfl) rfl (frm_one _ _ _ _) ?_))
            have hr := P0.out.setRow #[.int .u8 0, .slice none 0 0]
            exact bodyPost_ret (res_frm3 (p := 4) (u := 5) (v := 6) (ty := 56) rfl _ _ q 56 _ _ rfl hr Try.underlying56 rfl (by rw [infoF]; rfl)) rfl ⟨_, rfl, OwnB.nil_ _ _, below_rowF E5.out hqW _⟩
          | true =>
            rw [frD_F hH hL0 hv2] at hr
            simp only [Prod.mk.injEq] at hr
            obtain ⟨rfl, rfl, rfl, rfl⟩ := hr
            rw [if_pos rfl]
            obtain ⟨b, off, rfl, hbw, hcl⟩ := hb.2.2 (by omega)
            have hk0 : l.getD a 0 = s.getD 0 0 := by rw [← hsd]; simp [List.getD_eq_getElem?_getD]
            have D0 := hcl a (by omega)
            rw [hk0] at D0
            obtain ⟨k, hk⟩ : ∃ k, s.getD 0 0 = k := ⟨_, rfl⟩
            rw [hk] at D0 ⊢
            obtain ⟨p, hp⟩ : ∃ p, (s.drop 9).take V = p := ⟨_, rfl⟩
            rw [hp] at hpb hpl ⊢
            have Hbw := hide hbw
            have D0 := hide D0
            have hpb := hide hpb
            have hpl := hide hpl
            have hix : ∀ w, (Instr.indexAt 22 (.slice (some ⟨b, off, none⟩) c cap) (.int .i64 (a : Int))).run Try.prog w = .ok (.pointer (some ⟨b, off + a, none⟩)) w := fun w => idx8 b off c cap a (by omega) w
            clear hb hc hsd hsl hcl hk0 hk hp hbw hv1 hv2 hVe hH hL0 hs9
            go_enter Try.func61, Try.ntmps61
            go_upto_region 1 with fail
            rw [Hw1.out, Hq.out]
            go_upto_region 2 with (refine wpList_store_row rfl 56 (.tmp 7) (.tmp 10) rfl w1.heap.size #[.int .u8 0, .slice none 0 0] rfl rfl 56 #[.int .u8 0, .slice none 0 0] N1.out (by rw [infoF]; rfl) rfl (frm_one _ _ _ _) ?_)
            rw [Hw2.out, Hqq.out]
            go_upto_region 16 with (first
              | (go_at_call 81; (with_reducible refine (KC1.out _ E1.out).mono ?_); rintro e w3 ⟨rfl, hE⟩; have P0 := hide (P0.out.ext hE); have P1 := hide (P1.out.ext hE); have E3 := hide (Ext.trans E1.out hE); clear hE)
              | (go_at_call 82; (with_reducible refine (KV.out _ E3.out).mono ?_); rintro e w4 ⟨rfl, rfl⟩)
              | (go_at_call 81; (with_reducible refine (KC2.out _ E3.out).mono ?_); rintro e w5 ⟨rfl, hE⟩; have P0 := hide (P0.out.ext hE); have P1 := hide (P1.out.ext hE); have E5 := hide (Ext.trans E3.out hE); clear hE))
            have hq5 := P0.out.lt
            have hqq : q < w5.heap.size := hq5
            have d1 : w5.cell? ⟨b, off + a, none⟩ = some (.int .u8 (k : Int)) := (E5.out.cell (p := ⟨b, off + a, none⟩) Hbw.out).trans D0.out
            have hb5 : b < w5.heap.size := Nat.lt_of_lt_of_le Hbw.out E5.out.size
            have c0 : w5.cell? ⟨q, 0, none⟩ = some (.int .u8 0) := P0.out.cell 0
            have c1 : w5.cell? ⟨q, 1, none⟩ = some (.slice none 0 0) := P0.out.cell 1
            have f0 : w5.frozen? ⟨q, 0, none⟩ = false := P0.out.frozen 0
            have f1 : w5.frozen? ⟨q, 1, none⟩ = false := P0.out.frozen 1
            have O0 := hide (own_of (B := w5.heap.size) (w := w5.drew.alloc (.cells #[] 5)) (g := w5.heap.size) (n := 0) (cap := 0) (l := []) (m := []) (Nat.le_refl _) (heap_alloc_new w5.drew _) rfl rfl (by omega) IsB.nil)
            have E6 : Hid (Ext w5 (w5.drew.alloc (.cells #[] 5))) := Ext.trans (ext_drew w5) (ext_alloc w5.drew (.cells #[] 5))
            have H6 := hide ((hpb.out.ext E5.out).ext E6.out)
            have hl0 : ([] : List Nat).length + p.length ≤ 140737488355328 := by have h1 := hpl.out; simp; omega
            have hsz6 := hide E6.out.size
            have d6 : (w5.drew.alloc (.cells #[] 5)).cell? ⟨b, off + a, none⟩ = some (.int .u8 (k : Int)) := (E6.out.cell (p := ⟨b, off + a, none⟩) hb5).trans d1
            have x1 : IntKind.i64.wrap ((a : Int) + 9) = (a : Int) + 9 := by simp [IntKind.wrap, IntKind.bits, IntKind.signed]; omega
            have x2 : IntKind.i64.wrap ((a : Int) + 13 + (V : Int) - 4) = (a : Int) + 13 + (V : Int) - 4 := by simp [IntKind.wrap, IntKind.bits, IntKind.signed]; omega
            go_region_law (first | (refine step_append8 rfl (.tmp 63) (.tmp 69) rfl w5.heap.size (.slice (some ⟨w5.heap.size, 0, none⟩) 0 0) [] p rfl A3 V (cap - (a + 9)) rfl O0.out H6.out hpl.out hl0 hsz6.out ?_; intro v8 w8 hO8 hG8 hA8; obtain ⟨A8, c8, rfl, -, -, -⟩ := hO8.at_; have E8 := hide (below_grown E6.out (Nat.le_refl _) O0.out hG8); have hO8 := hide hO8; have P8 := hide (P0.out.ext E8.out); have d8 : w8.cell? ⟨b, off + a, none⟩ = some (.int .u8 (k : Int)) := (E8.out.cell (p := ⟨b, off + a, none⟩) hb5).trans d1; have c80 : w8.cell? ⟨q, 0, none⟩ = some (.int .u8 0) := P8.out.cell 0; have c81 : w8.cell? ⟨q, 1, none⟩ = some (.slice none 0 0) := P8.out.cell 1; have f80 : w8.frozen? ⟨q, 0, none⟩ = false := P8.out.frozen 0; have f81 : w8.frozen? ⟨q, 1, none⟩ = false := P8.out.frozen 1; clear hG8 hA8))
            all_goals go_wp2_with fail
            all_goals
              have hr : Blk ((w8.setCell ⟨q, 0, none⟩ (.int .u8 (k : Int))).setCell ⟨q, 1, none⟩ (.slice A8 V c8)) q 56 #[.int .u8 (k : Int), .slice A8 V c8] := (P8.out.set_ 0 (.int .u8 (k : Int))).set_ 1 (.slice A8 V c8)
              have hO9 : OwnB w5.heap.size w8 (.slice A8 V c8) p := by rw [← hpl.out]; exact hO8.out
              have hO10 : OwnB w5.heap.size ((w8.setCell ⟨q, 0, none⟩ (.int .u8 (k : Int))).setCell ⟨q, 1, none⟩ (.slice A8 V c8)) (.slice A8 V c8) p := OwnB.keep hO9 (by simp) (fun g e => by
                have := (hO9.1.lt g e).1
                rw [far_set (by omega), far_set (by omega)])
              have hE9 : Below W.heap.size W ((w8.setCell ⟨q, 0, none⟩ (.int .u8 (k : Int))).setCell ⟨q, 1, none⟩ (.slice A8 V c8)) := Below.setCell (Below.setCell (Ext.trans E5.out E8.out) (p := ⟨q, 0, none⟩) hqW _) (p := ⟨q, 1, none⟩) hqW _
              exact bodyPost_ret (res_frm3 (p := 4) (u := 5) (v := 6) (ty := 56) rfl _ _ q 56 _ _ rfl hr Try.underlying56 rfl (by rw [infoF]; rfl)) rfl ⟨.slice A8 V c8, by rw [show (a : Int) + ((V + 13 : Nat) : Int) = (a : Int) + 13 + (V : Int) by omega]; simp [Act.put], hO10.less E5.out.size, hE9⟩
end Go.Proofs.Ytdboaogdanahkaa
