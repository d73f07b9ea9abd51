/- The law SimplestNests, walked. Conditions: the argument is a list of numbers of 64 bits. -/
import Derived.Test.YtbnbkondbdakeaaSimI
import Derived.Test.YtbnbkondbdakeaaSIns
namespace Go.Proofs.Ytbnbkondbdakeaa
set_option linter.unusedVariables false
set_option linter.unusedSimpArgs false
open Go Go.RowKit Go.Sort
attribute [local go_sem] qUpon putAll slotV
set_option maxRecDepth 100000 in
set_option maxHeartbeats 8000000 in
theorem law_snes (x : Option Addr) (len cap : Nat) (W : World) (hL : IsList W x len cap) : Calls Try.prog 8 #[.slice x len cap] W (BoolRet true W) := by
  have HL := hide hL
  clear hL
  go_enter Try.func8, Try.ntmps8
  go_upto_region 3 with (first
    | (go_at_call 15; (with_reducible refine (t_new W x len cap HL.out).mono ?_); rintro e w1 ⟨rfl, T0, hB⟩)
    | (go_at_call 24; (with_reducible refine (l_near W.heap.size W.heap.size _ _ T0 (Upd.refl _ _)).mono ?_); rintro e w2 ⟨n1, d1, n2, d2, rfl, hF1, hF2, hLe, T1, hU⟩; have HF := hide (And.intro hF1 (And.intro hF2 hLe)); have EE : Hid (Ext W w2) := (Upd.ext (Upd.trans (Ext.upd hB _) hU) (Ext.refl W) (Nat.le_refl _)); clear T0 hU hF1 hF2 hLe))
  have hU := EE.out.size
  have TB := T1.2.1
  have H2 := two_blocks w2 (.cells #[.bool (sg n1), .int .u64 (l0 n1 : Int), .int .u64 (l1 n1 : Int), .int .u64 (l2 n1 : Int), .int .u64 (l3 n1 : Int), .bool (sg d1), .int .u64 (l0 d1 : Int), .int .u64 (l1 d1 : Int), .int .u64 (l2 d1 : Int), .int .u64 (l3 d1 : Int)] 35) (.cells #[.bool (sg n2), .int .u64 (l0 n2 : Int), .int .u64 (l1 n2 : Int), .int .u64 (l2 n2 : Int), .int .u64 (l3 n2 : Int), .bool (sg d2), .int .u64 (l0 d2 : Int), .int .u64 (l1 d2 : Int), .int .u64 (l2 d2 : Int), .int .u64 (l3 d2 : Int)] 35)
  have hb0 := EE.out.size
  have hE := ((ext_alloc w2 (.cells #[.bool (sg n1), .int .u64 (l0 n1 : Int), .int .u64 (l1 n1 : Int), .int .u64 (l2 n1 : Int), .int .u64 (l3 n1 : Int), .bool (sg d1), .int .u64 (l0 d1 : Int), .int .u64 (l1 d1 : Int), .int .u64 (l2 d1 : Int), .int .u64 (l3 d1 : Int)] 35)).trans (ext_alloc _ (.cells #[.bool (sg n2), .int .u64 (l0 n2 : Int), .int .u64 (l1 n2 : Int), .int .u64 (l2 n2 : Int), .int .u64 (l3 n2 : Int), .bool (sg d2), .int .u64 (l0 d2 : Int), .int .u64 (l1 d2 : Int), .int .u64 (l2 d2 : Int), .int .u64 (l3 d2 : Int)] 35)))
  have T1 := T1.ext hE
  have EE := hide (EE.out.trans hE)
  clear hE
  have hbg2 := hb0
  clear hb0
  obtain ⟨W1, hW⟩ : ∃ W, W = ((w2.alloc (.cells #[.bool (sg n1), .int .u64 (l0 n1 : Int), .int .u64 (l1 n1 : Int), .int .u64 (l2 n1 : Int), .int .u64 (l3 n1 : Int), .bool (sg d1), .int .u64 (l0 d1 : Int), .int .u64 (l1 d1 : Int), .int .u64 (l2 d1 : Int), .int .u64 (l3 d1 : Int)] 35)).alloc (.cells #[.bool (sg n2), .int .u64 (l0 n2 : Int), .int .u64 (l1 n2 : Int), .int .u64 (l2 n2 : Int), .int .u64 (l3 n2 : Int), .bool (sg d2), .int .u64 (l0 d2 : Int), .int .u64 (l1 d2 : Int), .int .u64 (l2 d2 : Int), .int .u64 (l3 d2 : Int)] 35)) := ⟨_, rfl⟩
  rw [← hW] at H2 EE T1 ⊢
  obtain ⟨g2, hg⟩ : ∃ g, w2.heap.size = g := ⟨_, rfl⟩
  rw [hg] at H2 hbg2 TB ⊢
  obtain ⟨P4, P5⟩ : Box10 W1 g2 (sg n1) (l0 n1) (l1 n1) (l2 n1) (l3 n1) (sg d1) (l0 d1) (l1 d1) (l2 d1) (l3 d1) ∧ Box10 W1 (g2 + 1) (sg n2) (l0 n2) (l1 n2) (l2 n2) (l3 n2) (sg d2) (l0 d2) (l1 d2) (l2 d2) (l3 d2) := H2
  clear hW hg
  have neP4 : g2 ≠ W.heap.size := by omega
  have neP5 : g2 + 1 ≠ W.heap.size := by omega
  clear hU
  go_upto_region 4 with (go_at_call 37; (with_reducible refine (t_ratio W.heap.size W.heap.size _ _ T1 (Upd.refl _ _)).mono ?_); rintro e w3 ⟨a, b, rfl, hFm, T2, hU⟩; have HM := hide hFm; have P4 := P4.upd hU neP4; have P5 := P5.upd hU neP5; have EE : Hid (Ext W w3) := (Upd.ext hU EE.out (Nat.le_refl _)); clear T1 hU hFm)
  clear T2 TB
  have H2 := heap_alloc_new w3 (.cells #[.bool (sg a), .int .u64 (l0 a : Int), .int .u64 (l1 a : Int), .int .u64 (l2 a : Int), .int .u64 (l3 a : Int), .bool (sg b), .int .u64 (l0 b : Int), .int .u64 (l1 b : Int), .int .u64 (l2 b : Int), .int .u64 (l3 b : Int)] 35)
  have lP4 := P4.lt
  have lP5 := P5.lt
  have hb0 := EE.out.size
  have hE := (ext_alloc w3 (.cells #[.bool (sg a), .int .u64 (l0 a : Int), .int .u64 (l1 a : Int), .int .u64 (l2 a : Int), .int .u64 (l3 a : Int), .bool (sg b), .int .u64 (l0 b : Int), .int .u64 (l1 b : Int), .int .u64 (l2 b : Int), .int .u64 (l3 b : Int)] 35))
  have P4 := P4.ext hE
  have P5 := P5.ext hE
  have EE := hide (EE.out.trans hE)
  clear hE
  have hbg4 := hb0
  clear hb0
  obtain ⟨W3, hW⟩ : ∃ W, W = (w3.alloc (.cells #[.bool (sg a), .int .u64 (l0 a : Int), .int .u64 (l1 a : Int), .int .u64 (l2 a : Int), .int .u64 (l3 a : Int), .bool (sg b), .int .u64 (l0 b : Int), .int .u64 (l1 b : Int), .int .u64 (l2 b : Int), .int .u64 (l3 b : Int)] 35)) := ⟨_, rfl⟩
  rw [← hW] at H2 EE P4 P5 ⊢
  obtain ⟨g4, hg⟩ : ∃ g, w3.heap.size = g := ⟨_, rfl⟩
  rw [hg] at H2 hbg4 lP4 lP5 ⊢
  have P6 : Box10 W3 g4 (sg a) (l0 a) (l1 a) (l2 a) (l3 a) (sg b) (l0 b) (l1 b) (l2 b) (l3 b) := H2
  clear hW hg
  have ngP4P6 : g2 ≠ g4 := by omega
  have ngP5P6 : g2 + 1 ≠ g4 := by omega
  obtain ⟨hF1, hF2, hle⟩ := HF.out
  have hM := HM.out
  obtain ⟨c1, hc1⟩ : ∃ r, cmpI (a * d1) (n1 * b) = r := ⟨_, rfl⟩
  obtain ⟨c2, hc2⟩ : ∃ r, cmpI (a * d2) (n2 * b) = r := ⟨_, rfl⟩
  have kK : Hid (∀ w, Calls Try.prog 25 #[] w (Ret (.bool true) w)) := fun w => l_known w
  have kC1 : Hid (∀ w, Calls Try.prog 29 #[.agg #[.bool (sg a), .int .u64 (l0 a : Int), .int .u64 (l1 a : Int), .int .u64 (l2 a : Int), .int .u64 (l3 a : Int), .bool (sg b), .int .u64 (l0 b : Int), .int .u64 (l1 b : Int), .int .u64 (l2 b : Int), .int .u64 (l3 b : Int)], .agg #[.bool (sg n1), .int .u64 (l0 n1 : Int), .int .u64 (l1 n1 : Int), .int .u64 (l2 n1 : Int), .int .u64 (l3 n1 : Int), .bool (sg d1), .int .u64 (l0 d1 : Int), .int .u64 (l1 d1 : Int), .int .u64 (l2 d1 : Int), .int .u64 (l3 d1 : Int)]] w (Ret (.int .i64 c1) w)) := fun w => h_cmp hM hF1 hc1 w
  have kC2 : Hid (∀ w, Calls Try.prog 29 #[.agg #[.bool (sg a), .int .u64 (l0 a : Int), .int .u64 (l1 a : Int), .int .u64 (l2 a : Int), .int .u64 (l3 a : Int), .bool (sg b), .int .u64 (l0 b : Int), .int .u64 (l1 b : Int), .int .u64 (l2 b : Int), .int .u64 (l3 b : Int)], .agg #[.bool (sg n2), .int .u64 (l0 n2 : Int), .int .u64 (l1 n2 : Int), .int .u64 (l2 n2 : Int), .int .u64 (l3 n2 : Int), .bool (sg d2), .int .u64 (l0 d2 : Int), .int .u64 (l1 d2 : Int), .int .u64 (l2 d2 : Int), .int .u64 (l3 d2 : Int)]] w (Ret (.int .i64 c2) w)) := fun w => h_cmp hM hF2 hc2 w
  by_cases v1 : c1 < 0
  · clear HF HM hF1 hF2 hle hM hc1 hc2
    obtain ⟨xP40, xP41, xP42, xP43, xP44, xP45, xP46, xP47, xP48, xP49, -⟩ := ten_cells P4; obtain ⟨xP60, xP61, xP62, xP63, xP64, xP65, xP66, xP67, xP68, xP69, -⟩ := ten_cells P6
    go_upto_region 5 with (go_at_call 29; (with_reducible refine (kC1.out _).mono ?_); rintro e w5 ⟨rfl, hE⟩; clear xP40 xP41 xP42 xP43 xP44 xP45 xP46 xP47 xP48 xP49 xP60 xP61 xP62 xP63 xP64 xP65 xP66 xP67 xP68 xP69; have P4 := P4.ext hE; have P5 := P5.ext hE; have P6 := P6.ext hE; have EE := hide (EE.out.trans hE); clear hE; obtain ⟨xP40, xP41, xP42, xP43, xP44, xP45, xP46, xP47, xP48, xP49, -⟩ := ten_cells P4; obtain ⟨xP60, xP61, xP62, xP63, xP64, xP65, xP66, xP67, xP68, xP69, -⟩ := ten_cells P6)
    clear xP40 xP41 xP42 xP43 xP44 xP45 xP46 xP47 xP48 xP49 xP60 xP61 xP62 xP63 xP64 xP65 xP66 xP67 xP68 xP69
    go_wp2_with (first
      | (go_at_call 25; (with_reducible refine (kK.out _).mono ?_); rintro e w6 ⟨rfl, hE⟩; have P4 := P4.ext hE; have P5 := P5.ext hE; have P6 := P6.ext hE; have EE := hide (EE.out.trans hE); clear hE))
    go_ret
    exact ⟨rfl, EE.out⟩
  · by_cases v2 : 0 < c2
    · clear HF HM hF1 hF2 hle hM hc1 hc2
      obtain ⟨xP40, xP41, xP42, xP43, xP44, xP45, xP46, xP47, xP48, xP49, -⟩ := ten_cells P4; obtain ⟨xP50, xP51, xP52, xP53, xP54, xP55, xP56, xP57, xP58, xP59, -⟩ := ten_cells P5; obtain ⟨xP60, xP61, xP62, xP63, xP64, xP65, xP66, xP67, xP68, xP69, -⟩ := ten_cells P6
      go_upto_region 5 with (first
        | (go_at_call 29; (with_reducible refine (kC1.out _).mono ?_); rintro e w5 ⟨rfl, hE⟩; clear xP40 xP41 xP42 xP43 xP44 xP45 xP46 xP47 xP48 xP49 xP50 xP51 xP52 xP53 xP54 xP55 xP56 xP57 xP58 xP59 xP60 xP61 xP62 xP63 xP64 xP65 xP66 xP67 xP68 xP69; have P4 := P4.ext hE; have P5 := P5.ext hE; have P6 := P6.ext hE; have EE := hide (EE.out.trans hE); clear hE; obtain ⟨xP40, xP41, xP42, xP43, xP44, xP45, xP46, xP47, xP48, xP49, -⟩ := ten_cells P4; obtain ⟨xP50, xP51, xP52, xP53, xP54, xP55, xP56, xP57, xP58, xP59, -⟩ := ten_cells P5; obtain ⟨xP60, xP61, xP62, xP63, xP64, xP65, xP66, xP67, xP68, xP69, -⟩ := ten_cells P6)
        | (go_at_call 29; (with_reducible refine (kC2.out _).mono ?_); rintro e w6 ⟨rfl, hE⟩; clear xP40 xP41 xP42 xP43 xP44 xP45 xP46 xP47 xP48 xP49 xP50 xP51 xP52 xP53 xP54 xP55 xP56 xP57 xP58 xP59 xP60 xP61 xP62 xP63 xP64 xP65 xP66 xP67 xP68 xP69; have P4 := P4.ext hE; have P5 := P5.ext hE; have P6 := P6.ext hE; have EE := hide (EE.out.trans hE); clear hE; obtain ⟨xP40, xP41, xP42, xP43, xP44, xP45, xP46, xP47, xP48, xP49, -⟩ := ten_cells P4; obtain ⟨xP50, xP51, xP52, xP53, xP54, xP55, xP56, xP57, xP58, xP59, -⟩ := ten_cells P5; obtain ⟨xP60, xP61, xP62, xP63, xP64, xP65, xP66, xP67, xP68, xP69, -⟩ := ten_cells P6))
      clear xP40 xP41 xP42 xP43 xP44 xP45 xP46 xP47 xP48 xP49 xP50 xP51 xP52 xP53 xP54 xP55 xP56 xP57 xP58 xP59 xP60 xP61 xP62 xP63 xP64 xP65 xP66 xP67 xP68 xP69
      go_wp2_with (first
        | (go_at_call 25; (with_reducible refine (kK.out _).mono ?_); rintro e w7 ⟨rfl, hE⟩; have P4 := P4.ext hE; have P5 := P5.ext hE; have P6 := P6.ext hE; have EE := hide (EE.out.trans hE); clear hE))
      go_ret
      exact ⟨rfl, EE.out⟩
    · have m1 : n1 * b ≤ a * d1 := by
        rcases Int.lt_or_le (a * d1) (n1 * b) with h | h
        · exact absurd ((cmpI_lt hc1).1.2 h) v1
        · exact h
      have m2 : a * d2 ≤ n2 * b := by
        rcases Int.lt_or_le (n2 * b) (a * d2) with h | h
        · exact absurd ((cmpI_lt hc2).2.2.2 h) v2
        · exact h
      obtain ⟨n, m, B⟩ := best_some hF1.1 hF2.1 hle
      obtain ⟨p, q, B'⟩ := best_some hF1.1 hM.1 m1
      have hS := B.frac hF1 hF2 hle
      have hR := B'.frac hF1 hM m1
      obtain ⟨c3, hc3⟩ : ∃ r, cmpI (n * b) (a * m) = r := ⟨_, rfl⟩
      have hin := B.2.2.2 p q B'.1 B'.2.1 (frac_trans hR.1 hM.1 hF2.1 B'.2.2.1 m2)
      have heq : ¬ 0 < c3 → n = p ∧ m = q := by
        intro h
        have hnb : n * b ≤ a * m := by
          rcases Int.lt_or_le (a * m) (n * b) with k | k
          · exact absurd ((cmpI_lt hc3).2.2.2 k) h
          · exact k
        have BB : Best n1 d1 a b n m := ⟨B.1, B.2.1, hnb, fun p' q' h0 h1 h2 => B.2.2.2 p' q' h0 h1 (frac_trans h0 hM.1 hF2.1 h2 m2)⟩
        exact Best.unique hF1.1 hM.1 BB B'
      have HEQ := hide heq
      have kB : Hid (∀ w, Calls Try.prog 27 #[.agg #[.bool (sg n1), .int .u64 (l0 n1 : Int), .int .u64 (l1 n1 : Int), .int .u64 (l2 n1 : Int), .int .u64 (l3 n1 : Int), .bool (sg d1), .int .u64 (l0 d1 : Int), .int .u64 (l1 d1 : Int), .int .u64 (l2 d1 : Int), .int .u64 (l3 d1 : Int)], .agg #[.bool (sg n2), .int .u64 (l0 n2 : Int), .int .u64 (l1 n2 : Int), .int .u64 (l2 n2 : Int), .int .u64 (l3 n2 : Int), .bool (sg d2), .int .u64 (l0 d2 : Int), .int .u64 (l1 d2 : Int), .int .u64 (l2 d2 : Int), .int .u64 (l3 d2 : Int)]] w (Ret (.tuple #[.agg #[.bool (sg n), .int .u64 (l0 n : Int), .int .u64 (l1 n : Int), .int .u64 (l2 n : Int), .int .u64 (l3 n : Int), .bool (sg m), .int .u64 (l0 m : Int), .int .u64 (l1 m : Int), .int .u64 (l2 m : Int), .int .u64 (l3 m : Int)], .bool true]) w)) := fun w => s_between hF1 hF2 hle B w
      have kR : Hid (∀ w, Calls Try.prog 27 #[.agg #[.bool (sg n1), .int .u64 (l0 n1 : Int), .int .u64 (l1 n1 : Int), .int .u64 (l2 n1 : Int), .int .u64 (l3 n1 : Int), .bool (sg d1), .int .u64 (l0 d1 : Int), .int .u64 (l1 d1 : Int), .int .u64 (l2 d1 : Int), .int .u64 (l3 d1 : Int)], .agg #[.bool (sg a), .int .u64 (l0 a : Int), .int .u64 (l1 a : Int), .int .u64 (l2 a : Int), .int .u64 (l3 a : Int), .bool (sg b), .int .u64 (l0 b : Int), .int .u64 (l1 b : Int), .int .u64 (l2 b : Int), .int .u64 (l3 b : Int)]] w (Ret (.tuple #[.agg #[.bool (sg p), .int .u64 (l0 p : Int), .int .u64 (l1 p : Int), .int .u64 (l2 p : Int), .int .u64 (l3 p : Int), .bool (sg q), .int .u64 (l0 q : Int), .int .u64 (l1 q : Int), .int .u64 (l2 q : Int), .int .u64 (l3 q : Int)], .bool true]) w)) := fun w => s_between hF1 hM m1 B' w
      have kS : Hid (∀ w, Calls Try.prog 30 #[.agg #[.bool (sg p), .int .u64 (l0 p : Int), .int .u64 (l1 p : Int), .int .u64 (l2 p : Int), .int .u64 (l3 p : Int), .bool (sg q), .int .u64 (l0 q : Int), .int .u64 (l1 q : Int), .int .u64 (l2 q : Int), .int .u64 (l3 q : Int)], .agg #[.bool (sg n), .int .u64 (l0 n : Int), .int .u64 (l1 n : Int), .int .u64 (l2 n : Int), .int .u64 (l3 n : Int), .bool (sg m), .int .u64 (l0 m : Int), .int .u64 (l1 m : Int), .int .u64 (l2 m : Int), .int .u64 (l3 m : Int)]] w (Ret (.bool false) w)) := fun w => s_simpler hR hS false (simB_no hin.1 hin.2) w
      have kC3 : Hid (∀ w, Calls Try.prog 29 #[.agg #[.bool (sg n), .int .u64 (l0 n : Int), .int .u64 (l1 n : Int), .int .u64 (l2 n : Int), .int .u64 (l3 n : Int), .bool (sg m), .int .u64 (l0 m : Int), .int .u64 (l1 m : Int), .int .u64 (l2 m : Int), .int .u64 (l3 m : Int)], .agg #[.bool (sg a), .int .u64 (l0 a : Int), .int .u64 (l1 a : Int), .int .u64 (l2 a : Int), .int .u64 (l3 a : Int), .bool (sg b), .int .u64 (l0 b : Int), .int .u64 (l1 b : Int), .int .u64 (l2 b : Int), .int .u64 (l3 b : Int)]] w (Ret (.int .i64 c3) w)) := fun w => h_cmp hS hM hc3 w
      clear HF HM hF1 hF2 hle hM hc1 hc2 m1 m2 B B' hS hR hc3 hin heq
      obtain ⟨xP40, xP41, xP42, xP43, xP44, xP45, xP46, xP47, xP48, xP49, -⟩ := ten_cells P4; obtain ⟨xP50, xP51, xP52, xP53, xP54, xP55, xP56, xP57, xP58, xP59, -⟩ := ten_cells P5; obtain ⟨xP60, xP61, xP62, xP63, xP64, xP65, xP66, xP67, xP68, xP69, -⟩ := ten_cells P6
      go_upto_region 6 with (first
        | (go_at_call 29; (with_reducible refine (kC1.out _).mono ?_); rintro e w5 ⟨rfl, hE⟩; clear xP40 xP41 xP42 xP43 xP44 xP45 xP46 xP47 xP48 xP49 xP50 xP51 xP52 xP53 xP54 xP55 xP56 xP57 xP58 xP59 xP60 xP61 xP62 xP63 xP64 xP65 xP66 xP67 xP68 xP69; have P4 := P4.ext hE; have P5 := P5.ext hE; have P6 := P6.ext hE; have EE := hide (EE.out.trans hE); clear hE; obtain ⟨xP40, xP41, xP42, xP43, xP44, xP45, xP46, xP47, xP48, xP49, -⟩ := ten_cells P4; obtain ⟨xP50, xP51, xP52, xP53, xP54, xP55, xP56, xP57, xP58, xP59, -⟩ := ten_cells P5; obtain ⟨xP60, xP61, xP62, xP63, xP64, xP65, xP66, xP67, xP68, xP69, -⟩ := ten_cells P6)
        | (go_at_call 29; (with_reducible refine (kC2.out _).mono ?_); rintro e w6 ⟨rfl, hE⟩; clear xP40 xP41 xP42 xP43 xP44 xP45 xP46 xP47 xP48 xP49 xP50 xP51 xP52 xP53 xP54 xP55 xP56 xP57 xP58 xP59 xP60 xP61 xP62 xP63 xP64 xP65 xP66 xP67 xP68 xP69; have P4 := P4.ext hE; have P5 := P5.ext hE; have P6 := P6.ext hE; have EE := hide (EE.out.trans hE); clear hE; obtain ⟨xP40, xP41, xP42, xP43, xP44, xP45, xP46, xP47, xP48, xP49, -⟩ := ten_cells P4; obtain ⟨xP50, xP51, xP52, xP53, xP54, xP55, xP56, xP57, xP58, xP59, -⟩ := ten_cells P5; obtain ⟨xP60, xP61, xP62, xP63, xP64, xP65, xP66, xP67, xP68, xP69, -⟩ := ten_cells P6))
      clear xP40 xP41 xP42 xP43 xP44 xP45 xP46 xP47 xP48 xP49 xP50 xP51 xP52 xP53 xP54 xP55 xP56 xP57 xP58 xP59 xP60 xP61 xP62 xP63 xP64 xP65 xP66 xP67 xP68 xP69
      obtain ⟨xP40, xP41, xP42, xP43, xP44, xP45, xP46, xP47, xP48, xP49, -⟩ := ten_cells P4; obtain ⟨xP50, xP51, xP52, xP53, xP54, xP55, xP56, xP57, xP58, xP59, -⟩ := ten_cells P5
      go_upto_region 7 with (go_at_call 27; (with_reducible refine (kB.out _).mono ?_); rintro e w7 ⟨rfl, hE⟩; clear xP40 xP41 xP42 xP43 xP44 xP45 xP46 xP47 xP48 xP49 xP50 xP51 xP52 xP53 xP54 xP55 xP56 xP57 xP58 xP59; have P4 := P4.ext hE; have P5 := P5.ext hE; have P6 := P6.ext hE; have EE := hide (EE.out.trans hE); clear hE; obtain ⟨xP40, xP41, xP42, xP43, xP44, xP45, xP46, xP47, xP48, xP49, -⟩ := ten_cells P4; obtain ⟨xP50, xP51, xP52, xP53, xP54, xP55, xP56, xP57, xP58, xP59, -⟩ := ten_cells P5)
      clear xP40 xP41 xP42 xP43 xP44 xP45 xP46 xP47 xP48 xP49 xP50 xP51 xP52 xP53 xP54 xP55 xP56 xP57 xP58 xP59
      have H2 := heap_alloc_new w7 (.cells #[.bool (sg n), .int .u64 (l0 n : Int), .int .u64 (l1 n : Int), .int .u64 (l2 n : Int), .int .u64 (l3 n : Int), .bool (sg m), .int .u64 (l0 m : Int), .int .u64 (l1 m : Int), .int .u64 (l2 m : Int), .int .u64 (l3 m : Int)] 35)
      have lP4 := P4.lt
      have lP5 := P5.lt
      have lP6 := P6.lt
      have hb0 := EE.out.size
      have hE := (ext_alloc w7 (.cells #[.bool (sg n), .int .u64 (l0 n : Int), .int .u64 (l1 n : Int), .int .u64 (l2 n : Int), .int .u64 (l3 n : Int), .bool (sg m), .int .u64 (l0 m : Int), .int .u64 (l1 m : Int), .int .u64 (l2 m : Int), .int .u64 (l3 m : Int)] 35))
      have P4 := P4.ext hE
      have P5 := P5.ext hE
      have P6 := P6.ext hE
      have EE := hide (EE.out.trans hE)
      clear hE
      have hbg9 := hb0
      clear hb0
      obtain ⟨W8, hW⟩ : ∃ W, W = (w7.alloc (.cells #[.bool (sg n), .int .u64 (l0 n : Int), .int .u64 (l1 n : Int), .int .u64 (l2 n : Int), .int .u64 (l3 n : Int), .bool (sg m), .int .u64 (l0 m : Int), .int .u64 (l1 m : Int), .int .u64 (l2 m : Int), .int .u64 (l3 m : Int)] 35)) := ⟨_, rfl⟩
      rw [← hW] at H2 EE P4 P5 P6 ⊢
      obtain ⟨g9, hg⟩ : ∃ g, w7.heap.size = g := ⟨_, rfl⟩
      rw [hg] at H2 hbg9 lP4 lP5 lP6 ⊢
      have P7 : Box10 W8 g9 (sg n) (l0 n) (l1 n) (l2 n) (l3 n) (sg m) (l0 m) (l1 m) (l2 m) (l3 m) := H2
      clear hW hg
      have ngP4P7 : g2 ≠ g9 := by omega
      have ngP5P7 : g2 + 1 ≠ g9 := by omega
      have ngP6P7 : g4 ≠ g9 := by omega
      obtain ⟨xP40, xP41, xP42, xP43, xP44, xP45, xP46, xP47, xP48, xP49, -⟩ := ten_cells P4; obtain ⟨xP60, xP61, xP62, xP63, xP64, xP65, xP66, xP67, xP68, xP69, -⟩ := ten_cells P6
      go_upto_region 8 with (go_at_call 27; (with_reducible refine (kR.out _).mono ?_); rintro e w10 ⟨rfl, hE⟩; clear xP40 xP41 xP42 xP43 xP44 xP45 xP46 xP47 xP48 xP49 xP60 xP61 xP62 xP63 xP64 xP65 xP66 xP67 xP68 xP69; have P4 := P4.ext hE; have P5 := P5.ext hE; have P6 := P6.ext hE; have P7 := P7.ext hE; have EE := hide (EE.out.trans hE); clear hE; obtain ⟨xP40, xP41, xP42, xP43, xP44, xP45, xP46, xP47, xP48, xP49, -⟩ := ten_cells P4; obtain ⟨xP60, xP61, xP62, xP63, xP64, xP65, xP66, xP67, xP68, xP69, -⟩ := ten_cells P6)
      clear xP40 xP41 xP42 xP43 xP44 xP45 xP46 xP47 xP48 xP49 xP60 xP61 xP62 xP63 xP64 xP65 xP66 xP67 xP68 xP69
      have H2 := heap_alloc_new w10 (.cells #[.bool (sg p), .int .u64 (l0 p : Int), .int .u64 (l1 p : Int), .int .u64 (l2 p : Int), .int .u64 (l3 p : Int), .bool (sg q), .int .u64 (l0 q : Int), .int .u64 (l1 q : Int), .int .u64 (l2 q : Int), .int .u64 (l3 q : Int)] 35)
      have lP4 := P4.lt
      have lP5 := P5.lt
      have lP6 := P6.lt
      have lP7 := P7.lt
      have hb0 := EE.out.size
      have hE := (ext_alloc w10 (.cells #[.bool (sg p), .int .u64 (l0 p : Int), .int .u64 (l1 p : Int), .int .u64 (l2 p : Int), .int .u64 (l3 p : Int), .bool (sg q), .int .u64 (l0 q : Int), .int .u64 (l1 q : Int), .int .u64 (l2 q : Int), .int .u64 (l3 q : Int)] 35))
      have P4 := P4.ext hE
      have P5 := P5.ext hE
      have P6 := P6.ext hE
      have P7 := P7.ext hE
      have EE := hide (EE.out.trans hE)
      clear hE
      have hbg12 := hb0
      clear hb0
      obtain ⟨W11, hW⟩ : ∃ W, W = (w10.alloc (.cells #[.bool (sg p), .int .u64 (l0 p : Int), .int .u64 (l1 p : Int), .int .u64 (l2 p : Int), .int .u64 (l3 p : Int), .bool (sg q), .int .u64 (l0 q : Int), .int .u64 (l1 q : Int), .int .u64 (l2 q : Int), .int .u64 (l3 q : Int)] 35)) := ⟨_, rfl⟩
      rw [← hW] at H2 EE P4 P5 P6 P7 ⊢
      obtain ⟨g12, hg⟩ : ∃ g, w10.heap.size = g := ⟨_, rfl⟩
      rw [hg] at H2 hbg12 lP4 lP5 lP6 lP7 ⊢
      have P9 : Box10 W11 g12 (sg p) (l0 p) (l1 p) (l2 p) (l3 p) (sg q) (l0 q) (l1 q) (l2 q) (l3 q) := H2
      clear hW hg
      have ngP4P9 : g2 ≠ g12 := by omega
      have ngP5P9 : g2 + 1 ≠ g12 := by omega
      have ngP6P9 : g4 ≠ g12 := by omega
      have ngP7P9 : g9 ≠ g12 := by omega
      by_cases v3 : 0 < c3
      · clear HEQ
        obtain ⟨xP60, xP61, xP62, xP63, xP64, xP65, xP66, xP67, xP68, xP69, -⟩ := ten_cells P6; obtain ⟨xP70, xP71, xP72, xP73, xP74, xP75, xP76, xP77, xP78, xP79, -⟩ := ten_cells P7; obtain ⟨xP90, xP91, xP92, xP93, xP94, xP95, xP96, xP97, xP98, xP99, -⟩ := ten_cells P9
        go_wp2_with (first
          | (go_at_call 25; (with_reducible refine (kK.out _).mono ?_); rintro e w13 ⟨rfl, hE⟩; clear xP60 xP61 xP62 xP63 xP64 xP65 xP66 xP67 xP68 xP69 xP70 xP71 xP72 xP73 xP74 xP75 xP76 xP77 xP78 xP79 xP90 xP91 xP92 xP93 xP94 xP95 xP96 xP97 xP98 xP99; have P4 := P4.ext hE; have P5 := P5.ext hE; have P6 := P6.ext hE; have P7 := P7.ext hE; have P9 := P9.ext hE; have EE := hide (EE.out.trans hE); clear hE; obtain ⟨xP60, xP61, xP62, xP63, xP64, xP65, xP66, xP67, xP68, xP69, -⟩ := ten_cells P6; obtain ⟨xP70, xP71, xP72, xP73, xP74, xP75, xP76, xP77, xP78, xP79, -⟩ := ten_cells P7; obtain ⟨xP90, xP91, xP92, xP93, xP94, xP95, xP96, xP97, xP98, xP99, -⟩ := ten_cells P9)
          | (go_at_call 30; (with_reducible refine (kS.out _).mono ?_); rintro e w14 ⟨rfl, hE⟩; clear xP60 xP61 xP62 xP63 xP64 xP65 xP66 xP67 xP68 xP69 xP70 xP71 xP72 xP73 xP74 xP75 xP76 xP77 xP78 xP79 xP90 xP91 xP92 xP93 xP94 xP95 xP96 xP97 xP98 xP99; have P4 := P4.ext hE; have P5 := P5.ext hE; have P6 := P6.ext hE; have P7 := P7.ext hE; have P9 := P9.ext hE; have EE := hide (EE.out.trans hE); clear hE; obtain ⟨xP60, xP61, xP62, xP63, xP64, xP65, xP66, xP67, xP68, xP69, -⟩ := ten_cells P6; obtain ⟨xP70, xP71, xP72, xP73, xP74, xP75, xP76, xP77, xP78, xP79, -⟩ := ten_cells P7; obtain ⟨xP90, xP91, xP92, xP93, xP94, xP95, xP96, xP97, xP98, xP99, -⟩ := ten_cells P9)
          | (go_at_call 29; (with_reducible refine (kC3.out _).mono ?_); rintro e w15 ⟨rfl, hE⟩; clear xP60 xP61 xP62 xP63 xP64 xP65 xP66 xP67 xP68 xP69 xP70 xP71 xP72 xP73 xP74 xP75 xP76 xP77 xP78 xP79 xP90 xP91 xP92 xP93 xP94 xP95 xP96 xP97 xP98 xP99; have P4 := P4.ext hE; have P5 := P5.ext hE; have P6 := P6.ext hE; have P7 := P7.ext hE; have P9 := P9.ext hE; have EE := hide (EE.out.trans hE); clear hE; obtain ⟨xP60, xP61, xP62, xP63, xP64, xP65, xP66, xP67, xP68, xP69, -⟩ := ten_cells P6; obtain ⟨xP70, xP71, xP72, xP73, xP74, xP75, xP76, xP77, xP78, xP79, -⟩ := ten_cells P7; obtain ⟨xP90, xP91, xP92, xP93, xP94, xP95, xP96, xP97, xP98, xP99, -⟩ := ten_cells P9))
        go_ret
        exact ⟨rfl, EE.out⟩
      · obtain ⟨e1, e2⟩ := HEQ.out (by omega)
        subst e1 e2
        clear HEQ
        have qe := eqRs n m
        obtain ⟨xP60, xP61, xP62, xP63, xP64, xP65, xP66, xP67, xP68, xP69, -⟩ := ten_cells P6; obtain ⟨xP70, xP71, xP72, xP73, xP74, xP75, xP76, xP77, xP78, xP79, -⟩ := ten_cells P7; obtain ⟨xP90, xP91, xP92, xP93, xP94, xP95, xP96, xP97, xP98, xP99, -⟩ := ten_cells P9
        go_wp2_with (first
          | (go_at_call 25; (with_reducible refine (kK.out _).mono ?_); rintro e w13 ⟨rfl, hE⟩; clear xP60 xP61 xP62 xP63 xP64 xP65 xP66 xP67 xP68 xP69 xP70 xP71 xP72 xP73 xP74 xP75 xP76 xP77 xP78 xP79 xP90 xP91 xP92 xP93 xP94 xP95 xP96 xP97 xP98 xP99; have P4 := P4.ext hE; have P5 := P5.ext hE; have P6 := P6.ext hE; have P7 := P7.ext hE; have P9 := P9.ext hE; have EE := hide (EE.out.trans hE); clear hE; obtain ⟨xP60, xP61, xP62, xP63, xP64, xP65, xP66, xP67, xP68, xP69, -⟩ := ten_cells P6; obtain ⟨xP70, xP71, xP72, xP73, xP74, xP75, xP76, xP77, xP78, xP79, -⟩ := ten_cells P7; obtain ⟨xP90, xP91, xP92, xP93, xP94, xP95, xP96, xP97, xP98, xP99, -⟩ := ten_cells P9)
          | (go_at_call 30; (with_reducible refine (kS.out _).mono ?_); rintro e w14 ⟨rfl, hE⟩; clear xP60 xP61 xP62 xP63 xP64 xP65 xP66 xP67 xP68 xP69 xP70 xP71 xP72 xP73 xP74 xP75 xP76 xP77 xP78 xP79 xP90 xP91 xP92 xP93 xP94 xP95 xP96 xP97 xP98 xP99; have P4 := P4.ext hE; have P5 := P5.ext hE; have P6 := P6.ext hE; have P7 := P7.ext hE; have P9 := P9.ext hE; have EE := hide (EE.out.trans hE); clear hE; obtain ⟨xP60, xP61, xP62, xP63, xP64, xP65, xP66, xP67, xP68, xP69, -⟩ := ten_cells P6; obtain ⟨xP70, xP71, xP72, xP73, xP74, xP75, xP76, xP77, xP78, xP79, -⟩ := ten_cells P7; obtain ⟨xP90, xP91, xP92, xP93, xP94, xP95, xP96, xP97, xP98, xP99, -⟩ := ten_cells P9)
          | (go_at_call 29; (with_reducible refine (kC3.out _).mono ?_); rintro e w15 ⟨rfl, hE⟩; clear xP60 xP61 xP62 xP63 xP64 xP65 xP66 xP67 xP68 xP69 xP70 xP71 xP72 xP73 xP74 xP75 xP76 xP77 xP78 xP79 xP90 xP91 xP92 xP93 xP94 xP95 xP96 xP97 xP98 xP99; have P4 := P4.ext hE; have P5 := P5.ext hE; have P6 := P6.ext hE; have P7 := P7.ext hE; have P9 := P9.ext hE; have EE := hide (EE.out.trans hE); clear hE; obtain ⟨xP60, xP61, xP62, xP63, xP64, xP65, xP66, xP67, xP68, xP69, -⟩ := ten_cells P6; obtain ⟨xP70, xP71, xP72, xP73, xP74, xP75, xP76, xP77, xP78, xP79, -⟩ := ten_cells P7; obtain ⟨xP90, xP91, xP92, xP93, xP94, xP95, xP96, xP97, xP98, xP99, -⟩ := ten_cells P9))
        go_ret
        exact ⟨rfl, EE.out⟩
end Go.Proofs.Ytbnbkondbdakeaa
