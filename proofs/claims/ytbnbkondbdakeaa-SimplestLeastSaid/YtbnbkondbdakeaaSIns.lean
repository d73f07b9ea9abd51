/- The law SimplestInside, walked. Conditions: the argument is a list of numbers of 64 bits. -/
import Derived.Test.YtbnbkondbdakeaaSimI
namespace Go.Proofs.Ytbnbkondbdakeaa
set_option linter.unusedVariables false
set_option linter.unusedSimpArgs false
open Go Go.RowKit Go.Sort
attribute [local go_sem] qUpon putAll slotV
theorem Best.frac {n1 d1 n2 d2 n m : Int} (h1 : Frac n1 d1) (h2 : Frac n2 d2) (hle : n1 * d2 ≤ n2 * d1) (B : Best n1 d1 n2 d2 n m) : Frac n m := by
  have S := (B.small h1.1 h2.1 hle).1
  have a := h1.2.1
  have b := h1.2.2.1
  have c := h1.1
  have e := B.1
  exact ⟨e, by omega, by omega, B.gcd h1.1 h2.1⟩
theorem simB_no {a b c d : Int} (h1 : d ≤ b) (h2 : c.natAbs ≤ a.natAbs) : simB a b c d = false := by
  unfold simB; rw [decide_eq_false_iff_not]; omega
theorem le_of_cmp {x y r : Int} (h : cmpI x y = r) (hle : x ≤ y) : r ≤ 0 := by
  rcases Int.lt_or_le 0 r with k | k
  · have := (cmpI_lt h).2.2.1 k; omega
  · exact k
set_option maxRecDepth 100000 in
set_option maxHeartbeats 8000000 in
theorem law_sins (x : Option Addr) (len cap : Nat) (W : World) (hL : IsList W x len cap) : Calls Try.prog 5 #[.slice x len cap] W (BoolRet true W) := by
  have HL := hide hL
  clear hL
  go_enter Try.func5, Try.ntmps5
  go_upto_region 2 with (first
    | (go_at_call 15; (with_reducible refine (t_new W x len cap HL.out).mono ?_); rintro e w1 ⟨rfl, T0, hB⟩)
    | (go_at_call 24; (with_reducible refine (l_near W.heap.size W.heap.size _ _ T0 (Upd.refl _ _)).mono ?_); rintro e w2 ⟨n1, d1, n2, d2, rfl, hF1, hF2, hLe, T1, hU⟩; have HF := hide (And.intro hF1 (And.intro hF2 hLe)); have EE : Hid (Ext W w2) := (Upd.ext (Upd.trans (Ext.upd hB _) hU) (Ext.refl W) (Nat.le_refl _)); clear T0 hU hF1 hF2 hLe))
  have H2 := two_blocks w2 (.cells #[.bool (sg n1), .int .u64 (l0 n1 : Int), .int .u64 (l1 n1 : Int), .int .u64 (l2 n1 : Int), .int .u64 (l3 n1 : Int), .bool (sg d1), .int .u64 (l0 d1 : Int), .int .u64 (l1 d1 : Int), .int .u64 (l2 d1 : Int), .int .u64 (l3 d1 : Int)] 35) (.cells #[.bool (sg n2), .int .u64 (l0 n2 : Int), .int .u64 (l1 n2 : Int), .int .u64 (l2 n2 : Int), .int .u64 (l3 n2 : Int), .bool (sg d2), .int .u64 (l0 d2 : Int), .int .u64 (l1 d2 : Int), .int .u64 (l2 d2 : Int), .int .u64 (l3 d2 : Int)] 35)
  have hE := ((ext_alloc w2 (.cells #[.bool (sg n1), .int .u64 (l0 n1 : Int), .int .u64 (l1 n1 : Int), .int .u64 (l2 n1 : Int), .int .u64 (l3 n1 : Int), .bool (sg d1), .int .u64 (l0 d1 : Int), .int .u64 (l1 d1 : Int), .int .u64 (l2 d1 : Int), .int .u64 (l3 d1 : Int)] 35)).trans (ext_alloc _ (.cells #[.bool (sg n2), .int .u64 (l0 n2 : Int), .int .u64 (l1 n2 : Int), .int .u64 (l2 n2 : Int), .int .u64 (l3 n2 : Int), .bool (sg d2), .int .u64 (l0 d2 : Int), .int .u64 (l1 d2 : Int), .int .u64 (l2 d2 : Int), .int .u64 (l3 d2 : Int)] 35)))
  have EE := hide (EE.out.trans hE)
  clear hE
  obtain ⟨W1, hW⟩ : ∃ W, W = ((w2.alloc (.cells #[.bool (sg n1), .int .u64 (l0 n1 : Int), .int .u64 (l1 n1 : Int), .int .u64 (l2 n1 : Int), .int .u64 (l3 n1 : Int), .bool (sg d1), .int .u64 (l0 d1 : Int), .int .u64 (l1 d1 : Int), .int .u64 (l2 d1 : Int), .int .u64 (l3 d1 : Int)] 35)).alloc (.cells #[.bool (sg n2), .int .u64 (l0 n2 : Int), .int .u64 (l1 n2 : Int), .int .u64 (l2 n2 : Int), .int .u64 (l3 n2 : Int), .bool (sg d2), .int .u64 (l0 d2 : Int), .int .u64 (l1 d2 : Int), .int .u64 (l2 d2 : Int), .int .u64 (l3 d2 : Int)] 35)) := ⟨_, rfl⟩
  rw [← hW] at H2 EE  ⊢
  obtain ⟨g2, hg⟩ : ∃ g, w2.heap.size = g := ⟨_, rfl⟩
  rw [hg] at H2  ⊢
  obtain ⟨P3, P4⟩ : Box10 W1 g2 (sg n1) (l0 n1) (l1 n1) (l2 n1) (l3 n1) (sg d1) (l0 d1) (l1 d1) (l2 d1) (l3 d1) ∧ Box10 W1 (g2 + 1) (sg n2) (l0 n2) (l1 n2) (l2 n2) (l3 n2) (sg d2) (l0 d2) (l1 d2) (l2 d2) (l3 d2) := H2
  clear hW hg
  clear T1
  obtain ⟨hF1, hF2, hle⟩ := HF.out
  obtain ⟨n, m, B⟩ := best_some hF1.1 hF2.1 hle
  have hS := B.frac hF1 hF2 hle
  have hs := B.small hF1.1 hF2.1 hle
  obtain ⟨c1, hc1⟩ : ∃ r, cmpI (n1 * m) (n * d1) = r := ⟨_, rfl⟩
  obtain ⟨c2, hc2⟩ : ∃ r, cmpI (n * d2) (n2 * m) = r := ⟨_, rfl⟩
  have h1 : c1 ≤ 0 := le_of_cmp hc1 B.2.1
  have h2 : c2 ≤ 0 := le_of_cmp hc2 B.2.2.1
  have kK : Hid (∀ w, Calls Try.prog 25 #[] w (Ret (.bool true) w)) := fun w => l_known w
  have kB : Hid (∀ w, Calls Try.prog 27 #[.agg #[.bool (sg n1), .int .u64 (l0 n1 : Int), .int .u64 (l1 n1 : Int), .int .u64 (l2 n1 : Int), .int .u64 (l3 n1 : Int), .bool (sg d1), .int .u64 (l0 d1 : Int), .int .u64 (l1 d1 : Int), .int .u64 (l2 d1 : Int), .int .u64 (l3 d1 : Int)], .agg #[.bool (sg n2), .int .u64 (l0 n2 : Int), .int .u64 (l1 n2 : Int), .int .u64 (l2 n2 : Int), .int .u64 (l3 n2 : Int), .bool (sg d2), .int .u64 (l0 d2 : Int), .int .u64 (l1 d2 : Int), .int .u64 (l2 d2 : Int), .int .u64 (l3 d2 : Int)]] w (Ret (.tuple #[.agg #[.bool (sg n), .int .u64 (l0 n : Int), .int .u64 (l1 n : Int), .int .u64 (l2 n : Int), .int .u64 (l3 n : Int), .bool (sg m), .int .u64 (l0 m : Int), .int .u64 (l1 m : Int), .int .u64 (l2 m : Int), .int .u64 (l3 m : Int)], .bool true]) w)) := fun w => s_between hF1 hF2 hle B w
  have kV : Hid (∀ w, Calls Try.prog 28 #[.agg #[.bool (sg n), .int .u64 (l0 n : Int), .int .u64 (l1 n : Int), .int .u64 (l2 n : Int), .int .u64 (l3 n : Int), .bool (sg m), .int .u64 (l0 m : Int), .int .u64 (l1 m : Int), .int .u64 (l2 m : Int), .int .u64 (l3 m : Int)]] w (Ret (.bool true) w)) := fun w => h_valid hS w
  have kC1 : Hid (∀ w, Calls Try.prog 29 #[.agg #[.bool (sg n1), .int .u64 (l0 n1 : Int), .int .u64 (l1 n1 : Int), .int .u64 (l2 n1 : Int), .int .u64 (l3 n1 : Int), .bool (sg d1), .int .u64 (l0 d1 : Int), .int .u64 (l1 d1 : Int), .int .u64 (l2 d1 : Int), .int .u64 (l3 d1 : Int)], .agg #[.bool (sg n), .int .u64 (l0 n : Int), .int .u64 (l1 n : Int), .int .u64 (l2 n : Int), .int .u64 (l3 n : Int), .bool (sg m), .int .u64 (l0 m : Int), .int .u64 (l1 m : Int), .int .u64 (l2 m : Int), .int .u64 (l3 m : Int)]] w (Ret (.int .i64 c1) w)) := fun w => h_cmp hF1 hS hc1 w
  have kC2 : Hid (∀ w, Calls Try.prog 29 #[.agg #[.bool (sg n), .int .u64 (l0 n : Int), .int .u64 (l1 n : Int), .int .u64 (l2 n : Int), .int .u64 (l3 n : Int), .bool (sg m), .int .u64 (l0 m : Int), .int .u64 (l1 m : Int), .int .u64 (l2 m : Int), .int .u64 (l3 m : Int)], .agg #[.bool (sg n2), .int .u64 (l0 n2 : Int), .int .u64 (l1 n2 : Int), .int .u64 (l2 n2 : Int), .int .u64 (l3 n2 : Int), .bool (sg d2), .int .u64 (l0 d2 : Int), .int .u64 (l1 d2 : Int), .int .u64 (l2 d2 : Int), .int .u64 (l3 d2 : Int)]] w (Ret (.int .i64 c2) w)) := fun w => h_cmp hS hF2 hc2 w
  have kS1 : Hid (∀ w, Calls Try.prog 30 #[.agg #[.bool (sg n1), .int .u64 (l0 n1 : Int), .int .u64 (l1 n1 : Int), .int .u64 (l2 n1 : Int), .int .u64 (l3 n1 : Int), .bool (sg d1), .int .u64 (l0 d1 : Int), .int .u64 (l1 d1 : Int), .int .u64 (l2 d1 : Int), .int .u64 (l3 d1 : Int)], .agg #[.bool (sg n), .int .u64 (l0 n : Int), .int .u64 (l1 n : Int), .int .u64 (l2 n : Int), .int .u64 (l3 n : Int), .bool (sg m), .int .u64 (l0 m : Int), .int .u64 (l1 m : Int), .int .u64 (l2 m : Int), .int .u64 (l3 m : Int)]] w (Ret (.bool false) w)) := fun w => s_simpler hF1 hS false (simB_no hs.1.1 hs.1.2) w
  have kS2 : Hid (∀ w, Calls Try.prog 30 #[.agg #[.bool (sg n2), .int .u64 (l0 n2 : Int), .int .u64 (l1 n2 : Int), .int .u64 (l2 n2 : Int), .int .u64 (l3 n2 : Int), .bool (sg d2), .int .u64 (l0 d2 : Int), .int .u64 (l1 d2 : Int), .int .u64 (l2 d2 : Int), .int .u64 (l3 d2 : Int)], .agg #[.bool (sg n), .int .u64 (l0 n : Int), .int .u64 (l1 n : Int), .int .u64 (l2 n : Int), .int .u64 (l3 n : Int), .bool (sg m), .int .u64 (l0 m : Int), .int .u64 (l1 m : Int), .int .u64 (l2 m : Int), .int .u64 (l3 m : Int)]] w (Ret (.bool false) w)) := fun w => s_simpler hF2 hS false (simB_no hs.2.1 hs.2.2) w
  clear HF hF1 hF2 hle B hS hs hc1 hc2
  obtain ⟨xP30, xP31, xP32, xP33, xP34, xP35, xP36, xP37, xP38, xP39, -⟩ := ten_cells P3; obtain ⟨xP40, xP41, xP42, xP43, xP44, xP45, xP46, xP47, xP48, xP49, -⟩ := ten_cells P4
  go_upto_region 3 with (go_at_call 27; (with_reducible refine (kB.out _).mono ?_); rintro e w3 ⟨rfl, hE⟩; clear xP30 xP31 xP32 xP33 xP34 xP35 xP36 xP37 xP38 xP39 xP40 xP41 xP42 xP43 xP44 xP45 xP46 xP47 xP48 xP49; have P3 := P3.ext hE; have P4 := P4.ext hE; have EE := hide (EE.out.trans hE); clear hE; obtain ⟨xP30, xP31, xP32, xP33, xP34, xP35, xP36, xP37, xP38, xP39, -⟩ := ten_cells P3; obtain ⟨xP40, xP41, xP42, xP43, xP44, xP45, xP46, xP47, xP48, xP49, -⟩ := ten_cells P4)
  clear xP30 xP31 xP32 xP33 xP34 xP35 xP36 xP37 xP38 xP39 xP40 xP41 xP42 xP43 xP44 xP45 xP46 xP47 xP48 xP49
  have H2 := heap_alloc_new w3 (.cells #[.bool (sg n), .int .u64 (l0 n : Int), .int .u64 (l1 n : Int), .int .u64 (l2 n : Int), .int .u64 (l3 n : Int), .bool (sg m), .int .u64 (l0 m : Int), .int .u64 (l1 m : Int), .int .u64 (l2 m : Int), .int .u64 (l3 m : Int)] 35)
  have lP3 := P3.lt
  have lP4 := P4.lt
  have hE := (ext_alloc w3 (.cells #[.bool (sg n), .int .u64 (l0 n : Int), .int .u64 (l1 n : Int), .int .u64 (l2 n : Int), .int .u64 (l3 n : Int), .bool (sg m), .int .u64 (l0 m : Int), .int .u64 (l1 m : Int), .int .u64 (l2 m : Int), .int .u64 (l3 m : Int)] 35))
  have P3 := P3.ext hE
  have P4 := P4.ext hE
  have EE := hide (EE.out.trans hE)
  clear hE
  obtain ⟨W4, hW⟩ : ∃ W, W = (w3.alloc (.cells #[.bool (sg n), .int .u64 (l0 n : Int), .int .u64 (l1 n : Int), .int .u64 (l2 n : Int), .int .u64 (l3 n : Int), .bool (sg m), .int .u64 (l0 m : Int), .int .u64 (l1 m : Int), .int .u64 (l2 m : Int), .int .u64 (l3 m : Int)] 35)) := ⟨_, rfl⟩
  rw [← hW] at H2 EE P3 P4 ⊢
  obtain ⟨g5, hg⟩ : ∃ g, w3.heap.size = g := ⟨_, rfl⟩
  rw [hg] at H2 lP3 lP4 ⊢
  have P5 : Box10 W4 g5 (sg n) (l0 n) (l1 n) (l2 n) (l3 n) (sg m) (l0 m) (l1 m) (l2 m) (l3 m) := H2
  clear hW hg
  have ngP3P5 : g2 ≠ g5 := by omega
  have ngP4P5 : g2 + 1 ≠ g5 := by omega
  obtain ⟨xP30, xP31, xP32, xP33, xP34, xP35, xP36, xP37, xP38, xP39, -⟩ := ten_cells P3; obtain ⟨xP40, xP41, xP42, xP43, xP44, xP45, xP46, xP47, xP48, xP49, -⟩ := ten_cells P4; obtain ⟨xP50, xP51, xP52, xP53, xP54, xP55, xP56, xP57, xP58, xP59, -⟩ := ten_cells P5
  go_wp2_with (first
    | (go_at_call 25; (with_reducible refine (kK.out _).mono ?_); rintro e w6 ⟨rfl, hE⟩; clear xP30 xP31 xP32 xP33 xP34 xP35 xP36 xP37 xP38 xP39 xP40 xP41 xP42 xP43 xP44 xP45 xP46 xP47 xP48 xP49 xP50 xP51 xP52 xP53 xP54 xP55 xP56 xP57 xP58 xP59; have P3 := P3.ext hE; have P4 := P4.ext hE; have P5 := P5.ext hE; have EE := hide (EE.out.trans hE); clear hE; obtain ⟨xP30, xP31, xP32, xP33, xP34, xP35, xP36, xP37, xP38, xP39, -⟩ := ten_cells P3; obtain ⟨xP40, xP41, xP42, xP43, xP44, xP45, xP46, xP47, xP48, xP49, -⟩ := ten_cells P4; obtain ⟨xP50, xP51, xP52, xP53, xP54, xP55, xP56, xP57, xP58, xP59, -⟩ := ten_cells P5)
    | (go_at_call 28; (with_reducible refine (kV.out _).mono ?_); rintro e w7 ⟨rfl, hE⟩; clear xP30 xP31 xP32 xP33 xP34 xP35 xP36 xP37 xP38 xP39 xP40 xP41 xP42 xP43 xP44 xP45 xP46 xP47 xP48 xP49 xP50 xP51 xP52 xP53 xP54 xP55 xP56 xP57 xP58 xP59; have P3 := P3.ext hE; have P4 := P4.ext hE; have P5 := P5.ext hE; have EE := hide (EE.out.trans hE); clear hE; obtain ⟨xP30, xP31, xP32, xP33, xP34, xP35, xP36, xP37, xP38, xP39, -⟩ := ten_cells P3; obtain ⟨xP40, xP41, xP42, xP43, xP44, xP45, xP46, xP47, xP48, xP49, -⟩ := ten_cells P4; obtain ⟨xP50, xP51, xP52, xP53, xP54, xP55, xP56, xP57, xP58, xP59, -⟩ := ten_cells P5)
    | (go_at_call 29; (with_reducible refine (kC1.out _).mono ?_); rintro e w8 ⟨rfl, hE⟩; clear xP30 xP31 xP32 xP33 xP34 xP35 xP36 xP37 xP38 xP39 xP40 xP41 xP42 xP43 xP44 xP45 xP46 xP47 xP48 xP49 xP50 xP51 xP52 xP53 xP54 xP55 xP56 xP57 xP58 xP59; have P3 := P3.ext hE; have P4 := P4.ext hE; have P5 := P5.ext hE; have EE := hide (EE.out.trans hE); clear hE; obtain ⟨xP30, xP31, xP32, xP33, xP34, xP35, xP36, xP37, xP38, xP39, -⟩ := ten_cells P3; obtain ⟨xP40, xP41, xP42, xP43, xP44, xP45, xP46, xP47, xP48, xP49, -⟩ := ten_cells P4; obtain ⟨xP50, xP51, xP52, xP53, xP54, xP55, xP56, xP57, xP58, xP59, -⟩ := ten_cells P5)
    | (go_at_call 29; (with_reducible refine (kC2.out _).mono ?_); rintro e w9 ⟨rfl, hE⟩; clear xP30 xP31 xP32 xP33 xP34 xP35 xP36 xP37 xP38 xP39 xP40 xP41 xP42 xP43 xP44 xP45 xP46 xP47 xP48 xP49 xP50 xP51 xP52 xP53 xP54 xP55 xP56 xP57 xP58 xP59; have P3 := P3.ext hE; have P4 := P4.ext hE; have P5 := P5.ext hE; have EE := hide (EE.out.trans hE); clear hE; obtain ⟨xP30, xP31, xP32, xP33, xP34, xP35, xP36, xP37, xP38, xP39, -⟩ := ten_cells P3; obtain ⟨xP40, xP41, xP42, xP43, xP44, xP45, xP46, xP47, xP48, xP49, -⟩ := ten_cells P4; obtain ⟨xP50, xP51, xP52, xP53, xP54, xP55, xP56, xP57, xP58, xP59, -⟩ := ten_cells P5)
    | (go_at_call 30; (with_reducible refine (kS1.out _).mono ?_); rintro e w10 ⟨rfl, hE⟩; clear xP30 xP31 xP32 xP33 xP34 xP35 xP36 xP37 xP38 xP39 xP40 xP41 xP42 xP43 xP44 xP45 xP46 xP47 xP48 xP49 xP50 xP51 xP52 xP53 xP54 xP55 xP56 xP57 xP58 xP59; have P3 := P3.ext hE; have P4 := P4.ext hE; have P5 := P5.ext hE; have EE := hide (EE.out.trans hE); clear hE; obtain ⟨xP30, xP31, xP32, xP33, xP34, xP35, xP36, xP37, xP38, xP39, -⟩ := ten_cells P3; obtain ⟨xP40, xP41, xP42, xP43, xP44, xP45, xP46, xP47, xP48, xP49, -⟩ := ten_cells P4; obtain ⟨xP50, xP51, xP52, xP53, xP54, xP55, xP56, xP57, xP58, xP59, -⟩ := ten_cells P5)
    | (go_at_call 30; (with_reducible refine (kS2.out _).mono ?_); rintro e w11 ⟨rfl, hE⟩; clear xP30 xP31 xP32 xP33 xP34 xP35 xP36 xP37 xP38 xP39 xP40 xP41 xP42 xP43 xP44 xP45 xP46 xP47 xP48 xP49 xP50 xP51 xP52 xP53 xP54 xP55 xP56 xP57 xP58 xP59; have P3 := P3.ext hE; have P4 := P4.ext hE; have P5 := P5.ext hE; have EE := hide (EE.out.trans hE); clear hE; obtain ⟨xP30, xP31, xP32, xP33, xP34, xP35, xP36, xP37, xP38, xP39, -⟩ := ten_cells P3; obtain ⟨xP40, xP41, xP42, xP43, xP44, xP45, xP46, xP47, xP48, xP49, -⟩ := ten_cells P4; obtain ⟨xP50, xP51, xP52, xP53, xP54, xP55, xP56, xP57, xP58, xP59, -⟩ := ten_cells P5))
  go_ret
  exact ⟨rfl, EE.out⟩
end Go.Proofs.Ytbnbkondbdakeaa
