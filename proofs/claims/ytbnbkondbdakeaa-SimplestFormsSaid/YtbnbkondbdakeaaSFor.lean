/- The law SimplestForms, walked. Conditions: the argument is a list of numbers of 64 bits. -/
import Derived.Test.YtbnbkondbdakeaaSimI
namespace Go.Proofs.Ytbnbkondbdakeaa
set_option linter.unusedVariables false
set_option linter.unusedSimpArgs false
open Go Go.RowKit Go.Sort
attribute [local go_sem] qUpon putAll slotV
set_option maxRecDepth 100000 in
set_option maxHeartbeats 8000000 in
theorem law_sfor (s1 : Bool) (a1 b1 c1 d1 : Nat) (t1 : Bool) (e1 f1 g1 h1 : Nat) (n1' m1' : Int) (s2 : Bool) (a2 b2 c2 d2 : Nat) (t2 : Bool) (e2 f2 g2 h2 : Nat) (n2' m2' : Int) (x : Option Addr) (len cap : Nat) (W : World) (hx1 : IsW s1 a1 b1 c1 d1 n1') (hy1 : IsW t1 e1 f1 g1 h1 m1') (hx2 : IsW s2 a2 b2 c2 d2 n2') (hy2 : IsW t2 e2 f2 g2 h2 m2') (hL : IsList W x len cap) : Calls Try.prog 4 #[.agg #[.bool s1, .int .u64 (a1 : Int), .int .u64 (b1 : Int), .int .u64 (c1 : Int), .int .u64 (d1 : Int), .bool t1, .int .u64 (e1 : Int), .int .u64 (f1 : Int), .int .u64 (g1 : Int), .int .u64 (h1 : Int)], .agg #[.bool s2, .int .u64 (a2 : Int), .int .u64 (b2 : Int), .int .u64 (c2 : Int), .int .u64 (d2 : Int), .bool t2, .int .u64 (e2 : Int), .int .u64 (f2 : Int), .int .u64 (g2 : Int), .int .u64 (h2 : Int)], .slice x len cap] W (BoolRet true W) := by
  have HL := hide hL
  have HX := hide (And.intro hx1 (And.intro hy1 (And.intro hx2 hy2)))
  clear hL hx1 hy1 hx2 hy2
  obtain ⟨W0, hW0⟩ : ∃ W0, W0 = ((W.alloc (.cells #[.bool s1, .int .u64 (a1 : Int), .int .u64 (b1 : Int), .int .u64 (c1 : Int), .int .u64 (d1 : Int), .bool t1, .int .u64 (e1 : Int), .int .u64 (f1 : Int), .int .u64 (g1 : Int), .int .u64 (h1 : Int)] 35)).alloc (.cells #[.bool s2, .int .u64 (a2 : Int), .int .u64 (b2 : Int), .int .u64 (c2 : Int), .int .u64 (d2 : Int), .bool t2, .int .u64 (e2 : Int), .int .u64 (f2 : Int), .int .u64 (g2 : Int), .int .u64 (h2 : Int)] 35)) := ⟨_, rfl⟩
  have H2 := two_blocks W (.cells #[.bool s1, .int .u64 (a1 : Int), .int .u64 (b1 : Int), .int .u64 (c1 : Int), .int .u64 (d1 : Int), .bool t1, .int .u64 (e1 : Int), .int .u64 (f1 : Int), .int .u64 (g1 : Int), .int .u64 (h1 : Int)] 35) (.cells #[.bool s2, .int .u64 (a2 : Int), .int .u64 (b2 : Int), .int .u64 (c2 : Int), .int .u64 (d2 : Int), .bool t2, .int .u64 (e2 : Int), .int .u64 (f2 : Int), .int .u64 (g2 : Int), .int .u64 (h2 : Int)] 35)
  have EE0 : Ext W W0 := by rw [hW0]; exact ((ext_alloc _ _).trans (ext_alloc _ _))
  rw [← hW0] at H2
  have EE := hide EE0
  have HW := hide hW0
  obtain ⟨P3, P4⟩ : Box10 W0 (W.heap.size) s1 a1 b1 c1 d1 t1 e1 f1 g1 h1 ∧ Box10 W0 ((W.heap.size + 1)) s2 a2 b2 c2 d2 t2 e2 f2 g2 h2 := H2
  clear hW0 EE0
  go_enter Try.func4, Try.ntmps4
  go_upto_region 1 with fail
  rw [← HW.out]
  clear HW
  have hg0 : W.heap.size ≤ W.heap.size := Nat.le_refl _
  obtain ⟨g0, hg⟩ : ∃ g, W.heap.size = g := ⟨_, rfl⟩
  rw [hg] at P3 P4 ⊢
  replace hg0 : W.heap.size ≤ g0 := Nat.le_of_eq hg
  clear hg
  obtain ⟨bt, hbt⟩ : ∃ b, W0.heap.size = b := ⟨_, rfl⟩
  go_upto_region 2 with (go_at_call 15; (with_reducible refine (t_new W0 x len cap (HL.out.ext EE.out)).mono ?_); rintro e w1 ⟨rfl, T0, hB⟩)
  have l3 := P3.lt
  have l4 := P4.lt
  have P3 := P3.ext hB
  have P4 := P4.ext hB
  rw [hbt] at T0 l3 l4
  try rw [hbt]
  have hWb : W.heap.size ≤ bt := by rw [← hbt]; exact EE.out.size
  have EE := hide (EE.out.trans hB)
  clear hB hbt
  have neP3 : g0 ≠ bt := by omega
  have neP4 : g0 + 1 ≠ bt := by omega
  go_upto_region 3 with (go_at_call 24; (with_reducible refine (l_near bt bt _ _ T0 (Upd.refl _ _)).mono ?_); rintro e w2 ⟨n5, d5, n6, d6, rfl, hF1, hF2, hLe, T1, hU⟩; have HF := hide (And.intro hF1 hF2); have P3 := P3.upd hU neP3; have P4 := P4.upd hU neP4; have EE : Hid (Ext W w2) := (Upd.ext hU EE.out hWb); clear T0 hU hF1 hF2 hLe)
  clear T1 neP3 neP4 hWb l3 l4
  have H2 := two_blocks w2 (.cells #[.bool (sg n5), .int .u64 (l0 n5 : Int), .int .u64 (l1 n5 : Int), .int .u64 (l2 n5 : Int), .int .u64 (l3 n5 : Int), .bool (sg d5), .int .u64 (l0 d5 : Int), .int .u64 (l1 d5 : Int), .int .u64 (l2 d5 : Int), .int .u64 (l3 d5 : Int)] 35) (.cells #[.bool (sg n6), .int .u64 (l0 n6 : Int), .int .u64 (l1 n6 : Int), .int .u64 (l2 n6 : Int), .int .u64 (l3 n6 : Int), .bool (sg d6), .int .u64 (l0 d6 : Int), .int .u64 (l1 d6 : Int), .int .u64 (l2 d6 : Int), .int .u64 (l3 d6 : Int)] 35)
  have lP3 := P3.lt
  have lP4 := P4.lt
  have hb0 := EE.out.size
  have hE := ((ext_alloc w2 (.cells #[.bool (sg n5), .int .u64 (l0 n5 : Int), .int .u64 (l1 n5 : Int), .int .u64 (l2 n5 : Int), .int .u64 (l3 n5 : Int), .bool (sg d5), .int .u64 (l0 d5 : Int), .int .u64 (l1 d5 : Int), .int .u64 (l2 d5 : Int), .int .u64 (l3 d5 : Int)] 35)).trans (ext_alloc _ (.cells #[.bool (sg n6), .int .u64 (l0 n6 : Int), .int .u64 (l1 n6 : Int), .int .u64 (l2 n6 : Int), .int .u64 (l3 n6 : Int), .bool (sg d6), .int .u64 (l0 d6 : Int), .int .u64 (l1 d6 : Int), .int .u64 (l2 d6 : Int), .int .u64 (l3 d6 : Int)] 35)))
  have P3 := P3.ext hE
  have P4 := P4.ext hE
  have EE := hide (EE.out.trans hE)
  clear hE
  have hbg42 := hb0
  clear hb0
  obtain ⟨W41, hW⟩ : ∃ W, W = ((w2.alloc (.cells #[.bool (sg n5), .int .u64 (l0 n5 : Int), .int .u64 (l1 n5 : Int), .int .u64 (l2 n5 : Int), .int .u64 (l3 n5 : Int), .bool (sg d5), .int .u64 (l0 d5 : Int), .int .u64 (l1 d5 : Int), .int .u64 (l2 d5 : Int), .int .u64 (l3 d5 : Int)] 35)).alloc (.cells #[.bool (sg n6), .int .u64 (l0 n6 : Int), .int .u64 (l1 n6 : Int), .int .u64 (l2 n6 : Int), .int .u64 (l3 n6 : Int), .bool (sg d6), .int .u64 (l0 d6 : Int), .int .u64 (l1 d6 : Int), .int .u64 (l2 d6 : Int), .int .u64 (l3 d6 : Int)] 35)) := ⟨_, rfl⟩
  rw [← hW] at H2 EE P3 P4 ⊢
  obtain ⟨g42, hg⟩ : ∃ g, w2.heap.size = g := ⟨_, rfl⟩
  rw [hg] at H2 hbg42 lP3 lP4 ⊢
  obtain ⟨P8, P9⟩ : Box10 W41 g42 (sg n5) (l0 n5) (l1 n5) (l2 n5) (l3 n5) (sg d5) (l0 d5) (l1 d5) (l2 d5) (l3 d5) ∧ Box10 W41 (g42 + 1) (sg n6) (l0 n6) (l1 n6) (l2 n6) (l3 n6) (sg d6) (l0 d6) (l1 d6) (l2 d6) (l3 d6) := H2
  clear hW hg
  have ngP3P8 : g0 ≠ g42 := by omega
  have ngP3P9 : g0 ≠ g42 + 1 := by omega
  have ngP4P8 : g0 + 1 ≠ g42 := by omega
  have ngP4P9 : g0 + 1 ≠ g42 + 1 := by omega
  obtain ⟨hF1, hF2⟩ := HF.out
  obtain ⟨hx1, hy1, hx2, hy2⟩ := HX.out
  have kK : Hid (∀ w, Calls Try.prog 25 #[] w (Ret (.bool true) w)) := fun w => l_known w
  have kA1 : Hid (∀ w, Calls Try.prog 26 #[.agg #[.bool s1, .int .u64 (a1 : Int), .int .u64 (b1 : Int), .int .u64 (c1 : Int), .int .u64 (d1 : Int), .bool t1, .int .u64 (e1 : Int), .int .u64 (f1 : Int), .int .u64 (g1 : Int), .int .u64 (h1 : Int)], .agg #[.bool s2, .int .u64 (a2 : Int), .int .u64 (b2 : Int), .int .u64 (c2 : Int), .int .u64 (d2 : Int), .bool t2, .int .u64 (e2 : Int), .int .u64 (f2 : Int), .int .u64 (g2 : Int), .int .u64 (h2 : Int)]] w (Ret (.bool true) w)) := fun w => l_alike_raw _ _ _ _ _ _ _ _ _ _ _ _ _ _ _ _ _ _ _ _ _ _ _ _ w hx1 hy1 hx2 hy2
  have kA2 : Hid (∀ w, Calls Try.prog 26 #[.agg #[.bool (sg n5), .int .u64 (l0 n5 : Int), .int .u64 (l1 n5 : Int), .int .u64 (l2 n5 : Int), .int .u64 (l3 n5 : Int), .bool (sg d5), .int .u64 (l0 d5 : Int), .int .u64 (l1 d5 : Int), .int .u64 (l2 d5 : Int), .int .u64 (l3 d5 : Int)], .agg #[.bool (sg n6), .int .u64 (l0 n6 : Int), .int .u64 (l1 n6 : Int), .int .u64 (l2 n6 : Int), .int .u64 (l3 n6 : Int), .bool (sg d6), .int .u64 (l0 d6 : Int), .int .u64 (l1 d6 : Int), .int .u64 (l2 d6 : Int), .int .u64 (l3 d6 : Int)]] w (Ret (.bool true) w)) := fun w => l_alike hF1 hF2 w
  have kA3 : Hid (∀ w, Calls Try.prog 26 #[.agg #[.bool (sg n6), .int .u64 (l0 n6 : Int), .int .u64 (l1 n6 : Int), .int .u64 (l2 n6 : Int), .int .u64 (l3 n6 : Int), .bool (sg d6), .int .u64 (l0 d6 : Int), .int .u64 (l1 d6 : Int), .int .u64 (l2 d6 : Int), .int .u64 (l3 d6 : Int)], .agg #[.bool (sg n5), .int .u64 (l0 n5 : Int), .int .u64 (l1 n5 : Int), .int .u64 (l2 n5 : Int), .int .u64 (l3 n5 : Int), .bool (sg d5), .int .u64 (l0 d5 : Int), .int .u64 (l1 d5 : Int), .int .u64 (l2 d5 : Int), .int .u64 (l3 d5 : Int)]] w (Ret (.bool true) w)) := fun w => l_alike hF2 hF1 w
  have kA4 : Hid (∀ w, Calls Try.prog 26 #[.agg #[.bool (sg n5), .int .u64 (l0 n5 : Int), .int .u64 (l1 n5 : Int), .int .u64 (l2 n5 : Int), .int .u64 (l3 n5 : Int), .bool (sg d5), .int .u64 (l0 d5 : Int), .int .u64 (l1 d5 : Int), .int .u64 (l2 d5 : Int), .int .u64 (l3 d5 : Int)], .agg #[.bool (sg n5), .int .u64 (l0 n5 : Int), .int .u64 (l1 n5 : Int), .int .u64 (l2 n5 : Int), .int .u64 (l3 n5 : Int), .bool (sg d5), .int .u64 (l0 d5 : Int), .int .u64 (l1 d5 : Int), .int .u64 (l2 d5 : Int), .int .u64 (l3 d5 : Int)]] w (Ret (.bool true) w)) := fun w => l_alike hF1 hF1 w
  have kA5 : Hid (∀ w, Calls Try.prog 26 #[.agg #[.bool s1, .int .u64 (a1 : Int), .int .u64 (b1 : Int), .int .u64 (c1 : Int), .int .u64 (d1 : Int), .bool t1, .int .u64 (e1 : Int), .int .u64 (f1 : Int), .int .u64 (g1 : Int), .int .u64 (h1 : Int)], .agg #[.bool (sg n5), .int .u64 (l0 n5 : Int), .int .u64 (l1 n5 : Int), .int .u64 (l2 n5 : Int), .int .u64 (l3 n5 : Int), .bool (sg d5), .int .u64 (l0 d5 : Int), .int .u64 (l1 d5 : Int), .int .u64 (l2 d5 : Int), .int .u64 (l3 d5 : Int)]] w (Ret (.bool true) w)) := fun w => l_alike_raw _ _ _ _ _ _ _ _ _ _ _ _ _ _ _ _ _ _ _ _ _ _ _ _ w hx1 hy1 (isC_of hF1.fn).1 (isC_of hF1.fd).1
  clear HF HX hF1 hF2 hx1 hy1 hx2 hy2 HL
  obtain ⟨xP30, xP31, xP32, xP33, xP34, xP35, xP36, xP37, xP38, xP39, -⟩ := ten_cells P3; obtain ⟨xP40, xP41, xP42, xP43, xP44, xP45, xP46, xP47, xP48, xP49, -⟩ := ten_cells P4; obtain ⟨xP80, xP81, xP82, xP83, xP84, xP85, xP86, xP87, xP88, xP89, -⟩ := ten_cells P8; obtain ⟨xP90, xP91, xP92, xP93, xP94, xP95, xP96, xP97, xP98, xP99, -⟩ := ten_cells P9
  go_wp2_with (first
    | (go_at_call 25; (with_reducible refine (kK.out _).mono ?_); rintro e w43 ⟨rfl, hE⟩; clear xP30 xP31 xP32 xP33 xP34 xP35 xP36 xP37 xP38 xP39 xP40 xP41 xP42 xP43 xP44 xP45 xP46 xP47 xP48 xP49 xP80 xP81 xP82 xP83 xP84 xP85 xP86 xP87 xP88 xP89 xP90 xP91 xP92 xP93 xP94 xP95 xP96 xP97 xP98 xP99; have P3 := P3.ext hE; have P4 := P4.ext hE; have P8 := P8.ext hE; have P9 := P9.ext hE; have EE := hide (EE.out.trans hE); clear hE; obtain ⟨xP30, xP31, xP32, xP33, xP34, xP35, xP36, xP37, xP38, xP39, -⟩ := ten_cells P3; obtain ⟨xP40, xP41, xP42, xP43, xP44, xP45, xP46, xP47, xP48, xP49, -⟩ := ten_cells P4; obtain ⟨xP80, xP81, xP82, xP83, xP84, xP85, xP86, xP87, xP88, xP89, -⟩ := ten_cells P8; obtain ⟨xP90, xP91, xP92, xP93, xP94, xP95, xP96, xP97, xP98, xP99, -⟩ := ten_cells P9)
    | (go_at_call 26; (with_reducible refine (kA1.out _).mono ?_); rintro e w44 ⟨rfl, hE⟩; clear xP30 xP31 xP32 xP33 xP34 xP35 xP36 xP37 xP38 xP39 xP40 xP41 xP42 xP43 xP44 xP45 xP46 xP47 xP48 xP49 xP80 xP81 xP82 xP83 xP84 xP85 xP86 xP87 xP88 xP89 xP90 xP91 xP92 xP93 xP94 xP95 xP96 xP97 xP98 xP99; have P3 := P3.ext hE; have P4 := P4.ext hE; have P8 := P8.ext hE; have P9 := P9.ext hE; have EE := hide (EE.out.trans hE); clear hE; obtain ⟨xP30, xP31, xP32, xP33, xP34, xP35, xP36, xP37, xP38, xP39, -⟩ := ten_cells P3; obtain ⟨xP40, xP41, xP42, xP43, xP44, xP45, xP46, xP47, xP48, xP49, -⟩ := ten_cells P4; obtain ⟨xP80, xP81, xP82, xP83, xP84, xP85, xP86, xP87, xP88, xP89, -⟩ := ten_cells P8; obtain ⟨xP90, xP91, xP92, xP93, xP94, xP95, xP96, xP97, xP98, xP99, -⟩ := ten_cells P9)
    | (go_at_call 26; (with_reducible refine (kA2.out _).mono ?_); rintro e w45 ⟨rfl, hE⟩; clear xP30 xP31 xP32 xP33 xP34 xP35 xP36 xP37 xP38 xP39 xP40 xP41 xP42 xP43 xP44 xP45 xP46 xP47 xP48 xP49 xP80 xP81 xP82 xP83 xP84 xP85 xP86 xP87 xP88 xP89 xP90 xP91 xP92 xP93 xP94 xP95 xP96 xP97 xP98 xP99; have P3 := P3.ext hE; have P4 := P4.ext hE; have P8 := P8.ext hE; have P9 := P9.ext hE; have EE := hide (EE.out.trans hE); clear hE; obtain ⟨xP30, xP31, xP32, xP33, xP34, xP35, xP36, xP37, xP38, xP39, -⟩ := ten_cells P3; obtain ⟨xP40, xP41, xP42, xP43, xP44, xP45, xP46, xP47, xP48, xP49, -⟩ := ten_cells P4; obtain ⟨xP80, xP81, xP82, xP83, xP84, xP85, xP86, xP87, xP88, xP89, -⟩ := ten_cells P8; obtain ⟨xP90, xP91, xP92, xP93, xP94, xP95, xP96, xP97, xP98, xP99, -⟩ := ten_cells P9)
    | (go_at_call 26; (with_reducible refine (kA3.out _).mono ?_); rintro e w46 ⟨rfl, hE⟩; clear xP30 xP31 xP32 xP33 xP34 xP35 xP36 xP37 xP38 xP39 xP40 xP41 xP42 xP43 xP44 xP45 xP46 xP47 xP48 xP49 xP80 xP81 xP82 xP83 xP84 xP85 xP86 xP87 xP88 xP89 xP90 xP91 xP92 xP93 xP94 xP95 xP96 xP97 xP98 xP99; have P3 := P3.ext hE; have P4 := P4.ext hE; have P8 := P8.ext hE; have P9 := P9.ext hE; have EE := hide (EE.out.trans hE); clear hE; obtain ⟨xP30, xP31, xP32, xP33, xP34, xP35, xP36, xP37, xP38, xP39, -⟩ := ten_cells P3; obtain ⟨xP40, xP41, xP42, xP43, xP44, xP45, xP46, xP47, xP48, xP49, -⟩ := ten_cells P4; obtain ⟨xP80, xP81, xP82, xP83, xP84, xP85, xP86, xP87, xP88, xP89, -⟩ := ten_cells P8; obtain ⟨xP90, xP91, xP92, xP93, xP94, xP95, xP96, xP97, xP98, xP99, -⟩ := ten_cells P9)
    | (go_at_call 26; (with_reducible refine (kA4.out _).mono ?_); rintro e w47 ⟨rfl, hE⟩; clear xP30 xP31 xP32 xP33 xP34 xP35 xP36 xP37 xP38 xP39 xP40 xP41 xP42 xP43 xP44 xP45 xP46 xP47 xP48 xP49 xP80 xP81 xP82 xP83 xP84 xP85 xP86 xP87 xP88 xP89 xP90 xP91 xP92 xP93 xP94 xP95 xP96 xP97 xP98 xP99; have P3 := P3.ext hE; have P4 := P4.ext hE; have P8 := P8.ext hE; have P9 := P9.ext hE; have EE := hide (EE.out.trans hE); clear hE; obtain ⟨xP30, xP31, xP32, xP33, xP34, xP35, xP36, xP37, xP38, xP39, -⟩ := ten_cells P3; obtain ⟨xP40, xP41, xP42, xP43, xP44, xP45, xP46, xP47, xP48, xP49, -⟩ := ten_cells P4; obtain ⟨xP80, xP81, xP82, xP83, xP84, xP85, xP86, xP87, xP88, xP89, -⟩ := ten_cells P8; obtain ⟨xP90, xP91, xP92, xP93, xP94, xP95, xP96, xP97, xP98, xP99, -⟩ := ten_cells P9)
    | (go_at_call 26; (with_reducible refine (kA5.out _).mono ?_); rintro e w48 ⟨rfl, hE⟩; clear xP30 xP31 xP32 xP33 xP34 xP35 xP36 xP37 xP38 xP39 xP40 xP41 xP42 xP43 xP44 xP45 xP46 xP47 xP48 xP49 xP80 xP81 xP82 xP83 xP84 xP85 xP86 xP87 xP88 xP89 xP90 xP91 xP92 xP93 xP94 xP95 xP96 xP97 xP98 xP99; have P3 := P3.ext hE; have P4 := P4.ext hE; have P8 := P8.ext hE; have P9 := P9.ext hE; have EE := hide (EE.out.trans hE); clear hE; obtain ⟨xP30, xP31, xP32, xP33, xP34, xP35, xP36, xP37, xP38, xP39, -⟩ := ten_cells P3; obtain ⟨xP40, xP41, xP42, xP43, xP44, xP45, xP46, xP47, xP48, xP49, -⟩ := ten_cells P4; obtain ⟨xP80, xP81, xP82, xP83, xP84, xP85, xP86, xP87, xP88, xP89, -⟩ := ten_cells P8; obtain ⟨xP90, xP91, xP92, xP93, xP94, xP95, xP96, xP97, xP98, xP99, -⟩ := ten_cells P9))
  go_ret
  exact ⟨rfl, EE.out⟩
end Go.Proofs.Ytbnbkondbdakeaa
