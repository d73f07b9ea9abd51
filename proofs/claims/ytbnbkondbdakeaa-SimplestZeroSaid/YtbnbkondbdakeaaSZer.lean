/- The law SimplestZero, walked. Conditions: the argument is a list of numbers of 64 bits. -/
import Derived.Test.YtbnbkondbdakeaaSimI
import Derived.Test.YtbnbkondbdakeaaSIns
namespace Go.Proofs.Ytbnbkondbdakeaa
set_option linter.unusedVariables false
set_option linter.unusedSimpArgs false
open Go Go.RowKit Go.Sort
attribute [local go_sem] qUpon putAll slotV
set_option maxRecDepth 100000 in
set_option maxHeartbeats 8000000 in
theorem law_szer (x : Option Addr) (len cap : Nat) (W : World) (hL : IsList W x len cap) : Calls Try.prog 7 #[.slice x len cap] W (BoolRet true W) := by
  have HL := hide hL
  clear hL
  go_enter Try.func7, Try.ntmps7
  go_upto_region 2 with (first
    | (go_at_call 15; (with_reducible refine (t_new W x len cap HL.out).mono ?_); rintro e w1 ⟨rfl, T0, hB⟩)
    | (go_at_call 24; (with_reducible refine (l_near W.heap.size W.heap.size _ _ T0 (Upd.refl _ _)).mono ?_); rintro e w2 ⟨n1, d1, n2, d2, rfl, hF1, hF2, hLe, T1, hU⟩; have HF := hide (And.intro hF1 (And.intro hF2 hLe)); have EE : Hid (Ext W w2) := (Upd.ext (Upd.trans (Ext.upd hB _) hU) (Ext.refl W) (Nat.le_refl _)); clear T0 hU hF1 hF2 hLe))
  have H2 := two_blocks w2 (.cells #[.bool (sg n1), .int .u64 (l0 n1 : Int), .int .u64 (l1 n1 : Int), .int .u64 (l2 n1 : Int), .int .u64 (l3 n1 : Int), .bool (sg d1), .int .u64 (l0 d1 : Int), .int .u64 (l1 d1 : Int), .int .u64 (l2 d1 : Int), .int .u64 (l3 d1 : Int)] 35) (.cells #[.bool (sg n2), .int .u64 (l0 n2 : Int), .int .u64 (l1 n2 : Int), .int .u64 (l2 n2 : Int), .int .u64 (l3 n2 : Int), .bool (sg d2), .int .u64 (l0 d2 : Int), .int .u64 (l1 d2 : Int), .int .u64 (l2 d2 : Int), .int .u64 (l3 d2 : Int)] 35)
  have hb0 := EE.out.size
  have hE := ((ext_alloc w2 (.cells #[.bool (sg n1), .int .u64 (l0 n1 : Int), .int .u64 (l1 n1 : Int), .int .u64 (l2 n1 : Int), .int .u64 (l3 n1 : Int), .bool (sg d1), .int .u64 (l0 d1 : Int), .int .u64 (l1 d1 : Int), .int .u64 (l2 d1 : Int), .int .u64 (l3 d1 : Int)] 35)).trans (ext_alloc _ (.cells #[.bool (sg n2), .int .u64 (l0 n2 : Int), .int .u64 (l1 n2 : Int), .int .u64 (l2 n2 : Int), .int .u64 (l3 n2 : Int), .bool (sg d2), .int .u64 (l0 d2 : Int), .int .u64 (l1 d2 : Int), .int .u64 (l2 d2 : Int), .int .u64 (l3 d2 : Int)] 35)))
  have EE := hide (EE.out.trans hE)
  clear hE
  have hbg2 := hb0
  clear hb0
  obtain ⟨W1, hW⟩ : ∃ W, W = ((w2.alloc (.cells #[.bool (sg n1), .int .u64 (l0 n1 : Int), .int .u64 (l1 n1 : Int), .int .u64 (l2 n1 : Int), .int .u64 (l3 n1 : Int), .bool (sg d1), .int .u64 (l0 d1 : Int), .int .u64 (l1 d1 : Int), .int .u64 (l2 d1 : Int), .int .u64 (l3 d1 : Int)] 35)).alloc (.cells #[.bool (sg n2), .int .u64 (l0 n2 : Int), .int .u64 (l1 n2 : Int), .int .u64 (l2 n2 : Int), .int .u64 (l3 n2 : Int), .bool (sg d2), .int .u64 (l0 d2 : Int), .int .u64 (l1 d2 : Int), .int .u64 (l2 d2 : Int), .int .u64 (l3 d2 : Int)] 35)) := ⟨_, rfl⟩
  rw [← hW] at H2 EE  ⊢
  obtain ⟨g2, hg⟩ : ∃ g, w2.heap.size = g := ⟨_, rfl⟩
  rw [hg] at H2 hbg2  ⊢
  obtain ⟨P3, P4⟩ : Box10 W1 g2 (sg n1) (l0 n1) (l1 n1) (l2 n1) (l3 n1) (sg d1) (l0 d1) (l1 d1) (l2 d1) (l3 d1) ∧ Box10 W1 (g2 + 1) (sg n2) (l0 n2) (l1 n2) (l2 n2) (l3 n2) (sg d2) (l0 d2) (l1 d2) (l2 d2) (l3 d2) := H2
  clear hW hg
  clear T1
  obtain ⟨hF1, hF2, hle⟩ := HF.out
  obtain ⟨n, m, B⟩ := best_some hF1.1 hF2.1 hle
  have hS := B.frac hF1 hF2 hle
  obtain ⟨u1, hu1⟩ : ∃ u : Int, -n1 = u := ⟨_, rfl⟩
  obtain ⟨u2, hu2⟩ : ∃ u : Int, -n2 = u := ⟨_, rfl⟩
  obtain ⟨u, hu⟩ : ∃ u : Int, -n = u := ⟨_, rfl⟩
  have B' := B.neg
  rw [hu1, hu2, hu] at B'
  have hl' : u2 * d1 ≤ u1 * d2 := by rw [← hu1, ← hu2, Int.neg_mul, Int.neg_mul]; omega
  have fneg : ∀ {a b : Int}, Frac a b → Frac (-a) b := fun h => ⟨h.1, by have := h.2.1; omega, h.2.2.1, by have := h.2.2.2; simpa [Int.gcd] using this⟩
  have hU1 : Frac u1 d1 := by rw [← hu1]; exact fneg hF1
  have hU2 : Frac u2 d2 := by rw [← hu2]; exact fneg hF2
  have HZ : Hid ((0 < n1 → 0 < n) ∧ (n2 < 0 → n < 0) ∧ (n1 ≤ 0 → 0 ≤ n2 → n = 0)) := by
    refine ⟨fun h => B.pos h hF1.1, fun h => ?_, fun h h' => (Best.unique hF1.1 hF2.1 B (Best.zero h h')).1⟩
    have := B'.pos (by omega) hF2.1
    omega
  have kK : Hid (∀ w, Calls Try.prog 25 #[] w (Ret (.bool true) w)) := fun w => l_known w
  have kB : Hid (∀ w, Calls Try.prog 27 #[.agg #[.bool (sg n1), .int .u64 (l0 n1 : Int), .int .u64 (l1 n1 : Int), .int .u64 (l2 n1 : Int), .int .u64 (l3 n1 : Int), .bool (sg d1), .int .u64 (l0 d1 : Int), .int .u64 (l1 d1 : Int), .int .u64 (l2 d1 : Int), .int .u64 (l3 d1 : Int)], .agg #[.bool (sg n2), .int .u64 (l0 n2 : Int), .int .u64 (l1 n2 : Int), .int .u64 (l2 n2 : Int), .int .u64 (l3 n2 : Int), .bool (sg d2), .int .u64 (l0 d2 : Int), .int .u64 (l1 d2 : Int), .int .u64 (l2 d2 : Int), .int .u64 (l3 d2 : Int)]] w (Ret (.tuple #[.agg #[.bool (sg n), .int .u64 (l0 n : Int), .int .u64 (l1 n : Int), .int .u64 (l2 n : Int), .int .u64 (l3 n : Int), .bool (sg m), .int .u64 (l0 m : Int), .int .u64 (l1 m : Int), .int .u64 (l2 m : Int), .int .u64 (l3 m : Int)], .bool true]) w)) := fun w => s_between hF1 hF2 hle B w
  have kN1 : Hid (∀ w, Calls Try.prog 36 #[.agg #[.bool (sg n1), .int .u64 (l0 n1 : Int), .int .u64 (l1 n1 : Int), .int .u64 (l2 n1 : Int), .int .u64 (l3 n1 : Int)]] w (Ret (.agg #[.bool (sg u1), .int .u64 (l0 u1 : Int), .int .u64 (l1 u1 : Int), .int .u64 (l2 u1 : Int), .int .u64 (l3 u1 : Int)]) w)) := fun w => d_neg hF1.fn hu1 w
  have kN2 : Hid (∀ w, Calls Try.prog 36 #[.agg #[.bool (sg n2), .int .u64 (l0 n2 : Int), .int .u64 (l1 n2 : Int), .int .u64 (l2 n2 : Int), .int .u64 (l3 n2 : Int)]] w (Ret (.agg #[.bool (sg u2), .int .u64 (l0 u2 : Int), .int .u64 (l1 u2 : Int), .int .u64 (l2 u2 : Int), .int .u64 (l3 u2 : Int)]) w)) := fun w => d_neg hF2.fn hu2 w
  have kN : Hid (∀ w, Calls Try.prog 36 #[.agg #[.bool (sg n), .int .u64 (l0 n : Int), .int .u64 (l1 n : Int), .int .u64 (l2 n : Int), .int .u64 (l3 n : Int)]] w (Ret (.agg #[.bool (sg u), .int .u64 (l0 u : Int), .int .u64 (l1 u : Int), .int .u64 (l2 u : Int), .int .u64 (l3 u : Int)]) w)) := fun w => d_neg hS.fn hu w
  have kB2 : Hid (∀ w, Calls Try.prog 27 #[.agg #[.bool (sg u2), .int .u64 (l0 u2 : Int), .int .u64 (l1 u2 : Int), .int .u64 (l2 u2 : Int), .int .u64 (l3 u2 : Int), .bool (sg d2), .int .u64 (l0 d2 : Int), .int .u64 (l1 d2 : Int), .int .u64 (l2 d2 : Int), .int .u64 (l3 d2 : Int)], .agg #[.bool (sg u1), .int .u64 (l0 u1 : Int), .int .u64 (l1 u1 : Int), .int .u64 (l2 u1 : Int), .int .u64 (l3 u1 : Int), .bool (sg d1), .int .u64 (l0 d1 : Int), .int .u64 (l1 d1 : Int), .int .u64 (l2 d1 : Int), .int .u64 (l3 d1 : Int)]] w (Ret (.tuple #[.agg #[.bool (sg u), .int .u64 (l0 u : Int), .int .u64 (l1 u : Int), .int .u64 (l2 u : Int), .int .u64 (l3 u : Int), .bool (sg m), .int .u64 (l0 m : Int), .int .u64 (l1 m : Int), .int .u64 (l2 m : Int), .int .u64 (l3 m : Int)], .bool true]) w)) := fun w => s_between hU2 hU1 hl' B' w
  have kS : Hid (∀ k, n.sign = k → ∀ w, Calls Try.prog 35 #[.agg #[.bool (sg n), .int .u64 (l0 n : Int), .int .u64 (l1 n : Int), .int .u64 (l2 n : Int), .int .u64 (l3 n : Int)]] w (Ret (.int .i64 k) w)) := fun k hk w => d_sign hS.fn hk w
  have kS1 : Hid (∀ k, n1.sign = k → ∀ w, Calls Try.prog 35 #[.agg #[.bool (sg n1), .int .u64 (l0 n1 : Int), .int .u64 (l1 n1 : Int), .int .u64 (l2 n1 : Int), .int .u64 (l3 n1 : Int)]] w (Ret (.int .i64 k) w)) := fun k hk w => d_sign hF1.fn hk w
  have kS2 : Hid (∀ k, n2.sign = k → ∀ w, Calls Try.prog 35 #[.agg #[.bool (sg n2), .int .u64 (l0 n2 : Int), .int .u64 (l1 n2 : Int), .int .u64 (l2 n2 : Int), .int .u64 (l3 n2 : Int)]] w (Ret (.int .i64 k) w)) := fun k hk w => d_sign hF2.fn hk w
  have HO : Hid (n2 < 0 → n1 < 0) := by
    intro h
    by_cases k : n1 < 0
    · exact k
    · have a := Int.mul_neg_of_neg_of_pos h hF1.1
      have b := Int.mul_nonneg (show 0 ≤ n1 by omega) (show 0 ≤ d2 by have := hF2.1; omega)
      omega
  clear HF hF1 hF2 hle B hS hu1 hu2 hu B' hl' hU1 hU2 fneg
  obtain ⟨xP30, xP31, xP32, xP33, xP34, xP35, xP36, xP37, xP38, xP39, -⟩ := ten_cells P3; obtain ⟨xP40, xP41, xP42, xP43, xP44, xP45, xP46, xP47, xP48, xP49, -⟩ := ten_cells P4
  go_upto_region 3 with (go_at_call 27; (with_reducible refine (kB.out _).mono ?_); rintro e w3 ⟨rfl, hE⟩; clear xP30 xP31 xP32 xP33 xP34 xP35 xP36 xP37 xP38 xP39 xP40 xP41 xP42 xP43 xP44 xP45 xP46 xP47 xP48 xP49; have P3 := P3.ext hE; have P4 := P4.ext hE; have EE := hide (EE.out.trans hE); clear hE; obtain ⟨xP30, xP31, xP32, xP33, xP34, xP35, xP36, xP37, xP38, xP39, -⟩ := ten_cells P3; obtain ⟨xP40, xP41, xP42, xP43, xP44, xP45, xP46, xP47, xP48, xP49, -⟩ := ten_cells P4)
  clear xP30 xP31 xP32 xP33 xP34 xP35 xP36 xP37 xP38 xP39 xP40 xP41 xP42 xP43 xP44 xP45 xP46 xP47 xP48 xP49
  have H2 := heap_alloc_new w3 (.cells #[.bool (sg n), .int .u64 (l0 n : Int), .int .u64 (l1 n : Int), .int .u64 (l2 n : Int), .int .u64 (l3 n : Int), .bool (sg m), .int .u64 (l0 m : Int), .int .u64 (l1 m : Int), .int .u64 (l2 m : Int), .int .u64 (l3 m : Int)] 35)
  have lP3 := P3.lt
  have lP4 := P4.lt
  have hb0 := EE.out.size
  have hE := (ext_alloc w3 (.cells #[.bool (sg n), .int .u64 (l0 n : Int), .int .u64 (l1 n : Int), .int .u64 (l2 n : Int), .int .u64 (l3 n : Int), .bool (sg m), .int .u64 (l0 m : Int), .int .u64 (l1 m : Int), .int .u64 (l2 m : Int), .int .u64 (l3 m : Int)] 35))
  have P3 := P3.ext hE
  have P4 := P4.ext hE
  have EE := hide (EE.out.trans hE)
  clear hE
  have hbg5 := hb0
  clear hb0
  obtain ⟨W4, hW⟩ : ∃ W, W = (w3.alloc (.cells #[.bool (sg n), .int .u64 (l0 n : Int), .int .u64 (l1 n : Int), .int .u64 (l2 n : Int), .int .u64 (l3 n : Int), .bool (sg m), .int .u64 (l0 m : Int), .int .u64 (l1 m : Int), .int .u64 (l2 m : Int), .int .u64 (l3 m : Int)] 35)) := ⟨_, rfl⟩
  rw [← hW] at H2 EE P3 P4 ⊢
  obtain ⟨g5, hg⟩ : ∃ g, w3.heap.size = g := ⟨_, rfl⟩
  rw [hg] at H2 hbg5 lP3 lP4 ⊢
  have P5 : Box10 W4 g5 (sg n) (l0 n) (l1 n) (l2 n) (l3 n) (sg m) (l0 m) (l1 m) (l2 m) (l3 m) := H2
  clear hW hg
  have ngP3P5 : g2 ≠ g5 := by omega
  have ngP4P5 : g2 + 1 ≠ g5 := by omega
  have lbP3 := P3.lt
  have lbP4 := P4.lt
  have lbP5 := P5.lt
  refine wp_decl [.q, .q, .al, .al, .st 2, .st 3] [.agg #[.bool (sg n2), .int .u64 (l0 n2 : Int), .int .u64 (l1 n2 : Int), .int .u64 (l2 n2 : Int), .int .u64 (l3 n2 : Int), .bool (sg d2), .int .u64 (l0 d2 : Int), .int .u64 (l1 d2 : Int), .int .u64 (l2 d2 : Int), .int .u64 (l3 d2 : Int)], .agg #[.bool (sg n1), .int .u64 (l0 n1 : Int), .int .u64 (l1 n1 : Int), .int .u64 (l2 n1 : Int), .int .u64 (l3 n1 : Int), .bool (sg d1), .int .u64 (l0 d1 : Int), .int .u64 (l1 d1 : Int), .int .u64 (l2 d1 : Int), .int .u64 (l3 d1 : Int)], undef, undef, undef, undef] (fun i => match i with | 2 => (.cells #[.bool false, .int .u64 0, .int .u64 0, .int .u64 0, .int .u64 0, .bool false, .int .u64 0, .int .u64 0, .int .u64 0, .int .u64 0] 35 (0, 0)) | _ => (.cells #[.bool false, .int .u64 0, .int .u64 0, .int .u64 0, .int .u64 0, .bool false, .int .u64 0, .int .u64 0, .int .u64 0, .int .u64 0] 35 (0, 0))) (fun i => match i with | 4 => (.cells #[.bool (sg n2), .int .u64 (l0 n2 : Int), .int .u64 (l1 n2 : Int), .int .u64 (l2 n2 : Int), .int .u64 (l3 n2 : Int), .bool (sg d2), .int .u64 (l0 d2 : Int), .int .u64 (l1 d2 : Int), .int .u64 (l2 d2 : Int), .int .u64 (l3 d2 : Int)] 35 (0, 0)) | _ => (.cells #[.bool (sg n1), .int .u64 (l0 n1 : Int), .int .u64 (l1 n1 : Int), .int .u64 (l2 n1 : Int), .int .u64 (l3 n1 : Int), .bool (sg d1), .int .u64 (l0 d1 : Int), .int .u64 (l1 d1 : Int), .int .u64 (l2 d1 : Int), .int .u64 (l3 d1 : Int)] 35 (0, 0))) (fun _ => 0) (by kernel_rfl) (by kernel_rfl) (by kernel_rfl) rfl rfl (by simp) (by simp) ?_ ?_
  · refine ⟨?_, ?_, ?_, ?_, ?_, ?_, trivial⟩
    · refine op_q ?uvn2 ?h1n2 ?h2n2 ?h3n2
      case h1n2 => exact rfl
      case uvn2 => exact (.agg #[.bool (sg n2), .int .u64 (l0 n2 : Int), .int .u64 (l1 n2 : Int), .int .u64 (l2 n2 : Int), .int .u64 (l3 n2 : Int), .bool (sg d2), .int .u64 (l0 d2 : Int), .int .u64 (l1 d2 : Int), .int .u64 (l2 d2 : Int), .int .u64 (l3 d2 : Int)])
      case h2n2 => exact rfl
      intro w' hw'
      have P4 := P4.same hw' (by simp)
      have xP4 := ten_cells P4
      go_simp
    · refine op_q ?uvn3 ?h1n3 ?h2n3 ?h3n3
      case h1n3 => exact rfl
      case uvn3 => exact (.agg #[.bool (sg n1), .int .u64 (l0 n1 : Int), .int .u64 (l1 n1 : Int), .int .u64 (l2 n1 : Int), .int .u64 (l3 n1 : Int), .bool (sg d1), .int .u64 (l0 d1 : Int), .int .u64 (l1 d1 : Int), .int .u64 (l2 d1 : Int), .int .u64 (l3 d1 : Int)])
      case h2n3 => exact rfl
      intro w' hw'
      have P3 := P3.same hw' (by simp)
      have xP3 := ten_cells P3
      go_simp
    · refine op_al ?uzn4 ?h1n4 ?h2n4 ?h3n4
      case h1n4 => exact rfl
      case h2n4 => exact rfl
      intro ρ w'
      go_simp
      rfl
    · refine op_al ?uzn5 ?h1n5 ?h2n5 ?h3n5
      case h1n5 => exact rfl
      case h2n5 => exact rfl
      intro ρ w'
      go_simp
      rfl
    · refine op_st (j := 2) (T := ?uTn6) (p := ?upn6) (x := ?uxn6) ?ufn6 ?uzn6 ?uvn6 ?h1n6 ?h2n6 ?h3n6 ?h4n6 ?h5n6 ?h6n6
      case h1n6 => exact rfl
      case h2n6 => exact rfl
      case ufn6 => exact (.cells #[.bool (sg n2), .int .u64 (l0 n2 : Int), .int .u64 (l1 n2 : Int), .int .u64 (l2 n2 : Int), .int .u64 (l3 n2 : Int), .bool (sg d2), .int .u64 (l0 d2 : Int), .int .u64 (l1 d2 : Int), .int .u64 (l2 d2 : Int), .int .u64 (l3 d2 : Int)] 35 (0, 0))
      case uzn6 => exact (.cells #[.bool false, .int .u64 0, .int .u64 0, .int .u64 0, .int .u64 0, .bool false, .int .u64 0, .int .u64 0, .int .u64 0, .int .u64 0] 35 (0, 0))
      case uvn6 => exact (.agg #[.bool (sg n2), .int .u64 (l0 n2 : Int), .int .u64 (l1 n2 : Int), .int .u64 (l2 n2 : Int), .int .u64 (l3 n2 : Int), .bool (sg d2), .int .u64 (l0 d2 : Int), .int .u64 (l1 d2 : Int), .int .u64 (l2 d2 : Int), .int .u64 (l3 d2 : Int)])
      case h3n6 => exact rfl
      case h4n6 => exact rfl
      case h5n6 => go_simp
      intro ρ w' g' hp hx hz
      exact store_ratio rfl hp hx hz
    · refine op_st (j := 3) (T := ?uTn7) (p := ?upn7) (x := ?uxn7) ?ufn7 ?uzn7 ?uvn7 ?h1n7 ?h2n7 ?h3n7 ?h4n7 ?h5n7 ?h6n7
      case h1n7 => exact rfl
      case h2n7 => exact rfl
      case ufn7 => exact (.cells #[.bool (sg n1), .int .u64 (l0 n1 : Int), .int .u64 (l1 n1 : Int), .int .u64 (l2 n1 : Int), .int .u64 (l3 n1 : Int), .bool (sg d1), .int .u64 (l0 d1 : Int), .int .u64 (l1 d1 : Int), .int .u64 (l2 d1 : Int), .int .u64 (l3 d1 : Int)] 35 (0, 0))
      case uzn7 => exact (.cells #[.bool false, .int .u64 0, .int .u64 0, .int .u64 0, .int .u64 0, .bool false, .int .u64 0, .int .u64 0, .int .u64 0, .int .u64 0] 35 (0, 0))
      case uvn7 => exact (.agg #[.bool (sg n1), .int .u64 (l0 n1 : Int), .int .u64 (l1 n1 : Int), .int .u64 (l2 n1 : Int), .int .u64 (l3 n1 : Int), .bool (sg d1), .int .u64 (l0 d1 : Int), .int .u64 (l1 d1 : Int), .int .u64 (l2 d1 : Int), .int .u64 (l3 d1 : Int)])
      case h3n7 => exact rfl
      case h4n7 => exact rfl
      case h5n7 => go_simp
      intro ρ w' g' hp hx hz
      exact store_ratio rfl hp hx hz
  · intro G W6 hI
    have hS := hI.same
    have hb0 := EE.out.size
    have P3 := P3.same hS (by simp)
    have P4 := P4.same hS (by simp)
    have P5 := P5.same hS (by simp)
    have EE := hide (hS.ext' EE.out (by simp))
    have P7 : Box10 W6 (G 2) (sg n2) (l0 n2) (l1 n2) (l2 n2) (l3 n2) (sg d2) (l0 d2) (l1 d2) (l2 d2) (l3 d2) := (hI.fulls 4 (List.mem_range.2 (show 4 < 6 by decide)) 2 rfl).2.2
    have hmP7 := (hI.made 2 (List.mem_range.2 (show 2 < 6 by decide)) rfl).1
    have hbP7 := Nat.le_trans hb0 hmP7
    have P8 : Box10 W6 (G 3) (sg n1) (l0 n1) (l1 n1) (l2 n1) (l3 n1) (sg d1) (l0 d1) (l1 d1) (l2 d1) (l3 d1) := (hI.fulls 5 (List.mem_range.2 (show 5 < 6 by decide)) 3 rfl).2.2
    have hmP8 := (hI.made 3 (List.mem_range.2 (show 3 < 6 by decide)) rfl).1
    have hbP8 := Nat.le_trans hb0 hmP8
    have ngP7P8 : G 2 ≠ G 3 := fun e => by have := hI.apart 2 (List.mem_range.2 (show 2 < 6 by decide)) 3 (List.mem_range.2 (show 3 < 6 by decide)) rfl rfl e; omega
    have ngP3P7 : g2 ≠ G 2 := by omega
    have ngP3P8 : g2 ≠ G 3 := by omega
    have ngP4P7 : g2 + 1 ≠ G 2 := by omega
    have ngP4P8 : g2 + 1 ≠ G 3 := by omega
    have ngP5P7 : g5 ≠ G 2 := by omega
    have ngP5P8 : g5 ≠ G 3 := by omega
    clear hI hS hb0
    simp only [putAll, slotV, ptrTo, Nat.zero_add, Nat.reduceAdd]
    generalize G 2 = gP7 at *
    generalize G 3 = gP8 at *
    go_upto_region 4 with fail
    have lbP3 := P3.lt
    have lbP4 := P4.lt
    have lbP5 := P5.lt
    have lbP7 := P7.lt
    have lbP8 := P8.lt
    have ltW0 : ∀ c, Tag.so c ∈ [.q, .q, .q, .q, .q, .q, .q, .so 0, .q, .so 1] → (fun i => match i with | 0 => gP7 | _ => gP8) c < W6.heap.size := by intro c hc; simp at hc; rcases hc with rfl | rfl <;> (try simp only) <;> omega
    refine wp_decl [.q, .q, .q, .q, .q, .q, .q, .so 0, .q, .so 1] [.pointer (some ⟨gP7, 0, none⟩), .agg #[.bool (sg n2), .int .u64 (l0 n2 : Int), .int .u64 (l1 n2 : Int), .int .u64 (l2 n2 : Int), .int .u64 (l3 n2 : Int)], .agg #[.bool (sg u2), .int .u64 (l0 u2 : Int), .int .u64 (l1 u2 : Int), .int .u64 (l2 u2 : Int), .int .u64 (l3 u2 : Int)], .pointer (some ⟨gP8, 0, none⟩), .agg #[.bool (sg n1), .int .u64 (l0 n1 : Int), .int .u64 (l1 n1 : Int), .int .u64 (l2 n1 : Int), .int .u64 (l3 n1 : Int)], .agg #[.bool (sg u1), .int .u64 (l0 u1 : Int), .int .u64 (l1 u1 : Int), .int .u64 (l2 u1 : Int), .int .u64 (l3 u1 : Int)], .pointer (some ⟨gP7, 0, none⟩), undef, .pointer (some ⟨gP8, 0, none⟩), undef] (fun _ => (.cells #[.bool false, .int .u64 0, .int .u64 0, .int .u64 0, .int .u64 0] 25 (0, 0))) (fun i => match i with | 7 => (.cells #[.bool (sg u2), .int .u64 (l0 u2 : Int), .int .u64 (l1 u2 : Int), .int .u64 (l2 u2 : Int), .int .u64 (l3 u2 : Int), .bool (sg d2), .int .u64 (l0 d2 : Int), .int .u64 (l1 d2 : Int), .int .u64 (l2 d2 : Int), .int .u64 (l3 d2 : Int)] 35 (0, 0)) | _ => (.cells #[.bool (sg u1), .int .u64 (l0 u1 : Int), .int .u64 (l1 u1 : Int), .int .u64 (l2 u1 : Int), .int .u64 (l3 u1 : Int), .bool (sg d1), .int .u64 (l0 d1 : Int), .int .u64 (l1 d1 : Int), .int .u64 (l2 d1 : Int), .int .u64 (l3 d1 : Int)] 35 (0, 0))) (fun i => match i with | 0 => gP7 | _ => gP8) (by kernel_rfl) (by kernel_rfl) (by kernel_rfl) rfl rfl ltW0 (by intro c c' h1 h2 h3; simp at h1 h2; rcases h1 with rfl | rfl <;> rcases h2 with rfl | rfl <;> simp only at h3 <;> omega) ?_ ?_
    · refine ⟨?_, ?_, ?_, ?_, ?_, ?_, ?_, ?_, ?_, ?_, trivial⟩
      · refine op_q ?uvn9 ?h1n9 ?h2n9 ?h3n9
        case h1n9 => exact rfl
        case uvn9 => exact (.pointer (some ⟨gP7, 0, none⟩))
        case h2n9 => exact rfl
        intro w' hw'
        go_simp
      · refine op_qa ?uvn10 ?h1n10 ?h2n10 ?h3n10
        case h1n10 => exact rfl
        case uvn10 => exact (.agg #[.bool (sg n2), .int .u64 (l0 n2 : Int), .int .u64 (l1 n2 : Int), .int .u64 (l2 n2 : Int), .int .u64 (l3 n2 : Int)])
        case h2n10 => exact rfl
        intro w' hw' ha
        have P7 : Box10 w' gP7 (sg n2) (l0 n2) (l1 n2) (l2 n2) (l3 n2) (sg d2) (l0 d2) (l1 d2) (l2 d2) (l3 d2) := (ha 7 0 rfl (by kernel_rfl)).trans P7
        have xP7 := ten_cells P7
        go_simp
      · refine op_q ?uvn11 ?h1n11 ?h2n11 ?h3n11
        case h1n11 => exact rfl
        case uvn11 => exact (.agg #[.bool (sg u2), .int .u64 (l0 u2 : Int), .int .u64 (l1 u2 : Int), .int .u64 (l2 u2 : Int), .int .u64 (l3 u2 : Int)])
        case h2n11 => exact rfl
        intro w' hw'
        go_simp
        exact kN2.out w'
      · refine op_q ?uvn12 ?h1n12 ?h2n12 ?h3n12
        case h1n12 => exact rfl
        case uvn12 => exact (.pointer (some ⟨gP8, 0, none⟩))
        case h2n12 => exact rfl
        intro w' hw'
        go_simp
      · refine op_qa ?uvn13 ?h1n13 ?h2n13 ?h3n13
        case h1n13 => exact rfl
        case uvn13 => exact (.agg #[.bool (sg n1), .int .u64 (l0 n1 : Int), .int .u64 (l1 n1 : Int), .int .u64 (l2 n1 : Int), .int .u64 (l3 n1 : Int)])
        case h2n13 => exact rfl
        intro w' hw' ha
        have P8 : Box10 w' gP8 (sg n1) (l0 n1) (l1 n1) (l2 n1) (l3 n1) (sg d1) (l0 d1) (l1 d1) (l2 d1) (l3 d1) := (ha 9 1 rfl (by kernel_rfl)).trans P8
        have xP8 := ten_cells P8
        go_simp
      · refine op_q ?uvn14 ?h1n14 ?h2n14 ?h3n14
        case h1n14 => exact rfl
        case uvn14 => exact (.agg #[.bool (sg u1), .int .u64 (l0 u1 : Int), .int .u64 (l1 u1 : Int), .int .u64 (l2 u1 : Int), .int .u64 (l3 u1 : Int)])
        case h2n14 => exact rfl
        intro w' hw'
        go_simp
        exact kN1.out w'
      · refine op_q ?uvn15 ?h1n15 ?h2n15 ?h3n15
        case h1n15 => exact rfl
        case uvn15 => exact (.pointer (some ⟨gP7, 0, none⟩))
        case h2n15 => exact rfl
        intro w' hw'
        go_simp
      · refine op_so (c := 0) (T := ?uTn16) (p := ?upn16) (x := ?uxn16) ?ugn16 ?ufn16 ?uvn16 ?h1n16 ?h2n16 ?h3n16 ?h4n16 ?h5n16 ?h6n16 ?h7n16
        case h1n16 => exact rfl
        case h2n16 => exact rfl
        case ufn16 => exact (.cells #[.bool (sg u2), .int .u64 (l0 u2 : Int), .int .u64 (l1 u2 : Int), .int .u64 (l2 u2 : Int), .int .u64 (l3 u2 : Int), .bool (sg d2), .int .u64 (l0 d2 : Int), .int .u64 (l1 d2 : Int), .int .u64 (l2 d2 : Int), .int .u64 (l3 d2 : Int)] 35 (0, 0))
        case ugn16 => exact gP7
        case uvn16 => exact (.agg #[.bool (sg u2), .int .u64 (l0 u2 : Int), .int .u64 (l1 u2 : Int), .int .u64 (l2 u2 : Int), .int .u64 (l3 u2 : Int)])
        case h3n16 => exact rfl
        case h4n16 => exact rfl
        case h5n16 => go_simp; rfl
        case h6n16 => go_simp
        intro ρ w' hp hx hz
        exact store_num rfl hp hx (hz.trans P7)
      · refine op_q ?uvn17 ?h1n17 ?h2n17 ?h3n17
        case h1n17 => exact rfl
        case uvn17 => exact (.pointer (some ⟨gP8, 0, none⟩))
        case h2n17 => exact rfl
        intro w' hw'
        go_simp
      · refine op_so (c := 1) (T := ?uTn18) (p := ?upn18) (x := ?uxn18) ?ugn18 ?ufn18 ?uvn18 ?h1n18 ?h2n18 ?h3n18 ?h4n18 ?h5n18 ?h6n18 ?h7n18
        case h1n18 => exact rfl
        case h2n18 => exact rfl
        case ufn18 => exact (.cells #[.bool (sg u1), .int .u64 (l0 u1 : Int), .int .u64 (l1 u1 : Int), .int .u64 (l2 u1 : Int), .int .u64 (l3 u1 : Int), .bool (sg d1), .int .u64 (l0 d1 : Int), .int .u64 (l1 d1 : Int), .int .u64 (l2 d1 : Int), .int .u64 (l3 d1 : Int)] 35 (0, 0))
        case ugn18 => exact gP8
        case uvn18 => exact (.agg #[.bool (sg u1), .int .u64 (l0 u1 : Int), .int .u64 (l1 u1 : Int), .int .u64 (l2 u1 : Int), .int .u64 (l3 u1 : Int)])
        case h3n18 => exact rfl
        case h4n18 => exact rfl
        case h5n18 => go_simp; rfl
        case h6n18 => go_simp
        intro ρ w' hp hx hz
        exact store_num rfl hp hx (hz.trans P8)
    · intro G W7 hI
      have hS := hI.same
      have hb0 := EE.out.size
      have P3 := P3.same hS (by intro c hc; simp at hc; rcases hc with rfl | rfl <;> (try simp only) <;> omega)
      have P4 := P4.same hS (by intro c hc; simp at hc; rcases hc with rfl | rfl <;> (try simp only) <;> omega)
      have P5 := P5.same hS (by intro c hc; simp at hc; rcases hc with rfl | rfl <;> (try simp only) <;> omega)
      have hso : ∀ c, Tag.so c ∈ [.q, .q, .q, .q, .q, .q, .q, .so 0, .q, .so 1] → W.heap.size ≤ (fun i => match i with | 0 => gP7 | _ => gP8) c := by intro c hc; simp at hc; rcases hc with rfl | rfl <;> (try simp only) <;> omega
      have EE := hide (hS.ext' EE.out hso)
      have P7 : Box10 W7 gP7 (sg u2) (l0 u2) (l1 u2) (l2 u2) (l3 u2) (sg d2) (l0 d2) (l1 d2) (l2 d2) (l3 d2) := hI.olds' 7 (List.mem_range.2 (show 7 < 10 by decide)) 0 rfl
      have P8 : Box10 W7 gP8 (sg u1) (l0 u1) (l1 u1) (l2 u1) (l3 u1) (sg d1) (l0 d1) (l1 d1) (l2 d1) (l3 d1) := hI.olds' 9 (List.mem_range.2 (show 9 < 10 by decide)) 1 rfl
      clear hI hS hb0
      simp only [putAll, slotV, ptrTo, Nat.zero_add, Nat.reduceAdd]
      go_upto_region 5 with fail
      obtain ⟨xP70, xP71, xP72, xP73, xP74, xP75, xP76, xP77, xP78, xP79, -⟩ := ten_cells P7; obtain ⟨xP80, xP81, xP82, xP83, xP84, xP85, xP86, xP87, xP88, xP89, -⟩ := ten_cells P8
      go_upto_region 6 with (go_at_call 27; (with_reducible refine (kB2.out _).mono ?_); rintro e w8 ⟨rfl, hE⟩; clear xP70 xP71 xP72 xP73 xP74 xP75 xP76 xP77 xP78 xP79 xP80 xP81 xP82 xP83 xP84 xP85 xP86 xP87 xP88 xP89; have P3 := P3.ext hE; have P4 := P4.ext hE; have P5 := P5.ext hE; have P7 := P7.ext hE; have P8 := P8.ext hE; have EE := hide (EE.out.trans hE); clear hE; obtain ⟨xP70, xP71, xP72, xP73, xP74, xP75, xP76, xP77, xP78, xP79, -⟩ := ten_cells P7; obtain ⟨xP80, xP81, xP82, xP83, xP84, xP85, xP86, xP87, xP88, xP89, -⟩ := ten_cells P8)
      clear xP70 xP71 xP72 xP73 xP74 xP75 xP76 xP77 xP78 xP79 xP80 xP81 xP82 xP83 xP84 xP85 xP86 xP87 xP88 xP89
      have H2 := heap_alloc_new w8 (.cells #[.bool (sg u), .int .u64 (l0 u : Int), .int .u64 (l1 u : Int), .int .u64 (l2 u : Int), .int .u64 (l3 u : Int), .bool (sg m), .int .u64 (l0 m : Int), .int .u64 (l1 m : Int), .int .u64 (l2 m : Int), .int .u64 (l3 m : Int)] 35)
      have lP3 := P3.lt
      have lP4 := P4.lt
      have lP5 := P5.lt
      have lP7 := P7.lt
      have lP8 := P8.lt
      have hb0 := EE.out.size
      have hE := (ext_alloc w8 (.cells #[.bool (sg u), .int .u64 (l0 u : Int), .int .u64 (l1 u : Int), .int .u64 (l2 u : Int), .int .u64 (l3 u : Int), .bool (sg m), .int .u64 (l0 m : Int), .int .u64 (l1 m : Int), .int .u64 (l2 m : Int), .int .u64 (l3 m : Int)] 35))
      have P3 := P3.ext hE
      have P4 := P4.ext hE
      have P5 := P5.ext hE
      have P7 := P7.ext hE
      have P8 := P8.ext hE
      have EE := hide (EE.out.trans hE)
      clear hE
      have hbg10 := hb0
      clear hb0
      obtain ⟨W9, hW⟩ : ∃ W, W = (w8.alloc (.cells #[.bool (sg u), .int .u64 (l0 u : Int), .int .u64 (l1 u : Int), .int .u64 (l2 u : Int), .int .u64 (l3 u : Int), .bool (sg m), .int .u64 (l0 m : Int), .int .u64 (l1 m : Int), .int .u64 (l2 m : Int), .int .u64 (l3 m : Int)] 35)) := ⟨_, rfl⟩
      rw [← hW] at H2 EE P3 P4 P5 P7 P8 ⊢
      obtain ⟨g10, hg⟩ : ∃ g, w8.heap.size = g := ⟨_, rfl⟩
      rw [hg] at H2 hbg10 lP3 lP4 lP5 lP7 lP8 ⊢
      have P9 : Box10 W9 g10 (sg u) (l0 u) (l1 u) (l2 u) (l3 u) (sg m) (l0 m) (l1 m) (l2 m) (l3 m) := H2
      clear hW hg
      have ngP3P9 : g2 ≠ g10 := by omega
      have ngP4P9 : g2 + 1 ≠ g10 := by omega
      have ngP5P9 : g5 ≠ g10 := by omega
      have ngP7P9 : gP7 ≠ g10 := by omega
      have ngP8P9 : gP8 ≠ g10 := by omega
      have qe := eqWs u
      have qf := eqWs m
      have qt : ∀ w', (binOp .eql 4 (.bool true) (.bool true)).run Try.prog w' = .ok (.bool true) w' := by intro w'; rfl
      have qg : ∀ w', (binOp .eql 4 (.bool false) (.bool false)).run Try.prog w' = .ok (.bool true) w' := by intro w'; rfl
      by_cases hp : 0 < n1
      · skip
        have k1 := hide (kS1.out 1 (Int.sign_eq_one_of_pos hp))
        have k3 := hide (kS.out 1 (Int.sign_eq_one_of_pos (HZ.out.1 hp)))
        clear kS kS1 kS2 HO HZ hp
        obtain ⟨xP30, xP31, xP32, xP33, xP34, xP35, xP36, xP37, xP38, xP39, -⟩ := ten_cells P3
        go_upto_region 7 with (go_at_call 35; (with_reducible refine (k1.out _).mono ?_); rintro e w11 ⟨rfl, hE⟩; clear xP30 xP31 xP32 xP33 xP34 xP35 xP36 xP37 xP38 xP39; have P3 := P3.ext hE; have P4 := P4.ext hE; have P5 := P5.ext hE; have P7 := P7.ext hE; have P8 := P8.ext hE; have P9 := P9.ext hE; have EE := hide (EE.out.trans hE); clear hE; obtain ⟨xP30, xP31, xP32, xP33, xP34, xP35, xP36, xP37, xP38, xP39, -⟩ := ten_cells P3)
        clear xP30 xP31 xP32 xP33 xP34 xP35 xP36 xP37 xP38 xP39
        obtain ⟨yP50, yP51, yP52, yP53, yP54, yP55, yP56, yP57, yP58, yP59, yP5f0, yP5f1, yP5f2, yP5f3, yP5f4, yP5f5, yP5f6, yP5f7, yP5f8, yP5f9⟩ := ten_cells P5
        clear yP5f0 yP5f1 yP5f2 yP5f3 yP5f4 yP5f5 yP5f6 yP5f7 yP5f8 yP5f9
        replace yP50 := cellR yP50
        replace yP51 := cellR yP51
        replace yP52 := cellR yP52
        replace yP53 := cellR yP53
        replace yP54 := cellR yP54
        replace yP55 := cellR yP55
        replace yP56 := cellR yP56
        replace yP57 := cellR yP57
        replace yP58 := cellR yP58
        replace yP59 := cellR yP59
        obtain ⟨yP90, yP91, yP92, yP93, yP94, yP95, yP96, yP97, yP98, yP99, yP9f0, yP9f1, yP9f2, yP9f3, yP9f4, yP9f5, yP9f6, yP9f7, yP9f8, yP9f9⟩ := ten_cells P9
        clear yP9f0 yP9f1 yP9f2 yP9f3 yP9f4 yP9f5 yP9f6 yP9f7 yP9f8 yP9f9
        replace yP90 := cellR yP90
        replace yP91 := cellR yP91
        replace yP92 := cellR yP92
        replace yP93 := cellR yP93
        replace yP94 := cellR yP94
        replace yP95 := cellR yP95
        replace yP96 := cellR yP96
        replace yP97 := cellR yP97
        replace yP98 := cellR yP98
        replace yP99 := cellR yP99
        refine wp_region_quiet_below (by kernel_rfl) (by kernel_rfl) ?_
        repeat (first | go_big_quiet_step (first | with_reducible exact quiet_ret (kK.out _) | with_reducible exact quiet_ret (k3.out _) | with_reducible exact quiet_ret (kN.out _)) | quiet_step (first | with_reducible exact quiet_ret (kK.out _) | with_reducible exact quiet_ret (k3.out _) | with_reducible exact quiet_ret (kN.out _)))
        refine wpQuiet_nil ?_
        intro _ hw'
        obtain ⟨⟨dq, osq⟩, hw''⟩ := hw'
        subst hw''
        clear yP50 yP51 yP52 yP53 yP54 yP55 yP56 yP57 yP58 yP59 yP90 yP91 yP92 yP93 yP94 yP95 yP96 yP97 yP98 yP99
        have hE := ext_regrown w11 dq osq
        have P3 := P3.ext hE
        have P4 := P4.ext hE
        have P5 := P5.ext hE
        have P7 := P7.ext hE
        have P8 := P8.ext hE
        have P9 := P9.ext hE
        have EE := hide (EE.out.trans hE)
        clear hE
        generalize grow (redrawn w11 dq) osq = w11q at *
        go_wp2_with fail
        go_ret
        exact ⟨rfl, EE.out⟩
      · by_cases hq : n2 < 0
        · skip
          have k1 := hide (kS1.out (-1) (Int.sign_eq_neg_one_of_neg (HO.out hq)))
          have k2 := hide (kS2.out (-1) (Int.sign_eq_neg_one_of_neg hq))
          have k3 := hide (kS.out (-1) (Int.sign_eq_neg_one_of_neg (HZ.out.2.1 hq)))
          clear kS kS1 kS2 HO HZ hp hq
          obtain ⟨xP30, xP31, xP32, xP33, xP34, xP35, xP36, xP37, xP38, xP39, -⟩ := ten_cells P3; obtain ⟨xP40, xP41, xP42, xP43, xP44, xP45, xP46, xP47, xP48, xP49, -⟩ := ten_cells P4
          go_upto_region 7 with (first
            | (go_at_call 35; (with_reducible refine (k1.out _).mono ?_); rintro e w11 ⟨rfl, hE⟩; clear xP30 xP31 xP32 xP33 xP34 xP35 xP36 xP37 xP38 xP39 xP40 xP41 xP42 xP43 xP44 xP45 xP46 xP47 xP48 xP49; have P3 := P3.ext hE; have P4 := P4.ext hE; have P5 := P5.ext hE; have P7 := P7.ext hE; have P8 := P8.ext hE; have P9 := P9.ext hE; have EE := hide (EE.out.trans hE); clear hE; obtain ⟨xP30, xP31, xP32, xP33, xP34, xP35, xP36, xP37, xP38, xP39, -⟩ := ten_cells P3; obtain ⟨xP40, xP41, xP42, xP43, xP44, xP45, xP46, xP47, xP48, xP49, -⟩ := ten_cells P4)
            | (go_at_call 35; (with_reducible refine (k2.out _).mono ?_); rintro e w12 ⟨rfl, hE⟩; clear xP30 xP31 xP32 xP33 xP34 xP35 xP36 xP37 xP38 xP39 xP40 xP41 xP42 xP43 xP44 xP45 xP46 xP47 xP48 xP49; have P3 := P3.ext hE; have P4 := P4.ext hE; have P5 := P5.ext hE; have P7 := P7.ext hE; have P8 := P8.ext hE; have P9 := P9.ext hE; have EE := hide (EE.out.trans hE); clear hE; obtain ⟨xP30, xP31, xP32, xP33, xP34, xP35, xP36, xP37, xP38, xP39, -⟩ := ten_cells P3; obtain ⟨xP40, xP41, xP42, xP43, xP44, xP45, xP46, xP47, xP48, xP49, -⟩ := ten_cells P4))
          clear xP30 xP31 xP32 xP33 xP34 xP35 xP36 xP37 xP38 xP39 xP40 xP41 xP42 xP43 xP44 xP45 xP46 xP47 xP48 xP49
          obtain ⟨yP50, yP51, yP52, yP53, yP54, yP55, yP56, yP57, yP58, yP59, yP5f0, yP5f1, yP5f2, yP5f3, yP5f4, yP5f5, yP5f6, yP5f7, yP5f8, yP5f9⟩ := ten_cells P5
          clear yP5f0 yP5f1 yP5f2 yP5f3 yP5f4 yP5f5 yP5f6 yP5f7 yP5f8 yP5f9
          replace yP50 := cellR yP50
          replace yP51 := cellR yP51
          replace yP52 := cellR yP52
          replace yP53 := cellR yP53
          replace yP54 := cellR yP54
          replace yP55 := cellR yP55
          replace yP56 := cellR yP56
          replace yP57 := cellR yP57
          replace yP58 := cellR yP58
          replace yP59 := cellR yP59
          obtain ⟨yP90, yP91, yP92, yP93, yP94, yP95, yP96, yP97, yP98, yP99, yP9f0, yP9f1, yP9f2, yP9f3, yP9f4, yP9f5, yP9f6, yP9f7, yP9f8, yP9f9⟩ := ten_cells P9
          clear yP9f0 yP9f1 yP9f2 yP9f3 yP9f4 yP9f5 yP9f6 yP9f7 yP9f8 yP9f9
          replace yP90 := cellR yP90
          replace yP91 := cellR yP91
          replace yP92 := cellR yP92
          replace yP93 := cellR yP93
          replace yP94 := cellR yP94
          replace yP95 := cellR yP95
          replace yP96 := cellR yP96
          replace yP97 := cellR yP97
          replace yP98 := cellR yP98
          replace yP99 := cellR yP99
          refine wp_region_quiet_below (by kernel_rfl) (by kernel_rfl) ?_
          repeat (first | go_big_quiet_step (first | with_reducible exact quiet_ret (kK.out _) | with_reducible exact quiet_ret (k3.out _) | with_reducible exact quiet_ret (kN.out _)) | quiet_step (first | with_reducible exact quiet_ret (kK.out _) | with_reducible exact quiet_ret (k3.out _) | with_reducible exact quiet_ret (kN.out _)))
          refine wpQuiet_nil ?_
          intro _ hw'
          obtain ⟨⟨dq, osq⟩, hw''⟩ := hw'
          subst hw''
          clear yP50 yP51 yP52 yP53 yP54 yP55 yP56 yP57 yP58 yP59 yP90 yP91 yP92 yP93 yP94 yP95 yP96 yP97 yP98 yP99
          have hE := ext_regrown w12 dq osq
          have P3 := P3.ext hE
          have P4 := P4.ext hE
          have P5 := P5.ext hE
          have P7 := P7.ext hE
          have P8 := P8.ext hE
          have P9 := P9.ext hE
          have EE := hide (EE.out.trans hE)
          clear hE
          generalize grow (redrawn w12 dq) osq = w12q at *
          go_wp2_with fail
          go_ret
          exact ⟨rfl, EE.out⟩
        · obtain ⟨j, hj, j1, j2, j3⟩ := some_sign n1
          obtain ⟨i, hi, i1, i2, i3⟩ := some_sign n2
          have hj0 : j ≤ 0 := by rcases Int.lt_or_le 0 j with h | h; · exact absurd (j2.1 h) hp
                                 · exact h
          have hi0 : 0 ≤ i := by rcases Int.lt_or_le i 0 with h | h; · exact absurd (i1.1 h) hq
                                 · exact h
          clear j2 i1 j1 j3 i2 i3
          have k1 := hide (kS1.out j (hj))
          have k2 := hide (kS2.out i (hi))
          have k3 := hide (kS.out 0 (by rw [HZ.out.2.2 (by omega) (by omega)]; rfl))
          clear kS kS1 kS2 HO HZ hp hq
          clear hj hi
          obtain ⟨xP30, xP31, xP32, xP33, xP34, xP35, xP36, xP37, xP38, xP39, -⟩ := ten_cells P3; obtain ⟨xP40, xP41, xP42, xP43, xP44, xP45, xP46, xP47, xP48, xP49, -⟩ := ten_cells P4
          go_upto_region 7 with (first
            | (go_at_call 35; (with_reducible refine (k1.out _).mono ?_); rintro e w11 ⟨rfl, hE⟩; clear xP30 xP31 xP32 xP33 xP34 xP35 xP36 xP37 xP38 xP39 xP40 xP41 xP42 xP43 xP44 xP45 xP46 xP47 xP48 xP49; have P3 := P3.ext hE; have P4 := P4.ext hE; have P5 := P5.ext hE; have P7 := P7.ext hE; have P8 := P8.ext hE; have P9 := P9.ext hE; have EE := hide (EE.out.trans hE); clear hE; obtain ⟨xP30, xP31, xP32, xP33, xP34, xP35, xP36, xP37, xP38, xP39, -⟩ := ten_cells P3; obtain ⟨xP40, xP41, xP42, xP43, xP44, xP45, xP46, xP47, xP48, xP49, -⟩ := ten_cells P4)
            | (go_at_call 35; (with_reducible refine (k2.out _).mono ?_); rintro e w12 ⟨rfl, hE⟩; clear xP30 xP31 xP32 xP33 xP34 xP35 xP36 xP37 xP38 xP39 xP40 xP41 xP42 xP43 xP44 xP45 xP46 xP47 xP48 xP49; have P3 := P3.ext hE; have P4 := P4.ext hE; have P5 := P5.ext hE; have P7 := P7.ext hE; have P8 := P8.ext hE; have P9 := P9.ext hE; have EE := hide (EE.out.trans hE); clear hE; obtain ⟨xP30, xP31, xP32, xP33, xP34, xP35, xP36, xP37, xP38, xP39, -⟩ := ten_cells P3; obtain ⟨xP40, xP41, xP42, xP43, xP44, xP45, xP46, xP47, xP48, xP49, -⟩ := ten_cells P4))
          clear xP30 xP31 xP32 xP33 xP34 xP35 xP36 xP37 xP38 xP39 xP40 xP41 xP42 xP43 xP44 xP45 xP46 xP47 xP48 xP49
          obtain ⟨yP50, yP51, yP52, yP53, yP54, yP55, yP56, yP57, yP58, yP59, yP5f0, yP5f1, yP5f2, yP5f3, yP5f4, yP5f5, yP5f6, yP5f7, yP5f8, yP5f9⟩ := ten_cells P5
          clear yP5f0 yP5f1 yP5f2 yP5f3 yP5f4 yP5f5 yP5f6 yP5f7 yP5f8 yP5f9
          replace yP50 := cellR yP50
          replace yP51 := cellR yP51
          replace yP52 := cellR yP52
          replace yP53 := cellR yP53
          replace yP54 := cellR yP54
          replace yP55 := cellR yP55
          replace yP56 := cellR yP56
          replace yP57 := cellR yP57
          replace yP58 := cellR yP58
          replace yP59 := cellR yP59
          obtain ⟨yP90, yP91, yP92, yP93, yP94, yP95, yP96, yP97, yP98, yP99, yP9f0, yP9f1, yP9f2, yP9f3, yP9f4, yP9f5, yP9f6, yP9f7, yP9f8, yP9f9⟩ := ten_cells P9
          clear yP9f0 yP9f1 yP9f2 yP9f3 yP9f4 yP9f5 yP9f6 yP9f7 yP9f8 yP9f9
          replace yP90 := cellR yP90
          replace yP91 := cellR yP91
          replace yP92 := cellR yP92
          replace yP93 := cellR yP93
          replace yP94 := cellR yP94
          replace yP95 := cellR yP95
          replace yP96 := cellR yP96
          replace yP97 := cellR yP97
          replace yP98 := cellR yP98
          replace yP99 := cellR yP99
          refine wp_region_quiet_below (by kernel_rfl) (by kernel_rfl) ?_
          repeat (first | go_big_quiet_step (first | with_reducible exact quiet_ret (kK.out _) | with_reducible exact quiet_ret (k3.out _) | with_reducible exact quiet_ret (kN.out _)) | quiet_step (first | with_reducible exact quiet_ret (kK.out _) | with_reducible exact quiet_ret (k3.out _) | with_reducible exact quiet_ret (kN.out _)))
          refine wpQuiet_nil ?_
          intro _ hw'
          obtain ⟨⟨dq, osq⟩, hw''⟩ := hw'
          subst hw''
          clear yP50 yP51 yP52 yP53 yP54 yP55 yP56 yP57 yP58 yP59 yP90 yP91 yP92 yP93 yP94 yP95 yP96 yP97 yP98 yP99
          have hE := ext_regrown w12 dq osq
          have P3 := P3.ext hE
          have P4 := P4.ext hE
          have P5 := P5.ext hE
          have P7 := P7.ext hE
          have P8 := P8.ext hE
          have P9 := P9.ext hE
          have EE := hide (EE.out.trans hE)
          clear hE
          generalize grow (redrawn w12 dq) osq = w12q at *
          go_wp2_with fail
          go_ret
          exact ⟨rfl, EE.out⟩
end Go.Proofs.Ytbnbkondbdakeaa
