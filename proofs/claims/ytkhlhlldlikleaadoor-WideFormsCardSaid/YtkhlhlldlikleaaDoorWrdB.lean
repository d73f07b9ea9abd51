/- oneWord, length and compareWords of the program. Condition: the words are of 64 bits. -/
import Derived.Test.YtkhlhlldlikleaaDoorWrdA
import Derived.Test.YtkhlhlldlikleaaDoorMagK
namespace Go.Proofs.YtkhlhlldlikleaaDoor
set_option linter.unusedVariables false
set_option linter.unusedSimpArgs false
open Go Go.RowKit
/-- A quiet call behind a region that drew. -/
theorem quietAdd {P : Program} {f : FuncId} {args : Array Value} {w : World} {a n : Nat} {v : Value} (h : Calls P f args (w.drewN (a + n)) fun e w' => e = .returned v ∧ w.drewN (a + n) = w') :
    Calls P f args (w.drewN (a + n)) fun e w'' => e = .returned v ∧ ∃ m, w'' = w.drewN (a + m) := h.mono fun _ _ ⟨he, hm⟩ => ⟨he, n, hm.symm⟩
theorem quietLeft {P : Program} {f : FuncId} {args : Array Value} {w : World} {n : Nat} {v : Value} (h : Calls P f args (w.drewN n) fun e w' => e = .returned v ∧ w.drewN n = w') :
    Calls P f args (w.drewN n) fun e w'' => e = .returned v ∧ ∃ m, w'' = w.drewN m := h.mono fun _ _ ⟨he, hm⟩ => ⟨he, n, hm.symm⟩
theorem eqTail (a b c d : Nat) (o : Bool) (h : decide (mag4 a b c d < 18446744073709551616) = o) (ha : a < 18446744073709551616) (w : World) :
    (binOp .eql 59 (.agg #[.int .u64 (a : Int), .int .u64 (b : Int), .int .u64 (c : Int), .int .u64 (d : Int)]) (.agg #[.int .u64 (a : Int), .int .u64 0, .int .u64 0, .int .u64 0])).run Tryd.prog w = .ok (.bool o) w := by
  rw [eq4 59 Tryd.underlying59, ← h]
  have e : mag4 a b c d < 18446744073709551616 ↔ (b = 0 ∧ c = 0 ∧ d = 0) := by simp only [mag4, val]; omega
  congr 2
  rw [Bool.eq_iff_iff, decide_eq_true_iff, e]; simp
theorem p_oneWord (a b c d : Nat) (w : World) (ha : a < 18446744073709551616) :
    Calls Tryd.prog 44 #[.agg #[.int .u64 (a : Int), .int .u64 (b : Int), .int .u64 (c : Int), .int .u64 (d : Int)]] w (PairRet .u64 a (decide (mag4 a b c d < 18446744073709551616)) w) := by
  obtain ⟨o, ho⟩ : ∃ o, decide (mag4 a b c d < 18446744073709551616) = o := ⟨_, rfl⟩
  have hq := eqTail a b c d o ho ha
  rw [ho]
  clear ho
  go_enter Tryd.func44, Tryd.ntmps44
  go_wp2
  go_quiet (fail)
  go_wp2
  go_ret2
  exact ⟨rfl, (ext_alloc _ _).trans (ext_drewN _ _)⟩
/-- The number of words without those that are 0 at the upper end. -/
theorem len_of (L : List Nat) (hL : W64 L) (n : Nat) (hn : n ≤ L.length) (hz : val (L.drop n) = 0) (hp : n = 0 ∨ ∃ h : n - 1 < L.length, L[n - 1] ≠ 0) : (limbs (val L)).length = n := by
  have e : val L = val (L.take n) := by rw [val_take_drop L n hn, hz]; simp
  rw [e]
  rw [limbs_of _ (w64_take hL n) ?_, List.length_take, Nat.min_eq_left hn]
  rcases Classical.em (n = 0) with rfl | h0
  · simp
  · · obtain ⟨k, rfl⟩ : ∃ k, n = k + 1 := ⟨n - 1, by omega⟩
      rw [List.take_succ_eq_append_getElem (by omega)]
      rw [List.getLast?_concat]; intro h0; injection h0 with h0; exact hp.resolve_left (by omega) |>.elim fun _ h1 => h1 h0
theorem p_length (a b c d n : Nat) (hn : mag4 a b c d = n) (w : World) (hw : W64 [a, b, c, d]) :
    Calls Tryd.prog 67 #[.agg #[.int .u64 (a : Int), .int .u64 (b : Int), .int .u64 (c : Int), .int .u64 (d : Int)]] w (IntRet .i64 (limbs n).length w) := by
  have hA := arr_new w 59 [a, b, c, d] #[.int .u64 (a : Int), .int .u64 (b : Int), .int .u64 (c : Int), .int .u64 (d : Int)] rfl
  obtain ⟨L, hL⟩ : ∃ L, L = [a, b, c, d] := ⟨_, rfl⟩
  have h4 : L.length = 4 := by rw [hL]; rfl
  have hv : val L = n := by rw [hL]; exact hn
  rw [← hL] at hA hw
  have HA := hide hA
  have HX := hide (ext_alloc w (.cells #[.int .u64 (a : Int), .int .u64 (b : Int), .int .u64 (c : Int), .int .u64 (d : Int)] 59))
  have H4 := hide h4
  have HV := hide hv
  clear hA h4 hv hL hn
  go_enter Tryd.func67, Tryd.ntmps67
  go_wp2
  go_loop [3] (fun i => ∃ k : Nat, i = .int .i64 k ∧ k ≤ 4 ∧ Hid (val (L.drop k) = 0)) (fun i => (intOf i).toNat)
  case atStart => exact ⟨4, rfl, by omega, by unfold Hid; rw [List.drop_of_length_le (by rw [H4.out]; omega)]; rfl⟩
  case round =>
    obtain ⟨k, rfl, hk, HD⟩ := hrel
    by_cases hk0 : k = 0
    · subst hk0
      go_wp2
      go_ret
      exact ⟨rb1 (by have := len_of L hw 0 (by omega) HD.out (Or.inl rfl); rw [HV.out] at this; rw [this]; rfl), HX.out⟩
    · obtain ⟨j, rfl⟩ : ∃ j, k = j + 1 := ⟨k - 1, by omega⟩
      have hj : j < L.length := by rw [H4.out]; omega
      have hc := HA.out.at j hj
      obtain ⟨x, hx⟩ : ∃ x, L[j] = x := ⟨_, rfl⟩
      rw [hx] at hc
      have HXX := hide hx
      clear hx
      by_cases hz : x = 0
      · subst hz
        have HD2 : Hid (val (L.drop j) = 0) := by unfold Hid; rw [val_drop L j hj, HXX.out, HD.out]
        go_wp2
        exact ⟨⟨j, by go_num, by omega, HD2⟩, by simp [intOf]⟩
      · have hz' : ((x : Int) == 0) = false := by simp; omega
        go_wp2
        go_ret
        exact ⟨rb1 (by have := len_of L hw (j + 1) (by omega) HD.out (Or.inr ⟨by simpa using hj, by have := HXX.out; simp; omega⟩); rw [HV.out] at this; rw [this]; omega), HX.out⟩
theorem c_cmpU (x y : Nat) (w : World) : Calls Tryd.prog 64 #[.int .u64 (x : Int), .int .u64 (y : Int)] w fun e w' => e = .returned (.int .i64 (sgnN x y)) ∧ w = w' := by
  go_enter Tryd.func64, Tryd.ntmps64
  go_wp2
  all_goals go_ret
  all_goals exact ⟨rb1 (by unfold sgnN; first | (rw [if_pos (by omega)]; done) | (rw [if_neg (by omega), if_pos (by omega)]; done) | (rw [if_neg (by omega), if_neg (by omega)]; done)), rfl⟩
def sgnI (x y : Int) : Int := if x < y then -1 else if y < x then 1 else 0
theorem c_cmpI (x y : Int) (w : World) : Calls Tryd.prog 50 #[.int .i64 x, .int .i64 y] w fun e w' => e = .returned (.int .i64 (sgnI x y)) ∧ w = w' := by
  go_enter Tryd.func50, Tryd.ntmps50
  go_wp2
  all_goals go_ret
  all_goals exact ⟨rb1 (by unfold sgnI; first | (rw [if_pos (by omega)]; done) | (rw [if_neg (by omega), if_pos (by omega)]; done) | (rw [if_neg (by omega), if_neg (by omega)]; done)), rfl⟩
/-- Two numbers are compared word by word, from the most significant one on. -/
theorem p_cmpWords (a b c d e f g h n m : Nat) (hn : mag4 a b c d = n) (hm : mag4 e f g h = m) (w : World) (hw : W64 [a, b, c, d]) (hw' : W64 [e, f, g, h]) :
    Calls Tryd.prog 46 #[.agg #[.int .u64 (a : Int), .int .u64 (b : Int), .int .u64 (c : Int), .int .u64 (d : Int)], .agg #[.int .u64 (e : Int), .int .u64 (f : Int), .int .u64 (g : Int), .int .u64 (h : Int)]] w (IntRet .i64 (sgnN n m) w) := by
  have H1 := two_blocks w (.cells #[.int .u64 (a : Int), .int .u64 (b : Int), .int .u64 (c : Int), .int .u64 (d : Int)] 59) (.cells #[.int .u64 (e : Int), .int .u64 (f : Int), .int .u64 (g : Int), .int .u64 (h : Int)] 59)
  have HX := hide ((ext_alloc w (.cells #[.int .u64 (a : Int), .int .u64 (b : Int), .int .u64 (c : Int), .int .u64 (d : Int)] 59)).trans (ext_alloc _ (.cells #[.int .u64 (e : Int), .int .u64 (f : Int), .int .u64 (g : Int), .int .u64 (h : Int)] 59)))
  obtain ⟨W, hW⟩ : ∃ W, W = (w.alloc (.cells #[.int .u64 (a : Int), .int .u64 (b : Int), .int .u64 (c : Int), .int .u64 (d : Int)] 59)).alloc (.cells #[.int .u64 (e : Int), .int .u64 (f : Int), .int .u64 (g : Int), .int .u64 (h : Int)] 59) := ⟨_, rfl⟩
  rw [← hW] at H1 HX
  obtain ⟨L, hL⟩ : ∃ L, L = [a, b, c, d] := ⟨_, rfl⟩
  obtain ⟨M, hM⟩ : ∃ M, M = [e, f, g, h] := ⟨_, rfl⟩
  have A1 : Hid (Arr W w.heap.size 59 L) := by rw [hL]; exact H1.1
  have A2 : Hid (Arr W (w.heap.size + 1) 59 M) := by rw [hM]; exact H1.2
  have HL : Hid (L.length = 4) := by rw [hL]; exact rfl
  have HM : Hid (M.length = 4) := by rw [hM]; exact rfl
  have VL : Hid (val L = n) := by rw [hL]; exact hn
  have VM : Hid (val M = m) := by rw [hM]; exact hm
  rw [← hL] at hw
  rw [← hM] at hw'
  have HW := hide hW
  clear H1 hL hM hn hm hW
  go_enter Tryd.func46, Tryd.ntmps46
  go_wp2_with fail
  rw [← HW.out]
  clear HW
  go_loopw [5] (fun i wr => ∃ k : Nat, i = .int .i64 ((k : Int) - 1) ∧ k ≤ 4 ∧ Hid (L.drop k = M.drop k) ∧ Ext W wr) (fun i _ => (intOf i + 1).toNat)
  case atStart => exact ⟨4, rfl, by omega, by unfold Hid; rw [List.drop_of_length_le (by rw [HL.out]; omega), List.drop_of_length_le (by rw [HM.out]; omega)], Ext.refl _⟩
  case round =>
    obtain ⟨k, rfl, hk, HD, hE⟩ := hrel
    by_cases hk0 : k = 0
    · subst hk0
      go_wp2
      go_ret
      exact ⟨rb1 (by have e := HD.out; simp only [List.drop_zero] at e; have e2 := congrArg val e; rw [VL.out, VM.out] at e2; subst e2; simp [sgnN]), HX.out.trans hE⟩
    · obtain ⟨j, rfl⟩ : ∃ j, k = j + 1 := ⟨k - 1, by omega⟩
      have hs1 : j < L.length := by rw [HL.out]; omega
      have hs2 : j < M.length := by rw [HM.out]; omega
      have cg := (A1.out.ext hE).at j hs1
      have cg' := (A2.out.ext hE).at j hs2
      obtain ⟨x, hx⟩ : ∃ x, L[j] = x := ⟨_, rfl⟩
      obtain ⟨y, hy⟩ : ∃ y, M[j] = y := ⟨_, rfl⟩
      rw [hx] at cg
      rw [hy] at cg'
      have HXX := hide hx
      have HYY := hide hy
      clear hx hy
      have hE2 : ∀ q, Ext W (wr.drewN q) := fun q => hE.trans (ext_drewN _ _)
      by_cases hxy : x = y
      · subst hxy
        have HD2 : Hid (L.drop j = M.drop j) := by
          unfold Hid; rw [List.drop_eq_getElem_cons hs1, List.drop_eq_getElem_cons hs2, HD.out, HXX.out, HYY.out]
        clear HXX HYY
        go_wp2
        go_quiet (fail)
        go_wp2
        go_roundw
        case rel => exact ⟨j, by go_num, by omega, HD2, hE2 _⟩
        case measure => first | (simp [intOf]; done) | (simp [intOf]; omega)
      · have hne : ((x : Int) != (y : Int)) = true := by simp; omega
        have HS : Hid (sgnN x y = sgnN n m) := by
          rcases (by omega : x < y ∨ y < x) with hxy | hxy
          · have := cmp_lt L M j hs1 hs2 hw HD.out (by rw [HXX.out, HYY.out]; exact hxy)
            rw [VL.out, VM.out] at this
            unfold Hid sgnN; rw [if_pos hxy, if_pos this]
          · have := cmp_lt M L j hs2 hs1 hw' HD.out.symm (by rw [HXX.out, HYY.out]; exact hxy)
            rw [VL.out, VM.out] at this
            unfold Hid sgnN; rw [if_neg (by omega), if_pos hxy, if_neg (by omega), if_pos this]
        clear HXX HYY
        go_wp2
        go_quiet (fail)
        go_wp2
        go_quiet ((go_at_call 64; exact quietAdd (c_cmpU x y _)))
        go_wp2
        go_ret
        exact ⟨rb1 HS.out, HX.out.trans ((hE2 _).trans (ext_drewN _ _))⟩
end Go.Proofs.YtkhlhlldlikleaaDoor
