/- The law RatioUnique, walked. Conditions: the arguments are a list of numbers of 64 bits and a number of 64 bits. -/
import Derived.Test.YthcobijnhfflnaaROrd
import Derived.Test.YthcobijnhfflnaaQuoA
namespace Go.Proofs.Ythcobijnhfflnaa
set_option linter.unusedVariables false
set_option linter.unusedSimpArgs false
open Go Go.RowKit Go.Sort
theorem rat_scale {n d m : Int} (h : Frac n d) (hm : m ≠ 0) : numR (n * m) (d * m) = n ∧ denR (n * m) (d * m) = d := by
  have hg : Int.gcd (n * m) (d * m) = m.natAbs := by rw [Int.gcd_mul_right, h.2.2.2, Nat.one_mul]
  have h0 := h.1
  unfold numR denR
  rw [hg]
  by_cases hs : m < 0
  · have hd : d * m < 0 := Int.mul_neg_of_pos_of_neg h0 hs
    rw [if_pos hd, if_pos hd]
    have e : (m.natAbs : Int) = -m := by omega
    rw [e]
    have e1 : -(n * m) = n * -m := by rw [Int.mul_neg]
    have e2 : -(d * m) = d * -m := by rw [Int.mul_neg]
    rw [e1, e2]
    exact ⟨Int.mul_ediv_cancel _ (by omega), Int.mul_ediv_cancel _ (by omega)⟩
  · have hd : ¬ d * m < 0 := by
      have := Int.mul_nonneg (Int.le_of_lt h0) (show (0 : Int) ≤ m by omega)
      omega
    rw [if_neg hd, if_neg hd]
    have e : (m.natAbs : Int) = m := by omega
    rw [e]
    exact ⟨Int.mul_ediv_cancel _ hm, Int.mul_ediv_cancel _ hm⟩
theorem mul_small {n m : Int} (hn : n.natAbs < 170141183460469231731687303715884105728) (h1 : -9223372036854775808 ≤ m) (h2 : m ≤ 9223372036854775807) : F256 (n * m) := by
  unfold F256
  rw [Int.natAbs_mul]
  have h3 : m.natAbs < 9223372036854775809 := by omega
  exact Nat.lt_of_lt_of_le (Nat.mul_lt_mul'' hn h3) (by decide)
set_option maxRecDepth 100000 in
set_option maxHeartbeats 8000000 in
theorem law_runi (m : Int) (x : Option Addr) (len cap : Nat) (W : World) (hL : IsList W x len cap) (m1 : -9223372036854775808 ≤ m) (m2 : m ≤ 9223372036854775807) : Calls Try.prog 5 #[.slice x len cap, .int .i64 m] W (BoolRet true W) := by
  have HL := hide hL
  clear hL
  go_enter Try.func5, Try.ntmps5
  go_upto_region 2 with (go_at_call 14; (with_reducible refine (t_new W x len cap HL.out).mono ?_); rintro e w1 ⟨rfl, T0, hB⟩)
  obtain ⟨b, hb⟩ : ∃ b, W.heap.size = b := ⟨_, rfl⟩
  have HB := hide hb
  rw [hb] at T0 hB
  have EE : Hid (Ext W w1) := by rw [← hb] at hB; exact hB
  rw [hb]
  clear hb hB
  go_upto_region 3 with (go_at_call 15; (with_reducible refine (t_ratio b b _ _ T0 (Upd.refl _ _)).mono ?_); rintro e w2 ⟨n1, d1, rfl, hF1, T1, hU⟩; have HF1 := hide hF1; have EE := hide (hU.ext EE.out (by rw [HB.out]; exact Nat.le_refl _)); clear T0 hU hF1)
  have H2 := heap_alloc_new w2 (.cells #[.bool (sg n1), .int .u64 (l0 n1 : Int), .int .u64 (l1 n1 : Int), .int .u64 (l2 n1 : Int), .int .u64 (l3 n1 : Int), .bool (sg d1), .int .u64 (l0 d1 : Int), .int .u64 (l1 d1 : Int), .int .u64 (l2 d1 : Int), .int .u64 (l3 d1 : Int)] 27)
  have hE := (ext_alloc w2 (.cells #[.bool (sg n1), .int .u64 (l0 n1 : Int), .int .u64 (l1 n1 : Int), .int .u64 (l2 n1 : Int), .int .u64 (l3 n1 : Int), .bool (sg d1), .int .u64 (l0 d1 : Int), .int .u64 (l1 d1 : Int), .int .u64 (l2 d1 : Int), .int .u64 (l3 d1 : Int)] 27))
  have EE := hide (EE.out.trans hE)
  clear hE
  obtain ⟨W2, hW⟩ : ∃ W, W = (w2.alloc (.cells #[.bool (sg n1), .int .u64 (l0 n1 : Int), .int .u64 (l1 n1 : Int), .int .u64 (l2 n1 : Int), .int .u64 (l3 n1 : Int), .bool (sg d1), .int .u64 (l0 d1 : Int), .int .u64 (l1 d1 : Int), .int .u64 (l2 d1 : Int), .int .u64 (l3 d1 : Int)] 27)) := ⟨_, rfl⟩
  rw [← hW] at H2 EE  ⊢
  obtain ⟨g, hg⟩ : ∃ g, w2.heap.size = g := ⟨_, rfl⟩
  rw [hg] at H2 ⊢
  have P1 : Box10 W2 g (sg n1) (l0 n1) (l1 n1) (l2 n1) (l3 n1) (sg d1) (l0 d1) (l1 d1) (l2 d1) (l3 d1) := H2
  clear hW hg
  clear T1
  obtain ⟨k, hk⟩ : ∃ k, (if m = 0 then 7 else m) = k := ⟨_, rfl⟩
  have k0 : k ≠ 0 := by rw [← hk]; split <;> omega
  have k1 : -9223372036854775808 ≤ k := by rw [← hk]; split <;> omega
  have k2 : k ≤ 9223372036854775807 := by rw [← hk]; split <;> omega
  have HK := hide hk
  clear hk
  go_upto_if 18 with fail
  go_cut [1] (fun p wx => p = .int .i64 k ∧ W2 = wx)
  case first =>
    have hk := HK.out
    by_cases hm : m = 0
    · subst hm
      rw [if_pos rfl] at hk
      subst hk
      go_wp2_with fail
      all_goals go_meet
      all_goals exact ⟨rfl, rfl⟩
    · rw [if_neg hm] at hk
      subst hk
      go_wp2_with fail
      all_goals go_meet
      all_goals exact ⟨rfl, rfl⟩
  case rest =>
   obtain ⟨rfl, hwx⟩ := hcut
   subst hwx
   obtain ⟨n2, hn2⟩ : ∃ z, n1 * k = z := ⟨_, rfl⟩
   obtain ⟨d2, hd2⟩ : ∃ z, d1 * k = z := ⟨_, rfl⟩
   have fn2 : F256 n2 := by rw [← hn2]; exact mul_small HF1.out.2.1 k1 k2
   have fd2 : F256 d2 := by rw [← hd2]; exact mul_small HF1.out.2.2.1 k1 k2
   have fk : F256 k := by unfold F256; omega
   have kO : Hid (∀ w, Calls Try.prog 22 #[.int .i64 k] w (Ret (.agg #[.bool (sg k), .int .u64 (l0 k : Int), .int .u64 (l1 k : Int), .int .u64 (l2 k : Int), .int .u64 (l3 k : Int)]) w)) := fun w => d_ofi k1 k2 w
   have kN : Hid (∀ w, Calls Try.prog 28 #[.agg #[.bool (sg n1), .int .u64 (l0 n1 : Int), .int .u64 (l1 n1 : Int), .int .u64 (l2 n1 : Int), .int .u64 (l3 n1 : Int)], .agg #[.bool (sg k), .int .u64 (l0 k : Int), .int .u64 (l1 k : Int), .int .u64 (l2 k : Int), .int .u64 (l3 k : Int)]] w (Ret (.tuple #[.agg #[.bool (sg n2), .int .u64 (l0 n2 : Int), .int .u64 (l1 n2 : Int), .int .u64 (l2 n2 : Int), .int .u64 (l3 n2 : Int)], .bool true]) w)) := fun w => d_mul HF1.out.fn fk hn2 fn2 w
   have kD : Hid (∀ w, Calls Try.prog 28 #[.agg #[.bool (sg d1), .int .u64 (l0 d1 : Int), .int .u64 (l1 d1 : Int), .int .u64 (l2 d1 : Int), .int .u64 (l3 d1 : Int)], .agg #[.bool (sg k), .int .u64 (l0 k : Int), .int .u64 (l1 k : Int), .int .u64 (l2 k : Int), .int .u64 (l3 k : Int)]] w (Ret (.tuple #[.agg #[.bool (sg d2), .int .u64 (l0 d2 : Int), .int .u64 (l1 d2 : Int), .int .u64 (l2 d2 : Int), .int .u64 (l3 d2 : Int)], .bool true]) w)) := fun w => d_mul HF1.out.fd fk hd2 fd2 w
   have kM : Hid (∀ w, Calls Try.prog 25 #[.agg #[.bool (sg n2), .int .u64 (l0 n2 : Int), .int .u64 (l1 n2 : Int), .int .u64 (l2 n2 : Int), .int .u64 (l3 n2 : Int)], .agg #[.bool (sg d2), .int .u64 (l0 d2 : Int), .int .u64 (l1 d2 : Int), .int .u64 (l2 d2 : Int), .int .u64 (l3 d2 : Int)]] w (Ret (.tuple #[.agg #[.bool (sg n1), .int .u64 (l0 n1 : Int), .int .u64 (l1 n1 : Int), .int .u64 (l2 n1 : Int), .int .u64 (l3 n1 : Int), .bool (sg d1), .int .u64 (l0 d1 : Int), .int .u64 (l1 d1 : Int), .int .u64 (l2 d1 : Int), .int .u64 (l3 d1 : Int)], .bool true]) w)) := fun w => by
     have hs := rat_scale HF1.out k0
     rw [hn2, hd2] at hs
     have h0 : d2 ≠ 0 := by
       rw [← hd2]; intro e
       rcases Int.mul_eq_zero.1 e with e | e
       · have := HF1.out.1; omega
       · exact k0 e
     refine g_make fn2 fd2 h0 ?_ (by simpa using hs.1) (by simpa using hs.2) w
     unfold mkB
     rw [hs.1, hs.2]
     exact decide_eq_true ⟨HF1.out.2.1, HF1.out.2.2.1⟩
   have kC : Hid (∀ w, Calls Try.prog 29 #[.agg #[.bool (sg n1), .int .u64 (l0 n1 : Int), .int .u64 (l1 n1 : Int), .int .u64 (l2 n1 : Int), .int .u64 (l3 n1 : Int), .bool (sg d1), .int .u64 (l0 d1 : Int), .int .u64 (l1 d1 : Int), .int .u64 (l2 d1 : Int), .int .u64 (l3 d1 : Int)], .agg #[.bool (sg n1), .int .u64 (l0 n1 : Int), .int .u64 (l1 n1 : Int), .int .u64 (l2 n1 : Int), .int .u64 (l3 n1 : Int), .bool (sg d1), .int .u64 (l0 d1 : Int), .int .u64 (l1 d1 : Int), .int .u64 (l2 d1 : Int), .int .u64 (l3 d1 : Int)]] w (Ret (.int .i64 0) w)) := fun w => g_cmp HF1.out HF1.out (cmpI_eq rfl) w
   clear hn2 hd2 k0 k1 k2 fk HK
   have HN2 := hide fn2
   have HD2 := hide fd2
   clear fn2 fd2
   go_upto_region 5 with fail
   go_cut [7, 8] (fun p0 p1 wx => Quot W2 n2 p0 wx ∧ p1 = .bool true)
   case first =>
     obtain ⟨xP10, xP11, xP12, xP13, xP14, xP15, xP16, xP17, xP18, xP19, xP1f0, xP1f1, xP1f2, xP1f3, xP1f4, xP1f5, xP1f6, xP1f7, xP1f8, xP1f9⟩ := ten_cells P1
     have lbP1 := P1.lt
     have EB := Ext.refl W2
     go_region_held3 (fun w' => w'.cell? ⟨g, 0, none⟩ = some (.bool (sg n1)) ∧ w'.cell? ⟨g, 1, none⟩ = some (.int .u64 (l0 n1 : Int)) ∧ w'.cell? ⟨g, 2, none⟩ = some (.int .u64 (l1 n1 : Int)) ∧ w'.cell? ⟨g, 3, none⟩ = some (.int .u64 (l2 n1 : Int)) ∧ w'.cell? ⟨g, 4, none⟩ = some (.int .u64 (l3 n1 : Int)) ∧ w'.cell? ⟨g, 5, none⟩ = some (.bool (sg d1)) ∧ w'.cell? ⟨g, 6, none⟩ = some (.int .u64 (l0 d1 : Int)) ∧ w'.cell? ⟨g, 7, none⟩ = some (.int .u64 (l1 d1 : Int)) ∧ w'.cell? ⟨g, 8, none⟩ = some (.int .u64 (l2 d1 : Int)) ∧ w'.cell? ⟨g, 9, none⟩ = some (.int .u64 (l3 d1 : Int))) (first | (with_reducible exact ⟨xP10, xP11, xP12, xP13, xP14, xP15, xP16, xP17, xP18, xP19⟩) | go_keep) (first
       | (go_at_call 22; (with_reducible refine (kO.out _).mono ?_); rintro e' w3 ⟨rfl, hE⟩; have hF : Ext W2 w3 := (by first | (with_reducible exact hE) | (with_reducible exact (ext_drew _).trans hE)); clear hE; have hG := hF; have P1 := P1.ext hG; have EB := EB.trans hG; obtain ⟨xP10, xP11, xP12, xP13, xP14, xP15, xP16, xP17, xP18, xP19, xP1f0, xP1f1, xP1f2, xP1f3, xP1f4, xP1f5, xP1f6, xP1f7, xP1f8, xP1f9⟩ := ten_cells P1; have szw3 := hG.size; have loP1 := P1.lt; clear hF hG)
       | (go_at_call 22; (with_reducible refine (kO.out _).mono ?_); rintro e' w3 ⟨rfl, hE⟩; have hF : Ext (W2.alloc (.cells #[.bool false, .int .u64 0, .int .u64 0, .int .u64 0, .int .u64 0] 25)) w3 := (by first | (with_reducible exact hE) | (with_reducible exact (ext_drew _).trans hE)); clear hE; have hG := (ext_alloc W2 (.cells #[.bool false, .int .u64 0, .int .u64 0, .int .u64 0, .int .u64 0] 25)).trans hF; have Nw30 : Box w3 (W2.heap.size) false 0 0 0 0 := (Box.new0 W2).ext hF; have P1 := P1.ext hG; have EB := EB.trans hG; obtain ⟨xP10, xP11, xP12, xP13, xP14, xP15, xP16, xP17, xP18, xP19, xP1f0, xP1f1, xP1f2, xP1f3, xP1f4, xP1f5, xP1f6, xP1f7, xP1f8, xP1f9⟩ := ten_cells P1; obtain ⟨x0c0, x0c1, x0c2, x0c3, x0c4, x0f0, x0f1, x0f2, x0f3, x0f4⟩ := five_cells Nw30; have szw3 := hG.size; have loP1 := P1.lt; have loNw30 := Nw30.lt; have ne0 : W2.heap.size ≠ g := (by omega); clear hF hG)
       | (go_at_call 28; (with_reducible refine (kN.out _).mono ?_); rintro e' w4 ⟨rfl, hE⟩; have hF : Ext w3 w4 := (by first | (with_reducible exact hE) | (with_reducible exact (ext_drew _).trans hE)); clear hE; have hG := hF; have P1 := P1.ext hG; have EB := EB.trans hG; have Nw30 := Nw30.ext hG; obtain ⟨xP10, xP11, xP12, xP13, xP14, xP15, xP16, xP17, xP18, xP19, xP1f0, xP1f1, xP1f2, xP1f3, xP1f4, xP1f5, xP1f6, xP1f7, xP1f8, xP1f9⟩ := ten_cells P1; obtain ⟨x0c0, x0c1, x0c2, x0c3, x0c4, x0f0, x0f1, x0f2, x0f3, x0f4⟩ := five_cells Nw30; have szw4 := hG.size; have loP1 := P1.lt; have loNw30 := Nw30.lt; have ne0 : W2.heap.size ≠ g := (by omega); clear hF hG)
       | (go_at_call 28; (with_reducible refine (kN.out _).mono ?_); rintro e' w4 ⟨rfl, hE⟩; have hF : Ext w3 w4 := (by first | (with_reducible exact hE) | (with_reducible exact (ext_drew _).trans hE)); clear hE; have hG := hF; have P1 := P1.ext hG; have EB := EB.trans hG; obtain ⟨xP10, xP11, xP12, xP13, xP14, xP15, xP16, xP17, xP18, xP19, xP1f0, xP1f1, xP1f2, xP1f3, xP1f4, xP1f5, xP1f6, xP1f7, xP1f8, xP1f9⟩ := ten_cells P1; have szw4 := hG.size; have loP1 := P1.lt; clear hF hG)
       | (go_at_call 28; (with_reducible refine (kN.out _).mono ?_); rintro e' w4 ⟨rfl, hE⟩; have hF : Ext (w3.alloc (.cells #[.bool false, .int .u64 0, .int .u64 0, .int .u64 0, .int .u64 0] 25)) w4 := (by first | (with_reducible exact hE) | (with_reducible exact (ext_drew _).trans hE)); clear hE; have hG := (ext_alloc w3 (.cells #[.bool false, .int .u64 0, .int .u64 0, .int .u64 0, .int .u64 0] 25)).trans hF; have Nw40 : Box w4 (w3.heap.size) false 0 0 0 0 := (Box.new0 w3).ext hF; have P1 := P1.ext hG; have EB := EB.trans hG; obtain ⟨xP10, xP11, xP12, xP13, xP14, xP15, xP16, xP17, xP18, xP19, xP1f0, xP1f1, xP1f2, xP1f3, xP1f4, xP1f5, xP1f6, xP1f7, xP1f8, xP1f9⟩ := ten_cells P1; obtain ⟨x0c0, x0c1, x0c2, x0c3, x0c4, x0f0, x0f1, x0f2, x0f3, x0f4⟩ := five_cells Nw40; have szw4 := hG.size; have loP1 := P1.lt; have loNw40 := Nw40.lt; have ne0 : w3.heap.size ≠ g := (by omega); clear hF hG))
     all_goals go_wp2_with fail
     all_goals go_meet
     all_goals first
       | (with_reducible exact ⟨one0 (isC_of HN2.out) EB, rfl⟩)
       | (with_reducible exact ⟨one1 (isC_of HN2.out) EB Nw30 (by omega), rfl⟩)
       | (with_reducible exact ⟨one1 (isC_of HN2.out) EB Nw40 (by omega), rfl⟩)
   case rest =>
    obtain ⟨⟨gQ1, s7, a7, b7, c7, d7, rfl, C7, Q1, hgQ1, hE⟩, rfl⟩ := hcut
    obtain ⟨rfl, rfl, rfl, rfl, rfl⟩ := isC_fix C7
    have lP1 := P1.lt
    have P1 := P1.ext hE
    have EE := hide (EE.out.trans hE)
    clear C7 hE
    have ngP1Q1 : g ≠ gQ1 := by omega
    go_upto_region 6 with fail
    go_cut [9, 10] (fun p0 p1 wx => Quot wc d2 p0 wx ∧ p1 = .bool true)
    case first =>
      obtain ⟨xP10, xP11, xP12, xP13, xP14, xP15, xP16, xP17, xP18, xP19, xP1f0, xP1f1, xP1f2, xP1f3, xP1f4, xP1f5, xP1f6, xP1f7, xP1f8, xP1f9⟩ := ten_cells P1
      have lbP1 := P1.lt
      have EB := Ext.refl wc
      go_region_held3 (fun w' => w'.cell? ⟨g, 0, none⟩ = some (.bool (sg n1)) ∧ w'.cell? ⟨g, 1, none⟩ = some (.int .u64 (l0 n1 : Int)) ∧ w'.cell? ⟨g, 2, none⟩ = some (.int .u64 (l1 n1 : Int)) ∧ w'.cell? ⟨g, 3, none⟩ = some (.int .u64 (l2 n1 : Int)) ∧ w'.cell? ⟨g, 4, none⟩ = some (.int .u64 (l3 n1 : Int)) ∧ w'.cell? ⟨g, 5, none⟩ = some (.bool (sg d1)) ∧ w'.cell? ⟨g, 6, none⟩ = some (.int .u64 (l0 d1 : Int)) ∧ w'.cell? ⟨g, 7, none⟩ = some (.int .u64 (l1 d1 : Int)) ∧ w'.cell? ⟨g, 8, none⟩ = some (.int .u64 (l2 d1 : Int)) ∧ w'.cell? ⟨g, 9, none⟩ = some (.int .u64 (l3 d1 : Int))) (first | (with_reducible exact ⟨xP10, xP11, xP12, xP13, xP14, xP15, xP16, xP17, xP18, xP19⟩) | go_keep) (first
        | (go_at_call 22; (with_reducible refine (kO.out _).mono ?_); rintro e' w5 ⟨rfl, hE⟩; have hF : Ext wc w5 := (by first | (with_reducible exact hE) | (with_reducible exact (ext_drew _).trans hE)); clear hE; have hG := hF; have P1 := P1.ext hG; have EB := EB.trans hG; obtain ⟨xP10, xP11, xP12, xP13, xP14, xP15, xP16, xP17, xP18, xP19, xP1f0, xP1f1, xP1f2, xP1f3, xP1f4, xP1f5, xP1f6, xP1f7, xP1f8, xP1f9⟩ := ten_cells P1; have szw5 := hG.size; have loP1 := P1.lt; clear hF hG)
        | (go_at_call 22; (with_reducible refine (kO.out _).mono ?_); rintro e' w5 ⟨rfl, hE⟩; have hF : Ext (wc.alloc (.cells #[.bool false, .int .u64 0, .int .u64 0, .int .u64 0, .int .u64 0] 25)) w5 := (by first | (with_reducible exact hE) | (with_reducible exact (ext_drew _).trans hE)); clear hE; have hG := (ext_alloc wc (.cells #[.bool false, .int .u64 0, .int .u64 0, .int .u64 0, .int .u64 0] 25)).trans hF; have Nw50 : Box w5 (wc.heap.size) false 0 0 0 0 := (Box.new0 wc).ext hF; have P1 := P1.ext hG; have EB := EB.trans hG; obtain ⟨xP10, xP11, xP12, xP13, xP14, xP15, xP16, xP17, xP18, xP19, xP1f0, xP1f1, xP1f2, xP1f3, xP1f4, xP1f5, xP1f6, xP1f7, xP1f8, xP1f9⟩ := ten_cells P1; obtain ⟨x0c0, x0c1, x0c2, x0c3, x0c4, x0f0, x0f1, x0f2, x0f3, x0f4⟩ := five_cells Nw50; have szw5 := hG.size; have loP1 := P1.lt; have loNw50 := Nw50.lt; have ne0 : wc.heap.size ≠ g := (by omega); clear hF hG)
        | (go_at_call 28; (with_reducible refine (kD.out _).mono ?_); rintro e' w6 ⟨rfl, hE⟩; have hF : Ext w5 w6 := (by first | (with_reducible exact hE) | (with_reducible exact (ext_drew _).trans hE)); clear hE; have hG := hF; have P1 := P1.ext hG; have EB := EB.trans hG; have Nw50 := Nw50.ext hG; obtain ⟨xP10, xP11, xP12, xP13, xP14, xP15, xP16, xP17, xP18, xP19, xP1f0, xP1f1, xP1f2, xP1f3, xP1f4, xP1f5, xP1f6, xP1f7, xP1f8, xP1f9⟩ := ten_cells P1; obtain ⟨x0c0, x0c1, x0c2, x0c3, x0c4, x0f0, x0f1, x0f2, x0f3, x0f4⟩ := five_cells Nw50; have szw6 := hG.size; have loP1 := P1.lt; have loNw50 := Nw50.lt; have ne0 : wc.heap.size ≠ g := (by omega); clear hF hG)
        | (go_at_call 28; (with_reducible refine (kD.out _).mono ?_); rintro e' w6 ⟨rfl, hE⟩; have hF : Ext w5 w6 := (by first | (with_reducible exact hE) | (with_reducible exact (ext_drew _).trans hE)); clear hE; have hG := hF; have P1 := P1.ext hG; have EB := EB.trans hG; obtain ⟨xP10, xP11, xP12, xP13, xP14, xP15, xP16, xP17, xP18, xP19, xP1f0, xP1f1, xP1f2, xP1f3, xP1f4, xP1f5, xP1f6, xP1f7, xP1f8, xP1f9⟩ := ten_cells P1; have szw6 := hG.size; have loP1 := P1.lt; clear hF hG)
        | (go_at_call 28; (with_reducible refine (kD.out _).mono ?_); rintro e' w6 ⟨rfl, hE⟩; have hF : Ext (w5.alloc (.cells #[.bool false, .int .u64 0, .int .u64 0, .int .u64 0, .int .u64 0] 25)) w6 := (by first | (with_reducible exact hE) | (with_reducible exact (ext_drew _).trans hE)); clear hE; have hG := (ext_alloc w5 (.cells #[.bool false, .int .u64 0, .int .u64 0, .int .u64 0, .int .u64 0] 25)).trans hF; have Nw60 : Box w6 (w5.heap.size) false 0 0 0 0 := (Box.new0 w5).ext hF; have P1 := P1.ext hG; have EB := EB.trans hG; obtain ⟨xP10, xP11, xP12, xP13, xP14, xP15, xP16, xP17, xP18, xP19, xP1f0, xP1f1, xP1f2, xP1f3, xP1f4, xP1f5, xP1f6, xP1f7, xP1f8, xP1f9⟩ := ten_cells P1; obtain ⟨x0c0, x0c1, x0c2, x0c3, x0c4, x0f0, x0f1, x0f2, x0f3, x0f4⟩ := five_cells Nw60; have szw6 := hG.size; have loP1 := P1.lt; have loNw60 := Nw60.lt; have ne0 : w5.heap.size ≠ g := (by omega); clear hF hG))
      all_goals go_wp2_with fail
      all_goals go_meet
      all_goals first
        | (with_reducible exact ⟨one0 (isC_of HD2.out) EB, rfl⟩)
        | (with_reducible exact ⟨one1 (isC_of HD2.out) EB Nw50 (by omega), rfl⟩)
        | (with_reducible exact ⟨one1 (isC_of HD2.out) EB Nw60 (by omega), rfl⟩)
    case rest =>
     obtain ⟨⟨gQ2, s7, a7, b7, c7, d7, rfl, C7, Q2, hgQ2, hE⟩, rfl⟩ := hcut
     obtain ⟨rfl, rfl, rfl, rfl, rfl⟩ := isC_fix C7
     have lP1 := P1.lt
     have P1 := P1.ext hE
     have lQ1 := Q1.lt
     have Q1 := Q1.ext hE
     have EE := hide (EE.out.trans hE)
     clear C7 hE
     have ngP1Q2 : g ≠ gQ2 := by omega
     have ngQ1Q2 : gQ1 ≠ gQ2 := by omega
     clear kO kN kD HN2 HD2
     obtain ⟨xP10, xP11, xP12, xP13, xP14, xP15, xP16, xP17, xP18, xP19, xP1f0, xP1f1, xP1f2, xP1f3, xP1f4, xP1f5, xP1f6, xP1f7, xP1f8, xP1f9⟩ := ten_cells P1; obtain ⟨xQ10, xQ11, xQ12, xQ13, xQ14, xQ1f0, xQ1f1, xQ1f2, xQ1f3, xQ1f4⟩ := five_cells Q1; obtain ⟨xQ20, xQ21, xQ22, xQ23, xQ24, xQ2f0, xQ2f1, xQ2f2, xQ2f3, xQ2f4⟩ := five_cells Q2
     go_upto_region 8 with (go_at_call 25; (with_reducible refine (kM.out _).mono ?_); rintro e w8 ⟨rfl, hE⟩; have P1 := P1.ext hE; have Q1 := Q1.ext hE; have Q2 := Q2.ext hE; have EE := hide (EE.out.trans hE); obtain ⟨xP10, xP11, xP12, xP13, xP14, xP15, xP16, xP17, xP18, xP19, xP1f0, xP1f1, xP1f2, xP1f3, xP1f4, xP1f5, xP1f6, xP1f7, xP1f8, xP1f9⟩ := ten_cells P1; obtain ⟨xQ10, xQ11, xQ12, xQ13, xQ14, xQ1f0, xQ1f1, xQ1f2, xQ1f3, xQ1f4⟩ := five_cells Q1; obtain ⟨xQ20, xQ21, xQ22, xQ23, xQ24, xQ2f0, xQ2f1, xQ2f2, xQ2f3, xQ2f4⟩ := five_cells Q2; clear hE)
     have H2 := heap_alloc_new w8 (.cells #[.bool (sg n1), .int .u64 (l0 n1 : Int), .int .u64 (l1 n1 : Int), .int .u64 (l2 n1 : Int), .int .u64 (l3 n1 : Int), .bool (sg d1), .int .u64 (l0 d1 : Int), .int .u64 (l1 d1 : Int), .int .u64 (l2 d1 : Int), .int .u64 (l3 d1 : Int)] 27)
     have hE := (ext_alloc w8 (.cells #[.bool (sg n1), .int .u64 (l0 n1 : Int), .int .u64 (l1 n1 : Int), .int .u64 (l2 n1 : Int), .int .u64 (l3 n1 : Int), .bool (sg d1), .int .u64 (l0 d1 : Int), .int .u64 (l1 d1 : Int), .int .u64 (l2 d1 : Int), .int .u64 (l3 d1 : Int)] 27))
     have P1 := P1.ext hE
     have EE := hide (EE.out.trans hE)
     clear hE
     obtain ⟨W8, hW⟩ : ∃ W, W = (w8.alloc (.cells #[.bool (sg n1), .int .u64 (l0 n1 : Int), .int .u64 (l1 n1 : Int), .int .u64 (l2 n1 : Int), .int .u64 (l3 n1 : Int), .bool (sg d1), .int .u64 (l0 d1 : Int), .int .u64 (l1 d1 : Int), .int .u64 (l2 d1 : Int), .int .u64 (l3 d1 : Int)] 27)) := ⟨_, rfl⟩
     rw [← hW] at H2 EE P1 ⊢
     obtain ⟨g8, hg⟩ : ∃ g, w8.heap.size = g := ⟨_, rfl⟩
     rw [hg] at H2 ⊢
     have P2 : Box10 W8 g8 (sg n1) (l0 n1) (l1 n1) (l2 n1) (l3 n1) (sg d1) (l0 d1) (l1 d1) (l2 d1) (l3 d1) := H2
     clear hW hg
     have hqq := eqRs n1 d1
     obtain ⟨xP10, xP11, xP12, xP13, xP14, xP15, xP16, xP17, xP18, xP19, xP1f0, xP1f1, xP1f2, xP1f3, xP1f4, xP1f5, xP1f6, xP1f7, xP1f8, xP1f9⟩ := ten_cells P1; obtain ⟨xP20, xP21, xP22, xP23, xP24, xP25, xP26, xP27, xP28, xP29, xP2f0, xP2f1, xP2f2, xP2f3, xP2f4, xP2f5, xP2f6, xP2f7, xP2f8, xP2f9⟩ := ten_cells P2
     go_wp2_with (first
       | (go_at_call 17; (with_reducible refine (p_known3 _).mono ?_); rintro e w9 ⟨rfl, hE⟩; have P1 := P1.ext hE; have P2 := P2.ext hE; have EE := hide (EE.out.trans hE); obtain ⟨xP10, xP11, xP12, xP13, xP14, xP15, xP16, xP17, xP18, xP19, xP1f0, xP1f1, xP1f2, xP1f3, xP1f4, xP1f5, xP1f6, xP1f7, xP1f8, xP1f9⟩ := ten_cells P1; obtain ⟨xP20, xP21, xP22, xP23, xP24, xP25, xP26, xP27, xP28, xP29, xP2f0, xP2f1, xP2f2, xP2f3, xP2f4, xP2f5, xP2f6, xP2f7, xP2f8, xP2f9⟩ := ten_cells P2; clear hE)
       | (go_at_call 29; (with_reducible refine (kC.out _).mono ?_); rintro e w10 ⟨rfl, hE⟩; have P1 := P1.ext hE; have P2 := P2.ext hE; have EE := hide (EE.out.trans hE); obtain ⟨xP10, xP11, xP12, xP13, xP14, xP15, xP16, xP17, xP18, xP19, xP1f0, xP1f1, xP1f2, xP1f3, xP1f4, xP1f5, xP1f6, xP1f7, xP1f8, xP1f9⟩ := ten_cells P1; obtain ⟨xP20, xP21, xP22, xP23, xP24, xP25, xP26, xP27, xP28, xP29, xP2f0, xP2f1, xP2f2, xP2f3, xP2f4, xP2f5, xP2f6, xP2f7, xP2f8, xP2f9⟩ := ten_cells P2; clear hE))
     all_goals go_ret
     all_goals exact ⟨rfl, EE.out⟩
end Go.Proofs.Ythcobijnhfflnaa
