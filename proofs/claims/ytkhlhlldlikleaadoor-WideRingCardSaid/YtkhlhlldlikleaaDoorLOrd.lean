/- The law WideOrder, walked. Conditions: the argument is a list of numbers of 64 bits; the sanity check returns true. -/
import Derived.Test.YtkhlhlldlikleaaDoorTapeC
import Derived.Test.YtkhlhlldlikleaaDoorWrdH
namespace Go.Proofs.YtkhlhlldlikleaaDoor
set_option linter.unusedVariables false
set_option linter.unusedSimpArgs false
open Go Go.RowKit
theorem eqW {s t : Bool} {a b c d e f g h : Nat} {x y : Int} (hx : IsC s a b c d x) (hy : IsC t e f g h y) (o : Bool) (ho : decide (x = y) = o) (w : World) : (binOp .eql 25 (.agg #[.bool s, .int .u64 (a : Int), .int .u64 (b : Int), .int .u64 (c : Int), .int .u64 (d : Int)]) (.agg #[.bool t, .int .u64 (e : Int), .int .u64 (f : Int), .int .u64 (g : Int), .int .u64 (h : Int)])).run Tryd.prog w = .ok (.bool o) w := by
  rw [eq5, ← ho]
  congr 2
  by_cases hxy : x = y
  · subst hxy
    obtain ⟨rfl, rfl, rfl, rfl, rfl⟩ := hx.uniq hy
    simp
  · rw [decide_eq_false hxy, ← Bool.not_eq_true]
    intro h1
    simp only [Bool.and_eq_true, beq_iff_eq] at h1
    obtain ⟨rfl, h2, h3, h4, h5⟩ := h1
    obtain rfl : a = e := by omega
    obtain rfl : b = f := by omega
    obtain rfl : c = g := by omega
    obtain rfl : d = h := by omega
    exact hxy (hx.1.2.2.2.2.trans hy.1.2.2.2.2.symm)
theorem cmpI_cases (x y : Int) : (x < y ∧ cmpI x y = -1 ∧ cmpI y x = 1) ∨ (x = y ∧ cmpI x y = 0 ∧ cmpI y x = 0) ∨ (y < x ∧ cmpI x y = 1 ∧ cmpI y x = -1) := by
  unfold cmpI
  rcases Int.lt_trichotomy x y with h | h | h
  · exact Or.inl ⟨h, if_pos h, by rw [if_neg (by omega), if_pos h]⟩
  · subst h; exact Or.inr (Or.inl ⟨rfl, by simp, by simp⟩)
  · exact Or.inr (Or.inr ⟨h, by rw [if_neg (by omega), if_pos h], if_pos h⟩)
set_option maxRecDepth 100000 in
set_option maxHeartbeats 4000000 in
theorem law_order (x : Option Addr) (len cap : Nat) (W : World) (hL : IsList W x len cap) (hk : ∀ w, Ext W w → Calls Tryd.prog 11 #[] w (BoolRet true w)) :
    Calls Tryd.prog 7 #[.slice x len cap] W (BoolRet true W) := by
  have HL := hide hL
  have HK := hide hk
  clear hL hk
  go_enter Tryd.func7, Tryd.ntmps7
  go_upto_region 2 with (go_at_call 9; refine (t_new W x len cap HL.out).mono ?_; rintro e w1 ⟨rfl, T0, hB⟩)
  obtain ⟨b, hb⟩ : ∃ b, W.heap.size = b := ⟨_, rfl⟩
  have HB := hide hb
  rw [hb] at T0 hB
  have E1 : Hid (Ext W w1) := by rw [← hb] at hB; exact hB
  rw [hb]
  clear hb hB
  go_upto_region 3 with (first
    | (go_at_call 10; (with_reducible refine (t_wide b b _ _ T0 (Upd.refl _ _)).mono ?_); rintro e w2 ⟨s1, a1, b1, c1, d1, x1, rfl, C1, T1, hU⟩; have E2 := hide (hU.ext E1.out (by rw [HB.out]; exact Nat.le_refl _)); clear T0 hU)
    | (go_at_call 10; (with_reducible refine (t_wide b b _ _ T1 (Upd.refl _ _)).mono ?_); rintro e w3 ⟨s2, a2, b2, c2, d2, x2, rfl, C2, T2, hU⟩; have E3 := hide (hU.ext E2.out (by rw [HB.out]; exact Nat.le_refl _)); clear T1 hU)
    | (go_at_call 10; (with_reducible refine (t_wide b b _ _ T2 (Upd.refl _ _)).mono ?_); rintro e w4 ⟨s3, a3, b3, c3, d3, x3, rfl, C3, T3, hU⟩; have E4 := hide (hU.ext E3.out (by rw [HB.out]; exact Nat.le_refl _)); clear T2 hU))
  have H3 := three_boxes w4 (.cells #[.bool s1, .int .u64 (a1 : Int), .int .u64 (b1 : Int), .int .u64 (c1 : Int), .int .u64 (d1 : Int)] 25) (.cells #[.bool s2, .int .u64 (a2 : Int), .int .u64 (b2 : Int), .int .u64 (c2 : Int), .int .u64 (d2 : Int)] 25) (.cells #[.bool s3, .int .u64 (a3 : Int), .int .u64 (b3 : Int), .int .u64 (c3 : Int), .int .u64 (d3 : Int)] 25)
  have E5 := hide (((E4.out.trans (ext_alloc w4 (.cells #[.bool s1, .int .u64 (a1 : Int), .int .u64 (b1 : Int), .int .u64 (c1 : Int), .int .u64 (d1 : Int)] 25))).trans (ext_alloc _ (.cells #[.bool s2, .int .u64 (a2 : Int), .int .u64 (b2 : Int), .int .u64 (c2 : Int), .int .u64 (d2 : Int)] 25))).trans (ext_alloc _ (.cells #[.bool s3, .int .u64 (a3 : Int), .int .u64 (b3 : Int), .int .u64 (c3 : Int), .int .u64 (d3 : Int)] 25)))
  obtain ⟨W5, hW5⟩ : ∃ W5, W5 = ((w4.alloc (.cells #[.bool s1, .int .u64 (a1 : Int), .int .u64 (b1 : Int), .int .u64 (c1 : Int), .int .u64 (d1 : Int)] 25)).alloc (.cells #[.bool s2, .int .u64 (a2 : Int), .int .u64 (b2 : Int), .int .u64 (c2 : Int), .int .u64 (d2 : Int)] 25)).alloc (.cells #[.bool s3, .int .u64 (a3 : Int), .int .u64 (b3 : Int), .int .u64 (c3 : Int), .int .u64 (d3 : Int)] 25) := ⟨_, rfl⟩
  rw [← hW5] at H3 E5 ⊢
  obtain ⟨g, hg⟩ : ∃ g, w4.heap.size = g := ⟨_, rfl⟩
  rw [hg] at H3 ⊢
  obtain ⟨P1, P2, P3⟩ : Box W5 g s1 a1 b1 c1 d1 ∧ Box W5 (g + 1) s2 a2 b2 c2 d2 ∧ Box W5 (g + 1 + 1) s3 a3 b3 c3 d3 := H3
  clear hW5 hg E4 E3 E2 E1 T3
  have K1 := hide C1
  have K2 := hide C2
  have K3 := hide C3
  clear C1 C2 C3
  obtain ⟨p0, p1, p2, p3, p4, _⟩ := five_cells P1
  obtain ⟨q0, q1, q2, q3, q4, _⟩ := five_cells P2
  go_upto_region 4 with (go_at_call 24; refine (p_wsub s1 s2 a1 b1 c1 d1 a2 b2 c2 d2 x1 x2 _ K1.out.1 K2.out.1).mono ?_; rintro e w6 ⟨s7, a7, b7, c7, d7, o7, rfl, ho, C7, hE⟩; have P1 := P1.ext hE; have P2 := P2.ext hE; have P3 := P3.ext hE; have E6 := hide (E5.out.trans hE); have Ho := hide ho; clear hE ho)
  have P4 : Box (w6.alloc (.cells #[.bool s7, .int .u64 (a7 : Int), .int .u64 (b7 : Int), .int .u64 (c7 : Int), .int .u64 (d7 : Int)] 25)) w6.heap.size s7 a7 b7 c7 d7 := heap_alloc_new w6 _
  have E7 := hide (E6.out.trans (ext_alloc w6 (.cells #[.bool s7, .int .u64 (a7 : Int), .int .u64 (b7 : Int), .int .u64 (c7 : Int), .int .u64 (d7 : Int)] 25)))
  have P1 := P1.ext (ext_alloc w6 (.cells #[.bool s7, .int .u64 (a7 : Int), .int .u64 (b7 : Int), .int .u64 (c7 : Int), .int .u64 (d7 : Int)] 25))
  have P2 := P2.ext (ext_alloc w6 (.cells #[.bool s7, .int .u64 (a7 : Int), .int .u64 (b7 : Int), .int .u64 (c7 : Int), .int .u64 (d7 : Int)] 25))
  have P3 := P3.ext (ext_alloc w6 (.cells #[.bool s7, .int .u64 (a7 : Int), .int .u64 (b7 : Int), .int .u64 (c7 : Int), .int .u64 (d7 : Int)] 25))
  generalize w6.alloc (.cells #[.bool s7, .int .u64 (a7 : Int), .int .u64 (b7 : Int), .int .u64 (c7 : Int), .int .u64 (d7 : Int)] 25) = W7 at *
  generalize w6.heap.size = g7 at *
  obtain ⟨z7, hz7⟩ : ∃ z7, (if (x1 - x2).natAbs < 115792089237316195423570985008687907853269984665640564039457584007913129639936 then x1 - x2 else 0) = z7 := ⟨_, rfl⟩
  rw [hz7] at C7
  have K7 := hide C7
  have HZ : Hid (o7 = true → z7 = x1 - x2) := by
    intro h
    rw [Ho.out, decide_eq_true_iff] at h
    rw [← hz7, if_pos h]
  clear hz7 Ho C7 E6 E5
  obtain ⟨r1, hr1⟩ : ∃ r, cmpI x1 x2 = r := ⟨_, rfl⟩
  obtain ⟨r2, hr2⟩ : ∃ r, cmpI x2 x3 = r := ⟨_, rfl⟩
  obtain ⟨r3, hr3⟩ : ∃ r, cmpI x1 x3 = r := ⟨_, rfl⟩
  obtain ⟨n1, hn1⟩ : ∃ r, cmpI x2 x1 = r := ⟨_, rfl⟩
  have k1 : Hid (∀ w, Calls Tryd.prog 23 #[.agg #[.bool s1, .int .u64 (a1 : Int), .int .u64 (b1 : Int), .int .u64 (c1 : Int), .int .u64 (d1 : Int)], .agg #[.bool s2, .int .u64 (a2 : Int), .int .u64 (b2 : Int), .int .u64 (c2 : Int), .int .u64 (d2 : Int)]] w (IntRet .i64 r1 w)) := fun w => by rw [← hr1]; exact p_compare _ _ _ _ _ _ _ _ _ _ _ _ w K1.out.1 K2.out.1
  have k2 : Hid (∀ w, Calls Tryd.prog 23 #[.agg #[.bool s2, .int .u64 (a2 : Int), .int .u64 (b2 : Int), .int .u64 (c2 : Int), .int .u64 (d2 : Int)], .agg #[.bool s3, .int .u64 (a3 : Int), .int .u64 (b3 : Int), .int .u64 (c3 : Int), .int .u64 (d3 : Int)]] w (IntRet .i64 r2 w)) := fun w => by rw [← hr2]; exact p_compare _ _ _ _ _ _ _ _ _ _ _ _ w K2.out.1 K3.out.1
  have k3 : Hid (∀ w, Calls Tryd.prog 23 #[.agg #[.bool s1, .int .u64 (a1 : Int), .int .u64 (b1 : Int), .int .u64 (c1 : Int), .int .u64 (d1 : Int)], .agg #[.bool s3, .int .u64 (a3 : Int), .int .u64 (b3 : Int), .int .u64 (c3 : Int), .int .u64 (d3 : Int)]] w (IntRet .i64 r3 w)) := fun w => by rw [← hr3]; exact p_compare _ _ _ _ _ _ _ _ _ _ _ _ w K1.out.1 K3.out.1
  have k4 : Hid (∀ w, Calls Tryd.prog 23 #[.agg #[.bool s2, .int .u64 (a2 : Int), .int .u64 (b2 : Int), .int .u64 (c2 : Int), .int .u64 (d2 : Int)], .agg #[.bool s1, .int .u64 (a1 : Int), .int .u64 (b1 : Int), .int .u64 (c1 : Int), .int .u64 (d1 : Int)]] w (IntRet .i64 n1 w)) := fun w => by rw [← hn1]; exact p_compare _ _ _ _ _ _ _ _ _ _ _ _ w K2.out.1 K1.out.1
  have hneg : IntKind.i64.wrap (-n1) = r1 := by rcases cmpI_cases x1 x2 with ⟨_, h1, h2⟩ | ⟨_, h1, h2⟩ | ⟨_, h1, h2⟩ <;> rw [← hr1, ← hn1, h1, h2] <;> decide
  have k5 : Hid (o7 = true → ∀ w, Calls Tryd.prog 22 #[.agg #[.bool s7, .int .u64 (a7 : Int), .int .u64 (b7 : Int), .int .u64 (c7 : Int), .int .u64 (d7 : Int)]] w (IntRet .i64 r1 w)) := fun ho w => by
    have h0 := HZ.out ho
    have h1 : z7.sign = r1 := by
      rw [h0, ← hr1]
      rcases cmpI_cases x1 x2 with ⟨h, h1, h2⟩ | ⟨h, h1, h2⟩ | ⟨h, h1, h2⟩
      · rw [h1]; exact Int.sign_eq_neg_one_of_neg (by omega)
      · rw [h1, h]; simp
      · rw [h1]; exact Int.sign_eq_one_of_pos (by omega)
    rw [← h1]
    exact p_sign _ _ _ _ _ _ w K7.out.1
  obtain ⟨o, ho⟩ : ∃ o, decide (x1 = x2) = o := ⟨_, rfl⟩
  have hq := eqW K1.out K2.out o ho
  have hro : (r1 == 0) = o := by
    rw [← ho, ← hr1]
    rcases cmpI_cases x1 x2 with ⟨h, h1, h2⟩ | ⟨h, h1, h2⟩ | ⟨h, h1, h2⟩ <;> rw [h1]
    · rw [decide_eq_false (by omega)]; rfl
    · rw [decide_eq_true h]; rfl
    · rw [decide_eq_false (by omega)]; rfl
  have hways : 0 < r1 ∨ (¬ 0 < r1 ∧ 0 < r2) ∨ (¬ 0 < r1 ∧ ¬ 0 < r2 ∧ r3 ≤ 0) := by
    rw [← hr1, ← hr2, ← hr3]
    rcases cmpI_cases x1 x2 with ⟨h, h1, h2⟩ | ⟨h, h1, h2⟩ | ⟨h, h1, h2⟩ <;> rcases cmpI_cases x2 x3 with ⟨i, i1, i2⟩ | ⟨i, i1, i2⟩ | ⟨i, i1, i2⟩ <;> rcases cmpI_cases x1 x3 with ⟨j, j1, j2⟩ | ⟨j, j1, j2⟩ | ⟨j, j1, j2⟩ <;> rw [h1, i1, j1] <;> first | omega | (exfalso; omega)
  clear hr1 hr2 hr3 hn1 ho HZ
  obtain ⟨p0, p1, p2, p3, p4, _⟩ := five_cells P1
  obtain ⟨q0, q1, q2, q3, q4, _⟩ := five_cells P2
  obtain ⟨t0, t1, t2, t3, t4, _⟩ := five_cells P3
  obtain ⟨v0, v1, v2, v3, v4, _⟩ := five_cells P4
  go_region_held3 (fun w' => w'.cell? ⟨g, 0, none⟩ = some (.bool s1) ∧ w'.cell? ⟨g, 1, none⟩ = some (.int .u64 (a1 : Int)) ∧ w'.cell? ⟨g, 2, none⟩ = some (.int .u64 (b1 : Int)) ∧ w'.cell? ⟨g, 3, none⟩ = some (.int .u64 (c1 : Int)) ∧ w'.cell? ⟨g, 4, none⟩ = some (.int .u64 (d1 : Int)) ∧ w'.cell? ⟨g + 1, 0, none⟩ = some (.bool s2) ∧ w'.cell? ⟨g + 1, 1, none⟩ = some (.int .u64 (a2 : Int)) ∧ w'.cell? ⟨g + 1, 2, none⟩ = some (.int .u64 (b2 : Int)) ∧ w'.cell? ⟨g + 1, 3, none⟩ = some (.int .u64 (c2 : Int)) ∧ w'.cell? ⟨g + 1, 4, none⟩ = some (.int .u64 (d2 : Int)) ∧ w'.cell? ⟨g + 1 + 1, 0, none⟩ = some (.bool s3) ∧ w'.cell? ⟨g + 1 + 1, 1, none⟩ = some (.int .u64 (a3 : Int)) ∧ w'.cell? ⟨g + 1 + 1, 2, none⟩ = some (.int .u64 (b3 : Int)) ∧ w'.cell? ⟨g + 1 + 1, 3, none⟩ = some (.int .u64 (c3 : Int)) ∧ w'.cell? ⟨g + 1 + 1, 4, none⟩ = some (.int .u64 (d3 : Int)) ∧ w'.cell? ⟨g7, 0, none⟩ = some (.bool s7) ∧ w'.cell? ⟨g7, 1, none⟩ = some (.int .u64 (a7 : Int)) ∧ w'.cell? ⟨g7, 2, none⟩ = some (.int .u64 (b7 : Int)) ∧ w'.cell? ⟨g7, 3, none⟩ = some (.int .u64 (c7 : Int)) ∧ w'.cell? ⟨g7, 4, none⟩ = some (.int .u64 (d7 : Int))) (first | (with_reducible exact ⟨p0, p1, p2, p3, p4, q0, q1, q2, q3, q4, t0, t1, t2, t3, t4, v0, v1, v2, v3, v4⟩) | go_keep) (first
    | (go_at_call 23; (with_reducible refine (k1.out _).mono ?_); rintro e y1 ⟨rfl, hE⟩; have P1 : Box y1 g s1 a1 b1 c1 d1 := (by first | exact P1.ext hE | exact P1.drew.ext hE); have P2 : Box y1 (g + 1) s2 a2 b2 c2 d2 := (by first | exact P2.ext hE | exact P2.drew.ext hE); have P3 : Box y1 (g + 1 + 1) s3 a3 b3 c3 d3 := (by first | exact P3.ext hE | exact P3.drew.ext hE); have P4 : Box y1 g7 s7 a7 b7 c7 d7 := (by first | exact P4.ext hE | exact P4.drew.ext hE); have E7 : Hid (Ext W y1) := (by first | exact hide (E7.out.trans hE) | exact hide ((E7.out.trans (ext_drew _)).trans hE)); obtain ⟨p0, p1, p2, p3, p4, _⟩ := five_cells P1; obtain ⟨q0, q1, q2, q3, q4, _⟩ := five_cells P2; obtain ⟨t0, t1, t2, t3, t4, _⟩ := five_cells P3; obtain ⟨v0, v1, v2, v3, v4, _⟩ := five_cells P4; clear hE)
    | (go_at_call 23; (with_reducible refine (k2.out _).mono ?_); rintro e y2 ⟨rfl, hE⟩; have P1 : Box y2 g s1 a1 b1 c1 d1 := (by first | exact P1.ext hE | exact P1.drew.ext hE); have P2 : Box y2 (g + 1) s2 a2 b2 c2 d2 := (by first | exact P2.ext hE | exact P2.drew.ext hE); have P3 : Box y2 (g + 1 + 1) s3 a3 b3 c3 d3 := (by first | exact P3.ext hE | exact P3.drew.ext hE); have P4 : Box y2 g7 s7 a7 b7 c7 d7 := (by first | exact P4.ext hE | exact P4.drew.ext hE); have E7 : Hid (Ext W y2) := (by first | exact hide (E7.out.trans hE) | exact hide ((E7.out.trans (ext_drew _)).trans hE)); obtain ⟨p0, p1, p2, p3, p4, _⟩ := five_cells P1; obtain ⟨q0, q1, q2, q3, q4, _⟩ := five_cells P2; obtain ⟨t0, t1, t2, t3, t4, _⟩ := five_cells P3; obtain ⟨v0, v1, v2, v3, v4, _⟩ := five_cells P4; clear hE)
    | (go_at_call 23; (with_reducible refine (k3.out _).mono ?_); rintro e y3 ⟨rfl, hE⟩; have P1 : Box y3 g s1 a1 b1 c1 d1 := (by first | exact P1.ext hE | exact P1.drew.ext hE); have P2 : Box y3 (g + 1) s2 a2 b2 c2 d2 := (by first | exact P2.ext hE | exact P2.drew.ext hE); have P3 : Box y3 (g + 1 + 1) s3 a3 b3 c3 d3 := (by first | exact P3.ext hE | exact P3.drew.ext hE); have P4 : Box y3 g7 s7 a7 b7 c7 d7 := (by first | exact P4.ext hE | exact P4.drew.ext hE); have E7 : Hid (Ext W y3) := (by first | exact hide (E7.out.trans hE) | exact hide ((E7.out.trans (ext_drew _)).trans hE)); obtain ⟨p0, p1, p2, p3, p4, _⟩ := five_cells P1; obtain ⟨q0, q1, q2, q3, q4, _⟩ := five_cells P2; obtain ⟨t0, t1, t2, t3, t4, _⟩ := five_cells P3; obtain ⟨v0, v1, v2, v3, v4, _⟩ := five_cells P4; clear hE))
  clear P3
  cases o7
  · clear k5
    rcases hways with h1 | ⟨h1, h2⟩ | ⟨h1, h2, h3⟩
    all_goals go_wp2_with (first
      | (go_at_call 11; refine (HK.out _ E7.out).mono ?_; rintro e y4 ⟨rfl, hE⟩; have P1 := P1.ext hE; have P2 := P2.ext hE; have P4 := P4.ext hE; have E7 := hide (E7.out.trans hE); obtain ⟨p0, p1, p2, p3, p4, _⟩ := five_cells P1; obtain ⟨q0, q1, q2, q3, q4, _⟩ := five_cells P2; obtain ⟨v0, v1, v2, v3, v4, _⟩ := five_cells P4; clear hE)
      | (go_at_call 23; (with_reducible refine (k4.out _).mono ?_); rintro e y5 ⟨rfl, hE⟩; have P1 := P1.ext hE; have P2 := P2.ext hE; have P4 := P4.ext hE; have E7 := hide (E7.out.trans hE); obtain ⟨p0, p1, p2, p3, p4, _⟩ := five_cells P1; obtain ⟨q0, q1, q2, q3, q4, _⟩ := five_cells P2; obtain ⟨v0, v1, v2, v3, v4, _⟩ := five_cells P4; clear hE))
    all_goals go_ret
    all_goals exact ⟨rfl, E7.out⟩
  · have k6 : ∀ w, Calls Tryd.prog 22 #[.agg #[.bool s7, .int .u64 (a7 : Int), .int .u64 (b7 : Int), .int .u64 (c7 : Int), .int .u64 (d7 : Int)]] w (IntRet .i64 r1 w) := k5.out rfl
    clear k5
    rcases hways with h1 | ⟨h1, h2⟩ | ⟨h1, h2, h3⟩
    all_goals go_wp2_with (first
      | (go_at_call 11; refine (HK.out _ E7.out).mono ?_; rintro e y4 ⟨rfl, hE⟩; have P1 := P1.ext hE; have P2 := P2.ext hE; have P4 := P4.ext hE; have E7 := hide (E7.out.trans hE); obtain ⟨p0, p1, p2, p3, p4, _⟩ := five_cells P1; obtain ⟨q0, q1, q2, q3, q4, _⟩ := five_cells P2; obtain ⟨v0, v1, v2, v3, v4, _⟩ := five_cells P4; clear hE)
      | (go_at_call 23; (with_reducible refine (k4.out _).mono ?_); rintro e y5 ⟨rfl, hE⟩; have P1 := P1.ext hE; have P2 := P2.ext hE; have P4 := P4.ext hE; have E7 := hide (E7.out.trans hE); obtain ⟨p0, p1, p2, p3, p4, _⟩ := five_cells P1; obtain ⟨q0, q1, q2, q3, q4, _⟩ := five_cells P2; obtain ⟨v0, v1, v2, v3, v4, _⟩ := five_cells P4; clear hE)
      | (go_at_call 22; (with_reducible refine (k6 _).mono ?_); rintro e y6 ⟨rfl, hE⟩; have P1 := P1.ext hE; have P2 := P2.ext hE; have P4 := P4.ext hE; have E7 := hide (E7.out.trans hE); obtain ⟨p0, p1, p2, p3, p4, _⟩ := five_cells P1; obtain ⟨q0, q1, q2, q3, q4, _⟩ := five_cells P2; obtain ⟨v0, v1, v2, v3, v4, _⟩ := five_cells P4; clear hE))
    all_goals go_ret
    all_goals exact ⟨rfl, E7.out⟩
end Go.Proofs.YtkhlhlldlikleaaDoor
