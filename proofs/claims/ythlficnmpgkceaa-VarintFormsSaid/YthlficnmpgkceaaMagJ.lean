/- The comparison of two Wides of the reference of layer 2. Conditions: the cells stand for numbers. -/
import Derived.Test.YthlficnmpgkceaaMag1
namespace Go.Proofs.Ythlficnmpgkceaa
set_option linter.unusedVariables false
set_option linter.unusedSimpArgs false
open Go Go.RowKit
def cmpI (x y : Int) : Int := if x < y then -1 else if y < x then 1 else 0
theorem cmp_sign {x y : Int} : (x.sign < y.sign → cmpI x y = -1) ∧ (y.sign < x.sign → cmpI x y = 1) ∧ (x.sign = y.sign → cmpI x y = x.sign * sgnN x.natAbs y.natAbs) := by
  have hx : x < 0 ∧ x.sign = -1 ∨ x = 0 ∧ x.sign = 0 ∨ 0 < x ∧ x.sign = 1 := by
    rcases Int.lt_trichotomy x 0 with h | h | h
    · exact Or.inl ⟨h, Int.sign_eq_neg_one_of_neg h⟩
    · subst h; exact Or.inr (Or.inl ⟨rfl, rfl⟩)
    · exact Or.inr (Or.inr ⟨h, Int.sign_eq_one_of_pos h⟩)
  have hy : y < 0 ∧ y.sign = -1 ∨ y = 0 ∧ y.sign = 0 ∨ 0 < y ∧ y.sign = 1 := by
    rcases Int.lt_trichotomy y 0 with h | h | h
    · exact Or.inl ⟨h, Int.sign_eq_neg_one_of_neg h⟩
    · subst h; exact Or.inr (Or.inl ⟨rfl, rfl⟩)
    · exact Or.inr (Or.inr ⟨h, Int.sign_eq_one_of_pos h⟩)
  unfold cmpI sgnN
  rcases hx with ⟨h1, h2⟩ | ⟨h1, h2⟩ | ⟨h1, h2⟩ <;> rcases hy with ⟨k1, k2⟩ | ⟨k1, k2⟩ | ⟨k1, k2⟩ <;> rw [h2, k2] <;> refine ⟨fun h => ?_, fun h => ?_, fun h => ?_⟩ <;> (try omega) <;> (repeat' split) <;> omega
set_option maxHeartbeats 16000000 in
theorem ref_compare (s t : Bool) (a b c d e f g h : Nat) (x y : Int) (w : World) (hx : IsW s a b c d x) (hy : IsW t e f g h y) :
    Calls Try.prog 39 #[.agg #[.bool s, .int .u64 (a : Int), .int .u64 (b : Int), .int .u64 (c : Int), .int .u64 (d : Int)], .agg #[.bool t, .int .u64 (e : Int), .int .u64 (f : Int), .int .u64 (g : Int), .int .u64 (h : Int)]] w (IntRet .i64 (cmpI x y) w) := by
  obtain ⟨W, hW⟩ : ∃ W, W = ((w.alloc (.cells #[.bool s, .int .u64 (a : Int), .int .u64 (b : Int), .int .u64 (c : Int), .int .u64 (d : Int)] 26)).alloc (.cells #[.bool t, .int .u64 (e : Int), .int .u64 (f : Int), .int .u64 (g : Int), .int .u64 (h : Int)] 26)) := ⟨_, rfl⟩
  have H3 := two_blocks w (.cells #[.bool s, .int .u64 (a : Int), .int .u64 (b : Int), .int .u64 (c : Int), .int .u64 (d : Int)] 26) (.cells #[.bool t, .int .u64 (e : Int), .int .u64 (f : Int), .int .u64 (g : Int), .int .u64 (h : Int)] 26)
  rw [← hW] at H3
  have B0 : Box W w.heap.size s a b c d := H3.1
  have B1 : Box W (w.heap.size + 1) t e f g h := H3.2
  have E0 : Ext w W := by rw [hW]; exact (ext_alloc _ _).trans (ext_alloc _ _)
  have HW := hide hW
  clear hW H3
  obtain ⟨ha, hb, hc, hd, hxz⟩ := id hx
  obtain ⟨he, hf, hg, hh, hyz⟩ := id hy
  have MX : Hid (mag4 a b c d = x.natAbs) := by unfold Hid; cases s <;> simp at hxz <;> omega
  have MY : Hid (mag4 e f g h = y.natAbs) := by unfold Hid; cases t <;> simp at hyz <;> omega
  clear hxz hyz
  have CS := hide (@cmp_sign x y)
  obtain ⟨p, hp⟩ : ∃ p, x.sign = p := ⟨_, rfl⟩
  obtain ⟨q, hq⟩ : ∃ q, y.sign = q := ⟨_, rfl⟩
  have HP := hide hp
  have HQ := hide hq
  clear hp hq
  go_enter Try.func39, Try.ntmps39
  go_upto_region 1 with fail
  rw [← HW.out]
  clear HW
  obtain ⟨c0, c1, c2, c3, c4, f0, f1, f2, f3, f4⟩ := five_cells B0
  obtain ⟨d0, d1, d2, d3, d4, g0, g1, g2, g3, g4⟩ := five_cells B1
  go_cut [5, 6] (fun s5 s6 wx => s5 = .int .i64 p ∧ s6 = .int .i64 q ∧ Box wx w.heap.size s a b c d ∧ Box wx (w.heap.size + 1) t e f g h ∧ Ext w wx)
  case first =>
    go_region_with (first
      | (go_at_call_of 64 (Value.bool s); refine (ref_sign s a b c d x _ hx).mono ?_; rintro e' w' ⟨rfl, hE⟩; rw [HP.out]; have R0 := B0.drew.ext hE; have R1 := B1.drew.ext hE; have E1 := (E0.trans (ext_drew _)).trans hE; obtain ⟨d0, d1, d2, d3, d4, g0, g1, g2, g3, g4⟩ := five_cells R1)
      | (go_at_call_of 64 (Value.bool t); refine (ref_sign t e f g h y _ hy).mono ?_; rintro e' w' ⟨rfl, hE⟩; rw [HQ.out]; have R0' := R0.ext hE; have R1' := R1.ext hE; have E1' := E1.trans hE))
    all_goals go_wp2_with fail
    all_goals go_meet
    all_goals exact ⟨rfl, rfl, R0', R1', E1'⟩
  case rest =>
    clear B0 B1 E0 c0 c1 c2 c3 c4 f0 f1 f2 f3 f4 d0 d1 d2 d3 d4 g0 g1 g2 g3 g4
    obtain ⟨rfl, rfl, B0, B1, E0⟩ := hcut
    rcases (by omega : p < q ∨ q < p ∨ p = q) with hpq | hpq | hpq
    · have HR : Hid (cmpI x y = -1) := CS.out.1 (by rw [HP.out, HQ.out]; exact hpq)
      go_wp2
      go_ret
      exact ⟨rb1 HR.out.symm, E0⟩
    · have HR : Hid (cmpI x y = 1) := CS.out.2.1 (by rw [HP.out, HQ.out]; exact hpq)
      go_wp2
      go_ret
      exact ⟨rb1 HR.out.symm, E0⟩
    · subst hpq
      have HR : Hid (cmpI x y = p * sgnN x.natAbs y.natAbs) := by rw [← HP.out]; exact CS.out.2.2 (by rw [HP.out, HQ.out])
      obtain ⟨r, hr⟩ : ∃ r, sgnN x.natAbs y.natAbs = r := ⟨_, rfl⟩
      have hr1 : -1 ≤ r ∧ r ≤ 1 := by rw [← hr]; unfold sgnN; split <;> (try split) <;> omega
      have hp1 : p = -1 ∨ p = 0 ∨ p = 1 := by
        rw [← HP.out]
        rcases Int.lt_trichotomy x 0 with h | h | h
        · exact Or.inl (Int.sign_eq_neg_one_of_neg h)
        · subst h; exact Or.inr (Or.inl rfl)
        · exact Or.inr (Or.inr (Int.sign_eq_one_of_pos h))
      have HS := hide hr
      have HT : Hid (wrap64 (p * r) = cmpI x y) := by rw [HR.out, hr]; rcases hp1 with rfl | rfl | rfl <;> simp [Hid, wrap64] <;> omega
      clear hr hr1 hp1
      obtain ⟨c0, c1, c2, c3, c4, f0, f1, f2, f3, f4⟩ := five_cells B0
      obtain ⟨d0, d1, d2, d3, d4, g0, g1, g2, g3, g4⟩ := five_cells B1
      go_wp2
      go_region_with (first
        | (go_at_call_of 73 (Value.bool s); refine (of_any w.heap.size s a b c d _ (E0.trans (ext_drew _)).size ha hb hc hd).mono ?_; rintro e' w' ⟨v6, rfl, hv6, hE⟩; rw [MX.out] at hv6; have R1 := B1.drew.ext hE; obtain ⟨d0, d1, d2, d3, d4, g0, g1, g2, g3, g4⟩ := five_cells R1; have E1 := (E0.trans (ext_drew _)).trans hE)
        | (go_at_call_of 73 (Value.bool t); refine (of_any w.heap.size t e f g h _ E1.size he hf hg hh).mono ?_; rintro e' w' ⟨v7, rfl, hv7, hE⟩; rw [MY.out] at hv7; have hv6' := hv6.ext hE; have E2 := E1.trans hE)
        | (go_at_call 72; refine (compare_any _ _ _ _ _ _ _ hv6' hv7).mono ?_; rintro e' w' ⟨rfl, hE⟩; rw [HS.out]; have E3 := E2.trans hE))
      all_goals go_wp2_with fail
      all_goals go_ret
      all_goals exact ⟨rb1 (by first | exact HT.out | (rw [← HT.out, ← IntKind.wrap_i64]; rfl) | (rw [← HT.out]; simp only [wrap64, IntKind.wrap_i64])), E3⟩
end Go.Proofs.Ythlficnmpgkceaa
