/- The laws of layer 1: each call returns true. Conditions: the arguments are numbers of 64 bits; the numbers of the slice lie in memory that was there. -/
import Derived.Test.YtbgnfdamggainaaTape
namespace Go.Proofs.Ytbgnfdamggainaa
open Go Go.RowKit
theorem known_any (w : World) :
    Calls Try.prog 9 #[] w fun e w' => e = .returned (.bool true) ∧ w = w' := by
  have e1 : orZ (3 + 4) = 7 := by decide
  have e2 : inR (3 + 4) = true := by decide
  have e3 : floorV (-7) 2 = -4 := by decide
  have e4 : divOk (-7) 2 = true := by decide
  have e5 : midV (-3) 0 = -2 := by decide
  have i1 : I64 3 := by unfold I64; omega
  have i2 : I64 4 := by unfold I64; omega
  have i3 : I64 (-7) := by unfold I64; omega
  have i4 : I64 2 := by unfold I64; omega
  have i5 : I64 (-3) := by unfold I64; omega
  have i6 : I64 0 := by unfold I64; omega
  go_enter Try.func9, Try.ntmps9
  go_wp2_with (first
    | (go_at_call 24; refine (c_add _ _ _ i1 i2).mono ?_; rintro e w' ⟨rfl, rfl⟩)
    | (go_at_call 19; refine (c_floor _ _ _ i3 i4).mono ?_; rintro e w' ⟨rfl, rfl⟩)
    | (go_at_call 23; refine (c_mid _ _ _ i5 i6).mono ?_; rintro e w' ⟨rfl, rfl⟩))
  all_goals go_ret
  all_goals exact ⟨rfl, rfl⟩
theorem alike_any (a b : Int) (w : World) (ha : I64 a) (hb : I64 b) :
    Calls Try.prog 10 #[.int .i64 a, .int .i64 b] w fun e w' => e = .returned (.bool true) ∧ w = w' := by
  go_enter Try.func10, Try.ntmps10
  go_wp2_with (first
    | (go_at_call 24; refine (c_add _ _ _ ha hb).mono ?_; rintro e w' ⟨rfl, rfl⟩)
    | (go_at_call 25; refine (r_add _ _ _ ha hb).mono ?_; rintro e w' ⟨rfl, rfl⟩)
    | (go_at_call 26; refine (c_sub _ _ _ ha hb).mono ?_; rintro e w' ⟨rfl, rfl⟩)
    | (go_at_call 27; refine (r_sub _ _ _ ha hb).mono ?_; rintro e w' ⟨rfl, rfl⟩)
    | (go_at_call 28; refine (c_mul _ _ _ ha hb).mono ?_; rintro e w' ⟨rfl, rfl⟩)
    | (go_at_call 29; refine (r_mul _ _ _ ha hb).mono ?_; rintro e w' ⟨rfl, rfl⟩)
    | (go_at_call 22; refine (c_dist _ _ _ ha hb).mono ?_; rintro e w' ⟨rfl, rfl⟩)
    | (go_at_call 30; refine (r_dist _ _ _ ha hb).mono ?_; rintro e w' ⟨rfl, rfl⟩)
    | (go_at_call 18; refine (c_diff _ _ _ ha hb).mono ?_; rintro e w' ⟨rfl, rfl⟩)
    | (go_at_call 31; refine (r_diff _ _ _ ha hb).mono ?_; rintro e w' ⟨rfl, rfl⟩)
    | (go_at_call 23; refine (c_mid _ _ _ ha hb).mono ?_; rintro e w' ⟨rfl, rfl⟩)
    | (go_at_call 32; refine (r_mid _ _ _ ha hb).mono ?_; rintro e w' ⟨rfl, rfl⟩))
  all_goals go_ret
  all_goals exact ⟨rfl, rfl⟩
theorem sums (a b : Int) (aa : Option Addr) (len cap : Nat) (w : World) (ha : I64 a) (hb : I64 b) (hl : IsList w aa len cap) :
    Calls Try.prog 3 #[.int .i64 a, .int .i64 b, .slice aa len cap] w fun e w' => e = .returned (.bool true) ∧ Below w.heap.size w w' := by
  have im : I64 (-1) := by unfold I64; omega
  have hr := Below.refl w.heap.size w
  go_enter Try.func3, Try.ntmps3
  go_wp2_with (first
    | (go_at_call 8; refine (t_new _ _ _ _ hl).mono ?_; rintro e w' ⟨rfl, hT2, hB2⟩)
    | (go_at_call 9; refine (known_any _).mono ?_; rintro e w' ⟨rfl, rfl⟩)
    | (go_at_call 10; (refine (alike_any _ _ _ ?_ ?_).mono ?_) <;> first | assumption | (rintro e w' ⟨rfl, rfl⟩))
    | (go_at_call 11; refine (t_int w.heap.size _ w _ ‹_› ‹_›).mono ?_; rintro e w' ⟨u, rfl, hu, hT2, hB2⟩))
  all_goals go_ret
  all_goals exact ⟨rfl, ‹_›⟩
theorem divided_any (a b : Int) (w : World) (ha : I64 a) (hb : I64 b) :
    Calls Try.prog 12 #[.int .i64 a, .int .i64 b] w fun e w' => e = .returned (.bool true) ∧ w = w' := by
  go_enter Try.func12, Try.ntmps12
  go_wp2_with (first
    | (go_at_call 19; refine (c_floor _ _ _ ha hb).mono ?_; rintro e w' ⟨rfl, rfl⟩)
    | (go_at_call 34; refine (r_floor _ _ _ ha hb).mono ?_; rintro e w' ⟨rfl, rfl⟩)
    | (go_at_call 21; refine (c_ceil _ _ _ ha hb).mono ?_; rintro e w' ⟨rfl, rfl⟩)
    | (go_at_call 35; refine (r_ceil _ _ _ ha hb).mono ?_; rintro e w' ⟨rfl, rfl⟩)
    | (go_at_call 20; refine (c_mod _ _ _ ha hb).mono ?_; rintro e w' ⟨rfl, rfl⟩)
    | (go_at_call 36; refine (r_mod _ _ _ ha hb).mono ?_; rintro e w' ⟨rfl, rfl⟩))
  all_goals go_ret
  all_goals exact ⟨rfl, rfl⟩
theorem i64_tmod (b : Int) : I64 (b.tmod 10) := by
  have := tq b 10 (by omega); unfold I64; omega
theorem divides (a b : Int) (aa : Option Addr) (len cap : Nat) (w : World) (ha : I64 a) (hb : I64 b) (hl : IsList w aa len cap) :
    Calls Try.prog 4 #[.int .i64 a, .int .i64 b, .slice aa len cap] w fun e w' => e = .returned (.bool true) ∧ Below w.heap.size w w' := by
  have im : I64 (-1) := by unfold I64; omega
  have iz : I64 0 := by unfold I64; omega
  have it : I64 (b.tmod 10) := i64_tmod b
  have hr := Below.refl w.heap.size w
  go_enter Try.func4, Try.ntmps4
  go_wp2_with (first
    | (go_at_call 8; refine (t_new _ _ _ _ hl).mono ?_; rintro e w' ⟨rfl, hT2, hB2⟩)
    | (go_at_call 9; refine (known_any _).mono ?_; rintro e w' ⟨rfl, rfl⟩)
    | (go_at_call 12; (refine (divided_any _ _ _ ?_ ?_).mono ?_) <;> first | assumption | (rintro e w' ⟨rfl, rfl⟩))
    | (go_at_call 11; refine (t_int w.heap.size _ w _ ‹_› ‹_›).mono ?_; rintro e w' ⟨u, rfl, hu, hT2, hB2⟩))
  all_goals go_ret
  all_goals exact ⟨rfl, ‹_›⟩
theorem c_undo (a b : Int) (w : World) (ha : I64 a) (hb : I64 b) :
    Calls Try.prog 16 #[.int .i64 b, .int .u64 (diffV a b)] w fun e w' => e = .returned (.int .i64 a) ∧ w = w' := by
  have hu : U64 (diffV a b) := by unfold U64 diffV; omega
  have h := c_apply b (diffV a b) w hb hu
  have e : applyV b (diffV a b) = a := by unfold I64 at *; unfold applyV diffV; simp only [wrap64]; omega
  rw [e] at h
  exact h
theorem i64_in {n v : Int} (hn : 1 ≤ n) (hn2 : n ≤ 9223372036854775807) (h : InN n v) : I64 v := by unfold InN at h; unfold I64; omega
theorem applies (a b p d : Int) (aa : Option Addr) (len cap : Nat) (w : World) (ha : I64 a) (hb : I64 b) (hp : I64 p) (hd : U64 d) (hl : IsList w aa len cap) :
    Calls Try.prog 5 #[.int .i64 a, .int .i64 b, .int .i64 p, .int .u64 d, .slice aa len cap] w fun e w' => e = .returned (.bool true) ∧ Below w.heap.size w w' := by
  have hr := Below.refl w.heap.size w
  go_enter Try.func5, Try.ntmps5
  go_wp2_with (first
    | (go_at_call 8; refine (t_new _ _ _ _ hl).mono ?_; rintro e w' ⟨rfl, hT2, hB2⟩)
    | (go_at_call 9; refine (known_any _).mono ?_; rintro e w' ⟨rfl, rfl⟩)
    | (go_at_call 14; (refine (c_near _ _ _ _ ?_ ?_ ?_).mono ?_) <;> first | assumption | (rintro e w' ⟨rfl, rfl⟩))
    | (go_at_call 15; (refine (r_near _ _ _ _ ?_ ?_ ?_).mono ?_) <;> first | assumption | (rintro e w' ⟨rfl, rfl⟩))
    | (go_at_call 16; (with_reducible refine (c_undo _ _ _ ?_ ?_).mono ?_) <;> first | assumption | (rintro e w' ⟨rfl, rfl⟩))
    | (go_at_call 16; (refine (c_apply _ _ _ ?_ ?_).mono ?_) <;> first | assumption | (rintro e w' ⟨rfl, rfl⟩))
    | (go_at_call 17; (refine (r_apply _ _ _ ?_ ?_).mono ?_) <;> first | assumption | (rintro e w' ⟨rfl, rfl⟩))
    | (go_at_call 18; (refine (c_diff _ _ _ ?_ ?_).mono ?_) <;> first | assumption | (rintro e w' ⟨rfl, rfl⟩))
    | (go_at_call 13; refine (t_next' w.heap.size _ _ w _ ⟨by omega, by omega⟩ ‹_› ‹_›).mono ?_; rintro e w' ⟨u, rfl, hu0, hT2, hB2⟩; have hu := i64_in (by omega) (by omega) hu0; clear hu0)
    | (go_at_call 11; refine (t_int w.heap.size _ w _ ‹_› ‹_›).mono ?_; rintro e w' ⟨u, rfl, hu, hT2, hB2⟩))
  all_goals go_ret
  all_goals exact ⟨rfl, ‹_›⟩
theorem mid_facts (a b : Int) (ha : I64 a) (hb : I64 b) : I64 (midV a b) ∧ midV b a = midV a b ∧
    (a ≤ b → a ≤ midV a b ∧ midV a b ≤ b ∧ distV a (midV a b) = midV a b - a ∧ distV b (midV a b) = b - midV a b ∧ (b - midV a b = midV a b - a ∨ b - midV a b = midV a b - a + 1)) := by
  refine ⟨by unfold I64 midV at *; omega, by unfold midV; rw [Int.add_comm], fun h => ?_⟩
  unfold distV midV
  refine ⟨by omega, by omega, by split <;> omega, by split <;> omega, by omega⟩
theorem c_dist_eq {a b d : Int} (w : World) (ha : I64 a) (hb : I64 b) (h : Hid (distV a b = d)) :
    Calls Try.prog 22 #[.int .i64 a, .int .i64 b] w fun e w' => e = .returned (.int .u64 d) ∧ w = w' := by
  have := c_dist a b w ha hb
  rwa [h.out] at this
theorem c_mid_eq {a b d : Int} (w : World) (ha : I64 a) (hb : I64 b) (h : Hid (midV a b = d)) :
    Calls Try.prog 23 #[.int .i64 a, .int .i64 b] w fun e w' => e = .returned (.int .i64 d) ∧ w = w' := by
  have := c_mid a b w ha hb
  rwa [h.out] at this
theorem middles (a b : Int) (w : World) (ha : I64 a) (hb : I64 b) :
    Calls Try.prog 7 #[.int .i64 a, .int .i64 b] w fun e w' => e = .returned (.bool true) ∧ w = w' := by
  obtain ⟨im, e, f1⟩ := mid_facts a b ha hb
  obtain ⟨-, -, f2⟩ := mid_facts b a hb ha
  have iw : ∀ x : Int, 0 ≤ x → x ≤ 18446744073709551615 → IntKind.u64.wrap x = x := fun x h1 h2 => by rw [wrap_u64']; omega
  obtain ⟨m, hm⟩ : ∃ m, midV a b = m := ⟨_, rfl⟩
  rw [e] at f2
  rw [hm] at im e f1 f2
  have H1 : Hid (midV a b = m) := hm
  have H2 : Hid (midV b a = m) := e
  have hab : a < b ∨ b < a ∨ a = b := by omega
  have hi := ha
  have hj := hb
  unfold I64 at hi hj
  have T : ∀ x y : Int, x ≤ m → m ≤ y → (y - m = m - x ∨ y - m = m - x + 1) → ((y - m : Int) == m - x) = true ∨ ((y - m : Int) == m - x) = false ∧ ((y - m : Int) == m - x + 1) = true := fun x y _ _ _ => by simp; omega
  rcases hab with h | h | h
  · obtain ⟨g1, g2, g3, g4, g5⟩ := f1 (by omega)
    have H3 : Hid (distV a m = m - a) := g3
    have H4 : Hid (distV b m = b - m) := g4
    have t1 := T a b g1 g2 g5
    have hw := iw (m - a + 1) (by omega) (by omega)
    clear f1 f2 e g3 g4 g5 iw hm T
    rcases t1 with t1 | ⟨t1, t2⟩
    all_goals
      go_enter Try.func7, Try.ntmps7
      go_wp2_with (first
        | (go_at_call 9; refine (known_any _).mono ?_; rintro e w' ⟨rfl, rfl⟩)
        | (go_at_call 23; (with_reducible refine (c_mid_eq _ ?_ ?_ ‹_›).mono ?_) <;> first | assumption | (rintro e w' ⟨rfl, rfl⟩))
        | (go_at_call 22; (with_reducible refine (c_dist_eq _ ?_ ?_ ‹_›).mono ?_) <;> first | assumption | (rintro e w' ⟨rfl, rfl⟩)))
      go_ret
      exact ⟨rfl, rfl⟩
  · obtain ⟨g1, g2, g3, g4, g5⟩ := f2 (by omega)
    have H3 : Hid (distV b m = m - b) := g3
    have H4 : Hid (distV a m = a - m) := g4
    have t1 := T b a g1 g2 g5
    have hw := iw (m - b + 1) (by omega) (by omega)
    clear f1 f2 e g3 g4 g5 iw hm T
    rcases t1 with t1 | ⟨t1, t2⟩
    all_goals
      go_enter Try.func7, Try.ntmps7
      go_wp2_with (first
        | (go_at_call 9; refine (known_any _).mono ?_; rintro e w' ⟨rfl, rfl⟩)
        | (go_at_call 23; (with_reducible refine (c_mid_eq _ ?_ ?_ ‹_›).mono ?_) <;> first | assumption | (rintro e w' ⟨rfl, rfl⟩))
        | (go_at_call 22; (with_reducible refine (c_dist_eq _ ?_ ?_ ‹_›).mono ?_) <;> first | assumption | (rintro e w' ⟨rfl, rfl⟩)))
      go_ret
      exact ⟨rfl, rfl⟩
  · obtain ⟨g1, g2, g3, g4, g5⟩ := f1 (by omega)
    obtain rfl : a = m := by omega
    subst h
    have H3 : Hid (distV a a = 0) := by unfold Hid; omega
    clear f1 f2 e g3 g4 g5 iw hm T
    go_enter Try.func7, Try.ntmps7
    go_wp2_with (first
      | (go_at_call 9; refine (known_any _).mono ?_; rintro e w' ⟨rfl, rfl⟩)
      | (go_at_call 23; (with_reducible refine (c_mid_eq _ ?_ ?_ ‹_›).mono ?_) <;> first | assumption | (rintro e w' ⟨rfl, rfl⟩))
      | (go_at_call 22; (with_reducible refine (c_dist_eq _ ?_ ?_ ‹_›).mono ?_) <;> first | assumption | (rintro e w' ⟨rfl, rfl⟩)))
    go_ret
    exact ⟨rfl, rfl⟩
theorem c_floor_eq {a b q : Int} {o : Bool} (w : World) (ha : I64 a) (hb : I64 b) (h : Hid (floorV a b = q ∧ divOk a b = o)) :
    Calls Try.prog 19 #[.int .i64 a, .int .i64 b] w fun e w' => e = .returned (.tuple #[.int .i64 q, .bool o]) ∧ w = w' := by
  have := c_floor a b w ha hb
  rwa [h.out.1, h.out.2] at this
theorem c_ceil_eq {a b q : Int} {o : Bool} (w : World) (ha : I64 a) (hb : I64 b) (h : Hid (ceilV a b = q ∧ divOk a b = o)) :
    Calls Try.prog 21 #[.int .i64 a, .int .i64 b] w fun e w' => e = .returned (.tuple #[.int .i64 q, .bool o]) ∧ w = w' := by
  have := c_ceil a b w ha hb
  rwa [h.out.1, h.out.2] at this
theorem c_mod_eq {a b q : Int} {o : Bool} (w : World) (ha : I64 a) (hb : I64 b) (h : Hid (modV a b = q ∧ modOk b = o)) :
    Calls Try.prog 20 #[.int .i64 a, .int .i64 b] w fun e w' => e = .returned (.tuple #[.int .i64 q, .bool o]) ∧ w = w' := by
  have := c_mod a b w ha hb
  rwa [h.out.1, h.out.2] at this
/-- The quotient, the remainder and the quotient that is rounded up. -/
theorem floor_facts (a b : Int) (ha : I64 a) (hb : I64 b) (hz : b ≠ 0) (hn : ¬ (a = -9223372036854775808 ∧ b = -1)) :
    wrap64 (wrap64 (floorV a b * b) + modV a b) = a ∧ I64 (modV a b) ∧ (modV a b = 0 ∧ ceilV a b = floorV a b ∨ modV a b ≠ 0 ∧ (modV a b < 0 ↔ b < 0) ∧ ceilV a b = floorV a b + 1) ∧ distV (modV a b) 0 < distV b 0 ∧ I64 (floorV a b) ∧ I64 (ceilV a b) := by
  have ht := tq a b hz
  obtain ⟨h1, h2, h3, h4, h5, h6, h7, h8⟩ := ht
  have hc : (a.tdiv b - 1) * b = b * a.tdiv b - b := by grind
  have hc2 : a.tdiv b * b = b * a.tdiv b := Int.mul_comm _ _
  unfold I64 at *
  unfold floorV modV ceilV distV
  have hcond : ¬ (b = 0 ∨ a = -9223372036854775808 ∧ b = -1) := by omega
  simp only [hcond, if_false]
  simp only [hz, if_false]
  generalize a.tmod b = r at *
  generalize a.tdiv b = q at *
  simp only [wrap64]
  by_cases hr : r = 0
  · simp only [hr, ne_eq, not_true_eq_false, false_and, if_false, hc2]
    refine ⟨by omega, by omega, by (first | omega | grind), by (first | (split <;> split <;> omega) | (split <;> omega)), by omega, by omega⟩
  · by_cases hs : r < 0 ↔ b < 0
    · have hs2 : a < 0 ↔ b < 0 := by omega
      simp only [hr, hs, hs2, ne_eq, not_true_eq_false, not_false_eq_true, and_false, if_false, if_true, and_true, hc2]
      refine ⟨by omega, by omega, by (first | omega | grind), by (first | (split <;> split <;> omega) | (split <;> omega)), by omega, by omega⟩
    · have hs2 : ¬ (a < 0 ↔ b < 0) := by omega
      simp only [hr, hs, hs2, ne_eq, not_false_eq_true, and_self, and_false, if_false, if_true, hc]
      refine ⟨by omega, by omega, by (first | omega | grind), by (first | (split <;> split <;> omega) | (split <;> omega)), by omega, by omega⟩
theorem floors (a b : Int) (w : World) (ha : I64 a) (hb : I64 b) :
    Calls Try.prog 6 #[.int .i64 a, .int .i64 b] w fun e w' => e = .returned (.bool true) ∧ w = w' := by
  by_cases hz : b = 0 ∨ (a = -9223372036854775808 ∧ b = -1)
  · have h1 : Hid (floorV a b = 0 ∧ divOk a b = false) := by unfold Hid floorV divOk; rw [if_pos hz]; simp [hz]
    have h2 : Hid (ceilV a b = 0 ∧ divOk a b = false) := by unfold Hid ceilV divOk; rw [if_pos hz]; simp [hz]
    have h3 : Hid (modV a b = modV a b ∧ modOk b = decide (b ≠ 0)) := ⟨rfl, rfl⟩
    clear hz
    by_cases hz : b = 0
    · subst hz
      have h4 : Hid (modV a 0 = 0 ∧ modOk 0 = false) := ⟨by simp [modV], by simp [modOk]⟩
      clear h3
      go_enter Try.func6, Try.ntmps6
      go_wp2_with (first
        | (go_at_call 9; refine (known_any _).mono ?_; rintro e w' ⟨rfl, rfl⟩)
        | (go_at_call 19; (with_reducible refine (c_floor_eq _ ?_ ?_ ‹_›).mono ?_) <;> first | assumption | (rintro e w' ⟨rfl, rfl⟩))
        | (go_at_call 20; (with_reducible refine (c_mod_eq _ ?_ ?_ ‹_›).mono ?_) <;> first | assumption | (rintro e w' ⟨rfl, rfl⟩))
        | (go_at_call 21; (with_reducible refine (c_ceil_eq _ ?_ ?_ ‹_›).mono ?_) <;> first | assumption | (rintro e w' ⟨rfl, rfl⟩)))
      all_goals go_ret
      all_goals exact ⟨rfl, rfl⟩
    · have h4 : (b == 0) = false := by simpa using hz
      clear h3
      obtain ⟨r, hr⟩ : ∃ r, modV a b = r := ⟨_, rfl⟩
      have h5 : Hid (modV a b = r ∧ modOk b = true) := ⟨hr, by simp [modOk, hz]⟩
      clear hr
      go_enter Try.func6, Try.ntmps6
      go_wp2_with (first
        | (go_at_call 9; refine (known_any _).mono ?_; rintro e w' ⟨rfl, rfl⟩)
        | (go_at_call 19; (with_reducible refine (c_floor_eq _ ?_ ?_ ‹_›).mono ?_) <;> first | assumption | (rintro e w' ⟨rfl, rfl⟩))
        | (go_at_call 20; (with_reducible refine (c_mod_eq _ ?_ ?_ h5).mono ?_) <;> first | assumption | (rintro e w' ⟨rfl, rfl⟩))
        | (go_at_call 21; (with_reducible refine (c_ceil_eq _ ?_ ?_ ‹_›).mono ?_) <;> first | assumption | (rintro e w' ⟨rfl, rfl⟩)))
      all_goals go_ret
      all_goals exact ⟨rbb (by simp [hz]), rfl⟩
  · obtain ⟨f1, f2, f3, f4, f5, f6⟩ := floor_facts a b ha hb (by omega) (by omega)
    obtain ⟨q, hq⟩ : ∃ q, floorV a b = q := ⟨_, rfl⟩
    obtain ⟨r, hr⟩ : ∃ r, modV a b = r := ⟨_, rfl⟩
    obtain ⟨c, hc⟩ : ∃ c, ceilV a b = c := ⟨_, rfl⟩
    rw [hq, hr] at f1
    rw [hr] at f2 f4
    rw [hq, hr, hc] at f3
    rw [hq] at f5
    rw [hc] at f6
    have h1 : Hid (floorV a b = q ∧ divOk a b = true) := ⟨hq, by simp [divOk, hz]⟩
    have h2 : Hid (ceilV a b = c ∧ divOk a b = true) := ⟨hc, by simp [divOk, hz]⟩
    have h3 : Hid (modV a b = r ∧ modOk b = true) := ⟨hr, by simp [modOk]; omega⟩
    have iz : I64 0 := by unfold I64; omega
    have hf := f5
    have hg := f6
    unfold I64 at hf hg
    obtain ⟨hf1, hf2⟩ := hf
    obtain ⟨hg1, hg2⟩ := hg
    have t1 : (wrap64 (wrap64 (q * b) + r) == a) = true := by simpa using f1
    clear hz hq hr hc f1
    rcases f3 with ⟨r0, rc⟩ | ⟨r0, rs, rc⟩
    · subst r0
      subst rc
      clear hg1 hg2
      have t2 : (wrap64 (wrap64 (c * b)) == a) = true := by simpa using t1
      go_enter Try.func6, Try.ntmps6
      go_wp2_with (first
        | (go_at_call 9; refine (known_any _).mono ?_; rintro e w' ⟨rfl, rfl⟩)
        | (go_at_call 19; (with_reducible refine (c_floor_eq _ ?_ ?_ ‹_›).mono ?_) <;> first | assumption | (rintro e w' ⟨rfl, rfl⟩))
        | (go_at_call 20; (with_reducible refine (c_mod_eq _ ?_ ?_ ‹_›).mono ?_) <;> first | assumption | (rintro e w' ⟨rfl, rfl⟩))
        | (go_at_call 21; (with_reducible refine (c_ceil_eq _ ?_ ?_ ‹_›).mono ?_) <;> first | assumption | (rintro e w' ⟨rfl, rfl⟩))
        | (go_at_call 22; (with_reducible refine (c_dist _ _ _ ?_ ?_).mono ?_) <;> first | assumption | (rintro e w' ⟨rfl, rfl⟩)))
      all_goals go_ret
      all_goals exact ⟨rfl, rfl⟩
    · have r1 : (r == 0) = false := by simpa using r0
      subst rc
      have r2 : decide (r < 0) = decide (b < 0) := by simp [rs]
      by_cases hb0 : b < 0
      all_goals
        go_enter Try.func6, Try.ntmps6
        go_wp2_with (first
        | (go_at_call 9; refine (known_any _).mono ?_; rintro e w' ⟨rfl, rfl⟩)
        | (go_at_call 19; (with_reducible refine (c_floor_eq _ ?_ ?_ ‹_›).mono ?_) <;> first | assumption | (rintro e w' ⟨rfl, rfl⟩))
        | (go_at_call 20; (with_reducible refine (c_mod_eq _ ?_ ?_ ‹_›).mono ?_) <;> first | assumption | (rintro e w' ⟨rfl, rfl⟩))
        | (go_at_call 21; (with_reducible refine (c_ceil_eq _ ?_ ?_ ‹_›).mono ?_) <;> first | assumption | (rintro e w' ⟨rfl, rfl⟩))
        | (go_at_call 22; (with_reducible refine (c_dist _ _ _ ?_ ?_).mono ?_) <;> first | assumption | (rintro e w' ⟨rfl, rfl⟩)))
      all_goals go_ret
      all_goals exact ⟨rfl, rfl⟩
end Go.Proofs.Ytbgnfdamggainaa
