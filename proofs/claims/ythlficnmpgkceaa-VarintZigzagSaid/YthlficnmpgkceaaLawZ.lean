/- Layer 5: VarintZigzag. Conditions: the numbers fit. -/
import Derived.Test.YthlficnmpgkceaaVarG
import Derived.Test.YthlficnmpgkceaaFixA
namespace Go.Proofs.Ythlficnmpgkceaa
set_option linter.unusedVariables false
set_option linter.unusedSimpArgs false
open Go Go.RowKit
theorem l0_abs (z : Int) : l0 ((z.natAbs : Nat) : Int) = l0 z ∧ l1 ((z.natAbs : Nat) : Int) = l1 z ∧ l2 ((z.natAbs : Nat) : Int) = l2 z ∧ l3 ((z.natAbs : Nat) : Int) = l3 z := by
  unfold l0 l1 l2 l3; simp
theorem sg_abs (z : Int) : sg ((z.natAbs : Nat) : Int) = false := by unfold sg; rw [decide_eq_false]; omega
theorem l_zigzag (v w : Int) (n : Nat) (W : World) (hv : I64 v) (hw : I64 w) (hn : n < 18446744073709551616) : Calls Try.prog 8 #[.int .i64 v, .int .i64 w, .int .u64 (n : Int)] W (Ret (.bool true) W) := by
  have K1 : Hid (∀ W', Calls Try.prog 38 #[.int .i64 v] W' (Ret (.agg #[.bool (sg v), .int .u64 (l0 v : Int), .int .u64 (l1 v : Int), .int .u64 (l2 v : Int), .int .u64 (l3 v : Int)]) W')) := fun W' => d_ofi hv.1 hv.2 W'
  have K2 : Hid (∀ W', Calls Try.prog 38 #[.int .i64 w] W' (Ret (.agg #[.bool (sg w), .int .u64 (l0 w : Int), .int .u64 (l1 w : Int), .int .u64 (l2 w : Int), .int .u64 (l3 w : Int)]) W')) := fun W' => d_ofi hw.1 hw.2 W'
  obtain ⟨r, hr⟩ : ∃ r, cmpI ((v.natAbs : Nat) : Int) ((w.natAbs : Nat) : Int) = r := ⟨_, rfl⟩
  have K3 : Hid (∀ W', Calls Try.prog 39 #[.agg #[.bool false, .int .u64 (l0 v : Int), .int .u64 (l1 v : Int), .int .u64 (l2 v : Int), .int .u64 (l3 v : Int)], .agg #[.bool false, .int .u64 (l0 w : Int), .int .u64 (l1 w : Int), .int .u64 (l2 w : Int), .int .u64 (l3 w : Int)]] W' (Ret (.int .i64 r) W')) := fun W' => by
    have := d_cmp (x := ((v.natAbs : Nat) : Int)) (y := ((w.natAbs : Nat) : Int)) (by unfold F256; have := hv.1; have := hv.2; omega) (by unfold F256; have := hw.1; have := hw.2; omega) hr W'
    obtain ⟨a1, a2, a3, a4⟩ := l0_abs v
    obtain ⟨b1, b2, b3, b4⟩ := l0_abs w
    rw [a1, a2, a3, a4, b1, b2, b3, b4, sg_abs, sg_abs] at this
    exact this
  have hrr : (r < 0 ∧ (encB (zig v)).length ≤ (encB (zig w)).length) ∨ ¬ r < 0 := by
    unfold cmpI at hr
    by_cases h : ((v.natAbs : Nat) : Int) < ((w.natAbs : Nat) : Int)
    · exact Or.inl ⟨by rw [if_pos h] at hr; omega, encB_mono (zig_near (by omega))⟩
    · right; rw [if_neg h] at hr; split at hr <;> omega
  have z1 := zig_lt hv.1 hv.2
  have z2 := zig_lt hw.1 hw.2
  have K0 : Hid (∀ W', Calls Try.prog 25 #[] W' (Ret (.bool true) W')) := fun W' => l_known5 W'
  have K4 : Hid (∀ W', Calls Try.prog 26 #[.int .i64 v] W' (RetSame (.int .u64 (zig v : Int)) W')) := fun W' => p_zigzag v W' hv.1 hv.2
  have K5 : Hid (∀ W', Calls Try.prog 26 #[.int .i64 w] W' (RetSame (.int .u64 (zig w : Int)) W')) := fun W' => p_zigzag w W' hw.1 hw.2
  have K6 : Hid (∀ W', Calls Try.prog 22 #[.int .u64 (zig v : Int)] W' (RetSame (.int .i64 v) W')) := fun W' => by have := p_unzigzag (zig v) W' z1; rw [zag_zig] at this; exact this
  have K7 : Hid (∀ W', Calls Try.prog 22 #[.int .u64 (n : Int)] W' (RetSame (.int .i64 (zag n)) W')) := fun W' => p_unzigzag n W' hn
  have hzn : I64 (zag n) := by unfold zag; split <;> exact ⟨by omega, by omega⟩
  have K8 : Hid (∀ W', Calls Try.prog 26 #[.int .i64 (zag n)] W' (RetSame (.int .u64 (n : Int)) W')) := fun W' => by have := p_zigzag (zag n) W' hzn.1 hzn.2; rw [zig_zag] at this; exact this
  have K9 : Hid (∀ W', Calls Try.prog 20 #[.int .u64 (zig v : Int)] W' (RetSame (.int .i64 ((encB (zig v)).length : Int)) W')) := fun W' => p_size (zig v) W' z1
  have K10 : Hid (∀ W', Calls Try.prog 20 #[.int .u64 (zig w : Int)] W' (RetSame (.int .i64 ((encB (zig w)).length : Int)) W')) := fun W' => p_size (zig w) W' z2
  obtain ⟨s1, hs1⟩ : ∃ s, (encB (zig v)).length = s := ⟨_, rfl⟩
  obtain ⟨s2, hs2⟩ : ∃ s, (encB (zig w)).length = s := ⟨_, rfl⟩
  rw [hs1] at K9 hrr
  rw [hs2] at K10 hrr
  obtain ⟨y1, hy1⟩ : ∃ s, zig v = s := ⟨_, rfl⟩
  obtain ⟨y2, hy2⟩ : ∃ s, zig w = s := ⟨_, rfl⟩
  obtain ⟨y3, hy3⟩ : ∃ s, zag n = s := ⟨_, rfl⟩
  rw [hy1] at K4 K6 K9
  rw [hy2] at K5 K10
  rw [hy3] at K7 K8
  clear hs1 hs2 hy1 hy2 hy3 hr z1 z2 hzn hv hw
  go_enter Try.func8, Try.ntmps8
  go_upto_region 2 with (first
    | (go_at_call 38; (with_reducible refine (K1.out _).mono ?_); rintro e w1 ⟨rfl, hE1⟩)
    | (go_at_call 38; (with_reducible refine (K2.out _).mono ?_); rintro e w2 ⟨rfl, hE2⟩))
  have H2 := two_blocks w2 (.cells #[.bool (sg v), .int .u64 (l0 v : Int), .int .u64 (l1 v : Int), .int .u64 (l2 v : Int), .int .u64 (l3 v : Int)] 26) (.cells #[.bool (sg w), .int .u64 (l0 w : Int), .int .u64 (l1 w : Int), .int .u64 (l2 w : Int), .int .u64 (l3 w : Int)] 26)
  have E := hide (((hE1.trans hE2).trans (ext_alloc w2 (.cells #[.bool (sg v), .int .u64 (l0 v : Int), .int .u64 (l1 v : Int), .int .u64 (l2 v : Int), .int .u64 (l3 v : Int)] 26))).trans (ext_alloc _ (.cells #[.bool (sg w), .int .u64 (l0 w : Int), .int .u64 (l1 w : Int), .int .u64 (l2 w : Int), .int .u64 (l3 w : Int)] 26)))
  have hsz := (hE1.trans hE2).size
  obtain ⟨W4, hW⟩ : ∃ W, W = (w2.alloc (.cells #[.bool (sg v), .int .u64 (l0 v : Int), .int .u64 (l1 v : Int), .int .u64 (l2 v : Int), .int .u64 (l3 v : Int)] 26)).alloc (.cells #[.bool (sg w), .int .u64 (l0 w : Int), .int .u64 (l1 w : Int), .int .u64 (l2 w : Int), .int .u64 (l3 w : Int)] 26) := ⟨_, rfl⟩
  rw [← hW] at H2 E ⊢
  obtain ⟨g, hg⟩ : ∃ g, w2.heap.size = g := ⟨_, rfl⟩
  rw [hg] at H2 hsz ⊢
  obtain ⟨P1, P2⟩ : Box W4 g (sg v) (l0 v) (l1 v) (l2 v) (l3 v) ∧ Box W4 (g + 1) (sg w) (l0 w) (l1 w) (l2 w) (l3 w) := H2
  clear hW hg hE1 hE2
  have c1 : W4.cell? ⟨g, 0, none⟩ = some (.bool (sg v)) := Blk.cell P1 0
  have c2 : W4.cell? ⟨g + 1, 0, none⟩ = some (.bool (sg w)) := Blk.cell P2 0
  have f1 := Blk.frozen P1 0
  have f2 := Blk.frozen P2 0
  have Q1 := hide (Blk.far (p := ⟨g + 1, 0, none⟩) (Blk.set_ P1 0 (.bool false)) (by simp) (.bool false))
  have Q2 := hide (Blk.set_ (Blk.far (p := ⟨g, 0, none⟩) P2 (by simp) (.bool false)) 0 (.bool false))
  have E2 := hide ((Below.setCell E.out (p := ⟨g, 0, none⟩) hsz (.bool false)).setCell (p := ⟨g + 1, 0, none⟩) (by (try show W.heap.size ≤ g + 1); omega) (.bool false))
  clear E
  go_upto_region 3 with fail
  obtain ⟨W5, hW5⟩ : ∃ W, (W4.setCell ⟨g, 0, none⟩ (.bool false)).setCell ⟨g + 1, 0, none⟩ (.bool false) = W := ⟨_, rfl⟩
  rw [hW5] at Q1 Q2 E2 ⊢
  have R1 : Box W5 g false (l0 v) (l1 v) (l2 v) (l3 v) := Q1.out
  have R2 : Box W5 (g + 1) false (l0 w) (l1 w) (l2 w) (l3 w) := Q2.out
  clear hW5 Q1 Q2 c1 c2 f1 f2 P1 P2 hsz
  obtain ⟨a0, a1, a2, a3, a4, -⟩ := five_cells R1
  obtain ⟨b0, b1, b2, b3, b4, -⟩ := five_cells R2
  clear R1 R2
  rcases hrr with ⟨hr, hle⟩ | hr
  · have hle : (s1 : Int) ≤ (s2 : Int) := by omega
    go_wp2_with (first
      | (go_at_call 39; (with_reducible refine (K3.out _).mono ?_); rintro e w6 ⟨rfl, hE⟩; have EE := hide (Ext.trans E2.out hE); clear hE)
      | (go_at_call 25; (with_reducible refine (K0.out _).mono ?_); rintro e w7 ⟨rfl, hE⟩; have EE := hide (EE.out.trans hE); clear hE)
      | (go_at_call 26; (with_reducible refine (K4.out _).mono ?_); rintro e w8 ⟨rfl, rfl⟩)
      | (go_at_call 26; (with_reducible refine (K5.out _).mono ?_); rintro e w8 ⟨rfl, rfl⟩)
      | (go_at_call 26; (with_reducible refine (K8.out _).mono ?_); rintro e w8 ⟨rfl, rfl⟩)
      | (go_at_call 22; (with_reducible refine (K6.out _).mono ?_); rintro e w8 ⟨rfl, rfl⟩)
      | (go_at_call 22; (with_reducible refine (K7.out _).mono ?_); rintro e w8 ⟨rfl, rfl⟩)
      | (go_at_call 20; (with_reducible refine (K9.out _).mono ?_); rintro e w8 ⟨rfl, rfl⟩)
      | (go_at_call 20; (with_reducible refine (K10.out _).mono ?_); rintro e w8 ⟨rfl, rfl⟩))
    go_ret
    exact ⟨rfl, EE.out⟩
  · have hd : decide (r < 0) = false := decide_eq_false (by omega)
    go_wp2_with (first
      | (go_at_call 39; (with_reducible refine (K3.out _).mono ?_); rintro e w6 ⟨rfl, hE⟩; have EE := hide (Ext.trans E2.out hE); clear hE)
      | (go_at_call 25; (with_reducible refine (K0.out _).mono ?_); rintro e w7 ⟨rfl, hE⟩; have EE := hide (EE.out.trans hE); clear hE)
      | (go_at_call 26; (with_reducible refine (K4.out _).mono ?_); rintro e w8 ⟨rfl, rfl⟩)
      | (go_at_call 26; (with_reducible refine (K5.out _).mono ?_); rintro e w8 ⟨rfl, rfl⟩)
      | (go_at_call 26; (with_reducible refine (K8.out _).mono ?_); rintro e w8 ⟨rfl, rfl⟩)
      | (go_at_call 22; (with_reducible refine (K6.out _).mono ?_); rintro e w8 ⟨rfl, rfl⟩)
      | (go_at_call 22; (with_reducible refine (K7.out _).mono ?_); rintro e w8 ⟨rfl, rfl⟩)
      | (go_at_call 20; (with_reducible refine (K9.out _).mono ?_); rintro e w8 ⟨rfl, rfl⟩)
      | (go_at_call 20; (with_reducible refine (K10.out _).mono ?_); rintro e w8 ⟨rfl, rfl⟩))
    go_ret
    exact ⟨rfl, EE.out⟩
end Go.Proofs.Ythlficnmpgkceaa
