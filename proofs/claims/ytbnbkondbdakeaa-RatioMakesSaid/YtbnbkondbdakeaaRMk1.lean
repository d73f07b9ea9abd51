/- The law RatioMakes, walked. Conditions: the arguments are Wides and a list of numbers of 64 bits. -/
import Derived.Test.YtbnbkondbdakeaaL3B
import Derived.Test.YtbnbkondbdakeaaTapR
import Derived.Test.YtbnbkondbdakeaaDeclW
import Derived.BigQuiet
import Derived.Deep.RegionHeld3
namespace Go.Proofs.Ytbnbkondbdakeaa
set_option linter.unusedVariables false
set_option linter.unusedSimpArgs false
open Go Go.RowKit Go.Sort
attribute [local go_sem] qUpon putAll slotV
/-- The five cells of an element. -/
def Elem (w : World) (g k : Nat) (s : Bool) (a b c d : Nat) : Prop := w.cell? ⟨g, k, none⟩ = some (.bool s) ∧ w.cell? ⟨g, k + 1, none⟩ = some (.int .u64 (a : Int)) ∧ w.cell? ⟨g, k + 2, none⟩ = some (.int .u64 (b : Int)) ∧ w.cell? ⟨g, k + 3, none⟩ = some (.int .u64 (c : Int)) ∧ w.cell? ⟨g, k + 4, none⟩ = some (.int .u64 (d : Int))
def Six (w : World) (g : Nat) : Prop := g < w.heap.size ∧ ∀ i, i < 6 → ∃ (s : Bool) (a b c d : Nat) (z : Int), IsW s a b c d z ∧ Elem w g (i * 5) s a b c d
theorem Six.ext {w w' : World} {g : Nat} (h : Six w g) (k : Ext w w') : Six w' g := by
  refine ⟨Nat.lt_of_lt_of_le h.1 k.size, fun i hi => ?_⟩
  obtain ⟨s, a, b, c, d, z, hz, e0, e1, e2, e3, e4⟩ := h.2 i hi
  refine ⟨s, a, b, c, d, z, hz, ?_, ?_, ?_, ?_, ?_⟩
  · rw [k.cell (p := ⟨g, i * 5, none⟩) h.1]; exact e0
  · rw [k.cell (p := ⟨g, i * 5 + 1, none⟩) h.1]; exact e1
  · rw [k.cell (p := ⟨g, i * 5 + 2, none⟩) h.1]; exact e2
  · rw [k.cell (p := ⟨g, i * 5 + 3, none⟩) h.1]; exact e3
  · rw [k.cell (p := ⟨g, i * 5 + 4, none⟩) h.1]; exact e4
theorem Elem.ext {w w' : World} {g k : Nat} {s : Bool} {a b c d : Nat} (h : Elem w g k s a b c d) (e : Ext w w') (hg : g < w.heap.size) : Elem w' g k s a b c d := by
  obtain ⟨e0, e1, e2, e3, e4⟩ := h
  refine ⟨?_, ?_, ?_, ?_, ?_⟩
  · rw [e.cell (p := ⟨g, k, none⟩) hg]; exact e0
  · rw [e.cell (p := ⟨g, k + 1, none⟩) hg]; exact e1
  · rw [e.cell (p := ⟨g, k + 2, none⟩) hg]; exact e2
  · rw [e.cell (p := ⟨g, k + 3, none⟩) hg]; exact e3
  · rw [e.cell (p := ⟨g, k + 4, none⟩) hg]; exact e4
theorem load5 (g k : Nat) (s : Bool) (a b c d : Nat) (w : World) (h : Elem w g k s a b c d) : (Instr.loadAt 25 (.pointer (some ⟨g, k, none⟩))).run Try.prog w = .ok (.agg #[.bool s, .int .u64 (a : Int), .int .u64 (b : Int), .int .u64 (c : Int), .int .u64 (d : Int)]) w := by
  obtain ⟨x0, x1, x2, x3, x4⟩ := h
  go_simp
theorem idx6 (g i : Nat) (h : i < 6) (w : World) : (Instr.indexAt 33 (.slice (some ⟨g, 0, none⟩) 6 6) (.int .i64 (i : Int))).run Try.prog w = .ok (.pointer (some ⟨g, i * 5, none⟩)) w := by
  have hz := Try.sizeOf25
  have he : Try.prog.elem 33 = 25 := by kernel_rfl
  have hr := run_indexAt_slice (P := Try.prog) (w := w) 33 ⟨g, 0, none⟩ 6 6 .i64 (i : Int) (by kernel_rfl)
  rw [hr, if_pos ⟨by omega, by omega⟩, he, hz]
  simp [Result.andThen, Addr.add]
  try (intro hh; omega)
theorem idx6' (g i : Nat) (h : i < 6) (k : Nat) (hk : i * 5 = k) (w : World) : (Instr.indexAt 33 (.slice (some ⟨g, 0, none⟩) 6 6) (.int .i64 (i : Int))).run Try.prog w = .ok (.pointer (some ⟨g, k, none⟩)) w := by rw [← hk]; exact idx6 g i h w
theorem q_load {A : Act} {o : Oper} {T : TypeId} {p : Operand} {u v : Value} {w : World} (h : o.op = .load T p) (hp : A.eval p = u) (hr : (Instr.loadAt T u).run Try.prog w = .ok v w) : qUpon Try.prog w v ((execOp A.eval o).run Try.prog w) := by
  have e : (execOp A.eval o).run Try.prog w = .ok (.value v) w := by
    unfold execOp; rw [h]
    show Sem.run Try.prog (do let x ← Instr.loadAt T (A.eval p); pure (Next.value x)) w = _
    rw [Sem.run_bind, hp, hr]; rfl
  rw [e]; exact ⟨rfl, rfl⟩
theorem neRs (n d : Int) (w : World) : (binOp .neq 35 (.agg #[.bool (sg n), .int .u64 (l0 n : Int), .int .u64 (l1 n : Int), .int .u64 (l2 n : Int), .int .u64 (l3 n : Int), .bool (sg d), .int .u64 (l0 d : Int), .int .u64 (l1 d : Int), .int .u64 (l2 d : Int), .int .u64 (l3 d : Int)]) (.agg #[.bool (sg n), .int .u64 (l0 n : Int), .int .u64 (l1 n : Int), .int .u64 (l2 n : Int), .int .u64 (l3 n : Int), .bool (sg d), .int .u64 (l0 d : Int), .int .u64 (l1 d : Int), .int .u64 (l2 d : Int), .int .u64 (l3 d : Int)])).run Try.prog w = .ok (.bool false) w := by
  have h := eqRs n d w
  rw [run_eql_struct] at h
  rw [run_neq_struct]
  cases hr : (Op.equalIn 10000 35 (.agg #[.bool (sg n), .int .u64 (l0 n : Int), .int .u64 (l1 n : Int), .int .u64 (l2 n : Int), .int .u64 (l3 n : Int), .bool (sg d), .int .u64 (l0 d : Int), .int .u64 (l1 d : Int), .int .u64 (l2 d : Int), .int .u64 (l3 d : Int)]) (.agg #[.bool (sg n), .int .u64 (l0 n : Int), .int .u64 (l1 n : Int), .int .u64 (l2 n : Int), .int .u64 (l3 n : Int), .bool (sg d), .int .u64 (l0 d : Int), .int .u64 (l1 d : Int), .int .u64 (l2 d : Int), .int .u64 (l3 d : Int)])).run Try.prog w with
  | ok r w1 => rw [hr] at h; simp only [Result.andThen_ok, Result.ok.injEq, Value.bool.injEq] at h ⊢; obtain ⟨h1, h2⟩ := h; subst h1; exact ⟨rfl, h2⟩
  | halt x w1 => rw [hr] at h; simp [Result.andThen] at h
theorem f256_i64 {u : Int} (h : I64 u) : F256 u := by
  have h1 := h.1
  have h2 := h.2
  unfold F256; omega
theorem f256_small {u : Int} (h1 : -100 ≤ u) (h2 : u ≤ 100) : F256 u := by unfold F256; omega
theorem six_new (T : TypeId) (s1 : Bool) (a1 b1 c1 d1 : Nat) (z1 : Int) (s2 : Bool) (a2 b2 c2 d2 : Nat) (z2 : Int) (s3 : Bool) (a3 b3 c3 d3 : Nat) (z3 : Int) (s4 : Bool) (a4 b4 c4 d4 : Nat) (z4 : Int) (s5 : Bool) (a5 b5 c5 d5 : Nat) (z5 : Int) (s6 : Bool) (a6 b6 c6 d6 : Nat) (z6 : Int) (h1 : IsW s1 a1 b1 c1 d1 z1) (h2 : IsW s2 a2 b2 c2 d2 z2) (h3 : IsW s3 a3 b3 c3 d3 z3) (h4 : IsW s4 a4 b4 c4 d4 z4) (h5 : IsW s5 a5 b5 c5 d5 z5) (h6 : IsW s6 a6 b6 c6 d6 z6) (w : World) : Six (w.alloc (.cells #[.bool s1, .int .u64 (a1 : Int), .int .u64 (b1 : Int), .int .u64 (c1 : Int), .int .u64 (d1 : Int), .bool s2, .int .u64 (a2 : Int), .int .u64 (b2 : Int), .int .u64 (c2 : Int), .int .u64 (d2 : Int), .bool s3, .int .u64 (a3 : Int), .int .u64 (b3 : Int), .int .u64 (c3 : Int), .int .u64 (d3 : Int), .bool s4, .int .u64 (a4 : Int), .int .u64 (b4 : Int), .int .u64 (c4 : Int), .int .u64 (d4 : Int), .bool s5, .int .u64 (a5 : Int), .int .u64 (b5 : Int), .int .u64 (c5 : Int), .int .u64 (d5 : Int), .bool s6, .int .u64 (a6 : Int), .int .u64 (b6 : Int), .int .u64 (c6 : Int), .int .u64 (d6 : Int)] T)) w.heap.size := by
  have h := heap_alloc_new w (.cells #[.bool s1, .int .u64 (a1 : Int), .int .u64 (b1 : Int), .int .u64 (c1 : Int), .int .u64 (d1 : Int), .bool s2, .int .u64 (a2 : Int), .int .u64 (b2 : Int), .int .u64 (c2 : Int), .int .u64 (d2 : Int), .bool s3, .int .u64 (a3 : Int), .int .u64 (b3 : Int), .int .u64 (c3 : Int), .int .u64 (d3 : Int), .bool s4, .int .u64 (a4 : Int), .int .u64 (b4 : Int), .int .u64 (c4 : Int), .int .u64 (d4 : Int), .bool s5, .int .u64 (a5 : Int), .int .u64 (b5 : Int), .int .u64 (c5 : Int), .int .u64 (d5 : Int), .bool s6, .int .u64 (a6 : Int), .int .u64 (b6 : Int), .int .u64 (c6 : Int), .int .u64 (d6 : Int)] T)
  refine ⟨by simp, fun i hi => ?_⟩
  have hc : i = 0 ∨ i = 1 ∨ i = 2 ∨ i = 3 ∨ i = 4 ∨ i = 5 := by omega
  rcases hc with rfl | rfl | rfl | rfl | rfl | rfl
  · exact ⟨s1, a1, b1, c1, d1, z1, h1, by rw [cell_of_block h]; rfl, by rw [cell_of_block h]; rfl, by rw [cell_of_block h]; rfl, by rw [cell_of_block h]; rfl, by rw [cell_of_block h]; rfl⟩
  · exact ⟨s2, a2, b2, c2, d2, z2, h2, by rw [cell_of_block h]; rfl, by rw [cell_of_block h]; rfl, by rw [cell_of_block h]; rfl, by rw [cell_of_block h]; rfl, by rw [cell_of_block h]; rfl⟩
  · exact ⟨s3, a3, b3, c3, d3, z3, h3, by rw [cell_of_block h]; rfl, by rw [cell_of_block h]; rfl, by rw [cell_of_block h]; rfl, by rw [cell_of_block h]; rfl, by rw [cell_of_block h]; rfl⟩
  · exact ⟨s4, a4, b4, c4, d4, z4, h4, by rw [cell_of_block h]; rfl, by rw [cell_of_block h]; rfl, by rw [cell_of_block h]; rfl, by rw [cell_of_block h]; rfl, by rw [cell_of_block h]; rfl⟩
  · exact ⟨s5, a5, b5, c5, d5, z5, h5, by rw [cell_of_block h]; rfl, by rw [cell_of_block h]; rfl, by rw [cell_of_block h]; rfl, by rw [cell_of_block h]; rfl, by rw [cell_of_block h]; rfl⟩
  · exact ⟨s6, a6, b6, c6, d6, z6, h6, by rw [cell_of_block h]; rfl, by rw [cell_of_block h]; rfl, by rw [cell_of_block h]; rfl, by rw [cell_of_block h]; rfl, by rw [cell_of_block h]; rfl⟩
set_option maxRecDepth 100000 in
set_option maxHeartbeats 8000000 in
theorem law_rmak (s1 : Bool) (a1 b1 c1 d1 : Nat) (s2 : Bool) (a2 b2 c2 d2 : Nat) (z1 z2 : Int) (x : Option Addr) (len cap : Nat) (W : World) (h1 : IsW s1 a1 b1 c1 d1 z1) (h2 : IsW s2 a2 b2 c2 d2 z2) (hL : IsList W x len cap) : Calls Try.prog 3 #[.agg #[.bool s1, .int .u64 (a1 : Int), .int .u64 (b1 : Int), .int .u64 (c1 : Int), .int .u64 (d1 : Int)], .agg #[.bool s2, .int .u64 (a2 : Int), .int .u64 (b2 : Int), .int .u64 (c2 : Int), .int .u64 (d2 : Int)], .slice x len cap] W (BoolRet true W) := by
  have HL := hide hL
  have HX := hide (And.intro h1 h2)
  clear hL h1 h2
  obtain ⟨W0, hW0⟩ : ∃ W0, W0 = ((W.alloc (.cells #[.bool s1, .int .u64 (a1 : Int), .int .u64 (b1 : Int), .int .u64 (c1 : Int), .int .u64 (d1 : Int)] 25)).alloc (.cells #[.bool s2, .int .u64 (a2 : Int), .int .u64 (b2 : Int), .int .u64 (c2 : Int), .int .u64 (d2 : Int)] 25)) := ⟨_, rfl⟩
  have H2 := two_blocks W (.cells #[.bool s1, .int .u64 (a1 : Int), .int .u64 (b1 : Int), .int .u64 (c1 : Int), .int .u64 (d1 : Int)] 25) (.cells #[.bool s2, .int .u64 (a2 : Int), .int .u64 (b2 : Int), .int .u64 (c2 : Int), .int .u64 (d2 : Int)] 25)
  have EE0 : Ext W W0 := by rw [hW0]; exact ((ext_alloc _ _).trans (ext_alloc _ _))
  rw [← hW0] at H2
  have EE := hide EE0
  have HW := hide hW0
  obtain ⟨P3, P4⟩ : Box W0 (W.heap.size) s1 a1 b1 c1 d1 ∧ Box W0 ((W.heap.size + 1)) s2 a2 b2 c2 d2 := H2
  clear hW0 EE0
  go_enter Try.func3, Try.ntmps3
  go_upto_region 1 with fail
  rw [← HW.out]
  clear HW
  have hg0 : W.heap.size ≤ W.heap.size := Nat.le_refl _
  obtain ⟨g0, hg⟩ : ∃ g, W.heap.size = g := ⟨_, rfl⟩
  rw [hg] at P3 P4 ⊢
  replace hg0 : W.heap.size ≤ g0 := Nat.le_of_eq hg
  clear hg
  obtain ⟨bt, hbt⟩ : ∃ b, W0.heap.size = b := ⟨_, rfl⟩
  go_upto_region 2 with (go_at_call 15; (with_reducible refine (t_new W0 x len cap (HL.out.ext EE.out)).mono ?_); rintro e w1 ⟨rfl, T0, hB⟩)
  have lb3 := P3.lt
  have lb4 := P4.lt
  have P3 := P3.ext hB
  have P4 := P4.ext hB
  rw [hbt] at T0 lb3 lb4
  try rw [hbt]
  have hWb : W.heap.size ≤ bt := by rw [← hbt]; exact EE.out.size
  have EE := hide (EE.out.trans hB)
  clear hB hbt HL
  have neP3 : g0 ≠ bt := by omega
  have neP4 : g0 + 1 ≠ bt := by omega
  have i40 : I64 40 := ⟨by omega, by omega⟩
  go_cut [8] (fun t wx => ∃ g, t = .slice (some ⟨g, 0, none⟩) 6 6 ∧ Six wx g ∧ Ext W wx)
  case first =>
    obtain ⟨xP30, xP31, xP32, xP33, xP34, xP3f0, xP3f1, xP3f2, xP3f3, xP3f4⟩ := five_cells P3; obtain ⟨xP40, xP41, xP42, xP43, xP44, xP4f0, xP4f1, xP4f2, xP4f3, xP4f4⟩ := five_cells P4
    go_region_held3 (fun w' => w'.cell? ⟨g0, 0, none⟩ = some (.bool s1) ∧ w'.cell? ⟨g0, 1, none⟩ = some (.int .u64 (a1 : Int)) ∧ w'.cell? ⟨g0, 2, none⟩ = some (.int .u64 (b1 : Int)) ∧ w'.cell? ⟨g0, 3, none⟩ = some (.int .u64 (c1 : Int)) ∧ w'.cell? ⟨g0, 4, none⟩ = some (.int .u64 (d1 : Int)) ∧ w'.cell? ⟨g0 + 1, 0, none⟩ = some (.bool s2) ∧ w'.cell? ⟨g0 + 1, 1, none⟩ = some (.int .u64 (a2 : Int)) ∧ w'.cell? ⟨g0 + 1, 2, none⟩ = some (.int .u64 (b2 : Int)) ∧ w'.cell? ⟨g0 + 1, 3, none⟩ = some (.int .u64 (c2 : Int)) ∧ w'.cell? ⟨g0 + 1, 4, none⟩ = some (.int .u64 (d2 : Int))) (first | (with_reducible exact ⟨xP30, xP31, xP32, xP33, xP34, xP40, xP41, xP42, xP43, xP44⟩) | go_keep) (first
      | (go_at_call 16; (with_reducible refine (t_wide bt bt _ _ (by first | exact T0 | exact T0.ext (ext_drew _)) (Upd.refl _ _)).mono ?_); rintro e w2 ⟨s3, a3, b3, c3, d3, z3, rfl, hC3, T1, hU⟩; have hU : Upd bt w1 w2 := (by first | exact hU | exact (Ext.upd (ext_drew _) bt).trans hU); have HC3 := hide hC3; have P3 := P3.upd hU neP3; have P4 := P4.upd hU neP4; have EE := hide (Upd.ext hU EE.out hWb); obtain ⟨xP30, xP31, xP32, xP33, xP34, xP3f0, xP3f1, xP3f2, xP3f3, xP3f4⟩ := five_cells P3; obtain ⟨xP40, xP41, xP42, xP43, xP44, xP4f0, xP4f1, xP4f2, xP4f3, xP4f4⟩ := five_cells P4; clear hU hC3 T0)
      | (go_at_call 16; (with_reducible refine (t_wide bt bt _ _ T1 (Upd.refl _ _)).mono ?_); rintro e w3 ⟨s4, a4, b4, c4, d4, z4, rfl, hC4, T2, hU⟩; have HC4 := hide hC4; have P3 := P3.upd hU neP3; have P4 := P4.upd hU neP4; have EE := hide (Upd.ext hU EE.out hWb); obtain ⟨xP30, xP31, xP32, xP33, xP34, xP3f0, xP3f1, xP3f2, xP3f3, xP3f4⟩ := five_cells P3; obtain ⟨xP40, xP41, xP42, xP43, xP44, xP4f0, xP4f1, xP4f2, xP4f3, xP4f4⟩ := five_cells P4; clear hU hC4 T1)
      | (go_at_call 18; (with_reducible refine (t_int bt bt _ _ T2 (Upd.refl _ _)).mono ?_); rintro e w4 ⟨u, rfl, hu, T3, hU⟩; have kO : Hid (∀ w, Calls Try.prog 17 #[.int .i64 u] w (Ret (.agg #[.bool (sg u), .int .u64 (l0 u : Int), .int .u64 (l1 u : Int), .int .u64 (l2 u : Int), .int .u64 (l3 u : Int)]) w)) := (fun w => d_ofi hu.1 hu.2 w); have F5 := hide (f256_i64 hu); have P3 := P3.upd hU neP3; have P4 := P4.upd hU neP4; have EE := hide (Upd.ext hU EE.out hWb); obtain ⟨xP30, xP31, xP32, xP33, xP34, xP3f0, xP3f1, xP3f2, xP3f3, xP3f4⟩ := five_cells P3; obtain ⟨xP40, xP41, xP42, xP43, xP44, xP4f0, xP4f1, xP4f2, xP4f3, xP4f4⟩ := five_cells P4; clear hU hu T2)
      | (go_at_call 17; (with_reducible refine (kO.out _).mono ?_); rintro e w5 ⟨rfl, hE⟩; have T4 := T3.ext hE; have P3 := P3.ext hE; have P4 := P4.ext hE; have EE := hide (EE.out.trans hE); obtain ⟨xP30, xP31, xP32, xP33, xP34, xP3f0, xP3f1, xP3f2, xP3f3, xP3f4⟩ := five_cells P3; obtain ⟨xP40, xP41, xP42, xP43, xP44, xP4f0, xP4f1, xP4f2, xP4f3, xP4f4⟩ := five_cells P4; clear hE T3 kO)
      | (go_at_call 19; (with_reducible refine (t_next bt bt 40 _ i40 T4).mono ?_); rintro e w6 ⟨v, rfl, hv, T5, hU⟩; have v0 := hv.1; have v1 := hv.2.1 (by omega); obtain ⟨y, hy⟩ : ∃ y, v - 20 = y := ⟨_, rfl⟩; have hwr : IntKind.i64.wrap (v - 20) = v - 20 := (IntWalk.i64_in _ (by omega)); have kP : Hid (∀ w, Calls Try.prog 17 #[.int .i64 (IntKind.i64.wrap (v - 20))] w (Ret (.agg #[.bool (sg y), .int .u64 (l0 y : Int), .int .u64 (l1 y : Int), .int .u64 (l2 y : Int), .int .u64 (l3 y : Int)]) w)) := (fun w => by rw [hwr, hy]; exact d_ofi (by omega) (by omega) w); clear hwr; have F6 := hide (f256_small (show -100 ≤ y by omega) (show y ≤ 100 by omega)); have P3 := P3.upd hU neP3; have P4 := P4.upd hU neP4; have EE := hide (Upd.ext hU EE.out hWb); obtain ⟨xP30, xP31, xP32, xP33, xP34, xP3f0, xP3f1, xP3f2, xP3f3, xP3f4⟩ := five_cells P3; obtain ⟨xP40, xP41, xP42, xP43, xP44, xP4f0, xP4f1, xP4f2, xP4f3, xP4f4⟩ := five_cells P4; clear hU hv T4 hy)
      | (go_at_call 17; (with_reducible refine (kP.out _).mono ?_); rintro e w7 ⟨rfl, hE⟩; have P3 := P3.ext hE; have P4 := P4.ext hE; have EE := hide (EE.out.trans hE); obtain ⟨xP30, xP31, xP32, xP33, xP34, xP3f0, xP3f1, xP3f2, xP3f3, xP3f4⟩ := five_cells P3; obtain ⟨xP40, xP41, xP42, xP43, xP44, xP4f0, xP4f1, xP4f2, xP4f3, xP4f4⟩ := five_cells P4; clear hE kP))
    all_goals go_wp2_with fail
    all_goals go_meet
    all_goals exact ⟨w7.heap.size, rfl, six_new _ _ _ _ _ _ _ _ _ _ _ _ _ _ _ _ _ _ _ _ _ _ _ _ _ _ _ _ _ _ _ _ _ _ _ _ _ HX.out.1 HX.out.2 HC3.out.1 HC4.out.1 (isC_of F5.out).1 (isC_of F6.out).1 w7, EE.out.trans (ext_alloc _ _)⟩
  case rest =>
    clear P3 P4 EE
    obtain ⟨g, rfl, hS, hE⟩ := hcut
    have HS := hide hS
    have EE := hide hE
    clear hS hE
    go_wp2_with fail
    go_loopw [9] (fun i wr => ∃ k : Nat, i = .int .i64 (k : Int) ∧ k ≤ 6 ∧ Hid (Six wr g) ∧ Hid (Ext W wr)) (fun i _ => 6 - (intOf i).toNat)
    case atStart => exact ⟨0, rfl, by omega, HS, EE⟩
    case round =>
      clear HS EE
      obtain ⟨i, rfl, hi, HS, EE⟩ := hrel
      by_cases hi6 : i < 6
      · have hiI : (i : Int) < 6 := by omega
        go_upto_region 6 with fail
        go_wp2_with fail
        go_loopw [10] (fun j wr => ∃ k : Nat, j = .int .i64 (k : Int) ∧ k ≤ 6 ∧ Hid (Six wr g) ∧ Hid (Ext W wr)) (fun j _ => 6 - (intOf j).toNat)
        case atStart => exact ⟨0, rfl, by omega, HS, EE⟩
        case round =>
          clear HS EE
          obtain ⟨j, rfl, hj, HS, EE⟩ := hrel
          by_cases hj6 : j < 6
          · have hjI : (j : Int) < 6 := by omega
            obtain ⟨s, a, b, c, d, z, hz, E1⟩ := HS.out.2 i hi6
            obtain ⟨t, e, f, h, l, y, hy, E2⟩ := HS.out.2 j hj6
            obtain ⟨ki, hki⟩ : ∃ k, i * 5 = k := ⟨_, rfl⟩
            obtain ⟨kj, hkj⟩ : ∃ k, j * 5 = k := ⟨_, rfl⟩
            rw [hki] at E1
            rw [hkj] at E2
            obtain ⟨o, n, m, hF, hFF, KP, KR⟩ := makes_raw s t a b c d e f h l z y hz hy
            have kP := hide KP
            have kR := hide KR
            have HF := hide hF
            have HFF := hide hFF
            have HE1 := hide E1
            have HE2 := hide E2
            have hgl := HS.out.1
            clear KP KR hF hFF hz hy E1 E2
            have qi := idx6' g i hi6 ki hki
            have qj := idx6' g j hj6 kj hkj
            clear hki hkj
            go_upto_region 9 with fail
            have EB := hide (Ext.refl wr)
            refine wp_decl [.q, .q, .q, .q, .q, .q, .q, .q, .q, .q, .q, .q, .al, .st 12, .q] [.slice (some ⟨g, 0, none⟩) 6 6, .int .i64 (i : Int), .pointer (some ⟨g, ki, none⟩), .agg #[.bool s, .int .u64 (a : Int), .int .u64 (b : Int), .int .u64 (c : Int), .int .u64 (d : Int)], .slice (some ⟨g, 0, none⟩) 6 6, .int .i64 (j : Int), .pointer (some ⟨g, kj, none⟩), .agg #[.bool t, .int .u64 (e : Int), .int .u64 (f : Int), .int .u64 (h : Int), .int .u64 (l : Int)], .tuple #[.agg #[.bool (sg n), .int .u64 (l0 n : Int), .int .u64 (l1 n : Int), .int .u64 (l2 n : Int), .int .u64 (l3 n : Int), .bool (sg m), .int .u64 (l0 m : Int), .int .u64 (l1 m : Int), .int .u64 (l2 m : Int), .int .u64 (l3 m : Int)], .bool o], .tuple #[.agg #[.bool (sg n), .int .u64 (l0 n : Int), .int .u64 (l1 n : Int), .int .u64 (l2 n : Int), .int .u64 (l3 n : Int), .bool (sg m), .int .u64 (l0 m : Int), .int .u64 (l1 m : Int), .int .u64 (l2 m : Int), .int .u64 (l3 m : Int)], .bool o], .agg #[.bool (sg n), .int .u64 (l0 n : Int), .int .u64 (l1 n : Int), .int .u64 (l2 n : Int), .int .u64 (l3 n : Int), .bool (sg m), .int .u64 (l0 m : Int), .int .u64 (l1 m : Int), .int .u64 (l2 m : Int), .int .u64 (l3 m : Int)], .bool o, undef, undef, .bool o] (fun _ => (.cells #[.bool false, .int .u64 0, .int .u64 0, .int .u64 0, .int .u64 0, .bool false, .int .u64 0, .int .u64 0, .int .u64 0, .int .u64 0] 35 (0, 0))) (fun _ => (.cells #[.bool (sg n), .int .u64 (l0 n : Int), .int .u64 (l1 n : Int), .int .u64 (l2 n : Int), .int .u64 (l3 n : Int), .bool (sg m), .int .u64 (l0 m : Int), .int .u64 (l1 m : Int), .int .u64 (l2 m : Int), .int .u64 (l3 m : Int)] 35 (0, 0))) (fun _ => 0) (by kernel_rfl) (by kernel_rfl) (by kernel_rfl) rfl rfl (by simp) (by simp) ?_ ?_
            · refine ⟨?_, ?_, ?_, ?_, ?_, ?_, ?_, ?_, ?_, ?_, ?_, ?_, ?_, ?_, ?_, trivial⟩
              · refine op_q ?uvn2 ?h1n2 ?h2n2 ?h3n2
                case h1n2 => exact rfl
                case uvn2 => exact (.slice (some ⟨g, 0, none⟩) 6 6)
                case h2n2 => exact rfl
                intro w' hw'
                go_simp
              · refine op_q ?uvn3 ?h1n3 ?h2n3 ?h3n3
                case h1n3 => exact rfl
                case uvn3 => exact (.int .i64 (i : Int))
                case h2n3 => exact rfl
                intro w' hw'
                go_simp
              · refine op_q ?uvn4 ?h1n4 ?h2n4 ?h3n4
                case h1n4 => exact rfl
                case uvn4 => exact (.pointer (some ⟨g, ki, none⟩))
                case h2n4 => exact rfl
                intro w' hw'
                go_simp
              · refine op_q ?uvn5 ?h1n5 ?h2n5 ?h3n5
                case h1n5 => exact rfl
                case uvn5 => exact (.agg #[.bool s, .int .u64 (a : Int), .int .u64 (b : Int), .int .u64 (c : Int), .int .u64 (d : Int)])
                case h2n5 => exact rfl
                intro w' hw'
                have ql := load5 _ _ _ _ _ _ _ w' (HE1.out.ext (hw'.ext' EB.out (by simp)) hgl)
                generalize hA : putAll _ _ _ _ _ _ = A
                refine q_load (p := .tmp 46) ?_ ?_ ql
                · exact rfl
                · rw [← hA]; go_simp
              · refine op_q ?uvn6 ?h1n6 ?h2n6 ?h3n6
                case h1n6 => exact rfl
                case uvn6 => exact (.slice (some ⟨g, 0, none⟩) 6 6)
                case h2n6 => exact rfl
                intro w' hw'
                go_simp
              · refine op_q ?uvn7 ?h1n7 ?h2n7 ?h3n7
                case h1n7 => exact rfl
                case uvn7 => exact (.int .i64 (j : Int))
                case h2n7 => exact rfl
                intro w' hw'
                go_simp
              · refine op_q ?uvn8 ?h1n8 ?h2n8 ?h3n8
                case h1n8 => exact rfl
                case uvn8 => exact (.pointer (some ⟨g, kj, none⟩))
                case h2n8 => exact rfl
                intro w' hw'
                go_simp
              · refine op_q ?uvn9 ?h1n9 ?h2n9 ?h3n9
                case h1n9 => exact rfl
                case uvn9 => exact (.agg #[.bool t, .int .u64 (e : Int), .int .u64 (f : Int), .int .u64 (h : Int), .int .u64 (l : Int)])
                case h2n9 => exact rfl
                intro w' hw'
                have ql := load5 _ _ _ _ _ _ _ w' (HE2.out.ext (hw'.ext' EB.out (by simp)) hgl)
                generalize hA : putAll _ _ _ _ _ _ = A
                refine q_load (p := .tmp 50) ?_ ?_ ql
                · exact rfl
                · rw [← hA]; go_simp
              · refine op_q ?uvn10 ?h1n10 ?h2n10 ?h3n10
                case h1n10 => exact rfl
                case uvn10 => exact (.tuple #[.agg #[.bool (sg n), .int .u64 (l0 n : Int), .int .u64 (l1 n : Int), .int .u64 (l2 n : Int), .int .u64 (l3 n : Int), .bool (sg m), .int .u64 (l0 m : Int), .int .u64 (l1 m : Int), .int .u64 (l2 m : Int), .int .u64 (l3 m : Int)], .bool o])
                case h2n10 => exact rfl
                intro w' hw'
                go_simp
                exact kP.out w'
              · refine op_q ?uvn11 ?h1n11 ?h2n11 ?h3n11
                case h1n11 => exact rfl
                case uvn11 => exact (.tuple #[.agg #[.bool (sg n), .int .u64 (l0 n : Int), .int .u64 (l1 n : Int), .int .u64 (l2 n : Int), .int .u64 (l3 n : Int), .bool (sg m), .int .u64 (l0 m : Int), .int .u64 (l1 m : Int), .int .u64 (l2 m : Int), .int .u64 (l3 m : Int)], .bool o])
                case h2n11 => exact rfl
                intro w' hw'
                go_simp
              · refine op_q ?uvn12 ?h1n12 ?h2n12 ?h3n12
                case h1n12 => exact rfl
                case uvn12 => exact (.agg #[.bool (sg n), .int .u64 (l0 n : Int), .int .u64 (l1 n : Int), .int .u64 (l2 n : Int), .int .u64 (l3 n : Int), .bool (sg m), .int .u64 (l0 m : Int), .int .u64 (l1 m : Int), .int .u64 (l2 m : Int), .int .u64 (l3 m : Int)])
                case h2n12 => exact rfl
                intro w' hw'
                go_simp
              · refine op_q ?uvn13 ?h1n13 ?h2n13 ?h3n13
                case h1n13 => exact rfl
                case uvn13 => exact (.bool o)
                case h2n13 => exact rfl
                intro w' hw'
                go_simp
              · refine op_al ?uzn14 ?h1n14 ?h2n14 ?h3n14
                case h1n14 => exact rfl
                case h2n14 => exact rfl
                intro ρ w'
                go_simp
                rfl
              · refine op_st (j := 12) (T := ?uTn15) (p := ?upn15) (x := ?uxn15) ?ufn15 ?uzn15 ?uvn15 ?h1n15 ?h2n15 ?h3n15 ?h4n15 ?h5n15 ?h6n15
                case h1n15 => exact rfl
                case h2n15 => exact rfl
                case ufn15 => exact (.cells #[.bool (sg n), .int .u64 (l0 n : Int), .int .u64 (l1 n : Int), .int .u64 (l2 n : Int), .int .u64 (l3 n : Int), .bool (sg m), .int .u64 (l0 m : Int), .int .u64 (l1 m : Int), .int .u64 (l2 m : Int), .int .u64 (l3 m : Int)] 35 (0, 0))
                case uzn15 => exact (.cells #[.bool false, .int .u64 0, .int .u64 0, .int .u64 0, .int .u64 0, .bool false, .int .u64 0, .int .u64 0, .int .u64 0, .int .u64 0] 35 (0, 0))
                case uvn15 => exact (.agg #[.bool (sg n), .int .u64 (l0 n : Int), .int .u64 (l1 n : Int), .int .u64 (l2 n : Int), .int .u64 (l3 n : Int), .bool (sg m), .int .u64 (l0 m : Int), .int .u64 (l1 m : Int), .int .u64 (l2 m : Int), .int .u64 (l3 m : Int)])
                case h3n15 => exact rfl
                case h4n15 => exact rfl
                case h5n15 => go_simp
                intro ρ w' g' hp hx hz
                exact store_ratio rfl hp hx hz
              · refine op_q ?uvn16 ?h1n16 ?h2n16 ?h3n16
                case h1n16 => exact rfl
                case uvn16 => exact (.bool o)
                case h2n16 => exact rfl
                intro w' hw'
                go_simp
            · intro G W5 hI
              have hS := hI.same
              have hb0 := EE.out.size
              have EB := hide (hS.ext' EB.out (by simp))
              have EE := hide (hS.ext' EE.out (by simp))
              have P11 : Box10 W5 (G 12) (sg n) (l0 n) (l1 n) (l2 n) (l3 n) (sg m) (l0 m) (l1 m) (l2 m) (l3 m) := (hI.fulls 13 (List.mem_range.2 (show 13 < 15 by decide)) 12 rfl).2.2
              have hmP11 := (hI.made 12 (List.mem_range.2 (show 12 < 15 by decide)) rfl).1
              have hbP11 := Nat.le_trans hb0 hmP11
              clear hI hS hb0
              simp only [putAll, slotV, ptrTo, Nat.zero_add, Nat.reduceAdd]
              generalize G 12 = gP11 at *
              go_upto_region 10 with fail
              have lbP11 := P11.lt
              refine wp_decl [.q, .q, .q, .q, .q, .q, .q, .q, .q, .q, .q, .q, .al, .st 12, .q] [.slice (some ⟨g, 0, none⟩) 6 6, .int .i64 (i : Int), .pointer (some ⟨g, ki, none⟩), .agg #[.bool s, .int .u64 (a : Int), .int .u64 (b : Int), .int .u64 (c : Int), .int .u64 (d : Int)], .slice (some ⟨g, 0, none⟩) 6 6, .int .i64 (j : Int), .pointer (some ⟨g, kj, none⟩), .agg #[.bool t, .int .u64 (e : Int), .int .u64 (f : Int), .int .u64 (h : Int), .int .u64 (l : Int)], .tuple #[.agg #[.bool (sg n), .int .u64 (l0 n : Int), .int .u64 (l1 n : Int), .int .u64 (l2 n : Int), .int .u64 (l3 n : Int), .bool (sg m), .int .u64 (l0 m : Int), .int .u64 (l1 m : Int), .int .u64 (l2 m : Int), .int .u64 (l3 m : Int)], .bool o], .tuple #[.agg #[.bool (sg n), .int .u64 (l0 n : Int), .int .u64 (l1 n : Int), .int .u64 (l2 n : Int), .int .u64 (l3 n : Int), .bool (sg m), .int .u64 (l0 m : Int), .int .u64 (l1 m : Int), .int .u64 (l2 m : Int), .int .u64 (l3 m : Int)], .bool o], .agg #[.bool (sg n), .int .u64 (l0 n : Int), .int .u64 (l1 n : Int), .int .u64 (l2 n : Int), .int .u64 (l3 n : Int), .bool (sg m), .int .u64 (l0 m : Int), .int .u64 (l1 m : Int), .int .u64 (l2 m : Int), .int .u64 (l3 m : Int)], .bool o, undef, undef, .bool o] (fun _ => (.cells #[.bool false, .int .u64 0, .int .u64 0, .int .u64 0, .int .u64 0, .bool false, .int .u64 0, .int .u64 0, .int .u64 0, .int .u64 0] 35 (0, 0))) (fun _ => (.cells #[.bool (sg n), .int .u64 (l0 n : Int), .int .u64 (l1 n : Int), .int .u64 (l2 n : Int), .int .u64 (l3 n : Int), .bool (sg m), .int .u64 (l0 m : Int), .int .u64 (l1 m : Int), .int .u64 (l2 m : Int), .int .u64 (l3 m : Int)] 35 (0, 0))) (fun _ => 0) (by kernel_rfl) (by kernel_rfl) (by kernel_rfl) rfl rfl (by simp) (by simp) ?_ ?_
              · refine ⟨?_, ?_, ?_, ?_, ?_, ?_, ?_, ?_, ?_, ?_, ?_, ?_, ?_, ?_, ?_, trivial⟩
                · refine op_q ?uvn18 ?h1n18 ?h2n18 ?h3n18
                  case h1n18 => exact rfl
                  case uvn18 => exact (.slice (some ⟨g, 0, none⟩) 6 6)
                  case h2n18 => exact rfl
                  intro w' hw'
                  go_simp
                · refine op_q ?uvn19 ?h1n19 ?h2n19 ?h3n19
                  case h1n19 => exact rfl
                  case uvn19 => exact (.int .i64 (i : Int))
                  case h2n19 => exact rfl
                  intro w' hw'
                  go_simp
                · refine op_q ?uvn20 ?h1n20 ?h2n20 ?h3n20
                  case h1n20 => exact rfl
                  case uvn20 => exact (.pointer (some ⟨g, ki, none⟩))
                  case h2n20 => exact rfl
                  intro w' hw'
                  go_simp
                · refine op_q ?uvn21 ?h1n21 ?h2n21 ?h3n21
                  case h1n21 => exact rfl
                  case uvn21 => exact (.agg #[.bool s, .int .u64 (a : Int), .int .u64 (b : Int), .int .u64 (c : Int), .int .u64 (d : Int)])
                  case h2n21 => exact rfl
                  intro w' hw'
                  have ql := load5 _ _ _ _ _ _ _ w' (HE1.out.ext (hw'.ext' EB.out (by simp)) hgl)
                  generalize hA : putAll _ _ _ _ _ _ = A
                  refine q_load (p := .tmp 58) ?_ ?_ ql
                  · exact rfl
                  · rw [← hA]; go_simp
                · refine op_q ?uvn22 ?h1n22 ?h2n22 ?h3n22
                  case h1n22 => exact rfl
                  case uvn22 => exact (.slice (some ⟨g, 0, none⟩) 6 6)
                  case h2n22 => exact rfl
                  intro w' hw'
                  go_simp
                · refine op_q ?uvn23 ?h1n23 ?h2n23 ?h3n23
                  case h1n23 => exact rfl
                  case uvn23 => exact (.int .i64 (j : Int))
                  case h2n23 => exact rfl
                  intro w' hw'
                  go_simp
                · refine op_q ?uvn24 ?h1n24 ?h2n24 ?h3n24
                  case h1n24 => exact rfl
                  case uvn24 => exact (.pointer (some ⟨g, kj, none⟩))
                  case h2n24 => exact rfl
                  intro w' hw'
                  go_simp
                · refine op_q ?uvn25 ?h1n25 ?h2n25 ?h3n25
                  case h1n25 => exact rfl
                  case uvn25 => exact (.agg #[.bool t, .int .u64 (e : Int), .int .u64 (f : Int), .int .u64 (h : Int), .int .u64 (l : Int)])
                  case h2n25 => exact rfl
                  intro w' hw'
                  have ql := load5 _ _ _ _ _ _ _ w' (HE2.out.ext (hw'.ext' EB.out (by simp)) hgl)
                  generalize hA : putAll _ _ _ _ _ _ = A
                  refine q_load (p := .tmp 62) ?_ ?_ ql
                  · exact rfl
                  · rw [← hA]; go_simp
                · refine op_q ?uvn26 ?h1n26 ?h2n26 ?h3n26
                  case h1n26 => exact rfl
                  case uvn26 => exact (.tuple #[.agg #[.bool (sg n), .int .u64 (l0 n : Int), .int .u64 (l1 n : Int), .int .u64 (l2 n : Int), .int .u64 (l3 n : Int), .bool (sg m), .int .u64 (l0 m : Int), .int .u64 (l1 m : Int), .int .u64 (l2 m : Int), .int .u64 (l3 m : Int)], .bool o])
                  case h2n26 => exact rfl
                  intro w' hw'
                  go_simp
                  exact kR.out w'
                · refine op_q ?uvn27 ?h1n27 ?h2n27 ?h3n27
                  case h1n27 => exact rfl
                  case uvn27 => exact (.tuple #[.agg #[.bool (sg n), .int .u64 (l0 n : Int), .int .u64 (l1 n : Int), .int .u64 (l2 n : Int), .int .u64 (l3 n : Int), .bool (sg m), .int .u64 (l0 m : Int), .int .u64 (l1 m : Int), .int .u64 (l2 m : Int), .int .u64 (l3 m : Int)], .bool o])
                  case h2n27 => exact rfl
                  intro w' hw'
                  go_simp
                · refine op_q ?uvn28 ?h1n28 ?h2n28 ?h3n28
                  case h1n28 => exact rfl
                  case uvn28 => exact (.agg #[.bool (sg n), .int .u64 (l0 n : Int), .int .u64 (l1 n : Int), .int .u64 (l2 n : Int), .int .u64 (l3 n : Int), .bool (sg m), .int .u64 (l0 m : Int), .int .u64 (l1 m : Int), .int .u64 (l2 m : Int), .int .u64 (l3 m : Int)])
                  case h2n28 => exact rfl
                  intro w' hw'
                  go_simp
                · refine op_q ?uvn29 ?h1n29 ?h2n29 ?h3n29
                  case h1n29 => exact rfl
                  case uvn29 => exact (.bool o)
                  case h2n29 => exact rfl
                  intro w' hw'
                  go_simp
                · refine op_al ?uzn30 ?h1n30 ?h2n30 ?h3n30
                  case h1n30 => exact rfl
                  case h2n30 => exact rfl
                  intro ρ w'
                  go_simp
                  rfl
                · refine op_st (j := 12) (T := ?uTn31) (p := ?upn31) (x := ?uxn31) ?ufn31 ?uzn31 ?uvn31 ?h1n31 ?h2n31 ?h3n31 ?h4n31 ?h5n31 ?h6n31
                  case h1n31 => exact rfl
                  case h2n31 => exact rfl
                  case ufn31 => exact (.cells #[.bool (sg n), .int .u64 (l0 n : Int), .int .u64 (l1 n : Int), .int .u64 (l2 n : Int), .int .u64 (l3 n : Int), .bool (sg m), .int .u64 (l0 m : Int), .int .u64 (l1 m : Int), .int .u64 (l2 m : Int), .int .u64 (l3 m : Int)] 35 (0, 0))
                  case uzn31 => exact (.cells #[.bool false, .int .u64 0, .int .u64 0, .int .u64 0, .int .u64 0, .bool false, .int .u64 0, .int .u64 0, .int .u64 0, .int .u64 0] 35 (0, 0))
                  case uvn31 => exact (.agg #[.bool (sg n), .int .u64 (l0 n : Int), .int .u64 (l1 n : Int), .int .u64 (l2 n : Int), .int .u64 (l3 n : Int), .bool (sg m), .int .u64 (l0 m : Int), .int .u64 (l1 m : Int), .int .u64 (l2 m : Int), .int .u64 (l3 m : Int)])
                  case h3n31 => exact rfl
                  case h4n31 => exact rfl
                  case h5n31 => go_simp
                  intro ρ w' g' hp hx hz
                  exact store_ratio rfl hp hx hz
                · refine op_q ?uvn32 ?h1n32 ?h2n32 ?h3n32
                  case h1n32 => exact rfl
                  case uvn32 => exact (.bool o)
                  case h2n32 => exact rfl
                  intro w' hw'
                  go_simp
              · intro G W6 hI
                have hS := hI.same
                have hb0 := EE.out.size
                have P11 := P11.same hS (by simp)
                have EB := hide (hS.ext' EB.out (by simp))
                have EE := hide (hS.ext' EE.out (by simp))
                have P13 : Box10 W6 (G 12) (sg n) (l0 n) (l1 n) (l2 n) (l3 n) (sg m) (l0 m) (l1 m) (l2 m) (l3 m) := (hI.fulls 13 (List.mem_range.2 (show 13 < 15 by decide)) 12 rfl).2.2
                have hmP13 := (hI.made 12 (List.mem_range.2 (show 12 < 15 by decide)) rfl).1
                have hbP13 := Nat.le_trans hb0 hmP13
                have ngP11P13 : gP11 ≠ G 12 := by omega
                clear hI hS hb0
                simp only [putAll, slotV, ptrTo, Nat.zero_add, Nat.reduceAdd]
                generalize G 12 = gP13 at *
                have qe := neRs n m
                have qb : ∀ w', (binOp .neq 4 (.bool o) (.bool o)).run Try.prog w' = .ok (.bool false) w' := by intro w'; cases o <;> rfl
                have kV : Hid (o = true → ∀ w, Calls Try.prog 22 #[.agg #[.bool (sg n), .int .u64 (l0 n : Int), .int .u64 (l1 n : Int), .int .u64 (l2 n : Int), .int .u64 (l3 n : Int), .bool (sg m), .int .u64 (l0 m : Int), .int .u64 (l1 m : Int), .int .u64 (l2 m : Int), .int .u64 (l3 m : Int)]] w (Ret (.bool true) w)) := fun ho w => g_valid (HF.out ho) w
                clear kP kR HF HFF HE1 HE2 qi qj
                obtain ⟨xP110, xP111, xP112, xP113, xP114, xP115, xP116, xP117, xP118, xP119, xP11f0, xP11f1, xP11f2, xP11f3, xP11f4, xP11f5, xP11f6, xP11f7, xP11f8, xP11f9⟩ := ten_cells P11
                obtain ⟨xP130, xP131, xP132, xP133, xP134, xP135, xP136, xP137, xP138, xP139, xP13f0, xP13f1, xP13f2, xP13f3, xP13f4, xP13f5, xP13f6, xP13f7, xP13f8, xP13f9⟩ := ten_cells P13
                have HS := hide (HS.out.ext EB.out)
                clear EB
                cases o
                · clear kV
                  go_wp2_with fail
                  all_goals exact ⟨⟨j + 1, by go_num, by omega, HS, EE⟩, by simp [intOf]; omega⟩
                · have kV := hide (kV.out rfl)
                  go_wp2_with (go_at_call 22; (with_reducible refine (kV.out _).mono ?_); rintro e w9 ⟨rfl, hE⟩; have EE := hide (EE.out.trans hE); have HS := hide (HS.out.ext hE); clear hE)
                  all_goals exact ⟨⟨j + 1, by go_num, by omega, HS, EE⟩, by simp [intOf]; omega⟩
          · have hj0 : j = 6 := by omega
            subst hj0
            go_wp2_with fail
            all_goals exact ⟨⟨i + 1, by go_num, by omega, HS, EE⟩, by simp [intOf]; omega⟩
      · have hi0 : i = 6 := by omega
        subst hi0
        have kK : Hid (∀ w, Calls Try.prog 23 #[] w (Ret (.bool true) w)) := fun w => p_known3 w
        go_wp2_with (go_at_call 23; (with_reducible refine (kK.out _).mono ?_); rintro e w9 ⟨rfl, hE⟩; have EE := hide (EE.out.trans hE); clear hE)
        go_ret
        exact ⟨rfl, EE.out⟩
end Go.Proofs.Ytbnbkondbdakeaa
