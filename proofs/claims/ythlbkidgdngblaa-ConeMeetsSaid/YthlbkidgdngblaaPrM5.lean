/- Part 5 of what these claims stand on: contracts of the program's and the reference's functions, and plain facts. Conditions: each states its own. -/
import Derived.Test.YthlbkidgdngblaaPrM4
import Derived.Lib.QuietBelow
import Derived.BigQuiet
namespace Go.Proofs.Ythlbkidgdngblaa
set_option linter.unusedVariables false
set_option linter.unusedSimpArgs false
section
open Go Go.RowKit Go.Sort
theorem eqInW8 (s s' : Bool) (a b c e a' b' c' e' : Int) (w : World) :
   (Op.equalIn 9998 25 (.agg #[.bool s, .int .u64 a, .int .u64 b, .int .u64 c, .int .u64 e]) (.agg #[.bool s', .int .u64 a', .int .u64 b', .int .u64 c', .int .u64 e'])).run Try.prog w = .ok (same5 s s' a b c e a' b' c' e') w := by
 have hS : Try.prog.underlying 25 = some (.struct (Try.prog.fieldsOf 25)) := by kernel_rfl
 have hp : Try.prog.stoodInHeld 25 = false := by kernel_rfl
 have u4 := Try.underlying4
 have h4 := eqIn4 9995 23 Try.underlying23
 have z23 := Try.sizeOf23
 rw [show (9998 : Nat) = 9997 + 1 from rfl, run_equalIn_agg w 9997 25 _ _ hS hp]
 simp only [Program.fieldsOf, Try.underlying25]
 simp [Op.eqFields, part, isAgg, run_underlying u4, run_equalIn_bool', u4, h4, z23, same5]
 by_cases h0 : s = s' <;> by_cases h1 : a = a' <;> by_cases h2 : b = b' <;> by_cases h3 : c = c' <;> by_cases h4 : e = e' <;> simp [h0, h1, h2, h3, h4]
theorem eqInR9 (s s' : Bool) (a b c e a' b' c' e' : Int) (t t' : Bool) (f g h i f' g' h' i' : Int) (w : World) :
   (Op.equalIn 9999 40 (.agg #[.bool s, .int .u64 a, .int .u64 b, .int .u64 c, .int .u64 e, .bool t, .int .u64 f, .int .u64 g, .int .u64 h, .int .u64 i]) (.agg #[.bool s', .int .u64 a', .int .u64 b', .int .u64 c', .int .u64 e', .bool t', .int .u64 f', .int .u64 g', .int .u64 h', .int .u64 i'])).run Try.prog w = .ok (same5 s s' a b c e a' b' c' e' && same5 t t' f g h i f' g' h' i') w := by
 have hS : Try.prog.underlying 40 = some (.struct (Try.prog.fieldsOf 40)) := by kernel_rfl
 have hp : Try.prog.stoodInHeld 40 = false := by kernel_rfl
 have z25 := Try.sizeOf25
 have h5 := eqInW8
 rw [show (9999 : Nat) = 9998 + 1 from rfl, run_equalIn_agg w 9998 40 _ _ hS hp]
 simp only [Program.fieldsOf, Try.underlying40]
 simp [Op.eqFields, part, isAgg, h5, z25]
 generalize same5 s s' a b c e a' b' c' e' = p
 generalize same5 t t' f g h i f' g' h' i' = q
 cases p <;> cases q <;> rfl
def RC (S : Array Value) : Prop := ∃ (s : Bool) (a b c d : Int) (t : Bool) (e f g h : Int), S = #[.bool s, .int .u64 a, .int .u64 b, .int .u64 c, .int .u64 d, .bool t, .int .u64 e, .int .u64 f, .int .u64 g, .int .u64 h]
theorem RC.size {S : Array Value} (h : RC S) : S.size = 10 := by obtain ⟨s, a, b, c, d, t, e, f, g, i, rfl⟩ := h; rfl
theorem RC.one {S : Array Value} (h : RC S) : S.all (·.oneCell') = true := by obtain ⟨s, a, b, c, d, t, e, f, g, i, rfl⟩ := h; kernel_rfl
theorem RC.zero : RC zR := ⟨false, 0, 0, 0, 0, false, 0, 0, 0, 0, rfl⟩
theorem eq_agg (X : Array Value) (T : TypeId) (h : Try.prog.eqGuardType Try.prog.depth T = false) (Y : Array Value) (b : BinOp) (x y : Operand) (w : World) : (eqGuard b T x y (.agg X) (.agg Y)).run Try.prog w = .ok () w := by
 have hp : ∀ w, Sem.run Try.prog (Sem.program Sem.pure) w = .ok Try.prog w := fun _ => rfl
 unfold eqGuard
 cases b <;> simp [program, h, hp, Sem.run_bind, Result.andThen]
theorem stC_one : stC.all (·.oneCell') = true := by kernel_rfl
theorem eq_cone {L H : Array Value} (o : Bool) (hL : RC L) (hH : RC H) (w : World) : (binOp .eql 42 (.agg (coneC o L H)) (.agg (coneC o L H))).run Try.prog w = .ok (.bool true) w := by
 obtain ⟨s, a, b, c, e, t, f, g, h, i, rfl⟩ := hL
 obtain ⟨s', a', b', c', e', t', f', g', h', i', rfl⟩ := hH
 have hS : Try.prog.underlying 42 = some (.struct (Try.prog.fieldsOf 42)) := by kernel_rfl
 have hp : Try.prog.stoodInHeld 42 = false := by kernel_rfl
 have u4 := Try.underlying4
 have z25 := Try.sizeOf40
 have h5 := eqInR9
 rw [run_eql_struct, show (10000 : Nat) = 9999 + 1 from rfl, run_equalIn_agg w 9999 42 _ _ hS hp]
 simp only [Program.fieldsOf, Try.underlying42]
 simp [Op.eqFields, part, isAgg, run_underlying u4, run_equalIn_bool', u4, h5, z25, same5, coneC]
theorem eq_rat {S : Array Value} (hS : RC S) (w : World) : (binOp .eql 40 (.agg S) (.agg S)).run Try.prog w = .ok (.bool true) w := by
 obtain ⟨s, a, b, c, e, t, f, g, h, i, rfl⟩ := hS
 rw [eq10]; simp [same5]
def frC (f : Fr) : Array Value := #[.bool (sg f.1), .int .u64 (l0 f.1 : Int), .int .u64 (l1 f.1 : Int), .int .u64 (l2 f.1 : Int), .int .u64 (l3 f.1 : Int), .bool (sg f.2), .int .u64 (l0 f.2 : Int), .int .u64 (l1 f.2 : Int), .int .u64 (l2 f.2 : Int), .int .u64 (l3 f.2 : Int)]
theorem frC_rc (f : Fr) : RC (frC f) := ⟨_, _, _, _, _, _, _, _, _, _, rfl⟩
def cnC : Cn → Array Value
 | .op => stC
 | .cl a b => coneC false (frC a) (frC b)
theorem cnC_form (c : Cn) : ∃ o L H, cnC c = coneC o L H ∧ RC L ∧ RC H := by
 cases c with
 | op => exact ⟨true, zR, zR, stC_cone, RC.zero, RC.zero⟩
 | cl a b => exact ⟨false, _, _, rfl, frC_rc a, frC_rc b⟩
def z5 : Array Value := #[.bool false, .int .u64 0, .int .u64 0, .int .u64 0, .int .u64 0]
theorem uWide : Try.prog.underlying 25 = some (.struct (Try.prog.fieldsOf 25)) := by kernel_rfl
theorem iWide : (Try.prog.info? 25).map (·.size) = some 5 := by kernel_rfl
theorem ld_all {w : World} {g : Nat} {t ty : TypeId} {X : Array Value} {n : Nat} {d : TypeDesc} (h : Blk w g t X) (hu : Try.prog.underlying ty = some d) (hd : aggT d) (hi : (Try.prog.info? ty).map (·.size) = some n) (hn : X.size = n) : (Instr.loadAt ty (.pointer (some ⟨g, 0, none⟩))).run Try.prog w = .ok (.agg X) w :=
 run_load_part h _ _ hu hd 0 n hi (by omega) _ (by rw [Nat.zero_add, ← hn]; simp)
end
section
open Go Go.RowKit
theorem Box.same {kd : List Tag} {tgt : Nat → Nat} {W w : World} {g : Nat} {s : Bool} {a b c d : Nat} (x : Box W g s a b c d) (h : Same kd tgt W w) (hc : ∀ c, Tag.so c ∈ kd → tgt c ≠ g) : Box w g s a b c d := h.block x hc
theorem run_wide {w : World} {g : Nat} {s s' : Bool} {a b c d a' b' c' d' : Nat} (hz : Box w g s' a' b' c' d') : (Instr.storeAt 25 (ptrTo g) (.agg #[.bool s, .int .u64 (a : Int), .int .u64 (b : Int), .int .u64 (c : Int), .int .u64 (d : Int)])).run Try.prog w = .ok () (((((w.setCell ⟨g, 0, none⟩ (.bool s)).setCell ⟨g, 1, none⟩ (.int .u64 (a : Int))).setCell ⟨g, 2, none⟩ (.int .u64 (b : Int))).setCell ⟨g, 3, none⟩ (.int .u64 (c : Int))).setCell ⟨g, 4, none⟩ (.int .u64 (d : Int))) := by
 obtain ⟨q0, q1, q2, q3, q4, r0, r1, r2, r3, r4⟩ := five_cells hz
 unfold ptrTo
 go_simp
theorem store_wide {ρ : Operand → Value} {o : Oper} {p x : Operand} {w : World} {g : Nat} {s s' : Bool} {a b c d a' b' c' d' : Nat} (hop : o.op = .store 25 p x) (hp : ρ p = ptrTo g) (hx : ρ x = .agg #[.bool s, .int .u64 (a : Int), .int .u64 (b : Int), .int .u64 (c : Int), .int .u64 (d : Int)]) (hz : w.heap[g]? = some (.cells #[.bool s', .int .u64 (a' : Int), .int .u64 (b' : Int), .int .u64 (c' : Int), .int .u64 (d' : Int)] 25 (0, 0))) :
   Stores Try.prog ρ o w g (.cells #[.bool s, .int .u64 (a : Int), .int .u64 (b : Int), .int .u64 (c : Int), .int .u64 (d : Int)] 25 (0, 0)) := by
 have h1 : (execOp ρ o).run Try.prog w = .ok .skip (((((w.setCell ⟨g, 0, none⟩ (.bool s)).setCell ⟨g, 1, none⟩ (.int .u64 (a : Int))).setCell ⟨g, 2, none⟩ (.int .u64 (b : Int))).setCell ⟨g, 3, none⟩ (.int .u64 (c : Int))).setCell ⟨g, 4, none⟩ (.int .u64 (d : Int))) := by
   refine run_storeOp hop ?_
   rw [hp, hx]
   exact run_wide (s := s) (a := a) (b := b) (c := c) (d := d) (show Box w g s' a' b' c' d' from hz)
 have h2 : Box (((((w.setCell ⟨g, 0, none⟩ (.bool s)).setCell ⟨g, 1, none⟩ (.int .u64 (a : Int))).setCell ⟨g, 2, none⟩ (.int .u64 (b : Int))).setCell ⟨g, 3, none⟩ (.int .u64 (c : Int))).setCell ⟨g, 4, none⟩ (.int .u64 (d : Int))) g s a b c d := Box.put (show Box w g s' a' b' c' d' from hz)
 refine ⟨_, h1, h2, ?_, ?_, ?_, ?_, ?_⟩
 · intro k hk
   rw [far_set hk, far_set hk, far_set hk, far_set hk, far_set hk]
 · simp only [World.size_setCell]
 · simp only [os_set]
 · simp only [tape_set]
 · simp only [output_set]
end
section
open Go Go.RowKit
theorem Box10.same {kd : List Tag} {tgt : Nat → Nat} {W w : World} {k : Nat} {s : Bool} {a b c d : Nat} {t : Bool} {e f g h : Nat} (x : Box10 W k s a b c d t e f g h) (y : Same kd tgt W w) (hc : ∀ c, Tag.so c ∈ kd → tgt c ≠ k) : Box10 w k s a b c d t e f g h := y.block x hc
theorem run_ratio {w : World} {g : Nat} {s s' t t' : Bool} {a b c d e f h i a' b' c' d' e' f' h' i' : Nat} (hz : Box10 w g s' a' b' c' d' t' e' f' h' i') : (Instr.storeAt 40 (ptrTo g) (.agg #[.bool s, .int .u64 (a : Int), .int .u64 (b : Int), .int .u64 (c : Int), .int .u64 (d : Int), .bool t, .int .u64 (e : Int), .int .u64 (f : Int), .int .u64 (h : Int), .int .u64 (i : Int)])).run Try.prog w = .ok () ((((((((((w.setCell ⟨g, 0, none⟩ (.bool s)).setCell ⟨g, 1, none⟩ (.int .u64 (a : Int))).setCell ⟨g, 2, none⟩ (.int .u64 (b : Int))).setCell ⟨g, 3, none⟩ (.int .u64 (c : Int))).setCell ⟨g, 4, none⟩ (.int .u64 (d : Int))).setCell ⟨g, 5, none⟩ (.bool t)).setCell ⟨g, 6, none⟩ (.int .u64 (e : Int))).setCell ⟨g, 7, none⟩ (.int .u64 (f : Int))).setCell ⟨g, 8, none⟩ (.int .u64 (h : Int))).setCell ⟨g, 9, none⟩ (.int .u64 (i : Int))) := by
 obtain ⟨q0, q1, q2, q3, q4, q5, q6, q7, q8, q9, r0, r1, r2, r3, r4, r5, r6, r7, r8, r9⟩ := ten_cells hz
 unfold ptrTo
 go_simp
theorem store_ratio {ρ : Operand → Value} {o : Oper} {p x : Operand} {w : World} {g : Nat} {s s' t t' : Bool} {a b c d e f h i a' b' c' d' e' f' h' i' : Nat} (hop : o.op = .store 40 p x) (hp : ρ p = ptrTo g) (hx : ρ x = .agg #[.bool s, .int .u64 (a : Int), .int .u64 (b : Int), .int .u64 (c : Int), .int .u64 (d : Int), .bool t, .int .u64 (e : Int), .int .u64 (f : Int), .int .u64 (h : Int), .int .u64 (i : Int)]) (hz : w.heap[g]? = some (.cells #[.bool s', .int .u64 (a' : Int), .int .u64 (b' : Int), .int .u64 (c' : Int), .int .u64 (d' : Int), .bool t', .int .u64 (e' : Int), .int .u64 (f' : Int), .int .u64 (h' : Int), .int .u64 (i' : Int)] 40 (0, 0))) :
   Stores Try.prog ρ o w g (.cells #[.bool s, .int .u64 (a : Int), .int .u64 (b : Int), .int .u64 (c : Int), .int .u64 (d : Int), .bool t, .int .u64 (e : Int), .int .u64 (f : Int), .int .u64 (h : Int), .int .u64 (i : Int)] 40 (0, 0)) := by
 have h1 : (execOp ρ o).run Try.prog w = .ok .skip ((((((((((w.setCell ⟨g, 0, none⟩ (.bool s)).setCell ⟨g, 1, none⟩ (.int .u64 (a : Int))).setCell ⟨g, 2, none⟩ (.int .u64 (b : Int))).setCell ⟨g, 3, none⟩ (.int .u64 (c : Int))).setCell ⟨g, 4, none⟩ (.int .u64 (d : Int))).setCell ⟨g, 5, none⟩ (.bool t)).setCell ⟨g, 6, none⟩ (.int .u64 (e : Int))).setCell ⟨g, 7, none⟩ (.int .u64 (f : Int))).setCell ⟨g, 8, none⟩ (.int .u64 (h : Int))).setCell ⟨g, 9, none⟩ (.int .u64 (i : Int))) := by
   refine run_storeOp hop ?_
   rw [hp, hx]
   exact run_ratio (s := s) (a := a) (b := b) (c := c) (d := d) (t := t) (e := e) (f := f) (h := h) (i := i) (show Box10 w g s' a' b' c' d' t' e' f' h' i' from hz)
 have h2 : Box10 ((((((((((w.setCell ⟨g, 0, none⟩ (.bool s)).setCell ⟨g, 1, none⟩ (.int .u64 (a : Int))).setCell ⟨g, 2, none⟩ (.int .u64 (b : Int))).setCell ⟨g, 3, none⟩ (.int .u64 (c : Int))).setCell ⟨g, 4, none⟩ (.int .u64 (d : Int))).setCell ⟨g, 5, none⟩ (.bool t)).setCell ⟨g, 6, none⟩ (.int .u64 (e : Int))).setCell ⟨g, 7, none⟩ (.int .u64 (f : Int))).setCell ⟨g, 8, none⟩ (.int .u64 (h : Int))).setCell ⟨g, 9, none⟩ (.int .u64 (i : Int))) g s a b c d t e f h i := Box10.put (show Box10 w g s' a' b' c' d' t' e' f' h' i' from hz)
 refine ⟨_, h1, h2, ?_, ?_, ?_, ?_, ?_⟩
 · intro k hk
   rw [far_set hk, far_set hk, far_set hk, far_set hk, far_set hk, far_set hk, far_set hk, far_set hk, far_set hk, far_set hk]
 · simp only [World.size_setCell]
 · simp only [os_set]
 · simp only [tape_set]
 · simp only [output_set]
end
section
open Go Go.RowKit Go.Sort
attribute [local go_sem] qUpon putAll slotV
set_option maxRecDepth 100000 in
set_option maxHeartbeats 8000000 in
theorem s_integer {z : Int} (hz : F256 z) (w : World) : Calls Try.prog 91 #[.agg #[.bool (sg z), .int .u64 (l0 z : Int), .int .u64 (l1 z : Int), .int .u64 (l2 z : Int), .int .u64 (l3 z : Int)]] w (Ret (.agg #[.bool (sg z), .int .u64 (l0 z : Int), .int .u64 (l1 z : Int), .int .u64 (l2 z : Int), .int .u64 (l3 z : Int), .bool (sg 1), .int .u64 (l0 1 : Int), .int .u64 (l1 1 : Int), .int .u64 (l2 1 : Int), .int .u64 (l3 1 : Int)]) w) := by
 have kO : Hid (∀ w, Calls Try.prog 39 #[.int .i64 1] w (Ret (.agg #[.bool (sg 1), .int .u64 (l0 1 : Int), .int .u64 (l1 1 : Int), .int .u64 (l2 1 : Int), .int .u64 (l3 1 : Int)]) w)) := fun w => c_ofi (by omega) (by omega) w
 obtain ⟨W0, hW0⟩ : ∃ W0, W0 = ((w.alloc (.cells #[.bool (sg z), .int .u64 (l0 z : Int), .int .u64 (l1 z : Int), .int .u64 (l2 z : Int), .int .u64 (l3 z : Int)] 25)).alloc (.cells #[.bool false, .int .u64 0, .int .u64 0, .int .u64 0, .int .u64 0, .bool false, .int .u64 0, .int .u64 0, .int .u64 0, .int .u64 0] 40)) := ⟨_, rfl⟩
 have H2 := two_blocks w (.cells #[.bool (sg z), .int .u64 (l0 z : Int), .int .u64 (l1 z : Int), .int .u64 (l2 z : Int), .int .u64 (l3 z : Int)] 25) (.cells #[.bool false, .int .u64 0, .int .u64 0, .int .u64 0, .int .u64 0, .bool false, .int .u64 0, .int .u64 0, .int .u64 0, .int .u64 0] 40)
 have EE0 : Ext w W0 := by rw [hW0]; exact ((ext_alloc _ _).trans (ext_alloc _ _))
 rw [← hW0] at H2
 have EE := hide EE0
 have HW := hide hW0
 obtain ⟨P1, P2⟩ : Box W0 (w.heap.size) (sg z) (l0 z) (l1 z) (l2 z) (l3 z) ∧ Box10 W0 ((w.heap.size + 1)) false 0 0 0 0 false 0 0 0 0 := H2
 clear hW0 EE0
 go_enter Try.func91, Try.ntmps91
 go_upto_region 1 with fail
 rw [← HW.out]
 clear HW
 have hg0 : w.heap.size ≤ w.heap.size := Nat.le_refl _
 obtain ⟨g0, hg⟩ : ∃ g, w.heap.size = g := ⟨_, rfl⟩
 rw [hg] at P1 P2 ⊢
 replace hg0 : w.heap.size ≤ g0 := Nat.le_of_eq hg
 clear hg
 have lbP1 := P1.lt
 have lbP2 := P2.lt
 have ltW0 : ∀ c, Tag.so c ∈ [.q, .q, .q, .so 0] → (fun _ => g0 + 1) c < W0.heap.size := by intro c hc; simp at hc; (try subst hc); (try simp only); omega
 refine wp_decl [.q, .q, .q, .so 0] [.agg #[.bool (sg z), .int .u64 (l0 z : Int), .int .u64 (l1 z : Int), .int .u64 (l2 z : Int), .int .u64 (l3 z : Int)], .agg #[.bool (sg 1), .int .u64 (l0 1 : Int), .int .u64 (l1 1 : Int), .int .u64 (l2 1 : Int), .int .u64 (l3 1 : Int)], .agg #[.bool (sg z), .int .u64 (l0 z : Int), .int .u64 (l1 z : Int), .int .u64 (l2 z : Int), .int .u64 (l3 z : Int), .bool (sg 1), .int .u64 (l0 1 : Int), .int .u64 (l1 1 : Int), .int .u64 (l2 1 : Int), .int .u64 (l3 1 : Int)], undef] (fun _ => (.cells #[.bool false, .int .u64 0, .int .u64 0, .int .u64 0, .int .u64 0] 25 (0, 0))) (fun _ => (.cells #[.bool (sg z), .int .u64 (l0 z : Int), .int .u64 (l1 z : Int), .int .u64 (l2 z : Int), .int .u64 (l3 z : Int), .bool (sg 1), .int .u64 (l0 1 : Int), .int .u64 (l1 1 : Int), .int .u64 (l2 1 : Int), .int .u64 (l3 1 : Int)] 40 (0, 0))) (fun _ => g0 + 1) (by kernel_rfl) (by kernel_rfl) (by kernel_rfl) rfl rfl ltW0 (by intro c c' h1 h2 _; simp at h1 h2; omega) ?_ ?_
 · refine ⟨?_, ?_, ?_, ?_, trivial⟩
   · refine op_q ?uvn2 ?h1n2 ?h2n2 ?h3n2
     case h1n2 => exact rfl
     case uvn2 => exact (.agg #[.bool (sg z), .int .u64 (l0 z : Int), .int .u64 (l1 z : Int), .int .u64 (l2 z : Int), .int .u64 (l3 z : Int)])
     case h2n2 => exact rfl
     intro w' hw'
     have P1 := P1.same hw' (by intro c hc; simp at hc; (try subst hc); (try simp only); omega)
     have xP1 := five_cells P1
     go_simp
   · refine op_q ?uvn3 ?h1n3 ?h2n3 ?h3n3
     case h1n3 => exact rfl
     case uvn3 => exact (.agg #[.bool (sg 1), .int .u64 (l0 1 : Int), .int .u64 (l1 1 : Int), .int .u64 (l2 1 : Int), .int .u64 (l3 1 : Int)])
     case h2n3 => exact rfl
     intro w' hw'
     go_simp
     exact kO.out w'
   · refine op_q ?uvn4 ?h1n4 ?h2n4 ?h3n4
     case h1n4 => exact rfl
     case uvn4 => exact (.agg #[.bool (sg z), .int .u64 (l0 z : Int), .int .u64 (l1 z : Int), .int .u64 (l2 z : Int), .int .u64 (l3 z : Int), .bool (sg 1), .int .u64 (l0 1 : Int), .int .u64 (l1 1 : Int), .int .u64 (l2 1 : Int), .int .u64 (l3 1 : Int)])
     case h2n4 => exact rfl
     intro w' hw'
     go_simp
   · refine op_so (c := 0) (T := ?uTn5) (p := ?upn5) (x := ?uxn5) ?ugn5 ?ufn5 ?uvn5 ?h1n5 ?h2n5 ?h3n5 ?h4n5 ?h5n5 ?h6n5 ?h7n5
     case h1n5 => exact rfl
     case h2n5 => exact rfl
     case ufn5 => exact (.cells #[.bool (sg z), .int .u64 (l0 z : Int), .int .u64 (l1 z : Int), .int .u64 (l2 z : Int), .int .u64 (l3 z : Int), .bool (sg 1), .int .u64 (l0 1 : Int), .int .u64 (l1 1 : Int), .int .u64 (l2 1 : Int), .int .u64 (l3 1 : Int)] 40 (0, 0))
     case ugn5 => exact g0 + 1
     case uvn5 => exact (.agg #[.bool (sg z), .int .u64 (l0 z : Int), .int .u64 (l1 z : Int), .int .u64 (l2 z : Int), .int .u64 (l3 z : Int), .bool (sg 1), .int .u64 (l0 1 : Int), .int .u64 (l1 1 : Int), .int .u64 (l2 1 : Int), .int .u64 (l3 1 : Int)])
     case h3n5 => exact rfl
     case h4n5 => exact rfl
     case h5n5 => go_simp; rfl
     case h6n5 => go_simp
     intro ρ w' hp hx hz
     exact store_ratio rfl hp hx (hz.trans P2)
 · intro G W1 hI
   have hS := hI.same
   have P1 := P1.same hS (by intro c hc; simp at hc; (try subst hc); (try simp only); omega)
   have hso : ∀ c, Tag.so c ∈ [.q, .q, .q, .so 0] → w.heap.size ≤ (fun _ => g0 + 1) c := by intro c hc; simp at hc; (try subst hc); (try simp only); omega
   have EE := hide (hS.ext' EE.out hso)
   have P2 : Box10 W1 (g0 + 1) (sg z) (l0 z) (l1 z) (l2 z) (l3 z) (sg 1) (l0 1) (l1 1) (l2 1) (l3 1) := hI.olds' 3 (List.mem_range.2 (show 3 < 4 by decide)) 0 rfl
   clear hI hS
   simp only [putAll, slotV, ptrTo, Nat.zero_add, Nat.reduceAdd]
   go_wp2_with fail
   obtain ⟨xP20, xP21, xP22, xP23, xP24, xP25, xP26, xP27, xP28, xP29, xP2f0, xP2f1, xP2f2, xP2f3, xP2f4, xP2f5, xP2f6, xP2f7, xP2f8, xP2f9⟩ := ten_cells P2
   exact bodyPost_ret (v := .agg #[.bool (sg z), .int .u64 (l0 z : Int), .int .u64 (l1 z : Int), .int .u64 (l2 z : Int), .int .u64 (l3 z : Int), .bool (sg 1), .int .u64 (l0 1 : Int), .int .u64 (l1 1 : Int), .int .u64 (l2 1 : Int), .int .u64 (l3 1 : Int)]) (by simp [results, Try.results91, go_sem, xP20, xP21, xP22, xP23, xP24, xP25, xP26, xP27, xP28, xP29]) rfl ⟨rfl, EE.out⟩
set_option maxRecDepth 100000 in
set_option maxHeartbeats 8000000 in
theorem s_negative {n d m : Int} (hn : F256 n) (e : -n = m) (w : World) : Calls Try.prog 75 #[.agg #[.bool (sg n), .int .u64 (l0 n : Int), .int .u64 (l1 n : Int), .int .u64 (l2 n : Int), .int .u64 (l3 n : Int), .bool (sg d), .int .u64 (l0 d : Int), .int .u64 (l1 d : Int), .int .u64 (l2 d : Int), .int .u64 (l3 d : Int)]] w (Ret (.agg #[.bool (sg m), .int .u64 (l0 m : Int), .int .u64 (l1 m : Int), .int .u64 (l2 m : Int), .int .u64 (l3 m : Int), .bool (sg d), .int .u64 (l0 d : Int), .int .u64 (l1 d : Int), .int .u64 (l2 d : Int), .int .u64 (l3 d : Int)]) w) := by
 have kN : Hid (∀ w, Calls Try.prog 65 #[.agg #[.bool (sg n), .int .u64 (l0 n : Int), .int .u64 (l1 n : Int), .int .u64 (l2 n : Int), .int .u64 (l3 n : Int)]] w (Ret (.agg #[.bool (sg m), .int .u64 (l0 m : Int), .int .u64 (l1 m : Int), .int .u64 (l2 m : Int), .int .u64 (l3 m : Int)]) w)) := fun w => c_neg hn e w
 clear e
 obtain ⟨W0, hW0⟩ : ∃ W0, W0 = ((w.alloc (.cells #[.bool (sg n), .int .u64 (l0 n : Int), .int .u64 (l1 n : Int), .int .u64 (l2 n : Int), .int .u64 (l3 n : Int), .bool (sg d), .int .u64 (l0 d : Int), .int .u64 (l1 d : Int), .int .u64 (l2 d : Int), .int .u64 (l3 d : Int)] 40)).alloc (.cells #[.bool false, .int .u64 0, .int .u64 0, .int .u64 0, .int .u64 0, .bool false, .int .u64 0, .int .u64 0, .int .u64 0, .int .u64 0] 40)) := ⟨_, rfl⟩
 have H2 := two_blocks w (.cells #[.bool (sg n), .int .u64 (l0 n : Int), .int .u64 (l1 n : Int), .int .u64 (l2 n : Int), .int .u64 (l3 n : Int), .bool (sg d), .int .u64 (l0 d : Int), .int .u64 (l1 d : Int), .int .u64 (l2 d : Int), .int .u64 (l3 d : Int)] 40) (.cells #[.bool false, .int .u64 0, .int .u64 0, .int .u64 0, .int .u64 0, .bool false, .int .u64 0, .int .u64 0, .int .u64 0, .int .u64 0] 40)
 have EE0 : Ext w W0 := by rw [hW0]; exact ((ext_alloc _ _).trans (ext_alloc _ _))
 rw [← hW0] at H2
 have EE := hide EE0
 have HW := hide hW0
 obtain ⟨P1, P2⟩ : Box10 W0 (w.heap.size) (sg n) (l0 n) (l1 n) (l2 n) (l3 n) (sg d) (l0 d) (l1 d) (l2 d) (l3 d) ∧ Box10 W0 ((w.heap.size + 1)) false 0 0 0 0 false 0 0 0 0 := H2
 clear hW0 EE0
 go_enter Try.func75, Try.ntmps75
 go_upto_region 1 with fail
 rw [← HW.out]
 clear HW
 have hg0 : w.heap.size ≤ w.heap.size := Nat.le_refl _
 obtain ⟨g0, hg⟩ : ∃ g, w.heap.size = g := ⟨_, rfl⟩
 rw [hg] at P1 P2 ⊢
 replace hg0 : w.heap.size ≤ g0 := Nat.le_of_eq hg
 clear hg
 have lbP1 := P1.lt
 have lbP2 := P2.lt
 have ltW0 : ∀ c, Tag.so c ∈ [.q, .q, .q, .q, .q, .q, .so 0] → (fun _ => g0 + 1) c < W0.heap.size := by intro c hc; simp at hc; (try subst hc); (try simp only); omega
 refine wp_decl [.q, .q, .q, .q, .q, .q, .so 0] [.pointer (some ⟨g0, 0, none⟩), .agg #[.bool (sg n), .int .u64 (l0 n : Int), .int .u64 (l1 n : Int), .int .u64 (l2 n : Int), .int .u64 (l3 n : Int)], .agg #[.bool (sg m), .int .u64 (l0 m : Int), .int .u64 (l1 m : Int), .int .u64 (l2 m : Int), .int .u64 (l3 m : Int)], .pointer (some ⟨g0, 5, none⟩), .agg #[.bool (sg d), .int .u64 (l0 d : Int), .int .u64 (l1 d : Int), .int .u64 (l2 d : Int), .int .u64 (l3 d : Int)], .agg #[.bool (sg m), .int .u64 (l0 m : Int), .int .u64 (l1 m : Int), .int .u64 (l2 m : Int), .int .u64 (l3 m : Int), .bool (sg d), .int .u64 (l0 d : Int), .int .u64 (l1 d : Int), .int .u64 (l2 d : Int), .int .u64 (l3 d : Int)], undef] (fun _ => (.cells #[.bool false, .int .u64 0, .int .u64 0, .int .u64 0, .int .u64 0] 25 (0, 0))) (fun _ => (.cells #[.bool (sg m), .int .u64 (l0 m : Int), .int .u64 (l1 m : Int), .int .u64 (l2 m : Int), .int .u64 (l3 m : Int), .bool (sg d), .int .u64 (l0 d : Int), .int .u64 (l1 d : Int), .int .u64 (l2 d : Int), .int .u64 (l3 d : Int)] 40 (0, 0))) (fun _ => g0 + 1) (by kernel_rfl) (by kernel_rfl) (by kernel_rfl) rfl rfl ltW0 (by intro c c' h1 h2 _; simp at h1 h2; omega) ?_ ?_
 · refine ⟨?_, ?_, ?_, ?_, ?_, ?_, ?_, trivial⟩
   · refine op_q ?uvn7 ?h1n7 ?h2n7 ?h3n7
     case h1n7 => exact rfl
     case uvn7 => exact (.pointer (some ⟨g0, 0, none⟩))
     case h2n7 => exact rfl
     intro w' hw'
     go_simp
   · refine op_q ?uvn8 ?h1n8 ?h2n8 ?h3n8
     case h1n8 => exact rfl
     case uvn8 => exact (.agg #[.bool (sg n), .int .u64 (l0 n : Int), .int .u64 (l1 n : Int), .int .u64 (l2 n : Int), .int .u64 (l3 n : Int)])
     case h2n8 => exact rfl
     intro w' hw'
     have P1 := P1.same hw' (by intro c hc; simp at hc; (try subst hc); (try simp only); omega)
     have xP1 := ten_cells P1
     go_simp
   · refine op_q ?uvn9 ?h1n9 ?h2n9 ?h3n9
     case h1n9 => exact rfl
     case uvn9 => exact (.agg #[.bool (sg m), .int .u64 (l0 m : Int), .int .u64 (l1 m : Int), .int .u64 (l2 m : Int), .int .u64 (l3 m : Int)])
     case h2n9 => exact rfl
     intro w' hw'
     go_simp
     exact kN.out w'
   · refine op_q ?uvn10 ?h1n10 ?h2n10 ?h3n10
     case h1n10 => exact rfl
     case uvn10 => exact (.pointer (some ⟨g0, 5, none⟩))
     case h2n10 => exact rfl
     intro w' hw'
     go_simp
   · refine op_q ?uvn11 ?h1n11 ?h2n11 ?h3n11
     case h1n11 => exact rfl
     case uvn11 => exact (.agg #[.bool (sg d), .int .u64 (l0 d : Int), .int .u64 (l1 d : Int), .int .u64 (l2 d : Int), .int .u64 (l3 d : Int)])
     case h2n11 => exact rfl
     intro w' hw'
     have P1 := P1.same hw' (by intro c hc; simp at hc; (try subst hc); (try simp only); omega)
     have xP1 := ten_cells P1
     go_simp
   · refine op_q ?uvn12 ?h1n12 ?h2n12 ?h3n12
     case h1n12 => exact rfl
     case uvn12 => exact (.agg #[.bool (sg m), .int .u64 (l0 m : Int), .int .u64 (l1 m : Int), .int .u64 (l2 m : Int), .int .u64 (l3 m : Int), .bool (sg d), .int .u64 (l0 d : Int), .int .u64 (l1 d : Int), .int .u64 (l2 d : Int), .int .u64 (l3 d : Int)])
     case h2n12 => exact rfl
     intro w' hw'
     go_simp
   · refine op_so (c := 0) (T := ?uTn13) (p := ?upn13) (x := ?uxn13) ?ugn13 ?ufn13 ?uvn13 ?h1n13 ?h2n13 ?h3n13 ?h4n13 ?h5n13 ?h6n13 ?h7n13
     case h1n13 => exact rfl
     case h2n13 => exact rfl
     case ufn13 => exact (.cells #[.bool (sg m), .int .u64 (l0 m : Int), .int .u64 (l1 m : Int), .int .u64 (l2 m : Int), .int .u64 (l3 m : Int), .bool (sg d), .int .u64 (l0 d : Int), .int .u64 (l1 d : Int), .int .u64 (l2 d : Int), .int .u64 (l3 d : Int)] 40 (0, 0))
     case ugn13 => exact g0 + 1
     case uvn13 => exact (.agg #[.bool (sg m), .int .u64 (l0 m : Int), .int .u64 (l1 m : Int), .int .u64 (l2 m : Int), .int .u64 (l3 m : Int), .bool (sg d), .int .u64 (l0 d : Int), .int .u64 (l1 d : Int), .int .u64 (l2 d : Int), .int .u64 (l3 d : Int)])
     case h3n13 => exact rfl
     case h4n13 => exact rfl
     case h5n13 => go_simp; rfl
     case h6n13 => go_simp
     intro ρ w' hp hx hz
     exact store_ratio rfl hp hx (hz.trans P2)
 · intro G W1 hI
   have hS := hI.same
   have P1 := P1.same hS (by intro c hc; simp at hc; (try subst hc); (try simp only); omega)
   have hso : ∀ c, Tag.so c ∈ [.q, .q, .q, .q, .q, .q, .so 0] → w.heap.size ≤ (fun _ => g0 + 1) c := by intro c hc; simp at hc; (try subst hc); (try simp only); omega
   have EE := hide (hS.ext' EE.out hso)
   have P2 : Box10 W1 (g0 + 1) (sg m) (l0 m) (l1 m) (l2 m) (l3 m) (sg d) (l0 d) (l1 d) (l2 d) (l3 d) := hI.olds' 6 (List.mem_range.2 (show 6 < 7 by decide)) 0 rfl
   clear hI hS
   simp only [putAll, slotV, ptrTo, Nat.zero_add, Nat.reduceAdd]
   go_wp2_with fail
   obtain ⟨xP20, xP21, xP22, xP23, xP24, xP25, xP26, xP27, xP28, xP29, xP2f0, xP2f1, xP2f2, xP2f3, xP2f4, xP2f5, xP2f6, xP2f7, xP2f8, xP2f9⟩ := ten_cells P2
   exact bodyPost_ret (v := .agg #[.bool (sg m), .int .u64 (l0 m : Int), .int .u64 (l1 m : Int), .int .u64 (l2 m : Int), .int .u64 (l3 m : Int), .bool (sg d), .int .u64 (l0 d : Int), .int .u64 (l1 d : Int), .int .u64 (l2 d : Int), .int .u64 (l3 d : Int)]) (by simp [results, Try.results75, go_sem, xP20, xP21, xP22, xP23, xP24, xP25, xP26, xP27, xP28, xP29]) rfl ⟨rfl, EE.out⟩
end
section
open Go Go.RowKit Go.Sort
attribute [local go_sem] qUpon putAll slotV
theorem sign_pos {z : Int} (h : 0 < z) : z.sign = 1 := Int.sign_eq_one_of_pos h
theorem sign_neg {z : Int} (h : z < 0) : z.sign = -1 := Int.sign_eq_neg_one_of_neg h
theorem F256.abs {z : Int} (h : F256 z) : F256 (z.natAbs : Int) := by unfold F256 at *; simpa using h
theorem F256.neg {z : Int} (h : F256 z) : F256 (-z) := by unfold F256 at *; simpa using h
theorem some_sign (z : Int) : ∃ k : Int, z.sign = k ∧ (k < 0 ↔ z < 0) ∧ (0 < k ↔ 0 < z) ∧ (k = 0 ↔ z = 0) := by
 refine ⟨_, rfl, ?_⟩
 rcases Int.lt_trichotomy z 0 with h | h | h
 · rw [sign_neg h]; omega
 · subst h; simp
 · rw [sign_pos h]; omega
theorem neWW {x y : Int} (hx : F256 x) (hy : F256 y) (w : World) : (binOp .neq 25 (.agg #[.bool (sg x), .int .u64 (l0 x : Int), .int .u64 (l1 x : Int), .int .u64 (l2 x : Int), .int .u64 (l3 x : Int)]) (.agg #[.bool (sg y), .int .u64 (l0 y : Int), .int .u64 (l1 y : Int), .int .u64 (l2 y : Int), .int .u64 (l3 y : Int)])).run Try.prog w = .ok (.bool (decide (x ≠ y))) w := by
 rw [neq5]
 have e := same_isC (isC_of hx) (isC_of hy)
 unfold same5 at e
 rw [e]; simp
end
section
open Go Go.RowKit Go.Sort
attribute [local go_sem] qUpon putAll slotV
theorem f256_of {z : Int} (h : z.natAbs < 170141183460469231731687303715884105728) : F256 z := F256.mk h
set_option maxRecDepth 100000 in
set_option maxHeartbeats 8000000 in
theorem s_bp : ∀ (k : Nat) (a b c d n m : Int), (b + d).toNat < k → 0 < a → 0 < b → 0 < d → a * d ≤ c * b → a.natAbs < 170141183460469231731687303715884105728 → b.natAbs < 170141183460469231731687303715884105728 → c.natAbs < 170141183460469231731687303715884105728 → d.natAbs < 170141183460469231731687303715884105728 → Best a b c d n m → ∀ w : World, Calls Try.prog 74 #[.agg #[.bool (sg a), .int .u64 (l0 a : Int), .int .u64 (l1 a : Int), .int .u64 (l2 a : Int), .int .u64 (l3 a : Int), .bool (sg b), .int .u64 (l0 b : Int), .int .u64 (l1 b : Int), .int .u64 (l2 b : Int), .int .u64 (l3 b : Int)], .agg #[.bool (sg c), .int .u64 (l0 c : Int), .int .u64 (l1 c : Int), .int .u64 (l2 c : Int), .int .u64 (l3 c : Int), .bool (sg d), .int .u64 (l0 d : Int), .int .u64 (l1 d : Int), .int .u64 (l2 d : Int), .int .u64 (l3 d : Int)]] w (Ret (.agg #[.bool (sg n), .int .u64 (l0 n : Int), .int .u64 (l1 n : Int), .int .u64 (l2 n : Int), .int .u64 (l3 n : Int), .bool (sg m), .int .u64 (l0 m : Int), .int .u64 (l1 m : Int), .int .u64 (l2 m : Int), .int .u64 (l3 m : Int)]) w)
 | 0, _, _, _, _, _, _, hk, _, _, _, _, _, _, _, _, _, _ => by omega
 | k + 1, a, b, c, d, n, m, hk, ha, hb, hd, hle, sa, sb, sc, sd, B, w => by
   obtain ⟨q, hq⟩ : ∃ q, a / b = q := ⟨_, rfl⟩
   obtain ⟨r, hr⟩ : ∃ q, a % b = q := ⟨_, rfl⟩
   obtain ⟨p, hp⟩ : ∃ q, c / d = q := ⟨_, rfl⟩
   obtain ⟨t, ht⟩ : ∃ q, c % d = q := ⟨_, rfl⟩
   have q0 : 0 ≤ q := by rw [← hq]; exact Int.ediv_nonneg (by omega) (by omega)
   have qa : q ≤ a := by rw [← hq]; exact Int.ediv_le_self _ (by omega)
   have r0 : 0 ≤ r := by rw [← hr]; exact Int.emod_nonneg _ (by omega)
   have rb : r < b := by rw [← hr]; exact Int.emod_lt_of_pos _ hb
   have t0 : 0 ≤ t := by rw [← ht]; exact Int.emod_nonneg _ (by omega)
   have td : t < d := by rw [← ht]; exact Int.emod_lt_of_pos _ hd
   have pc : p.natAbs ≤ c.natAbs := by rw [← hp]; exact Int.natAbs_ediv_le_natAbs _ _
   have fa := f256_of sa
   have fb := f256_of sb
   have fc := f256_of sc
   have fd := f256_of sd
   have fq : F256 q := f256_of (by omega)
   have fr : F256 r := f256_of (by omega)
   have fp : F256 p := f256_of (by omega)
   have ft : F256 t := f256_of (by omega)
   have BS := (B.small hb hd hle).1
   have n0 := B.pos ha hb
   have m0 := B.1
   have kD : Hid (∀ w, Calls Try.prog 72 #[.agg #[.bool (sg a), .int .u64 (l0 a : Int), .int .u64 (l1 a : Int), .int .u64 (l2 a : Int), .int .u64 (l3 a : Int)], .agg #[.bool (sg b), .int .u64 (l0 b : Int), .int .u64 (l1 b : Int), .int .u64 (l2 b : Int), .int .u64 (l3 b : Int)]] w (Ret (.tuple #[.agg #[.bool (sg q), .int .u64 (l0 q : Int), .int .u64 (l1 q : Int), .int .u64 (l2 q : Int), .int .u64 (l3 q : Int)], .agg #[.bool (sg r), .int .u64 (l0 r : Int), .int .u64 (l1 r : Int), .int .u64 (l2 r : Int), .int .u64 (l3 r : Int)], .bool true]) w)) := fun w => c_div fa fb (by omega) hq hr w
   by_cases h0 : r = 0
   · obtain ⟨en, em⟩ := Best.unique hb hd B (best_whole ha hb hd hle (by rw [hr]; exact h0))
     rw [hq] at en
     subst en em
     replace kD := kD
     have kS : Hid (∀ w, Calls Try.prog 70 #[.agg #[.bool (sg r), .int .u64 (l0 r : Int), .int .u64 (l1 r : Int), .int .u64 (l2 r : Int), .int .u64 (l3 r : Int)]] w (Ret (.int .i64 0) w)) := fun w => c_sign fr (by rw [h0]; simp) w
     have kI : Hid (∀ w, Calls Try.prog 91 #[.agg #[.bool (sg n), .int .u64 (l0 n : Int), .int .u64 (l1 n : Int), .int .u64 (l2 n : Int), .int .u64 (l3 n : Int)]] w (Ret (.agg #[.bool (sg n), .int .u64 (l0 n : Int), .int .u64 (l1 n : Int), .int .u64 (l2 n : Int), .int .u64 (l3 n : Int), .bool (sg 1), .int .u64 (l0 1 : Int), .int .u64 (l1 1 : Int), .int .u64 (l2 1 : Int), .int .u64 (l3 1 : Int)]) w)) := fun w => s_integer fq w
     clear hq hr hp ht q0 qa r0 rb t0 td pc fa fb fc fd fq fr fp ft BS n0 m0 hk ha hb hd hle sa sb sc sd B h0
     obtain ⟨W0, hW0⟩ : ∃ W0, W0 = (((w.alloc (.cells #[.bool (sg a), .int .u64 (l0 a : Int), .int .u64 (l1 a : Int), .int .u64 (l2 a : Int), .int .u64 (l3 a : Int), .bool (sg b), .int .u64 (l0 b : Int), .int .u64 (l1 b : Int), .int .u64 (l2 b : Int), .int .u64 (l3 b : Int)] 40)).alloc (.cells #[.bool (sg c), .int .u64 (l0 c : Int), .int .u64 (l1 c : Int), .int .u64 (l2 c : Int), .int .u64 (l3 c : Int), .bool (sg d), .int .u64 (l0 d : Int), .int .u64 (l1 d : Int), .int .u64 (l2 d : Int), .int .u64 (l3 d : Int)] 40)).alloc (.cells #[.bool false, .int .u64 0, .int .u64 0, .int .u64 0, .int .u64 0, .bool false, .int .u64 0, .int .u64 0, .int .u64 0, .int .u64 0] 40)) := ⟨_, rfl⟩
     have H2 := three_boxes w (.cells #[.bool (sg a), .int .u64 (l0 a : Int), .int .u64 (l1 a : Int), .int .u64 (l2 a : Int), .int .u64 (l3 a : Int), .bool (sg b), .int .u64 (l0 b : Int), .int .u64 (l1 b : Int), .int .u64 (l2 b : Int), .int .u64 (l3 b : Int)] 40) (.cells #[.bool (sg c), .int .u64 (l0 c : Int), .int .u64 (l1 c : Int), .int .u64 (l2 c : Int), .int .u64 (l3 c : Int), .bool (sg d), .int .u64 (l0 d : Int), .int .u64 (l1 d : Int), .int .u64 (l2 d : Int), .int .u64 (l3 d : Int)] 40) (.cells #[.bool false, .int .u64 0, .int .u64 0, .int .u64 0, .int .u64 0, .bool false, .int .u64 0, .int .u64 0, .int .u64 0, .int .u64 0] 40)
     have EE0 : Ext w W0 := by rw [hW0]; exact (((ext_alloc _ _).trans (ext_alloc _ _)).trans (ext_alloc _ _))
     rw [← hW0] at H2
     have EE := hide EE0
     have HW := hide hW0
     obtain ⟨P2, P3, P4⟩ : Box10 W0 (w.heap.size) (sg a) (l0 a) (l1 a) (l2 a) (l3 a) (sg b) (l0 b) (l1 b) (l2 b) (l3 b) ∧ Box10 W0 ((w.heap.size + 1)) (sg c) (l0 c) (l1 c) (l2 c) (l3 c) (sg d) (l0 d) (l1 d) (l2 d) (l3 d) ∧ Box10 W0 ((w.heap.size + 1 + 1)) false 0 0 0 0 false 0 0 0 0 := H2
     clear hW0 EE0
     go_enter Try.func74, Try.ntmps74
     go_upto_region 1 with fail
     rw [← HW.out]
     clear HW
     have hg0 : w.heap.size ≤ w.heap.size := Nat.le_refl _
     obtain ⟨g0, hg⟩ : ∃ g, w.heap.size = g := ⟨_, rfl⟩
     rw [hg] at P2 P3 P4 ⊢
     replace hg0 : w.heap.size ≤ g0 := Nat.le_of_eq hg
     clear hg
     obtain ⟨xP20, xP21, xP22, xP23, xP24, xP25, xP26, xP27, xP28, xP29, -⟩ := ten_cells P2
     go_upto_region 2 with (go_at_call 72; (with_reducible refine (kD.out _).mono ?_); rintro e w1 ⟨rfl, hE⟩; clear xP20 xP21 xP22 xP23 xP24 xP25 xP26 xP27 xP28 xP29; have P2 := P2.ext hE; have P3 := P3.ext hE; have P4 := P4.ext hE; have EE := hide (EE.out.trans hE); clear hE; obtain ⟨xP20, xP21, xP22, xP23, xP24, xP25, xP26, xP27, xP28, xP29, -⟩ := ten_cells P2)
     clear xP20 xP21 xP22 xP23 xP24 xP25 xP26 xP27 xP28 xP29
     have H2 := two_blocks w1 (.cells #[.bool (sg n), .int .u64 (l0 n : Int), .int .u64 (l1 n : Int), .int .u64 (l2 n : Int), .int .u64 (l3 n : Int)] 25) (.cells #[.bool (sg r), .int .u64 (l0 r : Int), .int .u64 (l1 r : Int), .int .u64 (l2 r : Int), .int .u64 (l3 r : Int)] 25)
     have lP2 := P2.lt
     have lP3 := P3.lt
     have lP4 := P4.lt
     have hE := ((ext_alloc w1 (.cells #[.bool (sg n), .int .u64 (l0 n : Int), .int .u64 (l1 n : Int), .int .u64 (l2 n : Int), .int .u64 (l3 n : Int)] 25)).trans (ext_alloc _ (.cells #[.bool (sg r), .int .u64 (l0 r : Int), .int .u64 (l1 r : Int), .int .u64 (l2 r : Int), .int .u64 (l3 r : Int)] 25)))
     have P2 := P2.ext hE
     have P3 := P3.ext hE
     have P4 := P4.ext hE
     have EE := hide (EE.out.trans hE)
     clear hE
     obtain ⟨W2, hW⟩ : ∃ W, W = ((w1.alloc (.cells #[.bool (sg n), .int .u64 (l0 n : Int), .int .u64 (l1 n : Int), .int .u64 (l2 n : Int), .int .u64 (l3 n : Int)] 25)).alloc (.cells #[.bool (sg r), .int .u64 (l0 r : Int), .int .u64 (l1 r : Int), .int .u64 (l2 r : Int), .int .u64 (l3 r : Int)] 25)) := ⟨_, rfl⟩
     rw [← hW] at H2 EE P2 P3 P4 ⊢
     obtain ⟨g3, hg⟩ : ∃ g, w1.heap.size = g := ⟨_, rfl⟩
     rw [hg] at H2 lP2 lP3 lP4 ⊢
     obtain ⟨P5, P6⟩ : Box W2 g3 (sg n) (l0 n) (l1 n) (l2 n) (l3 n) ∧ Box W2 (g3 + 1) (sg r) (l0 r) (l1 r) (l2 r) (l3 r) := H2
     clear hW hg
     have ngP2P5 : g0 ≠ g3 := by omega
     have ngP2P6 : g0 ≠ g3 + 1 := by omega
     have ngP3P5 : g0 + 1 ≠ g3 := by omega
     have ngP3P6 : g0 + 1 ≠ g3 + 1 := by omega
     have ngP4P5 : g0 + 1 + 1 ≠ g3 := by omega
     have ngP4P6 : g0 + 1 + 1 ≠ g3 + 1 := by omega
     obtain ⟨xP60, xP61, xP62, xP63, xP64, -⟩ := five_cells P6
     go_upto_region 3 with (go_at_call 70; (with_reducible refine (kS.out _).mono ?_); rintro e w4 ⟨rfl, hE⟩; clear xP60 xP61 xP62 xP63 xP64; have P2 := P2.ext hE; have P3 := P3.ext hE; have P4 := P4.ext hE; have P5 := P5.ext hE; have P6 := P6.ext hE; have EE := hide (EE.out.trans hE); clear hE; obtain ⟨xP60, xP61, xP62, xP63, xP64, -⟩ := five_cells P6)
     clear xP60 xP61 xP62 xP63 xP64
     obtain ⟨xP50, xP51, xP52, xP53, xP54, -⟩ := five_cells P5; obtain ⟨xP40, xP41, xP42, xP43, xP44, xP45, xP46, xP47, xP48, xP49, xP4f0, xP4f1, xP4f2, xP4f3, xP4f4, xP4f5, xP4f6, xP4f7, xP4f8, xP4f9⟩ := ten_cells P4
     go_wp2_with (first
       | (go_at_call 91; (with_reducible refine (kI.out _).mono ?_); rintro e w5 ⟨rfl, hE⟩; clear xP50 xP51 xP52 xP53 xP54; clear xP40 xP41 xP42 xP43 xP44 xP45 xP46 xP47 xP48 xP49 xP4f0 xP4f1 xP4f2 xP4f3 xP4f4 xP4f5 xP4f6 xP4f7 xP4f8 xP4f9; have P2 := P2.ext hE; have P3 := P3.ext hE; have P4 := P4.ext hE; have P5 := P5.ext hE; have P6 := P6.ext hE; have EE := hide (EE.out.trans hE); clear hE; obtain ⟨xP50, xP51, xP52, xP53, xP54, -⟩ := five_cells P5; obtain ⟨xP40, xP41, xP42, xP43, xP44, xP45, xP46, xP47, xP48, xP49, xP4f0, xP4f1, xP4f2, xP4f3, xP4f4, xP4f5, xP4f6, xP4f7, xP4f8, xP4f9⟩ := ten_cells P4))
     exact bodyPost_ret (v := .agg #[.bool (sg n), .int .u64 (l0 n : Int), .int .u64 (l1 n : Int), .int .u64 (l2 n : Int), .int .u64 (l3 n : Int), .bool (sg 1), .int .u64 (l0 1 : Int), .int .u64 (l1 1 : Int), .int .u64 (l2 1 : Int), .int .u64 (l3 1 : Int)]) (by simp [results, Try.results74, go_sem, xP40, xP41, xP42, xP43, xP44, xP45, xP46, xP47, xP48, xP49]) rfl ⟨rfl, ext_ten EE.out (by omega) _ _ _ _ _ _ _ _ _ _⟩
   · have hr0 : a % b ≠ 0 := by rw [hr]; exact h0
     have kS : Hid (∀ w, Calls Try.prog 70 #[.agg #[.bool (sg r), .int .u64 (l0 r : Int), .int .u64 (l1 r : Int), .int .u64 (l2 r : Int), .int .u64 (l3 r : Int)]] w (Ret (.int .i64 1) w)) := fun w => c_sign fr (Int.sign_eq_one_of_pos (by omega)) w
     have kE : Hid (∀ w, Calls Try.prog 72 #[.agg #[.bool (sg c), .int .u64 (l0 c : Int), .int .u64 (l1 c : Int), .int .u64 (l2 c : Int), .int .u64 (l3 c : Int)], .agg #[.bool (sg d), .int .u64 (l0 d : Int), .int .u64 (l1 d : Int), .int .u64 (l2 d : Int), .int .u64 (l3 d : Int)]] w (Ret (.tuple #[.agg #[.bool (sg p), .int .u64 (l0 p : Int), .int .u64 (l1 p : Int), .int .u64 (l2 p : Int), .int .u64 (l3 p : Int)], .agg #[.bool (sg t), .int .u64 (l0 t : Int), .int .u64 (l1 t : Int), .int .u64 (l2 t : Int), .int .u64 (l3 t : Int)], .bool true]) w)) := fun w => c_div fc fd (by omega) hp ht w
     by_cases h1 : q = p
     · have hqp : a / b = c / d := by rw [hq, hp]; exact h1
       obtain ⟨z1, z2, t1, z3, hl⟩ := rest_ways ha hb hd hle hr0 hqp
       rw [hr, ht] at hl
       rw [ht] at t1
       obtain ⟨n', m', B'⟩ := best_some (a := d) (b := t) (c := b) (d := r) t1 (by omega) hl
       have BS' := (B'.small t1 (by omega) hl).1
       have n'0 := B'.pos hd t1
       have m'0 := B'.1
       obtain ⟨en, em⟩ := Best.unique hb hd B (best_rec ha hb hd hr0 (by rw [ht]; exact t1) hqp (by rw [hr, ht]; exact B'))
       rw [hq] at en
       subst em h1
       obtain ⟨v, hv⟩ : ∃ v, q * m = v := ⟨_, rfl⟩
       rw [hv] at en
       have v0 : 0 ≤ v := by rw [← hv]; exact Int.mul_nonneg q0 (by omega)
       have fv : F256 v := f256_of (by omega)
       have fm : F256 m := f256_of (by omega)
       have fm' : F256 m' := f256_of (by omega)
       have fn : F256 n := f256_of (by omega)
       have kR : Hid (∀ w, Calls Try.prog 74 #[.agg #[.bool (sg d), .int .u64 (l0 d : Int), .int .u64 (l1 d : Int), .int .u64 (l2 d : Int), .int .u64 (l3 d : Int), .bool (sg t), .int .u64 (l0 t : Int), .int .u64 (l1 t : Int), .int .u64 (l2 t : Int), .int .u64 (l3 t : Int)], .agg #[.bool (sg b), .int .u64 (l0 b : Int), .int .u64 (l1 b : Int), .int .u64 (l2 b : Int), .int .u64 (l3 b : Int), .bool (sg r), .int .u64 (l0 r : Int), .int .u64 (l1 r : Int), .int .u64 (l2 r : Int), .int .u64 (l3 r : Int)]] w (Ret (.agg #[.bool (sg m), .int .u64 (l0 m : Int), .int .u64 (l1 m : Int), .int .u64 (l2 m : Int), .int .u64 (l3 m : Int), .bool (sg m'), .int .u64 (l0 m' : Int), .int .u64 (l1 m' : Int), .int .u64 (l2 m' : Int), .int .u64 (l3 m' : Int)]) w)) := fun w => s_bp k d t b r m m' (by omega) hd t1 (by omega) hl sd (by omega) sb (by omega) B' w
       have kM : Hid (∀ w, Calls Try.prog 81 #[.agg #[.bool (sg q), .int .u64 (l0 q : Int), .int .u64 (l1 q : Int), .int .u64 (l2 q : Int), .int .u64 (l3 q : Int)], .agg #[.bool (sg m), .int .u64 (l0 m : Int), .int .u64 (l1 m : Int), .int .u64 (l2 m : Int), .int .u64 (l3 m : Int)]] w (Ret (.tuple #[.agg #[.bool (sg v), .int .u64 (l0 v : Int), .int .u64 (l1 v : Int), .int .u64 (l2 v : Int), .int .u64 (l3 v : Int)], .bool true]) w)) := fun w => c_mul fq fm hv fv w
       have kA : Hid (∀ w, Calls Try.prog 40 #[.agg #[.bool (sg v), .int .u64 (l0 v : Int), .int .u64 (l1 v : Int), .int .u64 (l2 v : Int), .int .u64 (l3 v : Int)], .agg #[.bool (sg m'), .int .u64 (l0 m' : Int), .int .u64 (l1 m' : Int), .int .u64 (l2 m' : Int), .int .u64 (l3 m' : Int)]] w (Ret (.tuple #[.agg #[.bool (sg n), .int .u64 (l0 n : Int), .int .u64 (l1 n : Int), .int .u64 (l2 n : Int), .int .u64 (l3 n : Int)], .bool true]) w)) := fun w => c_add fv fm' en.symm fn w
       have qe := neWs q
       clear hq hr hp ht q0 qa r0 rb t0 td pc fa fb fc fd fq fr fp ft BS n0 m0 hk ha hb hd hle sa sb sc sd B z1 z2 z3 hr0 h0 hqp t1 hl B' BS' n'0 m'0 en hv v0 fv fm fm' fn
       obtain ⟨W0, hW0⟩ : ∃ W0, W0 = (((w.alloc (.cells #[.bool (sg a), .int .u64 (l0 a : Int), .int .u64 (l1 a : Int), .int .u64 (l2 a : Int), .int .u64 (l3 a : Int), .bool (sg b), .int .u64 (l0 b : Int), .int .u64 (l1 b : Int), .int .u64 (l2 b : Int), .int .u64 (l3 b : Int)] 40)).alloc (.cells #[.bool (sg c), .int .u64 (l0 c : Int), .int .u64 (l1 c : Int), .int .u64 (l2 c : Int), .int .u64 (l3 c : Int), .bool (sg d), .int .u64 (l0 d : Int), .int .u64 (l1 d : Int), .int .u64 (l2 d : Int), .int .u64 (l3 d : Int)] 40)).alloc (.cells #[.bool false, .int .u64 0, .int .u64 0, .int .u64 0, .int .u64 0, .bool false, .int .u64 0, .int .u64 0, .int .u64 0, .int .u64 0] 40)) := ⟨_, rfl⟩
       have H2 := three_boxes w (.cells #[.bool (sg a), .int .u64 (l0 a : Int), .int .u64 (l1 a : Int), .int .u64 (l2 a : Int), .int .u64 (l3 a : Int), .bool (sg b), .int .u64 (l0 b : Int), .int .u64 (l1 b : Int), .int .u64 (l2 b : Int), .int .u64 (l3 b : Int)] 40) (.cells #[.bool (sg c), .int .u64 (l0 c : Int), .int .u64 (l1 c : Int), .int .u64 (l2 c : Int), .int .u64 (l3 c : Int), .bool (sg d), .int .u64 (l0 d : Int), .int .u64 (l1 d : Int), .int .u64 (l2 d : Int), .int .u64 (l3 d : Int)] 40) (.cells #[.bool false, .int .u64 0, .int .u64 0, .int .u64 0, .int .u64 0, .bool false, .int .u64 0, .int .u64 0, .int .u64 0, .int .u64 0] 40)
       have EE0 : Ext w W0 := by rw [hW0]; exact (((ext_alloc _ _).trans (ext_alloc _ _)).trans (ext_alloc _ _))
       rw [← hW0] at H2
       have EE := hide EE0
       have HW := hide hW0
       obtain ⟨P2, P3, P4⟩ : Box10 W0 (w.heap.size) (sg a) (l0 a) (l1 a) (l2 a) (l3 a) (sg b) (l0 b) (l1 b) (l2 b) (l3 b) ∧ Box10 W0 ((w.heap.size + 1)) (sg c) (l0 c) (l1 c) (l2 c) (l3 c) (sg d) (l0 d) (l1 d) (l2 d) (l3 d) ∧ Box10 W0 ((w.heap.size + 1 + 1)) false 0 0 0 0 false 0 0 0 0 := H2
       clear hW0 EE0
       go_enter Try.func74, Try.ntmps74
       go_upto_region 1 with fail
       rw [← HW.out]
       clear HW
       have hg0 : w.heap.size ≤ w.heap.size := Nat.le_refl _
       obtain ⟨g0, hg⟩ : ∃ g, w.heap.size = g := ⟨_, rfl⟩
       rw [hg] at P2 P3 P4 ⊢
       replace hg0 : w.heap.size ≤ g0 := Nat.le_of_eq hg
       clear hg
       obtain ⟨xP20, xP21, xP22, xP23, xP24, xP25, xP26, xP27, xP28, xP29, -⟩ := ten_cells P2
       go_upto_region 2 with (go_at_call 72; (with_reducible refine (kD.out _).mono ?_); rintro e w1 ⟨rfl, hE⟩; clear xP20 xP21 xP22 xP23 xP24 xP25 xP26 xP27 xP28 xP29; have P2 := P2.ext hE; have P3 := P3.ext hE; have P4 := P4.ext hE; have EE := hide (EE.out.trans hE); clear hE; obtain ⟨xP20, xP21, xP22, xP23, xP24, xP25, xP26, xP27, xP28, xP29, -⟩ := ten_cells P2)
       clear xP20 xP21 xP22 xP23 xP24 xP25 xP26 xP27 xP28 xP29
       have H2 := two_blocks w1 (.cells #[.bool (sg q), .int .u64 (l0 q : Int), .int .u64 (l1 q : Int), .int .u64 (l2 q : Int), .int .u64 (l3 q : Int)] 25) (.cells #[.bool (sg r), .int .u64 (l0 r : Int), .int .u64 (l1 r : Int), .int .u64 (l2 r : Int), .int .u64 (l3 r : Int)] 25)
       have lP2 := P2.lt
       have lP3 := P3.lt
       have lP4 := P4.lt
       have hE := ((ext_alloc w1 (.cells #[.bool (sg q), .int .u64 (l0 q : Int), .int .u64 (l1 q : Int), .int .u64 (l2 q : Int), .int .u64 (l3 q : Int)] 25)).trans (ext_alloc _ (.cells #[.bool (sg r), .int .u64 (l0 r : Int), .int .u64 (l1 r : Int), .int .u64 (l2 r : Int), .int .u64 (l3 r : Int)] 25)))
       have P2 := P2.ext hE
       have P3 := P3.ext hE
       have P4 := P4.ext hE
       have EE := hide (EE.out.trans hE)
       clear hE
       obtain ⟨W2, hW⟩ : ∃ W, W = ((w1.alloc (.cells #[.bool (sg q), .int .u64 (l0 q : Int), .int .u64 (l1 q : Int), .int .u64 (l2 q : Int), .int .u64 (l3 q : Int)] 25)).alloc (.cells #[.bool (sg r), .int .u64 (l0 r : Int), .int .u64 (l1 r : Int), .int .u64 (l2 r : Int), .int .u64 (l3 r : Int)] 25)) := ⟨_, rfl⟩
       rw [← hW] at H2 EE P2 P3 P4 ⊢
       obtain ⟨g3, hg⟩ : ∃ g, w1.heap.size = g := ⟨_, rfl⟩
       rw [hg] at H2 lP2 lP3 lP4 ⊢
       obtain ⟨P5, P6⟩ : Box W2 g3 (sg q) (l0 q) (l1 q) (l2 q) (l3 q) ∧ Box W2 (g3 + 1) (sg r) (l0 r) (l1 r) (l2 r) (l3 r) := H2
       clear hW hg
       have ngP2P5 : g0 ≠ g3 := by omega
       have ngP2P6 : g0 ≠ g3 + 1 := by omega
       have ngP3P5 : g0 + 1 ≠ g3 := by omega
       have ngP3P6 : g0 + 1 ≠ g3 + 1 := by omega
       have ngP4P5 : g0 + 1 + 1 ≠ g3 := by omega
       have ngP4P6 : g0 + 1 + 1 ≠ g3 + 1 := by omega
       obtain ⟨xP60, xP61, xP62, xP63, xP64, -⟩ := five_cells P6
       go_upto_region 4 with (go_at_call 70; (with_reducible refine (kS.out _).mono ?_); rintro e w4 ⟨rfl, hE⟩; clear xP60 xP61 xP62 xP63 xP64; have P2 := P2.ext hE; have P3 := P3.ext hE; have P4 := P4.ext hE; have P5 := P5.ext hE; have P6 := P6.ext hE; have EE := hide (EE.out.trans hE); clear hE; obtain ⟨xP60, xP61, xP62, xP63, xP64, -⟩ := five_cells P6)
       clear xP60 xP61 xP62 xP63 xP64
       obtain ⟨xP30, xP31, xP32, xP33, xP34, xP35, xP36, xP37, xP38, xP39, -⟩ := ten_cells P3
       go_upto_region 5 with (go_at_call 72; (with_reducible refine (kE.out _).mono ?_); rintro e w5 ⟨rfl, hE⟩; clear xP30 xP31 xP32 xP33 xP34 xP35 xP36 xP37 xP38 xP39; have P2 := P2.ext hE; have P3 := P3.ext hE; have P4 := P4.ext hE; have P5 := P5.ext hE; have P6 := P6.ext hE; have EE := hide (EE.out.trans hE); clear hE; obtain ⟨xP30, xP31, xP32, xP33, xP34, xP35, xP36, xP37, xP38, xP39, -⟩ := ten_cells P3)
       clear xP30 xP31 xP32 xP33 xP34 xP35 xP36 xP37 xP38 xP39
       have H2 := two_blocks w5 (.cells #[.bool (sg q), .int .u64 (l0 q : Int), .int .u64 (l1 q : Int), .int .u64 (l2 q : Int), .int .u64 (l3 q : Int)] 25) (.cells #[.bool (sg t), .int .u64 (l0 t : Int), .int .u64 (l1 t : Int), .int .u64 (l2 t : Int), .int .u64 (l3 t : Int)] 25)
       have lP2 := P2.lt
       have lP3 := P3.lt
       have lP4 := P4.lt
       have lP5 := P5.lt
       have lP6 := P6.lt
       have hE := ((ext_alloc w5 (.cells #[.bool (sg q), .int .u64 (l0 q : Int), .int .u64 (l1 q : Int), .int .u64 (l2 q : Int), .int .u64 (l3 q : Int)] 25)).trans (ext_alloc _ (.cells #[.bool (sg t), .int .u64 (l0 t : Int), .int .u64 (l1 t : Int), .int .u64 (l2 t : Int), .int .u64 (l3 t : Int)] 25)))
       have P2 := P2.ext hE
       have P3 := P3.ext hE
       have P4 := P4.ext hE
       have P5 := P5.ext hE
       have P6 := P6.ext hE
       have EE := hide (EE.out.trans hE)
       clear hE
       obtain ⟨W6, hW⟩ : ∃ W, W = ((w5.alloc (.cells #[.bool (sg q), .int .u64 (l0 q : Int), .int .u64 (l1 q : Int), .int .u64 (l2 q : Int), .int .u64 (l3 q : Int)] 25)).alloc (.cells #[.bool (sg t), .int .u64 (l0 t : Int), .int .u64 (l1 t : Int), .int .u64 (l2 t : Int), .int .u64 (l3 t : Int)] 25)) := ⟨_, rfl⟩
       rw [← hW] at H2 EE P2 P3 P4 P5 P6 ⊢
       obtain ⟨g7, hg⟩ : ∃ g, w5.heap.size = g := ⟨_, rfl⟩
       rw [hg] at H2 lP2 lP3 lP4 lP5 lP6 ⊢
       obtain ⟨P8, P9⟩ : Box W6 g7 (sg q) (l0 q) (l1 q) (l2 q) (l3 q) ∧ Box W6 (g7 + 1) (sg t) (l0 t) (l1 t) (l2 t) (l3 t) := H2
       clear hW hg
       have ngP2P8 : g0 ≠ g7 := by omega
       have ngP2P9 : g0 ≠ g7 + 1 := by omega
       have ngP3P8 : g0 + 1 ≠ g7 := by omega
       have ngP3P9 : g0 + 1 ≠ g7 + 1 := by omega
       have ngP4P8 : g0 + 1 + 1 ≠ g7 := by omega
       have ngP4P9 : g0 + 1 + 1 ≠ g7 + 1 := by omega
       have ngP5P8 : g3 ≠ g7 := by omega
       have ngP5P9 : g3 ≠ g7 + 1 := by omega
       have ngP6P8 : g3 + 1 ≠ g7 := by omega
       have ngP6P9 : g3 + 1 ≠ g7 + 1 := by omega
       obtain ⟨xP50, xP51, xP52, xP53, xP54, -⟩ := five_cells P5; obtain ⟨xP80, xP81, xP82, xP83, xP84, -⟩ := five_cells P8
       go_upto_region 8 with fail
       clear xP50 xP51 xP52 xP53 xP54 xP80 xP81 xP82 xP83 xP84
       obtain ⟨xP20, xP21, xP22, xP23, xP24, xP25, xP26, xP27, xP28, xP29, -⟩ := ten_cells P2; obtain ⟨xP30, xP31, xP32, xP33, xP34, xP35, xP36, xP37, xP38, xP39, -⟩ := ten_cells P3; obtain ⟨xP60, xP61, xP62, xP63, xP64, -⟩ := five_cells P6; obtain ⟨xP90, xP91, xP92, xP93, xP94, -⟩ := five_cells P9
       go_upto_region 9 with (go_at_call 74; (with_reducible refine (kR.out _).mono ?_); rintro e w8 ⟨rfl, hE⟩; clear xP20 xP21 xP22 xP23 xP24 xP25 xP26 xP27 xP28 xP29 xP30 xP31 xP32 xP33 xP34 xP35 xP36 xP37 xP38 xP39 xP60 xP61 xP62 xP63 xP64 xP90 xP91 xP92 xP93 xP94; have P2 := P2.ext hE; have P3 := P3.ext hE; have P4 := P4.ext hE; have P5 := P5.ext hE; have P6 := P6.ext hE; have P8 := P8.ext hE; have P9 := P9.ext hE; have EE := hide (EE.out.trans hE); clear hE; obtain ⟨xP20, xP21, xP22, xP23, xP24, xP25, xP26, xP27, xP28, xP29, -⟩ := ten_cells P2; obtain ⟨xP30, xP31, xP32, xP33, xP34, xP35, xP36, xP37, xP38, xP39, -⟩ := ten_cells P3; obtain ⟨xP60, xP61, xP62, xP63, xP64, -⟩ := five_cells P6; obtain ⟨xP90, xP91, xP92, xP93, xP94, -⟩ := five_cells P9)
       clear xP20 xP21 xP22 xP23 xP24 xP25 xP26 xP27 xP28 xP29 xP30 xP31 xP32 xP33 xP34 xP35 xP36 xP37 xP38 xP39 xP60 xP61 xP62 xP63 xP64 xP90 xP91 xP92 xP93 xP94
       have H2 := heap_alloc_new w8 (.cells #[.bool (sg m), .int .u64 (l0 m : Int), .int .u64 (l1 m : Int), .int .u64 (l2 m : Int), .int .u64 (l3 m : Int), .bool (sg m'), .int .u64 (l0 m' : Int), .int .u64 (l1 m' : Int), .int .u64 (l2 m' : Int), .int .u64 (l3 m' : Int)] 40)
       have lP2 := P2.lt
       have lP3 := P3.lt
       have lP4 := P4.lt
       have lP5 := P5.lt
       have lP6 := P6.lt
       have lP8 := P8.lt
       have lP9 := P9.lt
       have hE := (ext_alloc w8 (.cells #[.bool (sg m), .int .u64 (l0 m : Int), .int .u64 (l1 m : Int), .int .u64 (l2 m : Int), .int .u64 (l3 m : Int), .bool (sg m'), .int .u64 (l0 m' : Int), .int .u64 (l1 m' : Int), .int .u64 (l2 m' : Int), .int .u64 (l3 m' : Int)] 40))
       have P2 := P2.ext hE
       have P3 := P3.ext hE
       have P4 := P4.ext hE
       have P5 := P5.ext hE
       have P6 := P6.ext hE
       have P8 := P8.ext hE
       have P9 := P9.ext hE
       have EE := hide (EE.out.trans hE)
       clear hE
       obtain ⟨W9, hW⟩ : ∃ W, W = (w8.alloc (.cells #[.bool (sg m), .int .u64 (l0 m : Int), .int .u64 (l1 m : Int), .int .u64 (l2 m : Int), .int .u64 (l3 m : Int), .bool (sg m'), .int .u64 (l0 m' : Int), .int .u64 (l1 m' : Int), .int .u64 (l2 m' : Int), .int .u64 (l3 m' : Int)] 40)) := ⟨_, rfl⟩
       rw [← hW] at H2 EE P2 P3 P4 P5 P6 P8 P9 ⊢
       obtain ⟨g10, hg⟩ : ∃ g, w8.heap.size = g := ⟨_, rfl⟩
       rw [hg] at H2 lP2 lP3 lP4 lP5 lP6 lP8 lP9 ⊢
       have P13 : Box10 W9 g10 (sg m) (l0 m) (l1 m) (l2 m) (l3 m) (sg m') (l0 m') (l1 m') (l2 m') (l3 m') := H2
       clear hW hg
       have ngP2P13 : g0 ≠ g10 := by omega
       have ngP3P13 : g0 + 1 ≠ g10 := by omega
       have ngP4P13 : g0 + 1 + 1 ≠ g10 := by omega
       have ngP5P13 : g3 ≠ g10 := by omega
       have ngP6P13 : g3 + 1 ≠ g10 := by omega
       have ngP8P13 : g7 ≠ g10 := by omega
       have ngP9P13 : g7 + 1 ≠ g10 := by omega
       obtain ⟨xP50, xP51, xP52, xP53, xP54, -⟩ := five_cells P5; obtain ⟨xP130, xP131, xP132, xP133, xP134, xP135, xP136, xP137, xP138, xP139, -⟩ := ten_cells P13
       go_upto_region 10 with (go_at_call 81; (with_reducible refine (kM.out _).mono ?_); rintro e w11 ⟨rfl, hE⟩; clear xP50 xP51 xP52 xP53 xP54 xP130 xP131 xP132 xP133 xP134 xP135 xP136 xP137 xP138 xP139; have P2 := P2.ext hE; have P3 := P3.ext hE; have P4 := P4.ext hE; have P5 := P5.ext hE; have P6 := P6.ext hE; have P8 := P8.ext hE; have P9 := P9.ext hE; have P13 := P13.ext hE; have EE := hide (EE.out.trans hE); clear hE; obtain ⟨xP50, xP51, xP52, xP53, xP54, -⟩ := five_cells P5; obtain ⟨xP130, xP131, xP132, xP133, xP134, xP135, xP136, xP137, xP138, xP139, -⟩ := ten_cells P13)
       clear xP50 xP51 xP52 xP53 xP54 xP130 xP131 xP132 xP133 xP134 xP135 xP136 xP137 xP138 xP139
       have H2 := heap_alloc_new w11 (.cells #[.bool (sg v), .int .u64 (l0 v : Int), .int .u64 (l1 v : Int), .int .u64 (l2 v : Int), .int .u64 (l3 v : Int)] 25)
       have lP2 := P2.lt
       have lP3 := P3.lt
       have lP4 := P4.lt
       have lP5 := P5.lt
       have lP6 := P6.lt
       have lP8 := P8.lt
       have lP9 := P9.lt
       have lP13 := P13.lt
       have hE := (ext_alloc w11 (.cells #[.bool (sg v), .int .u64 (l0 v : Int), .int .u64 (l1 v : Int), .int .u64 (l2 v : Int), .int .u64 (l3 v : Int)] 25))
       have P2 := P2.ext hE
       have P3 := P3.ext hE
       have P4 := P4.ext hE
       have P5 := P5.ext hE
       have P6 := P6.ext hE
       have P8 := P8.ext hE
       have P9 := P9.ext hE
       have P13 := P13.ext hE
       have EE := hide (EE.out.trans hE)
       clear hE
       obtain ⟨W12, hW⟩ : ∃ W, W = (w11.alloc (.cells #[.bool (sg v), .int .u64 (l0 v : Int), .int .u64 (l1 v : Int), .int .u64 (l2 v : Int), .int .u64 (l3 v : Int)] 25)) := ⟨_, rfl⟩
       rw [← hW] at H2 EE P2 P3 P4 P5 P6 P8 P9 P13 ⊢
       obtain ⟨g13, hg⟩ : ∃ g, w11.heap.size = g := ⟨_, rfl⟩
       rw [hg] at H2 lP2 lP3 lP4 lP5 lP6 lP8 lP9 lP13 ⊢
       have P14 : Box W12 g13 (sg v) (l0 v) (l1 v) (l2 v) (l3 v) := H2
       clear hW hg
       have ngP2P14 : g0 ≠ g13 := by omega
       have ngP3P14 : g0 + 1 ≠ g13 := by omega
       have ngP4P14 : g0 + 1 + 1 ≠ g13 := by omega
       have ngP5P14 : g3 ≠ g13 := by omega
       have ngP6P14 : g3 + 1 ≠ g13 := by omega
       have ngP8P14 : g7 ≠ g13 := by omega
       have ngP9P14 : g7 + 1 ≠ g13 := by omega
       have ngP13P14 : g10 ≠ g13 := by omega
       obtain ⟨xP130, xP131, xP132, xP133, xP134, xP135, xP136, xP137, xP138, xP139, -⟩ := ten_cells P13; obtain ⟨xP140, xP141, xP142, xP143, xP144, -⟩ := five_cells P14
       go_upto_region 11 with (go_at_call 40; (with_reducible refine (kA.out _).mono ?_); rintro e w14 ⟨rfl, hE⟩; clear xP130 xP131 xP132 xP133 xP134 xP135 xP136 xP137 xP138 xP139 xP140 xP141 xP142 xP143 xP144; have P2 := P2.ext hE; have P3 := P3.ext hE; have P4 := P4.ext hE; have P5 := P5.ext hE; have P6 := P6.ext hE; have P8 := P8.ext hE; have P9 := P9.ext hE; have P13 := P13.ext hE; have P14 := P14.ext hE; have EE := hide (EE.out.trans hE); clear hE; obtain ⟨xP130, xP131, xP132, xP133, xP134, xP135, xP136, xP137, xP138, xP139, -⟩ := ten_cells P13; obtain ⟨xP140, xP141, xP142, xP143, xP144, -⟩ := five_cells P14)
       clear xP130 xP131 xP132 xP133 xP134 xP135 xP136 xP137 xP138 xP139 xP140 xP141 xP142 xP143 xP144
       have H2 := heap_alloc_new w14 (.cells #[.bool (sg n), .int .u64 (l0 n : Int), .int .u64 (l1 n : Int), .int .u64 (l2 n : Int), .int .u64 (l3 n : Int)] 25)
       have lP2 := P2.lt
       have lP3 := P3.lt
       have lP4 := P4.lt
       have lP5 := P5.lt
       have lP6 := P6.lt
       have lP8 := P8.lt
       have lP9 := P9.lt
       have lP13 := P13.lt
       have lP14 := P14.lt
       have hE := (ext_alloc w14 (.cells #[.bool (sg n), .int .u64 (l0 n : Int), .int .u64 (l1 n : Int), .int .u64 (l2 n : Int), .int .u64 (l3 n : Int)] 25))
       have P2 := P2.ext hE
       have P3 := P3.ext hE
       have P4 := P4.ext hE
       have P5 := P5.ext hE
       have P6 := P6.ext hE
       have P8 := P8.ext hE
       have P9 := P9.ext hE
       have P13 := P13.ext hE
       have P14 := P14.ext hE
       have EE := hide (EE.out.trans hE)
       clear hE
       obtain ⟨W15, hW⟩ : ∃ W, W = (w14.alloc (.cells #[.bool (sg n), .int .u64 (l0 n : Int), .int .u64 (l1 n : Int), .int .u64 (l2 n : Int), .int .u64 (l3 n : Int)] 25)) := ⟨_, rfl⟩
       rw [← hW] at H2 EE P2 P3 P4 P5 P6 P8 P9 P13 P14 ⊢
       obtain ⟨g16, hg⟩ : ∃ g, w14.heap.size = g := ⟨_, rfl⟩
       rw [hg] at H2 lP2 lP3 lP4 lP5 lP6 lP8 lP9 lP13 lP14 ⊢
       have P16 : Box W15 g16 (sg n) (l0 n) (l1 n) (l2 n) (l3 n) := H2
       clear hW hg
       have ngP2P16 : g0 ≠ g16 := by omega
       have ngP3P16 : g0 + 1 ≠ g16 := by omega
       have ngP4P16 : g0 + 1 + 1 ≠ g16 := by omega
       have ngP5P16 : g3 ≠ g16 := by omega
       have ngP6P16 : g3 + 1 ≠ g16 := by omega
       have ngP8P16 : g7 ≠ g16 := by omega
       have ngP9P16 : g7 + 1 ≠ g16 := by omega
       have ngP13P16 : g10 ≠ g16 := by omega
       have ngP14P16 : g13 ≠ g16 := by omega
       obtain ⟨xP130, xP131, xP132, xP133, xP134, xP135, xP136, xP137, xP138, xP139, -⟩ := ten_cells P13; obtain ⟨xP160, xP161, xP162, xP163, xP164, -⟩ := five_cells P16; obtain ⟨xP40, xP41, xP42, xP43, xP44, xP45, xP46, xP47, xP48, xP49, xP4f0, xP4f1, xP4f2, xP4f3, xP4f4, xP4f5, xP4f6, xP4f7, xP4f8, xP4f9⟩ := ten_cells P4
       go_wp2_with fail
       exact bodyPost_ret (v := .agg #[.bool (sg n), .int .u64 (l0 n : Int), .int .u64 (l1 n : Int), .int .u64 (l2 n : Int), .int .u64 (l3 n : Int), .bool (sg m), .int .u64 (l0 m : Int), .int .u64 (l1 m : Int), .int .u64 (l2 m : Int), .int .u64 (l3 m : Int)]) (by simp [results, Try.results74, go_sem, xP40, xP41, xP42, xP43, xP44, xP45, xP46, xP47, xP48, xP49]) rfl ⟨rfl, ext_ten EE.out (by omega) _ _ _ _ _ _ _ _ _ _⟩
     · have hqp : a / b ≠ c / d := by rw [hq, hp]; exact h1
       obtain ⟨en, em⟩ := Best.unique hb hd B (best_next ha hb hd hle hr0 hqp)
       rw [hq] at en
       subst em
       have fn : F256 n := f256_of (by omega)
       have f1 : F256 1 := by unfold F256; decide
       have kO : Hid (∀ w, Calls Try.prog 39 #[.int .i64 1] w (Ret (.agg #[.bool (sg 1), .int .u64 (l0 1 : Int), .int .u64 (l1 1 : Int), .int .u64 (l2 1 : Int), .int .u64 (l3 1 : Int)]) w)) := fun w => c_ofi (by omega) (by omega) w
       have kA : Hid (∀ w, Calls Try.prog 40 #[.agg #[.bool (sg q), .int .u64 (l0 q : Int), .int .u64 (l1 q : Int), .int .u64 (l2 q : Int), .int .u64 (l3 q : Int)], .agg #[.bool (sg 1), .int .u64 (l0 1 : Int), .int .u64 (l1 1 : Int), .int .u64 (l2 1 : Int), .int .u64 (l3 1 : Int)]] w (Ret (.tuple #[.agg #[.bool (sg n), .int .u64 (l0 n : Int), .int .u64 (l1 n : Int), .int .u64 (l2 n : Int), .int .u64 (l3 n : Int)], .bool true]) w)) := fun w => c_add fq f1 en.symm fn w
       have kI : Hid (∀ w, Calls Try.prog 91 #[.agg #[.bool (sg n), .int .u64 (l0 n : Int), .int .u64 (l1 n : Int), .int .u64 (l2 n : Int), .int .u64 (l3 n : Int)]] w (Ret (.agg #[.bool (sg n), .int .u64 (l0 n : Int), .int .u64 (l1 n : Int), .int .u64 (l2 n : Int), .int .u64 (l3 n : Int), .bool (sg 1), .int .u64 (l0 1 : Int), .int .u64 (l1 1 : Int), .int .u64 (l2 1 : Int), .int .u64 (l3 1 : Int)]) w)) := fun w => s_integer fn w
       have qe := neWW fq fp
       rw [decide_eq_true h1] at qe
       clear hq hr hp ht q0 qa r0 rb t0 td pc fa fb fc fd fq fr fp ft BS n0 m0 hk ha hb hd hle sa sb sc sd B hr0 h0 hqp en fn f1 h1
       obtain ⟨W0, hW0⟩ : ∃ W0, W0 = (((w.alloc (.cells #[.bool (sg a), .int .u64 (l0 a : Int), .int .u64 (l1 a : Int), .int .u64 (l2 a : Int), .int .u64 (l3 a : Int), .bool (sg b), .int .u64 (l0 b : Int), .int .u64 (l1 b : Int), .int .u64 (l2 b : Int), .int .u64 (l3 b : Int)] 40)).alloc (.cells #[.bool (sg c), .int .u64 (l0 c : Int), .int .u64 (l1 c : Int), .int .u64 (l2 c : Int), .int .u64 (l3 c : Int), .bool (sg d), .int .u64 (l0 d : Int), .int .u64 (l1 d : Int), .int .u64 (l2 d : Int), .int .u64 (l3 d : Int)] 40)).alloc (.cells #[.bool false, .int .u64 0, .int .u64 0, .int .u64 0, .int .u64 0, .bool false, .int .u64 0, .int .u64 0, .int .u64 0, .int .u64 0] 40)) := ⟨_, rfl⟩
       have H2 := three_boxes w (.cells #[.bool (sg a), .int .u64 (l0 a : Int), .int .u64 (l1 a : Int), .int .u64 (l2 a : Int), .int .u64 (l3 a : Int), .bool (sg b), .int .u64 (l0 b : Int), .int .u64 (l1 b : Int), .int .u64 (l2 b : Int), .int .u64 (l3 b : Int)] 40) (.cells #[.bool (sg c), .int .u64 (l0 c : Int), .int .u64 (l1 c : Int), .int .u64 (l2 c : Int), .int .u64 (l3 c : Int), .bool (sg d), .int .u64 (l0 d : Int), .int .u64 (l1 d : Int), .int .u64 (l2 d : Int), .int .u64 (l3 d : Int)] 40) (.cells #[.bool false, .int .u64 0, .int .u64 0, .int .u64 0, .int .u64 0, .bool false, .int .u64 0, .int .u64 0, .int .u64 0, .int .u64 0] 40)
       have EE0 : Ext w W0 := by rw [hW0]; exact (((ext_alloc _ _).trans (ext_alloc _ _)).trans (ext_alloc _ _))
       rw [← hW0] at H2
       have EE := hide EE0
       have HW := hide hW0
       obtain ⟨P2, P3, P4⟩ : Box10 W0 (w.heap.size) (sg a) (l0 a) (l1 a) (l2 a) (l3 a) (sg b) (l0 b) (l1 b) (l2 b) (l3 b) ∧ Box10 W0 ((w.heap.size + 1)) (sg c) (l0 c) (l1 c) (l2 c) (l3 c) (sg d) (l0 d) (l1 d) (l2 d) (l3 d) ∧ Box10 W0 ((w.heap.size + 1 + 1)) false 0 0 0 0 false 0 0 0 0 := H2
       clear hW0 EE0
       go_enter Try.func74, Try.ntmps74
       go_upto_region 1 with fail
       rw [← HW.out]
       clear HW
       have hg0 : w.heap.size ≤ w.heap.size := Nat.le_refl _
       obtain ⟨g0, hg⟩ : ∃ g, w.heap.size = g := ⟨_, rfl⟩
       rw [hg] at P2 P3 P4 ⊢
       replace hg0 : w.heap.size ≤ g0 := Nat.le_of_eq hg
       clear hg
       obtain ⟨xP20, xP21, xP22, xP23, xP24, xP25, xP26, xP27, xP28, xP29, -⟩ := ten_cells P2
       go_upto_region 2 with (go_at_call 72; (with_reducible refine (kD.out _).mono ?_); rintro e w1 ⟨rfl, hE⟩; clear xP20 xP21 xP22 xP23 xP24 xP25 xP26 xP27 xP28 xP29; have P2 := P2.ext hE; have P3 := P3.ext hE; have P4 := P4.ext hE; have EE := hide (EE.out.trans hE); clear hE; obtain ⟨xP20, xP21, xP22, xP23, xP24, xP25, xP26, xP27, xP28, xP29, -⟩ := ten_cells P2)
       clear xP20 xP21 xP22 xP23 xP24 xP25 xP26 xP27 xP28 xP29
       have H2 := two_blocks w1 (.cells #[.bool (sg q), .int .u64 (l0 q : Int), .int .u64 (l1 q : Int), .int .u64 (l2 q : Int), .int .u64 (l3 q : Int)] 25) (.cells #[.bool (sg r), .int .u64 (l0 r : Int), .int .u64 (l1 r : Int), .int .u64 (l2 r : Int), .int .u64 (l3 r : Int)] 25)
       have lP2 := P2.lt
       have lP3 := P3.lt
       have lP4 := P4.lt
       have hE := ((ext_alloc w1 (.cells #[.bool (sg q), .int .u64 (l0 q : Int), .int .u64 (l1 q : Int), .int .u64 (l2 q : Int), .int .u64 (l3 q : Int)] 25)).trans (ext_alloc _ (.cells #[.bool (sg r), .int .u64 (l0 r : Int), .int .u64 (l1 r : Int), .int .u64 (l2 r : Int), .int .u64 (l3 r : Int)] 25)))
       have P2 := P2.ext hE
       have P3 := P3.ext hE
       have P4 := P4.ext hE
       have EE := hide (EE.out.trans hE)
       clear hE
       obtain ⟨W2, hW⟩ : ∃ W, W = ((w1.alloc (.cells #[.bool (sg q), .int .u64 (l0 q : Int), .int .u64 (l1 q : Int), .int .u64 (l2 q : Int), .int .u64 (l3 q : Int)] 25)).alloc (.cells #[.bool (sg r), .int .u64 (l0 r : Int), .int .u64 (l1 r : Int), .int .u64 (l2 r : Int), .int .u64 (l3 r : Int)] 25)) := ⟨_, rfl⟩
       rw [← hW] at H2 EE P2 P3 P4 ⊢
       obtain ⟨g3, hg⟩ : ∃ g, w1.heap.size = g := ⟨_, rfl⟩
       rw [hg] at H2 lP2 lP3 lP4 ⊢
       obtain ⟨P5, P6⟩ : Box W2 g3 (sg q) (l0 q) (l1 q) (l2 q) (l3 q) ∧ Box W2 (g3 + 1) (sg r) (l0 r) (l1 r) (l2 r) (l3 r) := H2
       clear hW hg
       have ngP2P5 : g0 ≠ g3 := by omega
       have ngP2P6 : g0 ≠ g3 + 1 := by omega
       have ngP3P5 : g0 + 1 ≠ g3 := by omega
       have ngP3P6 : g0 + 1 ≠ g3 + 1 := by omega
       have ngP4P5 : g0 + 1 + 1 ≠ g3 := by omega
       have ngP4P6 : g0 + 1 + 1 ≠ g3 + 1 := by omega
       obtain ⟨xP60, xP61, xP62, xP63, xP64, -⟩ := five_cells P6
       go_upto_region 4 with (go_at_call 70; (with_reducible refine (kS.out _).mono ?_); rintro e w4 ⟨rfl, hE⟩; clear xP60 xP61 xP62 xP63 xP64; have P2 := P2.ext hE; have P3 := P3.ext hE; have P4 := P4.ext hE; have P5 := P5.ext hE; have P6 := P6.ext hE; have EE := hide (EE.out.trans hE); clear hE; obtain ⟨xP60, xP61, xP62, xP63, xP64, -⟩ := five_cells P6)
       clear xP60 xP61 xP62 xP63 xP64
       obtain ⟨xP30, xP31, xP32, xP33, xP34, xP35, xP36, xP37, xP38, xP39, -⟩ := ten_cells P3
       go_upto_region 5 with (go_at_call 72; (with_reducible refine (kE.out _).mono ?_); rintro e w5 ⟨rfl, hE⟩; clear xP30 xP31 xP32 xP33 xP34 xP35 xP36 xP37 xP38 xP39; have P2 := P2.ext hE; have P3 := P3.ext hE; have P4 := P4.ext hE; have P5 := P5.ext hE; have P6 := P6.ext hE; have EE := hide (EE.out.trans hE); clear hE; obtain ⟨xP30, xP31, xP32, xP33, xP34, xP35, xP36, xP37, xP38, xP39, -⟩ := ten_cells P3)
       clear xP30 xP31 xP32 xP33 xP34 xP35 xP36 xP37 xP38 xP39
       have H2 := two_blocks w5 (.cells #[.bool (sg p), .int .u64 (l0 p : Int), .int .u64 (l1 p : Int), .int .u64 (l2 p : Int), .int .u64 (l3 p : Int)] 25) (.cells #[.bool (sg t), .int .u64 (l0 t : Int), .int .u64 (l1 t : Int), .int .u64 (l2 t : Int), .int .u64 (l3 t : Int)] 25)
       have lP2 := P2.lt
       have lP3 := P3.lt
       have lP4 := P4.lt
       have lP5 := P5.lt
       have lP6 := P6.lt
       have hE := ((ext_alloc w5 (.cells #[.bool (sg p), .int .u64 (l0 p : Int), .int .u64 (l1 p : Int), .int .u64 (l2 p : Int), .int .u64 (l3 p : Int)] 25)).trans (ext_alloc _ (.cells #[.bool (sg t), .int .u64 (l0 t : Int), .int .u64 (l1 t : Int), .int .u64 (l2 t : Int), .int .u64 (l3 t : Int)] 25)))
       have P2 := P2.ext hE
       have P3 := P3.ext hE
       have P4 := P4.ext hE
       have P5 := P5.ext hE
       have P6 := P6.ext hE
       have EE := hide (EE.out.trans hE)
       clear hE
       obtain ⟨W6, hW⟩ : ∃ W, W = ((w5.alloc (.cells #[.bool (sg p), .int .u64 (l0 p : Int), .int .u64 (l1 p : Int), .int .u64 (l2 p : Int), .int .u64 (l3 p : Int)] 25)).alloc (.cells #[.bool (sg t), .int .u64 (l0 t : Int), .int .u64 (l1 t : Int), .int .u64 (l2 t : Int), .int .u64 (l3 t : Int)] 25)) := ⟨_, rfl⟩
       rw [← hW] at H2 EE P2 P3 P4 P5 P6 ⊢
       obtain ⟨g7, hg⟩ : ∃ g, w5.heap.size = g := ⟨_, rfl⟩
       rw [hg] at H2 lP2 lP3 lP4 lP5 lP6 ⊢
       obtain ⟨P8, P9⟩ : Box W6 g7 (sg p) (l0 p) (l1 p) (l2 p) (l3 p) ∧ Box W6 (g7 + 1) (sg t) (l0 t) (l1 t) (l2 t) (l3 t) := H2
       clear hW hg
       have ngP2P8 : g0 ≠ g7 := by omega
       have ngP2P9 : g0 ≠ g7 + 1 := by omega
       have ngP3P8 : g0 + 1 ≠ g7 := by omega
       have ngP3P9 : g0 + 1 ≠ g7 + 1 := by omega
       have ngP4P8 : g0 + 1 + 1 ≠ g7 := by omega
       have ngP4P9 : g0 + 1 + 1 ≠ g7 + 1 := by omega
       have ngP5P8 : g3 ≠ g7 := by omega
       have ngP5P9 : g3 ≠ g7 + 1 := by omega
       have ngP6P8 : g3 + 1 ≠ g7 := by omega
       have ngP6P9 : g3 + 1 ≠ g7 + 1 := by omega
       obtain ⟨xP50, xP51, xP52, xP53, xP54, -⟩ := five_cells P5; obtain ⟨xP80, xP81, xP82, xP83, xP84, -⟩ := five_cells P8
       go_upto_region 6 with fail
       clear xP50 xP51 xP52 xP53 xP54 xP80 xP81 xP82 xP83 xP84
       have lbP2 := P2.lt
       have lbP3 := P3.lt
       have lbP4 := P4.lt
       have lbP5 := P5.lt
       have lbP6 := P6.lt
       have lbP8 := P8.lt
       have lbP9 := P9.lt
       refine wp_decl [.q, .q, .q, .q, .q, .q, .al, .st 6, .q] [.agg #[.bool (sg q), .int .u64 (l0 q : Int), .int .u64 (l1 q : Int), .int .u64 (l2 q : Int), .int .u64 (l3 q : Int)], .agg #[.bool (sg 1), .int .u64 (l0 1 : Int), .int .u64 (l1 1 : Int), .int .u64 (l2 1 : Int), .int .u64 (l3 1 : Int)], .tuple #[.agg #[.bool (sg n), .int .u64 (l0 n : Int), .int .u64 (l1 n : Int), .int .u64 (l2 n : Int), .int .u64 (l3 n : Int)], .bool true], .tuple #[.agg #[.bool (sg n), .int .u64 (l0 n : Int), .int .u64 (l1 n : Int), .int .u64 (l2 n : Int), .int .u64 (l3 n : Int)], .bool true], .agg #[.bool (sg n), .int .u64 (l0 n : Int), .int .u64 (l1 n : Int), .int .u64 (l2 n : Int), .int .u64 (l3 n : Int)], .bool true, undef, undef, .bool true] (fun _ => (.cells #[.bool false, .int .u64 0, .int .u64 0, .int .u64 0, .int .u64 0] 25 (0, 0))) (fun _ => (.cells #[.bool (sg n), .int .u64 (l0 n : Int), .int .u64 (l1 n : Int), .int .u64 (l2 n : Int), .int .u64 (l3 n : Int)] 25 (0, 0))) (fun _ => 0) (by kernel_rfl) (by kernel_rfl) (by kernel_rfl) rfl rfl (by simp) (by simp) ?_ ?_
       · refine ⟨?_, ?_, ?_, ?_, ?_, ?_, ?_, ?_, ?_, trivial⟩
         · refine op_q ?uvn2 ?h1n2 ?h2n2 ?h3n2
           case h1n2 => exact rfl
           case uvn2 => exact (.agg #[.bool (sg q), .int .u64 (l0 q : Int), .int .u64 (l1 q : Int), .int .u64 (l2 q : Int), .int .u64 (l3 q : Int)])
           case h2n2 => exact rfl
           intro w' hw'
           have P5 := P5.same hw' (by simp)
           have xP5 := five_cells P5
           go_simp
         · refine op_q ?uvn3 ?h1n3 ?h2n3 ?h3n3
           case h1n3 => exact rfl
           case uvn3 => exact (.agg #[.bool (sg 1), .int .u64 (l0 1 : Int), .int .u64 (l1 1 : Int), .int .u64 (l2 1 : Int), .int .u64 (l3 1 : Int)])
           case h2n3 => exact rfl
           intro w' hw'
           go_simp
           exact kO.out w'
         · refine op_q ?uvn4 ?h1n4 ?h2n4 ?h3n4
           case h1n4 => exact rfl
           case uvn4 => exact (.tuple #[.agg #[.bool (sg n), .int .u64 (l0 n : Int), .int .u64 (l1 n : Int), .int .u64 (l2 n : Int), .int .u64 (l3 n : Int)], .bool true])
           case h2n4 => exact rfl
           intro w' hw'
           go_simp
           exact kA.out w'
         · refine op_q ?uvn5 ?h1n5 ?h2n5 ?h3n5
           case h1n5 => exact rfl
           case uvn5 => exact (.tuple #[.agg #[.bool (sg n), .int .u64 (l0 n : Int), .int .u64 (l1 n : Int), .int .u64 (l2 n : Int), .int .u64 (l3 n : Int)], .bool true])
           case h2n5 => exact rfl
           intro w' hw'
           go_simp
         · refine op_q ?uvn6 ?h1n6 ?h2n6 ?h3n6
           case h1n6 => exact rfl
           case uvn6 => exact (.agg #[.bool (sg n), .int .u64 (l0 n : Int), .int .u64 (l1 n : Int), .int .u64 (l2 n : Int), .int .u64 (l3 n : Int)])
           case h2n6 => exact rfl
           intro w' hw'
           go_simp
         · refine op_q ?uvn7 ?h1n7 ?h2n7 ?h3n7
           case h1n7 => exact rfl
           case uvn7 => exact (.bool true)
           case h2n7 => exact rfl
           intro w' hw'
           go_simp
         · refine op_al ?uzn8 ?h1n8 ?h2n8 ?h3n8
           case h1n8 => exact rfl
           case h2n8 => exact rfl
           intro ρ w'
           go_simp
           rfl
         · refine op_st (j := 6) (T := ?uTn9) (p := ?upn9) (x := ?uxn9) ?ufn9 ?uzn9 ?uvn9 ?h1n9 ?h2n9 ?h3n9 ?h4n9 ?h5n9 ?h6n9
           case h1n9 => exact rfl
           case h2n9 => exact rfl
           case ufn9 => exact (.cells #[.bool (sg n), .int .u64 (l0 n : Int), .int .u64 (l1 n : Int), .int .u64 (l2 n : Int), .int .u64 (l3 n : Int)] 25 (0, 0))
           case uzn9 => exact (.cells #[.bool false, .int .u64 0, .int .u64 0, .int .u64 0, .int .u64 0] 25 (0, 0))
           case uvn9 => exact (.agg #[.bool (sg n), .int .u64 (l0 n : Int), .int .u64 (l1 n : Int), .int .u64 (l2 n : Int), .int .u64 (l3 n : Int)])
           case h3n9 => exact rfl
           case h4n9 => exact rfl
           case h5n9 => go_simp
           intro ρ w' g' hp hx hz
           exact store_wide rfl hp hx hz
         · refine op_q ?uvn10 ?h1n10 ?h2n10 ?h3n10
           case h1n10 => exact rfl
           case uvn10 => exact (.bool true)
           case h2n10 => exact rfl
           intro w' hw'
           go_simp
       · intro G W8 hI
         have hS := hI.same
         have P2 := P2.same hS (by simp)
         have P3 := P3.same hS (by simp)
         have P4 := P4.same hS (by simp)
         have P5 := P5.same hS (by simp)
         have P6 := P6.same hS (by simp)
         have P8 := P8.same hS (by simp)
         have P9 := P9.same hS (by simp)
         have EE := hide (hS.ext' EE.out (by simp))
         have P11 : Box W8 (G 6) (sg n) (l0 n) (l1 n) (l2 n) (l3 n) := (hI.fulls 7 (List.mem_range.2 (show 7 < 9 by decide)) 6 rfl).2.2
         have hmP11 := (hI.made 6 (List.mem_range.2 (show 6 < 9 by decide)) rfl).1
         have ngP2P11 : g0 ≠ G 6 := by omega
         have ngP3P11 : g0 + 1 ≠ G 6 := by omega
         have ngP4P11 : g0 + 1 + 1 ≠ G 6 := by omega
         have ngP5P11 : g3 ≠ G 6 := by omega
         have ngP6P11 : g3 + 1 ≠ G 6 := by omega
         have ngP8P11 : g7 ≠ G 6 := by omega
         have ngP9P11 : g7 + 1 ≠ G 6 := by omega
         clear hI hS
         simp only [putAll, slotV, ptrTo, Nat.zero_add, Nat.reduceAdd]
         generalize G 6 = gP11 at *
         go_upto_region 7 with fail
         obtain ⟨xP110, xP111, xP112, xP113, xP114, -⟩ := five_cells P11; obtain ⟨xP40, xP41, xP42, xP43, xP44, xP45, xP46, xP47, xP48, xP49, xP4f0, xP4f1, xP4f2, xP4f3, xP4f4, xP4f5, xP4f6, xP4f7, xP4f8, xP4f9⟩ := ten_cells P4
         go_wp2_with (first
           | (go_at_call 91; (with_reducible refine (kI.out _).mono ?_); rintro e w9 ⟨rfl, hE⟩; clear xP110 xP111 xP112 xP113 xP114; clear xP40 xP41 xP42 xP43 xP44 xP45 xP46 xP47 xP48 xP49 xP4f0 xP4f1 xP4f2 xP4f3 xP4f4 xP4f5 xP4f6 xP4f7 xP4f8 xP4f9; have P2 := P2.ext hE; have P3 := P3.ext hE; have P4 := P4.ext hE; have P5 := P5.ext hE; have P6 := P6.ext hE; have P8 := P8.ext hE; have P9 := P9.ext hE; have P11 := P11.ext hE; have EE := hide (EE.out.trans hE); clear hE; obtain ⟨xP110, xP111, xP112, xP113, xP114, -⟩ := five_cells P11; obtain ⟨xP40, xP41, xP42, xP43, xP44, xP45, xP46, xP47, xP48, xP49, xP4f0, xP4f1, xP4f2, xP4f3, xP4f4, xP4f5, xP4f6, xP4f7, xP4f8, xP4f9⟩ := ten_cells P4))
         exact bodyPost_ret (v := .agg #[.bool (sg n), .int .u64 (l0 n : Int), .int .u64 (l1 n : Int), .int .u64 (l2 n : Int), .int .u64 (l3 n : Int), .bool (sg 1), .int .u64 (l0 1 : Int), .int .u64 (l1 1 : Int), .int .u64 (l2 1 : Int), .int .u64 (l3 1 : Int)]) (by simp [results, Try.results74, go_sem, xP40, xP41, xP42, xP43, xP44, xP45, xP46, xP47, xP48, xP49]) rfl ⟨rfl, ext_ten EE.out (by omega) _ _ _ _ _ _ _ _ _ _⟩
end
section
open Go Go.RowKit Go.Sort
theorem cellR {w : World} {a : Addr} {v : Value} (h : w.cell? a = some v) : ∀ (d : Nat) (os : Array Obj), (grow (redrawn w d) os).cell? a = some v := fun d os => cell_regrown h d os
end
section
open Go Go.RowKit Go.Sort
attribute [local go_sem] qUpon putAll slotV
def simB (a b c d : Int) : Bool := decide (b < d ∨ b = d ∧ a.natAbs < c.natAbs)
theorem cmpI_lt {x y r : Int} (h : cmpI x y = r) : (r < 0 ↔ x < y) ∧ (r = 0 ↔ x = y) ∧ (0 < r ↔ y < x) := by
 rw [← h]; unfold cmpI; split <;> (try split) <;> omega
set_option maxRecDepth 100000 in
set_option maxHeartbeats 8000000 in
theorem s_between {n1 m1 n2 m2 : Int} (h1 : Frac n1 m1) (h2 : Frac n2 m2) {n m : Int} (hle : n1 * m2 ≤ n2 * m1) (B : Best n1 m1 n2 m2 n m) (w : World) : Calls Try.prog 44 #[.agg #[.bool (sg n1), .int .u64 (l0 n1 : Int), .int .u64 (l1 n1 : Int), .int .u64 (l2 n1 : Int), .int .u64 (l3 n1 : Int), .bool (sg m1), .int .u64 (l0 m1 : Int), .int .u64 (l1 m1 : Int), .int .u64 (l2 m1 : Int), .int .u64 (l3 m1 : Int)], .agg #[.bool (sg n2), .int .u64 (l0 n2 : Int), .int .u64 (l1 n2 : Int), .int .u64 (l2 n2 : Int), .int .u64 (l3 n2 : Int), .bool (sg m2), .int .u64 (l0 m2 : Int), .int .u64 (l1 m2 : Int), .int .u64 (l2 m2 : Int), .int .u64 (l3 m2 : Int)]] w (Ret (.tuple #[.agg #[.bool (sg n), .int .u64 (l0 n : Int), .int .u64 (l1 n : Int), .int .u64 (l2 n : Int), .int .u64 (l3 n : Int), .bool (sg m), .int .u64 (l0 m : Int), .int .u64 (l1 m : Int), .int .u64 (l2 m : Int), .int .u64 (l3 m : Int)], .bool true]) w) := by
 obtain ⟨c, hc⟩ : ∃ r, cmpI (n1 * m2) (n2 * m1) = r := ⟨_, rfl⟩
 have hc0 : ¬ 0 < c := by rw [(cmpI_lt hc).2.2]; omega
 have kV1 : Hid (∀ w, Calls Try.prog 50 #[.agg #[.bool (sg n1), .int .u64 (l0 n1 : Int), .int .u64 (l1 n1 : Int), .int .u64 (l2 n1 : Int), .int .u64 (l3 n1 : Int), .bool (sg m1), .int .u64 (l0 m1 : Int), .int .u64 (l1 m1 : Int), .int .u64 (l2 m1 : Int), .int .u64 (l3 m1 : Int)]] w (Ret (.bool true) w)) := fun w => g_valid h1 w
 have kV2 : Hid (∀ w, Calls Try.prog 50 #[.agg #[.bool (sg n2), .int .u64 (l0 n2 : Int), .int .u64 (l1 n2 : Int), .int .u64 (l2 n2 : Int), .int .u64 (l3 n2 : Int), .bool (sg m2), .int .u64 (l0 m2 : Int), .int .u64 (l1 m2 : Int), .int .u64 (l2 m2 : Int), .int .u64 (l3 m2 : Int)]] w (Ret (.bool true) w)) := fun w => g_valid h2 w
 have kC : Hid (∀ w, Calls Try.prog 51 #[.agg #[.bool (sg n1), .int .u64 (l0 n1 : Int), .int .u64 (l1 n1 : Int), .int .u64 (l2 n1 : Int), .int .u64 (l3 n1 : Int), .bool (sg m1), .int .u64 (l0 m1 : Int), .int .u64 (l1 m1 : Int), .int .u64 (l2 m1 : Int), .int .u64 (l3 m1 : Int)], .agg #[.bool (sg n2), .int .u64 (l0 n2 : Int), .int .u64 (l1 n2 : Int), .int .u64 (l2 n2 : Int), .int .u64 (l3 n2 : Int), .bool (sg m2), .int .u64 (l0 m2 : Int), .int .u64 (l1 m2 : Int), .int .u64 (l2 m2 : Int), .int .u64 (l3 m2 : Int)]] w (Ret (.int .i64 c) w)) := fun w => g_cmp h1 h2 hc w
 clear hc
 by_cases hp : 0 < n1
 · have kS : Hid (∀ w, Calls Try.prog 70 #[.agg #[.bool (sg n1), .int .u64 (l0 n1 : Int), .int .u64 (l1 n1 : Int), .int .u64 (l2 n1 : Int), .int .u64 (l3 n1 : Int)]] w (Ret (.int .i64 1) w)) := fun w => c_sign h1.fn (Int.sign_eq_one_of_pos hp) w
   have kB : Hid (∀ w, Calls Try.prog 74 #[.agg #[.bool (sg n1), .int .u64 (l0 n1 : Int), .int .u64 (l1 n1 : Int), .int .u64 (l2 n1 : Int), .int .u64 (l3 n1 : Int), .bool (sg m1), .int .u64 (l0 m1 : Int), .int .u64 (l1 m1 : Int), .int .u64 (l2 m1 : Int), .int .u64 (l3 m1 : Int)], .agg #[.bool (sg n2), .int .u64 (l0 n2 : Int), .int .u64 (l1 n2 : Int), .int .u64 (l2 n2 : Int), .int .u64 (l3 n2 : Int), .bool (sg m2), .int .u64 (l0 m2 : Int), .int .u64 (l1 m2 : Int), .int .u64 (l2 m2 : Int), .int .u64 (l3 m2 : Int)]] w (Ret (.agg #[.bool (sg n), .int .u64 (l0 n : Int), .int .u64 (l1 n : Int), .int .u64 (l2 n : Int), .int .u64 (l3 n : Int), .bool (sg m), .int .u64 (l0 m : Int), .int .u64 (l1 m : Int), .int .u64 (l2 m : Int), .int .u64 (l3 m : Int)]) w)) := fun w => s_bp _ n1 m1 n2 m2 n m (Nat.lt_succ_self _) hp h1.1 h2.1 hle h1.2.1 h1.2.2.1 h2.2.1 h2.2.2.1 B w
   clear h1 h2 hle B hp
   obtain ⟨W0, hW0⟩ : ∃ W0, W0 = (((w.alloc (.cells #[.bool (sg n1), .int .u64 (l0 n1 : Int), .int .u64 (l1 n1 : Int), .int .u64 (l2 n1 : Int), .int .u64 (l3 n1 : Int), .bool (sg m1), .int .u64 (l0 m1 : Int), .int .u64 (l1 m1 : Int), .int .u64 (l2 m1 : Int), .int .u64 (l3 m1 : Int)] 40)).alloc (.cells #[.bool (sg n2), .int .u64 (l0 n2 : Int), .int .u64 (l1 n2 : Int), .int .u64 (l2 n2 : Int), .int .u64 (l3 n2 : Int), .bool (sg m2), .int .u64 (l0 m2 : Int), .int .u64 (l1 m2 : Int), .int .u64 (l2 m2 : Int), .int .u64 (l3 m2 : Int)] 40)).alloc (.cells #[.bool false, .int .u64 0, .int .u64 0, .int .u64 0, .int .u64 0, .bool false, .int .u64 0, .int .u64 0, .int .u64 0, .int .u64 0] 40)) := ⟨_, rfl⟩
   have H2 := three_boxes w (.cells #[.bool (sg n1), .int .u64 (l0 n1 : Int), .int .u64 (l1 n1 : Int), .int .u64 (l2 n1 : Int), .int .u64 (l3 n1 : Int), .bool (sg m1), .int .u64 (l0 m1 : Int), .int .u64 (l1 m1 : Int), .int .u64 (l2 m1 : Int), .int .u64 (l3 m1 : Int)] 40) (.cells #[.bool (sg n2), .int .u64 (l0 n2 : Int), .int .u64 (l1 n2 : Int), .int .u64 (l2 n2 : Int), .int .u64 (l3 n2 : Int), .bool (sg m2), .int .u64 (l0 m2 : Int), .int .u64 (l1 m2 : Int), .int .u64 (l2 m2 : Int), .int .u64 (l3 m2 : Int)] 40) (.cells #[.bool false, .int .u64 0, .int .u64 0, .int .u64 0, .int .u64 0, .bool false, .int .u64 0, .int .u64 0, .int .u64 0, .int .u64 0] 40)
   have EE0 : Ext w W0 := by rw [hW0]; exact (((ext_alloc _ _).trans (ext_alloc _ _)).trans (ext_alloc _ _))
   rw [← hW0] at H2
   have EE := hide EE0
   have HW := hide hW0
   obtain ⟨P2, P3, P4⟩ : Box10 W0 (w.heap.size) (sg n1) (l0 n1) (l1 n1) (l2 n1) (l3 n1) (sg m1) (l0 m1) (l1 m1) (l2 m1) (l3 m1) ∧ Box10 W0 ((w.heap.size + 1)) (sg n2) (l0 n2) (l1 n2) (l2 n2) (l3 n2) (sg m2) (l0 m2) (l1 m2) (l2 m2) (l3 m2) ∧ Box10 W0 ((w.heap.size + 1 + 1)) false 0 0 0 0 false 0 0 0 0 := H2
   clear hW0 EE0
   go_enter Try.func44, Try.ntmps44
   go_upto_region 1 with fail
   rw [← HW.out]
   clear HW
   have hg0 : w.heap.size ≤ w.heap.size := Nat.le_refl _
   obtain ⟨g0, hg⟩ : ∃ g, w.heap.size = g := ⟨_, rfl⟩
   rw [hg] at P2 P3 P4 ⊢
   replace hg0 : w.heap.size ≤ g0 := Nat.le_of_eq hg
   clear hg
   obtain ⟨xP20, xP21, xP22, xP23, xP24, xP25, xP26, xP27, xP28, xP29, -⟩ := ten_cells P2; obtain ⟨xP30, xP31, xP32, xP33, xP34, xP35, xP36, xP37, xP38, xP39, -⟩ := ten_cells P3; obtain ⟨xP40, xP41, xP42, xP43, xP44, xP45, xP46, xP47, xP48, xP49, xP4f0, xP4f1, xP4f2, xP4f3, xP4f4, xP4f5, xP4f6, xP4f7, xP4f8, xP4f9⟩ := ten_cells P4
   go_wp2_with (first
     | (go_at_call 50; (with_reducible refine (kV1.out _).mono ?_); rintro e w1 ⟨rfl, hE⟩; clear xP20 xP21 xP22 xP23 xP24 xP25 xP26 xP27 xP28 xP29 xP30 xP31 xP32 xP33 xP34 xP35 xP36 xP37 xP38 xP39; clear xP40 xP41 xP42 xP43 xP44 xP45 xP46 xP47 xP48 xP49 xP4f0 xP4f1 xP4f2 xP4f3 xP4f4 xP4f5 xP4f6 xP4f7 xP4f8 xP4f9; have P2 := P2.ext hE; have P3 := P3.ext hE; have P4 := P4.ext hE; have EE := hide (EE.out.trans hE); clear hE; obtain ⟨xP20, xP21, xP22, xP23, xP24, xP25, xP26, xP27, xP28, xP29, -⟩ := ten_cells P2; obtain ⟨xP30, xP31, xP32, xP33, xP34, xP35, xP36, xP37, xP38, xP39, -⟩ := ten_cells P3; obtain ⟨xP40, xP41, xP42, xP43, xP44, xP45, xP46, xP47, xP48, xP49, xP4f0, xP4f1, xP4f2, xP4f3, xP4f4, xP4f5, xP4f6, xP4f7, xP4f8, xP4f9⟩ := ten_cells P4)
     | (go_at_call 50; (with_reducible refine (kV2.out _).mono ?_); rintro e w2 ⟨rfl, hE⟩; clear xP20 xP21 xP22 xP23 xP24 xP25 xP26 xP27 xP28 xP29 xP30 xP31 xP32 xP33 xP34 xP35 xP36 xP37 xP38 xP39; clear xP40 xP41 xP42 xP43 xP44 xP45 xP46 xP47 xP48 xP49 xP4f0 xP4f1 xP4f2 xP4f3 xP4f4 xP4f5 xP4f6 xP4f7 xP4f8 xP4f9; have P2 := P2.ext hE; have P3 := P3.ext hE; have P4 := P4.ext hE; have EE := hide (EE.out.trans hE); clear hE; obtain ⟨xP20, xP21, xP22, xP23, xP24, xP25, xP26, xP27, xP28, xP29, -⟩ := ten_cells P2; obtain ⟨xP30, xP31, xP32, xP33, xP34, xP35, xP36, xP37, xP38, xP39, -⟩ := ten_cells P3; obtain ⟨xP40, xP41, xP42, xP43, xP44, xP45, xP46, xP47, xP48, xP49, xP4f0, xP4f1, xP4f2, xP4f3, xP4f4, xP4f5, xP4f6, xP4f7, xP4f8, xP4f9⟩ := ten_cells P4)
     | (go_at_call 51; (with_reducible refine (kC.out _).mono ?_); rintro e w3 ⟨rfl, hE⟩; clear xP20 xP21 xP22 xP23 xP24 xP25 xP26 xP27 xP28 xP29 xP30 xP31 xP32 xP33 xP34 xP35 xP36 xP37 xP38 xP39; clear xP40 xP41 xP42 xP43 xP44 xP45 xP46 xP47 xP48 xP49 xP4f0 xP4f1 xP4f2 xP4f3 xP4f4 xP4f5 xP4f6 xP4f7 xP4f8 xP4f9; have P2 := P2.ext hE; have P3 := P3.ext hE; have P4 := P4.ext hE; have EE := hide (EE.out.trans hE); clear hE; obtain ⟨xP20, xP21, xP22, xP23, xP24, xP25, xP26, xP27, xP28, xP29, -⟩ := ten_cells P2; obtain ⟨xP30, xP31, xP32, xP33, xP34, xP35, xP36, xP37, xP38, xP39, -⟩ := ten_cells P3; obtain ⟨xP40, xP41, xP42, xP43, xP44, xP45, xP46, xP47, xP48, xP49, xP4f0, xP4f1, xP4f2, xP4f3, xP4f4, xP4f5, xP4f6, xP4f7, xP4f8, xP4f9⟩ := ten_cells P4)
     | (go_at_call 70; (with_reducible refine (kS.out _).mono ?_); rintro e w4 ⟨rfl, hE⟩; clear xP20 xP21 xP22 xP23 xP24 xP25 xP26 xP27 xP28 xP29 xP30 xP31 xP32 xP33 xP34 xP35 xP36 xP37 xP38 xP39; clear xP40 xP41 xP42 xP43 xP44 xP45 xP46 xP47 xP48 xP49 xP4f0 xP4f1 xP4f2 xP4f3 xP4f4 xP4f5 xP4f6 xP4f7 xP4f8 xP4f9; have P2 := P2.ext hE; have P3 := P3.ext hE; have P4 := P4.ext hE; have EE := hide (EE.out.trans hE); clear hE; obtain ⟨xP20, xP21, xP22, xP23, xP24, xP25, xP26, xP27, xP28, xP29, -⟩ := ten_cells P2; obtain ⟨xP30, xP31, xP32, xP33, xP34, xP35, xP36, xP37, xP38, xP39, -⟩ := ten_cells P3; obtain ⟨xP40, xP41, xP42, xP43, xP44, xP45, xP46, xP47, xP48, xP49, xP4f0, xP4f1, xP4f2, xP4f3, xP4f4, xP4f5, xP4f6, xP4f7, xP4f8, xP4f9⟩ := ten_cells P4)
     | (go_at_call 74; (with_reducible refine (kB.out _).mono ?_); rintro e w5 ⟨rfl, hE⟩; clear xP20 xP21 xP22 xP23 xP24 xP25 xP26 xP27 xP28 xP29 xP30 xP31 xP32 xP33 xP34 xP35 xP36 xP37 xP38 xP39; clear xP40 xP41 xP42 xP43 xP44 xP45 xP46 xP47 xP48 xP49 xP4f0 xP4f1 xP4f2 xP4f3 xP4f4 xP4f5 xP4f6 xP4f7 xP4f8 xP4f9; have P2 := P2.ext hE; have P3 := P3.ext hE; have P4 := P4.ext hE; have EE := hide (EE.out.trans hE); clear hE; obtain ⟨xP20, xP21, xP22, xP23, xP24, xP25, xP26, xP27, xP28, xP29, -⟩ := ten_cells P2; obtain ⟨xP30, xP31, xP32, xP33, xP34, xP35, xP36, xP37, xP38, xP39, -⟩ := ten_cells P3; obtain ⟨xP40, xP41, xP42, xP43, xP44, xP45, xP46, xP47, xP48, xP49, xP4f0, xP4f1, xP4f2, xP4f3, xP4f4, xP4f5, xP4f6, xP4f7, xP4f8, xP4f9⟩ := ten_cells P4))
   exact bodyPost_ret (v := .tuple #[.agg #[.bool (sg n), .int .u64 (l0 n : Int), .int .u64 (l1 n : Int), .int .u64 (l2 n : Int), .int .u64 (l3 n : Int), .bool (sg m), .int .u64 (l0 m : Int), .int .u64 (l1 m : Int), .int .u64 (l2 m : Int), .int .u64 (l3 m : Int)], .bool true]) (by simp [results, Try.results44, go_sem, xP40, xP41, xP42, xP43, xP44, xP45, xP46, xP47, xP48, xP49]) rfl ⟨rfl, ext_ten EE.out (by omega) _ _ _ _ _ _ _ _ _ _⟩
 · obtain ⟨j, hj, j1, j2, _⟩ := some_sign n1
   have hj0 : ¬ 0 < j := fun q => hp (j2.1 q)
   have kS : Hid (∀ w, Calls Try.prog 70 #[.agg #[.bool (sg n1), .int .u64 (l0 n1 : Int), .int .u64 (l1 n1 : Int), .int .u64 (l2 n1 : Int), .int .u64 (l3 n1 : Int)]] w (Ret (.int .i64 j) w)) := fun w => c_sign h1.fn hj w
   clear hj j1 j2
   by_cases hq : n2 < 0
   · obtain ⟨u1, hu1⟩ : ∃ u : Int, -n1 = u := ⟨_, rfl⟩
     obtain ⟨u2, hu2⟩ : ∃ u : Int, -n2 = u := ⟨_, rfl⟩
     obtain ⟨u, hu⟩ : ∃ u : Int, -n = u := ⟨_, rfl⟩
     have hun : -u = n := by omega
     have B' := B.neg
     rw [hu1, hu2, hu] at B'
     have hl' : u2 * m1 ≤ u1 * m2 := by rw [← hu1, ← hu2, Int.neg_mul, Int.neg_mul]; omega
     have S := (B.small h1.1 h2.1 hle).1
     have fu : F256 u := F256.mk (by have := h1.2.1; omega)
     have kT : Hid (∀ w, Calls Try.prog 70 #[.agg #[.bool (sg n2), .int .u64 (l0 n2 : Int), .int .u64 (l1 n2 : Int), .int .u64 (l2 n2 : Int), .int .u64 (l3 n2 : Int)]] w (Ret (.int .i64 (-1)) w)) := fun w => c_sign h2.fn (Int.sign_eq_neg_one_of_neg hq) w
     have kN1 : Hid (∀ w, Calls Try.prog 75 #[.agg #[.bool (sg n1), .int .u64 (l0 n1 : Int), .int .u64 (l1 n1 : Int), .int .u64 (l2 n1 : Int), .int .u64 (l3 n1 : Int), .bool (sg m1), .int .u64 (l0 m1 : Int), .int .u64 (l1 m1 : Int), .int .u64 (l2 m1 : Int), .int .u64 (l3 m1 : Int)]] w (Ret (.agg #[.bool (sg u1), .int .u64 (l0 u1 : Int), .int .u64 (l1 u1 : Int), .int .u64 (l2 u1 : Int), .int .u64 (l3 u1 : Int), .bool (sg m1), .int .u64 (l0 m1 : Int), .int .u64 (l1 m1 : Int), .int .u64 (l2 m1 : Int), .int .u64 (l3 m1 : Int)]) w)) := fun w => s_negative h1.fn hu1 w
     have kN2 : Hid (∀ w, Calls Try.prog 75 #[.agg #[.bool (sg n2), .int .u64 (l0 n2 : Int), .int .u64 (l1 n2 : Int), .int .u64 (l2 n2 : Int), .int .u64 (l3 n2 : Int), .bool (sg m2), .int .u64 (l0 m2 : Int), .int .u64 (l1 m2 : Int), .int .u64 (l2 m2 : Int), .int .u64 (l3 m2 : Int)]] w (Ret (.agg #[.bool (sg u2), .int .u64 (l0 u2 : Int), .int .u64 (l1 u2 : Int), .int .u64 (l2 u2 : Int), .int .u64 (l3 u2 : Int), .bool (sg m2), .int .u64 (l0 m2 : Int), .int .u64 (l1 m2 : Int), .int .u64 (l2 m2 : Int), .int .u64 (l3 m2 : Int)]) w)) := fun w => s_negative h2.fn hu2 w
     have kB : Hid (∀ w, Calls Try.prog 74 #[.agg #[.bool (sg u2), .int .u64 (l0 u2 : Int), .int .u64 (l1 u2 : Int), .int .u64 (l2 u2 : Int), .int .u64 (l3 u2 : Int), .bool (sg m2), .int .u64 (l0 m2 : Int), .int .u64 (l1 m2 : Int), .int .u64 (l2 m2 : Int), .int .u64 (l3 m2 : Int)], .agg #[.bool (sg u1), .int .u64 (l0 u1 : Int), .int .u64 (l1 u1 : Int), .int .u64 (l2 u1 : Int), .int .u64 (l3 u1 : Int), .bool (sg m1), .int .u64 (l0 m1 : Int), .int .u64 (l1 m1 : Int), .int .u64 (l2 m1 : Int), .int .u64 (l3 m1 : Int)]] w (Ret (.agg #[.bool (sg u), .int .u64 (l0 u : Int), .int .u64 (l1 u : Int), .int .u64 (l2 u : Int), .int .u64 (l3 u : Int), .bool (sg m), .int .u64 (l0 m : Int), .int .u64 (l1 m : Int), .int .u64 (l2 m : Int), .int .u64 (l3 m : Int)]) w)) := fun w => s_bp _ u2 m2 u1 m1 u m (Nat.lt_succ_self _) (by omega) h2.1 h1.1 hl' (by have := h2.2.1; omega) h2.2.2.1 (by have := h1.2.1; omega) h1.2.2.1 B' w
     have kN : Hid (∀ w, Calls Try.prog 75 #[.agg #[.bool (sg u), .int .u64 (l0 u : Int), .int .u64 (l1 u : Int), .int .u64 (l2 u : Int), .int .u64 (l3 u : Int), .bool (sg m), .int .u64 (l0 m : Int), .int .u64 (l1 m : Int), .int .u64 (l2 m : Int), .int .u64 (l3 m : Int)]] w (Ret (.agg #[.bool (sg n), .int .u64 (l0 n : Int), .int .u64 (l1 n : Int), .int .u64 (l2 n : Int), .int .u64 (l3 n : Int), .bool (sg m), .int .u64 (l0 m : Int), .int .u64 (l1 m : Int), .int .u64 (l2 m : Int), .int .u64 (l3 m : Int)]) w)) := fun w => s_negative fu hun w
     clear h1 h2 hle B hp hq hu1 hu2 hu hun B' hl' S fu
     obtain ⟨W0, hW0⟩ : ∃ W0, W0 = (((w.alloc (.cells #[.bool (sg n1), .int .u64 (l0 n1 : Int), .int .u64 (l1 n1 : Int), .int .u64 (l2 n1 : Int), .int .u64 (l3 n1 : Int), .bool (sg m1), .int .u64 (l0 m1 : Int), .int .u64 (l1 m1 : Int), .int .u64 (l2 m1 : Int), .int .u64 (l3 m1 : Int)] 40)).alloc (.cells #[.bool (sg n2), .int .u64 (l0 n2 : Int), .int .u64 (l1 n2 : Int), .int .u64 (l2 n2 : Int), .int .u64 (l3 n2 : Int), .bool (sg m2), .int .u64 (l0 m2 : Int), .int .u64 (l1 m2 : Int), .int .u64 (l2 m2 : Int), .int .u64 (l3 m2 : Int)] 40)).alloc (.cells #[.bool false, .int .u64 0, .int .u64 0, .int .u64 0, .int .u64 0, .bool false, .int .u64 0, .int .u64 0, .int .u64 0, .int .u64 0] 40)) := ⟨_, rfl⟩
     have H2 := three_boxes w (.cells #[.bool (sg n1), .int .u64 (l0 n1 : Int), .int .u64 (l1 n1 : Int), .int .u64 (l2 n1 : Int), .int .u64 (l3 n1 : Int), .bool (sg m1), .int .u64 (l0 m1 : Int), .int .u64 (l1 m1 : Int), .int .u64 (l2 m1 : Int), .int .u64 (l3 m1 : Int)] 40) (.cells #[.bool (sg n2), .int .u64 (l0 n2 : Int), .int .u64 (l1 n2 : Int), .int .u64 (l2 n2 : Int), .int .u64 (l3 n2 : Int), .bool (sg m2), .int .u64 (l0 m2 : Int), .int .u64 (l1 m2 : Int), .int .u64 (l2 m2 : Int), .int .u64 (l3 m2 : Int)] 40) (.cells #[.bool false, .int .u64 0, .int .u64 0, .int .u64 0, .int .u64 0, .bool false, .int .u64 0, .int .u64 0, .int .u64 0, .int .u64 0] 40)
     have EE0 : Ext w W0 := by rw [hW0]; exact (((ext_alloc _ _).trans (ext_alloc _ _)).trans (ext_alloc _ _))
     rw [← hW0] at H2
     have EE := hide EE0
     have HW := hide hW0
     obtain ⟨P2, P3, P4⟩ : Box10 W0 (w.heap.size) (sg n1) (l0 n1) (l1 n1) (l2 n1) (l3 n1) (sg m1) (l0 m1) (l1 m1) (l2 m1) (l3 m1) ∧ Box10 W0 ((w.heap.size + 1)) (sg n2) (l0 n2) (l1 n2) (l2 n2) (l3 n2) (sg m2) (l0 m2) (l1 m2) (l2 m2) (l3 m2) ∧ Box10 W0 ((w.heap.size + 1 + 1)) false 0 0 0 0 false 0 0 0 0 := H2
     clear hW0 EE0
     go_enter Try.func44, Try.ntmps44
     go_upto_region 1 with fail
     rw [← HW.out]
     clear HW
     have hg0 : w.heap.size ≤ w.heap.size := Nat.le_refl _
     obtain ⟨g0, hg⟩ : ∃ g, w.heap.size = g := ⟨_, rfl⟩
     rw [hg] at P2 P3 P4 ⊢
     replace hg0 : w.heap.size ≤ g0 := Nat.le_of_eq hg
     clear hg
     obtain ⟨xP20, xP21, xP22, xP23, xP24, xP25, xP26, xP27, xP28, xP29, -⟩ := ten_cells P2; obtain ⟨xP30, xP31, xP32, xP33, xP34, xP35, xP36, xP37, xP38, xP39, -⟩ := ten_cells P3
     go_upto_region 3 with (first
       | (go_at_call 50; (with_reducible refine (kV1.out _).mono ?_); rintro e w1 ⟨rfl, hE⟩; clear xP20 xP21 xP22 xP23 xP24 xP25 xP26 xP27 xP28 xP29 xP30 xP31 xP32 xP33 xP34 xP35 xP36 xP37 xP38 xP39; have P2 := P2.ext hE; have P3 := P3.ext hE; have P4 := P4.ext hE; have EE := hide (EE.out.trans hE); clear hE; obtain ⟨xP20, xP21, xP22, xP23, xP24, xP25, xP26, xP27, xP28, xP29, -⟩ := ten_cells P2; obtain ⟨xP30, xP31, xP32, xP33, xP34, xP35, xP36, xP37, xP38, xP39, -⟩ := ten_cells P3)
       | (go_at_call 50; (with_reducible refine (kV2.out _).mono ?_); rintro e w2 ⟨rfl, hE⟩; clear xP20 xP21 xP22 xP23 xP24 xP25 xP26 xP27 xP28 xP29 xP30 xP31 xP32 xP33 xP34 xP35 xP36 xP37 xP38 xP39; have P2 := P2.ext hE; have P3 := P3.ext hE; have P4 := P4.ext hE; have EE := hide (EE.out.trans hE); clear hE; obtain ⟨xP20, xP21, xP22, xP23, xP24, xP25, xP26, xP27, xP28, xP29, -⟩ := ten_cells P2; obtain ⟨xP30, xP31, xP32, xP33, xP34, xP35, xP36, xP37, xP38, xP39, -⟩ := ten_cells P3)
       | (go_at_call 51; (with_reducible refine (kC.out _).mono ?_); rintro e w3 ⟨rfl, hE⟩; clear xP20 xP21 xP22 xP23 xP24 xP25 xP26 xP27 xP28 xP29 xP30 xP31 xP32 xP33 xP34 xP35 xP36 xP37 xP38 xP39; have P2 := P2.ext hE; have P3 := P3.ext hE; have P4 := P4.ext hE; have EE := hide (EE.out.trans hE); clear hE; obtain ⟨xP20, xP21, xP22, xP23, xP24, xP25, xP26, xP27, xP28, xP29, -⟩ := ten_cells P2; obtain ⟨xP30, xP31, xP32, xP33, xP34, xP35, xP36, xP37, xP38, xP39, -⟩ := ten_cells P3))
     clear xP20 xP21 xP22 xP23 xP24 xP25 xP26 xP27 xP28 xP29 xP30 xP31 xP32 xP33 xP34 xP35 xP36 xP37 xP38 xP39
     obtain ⟨xP20, xP21, xP22, xP23, xP24, xP25, xP26, xP27, xP28, xP29, -⟩ := ten_cells P2
     go_upto_region 5 with (go_at_call 70; (with_reducible refine (kS.out _).mono ?_); rintro e w4 ⟨rfl, hE⟩; clear xP20 xP21 xP22 xP23 xP24 xP25 xP26 xP27 xP28 xP29; have P2 := P2.ext hE; have P3 := P3.ext hE; have P4 := P4.ext hE; have EE := hide (EE.out.trans hE); clear hE; obtain ⟨xP20, xP21, xP22, xP23, xP24, xP25, xP26, xP27, xP28, xP29, -⟩ := ten_cells P2)
     clear xP20 xP21 xP22 xP23 xP24 xP25 xP26 xP27 xP28 xP29
     obtain ⟨xP30, xP31, xP32, xP33, xP34, xP35, xP36, xP37, xP38, xP39, -⟩ := ten_cells P3
     go_upto_region 6 with (go_at_call 70; (with_reducible refine (kT.out _).mono ?_); rintro e w5 ⟨rfl, hE⟩; clear xP30 xP31 xP32 xP33 xP34 xP35 xP36 xP37 xP38 xP39; have P2 := P2.ext hE; have P3 := P3.ext hE; have P4 := P4.ext hE; have EE := hide (EE.out.trans hE); clear hE; obtain ⟨xP30, xP31, xP32, xP33, xP34, xP35, xP36, xP37, xP38, xP39, -⟩ := ten_cells P3)
     clear xP30 xP31 xP32 xP33 xP34 xP35 xP36 xP37 xP38 xP39
     have lbP2 := P2.lt
     have lbP3 := P3.lt
     have lbP4 := P4.lt
     have ltW0 : ∀ c, Tag.so c ∈ [.q, .q, .q, .q, .q, .q, .so 0, .q] → (fun _ => g0 + 1 + 1) c < w5.heap.size := by intro c hc; simp at hc; (try subst hc); (try simp only); omega
     refine wp_decl [.q, .q, .q, .q, .q, .q, .so 0, .q] [.agg #[.bool (sg n2), .int .u64 (l0 n2 : Int), .int .u64 (l1 n2 : Int), .int .u64 (l2 n2 : Int), .int .u64 (l3 n2 : Int), .bool (sg m2), .int .u64 (l0 m2 : Int), .int .u64 (l1 m2 : Int), .int .u64 (l2 m2 : Int), .int .u64 (l3 m2 : Int)], .agg #[.bool (sg u2), .int .u64 (l0 u2 : Int), .int .u64 (l1 u2 : Int), .int .u64 (l2 u2 : Int), .int .u64 (l3 u2 : Int), .bool (sg m2), .int .u64 (l0 m2 : Int), .int .u64 (l1 m2 : Int), .int .u64 (l2 m2 : Int), .int .u64 (l3 m2 : Int)], .agg #[.bool (sg n1), .int .u64 (l0 n1 : Int), .int .u64 (l1 n1 : Int), .int .u64 (l2 n1 : Int), .int .u64 (l3 n1 : Int), .bool (sg m1), .int .u64 (l0 m1 : Int), .int .u64 (l1 m1 : Int), .int .u64 (l2 m1 : Int), .int .u64 (l3 m1 : Int)], .agg #[.bool (sg u1), .int .u64 (l0 u1 : Int), .int .u64 (l1 u1 : Int), .int .u64 (l2 u1 : Int), .int .u64 (l3 u1 : Int), .bool (sg m1), .int .u64 (l0 m1 : Int), .int .u64 (l1 m1 : Int), .int .u64 (l2 m1 : Int), .int .u64 (l3 m1 : Int)], .agg #[.bool (sg u), .int .u64 (l0 u : Int), .int .u64 (l1 u : Int), .int .u64 (l2 u : Int), .int .u64 (l3 u : Int), .bool (sg m), .int .u64 (l0 m : Int), .int .u64 (l1 m : Int), .int .u64 (l2 m : Int), .int .u64 (l3 m : Int)], .agg #[.bool (sg n), .int .u64 (l0 n : Int), .int .u64 (l1 n : Int), .int .u64 (l2 n : Int), .int .u64 (l3 n : Int), .bool (sg m), .int .u64 (l0 m : Int), .int .u64 (l1 m : Int), .int .u64 (l2 m : Int), .int .u64 (l3 m : Int)], undef, .bool true] (fun _ => (.cells #[.bool false, .int .u64 0, .int .u64 0, .int .u64 0, .int .u64 0] 25 (0, 0))) (fun _ => (.cells #[.bool (sg n), .int .u64 (l0 n : Int), .int .u64 (l1 n : Int), .int .u64 (l2 n : Int), .int .u64 (l3 n : Int), .bool (sg m), .int .u64 (l0 m : Int), .int .u64 (l1 m : Int), .int .u64 (l2 m : Int), .int .u64 (l3 m : Int)] 40 (0, 0))) (fun _ => g0 + 1 + 1) (by kernel_rfl) (by kernel_rfl) (by kernel_rfl) rfl rfl ltW0 (by intro c c' h1 h2 _; simp at h1 h2; omega) ?_ ?_
     · refine ⟨?_, ?_, ?_, ?_, ?_, ?_, ?_, ?_, trivial⟩
       · refine op_q ?uvn2 ?h1n2 ?h2n2 ?h3n2
         case h1n2 => exact rfl
         case uvn2 => exact (.agg #[.bool (sg n2), .int .u64 (l0 n2 : Int), .int .u64 (l1 n2 : Int), .int .u64 (l2 n2 : Int), .int .u64 (l3 n2 : Int), .bool (sg m2), .int .u64 (l0 m2 : Int), .int .u64 (l1 m2 : Int), .int .u64 (l2 m2 : Int), .int .u64 (l3 m2 : Int)])
         case h2n2 => exact rfl
         intro w' hw'
         have P3 := P3.same hw' (by intro c hc; simp at hc; (try subst hc); (try simp only); omega)
         have xP3 := ten_cells P3
         go_simp
       · refine op_q ?uvn3 ?h1n3 ?h2n3 ?h3n3
         case h1n3 => exact rfl
         case uvn3 => exact (.agg #[.bool (sg u2), .int .u64 (l0 u2 : Int), .int .u64 (l1 u2 : Int), .int .u64 (l2 u2 : Int), .int .u64 (l3 u2 : Int), .bool (sg m2), .int .u64 (l0 m2 : Int), .int .u64 (l1 m2 : Int), .int .u64 (l2 m2 : Int), .int .u64 (l3 m2 : Int)])
         case h2n3 => exact rfl
         intro w' hw'
         go_simp
         exact kN2.out w'
       · refine op_q ?uvn4 ?h1n4 ?h2n4 ?h3n4
         case h1n4 => exact rfl
         case uvn4 => exact (.agg #[.bool (sg n1), .int .u64 (l0 n1 : Int), .int .u64 (l1 n1 : Int), .int .u64 (l2 n1 : Int), .int .u64 (l3 n1 : Int), .bool (sg m1), .int .u64 (l0 m1 : Int), .int .u64 (l1 m1 : Int), .int .u64 (l2 m1 : Int), .int .u64 (l3 m1 : Int)])
         case h2n4 => exact rfl
         intro w' hw'
         have P2 := P2.same hw' (by intro c hc; simp at hc; (try subst hc); (try simp only); omega)
         have xP2 := ten_cells P2
         go_simp
       · refine op_q ?uvn5 ?h1n5 ?h2n5 ?h3n5
         case h1n5 => exact rfl
         case uvn5 => exact (.agg #[.bool (sg u1), .int .u64 (l0 u1 : Int), .int .u64 (l1 u1 : Int), .int .u64 (l2 u1 : Int), .int .u64 (l3 u1 : Int), .bool (sg m1), .int .u64 (l0 m1 : Int), .int .u64 (l1 m1 : Int), .int .u64 (l2 m1 : Int), .int .u64 (l3 m1 : Int)])
         case h2n5 => exact rfl
         intro w' hw'
         go_simp
         exact kN1.out w'
       · refine op_q ?uvn6 ?h1n6 ?h2n6 ?h3n6
         case h1n6 => exact rfl
         case uvn6 => exact (.agg #[.bool (sg u), .int .u64 (l0 u : Int), .int .u64 (l1 u : Int), .int .u64 (l2 u : Int), .int .u64 (l3 u : Int), .bool (sg m), .int .u64 (l0 m : Int), .int .u64 (l1 m : Int), .int .u64 (l2 m : Int), .int .u64 (l3 m : Int)])
         case h2n6 => exact rfl
         intro w' hw'
         go_simp
         exact kB.out w'
       · refine op_q ?uvn7 ?h1n7 ?h2n7 ?h3n7
         case h1n7 => exact rfl
         case uvn7 => exact (.agg #[.bool (sg n), .int .u64 (l0 n : Int), .int .u64 (l1 n : Int), .int .u64 (l2 n : Int), .int .u64 (l3 n : Int), .bool (sg m), .int .u64 (l0 m : Int), .int .u64 (l1 m : Int), .int .u64 (l2 m : Int), .int .u64 (l3 m : Int)])
         case h2n7 => exact rfl
         intro w' hw'
         go_simp
         exact kN.out w'
       · refine op_so (c := 0) (T := ?uTn8) (p := ?upn8) (x := ?uxn8) ?ugn8 ?ufn8 ?uvn8 ?h1n8 ?h2n8 ?h3n8 ?h4n8 ?h5n8 ?h6n8 ?h7n8
         case h1n8 => exact rfl
         case h2n8 => exact rfl
         case ufn8 => exact (.cells #[.bool (sg n), .int .u64 (l0 n : Int), .int .u64 (l1 n : Int), .int .u64 (l2 n : Int), .int .u64 (l3 n : Int), .bool (sg m), .int .u64 (l0 m : Int), .int .u64 (l1 m : Int), .int .u64 (l2 m : Int), .int .u64 (l3 m : Int)] 40 (0, 0))
         case ugn8 => exact g0 + 1 + 1
         case uvn8 => exact (.agg #[.bool (sg n), .int .u64 (l0 n : Int), .int .u64 (l1 n : Int), .int .u64 (l2 n : Int), .int .u64 (l3 n : Int), .bool (sg m), .int .u64 (l0 m : Int), .int .u64 (l1 m : Int), .int .u64 (l2 m : Int), .int .u64 (l3 m : Int)])
         case h3n8 => exact rfl
         case h4n8 => exact rfl
         case h5n8 => go_simp; rfl
         case h6n8 => go_simp
         intro ρ w' hp hx hz
         exact store_ratio rfl hp hx (hz.trans P4)
       · refine op_q ?uvn9 ?h1n9 ?h2n9 ?h3n9
         case h1n9 => exact rfl
         case uvn9 => exact (.bool true)
         case h2n9 => exact rfl
         intro w' hw'
         go_simp
     · intro G W6 hI
       have hS := hI.same
       have P2 := P2.same hS (by intro c hc; simp at hc; (try subst hc); (try simp only); omega)
       have P3 := P3.same hS (by intro c hc; simp at hc; (try subst hc); (try simp only); omega)
       have hso : ∀ c, Tag.so c ∈ [.q, .q, .q, .q, .q, .q, .so 0, .q] → w.heap.size ≤ (fun _ => g0 + 1 + 1) c := by intro c hc; simp at hc; (try subst hc); (try simp only); omega
       have EE := hide (hS.ext' EE.out hso)
       have P4 : Box10 W6 (g0 + 1 + 1) (sg n) (l0 n) (l1 n) (l2 n) (l3 n) (sg m) (l0 m) (l1 m) (l2 m) (l3 m) := hI.olds' 6 (List.mem_range.2 (show 6 < 8 by decide)) 0 rfl
       clear hI hS
       simp only [putAll, slotV, ptrTo, Nat.zero_add, Nat.reduceAdd]
       go_wp2_with fail
       obtain ⟨xP40, xP41, xP42, xP43, xP44, xP45, xP46, xP47, xP48, xP49, xP4f0, xP4f1, xP4f2, xP4f3, xP4f4, xP4f5, xP4f6, xP4f7, xP4f8, xP4f9⟩ := ten_cells P4
       exact bodyPost_ret (v := .tuple #[.agg #[.bool (sg n), .int .u64 (l0 n : Int), .int .u64 (l1 n : Int), .int .u64 (l2 n : Int), .int .u64 (l3 n : Int), .bool (sg m), .int .u64 (l0 m : Int), .int .u64 (l1 m : Int), .int .u64 (l2 m : Int), .int .u64 (l3 m : Int)], .bool true]) (by simp [results, Try.results44, go_sem, xP40, xP41, xP42, xP43, xP44, xP45, xP46, xP47, xP48, xP49]) rfl ⟨rfl, EE.out⟩
   · obtain ⟨en, em⟩ := Best.unique h1.1 h2.1 B (Best.zero (by omega) (by omega))
     subst en em
     obtain ⟨i, hi, i1, i2, _⟩ := some_sign n2
     have hi0 : ¬ i < 0 := fun q => hq (i1.1 q)
     have kT : Hid (∀ w, Calls Try.prog 70 #[.agg #[.bool (sg n2), .int .u64 (l0 n2 : Int), .int .u64 (l1 n2 : Int), .int .u64 (l2 n2 : Int), .int .u64 (l3 n2 : Int)]] w (Ret (.int .i64 i) w)) := fun w => c_sign h2.fn hi w
     have kO : Hid (∀ w, Calls Try.prog 43 #[.int .i64 0] w (Ret (.agg #[.bool (sg 0), .int .u64 (l0 0 : Int), .int .u64 (l1 0 : Int), .int .u64 (l2 0 : Int), .int .u64 (l3 0 : Int), .bool (sg 1), .int .u64 (l0 1 : Int), .int .u64 (l1 1 : Int), .int .u64 (l2 1 : Int), .int .u64 (l3 1 : Int)]) w)) := fun w => g_of (by omega) (by omega) w
     clear h1 h2 hle B hp hq hi i1 i2
     obtain ⟨W0, hW0⟩ : ∃ W0, W0 = (((w.alloc (.cells #[.bool (sg n1), .int .u64 (l0 n1 : Int), .int .u64 (l1 n1 : Int), .int .u64 (l2 n1 : Int), .int .u64 (l3 n1 : Int), .bool (sg m1), .int .u64 (l0 m1 : Int), .int .u64 (l1 m1 : Int), .int .u64 (l2 m1 : Int), .int .u64 (l3 m1 : Int)] 40)).alloc (.cells #[.bool (sg n2), .int .u64 (l0 n2 : Int), .int .u64 (l1 n2 : Int), .int .u64 (l2 n2 : Int), .int .u64 (l3 n2 : Int), .bool (sg m2), .int .u64 (l0 m2 : Int), .int .u64 (l1 m2 : Int), .int .u64 (l2 m2 : Int), .int .u64 (l3 m2 : Int)] 40)).alloc (.cells #[.bool false, .int .u64 0, .int .u64 0, .int .u64 0, .int .u64 0, .bool false, .int .u64 0, .int .u64 0, .int .u64 0, .int .u64 0] 40)) := ⟨_, rfl⟩
     have H2 := three_boxes w (.cells #[.bool (sg n1), .int .u64 (l0 n1 : Int), .int .u64 (l1 n1 : Int), .int .u64 (l2 n1 : Int), .int .u64 (l3 n1 : Int), .bool (sg m1), .int .u64 (l0 m1 : Int), .int .u64 (l1 m1 : Int), .int .u64 (l2 m1 : Int), .int .u64 (l3 m1 : Int)] 40) (.cells #[.bool (sg n2), .int .u64 (l0 n2 : Int), .int .u64 (l1 n2 : Int), .int .u64 (l2 n2 : Int), .int .u64 (l3 n2 : Int), .bool (sg m2), .int .u64 (l0 m2 : Int), .int .u64 (l1 m2 : Int), .int .u64 (l2 m2 : Int), .int .u64 (l3 m2 : Int)] 40) (.cells #[.bool false, .int .u64 0, .int .u64 0, .int .u64 0, .int .u64 0, .bool false, .int .u64 0, .int .u64 0, .int .u64 0, .int .u64 0] 40)
     have EE0 : Ext w W0 := by rw [hW0]; exact (((ext_alloc _ _).trans (ext_alloc _ _)).trans (ext_alloc _ _))
     rw [← hW0] at H2
     have EE := hide EE0
     have HW := hide hW0
     obtain ⟨P2, P3, P4⟩ : Box10 W0 (w.heap.size) (sg n1) (l0 n1) (l1 n1) (l2 n1) (l3 n1) (sg m1) (l0 m1) (l1 m1) (l2 m1) (l3 m1) ∧ Box10 W0 ((w.heap.size + 1)) (sg n2) (l0 n2) (l1 n2) (l2 n2) (l3 n2) (sg m2) (l0 m2) (l1 m2) (l2 m2) (l3 m2) ∧ Box10 W0 ((w.heap.size + 1 + 1)) false 0 0 0 0 false 0 0 0 0 := H2
     clear hW0 EE0
     go_enter Try.func44, Try.ntmps44
     go_upto_region 1 with fail
     rw [← HW.out]
     clear HW
     have hg0 : w.heap.size ≤ w.heap.size := Nat.le_refl _
     obtain ⟨g0, hg⟩ : ∃ g, w.heap.size = g := ⟨_, rfl⟩
     rw [hg] at P2 P3 P4 ⊢
     replace hg0 : w.heap.size ≤ g0 := Nat.le_of_eq hg
     clear hg
     obtain ⟨xP20, xP21, xP22, xP23, xP24, xP25, xP26, xP27, xP28, xP29, -⟩ := ten_cells P2; obtain ⟨xP30, xP31, xP32, xP33, xP34, xP35, xP36, xP37, xP38, xP39, -⟩ := ten_cells P3; obtain ⟨xP40, xP41, xP42, xP43, xP44, xP45, xP46, xP47, xP48, xP49, xP4f0, xP4f1, xP4f2, xP4f3, xP4f4, xP4f5, xP4f6, xP4f7, xP4f8, xP4f9⟩ := ten_cells P4
     go_wp2_with (first
       | (go_at_call 50; (with_reducible refine (kV1.out _).mono ?_); rintro e w1 ⟨rfl, hE⟩; clear xP20 xP21 xP22 xP23 xP24 xP25 xP26 xP27 xP28 xP29 xP30 xP31 xP32 xP33 xP34 xP35 xP36 xP37 xP38 xP39; clear xP40 xP41 xP42 xP43 xP44 xP45 xP46 xP47 xP48 xP49 xP4f0 xP4f1 xP4f2 xP4f3 xP4f4 xP4f5 xP4f6 xP4f7 xP4f8 xP4f9; have P2 := P2.ext hE; have P3 := P3.ext hE; have P4 := P4.ext hE; have EE := hide (EE.out.trans hE); clear hE; obtain ⟨xP20, xP21, xP22, xP23, xP24, xP25, xP26, xP27, xP28, xP29, -⟩ := ten_cells P2; obtain ⟨xP30, xP31, xP32, xP33, xP34, xP35, xP36, xP37, xP38, xP39, -⟩ := ten_cells P3; obtain ⟨xP40, xP41, xP42, xP43, xP44, xP45, xP46, xP47, xP48, xP49, xP4f0, xP4f1, xP4f2, xP4f3, xP4f4, xP4f5, xP4f6, xP4f7, xP4f8, xP4f9⟩ := ten_cells P4)
       | (go_at_call 50; (with_reducible refine (kV2.out _).mono ?_); rintro e w2 ⟨rfl, hE⟩; clear xP20 xP21 xP22 xP23 xP24 xP25 xP26 xP27 xP28 xP29 xP30 xP31 xP32 xP33 xP34 xP35 xP36 xP37 xP38 xP39; clear xP40 xP41 xP42 xP43 xP44 xP45 xP46 xP47 xP48 xP49 xP4f0 xP4f1 xP4f2 xP4f3 xP4f4 xP4f5 xP4f6 xP4f7 xP4f8 xP4f9; have P2 := P2.ext hE; have P3 := P3.ext hE; have P4 := P4.ext hE; have EE := hide (EE.out.trans hE); clear hE; obtain ⟨xP20, xP21, xP22, xP23, xP24, xP25, xP26, xP27, xP28, xP29, -⟩ := ten_cells P2; obtain ⟨xP30, xP31, xP32, xP33, xP34, xP35, xP36, xP37, xP38, xP39, -⟩ := ten_cells P3; obtain ⟨xP40, xP41, xP42, xP43, xP44, xP45, xP46, xP47, xP48, xP49, xP4f0, xP4f1, xP4f2, xP4f3, xP4f4, xP4f5, xP4f6, xP4f7, xP4f8, xP4f9⟩ := ten_cells P4)
       | (go_at_call 51; (with_reducible refine (kC.out _).mono ?_); rintro e w3 ⟨rfl, hE⟩; clear xP20 xP21 xP22 xP23 xP24 xP25 xP26 xP27 xP28 xP29 xP30 xP31 xP32 xP33 xP34 xP35 xP36 xP37 xP38 xP39; clear xP40 xP41 xP42 xP43 xP44 xP45 xP46 xP47 xP48 xP49 xP4f0 xP4f1 xP4f2 xP4f3 xP4f4 xP4f5 xP4f6 xP4f7 xP4f8 xP4f9; have P2 := P2.ext hE; have P3 := P3.ext hE; have P4 := P4.ext hE; have EE := hide (EE.out.trans hE); clear hE; obtain ⟨xP20, xP21, xP22, xP23, xP24, xP25, xP26, xP27, xP28, xP29, -⟩ := ten_cells P2; obtain ⟨xP30, xP31, xP32, xP33, xP34, xP35, xP36, xP37, xP38, xP39, -⟩ := ten_cells P3; obtain ⟨xP40, xP41, xP42, xP43, xP44, xP45, xP46, xP47, xP48, xP49, xP4f0, xP4f1, xP4f2, xP4f3, xP4f4, xP4f5, xP4f6, xP4f7, xP4f8, xP4f9⟩ := ten_cells P4)
       | (go_at_call 70; (with_reducible refine (kS.out _).mono ?_); rintro e w4 ⟨rfl, hE⟩; clear xP20 xP21 xP22 xP23 xP24 xP25 xP26 xP27 xP28 xP29 xP30 xP31 xP32 xP33 xP34 xP35 xP36 xP37 xP38 xP39; clear xP40 xP41 xP42 xP43 xP44 xP45 xP46 xP47 xP48 xP49 xP4f0 xP4f1 xP4f2 xP4f3 xP4f4 xP4f5 xP4f6 xP4f7 xP4f8 xP4f9; have P2 := P2.ext hE; have P3 := P3.ext hE; have P4 := P4.ext hE; have EE := hide (EE.out.trans hE); clear hE; obtain ⟨xP20, xP21, xP22, xP23, xP24, xP25, xP26, xP27, xP28, xP29, -⟩ := ten_cells P2; obtain ⟨xP30, xP31, xP32, xP33, xP34, xP35, xP36, xP37, xP38, xP39, -⟩ := ten_cells P3; obtain ⟨xP40, xP41, xP42, xP43, xP44, xP45, xP46, xP47, xP48, xP49, xP4f0, xP4f1, xP4f2, xP4f3, xP4f4, xP4f5, xP4f6, xP4f7, xP4f8, xP4f9⟩ := ten_cells P4)
       | (go_at_call 70; (with_reducible refine (kT.out _).mono ?_); rintro e w5 ⟨rfl, hE⟩; clear xP20 xP21 xP22 xP23 xP24 xP25 xP26 xP27 xP28 xP29 xP30 xP31 xP32 xP33 xP34 xP35 xP36 xP37 xP38 xP39; clear xP40 xP41 xP42 xP43 xP44 xP45 xP46 xP47 xP48 xP49 xP4f0 xP4f1 xP4f2 xP4f3 xP4f4 xP4f5 xP4f6 xP4f7 xP4f8 xP4f9; have P2 := P2.ext hE; have P3 := P3.ext hE; have P4 := P4.ext hE; have EE := hide (EE.out.trans hE); clear hE; obtain ⟨xP20, xP21, xP22, xP23, xP24, xP25, xP26, xP27, xP28, xP29, -⟩ := ten_cells P2; obtain ⟨xP30, xP31, xP32, xP33, xP34, xP35, xP36, xP37, xP38, xP39, -⟩ := ten_cells P3; obtain ⟨xP40, xP41, xP42, xP43, xP44, xP45, xP46, xP47, xP48, xP49, xP4f0, xP4f1, xP4f2, xP4f3, xP4f4, xP4f5, xP4f6, xP4f7, xP4f8, xP4f9⟩ := ten_cells P4)
       | (go_at_call 43; (with_reducible refine (kO.out _).mono ?_); rintro e w6 ⟨rfl, hE⟩; clear xP20 xP21 xP22 xP23 xP24 xP25 xP26 xP27 xP28 xP29 xP30 xP31 xP32 xP33 xP34 xP35 xP36 xP37 xP38 xP39; clear xP40 xP41 xP42 xP43 xP44 xP45 xP46 xP47 xP48 xP49 xP4f0 xP4f1 xP4f2 xP4f3 xP4f4 xP4f5 xP4f6 xP4f7 xP4f8 xP4f9; have P2 := P2.ext hE; have P3 := P3.ext hE; have P4 := P4.ext hE; have EE := hide (EE.out.trans hE); clear hE; obtain ⟨xP20, xP21, xP22, xP23, xP24, xP25, xP26, xP27, xP28, xP29, -⟩ := ten_cells P2; obtain ⟨xP30, xP31, xP32, xP33, xP34, xP35, xP36, xP37, xP38, xP39, -⟩ := ten_cells P3; obtain ⟨xP40, xP41, xP42, xP43, xP44, xP45, xP46, xP47, xP48, xP49, xP4f0, xP4f1, xP4f2, xP4f3, xP4f4, xP4f5, xP4f6, xP4f7, xP4f8, xP4f9⟩ := ten_cells P4))
     exact bodyPost_ret (v := .tuple #[.agg #[.bool (sg 0), .int .u64 (l0 0 : Int), .int .u64 (l1 0 : Int), .int .u64 (l2 0 : Int), .int .u64 (l3 0 : Int), .bool (sg 1), .int .u64 (l0 1 : Int), .int .u64 (l1 1 : Int), .int .u64 (l2 1 : Int), .int .u64 (l3 1 : Int)], .bool true]) (by simp [results, Try.results44, go_sem, xP40, xP41, xP42, xP43, xP44, xP45, xP46, xP47, xP48, xP49]) rfl ⟨rfl, ext_ten EE.out (by omega) _ _ _ _ _ _ _ _ _ _⟩
end
section
open Go Go.RowKit
theorem neg_iff {s : Bool} {a b c d : Nat} {z : Int} (h : IsC s a b c d z) : s = decide (z < 0) := by
 obtain ⟨⟨h1, h2, h3, h4, h5⟩, h6⟩ := h
 cases s
 · simp at h5; symm; rw [decide_eq_false_iff_not]; omega
 · have := h6 rfl; simp at h5; symm; rw [decide_eq_true_iff]; omega
theorem make_parts {s t : Bool} {a b c d e f g h : Nat} {x y : Int} (hx : IsC s a b c d x) (hy : IsC t e f g h y) (hy0 : y ≠ 0) :
   numR x y = (if (s != t) = true then -((x.natAbs : Int) / ((Int.gcd (x.natAbs : Int) (y.natAbs : Int) : Nat) : Int)) else (x.natAbs : Int) / ((Int.gcd (x.natAbs : Int) (y.natAbs : Int) : Nat) : Int)) ∧ denR x y = (y.natAbs : Int) / ((Int.gcd (x.natAbs : Int) (y.natAbs : Int) : Nat) : Int) ∧ (0 : Int) < ((Int.gcd (x.natAbs : Int) (y.natAbs : Int) : Nat) : Int) := by
 rw [neg_iff hx, neg_iff hy]
 have e1 : Int.gcd (x.natAbs : Int) (y.natAbs : Int) = Int.gcd x y := by simp [Int.gcd]
 rw [e1]
 have hg : 0 < Int.gcd x y := Int.gcd_pos_of_ne_zero_right x hy0
 obtain ⟨u, hu⟩ := Int.gcd_dvd_left x y
 obtain ⟨v, hv⟩ := Int.gcd_dvd_right x y
 obtain ⟨G, hG⟩ : ∃ G : Int, ((Int.gcd x y : Nat) : Int) = G := ⟨_, rfl⟩
 unfold numR denR
 rw [hG] at hu hv ⊢
 have hG0 : 0 < G := by omega
 have hGn : G ≠ 0 := by omega
 have hnx : -x = G * (-u) := by rw [Int.mul_neg, ← hu]
 have hny : -y = G * (-v) := by rw [Int.mul_neg, ← hv]
 have q1 : x / G = u := by rw [hu]; exact Int.mul_ediv_cancel_left _ hGn
 have q2 : y / G = v := by rw [hv]; exact Int.mul_ediv_cancel_left _ hGn
 have q3 : (-x) / G = -u := by rw [hnx]; exact Int.mul_ediv_cancel_left _ hGn
 have q4 : (-y) / G = -v := by rw [hny]; exact Int.mul_ediv_cancel_left _ hGn
 have ax : (x.natAbs : Int) = if x < 0 then -x else x := by split <;> omega
 have ay : (y.natAbs : Int) = if y < 0 then -y else y := by split <;> omega
 rw [ax, ay]
 refine ⟨?_, ?_, hG0⟩
 · by_cases h1 : x < 0 <;> by_cases h2 : y < 0 <;> simp [h1, h2, q1, q2, q3, q4]
 · by_cases h2 : y < 0 <;> simp [h2]
theorem valid_make (x y : Int) (hy0 : y ≠ 0) : ∀ (s : Bool) (a b c d : Nat) (t : Bool) (e f g h : Nat), IsC s a b c d (numR x y) → IsC t e f g h (denR x y) → decide (RatOk s (numR x y) t (denR x y)) = decide ((numR x y).natAbs < 170141183460469231731687303715884105728 ∧ (denR x y).natAbs < 170141183460469231731687303715884105728) := by
 intro s a b c d t e f g h h1 h2
 obtain ⟨p1, p2, _⟩ := red_parts x y hy0
 rw [decide_eq_decide]
 constructor
 · intro q; exact ⟨q.2.2.2.1, q.2.2.2.2.1⟩
 · intro q; exact ⟨h1.2, h2.2, p1, q.1, q.2, p2⟩
end
section
open Go Go.RowKit
set_option maxRecDepth 100000 in
set_option maxHeartbeats 16000000 in
theorem rf_make_yes (s t : Bool) (a b c d e f g h : Nat) (x y : Int) (w : World) (hx : IsC s a b c d x) (hy : IsC t e f g h y) (hy0 : y ≠ 0) (o : Bool) (ho : decide ((numR x y).natAbs < 170141183460469231731687303715884105728 ∧ (denR x y).natAbs < 170141183460469231731687303715884105728) = o) :
   Calls Try.prog 45 #[.agg #[.bool s, .int .u64 (a : Int), .int .u64 (b : Int), .int .u64 (c : Int), .int .u64 (d : Int)], .agg #[.bool t, .int .u64 (e : Int), .int .u64 (f : Int), .int .u64 (g : Int), .int .u64 (h : Int)]] w (MakeRet o (if o then numR x y else 0) (if o then denR x y else 0) w) := by
 obtain ⟨N, hN⟩ : ∃ N, (if o then numR x y else 0) = N := ⟨_, rfl⟩
 obtain ⟨D, hD⟩ : ∃ D, (if o then denR x y else 0) = D := ⟨_, rfl⟩
 rw [hN, hD]
 have HN := hide hN
 have HD := hide hD
 clear hN hD
 obtain ⟨W, hW⟩ : ∃ W, W = (((w.alloc (.cells #[.bool s, .int .u64 (a : Int), .int .u64 (b : Int), .int .u64 (c : Int), .int .u64 (d : Int)] 25)).alloc (.cells #[.bool t, .int .u64 (e : Int), .int .u64 (f : Int), .int .u64 (g : Int), .int .u64 (h : Int)] 25)).alloc (.cells #[.bool false, .int .u64 0, .int .u64 0, .int .u64 0, .int .u64 0, .bool false, .int .u64 0, .int .u64 0, .int .u64 0, .int .u64 0] 40)) := ⟨_, rfl⟩
 have H3 := three_boxes w (.cells #[.bool s, .int .u64 (a : Int), .int .u64 (b : Int), .int .u64 (c : Int), .int .u64 (d : Int)] 25) (.cells #[.bool t, .int .u64 (e : Int), .int .u64 (f : Int), .int .u64 (g : Int), .int .u64 (h : Int)] 25) (.cells #[.bool false, .int .u64 0, .int .u64 0, .int .u64 0, .int .u64 0, .bool false, .int .u64 0, .int .u64 0, .int .u64 0, .int .u64 0] 40)
 rw [← hW] at H3
 have B0 : Box W w.heap.size s a b c d := H3.1
 have B1 : Box W (w.heap.size + 1) t e f g h := H3.2.1
 have B2 : Box10 W (w.heap.size + 1 + 1) false 0 0 0 0 false 0 0 0 0 := H3.2.2
 have EE : Ext w W := by rw [hW]; exact ((ext_alloc _ _).trans (ext_alloc _ _)).trans (ext_alloc _ _)
 have HW := hide hW
 obtain ⟨sg, hsg⟩ : ∃ sg, y.sign = sg := ⟨_, rfl⟩
 have hgx : (!s || decide (x ≠ 0)) = true := by have := hx.2; cases s <;> simp at this ⊢; exact this
 have hgy : (!t || decide (y ≠ 0)) = true := by simp [hy0]
 have k1 : Hid (∀ w', Calls Try.prog 62 #[.agg #[.bool s, .int .u64 (a : Int), .int .u64 (b : Int), .int .u64 (c : Int), .int .u64 (d : Int)]] w' (BoolRet true w')) := fun w' => by rw [← hgx]; exact ref_valid _ _ _ _ _ _ w' hx.1
 have k2 : Hid (∀ w', Calls Try.prog 62 #[.agg #[.bool t, .int .u64 (e : Int), .int .u64 (f : Int), .int .u64 (g : Int), .int .u64 (h : Int)]] w' (BoolRet true w')) := fun w' => by rw [← hgy]; exact ref_valid _ _ _ _ _ _ w' hy.1
 have k3 : Hid (∀ w', Calls Try.prog 48 #[.agg #[.bool t, .int .u64 (e : Int), .int .u64 (f : Int), .int .u64 (g : Int), .int .u64 (h : Int)]] w' (IntRet .i64 sg w')) := fun w' => by rw [← hsg]; exact ref_sign _ _ _ _ _ _ w' hy.1
 have hs0 : ¬ (sg = 0) := by rw [← hsg]; intro e; exact hy0 (Int.sign_eq_zero_iff_zero.1 e)
 obtain ⟨hn, hd, hG0⟩ := make_parts hx hy hy0
 have hG256 : ((Int.gcd (x.natAbs : Int) (y.natAbs : Int) : Nat) : Int).natAbs < 115792089237316195423570985008687907853269984665640564039457584007913129639936 := by
   have h1 := isW_fits hy.1
   have h2 : Int.gcd (x.natAbs : Int) (y.natAbs : Int) ≤ (y.natAbs : Int).natAbs := Nat.gcd_le_right _ (by simp; omega)
   simp at h2 ⊢
   omega
 obtain ⟨G, hG⟩ : ∃ G : Int, ((Int.gcd (x.natAbs : Int) (y.natAbs : Int) : Nat) : Int) = G := ⟨_, rfl⟩
 have hkg := fun w' => rf_gcd _ _ _ _ _ _ _ _ _ _ _ _ w' (abs_isC hx.1) (abs_isC hy.1) (by omega)
 rw [hG] at hn hd hG0 hG256 hkg
 obtain ⟨s8, a8, b8, c8, d8, k8⟩ := isC_some G hG256
 have hGne : Hid (G ≠ 0) := by unfold Hid; omega
 obtain ⟨df, hdf⟩ : ∃ q, (s != t) = q := ⟨_, rfl⟩
 have hne : ∀ w', (binOp .neq 4 (.bool s) (.bool t)).run Try.prog w' = .ok (.bool df) w' := by
   intro w'; rw [← hdf]; cases s <;> cases t <;> rfl
 rw [hdf] at hn
 obtain ⟨n, hnn⟩ : ∃ n, (x.natAbs : Int) / G = n := ⟨_, rfl⟩
 obtain ⟨m, hmm⟩ : ∃ n, (y.natAbs : Int) / G = n := ⟨_, rfl⟩
 rw [hnn] at hn
 rw [hmm] at hd
 have HNN := hide hnn
 have HMM := hide hmm
 have HN1 := hide hn
 have HD1 := hide hd
 have K8 := hide k8
 have V8 := hide k8.1
 have XA := hide (abs_isC hx.1).1
 have YA := hide (abs_isC hy.1).1
 obtain ⟨X, hX⟩ : ∃ X : Int, (x.natAbs : Int) = X := ⟨_, rfl⟩
 obtain ⟨Y, hY⟩ : ∃ X : Int, (y.natAbs : Int) = X := ⟨_, rfl⟩
 rw [hX] at XA HNN
 rw [hY] at YA HMM
 have HVV := hide (valid_make x y hy0)
 have HO := hide ho
 have ka : Hid (∀ w', Calls Try.prog 77 #[.agg #[.bool s, .int .u64 (a : Int), .int .u64 (b : Int), .int .u64 (c : Int), .int .u64 (d : Int)]] w' (FixRet false a b c d w')) := fun w' => (rf_abs _ _ _ _ _ _ w' hx.1).mono (fun _ _ q => fixed (abs_isC hx.1) q)
 have kb : Hid (∀ w', Calls Try.prog 77 #[.agg #[.bool t, .int .u64 (e : Int), .int .u64 (f : Int), .int .u64 (g : Int), .int .u64 (h : Int)]] w' (FixRet false e f g h w')) := fun w' => (rf_abs _ _ _ _ _ _ w' hy.1).mono (fun _ _ q => fixed (abs_isC hy.1) q)
 have kg : Hid (∀ w', Calls Try.prog 76 #[.agg #[.bool false, .int .u64 (a : Int), .int .u64 (b : Int), .int .u64 (c : Int), .int .u64 (d : Int)], .agg #[.bool false, .int .u64 (e : Int), .int .u64 (f : Int), .int .u64 (g : Int), .int .u64 (h : Int)]] w' (FixRet s8 a8 b8 c8 d8 w')) := fun w' => (hkg w').mono (fun _ _ q => fixed k8 q)
 clear hkg hn hd hG0 hG256 hG hdf hnn hmm k8 hX hY hW H3 hsg hgx hgy ho hx hy hy0
 obtain ⟨c0, c1, c2, c3, c4, f0, f1, f2, f3, f4⟩ := five_cells B0
 obtain ⟨d0, d1, d2, d3, d4, g0, g1, g2, g3, g4⟩ := five_cells B1
 go_enter Try.func45, Try.ntmps45
 go_upto_region 1 with fail
 rw [← HW.out]
 clear HW
 go_upto_region 3 with (first
   | (go_at_call 62; (with_reducible refine (k1.out _).mono ?_); rintro e' w2 ⟨rfl, hE⟩; have B0 := B0.ext hE; have B1 := B1.ext hE; have B2 := B2.ext hE; have EE := EE.trans hE; obtain ⟨c0, c1, c2, c3, c4, f0, f1, f2, f3, f4⟩ := five_cells B0; obtain ⟨d0, d1, d2, d3, d4, g0, g1, g2, g3, g4⟩ := five_cells B1; clear hE)
   | (go_at_call 62; (with_reducible refine (k2.out _).mono ?_); rintro e' w3 ⟨rfl, hE⟩; have B0 := B0.ext hE; have B1 := B1.ext hE; have B2 := B2.ext hE; have EE := EE.trans hE; obtain ⟨c0, c1, c2, c3, c4, f0, f1, f2, f3, f4⟩ := five_cells B0; obtain ⟨d0, d1, d2, d3, d4, g0, g1, g2, g3, g4⟩ := five_cells B1; clear hE)
   | (go_at_call 48; (with_reducible refine (k3.out _).mono ?_); rintro e' w4 ⟨rfl, hE⟩; have B0 := B0.ext hE; have B1 := B1.ext hE; have B2 := B2.ext hE; have EE := EE.trans hE; obtain ⟨c0, c1, c2, c3, c4, f0, f1, f2, f3, f4⟩ := five_cells B0; obtain ⟨d0, d1, d2, d3, d4, g0, g1, g2, g3, g4⟩ := five_cells B1; clear hE))
 clear k1 k2 k3
 have B2_lt := B2.lt
 go_cut [6] (fun p wx => Quot w4 G p wx)
 case first =>
  have EB := Ext.refl w4
  go_region_held3 (fun w' => w'.cell? ⟨w.heap.size, 0, none⟩ = some (.bool s) ∧ w'.cell? ⟨w.heap.size, 1, none⟩ = some (.int .u64 (a : Int)) ∧ w'.cell? ⟨w.heap.size, 2, none⟩ = some (.int .u64 (b : Int)) ∧ w'.cell? ⟨w.heap.size, 3, none⟩ = some (.int .u64 (c : Int)) ∧ w'.cell? ⟨w.heap.size, 4, none⟩ = some (.int .u64 (d : Int)) ∧ w'.cell? ⟨w.heap.size + 1, 0, none⟩ = some (.bool t) ∧ w'.cell? ⟨w.heap.size + 1, 1, none⟩ = some (.int .u64 (e : Int)) ∧ w'.cell? ⟨w.heap.size + 1, 2, none⟩ = some (.int .u64 (f : Int)) ∧ w'.cell? ⟨w.heap.size + 1, 3, none⟩ = some (.int .u64 (g : Int)) ∧ w'.cell? ⟨w.heap.size + 1, 4, none⟩ = some (.int .u64 (h : Int))) (first | (with_reducible exact ⟨c0, c1, c2, c3, c4, d0, d1, d2, d3, d4⟩) | go_keep) (first
    | (go_at_call 77; (with_reducible refine (ka.out _).mono ?_); rintro e' w5 ⟨rfl, hE⟩; have hF : Ext w6 w5 := (by first | (with_reducible exact hE) | (with_reducible exact (ext_drew _).trans hE)); clear hE; have hG := hF; have B0 := B0.ext hG; have B1 := B1.ext hG; have EB := EB.trans hG; have Nw60 := Nw60.ext hG; obtain ⟨c0, c1, c2, c3, c4, f0, f1, f2, f3, f4⟩ := five_cells B0; obtain ⟨d0, d1, d2, d3, d4, g0, g1, g2, g3, g4⟩ := five_cells B1; obtain ⟨x0c0, x0c1, x0c2, x0c3, x0c4, x0f0, x0f1, x0f2, x0f3, x0f4⟩ := five_cells Nw60; have szw5 := hG.size; have loB0 := B0.lt; have loB1 := B1.lt; have loNw60 := Nw60.lt; have ne0 : w4.heap.size ≠ w.heap.size := (by omega); have ne1 : w4.heap.size ≠ w.heap.size + 1 := (by omega); clear hF hG)
    | (go_at_call 77; (with_reducible refine (ka.out _).mono ?_); rintro e' w5 ⟨rfl, hE⟩; have hF : Ext w4 w5 := (by first | (with_reducible exact hE) | (with_reducible exact (ext_drew _).trans hE)); clear hE; have hG := hF; have B0 := B0.ext hG; have B1 := B1.ext hG; have EB := EB.trans hG; obtain ⟨c0, c1, c2, c3, c4, f0, f1, f2, f3, f4⟩ := five_cells B0; obtain ⟨d0, d1, d2, d3, d4, g0, g1, g2, g3, g4⟩ := five_cells B1; have szw5 := hG.size; have loB0 := B0.lt; have loB1 := B1.lt; clear hF hG)
    | (go_at_call 77; (with_reducible refine (ka.out _).mono ?_); rintro e' w5 ⟨rfl, hE⟩; have hF : Ext (w4.alloc (.cells #[.bool false, .int .u64 0, .int .u64 0, .int .u64 0, .int .u64 0] 25)) w5 := (by first | (with_reducible exact hE) | (with_reducible exact (ext_drew _).trans hE)); clear hE; have hG := (ext_alloc w4 (.cells #[.bool false, .int .u64 0, .int .u64 0, .int .u64 0, .int .u64 0] 25)).trans hF; have Nw50 : Box w5 (w4.heap.size) false 0 0 0 0 := (Box.new0 w4).ext hF; have B0 := B0.ext hG; have B1 := B1.ext hG; have EB := EB.trans hG; obtain ⟨c0, c1, c2, c3, c4, f0, f1, f2, f3, f4⟩ := five_cells B0; obtain ⟨d0, d1, d2, d3, d4, g0, g1, g2, g3, g4⟩ := five_cells B1; obtain ⟨x0c0, x0c1, x0c2, x0c3, x0c4, x0f0, x0f1, x0f2, x0f3, x0f4⟩ := five_cells Nw50; have szw5 := hG.size; have loB0 := B0.lt; have loB1 := B1.lt; have loNw50 := Nw50.lt; have ne0 : w4.heap.size ≠ w.heap.size := (by omega); have ne1 : w4.heap.size ≠ w.heap.size + 1 := (by omega); clear hF hG)
    | (go_at_call 77; (with_reducible refine (ka.out _).mono ?_); rintro e' w5 ⟨rfl, hE⟩; have hF : Ext w6 w5 := (by first | (with_reducible exact hE) | (with_reducible exact (ext_drew _).trans hE)); clear hE; have hG := hF; have B0 := B0.ext hG; have B1 := B1.ext hG; have EB := EB.trans hG; obtain ⟨c0, c1, c2, c3, c4, f0, f1, f2, f3, f4⟩ := five_cells B0; obtain ⟨d0, d1, d2, d3, d4, g0, g1, g2, g3, g4⟩ := five_cells B1; have szw5 := hG.size; have loB0 := B0.lt; have loB1 := B1.lt; clear hF hG)
    | (go_at_call 77; (with_reducible refine (ka.out _).mono ?_); rintro e' w5 ⟨rfl, hE⟩; have hF : Ext (w6.alloc (.cells #[.bool false, .int .u64 0, .int .u64 0, .int .u64 0, .int .u64 0] 25)) w5 := (by first | (with_reducible exact hE) | (with_reducible exact (ext_drew _).trans hE)); clear hE; have hG := (ext_alloc w6 (.cells #[.bool false, .int .u64 0, .int .u64 0, .int .u64 0, .int .u64 0] 25)).trans hF; have Nw50 : Box w5 (w6.heap.size) false 0 0 0 0 := (Box.new0 w6).ext hF; have B0 := B0.ext hG; have B1 := B1.ext hG; have EB := EB.trans hG; obtain ⟨c0, c1, c2, c3, c4, f0, f1, f2, f3, f4⟩ := five_cells B0; obtain ⟨d0, d1, d2, d3, d4, g0, g1, g2, g3, g4⟩ := five_cells B1; obtain ⟨x0c0, x0c1, x0c2, x0c3, x0c4, x0f0, x0f1, x0f2, x0f3, x0f4⟩ := five_cells Nw50; have szw5 := hG.size; have loB0 := B0.lt; have loB1 := B1.lt; have loNw50 := Nw50.lt; have ne0 : w6.heap.size ≠ w.heap.size := (by omega); have ne1 : w6.heap.size ≠ w.heap.size + 1 := (by omega); clear hF hG)
    | (go_at_call 77; (with_reducible refine (kb.out _).mono ?_); rintro e' w6 ⟨rfl, hE⟩; have hF : Ext w5 w6 := (by first | (with_reducible exact hE) | (with_reducible exact (ext_drew _).trans hE)); clear hE; have hG := hF; have B0 := B0.ext hG; have B1 := B1.ext hG; have EB := EB.trans hG; have Nw50 := Nw50.ext hG; obtain ⟨c0, c1, c2, c3, c4, f0, f1, f2, f3, f4⟩ := five_cells B0; obtain ⟨d0, d1, d2, d3, d4, g0, g1, g2, g3, g4⟩ := five_cells B1; obtain ⟨x0c0, x0c1, x0c2, x0c3, x0c4, x0f0, x0f1, x0f2, x0f3, x0f4⟩ := five_cells Nw50; have szw6 := hG.size; have loB0 := B0.lt; have loB1 := B1.lt; have loNw50 := Nw50.lt; have ne0 : w4.heap.size ≠ w.heap.size := (by omega); have ne1 : w4.heap.size ≠ w.heap.size + 1 := (by omega); clear hF hG)
    | (go_at_call 77; (with_reducible refine (kb.out _).mono ?_); rintro e' w6 ⟨rfl, hE⟩; have hF : Ext w5 w6 := (by first | (with_reducible exact hE) | (with_reducible exact (ext_drew _).trans hE)); clear hE; have hG := hF; have B0 := B0.ext hG; have B1 := B1.ext hG; have EB := EB.trans hG; obtain ⟨c0, c1, c2, c3, c4, f0, f1, f2, f3, f4⟩ := five_cells B0; obtain ⟨d0, d1, d2, d3, d4, g0, g1, g2, g3, g4⟩ := five_cells B1; have szw6 := hG.size; have loB0 := B0.lt; have loB1 := B1.lt; clear hF hG)
    | (go_at_call 77; (with_reducible refine (kb.out _).mono ?_); rintro e' w6 ⟨rfl, hE⟩; have hF : Ext (w5.alloc (.cells #[.bool false, .int .u64 0, .int .u64 0, .int .u64 0, .int .u64 0] 25)) w6 := (by first | (with_reducible exact hE) | (with_reducible exact (ext_drew _).trans hE)); clear hE; have hG := (ext_alloc w5 (.cells #[.bool false, .int .u64 0, .int .u64 0, .int .u64 0, .int .u64 0] 25)).trans hF; have Nw60 : Box w6 (w5.heap.size) false 0 0 0 0 := (Box.new0 w5).ext hF; have B0 := B0.ext hG; have B1 := B1.ext hG; have EB := EB.trans hG; obtain ⟨c0, c1, c2, c3, c4, f0, f1, f2, f3, f4⟩ := five_cells B0; obtain ⟨d0, d1, d2, d3, d4, g0, g1, g2, g3, g4⟩ := five_cells B1; obtain ⟨x0c0, x0c1, x0c2, x0c3, x0c4, x0f0, x0f1, x0f2, x0f3, x0f4⟩ := five_cells Nw60; have szw6 := hG.size; have loB0 := B0.lt; have loB1 := B1.lt; have loNw60 := Nw60.lt; have ne0 : w5.heap.size ≠ w.heap.size := (by omega); have ne1 : w5.heap.size ≠ w.heap.size + 1 := (by omega); clear hF hG)
    | (go_at_call 77; (with_reducible refine (kb.out _).mono ?_); rintro e' w6 ⟨rfl, hE⟩; have hF : Ext w4 w6 := (by first | (with_reducible exact hE) | (with_reducible exact (ext_drew _).trans hE)); clear hE; have hG := hF; have B0 := B0.ext hG; have B1 := B1.ext hG; have EB := EB.trans hG; obtain ⟨c0, c1, c2, c3, c4, f0, f1, f2, f3, f4⟩ := five_cells B0; obtain ⟨d0, d1, d2, d3, d4, g0, g1, g2, g3, g4⟩ := five_cells B1; have szw6 := hG.size; have loB0 := B0.lt; have loB1 := B1.lt; clear hF hG)
    | (go_at_call 77; (with_reducible refine (kb.out _).mono ?_); rintro e' w6 ⟨rfl, hE⟩; have hF : Ext (w4.alloc (.cells #[.bool false, .int .u64 0, .int .u64 0, .int .u64 0, .int .u64 0] 25)) w6 := (by first | (with_reducible exact hE) | (with_reducible exact (ext_drew _).trans hE)); clear hE; have hG := (ext_alloc w4 (.cells #[.bool false, .int .u64 0, .int .u64 0, .int .u64 0, .int .u64 0] 25)).trans hF; have Nw60 : Box w6 (w4.heap.size) false 0 0 0 0 := (Box.new0 w4).ext hF; have B0 := B0.ext hG; have B1 := B1.ext hG; have EB := EB.trans hG; obtain ⟨c0, c1, c2, c3, c4, f0, f1, f2, f3, f4⟩ := five_cells B0; obtain ⟨d0, d1, d2, d3, d4, g0, g1, g2, g3, g4⟩ := five_cells B1; obtain ⟨x0c0, x0c1, x0c2, x0c3, x0c4, x0f0, x0f1, x0f2, x0f3, x0f4⟩ := five_cells Nw60; have szw6 := hG.size; have loB0 := B0.lt; have loB1 := B1.lt; have loNw60 := Nw60.lt; have ne0 : w4.heap.size ≠ w.heap.size := (by omega); have ne1 : w4.heap.size ≠ w.heap.size + 1 := (by omega); clear hF hG)
    | (go_at_call 76; (with_reducible refine (kg.out _).mono ?_); rintro e' w7 ⟨rfl, hE⟩; have hF : Ext w6 w7 := (by first | (with_reducible exact hE) | (with_reducible exact (ext_drew _).trans hE)); clear hE; have hG := hF; have B0 := B0.ext hG; have B1 := B1.ext hG; have EB := EB.trans hG; have Nw60 := Nw60.ext hG; obtain ⟨c0, c1, c2, c3, c4, f0, f1, f2, f3, f4⟩ := five_cells B0; obtain ⟨d0, d1, d2, d3, d4, g0, g1, g2, g3, g4⟩ := five_cells B1; obtain ⟨x0c0, x0c1, x0c2, x0c3, x0c4, x0f0, x0f1, x0f2, x0f3, x0f4⟩ := five_cells Nw60; have szw7 := hG.size; have loB0 := B0.lt; have loB1 := B1.lt; have loNw60 := Nw60.lt; have ne0 : w5.heap.size ≠ w.heap.size := (by omega); have ne1 : w5.heap.size ≠ w.heap.size + 1 := (by omega); clear hF hG)
    | (go_at_call 76; (with_reducible refine (kg.out _).mono ?_); rintro e' w7 ⟨rfl, hE⟩; have hF : Ext w6 w7 := (by first | (with_reducible exact hE) | (with_reducible exact (ext_drew _).trans hE)); clear hE; have hG := hF; have B0 := B0.ext hG; have B1 := B1.ext hG; have EB := EB.trans hG; have Nw50 := Nw50.ext hG; obtain ⟨c0, c1, c2, c3, c4, f0, f1, f2, f3, f4⟩ := five_cells B0; obtain ⟨d0, d1, d2, d3, d4, g0, g1, g2, g3, g4⟩ := five_cells B1; obtain ⟨x0c0, x0c1, x0c2, x0c3, x0c4, x0f0, x0f1, x0f2, x0f3, x0f4⟩ := five_cells Nw50; have szw7 := hG.size; have loB0 := B0.lt; have loB1 := B1.lt; have loNw50 := Nw50.lt; have ne0 : w4.heap.size ≠ w.heap.size := (by omega); have ne1 : w4.heap.size ≠ w.heap.size + 1 := (by omega); clear hF hG)
    | (go_at_call 76; (with_reducible refine (kg.out _).mono ?_); rintro e' w7 ⟨rfl, hE⟩; have hF : Ext w5 w7 := (by first | (with_reducible exact hE) | (with_reducible exact (ext_drew _).trans hE)); clear hE; have hG := hF; have B0 := B0.ext hG; have B1 := B1.ext hG; have EB := EB.trans hG; have Nw50 := Nw50.ext hG; obtain ⟨c0, c1, c2, c3, c4, f0, f1, f2, f3, f4⟩ := five_cells B0; obtain ⟨d0, d1, d2, d3, d4, g0, g1, g2, g3, g4⟩ := five_cells B1; obtain ⟨x0c0, x0c1, x0c2, x0c3, x0c4, x0f0, x0f1, x0f2, x0f3, x0f4⟩ := five_cells Nw50; have szw7 := hG.size; have loB0 := B0.lt; have loB1 := B1.lt; have loNw50 := Nw50.lt; have ne0 : w6.heap.size ≠ w.heap.size := (by omega); have ne1 : w6.heap.size ≠ w.heap.size + 1 := (by omega); clear hF hG)
    | (go_at_call 76; (with_reducible refine (kg.out _).mono ?_); rintro e' w7 ⟨rfl, hE⟩; have hF : Ext w5 w7 := (by first | (with_reducible exact hE) | (with_reducible exact (ext_drew _).trans hE)); clear hE; have hG := hF; have B0 := B0.ext hG; have B1 := B1.ext hG; have EB := EB.trans hG; have Nw60 := Nw60.ext hG; obtain ⟨c0, c1, c2, c3, c4, f0, f1, f2, f3, f4⟩ := five_cells B0; obtain ⟨d0, d1, d2, d3, d4, g0, g1, g2, g3, g4⟩ := five_cells B1; obtain ⟨x0c0, x0c1, x0c2, x0c3, x0c4, x0f0, x0f1, x0f2, x0f3, x0f4⟩ := five_cells Nw60; have szw7 := hG.size; have loB0 := B0.lt; have loB1 := B1.lt; have loNw60 := Nw60.lt; have ne0 : w4.heap.size ≠ w.heap.size := (by omega); have ne1 : w4.heap.size ≠ w.heap.size + 1 := (by omega); clear hF hG)
    | (go_at_call 76; (with_reducible refine (kg.out _).mono ?_); rintro e' w7 ⟨rfl, hE⟩; have hF : Ext w6 w7 := (by first | (with_reducible exact hE) | (with_reducible exact (ext_drew _).trans hE)); clear hE; have hG := hF; have B0 := B0.ext hG; have B1 := B1.ext hG; have EB := EB.trans hG; obtain ⟨c0, c1, c2, c3, c4, f0, f1, f2, f3, f4⟩ := five_cells B0; obtain ⟨d0, d1, d2, d3, d4, g0, g1, g2, g3, g4⟩ := five_cells B1; have szw7 := hG.size; have loB0 := B0.lt; have loB1 := B1.lt; clear hF hG)
    | (go_at_call 76; (with_reducible refine (kg.out _).mono ?_); rintro e' w7 ⟨rfl, hE⟩; have hF : Ext (w6.alloc (.cells #[.bool false, .int .u64 0, .int .u64 0, .int .u64 0, .int .u64 0] 25)) w7 := (by first | (with_reducible exact hE) | (with_reducible exact (ext_drew _).trans hE)); clear hE; have hG := (ext_alloc w6 (.cells #[.bool false, .int .u64 0, .int .u64 0, .int .u64 0, .int .u64 0] 25)).trans hF; have Nw70 : Box w7 (w6.heap.size) false 0 0 0 0 := (Box.new0 w6).ext hF; have B0 := B0.ext hG; have B1 := B1.ext hG; have EB := EB.trans hG; obtain ⟨c0, c1, c2, c3, c4, f0, f1, f2, f3, f4⟩ := five_cells B0; obtain ⟨d0, d1, d2, d3, d4, g0, g1, g2, g3, g4⟩ := five_cells B1; obtain ⟨x0c0, x0c1, x0c2, x0c3, x0c4, x0f0, x0f1, x0f2, x0f3, x0f4⟩ := five_cells Nw70; have szw7 := hG.size; have loB0 := B0.lt; have loB1 := B1.lt; have loNw70 := Nw70.lt; have ne0 : w6.heap.size ≠ w.heap.size := (by omega); have ne1 : w6.heap.size ≠ w.heap.size + 1 := (by omega); clear hF hG)
    | (go_at_call 76; (with_reducible refine (kg.out _).mono ?_); rintro e' w7 ⟨rfl, hE⟩; have hF : Ext w5 w7 := (by first | (with_reducible exact hE) | (with_reducible exact (ext_drew _).trans hE)); clear hE; have hG := hF; have B0 := B0.ext hG; have B1 := B1.ext hG; have EB := EB.trans hG; obtain ⟨c0, c1, c2, c3, c4, f0, f1, f2, f3, f4⟩ := five_cells B0; obtain ⟨d0, d1, d2, d3, d4, g0, g1, g2, g3, g4⟩ := five_cells B1; have szw7 := hG.size; have loB0 := B0.lt; have loB1 := B1.lt; clear hF hG)
    | (go_at_call 76; (with_reducible refine (kg.out _).mono ?_); rintro e' w7 ⟨rfl, hE⟩; have hF : Ext (w5.alloc (.cells #[.bool false, .int .u64 0, .int .u64 0, .int .u64 0, .int .u64 0] 25)) w7 := (by first | (with_reducible exact hE) | (with_reducible exact (ext_drew _).trans hE)); clear hE; have hG := (ext_alloc w5 (.cells #[.bool false, .int .u64 0, .int .u64 0, .int .u64 0, .int .u64 0] 25)).trans hF; have Nw70 : Box w7 (w5.heap.size) false 0 0 0 0 := (Box.new0 w5).ext hF; have B0 := B0.ext hG; have B1 := B1.ext hG; have EB := EB.trans hG; obtain ⟨c0, c1, c2, c3, c4, f0, f1, f2, f3, f4⟩ := five_cells B0; obtain ⟨d0, d1, d2, d3, d4, g0, g1, g2, g3, g4⟩ := five_cells B1; obtain ⟨x0c0, x0c1, x0c2, x0c3, x0c4, x0f0, x0f1, x0f2, x0f3, x0f4⟩ := five_cells Nw70; have szw7 := hG.size; have loB0 := B0.lt; have loB1 := B1.lt; have loNw70 := Nw70.lt; have ne0 : w5.heap.size ≠ w.heap.size := (by omega); have ne1 : w5.heap.size ≠ w.heap.size + 1 := (by omega); clear hF hG))
  all_goals go_wp2_with fail
  all_goals go_meet
  all_goals first
    | (with_reducible exact one0 K8.out EB)
    | (with_reducible exact one1 K8.out EB (g := w4.heap.size) Nw50 (by omega))
    | (with_reducible exact one1 K8.out EB (g := w6.heap.size) Nw50 (by omega))
    | (with_reducible exact one1 K8.out EB (g := w4.heap.size) Nw60 (by omega))
    | (with_reducible exact one1 K8.out EB (g := w5.heap.size) Nw60 (by omega))
    | (with_reducible exact one1 K8.out EB (g := w5.heap.size) Nw70 (by omega))
    | (with_reducible exact one1 K8.out EB (g := w6.heap.size) Nw70 (by omega))
 case rest =>
  obtain ⟨g6, s6, a6, b6, c6, d6, rfl, C6, B6, hg6, hE⟩ := hcut
  obtain ⟨rfl, rfl, rfl, rfl, rfl⟩ := K8.out.uniq C6
  have B0 := B0.ext hE; have B1 := B1.ext hE; have B2 := B2.ext hE; have EE := EE.trans hE
  have l6 := B6.lt
  have n6 : w.heap.size + 1 + 1 < g6 := Nat.lt_of_lt_of_le B2_lt hg6
  clear C6 hE hg6 B2_lt kg
  obtain ⟨c0, c1, c2, c3, c4, f0, f1, f2, f3, f4⟩ := five_cells B0
  obtain ⟨d0, d1, d2, d3, d4, g0, g1, g2, g3, g4⟩ := five_cells B1
  obtain ⟨m0, m1, m2, m3, m4, mf0, mf1, mf2, mf3, mf4⟩ := five_cells B6
  go_upto_region 4 with fail
  go_cut [7] (fun p wx => Quot wc n p wx)
  case first =>
   have EB := Ext.refl wc
   go_region_held3 (fun w' => w'.cell? ⟨w.heap.size, 0, none⟩ = some (.bool s) ∧ w'.cell? ⟨w.heap.size, 1, none⟩ = some (.int .u64 (a : Int)) ∧ w'.cell? ⟨w.heap.size, 2, none⟩ = some (.int .u64 (b : Int)) ∧ w'.cell? ⟨w.heap.size, 3, none⟩ = some (.int .u64 (c : Int)) ∧ w'.cell? ⟨w.heap.size, 4, none⟩ = some (.int .u64 (d : Int)) ∧ w'.cell? ⟨g6, 0, none⟩ = some (.bool s8) ∧ w'.cell? ⟨g6, 1, none⟩ = some (.int .u64 (a8 : Int)) ∧ w'.cell? ⟨g6, 2, none⟩ = some (.int .u64 (b8 : Int)) ∧ w'.cell? ⟨g6, 3, none⟩ = some (.int .u64 (c8 : Int)) ∧ w'.cell? ⟨g6, 4, none⟩ = some (.int .u64 (d8 : Int))) (first | (with_reducible exact ⟨c0, c1, c2, c3, c4, m0, m1, m2, m3, m4⟩) | go_keep) (first
     | (go_at_call 77; (with_reducible refine (ka.out _).mono ?_); rintro e' w5 ⟨rfl, hE⟩; have hF : Ext wc w5 := (by first | (with_reducible exact hE) | (with_reducible exact (ext_drew _).trans hE)); clear hE; have hG := hF; have B0 := B0.ext hG; have B6 := B6.ext hG; have EB := EB.trans hG; obtain ⟨c0, c1, c2, c3, c4, f0, f1, f2, f3, f4⟩ := five_cells B0; obtain ⟨m0, m1, m2, m3, m4, mf0, mf1, mf2, mf3, mf4⟩ := five_cells B6; have szw5 := hG.size; have loB0 := B0.lt; have loB6 := B6.lt; clear hF hG)
     | (go_at_call 77; (with_reducible refine (ka.out _).mono ?_); rintro e' w5 ⟨rfl, hE⟩; have hF : Ext (wc.alloc (.cells #[.bool false, .int .u64 0, .int .u64 0, .int .u64 0, .int .u64 0] 25)) w5 := (by first | (with_reducible exact hE) | (with_reducible exact (ext_drew _).trans hE)); clear hE; have hG := (ext_alloc wc (.cells #[.bool false, .int .u64 0, .int .u64 0, .int .u64 0, .int .u64 0] 25)).trans hF; have Nw50 : Box w5 (wc.heap.size) false 0 0 0 0 := (Box.new0 wc).ext hF; have B0 := B0.ext hG; have B6 := B6.ext hG; have EB := EB.trans hG; obtain ⟨c0, c1, c2, c3, c4, f0, f1, f2, f3, f4⟩ := five_cells B0; obtain ⟨m0, m1, m2, m3, m4, mf0, mf1, mf2, mf3, mf4⟩ := five_cells B6; obtain ⟨x0c0, x0c1, x0c2, x0c3, x0c4, x0f0, x0f1, x0f2, x0f3, x0f4⟩ := five_cells Nw50; have szw5 := hG.size; have loB0 := B0.lt; have loB6 := B6.lt; have loNw50 := Nw50.lt; have ne0 : wc.heap.size ≠ w.heap.size := (by omega); have ne1 : wc.heap.size ≠ g6 := (by omega); clear hF hG)
     | (go_at_call 77; (with_reducible refine (ka.out _).mono ?_); rintro e' w5 ⟨rfl, hE⟩; have hF : Ext ((wc.alloc (.cells #[.bool false, .int .u64 0, .int .u64 0, .int .u64 0, .int .u64 0] 25)).alloc (.cells #[.bool false, .int .u64 0, .int .u64 0, .int .u64 0, .int .u64 0] 25)) w5 := (by first | (with_reducible exact hE) | (with_reducible exact (ext_drew _).trans hE)); clear hE; have hG := ((ext_alloc wc (.cells #[.bool false, .int .u64 0, .int .u64 0, .int .u64 0, .int .u64 0] 25)).trans (ext_alloc _ (.cells #[.bool false, .int .u64 0, .int .u64 0, .int .u64 0, .int .u64 0] 25))).trans hF; have Nw50 : Box w5 (wc.heap.size) false 0 0 0 0 := ((Box.new0 wc).ext (ext_alloc _ _)).ext hF; have Nw51 : Box w5 (wc.heap.size + 1) false 0 0 0 0 := (show Box ((wc.alloc (.cells #[.bool false, .int .u64 0, .int .u64 0, .int .u64 0, .int .u64 0] 25)).alloc (.cells #[.bool false, .int .u64 0, .int .u64 0, .int .u64 0, .int .u64 0] 25)) (wc.heap.size + 1) false 0 0 0 0 from (two_blocks wc (.cells #[.bool false, .int .u64 0, .int .u64 0, .int .u64 0, .int .u64 0] 25) (.cells #[.bool false, .int .u64 0, .int .u64 0, .int .u64 0, .int .u64 0] 25)).2).ext hF; have B0 := B0.ext hG; have B6 := B6.ext hG; have EB := EB.trans hG; obtain ⟨c0, c1, c2, c3, c4, f0, f1, f2, f3, f4⟩ := five_cells B0; obtain ⟨m0, m1, m2, m3, m4, mf0, mf1, mf2, mf3, mf4⟩ := five_cells B6; obtain ⟨x0c0, x0c1, x0c2, x0c3, x0c4, x0f0, x0f1, x0f2, x0f3, x0f4⟩ := five_cells Nw50; obtain ⟨x1c0, x1c1, x1c2, x1c3, x1c4, x1f0, x1f1, x1f2, x1f3, x1f4⟩ := five_cells Nw51; have szw5 := hG.size; have loB0 := B0.lt; have loB6 := B6.lt; have loNw50 := Nw50.lt; have loNw51 := Nw51.lt; have ne0 : wc.heap.size ≠ w.heap.size := (by omega); have ne1 : wc.heap.size + 1 ≠ w.heap.size := (by omega); have ne2 : wc.heap.size ≠ g6 := (by omega); have ne3 : wc.heap.size + 1 ≠ g6 := (by omega); have ne4 : wc.heap.size + 1 ≠ wc.heap.size := (by omega); clear hF hG)
     | (go_at_call 55; refine (ref_wdiv false s8 a b c d a8 b8 c8 d8 X G _ XA.out V8.out).mono ?_; rintro e' w9 ⟨s3, a3, b3, c3, d3, s9, a9, b9, c9, d9, o3, rfl, ho, C3, C4, hE⟩; have Ho := hide ho; rw [if_neg hGne.out] at C3; rw [HNN.out] at C3; have K3 := hide C3; clear ho C3 C4; have hF : Ext w5 w9 := (by first | (with_reducible exact hE) | (with_reducible exact (ext_drew _).trans hE)); clear hE; have hG := hF; have B0 := B0.ext hG; have B6 := B6.ext hG; have EB := EB.trans hG; have Nw50 := Nw50.ext hG; have Nw51 := Nw51.ext hG; obtain ⟨c0, c1, c2, c3, c4, f0, f1, f2, f3, f4⟩ := five_cells B0; obtain ⟨m0, m1, m2, m3, m4, mf0, mf1, mf2, mf3, mf4⟩ := five_cells B6; obtain ⟨x0c0, x0c1, x0c2, x0c3, x0c4, x0f0, x0f1, x0f2, x0f3, x0f4⟩ := five_cells Nw50; obtain ⟨x1c0, x1c1, x1c2, x1c3, x1c4, x1f0, x1f1, x1f2, x1f3, x1f4⟩ := five_cells Nw51; have szw9 := hG.size; have loB0 := B0.lt; have loB6 := B6.lt; have loNw50 := Nw50.lt; have loNw51 := Nw51.lt; have ne0 : wc.heap.size ≠ w.heap.size := (by omega); have ne1 : wc.heap.size + 1 ≠ w.heap.size := (by omega); have ne2 : wc.heap.size ≠ g6 := (by omega); have ne3 : wc.heap.size + 1 ≠ g6 := (by omega); have ne4 : wc.heap.size + 1 ≠ wc.heap.size := (by omega); clear hF hG)
     | (go_at_call 55; refine (ref_wdiv false s8 a b c d a8 b8 c8 d8 X G _ XA.out V8.out).mono ?_; rintro e' w9 ⟨s3, a3, b3, c3, d3, s9, a9, b9, c9, d9, o3, rfl, ho, C3, C4, hE⟩; have Ho := hide ho; rw [if_neg hGne.out] at C3; rw [HNN.out] at C3; have K3 := hide C3; clear ho C3 C4; have hF : Ext w5 w9 := (by first | (with_reducible exact hE) | (with_reducible exact (ext_drew _).trans hE)); clear hE; have hG := hF; have B0 := B0.ext hG; have B6 := B6.ext hG; have EB := EB.trans hG; have Nw50 := Nw50.ext hG; obtain ⟨c0, c1, c2, c3, c4, f0, f1, f2, f3, f4⟩ := five_cells B0; obtain ⟨m0, m1, m2, m3, m4, mf0, mf1, mf2, mf3, mf4⟩ := five_cells B6; obtain ⟨x0c0, x0c1, x0c2, x0c3, x0c4, x0f0, x0f1, x0f2, x0f3, x0f4⟩ := five_cells Nw50; have szw9 := hG.size; have loB0 := B0.lt; have loB6 := B6.lt; have loNw50 := Nw50.lt; have ne0 : wc.heap.size ≠ w.heap.size := (by omega); have ne1 : wc.heap.size ≠ g6 := (by omega); clear hF hG)
     | (go_at_call 55; refine (ref_wdiv false s8 a b c d a8 b8 c8 d8 X G _ XA.out V8.out).mono ?_; rintro e' w9 ⟨s3, a3, b3, c3, d3, s9, a9, b9, c9, d9, o3, rfl, ho, C3, C4, hE⟩; have Ho := hide ho; rw [if_neg hGne.out] at C3; rw [HNN.out] at C3; have K3 := hide C3; clear ho C3 C4; have hF : Ext (w5.alloc (.cells #[.bool false, .int .u64 0, .int .u64 0, .int .u64 0, .int .u64 0] 25)) w9 := (by first | (with_reducible exact hE) | (with_reducible exact (ext_drew _).trans hE)); clear hE; have hG := (ext_alloc w5 (.cells #[.bool false, .int .u64 0, .int .u64 0, .int .u64 0, .int .u64 0] 25)).trans hF; have Nw90 : Box w9 (w5.heap.size) false 0 0 0 0 := (Box.new0 w5).ext hF; have B0 := B0.ext hG; have B6 := B6.ext hG; have EB := EB.trans hG; have Nw50 := Nw50.ext hG; obtain ⟨c0, c1, c2, c3, c4, f0, f1, f2, f3, f4⟩ := five_cells B0; obtain ⟨m0, m1, m2, m3, m4, mf0, mf1, mf2, mf3, mf4⟩ := five_cells B6; obtain ⟨x0c0, x0c1, x0c2, x0c3, x0c4, x0f0, x0f1, x0f2, x0f3, x0f4⟩ := five_cells Nw50; obtain ⟨x1c0, x1c1, x1c2, x1c3, x1c4, x1f0, x1f1, x1f2, x1f3, x1f4⟩ := five_cells Nw90; have szw9 := hG.size; have loB0 := B0.lt; have loB6 := B6.lt; have loNw50 := Nw50.lt; have loNw90 := Nw90.lt; have ne0 : wc.heap.size ≠ w.heap.size := (by omega); have ne1 : w5.heap.size ≠ w.heap.size := (by omega); have ne2 : wc.heap.size ≠ g6 := (by omega); have ne3 : w5.heap.size ≠ g6 := (by omega); have ne4 : w5.heap.size ≠ wc.heap.size := (by omega); clear hF hG)
     | (go_at_call 55; refine (ref_wdiv false s8 a b c d a8 b8 c8 d8 X G _ XA.out V8.out).mono ?_; rintro e' w9 ⟨s3, a3, b3, c3, d3, s9, a9, b9, c9, d9, o3, rfl, ho, C3, C4, hE⟩; have Ho := hide ho; rw [if_neg hGne.out] at C3; rw [HNN.out] at C3; have K3 := hide C3; clear ho C3 C4; have hF : Ext w5 w9 := (by first | (with_reducible exact hE) | (with_reducible exact (ext_drew _).trans hE)); clear hE; have hG := hF; have B0 := B0.ext hG; have B6 := B6.ext hG; have EB := EB.trans hG; obtain ⟨c0, c1, c2, c3, c4, f0, f1, f2, f3, f4⟩ := five_cells B0; obtain ⟨m0, m1, m2, m3, m4, mf0, mf1, mf2, mf3, mf4⟩ := five_cells B6; have szw9 := hG.size; have loB0 := B0.lt; have loB6 := B6.lt; clear hF hG)
     | (go_at_call 55; refine (ref_wdiv false s8 a b c d a8 b8 c8 d8 X G _ XA.out V8.out).mono ?_; rintro e' w9 ⟨s3, a3, b3, c3, d3, s9, a9, b9, c9, d9, o3, rfl, ho, C3, C4, hE⟩; have Ho := hide ho; rw [if_neg hGne.out] at C3; rw [HNN.out] at C3; have K3 := hide C3; clear ho C3 C4; have hF : Ext (w5.alloc (.cells #[.bool false, .int .u64 0, .int .u64 0, .int .u64 0, .int .u64 0] 25)) w9 := (by first | (with_reducible exact hE) | (with_reducible exact (ext_drew _).trans hE)); clear hE; have hG := (ext_alloc w5 (.cells #[.bool false, .int .u64 0, .int .u64 0, .int .u64 0, .int .u64 0] 25)).trans hF; have Nw90 : Box w9 (w5.heap.size) false 0 0 0 0 := (Box.new0 w5).ext hF; have B0 := B0.ext hG; have B6 := B6.ext hG; have EB := EB.trans hG; obtain ⟨c0, c1, c2, c3, c4, f0, f1, f2, f3, f4⟩ := five_cells B0; obtain ⟨m0, m1, m2, m3, m4, mf0, mf1, mf2, mf3, mf4⟩ := five_cells B6; obtain ⟨x0c0, x0c1, x0c2, x0c3, x0c4, x0f0, x0f1, x0f2, x0f3, x0f4⟩ := five_cells Nw90; have szw9 := hG.size; have loB0 := B0.lt; have loB6 := B6.lt; have loNw90 := Nw90.lt; have ne0 : w5.heap.size ≠ w.heap.size := (by omega); have ne1 : w5.heap.size ≠ g6 := (by omega); clear hF hG)
     | (go_at_call 55; refine (ref_wdiv false s8 a b c d a8 b8 c8 d8 X G _ XA.out V8.out).mono ?_; rintro e' w9 ⟨s3, a3, b3, c3, d3, s9, a9, b9, c9, d9, o3, rfl, ho, C3, C4, hE⟩; have Ho := hide ho; rw [if_neg hGne.out] at C3; rw [HNN.out] at C3; have K3 := hide C3; clear ho C3 C4; have hF : Ext ((w5.alloc (.cells #[.bool false, .int .u64 0, .int .u64 0, .int .u64 0, .int .u64 0] 25)).alloc (.cells #[.bool false, .int .u64 0, .int .u64 0, .int .u64 0, .int .u64 0] 25)) w9 := (by first | (with_reducible exact hE) | (with_reducible exact (ext_drew _).trans hE)); clear hE; have hG := ((ext_alloc w5 (.cells #[.bool false, .int .u64 0, .int .u64 0, .int .u64 0, .int .u64 0] 25)).trans (ext_alloc _ (.cells #[.bool false, .int .u64 0, .int .u64 0, .int .u64 0, .int .u64 0] 25))).trans hF; have Nw90 : Box w9 (w5.heap.size) false 0 0 0 0 := ((Box.new0 w5).ext (ext_alloc _ _)).ext hF; have Nw91 : Box w9 (w5.heap.size + 1) false 0 0 0 0 := (show Box ((w5.alloc (.cells #[.bool false, .int .u64 0, .int .u64 0, .int .u64 0, .int .u64 0] 25)).alloc (.cells #[.bool false, .int .u64 0, .int .u64 0, .int .u64 0, .int .u64 0] 25)) (w5.heap.size + 1) false 0 0 0 0 from (two_blocks w5 (.cells #[.bool false, .int .u64 0, .int .u64 0, .int .u64 0, .int .u64 0] 25) (.cells #[.bool false, .int .u64 0, .int .u64 0, .int .u64 0, .int .u64 0] 25)).2).ext hF; have B0 := B0.ext hG; have B6 := B6.ext hG; have EB := EB.trans hG; obtain ⟨c0, c1, c2, c3, c4, f0, f1, f2, f3, f4⟩ := five_cells B0; obtain ⟨m0, m1, m2, m3, m4, mf0, mf1, mf2, mf3, mf4⟩ := five_cells B6; obtain ⟨x0c0, x0c1, x0c2, x0c3, x0c4, x0f0, x0f1, x0f2, x0f3, x0f4⟩ := five_cells Nw90; obtain ⟨x1c0, x1c1, x1c2, x1c3, x1c4, x1f0, x1f1, x1f2, x1f3, x1f4⟩ := five_cells Nw91; have szw9 := hG.size; have loB0 := B0.lt; have loB6 := B6.lt; have loNw90 := Nw90.lt; have loNw91 := Nw91.lt; have ne0 : w5.heap.size ≠ w.heap.size := (by omega); have ne1 : w5.heap.size + 1 ≠ w.heap.size := (by omega); have ne2 : w5.heap.size ≠ g6 := (by omega); have ne3 : w5.heap.size + 1 ≠ g6 := (by omega); have ne4 : w5.heap.size + 1 ≠ w5.heap.size := (by omega); clear hF hG))
   all_goals go_wp2_with fail
   all_goals go_meet
   all_goals first
     | (with_reducible exact quo0 K3.out EB)
     | (with_reducible exact quo0' K3.out EB)
     | (with_reducible exact quo1 K3.out EB Nw50 (by omega))
     | (with_reducible exact quo1 K3.out EB Nw51 (by omega))
     | (with_reducible exact quo1 K3.out EB Nw90 (by omega))
     | (with_reducible exact quo1 K3.out EB Nw91 (by omega))
     | (with_reducible exact quo1' K3.out EB (g := wc.heap.size) (by omega))
     | (with_reducible exact quo1' K3.out EB (g := wc.heap.size + 1) (by omega))
     | (with_reducible exact quo1' K3.out EB (g := w5.heap.size) (by omega))
     | (with_reducible exact quo1' K3.out EB (g := w5.heap.size + 1) (by omega))
     | (with_reducible exact quo2 K3.out EB Nw50 (g' := wc.heap.size + 1) (by omega) (by omega) (by omega))
     | (with_reducible exact quo2 K3.out EB Nw50 (g' := w5.heap.size) (by omega) (by omega) (by omega))
     | (with_reducible exact quo2 K3.out EB Nw50 (g' := w5.heap.size + 1) (by omega) (by omega) (by omega))
     | (with_reducible exact quo2 K3.out EB Nw51 (g' := wc.heap.size) (by omega) (by omega) (by omega))
     | (with_reducible exact quo2 K3.out EB Nw51 (g' := w5.heap.size) (by omega) (by omega) (by omega))
     | (with_reducible exact quo2 K3.out EB Nw51 (g' := w5.heap.size + 1) (by omega) (by omega) (by omega))
     | (with_reducible exact quo2 K3.out EB Nw90 (g' := wc.heap.size) (by omega) (by omega) (by omega))
     | (with_reducible exact quo2 K3.out EB Nw90 (g' := wc.heap.size + 1) (by omega) (by omega) (by omega))
     | (with_reducible exact quo2 K3.out EB Nw90 (g' := w5.heap.size + 1) (by omega) (by omega) (by omega))
     | (with_reducible exact quo2 K3.out EB Nw91 (g' := wc.heap.size) (by omega) (by omega) (by omega))
     | (with_reducible exact quo2 K3.out EB Nw91 (g' := wc.heap.size + 1) (by omega) (by omega) (by omega))
     | (with_reducible exact quo2 K3.out EB Nw91 (g' := w5.heap.size) (by omega) (by omega) (by omega))
  case rest =>
   obtain ⟨g7, s7, a7, b7, c7, d7, rfl, C7, B7, hg7, hE⟩ := hcut
   have K7 := hide C7
   have B0 := B0.ext hE; have B1 := B1.ext hE; have B2 := B2.ext hE; have B6 := B6.ext hE; have EE := EE.trans hE
   have l7 := B7.lt
   have n7 : g6 < g7 := Nat.lt_of_lt_of_le l6 hg7
   clear C7 hE hg7 l6 XA ka
   obtain ⟨c0, c1, c2, c3, c4, f0, f1, f2, f3, f4⟩ := five_cells B0
   obtain ⟨d0, d1, d2, d3, d4, g0, g1, g2, g3, g4⟩ := five_cells B1
   obtain ⟨m0, m1, m2, m3, m4, mf0, mf1, mf2, mf3, mf4⟩ := five_cells B6
   go_upto_region 5 with fail
   go_cut [10] (fun p wx => Quot wc m p wx)
   case first =>
    have EB := Ext.refl wc
    go_region_held3 (fun w' => w'.cell? ⟨w.heap.size + 1, 0, none⟩ = some (.bool t) ∧ w'.cell? ⟨w.heap.size + 1, 1, none⟩ = some (.int .u64 (e : Int)) ∧ w'.cell? ⟨w.heap.size + 1, 2, none⟩ = some (.int .u64 (f : Int)) ∧ w'.cell? ⟨w.heap.size + 1, 3, none⟩ = some (.int .u64 (g : Int)) ∧ w'.cell? ⟨w.heap.size + 1, 4, none⟩ = some (.int .u64 (h : Int)) ∧ w'.cell? ⟨g6, 0, none⟩ = some (.bool s8) ∧ w'.cell? ⟨g6, 1, none⟩ = some (.int .u64 (a8 : Int)) ∧ w'.cell? ⟨g6, 2, none⟩ = some (.int .u64 (b8 : Int)) ∧ w'.cell? ⟨g6, 3, none⟩ = some (.int .u64 (c8 : Int)) ∧ w'.cell? ⟨g6, 4, none⟩ = some (.int .u64 (d8 : Int))) (first | (with_reducible exact ⟨d0, d1, d2, d3, d4, m0, m1, m2, m3, m4⟩) | go_keep) (first
      | (go_at_call 77; (with_reducible refine (kb.out _).mono ?_); rintro e' w5 ⟨rfl, hE⟩; have hF : Ext wc w5 := (by first | (with_reducible exact hE) | (with_reducible exact (ext_drew _).trans hE)); clear hE; have hG := hF; have B1 := B1.ext hG; have B6 := B6.ext hG; have EB := EB.trans hG; obtain ⟨d0, d1, d2, d3, d4, g0, g1, g2, g3, g4⟩ := five_cells B1; obtain ⟨m0, m1, m2, m3, m4, mf0, mf1, mf2, mf3, mf4⟩ := five_cells B6; have szw5 := hG.size; have loB1 := B1.lt; have loB6 := B6.lt; clear hF hG)
      | (go_at_call 77; (with_reducible refine (kb.out _).mono ?_); rintro e' w5 ⟨rfl, hE⟩; have hF : Ext (wc.alloc (.cells #[.bool false, .int .u64 0, .int .u64 0, .int .u64 0, .int .u64 0] 25)) w5 := (by first | (with_reducible exact hE) | (with_reducible exact (ext_drew _).trans hE)); clear hE; have hG := (ext_alloc wc (.cells #[.bool false, .int .u64 0, .int .u64 0, .int .u64 0, .int .u64 0] 25)).trans hF; have Nw50 : Box w5 (wc.heap.size) false 0 0 0 0 := (Box.new0 wc).ext hF; have B1 := B1.ext hG; have B6 := B6.ext hG; have EB := EB.trans hG; obtain ⟨d0, d1, d2, d3, d4, g0, g1, g2, g3, g4⟩ := five_cells B1; obtain ⟨m0, m1, m2, m3, m4, mf0, mf1, mf2, mf3, mf4⟩ := five_cells B6; obtain ⟨x0c0, x0c1, x0c2, x0c3, x0c4, x0f0, x0f1, x0f2, x0f3, x0f4⟩ := five_cells Nw50; have szw5 := hG.size; have loB1 := B1.lt; have loB6 := B6.lt; have loNw50 := Nw50.lt; have ne0 : wc.heap.size ≠ w.heap.size + 1 := (by omega); have ne1 : wc.heap.size ≠ g6 := (by omega); clear hF hG)
      | (go_at_call 77; (with_reducible refine (kb.out _).mono ?_); rintro e' w5 ⟨rfl, hE⟩; have hF : Ext ((wc.alloc (.cells #[.bool false, .int .u64 0, .int .u64 0, .int .u64 0, .int .u64 0] 25)).alloc (.cells #[.bool false, .int .u64 0, .int .u64 0, .int .u64 0, .int .u64 0] 25)) w5 := (by first | (with_reducible exact hE) | (with_reducible exact (ext_drew _).trans hE)); clear hE; have hG := ((ext_alloc wc (.cells #[.bool false, .int .u64 0, .int .u64 0, .int .u64 0, .int .u64 0] 25)).trans (ext_alloc _ (.cells #[.bool false, .int .u64 0, .int .u64 0, .int .u64 0, .int .u64 0] 25))).trans hF; have Nw50 : Box w5 (wc.heap.size) false 0 0 0 0 := ((Box.new0 wc).ext (ext_alloc _ _)).ext hF; have Nw51 : Box w5 (wc.heap.size + 1) false 0 0 0 0 := (show Box ((wc.alloc (.cells #[.bool false, .int .u64 0, .int .u64 0, .int .u64 0, .int .u64 0] 25)).alloc (.cells #[.bool false, .int .u64 0, .int .u64 0, .int .u64 0, .int .u64 0] 25)) (wc.heap.size + 1) false 0 0 0 0 from (two_blocks wc (.cells #[.bool false, .int .u64 0, .int .u64 0, .int .u64 0, .int .u64 0] 25) (.cells #[.bool false, .int .u64 0, .int .u64 0, .int .u64 0, .int .u64 0] 25)).2).ext hF; have B1 := B1.ext hG; have B6 := B6.ext hG; have EB := EB.trans hG; obtain ⟨d0, d1, d2, d3, d4, g0, g1, g2, g3, g4⟩ := five_cells B1; obtain ⟨m0, m1, m2, m3, m4, mf0, mf1, mf2, mf3, mf4⟩ := five_cells B6; obtain ⟨x0c0, x0c1, x0c2, x0c3, x0c4, x0f0, x0f1, x0f2, x0f3, x0f4⟩ := five_cells Nw50; obtain ⟨x1c0, x1c1, x1c2, x1c3, x1c4, x1f0, x1f1, x1f2, x1f3, x1f4⟩ := five_cells Nw51; have szw5 := hG.size; have loB1 := B1.lt; have loB6 := B6.lt; have loNw50 := Nw50.lt; have loNw51 := Nw51.lt; have ne0 : wc.heap.size ≠ w.heap.size + 1 := (by omega); have ne1 : wc.heap.size + 1 ≠ w.heap.size + 1 := (by omega); have ne2 : wc.heap.size ≠ w.heap.size := (by omega); have ne3 : wc.heap.size ≠ g6 := (by omega); have ne4 : wc.heap.size + 1 ≠ g6 := (by omega); have ne5 : wc.heap.size + 1 ≠ wc.heap.size := (by omega); clear hF hG)
      | (go_at_call 55; refine (ref_wdiv false s8 e f g h a8 b8 c8 d8 Y G _ YA.out V8.out).mono ?_; rintro e' w9 ⟨s3, a3, b3, c3, d3, s9, a9, b9, c9, d9, o3, rfl, ho, C3, C4, hE⟩; have Ho := hide ho; rw [if_neg hGne.out] at C3; rw [HMM.out] at C3; have K3 := hide C3; clear ho C3 C4; have hF : Ext w5 w9 := (by first | (with_reducible exact hE) | (with_reducible exact (ext_drew _).trans hE)); clear hE; have hG := hF; have B1 := B1.ext hG; have B6 := B6.ext hG; have EB := EB.trans hG; have Nw50 := Nw50.ext hG; have Nw51 := Nw51.ext hG; obtain ⟨d0, d1, d2, d3, d4, g0, g1, g2, g3, g4⟩ := five_cells B1; obtain ⟨m0, m1, m2, m3, m4, mf0, mf1, mf2, mf3, mf4⟩ := five_cells B6; obtain ⟨x0c0, x0c1, x0c2, x0c3, x0c4, x0f0, x0f1, x0f2, x0f3, x0f4⟩ := five_cells Nw50; obtain ⟨x1c0, x1c1, x1c2, x1c3, x1c4, x1f0, x1f1, x1f2, x1f3, x1f4⟩ := five_cells Nw51; have szw9 := hG.size; have loB1 := B1.lt; have loB6 := B6.lt; have loNw50 := Nw50.lt; have loNw51 := Nw51.lt; have ne0 : wc.heap.size ≠ w.heap.size + 1 := (by omega); have ne1 : wc.heap.size + 1 ≠ w.heap.size + 1 := (by omega); have ne2 : wc.heap.size ≠ w.heap.size := (by omega); have ne3 : wc.heap.size ≠ g6 := (by omega); have ne4 : wc.heap.size + 1 ≠ g6 := (by omega); have ne5 : wc.heap.size + 1 ≠ wc.heap.size := (by omega); clear hF hG)
      | (go_at_call 55; refine (ref_wdiv false s8 e f g h a8 b8 c8 d8 Y G _ YA.out V8.out).mono ?_; rintro e' w9 ⟨s3, a3, b3, c3, d3, s9, a9, b9, c9, d9, o3, rfl, ho, C3, C4, hE⟩; have Ho := hide ho; rw [if_neg hGne.out] at C3; rw [HMM.out] at C3; have K3 := hide C3; clear ho C3 C4; have hF : Ext w5 w9 := (by first | (with_reducible exact hE) | (with_reducible exact (ext_drew _).trans hE)); clear hE; have hG := hF; have B1 := B1.ext hG; have B6 := B6.ext hG; have EB := EB.trans hG; have Nw50 := Nw50.ext hG; obtain ⟨d0, d1, d2, d3, d4, g0, g1, g2, g3, g4⟩ := five_cells B1; obtain ⟨m0, m1, m2, m3, m4, mf0, mf1, mf2, mf3, mf4⟩ := five_cells B6; obtain ⟨x0c0, x0c1, x0c2, x0c3, x0c4, x0f0, x0f1, x0f2, x0f3, x0f4⟩ := five_cells Nw50; have szw9 := hG.size; have loB1 := B1.lt; have loB6 := B6.lt; have loNw50 := Nw50.lt; have ne0 : wc.heap.size ≠ w.heap.size + 1 := (by omega); have ne1 : wc.heap.size ≠ g6 := (by omega); clear hF hG)
      | (go_at_call 55; refine (ref_wdiv false s8 e f g h a8 b8 c8 d8 Y G _ YA.out V8.out).mono ?_; rintro e' w9 ⟨s3, a3, b3, c3, d3, s9, a9, b9, c9, d9, o3, rfl, ho, C3, C4, hE⟩; have Ho := hide ho; rw [if_neg hGne.out] at C3; rw [HMM.out] at C3; have K3 := hide C3; clear ho C3 C4; have hF : Ext (w5.alloc (.cells #[.bool false, .int .u64 0, .int .u64 0, .int .u64 0, .int .u64 0] 25)) w9 := (by first | (with_reducible exact hE) | (with_reducible exact (ext_drew _).trans hE)); clear hE; have hG := (ext_alloc w5 (.cells #[.bool false, .int .u64 0, .int .u64 0, .int .u64 0, .int .u64 0] 25)).trans hF; have Nw90 : Box w9 (w5.heap.size) false 0 0 0 0 := (Box.new0 w5).ext hF; have B1 := B1.ext hG; have B6 := B6.ext hG; have EB := EB.trans hG; have Nw50 := Nw50.ext hG; obtain ⟨d0, d1, d2, d3, d4, g0, g1, g2, g3, g4⟩ := five_cells B1; obtain ⟨m0, m1, m2, m3, m4, mf0, mf1, mf2, mf3, mf4⟩ := five_cells B6; obtain ⟨x0c0, x0c1, x0c2, x0c3, x0c4, x0f0, x0f1, x0f2, x0f3, x0f4⟩ := five_cells Nw50; obtain ⟨x1c0, x1c1, x1c2, x1c3, x1c4, x1f0, x1f1, x1f2, x1f3, x1f4⟩ := five_cells Nw90; have szw9 := hG.size; have loB1 := B1.lt; have loB6 := B6.lt; have loNw50 := Nw50.lt; have loNw90 := Nw90.lt; have ne0 : wc.heap.size ≠ w.heap.size + 1 := (by omega); have ne1 : w5.heap.size ≠ w.heap.size + 1 := (by omega); have ne2 : wc.heap.size ≠ g6 := (by omega); have ne3 : w5.heap.size ≠ g6 := (by omega); have ne4 : w5.heap.size ≠ wc.heap.size := (by omega); clear hF hG)
      | (go_at_call 55; refine (ref_wdiv false s8 e f g h a8 b8 c8 d8 Y G _ YA.out V8.out).mono ?_; rintro e' w9 ⟨s3, a3, b3, c3, d3, s9, a9, b9, c9, d9, o3, rfl, ho, C3, C4, hE⟩; have Ho := hide ho; rw [if_neg hGne.out] at C3; rw [HMM.out] at C3; have K3 := hide C3; clear ho C3 C4; have hF : Ext w5 w9 := (by first | (with_reducible exact hE) | (with_reducible exact (ext_drew _).trans hE)); clear hE; have hG := hF; have B1 := B1.ext hG; have B6 := B6.ext hG; have EB := EB.trans hG; obtain ⟨d0, d1, d2, d3, d4, g0, g1, g2, g3, g4⟩ := five_cells B1; obtain ⟨m0, m1, m2, m3, m4, mf0, mf1, mf2, mf3, mf4⟩ := five_cells B6; have szw9 := hG.size; have loB1 := B1.lt; have loB6 := B6.lt; clear hF hG)
      | (go_at_call 55; refine (ref_wdiv false s8 e f g h a8 b8 c8 d8 Y G _ YA.out V8.out).mono ?_; rintro e' w9 ⟨s3, a3, b3, c3, d3, s9, a9, b9, c9, d9, o3, rfl, ho, C3, C4, hE⟩; have Ho := hide ho; rw [if_neg hGne.out] at C3; rw [HMM.out] at C3; have K3 := hide C3; clear ho C3 C4; have hF : Ext (w5.alloc (.cells #[.bool false, .int .u64 0, .int .u64 0, .int .u64 0, .int .u64 0] 25)) w9 := (by first | (with_reducible exact hE) | (with_reducible exact (ext_drew _).trans hE)); clear hE; have hG := (ext_alloc w5 (.cells #[.bool false, .int .u64 0, .int .u64 0, .int .u64 0, .int .u64 0] 25)).trans hF; have Nw90 : Box w9 (w5.heap.size) false 0 0 0 0 := (Box.new0 w5).ext hF; have B1 := B1.ext hG; have B6 := B6.ext hG; have EB := EB.trans hG; obtain ⟨d0, d1, d2, d3, d4, g0, g1, g2, g3, g4⟩ := five_cells B1; obtain ⟨m0, m1, m2, m3, m4, mf0, mf1, mf2, mf3, mf4⟩ := five_cells B6; obtain ⟨x0c0, x0c1, x0c2, x0c3, x0c4, x0f0, x0f1, x0f2, x0f3, x0f4⟩ := five_cells Nw90; have szw9 := hG.size; have loB1 := B1.lt; have loB6 := B6.lt; have loNw90 := Nw90.lt; have ne0 : w5.heap.size ≠ w.heap.size + 1 := (by omega); have ne1 : w5.heap.size ≠ g6 := (by omega); clear hF hG)
      | (go_at_call 55; refine (ref_wdiv false s8 e f g h a8 b8 c8 d8 Y G _ YA.out V8.out).mono ?_; rintro e' w9 ⟨s3, a3, b3, c3, d3, s9, a9, b9, c9, d9, o3, rfl, ho, C3, C4, hE⟩; have Ho := hide ho; rw [if_neg hGne.out] at C3; rw [HMM.out] at C3; have K3 := hide C3; clear ho C3 C4; have hF : Ext ((w5.alloc (.cells #[.bool false, .int .u64 0, .int .u64 0, .int .u64 0, .int .u64 0] 25)).alloc (.cells #[.bool false, .int .u64 0, .int .u64 0, .int .u64 0, .int .u64 0] 25)) w9 := (by first | (with_reducible exact hE) | (with_reducible exact (ext_drew _).trans hE)); clear hE; have hG := ((ext_alloc w5 (.cells #[.bool false, .int .u64 0, .int .u64 0, .int .u64 0, .int .u64 0] 25)).trans (ext_alloc _ (.cells #[.bool false, .int .u64 0, .int .u64 0, .int .u64 0, .int .u64 0] 25))).trans hF; have Nw90 : Box w9 (w5.heap.size) false 0 0 0 0 := ((Box.new0 w5).ext (ext_alloc _ _)).ext hF; have Nw91 : Box w9 (w5.heap.size + 1) false 0 0 0 0 := (show Box ((w5.alloc (.cells #[.bool false, .int .u64 0, .int .u64 0, .int .u64 0, .int .u64 0] 25)).alloc (.cells #[.bool false, .int .u64 0, .int .u64 0, .int .u64 0, .int .u64 0] 25)) (w5.heap.size + 1) false 0 0 0 0 from (two_blocks w5 (.cells #[.bool false, .int .u64 0, .int .u64 0, .int .u64 0, .int .u64 0] 25) (.cells #[.bool false, .int .u64 0, .int .u64 0, .int .u64 0, .int .u64 0] 25)).2).ext hF; have B1 := B1.ext hG; have B6 := B6.ext hG; have EB := EB.trans hG; obtain ⟨d0, d1, d2, d3, d4, g0, g1, g2, g3, g4⟩ := five_cells B1; obtain ⟨m0, m1, m2, m3, m4, mf0, mf1, mf2, mf3, mf4⟩ := five_cells B6; obtain ⟨x0c0, x0c1, x0c2, x0c3, x0c4, x0f0, x0f1, x0f2, x0f3, x0f4⟩ := five_cells Nw90; obtain ⟨x1c0, x1c1, x1c2, x1c3, x1c4, x1f0, x1f1, x1f2, x1f3, x1f4⟩ := five_cells Nw91; have szw9 := hG.size; have loB1 := B1.lt; have loB6 := B6.lt; have loNw90 := Nw90.lt; have loNw91 := Nw91.lt; have ne0 : w5.heap.size ≠ w.heap.size + 1 := (by omega); have ne1 : w5.heap.size + 1 ≠ w.heap.size + 1 := (by omega); have ne2 : w5.heap.size ≠ w.heap.size := (by omega); have ne3 : w5.heap.size ≠ g6 := (by omega); have ne4 : w5.heap.size + 1 ≠ g6 := (by omega); have ne5 : w5.heap.size + 1 ≠ w5.heap.size := (by omega); clear hF hG))
    all_goals go_wp2_with fail
    all_goals go_meet
    all_goals first
      | (with_reducible exact quo0 K3.out EB)
      | (with_reducible exact quo0' K3.out EB)
      | (with_reducible exact quo1 K3.out EB Nw50 (by omega))
      | (with_reducible exact quo1 K3.out EB Nw51 (by omega))
      | (with_reducible exact quo1 K3.out EB Nw90 (by omega))
      | (with_reducible exact quo1 K3.out EB Nw91 (by omega))
      | (with_reducible exact quo1' K3.out EB (g := wc.heap.size) (by omega))
      | (with_reducible exact quo1' K3.out EB (g := wc.heap.size + 1) (by omega))
      | (with_reducible exact quo1' K3.out EB (g := w5.heap.size) (by omega))
      | (with_reducible exact quo1' K3.out EB (g := w5.heap.size + 1) (by omega))
      | (with_reducible exact quo2 K3.out EB Nw50 (g' := wc.heap.size + 1) (by omega) (by omega) (by omega))
      | (with_reducible exact quo2 K3.out EB Nw50 (g' := w5.heap.size) (by omega) (by omega) (by omega))
      | (with_reducible exact quo2 K3.out EB Nw50 (g' := w5.heap.size + 1) (by omega) (by omega) (by omega))
      | (with_reducible exact quo2 K3.out EB Nw51 (g' := wc.heap.size) (by omega) (by omega) (by omega))
      | (with_reducible exact quo2 K3.out EB Nw51 (g' := w5.heap.size) (by omega) (by omega) (by omega))
      | (with_reducible exact quo2 K3.out EB Nw51 (g' := w5.heap.size + 1) (by omega) (by omega) (by omega))
      | (with_reducible exact quo2 K3.out EB Nw90 (g' := wc.heap.size) (by omega) (by omega) (by omega))
      | (with_reducible exact quo2 K3.out EB Nw90 (g' := wc.heap.size + 1) (by omega) (by omega) (by omega))
      | (with_reducible exact quo2 K3.out EB Nw90 (g' := w5.heap.size + 1) (by omega) (by omega) (by omega))
      | (with_reducible exact quo2 K3.out EB Nw91 (g' := wc.heap.size) (by omega) (by omega) (by omega))
      | (with_reducible exact quo2 K3.out EB Nw91 (g' := wc.heap.size + 1) (by omega) (by omega) (by omega))
      | (with_reducible exact quo2 K3.out EB Nw91 (g' := w5.heap.size) (by omega) (by omega) (by omega))
   case rest =>
    obtain ⟨g10, s10, a10, b10, c10, d10, rfl, C10, B10, hg10, hE⟩ := hcut
    have K10 := hide C10
    have B0 := B0.ext hE; have B1 := B1.ext hE; have B2 := B2.ext hE; have B7 := B7.ext hE; have EE := EE.trans hE
    have n10 : g7 < g10 := Nat.lt_of_lt_of_le l7 hg10
    clear C10 hE hg10 l7 YA kb B6
    obtain ⟨c0, c1, c2, c3, c4, f0, f1, f2, f3, f4⟩ := five_cells B0
    obtain ⟨d0, d1, d2, d3, d4, g0, g1, g2, g3, g4⟩ := five_cells B1
    obtain ⟨m0, m1, m2, m3, m4, mf0, mf1, mf2, mf3, mf4⟩ := five_cells B7
    go_upto_if 53 with fail
    go_cut [] (fun wx => ∃ (s' : Bool) (a' b' c' d' : Nat), IsC s' a' b' c' d' (numR x y) ∧ Box wx g7 s' a' b' c' d' ∧ Box wx g10 s10 a10 b10 c10 d10 ∧ Box10 wx (w.heap.size + 1 + 1) false 0 0 0 0 false 0 0 0 0 ∧ Ext w wx)
    case first =>
     cases df
     · have h1 := HN1.out
       rw [if_neg (by simp)] at h1
       have HR : Hid (IsC s7 a7 b7 c7 d7 (numR x y)) := by rw [h1]; exact K7.out
       clear h1
       go_wp2_with fail
       all_goals go_meet
       all_goals exact ⟨s7, a7, b7, c7, d7, HR.out, B7, B10, B2, EE⟩
     · have h1 := HN1.out
       rw [if_pos rfl] at h1
       have kn : Hid (∀ w', Calls Try.prog 11 #[.agg #[.bool s7, .int .u64 (a7 : Int), .int .u64 (b7 : Int), .int .u64 (c7 : Int), .int .u64 (d7 : Int)]] w' (WideOnly (numR x y) w')) := fun w' => by rw [h1]; exact ref_neg _ _ _ _ _ _ w' K7.out.1
       clear h1
       go_wp2_with (go_at_call 11; (with_reducible refine (kn.out _).mono ?_); rintro e' w12 ⟨s12, a12, b12, c12, d12, rfl, C12, hE⟩; have K12 := hide C12; have B7 := B7.ext hE; have B10 := B10.ext hE; have B2 := B2.ext hE; have EE := EE.trans hE; obtain ⟨m0, m1, m2, m3, m4, mf0, mf1, mf2, mf3, mf4⟩ := five_cells B7; clear hE C12)
       all_goals go_meet
       all_goals exact ⟨s12, a12, b12, c12, d12, K12.out, B7.put, B10.far (by omega) _ _ _ _ _, B2.far (by omega) _ _ _ _ _, ext_five EE (by omega) _ _ _ _ _⟩
    case rest =>
     clear B0 B1 B7 B10 B2 EE K7
     obtain ⟨s7, a7, b7, c7, d7, C7, B7, B10, B2, EE⟩ := hcut
     have K10' : IsC s10 a10 b10 c10 d10 (denR x y) := by rw [HD1.out]; exact K10.out
     have hvo := HVV.out _ _ _ _ _ _ _ _ _ _ C7 K10'
     rw [HO.out] at hvo
     have kv : Hid (∀ w', Calls Try.prog 58 #[.agg #[.bool s7, .int .u64 (a7 : Int), .int .u64 (b7 : Int), .int .u64 (c7 : Int), .int .u64 (d7 : Int), .bool s10, .int .u64 (a10 : Int), .int .u64 (b10 : Int), .int .u64 (c10 : Int), .int .u64 (d10 : Int)]] w' (BoolRet o w')) := fun w' => rf_valid _ _ _ _ _ _ _ _ _ _ _ _ w' C7.1 K10'.1 o hvo
     have K7 := hide C7
     have K11 := hide K10'
     clear hvo C7 K10' K10
     obtain ⟨m0, m1, m2, m3, m4, mf0, mf1, mf2, mf3, mf4⟩ := five_cells B7
     obtain ⟨n0, n1, n2, n3, n4, nf0, nf1, nf2, nf3, nf4⟩ := five_cells B10
     go_upto_region 9 with fail
     have B13 : Box10 (wc.alloc (.cells #[.bool s7, .int .u64 (a7 : Int), .int .u64 (b7 : Int), .int .u64 (c7 : Int), .int .u64 (d7 : Int), .bool s10, .int .u64 (a10 : Int), .int .u64 (b10 : Int), .int .u64 (c10 : Int), .int .u64 (d10 : Int)] 40)) wc.heap.size s7 a7 b7 c7 d7 s10 a10 b10 c10 d10 := heap_alloc_new wc _
     have hE := ext_alloc wc (.cells #[.bool s7, .int .u64 (a7 : Int), .int .u64 (b7 : Int), .int .u64 (c7 : Int), .int .u64 (d7 : Int), .bool s10, .int .u64 (a10 : Int), .int .u64 (b10 : Int), .int .u64 (c10 : Int), .int .u64 (d10 : Int)] 40)
     have l2 := B2.lt
     have B2 := B2.ext hE; have EE := EE.trans hE
     generalize wc.alloc (.cells #[.bool s7, .int .u64 (a7 : Int), .int .u64 (b7 : Int), .int .u64 (c7 : Int), .int .u64 (d7 : Int), .bool s10, .int .u64 (a10 : Int), .int .u64 (b10 : Int), .int .u64 (c10 : Int), .int .u64 (d10 : Int)] 40) = W13 at *
     generalize wc.heap.size = g13 at *
     clear hE
     obtain ⟨q0, q1, q2, q3, q4, q5, q6, q7, q8, q9, qf0, qf1, qf2, qf3, qf4, qf5, qf6, qf7, qf8, qf9⟩ := ten_cells B13
     cases o
     · have KR : Hid (N = 0 ∧ D = 0) := ⟨HN.out.symm, HD.out.symm⟩
       go_wp2_with (go_at_call 58; (with_reducible refine (kv.out _).mono ?_); rintro e' w14 ⟨rfl, hE⟩; have B13 := B13.ext hE; have B2 := B2.ext hE; have EE := EE.trans hE; obtain ⟨q0, q1, q2, q3, q4, q5, q6, q7, q8, q9, qf0, qf1, qf2, qf3, qf4, qf5, qf6, qf7, qf8, qf9⟩ := ten_cells B13; obtain ⟨i0, i1, i2, i3, i4, i5, i6, i7, i8, i9, j0, j1, j2, j3, j4, j5, j6, j7, j8, j9⟩ := ten_cells B2; clear hE)
       all_goals exact bodyPost_ret (v := .tuple #[.agg #[.bool false, .int .u64 0, .int .u64 0, .int .u64 0, .int .u64 0, .bool false, .int .u64 0, .int .u64 0, .int .u64 0, .int .u64 0], .bool false]) (by simp [results, Try.results45, go_sem, i0, i1, i2, i3, i4, i5, i6, i7, i8, i9]) rfl (by rw [KR.out.1, KR.out.2]; exact makeRet_no (ext_ten EE (by omega) _ _ _ _ _ _ _ _ _ _))
     · have KR : Hid (IsC s7 a7 b7 c7 d7 N ∧ IsC s10 a10 b10 c10 d10 D) := by
         have h1 := HN.out
         have h2 := HD.out
         rw [if_pos rfl] at h1 h2
         rw [← h1, ← h2]
         exact ⟨K7.out, K11.out⟩
       go_wp2_with (go_at_call 58; (with_reducible refine (kv.out _).mono ?_); rintro e' w14 ⟨rfl, hE⟩; have B13 := B13.ext hE; have B2 := B2.ext hE; have EE := EE.trans hE; obtain ⟨q0, q1, q2, q3, q4, q5, q6, q7, q8, q9, qf0, qf1, qf2, qf3, qf4, qf5, qf6, qf7, qf8, qf9⟩ := ten_cells B13; obtain ⟨i0, i1, i2, i3, i4, i5, i6, i7, i8, i9, j0, j1, j2, j3, j4, j5, j6, j7, j8, j9⟩ := ten_cells B2; clear hE)
       all_goals exact bodyPost_ret (v := .tuple #[.agg #[.bool s7, .int .u64 (a7 : Int), .int .u64 (b7 : Int), .int .u64 (c7 : Int), .int .u64 (d7 : Int), .bool s10, .int .u64 (a10 : Int), .int .u64 (b10 : Int), .int .u64 (c10 : Int), .int .u64 (d10 : Int)], .bool true]) (by simp [results, Try.results45, go_sem, i0, i1, i2, i3, i4, i5, i6, i7, i8, i9]) rfl ⟨s7, a7, b7, c7, d7, s10, a10, b10, c10, d10, rfl, KR.out.1, KR.out.2, ext_ten EE (by omega) _ _ _ _ _ _ _ _ _ _⟩
end
section
open Go Go.RowKit Go.Sort
attribute [local go_sem] qUpon putAll slotV
set_option maxHeartbeats 1000000 in
theorem q_abs (s : Bool) (a b c d : Nat) (z : Int) (w : World) (h : IsW s a b c d z) : Calls Try.prog 59 #[.agg #[.bool s, .int .u64 (a : Int), .int .u64 (b : Int), .int .u64 (c : Int), .int .u64 (d : Int)]] w (WideOnly (z.natAbs : Int) w) := by
 have K := hide (abs_isC h)
 have H2 := two_blocks w (.cells #[.bool false, .int .u64 (a : Int), .int .u64 (b : Int), .int .u64 (c : Int), .int .u64 (d : Int)] 25) (.cells #[.bool false, .int .u64 (a : Int), .int .u64 (b : Int), .int .u64 (c : Int), .int .u64 (d : Int)] 25)
 have EE := hide ((ext_alloc w (.cells #[.bool false, .int .u64 (a : Int), .int .u64 (b : Int), .int .u64 (c : Int), .int .u64 (d : Int)] 25)).trans (ext_alloc _ (.cells #[.bool false, .int .u64 (a : Int), .int .u64 (b : Int), .int .u64 (c : Int), .int .u64 (d : Int)] 25)))
 go_enter Try.func59, Try.ntmps59
 go_wp2_with fail
 all_goals exact bodyPost_ret (v := .agg #[.bool false, .int .u64 (a : Int), .int .u64 (b : Int), .int .u64 (c : Int), .int .u64 (d : Int)]) (by simp [results, Try.results59, go_sem]) rfl ⟨false, a, b, c, d, rfl, K.out, EE.out⟩
theorem q_abs' {z m : Int} (hz : F256 z) (e : (z.natAbs : Int) = m) (w : World) : Calls Try.prog 59 #[.agg #[.bool (sg z), .int .u64 (l0 z : Int), .int .u64 (l1 z : Int), .int .u64 (l2 z : Int), .int .u64 (l3 z : Int)]] w (Ret (.agg #[.bool (sg m), .int .u64 (l0 m : Int), .int .u64 (l1 m : Int), .int .u64 (l2 m : Int), .int .u64 (l3 m : Int)]) w) := (q_abs _ _ _ _ _ z w (isC_of hz).1).mono fun _ _ h => by rw [e] at h; exact ret_wide h
set_option maxRecDepth 100000 in
set_option maxHeartbeats 8000000 in
theorem q_simpler {n1 m1 n2 m2 : Int} (h1 : Frac n1 m1) (h2 : Frac n2 m2) (o : Bool) (ho : simB n1 m1 n2 m2 = o) (w : World) : Calls Try.prog 29 #[.agg #[.bool (sg n1), .int .u64 (l0 n1 : Int), .int .u64 (l1 n1 : Int), .int .u64 (l2 n1 : Int), .int .u64 (l3 n1 : Int), .bool (sg m1), .int .u64 (l0 m1 : Int), .int .u64 (l1 m1 : Int), .int .u64 (l2 m1 : Int), .int .u64 (l3 m1 : Int)], .agg #[.bool (sg n2), .int .u64 (l0 n2 : Int), .int .u64 (l1 n2 : Int), .int .u64 (l2 n2 : Int), .int .u64 (l3 n2 : Int), .bool (sg m2), .int .u64 (l0 m2 : Int), .int .u64 (l1 m2 : Int), .int .u64 (l2 m2 : Int), .int .u64 (l3 m2 : Int)]] w (Ret (.bool o) w) := by
 have kV1 : Hid (∀ w, Calls Try.prog 58 #[.agg #[.bool (sg n1), .int .u64 (l0 n1 : Int), .int .u64 (l1 n1 : Int), .int .u64 (l2 n1 : Int), .int .u64 (l3 n1 : Int), .bool (sg m1), .int .u64 (l0 m1 : Int), .int .u64 (l1 m1 : Int), .int .u64 (l2 m1 : Int), .int .u64 (l3 m1 : Int)]] w (Ret (.bool true) w)) := fun w => h_valid h1 w
 have kV2 : Hid (∀ w, Calls Try.prog 58 #[.agg #[.bool (sg n2), .int .u64 (l0 n2 : Int), .int .u64 (l1 n2 : Int), .int .u64 (l2 n2 : Int), .int .u64 (l3 n2 : Int), .bool (sg m2), .int .u64 (l0 m2 : Int), .int .u64 (l1 m2 : Int), .int .u64 (l2 m2 : Int), .int .u64 (l3 m2 : Int)]] w (Ret (.bool true) w)) := fun w => h_valid h2 w
 rcases Int.lt_trichotomy m1 m2 with he | he | he
 · have kC : Hid (∀ w, Calls Try.prog 23 #[.agg #[.bool (sg m1), .int .u64 (l0 m1 : Int), .int .u64 (l1 m1 : Int), .int .u64 (l2 m1 : Int), .int .u64 (l3 m1 : Int)], .agg #[.bool (sg m2), .int .u64 (l0 m2 : Int), .int .u64 (l1 m2 : Int), .int .u64 (l2 m2 : Int), .int .u64 (l3 m2 : Int)]] w (Ret (.int .i64 (-1)) w)) := fun w => d_cmp h1.fd h2.fd (by unfold cmpI; split <;> (try split) <;> omega) w
   have hrl : true = o := by rw [← ho]; unfold simB; symm; rw [decide_eq_true_iff]; omega
   subst hrl
   clear ho h1 h2 he
   obtain ⟨W0, hW0⟩ : ∃ W0, W0 = ((w.alloc (.cells #[.bool (sg n1), .int .u64 (l0 n1 : Int), .int .u64 (l1 n1 : Int), .int .u64 (l2 n1 : Int), .int .u64 (l3 n1 : Int), .bool (sg m1), .int .u64 (l0 m1 : Int), .int .u64 (l1 m1 : Int), .int .u64 (l2 m1 : Int), .int .u64 (l3 m1 : Int)] 40)).alloc (.cells #[.bool (sg n2), .int .u64 (l0 n2 : Int), .int .u64 (l1 n2 : Int), .int .u64 (l2 n2 : Int), .int .u64 (l3 n2 : Int), .bool (sg m2), .int .u64 (l0 m2 : Int), .int .u64 (l1 m2 : Int), .int .u64 (l2 m2 : Int), .int .u64 (l3 m2 : Int)] 40)) := ⟨_, rfl⟩
   have H2 := two_blocks w (.cells #[.bool (sg n1), .int .u64 (l0 n1 : Int), .int .u64 (l1 n1 : Int), .int .u64 (l2 n1 : Int), .int .u64 (l3 n1 : Int), .bool (sg m1), .int .u64 (l0 m1 : Int), .int .u64 (l1 m1 : Int), .int .u64 (l2 m1 : Int), .int .u64 (l3 m1 : Int)] 40) (.cells #[.bool (sg n2), .int .u64 (l0 n2 : Int), .int .u64 (l1 n2 : Int), .int .u64 (l2 n2 : Int), .int .u64 (l3 n2 : Int), .bool (sg m2), .int .u64 (l0 m2 : Int), .int .u64 (l1 m2 : Int), .int .u64 (l2 m2 : Int), .int .u64 (l3 m2 : Int)] 40)
   have EE0 : Ext w W0 := by rw [hW0]; exact ((ext_alloc _ _).trans (ext_alloc _ _))
   rw [← hW0] at H2
   have EE := hide EE0
   have HW := hide hW0
   obtain ⟨P2, P3⟩ : Box10 W0 (w.heap.size) (sg n1) (l0 n1) (l1 n1) (l2 n1) (l3 n1) (sg m1) (l0 m1) (l1 m1) (l2 m1) (l3 m1) ∧ Box10 W0 ((w.heap.size + 1)) (sg n2) (l0 n2) (l1 n2) (l2 n2) (l3 n2) (sg m2) (l0 m2) (l1 m2) (l2 m2) (l3 m2) := H2
   clear hW0 EE0
   go_enter Try.func29, Try.ntmps29
   go_upto_region 1 with fail
   rw [← HW.out]
   clear HW
   have hg0 : w.heap.size ≤ w.heap.size := Nat.le_refl _
   obtain ⟨g0, hg⟩ : ∃ g, w.heap.size = g := ⟨_, rfl⟩
   rw [hg] at P2 P3 ⊢
   replace hg0 : w.heap.size ≤ g0 := Nat.le_of_eq hg
   clear hg
   obtain ⟨xP20, xP21, xP22, xP23, xP24, xP25, xP26, xP27, xP28, xP29, -⟩ := ten_cells P2; obtain ⟨xP30, xP31, xP32, xP33, xP34, xP35, xP36, xP37, xP38, xP39, -⟩ := ten_cells P3
   go_upto_region 3 with (first
     | (go_at_call 58; (with_reducible refine (kV1.out _).mono ?_); rintro e w1 ⟨rfl, hE⟩; clear xP20 xP21 xP22 xP23 xP24 xP25 xP26 xP27 xP28 xP29 xP30 xP31 xP32 xP33 xP34 xP35 xP36 xP37 xP38 xP39; have P2 := P2.ext hE; have P3 := P3.ext hE; have EE := hide (EE.out.trans hE); clear hE; obtain ⟨xP20, xP21, xP22, xP23, xP24, xP25, xP26, xP27, xP28, xP29, -⟩ := ten_cells P2; obtain ⟨xP30, xP31, xP32, xP33, xP34, xP35, xP36, xP37, xP38, xP39, -⟩ := ten_cells P3)
     | (go_at_call 58; (with_reducible refine (kV2.out _).mono ?_); rintro e w2 ⟨rfl, hE⟩; clear xP20 xP21 xP22 xP23 xP24 xP25 xP26 xP27 xP28 xP29 xP30 xP31 xP32 xP33 xP34 xP35 xP36 xP37 xP38 xP39; have P2 := P2.ext hE; have P3 := P3.ext hE; have EE := hide (EE.out.trans hE); clear hE; obtain ⟨xP20, xP21, xP22, xP23, xP24, xP25, xP26, xP27, xP28, xP29, -⟩ := ten_cells P2; obtain ⟨xP30, xP31, xP32, xP33, xP34, xP35, xP36, xP37, xP38, xP39, -⟩ := ten_cells P3))
   clear xP20 xP21 xP22 xP23 xP24 xP25 xP26 xP27 xP28 xP29 xP30 xP31 xP32 xP33 xP34 xP35 xP36 xP37 xP38 xP39
   obtain ⟨xP20, xP21, xP22, xP23, xP24, xP25, xP26, xP27, xP28, xP29, -⟩ := ten_cells P2; obtain ⟨xP30, xP31, xP32, xP33, xP34, xP35, xP36, xP37, xP38, xP39, -⟩ := ten_cells P3
   go_upto_region 4 with (go_at_call 23; (with_reducible refine (kC.out _).mono ?_); rintro e w3 ⟨rfl, hE⟩; clear xP20 xP21 xP22 xP23 xP24 xP25 xP26 xP27 xP28 xP29 xP30 xP31 xP32 xP33 xP34 xP35 xP36 xP37 xP38 xP39; have P2 := P2.ext hE; have P3 := P3.ext hE; have EE := hide (EE.out.trans hE); clear hE; obtain ⟨xP20, xP21, xP22, xP23, xP24, xP25, xP26, xP27, xP28, xP29, -⟩ := ten_cells P2; obtain ⟨xP30, xP31, xP32, xP33, xP34, xP35, xP36, xP37, xP38, xP39, -⟩ := ten_cells P3)
   clear xP20 xP21 xP22 xP23 xP24 xP25 xP26 xP27 xP28 xP29 xP30 xP31 xP32 xP33 xP34 xP35 xP36 xP37 xP38 xP39
   refine wp_region_quiet_below (by kernel_rfl) (by kernel_rfl) ?_
   repeat (first | go_big_quiet_step (fail) | quiet_step (fail))
   refine wpQuiet_nil ?_
   intro _ hw'
   obtain ⟨⟨dq, osq⟩, hw''⟩ := hw'
   subst hw''
   have hE := ext_regrown w3 dq osq
   have P2 := P2.ext hE
   have P3 := P3.ext hE
   have EE := hide (EE.out.trans hE)
   clear hE
   generalize grow (redrawn w3 dq) osq = w3q at *
   go_wp2_with fail
   go_ret
   exact ⟨rfl, EE.out⟩
 · subst he
   have kC : Hid (∀ w, Calls Try.prog 23 #[.agg #[.bool (sg m1), .int .u64 (l0 m1 : Int), .int .u64 (l1 m1 : Int), .int .u64 (l2 m1 : Int), .int .u64 (l3 m1 : Int)], .agg #[.bool (sg m1), .int .u64 (l0 m1 : Int), .int .u64 (l1 m1 : Int), .int .u64 (l2 m1 : Int), .int .u64 (l3 m1 : Int)]] w (Ret (.int .i64 0) w)) := fun w => d_cmp h1.fd h2.fd (by unfold cmpI; split <;> (try split) <;> omega) w
   obtain ⟨u, hu⟩ : ∃ u : Int, (n1.natAbs : Int) = u := ⟨_, rfl⟩
   obtain ⟨v, hv⟩ : ∃ v : Int, (n2.natAbs : Int) = v := ⟨_, rfl⟩
   obtain ⟨r, hr⟩ : ∃ r, cmpI u v = r := ⟨_, rfl⟩
   have hrl : decide (r < 0) = o := by
     rw [← ho]; unfold simB; rw [decide_eq_decide, (cmpI_lt hr).1, ← hu, ← hv]; omega
   have fu : F256 u := by rw [← hu]; exact h1.fn.abs
   have fv : F256 v := by rw [← hv]; exact h2.fn.abs
   have kA1 : Hid (∀ w, Calls Try.prog 59 #[.agg #[.bool (sg n1), .int .u64 (l0 n1 : Int), .int .u64 (l1 n1 : Int), .int .u64 (l2 n1 : Int), .int .u64 (l3 n1 : Int)]] w (Ret (.agg #[.bool (sg u), .int .u64 (l0 u : Int), .int .u64 (l1 u : Int), .int .u64 (l2 u : Int), .int .u64 (l3 u : Int)]) w)) := fun w => q_abs' h1.fn hu w
   have kA2 : Hid (∀ w, Calls Try.prog 59 #[.agg #[.bool (sg n2), .int .u64 (l0 n2 : Int), .int .u64 (l1 n2 : Int), .int .u64 (l2 n2 : Int), .int .u64 (l3 n2 : Int)]] w (Ret (.agg #[.bool (sg v), .int .u64 (l0 v : Int), .int .u64 (l1 v : Int), .int .u64 (l2 v : Int), .int .u64 (l3 v : Int)]) w)) := fun w => q_abs' h2.fn hv w
   have kD : Hid (∀ w, Calls Try.prog 23 #[.agg #[.bool (sg u), .int .u64 (l0 u : Int), .int .u64 (l1 u : Int), .int .u64 (l2 u : Int), .int .u64 (l3 u : Int)], .agg #[.bool (sg v), .int .u64 (l0 v : Int), .int .u64 (l1 v : Int), .int .u64 (l2 v : Int), .int .u64 (l3 v : Int)]] w (Ret (.int .i64 r) w)) := fun w => d_cmp fu fv hr w
   clear ho hu hv hr fu fv h1 h2
   obtain ⟨W0, hW0⟩ : ∃ W0, W0 = ((w.alloc (.cells #[.bool (sg n1), .int .u64 (l0 n1 : Int), .int .u64 (l1 n1 : Int), .int .u64 (l2 n1 : Int), .int .u64 (l3 n1 : Int), .bool (sg m1), .int .u64 (l0 m1 : Int), .int .u64 (l1 m1 : Int), .int .u64 (l2 m1 : Int), .int .u64 (l3 m1 : Int)] 40)).alloc (.cells #[.bool (sg n2), .int .u64 (l0 n2 : Int), .int .u64 (l1 n2 : Int), .int .u64 (l2 n2 : Int), .int .u64 (l3 n2 : Int), .bool (sg m1), .int .u64 (l0 m1 : Int), .int .u64 (l1 m1 : Int), .int .u64 (l2 m1 : Int), .int .u64 (l3 m1 : Int)] 40)) := ⟨_, rfl⟩
   have H2 := two_blocks w (.cells #[.bool (sg n1), .int .u64 (l0 n1 : Int), .int .u64 (l1 n1 : Int), .int .u64 (l2 n1 : Int), .int .u64 (l3 n1 : Int), .bool (sg m1), .int .u64 (l0 m1 : Int), .int .u64 (l1 m1 : Int), .int .u64 (l2 m1 : Int), .int .u64 (l3 m1 : Int)] 40) (.cells #[.bool (sg n2), .int .u64 (l0 n2 : Int), .int .u64 (l1 n2 : Int), .int .u64 (l2 n2 : Int), .int .u64 (l3 n2 : Int), .bool (sg m1), .int .u64 (l0 m1 : Int), .int .u64 (l1 m1 : Int), .int .u64 (l2 m1 : Int), .int .u64 (l3 m1 : Int)] 40)
   have EE0 : Ext w W0 := by rw [hW0]; exact ((ext_alloc _ _).trans (ext_alloc _ _))
   rw [← hW0] at H2
   have EE := hide EE0
   have HW := hide hW0
   obtain ⟨P2, P3⟩ : Box10 W0 (w.heap.size) (sg n1) (l0 n1) (l1 n1) (l2 n1) (l3 n1) (sg m1) (l0 m1) (l1 m1) (l2 m1) (l3 m1) ∧ Box10 W0 ((w.heap.size + 1)) (sg n2) (l0 n2) (l1 n2) (l2 n2) (l3 n2) (sg m1) (l0 m1) (l1 m1) (l2 m1) (l3 m1) := H2
   clear hW0 EE0
   go_enter Try.func29, Try.ntmps29
   go_upto_region 1 with fail
   rw [← HW.out]
   clear HW
   have hg0 : w.heap.size ≤ w.heap.size := Nat.le_refl _
   obtain ⟨g0, hg⟩ : ∃ g, w.heap.size = g := ⟨_, rfl⟩
   rw [hg] at P2 P3 ⊢
   replace hg0 : w.heap.size ≤ g0 := Nat.le_of_eq hg
   clear hg
   obtain ⟨xP20, xP21, xP22, xP23, xP24, xP25, xP26, xP27, xP28, xP29, -⟩ := ten_cells P2; obtain ⟨xP30, xP31, xP32, xP33, xP34, xP35, xP36, xP37, xP38, xP39, -⟩ := ten_cells P3
   go_upto_region 3 with (first
     | (go_at_call 58; (with_reducible refine (kV1.out _).mono ?_); rintro e w1 ⟨rfl, hE⟩; clear xP20 xP21 xP22 xP23 xP24 xP25 xP26 xP27 xP28 xP29 xP30 xP31 xP32 xP33 xP34 xP35 xP36 xP37 xP38 xP39; have P2 := P2.ext hE; have P3 := P3.ext hE; have EE := hide (EE.out.trans hE); clear hE; obtain ⟨xP20, xP21, xP22, xP23, xP24, xP25, xP26, xP27, xP28, xP29, -⟩ := ten_cells P2; obtain ⟨xP30, xP31, xP32, xP33, xP34, xP35, xP36, xP37, xP38, xP39, -⟩ := ten_cells P3)
     | (go_at_call 58; (with_reducible refine (kV2.out _).mono ?_); rintro e w2 ⟨rfl, hE⟩; clear xP20 xP21 xP22 xP23 xP24 xP25 xP26 xP27 xP28 xP29 xP30 xP31 xP32 xP33 xP34 xP35 xP36 xP37 xP38 xP39; have P2 := P2.ext hE; have P3 := P3.ext hE; have EE := hide (EE.out.trans hE); clear hE; obtain ⟨xP20, xP21, xP22, xP23, xP24, xP25, xP26, xP27, xP28, xP29, -⟩ := ten_cells P2; obtain ⟨xP30, xP31, xP32, xP33, xP34, xP35, xP36, xP37, xP38, xP39, -⟩ := ten_cells P3))
   clear xP20 xP21 xP22 xP23 xP24 xP25 xP26 xP27 xP28 xP29 xP30 xP31 xP32 xP33 xP34 xP35 xP36 xP37 xP38 xP39
   obtain ⟨xP20, xP21, xP22, xP23, xP24, xP25, xP26, xP27, xP28, xP29, -⟩ := ten_cells P2; obtain ⟨xP30, xP31, xP32, xP33, xP34, xP35, xP36, xP37, xP38, xP39, -⟩ := ten_cells P3
   go_upto_region 4 with (go_at_call 23; (with_reducible refine (kC.out _).mono ?_); rintro e w3 ⟨rfl, hE⟩; clear xP20 xP21 xP22 xP23 xP24 xP25 xP26 xP27 xP28 xP29 xP30 xP31 xP32 xP33 xP34 xP35 xP36 xP37 xP38 xP39; have P2 := P2.ext hE; have P3 := P3.ext hE; have EE := hide (EE.out.trans hE); clear hE; obtain ⟨xP20, xP21, xP22, xP23, xP24, xP25, xP26, xP27, xP28, xP29, -⟩ := ten_cells P2; obtain ⟨xP30, xP31, xP32, xP33, xP34, xP35, xP36, xP37, xP38, xP39, -⟩ := ten_cells P3)
   clear xP20 xP21 xP22 xP23 xP24 xP25 xP26 xP27 xP28 xP29 xP30 xP31 xP32 xP33 xP34 xP35 xP36 xP37 xP38 xP39
   obtain ⟨yP20, yP21, yP22, yP23, yP24, yP25, yP26, yP27, yP28, yP29, yP2f0, yP2f1, yP2f2, yP2f3, yP2f4, yP2f5, yP2f6, yP2f7, yP2f8, yP2f9⟩ := ten_cells P2
   clear yP2f0 yP2f1 yP2f2 yP2f3 yP2f4 yP2f5 yP2f6 yP2f7 yP2f8 yP2f9
   replace yP20 := cellR yP20
   replace yP21 := cellR yP21
   replace yP22 := cellR yP22
   replace yP23 := cellR yP23
   replace yP24 := cellR yP24
   replace yP25 := cellR yP25
   replace yP26 := cellR yP26
   replace yP27 := cellR yP27
   replace yP28 := cellR yP28
   replace yP29 := cellR yP29
   obtain ⟨yP30, yP31, yP32, yP33, yP34, yP35, yP36, yP37, yP38, yP39, yP3f0, yP3f1, yP3f2, yP3f3, yP3f4, yP3f5, yP3f6, yP3f7, yP3f8, yP3f9⟩ := ten_cells P3
   clear yP3f0 yP3f1 yP3f2 yP3f3 yP3f4 yP3f5 yP3f6 yP3f7 yP3f8 yP3f9
   replace yP30 := cellR yP30
   replace yP31 := cellR yP31
   replace yP32 := cellR yP32
   replace yP33 := cellR yP33
   replace yP34 := cellR yP34
   replace yP35 := cellR yP35
   replace yP36 := cellR yP36
   replace yP37 := cellR yP37
   replace yP38 := cellR yP38
   replace yP39 := cellR yP39
   refine wp_region_quiet_below (by kernel_rfl) (by kernel_rfl) ?_
   repeat (first | go_big_quiet_step (first | with_reducible exact quiet_ret (kA1.out _) | with_reducible exact quiet_ret (kA2.out _) | with_reducible exact quiet_ret (kD.out _)) | quiet_step (first | with_reducible exact quiet_ret (kA1.out _) | with_reducible exact quiet_ret (kA2.out _) | with_reducible exact quiet_ret (kD.out _)))
   refine wpQuiet_nil ?_
   intro _ hw'
   obtain ⟨⟨dq, osq⟩, hw''⟩ := hw'
   subst hw''
   clear yP20 yP21 yP22 yP23 yP24 yP25 yP26 yP27 yP28 yP29 yP30 yP31 yP32 yP33 yP34 yP35 yP36 yP37 yP38 yP39
   have hE := ext_regrown w3 dq osq
   have P2 := P2.ext hE
   have P3 := P3.ext hE
   have EE := hide (EE.out.trans hE)
   clear hE
   generalize grow (redrawn w3 dq) osq = w3q at *
   go_wp2_with fail
   go_ret
   exact ⟨by first | rfl | rw [hrl], EE.out⟩
 · have kC : Hid (∀ w, Calls Try.prog 23 #[.agg #[.bool (sg m1), .int .u64 (l0 m1 : Int), .int .u64 (l1 m1 : Int), .int .u64 (l2 m1 : Int), .int .u64 (l3 m1 : Int)], .agg #[.bool (sg m2), .int .u64 (l0 m2 : Int), .int .u64 (l1 m2 : Int), .int .u64 (l2 m2 : Int), .int .u64 (l3 m2 : Int)]] w (Ret (.int .i64 1) w)) := fun w => d_cmp h1.fd h2.fd (by unfold cmpI; split <;> (try split) <;> omega) w
   have hrl : false = o := by rw [← ho]; unfold simB; symm; rw [decide_eq_false_iff_not]; omega
   subst hrl
   clear ho h1 h2 he
   obtain ⟨W0, hW0⟩ : ∃ W0, W0 = ((w.alloc (.cells #[.bool (sg n1), .int .u64 (l0 n1 : Int), .int .u64 (l1 n1 : Int), .int .u64 (l2 n1 : Int), .int .u64 (l3 n1 : Int), .bool (sg m1), .int .u64 (l0 m1 : Int), .int .u64 (l1 m1 : Int), .int .u64 (l2 m1 : Int), .int .u64 (l3 m1 : Int)] 40)).alloc (.cells #[.bool (sg n2), .int .u64 (l0 n2 : Int), .int .u64 (l1 n2 : Int), .int .u64 (l2 n2 : Int), .int .u64 (l3 n2 : Int), .bool (sg m2), .int .u64 (l0 m2 : Int), .int .u64 (l1 m2 : Int), .int .u64 (l2 m2 : Int), .int .u64 (l3 m2 : Int)] 40)) := ⟨_, rfl⟩
   have H2 := two_blocks w (.cells #[.bool (sg n1), .int .u64 (l0 n1 : Int), .int .u64 (l1 n1 : Int), .int .u64 (l2 n1 : Int), .int .u64 (l3 n1 : Int), .bool (sg m1), .int .u64 (l0 m1 : Int), .int .u64 (l1 m1 : Int), .int .u64 (l2 m1 : Int), .int .u64 (l3 m1 : Int)] 40) (.cells #[.bool (sg n2), .int .u64 (l0 n2 : Int), .int .u64 (l1 n2 : Int), .int .u64 (l2 n2 : Int), .int .u64 (l3 n2 : Int), .bool (sg m2), .int .u64 (l0 m2 : Int), .int .u64 (l1 m2 : Int), .int .u64 (l2 m2 : Int), .int .u64 (l3 m2 : Int)] 40)
   have EE0 : Ext w W0 := by rw [hW0]; exact ((ext_alloc _ _).trans (ext_alloc _ _))
   rw [← hW0] at H2
   have EE := hide EE0
   have HW := hide hW0
   obtain ⟨P2, P3⟩ : Box10 W0 (w.heap.size) (sg n1) (l0 n1) (l1 n1) (l2 n1) (l3 n1) (sg m1) (l0 m1) (l1 m1) (l2 m1) (l3 m1) ∧ Box10 W0 ((w.heap.size + 1)) (sg n2) (l0 n2) (l1 n2) (l2 n2) (l3 n2) (sg m2) (l0 m2) (l1 m2) (l2 m2) (l3 m2) := H2
   clear hW0 EE0
   go_enter Try.func29, Try.ntmps29
   go_upto_region 1 with fail
   rw [← HW.out]
   clear HW
   have hg0 : w.heap.size ≤ w.heap.size := Nat.le_refl _
   obtain ⟨g0, hg⟩ : ∃ g, w.heap.size = g := ⟨_, rfl⟩
   rw [hg] at P2 P3 ⊢
   replace hg0 : w.heap.size ≤ g0 := Nat.le_of_eq hg
   clear hg
   obtain ⟨xP20, xP21, xP22, xP23, xP24, xP25, xP26, xP27, xP28, xP29, -⟩ := ten_cells P2; obtain ⟨xP30, xP31, xP32, xP33, xP34, xP35, xP36, xP37, xP38, xP39, -⟩ := ten_cells P3
   go_upto_region 3 with (first
     | (go_at_call 58; (with_reducible refine (kV1.out _).mono ?_); rintro e w1 ⟨rfl, hE⟩; clear xP20 xP21 xP22 xP23 xP24 xP25 xP26 xP27 xP28 xP29 xP30 xP31 xP32 xP33 xP34 xP35 xP36 xP37 xP38 xP39; have P2 := P2.ext hE; have P3 := P3.ext hE; have EE := hide (EE.out.trans hE); clear hE; obtain ⟨xP20, xP21, xP22, xP23, xP24, xP25, xP26, xP27, xP28, xP29, -⟩ := ten_cells P2; obtain ⟨xP30, xP31, xP32, xP33, xP34, xP35, xP36, xP37, xP38, xP39, -⟩ := ten_cells P3)
     | (go_at_call 58; (with_reducible refine (kV2.out _).mono ?_); rintro e w2 ⟨rfl, hE⟩; clear xP20 xP21 xP22 xP23 xP24 xP25 xP26 xP27 xP28 xP29 xP30 xP31 xP32 xP33 xP34 xP35 xP36 xP37 xP38 xP39; have P2 := P2.ext hE; have P3 := P3.ext hE; have EE := hide (EE.out.trans hE); clear hE; obtain ⟨xP20, xP21, xP22, xP23, xP24, xP25, xP26, xP27, xP28, xP29, -⟩ := ten_cells P2; obtain ⟨xP30, xP31, xP32, xP33, xP34, xP35, xP36, xP37, xP38, xP39, -⟩ := ten_cells P3))
   clear xP20 xP21 xP22 xP23 xP24 xP25 xP26 xP27 xP28 xP29 xP30 xP31 xP32 xP33 xP34 xP35 xP36 xP37 xP38 xP39
   obtain ⟨xP20, xP21, xP22, xP23, xP24, xP25, xP26, xP27, xP28, xP29, -⟩ := ten_cells P2; obtain ⟨xP30, xP31, xP32, xP33, xP34, xP35, xP36, xP37, xP38, xP39, -⟩ := ten_cells P3
   go_upto_region 4 with (go_at_call 23; (with_reducible refine (kC.out _).mono ?_); rintro e w3 ⟨rfl, hE⟩; clear xP20 xP21 xP22 xP23 xP24 xP25 xP26 xP27 xP28 xP29 xP30 xP31 xP32 xP33 xP34 xP35 xP36 xP37 xP38 xP39; have P2 := P2.ext hE; have P3 := P3.ext hE; have EE := hide (EE.out.trans hE); clear hE; obtain ⟨xP20, xP21, xP22, xP23, xP24, xP25, xP26, xP27, xP28, xP29, -⟩ := ten_cells P2; obtain ⟨xP30, xP31, xP32, xP33, xP34, xP35, xP36, xP37, xP38, xP39, -⟩ := ten_cells P3)
   clear xP20 xP21 xP22 xP23 xP24 xP25 xP26 xP27 xP28 xP29 xP30 xP31 xP32 xP33 xP34 xP35 xP36 xP37 xP38 xP39
   refine wp_region_quiet_below (by kernel_rfl) (by kernel_rfl) ?_
   repeat (first | go_big_quiet_step (fail) | quiet_step (fail))
   refine wpQuiet_nil ?_
   intro _ hw'
   obtain ⟨⟨dq, osq⟩, hw''⟩ := hw'
   subst hw''
   have hE := ext_regrown w3 dq osq
   have P2 := P2.ext hE
   have P3 := P3.ext hE
   have EE := hide (EE.out.trans hE)
   clear hE
   generalize grow (redrawn w3 dq) osq = w3q at *
   go_wp2_with fail
   go_ret
   exact ⟨rfl, EE.out⟩
end
section
open Go Go.RowKit Go.Sort
theorem cnC_size (c : Cn) : (cnC c).size = 21 := by
 obtain ⟨o, L, H, e, hL, hH⟩ := cnC_form c
 rw [e]; exact coneC_size o hL.size hH.size
theorem cnC_one (c : Cn) : (cnC c).all (·.oneCell') = true := by
 obtain ⟨o, L, H, e, hL, hH⟩ := cnC_form c
 rw [e]; exact cone_one o hL.one hH.one
theorem cnC_eq (c : Cn) (w : World) : (binOp .eql 42 (.agg (cnC c)) (.agg (cnC c))).run Try.prog w = .ok (.bool true) w := by
 obtain ⟨o, L, H, e, hL, hH⟩ := cnC_form c
 rw [e]; exact eq_cone o hL hH w
def moC : Option Cn → Array Value
 | some c => cnC c
 | none => z21
theorem moC_size (m : Option Cn) : (moC m).size = 21 := by
 cases m with
 | none => rfl
 | some c => exact cnC_size c
theorem moC_one (m : Option Cn) : (moC m).all (·.oneCell') = true := by
 cases m with
 | none => exact z21_one
 | some c => exact cnC_one c
theorem moC_eq (m : Option Cn) (w : World) : (binOp .eql 42 (.agg (moC m)) (.agg (moC m))).run Try.prog w = .ok (.bool true) w := by
 cases m with
 | none => exact eq_cone false RC.zero RC.zero w
 | some c => exact cnC_eq c w
def PVal (f : Nat) : Prop := ∀ c, okC c → ∀ w, Calls Try.prog f #[.agg (cnC c)] w (Ret (.bool true) w)
def PCon (f : Nat) : Prop := ∀ c s, okC c → okF s → ∀ w, Calls Try.prog f #[.agg (cnC c), .agg (frC s)] w (Ret (.bool (decide (inC c s))) w)
def PCho (f : Nat) : Prop := ∀ c, okC c → ∃ s, ChC c s ∧ ∀ w, Calls Try.prog f #[.agg (cnC c)] w (Ret (.agg (frC s)) w)
def PMee (f : Nat) : Prop := ∀ a b, okC a → okC b → ∀ w, Calls Try.prog f #[.agg (cnC a), .agg (cnC b)] w (Ret (.tuple #[.agg (moC (meetC a b)), .bool (meetC a b).isSome]) w)
def IsCn (v : Value) : Prop := ∃ c : Cn, v = .agg (cnC c) ∧ okC c
theorem q_simplerC {r s : Fr} (hr : okF r) (hs : okF s) (o : Bool) (ho : simB r.1 r.2 s.1 s.2 = o) (w : World) : Calls Try.prog 29 #[.agg (frC r), .agg (frC s)] w (Ret (.bool o) w) := q_simpler hr hs o ho w
theorem least_simB {c : Cn} {s r : Fr} (h : ChC c s) (hr : okF r) (hi : inC c r) : simB r.1 r.2 s.1 s.2 = false := by
 unfold simB
 exact decide_eq_false (choose_least h hr hi)
end
section
open Go Go.RowKit Go.Sort
theorem cmpF_le {r s : Fr} {k : Int} (h : cmpI (r.1 * s.2) (s.1 * r.2) = k) : decide (k ≤ 0) = decide (leF r s) := by
 have := cmpI_lt h
 unfold leF
 by_cases hl : r.1 * s.2 ≤ s.1 * r.2
 · rw [decide_eq_true hl, decide_eq_true (by omega)]
 · rw [decide_eq_false hl, decide_eq_false (by omega)]
theorem cmpF_lt {r s : Fr} {k : Int} (h : cmpI (r.1 * s.2) (s.1 * r.2) = k) : (0 < k ↔ ¬ leF r s) ∧ (k < 0 ↔ ¬ leF s r) := by
 have := cmpI_lt h
 unfold leF
 constructor <;> constructor <;> intro q <;> omega
end
section
open Go Go.RowKit Go.Sort
theorem rz_eq (s : Bool) (a b c e : Int) (t : Bool) (f g h i : Int) : ((#[.bool s, .int .u64 a, .int .u64 b, .int .u64 c, .int .u64 e, .bool t, .int .u64 f, .int .u64 g, .int .u64 h, .int .u64 i] : Array Value) = zR) ↔ (same5 s false a b c e 0 0 0 0 && same5 t false f g h i 0 0 0 0) = true := by
 simp [zR, same5, and_assoc]
theorem eq_cone_open {L H : Array Value} (hL : RC L) (hH : RC H) (v : Bool) (hv : (L = zR ∧ H = zR) ↔ v = true) (w : World) : (binOp .eql 42 (.agg (coneC true L H)) (.agg stC)).run Try.prog w = .ok (.bool v) w := by
 obtain ⟨s, a, b, c, e, t, f, g, h, i, rfl⟩ := hL
 obtain ⟨s', a', b', c', e', t', f', g', h', i', rfl⟩ := hH
 have hS : Try.prog.underlying 42 = some (.struct (Try.prog.fieldsOf 42)) := by kernel_rfl
 have hp : Try.prog.stoodInHeld 42 = false := by kernel_rfl
 have u4 := Try.underlying4
 have z25 := Try.sizeOf40
 have h5 := eqInR9
 rw [run_eql_struct, show (10000 : Nat) = 9999 + 1 from rfl, run_equalIn_agg w 9999 42 _ _ hS hp]
 simp only [Program.fieldsOf, Try.underlying42, stC]
 simp [Op.eqFields, part, isAgg, run_underlying u4, run_equalIn_bool', u4, h5, z25, coneC]
 rw [rz_eq, rz_eq] at hv
 revert hv
 generalize same5 s false a b c e 0 0 0 0 = p
 generalize same5 t false f g h i 0 0 0 0 = q
 generalize same5 s' false a' b' c' e' 0 0 0 0 = r
 generalize same5 t' false f' g' h' i' 0 0 0 0 = u
 intro hv
 cases p <;> cases q <;> cases r <;> cases u <;> cases v <;> simp at hv ⊢
def BadR (S : Array Value) : Prop := ∃ (s : Bool) (a b c d : Nat) (t : Bool) (e f g h : Nat) (n m : Int), S = #[.bool s, .int .u64 (a : Int), .int .u64 (b : Int), .int .u64 (c : Int), .int .u64 (d : Int), .bool t, .int .u64 (e : Int), .int .u64 (f : Int), .int .u64 (g : Int), .int .u64 (h : Int)] ∧ IsW s a b c d n ∧ IsW t e f g h m ∧ ¬ RatOk s n t m
def OkR (S : Array Value) : Prop := ∃ f, okF f ∧ S = frC f
def RawR (S : Array Value) : Prop := OkR S ∨ BadR S
theorem RawR.rc {S : Array Value} (h : RawR S) : RC S := by
 rcases h with ⟨f, _, rfl⟩ | ⟨s, a, b, c, d, t, e, f, g, h, n, m, rfl, _⟩
 · exact frC_rc f
 · exact ⟨_, _, _, _, _, _, _, _, _, _, rfl⟩
def BadC (X : Array Value) : Prop := ∃ o L H, X = coneC o L H ∧ RawR L ∧ RawR H ∧ ((o = true ∧ ¬ (L = zR ∧ H = zR)) ∨ (o = false ∧ (BadR L ∨ (OkR L ∧ BadR H) ∨ ∃ f g, okF f ∧ okF g ∧ L = frC f ∧ H = frC g ∧ ¬ leF f g)))
def OkC (X : Array Value) : Prop := ∃ c, okC c ∧ X = cnC c
def RawC (X : Array Value) : Prop := OkC X ∨ BadC X
end
section
open Go Go.RowKit Go.Sort
def RVal (f : Nat) : Prop := ∀ X, BadC X → ∀ w, Calls Try.prog f #[.agg X] w (Ret (.bool false) w)
def RCon (f : Nat) : Prop := (∀ X S, BadC X → RawR S → ∀ w, Calls Try.prog f #[.agg X, .agg S] w (Ret (.bool false) w)) ∧ (∀ c S, okC c → BadR S → ∀ w, Calls Try.prog f #[.agg (cnC c), .agg S] w (Ret (.bool false) w))
def RCho (f : Nat) : Prop := ∀ X, BadC X → ∀ w, Calls Try.prog f #[.agg X] w (Ret (.agg zR) w)
def RMee (f : Nat) : Prop := ∀ X Y, RawC X → RawC Y → (BadC X ∨ BadC Y) → ∀ w, Calls Try.prog f #[.agg X, .agg Y] w (Ret (.tuple #[.agg z21, .bool false]) w)
theorem BadR.raw {S : Array Value} (h : BadR S) : RawR S := Or.inr h
theorem raw_form {X : Array Value} (h : RawC X) : ∃ o L H, X = coneC o L H ∧ RC L ∧ RC H := by
 rcases h with ⟨c, _, rfl⟩ | ⟨o, L, H, rfl, hL, hH, _⟩
 · exact cnC_form c
 · exact ⟨o, L, H, rfl, hL.rc, hH.rc⟩
structure PAll (fv fc fh fm : Nat) : Prop where
 v : PVal fv
 c : PCon fc
 h : PCho fh
 m : PMee fm
 v' : RVal fv
 c' : RCon fc
 h' : RCho fh
 m' : RMee fm
end
section
open Go Go.RowKit Go.Sort
theorem h_make {x y n d : Int} {o : Bool} (hx : F256 x) (hy : F256 y) (h0 : y ≠ 0) (ho : mkB x y = o) (hn : (if o then numR x y else 0) = n) (hd : (if o then denR x y else 0) = d) (w : World) : Calls Try.prog 45 #[.agg #[.bool (sg x), .int .u64 (l0 x : Int), .int .u64 (l1 x : Int), .int .u64 (l2 x : Int), .int .u64 (l3 x : Int)], .agg #[.bool (sg y), .int .u64 (l0 y : Int), .int .u64 (l1 y : Int), .int .u64 (l2 y : Int), .int .u64 (l3 y : Int)]] w (Ret (.tuple #[.agg #[.bool (sg n), .int .u64 (l0 n : Int), .int .u64 (l1 n : Int), .int .u64 (l2 n : Int), .int .u64 (l3 n : Int), .bool (sg d), .int .u64 (l0 d : Int), .int .u64 (l1 d : Int), .int .u64 (l2 d : Int), .int .u64 (l3 d : Int)], .bool o]) w) :=
 (rf_make_yes _ _ _ _ _ _ _ _ _ _ x y w (isC_of hx) (isC_of hy) h0 o ho).mono fun _ _ k => ret_make (by subst hn hd; exact k)
end
section
open Go Go.RowKit Go.Sort
def wC (z : Int) : Array Value := #[.bool (sg z), .int .u64 (l0 z : Int), .int .u64 (l1 z : Int), .int .u64 (l2 z : Int), .int .u64 (l3 z : Int)]
theorem wC_one (z : Int) : (wC z).all (·.oneCell') = true := by unfold wC; kernel_rfl
def ThrGood (base eps : Int) (dt : Nat) : Prop := base.natAbs < 73786976294838206464 ∧ 0 ≤ eps ∧ eps ≤ 4611686018427387904 ∧ 0 < dt
instance (base eps : Int) (dt : Nat) : Decidable (ThrGood base eps dt) := by unfold ThrGood; infer_instance
theorem redF_mkB {n d : Int} (h : okF (redF n d)) : mkB n d = true := decide_eq_true ⟨h.2.1, h.2.2.1⟩
end
section
open Go Go.RowKit Go.Sort
theorem choose_uniq {c : Cn} {s r : Fr} (hc : okC c) (h : ChC c s) (k : ChC c r) : s = r := by
 cases c with
 | op => exact (show s = (0, 1) from h).trans (show r = (0, 1) from k).symm
 | cl l u =>
   obtain ⟨e, f⟩ := Best.unique hc.1.1 hc.2.1.1 h k
   exact Prod.ext e f
end
end Go.Proofs.Ythlbkidgdngblaa
