/- Words in memory, for the package wide of the program: arrays of words that lie in blocks. No condition. -/
import Derived.Test.YtbnbkondbdakeaaMag1
import Derived.Laws.StructEq
import Derived.Test.YtbnbkondbdakeaaMagK
namespace Go.Proofs.Ytbnbkondbdakeaa
set_option linter.unusedVariables false
set_option linter.unusedSimpArgs false
open Go Go.RowKit

/-- One world after the other: what was there is as it was, but for block g. -/
def Upd (g : Nat) (w w' : World) : Prop := w'.os = w.os ∧ w'.tape = w.tape ∧ w'.output = w.output ∧ w.heap.size ≤ w'.heap.size ∧ ∀ k, k < w.heap.size → k ≠ g → w'.heap[k]? = w.heap[k]?
theorem Upd.refl (g : Nat) (w : World) : Upd g w w := ⟨rfl, rfl, rfl, Nat.le_refl _, fun _ _ _ => rfl⟩
theorem Upd.trans {g : Nat} {a b c : World} (h : Upd g a b) (k : Upd g b c) : Upd g a c :=
  ⟨k.1.trans h.1, k.2.1.trans h.2.1, k.2.2.1.trans h.2.2.1, Nat.le_trans h.2.2.2.1 k.2.2.2.1, fun i hi hn => (k.2.2.2.2 i (Nat.lt_of_lt_of_le hi h.2.2.2.1) hn).trans (h.2.2.2.2 i hi hn)⟩
theorem Ext.upd {w w' : World} (h : Ext w w') (g : Nat) : Upd g w w' := ⟨h.os, h.tape, h.output, h.size, fun k hk _ => h.block k hk⟩
theorem Upd.ext {g : Nat} {W w w' : World} (h : Upd g w w') (k : Ext W w) (hg : W.heap.size ≤ g) : Ext W w' :=
  ⟨h.1.trans k.os, h.2.1.trans k.tape, h.2.2.1.trans k.output, Nat.le_trans k.size h.2.2.2.1, fun i hi => (h.2.2.2.2 i (Nat.lt_of_lt_of_le hi k.size) (by omega)).trans (k.block i hi)⟩
theorem upd_set (w : World) (g k : Nat) (u : Value) : Upd g w (w.setCell ⟨g, k, none⟩ u) :=
  ⟨rfl, rfl, rfl, by simp [World.setCell], fun i _ hn => heap_setCell_other w ⟨g, k, none⟩ i u hn⟩
/-- Block g is an array of words. -/
def Arr (w : World) (g : Nat) (T : TypeId) (L : List Nat) : Prop := w.heap[g]? = some (.cells (wd L).toArray T (0, 0))
theorem Arr.at {w : World} {g : Nat} {T : TypeId} {L : List Nat} (h : Arr w g T L) (i : Nat) (hi : i < L.length) : w.cell? ⟨g, i, none⟩ = some (.int .u64 (L[i] : Int)) := by
  rw [cell_of_block h]; simp [wd, hi]
theorem Arr.free {w : World} {g : Nat} {T : TypeId} {L : List Nat} (h : Arr w g T L) (i : Nat) : w.frozen? ⟨g, i, none⟩ = false := free_of_block h i
theorem Arr.lt {w : World} {g : Nat} {T : TypeId} {L : List Nat} (h : Arr w g T L) : g < w.heap.size := (Array.getElem?_eq_some_iff.1 h).1
theorem Arr.set {w : World} {g : Nat} {T : TypeId} {L : List Nat} (h : Arr w g T L) (k x : Nat) : Arr (w.setCell ⟨g, k, none⟩ (.int .u64 (x : Int))) g T (L.set k x) := by
  unfold Arr
  rw [store_block h k]
  simp [wd, List.map_set]
theorem Arr.far {w : World} {g b : Nat} {T : TypeId} {L : List Nat} (h : Arr w g T L) (hn : g ≠ b) (k : Nat) (u : Value) : Arr (w.setCell ⟨b, k, none⟩ u) g T L := by
  unfold Arr; rw [heap_setCell_other w ⟨b, k, none⟩ g u hn]; exact h
theorem Arr.ext {w w' : World} {g : Nat} {T : TypeId} {L : List Nat} (h : Arr w g T L) (k : Ext w w') : Arr w' g T L := by
  have := h.lt; unfold Arr; rw [k.block g this]; exact h
theorem Arr.upd {w w' : World} {g b : Nat} {T : TypeId} {L : List Nat} (h : Arr w g T L) (k : Upd b w w') (hn : g ≠ b) : Arr w' g T L := by
  have := h.lt; unfold Arr; rw [k.2.2.2.2 g this hn]; exact h
theorem Arr.drew {w : World} {g : Nat} {T : TypeId} {L : List Nat} (h : Arr w g T L) : Arr w.drew g T L := h
theorem Arr.drewN {w : World} {g : Nat} {T : TypeId} {L : List Nat} (h : Arr w g T L) (n : Nat) : Arr (w.drewN n) g T L := h
/-- Four words are read from an array. -/
theorem Arr.four {w : World} {g : Nat} {T : TypeId} {a b c d : Nat} (h : Arr w g T [a, b, c, d]) :
    w.cell? ⟨g, 0, none⟩ = some (.int .u64 (a : Int)) ∧ w.cell? ⟨g, 1, none⟩ = some (.int .u64 (b : Int)) ∧ w.cell? ⟨g, 2, none⟩ = some (.int .u64 (c : Int)) ∧ w.cell? ⟨g, 3, none⟩ = some (.int .u64 (d : Int)) ∧
    w.frozen? ⟨g, 0, none⟩ = false ∧ w.frozen? ⟨g, 1, none⟩ = false ∧ w.frozen? ⟨g, 2, none⟩ = false ∧ w.frozen? ⟨g, 3, none⟩ = false :=
  ⟨h.at 0 (by simp), h.at 1 (by simp), h.at 2 (by simp), h.at 3 (by simp), h.free 0, h.free 1, h.free 2, h.free 3⟩
theorem four_list {L : List Nat} (h : L.length = 4) : ∃ a b c d, L = [a, b, c, d] := by
  match L, h with
  | [a, b, c, d], _ => exact ⟨a, b, c, d, rfl⟩
theorem arr_new (w : World) (T : TypeId) (L : List Nat) (cur : Array Value) (h : cur = (wd L).toArray) : Arr (w.alloc (.cells cur T)) w.heap.size T L := by
  subst h; exact heap_alloc_new w _

/-- Arrays and structs of words are compared word by word. -/
theorem eqIn4 (d : Nat) (t : TypeId) (ht : Try.prog.underlying t = some (.array 4 22)) (a b c e a' b' c' e' : Int) (w : World) :
    (Op.equalIn (d + 2) t (.agg #[.int .u64 a, .int .u64 b, .int .u64 c, .int .u64 e]) (.agg #[.int .u64 a', .int .u64 b', .int .u64 c', .int .u64 e'])).run Try.prog w = .ok (a == a' && (b == b' && (c == c' && e == e'))) w := by
  have hu := Try.underlying22
  have he : ∀ (x y : Int) (w : World), (Op.equalIn (d + 1) 22 (.int .u64 x) (.int .u64 y)).run Try.prog w = .ok (x == y) w := fun x y w => run_equalIn_int w d 22 .u64 .u64 x y hu
  have hs := Try.sizeOf22
  have p0 : ∀ (v0 v1 v2 v3 : Value) (w : World), (part 22 #[v0, v1, v2, v3] 0).run Try.prog w = .ok v0 w := by intro v0 v1 v2 v3 w; simp [part, isAgg, run_underlying hu]
  have p1 : ∀ (v0 v1 v2 v3 : Value) (w : World), (part 22 #[v0, v1, v2, v3] 1).run Try.prog w = .ok v1 w := by intro v0 v1 v2 v3 w; simp [part, isAgg, run_underlying hu]
  have p2 : ∀ (v0 v1 v2 v3 : Value) (w : World), (part 22 #[v0, v1, v2, v3] 2).run Try.prog w = .ok v2 w := by intro v0 v1 v2 v3 w; simp [part, isAgg, run_underlying hu]
  have p3 : ∀ (v0 v1 v2 v3 : Value) (w : World), (part 22 #[v0, v1, v2, v3] 3).run Try.prog w = .ok v3 w := by intro v0 v1 v2 v3 w; simp [part, isAgg, run_underlying hu]
  have hr : List.range' 0 4 1 = [0, 1, 2, 3] := rfl
  rw [Op.equalIn]
  simp only [Sem.run_bind, run_underlying ht, Result.andThen_ok, hs, Std.Legacy.Range.forIn_eq_forIn_range', Std.Legacy.Range.size, Nat.sub_zero, Nat.add_sub_cancel, Nat.div_one, hr]
  by_cases h1 : a = a' <;> by_cases h2 : b = b' <;> by_cases h3 : c = c' <;> by_cases h4 : e = e' <;> simp [h1, h2, h3, h4, p0, p1, p2, p3, he]
theorem eq5 (s s' : Bool) (a b c e a' b' c' e' : Int) (w : World) :
    (binOp .eql 25 (.agg #[.bool s, .int .u64 a, .int .u64 b, .int .u64 c, .int .u64 e]) (.agg #[.bool s', .int .u64 a', .int .u64 b', .int .u64 c', .int .u64 e'])).run Try.prog w = .ok (.bool (s == s' && (a == a' && (b == b' && (c == c' && e == e'))))) w := by
  have hS : Try.prog.underlying 25 = some (.struct (Try.prog.fieldsOf 25)) := by kernel_rfl
  have hp : Try.prog.stoodInHeld 25 = false := by kernel_rfl
  have u4 := Try.underlying4
  have h4 := eqIn4 9997 23 Try.underlying23
  have z23 := Try.sizeOf23
  rw [run_eql_struct, show (10000 : Nat) = 9999 + 1 from rfl, run_equalIn_agg w 9999 25 _ _ hS hp]
  simp only [Program.fieldsOf, Try.underlying25]
  simp [Op.eqFields, part, isAgg, run_underlying u4, run_equalIn_bool', u4, h4, z23]
  by_cases h0 : s = s' <;> by_cases h1 : a = a' <;> by_cases h2 : b = b' <;> by_cases h3 : c = c' <;> by_cases h4 : e = e' <;> simp [h0, h1, h2, h3, h4]
theorem neq5 (s s' : Bool) (a b c e a' b' c' e' : Int) (w : World) :
    (binOp .neq 25 (.agg #[.bool s, .int .u64 a, .int .u64 b, .int .u64 c, .int .u64 e]) (.agg #[.bool s', .int .u64 a', .int .u64 b', .int .u64 c', .int .u64 e'])).run Try.prog w = .ok (.bool (!(s == s' && (a == a' && (b == b' && (c == c' && e == e')))))) w := by
  have h := eq5 s s' a b c e a' b' c' e' w
  rw [run_eql_struct] at h
  rw [run_neq_struct]
  cases hr : (Op.equalIn 10000 25 (.agg #[.bool s, .int .u64 a, .int .u64 b, .int .u64 c, .int .u64 e]) (.agg #[.bool s', .int .u64 a', .int .u64 b', .int .u64 c', .int .u64 e'])).run Try.prog w with
  | ok r w1 => rw [hr] at h; simp only [Result.andThen_ok, Result.ok.injEq, Value.bool.injEq] at h ⊢; obtain ⟨h1, h2⟩ := h; subst h1; exact ⟨rfl, h2⟩
  | halt x w1 => rw [hr] at h; simp [Result.andThen] at h
theorem eq4 (t : TypeId) (ht : Try.prog.underlying t = some (.array 4 22)) (a b c e a' b' c' e' : Int) (w : World) :
    (binOp .eql t (.agg #[.int .u64 a, .int .u64 b, .int .u64 c, .int .u64 e]) (.agg #[.int .u64 a', .int .u64 b', .int .u64 c', .int .u64 e'])).run Try.prog w = .ok (.bool (a == a' && (b == b' && (c == c' && e == e')))) w := by
  rw [run_eql_struct, show (10000 : Nat) = 9998 + 2 from rfl, eqIn4 9998 t ht]; rfl
theorem neq4 (t : TypeId) (ht : Try.prog.underlying t = some (.array 4 22)) (a b c e a' b' c' e' : Int) (w : World) :
    (binOp .neq t (.agg #[.int .u64 a, .int .u64 b, .int .u64 c, .int .u64 e]) (.agg #[.int .u64 a', .int .u64 b', .int .u64 c', .int .u64 e'])).run Try.prog w = .ok (.bool (!(a == a' && (b == b' && (c == c' && e == e'))))) w := by
  rw [run_neq_struct, show (10000 : Nat) = 9998 + 2 from rfl, eqIn4 9998 t ht]; rfl
theorem all0 (a b c d : Nat) (o : Bool) (h : decide (mag4 a b c d ≠ 0) = o) : (((a : Int) == 0) && (((b : Int) == 0) && (((c : Int) == 0) && ((d : Int) == 0)))) = !o := by
  subst h
  simp only [mag4, val]
  rw [Bool.eq_iff_iff]; simp; omega
theorem neq0 (t : TypeId) (ht : Try.prog.underlying t = some (.array 4 22)) (a b c d : Nat) (o : Bool) (h : decide (mag4 a b c d ≠ 0) = o) (w : World) :
    (binOp .neq t (.agg #[.int .u64 (a : Int), .int .u64 (b : Int), .int .u64 (c : Int), .int .u64 (d : Int)]) (.agg #[.int .u64 0, .int .u64 0, .int .u64 0, .int .u64 0])).run Try.prog w = .ok (.bool o) w := by
  rw [neq4 t ht, all0 a b c d o h, Bool.not_not]
theorem eql0 (t : TypeId) (ht : Try.prog.underlying t = some (.array 4 22)) (a b c d : Nat) (o : Bool) (h : decide (mag4 a b c d ≠ 0) = o) (w : World) :
    (binOp .eql t (.agg #[.int .u64 (a : Int), .int .u64 (b : Int), .int .u64 (c : Int), .int .u64 (d : Int)]) (.agg #[.int .u64 0, .int .u64 0, .int .u64 0, .int .u64 0])).run Try.prog w = .ok (.bool (!o)) w := by
  rw [eq4 t ht, all0 a b c d o h]

/-- Valid of the program. -/
theorem p_valid (s : Bool) (a b c d : Nat) (z : Int) (w : World) (h : IsW s a b c d z) :
    Calls Try.prog 61 #[.agg #[.bool s, .int .u64 (a : Int), .int .u64 (b : Int), .int .u64 (c : Int), .int .u64 (d : Int)]] w (BoolRet (!s || decide (z ≠ 0)) w) := by
  cases s
  · go_enter Try.func61, Try.ntmps61
    go_wp2
    go_ret
    exact ⟨rbb (by simp), ext_alloc _ _⟩
  · obtain ⟨o, ho⟩ : ∃ o, decide (mag4 a b c d ≠ 0) = o := ⟨_, rfl⟩
    have hq := neq0 23 Try.underlying23 a b c d o ho
    have hz : Hid ((!true || decide (z ≠ 0)) = o) := by
      rw [← ho]; have := h.2.2.2.2; simp at this; subst this
      unfold Hid; simp
    clear ho h
    go_enter Try.func61, Try.ntmps61
    go_wp2
    go_ret
    exact ⟨rbb hz.out.symm, ext_alloc _ _⟩
set_option maxHeartbeats 1000000 in
/-- A Wide of a sign and an absolute value. -/
theorem p_signed (s : Bool) (a b c d : Nat) (w : World) (ha : a < 18446744073709551616) (hb : b < 18446744073709551616) (hc : c < 18446744073709551616) (hd : d < 18446744073709551616) :
    Calls Try.prog 109 #[.bool s, .agg #[.int .u64 (a : Int), .int .u64 (b : Int), .int .u64 (c : Int), .int .u64 (d : Int)]] w (WideOnly (if s then -(mag4 a b c d : Int) else (mag4 a b c d : Int)) w) := by
  obtain ⟨o, ho⟩ : ∃ o, decide (mag4 a b c d ≠ 0) = o := ⟨_, rfl⟩
  have hq := neq0 118 Try.underlying118 a b c d o ho
  have HC : Hid (IsC (s && o) a b c d (if s then -(mag4 a b c d : Int) else (mag4 a b c d : Int))) := by
    refine ⟨⟨ha, hb, hc, hd, ?_⟩, ?_⟩
    · cases s <;> cases o <;> simp at ho ⊢; omega
    · cases s <;> cases o <;> simp at ho ⊢; omega
  clear ho
  cases s
  · go_enter Try.func109, Try.ntmps109
    go_wp2
    go_region
    all_goals go_wp2_with fail
    all_goals exact bodyPost_ret (v := .agg #[.bool false, .int .u64 (a : Int), .int .u64 (b : Int), .int .u64 (c : Int), .int .u64 (d : Int)]) (by simp [results, Try.results109, go_sem]) rfl ⟨false, a, b, c, d, rfl, HC.out, ((ext_alloc _ _).trans (ext_alloc _ _)).trans (ext_drew _)⟩
  · go_enter Try.func109, Try.ntmps109
    go_wp2
    go_region
    all_goals go_wp2_with fail
    all_goals exact bodyPost_ret (v := .agg #[.bool o, .int .u64 (a : Int), .int .u64 (b : Int), .int .u64 (c : Int), .int .u64 (d : Int)]) (by simp [results, Try.results109, go_sem]) rfl ⟨o, a, b, c, d, rfl, HC.out, ((ext_alloc _ _).trans (ext_alloc _ _)).trans (ext_drew _)⟩
end Go.Proofs.Ytbnbkondbdakeaa
/- oneWord, length and compareWords of the program. Condition: the words are of 64 bits. -/
namespace Go.Proofs.Ytbnbkondbdakeaa
set_option linter.unusedVariables false
set_option linter.unusedSimpArgs false
open Go Go.RowKit
/-- A quiet call behind a region that drew. -/
theorem quietAdd {P : Program} {f : FuncId} {args : Array Value} {w : World} {a n : Nat} {v : Value} (h : Calls P f args (w.drewN (a + n)) fun e w' => e = .returned v ∧ w.drewN (a + n) = w') :
    Calls P f args (w.drewN (a + n)) fun e w'' => e = .returned v ∧ ∃ m, w'' = w.drewN (a + m) := h.mono fun _ _ ⟨he, hm⟩ => ⟨he, n, hm.symm⟩
theorem quietLeft {P : Program} {f : FuncId} {args : Array Value} {w : World} {n : Nat} {v : Value} (h : Calls P f args (w.drewN n) fun e w' => e = .returned v ∧ w.drewN n = w') :
    Calls P f args (w.drewN n) fun e w'' => e = .returned v ∧ ∃ m, w'' = w.drewN m := h.mono fun _ _ ⟨he, hm⟩ => ⟨he, n, hm.symm⟩
theorem eqTail (a b c d : Nat) (o : Bool) (h : decide (mag4 a b c d < 18446744073709551616) = o) (ha : a < 18446744073709551616) (w : World) :
    (binOp .eql 118 (.agg #[.int .u64 (a : Int), .int .u64 (b : Int), .int .u64 (c : Int), .int .u64 (d : Int)]) (.agg #[.int .u64 (a : Int), .int .u64 0, .int .u64 0, .int .u64 0])).run Try.prog w = .ok (.bool o) w := by
  rw [eq4 118 Try.underlying118, ← h]
  have e : mag4 a b c d < 18446744073709551616 ↔ (b = 0 ∧ c = 0 ∧ d = 0) := by simp only [mag4, val]; omega
  congr 2
  rw [Bool.eq_iff_iff, decide_eq_true_iff, e]; simp
theorem p_oneWord (a b c d : Nat) (w : World) (ha : a < 18446744073709551616) :
    Calls Try.prog 136 #[.agg #[.int .u64 (a : Int), .int .u64 (b : Int), .int .u64 (c : Int), .int .u64 (d : Int)]] w (PairRet .u64 a (decide (mag4 a b c d < 18446744073709551616)) w) := by
  obtain ⟨o, ho⟩ : ∃ o, decide (mag4 a b c d < 18446744073709551616) = o := ⟨_, rfl⟩
  have hq := eqTail a b c d o ho ha
  rw [ho]
  clear ho
  go_enter Try.func136, Try.ntmps136
  go_wp2
  go_quiet (fail)
  go_wp2
  go_ret2
  exact ⟨rfl, (ext_alloc _ _).trans (ext_drewN _ _)⟩
/-- The number of words without those that are 0 at the upper end. -/
theorem len_of (L : List Nat) (hL : W64 L) (n : Nat) (hn : n ≤ L.length) (hz : val (L.drop n) = 0) (hp : n = 0 ∨ ∃ h : n - 1 < L.length, L[n - 1] ≠ 0) : (limbs (val L)).length = n := by
  have e : val L = val (L.take n) := by rw [val_take_drop L n hn, hz]; simp
  rw [e]
  rw [limbs_of _ (w64_take hL n) ?_, List.length_take, Nat.min_eq_left hn]
  rcases Classical.em (n = 0) with rfl | h0
  · simp
  · · obtain ⟨k, rfl⟩ : ∃ k, n = k + 1 := ⟨n - 1, by omega⟩
      rw [List.take_succ_eq_append_getElem (by omega)]
      rw [List.getLast?_concat]; intro h0; injection h0 with h0; exact hp.resolve_left (by omega) |>.elim fun _ h1 => h1 h0
theorem p_length (a b c d n : Nat) (hn : mag4 a b c d = n) (w : World) (hw : W64 [a, b, c, d]) :
    Calls Try.prog 137 #[.agg #[.int .u64 (a : Int), .int .u64 (b : Int), .int .u64 (c : Int), .int .u64 (d : Int)]] w (IntRet .i64 (limbs n).length w) := by
  have hA := arr_new w 118 [a, b, c, d] #[.int .u64 (a : Int), .int .u64 (b : Int), .int .u64 (c : Int), .int .u64 (d : Int)] rfl
  obtain ⟨L, hL⟩ : ∃ L, L = [a, b, c, d] := ⟨_, rfl⟩
  have h4 : L.length = 4 := by rw [hL]; rfl
  have hv : val L = n := by rw [hL]; exact hn
  rw [← hL] at hA hw
  have HA := hide hA
  have HX := hide (ext_alloc w (.cells #[.int .u64 (a : Int), .int .u64 (b : Int), .int .u64 (c : Int), .int .u64 (d : Int)] 118))
  have H4 := hide h4
  have HV := hide hv
  clear hA h4 hv hL hn
  go_enter Try.func137, Try.ntmps137
  go_wp2
  go_loop [3] (fun i => ∃ k : Nat, i = .int .i64 k ∧ k ≤ 4 ∧ Hid (val (L.drop k) = 0)) (fun i => (intOf i).toNat)
  case atStart => exact ⟨4, rfl, by omega, by unfold Hid; rw [List.drop_of_length_le (by rw [H4.out]; omega)]; rfl⟩
  case round =>
    obtain ⟨k, rfl, hk, HD⟩ := hrel
    by_cases hk0 : k = 0
    · subst hk0
      go_wp2
      go_ret
      exact ⟨rb1 (by have := len_of L hw 0 (by omega) HD.out (Or.inl rfl); rw [HV.out] at this; rw [this]; rfl), HX.out⟩
    · obtain ⟨j, rfl⟩ : ∃ j, k = j + 1 := ⟨k - 1, by omega⟩
      have hj : j < L.length := by rw [H4.out]; omega
      have hc := HA.out.at j hj
      obtain ⟨x, hx⟩ : ∃ x, L[j] = x := ⟨_, rfl⟩
      rw [hx] at hc
      have HXX := hide hx
      clear hx
      by_cases hz : x = 0
      · subst hz
        have HD2 : Hid (val (L.drop j) = 0) := by unfold Hid; rw [val_drop L j hj, HXX.out, HD.out]
        go_wp2
        exact ⟨⟨j, by go_num, by omega, HD2⟩, by simp [intOf]⟩
      · have hz' : ((x : Int) == 0) = false := by simp; omega
        go_wp2
        go_ret
        exact ⟨rb1 (by have := len_of L hw (j + 1) (by omega) HD.out (Or.inr ⟨by simpa using hj, by have := HXX.out; simp; omega⟩); rw [HV.out] at this; rw [this]; omega), HX.out⟩
theorem c_cmpU (x y : Nat) (w : World) : Calls Try.prog 147 #[.int .u64 (x : Int), .int .u64 (y : Int)] w fun e w' => e = .returned (.int .i64 (sgnN x y)) ∧ w = w' := by
  go_enter Try.func147, Try.ntmps147
  go_wp2
  all_goals go_ret
  all_goals exact ⟨rb1 (by unfold sgnN; first | (rw [if_pos (by omega)]; done) | (rw [if_neg (by omega), if_pos (by omega)]; done) | (rw [if_neg (by omega), if_neg (by omega)]; done)), rfl⟩
def sgnI (x y : Int) : Int := if x < y then -1 else if y < x then 1 else 0
theorem c_cmpI (x y : Int) (w : World) : Calls Try.prog 123 #[.int .i64 x, .int .i64 y] w fun e w' => e = .returned (.int .i64 (sgnI x y)) ∧ w = w' := by
  go_enter Try.func123, Try.ntmps123
  go_wp2
  all_goals go_ret
  all_goals exact ⟨rb1 (by unfold sgnI; first | (rw [if_pos (by omega)]; done) | (rw [if_neg (by omega), if_pos (by omega)]; done) | (rw [if_neg (by omega), if_neg (by omega)]; done)), rfl⟩
/-- Two numbers are compared word by word, from the most significant one on. -/
theorem p_cmpWords (a b c d e f g h n m : Nat) (hn : mag4 a b c d = n) (hm : mag4 e f g h = m) (w : World) (hw : W64 [a, b, c, d]) (hw' : W64 [e, f, g, h]) :
    Calls Try.prog 124 #[.agg #[.int .u64 (a : Int), .int .u64 (b : Int), .int .u64 (c : Int), .int .u64 (d : Int)], .agg #[.int .u64 (e : Int), .int .u64 (f : Int), .int .u64 (g : Int), .int .u64 (h : Int)]] w (IntRet .i64 (sgnN n m) w) := by
  have H1 := two_blocks w (.cells #[.int .u64 (a : Int), .int .u64 (b : Int), .int .u64 (c : Int), .int .u64 (d : Int)] 118) (.cells #[.int .u64 (e : Int), .int .u64 (f : Int), .int .u64 (g : Int), .int .u64 (h : Int)] 118)
  have HX := hide ((ext_alloc w (.cells #[.int .u64 (a : Int), .int .u64 (b : Int), .int .u64 (c : Int), .int .u64 (d : Int)] 118)).trans (ext_alloc _ (.cells #[.int .u64 (e : Int), .int .u64 (f : Int), .int .u64 (g : Int), .int .u64 (h : Int)] 118)))
  obtain ⟨W, hW⟩ : ∃ W, W = (w.alloc (.cells #[.int .u64 (a : Int), .int .u64 (b : Int), .int .u64 (c : Int), .int .u64 (d : Int)] 118)).alloc (.cells #[.int .u64 (e : Int), .int .u64 (f : Int), .int .u64 (g : Int), .int .u64 (h : Int)] 118) := ⟨_, rfl⟩
  rw [← hW] at H1 HX
  obtain ⟨L, hL⟩ : ∃ L, L = [a, b, c, d] := ⟨_, rfl⟩
  obtain ⟨M, hM⟩ : ∃ M, M = [e, f, g, h] := ⟨_, rfl⟩
  have A1 : Hid (Arr W w.heap.size 118 L) := by rw [hL]; exact H1.1
  have A2 : Hid (Arr W (w.heap.size + 1) 118 M) := by rw [hM]; exact H1.2
  have HL : Hid (L.length = 4) := by rw [hL]; exact rfl
  have HM : Hid (M.length = 4) := by rw [hM]; exact rfl
  have VL : Hid (val L = n) := by rw [hL]; exact hn
  have VM : Hid (val M = m) := by rw [hM]; exact hm
  rw [← hL] at hw
  rw [← hM] at hw'
  have HW := hide hW
  clear H1 hL hM hn hm hW
  go_enter Try.func124, Try.ntmps124
  go_wp2_with fail
  rw [← HW.out]
  clear HW
  go_loopw [5] (fun i wr => ∃ k : Nat, i = .int .i64 ((k : Int) - 1) ∧ k ≤ 4 ∧ Hid (L.drop k = M.drop k) ∧ Ext W wr) (fun i _ => (intOf i + 1).toNat)
  case atStart => exact ⟨4, rfl, by omega, by unfold Hid; rw [List.drop_of_length_le (by rw [HL.out]; omega), List.drop_of_length_le (by rw [HM.out]; omega)], Ext.refl _⟩
  case round =>
    obtain ⟨k, rfl, hk, HD, hE⟩ := hrel
    by_cases hk0 : k = 0
    · subst hk0
      go_wp2
      go_ret
      exact ⟨rb1 (by have e := HD.out; simp only [List.drop_zero] at e; have e2 := congrArg val e; rw [VL.out, VM.out] at e2; subst e2; simp [sgnN]), HX.out.trans hE⟩
    · obtain ⟨j, rfl⟩ : ∃ j, k = j + 1 := ⟨k - 1, by omega⟩
      have hs1 : j < L.length := by rw [HL.out]; omega
      have hs2 : j < M.length := by rw [HM.out]; omega
      have cg := (A1.out.ext hE).at j hs1
      have cg' := (A2.out.ext hE).at j hs2
      obtain ⟨x, hx⟩ : ∃ x, L[j] = x := ⟨_, rfl⟩
      obtain ⟨y, hy⟩ : ∃ y, M[j] = y := ⟨_, rfl⟩
      rw [hx] at cg
      rw [hy] at cg'
      have HXX := hide hx
      have HYY := hide hy
      clear hx hy
      have hE2 : ∀ q, Ext W (wr.drewN q) := fun q => hE.trans (ext_drewN _ _)
      by_cases hxy : x = y
      · subst hxy
        have HD2 : Hid (L.drop j = M.drop j) := by
          unfold Hid; rw [List.drop_eq_getElem_cons hs1, List.drop_eq_getElem_cons hs2, HD.out, HXX.out, HYY.out]
        clear HXX HYY
        go_wp2
        go_quiet (fail)
        go_wp2
        go_roundw
        case rel => exact ⟨j, by go_num, by omega, HD2, hE2 _⟩
        case measure => first | (simp [intOf]; done) | (simp [intOf]; omega)
      · have hne : ((x : Int) != (y : Int)) = true := by simp; omega
        have HS : Hid (sgnN x y = sgnN n m) := by
          rcases (by omega : x < y ∨ y < x) with hxy | hxy
          · have := cmp_lt L M j hs1 hs2 hw HD.out (by rw [HXX.out, HYY.out]; exact hxy)
            rw [VL.out, VM.out] at this
            unfold Hid sgnN; rw [if_pos hxy, if_pos this]
          · have := cmp_lt M L j hs2 hs1 hw' HD.out.symm (by rw [HXX.out, HYY.out]; exact hxy)
            rw [VL.out, VM.out] at this
            unfold Hid sgnN; rw [if_neg (by omega), if_pos hxy, if_neg (by omega), if_pos this]
        clear HXX HYY
        go_wp2
        go_quiet (fail)
        go_wp2
        go_quiet ((go_at_call 147; exact quietAdd (c_cmpU x y _)))
        go_wp2
        go_ret
        exact ⟨rb1 HS.out, HX.out.trans ((hE2 _).trans (ext_drewN _ _))⟩
end Go.Proofs.Ytbnbkondbdakeaa
/- addTo of the program: words are added to words in their place. Conditions: the words lie in memory, in different blocks; there are not more of the second ones than of the first ones. -/
namespace Go.Proofs.Ytbnbkondbdakeaa
set_option linter.unusedVariables false
set_option linter.unusedSimpArgs false
open Go Go.RowKit
theorem Arr.seg {w : World} {g o : Nat} {T : TypeId} {P os Q : List Nat} (h : Arr w g T (P ++ os ++ Q)) (hP : P.length = o) (k : Nat) (hk : k < os.length) : w.cell? ⟨g, o + k, none⟩ = some (.int .u64 (os[k] : Int)) := by
  rw [h.at (o + k) (by simp; omega)]
  congr 3
  subst hP
  rw [List.getElem_append_left (by simp; omega), List.getElem_append_right (by omega)]
  simp
theorem Arr.segset {w : World} {g o : Nat} {T : TypeId} {P os Q : List Nat} (h : Arr w g T (P ++ os ++ Q)) (hP : P.length = o) (k x : Nat) (hk : k < os.length) : Arr (w.setCell ⟨g, o + k, none⟩ (.int .u64 (x : Int))) g T (P ++ os.set k x ++ Q) := by
  have h2 := h.set (o + k) x
  subst hP
  rw [List.append_assoc, List.set_append_right _ _ (by omega), Nat.add_sub_cancel_left, List.set_append_left _ _ hk, ← List.append_assoc] at h2
  exact h2
theorem w64_set {l : List Nat} (h : W64 l) (k x : Nat) (hx : x < 18446744073709551616) : W64 (l.set k x) := by
  intro y hy
  rcases List.mem_or_eq_of_mem_set hy with h2 | h2
  · exact h y h2
  · omega
def AddToPost (g n : Nat) (T : TypeId) (P p Q q : List Nat) (w : World) (e : Ending) (w' : World) : Prop :=
  ∃ (c : Nat) (os : List Nat), e = .returned (.int .u64 (c : Int)) ∧ c ≤ 1 ∧ os.length = n ∧ W64 os ∧ val os + 18446744073709551616 ^ n * c = val p + val q ∧ Arr w' g T (P ++ os ++ Q) ∧ Upd g w w'
/-- The words of a slice are read. -/
def Reads (w : World) (g o : Nat) (q : List Nat) : Prop := g < w.heap.size ∧ ∀ i (h : i < q.length), w.cell? ⟨g, o + i, none⟩ = some (.int .u64 (q[i] : Int))
theorem Reads.upd {w w' : World} {g b o : Nat} {q : List Nat} (h : Reads w g o q) (k : Upd b w w') (hn : g ≠ b) : Reads w' g o q :=
  ⟨Nat.lt_of_lt_of_le h.1 k.2.2.2.1, fun i hi => (World.cell?_of_block (w := w) (w' := w') (a := ⟨g, o + i, none⟩) (k.2.2.2.2 g h.1 hn)).trans (h.2 i hi)⟩
theorem Reads.ext {w w' : World} {g o : Nat} {q : List Nat} (h : Reads w g o q) (k : Ext w w') : Reads w' g o q :=
  ⟨Nat.lt_of_lt_of_le h.1 k.size, fun i hi => (k.cell (p := ⟨g, o + i, none⟩) h.1).trans (h.2 i hi)⟩
theorem Arr.reads {w : World} {g o : Nat} {T : TypeId} {P q Q : List Nat} (h : Arr w g T (P ++ q ++ Q)) (hP : P.length = o) : Reads w g o q := ⟨h.lt, fun i hi => h.seg hP i hi⟩
theorem Upd.drewN {g : Nat} {w w' : World} (h : Upd g w w') (n : Nat) : Upd g w (w'.drewN n) := h.trans (Ext.upd (ext_drewN _ _) g)
theorem Upd.drew {g : Nat} {w w' : World} (h : Upd g w w') : Upd g w w'.drew := h.trans (Ext.upd (ext_drew _) g)
theorem Upd.set {g : Nat} {w w' : World} (h : Upd g w w') (k : Nat) (u : Value) : Upd g w (w'.setCell ⟨g, k, none⟩ u) := h.trans (upd_set _ _ _ _)
set_option maxHeartbeats 1000000 in
theorem p_addTo (g o n ca gb ob m cb : Nat) (T : TypeId) (P p Q q : List Nat) (w : World) (hA : Arr w g T (P ++ p ++ Q)) (hP : P.length = o) (hp : p.length = n) (hq : q.length = m) (hB : Reads w gb ob q) (hne : gb ≠ g) (hmn : m ≤ n) (hn : n ≤ 1000) (wp : W64 p) (wq : W64 q) :
    Calls Try.prog 143 #[.slice (some ⟨g, o, none⟩) n ca, .slice (some ⟨gb, ob, none⟩) m cb] w (AddToPost g n T P p Q q w) := by
  have HP := hide hP
  have Hp := hide hp
  have Hq := hide hq
  have HA := hide hA
  have HB := hide hB
  clear hP hp hq hA hB
  go_enter Try.func143, Try.ntmps143
  go_wp2_with fail
  go_loopw [11, 5] (fun i t wr => ∃ (k c : Nat) (os : List Nat), i = .int .i64 k ∧ t = .int .u64 c ∧ k ≤ m ∧ c ≤ 1 ∧ Hid (AddRel p q os k c) ∧ W64 os ∧ Hid (Arr wr g T (P ++ os ++ Q)) ∧ Upd g w wr) (fun i _ _ => m - (intOf i).toNat)
  case atStart => exact ⟨0, 0, p, rfl, rfl, by omega, by omega, ⟨rfl, rfl, by omega, by simp [val]⟩, wp, HA, Upd.refl _ _⟩
  case round =>
    obtain ⟨k, c, os, rfl, rfl, hk, hc, HR, wo, HO, hU⟩ := hrel
    have HL : Hid (os.length = n) := HR.out.1.trans Hp.out
    by_cases hkm : k < m
    · have hkn : k < os.length := by rw [HL.out]; omega
      have cg := HO.out.seg HP.out k hkn
      have fg := HO.out.free (o + k)
      have cb := (HB.out.upd hU hne).2 k (by rw [Hq.out]; omega)
      obtain ⟨x, hx⟩ : ∃ x, os[k] = x := ⟨_, rfl⟩
      obtain ⟨y, hy⟩ : ∃ y, q[k]'(by rw [Hq.out]; omega) = y := ⟨_, rfl⟩
      rw [hx] at cg
      rw [hy] at cb
      have HX : Hid (x = p[k]'(by rw [Hp.out]; omega)) := by rw [← hx]; exact (drop_get HR.out.2.1 hkn (by rw [Hp.out]; omega)).1
      have HY : Hid (q.getD k 0 = y) := by rw [← hy]; simp [Hid, List.getD, show k < q.length by rw [Hq.out]; omega]
      clear hx hy
      have hadd := add64_run x y c hc
      have HS : Hid (AddRel p q (os.set k ((x + y + c) % 18446744073709551616)) (k + 1) ((x + y + c) / 18446744073709551616)) := by
        have := HR.out.step (by rw [Hp.out]; omega) wp wq
        rw [← HX.out, HY.out] at this
        exact this
      have HW2 := HO.out.segset HP.out k ((x + y + c) % 18446744073709551616) hkn
      rw [show (((x + y + c) % 18446744073709551616 : Nat) : Int) = ((x : Int) + y + c) % 18446744073709551616 by omega] at HW2
      have HW := hide HW2
      have HU := hide (hU.set (o + k) (.int .u64 (((x : Int) + y + c) % 18446744073709551616)))
      clear HW2
      go_wp2
      exact ⟨⟨k + 1, _, _, by go_num, by go_num, by omega, HS.out.2.2.1, HS, w64_set wo _ _ (by omega), HW, HU.out⟩, by simp [intOf]; omega⟩
    · obtain rfl : k = m := by omega
      have HK := hide hU
      have HR0 := hide HR
      clear HR hU HL
      go_wp2_with fail
      go_loopw [8, 5] (fun i t wr => ∃ (j c : Nat) (os : List Nat), i = .int .i64 j ∧ t = .int .u64 c ∧ k ≤ j ∧ j ≤ n ∧ c ≤ 1 ∧ Hid (AddRel p q os j c) ∧ W64 os ∧ Hid (Arr wr g T (P ++ os ++ Q)) ∧ Upd g w wr) (fun i _ _ => n - (intOf i).toNat)
      case atStart => exact ⟨k, c, os, rfl, rfl, by omega, by omega, hc, HR0.out, wo, HO, HK.out⟩
      case round =>
        clear HO HK HR0 wo hc
        obtain ⟨j, c, os, rfl, rfl, hj0, hj, hc, HR, wo, HO, hU⟩ := hrel
        have HL : Hid (os.length = n) := HR.out.1.trans Hp.out
        by_cases hjn : j < n
        · have hkn : j < os.length := by rw [HL.out]; omega
          have cg := HO.out.seg HP.out j hkn
          have fg := HO.out.free (o + j)
          obtain ⟨x, hx⟩ : ∃ x, os[j] = x := ⟨_, rfl⟩
          rw [hx] at cg
          have HX : Hid (x = p[j]'(by rw [Hp.out]; omega)) := by rw [← hx]; exact (drop_get HR.out.2.1 hkn (by rw [Hp.out]; omega)).1
          have HY : Hid (q.getD j 0 = 0) := by simp [Hid, List.getD, show q.length ≤ j by rw [Hq.out]; omega]
          clear hx
          have hadd := add64_run0 x c hc
          have HS : Hid (AddRel p q (os.set j ((x + 0 + c) % 18446744073709551616)) (j + 1) ((x + 0 + c) / 18446744073709551616)) := by
            have := HR.out.step (by rw [Hp.out]; omega) wp wq
            rw [← HX.out, HY.out] at this
            exact this
          have HW2 := HO.out.segset HP.out j ((x + 0 + c) % 18446744073709551616) hkn
          rw [show (((x + 0 + c) % 18446744073709551616 : Nat) : Int) = ((x : Int) + c) % 18446744073709551616 by omega] at HW2
          have HW := hide HW2
          have HU := hide (hU.set (o + j) (.int .u64 (((x : Int) + c) % 18446744073709551616)))
          clear HW2
          go_wp2
          exact ⟨⟨j + 1, _, _, by go_num, by go_num, by omega, by omega, HS.out.2.2.1, HS, w64_set wo _ _ (by omega), HW, HU.out⟩, by simp [intOf]; omega⟩
        · obtain rfl : j = n := by omega
          have H1 : Hid (val os + 18446744073709551616 ^ j * c = val p + val q) := by
            have h1 := HR.out
            rw [show j = p.length from Hp.out.symm] at h1
            have h2 := h1.done (by rw [Hp.out, Hq.out]; omega)
            rw [val_snoc, HL.out] at h2
            exact h2
          go_wp2
          go_ret
          exact ⟨c, os, rfl, hc, HL.out, wo, H1.out, HO.out, hU⟩
end Go.Proofs.Ytbnbkondbdakeaa
