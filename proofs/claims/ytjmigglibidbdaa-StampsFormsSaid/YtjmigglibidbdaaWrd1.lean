/- Words in memory, for the package wide of the program: arrays of words that lie in blocks. No condition. -/
import Derived.Test.YtjmigglibidbdaaMag1
import Derived.Laws.StructEq
import Derived.Test.YtjmigglibidbdaaMagK
namespace Go.Proofs.Ytjmigglibidbdaa
set_option linter.unusedVariables false
set_option linter.unusedSimpArgs false
open Go Go.RowKit

/-- One world after the other: what was there is as it was, but for block g. -/
def Upd (g : Nat) (w w' : World) : Prop := w'.os = w.os ∧ w'.tape = w.tape ∧ w'.output = w.output ∧ w.heap.size ≤ w'.heap.size ∧ ∀ k, k < w.heap.size → k ≠ g → w'.heap[k]? = w.heap[k]?
theorem Upd.refl (g : Nat) (w : World) : Upd g w w := ⟨rfl, rfl, rfl, Nat.le_refl _, fun _ _ _ => rfl⟩
theorem Upd.trans {g : Nat} {a b c : World} (h : Upd g a b) (k : Upd g b c) : Upd g a c :=
  ⟨k.1.trans h.1, k.2.1.trans h.2.1, k.2.2.1.trans h.2.2.1, Nat.le_trans h.2.2.2.1 k.2.2.2.1, fun i hi hn => (k.2.2.2.2 i (Nat.lt_of_lt_of_le hi h.2.2.2.1) hn).trans (h.2.2.2.2 i hi hn)⟩
theorem Ext.upd {w w' : World} (h : Ext w w') (g : Nat) : Upd g w w' := ⟨h.os, h.tape, h.output, h.size, fun k hk _ => h.block k hk⟩
theorem Upd.ext {g : Nat} {W w w' : World} (h : Upd g w w') (k : Ext W w) (hg : W.heap.size ≤ g) : Ext W w' :=
  ⟨h.1.trans k.os, h.2.1.trans k.tape, h.2.2.1.trans k.output, Nat.le_trans k.size h.2.2.2.1, fun i hi => (h.2.2.2.2 i (Nat.lt_of_lt_of_le hi k.size) (by omega)).trans (k.block i hi)⟩
theorem upd_set (w : World) (g k : Nat) (u : Value) : Upd g w (w.setCell ⟨g, k, none⟩ u) :=
  ⟨rfl, rfl, rfl, by simp [World.setCell], fun i _ hn => heap_setCell_other w ⟨g, k, none⟩ i u hn⟩
/-- Block g is an array of words. -/
def Arr (w : World) (g : Nat) (T : TypeId) (L : List Nat) : Prop := w.heap[g]? = some (.cells (wd L).toArray T (0, 0))
theorem Arr.at {w : World} {g : Nat} {T : TypeId} {L : List Nat} (h : Arr w g T L) (i : Nat) (hi : i < L.length) : w.cell? ⟨g, i, none⟩ = some (.int .u64 (L[i] : Int)) := by
  rw [cell_of_block h]; simp [wd, hi]
theorem Arr.free {w : World} {g : Nat} {T : TypeId} {L : List Nat} (h : Arr w g T L) (i : Nat) : w.frozen? ⟨g, i, none⟩ = false := free_of_block h i
theorem Arr.lt {w : World} {g : Nat} {T : TypeId} {L : List Nat} (h : Arr w g T L) : g < w.heap.size := (Array.getElem?_eq_some_iff.1 h).1
theorem Arr.set {w : World} {g : Nat} {T : TypeId} {L : List Nat} (h : Arr w g T L) (k x : Nat) : Arr (w.setCell ⟨g, k, none⟩ (.int .u64 (x : Int))) g T (L.set k x) := by
  unfold Arr
  rw [store_block h k]
  simp [wd, List.map_set]
theorem Arr.far {w : World} {g b : Nat} {T : TypeId} {L : List Nat} (h : Arr w g T L) (hn : g ≠ b) (k : Nat) (u : Value) : Arr (w.setCell ⟨b, k, none⟩ u) g T L := by
  unfold Arr; rw [heap_setCell_other w ⟨b, k, none⟩ g u hn]; exact h
theorem Arr.ext {w w' : World} {g : Nat} {T : TypeId} {L : List Nat} (h : Arr w g T L) (k : Ext w w') : Arr w' g T L := by
  have := h.lt; unfold Arr; rw [k.block g this]; exact h
theorem Arr.upd {w w' : World} {g b : Nat} {T : TypeId} {L : List Nat} (h : Arr w g T L) (k : Upd b w w') (hn : g ≠ b) : Arr w' g T L := by
  have := h.lt; unfold Arr; rw [k.2.2.2.2 g this hn]; exact h
theorem Arr.drew {w : World} {g : Nat} {T : TypeId} {L : List Nat} (h : Arr w g T L) : Arr w.drew g T L := h
theorem Arr.drewN {w : World} {g : Nat} {T : TypeId} {L : List Nat} (h : Arr w g T L) (n : Nat) : Arr (w.drewN n) g T L := h
theorem four_list {L : List Nat} (h : L.length = 4) : ∃ a b c d, L = [a, b, c, d] := by
  match L, h with
  | [a, b, c, d], _ => exact ⟨a, b, c, d, rfl⟩
theorem arr_new (w : World) (T : TypeId) (L : List Nat) (cur : Array Value) (h : cur = (wd L).toArray) : Arr (w.alloc (.cells cur T)) w.heap.size T L := by
  subst h; exact heap_alloc_new w _

/-- Arrays and structs of words are compared word by word. -/
theorem eqIn4 (d : Nat) (t : TypeId) (ht : Try.prog.underlying t = some (.array 4 52)) (a b c e a' b' c' e' : Int) (w : World) :
    (Op.equalIn (d + 2) t (.agg #[.int .u64 a, .int .u64 b, .int .u64 c, .int .u64 e]) (.agg #[.int .u64 a', .int .u64 b', .int .u64 c', .int .u64 e'])).run Try.prog w = .ok (a == a' && (b == b' && (c == c' && e == e'))) w := by
  have hu := Try.underlying52
  have he : ∀ (x y : Int) (w : World), (Op.equalIn (d + 1) 52 (.int .u64 x) (.int .u64 y)).run Try.prog w = .ok (x == y) w := fun x y w => run_equalIn_int w d 52 .u64 .u64 x y hu
  have hs := Try.sizeOf52
  have p0 : ∀ (v0 v1 v2 v3 : Value) (w : World), (part 52 #[v0, v1, v2, v3] 0).run Try.prog w = .ok v0 w := by intro v0 v1 v2 v3 w; simp [part, isAgg, run_underlying hu]
  have p1 : ∀ (v0 v1 v2 v3 : Value) (w : World), (part 52 #[v0, v1, v2, v3] 1).run Try.prog w = .ok v1 w := by intro v0 v1 v2 v3 w; simp [part, isAgg, run_underlying hu]
  have p2 : ∀ (v0 v1 v2 v3 : Value) (w : World), (part 52 #[v0, v1, v2, v3] 2).run Try.prog w = .ok v2 w := by intro v0 v1 v2 v3 w; simp [part, isAgg, run_underlying hu]
  have p3 : ∀ (v0 v1 v2 v3 : Value) (w : World), (part 52 #[v0, v1, v2, v3] 3).run Try.prog w = .ok v3 w := by intro v0 v1 v2 v3 w; simp [part, isAgg, run_underlying hu]
  have hr : List.range' 0 4 1 = [0, 1, 2, 3] := rfl
  rw [Op.equalIn]
  simp only [Sem.run_bind, run_underlying ht, Result.andThen_ok, hs, Std.Legacy.Range.forIn_eq_forIn_range', Std.Legacy.Range.size, Nat.sub_zero, Nat.add_sub_cancel, Nat.div_one, hr]
  by_cases h1 : a = a' <;> by_cases h2 : b = b' <;> by_cases h3 : c = c' <;> by_cases h4 : e = e' <;> simp [h1, h2, h3, h4, p0, p1, p2, p3, he]
theorem eq4 (t : TypeId) (ht : Try.prog.underlying t = some (.array 4 52)) (a b c e a' b' c' e' : Int) (w : World) :
    (binOp .eql t (.agg #[.int .u64 a, .int .u64 b, .int .u64 c, .int .u64 e]) (.agg #[.int .u64 a', .int .u64 b', .int .u64 c', .int .u64 e'])).run Try.prog w = .ok (.bool (a == a' && (b == b' && (c == c' && e == e')))) w := by
  rw [run_eql_struct, show (10000 : Nat) = 9998 + 2 from rfl, eqIn4 9998 t ht]; rfl
theorem neq4 (t : TypeId) (ht : Try.prog.underlying t = some (.array 4 52)) (a b c e a' b' c' e' : Int) (w : World) :
    (binOp .neq t (.agg #[.int .u64 a, .int .u64 b, .int .u64 c, .int .u64 e]) (.agg #[.int .u64 a', .int .u64 b', .int .u64 c', .int .u64 e'])).run Try.prog w = .ok (.bool (!(a == a' && (b == b' && (c == c' && e == e'))))) w := by
  rw [run_neq_struct, show (10000 : Nat) = 9998 + 2 from rfl, eqIn4 9998 t ht]; rfl
theorem all0 (a b c d : Nat) (o : Bool) (h : decide (mag4 a b c d ≠ 0) = o) : (((a : Int) == 0) && (((b : Int) == 0) && (((c : Int) == 0) && ((d : Int) == 0)))) = !o := by
  subst h
  simp only [mag4, val]
  rw [Bool.eq_iff_iff]; simp; omega
theorem neq0 (t : TypeId) (ht : Try.prog.underlying t = some (.array 4 52)) (a b c d : Nat) (o : Bool) (h : decide (mag4 a b c d ≠ 0) = o) (w : World) :
    (binOp .neq t (.agg #[.int .u64 (a : Int), .int .u64 (b : Int), .int .u64 (c : Int), .int .u64 (d : Int)]) (.agg #[.int .u64 0, .int .u64 0, .int .u64 0, .int .u64 0])).run Try.prog w = .ok (.bool o) w := by
  rw [neq4 t ht, all0 a b c d o h, Bool.not_not]
theorem eql0 (t : TypeId) (ht : Try.prog.underlying t = some (.array 4 52)) (a b c d : Nat) (o : Bool) (h : decide (mag4 a b c d ≠ 0) = o) (w : World) :
    (binOp .eql t (.agg #[.int .u64 (a : Int), .int .u64 (b : Int), .int .u64 (c : Int), .int .u64 (d : Int)]) (.agg #[.int .u64 0, .int .u64 0, .int .u64 0, .int .u64 0])).run Try.prog w = .ok (.bool (!o)) w := by
  rw [eq4 t ht, all0 a b c d o h]

end Go.Proofs.Ytjmigglibidbdaa
/- oneWord, length and compareWords of the program. Condition: the words are of 64 bits. -/
namespace Go.Proofs.Ytjmigglibidbdaa
set_option linter.unusedVariables false
set_option linter.unusedSimpArgs false
open Go Go.RowKit
/-- A quiet call behind a region that drew. -/
theorem quietAdd {P : Program} {f : FuncId} {args : Array Value} {w : World} {a n : Nat} {v : Value} (h : Calls P f args (w.drewN (a + n)) fun e w' => e = .returned v ∧ w.drewN (a + n) = w') :
    Calls P f args (w.drewN (a + n)) fun e w'' => e = .returned v ∧ ∃ m, w'' = w.drewN (a + m) := h.mono fun _ _ ⟨he, hm⟩ => ⟨he, n, hm.symm⟩
theorem quietLeft {P : Program} {f : FuncId} {args : Array Value} {w : World} {n : Nat} {v : Value} (h : Calls P f args (w.drewN n) fun e w' => e = .returned v ∧ w.drewN n = w') :
    Calls P f args (w.drewN n) fun e w'' => e = .returned v ∧ ∃ m, w'' = w.drewN m := h.mono fun _ _ ⟨he, hm⟩ => ⟨he, n, hm.symm⟩
/-- The number of words without those that are 0 at the upper end. -/
theorem len_of (L : List Nat) (hL : W64 L) (n : Nat) (hn : n ≤ L.length) (hz : val (L.drop n) = 0) (hp : n = 0 ∨ ∃ h : n - 1 < L.length, L[n - 1] ≠ 0) : (limbs (val L)).length = n := by
  have e : val L = val (L.take n) := by rw [val_take_drop L n hn, hz]; simp
  rw [e]
  rw [limbs_of _ (w64_take hL n) ?_, List.length_take, Nat.min_eq_left hn]
  rcases Classical.em (n = 0) with rfl | h0
  · simp
  · · obtain ⟨k, rfl⟩ : ∃ k, n = k + 1 := ⟨n - 1, by omega⟩
      rw [List.take_succ_eq_append_getElem (by omega)]
      rw [List.getLast?_concat]; intro h0; injection h0 with h0; exact hp.resolve_left (by omega) |>.elim fun _ h1 => h1 h0
def sgnI (x y : Int) : Int := if x < y then -1 else if y < x then 1 else 0
end Go.Proofs.Ytjmigglibidbdaa
/- addTo of the program: words are added to words in their place. Conditions: the words lie in memory, in different blocks; there are not more of the second ones than of the first ones. -/
namespace Go.Proofs.Ytjmigglibidbdaa
set_option linter.unusedVariables false
set_option linter.unusedSimpArgs false
open Go Go.RowKit
theorem Arr.seg {w : World} {g o : Nat} {T : TypeId} {P os Q : List Nat} (h : Arr w g T (P ++ os ++ Q)) (hP : P.length = o) (k : Nat) (hk : k < os.length) : w.cell? ⟨g, o + k, none⟩ = some (.int .u64 (os[k] : Int)) := by
  rw [h.at (o + k) (by simp; omega)]
  congr 3
  subst hP
  rw [List.getElem_append_left (by simp; omega), List.getElem_append_right (by omega)]
  simp
theorem Arr.segset {w : World} {g o : Nat} {T : TypeId} {P os Q : List Nat} (h : Arr w g T (P ++ os ++ Q)) (hP : P.length = o) (k x : Nat) (hk : k < os.length) : Arr (w.setCell ⟨g, o + k, none⟩ (.int .u64 (x : Int))) g T (P ++ os.set k x ++ Q) := by
  have h2 := h.set (o + k) x
  subst hP
  rw [List.append_assoc, List.set_append_right _ _ (by omega), Nat.add_sub_cancel_left, List.set_append_left _ _ hk, ← List.append_assoc] at h2
  exact h2
theorem w64_set {l : List Nat} (h : W64 l) (k x : Nat) (hx : x < 18446744073709551616) : W64 (l.set k x) := by
  intro y hy
  rcases List.mem_or_eq_of_mem_set hy with h2 | h2
  · exact h y h2
  · omega
def AddToPost (g n : Nat) (T : TypeId) (P p Q q : List Nat) (w : World) (e : Ending) (w' : World) : Prop :=
  ∃ (c : Nat) (os : List Nat), e = .returned (.int .u64 (c : Int)) ∧ c ≤ 1 ∧ os.length = n ∧ W64 os ∧ val os + 18446744073709551616 ^ n * c = val p + val q ∧ Arr w' g T (P ++ os ++ Q) ∧ Upd g w w'
/-- The words of a slice are read. -/
def Reads (w : World) (g o : Nat) (q : List Nat) : Prop := g < w.heap.size ∧ ∀ i (h : i < q.length), w.cell? ⟨g, o + i, none⟩ = some (.int .u64 (q[i] : Int))
theorem Reads.upd {w w' : World} {g b o : Nat} {q : List Nat} (h : Reads w g o q) (k : Upd b w w') (hn : g ≠ b) : Reads w' g o q :=
  ⟨Nat.lt_of_lt_of_le h.1 k.2.2.2.1, fun i hi => (World.cell?_of_block (w := w) (w' := w') (a := ⟨g, o + i, none⟩) (k.2.2.2.2 g h.1 hn)).trans (h.2 i hi)⟩
theorem Reads.ext {w w' : World} {g o : Nat} {q : List Nat} (h : Reads w g o q) (k : Ext w w') : Reads w' g o q :=
  ⟨Nat.lt_of_lt_of_le h.1 k.size, fun i hi => (k.cell (p := ⟨g, o + i, none⟩) h.1).trans (h.2 i hi)⟩
theorem Arr.reads {w : World} {g o : Nat} {T : TypeId} {P q Q : List Nat} (h : Arr w g T (P ++ q ++ Q)) (hP : P.length = o) : Reads w g o q := ⟨h.lt, fun i hi => h.seg hP i hi⟩
theorem Upd.drewN {g : Nat} {w w' : World} (h : Upd g w w') (n : Nat) : Upd g w (w'.drewN n) := h.trans (Ext.upd (ext_drewN _ _) g)
theorem Upd.drew {g : Nat} {w w' : World} (h : Upd g w w') : Upd g w w'.drew := h.trans (Ext.upd (ext_drew _) g)
theorem Upd.set {g : Nat} {w w' : World} (h : Upd g w w') (k : Nat) (u : Value) : Upd g w (w'.setCell ⟨g, k, none⟩ u) := h.trans (upd_set _ _ _ _)
end Go.Proofs.Ytjmigglibidbdaa
