/- Part 1 of what these claims stand on: contracts of the program's and the reference's functions, and plain facts. Conditions: each states its own. -/
import Derived.WalkKit
import Derived.Test.YtmgkcgnnfgdapaaProg
import Derived.WalkSmall
import Derived.Shelf.Spec.BitsCarry
import Derived.Laws.AppendOwnNone
import Derived.Deep.QuietTactic
import Derived.BigQuiet
import Derived.Deep.RegionWith
import Derived.Deep.RegionHeld3
import Derived.Deep.DeepCutAuto
import Derived.Laws.StructEq
import Derived.Below
import Derived.ProofKit
import Derived.OpenShut
import Derived.ShutString
import Derived.ChangeOld
import Derived.Lib.SmallJoins
import Derived.Laws.CopyOwn
import Derived.Maps.AppendAt
import Derived.Deep.AppendLies
import Derived.Deep.Draws
import Derived.Lib.BitFns
import Derived.Laws.Cover3
import Derived.Shelf.Small.Bits
import Derived.OwnWalk
import Derived.Lib.QuietBelow
import Derived.KernelRfl
import Derived.Orders
import Derived.Deep.MidRow
import Derived.SizedLaws
import Derived.Deep.SlicePairs
import Derived.Deep.RegionLaw
import Derived.Deep.DeepAppendWide
namespace Go.Proofs.Ytmgkcgnnfgdapaa
set_option linter.unusedVariables false
set_option linter.unusedSimpArgs false
section
open Go Go.RowKit
/-- Words, the least significant one first. -/
def val : List Nat → Nat
  | [] => 0
  | x :: r => x + 18446744073709551616 * val r
def W64 (l : List Nat) : Prop := ∀ x ∈ l, x < 18446744073709551616
theorem val_append (a b : List Nat) : val (a ++ b) = val a + 18446744073709551616 ^ a.length * val b := by
  induction a with
  | nil => simp [val]
  | cons x r ih => simp only [List.cons_append, val, ih, List.length_cons, Nat.pow_succ]; grind
theorem val_snoc (a : List Nat) (x : Nat) : val (a ++ [x]) = val a + 18446744073709551616 ^ a.length * x := by rw [val_append]; simp [val]
theorem val_lt (a : List Nat) (h : W64 a) : val a < 18446744073709551616 ^ a.length := by
  induction a with
  | nil => simp [val]
  | cons x r ih =>
    have h1 := ih (fun y hy => h y (by simp [hy]))
    have h2 := h x (by simp)
    simp only [val, List.length_cons, Nat.pow_succ]
    omega
theorem val_take_succ (l : List Nat) (k : Nat) (h : k < l.length) : val (l.take (k + 1)) = val (l.take k) + 18446744073709551616 ^ k * l[k] := by
  rw [List.take_succ_eq_append_getElem h, val_snoc, List.length_take, Nat.min_eq_left (by omega)]
theorem val_drop (l : List Nat) (k : Nat) (h : k < l.length) : val (l.drop k) = l[k] + 18446744073709551616 * val (l.drop (k + 1)) := by
  rw [List.drop_eq_getElem_cons h, val]
theorem w64_get {l : List Nat} (h : W64 l) (k : Nat) (hk : k < l.length) : l[k] < 18446744073709551616 := h _ (List.getElem_mem _)
end
section
open Go Go.RowKit
theorem tq (a b : Int) (hb : b ≠ 0) : b * a.tdiv b + a.tmod b = a ∧ (a.tmod b).natAbs < b.natAbs ∧ (0 ≤ a → 0 ≤ a.tmod b) ∧ (a ≤ 0 → a.tmod b ≤ 0) ∧ (a.tdiv b).natAbs ≤ a.natAbs ∧ (2 ≤ b.natAbs → 2 * (a.tdiv b).natAbs ≤ a.natAbs) ∧ (b = 1 → a.tdiv b = a) ∧ (b = -1 → a.tdiv b = -a) := by
  have h1 := Int.mul_tdiv_add_tmod a b
  have h2 := Int.natAbs_tmod a b
  have h3 := Int.natAbs_tdiv a b
  have h4 : a.natAbs % b.natAbs < b.natAbs := Nat.mod_lt _ (by omega)
  have h5 : a.natAbs.div b.natAbs = a.natAbs / b.natAbs := rfl
  have h6 : a.natAbs / b.natAbs ≤ a.natAbs := Nat.div_le_self _ _
  refine ⟨h1, by omega, fun h => Int.tmod_nonneg _ h, fun h => ?_, by omega, fun h => ?_, fun h => by subst h; simp, fun h => by subst h; simp [Int.tdiv_neg]⟩
  · have := Int.tmod_nonneg (a := -a) b (by omega)
    rw [Int.neg_tmod] at this; omega
  · have h7 : b.natAbs * (a.natAbs / b.natAbs) ≤ a.natAbs := Nat.mul_div_le _ _
    have h8 : 2 * (a.natAbs / b.natAbs) ≤ b.natAbs * (a.natAbs / b.natAbs) := Nat.mul_le_mul_right _ h
    omega
end
section
open Go Go.RowKit
def wd (l : List Nat) : List Value := l.map fun x : Nat => Value.int .u64 (x : Int)
/-- The slice v owns the words l: it is nil, or begins at the head of a block from B on. -/
def Words (B : Nat) (w : World) (v : Value) (l : List Nat) : Prop := w.ownsRow B 57 1 v l.length (wd l) ∧ W64 l
def lenOf : Value → Nat | .slice _ n _ => n | _ => 0
theorem rb1 {k : IntKind} {a a' : Int} (h1 : a = a') : Ending.returned (Value.int k a) = .returned (.int k a') := by rw [h1]
theorem hide {p : Prop} (h : p) : Hid p := h
theorem Words.nil {B : Nat} {w : World} {v : Value} (h : Words B w v []) : ∃ a cap, v = .slice a 0 cap ∧ cap ≤ 9223372036854775807 := by
  obtain ⟨⟨_, h1 | ⟨g, cap, cur, e, h1⟩⟩, _⟩ := h
  · exact ⟨_, _, h1.1, by omega⟩
  · refine ⟨_, _, e, ?_⟩; have := h1.2.2.2.1; unfold maxLen at this; omega
theorem Words.pos {B : Nat} {w : World} {v : Value} {l : List Nat} (h : Words B w v l) (n : Nat) (hl : l.length = n) (h0 : 0 < n) : ∃ g cap, v = .slice (some ⟨g, 0, none⟩) n cap ∧ n ≤ cap ∧ cap ≤ 9223372036854775807 ∧ B ≤ g ∧ g < w.heap.size ∧
    (∀ i (hi : i < l.length), w.cell? ⟨g, i, none⟩ = some (.int .u64 (l[i] : Int))) ∧ ∀ i, w.frozen? ⟨g, i, none⟩ = false := by
  subst hl
  obtain ⟨h, _⟩ := h
  have hc := h
  obtain ⟨_, h1 | ⟨g, cap, cur, rfl, hb, hh, hn, hm, _⟩⟩ := h
  · omega
  · refine ⟨g, cap, rfl, hn, by unfold maxLen at hm; omega, hb, ?_, fun i hi => ?_, fun i => hc.frozenAt i⟩
    · exact (hc.lt g rfl).2
    · rw [hc.cellAt i (by omega)]; simp [wd, hi]
theorem Words.ext {B : Nat} {w w' : World} {v : Value} {l : List Nat} (h : Words B w v l) (k : Below w.heap.size w w') : Words B w' v l := by
  refine ⟨?_, h.2⟩
  obtain ⟨h1, h2 | ⟨g, cap, cur, hv, hg, hh, r⟩⟩ := h.1
  · exact ⟨h1, Or.inl h2⟩
  · have hlt := (h.1.lt g (by rw [hv]; rfl)).2
    exact ⟨h1, Or.inr ⟨g, cap, cur, hv, hg, by rw [k.block g hlt]; exact hh, r⟩⟩
theorem Words.base {B B' : Nat} {w : World} {v : Value} {l : List Nat} (h : Words B w v l) (k : B' ≤ B) : Words B' w v l := by
  refine ⟨?_, h.2⟩
  obtain ⟨h1, h2 | ⟨g, cap, cur, hv, hg, r⟩⟩ := h.1
  · exact ⟨h1, Or.inl h2⟩
  · exact ⟨h1, Or.inr ⟨g, cap, cur, hv, by omega, r⟩⟩
/-- One world after the other: what was there is as it was. -/
def Ext (w w' : World) : Prop := Below w.heap.size w w'
theorem Ext.refl (w : World) : Ext w w := Below.refl _ _
theorem Ext.trans {a b c : World} (h : Ext a b) (k : Ext b c) : Ext a c := Below.trans h (Below.mono k h.size)
theorem ext_drewN (w : World) (n : Nat) : Ext w (w.drewN n) := ⟨rfl, rfl, rfl, Nat.le_refl _, fun _ _ => rfl⟩
theorem ext_drew (w : World) : Ext w w.drew := ⟨rfl, rfl, rfl, Nat.le_refl _, fun _ _ => rfl⟩
theorem ext_alloc (w : World) (o : Obj) : Ext w (w.alloc o) := (Below.refl _ _).alloc (Nat.le_refl _) o
theorem Words.drew {B : Nat} {w : World} {v : Value} {l : List Nat} (h : Words B w v l) : Words B w.drew v l := h
open Go Go.RowKit
theorem Words.at {B : Nat} {w : World} {a : Option Addr} {n cap : Nat} {l : List Nat} (h : Words B w (.slice a n cap) l) (i : Nat) (hi : i < l.length) :
    ∃ g, a = some ⟨g, 0, none⟩ ∧ B ≤ g ∧ g < w.heap.size ∧ w.cell? ⟨g, i, none⟩ = some (.int .u64 (l[i] : Int)) ∧ w.frozen? ⟨g, i, none⟩ = false := by
  obtain ⟨g, cap', e, _, _, h3, h4, hc, hf⟩ := h.pos _ rfl (by omega)
  injection e with e1 e2 e3
  exact ⟨g, e1, h3, h4, hc i hi, hf i⟩
theorem Words.set {B : Nat} {w : World} {g n cap : Nat} {l : List Nat} (h : Words B w (.slice (some ⟨g, 0, none⟩) n cap) l) (hn : l.length = n) (k x : Nat) (hx : x < 18446744073709551616) : Words B (w.setCell ⟨g, k, none⟩ (.int .u64 (x : Int))) (.slice (some ⟨g, 0, none⟩) n cap) (l.set k x) := by
  subst hn
  have h1 := (h.1.stored k (.int .u64 (x : Int))).1
  refine ⟨?_, ?_⟩
  · rw [List.length_set, show wd (l.set k x) = (wd l).set k (.int .u64 (x : Int)) by simp [wd, List.map_set]]; exact h1
  · intro y hy
    rcases List.mem_or_eq_of_mem_set hy with h2 | h2
    · exact h.2 y h2
    · omega
theorem val_set_take (l : List Nat) (k x : Nat) (h : k < l.length) : val ((l.set k x).take (k + 1)) = val (l.take k) + 18446744073709551616 ^ k * x := by
  rw [val_take_succ _ k (by simpa using h), List.getElem_set_self, List.take_set_of_le (Nat.le_refl _)]
theorem drop_set (l : List Nat) (k x : Nat) : (l.set k x).drop (k + 1) = l.drop (k + 1) := by rw [List.drop_set_of_lt (by omega)]
theorem val_take_getD (l : List Nat) (k : Nat) : val (l.take (k + 1)) = val (l.take k) + 18446744073709551616 ^ k * l.getD k 0 := by
  by_cases h : k < l.length
  · rw [val_take_succ l k h]; simp [List.getD, h]
  · rw [List.take_of_length_le (by omega), List.take_of_length_le (by omega)]; simp [List.getD, show l.length ≤ k by omega]
theorem drop_get {l m : List Nat} {k : Nat} (h : l.drop k = m.drop k) (h1 : k < l.length) (h2 : k < m.length) : l[k] = m[k] ∧ l.drop (k + 1) = m.drop (k + 1) := by
  rw [List.drop_eq_getElem_cons h1, List.drop_eq_getElem_cons h2] at h
  injection h with h3 h4
  exact ⟨h3, h4⟩
/-- What has been added so far. -/
def AddRel (p q os : List Nat) (k c : Nat) : Prop := os.length = p.length ∧ os.drop k = p.drop k ∧ c ≤ 1 ∧ val (os.take k) + 18446744073709551616 ^ k * c = val (p.take k) + val (q.take k)
theorem AddRel.step {p q os : List Nat} {k c : Nat} (h : AddRel p q os k c) (hk : k < p.length) (hp : W64 p) (hq : W64 q) :
    AddRel p q (os.set k ((p[k] + q.getD k 0 + c) % 18446744073709551616)) (k + 1) ((p[k] + q.getD k 0 + c) / 18446744073709551616) := by
  obtain ⟨h1, h2, h3, h4⟩ := h
  have hx := w64_get hp k hk
  have hy : q.getD k 0 < 18446744073709551616 := by
    by_cases hkq : k < q.length
    · have := w64_get hq k hkq; simp [List.getD, hkq]; exact this
    · simp [List.getD, show q.length ≤ k by omega]
  refine ⟨by simpa using h1, by rw [drop_set]; exact (drop_get h2 (by omega) hk).2, by omega, ?_⟩
  rw [val_set_take _ _ _ (by omega), val_take_succ p k hk, val_take_getD q k, Nat.pow_succ]
  generalize p[k] = x at *
  generalize q.getD k 0 = y at *
  have e := Nat.div_add_mod (x + y + c) 18446744073709551616
  generalize (x + y + c) / 18446744073709551616 = d at *
  generalize (x + y + c) % 18446744073709551616 = r at *
  grind
theorem AddRel.done {p q os : List Nat} {c : Nat} (h : AddRel p q os p.length c) (hq : q.length ≤ p.length) : val (os ++ [c]) = val p + val q := by
  obtain ⟨h1, _, _, h4⟩ := h
  rw [List.take_of_length_le (by omega), List.take_length, List.take_of_length_le hq] at h4
  rw [val_snoc, h1]; exact h4
open Go Go.RowKit
/-- What has been subtracted so far. -/
def SubRel (p q os : List Nat) (k c : Nat) : Prop := os.length = p.length ∧ os.drop k = p.drop k ∧ c ≤ 1 ∧ val (os.take k) + val (q.take k) = val (p.take k) + 18446744073709551616 ^ k * c
theorem SubRel.step {p q os : List Nat} {k c : Nat} (h : SubRel p q os k c) (hk : k < p.length) (hp : W64 p) (hq : W64 q) :
    SubRel p q (os.set k ((p[k] + 18446744073709551616 - q.getD k 0 - c) % 18446744073709551616)) (k + 1) (if p[k] < q.getD k 0 + c then 1 else 0) := by
  obtain ⟨h1, h2, h3, h4⟩ := h
  have hx := w64_get hp k hk
  have hy : q.getD k 0 < 18446744073709551616 := by
    by_cases hkq : k < q.length
    · have := w64_get hq k hkq; simp [List.getD, hkq]; exact this
    · simp [List.getD, show q.length ≤ k by omega]
  refine ⟨by simpa using h1, by rw [drop_set]; exact (drop_get h2 (by omega) hk).2, by split <;> omega, ?_⟩
  rw [val_set_take _ _ _ (by omega), val_take_succ p k hk, val_take_getD q k, Nat.pow_succ]
  generalize p[k] = x at *
  generalize q.getD k 0 = y at *
  obtain ⟨r, hr⟩ : ∃ r, (x + 18446744073709551616 - y - c) % 18446744073709551616 = r := ⟨_, rfl⟩
  rw [hr]
  split
  · have e : r + y + c = x + 18446744073709551616 := by omega
    grind
  · have e : r + y + c = x := by omega
    grind
theorem SubRel.done {p q os : List Nat} {c : Nat} (h : SubRel p q os p.length c) (hq : q.length ≤ p.length) (ho : W64 os) (hle : val q ≤ val p) : val os = val p - val q := by
  obtain ⟨h1, _, h3, h4⟩ := h
  rw [List.take_of_length_le (by omega), List.take_length, List.take_of_length_le hq] at h4
  have h5 := val_lt os ho
  rw [h1] at h5
  have : c = 0 ∨ c = 1 := by omega
  rcases this with rfl | rfl
  · simp at h4; omega
  · simp at h4; omega
open Go Go.RowKit
theorem cell_of_block {w : World} {b : Nat} {cur : Array Value} {e : TypeId} (h : w.heap[b]? = some (.cells cur e (0, 0))) (i : Nat) : w.cell? ⟨b, i, none⟩ = cur[i]? := by simp [World.cell?, h]
theorem store_block {w : World} {b : Nat} {cur : Array Value} {e : TypeId} (h : w.heap[b]? = some (.cells cur e (0, 0))) (j : Nat) (u : Value) : (w.setCell ⟨b, j, none⟩ u).heap[b]? = some (.cells (cur.setIfInBounds j u) e (0, 0)) := heap_setCell_same w b j cur e u h
open Go Go.RowKit
open Go Go.RowKit
open Go Go.RowKit
theorem Ext.al {w W : World} (h : Ext w W) (o : Obj) : Ext w (W.alloc o) := h.trans (ext_alloc _ _)
end
section
open Go Go.RowKit
/-- One world after the other: what was there is as it was, but for block g. -/
def Upd (g : Nat) (w w' : World) : Prop := w'.os = w.os ∧ w'.tape = w.tape ∧ w'.output = w.output ∧ w.heap.size ≤ w'.heap.size ∧ ∀ k, k < w.heap.size → k ≠ g → w'.heap[k]? = w.heap[k]?
theorem Upd.refl (g : Nat) (w : World) : Upd g w w := ⟨rfl, rfl, rfl, Nat.le_refl _, fun _ _ _ => rfl⟩
theorem Upd.trans {g : Nat} {a b c : World} (h : Upd g a b) (k : Upd g b c) : Upd g a c :=
  ⟨k.1.trans h.1, k.2.1.trans h.2.1, k.2.2.1.trans h.2.2.1, Nat.le_trans h.2.2.2.1 k.2.2.2.1, fun i hi hn => (k.2.2.2.2 i (Nat.lt_of_lt_of_le hi h.2.2.2.1) hn).trans (h.2.2.2.2 i hi hn)⟩
theorem Ext.upd {w w' : World} (h : Ext w w') (g : Nat) : Upd g w w' := ⟨h.os, h.tape, h.output, h.size, fun k hk _ => h.block k hk⟩
theorem Upd.ext {g : Nat} {W w w' : World} (h : Upd g w w') (k : Ext W w) (hg : W.heap.size ≤ g) : Ext W w' :=
  ⟨h.1.trans k.os, h.2.1.trans k.tape, h.2.2.1.trans k.output, Nat.le_trans k.size h.2.2.2.1, fun i hi => (h.2.2.2.2 i (Nat.lt_of_lt_of_le hi k.size) (by omega)).trans (k.block i hi)⟩
theorem upd_set (w : World) (g k : Nat) (u : Value) : Upd g w (w.setCell ⟨g, k, none⟩ u) :=
  ⟨rfl, rfl, rfl, by simp [World.setCell], fun i _ hn => heap_setCell_other w ⟨g, k, none⟩ i u hn⟩
/-- Block g is an array of words. -/
def Arr (w : World) (g : Nat) (T : TypeId) (L : List Nat) : Prop := w.heap[g]? = some (.cells (wd L).toArray T (0, 0))
theorem Arr.at {w : World} {g : Nat} {T : TypeId} {L : List Nat} (h : Arr w g T L) (i : Nat) (hi : i < L.length) : w.cell? ⟨g, i, none⟩ = some (.int .u64 (L[i] : Int)) := by
  rw [cell_of_block h]; simp [wd, hi]
theorem Arr.lt {w : World} {g : Nat} {T : TypeId} {L : List Nat} (h : Arr w g T L) : g < w.heap.size := (Array.getElem?_eq_some_iff.1 h).1
theorem Arr.set {w : World} {g : Nat} {T : TypeId} {L : List Nat} (h : Arr w g T L) (k x : Nat) : Arr (w.setCell ⟨g, k, none⟩ (.int .u64 (x : Int))) g T (L.set k x) := by
  unfold Arr
  rw [store_block h k]
  simp [wd, List.map_set]
theorem Arr.ext {w w' : World} {g : Nat} {T : TypeId} {L : List Nat} (h : Arr w g T L) (k : Ext w w') : Arr w' g T L := by
  have := h.lt; unfold Arr; rw [k.block g this]; exact h
theorem Arr.upd {w w' : World} {g b : Nat} {T : TypeId} {L : List Nat} (h : Arr w g T L) (k : Upd b w w') (hn : g ≠ b) : Arr w' g T L := by
  have := h.lt; unfold Arr; rw [k.2.2.2.2 g this hn]; exact h
theorem Arr.drew {w : World} {g : Nat} {T : TypeId} {L : List Nat} (h : Arr w g T L) : Arr w.drew g T L := h
theorem Arr.drewN {w : World} {g : Nat} {T : TypeId} {L : List Nat} (h : Arr w g T L) (n : Nat) : Arr (w.drewN n) g T L := h
open Go Go.RowKit
open Go Go.RowKit
theorem w64_set {l : List Nat} (h : W64 l) (k x : Nat) (hx : x < 18446744073709551616) : W64 (l.set k x) := by
  intro y hy
  rcases List.mem_or_eq_of_mem_set hy with h2 | h2
  · exact h y h2
  · omega
/-- The words of a slice are read. -/
def Reads (w : World) (g o : Nat) (q : List Nat) : Prop := g < w.heap.size ∧ ∀ i (h : i < q.length), w.cell? ⟨g, o + i, none⟩ = some (.int .u64 (q[i] : Int))
theorem Reads.upd {w w' : World} {g b o : Nat} {q : List Nat} (h : Reads w g o q) (k : Upd b w w') (hn : g ≠ b) : Reads w' g o q :=
  ⟨Nat.lt_of_lt_of_le h.1 k.2.2.2.1, fun i hi => (World.cell?_of_block (w := w) (w' := w') (a := ⟨g, o + i, none⟩) (k.2.2.2.2 g h.1 hn)).trans (h.2 i hi)⟩
theorem Reads.ext {w w' : World} {g o : Nat} {q : List Nat} (h : Reads w g o q) (k : Ext w w') : Reads w' g o q :=
  ⟨Nat.lt_of_lt_of_le h.1 k.size, fun i hi => (k.cell (p := ⟨g, o + i, none⟩) h.1).trans (h.2 i hi)⟩
theorem Upd.drewN {g : Nat} {w w' : World} (h : Upd g w w') (n : Nat) : Upd g w (w'.drewN n) := h.trans (Ext.upd (ext_drewN _ _) g)
theorem Upd.drew {g : Nat} {w w' : World} (h : Upd g w w') : Upd g w w'.drew := h.trans (Ext.upd (ext_drew _) g)
theorem Upd.set {g : Nat} {w w' : World} (h : Upd g w w') (k : Nat) (u : Value) : Upd g w (w'.setCell ⟨g, k, none⟩ u) := h.trans (upd_set _ _ _ _)
end
section
open Go Go.RowKit
def U64 (a : Int) : Prop := 0 ≤ a ∧ a ≤ 18446744073709551615
theorem wrap_u64' (n : Int) : IntKind.u64.wrap n = n % 18446744073709551616 := by simp [IntKind.wrap, IntKind.bits, IntKind.signed]
theorem prod_le {a b : Nat} (ha : a < 18446744073709551616) (hb : b < 18446744073709551616) : a * b ≤ 340282366920938463426481119284349108225 := by
  have h1 : a * b ≤ 18446744073709551615 * b := Nat.mul_le_mul_right _ (by omega)
  omega
end
section
open Go Go.RowKit
def I64 (a : Int) : Prop := -9223372036854775808 ≤ a ∧ a ≤ 9223372036854775807
/-- A number from 0 to n - 1, or 0 if n is less than 1. -/
def InN (n v : Int) : Prop := 0 ≤ v ∧ (1 ≤ n → v < n) ∧ (n < 1 → v = 0)
def IntIn (P : Int → Prop) (k : IntKind) (w : World) (e : Ending) (w' : World) : Prop := ∃ v : Int, e = .returned (.int k v) ∧ P v ∧ w = w'
def modN (a n : Int) : Int := if n < 1 then 0 else if a.tmod n < 0 then a.tmod n + n else a.tmod n
theorem modN_in (a n : Int) : InN n (modN a n) := by
  unfold InN modN
  have ht := tq a n
  split
  · omega
  · have h2 := (ht (by omega)).2.1
    split <;> omega
theorem t_mod (a n : Int) (w : World) (ha : I64 a) (hn : I64 n) :
    Calls Try.prog 23 #[.int .i64 a, .int .i64 n] w fun e w' => e = .returned (.int .i64 (modN a n)) ∧ w' = w := by
  obtain ⟨a1, a2⟩ := ha
  obtain ⟨n1, n2⟩ := hn
  by_cases h : n < 1
  · go_enter Try.func23, Try.ntmps23
    go_wp2
    go_ret
    exact ⟨rb1 (by simp only [modN]; omega), rfl⟩
  · have t1 : (a.tmod n).natAbs < n.natAbs := (tq a n (by omega)).2.1
    go_enter Try.func23, Try.ntmps23
    go_wp2
    all_goals go_ret
    all_goals exact ⟨rb1 (by simp only [modN]; grind), rfl⟩
/-- The tape lies in block b: its numbers are those of memory below B. -/
def TapeOk (B : Nat) (w : World) (b : Nat) : Prop :=
  B ≤ b ∧ b < w.heap.size ∧ ∃ (a : Option Addr) (len cap at_ : Nat), w.cell? ⟨b, 0, none⟩ = some (.slice a len cap) ∧ w.cell? ⟨b, 1, none⟩ = some (.int .i64 at_) ∧ w.frozen? ⟨b, 1, none⟩ = false ∧ at_ ≤ 9223372036854775807 ∧ len ≤ 9223372036854775807 ∧
    (len = 0 ∨ ∃ xb xo : Nat, a = some ⟨xb, xo, none⟩ ∧ xb < B ∧ len ≤ cap ∧ ∀ i, i < len → ∃ v : Int, I64 v ∧ w.cell? ⟨xb, xo + i, none⟩ = some (.int .i64 v))
theorem TapeOk.below {B b : Nat} {w w' : World} (h : TapeOk B w b) (k : Below (b + 1) w w') : TapeOk B w' b := by
  obtain ⟨h1, h2, a, len, cap, at_, c0, c1, f1, h3, h4, hx⟩ := h
  have hs := k.size
  refine ⟨h1, by omega, a, len, cap, at_, (k.cell (p := ⟨b, 0, none⟩) (by simp)).trans c0, (k.cell (p := ⟨b, 1, none⟩) (by simp)).trans c1, (k.frozen (p := ⟨b, 1, none⟩) (by simp)).trans f1, h3, h4, ?_⟩
  rcases hx with hx | ⟨xb, xo, e, hb, hl, hc⟩
  · exact Or.inl hx
  · refine Or.inr ⟨xb, xo, e, hb, hl, fun i hi => ?_⟩
    obtain ⟨v, hv, cv⟩ := hc i hi
    exact ⟨v, hv, (k.cell (p := ⟨xb, xo + i, none⟩) (by simp; omega)).trans cv⟩
theorem below_drewN' (B : Nat) (w : World) (n : Nat) : Below B w (w.drewN n) := ⟨rfl, rfl, rfl, Nat.le_refl _, fun _ _ => rfl⟩
theorem TapeOk.bump {B b : Nat} {w : World} (h : TapeOk B w b) (k : Int) (h0 : 0 ≤ k) (hk : k ≤ 9223372036854775807) :
    TapeOk B (w.setCell ⟨b, 1, none⟩ (.int .i64 k)) b ∧ Below B w (w.setCell ⟨b, 1, none⟩ (.int .i64 k)) := by
  obtain ⟨k, rfl⟩ := Int.eq_ofNat_of_zero_le h0
  obtain ⟨h1, h2, a, len, cap, at_, c0, c1, f1, h3, h4, hx⟩ := h
  have hb : Below B w (w.setCell ⟨b, 1, none⟩ (.int .i64 k)) := (Below.refl B w).setCell (p := ⟨b, 1, none⟩) h1 _
  refine ⟨⟨h1, by simpa [World.setCell] using h2, a, len, cap, k, ?_, World.cell?_setCell_same _ _ _ c1, ?_, by omega, h4, ?_⟩, hb⟩
  · rw [World.cell?_setCell_other _ _ _ _ (by simp)]; exact c0
  · rw [World.frozen?_setCell]; exact f1
  · rcases hx with hx | ⟨xb, xo, e, hb', hl, hc⟩
    · exact Or.inl hx
    · refine Or.inr ⟨xb, xo, e, hb', hl, fun i hi => ?_⟩
      obtain ⟨v, hv, cv⟩ := hc i hi
      exact ⟨v, hv, (hb.cell (p := ⟨xb, xo + i, none⟩) hb').trans cv⟩
def NextPost (B b : Nat) (P : Int → Prop) (k : IntKind) (w : World) (e : Ending) (w' : World) : Prop := ∃ v : Int, e = .returned (.int k v) ∧ P v ∧ TapeOk B w' b ∧ Upd b w w'
theorem t_next (B b : Nat) (n : Int) (w : World) (hn : I64 n) (hT : TapeOk B w b) :
    Calls Try.prog 10 #[.pointer (some ⟨b, 0, none⟩), .int .i64 n] w (NextPost B b (InN n) .i64 w) := by
  have hT' := hT
  obtain ⟨hB, hb, a, len, cap, at_, c0, c1, f1, h1, h2, hx⟩ := hT'
  by_cases hlt : at_ < len
  · obtain ⟨xb, xo, rfl, hxB, hl, hc⟩ : ∃ xb xo : Nat, a = some ⟨xb, xo, none⟩ ∧ xb < B ∧ len ≤ cap ∧ ∀ i, i < len → ∃ v : Int, I64 v ∧ w.cell? ⟨xb, xo + i, none⟩ = some (.int .i64 v) := by
      rcases hx with hx | hx
      · omega
      · exact hx
    obtain ⟨v, hv, cx⟩ := hc at_ hlt
    have hlt' : ((at_ : Int) < (len : Int)) := by omega
    have hne : ¬ (xb = b) := by omega
    clear hc hx
    have hwr : IntKind.i64.wrap ((at_ : Int) + 1) = (at_ : Int) + 1 := by rw [IntKind.wrap_i64]; omega
    go_enter Try.func10, Try.ntmps10
    go_wp2
    go_quiet (fail)
    go_wp2
    have hw1 : IntKind.i64.wrap ((at_ : Int) + 1 - 1) = (at_ : Int) := by rw [IntKind.wrap_i64]; omega
    have hw0 : (0 : Int) ≤ (at_ : Int) := by omega
    go_quiet ((go_at_call 23; exact Calls.quiet_of_same (t_mod _ _ _ hv hn)))
    go_wp2
    go_ret
    exact ⟨_, rfl, modN_in v n, (TapeOk.bump (hT.below (below_drewN' (b + 1) w _)) _ (by omega) (by omega)).1.below (below_drewN' _ _ _), (((Upd.refl b w).drewN _).set 1 _).drewN _⟩
  · have hge : ((len : Int) ≤ (at_ : Int)) := by omega
    clear hx
    go_enter Try.func10, Try.ntmps10
    go_wp2
    go_quiet (fail)
    go_wp2
    go_ret
    exact ⟨0, rfl, by unfold InN; omega, hT.below (below_drewN' _ _ _), (Upd.refl _ _).drewN _⟩
theorem t_word (B b : Nat) (w : World) (hT : TapeOk B w b) :
    Calls Try.prog 35 #[.pointer (some ⟨b, 0, none⟩)] w (NextPost B b U64 .u64 w) := by
  go_enter Try.func35, Try.ntmps35
  go_wp2_with fail
  go_loopw [3, 4] (fun t i wr => ∃ (k : Nat) (v : Int), k ≤ 4 ∧ i = .int .i64 k ∧ t = .int .u64 v ∧ U64 v ∧ TapeOk B wr b ∧ Upd b w wr) (fun _ i _ => 4 - (intOf i).toNat)
  case atStart => exact ⟨0, 0, by omega, rfl, rfl, by unfold U64; omega, hT, Upd.refl _ _⟩
  case round =>
    obtain ⟨k, v, hk, rfl, rfl, hv, hT', hB⟩ := hrel
    by_cases hlt : k < 4
    · go_wp2_with (go_at_call 10; refine (t_next _ _ _ _ ⟨by omega, by omega⟩ hT').mono ?_; rintro e w' ⟨u, rfl, hu, hT2, hB2⟩)
      exact ⟨⟨k + 1, _, by omega, by go_num, rfl, by unfold U64; rw [wrap_u64']; omega, hT2, hB.trans hB2⟩, by simp [intOf]; omega⟩
    · go_wp2
      go_ret
      exact ⟨_, rfl, hv, hT', hB⟩
theorem t_next' (B b : Nat) (n : Int) (W w : World) (hn : I64 n) (hT : TapeOk B w b) (hW : Upd b W w) :
    Calls Try.prog 10 #[.pointer (some ⟨b, 0, none⟩), .int .i64 n] w (NextPost B b (InN n) .i64 W) :=
  (t_next B b n w hn hT).mono fun _ _ ⟨v, e, h, t, k⟩ => ⟨v, e, h, t, hW.trans k⟩
theorem t_word' (B b : Nat) (W w : World) (hT : TapeOk B w b) (hW : Upd b W w) :
    Calls Try.prog 35 #[.pointer (some ⟨b, 0, none⟩)] w (NextPost B b U64 .u64 W) :=
  (t_word B b w hT).mono fun _ _ ⟨v, e, h, t, k⟩ => ⟨v, e, h, t, hW.trans k⟩
/-- The tape is laid over the numbers of a slice that came in. -/
def NewPost (W : World) (e : Ending) (w' : World) : Prop := e = .returned (.pointer (some ⟨W.heap.size, 0, none⟩)) ∧ TapeOk W.heap.size w' W.heap.size ∧ Below W.heap.size W w'
def IsList (w : World) (a : Option Addr) (len cap : Nat) : Prop :=
  len ≤ 9223372036854775807 ∧ (len = 0 ∨ ∃ xb xo : Nat, a = some ⟨xb, xo, none⟩ ∧ xb < w.heap.size ∧ len ≤ cap ∧ ∀ i, i < len → ∃ v : Int, I64 v ∧ w.cell? ⟨xb, xo + i, none⟩ = some (.int .i64 v))
theorem t_new (W : World) (a : Option Addr) (len cap : Nat) (h : IsList W a len cap) :
    Calls Try.prog 7 #[.slice a len cap] W (NewPost W) := by
  go_enter Try.func7, Try.ntmps7
  go_wp2
  go_ret
  obtain ⟨hl, hx⟩ := h
  have hb : ∀ o, Below W.heap.size W (W.alloc o) := fun o => (Below.refl _ _).alloc (Nat.le_refl _) o
  refine ⟨rfl, ⟨Nat.le_refl _, by simp, a, len, cap, 0, by simp, by simp, ?_, by omega, hl, ?_⟩, hb _⟩
  · go_simp
  · rcases hx with hx | ⟨xb, xo, e, h1, h2, hc⟩
    · exact Or.inl hx
    · refine Or.inr ⟨xb, xo, e, h1, h2, fun i hi => ?_⟩
      obtain ⟨v, hv, cv⟩ := hc i hi
      exact ⟨v, hv, ((hb _).cell (p := ⟨xb, xo + i, none⟩) h1).trans cv⟩
end
section
open Go Go.RowKit
section
open Go Go.ChangeShapes Go.WideShapes Go.ChangeAt Go.RowKit
theorem laidOut : laidOutB Try.prog = true := by kernel_rfl
theorem list_of_trod {H : Type} {enc : TypeId × Value → H} {W : World} {a : Option Addr} {len cap : Nat} {d : DataW H} {ps : List MemPlace} (h : DataW.Trod enc Try.prog W 0 (fun _ => true) true 24 (.slice a len cap) d ps) (_ : ∀ x ∈ ps, x.block < W.heap.size) : IsList W a len cap := by
  obtain ⟨fuel, hf⟩ := h
  rcases open_ints Try.underlying24 Try.underlying3 (by kernel_rfl) hf with ⟨hcs, _⟩ | ⟨x, l, c, zs, hcs, _, hl, hm, hz, _, hcell, hwz⟩
  · simp [Value.cells] at hcs
    obtain ⟨rfl, rfl, rfl⟩ := hcs
    exact ⟨by omega, Or.inl rfl⟩
  · simp [Value.cells] at hcs
    obtain ⟨rfl, rfl, rfl⟩ := hcs
    have hz : zs.length = cap := by simpa using hz
    unfold maxLen at hm
    refine ⟨by omega, ?_⟩
    by_cases h0 : len = 0
    · exact Or.inl h0
    · obtain ⟨b, off, rfl, hc'⟩ := ints_at hcell (by omega)
      refine Or.inr ⟨b, off, rfl, block_lt_of_cell (a := ⟨b, off + 0, none⟩) (hc' 0 (by omega)), hl, fun i hi => ⟨zs.getD i 0, ?_, hc' i (by omega)⟩⟩
      have hg : zs.getD i 0 = zs[i] := by simp [List.getD, show i < zs.length by omega]
      rw [hg]
      exact bounds_i64 (hwz _ (List.getElem_mem _))
end
section
open Go Go.ChangeShapes Go.WideShapes Go.ChangeAt Go.RowKit
end
end
section
open Go Go.RowKit
/-- Block g is just the cells cs. -/
def Blk (w : World) (g : Nat) (t : TypeId) (cs : Array Value) : Prop := w.heap[g]? = some (.cells cs t (0, 0))
section
variable {w w' : World} {g : Nat} {t : TypeId} {cs : Array Value}
theorem Blk.lt (h : Blk w g t cs) : g < w.heap.size := (Array.getElem?_eq_some_iff.1 h).1
theorem Blk.cell (h : Blk w g t cs) (i : Nat) : w.cell? ⟨g, i, none⟩ = cs[i]? := cell_of_row w g i cs t (0, 0) h
theorem Blk.frozen (h : Blk w g t cs) (i : Nat) : w.frozen? ⟨g, i, none⟩ = false := by
  unfold Blk at h
  simp [World.frozen?, h]
theorem Blk.new (w : World) (t : TypeId) (cs : Array Value) : Blk (w.alloc (.cells cs t)) w.heap.size t cs := heap_alloc_new w _
theorem Blk.drew (h : Blk w g t cs) : Blk w.drew g t cs := h
theorem Blk.drewN (h : Blk w g t cs) (n : Nat) : Blk (w.drewN n) g t cs := h
theorem Blk.alloc (h : Blk w g t cs) (o : Obj) : Blk (w.alloc o) g t cs := (Below.heap_alloc w o g h.lt).trans h
theorem Blk.set_ (h : Blk w g t cs) (i : Nat) (u : Value) : Blk (w.setCell ⟨g, i, none⟩ u) g t (cs.setIfInBounds i u) := by
  unfold Blk at h ⊢
  simp [World.setCell, Array.getElem?_modify, h]
theorem Blk.ext (h : Blk w g t cs) (e : Ext w w') : Blk w' g t cs := (e.block g h.lt).trans h
end
def IsB (l : List Nat) : Prop := ∀ x ∈ l, x < 256
theorem IsB.nil : IsB [] := by intro x hx; simp at hx
theorem IsB.app {l m : List Nat} (h : IsB l) (k : IsB m) : IsB (l ++ m) := by
  intro x hx; rcases List.mem_append.1 hx with a | a
  · exact h x a
  · exact k x a
theorem IsB.one {x : Nat} (h : x < 256) : IsB [x] := by intro y hy; simp at hy; omega
theorem IsB.take {l : List Nat} (h : IsB l) (k : Nat) : IsB (l.take k) := fun x hx => h x (List.mem_of_mem_take hx)
theorem IsB.drop {l : List Nat} (h : IsB l) (k : Nat) : IsB (l.drop k) := fun x hx => h x (List.mem_of_mem_drop hx)
theorem IsB.get {l : List Nat} (h : IsB l) (k : Nat) : l.getD k 0 < 256 := by
  rw [List.getD_eq_getElem?_getD]
  cases hk : l[k]? with
  | none => simp
  | some x => exact h x (List.mem_of_getElem? hk)
def u8s (l : List Nat) : List Value := l.map fun x : Nat => Value.int .u8 (x : Int)
/-- At A the bytes l lie in memory that is there (whatever A, if there is none). -/
def BytesAt (w : World) (A : Option Addr) (l : List Nat) : Prop :=
  IsB l ∧ l.length ≤ 9223372036854775807 ∧ (0 < l.length → ∃ b off, A = some ⟨b, off, none⟩ ∧ b < w.heap.size ∧ ∀ j, j < l.length → w.cell? ⟨b, off + j, none⟩ = some (.int .u8 ((l.getD j 0 : Nat) : Int)))
theorem BytesAt.nil (w : World) (A : Option Addr) : BytesAt w A [] := ⟨IsB.nil, by simp, fun h => absurd h (by simp)⟩
theorem BytesAt.ext {w w' : World} {A : Option Addr} {l : List Nat} (h : BytesAt w A l) (e : Ext w w') : BytesAt w' A l :=
  ⟨h.1, h.2.1, fun hp => by
    obtain ⟨b, off, hA, hb, hc⟩ := h.2.2 hp
    exact ⟨b, off, hA, Nat.lt_of_lt_of_le hb e.size, fun j hj => (e.cell (p := ⟨b, off + j, none⟩) hb).trans (hc j hj)⟩⟩
/-- Changes elsewhere. -/
theorem BytesAt.keep {w w' : World} {A : Option Addr} {l : List Nat} (h : BytesAt w A l) (hs : w.heap.size ≤ w'.heap.size) (e : ∀ b off, A = some ⟨b, off, none⟩ → b < w.heap.size → w'.heap[b]? = w.heap[b]?) : BytesAt w' A l :=
  ⟨h.1, h.2.1, fun hp => by
    obtain ⟨b, off, hA, hb, hc⟩ := h.2.2 hp
    exact ⟨b, off, hA, Nat.lt_of_lt_of_le hb hs, fun j hj => (World.cell?_of_block (a := ⟨b, off + j, none⟩) (e b off hA hb)).trans (hc j hj)⟩⟩
theorem BytesAt.drop {w : World} {A : Option Addr} {l : List Nat} (h : BytesAt w A l) (k cap : Nat) (hc : l.length ≤ cap) :
    BytesAt w (if cap = k then A else A.map (·.add (k * 1))) (l.drop k) := by
  refine ⟨h.1.drop k, by rw [List.length_drop]; have := h.2.1; omega, fun hp => ?_⟩
  rw [List.length_drop] at hp
  obtain ⟨b, off, rfl, hb, hcl⟩ := h.2.2 (by omega)
  rw [if_neg (by omega)]
  refine ⟨b, off + k, by
    simp only [Option.map_some, Option.some.injEq]
    unfold Addr.add
    split
    · rename_i h0; simp only [Addr.mk.injEq, and_true, true_and]; omega
    · simp, hb, fun j hj => ?_⟩
  rw [List.length_drop] at hj
  rw [Nat.add_assoc, hcl (k + j) (by omega)]
  simp [List.getD_eq_getElem?_getD, List.getElem?_drop]
theorem BytesAt.take {w : World} {A : Option Addr} {l : List Nat} (h : BytesAt w A l) (k : Nat) : BytesAt w A (l.take k) := by
  refine ⟨h.1.take k, by rw [List.length_take]; have := h.2.1; omega, fun hp => ?_⟩
  rw [List.length_take] at hp
  obtain ⟨b, off, rfl, hb, hcl⟩ := h.2.2 (by omega)
  refine ⟨b, off, rfl, hb, fun j hj => ?_⟩
  rw [List.length_take] at hj
  rw [hcl j (by omega)]
  simp [List.getD_eq_getElem?_getD, List.getElem?_take, show j < k by omega]
theorem getD_lt {l : List Nat} {k : Nat} (h : k < l.length) : l.getD k 0 = l[k] := by simp [List.getD_eq_getElem?_getD, h]
/-- The slice v owns the bytes l: it is nil, or begins at the head of a block from B on. -/
def OwnB (B : Nat) (w : World) (v : Value) (l : List Nat) : Prop := w.ownsRow B 5 1 v l.length (u8s l) ∧ IsB l
theorem OwnB.at_ {B : Nat} {w : World} {v : Value} {l : List Nat} (h : OwnB B w v l) : ∃ A cap, v = .slice A l.length cap ∧ l.length ≤ cap ∧ cap ≤ 9223372036854775807 ∧ BytesAt w A l := by
  rcases h.1.2 with ⟨rfl, h0⟩ | ⟨g, cap, cur, rfl, hg, hh, hnc, hcp, hcs, htake⟩
  · obtain rfl : l = [] := List.length_eq_zero_iff.1 h0
    exact ⟨none, 0, rfl, Nat.le_refl _, by omega, BytesAt.nil _ _⟩
  · unfold maxLen at hcp
    refine ⟨_, cap, rfl, hnc, hcp, h.2, by omega, fun _ => ⟨g, 0, rfl, (Array.getElem?_eq_some_iff.1 hh).1, fun j hj => ?_⟩⟩
    have := h.1.cells (g := g) rfl j (Value.int .u8 ((l.getD j 0 : Nat) : Int)) (by rw [getD_lt hj]; simp [u8s, hj])
    have e : (⟨g, 0, none⟩ : Addr).add j = ⟨g, 0 + j, none⟩ := by unfold Addr.add; split <;> simp_all
    rw [e] at this
    exact this
theorem OwnB.kept {B : Nat} {w w' : World} {v : Value} {l : List Nat} (h : OwnB B w v l) {row : Option Nat} (hg : w.grownBy w' row) (hne : v.ownBlock = none ∨ v.ownBlock ≠ row) : OwnB B w' v l := ⟨h.1.kept hg hne, h.2⟩
theorem OwnB.alloc {B : Nat} {w : World} {v : Value} {l : List Nat} (h : OwnB B w v l) (o : Obj) : OwnB B (w.alloc o) v l := ⟨h.1.alloc o, h.2⟩
theorem OwnB.drew {B : Nat} {w : World} {v : Value} {l : List Nat} (h : OwnB B w v l) : OwnB B w.drew v l := h
theorem OwnB.nil_ (B : Nat) (w : World) : OwnB B w (.slice none 0 0) [] := ⟨World.ownsRow_nil _ _ _ _, IsB.nil⟩
theorem OwnB.keep {B : Nat} {w w' : World} {v : Value} {l : List Nat} (h : OwnB B w v l) (hs : w.heap.size ≤ w'.heap.size) (e : ∀ g, v.ownBlock = some g → w'.heap[g]? = w.heap[g]?) : OwnB B w' v l := by
  refine ⟨?_, h.2⟩
  obtain ⟨h1, h2 | ⟨g, cap, cur, hv, hg, hh, r⟩⟩ := h.1
  · exact ⟨h1, Or.inl h2⟩
  · exact ⟨h1, Or.inr ⟨g, cap, cur, hv, hg, by rw [e g (by rw [hv]; rfl)]; exact hh, r⟩⟩
theorem OwnB.ext {B : Nat} {w w' : World} {v : Value} {l : List Nat} (h : OwnB B w v l) (e : Ext w w') : OwnB B w' v l := by
  refine ⟨?_, h.2⟩
  obtain ⟨h1, h2 | ⟨g, cap, cur, hv, hg, hh, r⟩⟩ := h.1
  · exact ⟨h1, Or.inl h2⟩
  · exact ⟨h1, Or.inr ⟨g, cap, cur, hv, hg, by rw [e.block g (Array.getElem?_eq_some_iff.1 hh).1]; exact hh, r⟩⟩
theorem OwnB.less {B B' : Nat} {w : World} {v : Value} {l : List Nat} (h : OwnB B w v l) (hB : B' ≤ B) : OwnB B' w v l := by
  refine ⟨?_, h.2⟩
  obtain ⟨h1, h2 | ⟨g, cap, cur, hv, hg, r⟩⟩ := h.1
  · exact ⟨h1, Or.inl h2⟩
  · exact ⟨h1, Or.inr ⟨g, cap, cur, hv, by omega, r⟩⟩
def OwnRet (l : List Nat) (w : World) (e : Ending) (w' : World) : Prop := ∃ v, e = .returned v ∧ OwnB w.heap.size w' v l ∧ Ext w w'
end
section
open Go Go.RowKit
def IsQ (l : List Nat) : Prop := ∀ x ∈ l, x < 18446744073709551616
end
section
open Go Go.RowKit
theorem add_at (b off j : Nat) : (⟨b, off, none⟩ : Addr).add j = ⟨b, off + j, none⟩ := by unfold Addr.add; split <;> simp_all
theorem BytesAt.below {W w w' : World} {A : Option Addr} {l : List Nat} (h : BytesAt W A l) (e : Below W.heap.size W w) : BytesAt w A l := h.ext e
end
section
open Go Go.RowKit
theorem TapeOk.store {B b g k : Nat} {w : World} (h : TapeOk B w b) (hg : b < g) (u : Value) : TapeOk B (w.setCell ⟨g, k, none⟩ u) b := h.below ((Below.refl _ _).setCell (p := ⟨g, k, none⟩) hg u)
theorem TapeOk.alloc {B b : Nat} {w : World} (h : TapeOk B w b) (o : Obj) : TapeOk B (w.alloc o) b := h.below ((Below.refl _ _).alloc h.2.1 o)
theorem TapeOk.ext {B b : Nat} {w w' : World} (h : TapeOk B w b) (k : Ext w w') : TapeOk B w' b := h.below (Below.mono k h.2.1)
theorem Upd.store {b g k : Nat} {W w : World} (h : Upd b W w) (hg : W.heap.size ≤ g) (u : Value) : Upd b W (w.setCell ⟨g, k, none⟩ u) :=
  ⟨h.1, h.2.1, h.2.2.1, by simpa [World.setCell] using h.2.2.2.1, fun i hi hn => (heap_setCell_other w ⟨g, k, none⟩ i u (by simp; omega)).trans (h.2.2.2.2 i hi hn)⟩
theorem IsList.ext {w w' : World} {a : Option Addr} {len cap : Nat} (h : IsList w a len cap) (k : Ext w w') : IsList w' a len cap := by
  obtain ⟨h1, h2⟩ := h
  refine ⟨h1, ?_⟩
  rcases h2 with h2 | ⟨xb, xo, e, hb, hl, hc⟩
  · exact Or.inl h2
  · refine Or.inr ⟨xb, xo, e, Nat.lt_of_lt_of_le hb k.size, hl, fun i hi => ?_⟩
    obtain ⟨v, hv, cv⟩ := hc i hi
    exact ⟨v, hv, (k.cell (p := ⟨xb, xo + i, none⟩) hb).trans cv⟩
end
section
open Go Go.RowKit
theorem p4 : 18446744073709551616 ^ 4 = 115792089237316195423570985008687907853269984665640564039457584007913129639936 := by decide
open Go Go.RowKit
open Go Go.RowKit
end
section
open Go Go.RowKit
/-- What has been added so far of a product by one word. -/
def MulRel (p q : List Nat) (f : Nat) (os : List Nat) (k c : Nat) : Prop := os.length = p.length ∧ os.drop k = p.drop k ∧ c < 18446744073709551616 ∧ val (os.take k) + 18446744073709551616 ^ k * c = val (p.take k) + val (q.take k) * f
theorem MulRel.step {p q os : List Nat} {f k c x y h l l1 c1 s c2 : Nat} (hr : MulRel p q f os k c) (hk : k < p.length) (hq : k < q.length) (hx : p[k] = x) (hy : q[k] = y) (bx : x < 18446744073709551616) (by' : y < 18446744073709551616) (bf : f < 18446744073709551616)
    (hh : y * f / 18446744073709551616 = h) (hl : y * f % 18446744073709551616 = l) (h1 : (l + c) % 18446744073709551616 = l1) (h2 : (l + c) / 18446744073709551616 = c1) (h3 : (x + l1) % 18446744073709551616 = s) (h4 : (x + l1) / 18446744073709551616 = c2) :
    MulRel p q f (os.set k s) (k + 1) (h + c1 + c2) ∧ h + c1 + c2 < 18446744073709551616 ∧ s < 18446744073709551616 ∧ c1 ≤ 1 ∧ c2 ≤ 1 ∧ l < 18446744073709551616 ∧ l1 < 18446744073709551616 ∧ h < 18446744073709551616 := by
  obtain ⟨r1, r2, r3, r4⟩ := hr
  have hp := prod_le by' bf
  have e : x + y * f + c = s + 18446744073709551616 * (h + c1 + c2) := by omega
  have b : h + c1 + c2 < 18446744073709551616 := by omega
  refine ⟨⟨by simpa using r1, by rw [drop_set]; exact (drop_get r2 (by omega) hk).2, b, ?_⟩, b, by omega, by omega, by omega, by omega, by omega, by omega⟩
  rw [val_set_take _ _ _ (by omega), val_take_succ p k hk, val_take_succ q k hq, hx, hy, Nat.pow_succ]
  rw [Nat.add_mul, Nat.mul_assoc (18446744073709551616 ^ k) y f]
  generalize y * f = t at *
  generalize h + c1 + c2 = z at *
  generalize 18446744073709551616 ^ k = K at *
  have e2 : K * (x + t + c) = K * (s + 18446744073709551616 * z) := by rw [e]
  rw [Nat.mul_add, Nat.mul_add, Nat.mul_add, ← Nat.mul_assoc] at e2
  omega
open Go Go.RowKit
open Go Go.RowKit
end
section
open Go Go.RowKit
open Go Go.RowKit
open Go Go.RowKit
open Go Go.RowKit
/-- What has been divided so far. -/
def DivRel (L os : List Nat) (b k c : Nat) : Prop := os.length = L.length ∧ os.take k = L.take k ∧ c < b ∧ val (os.drop k) * b + c = val (L.drop k)
theorem DivRel.step {L os : List Nat} {b j c x q r : Nat} (h : DivRel L os b (j + 1) c) (hj : j < L.length) (hx : L[j] = x) (bx : x < 18446744073709551616) (hb : 0 < b) (hq : (c * 18446744073709551616 + x) / b = q) (hr : (c * 18446744073709551616 + x) % b = r) :
    DivRel L (os.set j q) b j r ∧ q < 18446744073709551616 ∧ r < b ∧ ∀ h : j < os.length, os[j] = x := by
  obtain ⟨h1, h2, h3, h4⟩ := h
  have hjo : j < os.length := by omega
  have e := Nat.div_add_mod (c * 18446744073709551616 + x) b
  rw [hq, hr] at e
  have hr2 : r < b := by rw [← hr]; exact Nat.mod_lt _ hb
  have hq2 : q < 18446744073709551616 := by
    rw [← hq, Nat.div_lt_iff_lt_mul hb]
    have : c * 18446744073709551616 + 18446744073709551616 ≤ b * 18446744073709551616 := by
      have h5 : (c + 1) * 18446744073709551616 ≤ b * 18446744073709551616 := Nat.mul_le_mul_right _ h3
      omega
    have h6 : 18446744073709551616 * b = b * 18446744073709551616 := Nat.mul_comm _ _
    omega
  refine ⟨⟨by simpa using h1, ?_, hr2, ?_⟩, hq2, hr2, ?_⟩
  · rw [List.take_set_of_le (Nat.le_refl _)]
    have := congrArg (List.take j) h2
    rw [List.take_take, List.take_take, Nat.min_eq_left (by omega)] at this
    exact this
  · rw [val_drop _ j (by simpa using hjo), val_drop L j hj, List.getElem_set_self, List.drop_set_of_lt (by omega), hx, ← h4, Nat.add_mul, Nat.mul_assoc]
    generalize val (os.drop (j + 1)) * b = z at *
    rw [Nat.mul_comm b q] at e
    omega
  · intro h0
    have := congrArg (fun l => l[j]?) h2
    simp only [List.getElem?_take, Nat.lt_succ_self, if_true] at this
    rw [List.getElem?_eq_getElem h0, List.getElem?_eq_getElem hj, hx] at this
    exact Option.some.inj this
open Go Go.RowKit
def UpRel (L os : List Nat) (s k c : Nat) : Prop := os.length = L.length ∧ os.drop k = L.drop k ∧ c < 2 ^ s ∧ val (os.take k) + 18446744073709551616 ^ k * c = val (L.take k) * 2 ^ s
theorem UpRel.step {L os : List Nat} {s k c x z t : Nat} (h : UpRel L os s k c) (hk : k < L.length) (hx : L[k] = x) (hz : z + 18446744073709551616 * t = x * 2 ^ s + c ∧ z < 18446744073709551616 ∧ t < 2 ^ s) : UpRel L (os.set k z) s (k + 1) t := by
  obtain ⟨h1, h2, h3, h4⟩ := h
  refine ⟨by simpa using h1, by rw [drop_set]; exact (drop_get h2 (by omega) hk).2, hz.2.2, ?_⟩
  rw [val_set_take _ _ _ (by omega), val_take_succ L k hk, hx, Nat.pow_succ, Nat.add_mul, ← h4, Nat.mul_assoc, Nat.mul_assoc]
  have e := congrArg (18446744073709551616 ^ k * ·) hz.1
  simp only [Nat.mul_add] at e
  omega
open Go Go.RowKit
def DownRel (L os : List Nat) (s k m : Nat) : Prop := os.length = L.length ∧ os.take k = L.take k ∧ m < 2 ^ s ∧ val (os.drop k) * 2 ^ s + m = val (L.drop k)
theorem DownRel.step {L os : List Nat} {s j m x z o : Nat} (h : DownRel L os s (j + 1) m) (hj : j < L.length) (hx : L[j] = x) (ho : o < 2 ^ s) (hz : z * 2 ^ s + o = x + 18446744073709551616 * m) : DownRel L (os.set j z) s j o := by
  obtain ⟨h1, h2, h3, h4⟩ := h
  have hjo : j < os.length := by omega
  refine ⟨by simpa using h1, ?_, ho, ?_⟩
  · rw [List.take_set_of_le (Nat.le_refl _)]
    have := congrArg (List.take j) h2
    rw [List.take_take, List.take_take, Nat.min_eq_left (by omega)] at this
    exact this
  · rw [val_drop _ j (by simpa using hjo), val_drop L j hj, List.getElem_set_self, List.drop_set_of_lt (by omega), hx, ← h4, Nat.add_mul, Nat.mul_assoc]
    generalize val (os.drop (j + 1)) * 2 ^ s = y at *
    generalize z * 2 ^ s = t at *
    omega
end
section
open Go Go.RowKit
theorem i64_wrap (x : Int) : I64 (wrap64 x) := by unfold I64; simp only [wrap64]; omega
theorem t_int (B b : Nat) (W w : World) (hT : TapeOk B w b) (hW : Upd b W w) :
    Calls Try.prog 17 #[.pointer (some ⟨b, 0, none⟩)] w (NextPost B b I64 .i64 W) := by
  go_enter Try.func17, Try.ntmps17
  go_wp2_with (first
    | (go_at_call 10; refine (t_next' _ _ _ W _ ⟨by omega, by omega⟩ ‹_› ‹_›).mono ?_; rintro e w' ⟨u, rfl, hu, hT2, hB2⟩)
    | (go_at_call 35; refine (t_word' _ _ W _ ‹_› ‹_›).mono ?_; rintro e w' ⟨u, rfl, hu, hT2, hB2⟩))
  all_goals go_ret
  all_goals exact ⟨_, rfl, i64_wrap _, ‹_›, ‹_›⟩
end
section
open Go Go.RowKit
def BoolPost (B b : Nat) (W : World) (e : Ending) (w' : World) : Prop := ∃ v : Bool, e = .returned (.bool v) ∧ TapeOk B w' b ∧ Upd b W w'
theorem t_bool (B b : Nat) (n : Int) (W w : World) (h1 : 2 ≤ n) (h2 : n ≤ 4) (hT : TapeOk B w b) (hW : Upd b W w) :
    Calls Try.prog 24 #[.pointer (some ⟨b, 0, none⟩), .int .i64 n] w (BoolPost B b W) := by
  have hn0 : ¬ (n = 0) := by omega
  have hm : (1 : Int).tmod n = 1 := by
    rw [Int.tmod_eq_emod_of_nonneg (by omega)]; exact Int.emod_eq_of_lt (by omega) (by omega)
  have hm2 : (1 : Int) % n = 1 := Int.emod_eq_of_lt (by omega) (by omega)
  have hT' := hT.below (below_drewN' (b + 1) w 1)
  go_enter Try.func24, Try.ntmps24
  go_wp2_with fail
  go_region_with (go_at_call 10; refine (t_next' B b n W _ ⟨by omega, by omega⟩ (by first | exact hT | exact (hT.below (below_drewN' (b + 1) w 1))) (by first | exact hW | exact hW.drew)).mono ?_; rintro e w' ⟨u, rfl, hu, hT2, hB2⟩)
  all_goals go_wp2_with fail
  all_goals go_ret
  all_goals exact ⟨_, rfl, hT2, hB2⟩
end
section
open Go Go.RowKit
/-- A store turns the value by the word's difference. -/
theorem val_set (l : List Nat) (j x : Nat) (h : j < l.length) : val (l.set j x) + 18446744073709551616 ^ j * l[j] = val l + 18446744073709551616 ^ j * x := by
  induction l generalizing j with
  | nil => simp at h
  | cons y r ih =>
    cases j with
    | zero => simp [val]; omega
    | succ j =>
      have hj : j < r.length := by simpa using h
      have := ih j hj
      simp only [List.set_cons_succ, val, List.getElem_cons_succ, Nat.pow_succ]
      generalize val (r.set j x) = A at *
      generalize val r = C at *
      generalize r[j] = z at *
      generalize 18446744073709551616 ^ j = P at *
      grind
/-- What has been multiplied so far: the words of p below i by all of q, the word i of p by the words of q below k. -/
def RMul (p q os : List Nat) (i k c : Nat) : Prop := os.length = p.length + q.length + 1 ∧ W64 os ∧ c < 18446744073709551616 ∧ (∀ j, i + q.length ≤ j → os.getD j 0 = 0) ∧
  val os + 18446744073709551616 ^ (i + k) * c = val (p.take i) * val q + 18446744073709551616 ^ i * (p.getD i 0 * val (q.take k))
theorem mul_word {x y o c : Nat} (hx : x < 18446744073709551616) (hy : y < 18446744073709551616) (ho : o < 18446744073709551616) (hc : c < 18446744073709551616) : x * y + o + c < 340282366920938463463374607431768211456 := by
  have h1 : x * y ≤ 18446744073709551615 * 18446744073709551615 := Nat.mul_le_mul (by omega) (by omega)
  omega
theorem RMul.step {p q os : List Nat} {i k c x y o lo hi : Nat} (h : RMul p q os i k c) (hi0 : i < p.length) (hk : k < q.length) (hx : p[i] = x) (hy : q[k] = y) (hik : i + k < os.length) (ho : os[i + k] = o) (bx : x < 18446744073709551616) (by' : y < 18446744073709551616)
    (hs : x * y + o + c = lo + 18446744073709551616 * hi) (bl : lo < 18446744073709551616) : RMul p q (os.set (i + k) lo) i (k + 1) hi := by
  obtain ⟨h1, h2, h3, h4, h5⟩ := h
  have bo : o < 18446744073709551616 := by rw [← ho]; exact w64_get h2 _ hik
  have bb := mul_word bx by' bo h3
  refine ⟨by simpa using h1, w64_set h2 _ _ bl, by omega, fun j hj => ?_, ?_⟩
  · rw [List.getD_eq_getElem?_getD, List.getElem?_set_ne (by omega), ← List.getD_eq_getElem?_getD]; exact h4 j hj
  · have hv := val_set os (i + k) lo hik
    have hg : p.getD i 0 = x := by simp [List.getD, hi0, hx]
    rw [ho] at hv
    rw [hg] at h5 ⊢
    rw [val_take_succ q k hk, hy, ← Nat.add_assoc, Nat.pow_succ]
    have e : 18446744073709551616 ^ (i + k) = 18446744073709551616 ^ i * 18446744073709551616 ^ k := Nat.pow_add _ _ _
    rw [e] at hv h5 ⊢
    generalize 18446744073709551616 ^ i = I at *
    generalize 18446744073709551616 ^ k = K at *
    generalize val (os.set (i + k) lo) = A at *
    generalize val os = C at *
    generalize val (q.take k) = Q at *
    generalize val (p.take i) * val q = R at *
    have e2 : I * K * (x * y + o + c) = I * K * (lo + 18446744073709551616 * hi) := by rw [hs]
    grind
theorem RMul.row {p q os : List Nat} {i c : Nat} (h : RMul p q os i q.length c) (hi0 : i < p.length) : RMul p q (os.set (i + q.length) c) (i + 1) 0 0 := by
  obtain ⟨h1, h2, h3, h4, h5⟩ := h
  have hl : i + q.length < os.length := by omega
  refine ⟨by simpa using h1, w64_set h2 _ _ h3, by omega, fun j hj => ?_, ?_⟩
  · rw [List.getD_eq_getElem?_getD, List.getElem?_set_ne (by omega), ← List.getD_eq_getElem?_getD]; exact h4 j (by omega)
  · have hv := val_set os (i + q.length) c hl
    have ho : os[i + q.length] = 0 := by have := h4 (i + q.length) (by omega); simpa [List.getD, hl] using this
    rw [ho] at hv
    rw [List.take_length] at h5
    rw [val_take_succ p i hi0, List.take_zero]
    have hg : p.getD i 0 = p[i] := by simp [List.getD, hi0]
    rw [hg] at h5
    have hz : val [] = 0 := rfl
    rw [hz]
    generalize 18446744073709551616 ^ (i + q.length) = Z at *
    generalize 18446744073709551616 ^ (i + 1 + 0) = Y at *
    generalize 18446744073709551616 ^ (i + 1) = X at *
    generalize 18446744073709551616 ^ i = W at *
    generalize val (os.set (i + q.length) c) = A at *
    generalize val os = B at *
    generalize val (List.take i p) = C at *
    generalize val q = D at *
    generalize p[i] = E at *
    have e : (C + W * E) * D = C * D + W * (E * D) := by rw [Nat.add_mul, Nat.mul_assoc]
    rw [e]
    omega
theorem RMul.done {p q os : List Nat} (h : RMul p q os p.length 0 0) : val os = val p * val q := by
  obtain ⟨_, _, _, _, h5⟩ := h
  rw [List.take_length] at h5
  simpa [val] using h5
theorem getD_set_ne (l : List Nat) (k j x : Nat) (h : k ≠ j) : (l.set k x).getD j 0 = l.getD j 0 := by
  rw [List.getD_eq_getElem?_getD, List.getElem?_set_ne h, ← List.getD_eq_getElem?_getD]
theorem getD_of_get {l : List Nat} {k x : Nat} (h : k < l.length) (hx : l[k] = x) : l.getD k 0 = x := by simp [List.getD, h, hx]
theorem get_of_getD {l : List Nat} {k x : Nat} (h : k < l.length) (hx : l.getD k 0 = x) : l[k] = x := by simpa [List.getD, h] using hx
theorem getD_set_self (l : List Nat) (k x : Nat) (h : k < l.length) : (l.set k x).getD k 0 = x := by simp [List.getD, h]
/-- What has been shifted so far, by q words and r bits. -/
def RUp (p os : List Nat) (q r i : Nat) : Prop := os.length = p.length + q + 1 ∧ W64 os ∧ os.getD (i + q) 0 < 2 ^ r ∧ (∀ j, i + q < j → os.getD j 0 = 0) ∧ val os = 18446744073709551616 ^ q * (val (p.take i) * 2 ^ r)
theorem RUp.step {p os : List Nat} {q r i x o z t : Nat} (h : RUp p os q r i) (hi : i < p.length) (hx : p[i] = x) (ho : os.getD (i + q) 0 = o) (hs : z + 18446744073709551616 * t = x * 2 ^ r + o) (bz : z < 18446744073709551616) (bt : t < 2 ^ r) (hr : r < 64) :
    RUp p ((os.set (i + q) z).set (i + q + 1) t) q r (i + 1) := by
  obtain ⟨h1, h2, h3, h4, h5⟩ := h
  have hl : i + q < os.length := by omega
  have hl1 : i + q + 1 < (os.set (i + q) z).length := by rw [List.length_set]; omega
  have bt2 : t < 18446744073709551616 := by
    have : 2 ^ r ≤ 2 ^ 63 := Nat.pow_le_pow_right (by omega) (by omega)
    omega
  refine ⟨by simpa using h1, w64_set (w64_set h2 _ _ bz) _ _ bt2, ?_, fun j hj => ?_, ?_⟩
  · rw [show i + 1 + q = i + q + 1 by omega, getD_set_self _ _ _ hl1]; exact bt
  · rw [getD_set_ne _ _ _ _ (by omega), getD_set_ne _ _ _ _ (by omega)]; exact h4 j (by omega)
  · have v1 := val_set os (i + q) z hl
    have v2 := val_set (os.set (i + q) z) (i + q + 1) t hl1
    have e1 := get_of_getD hl ho
    have e2 : (os.set (i + q) z)[i + q + 1] = 0 := get_of_getD hl1 (by rw [getD_set_ne _ _ _ _ (by omega)]; exact h4 _ (by omega))
    rw [e1] at v1
    rw [e2, Nat.pow_succ] at v2
    rw [val_take_succ p i hi, hx]
    rw [Nat.pow_add 18446744073709551616 i q] at v1 v2
    rw [h5] at v1
    generalize val ((os.set (i + q) z).set (i + q + 1) t) = A at *
    generalize val (os.set (i + q) z) = C at *
    generalize 18446744073709551616 ^ i = I at *
    generalize 18446744073709551616 ^ q = Q at *
    generalize val (List.take i p) = V at *
    generalize 2 ^ r = R at *
    clear h1 h2 h3 h4 h5 e1 e2 hl hl1 bt2 bz bt
    have e3 : I * Q * (z + 18446744073709551616 * t) = I * Q * (x * R + o) := by rw [hs]
    grind
theorem RUp.done {p os : List Nat} {q r : Nat} (h : RUp p os q r p.length) : val os = val p * 2 ^ (64 * q + r) := by
  obtain ⟨_, _, _, _, h5⟩ := h
  rw [List.take_length] at h5
  rw [h5, Nat.pow_add, Nat.pow_mul, show (2 : Nat) ^ 64 = 18446744073709551616 from rfl]
  generalize 18446744073709551616 ^ q = Q
  grind
/-- What has been halved so far. -/
def RHalf (p os : List Nat) (i : Nat) : Prop := os.length = p.length ∧ W64 os ∧ os.drop i = p.drop i ∧ 2 * val (os.take i) + p.getD 0 0 % 2 = val (p.take i) + 18446744073709551616 ^ i * (p.getD i 0 % 2)
theorem RHalf.step {p os : List Nat} {i x z : Nat} (h : RHalf p os i) (hi : i < p.length) (hx : p[i] = x) (hz : z = x / 2 + 9223372036854775808 * (p.getD (i + 1) 0 % 2)) (bx : x < 18446744073709551616) : RHalf p (os.set i z) (i + 1) := by
  obtain ⟨h1, h2, h3, h4⟩ := h
  refine ⟨by simpa using h1, w64_set h2 _ _ (by omega), by rw [drop_set]; exact (drop_get h3 (by omega) hi).2, ?_⟩
  rw [val_set_take _ _ _ (by omega), val_take_succ p i hi, hx, Nat.pow_succ]
  rw [getD_of_get hi hx] at h4
  have e := Nat.div_add_mod x 2
  generalize p.getD (i + 1) 0 % 2 = y at *
  generalize p.getD 0 0 % 2 = f at *
  generalize val (os.take i) = A at *
  generalize val (p.take i) = C at *
  generalize 18446744073709551616 ^ i = I at *
  generalize x % 2 = m at *
  generalize x / 2 = d at *
  subst e
  subst hz
  clear h1 h2 h3 bx hi hx
  grind
theorem RHalf.done {p os : List Nat} (h : RHalf p os p.length) : val os = val p / 2 := by
  obtain ⟨h1, _, _, h4⟩ := h
  rw [List.take_length, List.take_of_length_le (by omega)] at h4
  have : p.getD p.length 0 = 0 := by simp [List.getD]
  rw [this] at h4
  generalize 18446744073709551616 ^ p.length = I at *
  cases p with
  | nil => cases os with
    | nil => rfl
    | cons y r => simp at h1
  | cons y r =>
    simp only [val] at *
    simp only [List.getD_cons_zero] at h4
    omega
/-- The slice v does not lie in block g. -/
def Apart (g : Nat) (v : Value) : Prop := ∀ g' n c, v = .slice (some ⟨g', 0, none⟩) n c → g' ≠ g
theorem Words.upd {B g : Nat} {w w' : World} {v : Value} {l : List Nat} (h : Words B w v l) (k : Upd g w w') (ha : Apart g v) : Words B w' v l := by
  refine ⟨?_, h.2⟩
  obtain ⟨h1, h2 | ⟨g', cap, cur, hv, hg, hh, r⟩⟩ := h.1
  · exact ⟨h1, Or.inl h2⟩
  · have hlt := (h.1.lt g' (by rw [hv]; rfl)).2
    exact ⟨h1, Or.inr ⟨g', cap, cur, hv, hg, by rw [k.2.2.2.2 g' hlt (ha _ _ _ hv)]; exact hh, r⟩⟩
/-- What has been divided so far, word by word. -/
def RDiv (p os : List Nat) (y k c : Nat) : Prop := os.length = p.length ∧ W64 os ∧ c < y ∧ val (os.drop k) * y + c = val (p.drop k)
theorem RDiv.step {p os : List Nat} {y j c x q r : Nat} (h : RDiv p os y (j + 1) c) (hj : j < p.length) (hx : p[j] = x) (bx : x < 18446744073709551616) (hq : (c * 18446744073709551616 + x) / y = q) (hr : (c * 18446744073709551616 + x) % y = r) :
    RDiv p (os.set j q) y j r ∧ q < 18446744073709551616 := by
  obtain ⟨h1, h2, h3, h4⟩ := h
  have hq2 : q < 18446744073709551616 := by
    rw [← hq, Nat.div_lt_iff_lt_mul (by omega)]
    have : (c + 1) * 18446744073709551616 ≤ y * 18446744073709551616 := Nat.mul_le_mul_right _ h3
    omega
  refine ⟨⟨by simpa using h1, w64_set h2 _ _ hq2, by rw [← hr]; exact Nat.mod_lt _ (by omega), ?_⟩, hq2⟩
  have hl : j < (os.set j q).length := by rw [List.length_set]; omega
  rw [val_drop _ j hl, List.getElem_set_self, drop_set, val_drop p j hj, hx, ← h4]
  have e := Nat.div_add_mod (c * 18446744073709551616 + x) y
  rw [hq, hr] at e
  generalize val (os.drop (j + 1)) = V at *
  rw [Nat.add_mul, Nat.mul_assoc, Nat.mul_add]
  rw [Nat.mul_comm q y]
  omega
theorem RDiv.done {p os : List Nat} {y c : Nat} (h : RDiv p os y 0 c) : val os = val p / y ∧ c = val p % y := by
  obtain ⟨_, _, h3, h4⟩ := h
  simp only [List.drop_zero] at h4
  rw [← h4]
  have e1 : (val os * y + c) / y = val os := by rw [Nat.mul_comm, Nat.mul_add_div (by omega), Nat.div_eq_of_lt h3, Nat.add_zero]
  have e2 : (val os * y + c) % y = c := by rw [Nat.mul_comm, Nat.mul_add_mod, Nat.mod_eq_of_lt h3]
  exact ⟨e1.symm, e2.symm⟩
end
section
open Go Go.RowKit Go.Sort
/-- A value is returned; what was in memory is as it was. -/
def Ret (v : Value) (w : World) (e : Ending) (w' : World) : Prop := e = .returned v ∧ Ext w w'
def RetSame (v : Value) (w : World) (e : Ending) (w' : World) : Prop := e = .returned v ∧ w = w'
theorem quiet_ret {f : FuncId} {args : Array Value} {W : World} {d : Nat} {os : Array Obj} {v : Value} (h : Calls Try.prog f args (grow (redrawn W d) os) (Ret v (grow (redrawn W d) os))) :
    Calls Try.prog f args (grow (redrawn W d) os) fun e w'' => e = .returned v ∧ ∃ p : Regrown, w'' = grow (redrawn W p.d) p.os := Calls.regrown_of h
theorem ext_regrown (W : World) (d : Nat) (os : Array Obj) : Ext W (grow (redrawn W d) os) := below_regrown W d os
end
section
open Go Go.RowKit
theorem OwnB.upd {B b : Nat} {w w' : World} {v : Value} {l : List Nat} (h : OwnB B w v l) (u : Upd b w w') (hb : b < B) : OwnB B w' v l := by
  refine ⟨?_, h.2⟩
  obtain ⟨h1, h2 | ⟨g, cap, cur, hv, hg, hh, r⟩⟩ := h.1
  · exact ⟨h1, Or.inl h2⟩
  · exact ⟨h1, Or.inr ⟨g, cap, cur, hv, hg, by rw [u.2.2.2.2 g (Array.getElem?_eq_some_iff.1 hh).1 (by omega)]; exact hh, r⟩⟩
theorem BytesAt.upd {b : Nat} {w w' : World} {A : Option Addr} {l : List Nat} (h : BytesAt w A l) (u : Upd b w w') (hb : ∀ g off, A = some ⟨g, off, none⟩ → g ≠ b) : BytesAt w' A l :=
  h.keep u.2.2.2.1 fun g off hA hg => u.2.2.2.2 g hg (hb g off hA)
theorem grown_below {w w' : World} {row : Option Nat} (h : w.grownBy w' row) (B : Nat) (hB : B ≤ w.heap.size) (hr : ∀ k, row = some k → B ≤ k) : Below B w w' := (Below.refl B w).grown h hB hr
theorem upd_grown {W w w' : World} {row : Option Nat} {b : Nat} (u : Upd b W w) (h : w.grownBy w' row) (hr : ∀ k, row = some k → W.heap.size ≤ k) : Upd b W w' :=
  ⟨h.os.trans u.1, h.tape.trans u.2.1, h.output.trans u.2.2.1, Nat.le_trans u.2.2.2.1 h.size, fun k hk hn => (h.block k (Nat.lt_of_lt_of_le hk u.2.2.2.1) (fun e => by have := hr k e.symm; omega)).trans (u.2.2.2.2 k hk hn)⟩
end
section
open Go Go.RowKit
/-- The group j of a number. -/
def gr (v j : Nat) : Nat := v / 128 ^ j % 128
/-- Word i of a number. -/
def w5 (C i : Nat) : Nat := C / 18446744073709551616 ^ i % 18446744073709551616
end
section
open Go Go.RowKit
theorem IsQ.nil : IsQ [] := by intro x hx; simp at hx
theorem IsQ.app {l m : List Nat} (h : IsQ l) (k : IsQ m) : IsQ (l ++ m) := by
  intro x hx; rcases List.mem_append.1 hx with a | a
  · exact h x a
  · exact k x a
theorem IsQ.one {x : Nat} (h : x < 18446744073709551616) : IsQ [x] := by intro y hy; simp at hy; omega
theorem IsQ.take {l : List Nat} (h : IsQ l) (k : Nat) : IsQ (l.take k) := fun x hx => h x (List.mem_of_mem_take hx)
theorem IsQ.drop {l : List Nat} (h : IsQ l) (k : Nat) : IsQ (l.drop k) := fun x hx => h x (List.mem_of_mem_drop hx)
theorem IsQ.get {l : List Nat} (h : IsQ l) (k : Nat) : l.getD k 0 < 18446744073709551616 := by
  rw [List.getD_eq_getElem?_getD]
  cases hk : l[k]? with
  | none => simp
  | some x => exact h x (List.mem_of_getElem? hk)
def q8s (l : List Nat) : List Value := l.map fun x : Nat => Value.int .u64 (x : Int)
/-- At A the words l lie in memory that is there (whatever A, if there is none). -/
def WordsAt (w : World) (A : Option Addr) (l : List Nat) : Prop :=
  IsQ l ∧ l.length ≤ 9223372036854775807 ∧ (0 < l.length → ∃ b off, A = some ⟨b, off, none⟩ ∧ b < w.heap.size ∧ ∀ j, j < l.length → w.cell? ⟨b, off + j, none⟩ = some (.int .u64 ((l.getD j 0 : Nat) : Int)))
theorem WordsAt.nil (w : World) (A : Option Addr) : WordsAt w A [] := ⟨IsQ.nil, by simp, fun h => absurd h (by simp)⟩
theorem WordsAt.ext {w w' : World} {A : Option Addr} {l : List Nat} (h : WordsAt w A l) (e : Ext w w') : WordsAt w' A l :=
  ⟨h.1, h.2.1, fun hp => by
    obtain ⟨b, off, hA, hb, hc⟩ := h.2.2 hp
    exact ⟨b, off, hA, Nat.lt_of_lt_of_le hb e.size, fun j hj => (e.cell (p := ⟨b, off + j, none⟩) hb).trans (hc j hj)⟩⟩
/-- Changes elsewhere. -/
theorem WordsAt.keep {w w' : World} {A : Option Addr} {l : List Nat} (h : WordsAt w A l) (hs : w.heap.size ≤ w'.heap.size) (e : ∀ b off, A = some ⟨b, off, none⟩ → b < w.heap.size → w'.heap[b]? = w.heap[b]?) : WordsAt w' A l :=
  ⟨h.1, h.2.1, fun hp => by
    obtain ⟨b, off, hA, hb, hc⟩ := h.2.2 hp
    exact ⟨b, off, hA, Nat.lt_of_lt_of_le hb hs, fun j hj => (World.cell?_of_block (a := ⟨b, off + j, none⟩) (e b off hA hb)).trans (hc j hj)⟩⟩
theorem WordsAt.drop {w : World} {A : Option Addr} {l : List Nat} (h : WordsAt w A l) (k cap : Nat) (hc : l.length ≤ cap) :
    WordsAt w (if cap = k then A else A.map (·.add (k * 1))) (l.drop k) := by
  refine ⟨h.1.drop k, by rw [List.length_drop]; have := h.2.1; omega, fun hp => ?_⟩
  rw [List.length_drop] at hp
  obtain ⟨b, off, rfl, hb, hcl⟩ := h.2.2 (by omega)
  rw [if_neg (by omega)]
  refine ⟨b, off + k, by
    simp only [Option.map_some, Option.some.injEq]
    unfold Addr.add
    split
    · rename_i h0; simp only [Addr.mk.injEq, and_true, true_and]; omega
    · simp, hb, fun j hj => ?_⟩
  rw [List.length_drop] at hj
  rw [Nat.add_assoc, hcl (k + j) (by omega)]
  simp [List.getD_eq_getElem?_getD, List.getElem?_drop]
theorem WordsAt.take {w : World} {A : Option Addr} {l : List Nat} (h : WordsAt w A l) (k : Nat) : WordsAt w A (l.take k) := by
  refine ⟨h.1.take k, by rw [List.length_take]; have := h.2.1; omega, fun hp => ?_⟩
  rw [List.length_take] at hp
  obtain ⟨b, off, rfl, hb, hcl⟩ := h.2.2 (by omega)
  refine ⟨b, off, rfl, hb, fun j hj => ?_⟩
  rw [List.length_take] at hj
  rw [hcl j (by omega)]
  simp [List.getD_eq_getElem?_getD, List.getElem?_take, show j < k by omega]
/-- The slice v owns the words l: it is nil, or begins at the head of a block from B on. -/
def OwnQ (B : Nat) (w : World) (v : Value) (l : List Nat) : Prop := w.ownsRow B 57 1 v l.length (q8s l) ∧ IsQ l
theorem OwnQ.at_ {B : Nat} {w : World} {v : Value} {l : List Nat} (h : OwnQ B w v l) : ∃ A cap, v = .slice A l.length cap ∧ l.length ≤ cap ∧ cap ≤ 9223372036854775807 ∧ WordsAt w A l := by
  rcases h.1.2 with ⟨rfl, h0⟩ | ⟨g, cap, cur, rfl, hg, hh, hnc, hcp, hcs, htake⟩
  · obtain rfl : l = [] := List.length_eq_zero_iff.1 h0
    exact ⟨none, 0, rfl, Nat.le_refl _, by omega, WordsAt.nil _ _⟩
  · unfold maxLen at hcp
    refine ⟨_, cap, rfl, hnc, hcp, h.2, by omega, fun _ => ⟨g, 0, rfl, (Array.getElem?_eq_some_iff.1 hh).1, fun j hj => ?_⟩⟩
    have := h.1.cells (g := g) rfl j (Value.int .u64 ((l.getD j 0 : Nat) : Int)) (by rw [getD_lt hj]; simp [q8s, hj])
    have e : (⟨g, 0, none⟩ : Addr).add j = ⟨g, 0 + j, none⟩ := by unfold Addr.add; split <;> simp_all
    rw [e] at this
    exact this
theorem OwnQ.kept {B : Nat} {w w' : World} {v : Value} {l : List Nat} (h : OwnQ B w v l) {row : Option Nat} (hg : w.grownBy w' row) (hne : v.ownBlock = none ∨ v.ownBlock ≠ row) : OwnQ B w' v l := ⟨h.1.kept hg hne, h.2⟩
theorem OwnQ.alloc {B : Nat} {w : World} {v : Value} {l : List Nat} (h : OwnQ B w v l) (o : Obj) : OwnQ B (w.alloc o) v l := ⟨h.1.alloc o, h.2⟩
theorem OwnQ.drew {B : Nat} {w : World} {v : Value} {l : List Nat} (h : OwnQ B w v l) : OwnQ B w.drew v l := h
theorem OwnQ.nil_ (B : Nat) (w : World) : OwnQ B w (.slice none 0 0) [] := ⟨World.ownsRow_nil _ _ _ _, IsQ.nil⟩
theorem OwnQ.keep {B : Nat} {w w' : World} {v : Value} {l : List Nat} (h : OwnQ B w v l) (hs : w.heap.size ≤ w'.heap.size) (e : ∀ g, v.ownBlock = some g → w'.heap[g]? = w.heap[g]?) : OwnQ B w' v l := by
  refine ⟨?_, h.2⟩
  obtain ⟨h1, h2 | ⟨g, cap, cur, hv, hg, hh, r⟩⟩ := h.1
  · exact ⟨h1, Or.inl h2⟩
  · exact ⟨h1, Or.inr ⟨g, cap, cur, hv, hg, by rw [e g (by rw [hv]; rfl)]; exact hh, r⟩⟩
theorem OwnQ.ext {B : Nat} {w w' : World} {v : Value} {l : List Nat} (h : OwnQ B w v l) (e : Ext w w') : OwnQ B w' v l := by
  refine ⟨?_, h.2⟩
  obtain ⟨h1, h2 | ⟨g, cap, cur, hv, hg, hh, r⟩⟩ := h.1
  · exact ⟨h1, Or.inl h2⟩
  · exact ⟨h1, Or.inr ⟨g, cap, cur, hv, hg, by rw [e.block g (Array.getElem?_eq_some_iff.1 hh).1]; exact hh, r⟩⟩
theorem OwnQ.less {B B' : Nat} {w : World} {v : Value} {l : List Nat} (h : OwnQ B w v l) (hB : B' ≤ B) : OwnQ B' w v l := by
  refine ⟨?_, h.2⟩
  obtain ⟨h1, h2 | ⟨g, cap, cur, hv, hg, r⟩⟩ := h.1
  · exact ⟨h1, Or.inl h2⟩
  · exact ⟨h1, Or.inr ⟨g, cap, cur, hv, by omega, r⟩⟩
theorem OwnQ.upd {B b : Nat} {w w' : World} {v : Value} {l : List Nat} (h : OwnQ B w v l) (u : Upd b w w') (hb : b < B) : OwnQ B w' v l := by
  refine ⟨?_, h.2⟩
  obtain ⟨h1, h2 | ⟨g, cap, cur, hv, hg, hh, r⟩⟩ := h.1
  · exact ⟨h1, Or.inl h2⟩
  · exact ⟨h1, Or.inr ⟨g, cap, cur, hv, hg, by rw [u.2.2.2.2 g (Array.getElem?_eq_some_iff.1 hh).1 (by omega)]; exact hh, r⟩⟩
theorem WordsAt.upd {b : Nat} {w w' : World} {A : Option Addr} {l : List Nat} (h : WordsAt w A l) (u : Upd b w w') (hb : ∀ g off, A = some ⟨g, off, none⟩ → g ≠ b) : WordsAt w' A l :=
  h.keep u.2.2.2.1 fun g off hA hg => u.2.2.2.2 g hg (hb g off hA)
end
section
open Go Go.RowKit
/-- What an operation does: it only yields a value; it makes a variable; it fills the variable that operation j made; it fills an elder variable (number k of them). -/
inductive Tag | q | al | st (j : Nat) | so (k : Nat)
  deriving DecidableEq
def ptrTo (g : Nat) : Value := .pointer (some ⟨g, 0, none⟩)
/-- The elder blocks are as they were, but those that are filled. -/
def Same (kd : List Tag) (tgt : Nat → Nat) (W w : World) : Prop := w.os = W.os ∧ w.tape = W.tape ∧ w.output = W.output ∧ W.heap.size ≤ w.heap.size ∧ ∀ k, k < W.heap.size → (∀ c, .so c ∈ kd → tgt c ≠ k) → w.heap[k]? = W.heap[k]?
/-- The operation yields v, the world as it was; or it is a call that returns v and makes new memory alone. -/
def qUpon (P : Program) (w : World) (v : Value) : Result Next → Prop
  | .ok (.value u) w' => w' = w ∧ u = v
  | .ok (.enter f args) w' => w' = w ∧ Calls P f args w (fun e w'' => e = .returned v ∧ Below w.heap.size w w'')
  | _ => False
def AllOps (R : Nat → Oper → Prop) : Nat → List Oper → Prop
  | i, o :: l => R i o ∧ AllOps R (i + 1) l
  | _, [] => True
theorem AllOps.get {R : Nat → Oper → Prop} : ∀ {l : List Oper} {k : Nat}, AllOps R k l → ∀ i o, l[i]? = some o → R (k + i) o
  | [], _, _, i, o, h => by simp at h
  | x :: l, k, hA, 0, o, h => by
    obtain rfl : x = o := by simpa using h
    exact hA.1
  | x :: l, k, hA, i + 1, o, h => by
    have := AllOps.get hA.2 i o (by simpa using h)
    rwa [Nat.add_assoc, Nat.add_comm 1 i] at this
section
variable {l : List Oper} {kd : List Tag} {V : List Value}
theorem kept {w w' : World} {k : Nat} {x : Obj} (h : Below w.heap.size w w') (e : w.heap[k]? = some x) : w'.heap[k]? = some x := by
  rw [h.block k (Array.getElem?_eq_some_iff.1 e).1]; exact e
theorem Same.below {tgt : Nat → Nat} {W w w' : World} (h : Same kd tgt W w) (k : Below w.heap.size w w') : Same kd tgt W w' :=
  ⟨k.os.trans h.1, k.tape.trans h.2.1, k.output.trans h.2.2.1, Nat.le_trans h.2.2.2.1 k.size, fun j hj hc => (k.block j (Nat.lt_of_lt_of_le hj h.2.2.2.1)).trans (h.2.2.2.2 j hj hc)⟩
variable {zero full : Nat → Obj} {tgt : Nat → Nat} {a0 : Act} {W : World} {S : List Nat} {G : Nat → Nat} {w : World}
variable {P : Program} {Q : Exit → Act → World → Prop} {C : World → Prop}
def slotV (t : Tag) (v : Value) (g : Nat) : Value := match t with | .q => v | .al => ptrTo g | _ => undef
/-- The frame of the end, operation by operation. -/
def putAll : List Oper → List Tag → List Value → (Nat → Nat) → Nat → Act → Act
  | o :: l, t :: kd, v :: V, G, i, a => putAll l kd V G (i + 1) (a.put o.dst (slotV t v (G i)))
  | _, _, _, _, _, a => a
theorem Same.block {W w : World} (h : Same kd tgt W w) {g : Nat} {x : Obj} (hx : W.heap[g]? = some x) (hc : ∀ c, Tag.so c ∈ kd → tgt c ≠ g) : w.heap[g]? = some x := by
  rw [h.2.2.2.2 g (Array.getElem?_eq_some_iff.1 hx).1 hc]; exact hx
theorem Same.ext {W0 W w : World} (h : Same kd tgt W w) (k : Below W0.heap.size W0 W) (hc : ∀ c, Tag.so c ∈ kd → W0.heap.size ≤ tgt c) : Below W0.heap.size W0 w :=
  ⟨h.1.trans k.os, h.2.1.trans k.tape, h.2.2.1.trans k.output, Nat.le_trans k.size h.2.2.2.1, fun j hj => (h.2.2.2.2 j (Nat.lt_of_lt_of_le hj k.size) (fun c hc' e => by have := hc c hc'; omega)).trans (k.block j hj)⟩
end
end
section
open Go Go.RowKit
theorem shr_cast (u m : Nat) : (u : Int) / 2 ^ m = ((u >>> m : Nat) : Int) := by rw [Nat.shiftRight_eq_div_pow]; simp
attribute [local go_sem] qUpon putAll slotV
/-- The first k numbers of a list, and zeros. -/
def part (L : List Nat) (m k : Nat) : List Nat := L.take k ++ List.replicate (m - k) 0
end
section
def b1 (v : Nat) : BitVec 32 := BitVec.ofNat 32 (v % 2)
end
section
open Go Go.RowKit
/-- What is owned, its length known. -/
def OwnL (l : List Nat) (n : Nat) (w : World) (e : Ending) (w' : World) : Prop := ∃ A cap, e = .returned (.slice A n cap) ∧ l.length = n ∧ n ≤ cap ∧ cap ≤ 9223372036854775807 ∧ OwnB w.heap.size w' (.slice A n cap) l ∧ BytesAt w' A l ∧ Ext w w'
theorem OwnRet.len {l : List Nat} {n : Nat} {w : World} {e : Ending} {w' : World} (hn : l.length = n) (h : OwnRet l w e w') : OwnL l n w e w' := by
  subst hn
  obtain ⟨v, rfl, hO, hE⟩ := h
  obtain ⟨A, cap, rfl, h1, h2, hb⟩ := hO.at_
  exact ⟨A, cap, rfl, rfl, h1, h2, hO, hb, hE⟩
attribute [local go_sem] qUpon putAll slotV
end
section
open Go Go.RowKit
theorem t_modI (a n : Int) (w : World) (ha : I64 a) (hn : I64 n) : Calls Try.prog 23 #[.int .i64 a, .int .i64 n] w (IntIn (InN n) .i64 w) :=
  (t_mod a n w ha hn).mono fun _ _ q => ⟨_, q.1, modN_in _ _, q.2.symm⟩
/-- A list that the tape gave: kept while other memory changes. -/
structure Bs (W : World) (B : Nat) (A : Option Addr) (n cap : Nat) (m : List Nat) (w : World) : Prop where
  e : Ext W w
  t : TapeOk W.heap.size w W.heap.size
  o : OwnQ B w (.slice A n cap) m
  gb : W.heap.size < B
section
variable {W : World} {B : Nat} {A : Option Addr} {n cap : Nat} {m : List Nat} {w w' : World}
theorem Bs.ext (s : Bs W B A n cap m w) (k : Ext w w') : Bs W B A n cap m w' := ⟨s.e.trans k, s.t.ext k, s.o.ext k, s.gb⟩
theorem Bs.upd (s : Bs W B A n cap m w) (u : Upd W.heap.size w w') (t : TapeOk W.heap.size w' W.heap.size) : Bs W B A n cap m w' := ⟨Upd.ext u s.e (Nat.le_refl _), t, s.o.upd u s.gb, s.gb⟩
theorem Bs.of {w1 : World} (h1 : Ext W w1) (hT : TapeOk W.heap.size w1 W.heap.size) {v : Value} (hs : v = .slice A n cap) (o : OwnQ w1.heap.size w v m) (t : TapeOk W.heap.size w W.heap.size) (u : Upd W.heap.size w1 w) : Bs W w1.heap.size A n cap m w := by
  subst hs
  exact ⟨Upd.ext u h1 (Nat.le_refl _), t, o, hT.2.1⟩
end
end
section
open Go Go.RowKit
def IsT (l : List Int) : Prop := ∀ x ∈ l, I64 x
theorem getDT {l : List Int} {k : Nat} (h : k < l.length) : l.getD k 0 = l[k] := by simp [List.getD_eq_getElem?_getD, h]
theorem takeT_succ {l : List Int} {k : Nat} (h : k < l.length) : l.take (k + 1) = l.take k ++ [l.getD k 0] := by
  rw [getDT h, List.take_succ_eq_append_getElem h]
theorem IsT.nil : IsT [] := by intro x hx; simp at hx
theorem IsT.app {l m : List Int} (h : IsT l) (k : IsT m) : IsT (l ++ m) := by
  intro x hx; rcases List.mem_append.1 hx with a | a
  · exact h x a
  · exact k x a
theorem IsT.one {x : Int} (h : I64 x) : IsT [x] := by intro y hy; simp at hy; subst hy; exact h
theorem IsT.take {l : List Int} (h : IsT l) (k : Nat) : IsT (l.take k) := fun x hx => h x (List.mem_of_mem_take hx)
theorem IsT.drop {l : List Int} (h : IsT l) (k : Nat) : IsT (l.drop k) := fun x hx => h x (List.mem_of_mem_drop hx)
theorem IsT.get {l : List Int} (h : IsT l) (k : Nat) : I64 (l.getD k 0) := by
  rw [List.getD_eq_getElem?_getD]
  cases hk : l[k]? with
  | none => exact ⟨by simp, by simp⟩
  | some x => exact h x (List.mem_of_getElem? hk)
def t8s (l : List Int) : List Value := l.map fun x : Int => Value.int .i64 x
theorem t8s_len (l : List Int) : (t8s l).length = l.length := by simp [t8s]
theorem t8s_one (l : List Int) : ∀ u ∈ t8s l, u.oneCell' = true := by
  intro u hu; simp only [t8s, List.mem_map] at hu; obtain ⟨x, _, rfl⟩ := hu; rfl
theorem t8s_app (l m : List Int) : t8s (l ++ m) = t8s l ++ t8s m := by simp [t8s]
/-- At A the words l lie in memory that is there (whatever A, if there is none). -/
def TimesAt (w : World) (A : Option Addr) (l : List Int) : Prop :=
  IsT l ∧ l.length ≤ 9223372036854775807 ∧ (0 < l.length → ∃ b off, A = some ⟨b, off, none⟩ ∧ b < w.heap.size ∧ ∀ j, j < l.length → w.cell? ⟨b, off + j, none⟩ = some (.int .i64 (l.getD j 0)))
theorem TimesAt.nil (w : World) (A : Option Addr) : TimesAt w A [] := ⟨IsT.nil, by simp, fun h => absurd h (by simp)⟩
theorem TimesAt.ext {w w' : World} {A : Option Addr} {l : List Int} (h : TimesAt w A l) (e : Ext w w') : TimesAt w' A l :=
  ⟨h.1, h.2.1, fun hp => by
    obtain ⟨b, off, hA, hb, hc⟩ := h.2.2 hp
    exact ⟨b, off, hA, Nat.lt_of_lt_of_le hb e.size, fun j hj => (e.cell (p := ⟨b, off + j, none⟩) hb).trans (hc j hj)⟩⟩
/-- Changes elsewhere. -/
theorem TimesAt.keep {w w' : World} {A : Option Addr} {l : List Int} (h : TimesAt w A l) (hs : w.heap.size ≤ w'.heap.size) (e : ∀ b off, A = some ⟨b, off, none⟩ → b < w.heap.size → w'.heap[b]? = w.heap[b]?) : TimesAt w' A l :=
  ⟨h.1, h.2.1, fun hp => by
    obtain ⟨b, off, hA, hb, hc⟩ := h.2.2 hp
    exact ⟨b, off, hA, Nat.lt_of_lt_of_le hb hs, fun j hj => (World.cell?_of_block (a := ⟨b, off + j, none⟩) (e b off hA hb)).trans (hc j hj)⟩⟩
theorem TimesAt.drop {w : World} {A : Option Addr} {l : List Int} (h : TimesAt w A l) (k cap : Nat) (hc : l.length ≤ cap) :
    TimesAt w (if cap = k then A else A.map (·.add (k * 1))) (l.drop k) := by
  refine ⟨h.1.drop k, by rw [List.length_drop]; have := h.2.1; omega, fun hp => ?_⟩
  rw [List.length_drop] at hp
  obtain ⟨b, off, rfl, hb, hcl⟩ := h.2.2 (by omega)
  rw [if_neg (by omega)]
  refine ⟨b, off + k, by
    simp only [Option.map_some, Option.some.injEq]
    unfold Addr.add
    split
    · rename_i h0; simp only [Addr.mk.injEq, and_true, true_and]; omega
    · simp, hb, fun j hj => ?_⟩
  rw [List.length_drop] at hj
  rw [Nat.add_assoc, hcl (k + j) (by omega)]
  simp [List.getD_eq_getElem?_getD, List.getElem?_drop]
theorem TimesAt.take {w : World} {A : Option Addr} {l : List Int} (h : TimesAt w A l) (k : Nat) : TimesAt w A (l.take k) := by
  refine ⟨h.1.take k, by rw [List.length_take]; have := h.2.1; omega, fun hp => ?_⟩
  rw [List.length_take] at hp
  obtain ⟨b, off, rfl, hb, hcl⟩ := h.2.2 (by omega)
  refine ⟨b, off, rfl, hb, fun j hj => ?_⟩
  rw [List.length_take] at hj
  rw [hcl j (by omega)]
  simp [List.getD_eq_getElem?_getD, List.getElem?_take, show j < k by omega]
theorem info_t64 : (Try.prog.info? 2).map (fun i => (i.zero, i.size, i.bytes)) = some (some (.int .i64 0), 1, 8) := by kernel_rfl
/-- The slice v owns the words l: it is nil, or begins at the head of a block from B on. -/
def OwnT (B : Nat) (w : World) (v : Value) (l : List Int) : Prop := w.ownsRow B 2 1 v l.length (t8s l) ∧ IsT l
theorem OwnT.at_ {B : Nat} {w : World} {v : Value} {l : List Int} (h : OwnT B w v l) : ∃ A cap, v = .slice A l.length cap ∧ l.length ≤ cap ∧ cap ≤ 9223372036854775807 ∧ TimesAt w A l := by
  rcases h.1.2 with ⟨rfl, h0⟩ | ⟨g, cap, cur, rfl, hg, hh, hnc, hcp, hcs, htake⟩
  · obtain rfl : l = [] := List.length_eq_zero_iff.1 h0
    exact ⟨none, 0, rfl, Nat.le_refl _, by omega, TimesAt.nil _ _⟩
  · unfold maxLen at hcp
    refine ⟨_, cap, rfl, hnc, hcp, h.2, by omega, fun _ => ⟨g, 0, rfl, (Array.getElem?_eq_some_iff.1 hh).1, fun j hj => ?_⟩⟩
    have := h.1.cells (g := g) rfl j (Value.int .i64 (l.getD j 0)) (by rw [getDT hj]; simp [t8s, hj])
    have e : (⟨g, 0, none⟩ : Addr).add j = ⟨g, 0 + j, none⟩ := by unfold Addr.add; split <;> simp_all
    rw [e] at this
    exact this
theorem OwnT.kept {B : Nat} {w w' : World} {v : Value} {l : List Int} (h : OwnT B w v l) {row : Option Nat} (hg : w.grownBy w' row) (hne : v.ownBlock = none ∨ v.ownBlock ≠ row) : OwnT B w' v l := ⟨h.1.kept hg hne, h.2⟩
theorem OwnT.alloc {B : Nat} {w : World} {v : Value} {l : List Int} (h : OwnT B w v l) (o : Obj) : OwnT B (w.alloc o) v l := ⟨h.1.alloc o, h.2⟩
theorem OwnT.drew {B : Nat} {w : World} {v : Value} {l : List Int} (h : OwnT B w v l) : OwnT B w.drew v l := h
theorem OwnT.nil_ (B : Nat) (w : World) : OwnT B w (.slice none 0 0) [] := ⟨World.ownsRow_nil _ _ _ _, IsT.nil⟩
theorem OwnT.keep {B : Nat} {w w' : World} {v : Value} {l : List Int} (h : OwnT B w v l) (hs : w.heap.size ≤ w'.heap.size) (e : ∀ g, v.ownBlock = some g → w'.heap[g]? = w.heap[g]?) : OwnT B w' v l := by
  refine ⟨?_, h.2⟩
  obtain ⟨h1, h2 | ⟨g, cap, cur, hv, hg, hh, r⟩⟩ := h.1
  · exact ⟨h1, Or.inl h2⟩
  · exact ⟨h1, Or.inr ⟨g, cap, cur, hv, hg, by rw [e g (by rw [hv]; rfl)]; exact hh, r⟩⟩
theorem OwnT.ext {B : Nat} {w w' : World} {v : Value} {l : List Int} (h : OwnT B w v l) (e : Ext w w') : OwnT B w' v l := by
  refine ⟨?_, h.2⟩
  obtain ⟨h1, h2 | ⟨g, cap, cur, hv, hg, hh, r⟩⟩ := h.1
  · exact ⟨h1, Or.inl h2⟩
  · exact ⟨h1, Or.inr ⟨g, cap, cur, hv, hg, by rw [e.block g (Array.getElem?_eq_some_iff.1 hh).1]; exact hh, r⟩⟩
theorem OwnT.less {B B' : Nat} {w : World} {v : Value} {l : List Int} (h : OwnT B w v l) (hB : B' ≤ B) : OwnT B' w v l := by
  refine ⟨?_, h.2⟩
  obtain ⟨h1, h2 | ⟨g, cap, cur, hv, hg, r⟩⟩ := h.1
  · exact ⟨h1, Or.inl h2⟩
  · exact ⟨h1, Or.inr ⟨g, cap, cur, hv, by omega, r⟩⟩
theorem own_ofT {w : World} {B : Nat} {g n cap : Nat} {l m : List Int} (hB : B ≤ g) (hh : w.heap[g]? = some (.cells (t8s (l ++ m)).toArray 2 (0, 0))) (hn : l.length = n) (hc : cap = n + m.length) (hm : cap ≤ 9223372036854775807) (hb : IsT l) : OwnT B w (.slice (some ⟨g, 0, none⟩) n cap) l := by
  subst hn hc
  refine ⟨⟨by rw [t8s_len]; omega, Or.inr ⟨g, _, _, rfl, hB, hh, by omega, by unfold maxLen; omega, by simp [t8s], ?_⟩⟩, hb⟩
  rw [t8s_app]; simp [t8s]
theorem madeT (n : Nat) : (madeCells (Value.int .i64 0).cells (n * 1)).toList = t8s (List.replicate n 0) := by
  simp only [t8s, madeCells, Value.cells, Nat.mul_one, List.map_replicate]
  apply List.ext_getElem
  · simp
  · intro i h1 h2
    simp [Nat.mod_one]
def OwnRetT (l : List Int) (w : World) (e : Ending) (w' : World) : Prop := ∃ v, e = .returned v ∧ OwnT w.heap.size w' v l ∧ Ext w w'
theorem run_appendT (B : Nat) (w : World) (ty : TypeId) (v : Value) (l0 l : List Int) (hown : OwnT B w v l0) (A : Option Addr) (m c : Nat) (hb : TimesAt w A l) (hm : l.length = m) (hlen : l0.length + l.length ≤ 17592186044416) (hbase : B ≤ w.heap.size) :
    ∃ v' w', (Builtin.append_ #[23, 23] ty #[v, .slice A m c]).run Try.prog w = .ok v' w' ∧ OwnT B w' v' (l0 ++ l) ∧ w.grownBy w' v.ownBlock ∧ (v'.ownBlock = v.ownBlock ∨ v'.ownBlock = some w.heap.size) := by
  subst hm
  obtain ⟨i0, hi0, hz0, hz1, hz2⟩ := info_parts info_t64
  have h63 : l0.length + l.length ≤ maxLen := by unfold maxLen; omega
  rcases A with _ | ad
  · have h0 : l = [] := by
      rcases Nat.eq_zero_or_pos l.length with h | h
      · exact List.length_eq_zero_iff.1 h
      · obtain ⟨b, off, h', _⟩ := hb.2.2 h
        cases h'
    subst h0
    refine ⟨v, w, ?_, by rw [List.append_nil]; exact hown, World.grownBy.refl w _, .inl rfl⟩
    rcases hown.1.2 with ⟨rfl, _⟩ | ⟨g, cap, cur, rfl, _, _, hnc, _⟩
    · simp [Builtin.append_, run_underlying Try.underlying23, sizeOf, typeInfo, hi0, Builtin.lenOf, Builtin.firstCells]
    · simp [Builtin.append_, run_underlying Try.underlying23, sizeOf, typeInfo, hi0, Builtin.lenOf, Builtin.firstCells, hnc, storeCells]
  · have hcells : ∀ j u, (t8s l)[j]? = some u → w.cell? (ad.add j) = some u := by
      intro j u hu
      have hj : j < l.length := by
        rcases Nat.lt_or_ge j (t8s l).length with h | h
        · rwa [t8s_len] at h
        · rw [List.getElem?_eq_none h] at hu; cases hu
      obtain ⟨b, off, h', _, hc⟩ := hb.2.2 (by omega)
      obtain rfl : ad = ⟨b, off, none⟩ := Option.some.inj h'
      rw [add_at, hc j hj, ← hu, getDT hj]
      simp [t8s, hj]
    obtain ⟨v', w', hrun, h2, h3, _, h5⟩ := run_append_own_at (P := Try.prog) w B 23 ty 2 i0 _ 1 8 Try.underlying23 hi0 hz0 hz1 hz2 rfl (by omega) v l0.length (t8s l0) hown.1 ad l.length c (t8s l) (by rw [t8s_len]; omega) hcells (t8s_one l) h63 (by omega) hbase
    refine ⟨v', w', hrun, ⟨?_, hown.2.app hb.1⟩, h3, h5⟩
    rw [t8s_app, List.length_append]
    exact h2
theorem wl_appendT {ops : Array Oper} {rest : List Oper} {o : Oper} {a : Act} {Q : Exit → Act → World → Prop} {w : World} (hgd : o.guard = none) (s x : Operand)
    (ho : o.op = .call { callee := .builtin .append, args := #[s, x], argTypes := #[23, 23] })
    (B : Nat) (v : Value) (l0 l : List Int) (hs : a.eval s = v) (hown : OwnT B w v l0) (A : Option Addr) (m c : Nat) (hx : a.eval x = .slice A m c) (hb : TimesAt w A l) (hm : l.length = m) (hlen : l0.length + l.length ≤ 17592186044416) (hbase : B ≤ w.heap.size)
    (h : ∀ v' w', OwnT B w' v' (l0 ++ l) → w.grownBy w' v.ownBlock → (v'.ownBlock = v.ownBlock ∨ v'.ownBlock = some w.heap.size) → wpList Try.prog ops Q rest (a.put o.dst v') w') : wpList Try.prog ops Q (o :: rest) a w :=
  wpList_plain hgd fun _ hK => by
    obtain ⟨v', w', hrun, h2, h3, h4⟩ := run_appendT B w o.type v l0 l hown A m c hb hm hlen hbase
    unfold Oper.wp execOp
    simp only [ho, resolve, invoke, builtin, Sem.run_bind, Sem.run_pure, Result.andThen_ok, List.map_toArray, List.map_cons, List.map_nil, hs, hx, hrun]
    exact hK _ _ (h v' w' h2 h3 h4)
/-- The element that append lays down first. -/
theorem one_atT (w : World) (x : Int) (hx : I64 x) (u : Value) (hu : u = .int .i64 x) : TimesAt (w.alloc (.cells #[u] 2)) (some ⟨w.heap.size, 0, none⟩) [x] := by
  subst hu
  refine ⟨IsT.one hx, by simp, fun _ => ⟨w.heap.size, 0, rfl, by simp, fun j hj => ?_⟩⟩
  obtain rfl : j = 0 := by simpa using hj
  rw [World.cell?_alloc_at _ _ _ _ rfl]; rfl
/-- A row that the call owns, and what it grew to: nothing older changed. -/
theorem below_grownT {W w w' : World} {v : Value} {l : List Int} {B : Nat} (h : Below W.heap.size W w) (hB : W.heap.size ≤ B) (hown : OwnT B w v l) (hg : w.grownBy w' v.ownBlock) : Below W.heap.size W w' :=
  h.grown hg h.size (fun k hk => by
    obtain ⟨h1, h2⟩ := hown.1.lt k hk
    omega)
theorem OwnT.upd {B b : Nat} {w w' : World} {v : Value} {l : List Int} (h : OwnT B w v l) (u : Upd b w w') (hb : b < B) : OwnT B w' v l := by
  refine ⟨?_, h.2⟩
  obtain ⟨h1, h2 | ⟨g, cap, cur, hv, hg, hh, r⟩⟩ := h.1
  · exact ⟨h1, Or.inl h2⟩
  · exact ⟨h1, Or.inr ⟨g, cap, cur, hv, hg, by rw [u.2.2.2.2 g (Array.getElem?_eq_some_iff.1 hh).1 (by omega)]; exact hh, r⟩⟩
theorem TimesAt.upd {b : Nat} {w w' : World} {A : Option Addr} {l : List Int} (h : TimesAt w A l) (u : Upd b w w') (hb : ∀ g off, A = some ⟨g, off, none⟩ → g ≠ b) : TimesAt w' A l :=
  h.keep u.2.2.2.1 fun g off hA hg => u.2.2.2.2 g hg (hb g off hA)
theorem run_mkT (n m : Nat) (hnm : n ≤ m) (hm : m ≤ 35184372088832) (w : World) : (Instr.makeSlice 23 (.int .i64 (n : Int)) (.int .i64 (m : Int))).run Try.prog w = .ok (.slice (some ⟨w.heap.size, 0, none⟩) n m) (w.alloc (.cells (t8s (List.replicate m 0)).toArray 2)) := by
  obtain ⟨i0, hi0, hz0, hz1, hz2⟩ := info_parts info_t64
  have := run_make (P := Try.prog) w 23 2 i0 (.int .i64 0) Try.underlying23 hi0 hz0 .i64 .i64 (n : Int) (m : Int) (by omega) (by omega) (by rw [hz2]; omega) (by omega)
  rw [this, hz1, Int.toNat_natCast, Int.toNat_natCast]
  have e : madeCells (Value.int .i64 0).cells (m * 1) = (t8s (List.replicate m 0)).toArray := by
    rw [← madeT m]
  rw [e]
theorem idxT (b off N cap j : Nat) (h : j < N) (w : World) : (Instr.indexAt 23 (.slice (some ⟨b, off, none⟩) N cap) (.int .i64 (j : Int))).run Try.prog w = .ok (.pointer (some ⟨b, off + j, none⟩)) w := by
  have hz := Try.sizeOf2
  have he : Try.prog.elem 23 = 2 := by kernel_rfl
  have hr := run_indexAt_slice (P := Try.prog) (w := w) 23 ⟨b, off, none⟩ N cap .i64 (j : Int) (by kernel_rfl)
  rw [hr, if_pos ⟨by omega, by omega⟩, he, hz]
  simp [Result.andThen, add_at]
theorem own_times {w : World} {A : Option Addr} {c cap B : Nat} {l : List Int} (h : OwnT B w (.slice A c cap) l) : TimesAt w A l := by
  obtain ⟨A', cap', he, _, _, hw⟩ := h.at_
  cases he
  exact hw
def incB (l : List Int) : Bool := decide (∀ i, i < l.length - 1 → l.getD i 0 < l.getD (i + 1) 0)
theorem incB_iff {l : List Int} : incB l = true ↔ ∀ i, i + 1 < l.length → l.getD i 0 < l.getD (i + 1) 0 := by
  unfold incB
  rw [decide_eq_true_iff]
  exact ⟨fun h i hi => h i (by omega), fun h i hi => h i (by omega)⟩
theorem wrap64_64 (x : Int) : -9223372036854775808 ≤ wrap64 x ∧ wrap64 x ≤ 9223372036854775807 := by simp only [wrap64]; omega
theorem getD_appL {l : List Int} (m : List Int) {i : Nat} (h : i < l.length) : (l ++ m).getD i 0 = l.getD i 0 := by
  simp only [List.getD_eq_getElem?_getD, List.getElem?_append_left h]
theorem getD_end (l : List Int) (x : Int) : (l ++ [x]).getD l.length 0 = x := by simp [List.getD_eq_getElem?_getD]
theorem incB_snoc {l : List Int} {i : Nat} (h : incB l = true) (hl : l.length = i + 1) {x : Int} (hx : l.getD i 0 < x) : incB (l ++ [x]) = true := by
  rw [incB_iff] at h ⊢
  intro j hj
  rw [List.length_append, List.length_singleton] at hj
  rw [getD_appL [x] (by omega)]
  by_cases hji : j = i
  · subst hji
    have := getD_end l x
    rw [hl] at this
    rw [this]; exact hx
  · rw [getD_appL [x] (by omega)]
    exact h j (by omega)
theorem rb1T {k : IntKind} {a a' : Int} (h1 : a = a') : Ending.returned (Value.int k a) = .returned (.int k a') := by rw [h1]
theorem dst_mod {a b : Int} (ha : I64 a) (hb : I64 b) (h : b ≤ a) : IntKind.u64.wrap (IntKind.u64.wrap a - IntKind.u64.wrap b) = (((a - b).natAbs : Nat) : Int) := by
  unfold I64 at ha hb
  have w : ∀ n : Int, IntKind.u64.wrap n = n % 18446744073709551616 := fun n => by simp [IntKind.wrap, IntKind.bits, IntKind.signed]
  rw [w, w, w]; omega
theorem p_diff (a b : Int) (w : World) (ha : I64 a) (hb : I64 b) (h : b ≤ a) : Calls Try.prog 51 #[.int .i64 a, .int .i64 b] w (RetSame (.int .u64 ((a - b).natAbs : Nat)) w) := by
  have e := hide (dst_mod ha hb h)
  obtain ⟨a1, a2⟩ := ha
  obtain ⟨b1, b2⟩ := hb
  go_enter Try.func51, Try.ntmps51
  go_wp2
  all_goals (first | go_ret | (exfalso; simp_all; done))
  all_goals exact ⟨rb1T e.out, rfl⟩
theorem p_dist (a b : Int) (w : World) (ha : I64 a) (hb : I64 b) : Calls Try.prog 49 #[.int .i64 a, .int .i64 b] w (RetSame (.int .u64 ((a - b).natAbs : Nat)) w) := by
  by_cases h : a < b
  · have K := hide (fun w => p_diff b a w hb ha (by omega))
    have hd : decide (a < b) = true := decide_eq_true h
    rw [show (b - a).natAbs = (a - b).natAbs by omega] at K
    clear ha hb
    go_enter Try.func49, Try.ntmps49
    go_wp2_with (go_at_call 51; (with_reducible refine (K.out _).mono ?_); rintro e w3 ⟨rfl, rfl⟩)
    go_ret
    exact ⟨rfl, rfl⟩
  · have K := hide (fun w => p_diff a b w ha hb (by omega))
    have hd : decide (a < b) = false := decide_eq_false h
    clear ha hb
    go_enter Try.func49, Try.ntmps49
    go_wp2_with (go_at_call 51; (with_reducible refine (K.out _).mono ?_); rintro e w3 ⟨rfl, rfl⟩)
    go_ret
    exact ⟨rfl, rfl⟩
theorem r_dist (a b : Int) (w : World) (ha : I64 a) (hb : I64 b) : Calls Try.prog 50 #[.int .i64 a, .int .i64 b] w (RetSame (.int .u64 ((a - b).natAbs : Nat)) w) := by
  by_cases h : a < b
  · have e := hide (dst_mod hb ha (by omega))
    rw [show (b - a).natAbs = (a - b).natAbs by omega] at e
    obtain ⟨a1, a2⟩ := ha
    obtain ⟨b1, b2⟩ := hb
    have hd : decide (a < b) = true := decide_eq_true h
    go_enter Try.func50, Try.ntmps50
    go_wp2_with fail
    go_ret
    exact ⟨rb1T e.out, rfl⟩
  · have e := hide (dst_mod ha hb (by omega))
    obtain ⟨a1, a2⟩ := ha
    obtain ⟨b1, b2⟩ := hb
    have hd : decide (a < b) = false := decide_eq_false h
    go_enter Try.func50, Try.ntmps50
    go_wp2_with fail
    go_ret
    exact ⟨rb1T e.out, rfl⟩
set_option maxHeartbeats 800000 in
set_option maxRecDepth 100000 in
theorem p_inc (A : Option Addr) (n c : Nat) (l : List Int) (W : World) (hl : TimesAt W A l) (hn : l.length = n) (v : Bool) (hv : incB l = v) :
    Calls Try.prog 39 #[.slice A n c] W (Ret (.bool v) W) := by
  have hlen := hl.2.1
  rw [hn] at hlen
  have HL := hide hl
  have Hn := hide hn
  have Hv := hide hv
  clear hl hn hv
  go_enter Try.func39, Try.ntmps39
  go_wp2_with fail
  go_loopw [3] (fun i wr => ∃ m : Nat, (m = 0 ∨ m < n) ∧ i = .int .i64 ((m : Int) + 1) ∧ Hid (Ext W wr) ∧ Hid (∀ j, j < m → l.getD j 0 < l.getD (j + 1) 0)) (fun i _ => n - (intOf i).toNat)
  case atStart => exact ⟨0, Or.inl rfl, rfl, hide (Ext.refl _), hide (by omega)⟩
  case round =>
    obtain ⟨m, hm, rfl, E, T⟩ := hrel
    by_cases hlt : m + 1 < n
    · have hkl : m + 1 < l.length := by rw [Hn.out]; exact hlt
      obtain ⟨b, off, rfl, hb1, hc1⟩ := (HL.out.ext E.out).2.2 (by omega)
      have d1 := hc1 m (by omega)
      have d2 := hc1 (m + 1) hkl
      have ix1 : ∀ w, (Instr.indexAt 23 (.slice (some ⟨b, off, none⟩) n c) (.int .i64 ((m : Int) + 1))).run Try.prog w = .ok (.pointer (some ⟨b, off + (m + 1), none⟩)) w := fun w => idxT b off n c (m + 1) hlt w
      have ix2 := fun w => idxT b off n c m (by omega) w
      have hs : Hid (l.getD m 0 < l.getD (m + 1) 0 → ∀ j, j < m + 1 → l.getD j 0 < l.getD (j + 1) 0) := hide (fun h j hj => by
        by_cases e : j = m
        · subst e; exact h
        · exact T.out j (by omega))
      have hne : Hid (¬ l.getD m 0 < l.getD (m + 1) 0 → incB l = false) := hide (fun h => by
        rw [Bool.eq_false_iff, ne_eq, incB_iff]
        exact fun q => h (q m hkl))
      obtain ⟨x, hx⟩ : ∃ x, l.getD m 0 = x := ⟨_, rfl⟩
      obtain ⟨y, hy⟩ : ∃ y, l.getD (m + 1) 0 = y := ⟨_, rfl⟩
      rw [hx] at d1 hs hne
      rw [hy] at d2 hs hne
      have d3 : decide ((m : Int) + 1 < (n : Int)) = true := decide_eq_true (by omega)
      clear hc1 hx hy hkl hb1
      by_cases hxy : x < y
      · have q : decide (y ≤ x) = false := decide_eq_false (by omega)
        have Hxy := hide hxy
        clear hxy
        go_wp2_with fail
        go_quiet (fail)
        go_wp2_with fail
        go_roundw
        case rel => exact ⟨m + 1, Or.inr hlt, by go_num, hide (E.out.trans (ext_drewN _ _)), hide (hs.out Hxy.out)⟩
        case measure => simp [intOf]; omega
      · have q : decide (y ≤ x) = true := decide_eq_true (by omega)
        have Hr := hide (hne.out hxy)
        go_wp2_with fail
        go_quiet (fail)
        go_wp2_with fail
        go_ret
        refine ⟨?_, E.out.trans (ext_drewN _ _)⟩
        rw [← Hv.out, Hr.out]
        rfl
    · have d3 : decide ((m : Int) + 1 < (n : Int)) = false := decide_eq_false (by omega)
      go_wp2_with fail
      go_ret
      refine ⟨?_, E.out⟩
      have e : incB l = true := incB_iff.2 fun j hj => T.out j (by have := Hn.out; omega)
      rw [← Hv.out, e]
      rfl
set_option maxHeartbeats 800000 in
set_option maxRecDepth 100000 in
theorem r_inc (A : Option Addr) (n c : Nat) (l : List Int) (W : World) (hl : TimesAt W A l) (hn : l.length = n) (v : Bool) (hv : incB l = v) :
    Calls Try.prog 40 #[.slice A n c] W (Ret (.bool v) W) := by
  have hlen := hl.2.1
  rw [hn] at hlen
  have HL := hide hl
  have Hn := hide hn
  have Hv := hide hv
  clear hl hn hv
  go_enter Try.func40, Try.ntmps40
  go_wp2_with fail
  go_loopw [3] (fun i wr => ∃ m : Nat, (m = 0 ∨ m < n) ∧ i = .int .i64 ((m : Int) + 1) ∧ Hid (Ext W wr) ∧ Hid (∀ j, j < m → l.getD j 0 < l.getD (j + 1) 0)) (fun i _ => n - (intOf i).toNat)
  case atStart => exact ⟨0, Or.inl rfl, rfl, hide (Ext.refl _), hide (by omega)⟩
  case round =>
    obtain ⟨m, hm, rfl, E, T⟩ := hrel
    by_cases hlt : m + 1 < n
    · have hkl : m + 1 < l.length := by rw [Hn.out]; exact hlt
      obtain ⟨b, off, rfl, hb1, hc1⟩ := (HL.out.ext E.out).2.2 (by omega)
      have d1 := hc1 m (by omega)
      have d2 := hc1 (m + 1) hkl
      have ix1 : ∀ w, (Instr.indexAt 23 (.slice (some ⟨b, off, none⟩) n c) (.int .i64 ((m : Int) + 1))).run Try.prog w = .ok (.pointer (some ⟨b, off + (m + 1), none⟩)) w := fun w => idxT b off n c (m + 1) hlt w
      have ix2 := fun w => idxT b off n c m (by omega) w
      have hs : Hid (l.getD m 0 < l.getD (m + 1) 0 → ∀ j, j < m + 1 → l.getD j 0 < l.getD (j + 1) 0) := hide (fun h j hj => by
        by_cases e : j = m
        · subst e; exact h
        · exact T.out j (by omega))
      have hne : Hid (¬ l.getD m 0 < l.getD (m + 1) 0 → incB l = false) := hide (fun h => by
        rw [Bool.eq_false_iff, ne_eq, incB_iff]
        exact fun q => h (q m hkl))
      obtain ⟨x, hx⟩ : ∃ x, l.getD m 0 = x := ⟨_, rfl⟩
      obtain ⟨y, hy⟩ : ∃ y, l.getD (m + 1) 0 = y := ⟨_, rfl⟩
      rw [hx] at d1 hs hne
      rw [hy] at d2 hs hne
      have d3 : decide ((m : Int) + 1 < (n : Int)) = true := decide_eq_true (by omega)
      clear hc1 hx hy hkl hb1
      by_cases hxy : x < y
      · have q : decide (y ≤ x) = false := decide_eq_false (by omega)
        have Hxy := hide hxy
        clear hxy
        go_wp2_with fail
        go_quiet (fail)
        go_wp2_with fail
        go_roundw
        case rel => exact ⟨m + 1, Or.inr hlt, by go_num, hide (E.out.trans (ext_drewN _ _)), hide (hs.out Hxy.out)⟩
        case measure => simp [intOf]; omega
      · have q : decide (y ≤ x) = true := decide_eq_true (by omega)
        have Hr := hide (hne.out hxy)
        go_wp2_with fail
        go_quiet (fail)
        go_wp2_with fail
        go_ret
        refine ⟨?_, E.out.trans (ext_drewN _ _)⟩
        rw [← Hv.out, Hr.out]
        rfl
    · have d3 : decide ((m : Int) + 1 < (n : Int)) = false := decide_eq_false (by omega)
      go_wp2_with fail
      go_ret
      refine ⟨?_, E.out⟩
      have e : incB l = true := incB_iff.2 fun j hj => T.out j (by have := Hn.out; omega)
      rw [← Hv.out, e]
      rfl
end
section
open Go Go.ChangeShapes Go.WideShapes Go.ChangeAt Go.RowKit
theorem cellsI64 : Try.prog.cellsOf 2 = 1 := by kernel_rfl
theorem timesU8 : Try.prog.bytesOf 2 = 8 := by kernel_rfl
theorem i64_range {x : Int} (h : (Lit.int .i64 x).wf = true) : I64 x := by
  have h1 : IntKind.i64.min = -9223372036854775808 := rfl
  have h2 : IntKind.i64.max = 9223372036854775807 := rfl
  simp only [Lit.wf, Bool.and_eq_true, decide_eq_true_eq] at h
  unfold I64
  omega
/-- What an argument of type []byte is, and how long. -/
def InT (W : World) (a : Option Addr) (len cap : Nat) (l : List Int) : Prop := l.length = len ∧ len ≤ cap ∧ cap ≤ 17592186043904 ∧ TimesAt W a l
theorem times_of_trod {H : Type} {enc : TypeId × Value → H} {W : World} {a : Option Addr} {len cap : Nat} {d : DataW H} {ps : List MemPlace} {ts : List TypeId} {ds : List (DataW H)} {j : Nat}
    (h : DataW.Trod enc Try.prog W 0 (fun _ => true) true 23 (.slice a len cap) d ps) (hsz : (DataW.weightsEach Try.prog ts ds).all (· ≤ reachBytes) = true) (ht : ts[j]? = some 23) (hd : ds[j]? = some d) : ∃ l, InT W a len cap l := by
  obtain ⟨fuel, hf⟩ := h
  rcases open_ints Try.underlying23 Try.underlying2 cellsI64 hf with ⟨hcs, _⟩ | ⟨x, n, c, zs, hcs, _, hl, hm, hz, hx, hcell, hwz⟩
  · simp [Value.cells] at hcs
    obtain ⟨rfl, rfl, rfl⟩ := hcs
    exact ⟨[], rfl, Nat.le_refl _, by omega, TimesAt.nil _ _⟩
  · simp [Value.cells] at hcs
    obtain ⟨rfl, rfl, rfl⟩ := hcs
    simp only [Prod.mk.injEq] at hx
    obtain ⟨rfl, _⟩ := hx
    have hw := sized_slice hsz (j := j) (t := 23) (e := 2) ht hd Try.underlying23
    rw [timesU8] at hw
    simp only [lits, List.length_map, List.length_take, List.length_drop, reachBytes] at hw
    have hz : zs.length = cap := by simpa using hz
    have hr : ∀ z ∈ zs, I64 z := fun z hz => i64_range (hwz _ hz)
    refine ⟨zs.take len, by simp; omega, hl, by omega, fun y hy => hr y (List.mem_of_mem_take hy), by simp; omega, fun hp => ?_⟩
    simp only [List.length_take] at hp ⊢
    obtain ⟨b, off, rfl, hc'⟩ := ints_at hcell (by omega)
    refine ⟨b, off, rfl, block_lt_of_cell (a := ⟨b, off + 0, none⟩) (hc' 0 (by omega)), fun i hi => ?_⟩
    have hi2 : i < zs.length := by omega
    rw [hc' i (by omega)]
    congr 2
    simp [List.getD_eq_getElem?_getD, List.getElem?_take, show i < len by omega, hi2]
end
section
open Go Go.RowKit
theorem t_boolN (B b : Nat) (n : Int) (W w : World) (h1 : 2 ≤ n) (h2 : n ≤ 1000) (hT : TapeOk B w b) (hW : Upd b W w) :
    Calls Try.prog 24 #[.pointer (some ⟨b, 0, none⟩), .int .i64 n] w (BoolPost B b W) := by
  have hn0 : ¬ (n = 0) := by omega
  have hm : (1 : Int).tmod n = 1 := by
    rw [Int.tmod_eq_emod_of_nonneg (by omega)]; exact Int.emod_eq_of_lt (by omega) (by omega)
  have hm2 : (1 : Int) % n = 1 := Int.emod_eq_of_lt (by omega) (by omega)
  have hT' := hT.below (below_drewN' (b + 1) w 1)
  go_enter Try.func24, Try.ntmps24
  go_wp2_with fail
  go_region_with (go_at_call 10; refine (t_next' B b n W _ ⟨by omega, by omega⟩ (by first | exact hT | exact (hT.below (below_drewN' (b + 1) w 1))) (by first | exact hW | exact hW.drew)).mono ?_; rintro e w' ⟨u, rfl, hu, hT2, hB2⟩)
  all_goals go_wp2_with fail
  all_goals go_ret
  all_goals exact ⟨_, rfl, hT2, hB2⟩
def IsS (l : List (Int × Int)) : Prop := ∀ p ∈ l, I64 p.1 ∧ I64 p.2
theorem IsS.nil : IsS [] := by intro x hx; simp at hx
theorem IsS.app {l m : List (Int × Int)} (h : IsS l) (k : IsS m) : IsS (l ++ m) := by
  intro x hx; rcases List.mem_append.1 hx with a | a
  · exact h x a
  · exact k x a
theorem IsS.one {x y : Int} (h : I64 x) (k : I64 y) : IsS [(x, y)] := by intro p hp; simp at hp; subst hp; exact ⟨h, k⟩
theorem IsS.take {l : List (Int × Int)} (h : IsS l) (k : Nat) : IsS (l.take k) := fun x hx => h x (List.mem_of_mem_take hx)
theorem IsS.drop {l : List (Int × Int)} (h : IsS l) (k : Nat) : IsS (l.drop k) := fun x hx => h x (List.mem_of_mem_drop hx)
theorem IsS.get {l : List (Int × Int)} (h : IsS l) (k : Nat) : I64 (l.getD k (0, 0)).1 ∧ I64 (l.getD k (0, 0)).2 := by
  rw [List.getD_eq_getElem?_getD]
  cases hk : l[k]? with
  | none => exact ⟨⟨by simp, by simp⟩, ⟨by simp, by simp⟩⟩
  | some x => exact h x (List.mem_of_getElem? hk)
/-- The cells of samples. -/
def s8s : List (Int × Int) → List Value
  | [] => []
  | p :: l => .int .i64 p.1 :: .int .i64 p.2 :: s8s l
theorem s8s_len : ∀ l : List (Int × Int), (s8s l).length = l.length * 2
  | [] => rfl
  | _ :: l => by simp only [s8s, List.length_cons, s8s_len l]; omega
theorem s8s_one : ∀ l : List (Int × Int), ∀ u ∈ s8s l, u.oneCell' = true
  | [], u, h => by simp [s8s] at h
  | p :: l, u, h => by
    simp only [s8s, List.mem_cons] at h
    rcases h with rfl | rfl | h
    · rfl
    · rfl
    · exact s8s_one l u h
theorem s8s_app : ∀ l m : List (Int × Int), s8s (l ++ m) = s8s l ++ s8s m
  | [], _ => rfl
  | p :: l, m => by simp only [List.cons_append, s8s, s8s_app l m]
theorem s8s_get : ∀ (l : List (Int × Int)) (j : Nat), j < l.length → (s8s l)[2 * j]? = some (.int .i64 (l.getD j (0, 0)).1) ∧ (s8s l)[2 * j + 1]? = some (.int .i64 (l.getD j (0, 0)).2)
  | [], j, h => by simp at h
  | p :: l, 0, _ => by simp [s8s]
  | p :: l, j + 1, h => by
    have := s8s_get l j (by simpa using h)
    rw [show 2 * (j + 1) = 2 * j + 1 + 1 by omega]
    simpa [s8s] using this
/-- At A the samples l lie in memory that is there (whatever A, if there is none). -/
def SampsAt (w : World) (A : Option Addr) (l : List (Int × Int)) : Prop :=
  IsS l ∧ l.length ≤ 9223372036854775807 ∧ (0 < l.length → ∃ b off, A = some ⟨b, off, none⟩ ∧ b < w.heap.size ∧ ∀ j, j < l.length → w.cell? ⟨b, off + 2 * j, none⟩ = some (.int .i64 (l.getD j (0, 0)).1) ∧ w.cell? ⟨b, off + (2 * j + 1), none⟩ = some (.int .i64 (l.getD j (0, 0)).2))
theorem SampsAt.nil (w : World) (A : Option Addr) : SampsAt w A [] := ⟨IsS.nil, by simp, fun h => absurd h (by simp)⟩
theorem SampsAt.ext {w w' : World} {A : Option Addr} {l : List (Int × Int)} (h : SampsAt w A l) (e : Ext w w') : SampsAt w' A l :=
  ⟨h.1, h.2.1, fun hp => by
    obtain ⟨b, off, hA, hb, hc⟩ := h.2.2 hp
    exact ⟨b, off, hA, Nat.lt_of_lt_of_le hb e.size, fun j hj => ⟨(e.cell (p := ⟨b, off + 2 * j, none⟩) hb).trans (hc j hj).1, (e.cell (p := ⟨b, off + (2 * j + 1), none⟩) hb).trans (hc j hj).2⟩⟩⟩
/-- Changes elsewhere. -/
theorem SampsAt.keep {w w' : World} {A : Option Addr} {l : List (Int × Int)} (h : SampsAt w A l) (hs : w.heap.size ≤ w'.heap.size) (e : ∀ b off, A = some ⟨b, off, none⟩ → b < w.heap.size → w'.heap[b]? = w.heap[b]?) : SampsAt w' A l :=
  ⟨h.1, h.2.1, fun hp => by
    obtain ⟨b, off, hA, hb, hc⟩ := h.2.2 hp
    exact ⟨b, off, hA, Nat.lt_of_lt_of_le hb hs, fun j hj => ⟨(World.cell?_of_block (a := ⟨b, off + 2 * j, none⟩) (e b off hA hb)).trans (hc j hj).1, (World.cell?_of_block (a := ⟨b, off + (2 * j + 1), none⟩) (e b off hA hb)).trans (hc j hj).2⟩⟩⟩
theorem info_sm : (Try.prog.info? 47).map (fun i => (i.zero, i.size, i.bytes)) = some (some (.agg #[.int .i64 0, .int .i64 0]), 2, 16) := by kernel_rfl
/-- The slice v owns the samples l: it is nil, or begins at the head of a block from B on. -/
def OwnS (B : Nat) (w : World) (v : Value) (l : List (Int × Int)) : Prop := w.ownsRow B 47 2 v l.length (s8s l) ∧ IsS l
theorem OwnS.at_ {B : Nat} {w : World} {v : Value} {l : List (Int × Int)} (h : OwnS B w v l) : ∃ A cap, v = .slice A l.length cap ∧ l.length ≤ cap ∧ cap ≤ 9223372036854775807 ∧ SampsAt w A l := by
  rcases h.1.2 with ⟨rfl, h0⟩ | ⟨g, cap, cur, rfl, hg, hh, hnc, hcp, hcs, htake⟩
  · obtain rfl : l = [] := List.length_eq_zero_iff.1 h0
    exact ⟨none, 0, rfl, Nat.le_refl _, by omega, SampsAt.nil _ _⟩
  · unfold maxLen at hcp
    have e : ∀ j, (⟨g, 0, none⟩ : Addr).add j = ⟨g, 0 + j, none⟩ := fun j => by unfold Addr.add; split <;> simp_all
    refine ⟨_, cap, rfl, hnc, hcp, h.2, by omega, fun _ => ⟨g, 0, rfl, (Array.getElem?_eq_some_iff.1 hh).1, fun j hj => ?_⟩⟩
    have hs := s8s_get l j hj
    have h1 := h.1.cells (g := g) rfl _ _ hs.1
    have h2 := h.1.cells (g := g) rfl _ _ hs.2
    rw [e] at h1 h2
    exact ⟨h1, h2⟩
theorem OwnS.kept {B : Nat} {w w' : World} {v : Value} {l : List (Int × Int)} (h : OwnS B w v l) {row : Option Nat} (hg : w.grownBy w' row) (hne : v.ownBlock = none ∨ v.ownBlock ≠ row) : OwnS B w' v l := ⟨h.1.kept hg hne, h.2⟩
theorem OwnS.alloc {B : Nat} {w : World} {v : Value} {l : List (Int × Int)} (h : OwnS B w v l) (o : Obj) : OwnS B (w.alloc o) v l := ⟨h.1.alloc o, h.2⟩
theorem OwnS.drew {B : Nat} {w : World} {v : Value} {l : List (Int × Int)} (h : OwnS B w v l) : OwnS B w.drew v l := h
theorem OwnS.nil_ (B : Nat) (w : World) : OwnS B w (.slice none 0 0) [] := ⟨World.ownsRow_nil _ _ _ _, IsS.nil⟩
theorem OwnS.ext {B : Nat} {w w' : World} {v : Value} {l : List (Int × Int)} (h : OwnS B w v l) (e : Ext w w') : OwnS B w' v l := by
  refine ⟨?_, h.2⟩
  obtain ⟨h1, h2 | ⟨g, cap, cur, hv, hg, hh, r⟩⟩ := h.1
  · exact ⟨h1, Or.inl h2⟩
  · exact ⟨h1, Or.inr ⟨g, cap, cur, hv, hg, by rw [e.block g (Array.getElem?_eq_some_iff.1 hh).1]; exact hh, r⟩⟩
theorem OwnS.less {B B' : Nat} {w : World} {v : Value} {l : List (Int × Int)} (h : OwnS B w v l) (hB : B' ≤ B) : OwnS B' w v l := by
  refine ⟨?_, h.2⟩
  obtain ⟨h1, h2 | ⟨g, cap, cur, hv, hg, r⟩⟩ := h.1
  · exact ⟨h1, Or.inl h2⟩
  · exact ⟨h1, Or.inr ⟨g, cap, cur, hv, by omega, r⟩⟩
theorem OwnS.upd {B b : Nat} {w w' : World} {v : Value} {l : List (Int × Int)} (h : OwnS B w v l) (u : Upd b w w') (hb : b < B) : OwnS B w' v l := by
  refine ⟨?_, h.2⟩
  obtain ⟨h1, h2 | ⟨g, cap, cur, hv, hg, hh, r⟩⟩ := h.1
  · exact ⟨h1, Or.inl h2⟩
  · exact ⟨h1, Or.inr ⟨g, cap, cur, hv, hg, by rw [u.2.2.2.2 g (Array.getElem?_eq_some_iff.1 hh).1 (by omega)]; exact hh, r⟩⟩
theorem SampsAt.upd {b : Nat} {w w' : World} {A : Option Addr} {l : List (Int × Int)} (h : SampsAt w A l) (u : Upd b w w') (hb : ∀ g off, A = some ⟨g, off, none⟩ → g ≠ b) : SampsAt w' A l :=
  h.keep u.2.2.2.1 fun g off hA hg => u.2.2.2.2 g hg (hb g off hA)
theorem own_samps {w : World} {A : Option Addr} {c cap B : Nat} {l : List (Int × Int)} (h : OwnS B w (.slice A c cap) l) : SampsAt w A l := by
  obtain ⟨A', cap', he, _, _, hw⟩ := h.at_
  cases he
  exact hw
theorem info_parts2 {i : Option TypeInfo} {z : Value} {a b : Nat} (h : i.map (fun i => (i.zero, i.size, i.bytes)) = some (some z, a, b)) : ∃ x, i = some x ∧ x.zero = some z ∧ x.size = a ∧ x.bytes = b := by
  cases i with
  | none => simp at h
  | some x =>
    simp only [Option.map_some, Option.some.injEq, Prod.mk.injEq] at h
    exact ⟨x, rfl, h.1, h.2.1, h.2.2⟩
theorem run_appendS (B : Nat) (w : World) (ty : TypeId) (v : Value) (l0 l : List (Int × Int)) (hown : OwnS B w v l0) (A : Option Addr) (m c : Nat) (hb : SampsAt w A l) (hm : l.length = m) (hlen : l0.length + l.length ≤ 8796093022208) (hbase : B ≤ w.heap.size) :
    ∃ v' w', (Builtin.append_ #[22, 22] ty #[v, .slice A m c]).run Try.prog w = .ok v' w' ∧ OwnS B w' v' (l0 ++ l) ∧ w.grownBy w' v.ownBlock ∧ (v'.ownBlock = v.ownBlock ∨ v'.ownBlock = some w.heap.size) := by
  subst hm
  obtain ⟨i0, hi0, hz0, hz1, hz2⟩ := info_parts2 info_sm
  have h63 : l0.length + l.length ≤ maxLen := by unfold maxLen; omega
  rcases A with _ | ad
  · have h0 : l = [] := by
      rcases Nat.eq_zero_or_pos l.length with h | h
      · exact List.length_eq_zero_iff.1 h
      · obtain ⟨b, off, h', _⟩ := hb.2.2 h
        cases h'
    subst h0
    refine ⟨v, w, ?_, by rw [List.append_nil]; exact hown, World.grownBy.refl w _, .inl rfl⟩
    rcases hown.1.2 with ⟨rfl, _⟩ | ⟨g, cap, cur, rfl, _, _, hnc, _⟩
    · simp [Builtin.append_, run_underlying Try.underlying22, sizeOf, typeInfo, hi0, Builtin.lenOf, Builtin.firstCells]
    · simp [Builtin.append_, run_underlying Try.underlying22, sizeOf, typeInfo, hi0, Builtin.lenOf, Builtin.firstCells, hnc, storeCells]
  · have hcells : ∀ j u, (s8s l)[j]? = some u → w.cell? (ad.add j) = some u := by
      intro j u hu
      have hj : j < l.length * 2 := by
        rcases Nat.lt_or_ge j (s8s l).length with h | h
        · rwa [s8s_len] at h
        · rw [List.getElem?_eq_none h] at hu; cases hu
      obtain ⟨b, off, h', _, hc⟩ := hb.2.2 (by omega)
      obtain rfl : ad = ⟨b, off, none⟩ := Option.some.inj h'
      have hs := s8s_get l (j / 2) (by omega)
      have hcj := hc (j / 2) (by omega)
      rw [add_at]
      rcases Nat.mod_two_eq_zero_or_one j with h | h
      · have e : 2 * (j / 2) = j := by omega
        rw [e] at hs hcj
        rw [hcj.1, ← hu, hs.1]
      · have e : 2 * (j / 2) + 1 = j := by omega
        rw [e] at hs hcj
        rw [hcj.2, ← hu, hs.2]
    obtain ⟨v', w', hrun, h2, h3, _, h5⟩ := run_append_own_at (P := Try.prog) w B 22 ty 47 i0 _ 2 16 Try.underlying22 hi0 hz0 hz1 hz2 rfl (by omega) v l0.length (s8s l0) hown.1 ad l.length c (s8s l) (s8s_len l) hcells (s8s_one l) h63 (by omega) hbase
    refine ⟨v', w', hrun, ⟨?_, hown.2.app hb.1⟩, h3, h5⟩
    rw [s8s_app, List.length_append]
    exact h2
theorem wl_appendS {ops : Array Oper} {rest : List Oper} {o : Oper} {a : Act} {Q : Exit → Act → World → Prop} {w : World} (hgd : o.guard = none) (s x : Operand)
    (ho : o.op = .call { callee := .builtin .append, args := #[s, x], argTypes := #[22, 22] })
    (B : Nat) (v : Value) (l0 l : List (Int × Int)) (hs : a.eval s = v) (hown : OwnS B w v l0) (A : Option Addr) (m c : Nat) (hx : a.eval x = .slice A m c) (hb : SampsAt w A l) (hm : l.length = m) (hlen : l0.length + l.length ≤ 8796093022208) (hbase : B ≤ w.heap.size)
    (h : ∀ v' w', OwnS B w' v' (l0 ++ l) → w.grownBy w' v.ownBlock → (v'.ownBlock = v.ownBlock ∨ v'.ownBlock = some w.heap.size) → wpList Try.prog ops Q rest (a.put o.dst v') w') : wpList Try.prog ops Q (o :: rest) a w :=
  wpList_plain hgd fun _ hK => by
    obtain ⟨v', w', hrun, h2, h3, h4⟩ := run_appendS B w o.type v l0 l hown A m c hb hm hlen hbase
    unfold Oper.wp execOp
    simp only [ho, resolve, invoke, builtin, Sem.run_bind, Sem.run_pure, Result.andThen_ok, List.map_toArray, List.map_cons, List.map_nil, hs, hx, hrun]
    exact hK _ _ (h v' w' h2 h3 h4)
/-- The element that append lays down first. -/
theorem one_atS (w : World) (x y : Int) (hx : I64 x) (hy : I64 y) : SampsAt (w.alloc (.cells #[.int .i64 x, .int .i64 y] 47)) (some ⟨w.heap.size, 0, none⟩) [(x, y)] := by
  refine ⟨IsS.one hx hy, by simp, fun _ => ⟨w.heap.size, 0, rfl, by simp, fun j hj => ?_⟩⟩
  obtain rfl : j = 0 := by simpa using hj
  exact ⟨by rw [World.cell?_alloc_at _ _ _ _ rfl]; rfl, by rw [World.cell?_alloc_at _ _ _ _ rfl]; rfl⟩
theorem below_grownS {W w w' : World} {v : Value} {l : List (Int × Int)} {B : Nat} (h : Below W.heap.size W w) (hB : W.heap.size ≤ B) (hown : OwnS B w v l) (hg : w.grownBy w' v.ownBlock) : Below W.heap.size W w' :=
  h.grown hg h.size (fun k hk => by
    obtain ⟨h1, h2⟩ := hown.1.lt k hk
    omega)
theorem idxS (b off N cap j : Nat) (h : j < N) (w : World) : (Instr.indexAt 22 (.slice (some ⟨b, off, none⟩) N cap) (.int .i64 (j : Int))).run Try.prog w = .ok (.pointer (some ⟨b, off + 2 * j, none⟩)) w := by
  have hz := Try.sizeOf47
  have he : Try.prog.elem 22 = 47 := by kernel_rfl
  have hr := run_indexAt_slice (P := Try.prog) (w := w) 22 ⟨b, off, none⟩ N cap .i64 (j : Int) (by kernel_rfl)
  rw [hr, if_pos ⟨by omega, by omega⟩, he, hz]
  simp [Result.andThen, add_at, Nat.mul_comm]
end
section
open Go Go.ChangeShapes Go.WideShapes Go.ChangeAt Go.RowKit
theorem cellsSamp : Try.prog.cellsOf 47 = 2 := by kernel_rfl
theorem bytesSamp : Try.prog.bytesOf 47 = 16 := by kernel_rfl
/-- What an argument of type []api.Sample is, and how long. -/
def InS (W : World) (a : Option Addr) (len cap : Nat) (l : List (Int × Int)) : Prop := l.length = len ∧ len ≤ cap ∧ cap ≤ 8796093022000 ∧ SampsAt W a l
theorem i64_of_trod {H : Type} {enc : TypeId × Value → H} {W : World} {n : Nat} {v : Value} {x : DataW H × List MemPlace} (h : DataW.trod enc Try.prog W 0 (fun _ => true) true n 2 [v] = some x) : ∃ z : Int, v = .int .i64 z ∧ I64 z := by
  obtain ⟨z, hz, hx, hw⟩ := DataW.trod_int Try.underlying2 h
  simp only [List.cons.injEq, and_true] at hz
  exact ⟨z, hz, i64_range hw⟩
theorem samps_of_trod {H : Type} {enc : TypeId × Value → H} {W : World} {a : Option Addr} {len cap : Nat} {d : DataW H} {ps : List MemPlace} {ts : List TypeId} {ds : List (DataW H)} {j : Nat}
    (h : DataW.Trod enc Try.prog W 0 (fun _ => true) true 22 (.slice a len cap) d ps) (hsz : (DataW.weightsEach Try.prog ts ds).all (· ≤ reachBytes) = true) (ht : ts[j]? = some 22) (hd : ds[j]? = some d) : ∃ l, InS W a len cap l := by
  obtain ⟨fuel, hf⟩ := h
  rcases Go.Deep.open_slice_pairs Try.underlying22 Try.underlying47 cellsSamp rfl rfl cellsI64 cellsI64 hf with ⟨hcs, _⟩ | ⟨x, n, c, m, fu, V0, V1, D0, D1, P0, P1, hcs, _, hl, hm, hmm, hx, hcell⟩
  · simp [Value.cells] at hcs
    obtain ⟨rfl, rfl, rfl⟩ := hcs
    exact ⟨[], rfl, Nat.le_refl _, by omega, SampsAt.nil _ _⟩
  · simp [Value.cells] at hcs
    obtain ⟨rfl, rfl, rfl⟩ := hcs
    simp only [Prod.mk.injEq] at hx
    obtain ⟨rfl, _⟩ := hx
    have hmc : m = cap := by simpa using hmm
    subst hmc
    have hw := sized_slice hsz (j := j) (t := 22) (e := 47) ht hd Try.underlying22
    rw [bytesSamp] at hw
    simp only [List.length_map, List.length_range, reachBytes] at hw
    have each : ∀ i, i < m → ∃ q : Int × Int, W.cell? (x.add (i * 2)) = some (.int .i64 q.1) ∧ W.cell? (x.add (i * 2 + 1)) = some (.int .i64 q.2) ∧ I64 q.1 ∧ I64 q.2 := fun i hi => by
      obtain ⟨h0, h1, h2, h3⟩ := hcell i hi
      obtain ⟨z0, e0, i0⟩ := i64_of_trod h2
      obtain ⟨z1, e1, i1⟩ := i64_of_trod h3
      rw [e0] at h0
      rw [e1] at h1
      exact ⟨(z0, z1), h0, h1, i0, i1⟩
    obtain ⟨q, hq⟩ := Go.Deep.choose_lt each
    have hlen : ((List.range len).map q).length = len := by simp
    have hget : ∀ i, i < len → ((List.range len).map q).getD i (0, 0) = q i := fun i hi => by simp [List.getD_eq_getElem?_getD, hi]
    refine ⟨(List.range len).map q, hlen, hl, by omega, ?_, by rw [hlen]; omega, fun hp => ?_⟩
    · intro y hy
      simp only [List.mem_map, List.mem_range] at hy
      obtain ⟨i, hi, rfl⟩ := hy
      exact (hq i (by omega)).2.2
    · rw [hlen] at hp ⊢
      obtain ⟨b, off, spot⟩ := x
      have c0 := (hq 0 (by omega)).1
      have hspot : spot = none := by simpa [Addr.add] using World.cell?_spot c0
      subst hspot
      refine ⟨b, off, rfl, block_lt_of_cell (a := ⟨b, off + 0 * 2, none⟩) (by rw [← Go.WideShapes.add_plain]; exact c0), fun i hi => ?_⟩
      obtain ⟨h0, h1, _⟩ := hq i (by omega)
      rw [Go.WideShapes.add_plain] at h0 h1
      rw [hget i hi, Nat.mul_comm 2 i]
      exact ⟨h0, h1⟩
end
section
open Go Go.RowKit
/-- A list of times whose elements are written one after the other. -/
def tst (acc : List Int) (m : Nat) : List Int := acc ++ List.replicate m 0
theorem tst_set (acc : List Int) (m : Nat) (x : Int) (k : Nat) (hk : acc.length = k) : (t8s (tst acc (m + 1))).toArray.setIfInBounds k (.int .i64 x) = (t8s (tst (acc ++ [x]) m)).toArray := by
  subst hk
  unfold tst
  rw [List.replicate_succ]
  simp [t8s]
theorem tst_get (acc : List Int) (m k : Nat) (hk : acc.length = k) : (t8s (tst acc (m + 1))).toArray[k]? = some (.int .i64 0) := by
  subst hk
  unfold tst
  rw [List.replicate_succ]
  simp [t8s]
theorem idxTB (g N cap j : Nat) (h : j < N) (w : World) : (Instr.indexAt 23 (.slice (some ⟨g, 0, none⟩) N cap) (.int .i64 (j : Int))).run Try.prog w = .ok (.pointer (some ⟨g, j, none⟩)) w := by
  have := idxT g 0 N cap j h w
  rw [Nat.zero_add] at this
  exact this
end
section
open Go Go.RowKit
/-- Increasing times that the tape gives: owned. -/
def TimesPost (N B b : Nat) (W : World) (e : Ending) (w' : World) : Prop := ∃ A n cap l, e = .returned (.slice A n cap) ∧ l.length = n ∧ n ≤ N ∧ n ≤ cap ∧ cap ≤ 9223372036854775807 ∧ incB l = true ∧ OwnT W.heap.size w' (.slice A n cap) l ∧ TapeOk B w' b ∧ Upd b W w'
theorem shr_le {u q k : Nat} (hu : u < 18446744073709551616) (h : k ≤ q) : u >>> q ≤ 18446744073709551615 / 2 ^ k := by
  rw [Nat.shiftRight_eq_div_pow]
  exact Nat.le_trans (Nat.div_le_div_left (Nat.pow_le_pow_right (by omega) h) (Nat.two_pow_pos k)) (Nat.div_le_div_right (by omega))
theorem incB_init {l : List Int} {x : Int} (h : incB (l ++ [x]) = true) : incB l = true := by
  rw [incB_iff] at h ⊢
  intro i hi
  have := h i (by simp; omega)
  rwa [getD_appL [x] (by omega), getD_appL [x] (by omega)] at this
set_option maxHeartbeats 6400000 in
set_option maxRecDepth 100000 in
theorem t_times (N B b : Nat) (hN : N ≤ 1000) (W : World) (hT : TapeOk B W b) : Calls Try.prog 26 #[.pointer (some ⟨b, 0, none⟩), .int .i64 (N : Int)] W (TimesPost N B b W) := by
  have hbW := hT.2.1
  have i5 : I64 5 := ⟨by omega, by omega⟩
  have i50 : I64 50 := ⟨by omega, by omega⟩
  have i9 : I64 9 := ⟨by omega, by omega⟩
  have i3 : I64 3 := ⟨by omega, by omega⟩
  have i56 : I64 56 := ⟨by omega, by omega⟩
  have i8 : I64 8 := ⟨by omega, by omega⟩
  have iN : I64 ((N : Int) + 1) := ⟨by omega, by omega⟩
  have HT := hide hT
  clear hT
  go_enter Try.func26, Try.ntmps26
  go_upto_region 3 with (go_at_call 10; (with_reducible refine (t_next B b 5 _ i5 HT.out).mono ?_); rintro e w1 ⟨s, rfl, hs, T1, u1⟩; obtain ⟨kd, rfl⟩ := Int.eq_ofNat_of_zero_le hs.1; have hkd : kd < 5 := (by have := hs.2.1 (by omega); omega); have T1 := hide T1; have U1 := hide u1; clear hs u1)
  go_upto_region 4 with (go_at_call 17; (with_reducible refine (t_int B b W _ T1.out U1.out).mono ?_); rintro e w2 ⟨at0, rfl, ha, T2, u2⟩; have T2 := hide T2; have U2 := hide u2; clear u2 T1 U1)
  go_upto_region 5 with (go_at_call 10; (with_reducible refine (t_next B b 50 _ i50 T2.out).mono ?_); rintro e w3 ⟨s, rfl, hs, T3, u3⟩; obtain ⟨s0, rfl⟩ := Int.eq_ofNat_of_zero_le hs.1; have hs0 : s0 < 50 := (by have := hs.2.1 (by omega); omega); obtain ⟨st, hst⟩ : ∃ st, 1 + s0 = st := ⟨_, rfl⟩; have es : IntKind.u64.wrap ((1 : Int) + (s0 : Int)) = (st : Int) := (by rw [wrap_u64']; omega); have T3 := hide T3; have U3 := hide (U2.out.trans u3); clear hs u3 T2 U2)
  have hst1 : 1 ≤ st := by omega
  have hst2 : st ≤ 50 := by omega
  clear hst es
  go_upto_region 6 with (go_at_call 10; (with_reducible refine (t_next B b ((N : Int) + 1) _ iN T3.out).mono ?_); rintro e w4 ⟨s, rfl, hs, T4, u4⟩; obtain ⟨i0, rfl⟩ := Int.eq_ofNat_of_zero_le hs.1; have hi0 : i0 ≤ N := (by have := hs.2.1 (by omega); omega); have T4 := hide T4; have U4 := hide (U3.out.trans u4); clear hs u4 T3 U3)
  have HA0 := hide ha
  clear ha HT
  go_wp2_with fail
  go_loopw [5, 7, 9] (fun lv av iv wr => ∃ (i : Nat) (a : Int) (ll : List Int), iv = .int .i64 (i : Int) ∧ av = .int .i64 a ∧ ll.length + i ≤ N ∧ Hid (I64 a) ∧ Hid (incB (ll ++ [a]) = true) ∧ Hid (OwnT W.heap.size wr lv ll) ∧ Hid (TapeOk B wr b) ∧ Hid (Upd b W wr)) (fun _ _ iv _ => (intOf iv).toNat)
  case atStart => exact ⟨i0, at0, [], rfl, rfl, by simp; omega, HA0, hide (by simp [incB]), hide (OwnT.nil_ _ _), T4, U4⟩
  case round =>
    clear T4 U4 HA0
    obtain ⟨i, a, ll, rfl, rfl, hli, HA, HI, HO, HT, HU⟩ := hrel
    by_cases h0 : 0 < i
    · have d0 : decide ((0 : Int) < (i : Int)) = true := decide_eq_true (by omega)
      have O5 := hide (HO.out.alloc (.cells #[Value.int .i64 a] 2))
      have hone := hide (one_atT wr a HA.out _ rfl)
      have T5 := hide (HT.out.alloc (.cells #[Value.int .i64 a] 2))
      have U5 := hide (HU.out.trans (Ext.upd (ext_alloc wr (.cells #[Value.int .i64 a] 2)) b))
      have hsz : W.heap.size ≤ (wr.alloc (.cells #[Value.int .i64 a] 2)).heap.size := U5.out.2.2.2.1
      have hle5 : ll.length + [a].length ≤ 17592186044416 := (by simp; omega)
      clear HO HT HU
      go_upto_region 9 with (at_builtin; refine wl_appendT rfl (.tmp 27) (.tmp 29) rfl W.heap.size _ ll [a] rfl O5.out _ 1 1 rfl hone.out rfl hle5 hsz ?_; intro v6 w6 hO6 hG6 hA6; have hG := O5.out.1.lt; have O6 := hide hO6; have T6 := hide (T5.out.below (grown_below hG6 (b + 1) (by omega) (fun k hk => by have := (hG k hk).1; omega))); have U6 := hide (upd_grown U5.out hG6 (fun k hk => (hG k hk).1)); clear hO6 hG6 hA6 hG O5 T5 U5 hone hsz)
      have hal := HA.out
      unfold I64 at hal
      obtain ⟨mm, hmm⟩ : ∃ mm : Nat, (9223372036854775807 : Int) - a = (mm : Int) := ⟨(9223372036854775807 - a).toNat, by omega⟩
      have em : IntKind.u64.wrap (9223372036854775807 - IntKind.u64.wrap a) = (mm : Int) := by rw [wrap_u64', wrap_u64']; omega
      have KE : Hid (∀ d : Nat, d ≤ mm → wrap64 (IntKind.u64.wrap (IntKind.u64.wrap a + (d : Int))) = a + (d : Int)) := hide (fun d hd => by rw [wrap_u64', wrap_u64']; simp only [wrap64]; omega)
      have KI : Hid (∀ d : Nat, 1 ≤ d → d ≤ mm → I64 (a + (d : Int)) ∧ incB (ll ++ [a] ++ [a + (d : Int)]) = true) := hide (fun d h1 h2 => ⟨⟨by omega, by omega⟩, incB_snoc (i := ll.length) HI.out (by simp) (by rw [getD_end]; omega)⟩)
      have hl2 : (ll ++ [a]).length = ll.length + 1 := by simp
      clear hal hmm hle5
      obtain rfl | rfl | rfl | rfl | rfl : kd = 0 ∨ kd = 1 ∨ kd = 2 ∨ kd = 3 ∨ kd = 4 := by omega
      · go_upto_region 20 with fail
        by_cases hcm : mm < st
        · have dm : decide ((mm : Int) < (st : Int)) = true := decide_eq_true (by omega)
          have dm2 : decide (mm < st) = true := decide_eq_true hcm
          go_wp2_with fail
          go_ret
          obtain ⟨A, cap, hv, h1, h2, h3⟩ := O6.out.at_
          have hO := O6.out
          subst hv
          exact ⟨A, _, cap, ll ++ [a], rfl, rfl, by omega, h1, h2, HI.out, hO, T6.out, U6.out⟩
        · have dm : decide ((mm : Int) < (st : Int)) = false := decide_eq_false (by omega)
          have dm2 : decide (mm < st) = false := decide_eq_false hcm
          have ea := KE.out (st) (by omega)
          obtain ⟨ki, kj⟩ := KI.out (st) (by omega) (by omega)
          obtain ⟨y, hy⟩ : ∃ y, a + ((st : Nat) : Int) = y := ⟨_, rfl⟩
          rw [hy] at ea ki kj
          have ki := hide ki
          have kj := hide kj
          clear hy
          go_wp2_with fail
          go_roundw
          case rel => exact ⟨i - 1, y, ll ++ [a], by go_num, by go_num, by omega, ki, kj, O6, T6, U6⟩
          case measure => simp [intOf]; omega
      · go_upto_region 20 with (go_at_call 10; (with_reducible refine (t_next B b 9 _ i9 T6.out).mono ?_); rintro e w7 ⟨s, rfl, hs, T7, u7⟩; obtain ⟨x, rfl⟩ := Int.eq_ofNat_of_zero_le hs.1; have hx : x < 9 := (by have := hs.2.1 (by omega); omega); obtain ⟨d, hd⟩ : ∃ d, 1 + x = d := ⟨_, rfl⟩; have e1 : IntKind.u64.wrap ((1 : Int) + (x : Int)) = (d : Int) := (by rw [wrap_u64']; omega); have T7 := hide T7; have U7 := hide (U6.out.trans u7); have O7 := hide (O6.out.upd u7 hbW); clear hs u7 T6 U6 O6)
        have hd1 : 1 ≤ d := by omega
        clear e1 hd
        by_cases hcm : mm < d
        · have dm : decide ((mm : Int) < (d : Int)) = true := decide_eq_true (by omega)
          have dm2 : decide (mm < d) = true := decide_eq_true hcm
          go_wp2_with fail
          go_ret
          obtain ⟨A, cap, hv, h1, h2, h3⟩ := O7.out.at_
          have hO := O7.out
          subst hv
          exact ⟨A, _, cap, ll ++ [a], rfl, rfl, by omega, h1, h2, HI.out, hO, T7.out, U7.out⟩
        · have dm : decide ((mm : Int) < (d : Int)) = false := decide_eq_false (by omega)
          have dm2 : decide (mm < d) = false := decide_eq_false hcm
          have ea := KE.out (d) (by omega)
          obtain ⟨ki, kj⟩ := KI.out (d) (by omega) (by omega)
          obtain ⟨y, hy⟩ : ∃ y, a + ((d : Nat) : Int) = y := ⟨_, rfl⟩
          rw [hy] at ea ki kj
          have ki := hide ki
          have kj := hide kj
          clear hy
          go_wp2_with fail
          go_roundw
          case rel => (repeat apply Exists.intro); exact ⟨⟨i - 1, y, ll ++ [a], by go_num, by go_num, by omega, ki, kj, O7, T7, U7⟩, rfl⟩
          case measure => simp [intOf]; omega
      · go_upto_region 20 with (go_at_call 10; (with_reducible refine (t_next B b 3 _ i3 T6.out).mono ?_); rintro e w7 ⟨s, rfl, hs, T7, u7⟩; obtain ⟨x, rfl⟩ := Int.eq_ofNat_of_zero_le hs.1; have hx : x < 3 := (by have := hs.2.1 (by omega); omega); have e0 : IntKind.u64.wrap (x : Int) = (x : Int) := (by rw [wrap_u64']; omega); obtain ⟨d, hd⟩ : ∃ d, st + x = d := ⟨_, rfl⟩; have e1 : IntKind.u64.wrap ((st : Int) + (x : Int)) = (d : Int) := (by rw [wrap_u64']; omega); have T7 := hide T7; have U7 := hide (U6.out.trans u7); have O7 := hide (O6.out.upd u7 hbW); clear hs u7 T6 U6 O6)
        have hd1 : 1 ≤ d := by omega
        clear e0 e1 hd
        by_cases hcm : mm < d
        · have dm : decide ((mm : Int) < (d : Int)) = true := decide_eq_true (by omega)
          have dm2 : decide (mm < d) = true := decide_eq_true hcm
          go_wp2_with fail
          go_ret
          obtain ⟨A, cap, hv, h1, h2, h3⟩ := O7.out.at_
          have hO := O7.out
          subst hv
          exact ⟨A, _, cap, ll ++ [a], rfl, rfl, by omega, h1, h2, HI.out, hO, T7.out, U7.out⟩
        · have dm : decide ((mm : Int) < (d : Int)) = false := decide_eq_false (by omega)
          have dm2 : decide (mm < d) = false := decide_eq_false hcm
          have ea := KE.out (d) (by omega)
          obtain ⟨ki, kj⟩ := KI.out (d) (by omega) (by omega)
          obtain ⟨y, hy⟩ : ∃ y, a + ((d : Nat) : Int) = y := ⟨_, rfl⟩
          rw [hy] at ea ki kj
          have ki := hide ki
          have kj := hide kj
          clear hy
          go_wp2_with fail
          go_roundw
          case rel => (repeat apply Exists.intro); exact ⟨⟨i - 1, y, ll ++ [a], by go_num, by go_num, by omega, ki, kj, O7, T7, U7⟩, rfl⟩
          case measure => simp [intOf]; omega
      · go_upto_region 20 with (first | (go_at_call 35; (with_reducible refine (t_word B b _ T6.out).mono ?_); rintro e w7 ⟨u, rfl, hu, T7, u7⟩; obtain ⟨xw, rfl⟩ := Int.eq_ofNat_of_zero_le hu.1; have hxw : xw < 18446744073709551616 := (by have := hu.2; omega); have T7 := hide T7; have U7 := hide (U6.out.trans u7); have O7 := hide (O6.out.upd u7 hbW); clear hu u7 T6 U6 O6) | (go_at_call 10; (with_reducible refine (t_next B b 56 _ i56 T7.out).mono ?_); rintro e w8 ⟨s, rfl, hs, T8, u8⟩; obtain ⟨x, rfl⟩ := Int.eq_ofNat_of_zero_le hs.1; have hx : x < 56 := (by have := hs.2.1 (by omega); omega); obtain ⟨q, hq⟩ : ∃ q : Nat, 4 + x = q := ⟨_, rfl⟩; have eq1 : (4 : Int) + (x : Int) = (q : Int) := (by omega); have hr := shr_le (q := q) (k := 4) hxw (by omega); have e1 := shr_cast xw q; obtain ⟨r, hrr⟩ : ∃ r, xw >>> q = r := ⟨_, rfl⟩; rw [hrr] at e1 hr; have hr2 : r ≤ 9223372036854775807 := (Nat.le_trans hr (by decide)); obtain ⟨d, hd⟩ : ∃ d, 1 + r = d := ⟨_, rfl⟩; have e2 : IntKind.u64.wrap ((1 : Int) + (r : Int)) = (d : Int) := (by rw [wrap_u64']; omega); have hq2 : q ≤ 64 := (by omega); clear hq hr hrr; have T8 := hide T8; have U8 := hide (U7.out.trans u8); have O8 := hide (O7.out.upd u8 hbW); clear hs u8 T7 U7 O7))
        have hd1 : 1 ≤ d := by omega
        clear e1 e2 eq1 hd
        by_cases hcm : mm < d
        · have dm : decide ((mm : Int) < (d : Int)) = true := decide_eq_true (by omega)
          have dm2 : decide (mm < d) = true := decide_eq_true hcm
          go_wp2_with fail
          go_ret
          obtain ⟨A, cap, hv, h1, h2, h3⟩ := O8.out.at_
          have hO := O8.out
          subst hv
          exact ⟨A, _, cap, ll ++ [a], rfl, rfl, by omega, h1, h2, HI.out, hO, T8.out, U8.out⟩
        · have dm : decide ((mm : Int) < (d : Int)) = false := decide_eq_false (by omega)
          have dm2 : decide (mm < d) = false := decide_eq_false hcm
          have ea := KE.out (d) (by omega)
          obtain ⟨ki, kj⟩ := KI.out (d) (by omega) (by omega)
          obtain ⟨y, hy⟩ : ∃ y, a + ((d : Nat) : Int) = y := ⟨_, rfl⟩
          rw [hy] at ea ki kj
          have ki := hide ki
          have kj := hide kj
          clear hy
          go_wp2_with fail
          go_roundw
          case rel => (repeat apply Exists.intro); exact ⟨⟨i - 1, y, ll ++ [a], by go_num, by go_num, by omega, ki, kj, O8, T8, U8⟩, rfl⟩
          case measure => simp [intOf]; omega
      · go_upto_if 59 with (go_at_call 24; (with_reducible refine (t_bool B b 4 _ _ (by omega) (by omega) T6.out (Upd.refl _ _)).mono ?_); rintro e w7 ⟨v, rfl, T7, u7⟩; have T7 := hide T7; have U7 := hide (U6.out.trans u7); have O7 := hide (O6.out.upd u7 hbW); clear u7 T6 U6 O6)
        cases v with
        | false =>
          go_upto_region 20 with fail
          by_cases hcm : mm < st
          · have dm : decide ((mm : Int) < (st : Int)) = true := decide_eq_true (by omega)
            have dm2 : decide (mm < st) = true := decide_eq_true hcm
            go_wp2_with fail
            go_ret
            obtain ⟨A, cap, hv, h1, h2, h3⟩ := O7.out.at_
            have hO := O7.out
            subst hv
            exact ⟨A, _, cap, ll ++ [a], rfl, rfl, by omega, h1, h2, HI.out, hO, T7.out, U7.out⟩
          · have dm : decide ((mm : Int) < (st : Int)) = false := decide_eq_false (by omega)
            have dm2 : decide (mm < st) = false := decide_eq_false hcm
            have ea := KE.out (st) (by omega)
            obtain ⟨ki, kj⟩ := KI.out (st) (by omega) (by omega)
            obtain ⟨y, hy⟩ : ∃ y, a + ((st : Nat) : Int) = y := ⟨_, rfl⟩
            rw [hy] at ea ki kj
            have ki := hide ki
            have kj := hide kj
            clear hy
            go_wp2_with fail
            go_roundw
            case rel => (repeat apply Exists.intro); exact ⟨⟨i - 1, y, ll ++ [a], by go_num, by go_num, by omega, ki, kj, O7, T7, U7⟩, rfl⟩
            case measure => simp [intOf]; omega
        | true =>
          go_upto_region 20 with (first | (go_at_call 35; (with_reducible refine (t_word B b _ T7.out).mono ?_); rintro e w8 ⟨u, rfl, hu, T8, u8⟩; obtain ⟨xw, rfl⟩ := Int.eq_ofNat_of_zero_le hu.1; have hxw : xw < 18446744073709551616 := (by have := hu.2; omega); have T8 := hide T8; have U8 := hide (U7.out.trans u8); have O8 := hide (O7.out.upd u8 hbW); clear hu u8 T7 U7 O7) | (go_at_call 10; (with_reducible refine (t_next B b 8 _ i8 T8.out).mono ?_); rintro e w9 ⟨s, rfl, hs, T9, u9⟩; obtain ⟨x, rfl⟩ := Int.eq_ofNat_of_zero_le hs.1; have hx : x < 8 := (by have := hs.2.1 (by omega); omega); obtain ⟨q, hq⟩ : ∃ q : Nat, 1 + x = q := ⟨_, rfl⟩; have eq1 : (1 : Int) + (x : Int) = (q : Int) := (by omega); have hr := shr_le (q := q) (k := 1) hxw (by omega); have e1 := shr_cast xw q; obtain ⟨r, hrr⟩ : ∃ r, xw >>> q = r := ⟨_, rfl⟩; rw [hrr] at e1 hr; have hr2 : r ≤ 9223372036854775807 := (Nat.le_trans hr (by decide)); obtain ⟨d, hd⟩ : ∃ d, 1 + r = d := ⟨_, rfl⟩; have e2 : IntKind.u64.wrap ((1 : Int) + (r : Int)) = (d : Int) := (by rw [wrap_u64']; omega); have hq2 : q ≤ 64 := (by omega); clear hq hr hrr; have T9 := hide T9; have U9 := hide (U8.out.trans u9); have O9 := hide (O8.out.upd u9 hbW); clear hs u9 T8 U8 O8))
          have hd1 : 1 ≤ d := by omega
          clear e1 e2 eq1 hd
          by_cases hcm : mm < d
          · have dm : decide ((mm : Int) < (d : Int)) = true := decide_eq_true (by omega)
            have dm2 : decide (mm < d) = true := decide_eq_true hcm
            go_wp2_with fail
            go_ret
            obtain ⟨A, cap, hv, h1, h2, h3⟩ := O9.out.at_
            have hO := O9.out
            subst hv
            exact ⟨A, _, cap, ll ++ [a], rfl, rfl, by omega, h1, h2, HI.out, hO, T9.out, U9.out⟩
          · have dm : decide ((mm : Int) < (d : Int)) = false := decide_eq_false (by omega)
            have dm2 : decide (mm < d) = false := decide_eq_false hcm
            have ea := KE.out (d) (by omega)
            obtain ⟨ki, kj⟩ := KI.out (d) (by omega) (by omega)
            obtain ⟨y, hy⟩ : ∃ y, a + ((d : Nat) : Int) = y := ⟨_, rfl⟩
            rw [hy] at ea ki kj
            have ki := hide ki
            have kj := hide kj
            clear hy
            go_wp2_with fail
            go_roundw
            case rel => (repeat apply Exists.intro); exact ⟨⟨i - 1, y, ll ++ [a], by go_num, by go_num, by omega, ki, kj, O9, T9, U9⟩, rfl⟩
            case measure => simp [intOf]; omega
    · have d0 : decide ((0 : Int) < (i : Int)) = false := decide_eq_false (by omega)
      go_wp2_with fail
      go_ret
      obtain ⟨A, cap, hv, h1, h2, h3⟩ := HO.out.at_
      have hO := HO.out
      subst hv
      exact ⟨A, _, cap, ll, rfl, rfl, by omega, h1, h2, incB_init HI.out, hO, HT.out, HU.out⟩
theorem takeT_eq_succ {l m : List Int} {k : Nat} (h1 : k < l.length) (h2 : k < m.length) (h : l.take k = m.take k) : (l.take (k + 1) = m.take (k + 1)) ↔ l.getD k 0 = m.getD k 0 := by
  rw [takeT_succ h1, takeT_succ h2, h]
  simp
set_option maxRecDepth 100000 in
theorem t_same_ne (A A' : Option Addr) (n n' c c' : Nat) (W : World) (h : n ≠ n') (h1 : n ≤ 9223372036854775807) (h2 : n' ≤ 9223372036854775807) : Calls Try.prog 29 #[.slice A n c, .slice A' n' c'] W (Ret (.bool false) W) := by
  have hb : ((n : Int) != (n' : Int)) = true := by rw [bne_iff_ne]; omega
  have hb' : ¬ ((n : Int) = (n' : Int)) := by omega
  go_enter Try.func29, Try.ntmps29
  go_wp2_with fail
  go_ret
  exact ⟨rfl, Ext.refl _⟩
set_option maxHeartbeats 800000 in
set_option maxRecDepth 100000 in
theorem t_same_eq (A A' : Option Addr) (n c c' : Nat) (l m : List Int) (W : World) (hl : TimesAt W A l) (hm : TimesAt W A' m) (hn : l.length = n) (hn' : m.length = n) (v : Bool) (hv : decide (l = m) = v) :
    Calls Try.prog 29 #[.slice A n c, .slice A' n c'] W (Ret (.bool v) W) := by
  have hlen := hl.2.1
  rw [hn] at hlen
  have HL := hide hl
  have HM := hide hm
  have Hn := hide hn
  have Hn' := hide hn'
  have Hv := hide hv
  have hb : ((n : Int) != (n : Int)) = false := by simp
  clear hl hm hn hn' hv
  go_enter Try.func29, Try.ntmps29
  go_wp2_with fail
  go_loopw [5] (fun i wr => ∃ k : Nat, k ≤ n ∧ i = .int .i64 k ∧ Hid (Ext W wr) ∧ Hid (l.take k = m.take k)) (fun i _ => n - (intOf i).toNat)
  case atStart => exact ⟨0, by omega, rfl, hide (Ext.refl _), hide (by simp)⟩
  case round =>
    obtain ⟨k, hk, rfl, E, T⟩ := hrel
    by_cases hlt : k < n
    · have hkl : k < l.length := by rw [Hn.out]; exact hlt
      have hkm : k < m.length := by rw [Hn'.out]; exact hlt
      obtain ⟨b, off, rfl, hb1, hc1⟩ := (HL.out.ext E.out).2.2 (by omega)
      obtain ⟨b', off', rfl, hb2, hc2⟩ := (HM.out.ext E.out).2.2 (by omega)
      have d1 := hc1 k hkl
      have d2 := hc2 k hkm
      have hs := hide (takeT_eq_succ hkl hkm T.out)
      have hne : Hid (l.getD k 0 ≠ m.getD k 0 → l ≠ m) := fun h e => h (by rw [e])
      obtain ⟨x, hx⟩ : ∃ x, l.getD k 0 = x := ⟨_, rfl⟩
      obtain ⟨y, hy⟩ : ∃ y, m.getD k 0 = y := ⟨_, rfl⟩
      rw [hx] at d1 hs hne
      rw [hy] at d2 hs hne
      clear hc1 hc2 hx hy hkl hkm hb1 hb2
      by_cases hxy : x = y
      · have q : (x != y) = false := by subst hxy; simp
        have Hxy := hide hxy
        clear hxy
        go_wp2_with fail
        go_quiet (fail)
        go_wp2_with fail
        go_roundw
        case rel => exact ⟨k + 1, by omega, by go_num, hide (E.out.trans (ext_drewN _ _)), hide (hs.out.2 Hxy.out)⟩
        case measure => simp [intOf]; omega
      · have q : (x != y) = true := by rw [bne_iff_ne]; exact hxy
        go_wp2_with fail
        go_quiet (fail)
        go_wp2_with fail
        go_ret
        refine ⟨?_, E.out.trans (ext_drewN _ _)⟩
        have := hne.out hxy
        rw [← Hv.out, decide_eq_false this]
        rfl
    · obtain rfl : k = n := by omega
      go_wp2_with fail
      go_ret
      refine ⟨?_, E.out⟩
      have e : l = m := by
        have := T.out
        rw [List.take_of_length_le (by have := Hn.out; omega), List.take_of_length_le (by have := Hn'.out; omega)] at this
        exact this
      rw [← Hv.out, decide_eq_true e]
      rfl
theorem t_same (A A' : Option Addr) (n n' c c' : Nat) (l m : List Int) (W : World) (hl : TimesAt W A l) (hm : TimesAt W A' m) (hn : l.length = n) (hn' : m.length = n') (v : Bool) (hv : decide (l = m) = v) :
    Calls Try.prog 29 #[.slice A n c, .slice A' n' c'] W (Ret (.bool v) W) := by
  by_cases h : n = n'
  · subst h
    exact t_same_eq A A' n c c' l m W hl hm hn hn' v hv
  · have e : v = false := by
      rw [← hv, decide_eq_false]
      intro e; subst e; omega
    subst e
    exact t_same_ne A A' n n' c c' W h (by have := hl.2.1; omega) (by have := hm.2.1; omega)
/-- What is kept through a law: the tape, and a list of times that it gave. -/
structure Bt (W : World) (B : Nat) (A : Option Addr) (n cap : Nat) (m : List Int) (w : World) : Prop where
  e : Ext W w
  t : TapeOk W.heap.size w W.heap.size
  o : OwnT B w (.slice A n cap) m
  gb : W.heap.size < B
section
variable {W : World} {B : Nat} {A : Option Addr} {n cap : Nat} {m : List Int} {w w' : World}
theorem Bt.ext (s : Bt W B A n cap m w) (k : Ext w w') : Bt W B A n cap m w' := ⟨s.e.trans k, s.t.ext k, s.o.ext k, s.gb⟩
theorem Bt.upd (s : Bt W B A n cap m w) (u : Upd W.heap.size w w') (t : TapeOk W.heap.size w' W.heap.size) : Bt W B A n cap m w' := ⟨Upd.ext u s.e (Nat.le_refl _), t, s.o.upd u s.gb, s.gb⟩
theorem Bt.of {w1 : World} (h1 : Ext W w1) (hT : TapeOk W.heap.size w1 W.heap.size) (o : OwnT w1.heap.size w (.slice A n cap) m) (t : TapeOk W.heap.size w W.heap.size) (u : Upd W.heap.size w1 w) : Bt W w1.heap.size A n cap m w := ⟨Upd.ext u h1 (Nat.le_refl _), t, o, hT.2.1⟩
end
end
section
open Go Go.RowKit
theorem wr64 (x : Int) : ∃ p, wrap64 x = p ∧ IntKind.i64.wrap x = p ∧ I64 p := ⟨wrap64 x, rfl, by rw [IntKind.wrap_i64]; simp only [wrap64], i64_wrap x⟩
theorem TimesAt.cell {w : World} {b off : Nat} {l : List Int} (h : TimesAt w (some ⟨b, off, none⟩) l) {j : Nat} (hj : j < l.length) : w.cell? ⟨b, off + j, none⟩ = some (.int .i64 (l.getD j 0)) := by
  obtain ⟨b', off', he, _, hc⟩ := h.2.2 (by omega)
  cases he
  exact hc j hj
/-- Samples that the tape gives: owned; their times increase. -/
def SampsPost (N B b : Nat) (W : World) (e : Ending) (w' : World) : Prop := ∃ A n cap l, e = .returned (.slice A n cap) ∧ l.length = n ∧ n ≤ N ∧ n ≤ cap ∧ cap ≤ 9223372036854775807 ∧ incB (l.map Prod.fst) = true ∧ OwnS W.heap.size w' (.slice A n cap) l ∧ TapeOk B w' b ∧ Upd b W w'
/-- What is kept while samples are appended: the tape, the samples, the times. -/
structure Sg (W : World) (B b B1 : Nat) (Am : Option Addr) (n cap : Nat) (m : List Int) (lv : Value) (ll : List (Int × Int)) (w : World) : Prop where
  t : TapeOk B w b
  u : Upd b W w
  s : OwnS B1 w lv ll
  o : OwnT W.heap.size w (.slice Am n cap) m
  bw : B1 ≤ w.heap.size
section
variable {W : World} {B b B1 : Nat} {Am : Option Addr} {n cap : Nat} {m : List Int} {lv : Value} {ll : List (Int × Int)} {w w' : World}
theorem Sg.upd (h : Sg W B b B1 Am n cap m lv ll w) (hb : b < W.heap.size) (hB : W.heap.size ≤ B1) (u : Upd b w w') (t : TapeOk B w' b) : Sg W B b B1 Am n cap m lv ll w' :=
  ⟨t, h.u.trans u, h.s.upd u (Nat.lt_of_lt_of_le hb hB), h.o.upd u hb, Nat.le_trans h.bw u.2.2.2.1⟩
theorem Sg.alloc (h : Sg W B b B1 Am n cap m lv ll w) (o : Obj) : Sg W B b B1 Am n cap m lv ll (w.alloc o) :=
  ⟨h.t.alloc o, h.u.trans (Ext.upd (ext_alloc w o) b), h.s.alloc o, h.o.alloc o, Nat.le_trans h.bw (by simp)⟩
theorem Sg.grow (h : Sg W B b B1 Am n cap m lv ll w) (hb : b < W.heap.size) (hB : W.heap.size ≤ B1) (hq : (Value.slice Am n cap).ownBlock = none ∨ (Value.slice Am n cap).ownBlock ≠ lv.ownBlock) {v' : Value} {l' : List (Int × Int)} (hO : OwnS B1 w' v' l') (hG : w.grownBy w' lv.ownBlock) : Sg W B b B1 Am n cap m v' l' w' :=
  ⟨h.t.below (grown_below hG (b + 1) (Nat.lt_of_lt_of_le hb h.u.2.2.2.1) (fun k hk => by have := (h.s.1.lt k hk).1; omega)), upd_grown h.u hG (fun k hk => Nat.le_trans hB (h.s.1.lt k hk).1), hO, h.o.kept hG hq, Nat.le_trans h.bw (grown_below hG 0 (Nat.zero_le _) (fun _ _ => Nat.zero_le _)).size⟩
end
set_option maxHeartbeats 6400000 in
set_option maxRecDepth 100000 in
theorem t_samples (N B b : Nat) (hN : N ≤ 1000) (W : World) (hT : TapeOk B W b) : Calls Try.prog 8 #[.pointer (some ⟨b, 0, none⟩), .int .i64 (N : Int)] W (SampsPost N B b W) := by
  have hbW := hT.2.1
  have i7 : I64 7 := ⟨by omega, by omega⟩
  have i41 : I64 41 := ⟨by omega, by omega⟩
  have i9 : I64 9 := ⟨by omega, by omega⟩
  have i3 : I64 3 := ⟨by omega, by omega⟩
  have i400 : I64 400 := ⟨by omega, by omega⟩
  have i50 : I64 50 := ⟨by omega, by omega⟩
  have KT := hide (t_times N B b hN W hT)
  clear hT
  go_enter Try.func8, Try.ntmps8
  go_upto_region 2 with (go_at_call 26; (with_reducible refine (KT.out).mono ?_); rintro e w1 ⟨Am, n, cap, m, rfl, hm, hnN, hncap, hncap2, hinc, hO, T1, u1⟩; have T1 := hide T1; have U1 := hide u1; have O1 := hide hO; have Hm := hide hm; have Hinc := hide hinc; clear hO hm hinc u1)
  have hB1 : W.heap.size ≤ w1.heap.size := U1.out.2.2.2.1
  obtain ⟨B1, hBB⟩ : ∃ B1, w1.heap.size = B1 := ⟨_, rfl⟩
  have HQ : Hid (∀ w lv ll, OwnS B1 w lv ll → (Value.slice Am n cap).ownBlock = none ∨ (Value.slice Am n cap).ownBlock ≠ lv.ownBlock) := hide (fun w lv ll ho => by
    cases Am with
    | none => exact Or.inl rfl
    | some a =>
      right
      intro e
      have h1 := O1.out.1.lt a.block rfl
      have h2 := ho.1.lt a.block (by rw [← e]; rfl)
      omega)
  have S1 : Hid (Sg W B b B1 Am n cap m (.slice none 0 0) [] w1) := hide ⟨T1.out, U1.out, OwnS.nil_ _ _, O1.out, by omega⟩
  rw [hBB] at hB1
  clear hBB T1 U1 O1 KT
  go_upto_region 4 with (go_at_call 10; (with_reducible refine (t_next B b 7 _ i7 S1.out.t).mono ?_); rintro e w2 ⟨s, rfl, hs, T2, u2⟩; obtain ⟨kd, rfl⟩ := Int.eq_ofNat_of_zero_le hs.1; have hkd : kd < 7 := (by have := hs.2.1 (by omega); omega); have S2 := hide (S1.out.upd hbW hB1 u2 T2); clear hs u2 T2 S1)
  go_upto_region 5 with (first
    | (go_at_call 17; (with_reducible refine (t_int B b _ _ S2.out.t (Upd.refl _ _)).mono ?_); rintro e w3 ⟨v0, rfl, hv0, T3, u3⟩; have S3 := hide (S2.out.upd hbW hB1 u3 T3); have Hv0 := hide hv0; clear u3 T3 S2 hv0)
    | (go_at_call 10; (with_reducible refine (t_next B b 41 _ i41 S3.out.t).mono ?_); rintro e w4 ⟨s, rfl, hs, T4, u4⟩; have hs0 := hs.1; have hs1 := hs.2.1 (by omega); have S4 := hide (S3.out.upd hbW hB1 u4 T4); obtain ⟨sl, hsl⟩ : ∃ sl, s - 20 = sl := ⟨_, rfl⟩; clear hs u4 T4 S3))
  clear hs0 hs1 hsl
  go_wp2_with fail
  go_loopw [6, 8, 10] (fun lv av iv wr => ∃ (i : Nat) (vv : Int) (ll : List (Int × Int)), i ≤ n ∧ iv = .int .i64 (i : Int) ∧ av = .int .i64 vv ∧ Hid (I64 vv) ∧ Hid (ll.map Prod.fst = m.take i) ∧ Hid (Sg W B b B1 Am n cap m lv ll wr)) (fun _ _ iv _ => n - (intOf iv).toNat)
  case atStart => exact ⟨0, v0, [], by omega, rfl, rfl, Hv0, hide (by simp), S4⟩
  case round =>
    clear S4 Hv0
    obtain ⟨i, vv, ll, hi, rfl, rfl, HV, HL, S5⟩ := hrel
    by_cases h0 : i < n
    · have d0 : decide ((i : Int) < (n : Int)) = true := decide_eq_true (by omega)
      have him : i < m.length := by rw [Hm.out]; exact h0
      obtain ⟨bm, om, rfl, _, _⟩ := (own_times S5.out.o).2.2 (by omega)
      obtain ⟨tt, htt⟩ : ∃ tt, m.getD i 0 = tt := ⟨_, rfl⟩
      have itt : I64 tt := by rw [← htt]; exact S5.out.o.2.get i
      have KC : Hid (∀ w v l', Sg W B b B1 (some ⟨bm, om, none⟩) n cap m v l' w → w.cell? ⟨bm, om + i, none⟩ = some (.int .i64 tt)) := hide (fun w v l' s => by rw [← htt]; exact (own_times s.o).cell him)
      have ix := fun w => idxT bm om n cap i h0 w
      have HL2 : Hid (∀ X, (ll ++ [(tt, X)]).map Prod.fst = m.take (i + 1)) := hide (fun X => by rw [List.map_append, HL.out, takeT_succ him, htt]; rfl)
      have hll : ll.length = i := by
        have := congrArg List.length HL.out
        rw [List.length_map, List.length_take] at this
        omega
      have hle5 : Hid (∀ X : Int, ll.length + [(tt, X)].length ≤ 8796093022208) := hide (fun X => by simp; omega)
      have iv := HV.out
      clear htt him hll HL
      obtain rfl | rfl | rfl | rfl | rfl | rfl | rfl : kd = 0 ∨ kd = 1 ∨ kd = 2 ∨ kd = 3 ∨ kd = 4 ∨ kd = 5 ∨ kd = 6 := by omega
      · go_upto_region 24 with fail
        have ivv := iv
        have Hvv := hide iv
        have S20 := hide (S5.out.alloc (.cells #[.int .i64 tt, .int .i64 vv] 47))
        have ct0 := KC.out _ _ _ S5.out
        have ct := KC.out _ _ _ S20.out
        have hone := hide (one_atS wr tt vv itt ivv)
        have hsz := S20.out.bw
        clear S5
        go_wp2_with (at_builtin; refine wl_appendS rfl (.tmp 81) (.tmp 88) rfl B1 _ ll [(tt, vv)] rfl S20.out.s _ 1 1 rfl hone.out rfl (hle5.out vv) hsz ?_; intro v21 w21 hO21 hG21 hA21; have S21 := hide (S20.out.grow hbW hB1 (HQ.out _ _ _ S20.out.s) hO21 hG21); clear hO21 hG21 hA21)
        go_roundw
        case rel => (repeat apply Exists.intro); exact ⟨⟨i + 1, vv, ll ++ [(tt, vv)], by omega, by go_num, by go_num, Hvv, HL2.out vv, S21⟩, rfl⟩
        case measure => simp [intOf]; omega
      · have Hvv := hide iv
        obtain ⟨p, p1, p2, ip⟩ := wr64 ((i : Int) * sl)
        obtain ⟨X, X1, X2, iX⟩ := wr64 (vv + p)
        go_upto_region 24 with fail
        have S20 := hide (S5.out.alloc (.cells #[.int .i64 tt, .int .i64 X] 47))
        have ct0 := KC.out _ _ _ S5.out
        have ct := KC.out _ _ _ S20.out
        have hone := hide (one_atS wr tt X itt iX)
        have hsz := S20.out.bw
        clear S5
        go_wp2_with (at_builtin; refine wl_appendS rfl (.tmp 81) (.tmp 88) rfl B1 _ ll [(tt, X)] rfl S20.out.s _ 1 1 rfl hone.out rfl (hle5.out X) hsz ?_; intro v21 w21 hO21 hG21 hA21; have S21 := hide (S20.out.grow hbW hB1 (HQ.out _ _ _ S20.out.s) hO21 hG21); clear hO21 hG21 hA21)
        go_roundw
        case rel => (repeat apply Exists.intro); exact ⟨⟨i + 1, vv, ll ++ [(tt, X)], by omega, by go_num, by go_num, Hvv, HL2.out X, S21⟩, rfl⟩
        case measure => simp [intOf]; omega
      · have Hvv := hide iv
        obtain ⟨p, p1, p2, ip⟩ := wr64 ((i : Int) * sl)
        obtain ⟨q, q1, q2, iq⟩ := wr64 (vv + p)
        go_upto_region 24 with (go_at_call 10; (with_reducible refine (t_next B b 7 _ i7 S5.out.t).mono ?_); rintro e w6 ⟨s, rfl, hs, T, u⟩; obtain ⟨y, rfl⟩ := Int.eq_ofNat_of_zero_le hs.1; have hy : y < 7 := (by have := hs.2.1 (by omega); omega); have S6 := hide (S5.out.upd hbW hB1 u T); obtain ⟨X, X1, X2, iX⟩ := wr64 (q + ((y : Int) - 3)); clear hs u T S5)
        have S20 := hide (S6.out.alloc (.cells #[.int .i64 tt, .int .i64 X] 47))
        have ct0 := KC.out _ _ _ S6.out
        have ct := KC.out _ _ _ S20.out
        have hone := hide (one_atS w6 tt X itt iX)
        have hsz := S20.out.bw
        clear S6
        go_wp2_with (at_builtin; refine wl_appendS rfl (.tmp 81) (.tmp 88) rfl B1 _ ll [(tt, X)] rfl S20.out.s _ 1 1 rfl hone.out rfl (hle5.out X) hsz ?_; intro v21 w21 hO21 hG21 hA21; have S21 := hide (S20.out.grow hbW hB1 (HQ.out _ _ _ S20.out.s) hO21 hG21); clear hO21 hG21 hA21)
        go_roundw
        case rel => (repeat apply Exists.intro); exact ⟨⟨i + 1, vv, ll ++ [(tt, X)], by omega, by go_num, by go_num, Hvv, HL2.out X, S21⟩, rfl⟩
        case measure => simp [intOf]; omega
      · have Hvv := hide iv
        go_upto_region 24 with (go_at_call 10; (with_reducible refine (t_next B b 9 _ i9 S5.out.t).mono ?_); rintro e w6 ⟨s, rfl, hs, T, u⟩; obtain ⟨y, rfl⟩ := Int.eq_ofNat_of_zero_le hs.1; have hy : y < 9 := (by have := hs.2.1 (by omega); omega); have S6 := hide (S5.out.upd hbW hB1 u T); obtain ⟨X, X1, X2, iX⟩ := wr64 (vv + ((y : Int) - 4)); clear hs u T S5)
        have S20 := hide (S6.out.alloc (.cells #[.int .i64 tt, .int .i64 X] 47))
        have ct0 := KC.out _ _ _ S6.out
        have ct := KC.out _ _ _ S20.out
        have hone := hide (one_atS w6 tt X itt iX)
        have hsz := S20.out.bw
        clear S6
        go_wp2_with (at_builtin; refine wl_appendS rfl (.tmp 81) (.tmp 88) rfl B1 _ ll [(tt, X)] rfl S20.out.s _ 1 1 rfl hone.out rfl (hle5.out X) hsz ?_; intro v21 w21 hO21 hG21 hA21; have S21 := hide (S20.out.grow hbW hB1 (HQ.out _ _ _ S20.out.s) hO21 hG21); clear hO21 hG21 hA21)
        go_roundw
        case rel => (repeat apply Exists.intro); exact ⟨⟨i + 1, vv, ll ++ [(tt, X)], by omega, by go_num, by go_num, Hvv, HL2.out X, S21⟩, rfl⟩
        case measure => simp [intOf]; omega
      · have Hvv := hide iv
        go_upto_region 24 with (go_at_call 17; (with_reducible refine (t_int B b _ _ S5.out.t (Upd.refl _ _)).mono ?_); rintro e w6 ⟨X, rfl, iX, T, u⟩; have S6 := hide (S5.out.upd hbW hB1 u T); clear u T S5)
        have S20 := hide (S6.out.alloc (.cells #[.int .i64 tt, .int .i64 X] 47))
        have ct0 := KC.out _ _ _ S6.out
        have ct := KC.out _ _ _ S20.out
        have hone := hide (one_atS w6 tt X itt iX)
        have hsz := S20.out.bw
        clear S6
        go_wp2_with (at_builtin; refine wl_appendS rfl (.tmp 81) (.tmp 88) rfl B1 _ ll [(tt, X)] rfl S20.out.s _ 1 1 rfl hone.out rfl (hle5.out X) hsz ?_; intro v21 w21 hO21 hG21 hA21; have S21 := hide (S20.out.grow hbW hB1 (HQ.out _ _ _ S20.out.s) hO21 hG21); clear hO21 hG21 hA21)
        go_roundw
        case rel => (repeat apply Exists.intro); exact ⟨⟨i + 1, vv, ll ++ [(tt, X)], by omega, by go_num, by go_num, Hvv, HL2.out X, S21⟩, rfl⟩
        case measure => simp [intOf]; omega
      · go_upto_if 62 with (go_at_call 24; (with_reducible refine (t_boolN B b 5 _ _ (by omega) (by omega) S5.out.t (Upd.refl _ _)).mono ?_); rintro e w6 ⟨v, rfl, T, u⟩; have S6 := hide (S5.out.upd hbW hB1 u T); clear u T S5)
        cases v with
        | false =>
          have Hvv := hide iv
          go_upto_region 24 with (go_at_call 10; (with_reducible refine (t_next B b 3 _ i3 S6.out.t).mono ?_); rintro e w7 ⟨s, rfl, hs, T, u⟩; obtain ⟨z, rfl⟩ := Int.eq_ofNat_of_zero_le hs.1; have hz : z < 3 := (by have := hs.2.1 (by omega); omega); have S7 := hide (S6.out.upd hbW hB1 u T); obtain ⟨X, X1, X2, iX⟩ := wr64 (vv + (z : Int)); clear hs u T S6)
          have S20 := hide (S7.out.alloc (.cells #[.int .i64 tt, .int .i64 X] 47))
          have ct0 := KC.out _ _ _ S7.out
          have ct := KC.out _ _ _ S20.out
          have hone := hide (one_atS w7 tt X itt iX)
          have hsz := S20.out.bw
          clear S7
          go_wp2_with (at_builtin; refine wl_appendS rfl (.tmp 81) (.tmp 88) rfl B1 _ ll [(tt, X)] rfl S20.out.s _ 1 1 rfl hone.out rfl (hle5.out X) hsz ?_; intro v21 w21 hO21 hG21 hA21; have S21 := hide (S20.out.grow hbW hB1 (HQ.out _ _ _ S20.out.s) hO21 hG21); clear hO21 hG21 hA21)
          go_roundw
          case rel => (repeat apply Exists.intro); exact ⟨⟨i + 1, vv, ll ++ [(tt, X)], by omega, by go_num, by go_num, Hvv, HL2.out X, S21⟩, rfl⟩
          case measure => simp [intOf]; omega
        | true =>
          go_upto_region 24 with (first | (go_at_call 10; (with_reducible refine (t_next B b 400 _ i400 S6.out.t).mono ?_); rintro e w7 ⟨s, rfl, hs, T, u⟩; obtain ⟨y, rfl⟩ := Int.eq_ofNat_of_zero_le hs.1; have hy : y < 400 := (by have := hs.2.1 (by omega); omega); have S7 := hide (S6.out.upd hbW hB1 u T); obtain ⟨V2, V1, W2, iV2⟩ := wr64 (vv + ((y : Int) - 200)); have HV2 := hide iV2; clear hs u T S6) | (go_at_call 10; (with_reducible refine (t_next B b 3 _ i3 S7.out.t).mono ?_); rintro e w8 ⟨s, rfl, hs, T, u⟩; obtain ⟨z, rfl⟩ := Int.eq_ofNat_of_zero_le hs.1; have hz : z < 3 := (by have := hs.2.1 (by omega); omega); have S8 := hide (S7.out.upd hbW hB1 u T); obtain ⟨X, X1, X2, iX⟩ := wr64 (V2 + (z : Int)); clear hs u T S7))
          have S20 := hide (S8.out.alloc (.cells #[.int .i64 tt, .int .i64 X] 47))
          have ct0 := KC.out _ _ _ S8.out
          have ct := KC.out _ _ _ S20.out
          have hone := hide (one_atS w8 tt X itt iX)
          have hsz := S20.out.bw
          clear S8
          go_wp2_with (at_builtin; refine wl_appendS rfl (.tmp 81) (.tmp 88) rfl B1 _ ll [(tt, X)] rfl S20.out.s _ 1 1 rfl hone.out rfl (hle5.out X) hsz ?_; intro v21 w21 hO21 hG21 hA21; have S21 := hide (S20.out.grow hbW hB1 (HQ.out _ _ _ S20.out.s) hO21 hG21); clear hO21 hG21 hA21)
          go_roundw
          case rel => (repeat apply Exists.intro); exact ⟨⟨i + 1, V2, ll ++ [(tt, X)], by omega, by go_num, by go_num, HV2, HL2.out X, S21⟩, rfl⟩
          case measure => simp [intOf]; omega
      · have Hvv := hide iv
        go_upto_region 24 with (first | (go_at_call 10; (with_reducible refine (t_next B b 50 _ i50 S5.out.t).mono ?_); rintro e w6 ⟨s, rfl, hs, T, u⟩; obtain ⟨y, rfl⟩ := Int.eq_ofNat_of_zero_le hs.1; have hy : y < 50 := (by have := hs.2.1 (by omega); omega); have S6 := hide (S5.out.upd hbW hB1 u T); clear hs u T S5) | (go_at_call 10; (with_reducible refine (t_next B b 50 _ i50 S6.out.t).mono ?_); rintro e w7 ⟨s, rfl, hs, T, u⟩; obtain ⟨z, rfl⟩ := Int.eq_ofNat_of_zero_le hs.1; have hz : z < 50 := (by have := hs.2.1 (by omega); omega); have S7 := hide (S6.out.upd hbW hB1 u T); obtain ⟨P, P1, P2, iP⟩ := wr64 ((y : Int) * (z : Int)); obtain ⟨X, X1, X2, iX⟩ := wr64 (P * sl); clear hs u T S6))
        have S20 := hide (S7.out.alloc (.cells #[.int .i64 tt, .int .i64 X] 47))
        have ct0 := KC.out _ _ _ S7.out
        have ct := KC.out _ _ _ S20.out
        have hone := hide (one_atS w7 tt X itt iX)
        have hsz := S20.out.bw
        clear S7
        go_wp2_with (at_builtin; refine wl_appendS rfl (.tmp 81) (.tmp 88) rfl B1 _ ll [(tt, X)] rfl S20.out.s _ 1 1 rfl hone.out rfl (hle5.out X) hsz ?_; intro v21 w21 hO21 hG21 hA21; have S21 := hide (S20.out.grow hbW hB1 (HQ.out _ _ _ S20.out.s) hO21 hG21); clear hO21 hG21 hA21)
        go_roundw
        case rel => (repeat apply Exists.intro); exact ⟨⟨i + 1, vv, ll ++ [(tt, X)], by omega, by go_num, by go_num, Hvv, HL2.out X, S21⟩, rfl⟩
        case measure => simp [intOf]; omega
    · obtain rfl : i = n := by omega
      have d0 : decide ((i : Int) < (i : Int)) = false := decide_eq_false (by omega)
      go_wp2_with fail
      go_ret
      have hL := HL.out
      rw [List.take_of_length_le (by have := Hm.out; omega)] at hL
      obtain ⟨A, c, hv, h1, h2, h3⟩ := S5.out.s.at_
      have hO := S5.out.s
      subst hv
      have hll : ll.length = i := by rw [← Hm.out, ← hL, List.length_map]
      exact ⟨A, _, c, ll, rfl, rfl, by omega, h1, h2, by rw [hL]; exact Hinc.out, hO.less hB1, S5.out.t, S5.out.u⟩
end
section
open Go Go.RowKit Go.Sort
def nearV (a b e : Int) : Bool := decide (0 ≤ e ∧ ((a - b).natAbs : Int) ≤ e)
def chkS (l : List (Int × Int)) : Nat := if incB (l.map Prod.fst) = true then 0 else 7
def wiB (a b : List (Int × Int)) (e : Int) : Bool := decide (a.length = b.length ∧ ∀ i, i < a.length → (a.getD i (0, 0)).1 = (b.getD i (0, 0)).1 ∧ nearV (a.getD i (0, 0)).2 (b.getD i (0, 0)).2 e = true)
def rgL (l : List (Int × Int)) (f t : Int) : List (Int × Int) := l.filter fun p => decide (f ≤ p.1) && decide (p.1 ≤ t)
set_option maxHeartbeats 3200000 in
set_option maxRecDepth 100000 in
theorem r_timesS (A : Option Addr) (n c : Nat) (l : List (Int × Int)) (W : World) (hl : SampsAt W A l) (hn : l.length = n) (hn2 : n ≤ 8796093022000) :
    Calls Try.prog 13 #[.slice A n c] W (OwnRetT (l.map Prod.fst) W) := by
  have Hs := hide hl.1
  have M1 := hide hl
  have Hm := hide hn
  have E1 : Hid (Ext W W) := Ext.refl _
  clear hl hn
  go_enter Try.func13, Try.ntmps13
  go_wp2_with fail
  go_loopw [3, 4] (fun lv iv wr => ∃ i : Nat, i ≤ n ∧ iv = .int .i64 (i : Int) ∧ Hid (OwnT W.heap.size wr lv ((l.map Prod.fst).take i)) ∧ Hid (Ext W wr)) (fun _ iv _ => n - (intOf iv).toNat)
  case atStart => exact ⟨0, by omega, rfl, hide (OwnT.nil_ _ _), E1⟩
  case round =>
    clear E1
    obtain ⟨i, hi, rfl, HO, HE⟩ := hrel
    by_cases hlt : i < n
    · have d0 : decide ((i : Int) < (n : Int)) = true := decide_eq_true (by omega)
      have him : i < l.length := by rw [Hm.out]; exact hlt
      obtain ⟨bm, om, rfl, _, hc⟩ := (M1.out.ext HE.out).2.2 (by omega)
      have ct := (hc i him).1
      have ix := fun w => idxS bm om n c i hlt w
      have hst := takeT_succ (l := l.map Prod.fst) (k := i) (by rw [List.length_map]; exact him)
      have hget : (l.map Prod.fst).getD i 0 = (l.getD i (0, 0)).1 := by simp [List.getD_eq_getElem?_getD, him]
      have hx := (Hs.out.get i).1
      obtain ⟨x, hxx⟩ : ∃ x, (l.getD i (0, 0)).1 = x := ⟨_, rfl⟩
      rw [hxx] at ct hx hget
      rw [hget] at hst
      have hle : ((l.map Prod.fst).take i).length + [x].length ≤ 17592186044416 := by rw [List.length_take, List.length_map, Hm.out]; simp; omega
      have Hst := hide hst
      have O3 := hide (HO.out.alloc (.cells #[Value.int .i64 x] 2))
      have hone := hide (one_atT wr x hx _ rfl)
      have E3 := hide (Ext.trans HE.out (ext_alloc wr (.cells #[Value.int .i64 x] 2)))
      obtain ⟨T, hT⟩ : ∃ T, (l.map Prod.fst).take i = T := ⟨_, rfl⟩
      rw [hT] at O3 Hst hle
      clear hc him hst hget hxx hT HO HE
      go_wp2_with (at_builtin; refine wl_appendT rfl (.tmp 11) (.tmp 17) rfl W.heap.size _ T [x] rfl O3.out _ 1 1 rfl hone.out rfl hle E3.out.size ?_; intro v6 w6 hO6 hG6 hA6)
      have O6 : Hid (OwnT W.heap.size w6 v6 ((l.map Prod.fst).take (i + 1))) := by show OwnT _ _ _ _; rw [Hst.out]; exact hO6
      have E6 := hide (below_grownT E3.out (Nat.le_refl _) O3.out hG6)
      clear hO6 hG6 hA6 O3 E3
      go_roundw
      case rel => exact ⟨i + 1, by omega, by go_num, O6, E6⟩
      case measure => simp [intOf]; omega
    · obtain rfl : i = n := by omega
      have d0 : decide ((i : Int) < (i : Int)) = false := decide_eq_false (by omega)
      have hO := HO.out
      rw [List.take_of_length_le (by rw [List.length_map, Hm.out]; omega)] at hO
      have hO := hide hO
      go_wp2_with fail
      go_ret
      exact ⟨_, rfl, hO.out, HE.out⟩
set_option maxHeartbeats 3200000 in
set_option maxRecDepth 100000 in
theorem r_valsS (A : Option Addr) (n c : Nat) (l : List (Int × Int)) (W : World) (hl : SampsAt W A l) (hn : l.length = n) (hn2 : n ≤ 8796093022000) :
    Calls Try.prog 14 #[.slice A n c] W (OwnRetT (l.map Prod.snd) W) := by
  have Hs := hide hl.1
  have M1 := hide hl
  have Hm := hide hn
  have E1 : Hid (Ext W W) := Ext.refl _
  clear hl hn
  go_enter Try.func14, Try.ntmps14
  go_wp2_with fail
  go_loopw [3, 4] (fun lv iv wr => ∃ i : Nat, i ≤ n ∧ iv = .int .i64 (i : Int) ∧ Hid (OwnT W.heap.size wr lv ((l.map Prod.snd).take i)) ∧ Hid (Ext W wr)) (fun _ iv _ => n - (intOf iv).toNat)
  case atStart => exact ⟨0, by omega, rfl, hide (OwnT.nil_ _ _), E1⟩
  case round =>
    clear E1
    obtain ⟨i, hi, rfl, HO, HE⟩ := hrel
    by_cases hlt : i < n
    · have d0 : decide ((i : Int) < (n : Int)) = true := decide_eq_true (by omega)
      have him : i < l.length := by rw [Hm.out]; exact hlt
      obtain ⟨bm, om, rfl, _, hc⟩ := (M1.out.ext HE.out).2.2 (by omega)
      have ct := (hc i him).2
      rw [← Nat.add_assoc] at ct
      have ix := fun w => idxS bm om n c i hlt w
      have hst := takeT_succ (l := l.map Prod.snd) (k := i) (by rw [List.length_map]; exact him)
      have hget : (l.map Prod.snd).getD i 0 = (l.getD i (0, 0)).2 := by simp [List.getD_eq_getElem?_getD, him]
      have hx := (Hs.out.get i).2
      obtain ⟨x, hxx⟩ : ∃ x, (l.getD i (0, 0)).2 = x := ⟨_, rfl⟩
      rw [hxx] at ct hx hget
      rw [hget] at hst
      have hle : ((l.map Prod.snd).take i).length + [x].length ≤ 17592186044416 := by rw [List.length_take, List.length_map, Hm.out]; simp; omega
      have Hst := hide hst
      have O3 := hide (HO.out.alloc (.cells #[Value.int .i64 x] 2))
      have hone := hide (one_atT wr x hx _ rfl)
      have E3 := hide (Ext.trans HE.out (ext_alloc wr (.cells #[Value.int .i64 x] 2)))
      obtain ⟨T, hT⟩ : ∃ T, (l.map Prod.snd).take i = T := ⟨_, rfl⟩
      rw [hT] at O3 Hst hle
      clear hc him hst hget hxx hT HO HE
      go_wp2_with (at_builtin; refine wl_appendT rfl (.tmp 11) (.tmp 17) rfl W.heap.size _ T [x] rfl O3.out _ 1 1 rfl hone.out rfl hle E3.out.size ?_; intro v6 w6 hO6 hG6 hA6)
      have O6 : Hid (OwnT W.heap.size w6 v6 ((l.map Prod.snd).take (i + 1))) := by show OwnT _ _ _ _; rw [Hst.out]; exact hO6
      have E6 := hide (below_grownT E3.out (Nat.le_refl _) O3.out hG6)
      clear hO6 hG6 hA6 O3 E3
      go_roundw
      case rel => exact ⟨i + 1, by omega, by go_num, O6, E6⟩
      case measure => simp [intOf]; omega
    · obtain rfl : i = n := by omega
      have d0 : decide ((i : Int) < (i : Int)) = false := decide_eq_false (by omega)
      have hO := HO.out
      rw [List.take_of_length_le (by rw [List.length_map, Hm.out]; omega)] at hO
      have hO := hide hO
      go_wp2_with fail
      go_ret
      exact ⟨_, rfl, hO.out, HE.out⟩
theorem r_checkS (A : Option Addr) (n c : Nat) (l : List (Int × Int)) (W : World) (hl : SampsAt W A l) (hn : l.length = n) (hn2 : n ≤ 8796093022000) (v : Nat) (hv : chkS l = v) :
    Calls Try.prog 28 #[.slice A n c] W (Ret (.int .i64 (v : Int)) W) := by
  have KT : Hid (Calls Try.prog 13 #[.slice A n c] W fun e w' => ∃ A1 c1, e = .returned (.slice A1 n c1) ∧ TimesAt w' A1 (l.map Prod.fst) ∧ Ext W w') := hide ((r_timesS A n c l W hl hn hn2).mono fun e w' h => by
    obtain ⟨v, rfl, ho, hE⟩ := h
    obtain ⟨A1, c1, rfl, _, _, hw⟩ := ho.at_
    exact ⟨A1, c1, by rw [List.length_map, hn], hw, hE⟩)
  have KI : Hid (∀ A1 c1 w, TimesAt w A1 (l.map Prod.fst) → Calls Try.prog 40 #[.slice A1 n c1] w (Ret (.bool (incB (l.map Prod.fst))) w)) := hide (fun A1 c1 w h => r_inc A1 n c1 (l.map Prod.fst) w h (by rw [List.length_map]; exact hn) _ rfl)
  unfold chkS at hv
  obtain ⟨i, hi⟩ : ∃ i, incB (l.map Prod.fst) = i := ⟨_, rfl⟩
  rw [hi] at hv KI
  clear hl hn hi
  cases i with
  | true =>
    rw [if_pos rfl] at hv
    subst hv
    go_enter Try.func28, Try.ntmps28
    go_wp2_with (first
      | (go_at_call 13; (with_reducible refine (KT.out).mono ?_); rintro e w1 ⟨A1, c1, rfl, hw, hE⟩; have E1 := hide hE; have ki := hide (KI.out A1 c1 w1 hw); clear hw hE)
      | (go_at_call 40; (with_reducible refine (ki.out).mono ?_); rintro e w2 ⟨rfl, hE⟩; have E2 := hide (Ext.trans E1.out hE); clear hE))
    go_ret
    exact ⟨rfl, E2.out⟩
  | false =>
    rw [if_neg (by decide)] at hv
    subst hv
    go_enter Try.func28, Try.ntmps28
    go_wp2_with (first
      | (go_at_call 13; (with_reducible refine (KT.out).mono ?_); rintro e w1 ⟨A1, c1, rfl, hw, hE⟩; have E1 := hide hE; have ki := hide (KI.out A1 c1 w1 hw); clear hw hE)
      | (go_at_call 40; (with_reducible refine (ki.out).mono ?_); rintro e w2 ⟨rfl, hE⟩; have E2 := hide (Ext.trans E1.out hE); clear hE))
    go_ret
    exact ⟨rfl, E2.out⟩
theorem r_nearS (a b e : Int) (W : World) (ha : I64 a) (hb : I64 b) (he : I64 e) (v : Bool) (hv : nearV a b e = v) :
    Calls Try.prog 47 #[.int .i64 a, .int .i64 b, .int .i64 e] W (RetSame (.bool v) W) := by
  unfold nearV at hv
  have K := hide (fun w => r_dist a b w ha hb)
  obtain ⟨d, hd⟩ : ∃ d, (a - b).natAbs = d := ⟨_, rfl⟩
  rw [hd] at K hv
  by_cases h0 : 0 ≤ e
  · have d0 : decide ((0 : Int) ≤ e) = true := decide_eq_true h0
    have ec : IntKind.u64.wrap e = e := by rw [wrap_u64']; unfold I64 at he; omega
    have d1 : decide ((d : Int) ≤ e) = v := by rw [← hv]; simp [h0]
    have Hv := hide d1
    clear hv ha hb hd
    go_enter Try.func47, Try.ntmps47
    go_wp2_with (go_at_call 50; (with_reducible refine (K.out _).mono ?_); rintro e w3 ⟨rfl, rfl⟩)
    go_ret
    exact ⟨rfl, rfl⟩
  · have d0 : decide ((0 : Int) ≤ e) = false := decide_eq_false h0
    have ev : v = false := by rw [← hv]; simp [h0]
    subst ev
    clear hv ha hb hd K
    go_enter Try.func47, Try.ntmps47
    go_wp2_with fail
    go_ret
    exact ⟨rfl, rfl⟩
end
section
open Go Go.RowKit Go.Sort
theorem step_appendS {ops : Array Oper} {o : Oper} {a : Act} {K : Act → World → Prop} {Q : Exit → Act → World → Prop} {w : World} {E : Prop} (hgd : o.guard = none) (s x : Operand)
    (ho : o.op = .call { callee := .builtin .append, args := #[s, x], argTypes := #[22, 22] })
    (B : Nat) (v : Value) (l0 l : List (Int × Int)) (hs : a.eval s = v) (A : Option Addr) (m c : Nat) (hx : a.eval x = .slice A m c) (hown : OwnS B w v l0) (hb : SampsAt w A l) (hm : l.length = m) (hlen : l0.length + l.length ≤ 8796093022208) (hbase : B ≤ w.heap.size)
    (h : ∀ v' w', OwnS B w' v' (l0 ++ l) → w.grownBy w' v.ownBlock → (v'.ownBlock = v.ownBlock ∨ v'.ownBlock = some w.heap.size) → K (a.put o.dst v') w') :
    if Region.wanted o (yielded ops a.tmps) = true then Oper.wp Try.prog o a w K Q else E := by
  have hw : Region.wanted o (yielded ops a.tmps) = true := by simp [Region.wanted, hgd]
  rw [if_pos hw]
  obtain ⟨v', w', hrun, h2, h3, h4⟩ := run_appendS B w o.type v l0 l hown A m c hb hm hlen hbase
  unfold Oper.wp execOp
  simp only [ho, resolve, invoke, builtin, Sem.run_bind, Sem.run_pure, Result.andThen_ok, List.map_toArray, List.map_cons, List.map_nil, hs, hx, hrun]
  exact h v' w' h2 h3 h4
/-- Samples that the call owns, and a bool. -/
def SmRet (o : Option (List (Int × Int))) (W : World) (e : Ending) (w' : World) : Prop := ∃ v, e = .returned (.tuple #[v, .bool o.isSome]) ∧ OwnS W.heap.size w' v (o.getD []) ∧ Ext W w'
def jnL (x y : List Int) : Option (List (Int × Int)) := if x.length = y.length then some (x.zip y) else none
theorem zip_take {x y : List Int} {i : Nat} (hx : i < x.length) (hy : i < y.length) : (x.zip y).take (i + 1) = (x.zip y).take i ++ [(x.getD i 0, y.getD i 0)] := by
  have h : i < (x.zip y).length := by rw [List.length_zip]; omega
  rw [List.take_succ_eq_append_getElem h]
  simp [List.getD_eq_getElem?_getD, hx, hy]
set_option maxHeartbeats 3200000 in
set_option maxRecDepth 100000 in
theorem r_joinS (A A2 : Option Addr) (n n2 c c2 : Nat) (x y : List Int) (W : World) (hx : TimesAt W A x) (hxn : x.length = n) (hy : TimesAt W A2 y) (hyn : y.length = n2) (hn2 : n ≤ 8796093022000) :
    Calls Try.prog 12 #[.slice A n c, .slice A2 n2 c2] W (SmRet (jnL x y) W) := by
  have hn263 : n2 ≤ 9223372036854775807 := by have := hy.2.1; omega
  by_cases hne : n = n2
  · subst hne
    have d0 : ((n : Int) != (n : Int)) = false := by simp
    have e : jnL x y = some (x.zip y) := if_pos (by omega)
    rw [e]
    have HX := hide hx
    have HY := hide hy
    have Hxn := hide hxn
    have Hyn := hide hyn
    have Hx1 := hide hx.1
    have Hy1 := hide hy.1
    have E1 : Hid (Ext W W) := Ext.refl _
    clear hx hy hxn hyn e
    go_enter Try.func12, Try.ntmps12
    go_wp2_with fail
    go_loopw [6, 7] (fun lv iv wr => ∃ i : Nat, i ≤ n ∧ iv = .int .i64 (i : Int) ∧ Hid (OwnS W.heap.size wr lv ((x.zip y).take i)) ∧ Hid (Ext W wr)) (fun _ iv _ => n - (intOf iv).toNat)
    case atStart => exact ⟨0, by omega, rfl, hide (OwnS.nil_ _ _), E1⟩
    case round =>
      clear E1
      obtain ⟨i, hi, rfl, HO, HE⟩ := hrel
      by_cases hlt : i < n
      · have d1 : decide ((i : Int) < (n : Int)) = true := decide_eq_true (by omega)
        have hix : i < x.length := by rw [Hxn.out]; exact hlt
        have hiy : i < y.length := by rw [Hyn.out]; exact hlt
        obtain ⟨b1, o1, rfl, _, hc1⟩ := (HX.out.ext HE.out).2.2 (by omega)
        obtain ⟨b2, o2, rfl, _, hc2⟩ := (HY.out.ext HE.out).2.2 (by omega)
        have c1 := hc1 i hix
        have c2' := hc2 i hiy
        have i1 := Hx1.out.get i
        have i2 := Hy1.out.get i
        have hst := zip_take hix hiy
        obtain ⟨p, hp⟩ : ∃ p, x.getD i 0 = p := ⟨_, rfl⟩
        obtain ⟨q, hq⟩ : ∃ q, y.getD i 0 = q := ⟨_, rfl⟩
        rw [hp] at c1 i1 hst
        rw [hq] at c2' i2 hst
        have g1 : wr.drew.cell? ⟨b1, o1 + i, none⟩ = some (.int .i64 p) := c1
        have g2 : wr.drew.cell? ⟨b2, o2 + i, none⟩ = some (.int .i64 q) := c2'
        have ixa := fun w => idxT b1 o1 n c i hlt w
        have ixb := fun w => idxT b2 o2 n c2 i hlt w
        obtain ⟨T, hT⟩ : ∃ T, (x.zip y).take i = T := ⟨_, rfl⟩
        have hTl : T.length = i := by rw [← hT, List.length_take, List.length_zip]; omega
        rw [hT] at HO hst
        obtain ⟨Ao, co, rfl, _, _, _⟩ := HO.out.at_
        rw [hTl] at HO ⊢
        have Hst := hide hst
        have O3 := hide (HO.out.drew.alloc (.cells #[Value.int .i64 p, Value.int .i64 q] 47))
        have hone := hide (one_atS wr.drew p q i1 i2)
        have E3 := hide (Ext.trans (Ext.trans HE.out (ext_drew wr)) (ext_alloc wr.drew (.cells #[Value.int .i64 p, Value.int .i64 q] 47)))
        have hle : T.length + [(p, q)].length ≤ 8796093022208 := by rw [hTl]; simp; omega
        clear hc1 hc2 c1 c2' hp hq hst hT hix hiy HO HE hTl
        go_upto_region 7 with fail
        go_region_law (refine step_appendS rfl (.tmp 19) (.tmp 29) rfl W.heap.size (.slice Ao i co) T [(p, q)] rfl (some ⟨wr.heap.size, 0, none⟩) 1 1 rfl O3.out hone.out rfl hle E3.out.size ?_; intro v6 w6 hO6 hG6 hA6)
        all_goals
          have O6 : Hid (OwnS W.heap.size w6 v6 ((x.zip y).take (i + 1))) := by show OwnS _ _ _ _; rw [Hst.out]; exact hO6
          have E6 := hide (below_grownS E3.out (Nat.le_refl _) O3.out hG6)
          clear hO6 hG6 hA6 O3 E3
          go_wp2_with fail
          go_roundw
          case rel => exact ⟨i + 1, by omega, by go_num, O6, E6⟩
          case measure => simp [intOf]; omega
      · obtain rfl : i = n := by omega
        have d1 : decide ((i : Int) < (i : Int)) = false := decide_eq_false (by omega)
        have hO := HO.out
        rw [List.take_of_length_le (by rw [List.length_zip, Hxn.out, Hyn.out]; omega)] at hO
        have hO := hide hO
        go_wp2_with fail
        go_ret2
        exact ⟨_, rfl, hO.out, HE.out⟩
  · have d0 : ((n : Int) != (n2 : Int)) = true := by rw [bne_iff_ne]; omega
    have e : jnL x y = none := if_neg (by omega)
    rw [e]
    clear hx hy hxn hyn e hne
    go_enter Try.func12, Try.ntmps12
    go_wp2_with fail
    go_ret2
    exact ⟨_, rfl, OwnS.nil_ _ _, Ext.refl _⟩
set_option maxHeartbeats 3200000 in
set_option maxRecDepth 100000 in
theorem r_withinS (A A2 : Option Addr) (n n2 c c2 : Nat) (x y : List (Int × Int)) (ep : Int) (W : World) (hx : SampsAt W A x) (hxn : x.length = n) (hy : SampsAt W A2 y) (hyn : y.length = n2) (hep : I64 ep) (v : Bool) (hv : wiB x y ep = v) :
    Calls Try.prog 33 #[.slice A n c, .slice A2 n2 c2, .int .i64 ep] W (Ret (.bool v) W) := by
  have hn63 : n ≤ 9223372036854775807 := by have := hx.2.1; omega
  have hn263 : n2 ≤ 9223372036854775807 := by have := hy.2.1; omega
  by_cases hne : n = n2
  · subst hne
    have d0 : ((n : Int) != (n : Int)) = false := by simp
    have HX := hide hx
    have HY := hide hy
    have Hxn := hide hxn
    have Hyn := hide hyn
    have Hx1 := hide hx.1
    have Hy1 := hide hy.1
    have Hv := hide hv
    have KN := hide (fun a b (ha : I64 a) (hb : I64 b) v (h : nearV a b ep = v) w => r_nearS a b ep w ha hb hep v h)
    have E1 : Hid (Ext W W) := Ext.refl _
    clear hx hy hxn hyn hv
    go_enter Try.func33, Try.ntmps33
    go_wp2_with fail
    go_loopw [7] (fun iv wr => ∃ i : Nat, i ≤ n ∧ iv = .int .i64 (i : Int) ∧ Hid (Ext W wr) ∧ Hid (∀ j, j < i → (x.getD j (0, 0)).1 = (y.getD j (0, 0)).1 ∧ nearV (x.getD j (0, 0)).2 (y.getD j (0, 0)).2 ep = true)) (fun iv _ => n - (intOf iv).toNat)
    case atStart => exact ⟨0, by omega, rfl, E1, hide (fun j hj => by omega)⟩
    case round =>
      clear E1
      obtain ⟨i, hi, rfl, HE, HT⟩ := hrel
      by_cases hlt : i < n
      · have d1 : decide ((i : Int) < (n : Int)) = true := decide_eq_true (by omega)
        have hix : i < x.length := by rw [Hxn.out]; exact hlt
        have hiy : i < y.length := by rw [Hyn.out]; exact hlt
        obtain ⟨b1, o1, rfl, _, hc1⟩ := (HX.out.ext HE.out).2.2 (by omega)
        obtain ⟨b2, o2, rfl, _, hc2⟩ := (HY.out.ext HE.out).2.2 (by omega)
        have p1 := (hc1 i hix).1
        have p2 := (hc1 i hix).2
        have q1 := (hc2 i hiy).1
        have q2 := (hc2 i hiy).2
        rw [← Nat.add_assoc] at p2 q2
        have j1 := Hx1.out.get i
        have j2 := Hy1.out.get i
        have ixa := fun w => idxS b1 o1 n c i hlt w
        have ixb := fun w => idxS b2 o2 n c2 i hlt w
        have hs : Hid ((x.getD i (0, 0)).1 = (y.getD i (0, 0)).1 → nearV (x.getD i (0, 0)).2 (y.getD i (0, 0)).2 ep = true → ∀ j, j < i + 1 → (x.getD j (0, 0)).1 = (y.getD j (0, 0)).1 ∧ nearV (x.getD j (0, 0)).2 (y.getD j (0, 0)).2 ep = true) := hide (fun h1 h2 j hj => by
          by_cases e : j = i
          · subst e; exact ⟨h1, h2⟩
          · exact HT.out j (by omega))
        have hn : Hid (¬ ((x.getD i (0, 0)).1 = (y.getD i (0, 0)).1 ∧ nearV (x.getD i (0, 0)).2 (y.getD i (0, 0)).2 ep = true) → wiB x y ep = false) := hide (fun h => by
          unfold wiB
          exact decide_eq_false (fun q => h (q.2 i hix)))
        obtain ⟨xt, hxt⟩ : ∃ z, (x.getD i (0, 0)).1 = z := ⟨_, rfl⟩
        obtain ⟨xv, hxv⟩ : ∃ z, (x.getD i (0, 0)).2 = z := ⟨_, rfl⟩
        obtain ⟨yt, hyt⟩ : ∃ z, (y.getD i (0, 0)).1 = z := ⟨_, rfl⟩
        obtain ⟨yv, hyv⟩ : ∃ z, (y.getD i (0, 0)).2 = z := ⟨_, rfl⟩
        rw [hxt] at p1 hs hn
        rw [hxv] at p2 hs hn
        rw [hyt] at q1 hs hn
        rw [hyv] at q2 hs hn
        rw [hxt, hxv] at j1
        rw [hyt, hyv] at j2
        obtain ⟨nv, hnv⟩ : ∃ nv, nearV xv yv ep = nv := ⟨_, rfl⟩
        have KN1 := hide (fun w => KN.out xv yv j1.2 j2.2 nv hnv w)
        rw [hnv] at hs hn
        clear hc1 hc2 hxt hxv hyt hyv hix hiy hnv
        by_cases ht : xt = yt
        · have d2 : (xt != yt) = false := by subst ht; simp
          have Ht := hide ht
          clear ht
          cases nv with
          | true =>
            have hs2 := hide (hs.out Ht.out rfl)
            go_wp2_with fail
            go_quiet ((go_at_call 47; exact Calls.quiet_of_same ((KN1.out _).mono fun _ _ h => ⟨h.1, h.2.symm⟩)))
            go_wp2_with fail
            go_roundw
            case rel => exact ⟨i + 1, by omega, by go_num, hide (HE.out.trans (ext_drewN _ _)), hs2⟩
            case measure => simp [intOf]; omega
          | false =>
            have hn2 := hide (hn.out (by simp))
            go_wp2_with fail
            go_quiet ((go_at_call 47; exact Calls.quiet_of_same ((KN1.out _).mono fun _ _ h => ⟨h.1, h.2.symm⟩)))
            go_wp2_with fail
            go_ret
            refine ⟨?_, HE.out.trans (ext_drewN _ _)⟩
            rw [← Hv.out, hn2.out]
            rfl
        · have d2 : (xt != yt) = true := by rw [bne_iff_ne]; exact ht
          have hn2 := hide (hn.out (fun h => ht h.1))
          clear ht
          go_wp2_with fail
          go_quiet ((go_at_call 47; exact Calls.quiet_of_same ((KN1.out _).mono fun _ _ h => ⟨h.1, h.2.symm⟩)))
          go_wp2_with fail
          go_ret
          refine ⟨?_, HE.out.trans (ext_drewN _ _)⟩
          rw [← Hv.out, hn2.out]
          rfl
      · obtain rfl : i = n := by omega
        have d1 : decide ((i : Int) < (i : Int)) = false := decide_eq_false (by omega)
        go_wp2_with fail
        go_ret
        refine ⟨?_, HE.out⟩
        have e : wiB x y ep = true := decide_eq_true ⟨by rw [Hxn.out, Hyn.out], fun j hj => HT.out j (by rw [Hxn.out] at hj; exact hj)⟩
        rw [← Hv.out, e]
        rfl
  · have d0 : ((n : Int) != (n2 : Int)) = true := by rw [bne_iff_ne]; omega
    have e : v = false := by
      rw [← hv]
      exact decide_eq_false (fun h => hne (by rw [← hxn, ← hyn]; exact h.1))
    subst e
    clear hx hy hxn hyn hne hv
    go_enter Try.func33, Try.ntmps33
    go_wp2_with fail
    go_ret
    exact ⟨rfl, Ext.refl _⟩
end
section
open Go Go.RowKit Go.Sort
theorem r_sameS (A A2 : Option Addr) (n n2 c c2 : Nat) (x y : List (Int × Int)) (W : World) (hx : SampsAt W A x) (hxn : x.length = n) (hy : SampsAt W A2 y) (hyn : y.length = n2) (v : Bool) (hv : wiB x y 0 = v) :
    Calls Try.prog 18 #[.slice A n c, .slice A2 n2 c2] W (Ret (.bool v) W) := by
  have K := hide (r_withinS A A2 n n2 c c2 x y 0 W hx hxn hy hyn ⟨by omega, by omega⟩ v hv)
  clear hx hxn hy hyn hv
  go_enter Try.func18, Try.ntmps18
  go_wp2_with (go_at_call 33; (with_reducible refine (K.out).mono ?_); rintro e w1 ⟨rfl, hE⟩)
  go_ret
  exact ⟨rfl, hE⟩
theorem wiB_self (l : List (Int × Int)) : wiB l l 0 = true := by
  unfold wiB
  refine decide_eq_true ⟨rfl, fun i _ => ⟨rfl, ?_⟩⟩
  unfold nearV
  exact decide_eq_true ⟨by omega, by omega⟩
theorem rgL_take (l : List (Int × Int)) (f t : Int) {i : Nat} (h : i < l.length) : rgL (l.take (i + 1)) f t = rgL (l.take i) f t ++ (if f ≤ (l.getD i (0, 0)).1 ∧ (l.getD i (0, 0)).1 ≤ t then [l.getD i (0, 0)] else []) := by
  rw [List.take_succ_eq_append_getElem h]
  have e : l.getD i (0, 0) = l[i] := by simp [List.getD_eq_getElem?_getD, h]
  rw [e]
  unfold rgL
  rw [List.filter_append]
  congr 1
  by_cases h1 : f ≤ l[i].1 <;> by_cases h2 : l[i].1 ≤ t <;> simp [h1, h2]
theorem rgL_len (l : List (Int × Int)) (f t : Int) : (rgL l f t).length ≤ l.length := List.length_filter_le _ _
set_option maxHeartbeats 3200000 in
set_option maxRecDepth 100000 in
theorem r_rangeS (A : Option Addr) (n c : Nat) (l : List (Int × Int)) (f t : Int) (W : World) (hl : SampsAt W A l) (hn : l.length = n) (hn2 : n ≤ 8796093022000) :
    Calls Try.prog 34 #[.slice A n c, .int .i64 f, .int .i64 t] W fun e w' => ∃ v, e = .returned v ∧ OwnS W.heap.size w' v (rgL l f t) ∧ Ext W w' := by
  have Hs := hide hl.1
  have M1 := hide hl
  have Hm := hide hn
  have E1 : Hid (Ext W W) := Ext.refl _
  clear hl hn
  go_enter Try.func34, Try.ntmps34
  go_wp2_with fail
  go_loopw [7, 8] (fun lv iv wr => ∃ i : Nat, i ≤ n ∧ iv = .int .i64 (i : Int) ∧ Hid (OwnS W.heap.size wr lv (rgL (l.take i) f t)) ∧ Hid (Ext W wr)) (fun _ iv _ => n - (intOf iv).toNat)
  case atStart => exact ⟨0, by omega, rfl, hide (OwnS.nil_ _ _), E1⟩
  case round =>
    clear E1
    obtain ⟨i, hi, rfl, HO, HE⟩ := hrel
    by_cases hlt : i < n
    · have d0 : decide ((i : Int) < (n : Int)) = true := decide_eq_true (by omega)
      have him : i < l.length := by rw [Hm.out]; exact hlt
      obtain ⟨bm, om, rfl, _, hc⟩ := (M1.out.ext HE.out).2.2 (by omega)
      have ct := (hc i him).1
      have cv := (hc i him).2
      rw [← Nat.add_assoc] at cv
      have ix := fun w => idxS bm om n c i hlt w
      have hst := rgL_take l f t him
      have hj := Hs.out.get i
      have hTl : (rgL (l.take i) f t).length ≤ i := Nat.le_trans (rgL_len _ _ _) (by rw [List.length_take]; omega)
      obtain ⟨pt, hpt⟩ : ∃ z, (l.getD i (0, 0)).1 = z := ⟨_, rfl⟩
      obtain ⟨pv, hpv⟩ : ∃ z, (l.getD i (0, 0)).2 = z := ⟨_, rfl⟩
      have hpp : l.getD i (0, 0) = (pt, pv) := by rw [← hpt, ← hpv]
      rw [hpt, hpp] at hst
      rw [hpt] at ct hj
      rw [hpv] at cv hj
      obtain ⟨T, hT⟩ : ∃ T, rgL (l.take i) f t = T := ⟨_, rfl⟩
      rw [hT] at HO hst hTl
      clear hc him hpt hpv hpp hT
      by_cases h1 : f ≤ pt
      · have d1 : decide (f ≤ pt) = true := decide_eq_true h1
        by_cases h2 : pt ≤ t
        · have d2 : decide (pt ≤ t) = true := decide_eq_true h2
          rw [if_pos ⟨h1, h2⟩] at hst
          have Hst := hide hst
          have O3 := hide (HO.out.alloc (.cells #[Value.int .i64 pt, Value.int .i64 pv] 47))
          have hone := hide (one_atS wr pt pv hj.1 hj.2)
          have E3 := hide (Ext.trans HE.out (ext_alloc wr (.cells #[Value.int .i64 pt, Value.int .i64 pv] 47)))
          have hle : T.length + [(pt, pv)].length ≤ 8796093022208 := by simp; omega
          clear hst h1 h2 HO HE
          go_wp2_with (at_builtin; refine wl_appendS rfl (.tmp 31) (.tmp 36) rfl W.heap.size _ T [(pt, pv)] rfl O3.out _ 1 1 rfl hone.out rfl hle E3.out.size ?_; intro v6 w6 hO6 hG6 hA6)
          have O6 : Hid (OwnS W.heap.size w6 v6 (rgL (l.take (i + 1)) f t)) := by show OwnS _ _ _ _; rw [Hst.out]; exact hO6
          have E6 := hide (below_grownS E3.out (Nat.le_refl _) O3.out hG6)
          clear hO6 hG6 hA6 O3 E3
          go_roundw
          case rel => exact ⟨i + 1, by omega, by go_num, O6, E6⟩
          case measure => simp [intOf]; omega
        · have d2 : decide (pt ≤ t) = false := decide_eq_false h2
          rw [if_neg (fun h => h2 h.2), List.append_nil] at hst
          have O6 := hide (show OwnS W.heap.size wr _ (rgL (l.take (i + 1)) f t) by rw [hst]; exact HO.out)
          clear hst h1 h2
          go_wp2_with fail
          go_roundw
          case rel => exact ⟨i + 1, by omega, by go_num, O6, HE⟩
          case measure => simp [intOf]; omega
      · have d1 : decide (f ≤ pt) = false := decide_eq_false h1
        rw [if_neg (fun h => h1 h.1), List.append_nil] at hst
        have O6 := hide (show OwnS W.heap.size wr _ (rgL (l.take (i + 1)) f t) by rw [hst]; exact HO.out)
        clear hst h1
        go_wp2_with fail
        go_roundw
        case rel => exact ⟨i + 1, by omega, by go_num, O6, HE⟩
        case measure => simp [intOf]; omega
    · obtain rfl : i = n := by omega
      have d0 : decide ((i : Int) < (i : Int)) = false := decide_eq_false (by omega)
      have hO := HO.out
      rw [List.take_of_length_le (by rw [Hm.out]; omega)] at hO
      have hO := hide hO
      go_wp2_with fail
      go_ret
      exact ⟨_, rfl, hO.out, HE.out⟩
end
section
open Go Go.RowKit Go.Sort
theorem info_sl : (Try.prog.info? 22).map (fun i => (i.zero, i.size, i.bytes)) = some (some (.slice none 0 0), 1, 24) := by kernel_rfl
/-- The slice v owns the cells vs, each a slice. -/
def OwnV (B : Nat) (w : World) (v : Value) (vs : List Value) : Prop := w.ownsRow B 22 1 v vs.length vs ∧ ∀ u ∈ vs, u.oneCell' = true
theorem OwnV.nil_ (B : Nat) (w : World) : OwnV B w (.slice none 0 0) [] := ⟨World.ownsRow_nil _ _ _ _, by simp⟩
theorem OwnV.kept {B : Nat} {w w' : World} {v : Value} {l : List Value} (h : OwnV B w v l) {row : Option Nat} (hg : w.grownBy w' row) (hne : v.ownBlock = none ∨ v.ownBlock ≠ row) : OwnV B w' v l := ⟨h.1.kept hg hne, h.2⟩
theorem OwnV.alloc {B : Nat} {w : World} {v : Value} {l : List Value} (h : OwnV B w v l) (o : Obj) : OwnV B (w.alloc o) v l := ⟨h.1.alloc o, h.2⟩
theorem OwnV.ext {B : Nat} {w w' : World} {v : Value} {l : List Value} (h : OwnV B w v l) (e : Ext w w') : OwnV B w' v l := by
  refine ⟨?_, h.2⟩
  obtain ⟨h1, h2 | ⟨g, cap, cur, hv, hg, hh, r⟩⟩ := h.1
  · exact ⟨h1, Or.inl h2⟩
  · exact ⟨h1, Or.inr ⟨g, cap, cur, hv, hg, by rw [e.block g (Array.getElem?_eq_some_iff.1 hh).1]; exact hh, r⟩⟩
theorem OwnV.less {B B' : Nat} {w : World} {v : Value} {l : List Value} (h : OwnV B w v l) (hB : B' ≤ B) : OwnV B' w v l := by
  refine ⟨?_, h.2⟩
  obtain ⟨h1, h2 | ⟨g, cap, cur, hv, hg, r⟩⟩ := h.1
  · exact ⟨h1, Or.inl h2⟩
  · exact ⟨h1, Or.inr ⟨g, cap, cur, hv, by omega, r⟩⟩
theorem OwnV.at_ {B : Nat} {w : World} {v : Value} {l : List Value} (h : OwnV B w v l) : ∃ A cap, v = .slice A l.length cap ∧ l.length ≤ cap ∧ cap ≤ 9223372036854775807 ∧ (0 < l.length → ∃ g, A = some ⟨g, 0, none⟩ ∧ B ≤ g ∧ g < w.heap.size ∧ ∀ j u, l[j]? = some u → w.cell? ⟨g, j, none⟩ = some u) := by
  rcases h.1.2 with ⟨rfl, h0⟩ | ⟨g, cap, cur, rfl, hg, hh, hnc, hcp, hcs, htake⟩
  · exact ⟨none, 0, by rw [h0], by omega, by omega, fun hp => by omega⟩
  · unfold maxLen at hcp
    refine ⟨_, cap, rfl, hnc, hcp, fun _ => ⟨g, rfl, hg, (Array.getElem?_eq_some_iff.1 hh).1, fun j u hu => ?_⟩⟩
    have := h.1.cells (g := g) rfl j u hu
    have e : (⟨g, 0, none⟩ : Addr).add j = ⟨g, 0 + j, none⟩ := by unfold Addr.add; split <;> simp_all
    rw [e, Nat.zero_add] at this
    exact this
theorem run_appendV (B : Nat) (w : World) (ty : TypeId) (v : Value) (l0 : List Value) (hown : OwnV B w v l0) (g : Nat) (u : Value) (hu : w.cell? ⟨g, 0, none⟩ = some u) (hu1 : u.oneCell' = true) (hlen : l0.length + 1 ≤ 5864062014805) (hbase : B ≤ w.heap.size) :
    ∃ v' w', (Builtin.append_ #[40, 40] ty #[v, .slice (some ⟨g, 0, none⟩) 1 1]).run Try.prog w = .ok v' w' ∧ OwnV B w' v' (l0 ++ [u]) ∧ w.grownBy w' v.ownBlock ∧ (v'.ownBlock = v.ownBlock ∨ v'.ownBlock = some w.heap.size) := by
  obtain ⟨i0, hi0, hz0, hz1, hz2⟩ := info_parts2 info_sl
  have h63 : l0.length + 1 ≤ maxLen := by unfold maxLen; omega
  have hcells : ∀ j x, [u][j]? = some x → w.cell? ((⟨g, 0, none⟩ : Addr).add j) = some x := by
    intro j x hx
    cases j with
    | zero =>
      simp only [List.getElem?_cons_zero, Option.some.injEq] at hx
      subst hx
      rw [add_at, Nat.zero_add]
      exact hu
    | succ j => simp at hx
  obtain ⟨v', w', hrun, h2, h3, _, h5⟩ := run_append_own_at (P := Try.prog) w B 40 ty 22 i0 _ 1 24 Try.underlying40 hi0 hz0 hz1 hz2 rfl (by omega) v l0.length l0 hown.1 ⟨g, 0, none⟩ 1 1 [u] rfl hcells (by intro x hx; simp at hx; subst hx; exact hu1) h63 (by omega) hbase
  refine ⟨v', w', hrun, ⟨?_, ?_⟩, h3, h5⟩
  · rw [List.length_append]; exact h2
  · intro x hx
    rcases List.mem_append.1 hx with h | h
    · exact hown.2 x h
    · simp at h; subst h; exact hu1
/-- The same near the greatest lengths: a quarter more than both together is at most 2^48 bytes. -/
theorem run_appendVw (B : Nat) (w : World) (ty : TypeId) (v : Value) (l0 : List Value) (hown : OwnV B w v l0) (g : Nat) (u : Value) (hu : w.cell? ⟨g, 0, none⟩ = some u) (hu1 : u.oneCell' = true) (hlen : l0.length + 1 ≤ 9382499223000) (hbase : B ≤ w.heap.size) :
    ∃ v' w', (Builtin.append_ #[40, 40] ty #[v, .slice (some ⟨g, 0, none⟩) 1 1]).run Try.prog w = .ok v' w' ∧ OwnV B w' v' (l0 ++ [u]) ∧ w.grownBy w' v.ownBlock ∧ (v'.ownBlock = v.ownBlock ∨ v'.ownBlock = some w.heap.size) := by
  by_cases hsm : l0.length + 1 ≤ 5864062014805
  · exact run_appendV B w ty v l0 hown g u hu hu1 hsm hbase
  · obtain ⟨i0, hi0, hz0, hz1, hz2⟩ := info_parts2 info_sl
    have h63 : l0.length + 1 ≤ maxLen := by unfold maxLen; omega
    have hcells : ∀ j x, [u][j]? = some x → w.cell? ((⟨g, 0, none⟩ : Addr).add j) = some x := by
      intro j x hx
      cases j with
      | zero =>
        simp only [List.getElem?_cons_zero, Option.some.injEq] at hx
        subst hx
        rw [add_at, Nat.zero_add]
        exact hu
      | succ j => simp at hx
    have hone : ∀ x ∈ [u], x.oneCell' = true := by intro x hx; simp at hx; subst hx; exact hu1
    obtain ⟨v', w', hrun, h2, h3, h4⟩ := run_append_own_wide (P := Try.prog) w B 40 ty 22 i0 _ 1 24 Try.underlying40 hi0 hz0 hz1 hz2 rfl (by omega) v l0.length l0 hown.1 ⟨g, 0, none⟩ 1 1 [u] rfl hcells hone h63 (by omega) hbase
    refine ⟨v', w', hrun, ⟨by rw [List.length_append]; exact h2, ?_⟩, h3, ?_⟩
    · intro x hx
      rcases List.mem_append.1 hx with h | h
      · exact hown.2 x h
      · exact hone x h
    · obtain ⟨ho1, ⟨rfl, h0⟩ | ⟨g', cap, cur, rfl, hbg, hg, hnc, hcm, hcs, htake⟩⟩ := hown.1
      · omega
      · by_cases hroom : l0.length + 1 ≤ cap
        · have hr := run_append_room (P := Try.prog) w 40 ty 22 i0 Try.underlying40 hi0 g' l0.length cap cur hg ⟨g, 0, none⟩ 1 1 [u] (by rw [hz1]; rfl) hcells hone hroom (by rw [hz1, hcs]; simp; omega)
          rw [hr] at hrun
          injection hrun with e1 e2
          left
          rw [← e1]
          rfl
        · have holds : ∀ j x, l0[j]? = some x → w.cell? ((⟨g', 0, none⟩ : Addr).add j) = some x := hown.1.cells (g := g') rfl
          have hr := run_append_grow (P := Try.prog) w 40 ty 22 i0 _ Try.underlying40 hi0 hz0 ⟨g', 0, none⟩ l0.length cap l0 (by rw [hz1]; omega) holds ⟨g, 0, none⟩ 1 1 [u] (by rw [hz1]; rfl) hcells (by omega) (by omega) (by rw [hz2]; exact growslice_fits_wide (by omega) (by omega))
          rw [hr] at hrun
          injection hrun with e1 e2
          right
          rw [← e1]
          rfl
theorem wl_appendV {ops : Array Oper} {rest : List Oper} {o : Oper} {a : Act} {Q : Exit → Act → World → Prop} {w : World} (hgd : o.guard = none) (s x : Operand)
    (ho : o.op = .call { callee := .builtin .append, args := #[s, x], argTypes := #[40, 40] })
    (B : Nat) (v : Value) (l0 : List Value) (hs : a.eval s = v) (hown : OwnV B w v l0) (g : Nat) (hx : a.eval x = .slice (some ⟨g, 0, none⟩) 1 1) (u : Value) (hu : w.cell? ⟨g, 0, none⟩ = some u) (hu1 : u.oneCell' = true) (hlen : l0.length + 1 ≤ 9382499223000) (hbase : B ≤ w.heap.size)
    (h : ∀ v' w', OwnV B w' v' (l0 ++ [u]) → w.grownBy w' v.ownBlock → (v'.ownBlock = v.ownBlock ∨ v'.ownBlock = some w.heap.size) → wpList Try.prog ops Q rest (a.put o.dst v') w') : wpList Try.prog ops Q (o :: rest) a w :=
  wpList_plain hgd fun _ hK => by
    obtain ⟨v', w', hrun, h2, h3, h4⟩ := run_appendVw B w o.type v l0 hown g u hu hu1 hlen hbase
    unfold Oper.wp execOp
    simp only [ho, resolve, invoke, builtin, Sem.run_bind, Sem.run_pure, Result.andThen_ok, List.map_toArray, List.map_cons, List.map_nil, hs, hx, hrun]
    exact hK _ _ (h v' w' h2 h3 h4)
/-- The parts: each owned. -/
def PartsAt (B : Nat) (w : World) (vs : List Value) (ps : List (List (Int × Int))) : Prop := vs.length = ps.length ∧ ∀ i, i < vs.length → OwnS B w (vs.getD i (.slice none 0 0)) (ps.getD i [])
theorem PartsAt.ext {B : Nat} {w w' : World} {vs : List Value} {ps : List (List (Int × Int))} (h : PartsAt B w vs ps) (e : Ext w w') : PartsAt B w' vs ps := ⟨h.1, fun i hi => (h.2 i hi).ext e⟩
/-- What Cut keeps: the list of parts, the parts, and the part that is under way, all in blocks of their own. -/
structure Cs (W : World) (w : World) (ov : Value) (vs : List Value) (ps : List (List (Int × Int))) (pv : Value) (p : List (Int × Int)) : Prop where
  e : Ext W w
  o : OwnV W.heap.size w ov vs
  p : OwnS W.heap.size w pv p
  ps : PartsAt W.heap.size w vs ps
  n1 : ∀ g, ov.ownBlock = some g → pv.ownBlock ≠ some g
  n2 : ∀ i, i < vs.length → ∀ g, (vs.getD i (.slice none 0 0)).ownBlock = some g → pv.ownBlock ≠ some g ∧ ov.ownBlock ≠ some g
section
variable {W w w' : World} {ov : Value} {vs : List Value} {ps : List (List (Int × Int))} {pv : Value} {p : List (Int × Int)}
theorem ne_row {a b : Option Nat} (h : ∀ g, a = some g → b ≠ some g) : a = none ∨ a ≠ b := by
  cases a with
  | none => exact Or.inl rfl
  | some g => exact Or.inr (fun e => h g rfl e.symm)
theorem Cs.ext (s : Cs W w ov vs ps pv p) (k : Ext w w') : Cs W w' ov vs ps pv p := ⟨s.e.trans k, s.o.ext k, s.p.ext k, s.ps.ext k, s.n1, s.n2⟩
theorem Cs.growP (s : Cs W w ov vs ps pv p) {pv' : Value} {p' : List (Int × Int)} (hO : OwnS W.heap.size w' pv' p') (hG : w.grownBy w' pv.ownBlock) (hA : pv'.ownBlock = pv.ownBlock ∨ pv'.ownBlock = some w.heap.size) : Cs W w' ov vs ps pv' p' := by
  have lt1 : ∀ g, ov.ownBlock = some g → g < w.heap.size := fun g e => (s.o.1.lt g e).2
  have lt2 : ∀ i, i < vs.length → ∀ g, (vs.getD i (.slice none 0 0)).ownBlock = some g → g < w.heap.size := fun i hi g e => ((s.ps.2 i hi).1.lt g e).2
  refine ⟨below_grownS s.e (Nat.le_refl _) s.p hG, s.o.kept hG (ne_row s.n1), hO, ⟨s.ps.1, fun i hi => (s.ps.2 i hi).kept hG (ne_row fun g e => (s.n2 i hi g e).1)⟩, fun g e => ?_, fun i hi g e => ⟨?_, (s.n2 i hi g e).2⟩⟩
  · rcases hA with h | h
    · rw [h]; exact s.n1 g e
    · rw [h]; have := lt1 g e; intro q; injection q with q; omega
  · rcases hA with h | h
    · rw [h]; exact (s.n2 i hi g e).1
    · rw [h]; have := lt2 i hi g e; intro q; injection q with q; omega
theorem Cs.growO (s : Cs W w ov vs ps pv p) {ov' : Value} (hO : OwnV W.heap.size w' ov' (vs ++ [pv])) (hG : w.grownBy w' ov.ownBlock) (hA : ov'.ownBlock = ov.ownBlock ∨ ov'.ownBlock = some w.heap.size) : Cs W w' ov' (vs ++ [pv]) (ps ++ [p]) (.slice none 0 0) [] := by
  have hp : ∀ g, pv.ownBlock = some g → ov.ownBlock ≠ some g := fun g e q => s.n1 g q e
  have ltp : ∀ g, pv.ownBlock = some g → g < w.heap.size := fun g e => (s.p.1.lt g e).2
  have lt2 : ∀ i, i < vs.length → ∀ g, (vs.getD i (.slice none 0 0)).ownBlock = some g → g < w.heap.size := fun i hi g e => ((s.ps.2 i hi).1.lt g e).2
  have hE : Ext W w' := s.e.grown hG s.e.size (fun k hk => (s.o.1.lt k hk).1)
  refine ⟨hE, hO, OwnS.nil_ _ _, ⟨by simp [s.ps.1], fun i hi => ?_⟩, fun g e q => (by cases q), fun i hi g e => ⟨fun q => (by cases q), ?_⟩⟩
  · by_cases h : i < vs.length
    · have h2 : i < ps.length := by rw [← s.ps.1]; exact h
      have e1 : (vs ++ [pv]).getD i (.slice none 0 0) = vs.getD i (.slice none 0 0) := by simp [List.getD_eq_getElem?_getD, List.getElem?_append_left h]
      have e2 : (ps ++ [p]).getD i [] = ps.getD i [] := by simp [List.getD_eq_getElem?_getD, List.getElem?_append_left h2]
      rw [e1, e2]
      exact (s.ps.2 i h).kept hG (ne_row fun g e => (s.n2 i h g e).2)
    · have hi2 : i = vs.length := by simp at hi; omega
      subst hi2
      have e1 : (vs ++ [pv]).getD vs.length (.slice none 0 0) = pv := by simp [List.getD_eq_getElem?_getD]
      have e2 : (ps ++ [p]).getD vs.length [] = p := by rw [s.ps.1]; simp [List.getD_eq_getElem?_getD]
      rw [e1, e2]
      exact s.p.kept hG (ne_row hp)
  · have hb : g < w.heap.size ∧ ov.ownBlock ≠ some g := by
      by_cases h : i < vs.length
      · have e1 : (vs ++ [pv]).getD i (.slice none 0 0) = vs.getD i (.slice none 0 0) := by simp [List.getD_eq_getElem?_getD, List.getElem?_append_left h]
        rw [e1] at e
        exact ⟨lt2 i h g e, (s.n2 i h g e).2⟩
      · have hi2 : i = vs.length := by simp at hi; omega
        subst hi2
        have e1 : (vs ++ [pv]).getD vs.length (.slice none 0 0) = pv := by simp [List.getD_eq_getElem?_getD]
        rw [e1] at e
        exact ⟨ltp g e, hp g e⟩
    rcases hA with h | h
    · rw [h]; exact hb.2
    · rw [h]; intro q; injection q with q; omega
end
end
end Go.Proofs.Ytmgkcgnnfgdapaa
