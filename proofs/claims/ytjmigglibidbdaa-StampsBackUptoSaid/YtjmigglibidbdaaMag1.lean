/- Words in memory: trim, compare and of, of the reference of layer 2. Conditions: the slices are words that lie in memory. -/
import Derived.Test.YtjmigglibidbdaaProg
import Derived.Test.YtjmigglibidbdaaNat
import Derived.Test.YtjmigglibidbdaaPlain
import Derived.WalkSmall
import Derived.Shelf.Spec.BitsCarry
import Derived.Laws.AppendOwnNone
import Derived.Deep.QuietTactic
import Derived.BigQuiet
import Derived.Deep.RegionWith
import Derived.Deep.RegionHeld3
import Derived.Deep.DeepCutAuto
namespace Go.Proofs.Ytjmigglibidbdaa
set_option linter.unusedVariables false
set_option linter.unusedSimpArgs false
open Go Go.RowKit
theorem info_u64 : (Try.prog.info? 52).map (fun i => (i.zero, i.size, i.bytes)) = some (some (.int .u64 0), 1, 8) := by kernel_rfl

def wd (l : List Nat) : List Value := l.map fun x : Nat => Value.int .u64 (x : Int)
/-- The slice v owns the words l: it is nil, or begins at the head of a block from B on. -/
def Words (B : Nat) (w : World) (v : Value) (l : List Nat) : Prop := w.ownsRow B 52 1 v l.length (wd l) ∧ W64 l
def lenOf : Value → Nat | .slice _ n _ => n | _ => 0

theorem rb1 {k : IntKind} {a a' : Int} (h1 : a = a') : Ending.returned (Value.int k a) = .returned (.int k a') := by rw [h1]
theorem hide {p : Prop} (h : p) : Hid p := h
theorem nil_or_snoc {α : Type} (l : List α) : l = [] ∨ ∃ r x, l = r ++ [x] := by
  rcases List.eq_nil_or_concat l with h | ⟨r, x, h⟩
  · exact Or.inl h
  · exact Or.inr ⟨r, x, by rw [h, List.concat_eq_append]⟩
theorem Words.nil {B : Nat} {w : World} {v : Value} (h : Words B w v []) : ∃ a cap, v = .slice a 0 cap ∧ cap ≤ 9223372036854775807 := by
  obtain ⟨⟨_, h1 | ⟨g, cap, cur, e, h1⟩⟩, _⟩ := h
  · exact ⟨_, _, h1.1, by omega⟩
  · refine ⟨_, _, e, ?_⟩; have := h1.2.2.2.1; unfold maxLen at this; omega
theorem Words.pos {B : Nat} {w : World} {v : Value} {l : List Nat} (h : Words B w v l) (n : Nat) (hl : l.length = n) (h0 : 0 < n) : ∃ g cap, v = .slice (some ⟨g, 0, none⟩) n cap ∧ n ≤ cap ∧ cap ≤ 9223372036854775807 ∧ B ≤ g ∧ g < w.heap.size ∧
    (∀ i (hi : i < l.length), w.cell? ⟨g, i, none⟩ = some (.int .u64 (l[i] : Int))) ∧ ∀ i, w.frozen? ⟨g, i, none⟩ = false := by
  subst hl
  obtain ⟨h, _⟩ := h
  have hc := h
  obtain ⟨_, h1 | ⟨g, cap, cur, rfl, hb, hh, hn, hm, _⟩⟩ := h
  · omega
  · refine ⟨g, cap, rfl, hn, by unfold maxLen at hm; omega, hb, ?_, fun i hi => ?_, fun i => hc.frozenAt i⟩
    · exact (hc.lt g rfl).2
    · rw [hc.cellAt i (by omega)]; simp [wd, hi]
theorem Words.pop {B : Nat} {w : World} {g cap : Nat} {l : List Nat} {x : Nat} (h : Words B w (.slice (some ⟨g, 0, none⟩) (l.length + 1) cap) (l ++ [x])) : Words B w (.slice (some ⟨g, 0, none⟩) l.length cap) l := by
  refine ⟨ownsRow_pop (last := [.int .u64 (x : Int)]) (by simp [wd]) ?_, fun y hy => h.2 y (by simp [hy])⟩
  have := h.1
  simpa [wd] using this
theorem Words.ext {B : Nat} {w w' : World} {v : Value} {l : List Nat} (h : Words B w v l) (k : Below w.heap.size w w') : Words B w' v l := by
  refine ⟨?_, h.2⟩
  obtain ⟨h1, h2 | ⟨g, cap, cur, hv, hg, hh, r⟩⟩ := h.1
  · exact ⟨h1, Or.inl h2⟩
  · have hlt := (h.1.lt g (by rw [hv]; rfl)).2
    exact ⟨h1, Or.inr ⟨g, cap, cur, hv, hg, by rw [k.block g hlt]; exact hh, r⟩⟩
theorem Words.base {B B' : Nat} {w : World} {v : Value} {l : List Nat} (h : Words B w v l) (k : B' ≤ B) : Words B' w v l := by
  refine ⟨?_, h.2⟩
  obtain ⟨h1, h2 | ⟨g, cap, cur, hv, hg, r⟩⟩ := h.1
  · exact ⟨h1, Or.inl h2⟩
  · exact ⟨h1, Or.inr ⟨g, cap, cur, hv, by omega, r⟩⟩
/-- One world after the other: what was there is as it was. -/
def Ext (w w' : World) : Prop := Below w.heap.size w w'
theorem Ext.refl (w : World) : Ext w w := Below.refl _ _
theorem Ext.trans {a b c : World} (h : Ext a b) (k : Ext b c) : Ext a c := Below.trans h (Below.mono k h.size)
theorem ext_drewN (w : World) (n : Nat) : Ext w (w.drewN n) := ⟨rfl, rfl, rfl, Nat.le_refl _, fun _ _ => rfl⟩
theorem ext_drew (w : World) : Ext w w.drew := ⟨rfl, rfl, rfl, Nat.le_refl _, fun _ _ => rfl⟩
theorem ext_alloc (w : World) (o : Obj) : Ext w (w.alloc o) := (Below.refl _ _).alloc (Nat.le_refl _) o
def SomeWords (B : Nat) (l : List Nat) (w : World) (e : Ending) (w' : World) : Prop := ∃ v, e = .returned v ∧ Words B w' v l ∧ w = w'
theorem cmp_lt (l m : List Nat) (k : Nat) (h1 : k < l.length) (h2 : k < m.length) (hl : W64 l) (he : l.drop (k + 1) = m.drop (k + 1)) (hx : l[k] < m[k]) : val l < val m := by
  rw [val_take_drop l k (by omega), val_take_drop m k (by omega), val_drop l k h1, val_drop m k h2, he]
  have h3 := val_lt (l.take k) (w64_take hl k)
  rw [List.length_take, Nat.min_eq_left (by omega)] at h3
  have h4 : 18446744073709551616 ^ k * (l[k] + 18446744073709551616 * val (m.drop (k + 1)) + 1) ≤ 18446744073709551616 ^ k * (m[k] + 18446744073709551616 * val (m.drop (k + 1))) := Nat.mul_le_mul_left _ (by omega)
  rw [Nat.mul_add _ _ 1] at h4
  omega
theorem len_lt {n m : Nat} (h : (limbs n).length < (limbs m).length) : n < m := by
  have h1 := (limbs_len_le (n := n) (k := (limbs n).length)).1 (Nat.le_refl _)
  have h2 : ¬ m < 18446744073709551616 ^ (limbs n).length := fun e => by have := limbs_len_le.2 e; omega
  omega
def sgnN (n m : Nat) : Int := if n < m then -1 else if m < n then 1 else 0
def SomeInt (k : Int) (w : World) (e : Ending) (w' : World) : Prop := e = .returned (.int .i64 k) ∧ Ext w w'
theorem Words.shape {B : Nat} {w : World} {v : Value} {l : List Nat} (h : Words B w v l) (n : Nat) (hl : l.length = n) : ∃ a cap, v = .slice a n cap ∧ n ≤ cap ∧ cap ≤ 9223372036854775807 ∧
    ∀ i (hi : i < l.length), ∃ g, a = some ⟨g, 0, none⟩ ∧ B ≤ g ∧ g < w.heap.size ∧ w.cell? ⟨g, i, none⟩ = some (.int .u64 (l[i] : Int)) := by
  subst hl
  by_cases h0 : 0 < l.length
  · obtain ⟨g, cap, rfl, h1, h2, h3, h4, hc, hf⟩ := h.pos _ rfl h0
    exact ⟨_, _, rfl, h1, h2, fun i hi => ⟨g, rfl, h3, h4, hc i hi⟩⟩
  · have : l = [] := List.eq_nil_of_length_eq_zero (by omega)
    subst this
    obtain ⟨a, cap, rfl, h1⟩ := h.nil
    exact ⟨_, _, rfl, by simp, h1, fun i hi => by simp at hi⟩
/-- The value of the words of a Wide. -/
def mag4 (a b c d : Nat) : Nat := val [a, b, c, d]
def NewWords (B : Nat) (n : Nat) (w : World) (e : Ending) (w' : World) : Prop := ∃ v, e = .returned v ∧ Words B w' v (limbs n) ∧ Ext w w'
theorem words_fresh (B : Nat) (w : World) (cur : Array Value) (g n cap : Nat) (l : List Nat) (hn : l.length = n) (hl : W64 l) (hB : B ≤ w.heap.size) (hg : g = w.heap.size) (hc : n ≤ cap) (hm : cap ≤ maxLen) (hs : cur.size = cap) (ht : cur.toList.take l.length = wd l) :
    Words B (w.alloc (.cells cur 52)) (.slice (some ⟨g, 0, none⟩) n cap) l := by
  subst hg
  subst hn
  exact ⟨⟨by simp [wd], Or.inr ⟨w.heap.size, cap, cur, rfl, hB, heap_alloc_new w _, hc, hm, by omega, by simpa using ht⟩⟩, hl⟩
theorem Words.drew {B : Nat} {w : World} {v : Value} {l : List Nat} (h : Words B w v l) : Words B w.drew v l := h
end Go.Proofs.Ytjmigglibidbdaa
/- Words in memory: append, and add of the reference of layer 2. Conditions: the slices are words that lie in memory, at most 1000 of them. -/
namespace Go.Proofs.Ytjmigglibidbdaa
set_option linter.unusedVariables false
set_option linter.unusedSimpArgs false
open Go Go.RowKit
theorem wd_len (l : List Nat) : (wd l).length = l.length := by simp [wd]
theorem wd_append (a b : List Nat) : wd (a ++ b) = wd a ++ wd b := by simp [wd]
theorem w64_append {a b : List Nat} (h : W64 a) (k : W64 b) : W64 (a ++ b) := fun x hx => by rcases List.mem_append.1 hx with h1 | h1; exact h x h1; exact k x h1
theorem ext_grown {w w' : World} {row : Option Nat} (h : w.grownBy w' row) (hr : ∀ k, row = some k → w.heap.size ≤ k) : Ext w w' := (Below.refl _ _).grown h (Nat.le_refl _) hr
theorem words_empty (B : Nat) (w : World) (g : Nat) (hg : g = w.heap.size) (hB : B ≤ w.heap.size) : Words B (w.alloc (.cells #[] 52)) (.slice (some ⟨g, 0, none⟩) 0 0) [] :=
  words_fresh B w #[] g 0 0 [] rfl (by intro x hx; simp at hx) hB hg (by simp) (by unfold maxLen; omega) (by simp) (by simp [wd])
theorem Words.at {B : Nat} {w : World} {a : Option Addr} {n cap : Nat} {l : List Nat} (h : Words B w (.slice a n cap) l) (i : Nat) (hi : i < l.length) :
    ∃ g, a = some ⟨g, 0, none⟩ ∧ B ≤ g ∧ g < w.heap.size ∧ w.cell? ⟨g, i, none⟩ = some (.int .u64 (l[i] : Int)) ∧ w.frozen? ⟨g, i, none⟩ = false := by
  obtain ⟨g, cap', e, _, _, h3, h4, hc, hf⟩ := h.pos _ rfl (by omega)
  injection e with e1 e2 e3
  exact ⟨g, e1, h3, h4, hc i hi, hf i⟩
theorem Words.set {B : Nat} {w : World} {g n cap : Nat} {l : List Nat} (h : Words B w (.slice (some ⟨g, 0, none⟩) n cap) l) (hn : l.length = n) (k x : Nat) (hx : x < 18446744073709551616) : Words B (w.setCell ⟨g, k, none⟩ (.int .u64 (x : Int))) (.slice (some ⟨g, 0, none⟩) n cap) (l.set k x) := by
  subst hn
  have h1 := (h.1.stored k (.int .u64 (x : Int))).1
  refine ⟨?_, ?_⟩
  · rw [List.length_set, show wd (l.set k x) = (wd l).set k (.int .u64 (x : Int)) by simp [wd, List.map_set]]; exact h1
  · intro y hy
    rcases List.mem_or_eq_of_mem_set hy with h2 | h2
    · exact h.2 y h2
    · omega
theorem ext_set {W w : World} (h : Ext W w) {g : Nat} (hg : W.heap.size ≤ g) (k : Nat) (u : Value) : Ext W (w.setCell ⟨g, k, none⟩ u) := Below.setCell (p := ⟨g, k, none⟩) h hg u
theorem val_set_take (l : List Nat) (k x : Nat) (h : k < l.length) : val ((l.set k x).take (k + 1)) = val (l.take k) + 18446744073709551616 ^ k * x := by
  rw [val_take_succ _ k (by simpa using h), List.getElem_set_self, List.take_set_of_le (Nat.le_refl _)]
theorem drop_set (l : List Nat) (k x : Nat) : (l.set k x).drop (k + 1) = l.drop (k + 1) := by rw [List.drop_set_of_lt (by omega)]
theorem val_take_getD (l : List Nat) (k : Nat) : val (l.take (k + 1)) = val (l.take k) + 18446744073709551616 ^ k * l.getD k 0 := by
  by_cases h : k < l.length
  · rw [val_take_succ l k h]; simp [List.getD, h]
  · rw [List.take_of_length_le (by omega), List.take_of_length_le (by omega)]; simp [List.getD, show l.length ≤ k by omega]
theorem drop_get {l m : List Nat} {k : Nat} (h : l.drop k = m.drop k) (h1 : k < l.length) (h2 : k < m.length) : l[k] = m[k] ∧ l.drop (k + 1) = m.drop (k + 1) := by
  rw [List.drop_eq_getElem_cons h1, List.drop_eq_getElem_cons h2] at h
  injection h with h3 h4
  exact ⟨h3, h4⟩
/-- What has been added so far. -/
def AddRel (p q os : List Nat) (k c : Nat) : Prop := os.length = p.length ∧ os.drop k = p.drop k ∧ c ≤ 1 ∧ val (os.take k) + 18446744073709551616 ^ k * c = val (p.take k) + val (q.take k)
theorem AddRel.step {p q os : List Nat} {k c : Nat} (h : AddRel p q os k c) (hk : k < p.length) (hp : W64 p) (hq : W64 q) :
    AddRel p q (os.set k ((p[k] + q.getD k 0 + c) % 18446744073709551616)) (k + 1) ((p[k] + q.getD k 0 + c) / 18446744073709551616) := by
  obtain ⟨h1, h2, h3, h4⟩ := h
  have hx := w64_get hp k hk
  have hy : q.getD k 0 < 18446744073709551616 := by
    by_cases hkq : k < q.length
    · have := w64_get hq k hkq; simp [List.getD, hkq]; exact this
    · simp [List.getD, show q.length ≤ k by omega]
  refine ⟨by simpa using h1, by rw [drop_set]; exact (drop_get h2 (by omega) hk).2, by omega, ?_⟩
  rw [val_set_take _ _ _ (by omega), val_take_succ p k hk, val_take_getD q k, Nat.pow_succ]
  generalize p[k] = x at *
  generalize q.getD k 0 = y at *
  have e := Nat.div_add_mod (x + y + c) 18446744073709551616
  generalize (x + y + c) / 18446744073709551616 = d at *
  generalize (x + y + c) % 18446744073709551616 = r at *
  grind
theorem AddRel.done {p q os : List Nat} {c : Nat} (h : AddRel p q os p.length c) (hq : q.length ≤ p.length) : val (os ++ [c]) = val p + val q := by
  obtain ⟨h1, _, _, h4⟩ := h
  rw [List.take_of_length_le (by omega), List.take_length, List.take_of_length_le hq] at h4
  rw [val_snoc, h1]; exact h4
theorem words_one (B : Nat) (w : World) (c g : Nat) (hg : g = w.heap.size) (hB : B ≤ w.heap.size) (hc : c < 18446744073709551616) : Words B (w.alloc (.cells #[.int .u64 (c : Int)] 52)) (.slice (some ⟨g, 0, none⟩) 1 1) [c] :=
  words_fresh B w #[.int .u64 (c : Int)] g 1 1 [c] rfl (by intro x hx; simp at hx; omega) hB hg (by simp) (by unfold maxLen; omega) (by simp) (by simp [wd])
end Go.Proofs.Ytjmigglibidbdaa
/- Words in memory: sub of the reference of layer 2. Conditions: the slices are words that lie in memory, at most 1000 of them, and the second number is not greater than the first. -/
namespace Go.Proofs.Ytjmigglibidbdaa
set_option linter.unusedVariables false
set_option linter.unusedSimpArgs false
open Go Go.RowKit
/-- What has been subtracted so far. -/
def SubRel (p q os : List Nat) (k c : Nat) : Prop := os.length = p.length ∧ os.drop k = p.drop k ∧ c ≤ 1 ∧ val (os.take k) + val (q.take k) = val (p.take k) + 18446744073709551616 ^ k * c
theorem SubRel.step {p q os : List Nat} {k c : Nat} (h : SubRel p q os k c) (hk : k < p.length) (hp : W64 p) (hq : W64 q) :
    SubRel p q (os.set k ((p[k] + 18446744073709551616 - q.getD k 0 - c) % 18446744073709551616)) (k + 1) (if p[k] < q.getD k 0 + c then 1 else 0) := by
  obtain ⟨h1, h2, h3, h4⟩ := h
  have hx := w64_get hp k hk
  have hy : q.getD k 0 < 18446744073709551616 := by
    by_cases hkq : k < q.length
    · have := w64_get hq k hkq; simp [List.getD, hkq]; exact this
    · simp [List.getD, show q.length ≤ k by omega]
  refine ⟨by simpa using h1, by rw [drop_set]; exact (drop_get h2 (by omega) hk).2, by split <;> omega, ?_⟩
  rw [val_set_take _ _ _ (by omega), val_take_succ p k hk, val_take_getD q k, Nat.pow_succ]
  generalize p[k] = x at *
  generalize q.getD k 0 = y at *
  obtain ⟨r, hr⟩ : ∃ r, (x + 18446744073709551616 - y - c) % 18446744073709551616 = r := ⟨_, rfl⟩
  rw [hr]
  split
  · have e : r + y + c = x + 18446744073709551616 := by omega
    grind
  · have e : r + y + c = x := by omega
    grind
theorem SubRel.done {p q os : List Nat} {c : Nat} (h : SubRel p q os p.length c) (hq : q.length ≤ p.length) (ho : W64 os) (hle : val q ≤ val p) : val os = val p - val q := by
  obtain ⟨h1, _, h3, h4⟩ := h
  rw [List.take_of_length_le (by omega), List.take_length, List.take_of_length_le hq] at h4
  have h5 := val_lt os ho
  rw [h1] at h5
  have : c = 0 ∨ c = 1 := by omega
  rcases this with rfl | rfl
  · simp at h4; omega
  · simp at h4; omega
end Go.Proofs.Ytjmigglibidbdaa
/- The Wide that the reference of layer 2 builds of a sign and words, and when it is one. Conditions: the slice is words that lie in memory. -/
namespace Go.Proofs.Ytjmigglibidbdaa
set_option linter.unusedVariables false
set_option linter.unusedSimpArgs false
open Go Go.RowKit
/-- A Wide as a value: its sign and the four words of its absolute value. -/
def wideV (s : Bool) (a b c d : Nat) : Value := .agg #[.bool s, .int .u64 (a : Int), .int .u64 (b : Int), .int .u64 (c : Int), .int .u64 (d : Int)]
def natV (s : Bool) (n : Nat) : Value := wideV s (n % 18446744073709551616) (n / 18446744073709551616 % 18446744073709551616) (n / 340282366920938463463374607431768211456 % 18446744073709551616) (n / 6277101735386680763835789423207666416102355444464034512896 % 18446744073709551616)
theorem cell_of_block {w : World} {b : Nat} {cur : Array Value} {e : TypeId} (h : w.heap[b]? = some (.cells cur e (0, 0))) (i : Nat) : w.cell? ⟨b, i, none⟩ = cur[i]? := by simp [World.cell?, h]
theorem free_of_block {w : World} {b : Nat} {cur : Array Value} {e : TypeId} (h : w.heap[b]? = some (.cells cur e (0, 0))) (i : Nat) : w.frozen? ⟨b, i, none⟩ = false := by simp [World.frozen?, h]

theorem limbs_getD (n i : Nat) : (limbs n).getD i 0 = n / 18446744073709551616 ^ i % 18446744073709551616 := by
  induction i generalizing n with
  | zero =>
    by_cases h : n = 0
    · subst h; simp [limbs_zero]
    · rw [limbs_pos h]; simp
  | succ i ih =>
    by_cases h : n = 0
    · subst h; simp [limbs_zero]
    · rw [limbs_pos h, List.getD_cons_succ, ih, Nat.div_div_eq_div_mul, Nat.pow_succ, Nat.mul_comm]
def g4 (l : List Nat) (k i : Nat) : Int := if i < k then ((l.getD i 0 : Nat) : Int) else 0
def wcur (s : Bool) (l : List Nat) (k : Nat) : Array Value := #[.bool s, .int .u64 (g4 l k 0), .int .u64 (g4 l k 1), .int .u64 (g4 l k 2), .int .u64 (g4 l k 3)]
theorem wcur_all (s : Bool) (n : Nat) : (Value.agg (wcur s (limbs n) (limbs n).length)) = natV s n := by
  have hg : ∀ i, g4 (limbs n) (limbs n).length i = ((n / 18446744073709551616 ^ i % 18446744073709551616 : Nat) : Int) := by
    intro i
    unfold g4
    split
    · rw [limbs_getD]
    · rename_i h
      rw [← limbs_getD]; simp [List.getD, show (limbs n).length ≤ i by omega]
  unfold wcur natV wideV
  rw [hg 0, hg 1, hg 2, hg 3]
  simp
theorem wcur_set (s : Bool) (l : List Nat) (k : Nat) (hk : k < 4) (hl : k < l.length) : (wcur s l k).setIfInBounds (k + 1) (.int .u64 ((l[k] : Nat) : Int)) = wcur s l (k + 1) := by
  have hd : l.getD k 0 = l[k] := by simp [List.getD, hl]
  have : k = 0 ∨ k = 1 ∨ k = 2 ∨ k = 3 := by omega
  rcases this with rfl | rfl | rfl | rfl <;> simp [wcur, g4, ← hd, Array.setIfInBounds]
theorem wcur_zero (s : Bool) (l : List Nat) (k : Nat) (hk : k < 4) : (wcur s l k)[k + 1]? = some (.int .u64 0) := by
  have : k = 0 ∨ k = 1 ∨ k = 2 ∨ k = 3 := by omega
  rcases this with rfl | rfl | rfl | rfl <;> simp [wcur, g4]
theorem store_block {w : World} {b : Nat} {cur : Array Value} {e : TypeId} (h : w.heap[b]? = some (.cells cur e (0, 0))) (j : Nat) (u : Value) : (w.setCell ⟨b, j, none⟩ u).heap[b]? = some (.cells (cur.setIfInBounds j u) e (0, 0)) := heap_setCell_same w b j cur e u h
theorem two_blocks (w : World) (o p : Obj) : ((w.alloc o).alloc p).heap[w.heap.size]? = some o ∧ ((w.alloc o).alloc p).heap[w.heap.size + 1]? = some p := by
  have h1 := heap_alloc_new w o
  have h2 := heap_alloc_new (w.alloc o) p
  have h3 : (w.alloc o).heap.size = w.heap.size + 1 := by simp
  rw [h3] at h2
  exact ⟨(Below.heap_alloc (w.alloc o) p w.heap.size (by omega)).trans h1, h2⟩
/-- The Wide that is built, and its sign and its number. -/
def Wide4 (v : Value) (o : Bool) (w : World) (e : Ending) (w' : World) : Prop := e = .returned (.tuple #[v, .bool o]) ∧ Ext w w'
/-- Five cells that stand for the number z, whether they are valid or not. -/
def IsW (s : Bool) (a b c d : Nat) (z : Int) : Prop := a < 18446744073709551616 ∧ b < 18446744073709551616 ∧ c < 18446744073709551616 ∧ d < 18446744073709551616 ∧ z = if s then -(mag4 a b c d : Int) else (mag4 a b c d : Int)
/-- .. and are valid. -/
def IsC (s : Bool) (a b c d : Nat) (z : Int) : Prop := IsW s a b c d z ∧ (s = true → z ≠ 0)
theorem IsC.uniq {s s' : Bool} {a b c d a' b' c' d' : Nat} {z : Int} (h : IsC s a b c d z) (k : IsC s' a' b' c' d' z) : s = s' ∧ a = a' ∧ b = b' ∧ c = c' ∧ d = d' := by
  obtain ⟨⟨h1, h2, h3, h4, h5⟩, h6⟩ := h
  obtain ⟨⟨k1, k2, k3, k4, k5⟩, k6⟩ := k
  simp only [mag4, val] at h5 k5
  cases s <;> cases s' <;> simp at * <;> omega
theorem natV_isC (s : Bool) (n : Nat) (h : (limbs n).length ≤ 4) : ∃ a b c d : Nat, natV (s && decide (n ≠ 0)) n = .agg #[.bool (s && decide (n ≠ 0)), .int .u64 (a : Int), .int .u64 (b : Int), .int .u64 (c : Int), .int .u64 (d : Int)] ∧ IsC (s && decide (n ≠ 0)) a b c d (if s then -(n : Int) else n) := by
  have h4 := limbs_len_le.1 h
  refine ⟨_, _, _, _, rfl, ⟨Nat.mod_lt _ (by omega), Nat.mod_lt _ (by omega), Nat.mod_lt _ (by omega), Nat.mod_lt _ (by omega), ?_⟩, ?_⟩
  · simp only [mag4, val]
    by_cases hn : n = 0
    · subst hn; simp
    · cases s <;> simp [hn] <;> omega
  · cases s <;> simp
/-- A Wide and a bool are returned: z and true if it fits, else 0 and false. -/
def WideRet (z : Int) (w : World) (e : Ending) (w' : World) : Prop := ∃ (s : Bool) (a b c d : Nat) (o : Bool), e = .returned (.tuple #[.agg #[.bool s, .int .u64 (a : Int), .int .u64 (b : Int), .int .u64 (c : Int), .int .u64 (d : Int)], .bool o]) ∧
  o = decide (z.natAbs < 115792089237316195423570985008687907853269984665640564039457584007913129639936) ∧ IsC s a b c d (if z.natAbs < 115792089237316195423570985008687907853269984665640564039457584007913129639936 then z else 0) ∧ Ext w w'
end Go.Proofs.Ytjmigglibidbdaa
/- Valid and clean of the reference of layer 2. Conditions: the cells stand for a number. -/
namespace Go.Proofs.Ytjmigglibidbdaa
set_option linter.unusedVariables false
set_option linter.unusedSimpArgs false
open Go Go.RowKit
theorem rbb {b b' : Bool} (h2 : b = b') : Ending.returned (Value.bool b) = .returned (.bool b') := by rw [h2]
def BoolRet (b : Bool) (w : World) (e : Ending) (w' : World) : Prop := e = .returned (.bool b) ∧ Ext w w'
theorem mag_lt {a b c d : Nat} (ha : a < 18446744073709551616) (hb : b < 18446744073709551616) (hc : c < 18446744073709551616) (hd : d < 18446744073709551616) : mag4 a b c d < 115792089237316195423570985008687907853269984665640564039457584007913129639936 := by
  simp only [mag4, val]; omega
theorem len_pos (n : Nat) : 0 < (limbs n).length ↔ n ≠ 0 := by
  have := @limbs_nil n
  rw [← List.length_eq_zero_iff] at this; omega
theorem two_kept {w w' : World} {o p : Obj} (h : Ext ((w.alloc o).alloc p) w') : w'.heap[w.heap.size]? = some o ∧ w'.heap[w.heap.size + 1]? = some p := by
  obtain ⟨h1, h2⟩ := two_blocks w o p
  have hs : ((w.alloc o).alloc p).heap.size = w.heap.size + 1 + 1 := by simp
  exact ⟨(h.block _ (by omega)).trans h1, (h.block _ (by omega)).trans h2⟩
theorem five_cells {w : World} {b : Nat} {v0 v1 v2 v3 v4 : Value} {e : TypeId} (h : w.heap[b]? = some (.cells #[v0, v1, v2, v3, v4] e (0, 0))) :
    w.cell? ⟨b, 0, none⟩ = some v0 ∧ w.cell? ⟨b, 1, none⟩ = some v1 ∧ w.cell? ⟨b, 2, none⟩ = some v2 ∧ w.cell? ⟨b, 3, none⟩ = some v3 ∧ w.cell? ⟨b, 4, none⟩ = some v4 ∧
    w.frozen? ⟨b, 0, none⟩ = false ∧ w.frozen? ⟨b, 1, none⟩ = false ∧ w.frozen? ⟨b, 2, none⟩ = false ∧ w.frozen? ⟨b, 3, none⟩ = false ∧ w.frozen? ⟨b, 4, none⟩ = false := by
  refine ⟨?_, ?_, ?_, ?_, ?_, free_of_block h 0, free_of_block h 1, free_of_block h 2, free_of_block h 3, free_of_block h 4⟩ <;> (rw [cell_of_block h]; rfl)
theorem ext_five {W w : World} (h : Ext W w) {b : Nat} (hb : W.heap.size ≤ b) (u0 u1 u2 u3 u4 : Value) : Ext W (((((w.setCell ⟨b, 0, none⟩ u0).setCell ⟨b, 1, none⟩ u1).setCell ⟨b, 2, none⟩ u2).setCell ⟨b, 3, none⟩ u3).setCell ⟨b, 4, none⟩ u4) :=
  ext_set (ext_set (ext_set (ext_set (ext_set h hb _ _) hb _ _) hb _ _) hb _ _) hb _ _
/-- A Wide is returned that stands for z and is valid. -/
def WideOnly (z : Int) (w : World) (e : Ending) (w' : World) : Prop := ∃ (s : Bool) (a b c d : Nat), e = .returned (.agg #[.bool s, .int .u64 (a : Int), .int .u64 (b : Int), .int .u64 (c : Int), .int .u64 (d : Int)]) ∧ IsC s a b c d z ∧ Ext w w'
end Go.Proofs.Ytjmigglibidbdaa
/- Sign, Of and OfUnsigned of the reference of layer 2. Conditions: the cells stand for a number; the numbers are of 64 bits. -/
namespace Go.Proofs.Ytjmigglibidbdaa
set_option linter.unusedVariables false
set_option linter.unusedSimpArgs false
open Go Go.RowKit
def IntRet (k : IntKind) (x : Int) (w : World) (e : Ending) (w' : World) : Prop := e = .returned (.int k x) ∧ Ext w w'
theorem one_kept {w w' : World} {o : Obj} (h : Ext (w.alloc o) w') : w'.heap[w.heap.size]? = some o := by
  have hs : (w.alloc o).heap.size = w.heap.size + 1 := by simp
  exact (h.block _ (by omega)).trans (heap_alloc_new w o)
end Go.Proofs.Ytjmigglibidbdaa
/- Blocks that hold a Wide. No condition. -/
namespace Go.Proofs.Ytjmigglibidbdaa
set_option linter.unusedVariables false
set_option linter.unusedSimpArgs false
open Go Go.RowKit
theorem keep5 {w w' : World} (h : Ext w w') {b : Nat} {o : Obj} (k : w.heap[b]? = some o) : w'.heap[b]? = some o := by
  have hb : b < w.heap.size := (Array.getElem?_eq_some_iff.1 k).1
  exact (h.block b hb).trans k
theorem three_boxes (w : World) (o p q : Obj) : (((w.alloc o).alloc p).alloc q).heap[w.heap.size]? = some o ∧ (((w.alloc o).alloc p).alloc q).heap[w.heap.size + 1]? = some p ∧ (((w.alloc o).alloc p).alloc q).heap[w.heap.size + 1 + 1]? = some q := by
  obtain ⟨h1, h2⟩ := two_blocks w o p
  have h3 := heap_alloc_new ((w.alloc o).alloc p) q
  have hs : ((w.alloc o).alloc p).heap.size = w.heap.size + 1 + 1 := by simp
  rw [hs] at h3
  exact ⟨keep5 (ext_alloc _ _) h1, keep5 (ext_alloc _ _) h2, h3⟩
theorem Ext.al {w W : World} (h : Ext w W) (o : Obj) : Ext w (W.alloc o) := h.trans (ext_alloc _ _)
theorem Ext.dr {w W : World} (h : Ext w W) : Ext w W.drew := h.trans (ext_drew _)
end Go.Proofs.Ytjmigglibidbdaa
