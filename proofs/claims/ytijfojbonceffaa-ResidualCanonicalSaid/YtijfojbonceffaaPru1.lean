/- Part 1 of what these claims stand on: contracts of the program's and the reference's functions, and plain facts. Conditions: each states its own. -/
import Derived.WalkKit
import Derived.Test.YtijfojbonceffaaProg
import Derived.WalkSmall
import Derived.Shelf.Spec.BitsCarry
import Derived.Laws.AppendOwnNone
import Derived.Deep.QuietTactic
import Derived.BigQuiet
import Derived.Deep.RegionWith
import Derived.Deep.RegionHeld3
import Derived.Deep.DeepCutAuto
import Derived.Laws.StructEq
import Derived.Below
import Derived.ProofKit
import Derived.OpenShut
import Derived.ShutString
import Derived.ChangeOld
import Derived.Lib.SmallJoins
import Derived.Laws.CopyOwn
import Derived.Maps.AppendAt
import Derived.Deep.AppendLies
import Derived.Deep.Draws
import Derived.Lib.BitFns
import Derived.Shelf.Small.Bits
import Derived.OwnWalk
import Derived.Lib.QuietBelow
import Derived.Shelf.Strconv.Itoa0
import Derived.KernelRfl
import Derived.Orders
namespace Go.Proofs.Ytijfojbonceffaa
set_option linter.unusedVariables false
set_option linter.unusedSimpArgs false
section
open Go Go.RowKit
/-- Words, the least significant one first. -/
def val : List Nat → Nat
  | [] => 0
  | x :: r => x + 18446744073709551616 * val r
def W64 (l : List Nat) : Prop := ∀ x ∈ l, x < 18446744073709551616
theorem val_append (a b : List Nat) : val (a ++ b) = val a + 18446744073709551616 ^ a.length * val b := by
  induction a with
  | nil => simp [val]
  | cons x r ih => simp only [List.cons_append, val, ih, List.length_cons, Nat.pow_succ]; grind
theorem val_snoc (a : List Nat) (x : Nat) : val (a ++ [x]) = val a + 18446744073709551616 ^ a.length * x := by rw [val_append]; simp [val]
theorem val_lt (a : List Nat) (h : W64 a) : val a < 18446744073709551616 ^ a.length := by
  induction a with
  | nil => simp [val]
  | cons x r ih =>
    have h1 := ih (fun y hy => h y (by simp [hy]))
    have h2 := h x (by simp)
    simp only [val, List.length_cons, Nat.pow_succ]
    omega
theorem val_take_succ (l : List Nat) (k : Nat) (h : k < l.length) : val (l.take (k + 1)) = val (l.take k) + 18446744073709551616 ^ k * l[k] := by
  rw [List.take_succ_eq_append_getElem h, val_snoc, List.length_take, Nat.min_eq_left (by omega)]
end
section
open Go Go.RowKit
theorem tq (a b : Int) (hb : b ≠ 0) : b * a.tdiv b + a.tmod b = a ∧ (a.tmod b).natAbs < b.natAbs ∧ (0 ≤ a → 0 ≤ a.tmod b) ∧ (a ≤ 0 → a.tmod b ≤ 0) ∧ (a.tdiv b).natAbs ≤ a.natAbs ∧ (2 ≤ b.natAbs → 2 * (a.tdiv b).natAbs ≤ a.natAbs) ∧ (b = 1 → a.tdiv b = a) ∧ (b = -1 → a.tdiv b = -a) := by
  have h1 := Int.mul_tdiv_add_tmod a b
  have h2 := Int.natAbs_tmod a b
  have h3 := Int.natAbs_tdiv a b
  have h4 : a.natAbs % b.natAbs < b.natAbs := Nat.mod_lt _ (by omega)
  have h5 : a.natAbs.div b.natAbs = a.natAbs / b.natAbs := rfl
  have h6 : a.natAbs / b.natAbs ≤ a.natAbs := Nat.div_le_self _ _
  refine ⟨h1, by omega, fun h => Int.tmod_nonneg _ h, fun h => ?_, by omega, fun h => ?_, fun h => by subst h; simp, fun h => by subst h; simp [Int.tdiv_neg]⟩
  · have := Int.tmod_nonneg (a := -a) b (by omega)
    rw [Int.neg_tmod] at this; omega
  · have h7 : b.natAbs * (a.natAbs / b.natAbs) ≤ a.natAbs := Nat.mul_div_le _ _
    have h8 : 2 * (a.natAbs / b.natAbs) ≤ b.natAbs * (a.natAbs / b.natAbs) := Nat.mul_le_mul_right _ h
    omega
end
section
open Go Go.RowKit
def wd (l : List Nat) : List Value := l.map fun x : Nat => Value.int .u64 (x : Int)
/-- The slice v owns the words l: it is nil, or begins at the head of a block from B on. -/
def Words (B : Nat) (w : World) (v : Value) (l : List Nat) : Prop := w.ownsRow B 62 1 v l.length (wd l) ∧ W64 l
def lenOf : Value → Nat | .slice _ n _ => n | _ => 0
theorem rb1 {k : IntKind} {a a' : Int} (h1 : a = a') : Ending.returned (Value.int k a) = .returned (.int k a') := by rw [h1]
theorem hide {p : Prop} (h : p) : Hid p := h
theorem Words.nil {B : Nat} {w : World} {v : Value} (h : Words B w v []) : ∃ a cap, v = .slice a 0 cap ∧ cap ≤ 9223372036854775807 := by
  obtain ⟨⟨_, h1 | ⟨g, cap, cur, e, h1⟩⟩, _⟩ := h
  · exact ⟨_, _, h1.1, by omega⟩
  · refine ⟨_, _, e, ?_⟩; have := h1.2.2.2.1; unfold maxLen at this; omega
theorem Words.pos {B : Nat} {w : World} {v : Value} {l : List Nat} (h : Words B w v l) (n : Nat) (hl : l.length = n) (h0 : 0 < n) : ∃ g cap, v = .slice (some ⟨g, 0, none⟩) n cap ∧ n ≤ cap ∧ cap ≤ 9223372036854775807 ∧ B ≤ g ∧ g < w.heap.size ∧
    (∀ i (hi : i < l.length), w.cell? ⟨g, i, none⟩ = some (.int .u64 (l[i] : Int))) ∧ ∀ i, w.frozen? ⟨g, i, none⟩ = false := by
  subst hl
  obtain ⟨h, _⟩ := h
  have hc := h
  obtain ⟨_, h1 | ⟨g, cap, cur, rfl, hb, hh, hn, hm, _⟩⟩ := h
  · omega
  · refine ⟨g, cap, rfl, hn, by unfold maxLen at hm; omega, hb, ?_, fun i hi => ?_, fun i => hc.frozenAt i⟩
    · exact (hc.lt g rfl).2
    · rw [hc.cellAt i (by omega)]; simp [wd, hi]
theorem Words.ext {B : Nat} {w w' : World} {v : Value} {l : List Nat} (h : Words B w v l) (k : Below w.heap.size w w') : Words B w' v l := by
  refine ⟨?_, h.2⟩
  obtain ⟨h1, h2 | ⟨g, cap, cur, hv, hg, hh, r⟩⟩ := h.1
  · exact ⟨h1, Or.inl h2⟩
  · have hlt := (h.1.lt g (by rw [hv]; rfl)).2
    exact ⟨h1, Or.inr ⟨g, cap, cur, hv, hg, by rw [k.block g hlt]; exact hh, r⟩⟩
theorem Words.base {B B' : Nat} {w : World} {v : Value} {l : List Nat} (h : Words B w v l) (k : B' ≤ B) : Words B' w v l := by
  refine ⟨?_, h.2⟩
  obtain ⟨h1, h2 | ⟨g, cap, cur, hv, hg, r⟩⟩ := h.1
  · exact ⟨h1, Or.inl h2⟩
  · exact ⟨h1, Or.inr ⟨g, cap, cur, hv, by omega, r⟩⟩
/-- One world after the other: what was there is as it was. -/
def Ext (w w' : World) : Prop := Below w.heap.size w w'
theorem Ext.refl (w : World) : Ext w w := Below.refl _ _
theorem Ext.trans {a b c : World} (h : Ext a b) (k : Ext b c) : Ext a c := Below.trans h (Below.mono k h.size)
theorem ext_drewN (w : World) (n : Nat) : Ext w (w.drewN n) := ⟨rfl, rfl, rfl, Nat.le_refl _, fun _ _ => rfl⟩
theorem ext_drew (w : World) : Ext w w.drew := ⟨rfl, rfl, rfl, Nat.le_refl _, fun _ _ => rfl⟩
theorem ext_alloc (w : World) (o : Obj) : Ext w (w.alloc o) := (Below.refl _ _).alloc (Nat.le_refl _) o
theorem Words.drew {B : Nat} {w : World} {v : Value} {l : List Nat} (h : Words B w v l) : Words B w.drew v l := h
open Go Go.RowKit
theorem Words.at {B : Nat} {w : World} {a : Option Addr} {n cap : Nat} {l : List Nat} (h : Words B w (.slice a n cap) l) (i : Nat) (hi : i < l.length) :
    ∃ g, a = some ⟨g, 0, none⟩ ∧ B ≤ g ∧ g < w.heap.size ∧ w.cell? ⟨g, i, none⟩ = some (.int .u64 (l[i] : Int)) ∧ w.frozen? ⟨g, i, none⟩ = false := by
  obtain ⟨g, cap', e, _, _, h3, h4, hc, hf⟩ := h.pos _ rfl (by omega)
  injection e with e1 e2 e3
  exact ⟨g, e1, h3, h4, hc i hi, hf i⟩
theorem Words.set {B : Nat} {w : World} {g n cap : Nat} {l : List Nat} (h : Words B w (.slice (some ⟨g, 0, none⟩) n cap) l) (hn : l.length = n) (k x : Nat) (hx : x < 18446744073709551616) : Words B (w.setCell ⟨g, k, none⟩ (.int .u64 (x : Int))) (.slice (some ⟨g, 0, none⟩) n cap) (l.set k x) := by
  subst hn
  have h1 := (h.1.stored k (.int .u64 (x : Int))).1
  refine ⟨?_, ?_⟩
  · rw [List.length_set, show wd (l.set k x) = (wd l).set k (.int .u64 (x : Int)) by simp [wd, List.map_set]]; exact h1
  · intro y hy
    rcases List.mem_or_eq_of_mem_set hy with h2 | h2
    · exact h.2 y h2
    · omega
/-- What has been added so far. -/
def AddRel (p q os : List Nat) (k c : Nat) : Prop := os.length = p.length ∧ os.drop k = p.drop k ∧ c ≤ 1 ∧ val (os.take k) + 18446744073709551616 ^ k * c = val (p.take k) + val (q.take k)
theorem AddRel.done {p q os : List Nat} {c : Nat} (h : AddRel p q os p.length c) (hq : q.length ≤ p.length) : val (os ++ [c]) = val p + val q := by
  obtain ⟨h1, _, _, h4⟩ := h
  rw [List.take_of_length_le (by omega), List.take_length, List.take_of_length_le hq] at h4
  rw [val_snoc, h1]; exact h4
open Go Go.RowKit
/-- What has been subtracted so far. -/
def SubRel (p q os : List Nat) (k c : Nat) : Prop := os.length = p.length ∧ os.drop k = p.drop k ∧ c ≤ 1 ∧ val (os.take k) + val (q.take k) = val (p.take k) + 18446744073709551616 ^ k * c
theorem SubRel.done {p q os : List Nat} {c : Nat} (h : SubRel p q os p.length c) (hq : q.length ≤ p.length) (ho : W64 os) (hle : val q ≤ val p) : val os = val p - val q := by
  obtain ⟨h1, _, h3, h4⟩ := h
  rw [List.take_of_length_le (by omega), List.take_length, List.take_of_length_le hq] at h4
  have h5 := val_lt os ho
  rw [h1] at h5
  have : c = 0 ∨ c = 1 := by omega
  rcases this with rfl | rfl
  · simp at h4; omega
  · simp at h4; omega
open Go Go.RowKit
theorem cell_of_block {w : World} {b : Nat} {cur : Array Value} {e : TypeId} (h : w.heap[b]? = some (.cells cur e (0, 0))) (i : Nat) : w.cell? ⟨b, i, none⟩ = cur[i]? := by simp [World.cell?, h]
theorem store_block {w : World} {b : Nat} {cur : Array Value} {e : TypeId} (h : w.heap[b]? = some (.cells cur e (0, 0))) (j : Nat) (u : Value) : (w.setCell ⟨b, j, none⟩ u).heap[b]? = some (.cells (cur.setIfInBounds j u) e (0, 0)) := heap_setCell_same w b j cur e u h
open Go Go.RowKit
open Go Go.RowKit
open Go Go.RowKit
theorem Ext.al {w W : World} (h : Ext w W) (o : Obj) : Ext w (W.alloc o) := h.trans (ext_alloc _ _)
end
section
open Go Go.RowKit
/-- One world after the other: what was there is as it was, but for block g. -/
def Upd (g : Nat) (w w' : World) : Prop := w'.os = w.os ∧ w'.tape = w.tape ∧ w'.output = w.output ∧ w.heap.size ≤ w'.heap.size ∧ ∀ k, k < w.heap.size → k ≠ g → w'.heap[k]? = w.heap[k]?
theorem Upd.refl (g : Nat) (w : World) : Upd g w w := ⟨rfl, rfl, rfl, Nat.le_refl _, fun _ _ _ => rfl⟩
theorem Upd.trans {g : Nat} {a b c : World} (h : Upd g a b) (k : Upd g b c) : Upd g a c :=
  ⟨k.1.trans h.1, k.2.1.trans h.2.1, k.2.2.1.trans h.2.2.1, Nat.le_trans h.2.2.2.1 k.2.2.2.1, fun i hi hn => (k.2.2.2.2 i (Nat.lt_of_lt_of_le hi h.2.2.2.1) hn).trans (h.2.2.2.2 i hi hn)⟩
theorem Ext.upd {w w' : World} (h : Ext w w') (g : Nat) : Upd g w w' := ⟨h.os, h.tape, h.output, h.size, fun k hk _ => h.block k hk⟩
theorem Upd.ext {g : Nat} {W w w' : World} (h : Upd g w w') (k : Ext W w) (hg : W.heap.size ≤ g) : Ext W w' :=
  ⟨h.1.trans k.os, h.2.1.trans k.tape, h.2.2.1.trans k.output, Nat.le_trans k.size h.2.2.2.1, fun i hi => (h.2.2.2.2 i (Nat.lt_of_lt_of_le hi k.size) (by omega)).trans (k.block i hi)⟩
theorem upd_set (w : World) (g k : Nat) (u : Value) : Upd g w (w.setCell ⟨g, k, none⟩ u) :=
  ⟨rfl, rfl, rfl, by simp [World.setCell], fun i _ hn => heap_setCell_other w ⟨g, k, none⟩ i u hn⟩
/-- Block g is an array of words. -/
def Arr (w : World) (g : Nat) (T : TypeId) (L : List Nat) : Prop := w.heap[g]? = some (.cells (wd L).toArray T (0, 0))
theorem Arr.at {w : World} {g : Nat} {T : TypeId} {L : List Nat} (h : Arr w g T L) (i : Nat) (hi : i < L.length) : w.cell? ⟨g, i, none⟩ = some (.int .u64 (L[i] : Int)) := by
  rw [cell_of_block h]; simp [wd, hi]
theorem Arr.lt {w : World} {g : Nat} {T : TypeId} {L : List Nat} (h : Arr w g T L) : g < w.heap.size := (Array.getElem?_eq_some_iff.1 h).1
theorem Arr.set {w : World} {g : Nat} {T : TypeId} {L : List Nat} (h : Arr w g T L) (k x : Nat) : Arr (w.setCell ⟨g, k, none⟩ (.int .u64 (x : Int))) g T (L.set k x) := by
  unfold Arr
  rw [store_block h k]
  simp [wd, List.map_set]
theorem Arr.far {w : World} {g b : Nat} {T : TypeId} {L : List Nat} (h : Arr w g T L) (hn : g ≠ b) (k : Nat) (u : Value) : Arr (w.setCell ⟨b, k, none⟩ u) g T L := by
  unfold Arr; rw [heap_setCell_other w ⟨b, k, none⟩ g u hn]; exact h
theorem Arr.ext {w w' : World} {g : Nat} {T : TypeId} {L : List Nat} (h : Arr w g T L) (k : Ext w w') : Arr w' g T L := by
  have := h.lt; unfold Arr; rw [k.block g this]; exact h
theorem Arr.upd {w w' : World} {g b : Nat} {T : TypeId} {L : List Nat} (h : Arr w g T L) (k : Upd b w w') (hn : g ≠ b) : Arr w' g T L := by
  have := h.lt; unfold Arr; rw [k.2.2.2.2 g this hn]; exact h
theorem Arr.drew {w : World} {g : Nat} {T : TypeId} {L : List Nat} (h : Arr w g T L) : Arr w.drew g T L := h
theorem Arr.drewN {w : World} {g : Nat} {T : TypeId} {L : List Nat} (h : Arr w g T L) (n : Nat) : Arr (w.drewN n) g T L := h
open Go Go.RowKit
open Go Go.RowKit
theorem w64_set {l : List Nat} (h : W64 l) (k x : Nat) (hx : x < 18446744073709551616) : W64 (l.set k x) := by
  intro y hy
  rcases List.mem_or_eq_of_mem_set hy with h2 | h2
  · exact h y h2
  · omega
/-- The words of a slice are read. -/
def Reads (w : World) (g o : Nat) (q : List Nat) : Prop := g < w.heap.size ∧ ∀ i (h : i < q.length), w.cell? ⟨g, o + i, none⟩ = some (.int .u64 (q[i] : Int))
theorem Reads.upd {w w' : World} {g b o : Nat} {q : List Nat} (h : Reads w g o q) (k : Upd b w w') (hn : g ≠ b) : Reads w' g o q :=
  ⟨Nat.lt_of_lt_of_le h.1 k.2.2.2.1, fun i hi => (World.cell?_of_block (w := w) (w' := w') (a := ⟨g, o + i, none⟩) (k.2.2.2.2 g h.1 hn)).trans (h.2 i hi)⟩
theorem Reads.ext {w w' : World} {g o : Nat} {q : List Nat} (h : Reads w g o q) (k : Ext w w') : Reads w' g o q :=
  ⟨Nat.lt_of_lt_of_le h.1 k.size, fun i hi => (k.cell (p := ⟨g, o + i, none⟩) h.1).trans (h.2 i hi)⟩
theorem Upd.drewN {g : Nat} {w w' : World} (h : Upd g w w') (n : Nat) : Upd g w (w'.drewN n) := h.trans (Ext.upd (ext_drewN _ _) g)
theorem Upd.drew {g : Nat} {w w' : World} (h : Upd g w w') : Upd g w w'.drew := h.trans (Ext.upd (ext_drew _) g)
theorem Upd.set {g : Nat} {w w' : World} (h : Upd g w w') (k : Nat) (u : Value) : Upd g w (w'.setCell ⟨g, k, none⟩ u) := h.trans (upd_set _ _ _ _)
end
section
open Go Go.RowKit
def U64 (a : Int) : Prop := 0 ≤ a ∧ a ≤ 18446744073709551615
theorem wrap_u64' (n : Int) : IntKind.u64.wrap n = n % 18446744073709551616 := by simp [IntKind.wrap, IntKind.bits, IntKind.signed]
end
section
open Go Go.RowKit
def I64 (a : Int) : Prop := -9223372036854775808 ≤ a ∧ a ≤ 9223372036854775807
/-- A number from 0 to n - 1, or 0 if n is less than 1. -/
def InN (n v : Int) : Prop := 0 ≤ v ∧ (1 ≤ n → v < n) ∧ (n < 1 → v = 0)
def IntIn (P : Int → Prop) (k : IntKind) (w : World) (e : Ending) (w' : World) : Prop := ∃ v : Int, e = .returned (.int k v) ∧ P v ∧ w = w'
def modN (a n : Int) : Int := if n < 1 then 0 else if a.tmod n < 0 then a.tmod n + n else a.tmod n
theorem modN_in (a n : Int) : InN n (modN a n) := by
  unfold InN modN
  have ht := tq a n
  split
  · omega
  · have h2 := (ht (by omega)).2.1
    split <;> omega
theorem t_mod (a n : Int) (w : World) (ha : I64 a) (hn : I64 n) :
    Calls Try.prog 19 #[.int .i64 a, .int .i64 n] w fun e w' => e = .returned (.int .i64 (modN a n)) ∧ w' = w := by
  obtain ⟨a1, a2⟩ := ha
  obtain ⟨n1, n2⟩ := hn
  by_cases h : n < 1
  · go_enter Try.func19, Try.ntmps19
    go_wp2
    go_ret
    exact ⟨rb1 (by simp only [modN]; omega), rfl⟩
  · have t1 : (a.tmod n).natAbs < n.natAbs := (tq a n (by omega)).2.1
    go_enter Try.func19, Try.ntmps19
    go_wp2
    all_goals go_ret
    all_goals exact ⟨rb1 (by simp only [modN]; grind), rfl⟩
/-- The tape lies in block b: its numbers are those of memory below B. -/
def TapeOk (B : Nat) (w : World) (b : Nat) : Prop :=
  B ≤ b ∧ b < w.heap.size ∧ ∃ (a : Option Addr) (len cap at_ : Nat), w.cell? ⟨b, 0, none⟩ = some (.slice a len cap) ∧ w.cell? ⟨b, 1, none⟩ = some (.int .i64 at_) ∧ w.frozen? ⟨b, 1, none⟩ = false ∧ at_ ≤ 9223372036854775807 ∧ len ≤ 9223372036854775807 ∧
    (len = 0 ∨ ∃ xb xo : Nat, a = some ⟨xb, xo, none⟩ ∧ xb < B ∧ len ≤ cap ∧ ∀ i, i < len → ∃ v : Int, I64 v ∧ w.cell? ⟨xb, xo + i, none⟩ = some (.int .i64 v))
theorem TapeOk.below {B b : Nat} {w w' : World} (h : TapeOk B w b) (k : Below (b + 1) w w') : TapeOk B w' b := by
  obtain ⟨h1, h2, a, len, cap, at_, c0, c1, f1, h3, h4, hx⟩ := h
  have hs := k.size
  refine ⟨h1, by omega, a, len, cap, at_, (k.cell (p := ⟨b, 0, none⟩) (by simp)).trans c0, (k.cell (p := ⟨b, 1, none⟩) (by simp)).trans c1, (k.frozen (p := ⟨b, 1, none⟩) (by simp)).trans f1, h3, h4, ?_⟩
  rcases hx with hx | ⟨xb, xo, e, hb, hl, hc⟩
  · exact Or.inl hx
  · refine Or.inr ⟨xb, xo, e, hb, hl, fun i hi => ?_⟩
    obtain ⟨v, hv, cv⟩ := hc i hi
    exact ⟨v, hv, (k.cell (p := ⟨xb, xo + i, none⟩) (by simp; omega)).trans cv⟩
theorem below_drewN' (B : Nat) (w : World) (n : Nat) : Below B w (w.drewN n) := ⟨rfl, rfl, rfl, Nat.le_refl _, fun _ _ => rfl⟩
theorem TapeOk.bump {B b : Nat} {w : World} (h : TapeOk B w b) (k : Int) (h0 : 0 ≤ k) (hk : k ≤ 9223372036854775807) :
    TapeOk B (w.setCell ⟨b, 1, none⟩ (.int .i64 k)) b ∧ Below B w (w.setCell ⟨b, 1, none⟩ (.int .i64 k)) := by
  obtain ⟨k, rfl⟩ := Int.eq_ofNat_of_zero_le h0
  obtain ⟨h1, h2, a, len, cap, at_, c0, c1, f1, h3, h4, hx⟩ := h
  have hb : Below B w (w.setCell ⟨b, 1, none⟩ (.int .i64 k)) := (Below.refl B w).setCell (p := ⟨b, 1, none⟩) h1 _
  refine ⟨⟨h1, by simpa [World.setCell] using h2, a, len, cap, k, ?_, World.cell?_setCell_same _ _ _ c1, ?_, by omega, h4, ?_⟩, hb⟩
  · rw [World.cell?_setCell_other _ _ _ _ (by simp)]; exact c0
  · rw [World.frozen?_setCell]; exact f1
  · rcases hx with hx | ⟨xb, xo, e, hb', hl, hc⟩
    · exact Or.inl hx
    · refine Or.inr ⟨xb, xo, e, hb', hl, fun i hi => ?_⟩
      obtain ⟨v, hv, cv⟩ := hc i hi
      exact ⟨v, hv, (hb.cell (p := ⟨xb, xo + i, none⟩) hb').trans cv⟩
def NextPost (B b : Nat) (P : Int → Prop) (k : IntKind) (w : World) (e : Ending) (w' : World) : Prop := ∃ v : Int, e = .returned (.int k v) ∧ P v ∧ TapeOk B w' b ∧ Upd b w w'
theorem t_next (B b : Nat) (n : Int) (w : World) (hn : I64 n) (hT : TapeOk B w b) :
    Calls Try.prog 20 #[.pointer (some ⟨b, 0, none⟩), .int .i64 n] w (NextPost B b (InN n) .i64 w) := by
  have hT' := hT
  obtain ⟨hB, hb, a, len, cap, at_, c0, c1, f1, h1, h2, hx⟩ := hT'
  by_cases hlt : at_ < len
  · obtain ⟨xb, xo, rfl, hxB, hl, hc⟩ : ∃ xb xo : Nat, a = some ⟨xb, xo, none⟩ ∧ xb < B ∧ len ≤ cap ∧ ∀ i, i < len → ∃ v : Int, I64 v ∧ w.cell? ⟨xb, xo + i, none⟩ = some (.int .i64 v) := by
      rcases hx with hx | hx
      · omega
      · exact hx
    obtain ⟨v, hv, cx⟩ := hc at_ hlt
    have hlt' : ((at_ : Int) < (len : Int)) := by omega
    have hne : ¬ (xb = b) := by omega
    clear hc hx
    have hwr : IntKind.i64.wrap ((at_ : Int) + 1) = (at_ : Int) + 1 := by rw [IntKind.wrap_i64]; omega
    go_enter Try.func20, Try.ntmps20
    go_wp2
    go_quiet (fail)
    go_wp2
    have hw1 : IntKind.i64.wrap ((at_ : Int) + 1 - 1) = (at_ : Int) := by rw [IntKind.wrap_i64]; omega
    have hw0 : (0 : Int) ≤ (at_ : Int) := by omega
    go_quiet ((go_at_call 19; exact Calls.quiet_of_same (t_mod _ _ _ hv hn)))
    go_wp2
    go_ret
    exact ⟨_, rfl, modN_in v n, (TapeOk.bump (hT.below (below_drewN' (b + 1) w _)) _ (by omega) (by omega)).1.below (below_drewN' _ _ _), (((Upd.refl b w).drewN _).set 1 _).drewN _⟩
  · have hge : ((len : Int) ≤ (at_ : Int)) := by omega
    clear hx
    go_enter Try.func20, Try.ntmps20
    go_wp2
    go_quiet (fail)
    go_wp2
    go_ret
    exact ⟨0, rfl, by unfold InN; omega, hT.below (below_drewN' _ _ _), (Upd.refl _ _).drewN _⟩
theorem t_word (B b : Nat) (w : World) (hT : TapeOk B w b) :
    Calls Try.prog 54 #[.pointer (some ⟨b, 0, none⟩)] w (NextPost B b U64 .u64 w) := by
  go_enter Try.func54, Try.ntmps54
  go_wp2_with fail
  go_loopw [3, 4] (fun t i wr => ∃ (k : Nat) (v : Int), k ≤ 4 ∧ i = .int .i64 k ∧ t = .int .u64 v ∧ U64 v ∧ TapeOk B wr b ∧ Upd b w wr) (fun _ i _ => 4 - (intOf i).toNat)
  case atStart => exact ⟨0, 0, by omega, rfl, rfl, by unfold U64; omega, hT, Upd.refl _ _⟩
  case round =>
    obtain ⟨k, v, hk, rfl, rfl, hv, hT', hB⟩ := hrel
    by_cases hlt : k < 4
    · go_wp2_with (go_at_call 20; refine (t_next _ _ _ _ ⟨by omega, by omega⟩ hT').mono ?_; rintro e w' ⟨u, rfl, hu, hT2, hB2⟩)
      exact ⟨⟨k + 1, _, by omega, by go_num, rfl, by unfold U64; rw [wrap_u64']; omega, hT2, hB.trans hB2⟩, by simp [intOf]; omega⟩
    · go_wp2
      go_ret
      exact ⟨_, rfl, hv, hT', hB⟩
theorem t_next' (B b : Nat) (n : Int) (W w : World) (hn : I64 n) (hT : TapeOk B w b) (hW : Upd b W w) :
    Calls Try.prog 20 #[.pointer (some ⟨b, 0, none⟩), .int .i64 n] w (NextPost B b (InN n) .i64 W) :=
  (t_next B b n w hn hT).mono fun _ _ ⟨v, e, h, t, k⟩ => ⟨v, e, h, t, hW.trans k⟩
theorem t_word' (B b : Nat) (W w : World) (hT : TapeOk B w b) (hW : Upd b W w) :
    Calls Try.prog 54 #[.pointer (some ⟨b, 0, none⟩)] w (NextPost B b U64 .u64 W) :=
  (t_word B b w hT).mono fun _ _ ⟨v, e, h, t, k⟩ => ⟨v, e, h, t, hW.trans k⟩
/-- The tape is laid over the numbers of a slice that came in. -/
def NewPost (W : World) (e : Ending) (w' : World) : Prop := e = .returned (.pointer (some ⟨W.heap.size, 0, none⟩)) ∧ TapeOk W.heap.size w' W.heap.size ∧ Below W.heap.size W w'
def IsList (w : World) (a : Option Addr) (len cap : Nat) : Prop :=
  len ≤ 9223372036854775807 ∧ (len = 0 ∨ ∃ xb xo : Nat, a = some ⟨xb, xo, none⟩ ∧ xb < w.heap.size ∧ len ≤ cap ∧ ∀ i, i < len → ∃ v : Int, I64 v ∧ w.cell? ⟨xb, xo + i, none⟩ = some (.int .i64 v))
theorem t_new (W : World) (a : Option Addr) (len cap : Nat) (h : IsList W a len cap) :
    Calls Try.prog 8 #[.slice a len cap] W (NewPost W) := by
  go_enter Try.func8, Try.ntmps8
  go_wp2
  go_ret
  obtain ⟨hl, hx⟩ := h
  have hb : ∀ o, Below W.heap.size W (W.alloc o) := fun o => (Below.refl _ _).alloc (Nat.le_refl _) o
  refine ⟨rfl, ⟨Nat.le_refl _, by simp, a, len, cap, 0, by simp, by simp, ?_, by omega, hl, ?_⟩, hb _⟩
  · go_simp
  · rcases hx with hx | ⟨xb, xo, e, h1, h2, hc⟩
    · exact Or.inl hx
    · refine Or.inr ⟨xb, xo, e, h1, h2, fun i hi => ?_⟩
      obtain ⟨v, hv, cv⟩ := hc i hi
      exact ⟨v, hv, ((hb _).cell (p := ⟨xb, xo + i, none⟩) h1).trans cv⟩
end
section
open Go Go.RowKit
section
open Go Go.ChangeShapes Go.WideShapes Go.ChangeAt Go.RowKit
theorem laidOut : laidOutB Try.prog = true := by kernel_rfl
theorem list_of_trod {H : Type} {enc : TypeId × Value → H} {W : World} {a : Option Addr} {len cap : Nat} {d : DataW H} {ps : List MemPlace} (h : DataW.Trod enc Try.prog W 0 (fun _ => true) true 23 (.slice a len cap) d ps) (_ : ∀ x ∈ ps, x.block < W.heap.size) : IsList W a len cap := by
  obtain ⟨fuel, hf⟩ := h
  rcases open_ints Try.underlying23 Try.underlying3 (by kernel_rfl) hf with ⟨hcs, _⟩ | ⟨x, l, c, zs, hcs, _, hl, hm, hz, _, hcell, hwz⟩
  · simp [Value.cells] at hcs
    obtain ⟨rfl, rfl, rfl⟩ := hcs
    exact ⟨by omega, Or.inl rfl⟩
  · simp [Value.cells] at hcs
    obtain ⟨rfl, rfl, rfl⟩ := hcs
    have hz : zs.length = cap := by simpa using hz
    unfold maxLen at hm
    refine ⟨by omega, ?_⟩
    by_cases h0 : len = 0
    · exact Or.inl h0
    · obtain ⟨b, off, rfl, hc'⟩ := ints_at hcell (by omega)
      refine Or.inr ⟨b, off, rfl, block_lt_of_cell (a := ⟨b, off + 0, none⟩) (hc' 0 (by omega)), hl, fun i hi => ⟨zs.getD i 0, ?_, hc' i (by omega)⟩⟩
      have hg : zs.getD i 0 = zs[i] := by simp [List.getD, show i < zs.length by omega]
      rw [hg]
      exact bounds_i64 (hwz _ (List.getElem_mem _))
end
section
open Go Go.ChangeShapes Go.WideShapes Go.ChangeAt Go.RowKit
end
end
section
open Go Go.RowKit
/-- Block g is just the cells cs. -/
def Blk (w : World) (g : Nat) (t : TypeId) (cs : Array Value) : Prop := w.heap[g]? = some (.cells cs t (0, 0))
section
variable {w w' : World} {g : Nat} {t : TypeId} {cs : Array Value}
theorem Blk.lt (h : Blk w g t cs) : g < w.heap.size := (Array.getElem?_eq_some_iff.1 h).1
theorem Blk.cell (h : Blk w g t cs) (i : Nat) : w.cell? ⟨g, i, none⟩ = cs[i]? := cell_of_row w g i cs t (0, 0) h
theorem Blk.frozen (h : Blk w g t cs) (i : Nat) : w.frozen? ⟨g, i, none⟩ = false := by
  unfold Blk at h
  simp [World.frozen?, h]
theorem Blk.new (w : World) (t : TypeId) (cs : Array Value) : Blk (w.alloc (.cells cs t)) w.heap.size t cs := heap_alloc_new w _
theorem Blk.drew (h : Blk w g t cs) : Blk w.drew g t cs := h
theorem Blk.drewN (h : Blk w g t cs) (n : Nat) : Blk (w.drewN n) g t cs := h
theorem Blk.alloc (h : Blk w g t cs) (o : Obj) : Blk (w.alloc o) g t cs := (Below.heap_alloc w o g h.lt).trans h
theorem Blk.set_ (h : Blk w g t cs) (i : Nat) (u : Value) : Blk (w.setCell ⟨g, i, none⟩ u) g t (cs.setIfInBounds i u) := by
  unfold Blk at h ⊢
  simp [World.setCell, Array.getElem?_modify, h]
theorem Blk.far (h : Blk w g t cs) {p : Addr} (hp : g ≠ p.block) (u : Value) : Blk (w.setCell p u) g t cs := (Below.heap_setCell w p u g hp).trans h
theorem Blk.ext (h : Blk w g t cs) (e : Ext w w') : Blk w' g t cs := (e.block g h.lt).trans h
theorem Blk.setRow (h : Blk w g t cs) (ds : Array Value) : Blk (w.setRow g ds) g t ds := by
  unfold Blk at h ⊢
  simp [World.setRow, Array.getElem?_modify, h]
end
def IsB (l : List Nat) : Prop := ∀ x ∈ l, x < 256
theorem IsB.nil : IsB [] := by intro x hx; simp at hx
theorem IsB.app {l m : List Nat} (h : IsB l) (k : IsB m) : IsB (l ++ m) := by
  intro x hx; rcases List.mem_append.1 hx with a | a
  · exact h x a
  · exact k x a
theorem IsB.one {x : Nat} (h : x < 256) : IsB [x] := by intro y hy; simp at hy; omega
theorem IsB.take {l : List Nat} (h : IsB l) (k : Nat) : IsB (l.take k) := fun x hx => h x (List.mem_of_mem_take hx)
theorem IsB.drop {l : List Nat} (h : IsB l) (k : Nat) : IsB (l.drop k) := fun x hx => h x (List.mem_of_mem_drop hx)
theorem IsB.get {l : List Nat} (h : IsB l) (k : Nat) : l.getD k 0 < 256 := by
  rw [List.getD_eq_getElem?_getD]
  cases hk : l[k]? with
  | none => simp
  | some x => exact h x (List.mem_of_getElem? hk)
def u8s (l : List Nat) : List Value := l.map fun x : Nat => Value.int .u8 (x : Int)
theorem u8s_len (l : List Nat) : (u8s l).length = l.length := by simp [u8s]
theorem u8s_one (l : List Nat) : ∀ u ∈ u8s l, u.oneCell' = true := by
  intro u hu; simp only [u8s, List.mem_map] at hu; obtain ⟨x, _, rfl⟩ := hu; rfl
theorem u8s_app (l m : List Nat) : u8s (l ++ m) = u8s l ++ u8s m := by simp [u8s]
/-- At A the bytes l lie in memory that is there (whatever A, if there is none). -/
def BytesAt (w : World) (A : Option Addr) (l : List Nat) : Prop :=
  IsB l ∧ l.length ≤ 9223372036854775807 ∧ (0 < l.length → ∃ b off, A = some ⟨b, off, none⟩ ∧ b < w.heap.size ∧ ∀ j, j < l.length → w.cell? ⟨b, off + j, none⟩ = some (.int .u8 ((l.getD j 0 : Nat) : Int)))
theorem BytesAt.nil (w : World) (A : Option Addr) : BytesAt w A [] := ⟨IsB.nil, by simp, fun h => absurd h (by simp)⟩
theorem BytesAt.ext {w w' : World} {A : Option Addr} {l : List Nat} (h : BytesAt w A l) (e : Ext w w') : BytesAt w' A l :=
  ⟨h.1, h.2.1, fun hp => by
    obtain ⟨b, off, hA, hb, hc⟩ := h.2.2 hp
    exact ⟨b, off, hA, Nat.lt_of_lt_of_le hb e.size, fun j hj => (e.cell (p := ⟨b, off + j, none⟩) hb).trans (hc j hj)⟩⟩
/-- Changes elsewhere. -/
theorem BytesAt.keep {w w' : World} {A : Option Addr} {l : List Nat} (h : BytesAt w A l) (hs : w.heap.size ≤ w'.heap.size) (e : ∀ b off, A = some ⟨b, off, none⟩ → b < w.heap.size → w'.heap[b]? = w.heap[b]?) : BytesAt w' A l :=
  ⟨h.1, h.2.1, fun hp => by
    obtain ⟨b, off, hA, hb, hc⟩ := h.2.2 hp
    exact ⟨b, off, hA, Nat.lt_of_lt_of_le hb hs, fun j hj => (World.cell?_of_block (a := ⟨b, off + j, none⟩) (e b off hA hb)).trans (hc j hj)⟩⟩
theorem BytesAt.drop {w : World} {A : Option Addr} {l : List Nat} (h : BytesAt w A l) (k cap : Nat) (hc : l.length ≤ cap) :
    BytesAt w (if cap = k then A else A.map (·.add (k * 1))) (l.drop k) := by
  refine ⟨h.1.drop k, by rw [List.length_drop]; have := h.2.1; omega, fun hp => ?_⟩
  rw [List.length_drop] at hp
  obtain ⟨b, off, rfl, hb, hcl⟩ := h.2.2 (by omega)
  rw [if_neg (by omega)]
  refine ⟨b, off + k, by
    simp only [Option.map_some, Option.some.injEq]
    unfold Addr.add
    split
    · rename_i h0; simp only [Addr.mk.injEq, and_true, true_and]; omega
    · simp, hb, fun j hj => ?_⟩
  rw [List.length_drop] at hj
  rw [Nat.add_assoc, hcl (k + j) (by omega)]
  simp [List.getD_eq_getElem?_getD, List.getElem?_drop]
theorem BytesAt.take {w : World} {A : Option Addr} {l : List Nat} (h : BytesAt w A l) (k : Nat) : BytesAt w A (l.take k) := by
  refine ⟨h.1.take k, by rw [List.length_take]; have := h.2.1; omega, fun hp => ?_⟩
  rw [List.length_take] at hp
  obtain ⟨b, off, rfl, hb, hcl⟩ := h.2.2 (by omega)
  refine ⟨b, off, rfl, hb, fun j hj => ?_⟩
  rw [List.length_take] at hj
  rw [hcl j (by omega)]
  simp [List.getD_eq_getElem?_getD, List.getElem?_take, show j < k by omega]
theorem info_u8 : (Try.prog.info? 5).map (fun i => (i.zero, i.size, i.bytes)) = some (some (.int .u8 0), 1, 1) := by kernel_rfl
theorem getD_lt {l : List Nat} {k : Nat} (h : k < l.length) : l.getD k 0 = l[k] := by simp [List.getD_eq_getElem?_getD, h]
theorem take_succ {l : List Nat} {k : Nat} (h : k < l.length) : l.take (k + 1) = l.take k ++ [l.getD k 0] := by
  rw [getD_lt h, List.take_succ_eq_append_getElem h]
/-- The slice v owns the bytes l: it is nil, or begins at the head of a block from B on. -/
def OwnB (B : Nat) (w : World) (v : Value) (l : List Nat) : Prop := w.ownsRow B 5 1 v l.length (u8s l) ∧ IsB l
theorem OwnB.at_ {B : Nat} {w : World} {v : Value} {l : List Nat} (h : OwnB B w v l) : ∃ A cap, v = .slice A l.length cap ∧ l.length ≤ cap ∧ cap ≤ 9223372036854775807 ∧ BytesAt w A l := by
  rcases h.1.2 with ⟨rfl, h0⟩ | ⟨g, cap, cur, rfl, hg, hh, hnc, hcp, hcs, htake⟩
  · obtain rfl : l = [] := List.length_eq_zero_iff.1 h0
    exact ⟨none, 0, rfl, Nat.le_refl _, by omega, BytesAt.nil _ _⟩
  · unfold maxLen at hcp
    refine ⟨_, cap, rfl, hnc, hcp, h.2, by omega, fun _ => ⟨g, 0, rfl, (Array.getElem?_eq_some_iff.1 hh).1, fun j hj => ?_⟩⟩
    have := h.1.cells (g := g) rfl j (Value.int .u8 ((l.getD j 0 : Nat) : Int)) (by rw [getD_lt hj]; simp [u8s, hj])
    have e : (⟨g, 0, none⟩ : Addr).add j = ⟨g, 0 + j, none⟩ := by unfold Addr.add; split <;> simp_all
    rw [e] at this
    exact this
theorem OwnB.kept {B : Nat} {w w' : World} {v : Value} {l : List Nat} (h : OwnB B w v l) {row : Option Nat} (hg : w.grownBy w' row) (hne : v.ownBlock = none ∨ v.ownBlock ≠ row) : OwnB B w' v l := ⟨h.1.kept hg hne, h.2⟩
theorem OwnB.alloc {B : Nat} {w : World} {v : Value} {l : List Nat} (h : OwnB B w v l) (o : Obj) : OwnB B (w.alloc o) v l := ⟨h.1.alloc o, h.2⟩
theorem OwnB.drew {B : Nat} {w : World} {v : Value} {l : List Nat} (h : OwnB B w v l) : OwnB B w.drew v l := h
theorem OwnB.nil_ (B : Nat) (w : World) : OwnB B w (.slice none 0 0) [] := ⟨World.ownsRow_nil _ _ _ _, IsB.nil⟩
theorem OwnB.keep {B : Nat} {w w' : World} {v : Value} {l : List Nat} (h : OwnB B w v l) (hs : w.heap.size ≤ w'.heap.size) (e : ∀ g, v.ownBlock = some g → w'.heap[g]? = w.heap[g]?) : OwnB B w' v l := by
  refine ⟨?_, h.2⟩
  obtain ⟨h1, h2 | ⟨g, cap, cur, hv, hg, hh, r⟩⟩ := h.1
  · exact ⟨h1, Or.inl h2⟩
  · exact ⟨h1, Or.inr ⟨g, cap, cur, hv, hg, by rw [e g (by rw [hv]; rfl)]; exact hh, r⟩⟩
theorem OwnB.ext {B : Nat} {w w' : World} {v : Value} {l : List Nat} (h : OwnB B w v l) (e : Ext w w') : OwnB B w' v l := by
  refine ⟨?_, h.2⟩
  obtain ⟨h1, h2 | ⟨g, cap, cur, hv, hg, hh, r⟩⟩ := h.1
  · exact ⟨h1, Or.inl h2⟩
  · exact ⟨h1, Or.inr ⟨g, cap, cur, hv, hg, by rw [e.block g (Array.getElem?_eq_some_iff.1 hh).1]; exact hh, r⟩⟩
theorem OwnB.less {B B' : Nat} {w : World} {v : Value} {l : List Nat} (h : OwnB B w v l) (hB : B' ≤ B) : OwnB B' w v l := by
  refine ⟨?_, h.2⟩
  obtain ⟨h1, h2 | ⟨g, cap, cur, hv, hg, r⟩⟩ := h.1
  · exact ⟨h1, Or.inl h2⟩
  · exact ⟨h1, Or.inr ⟨g, cap, cur, hv, by omega, r⟩⟩
theorem own_of {w : World} {B : Nat} {g n cap : Nat} {l m : List Nat} (hB : B ≤ g) (hh : w.heap[g]? = some (.cells (u8s (l ++ m)).toArray 5 (0, 0))) (hn : l.length = n) (hc : cap = n + m.length) (hm : cap ≤ 9223372036854775807) (hb : IsB l) : OwnB B w (.slice (some ⟨g, 0, none⟩) n cap) l := by
  subst hn hc
  refine ⟨⟨by rw [u8s_len]; omega, Or.inr ⟨g, _, _, rfl, hB, hh, by omega, by unfold maxLen; omega, by simp [u8s], ?_⟩⟩, hb⟩
  rw [u8s_app]; simp [u8s]
theorem made8 (n : Nat) : (madeCells (Value.int .u8 0).cells (n * 1)).toList = u8s (List.replicate n 0) := by
  simp only [u8s, madeCells, Value.cells, Nat.mul_one, List.map_replicate]
  apply List.ext_getElem
  · simp
  · intro i h1 h2
    simp [Nat.mod_one]
def OwnRet (l : List Nat) (w : World) (e : Ending) (w' : World) : Prop := ∃ v, e = .returned v ∧ OwnB w.heap.size w' v l ∧ Ext w w'
end
section
open Go Go.RowKit
/-- n numbers of w bits each, cut from N. -/
def upN (N n w : Nat) : List Nat := (List.range n).map fun i => (N >>> (i * w)) % 2 ^ w
/-- Numbers of w bits each, one behind the other. -/
def pkN : List Nat → Nat → Nat
  | [], _ => 0
  | x :: l, w => x + 2 ^ w * pkN l w
def Fit (l : List Nat) (w : Nat) : Prop := ∀ x ∈ l, x < 2 ^ w
theorem upN_len (N n w : Nat) : (upN N n w).length = n := by simp [upN]
theorem upN_get {N n w k : Nat} (h : k < n) : (upN N n w).getD k 0 = (N >>> (k * w)) % 2 ^ w := by simp [upN, List.getD_eq_getElem?_getD, h]
theorem upN_fit (N n w : Nat) : Fit (upN N n w) w := by
  intro x hx
  simp only [upN, List.mem_map] at hx
  obtain ⟨i, _, rfl⟩ := hx
  exact Nat.mod_lt _ (Nat.two_pow_pos w)
theorem upN_succ (N n w : Nat) : upN N (n + 1) w = N % 2 ^ w :: upN (N >>> w) n w := by
  simp only [upN, List.range_succ_eq_map, List.map_cons, List.map_map, Nat.zero_mul, Nat.shiftRight_zero]
  congr 1
  apply List.map_congr_left
  intro i _
  simp only [Function.comp]
  rw [← Nat.shiftRight_add, show i.succ * w = w + i * w by rw [Nat.succ_mul]; omega]
theorem pk_up (N n w : Nat) : pkN (upN N n w) w = N % 2 ^ (n * w) := by
  induction n generalizing N with
  | zero => simp [upN, pkN, Nat.mod_one]
  | succ n ih =>
    rw [upN_succ, pkN, ih, Nat.shiftRight_eq_div_pow, show (n + 1) * w = w + n * w by rw [Nat.succ_mul]; omega, Nat.pow_add, Nat.mod_mul]
theorem Fit.tail {x : Nat} {l : List Nat} {w : Nat} (h : Fit (x :: l) w) : Fit l w := fun y hy => h y (List.mem_cons_of_mem _ hy)
theorem pk_lt : ∀ {l : List Nat} {w : Nat}, Fit l w → pkN l w < 2 ^ (l.length * w)
  | [], w, _ => by simp [pkN]
  | x :: l, w, h => by
    have h1 := pk_lt h.tail
    have h2 : x < 2 ^ w := h x (List.mem_cons_self ..)
    rw [pkN, List.length_cons, show (l.length + 1) * w = w + l.length * w by rw [Nat.succ_mul]; omega, Nat.pow_add]
    have h3 : 2 ^ w * (pkN l w + 1) ≤ 2 ^ w * 2 ^ (l.length * w) := Nat.mul_le_mul_left _ h1
    rw [Nat.mul_add] at h3
    omega
theorem up_pk : ∀ {l : List Nat} {w : Nat}, Fit l w → upN (pkN l w) l.length w = l
  | [], _, _ => rfl
  | x :: l, w, h => by
    have h2 : x < 2 ^ w := h x (List.mem_cons_self ..)
    rw [List.length_cons, upN_succ, pkN, Nat.shiftRight_eq_div_pow, Nat.add_mul_mod_self_left, Nat.mod_eq_of_lt h2, Nat.add_mul_div_left _ _ (Nat.two_pow_pos w), Nat.div_eq_of_lt h2, Nat.zero_add, up_pk h.tail]
theorem pk_snoc (l : List Nat) (x w : Nat) : pkN (l ++ [x]) w = pkN l w + x * 2 ^ (l.length * w) := by
  induction l with
  | nil => simp [pkN]
  | cons y l ih =>
    rw [List.cons_append, pkN, pkN, ih, List.length_cons, show (l.length + 1) * w = w + l.length * w by rw [Nat.succ_mul]; omega, Nat.pow_add, Nat.mul_add, Nat.mul_left_comm]
    omega
theorem pk_or {l : List Nat} {w : Nat} (h : Fit l w) (x : Nat) : pkN (l ++ [x]) w = pkN l w ||| x <<< (l.length * w) := by
  have := Nat.shiftLeft_add_eq_or_of_lt (pk_lt h) x
  rw [pk_snoc, Nat.or_comm, ← this, Nat.shiftLeft_eq]
  omega
theorem up_or {N n w k x : Nat} (hk : k < n) (hx : x < 2 ^ w) : (upN N n w).set k ((upN N n w).getD k 0 ||| x) = upN (N ||| x <<< (k * w)) n w := by
  apply List.ext_getElem
  · simp [upN]
  · intro j h1 h2
    simp only [upN_len] at h2
    have hz : ∀ b, w ≤ b → x.testBit b = false := fun b hb => Nat.testBit_lt_two_pow (Nat.lt_of_lt_of_le hx (Nat.pow_le_pow_right (by omega) hb))
    rw [List.getElem_set]
    split
    · rename_i e
      subst e
      rw [upN_get hk]
      simp only [upN, List.getElem_map, List.getElem_range]
      apply Nat.eq_of_testBit_eq
      intro b
      simp only [Nat.testBit_or, Nat.testBit_mod_two_pow, Nat.testBit_shiftRight, Nat.testBit_shiftLeft, Nat.add_sub_cancel_left, ge_iff_le, Nat.le_add_right, decide_true, Bool.true_and]
      by_cases hb : b < w
      · simp [hb]
      · simp [hb, hz b (by omega)]
    · rename_i e
      simp only [upN, List.getElem_map, List.getElem_range]
      apply Nat.eq_of_testBit_eq
      intro b
      simp only [Nat.testBit_or, Nat.testBit_mod_two_pow, Nat.testBit_shiftRight, Nat.testBit_shiftLeft]
      by_cases hb : b < w
      · have hq : (decide (k * w ≤ j * w + b) && x.testBit (j * w + b - k * w)) = false := by
          by_cases hjk : j < k
          · have : (j + 1) * w ≤ k * w := Nat.mul_le_mul_right _ hjk
            rw [Nat.succ_mul] at this
            rw [decide_eq_false (by omega)]; rfl
          · have : (k + 1) * w ≤ j * w := Nat.mul_le_mul_right _ (by omega)
            rw [Nat.succ_mul] at this
            rw [hz _ (by omega), Bool.and_false]
        simp only [ge_iff_le]
        rw [hq, Bool.or_false]
      · simp [hb]
theorem up_eq (N M n w : Nat) : upN N n w = upN M n w ↔ N % 2 ^ (n * w) = M % 2 ^ (n * w) := by
  constructor
  · intro h
    rw [← pk_up, ← pk_up, h]
  · intro h
    have h1 := up_pk (upN_fit N n w)
    have h2 := up_pk (upN_fit M n w)
    rw [pk_up, upN_len] at h1 h2
    rw [← h1, ← h2, h]
/-- One bit more. -/
theorem mod_or (N at_ : Nat) : N % 2 ^ (at_ + 1) = N % 2 ^ at_ ||| (N >>> at_ % 2) <<< at_ := by
  have := Nat.shiftLeft_add_eq_or_of_lt (Nat.mod_lt N (Nat.two_pow_pos at_)) (N >>> at_ % 2)
  rw [Nat.or_comm, ← this, Nat.shiftLeft_eq, Nat.shiftRight_eq_div_pow, Nat.pow_succ, Nat.mod_mul]
  rw [Nat.mul_comm]; omega
/-- A bit of a list that is cut from N. -/
theorem up_bit {N n w k r : Nat} (hk : k < n) (hr : r < w) : (upN N n w).getD k 0 >>> r % 2 = N >>> (k * w + r) % 2 := by
  rw [upN_get hk]
  have h1 : ∀ y s : Nat, (y >>> s % 2) = (y.testBit s).toNat := fun y s => (Nat.toNat_testBit y s).symm ▸ by rw [Nat.shiftRight_eq_div_pow]
  rw [h1, h1]
  simp [Nat.testBit_mod_two_pow, Nat.testBit_shiftRight, hr]
/-- All bits of a list's numbers. -/
def orl : List Nat → Nat
  | [] => 0
  | x :: l => x ||| orl l
/-- The least width. -/
def wdt (l : List Nat) : Nat := Lib.bitLen (orl l)
theorem or_lt {x y w : Nat} : (x ||| y) < 2 ^ w ↔ x < 2 ^ w ∧ y < 2 ^ w := by
  constructor
  · intro h
    exact ⟨Nat.lt_of_le_of_lt Nat.left_le_or h, Nat.lt_of_le_of_lt Nat.right_le_or h⟩
  · rintro ⟨h1, h2⟩
    exact Nat.or_lt_two_pow h1 h2
theorem orl_lt (l : List Nat) (w : Nat) : orl l < 2 ^ w ↔ Fit l w := by
  induction l with
  | nil => simp [orl, Fit, Nat.two_pow_pos]
  | cons x l ih =>
    rw [orl, or_lt, ih]
    constructor
    · rintro ⟨h1, h2⟩ y hy
      rcases List.mem_cons.1 hy with rfl | hy
      · exact h1
      · exact h2 y hy
    · intro h
      exact ⟨h x (List.mem_cons_self ..), h.tail⟩
theorem orl_snoc (l : List Nat) (x : Nat) : orl (l ++ [x]) = orl l ||| x := by
  induction l with
  | nil => simp [orl]
  | cons y l ih => rw [List.cons_append, orl, orl, ih, Nat.or_assoc]
theorem lt_bitLenAux : ∀ (f x : Nat), x < 2 ^ f → x < 2 ^ Lib.bitLenAux f x
  | 0, x, h => by simpa [Lib.bitLenAux] using h
  | f + 1, x, h => by
    simp only [Lib.bitLenAux]
    split
    · rename_i h0; subst h0; simp
    · have := lt_bitLenAux f (x / 2) (by rw [Nat.pow_succ] at h; omega)
      rw [Nat.add_comm, Nat.pow_succ]; omega
theorem bl_iff {x : Nat} (w : Nat) (h : x < 2 ^ 64) : x < 2 ^ w ↔ Lib.bitLen x ≤ w := by
  constructor
  · intro hx
    rcases Nat.lt_or_ge 64 w with hw | hw
    · exact Nat.le_trans (Lib.bitLen_le x 64 (by omega) h) (by omega)
    · exact Lib.bitLen_le x w hw hx
  · intro hw
    exact Nat.lt_of_lt_of_le (lt_bitLenAux 64 x h) (Nat.pow_le_pow_right (by omega) hw)
def IsQ (l : List Nat) : Prop := ∀ x ∈ l, x < 18446744073709551616
theorem wdt_iff {l : List Nat} (h : IsQ l) (w : Nat) : Fit l w ↔ wdt l ≤ w := by
  rw [← orl_lt]
  exact bl_iff w ((orl_lt l 64).2 h)
theorem wdt_le {l : List Nat} (h : IsQ l) : wdt l ≤ 64 := (wdt_iff h 64).1 h
theorem Fit.isq {l : List Nat} {w : Nat} (h : Fit l w) (hw : w ≤ 64) : IsQ l := fun x hx => Nat.lt_of_lt_of_le (h x hx) (Nat.pow_le_pow_right (n := 2) (by omega) hw)
/-- How many bytes n packed numbers take, if there are such. -/
def siz (n w : Int) : Int := if n < 0 ∨ 65536 < n ∨ w < 0 ∨ 64 < w then -1 else (n * w + 7) / 8
/-- What Pack returns. -/
def pkR (l : List Nat) (w : Int) : Option (List Nat) := if w < 0 ∨ 64 < w ∨ 65536 < l.length ∨ w < wdt l then none else some (upN (pkN l w.toNat) ((l.length * w.toNat + 7) / 8) 8)
/-- What Unpack returns. -/
def upR (b : List Nat) (n w : Int) : Option (List Nat) := if n < 0 ∨ 65536 < n ∨ w < 0 ∨ 64 < w ∨ b.length ≠ (n.toNat * w.toNat + 7) / 8 ∨ 2 ^ (n.toNat * w.toNat) ≤ pkN b 8 then none else some (upN (pkN b 8) n.toNat w.toNat)
theorem up_back {b : List Nat} {n w : Nat} (hb : IsB b) (hl : b.length = (n * w + 7) / 8) : upN (pkN (upN (pkN b 8) n w) w) ((n * w + 7) / 8) 8 = b ↔ pkN b 8 < 2 ^ (n * w) := by
  rw [pk_up]
  have hlt := pk_lt (l := b) (w := 8) hb
  rw [hl] at hlt
  constructor
  · intro h
    have h2 : pkN (upN (pkN b 8 % 2 ^ (n * w)) ((n * w + 7) / 8) 8) 8 = pkN b 8 := by rw [h]
    rw [pk_up] at h2
    have h3 := Nat.mod_le (pkN b 8 % 2 ^ (n * w)) (2 ^ ((n * w + 7) / 8 * 8))
    have h4 := Nat.mod_lt (pkN b 8) (Nat.two_pow_pos (n * w))
    omega
  · intro h
    rw [Nat.mod_eq_of_lt h, ← hl, up_pk (l := b) (w := 8) hb]
/-- What is packed is unpacked. -/
theorem upR_pk {l b : List Nat} {w : Int} (h : IsQ l) (hp : pkR l w = some b) : upR b l.length w = some l := by
  unfold pkR at hp
  split at hp
  · cases hp
  · rename_i hc
    have hw0 : 0 ≤ w := by omega
    obtain ⟨v, rfl⟩ := Int.eq_ofNat_of_zero_le hw0
    rw [Int.toNat_natCast] at hp
    cases hp
    have hf : Fit l v := (wdt_iff h v).2 (by omega)
    have hlt := pk_lt hf
    have e : pkN (upN (pkN l v) ((l.length * v + 7) / 8) 8) 8 = pkN l v := by
      rw [pk_up]
      exact Nat.mod_eq_of_lt (Nat.lt_of_lt_of_le hlt (Nat.pow_le_pow_right (by omega) (by omega)))
    unfold upR
    rw [Int.toNat_natCast, Int.toNat_natCast, upN_len, e, if_neg (by omega), up_pk hf]
/-- The same, by way of packing again. -/
theorem upR_of {b : List Nat} {n w : Nat} (hb : IsB b) (hn : n ≤ 65536) (hw : w ≤ 64) (hl : b.length = (n * w + 7) / 8) :
    upR b n w = (if pkR (upN (pkN b 8) n w) w = some b then some (upN (pkN b 8) n w) else none) := by
  have hf := upN_fit (pkN b 8) n w
  have hq := hf.isq hw
  have hwd := (wdt_iff hq w).1 hf
  have hp : pkR (upN (pkN b 8) n w) w = some (upN (pkN (upN (pkN b 8) n w) w) ((n * w + 7) / 8) 8) := by
    unfold pkR
    rw [upN_len, Int.toNat_natCast, if_neg (by omega)]
  unfold upR
  rw [Int.toNat_natCast, Int.toNat_natCast]
  by_cases h : pkN b 8 < 2 ^ (n * w)
  · have e : pkR (upN (pkN b 8) n w) w = some b := by rw [hp, (up_back hb hl).2 h]
    rw [if_pos e, if_neg (by omega)]
  · have e : ¬ pkR (upN (pkN b 8) n w) w = some b := by
      rw [hp, Option.some.injEq]
      exact fun e => h ((up_back hb hl).1 e)
    rw [if_neg e, if_pos (by omega)]
theorem upR_q {b l : List Nat} {n w : Int} (hp : upR b n w = some l) : IsQ l ∧ (l.length : Int) = n ∧ l.length ≤ 65536 := by
  unfold upR at hp
  split at hp
  · cases hp
  · rename_i hc
    cases hp
    refine ⟨(upN_fit _ _ _).isq (by omega), ?_, ?_⟩
    · rw [upN_len]; omega
    · rw [upN_len]; omega
end
section
open Go Go.RowKit
theorem add_at (b off j : Nat) : (⟨b, off, none⟩ : Addr).add j = ⟨b, off + j, none⟩ := by unfold Addr.add; split <;> simp_all
theorem run_append8 (B : Nat) (w : World) (ty : TypeId) (v : Value) (l0 l : List Nat) (hown : OwnB B w v l0) (A : Option Addr) (m c : Nat) (hb : BytesAt w A l) (hm : l.length = m) (hlen : l0.length + l.length ≤ 140737488355328) (hbase : B ≤ w.heap.size) :
    ∃ v' w', (Builtin.append_ #[28, 28] ty #[v, .slice A m c]).run Try.prog w = .ok v' w' ∧ OwnB B w' v' (l0 ++ l) ∧ w.grownBy w' v.ownBlock ∧ (v'.ownBlock = v.ownBlock ∨ v'.ownBlock = some w.heap.size) := by
  subst hm
  obtain ⟨i0, hi0, hz0, hz1, hz2⟩ := info_parts info_u8
  have h63 : l0.length + l.length ≤ maxLen := by unfold maxLen; omega
  rcases A with _ | ad
  · have h0 : l = [] := by
      rcases Nat.eq_zero_or_pos l.length with h | h
      · exact List.length_eq_zero_iff.1 h
      · obtain ⟨b, off, h', _⟩ := hb.2.2 h
        cases h'
    subst h0
    refine ⟨v, w, ?_, by rw [List.append_nil]; exact hown, World.grownBy.refl w _, .inl rfl⟩
    rcases hown.1.2 with ⟨rfl, _⟩ | ⟨g, cap, cur, rfl, _, _, hnc, _⟩
    · simp [Builtin.append_, run_underlying Try.underlying28, sizeOf, typeInfo, hi0, Builtin.lenOf, Builtin.firstCells]
    · simp [Builtin.append_, run_underlying Try.underlying28, sizeOf, typeInfo, hi0, Builtin.lenOf, Builtin.firstCells, hnc, storeCells]
  · have hcells : ∀ j u, (u8s l)[j]? = some u → w.cell? (ad.add j) = some u := by
      intro j u hu
      have hj : j < l.length := by
        rcases Nat.lt_or_ge j (u8s l).length with h | h
        · rwa [u8s_len] at h
        · rw [List.getElem?_eq_none h] at hu; cases hu
      obtain ⟨b, off, h', _, hc⟩ := hb.2.2 (by omega)
      obtain rfl : ad = ⟨b, off, none⟩ := Option.some.inj h'
      rw [add_at, hc j hj, ← hu, getD_lt hj]
      simp [u8s, hj]
    obtain ⟨v', w', hrun, h2, h3, _, h5⟩ := run_append_own_at (P := Try.prog) w B 28 ty 5 i0 _ 1 1 Try.underlying28 hi0 hz0 hz1 hz2 rfl (by omega) v l0.length (u8s l0) hown.1 ad l.length c (u8s l) (by rw [u8s_len]; omega) hcells (u8s_one l) h63 (by omega) hbase
    refine ⟨v', w', hrun, ⟨?_, hown.2.app hb.1⟩, h3, h5⟩
    rw [u8s_app, List.length_append]
    exact h2
theorem wl_append8 {ops : Array Oper} {rest : List Oper} {o : Oper} {a : Act} {Q : Exit → Act → World → Prop} {w : World} (hgd : o.guard = none) (s x : Operand)
    (ho : o.op = .call { callee := .builtin .append, args := #[s, x], argTypes := #[28, 28] })
    (B : Nat) (v : Value) (l0 l : List Nat) (hs : a.eval s = v) (hown : OwnB B w v l0) (A : Option Addr) (m c : Nat) (hx : a.eval x = .slice A m c) (hb : BytesAt w A l) (hm : l.length = m) (hlen : l0.length + l.length ≤ 140737488355328) (hbase : B ≤ w.heap.size)
    (h : ∀ v' w', OwnB B w' v' (l0 ++ l) → w.grownBy w' v.ownBlock → (v'.ownBlock = v.ownBlock ∨ v'.ownBlock = some w.heap.size) → wpList Try.prog ops Q rest (a.put o.dst v') w') : wpList Try.prog ops Q (o :: rest) a w :=
  wpList_plain hgd fun _ hK => by
    obtain ⟨v', w', hrun, h2, h3, h4⟩ := run_append8 B w o.type v l0 l hown A m c hb hm hlen hbase
    unfold Oper.wp execOp
    simp only [ho, resolve, invoke, builtin, Sem.run_bind, Sem.run_pure, Result.andThen_ok, List.map_toArray, List.map_cons, List.map_nil, hs, hx, hrun]
    exact hK _ _ (h v' w' h2 h3 h4)
/-- The element that append lays down first. -/
theorem one_at (w : World) (x : Nat) (hx : x < 256) (u : Value) (hu : u = .int .u8 (x : Int)) : BytesAt (w.alloc (.cells #[u] 5)) (some ⟨w.heap.size, 0, none⟩) [x] := by
  subst hu
  refine ⟨IsB.one hx, by simp, fun _ => ⟨w.heap.size, 0, rfl, by simp, fun j hj => ?_⟩⟩
  obtain rfl : j = 0 := by simpa using hj
  rw [World.cell?_alloc_at _ _ _ _ rfl]; rfl
/-- A row that the call owns, and what it grew to: nothing older changed. -/
theorem below_grown {W w w' : World} {v : Value} {l : List Nat} {B : Nat} (h : Below W.heap.size W w) (hB : W.heap.size ≤ B) (hown : OwnB B w v l) (hg : w.grownBy w' v.ownBlock) : Below W.heap.size W w' :=
  h.grown hg h.size (fun k hk => by
    obtain ⟨h1, h2⟩ := hown.1.lt k hk
    omega)
theorem BytesAt.below {W w w' : World} {A : Option Addr} {l : List Nat} (h : BytesAt W A l) (e : Below W.heap.size W w) : BytesAt w A l := h.ext e
theorem run_from (A : Option Addr) (n k cap : Nat) (hk : k ≤ n) (w : World) : (Instr.slice 28 (.slice A n cap) (some (.int .i64 (k : Int))) none none).run Try.prog w = .ok (.slice (if cap = k then A else A.map (·.add (k * 1))) (n - k) (cap - k)) w := by
  have he : Try.prog.elem 28 = 5 := by kernel_rfl
  have hz := Try.sizeOf5
  rw [run_slice_l w 28 A n cap (by kernel_rfl) .i64 k (by omega) (by omega), he, hz]
  simp [Result.andThen, sliced]
theorem run_upto (A : Option Addr) (n k cap : Nat) (hk : k ≤ cap) (w : World) : (Instr.slice 28 (.slice A n cap) none (some (.int .i64 (k : Int))) none).run Try.prog w = .ok (.slice A k cap) w := by
  have he : Try.prog.elem 28 = 5 := by kernel_rfl
  have hz := Try.sizeOf5
  rw [run_slice_h w 28 A n cap (by kernel_rfl) .i64 k (by omega) (by omega), he, hz]
  simp [Result.andThen, sliced]
  intro _
  cases A <;> simp [Addr.add]
end
section
open Go Go.RowKit
theorem TapeOk.store {B b g k : Nat} {w : World} (h : TapeOk B w b) (hg : b < g) (u : Value) : TapeOk B (w.setCell ⟨g, k, none⟩ u) b := h.below ((Below.refl _ _).setCell (p := ⟨g, k, none⟩) hg u)
theorem TapeOk.alloc {B b : Nat} {w : World} (h : TapeOk B w b) (o : Obj) : TapeOk B (w.alloc o) b := h.below ((Below.refl _ _).alloc h.2.1 o)
theorem TapeOk.ext {B b : Nat} {w w' : World} (h : TapeOk B w b) (k : Ext w w') : TapeOk B w' b := h.below (Below.mono k h.2.1)
theorem Upd.store {b g k : Nat} {W w : World} (h : Upd b W w) (hg : W.heap.size ≤ g) (u : Value) : Upd b W (w.setCell ⟨g, k, none⟩ u) :=
  ⟨h.1, h.2.1, h.2.2.1, by simpa [World.setCell] using h.2.2.2.1, fun i hi hn => (heap_setCell_other w ⟨g, k, none⟩ i u (by simp; omega)).trans (h.2.2.2.2 i hi hn)⟩
theorem Upd.more {b : Nat} {W w w' : World} (h : Upd b W w) (k : Ext w w') : Upd b W w' := h.trans (k.upd b)
theorem IsList.ext {w w' : World} {a : Option Addr} {len cap : Nat} (h : IsList w a len cap) (k : Ext w w') : IsList w' a len cap := by
  obtain ⟨h1, h2⟩ := h
  refine ⟨h1, ?_⟩
  rcases h2 with h2 | ⟨xb, xo, e, hb, hl, hc⟩
  · exact Or.inl h2
  · refine Or.inr ⟨xb, xo, e, Nat.lt_of_lt_of_le hb k.size, hl, fun i hi => ?_⟩
    obtain ⟨v, hv, cv⟩ := hc i hi
    exact ⟨v, hv, (k.cell (p := ⟨xb, xo + i, none⟩) hb).trans cv⟩
end
section
open Go Go.RowKit
theorem bitLen_spec (x : Nat) : x < 2 ^ 64 → Lib.bitLen x ≤ 64 ∧ x < 2 ^ Lib.bitLen x ∧ (x ≠ 0 → 1 ≤ Lib.bitLen x ∧ 2 ^ (Lib.bitLen x - 1) ≤ x) := by
  intro h
  have key : ∀ k x : Nat, x < 2 ^ k → k ≤ 64 → Lib.bitLen x ≤ k ∧ x < 2 ^ Lib.bitLen x ∧ (x ≠ 0 → 1 ≤ Lib.bitLen x ∧ 2 ^ (Lib.bitLen x - 1) ≤ x) := by
    intro k
    induction k with
    | zero => intro x hx _; have : x = 0 := by omega
              subst this; decide
    | succ k ih =>
      intro x hx hk
      by_cases h0 : x = 0
      · subst h0; have e0 : Lib.bitLen 0 = 0 := by decide
        rw [e0]
        exact ⟨by omega, by omega, fun h => absurd rfl h⟩
      · have h64 : x < 2 ^ 64 := Nat.lt_of_lt_of_le hx (Nat.pow_le_pow_right (by omega) hk)
        have e := Lib.bitLen_half x h0 h64
        obtain ⟨i1, i2, i3⟩ := ih (x / 2) (by rw [Nat.pow_succ] at hx; omega) (by omega)
        rw [e]
        refine ⟨by omega, by rw [Nat.add_comm, Nat.pow_succ]; omega, fun _ => ⟨by omega, ?_⟩⟩
        rw [Nat.add_sub_cancel_left]
        by_cases h1 : x / 2 = 0
        · rw [h1]; have : Lib.bitLen 0 = 0 := by decide
          rw [this]; omega
        · obtain ⟨j1, j2⟩ := i3 h1
          obtain ⟨q, hq⟩ : ∃ q, Lib.bitLen (x / 2) = q + 1 := ⟨_, (Nat.sub_add_cancel j1).symm⟩
          rw [hq] at j2 ⊢
          simp only [Nat.add_sub_cancel] at j2
          rw [Nat.pow_succ]; omega
  exact key 64 x h (by omega)
open Go Go.RowKit
open Go Go.RowKit
open Go Go.RowKit
open Go Go.RowKit
open Go Go.RowKit
end
section
open Go Go.RowKit
theorem i64_wrap (x : Int) : I64 (wrap64 x) := by unfold I64; simp only [wrap64]; omega
theorem t_int (B b : Nat) (W w : World) (hT : TapeOk B w b) (hW : Upd b W w) :
    Calls Try.prog 40 #[.pointer (some ⟨b, 0, none⟩)] w (NextPost B b I64 .i64 W) := by
  go_enter Try.func40, Try.ntmps40
  go_wp2_with (first
    | (go_at_call 20; refine (t_next' _ _ _ W _ ⟨by omega, by omega⟩ ‹_› ‹_›).mono ?_; rintro e w' ⟨u, rfl, hu, hT2, hB2⟩)
    | (go_at_call 54; refine (t_word' _ _ W _ ‹_› ‹_›).mono ?_; rintro e w' ⟨u, rfl, hu, hT2, hB2⟩))
  all_goals go_ret
  all_goals exact ⟨_, rfl, i64_wrap _, ‹_›, ‹_›⟩
end
section
open Go Go.RowKit
def BoolPost (B b : Nat) (W : World) (e : Ending) (w' : World) : Prop := ∃ v : Bool, e = .returned (.bool v) ∧ TapeOk B w' b ∧ Upd b W w'
theorem t_bool (B b : Nat) (n : Int) (W w : World) (h1 : 2 ≤ n) (h2 : n ≤ 4) (hT : TapeOk B w b) (hW : Upd b W w) :
    Calls Try.prog 41 #[.pointer (some ⟨b, 0, none⟩), .int .i64 n] w (BoolPost B b W) := by
  have hn0 : ¬ (n = 0) := by omega
  have hm : (1 : Int).tmod n = 1 := by
    rw [Int.tmod_eq_emod_of_nonneg (by omega)]; exact Int.emod_eq_of_lt (by omega) (by omega)
  have hm2 : (1 : Int) % n = 1 := Int.emod_eq_of_lt (by omega) (by omega)
  have hT' := hT.below (below_drewN' (b + 1) w 1)
  go_enter Try.func41, Try.ntmps41
  go_wp2_with fail
  go_region_with (go_at_call 20; refine (t_next' B b n W _ ⟨by omega, by omega⟩ (by first | exact hT | exact (hT.below (below_drewN' (b + 1) w 1))) (by first | exact hW | exact hW.drew)).mono ?_; rintro e w' ⟨u, rfl, hu, hT2, hB2⟩)
  all_goals go_wp2_with fail
  all_goals go_ret
  all_goals exact ⟨_, rfl, hT2, hB2⟩
end
section
open Go Go.RowKit
/-- A store turns the value by the word's difference. -/
theorem val_set (l : List Nat) (j x : Nat) (h : j < l.length) : val (l.set j x) + 18446744073709551616 ^ j * l[j] = val l + 18446744073709551616 ^ j * x := by
  induction l generalizing j with
  | nil => simp at h
  | cons y r ih =>
    cases j with
    | zero => simp [val]; omega
    | succ j =>
      have hj : j < r.length := by simpa using h
      have := ih j hj
      simp only [List.set_cons_succ, val, List.getElem_cons_succ, Nat.pow_succ]
      generalize val (r.set j x) = A at *
      generalize val r = C at *
      generalize r[j] = z at *
      generalize 18446744073709551616 ^ j = P at *
      grind
/-- What has been multiplied so far: the words of p below i by all of q, the word i of p by the words of q below k. -/
def RMul (p q os : List Nat) (i k c : Nat) : Prop := os.length = p.length + q.length + 1 ∧ W64 os ∧ c < 18446744073709551616 ∧ (∀ j, i + q.length ≤ j → os.getD j 0 = 0) ∧
  val os + 18446744073709551616 ^ (i + k) * c = val (p.take i) * val q + 18446744073709551616 ^ i * (p.getD i 0 * val (q.take k))
theorem RMul.row {p q os : List Nat} {i c : Nat} (h : RMul p q os i q.length c) (hi0 : i < p.length) : RMul p q (os.set (i + q.length) c) (i + 1) 0 0 := by
  obtain ⟨h1, h2, h3, h4, h5⟩ := h
  have hl : i + q.length < os.length := by omega
  refine ⟨by simpa using h1, w64_set h2 _ _ h3, by omega, fun j hj => ?_, ?_⟩
  · rw [List.getD_eq_getElem?_getD, List.getElem?_set_ne (by omega), ← List.getD_eq_getElem?_getD]; exact h4 j (by omega)
  · have hv := val_set os (i + q.length) c hl
    have ho : os[i + q.length] = 0 := by have := h4 (i + q.length) (by omega); simpa [List.getD, hl] using this
    rw [ho] at hv
    rw [List.take_length] at h5
    rw [val_take_succ p i hi0, List.take_zero]
    have hg : p.getD i 0 = p[i] := by simp [List.getD, hi0]
    rw [hg] at h5
    have hz : val [] = 0 := rfl
    rw [hz]
    generalize 18446744073709551616 ^ (i + q.length) = Z at *
    generalize 18446744073709551616 ^ (i + 1 + 0) = Y at *
    generalize 18446744073709551616 ^ (i + 1) = X at *
    generalize 18446744073709551616 ^ i = W at *
    generalize val (os.set (i + q.length) c) = A at *
    generalize val os = B at *
    generalize val (List.take i p) = C at *
    generalize val q = D at *
    generalize p[i] = E at *
    have e : (C + W * E) * D = C * D + W * (E * D) := by rw [Nat.add_mul, Nat.mul_assoc]
    rw [e]
    omega
theorem RMul.done {p q os : List Nat} (h : RMul p q os p.length 0 0) : val os = val p * val q := by
  obtain ⟨_, _, _, _, h5⟩ := h
  rw [List.take_length] at h5
  simpa [val] using h5
/-- What has been shifted so far, by q words and r bits. -/
def RUp (p os : List Nat) (q r i : Nat) : Prop := os.length = p.length + q + 1 ∧ W64 os ∧ os.getD (i + q) 0 < 2 ^ r ∧ (∀ j, i + q < j → os.getD j 0 = 0) ∧ val os = 18446744073709551616 ^ q * (val (p.take i) * 2 ^ r)
theorem RUp.done {p os : List Nat} {q r : Nat} (h : RUp p os q r p.length) : val os = val p * 2 ^ (64 * q + r) := by
  obtain ⟨_, _, _, _, h5⟩ := h
  rw [List.take_length] at h5
  rw [h5, Nat.pow_add, Nat.pow_mul, show (2 : Nat) ^ 64 = 18446744073709551616 from rfl]
  generalize 18446744073709551616 ^ q = Q
  grind
/-- What has been halved so far. -/
def RHalf (p os : List Nat) (i : Nat) : Prop := os.length = p.length ∧ W64 os ∧ os.drop i = p.drop i ∧ 2 * val (os.take i) + p.getD 0 0 % 2 = val (p.take i) + 18446744073709551616 ^ i * (p.getD i 0 % 2)
theorem RHalf.done {p os : List Nat} (h : RHalf p os p.length) : val os = val p / 2 := by
  obtain ⟨h1, _, _, h4⟩ := h
  rw [List.take_length, List.take_of_length_le (by omega)] at h4
  have : p.getD p.length 0 = 0 := by simp [List.getD]
  rw [this] at h4
  generalize 18446744073709551616 ^ p.length = I at *
  cases p with
  | nil => cases os with
    | nil => rfl
    | cons y r => simp at h1
  | cons y r =>
    simp only [val] at *
    simp only [List.getD_cons_zero] at h4
    omega
/-- The slice v does not lie in block g. -/
def Apart (g : Nat) (v : Value) : Prop := ∀ g' n c, v = .slice (some ⟨g', 0, none⟩) n c → g' ≠ g
theorem Words.upd {B g : Nat} {w w' : World} {v : Value} {l : List Nat} (h : Words B w v l) (k : Upd g w w') (ha : Apart g v) : Words B w' v l := by
  refine ⟨?_, h.2⟩
  obtain ⟨h1, h2 | ⟨g', cap, cur, hv, hg, hh, r⟩⟩ := h.1
  · exact ⟨h1, Or.inl h2⟩
  · have hlt := (h.1.lt g' (by rw [hv]; rfl)).2
    exact ⟨h1, Or.inr ⟨g', cap, cur, hv, hg, by rw [k.2.2.2.2 g' hlt (ha _ _ _ hv)]; exact hh, r⟩⟩
theorem Words.apart {B g : Nat} {w : World} {v : Value} {l : List Nat} (h : Words B w v l) (hg : w.heap.size ≤ g) : Apart g v := by
  rintro g' n c rfl
  have := (h.1.lt g' rfl).2
  omega
/-- What has been divided so far, word by word. -/
def RDiv (p os : List Nat) (y k c : Nat) : Prop := os.length = p.length ∧ W64 os ∧ c < y ∧ val (os.drop k) * y + c = val (p.drop k)
theorem RDiv.done {p os : List Nat} {y c : Nat} (h : RDiv p os y 0 c) : val os = val p / y ∧ c = val p % y := by
  obtain ⟨_, _, h3, h4⟩ := h
  simp only [List.drop_zero] at h4
  rw [← h4]
  have e1 : (val os * y + c) / y = val os := by rw [Nat.mul_comm, Nat.mul_add_div (by omega), Nat.div_eq_of_lt h3, Nat.add_zero]
  have e2 : (val os * y + c) % y = c := by rw [Nat.mul_comm, Nat.mul_add_mod, Nat.mod_eq_of_lt h3]
  exact ⟨e1.symm, e2.symm⟩
end
section
open Go Go.RowKit Go.Sort
/-- A value is returned; what was in memory is as it was. -/
def Ret (v : Value) (w : World) (e : Ending) (w' : World) : Prop := e = .returned v ∧ Ext w w'
def RetSame (v : Value) (w : World) (e : Ending) (w' : World) : Prop := e = .returned v ∧ w = w'
end
section
open Go Go.RowKit
def l64Ren : Go.Shelf.Ren := ⟨fun | 129 => 67 | n => n, fun | 53 => 62 | 3 => 3 | 4 => 4 | 46 => 70 | 5 => 5 | 9 => 9 | n => n, fun | n => n⟩
theorem l64Lays : Go.Proofs.Lays.n129 Try.prog l64Ren := {
  mixed := by kernel_rfl
  f129 := Try.func67.trans (congrArg some (by kernel_rfl))
  t3 := Try.underlying3
  a3 := Try.isAgg3
  z3 := Try.sizeOf3
  v3 := Try.zeroValue3
  t4 := Try.underlying4
  a4 := Try.isAgg4
  z4 := Try.sizeOf4
  v4 := Try.zeroValue4
  t5 := Try.underlying5
  a5 := Try.isAgg5
  z5 := Try.sizeOf5
  v5 := Try.zeroValue5
  t9 := Try.underlying9
  a9 := Try.isAgg9
  z9 := Try.sizeOf9
  v9 := Try.zeroValue9
  t46 := Try.underlying70
  a46 := Try.isAgg70
  z46 := Try.sizeOf70
  v46 := Try.zeroValue70
  t53 := Try.underlying62
  a53 := Try.isAgg62
  z53 := Try.sizeOf62
  v53 := Try.zeroValue62 }
theorem p_len64 (x : Nat) (w : World) (h : x < 18446744073709551616) : Calls Try.prog 67 #[.int .u64 (x : Int)] w (RetSame (.int .i64 (Lib.bitLen x : Int)) w) := by
  refine (Go.Proofs.Any.bits_Len64 (P := Try.prog) (ρ := l64Ren) l64Lays (x : Int) w (by omega) (by omega)).mono ?_
  rintro e w' ⟨rfl, rfl⟩
  exact ⟨by rw [Int.toNat_natCast], rfl⟩
end
section
open Go Go.RowKit
theorem OwnB.upd {B b : Nat} {w w' : World} {v : Value} {l : List Nat} (h : OwnB B w v l) (u : Upd b w w') (hb : b < B) : OwnB B w' v l := by
  refine ⟨?_, h.2⟩
  obtain ⟨h1, h2 | ⟨g, cap, cur, hv, hg, hh, r⟩⟩ := h.1
  · exact ⟨h1, Or.inl h2⟩
  · exact ⟨h1, Or.inr ⟨g, cap, cur, hv, hg, by rw [u.2.2.2.2 g (Array.getElem?_eq_some_iff.1 hh).1 (by omega)]; exact hh, r⟩⟩
theorem BytesAt.upd {b : Nat} {w w' : World} {A : Option Addr} {l : List Nat} (h : BytesAt w A l) (u : Upd b w w') (hb : ∀ g off, A = some ⟨g, off, none⟩ → g ≠ b) : BytesAt w' A l :=
  h.keep u.2.2.2.1 fun g off hA hg => u.2.2.2.2 g hg (hb g off hA)
/-- What is returned lies in memory made since W (or there is none of it). -/
def SpoilPost (B b c : Nat) (W : World) (e : Ending) (w' : World) : Prop := ∃ A n cap l, e = .returned (.slice A n cap) ∧ l.length = n ∧ n ≤ cap ∧ cap ≤ 9223372036854775807 ∧ n ≤ c + 1 ∧ BytesAt w' A l ∧ (∀ g off, A = some ⟨g, off, none⟩ → W.heap.size ≤ g) ∧ TapeOk B w' b ∧ Upd b W w'
theorem spoil_own {B b c : Nat} {W w' : World} {v : Value} {l : List Nat} (h : OwnB W.heap.size w' v l) (hc : l.length ≤ c + 1) (hT : TapeOk B w' b) (hU : Upd b W w') : SpoilPost B b c W (.returned v) w' := by
  have hg : ∀ g, v.ownBlock = some g → W.heap.size ≤ g := fun g e => (h.1.lt g e).1
  obtain ⟨A, cap, rfl, h1, h2, h3⟩ := h.at_
  exact ⟨A, _, cap, l, rfl, rfl, h1, h2, hc, h3, fun g off e => hg g (by rw [e]; rfl), hT, hU⟩
theorem bytes_of_own {w : World} {A : Option Addr} {c cap B : Nat} {l : List Nat} (h : OwnB B w (.slice A c cap) l) (hc : l.length = c) : BytesAt w A l ∧ ∀ g off, A = some ⟨g, off, none⟩ → B ≤ g := by
  refine ⟨?_, fun g off e => (h.1.lt g (by rw [e]; rfl)).1⟩
  obtain ⟨A', cap', hv, _, _, hb⟩ := h.at_
  injection hv with h1 _ _
  rw [h1]; exact hb
theorem grown_below {w w' : World} {row : Option Nat} (h : w.grownBy w' row) (B : Nat) (hB : B ≤ w.heap.size) (hr : ∀ k, row = some k → B ≤ k) : Below B w w' := (Below.refl B w).grown h hB hr
theorem upd_grown {W w w' : World} {row : Option Nat} {b : Nat} (u : Upd b W w) (h : w.grownBy w' row) (hr : ∀ k, row = some k → W.heap.size ≤ k) : Upd b W w' :=
  ⟨h.os.trans u.1, h.tape.trans u.2.1, h.output.trans u.2.2.1, Nat.le_trans u.2.2.2.1 h.size, fun k hk hn => (h.block k (Nat.lt_of_lt_of_le hk u.2.2.2.1) (fun e => by have := hr k e.symm; omega)).trans (u.2.2.2.2 k hk hn)⟩
theorem upd_row {W w : World} {b g : Nat} (u : Upd b W w) (hg : W.heap.size ≤ g) (cs : Array Value) : Upd b W (w.setRow g cs) := by
  refine ⟨u.1, u.2.1, u.2.2.1, ?_, fun k hk hn => ?_⟩
  · show W.heap.size ≤ (w.heap.modify g _).size
    rw [Array.size_modify]; exact u.2.2.2.1
  · show (w.heap.modify g _)[k]? = _
    rw [Array.getElem?_modify, if_neg (by omega)]; exact u.2.2.2.2 k hk hn
theorem below_row (w : World) {B g : Nat} (hg : B ≤ g) (cs : Array Value) : Below B w (w.setRow g cs) := by
  refine ⟨rfl, rfl, rfl, ?_, fun k hk => ?_⟩
  · show w.heap.size ≤ (w.heap.modify g _).size
    rw [Array.size_modify]; exact Nat.le_refl _
  · show (w.heap.modify g _)[k]? = _
    rw [Array.getElem?_modify, if_neg (by omega)]
theorem row_new {w : World} {g : Nat} {t : TypeId} {cs ds : Array Value} (h : w.heap[g]? = some (.cells cs t (0, 0))) : (w.setRow g ds).heap[g]? = some (.cells ds t (0, 0)) := by
  simp [World.setRow, Array.getElem?_modify, h]
theorem step_append_run {P : Program} {ops : Array Oper} {o : Oper} {a : Act} {w : World} {K : Act → World → Prop} {Q : Exit → Act → World → Prop} {E : Prop}
    (hg : o.guard = none) (s x : Operand) (t : TypeId) (hop : o.op = Op.call { callee := Callee.builtin Builtin.append, args := #[s, x], argTypes := #[t, t] })
    (vs vx v' : Value) (w' : World) (hs : a.eval s = vs) (hx : a.eval x = vx) (hrun : ∀ ty, (Builtin.append_ #[t, t] ty #[vs, vx]).run P w = .ok v' w') (hK : K (a.put o.dst v') w') :
    if Region.wanted o (yielded ops a.tmps) = true then Oper.wp P o a w K Q else E := by
  have hw : Region.wanted o (yielded ops a.tmps) = true := by simp [Region.wanted, hg]
  rw [if_pos hw]
  unfold Oper.wp
  simp [execOp, hop, resolve, invoke, builtin, hs, hx, hrun, Result.andThen]
  exact hK
theorem xor_u8 (a b : Int) : ∃ k : Nat, bits .xor .u8 a b = (k : Int) ∧ k < 256 := by
  refine ⟨(BitVec.ofInt 8 a ^^^ BitVec.ofInt 8 b).toNat, ?_, (BitVec.ofInt 8 a ^^^ BitVec.ofInt 8 b).isLt⟩
  show IntKind.u8.wrap ((BitVec.ofInt 8 a ^^^ BitVec.ofInt 8 b).toNat : Int) = _
  have := (BitVec.ofInt 8 a ^^^ BitVec.ofInt 8 b).isLt
  generalize (BitVec.ofInt 8 a ^^^ BitVec.ofInt 8 b).toNat = n at this
  simp [IntKind.wrap, IntKind.bits, IntKind.signed]; omega
/-- Bytes that lie in a block of the call's own. -/
theorem own_block {B : Nat} {w : World} {A : Option Addr} {c cap : Nat} {l : List Nat} (h : OwnB B w (.slice A c cap) l) (hc : 0 < c) : ∃ g m, A = some ⟨g, 0, none⟩ ∧ B ≤ g ∧ w.heap[g]? = some (.cells (u8s l ++ m).toArray 5 (0, 0)) ∧ l.length = c ∧ cap = c + m.length ∧ cap ≤ 9223372036854775807 := by
  rcases h.1.2 with ⟨h0, _⟩ | ⟨g, cap', cur, hv, hg, hh, hnc, hcp, hcs, htake⟩
  · injection h0 with _ h2 _; omega
  · injection hv with h1 h2 h3
    subst h2 h3
    unfold maxLen at hcp
    rw [Nat.mul_one] at htake hcs
    refine ⟨g, cur.toList.drop l.length, h1, hg, ?_, rfl, ?_, hcp⟩
    · rw [hh, ← htake, List.take_append_drop]
    · have := Array.length_toList (xs := cur)
      simp only [List.length_drop]; omega
theorem cells_of_bytes {w : World} {a : Addr} {l : List Nat} (h : BytesAt w (some a) l) : ∀ j u, (u8s l)[j]? = some u → w.cell? (a.add j) = some u := by
  intro j u hu
  have hj : j < l.length := by
    rcases Nat.lt_or_ge j (u8s l).length with h | h
    · rwa [u8s_len] at h
    · rw [List.getElem?_eq_none h] at hu; cases hu
  obtain ⟨b, off, h', _, hc⟩ := h.2.2 (by omega)
  obtain rfl : a = ⟨b, off, none⟩ := Option.some.inj h'
  rw [add_at, hc j hj, ← hu, getD_lt hj]
  simp [u8s, hj]
set_option maxHeartbeats 1600000 in
set_option maxRecDepth 100000 in
theorem t_spoiled (B b : Nat) (A : Option Addr) (c cap : Nat) (l : List Nat) (W : World) (hT : TapeOk B W b) (hb : BytesAt W A l) (hc : l.length = c) (hlen : c ≤ 140737488355320) :
    Calls Try.prog 21 #[.pointer (some ⟨b, 0, none⟩), .slice A c cap] W (SpoilPost B b c W) := by
  have hbW := hT.2.1
  have O0 : OwnB W.heap.size (W.alloc (.cells #[] 5)) (.slice (some ⟨W.heap.size, 0, none⟩) 0 0) [] := own_of (m := []) (Nat.le_refl _) (heap_alloc_new W _) rfl rfl (by omega) IsB.nil
  have E0 := ext_alloc W (.cells #[] 5)
  have H0 := hb.ext E0
  have B0 : W.heap.size ≤ (W.alloc (.cells #[] 5)).heap.size := E0.size
  have L0 : ([] : List Nat).length + l.length ≤ 140737488355328 := by simp; omega
  have HT := hide hT
  have HC := hide hc
  have ic : I64 (c : Int) := ⟨by omega, by omega⟩
  have i6 : I64 6 := ⟨by omega, by omega⟩
  go_enter Try.func21, Try.ntmps21
  go_upto_region 2 with (at_builtin; refine wl_append8 rfl (.tmp 6) (.tmp 7) rfl W.heap.size _ [] l rfl O0 A c cap rfl H0 hc L0 B0 ?_; intro v1 w1 hO hG hA; have hE1 := hide (below_grown E0 (Nat.le_refl _) O0 hG); have hO := hide hO; clear hG hA)
  have hO : Hid (OwnB W.heap.size w1 v1 l) := hO
  have T1 := HT.out.below (Below.mono hE1.out hbW)
  have U1 := hide (Ext.upd hE1.out b)
  obtain ⟨A1, cap1, hv1, hle1, hcap1, _⟩ := hO.out.at_
  rw [HC.out] at hv1 hle1
  subst hv1
  clear O0 E0 H0 B0 L0 hT hb hc hE1
  go_upto_region 6 with (first
    | (go_at_call 20; (with_reducible refine (t_next B b (c : Int) _ ic T1).mono ?_); rintro e w2 ⟨at_, rfl, hat, T2, u2⟩; have O2 := hide (hO.out.upd u2 hbW); have U2 := hide (U1.out.trans u2); have at0 := hat.1; have at1 := hat.2.1; have at2 := hat.2.2; clear hat u2)
    | (go_at_call 20; (with_reducible refine (t_next B b 6 _ i6 T2).mono ?_); rintro e w3 ⟨r, rfl, hr, T3, u3⟩; have O3 := hide (O2.out.upd u3 hbW); have U3 := hide (U2.out.trans u3); have r0 := hr.1; have r1 := hr.2.1 (by omega); clear hr u3))
  clear O2 U1 U2 T1 T2 hO
  have hcases : r = 0 ∨ r = 1 ∨ r = 2 ∨ (3 ≤ r ∧ r < 6) := by omega
  rcases hcases with hr | hr | hr | hr
  · subst hr
    have ic1 : I64 ((c : Int) + 1) := ⟨by omega, by omega⟩
    go_wp2_with fail
    (with_reducible refine (t_next B b ((c : Int) + 1) _ ic1 T3).mono ?_)
    rintro e w4 ⟨u, rfl, hu, T4, u4⟩
    have u0 := hu.1
    have u1 := hu.2.1 (by omega)
    obtain ⟨k, rfl⟩ := Int.eq_ofNat_of_zero_le u0
    have hk : k ≤ c := by omega
    have hs := run_upto A1 c k cap1 (by omega)
    have hO4 := hide (O3.out.upd u4 hbW)
    have hU4 := hide (U3.out.trans u4)
    clear hu u0 u1 u4
    go_wp2_with fail
    go_ret
    have hb4 := bytes_of_own hO4.out HC.out
    exact ⟨A1, k, cap1, l.take k, rfl, by rw [List.length_take]; have := HC.out; omega, by omega, hcap1, by omega, hb4.1.take k, hb4.2, T4, hU4.out⟩
  · subst hr
    have i256 : I64 256 := ⟨by omega, by omega⟩
    have hle : l.length + ([0] : List Nat).length ≤ 140737488355328 := by have := HC.out; simp; omega
    go_wp2_with fail
    (with_reducible refine (t_next B b 256 _ i256 T3).mono ?_)
    rintro e w4 ⟨u, rfl, hu, T4, u4⟩
    have u0 := hu.1
    have u1 := hu.2.1 (by omega)
    obtain ⟨k, rfl⟩ := Int.eq_ofNat_of_zero_le u0
    have hk : k < 256 := by omega
    have hO4 := hide ((O3.out.upd u4 hbW).alloc (.cells #[Value.int .u8 (k : Int)] 5))
    have hU4 := hide ((U3.out.trans u4).trans (Ext.upd (ext_alloc w4 (.cells #[Value.int .u8 (k : Int)] 5)) b))
    have hone := hide (one_at w4 k hk _ rfl)
    have hsz : W.heap.size ≤ (w4.alloc (.cells #[Value.int .u8 (k : Int)] 5)).heap.size := hU4.out.2.2.2.1
    have T5 := T4.alloc (.cells #[Value.int .u8 (k : Int)] 5)
    have hle : l.length + [k].length ≤ 140737488355328 := hle
    clear hu u0 u1 u4
    go_wp2_with (at_builtin; refine wl_append8 rfl (.tmp 39) (.tmp 43) rfl W.heap.size _ l [k] rfl hO4.out _ 1 1 rfl hone.out rfl hle hsz ?_; intro v6 w6 hO6 hG6 hA6)
    have hG := hO4.out.1.lt
    go_ret
    refine spoil_own hO6 (by rw [List.length_append]; have := HC.out; simp; omega) (T5.below (grown_below hG6 (b + 1) (by omega) (fun k hk => by have := (hG k hk).1; omega))) (upd_grown hU4.out hG6 (fun k hk => (hG k hk).1))
  · subst hr
    by_cases h0 : c = 0
    · have q0 : ¬ (0 : Int) < (c : Int) := by omega
      have H0 := hide h0
      clear h0
      go_wp2_with fail
      go_ret
      show SpoilPost B b c W (.returned (.slice A1 c cap1)) w3
      exact spoil_own O3.out (by have := HC.out; omega) T3 U3.out
    · have q0 : (0 : Int) < (c : Int) := by omega
      obtain ⟨k, rfl⟩ := Int.eq_ofNat_of_zero_le at0
      have hk : k < c := by have := at1 (by omega); omega
      obtain ⟨g, m, rfl, hgW, hh, hlc, hcapm, hcap63⟩ := own_block O3.out (by omega)
      have hbl := bytes_of_own O3.out HC.out
      have hs1 := run_upto (some ⟨g, 0, none⟩) c k cap1 (by omega)
      have hs2 := run_from (some ⟨g, 0, none⟩) c (k + 1) cap1 (by omega)
      have hd := hbl.1.drop (k + 1) cap1 (by omega)
      obtain ⟨A2, hA2⟩ : ∃ A2, (if cap1 = k + 1 then some (⟨g, 0, none⟩ : Addr) else (some (⟨g, 0, none⟩ : Addr)).map (·.add ((k + 1) * 1))) = some A2 := by
        by_cases h : cap1 = k + 1
        · exact ⟨_, if_pos h⟩
        · exact ⟨_, if_neg h⟩
      rw [hA2] at hs2 hd
      obtain ⟨i0, hi0, hz0, hz1, hz2⟩ := info_parts info_u8
      have hrun : ∀ ty, (Builtin.append_ #[28, 28] ty #[.slice (some ⟨g, 0, none⟩) k cap1, .slice (some A2) (c - (k + 1)) (cap1 - (k + 1))]).run Try.prog w3.drew = .ok (.slice (some ⟨g, 0, none⟩) (k + (c - (k + 1))) cap1) (w3.drew.setRow g ((u8s l ++ m).toArray.toList.take (k * i0.size) ++ u8s (l.drop (k + 1)) ++ (u8s l ++ m).toArray.toList.drop (k * i0.size + (u8s (l.drop (k + 1))).length)).toArray) := fun ty =>
        run_append_room w3.drew 28 ty 5 i0 Try.underlying28 hi0 g k cap1 _ hh A2 (c - (k + 1)) (cap1 - (k + 1)) (u8s (l.drop (k + 1))) (by rw [u8s_len, List.length_drop, hz1]; omega) (cells_of_bytes hd) (u8s_one _) (by omega) (by rw [hz1, u8s_len, List.length_drop]; simp [u8s_len]; omega)
      rw [hz1] at hrun
      have e1 : (u8s l ++ m).toArray.toList.take (k * 1) = u8s (l.take k) := by
        simp [u8s, List.map_take, List.take_append_of_le_length (show k ≤ (l.map fun x : Nat => Value.int .u8 (x : Int)).length by simp; omega)]
      rw [e1, ← u8s_app] at hrun
      obtain ⟨R, hR⟩ : ∃ R, (u8s l ++ m).toArray.toList.drop (k * 1 + (u8s (l.drop (k + 1))).length) = R := ⟨_, rfl⟩
      have hRl : R.length = cap1 - (k + (c - (k + 1))) := by
        rw [← hR, List.length_drop, u8s_len, List.length_drop]; simp [u8s_len]; omega
      rw [hR] at hrun
      have hrow := row_new (w := w3.drew) (ds := (u8s (l.take k ++ l.drop (k + 1)) ++ R).toArray) hh
      obtain ⟨w4, hw4⟩ : ∃ w4, w3.drew.setRow g (u8s (l.take k ++ l.drop (k + 1)) ++ R).toArray = w4 := ⟨_, rfl⟩
      have T4 : TapeOk B w4 b := by rw [← hw4]; exact (T3.below ((Below.refl _ _).drew)).below (below_row _ (by omega) _)
      have U4 : Hid (Upd b W w4) := by rw [← hw4]; exact upd_row (U3.out.drew) hgW _
      rw [hw4] at hrun hrow
      have hrow := hide hrow
      have Hhl := hide hlc
      have HRl := hide hRl
      have hbI := hide (show IsB (l.take k ++ l.drop (k + 1)) from (hbl.1.1.take k).app (hbl.1.1.drop (k + 1)))
      have ek1 : ((k : Int) + 1) = ((k + 1 : Nat) : Int) := by omega
      rw [← ek1] at hs2
      have Hcapm := hide hcapm
      have hw1 : IntKind.i64.wrap ((k : Int) + 1) = (k : Int) + 1 := IntWalk.i64_in _ (by omega)
      clear hcapm hA2 hd hbl hh hw4 e1 hR hlc hRl ek1 O3 U3 T3 at0 at1 at2
      go_wp2_with fail
      go_region_law (refine step_append_run rfl (.tmp 52) (.tmp 56) 28 rfl _ _ _ _ (by simp [Act.eval, Act.put]) (by simp [Act.eval, Act.put]) hrun ?_)
      go_wp2_with fail
      go_ret
      have hcl : (l.take k ++ l.drop (k + 1)).length = k + (c - (k + 1)) := by
        have := Hhl.out
        rw [List.length_append, List.length_take, List.length_drop]; omega
      have hO : OwnB W.heap.size w4 (.slice (some ⟨g, 0, none⟩) (k + (c - (k + 1))) cap1) (l.take k ++ l.drop (k + 1)) := by
        refine ⟨⟨by rw [u8s_len]; omega, Or.inr ⟨g, cap1, _, ?_, hgW, hrow.out, by rw [hcl]; have := Hcapm.out; omega, by unfold maxLen; omega, ?_, ?_⟩⟩, hbI.out⟩
        · rw [hcl]
        · have := HRl.out
          have := Hcapm.out
          rw [List.size_toArray, List.length_append, u8s_len, hcl]; omega
        · rw [Nat.mul_one, ← u8s_len]; simp
      exact spoil_own hO (by omega) T4 U4.out
  · obtain ⟨hr3, hr6⟩ := hr
    have n0 : (r == 0) = false := beq_eq_false_iff_ne.2 (by omega)
    have n1 : (r == 1) = false := beq_eq_false_iff_ne.2 (by omega)
    have n2 : (r == 2) = false := beq_eq_false_iff_ne.2 (by omega)
    by_cases h0 : c = 0
    · have q0 : ¬ (0 : Int) < (c : Int) := by omega
      have H0 := hide h0
      clear h0
      go_wp2_with fail
      go_ret
      show SpoilPost B b c W (.returned (.slice A1 c cap1)) w3
      exact spoil_own O3.out (by have := HC.out; omega) T3 U3.out
    · have q0 : (0 : Int) < (c : Int) := by omega
      obtain ⟨k, rfl⟩ := Int.eq_ofNat_of_zero_le at0
      have hk : k < c := by have := at1 (by omega); omega
      obtain ⟨g, m, rfl, hgW, hh, hlc, hcapm, hcap63⟩ := own_block O3.out (by omega)
      have hkl : k < l.length := by omega
      have hcell : w3.cell? ⟨g, k, none⟩ = some (.int .u8 ((l.getD k 0 : Nat) : Int)) := by
        rw [cell_of_row w3 g k _ _ _ hh, getD_lt hkl]
        simp [u8s, hkl, List.getElem?_append_left]
      have hcf : w3.frozen? ⟨g, k, none⟩ = false := Blk.frozen (show Blk w3 g 5 (u8s l ++ m).toArray from hh) k
      have hgs : g < w3.heap.size := (Array.getElem?_eq_some_iff.1 hh).1
      have hgb : g ≠ b := by omega
      have T3d : TapeOk B w3.drew b := T3.below (Below.refl _ _).drew
      have i8 : I64 8 := ⟨by omega, by omega⟩
      have kc : (k : Int) < (c : Int) := by omega
      obtain ⟨x, hx⟩ : ∃ x, l.getD k 0 = x := ⟨_, rfl⟩
      rw [hx] at hcell
      have fin : Hid (∀ (w4 : World) (a b' : Int), w4.heap[g]? = some (.cells (u8s l ++ m).toArray 5 (0, 0)) → TapeOk B w4 b → Upd b W w4 → SpoilPost B b c W (.returned (.slice (some ⟨g, 0, none⟩) c cap1)) (w4.setCell ⟨g, k, none⟩ (.int .u8 (bits .xor .u8 a b')))) := fun w4 a b' h4 T4 U4 => by
        obtain ⟨y, hy, hy256⟩ := xor_u8 a b'
        rw [hy]
        have hset := Blk.set_ (show Blk w4 g 5 (u8s l ++ m).toArray from h4) k (.int .u8 (y : Int))
        have e : (u8s l ++ m).toArray.setIfInBounds k (.int .u8 (y : Int)) = (u8s (l.set k y) ++ m).toArray := by
          rw [List.setIfInBounds_toArray, List.set_append_left k _ (by rw [u8s_len]; exact hkl)]
          simp [u8s, List.map_set]
        rw [e] at hset
        have hO : OwnB W.heap.size (w4.setCell ⟨g, k, none⟩ (.int .u8 (y : Int))) (.slice (some ⟨g, 0, none⟩) c cap1) (l.set k y) := by
          refine ⟨⟨by rw [u8s_len]; simp, Or.inr ⟨g, cap1, _, by simp [hlc], hgW, hset, by simp; omega, by unfold maxLen; omega, by rw [List.size_toArray, List.length_append, u8s_len]; simp; omega, ?_⟩⟩, ?_⟩
          · rw [Nat.mul_one, ← u8s_len]; simp
          · intro z hz
            rcases List.mem_or_eq_of_mem_set hz with h | h
            · exact O3.out.2 z h
            · omega
        exact spoil_own hO (by simp; omega) (T4.store (by omega) _) (U4.store hgW _)
      have HH := hide hh
      have Hkl := hide hkl
      have Hcapm := hide hcapm
      have Hhl := hide hlc
      have HI := hide O3.out.2
      clear hh hkl hx hcapm hlc O3
      go_wp2_with fail
      go_region_with (go_at_call 20; (with_reducible refine (t_next B b 8 _ i8 T3d).mono ?_); rintro e w4 ⟨u, rfl, hu, T4, u4⟩; have hh4 := hide ((u4.2.2.2.2 g hgs hgb).trans HH.out); have c4 : w4.cell? ⟨g, k, none⟩ = some (.int .u8 (x : Int)) := (World.cell?_of_block (a := ⟨g, k, none⟩) (u4.2.2.2.2 g hgs hgb)).trans hcell; have f4 : w4.frozen? ⟨g, k, none⟩ = false := (World.frozen?_of_block (a := ⟨g, k, none⟩) (u4.2.2.2.2 g hgs hgb)).trans hcf; have U4 := hide (U3.out.drew.trans u4); have u0 := hu.1; have u1 := hu.2.1 (by omega); clear hu u4)
      all_goals go_wp2_with fail
      all_goals go_ret
      all_goals exact fin.out _ _ _ hh4.out T4 U4.out
end
section
open Go Go.RowKit
/-- The bytes of a number: its groups of seven bits, the least significant one first, 128 added to each that another one follows. -/
def encB (n : Nat) : List Nat := if h : n < 128 then [n] else (n % 128 + 128) :: encB (n / 128)
termination_by n
decreasing_by omega
/-- What bytes stand for. -/
def decB : List Nat → Nat
  | [] => 0
  | b :: l => b % 128 + 128 * decB l
theorem encB_small {n : Nat} (h : n < 128) : encB n = [n] := by rw [encB, dif_pos h]
theorem encB_big {n : Nat} (h : 128 ≤ n) : encB n = (n % 128 + 128) :: encB (n / 128) := by rw [encB, dif_neg (by omega)]
theorem encB_ne (n : Nat) : encB n ≠ [] := by
  by_cases h : n < 128
  · rw [encB_small h]; simp
  · rw [encB_big (by omega)]; simp
theorem decB_encB (n : Nat) : decB (encB n) = n := by
  induction n using Nat.strongRecOn with
  | ind n ih =>
    by_cases h : n < 128
    · rw [encB_small h]; simp [decB]; omega
    · rw [encB_big (by omega)]
      simp only [decB]
      rw [ih (n / 128) (by omega)]; omega
theorem encB_length_le (n k : Nat) (h : n < 128 ^ (k + 1)) : (encB n).length ≤ k + 1 := by
  induction k generalizing n with
  | zero => rw [encB_small (by simpa using h)]; simp
  | succ k ih =>
    by_cases h1 : n < 128
    · rw [encB_small h1]; simp
    · rw [encB_big (by omega)]
      have := ih (n / 128) (by rw [Nat.pow_succ] at h; exact Nat.div_lt_of_lt_mul (by rw [Nat.mul_comm]; exact h))
      simp; omega
theorem encB_length_gt (n k : Nat) (h : 128 ^ k ≤ n) : k + 1 ≤ (encB n).length := by
  induction k generalizing n with
  | zero => have := encB_ne n; have : 0 < (encB n).length := List.length_pos_iff.2 this; omega
  | succ k ih =>
    have h1 : 128 ≤ n := by
      have : 128 ^ 1 ≤ 128 ^ (k + 1) := Nat.pow_le_pow_right (by omega) (by omega)
      omega
    rw [encB_big h1]
    have := ih (n / 128) (by rw [Nat.pow_succ] at h; exact (Nat.le_div_iff_mul_le (by omega)).2 h)
    simp; omega
/-- zigzag -/
def zig (v : Int) : Nat := if 0 ≤ v then (2 * v).toNat else (-2 * v - 1).toNat
def zag (n : Nat) : Int := if n % 2 = 0 then (n / 2 : Nat) else -((n / 2 : Nat) : Int) - 1
theorem zag_zig (v : Int) : zag (zig v) = v := by
  unfold zag zig
  by_cases h : 0 ≤ v
  · rw [if_pos h, if_pos (by omega)]; omega
  · rw [if_neg h, if_neg (by omega)]; omega
theorem zig_lt {v : Int} (h1 : -9223372036854775808 ≤ v) (h2 : v ≤ 9223372036854775807) : zig v < 18446744073709551616 := by
  unfold zig; split <;> omega
/-- The group j of a number. -/
def gr (v j : Nat) : Nat := v / 128 ^ j % 128
/-- k groups of a number, 128 added to each. -/
def grs (v : Nat) : Nat → List Nat
  | 0 => []
  | k + 1 => grs v k ++ [gr v k + 128]
theorem gr_lt (v j : Nat) : gr v j < 128 := Nat.mod_lt _ (by omega)
theorem grs_len (v k : Nat) : (grs v k).length = k := by
  induction k with
  | zero => rfl
  | succ k ih => simp [grs, ih]
theorem gr_succ (v j : Nat) : gr v (j + 1) = gr (v / 128) j := by
  unfold gr; rw [Nat.pow_succ, Nat.div_div_eq_div_mul, Nat.mul_comm]
theorem grs_succ (v : Nat) : ∀ k, grs v (k + 1) = (v % 128 + 128) :: grs (v / 128) k
  | 0 => by simp [grs, gr]
  | k + 1 => by
    show grs v (k + 1) ++ [gr v (k + 1) + 128] = _
    rw [grs_succ v k, gr_succ]; rfl
/-- An encoding, group by group. -/
theorem encB_grs (v k : Nat) (h : (encB v).length = k + 1) : encB v = grs v k ++ [gr v k] := by
  induction k generalizing v with
  | zero =>
    by_cases h1 : v < 128
    · rw [encB_small h1]; simp [grs, gr]; omega
    · rw [encB_big (by omega)] at h
      have := List.length_pos_iff.2 (encB_ne (v / 128))
      rw [List.length_cons] at h; omega
  | succ k ih =>
    by_cases h1 : v < 128
    · rw [encB_small h1] at h; simp at h
    · rw [encB_big (by omega)] at h ⊢
      rw [ih (v / 128) (by simpa using h), grs_succ, gr_succ]; rfl
theorem encB_pos (v : Nat) : 1 ≤ (encB v).length := List.length_pos_iff.2 (encB_ne v)
/-- The bytes up to the first one below 128, of at most so many. -/
def scanG : Nat → List Nat → Option (List Nat)
  | 0, _ => none
  | _ + 1, [] => none
  | m + 1, b :: l => if b < 128 then some [b] else (scanG m l).map (b :: ·)
theorem scanG_some : ∀ (m : Nat) (l g : List Nat), scanG m l = some g → ∃ r x, g = r ++ [x] ∧ x < 128 ∧ (∀ y ∈ r, 128 ≤ y) ∧ g <+: l ∧ g.length ≤ m
  | m + 1, b :: l, g, h => by
    unfold scanG at h
    by_cases hb : b < 128
    · rw [if_pos hb] at h
      have h := Option.some.inj h
      subst h
      exact ⟨[], b, rfl, hb, by simp, ⟨l, rfl⟩, by simp⟩
    · rw [if_neg hb] at h
      cases hs : scanG m l with
      | none => rw [hs] at h; cases h
      | some g' =>
        rw [hs] at h
        have h := Option.some.inj h
        subst h
        obtain ⟨r, x, rfl, hx, hr, ⟨t, ht⟩, hl⟩ := scanG_some m l g' hs
        refine ⟨b :: r, x, rfl, hx, ?_, ⟨t, by rw [← ht]; rfl⟩, by simp at hl ⊢; omega⟩
        intro y hy
        rcases List.mem_cons.1 hy with rfl | hy
        · omega
        · exact hr y hy
/-- Found at the place j. -/
theorem scanG_at : ∀ (m : Nat) (l : List Nat) (j : Nat), j < m → j < l.length → l.getD j 0 < 128 → (∀ i, i < j → 128 ≤ l.getD i 0) → scanG m l = some (l.take (j + 1))
  | m + 1, b :: l, 0, _, _, h, _ => by
    have h : b < 128 := h
    unfold scanG; rw [if_pos h]; rfl
  | m + 1, b :: l, j + 1, h1, h2, h, hr => by
    have hb : 128 ≤ b := hr 0 (by omega)
    unfold scanG
    rw [if_neg (by omega), scanG_at m l j (by omega) (by simpa using h2) (by simpa using h) (fun i hi => by have := hr (i + 1) (by omega); simpa using this)]
    rfl
theorem scanG_none : ∀ (m : Nat) (l : List Nat), (∀ i, i < m → i < l.length → 128 ≤ l.getD i 0) → scanG m l = none
  | 0, _, _ => rfl
  | _ + 1, [], _ => rfl
  | m + 1, b :: l, hr => by
    have hb : 128 ≤ b := hr 0 (by omega) (by simp)
    unfold scanG
    rw [if_neg (by omega), scanG_none m l (fun i hi h2 => by have := hr (i + 1) (by omega) (by simpa using h2); simpa using this)]
    rfl
/-- Word i of a number. -/
def w5 (C i : Nat) : Nat := C / 18446744073709551616 ^ i % 18446744073709551616
theorem p_groups (n m : Int) (w : World) (h0 : 0 ≤ n) (h1 : n ≤ 10000) (hm : max 1 ((n + 7 - 1) / 7) = m) : Calls Try.prog 76 #[.int .i64 n] w (RetSame (.int .i64 m) w) := by
  go_enter Try.func76, Try.ntmps76
  go_wp2_with fail
  go_ret
  exact ⟨rfl, rfl⟩
theorem b_lenQ (x : Nat) (w : World) (hx : x < 18446744073709551616) (h0 : 0 < x) : Calls Try.prog 67 #[.int .u64 (x : Int)] w fun e w' => ∃ s : Nat, e = .returned (.int .i64 (s : Int)) ∧ 1 ≤ s ∧ s ≤ 64 ∧ x < 2 ^ s ∧ 2 ^ (s - 1) ≤ x ∧ w = w' := by
  refine (p_len64 x w hx).mono ?_
  rintro e w' ⟨rfl, rfl⟩
  obtain ⟨i1, i2, i3⟩ := bitLen_spec x hx
  obtain ⟨j1, j2⟩ := i3 (by omega)
  exact ⟨Lib.bitLen x, rfl, j1, i1, i2, j2, rfl⟩
theorem b_len0 (w : World) : Calls Try.prog 67 #[.int .u64 0] w (RetSame (.int .i64 0) w) := by
  refine (Go.Proofs.Any.bits_Len64 (P := Try.prog) (ρ := l64Ren) l64Lays 0 w (by omega) (by omega)).mono ?_
  rintro e w' ⟨rfl, rfl⟩
  exact ⟨by rw [show Lib.bitLen (0 : Int).toNat = 0 by decide +kernel]; rfl, rfl⟩
theorem pow_seven (k : Nat) : 2 ^ (7 * k) = 128 ^ k := by rw [Nat.pow_mul]
theorem size_groups {v s : Nat} (h1 : 2 ^ s ≤ v) (h2 : v < 2 ^ (s + 1)) : (encB v).length = (s + 7) / 7 := by
  have a : v < 128 ^ (s / 7 + 1) := by
    rw [← pow_seven]
    exact Nat.lt_of_lt_of_le h2 (Nat.pow_le_pow_right (by omega) (by omega))
  have b : 128 ^ (s / 7) ≤ v := by
    rw [← pow_seven]
    exact Nat.le_trans (Nat.pow_le_pow_right (by omega) (by omega)) h1
  have a' := encB_length_le v _ a
  have b' := encB_length_gt v _ b
  omega
theorem p_size (v : Nat) (w : World) (hv : v < 18446744073709551616) : Calls Try.prog 69 #[.int .u64 (v : Int)] w (RetSame (.int .i64 ((encB v).length : Int)) w) := by
  obtain ⟨L, hL⟩ : ∃ L : Int, ((encB v).length : Int) = L := ⟨_, rfl⟩
  rw [hL]
  by_cases h0 : v = 0
  · subst h0
    have hL1 : L = 1 := by rw [← hL, encB_small (by omega)]; rfl
    subst hL1
    clear hL hv
    have kg : Hid (∀ w, Calls Try.prog 76 #[.int .i64 0] w (RetSame (.int .i64 1) w)) := fun w => p_groups 0 1 w (by omega) (by omega) (by omega)
    go_enter Try.func69, Try.ntmps69
    go_wp2_with (first
      | (go_at_call 67; (with_reducible refine (b_len0 _).mono ?_); rintro e w' ⟨rfl, rfl⟩)
      | (go_at_call 76; (with_reducible refine (kg.out _).mono ?_); rintro e w' ⟨rfl, rfl⟩))
    go_ret
    exact ⟨rfl, rfl⟩
  · have kg : Hid (∀ (s : Nat) (w : World), 1 ≤ s → s ≤ 64 → v < 2 ^ s → 2 ^ (s - 1) ≤ v → Calls Try.prog 76 #[.int .i64 (s : Int)] w (RetSame (.int .i64 L) w)) := by
      intro s w h1 h2 h3 h4
      refine p_groups _ _ w (by omega) (by omega) ?_
      obtain ⟨k, rfl⟩ : ∃ k, s = k + 1 := ⟨s - 1, by omega⟩
      have := size_groups (s := k) (by simpa using h4) h3
      rw [← hL, this]
      omega
    have hv0 : 0 < v := by omega
    clear hL h0
    go_enter Try.func69, Try.ntmps69
    go_wp2_with (first
      | (go_at_call 67; (with_reducible refine (b_lenQ v _ hv hv0).mono ?_); rintro e w' ⟨s, rfl, s1, s2, s3, s4, rfl⟩; have kk := hide (kg.out s · s1 s2 s3 s4); clear s3 s4)
      | (go_at_call 76; (with_reducible refine (kk.out _).mono ?_); rintro e w' ⟨rfl, rfl⟩))
    go_ret
    exact ⟨rfl, rfl⟩
theorem ofInt_nat (x : Int) (h0 : 0 ≤ x) (h1 : x < 18446744073709551616) : ((BitVec.ofInt 64 x).toNat : Int) = x := by
  rw [BitVec.toNat_ofInt]; omega
theorem xor_zero64 {x : Int} (h0 : 0 ≤ x) (h1 : x < 18446744073709551616) : bits .xor .u64 x 0 = x := by
  show IntKind.u64.wrap ((BitVec.ofInt 64 x ^^^ BitVec.ofInt 64 0).toNat : Int) = _
  have e : BitVec.ofInt 64 0 = 0#64 := by decide
  rw [e, BitVec.xor_zero, ofInt_nat x h0 h1, wrap_u64']; omega
theorem xor_ones64 {x : Int} (h0 : 0 ≤ x) (h1 : x < 18446744073709551616) : bits .xor .u64 x 18446744073709551615 = 18446744073709551615 - x := by
  show IntKind.u64.wrap ((BitVec.ofInt 64 x ^^^ BitVec.ofInt 64 18446744073709551615).toNat : Int) = _
  have e : BitVec.ofInt 64 18446744073709551615 = BitVec.allOnes 64 := by decide
  have k := ofInt_nat x h0 h1
  rw [e, BitVec.xor_allOnes, BitVec.toNat_not, wrap_u64']
  omega
theorem and_one64 (n : Nat) (h : n < 18446744073709551616) : bits .and .u64 (n : Int) 1 = ((n % 2 : Nat) : Int) := by
  show IntKind.u64.wrap ((BitVec.ofInt 64 n &&& BitVec.ofInt 64 1).toNat : Int) = _
  have e : (BitVec.ofInt 64 1).toNat = 1 := by decide
  have k := ofInt_nat n (by omega) (by omega)
  have k' : (BitVec.ofInt 64 (n : Int)).toNat = n := by omega
  rw [BitVec.toNat_and, e, k', Nat.and_one_is_mod, wrap_u64']
  omega
theorem xor_zero_i {x : Int} (h0 : 0 ≤ x) (h1 : x ≤ 9223372036854775807) : bits .xor .i64 x 0 = x := by
  show IntKind.i64.wrap ((BitVec.ofInt 64 x ^^^ BitVec.ofInt 64 0).toNat : Int) = _
  have e : BitVec.ofInt 64 0 = 0#64 := by decide
  rw [e, BitVec.xor_zero, ofInt_nat x h0 (by omega)]
  exact IntWalk.i64_in _ (by omega)
theorem xor_ones_i {x : Int} (h0 : 0 ≤ x) (h1 : x ≤ 9223372036854775807) : bits .xor .i64 x (-1) = -x - 1 := by
  show IntKind.i64.wrap ((BitVec.ofInt 64 x ^^^ BitVec.ofInt 64 (-1)).toNat : Int) = _
  have e : BitVec.ofInt 64 (-1) = BitVec.allOnes 64 := by decide
  have k := ofInt_nat x h0 (by omega)
  rw [e, BitVec.xor_allOnes, BitVec.toNat_not]
  simp [IntKind.wrap, IntKind.bits, IntKind.signed]
  omega
theorem p_zigzag (v : Int) (w : World) (h1 : -9223372036854775808 ≤ v) (h2 : v ≤ 9223372036854775807) : Calls Try.prog 28 #[.int .i64 v] w (RetSame (.int .u64 (zig v : Int)) w) := by
  by_cases h : 0 ≤ v
  · have e : Hid (bits BinOp.xor IntKind.u64 (v * 2) (v / 9223372036854775808) = (zig v : Int)) := by
      have : v / 9223372036854775808 = 0 := by omega
      show _ = _
      rw [this, xor_zero64 (by omega) (by omega)]; unfold zig; rw [if_pos h]; omega
    go_enter Try.func28, Try.ntmps28
    go_wp2_with fail
    go_ret
    exact ⟨congrArg (fun x => Ending.returned (Value.int .u64 x)) e.out, rfl⟩
  · have e : Hid (bits BinOp.xor IntKind.u64 (IntKind.u64.wrap (IntKind.u64.wrap v * 2)) (IntKind.u64.wrap (v / 9223372036854775808)) = (zig v : Int)) := by
      have a : v / 9223372036854775808 = -1 := by omega
      have b : IntKind.u64.wrap (-1) = 18446744073709551615 := by rw [wrap_u64']; omega
      have c : IntKind.u64.wrap (IntKind.u64.wrap v * 2) = v * 2 + 18446744073709551616 := by rw [wrap_u64', wrap_u64']; omega
      show _ = _
      rw [a, b, c, xor_ones64 (by omega) (by omega)]; unfold zig; rw [if_neg h]; omega
    go_enter Try.func28, Try.ntmps28
    go_wp2_with fail
    go_ret
    exact ⟨congrArg (fun x => Ending.returned (Value.int .u64 x)) e.out.symm.symm, rfl⟩
theorem p_unzigzag (n : Nat) (w : World) (h : n < 18446744073709551616) : Calls Try.prog 53 #[.int .u64 (n : Int)] w (RetSame (.int .i64 (zag n)) w) := by
  have e : Hid (bits BinOp.xor IntKind.i64 ((n : Int) / 2) (wrap64 (-wrap64 (bits BinOp.and IntKind.u64 (n : Int) 1))) = zag n) := by
    show _ = _
    rw [and_one64 n h]
    unfold zag
    by_cases k : n % 2 = 0
    · rw [k, if_pos rfl]
      have a : wrap64 (-wrap64 ((0 : Nat) : Int)) = 0 := by simp [wrap64]
      rw [a, xor_zero_i (by omega) (by omega)]; omega
    · have k1 : n % 2 = 1 := by omega
      rw [k1, if_neg (by omega)]
      have a : wrap64 (-wrap64 ((1 : Nat) : Int)) = -1 := by simp [wrap64]
      rw [a, xor_ones_i (by omega) (by omega)]; omega
  go_enter Try.func53, Try.ntmps53
  go_wp2_with fail
  go_ret
  exact ⟨congrArg (fun x => Ending.returned (Value.int .i64 x)) e.out, rfl⟩
/-- What is returned is owned, made since W; of what was there only block g may have changed. -/
def OwnUpd (g : Nat) (l : List Nat) (W : World) (e : Ending) (w' : World) : Prop := ∃ v, e = .returned v ∧ OwnB W.heap.size w' v l ∧ Upd g W w'
/-- A function that yields group after group; its state lies in block g. -/
structure Yields (f : FuncId) (cp : Array Value) (g : Nat) (St : Nat → World → Prop) (q : Nat → Nat) : Prop where
  call : ∀ j w, St j w → Calls Try.prog f cp w (fun e w' => e = .returned (.int .u8 (q j : Int)) ∧ St (j + 1) w' ∧ Upd g w w')
  keep : ∀ j w w', St j w → w.heap.size ≤ w'.heap.size → w'.heap[g]? = w.heap[g]? → St j w'
  enter : ∀ w, (callFunc f cp).run Try.prog w = .ok (.enter f cp) w
  lt : ∀ j, q j < 128
  inn : ∀ j w, St j w → g < w.heap.size
def qs (q : Nat → Nat) : Nat → List Nat
  | 0 => []
  | k + 1 => qs q k ++ [q k + 128]
theorem qs_len (q : Nat → Nat) (k : Nat) : (qs q k).length = k := by
  induction k with
  | zero => rfl
  | succ k ih => simp [qs, ih]
theorem run_make8 (n m : Nat) (hnm : n ≤ m) (hm : m ≤ 281474976710656) (w : World) : (Instr.makeSlice 28 (.int .i64 (n : Int)) (.int .i64 (m : Int))).run Try.prog w = .ok (.slice (some ⟨w.heap.size, 0, none⟩) n m) (w.alloc (.cells (u8s (List.replicate m 0)).toArray 5)) := by
  obtain ⟨i0, hi0, hz0, hz1, hz2⟩ := info_parts info_u8
  have := run_make (P := Try.prog) w 28 5 i0 (.int .u8 0) Try.underlying28 hi0 hz0 .i64 .i64 (n : Int) (m : Int) (by omega) (by omega) (by rw [hz2]; omega) (by omega)
  rw [this, hz1, Int.toNat_natCast, Int.toNat_natCast]
  have e : madeCells (Value.int .u8 0).cells (m * 1) = (u8s (List.replicate m 0)).toArray := by
    rw [← made8 m]
  rw [e]
theorem grown_at {W w w' : World} {row : Option Nat} {g : Nat} (h : w.grownBy w' row) (hg : g < W.heap.size) (hs : W.heap.size ≤ w.heap.size) (hr : ∀ k, row = some k → W.heap.size ≤ k) : w'.heap[g]? = w.heap[g]? :=
  h.block g (by omega) (fun e => by have := hr g e.symm; omega)
set_option maxRecDepth 100000 in
set_option maxHeartbeats 1600000 in
theorem p_ag (f : Nat) (g : Nat) (St : Nat → World → Prop) (q : Nat → Nat) (A : Option Addr) (c cap k : Nat) (l : List Nat) (W : World) (hY : Yields f #[.pointer (some ⟨g, 0, none⟩)] g St q) (hS : St 0 W) (hb : BytesAt W A l) (hc : l.length = c) (hlen : c ≤ 140737488355264) (hk : k ≤ 36) :
    Calls Try.prog 78 #[.slice A c cap, .int .i64 ((k : Int) + 1), .func (.func f) #[] #[.pointer (some ⟨g, 0, none⟩)]] W (OwnUpd g (l ++ (qs q k ++ [q k])) W) := by
  have hgW := hY.inn 0 W hS
  have hm := fun w => run_make8 c (c + (k + 1)) (by omega) (by omega) w
  have ec : ((c + (k + 1) : Nat) : Int) = (c : Int) + ((k : Int) + 1) := by omega
  rw [ec] at hm
  have E0 := ext_alloc W (.cells (u8s (List.replicate (c + (k + 1)) 0)).toArray 5)
  have hb1 := hb.ext E0
  have hS1 : St 0 (W.alloc (.cells (u8s (List.replicate (c + (k + 1)) 0)).toArray 5)) := hY.keep 0 _ _ hS E0.size (E0.block g hgW)
  have hpos : 0 < (u8s l).length → (some (⟨W.heap.size, 0, none⟩ : Addr)) = some ⟨W.heap.size, 0, none⟩ ∧ ∃ ad, A = some ad ∧ ∀ j v, (u8s l)[j]? = some v → (W.alloc (.cells (u8s (List.replicate (c + (k + 1)) 0)).toArray 5)).cell? (ad.add j) = some v := fun hp => by
    rw [u8s_len] at hp
    obtain ⟨b, off, rfl, _, _⟩ := hb1.2.2 hp
    exact ⟨rfl, _, rfl, cells_of_bytes hb1⟩
  have hsz8 : (Try.prog.info? 5).map (·.size) = some 1 := by kernel_rfl
  have hfit : 0 + (u8s l).length ≤ (u8s (List.replicate (c + (k + 1)) 0)).length := by rw [u8s_len, u8s_len, List.length_replicate]; omega
  have hmin : (u8s l).length = Nat.min c c := by rw [u8s_len, hc]; exact (Nat.min_self c).symm
  have HE0 := hide E0
  have HC := hide hc
  have HI := hide hb.1
  have HY := hide hY
  have hen := hY.enter
  have HS := hide hS
  clear ec hb hS hb1 hS1 hY hc E0
  go_enter Try.func78, Try.ntmps78
  go_wp2_with (refine wpList_copy_splice rfl (.tmp 15) (.tmp 16) 28 28 rfl 5 Try.underlying28 hsz8 (some ⟨W.heap.size, 0, none⟩) A c (c + (k + 1)) c cap rfl rfl W.heap.size 0 (u8s (List.replicate (c + (k + 1)) 0)) 5 (heap_alloc_new W _) (u8s l) hmin hpos hfit (u8s_one l) W.heap.size W HE0.out (Nat.le_refl _) ?_; intro w1 hrow hE1)
  have hO : OwnB W.heap.size w1 (.slice (some ⟨W.heap.size, 0, none⟩) c (c + (k + 1))) l := by
    refine own_of (m := List.replicate (k + 1) 0) (Nat.le_refl _) ?_ HC.out (by simp) (by omega) HI.out
    rw [hrow.out]
    congr 2
    unfold splice
    rw [u8s_app, u8s_len, HC.out]
    simp [u8s]
  have hS1 : Hid (St 0 w1) := HY.out.keep 0 W w1 HS.out hE1.size (hE1.block g hgW)
  have hU1 : Hid (Upd g W w1) := Ext.upd hE1 g
  have hO := hide hO
  clear hrow hE1 hpos hfit hmin hsz8 hm HE0
  go_loopw [7, 20] (fun u i wr => ∃ j : Nat, j ≤ k ∧ i = .int .i64 j ∧ Hid (OwnB W.heap.size wr u (l ++ qs q j)) ∧ Hid (St j wr) ∧ Hid (Upd g W wr)) (fun _ i _ => k - (intOf i).toNat)
  case atStart => exact ⟨0, by omega, rfl, hide (by rw [qs, List.append_nil]; exact hO.out), hS1, hU1⟩
  case round =>
    clear hO hS1 hU1
    obtain ⟨j, hj, rfl, HO, HSt, HU⟩ := hrel
    have hqj := HY.out.lt j
    by_cases hlt : j < k
    · go_wp2_with fail
      (with_reducible refine (HY.out.call j _ HSt.out).mono ?_)
      rintro e w2 ⟨rfl, hS2, hU2⟩
      have hO2 := hide ((HO.out.upd hU2 hgW).alloc (.cells #[Value.int .u8 ((q j : Int) + 128)] 5))
      have hUU := hide ((HU.out.trans hU2).trans (Ext.upd (ext_alloc w2 (.cells #[Value.int .u8 ((q j : Int) + 128)] 5)) g))
      have hgw2 := HY.out.inn _ _ hS2
      have hSS := hide (HY.out.keep (j + 1) _ (w2.alloc (.cells #[Value.int .u8 ((q j : Int) + 128)] 5)) hS2 (by simp) ((ext_alloc w2 _).block g hgw2))
      have hone := hide (one_at w2 (q j + 128) (by omega) (Value.int .u8 ((q j : Int) + 128)) rfl)
      have hsz : W.heap.size ≤ (w2.alloc (.cells #[Value.int .u8 ((q j : Int) + 128)] 5)).heap.size := hUU.out.2.2.2.1
      have hle : (l ++ qs q j).length + [q j + 128].length ≤ 140737488355328 := by rw [List.length_append, qs_len]; have := HC.out; simp; omega
      clear HO HSt HU hS2 hU2
      go_wp2_with (at_builtin; refine wl_append8 rfl (.tmp 22) (.tmp 26) rfl W.heap.size _ _ _ rfl hO2.out _ 1 1 rfl hone.out rfl hle hsz ?_; intro v3 w3 hO3 hG3 hA3)
      have hr := fun k hk => (hO2.out.1.lt k hk).1
      have hO3 := hide hO3
      have hU3 := hide (upd_grown hUU.out hG3 hr)
      have hS3 := hide (HY.out.keep (j + 1) _ w3 hSS.out hG3.size (grown_at hG3 hgW hsz hr))
      clear hG3 hA3 hr hUU hSS hO2 hone hsz hle
      go_wp2_with fail
      go_roundw
      case rel => exact ⟨j + 1, by omega, by go_num, hide (by rw [qs, ← List.append_assoc]; exact hO3.out), hS3, hU3⟩
      case measure => simp [intOf]; omega
    · obtain rfl : j = k := by omega
      go_wp2_with fail
      (with_reducible refine (HY.out.call j _ HSt.out).mono ?_)
      rintro e w2 ⟨rfl, hS2, hU2⟩
      have hO2 := hide ((HO.out.upd hU2 hgW).alloc (.cells #[Value.int .u8 (q j : Int)] 5))
      have hUU := hide ((HU.out.trans hU2).trans (Ext.upd (ext_alloc w2 (.cells #[Value.int .u8 (q j : Int)] 5)) g))
      have hone := hide (one_at w2 (q j) (by omega) (Value.int .u8 (q j : Int)) rfl)
      have hsz : W.heap.size ≤ (w2.alloc (.cells #[Value.int .u8 (q j : Int)] 5)).heap.size := hUU.out.2.2.2.1
      have hle : (l ++ qs q j).length + [q j].length ≤ 140737488355328 := by rw [List.length_append, qs_len]; have := HC.out; simp; omega
      clear HO HSt HU hS2 hU2
      go_wp2_with (at_builtin; refine wl_append8 rfl (.tmp 29) (.tmp 32) rfl W.heap.size _ _ _ rfl hO2.out _ 1 1 rfl hone.out rfl hle hsz ?_; intro v3 w3 hO3 hG3 hA3)
      have hr := fun k hk => (hO2.out.1.lt k hk).1
      have hU3 := hide (upd_grown hUU.out hG3 hr)
      have hO3 := hide hO3
      clear hG3 hA3 hr
      go_wp2_with fail
      go_ret
      exact ⟨_, rfl, by rw [← List.append_assoc]; exact hO3.out, hU3.out⟩
def StV (v g j : Nat) (w : World) : Prop := Blk w g 62 #[.int .u64 ((v / 128 ^ j : Nat) : Int)]
theorem p_next1 (v g j : Nat) (w : World) (hv : v < 18446744073709551616) (h : StV v g j w) : Calls Try.prog 79 #[.pointer (some ⟨g, 0, none⟩)] w (fun e w' => e = .returned (.int .u8 (gr v j : Int)) ∧ StV v g (j + 1) w' ∧ Upd g w w') := by
  have hx : v / 128 ^ j < 18446744073709551616 := Nat.lt_of_le_of_lt (Nat.div_le_self _ _) hv
  have hs := hide (Blk.set_ h 0 (.int .u64 ((v / 128 ^ (j + 1) : Nat) : Int)))
  have e1 : Hid (v / 128 ^ (j + 1) = v / 128 ^ j / 128) := by
    show _ = _
    rw [Nat.pow_succ, Nat.div_div_eq_div_mul]
  have e2 : Hid (gr v j = v / 128 ^ j % 128) := rfl
  have f0 := h.frozen 0
  have c0 : w.cell? ⟨g, 0, none⟩ = some (.int .u64 ((v / 128 ^ j : Nat) : Int)) := h.cell 0
  obtain ⟨x, hxx⟩ : ∃ x, v / 128 ^ j = x := ⟨_, rfl⟩
  rw [hxx] at c0 e1 e2 hx
  have hm : x % 128 < 256 := by omega
  clear h hxx
  have eg : Hid (∀ y : Int, y = (x : Int) % 128 → Ending.returned (.int .u8 y) = .returned (.int .u8 (gr v j : Int))) := fun y hy => by rw [hy, e2.out]; rfl
  have es : Hid (∀ y : Int, y = (x : Int) / 128 → StV v g (j + 1) (w.setCell ⟨g, 0, none⟩ (.int .u64 y))) := fun y hy => by
    have := hs.out
    rw [e1.out] at this
    rw [hy]
    unfold StV
    rw [e1.out]
    simpa using this
  clear hs e1 e2
  go_enter Try.func79, Try.ntmps79
  go_wp2_with fail
  go_ret
  exact ⟨eg.out _ rfl, es.out _ rfl, upd_set _ _ _ _⟩
theorem yields1 (v g : Nat) (hv : v < 18446744073709551616) : Yields 79 #[.pointer (some ⟨g, 0, none⟩)] g (StV v g) (gr v) :=
  ⟨fun j w h => p_next1 v g j w hv h, fun j w w' h hs e => e.trans h, fun w => by go_simp, fun j => gr_lt v j, fun j w h => h.lt⟩
theorem qs_grs (v k : Nat) : qs (gr v) k = grs v k := by
  induction k with
  | zero => rfl
  | succ k ih => simp [qs, grs, ih]
set_option maxRecDepth 100000 in
theorem p_vappend (A : Option Addr) (c cap v : Nat) (l : List Nat) (W : World) (hb : BytesAt W A l) (hc : l.length = c) (hlen : c ≤ 140737488355264) (hv : v < 18446744073709551616) :
    Calls Try.prog 71 #[.slice A c cap, .int .u64 (v : Int)] W (OwnRet (l ++ encB v) W) := by
  obtain ⟨k, hk⟩ : ∃ k, (encB v).length = k + 1 := ⟨(encB v).length - 1, by have := encB_pos v; omega⟩
  have hk9 : k ≤ 9 := by
    have := encB_length_le v 9 (by omega)
    omega
  have e := encB_grs v k hk
  have E0 := ext_alloc W (.cells #[.int .u64 (v : Int)] 62)
  have hB : Blk (W.alloc (.cells #[.int .u64 (v : Int)] 62)) W.heap.size 62 #[.int .u64 (v : Int)] := Blk.new W _ _
  have hS : StV v W.heap.size 0 (W.alloc (.cells #[.int .u64 (v : Int)] 62)) := by
    unfold StV; simpa using hB
  have KZ : Hid (∀ w, Calls Try.prog 69 #[.int .u64 (v : Int)] w (RetSame (.int .i64 ((k : Int) + 1)) w)) := fun w => by
    have := p_size v w hv
    rw [hk] at this
    exact this
  have KA : Hid (Calls Try.prog 78 #[.slice A c cap, .int .i64 ((k : Int) + 1), .func (.func 79) #[] #[.pointer (some ⟨W.heap.size, 0, none⟩)]] (W.alloc (.cells #[.int .u64 (v : Int)] 62)) (OwnUpd W.heap.size (l ++ encB v) (W.alloc (.cells #[.int .u64 (v : Int)] 62)))) := by
    have := p_ag 79 W.heap.size (StV v W.heap.size) (gr v) A c cap k l _ (yields1 v W.heap.size hv) hS (hb.ext E0) hc hlen (by omega)
    rw [qs_grs, ← e] at this
    exact this
  have hmf : ∀ (fn : Fn) (first cap : Array Value) (w : World), (Instr.makeFunc fn first cap).run Try.prog w = .ok (.func fn first cap) w := fun _ _ _ _ => rfl
  have c0 : (W.alloc (.cells #[.int .u64 (v : Int)] 62)).cell? ⟨W.heap.size, 0, none⟩ = some (.int .u64 (v : Int)) := hB.cell 0
  have HE := hide E0
  clear hk e hS hB hb hc E0
  go_enter Try.func71, Try.ntmps71
  go_wp2_with (first
    | (go_at_call 69; (with_reducible refine (KZ.out _).mono ?_); rintro e w1 ⟨rfl, rfl⟩)
    | (go_at_call 78; (with_reducible refine (KA.out).mono ?_); rintro e w2 ⟨u, rfl, hO, hU⟩))
  go_ret
  exact ⟨_, rfl, hO.less HE.out.size, Upd.ext hU HE.out (Nat.le_refl _)⟩
def l8Ren : Go.Shelf.Ren := ⟨fun | 126 => 84 | n => n, fun | 3 => 3 | 5 => 5 | 9 => 9 | n => n, fun | n => n⟩
theorem l8Lays : Go.Proofs.Lays.n126 Try.prog l8Ren := {
  mixed := l64Lays.mixed
  f126 := by kernel_rfl
  t3 := l64Lays.t3
  a3 := l64Lays.a3
  z3 := l64Lays.z3
  v3 := l64Lays.v3
  t5 := l64Lays.t5
  a5 := l64Lays.a5
  z5 := l64Lays.z5
  v5 := l64Lays.v5
  t9 := l64Lays.t9
  a9 := l64Lays.a9
  z9 := l64Lays.z9
  v9 := l64Lays.v9 }
theorem p_len8 (x : Nat) (w : World) (h : x < 256) : Calls Try.prog 84 #[.int .u8 (x : Int)] w (RetSame (.int .i64 (Lib.bitLen x : Int)) w) := by
  refine (Go.Proofs.Any.bits_Len8 (P := Try.prog) (ρ := l8Ren) l8Lays (x : Int) w (by omega) (by omega)).mono ?_
  rintro e w' ⟨rfl, rfl⟩
  exact ⟨by rw [Int.toNat_natCast], rfl⟩
theorem bl8 (x : Nat) (h : x < 128) : Lib.bitLen x ≤ 7 ∧ x < 2 ^ Lib.bitLen x := by
  obtain ⟨a, b, c⟩ := bitLen_spec x (by omega)
  refine ⟨?_, b⟩
  by_cases h0 : x = 0
  · subst h0; decide +kernel
  · obtain ⟨d, e⟩ := c h0
    rcases Nat.lt_or_ge (Lib.bitLen x) 8 with h | h
    · omega
    · have : 2 ^ 7 ≤ 2 ^ (Lib.bitLen x - 1) := Nat.pow_le_pow_right (by omega) (by omega)
      omega
/-- Groups are those of a number of so many bits. -/
def okG (width : Nat) (g : List Nat) : Bool := !(decide (g.getLastD 0 = 0) && decide (1 < g.length)) && decide (7 * (g.length - 1) + Lib.bitLen (g.getLastD 0) ≤ width)
/-- The index behind the groups, and the error. -/
def bhd (l : List Nat) (at_ : Int) (width most : Nat) : Int × Int :=
  if at_ < 0 ∨ (l.length : Int) < at_ then (0, 2)
  else match scanG most (l.drop at_.toNat) with
    | none => (0, if l.length - at_.toNat < most then 4 else 5)
    | some g => if okG width g then (at_ + g.length, 0) else (0, 5)
theorem run_mid (A : Option Addr) (n a e cap : Nat) (hk : a ≤ e) (he : e ≤ cap) (w : World) : (Instr.slice 28 (.slice A n cap) (some (.int .i64 (a : Int))) (some (.int .i64 (e : Int))) none).run Try.prog w = .ok (.slice (if cap = a then A else A.map (·.add (a * 1))) (e - a) (cap - a)) w := by
  have hE : Try.prog.elem 28 = 5 := by kernel_rfl
  have hz := Try.sizeOf5
  rw [run_slice_lh w 28 A n cap (by kernel_rfl) .i64 .i64 a e (by omega) (by omega) (by omega), hE, hz]
  simp [Result.andThen, sliced]
theorem okG_form {width j x : Nat} {g : List Nat} (hl : g.length = j + 1) (hx : g.getLastD 0 = x) : okG width g = (!(decide (x = 0) && decide (0 < j)) && decide (7 * j + Lib.bitLen x ≤ width)) := by
  unfold okG
  rw [hl, hx]
  have e1 : decide (1 < j + 1) = decide (0 < j) := by
    by_cases h : 0 < j
    · rw [decide_eq_true h, decide_eq_true (by omega)]
    · rw [decide_eq_false h, decide_eq_false (by omega)]
  rw [e1, Nat.add_sub_cancel]
theorem last_take {l : List Nat} {j : Nat} (h : j < l.length) : (l.take (j + 1)).getLastD 0 = l.getD j 0 := by
  rw [take_succ h]; simp
set_option maxRecDepth 100000 in
set_option maxHeartbeats 1600000 in
theorem p_behind (A : Option Addr) (c cap : Nat) (l : List Nat) (at_ : Int) (width most : Nat) (W : World) (hb : BytesAt W A l) (hc : l.length = c) (hcap : c ≤ cap) (hcap2 : c ≤ 4611686018427387904) (hat : I64 at_) (hw : width ≤ 300) (hmost : most ≤ 50) (hm : max 1 (((width : Int) + 7 - 1) / 7) = (most : Int)) (r1 r2 : Int) (hr : bhd l at_ width most = (r1, r2)) :
    Calls Try.prog 81 #[.slice A c cap, .int .i64 at_, .int .i64 (width : Int)] W (RetSame (.tuple #[.int .i64 r1, .int .i64 r2]) W) := by
  have KG : Hid (∀ w, Calls Try.prog 76 #[.int .i64 (width : Int)] w (RetSame (.int .i64 (most : Int)) w)) := fun w => p_groups _ _ w (by omega) (by omega) hm
  clear hm
  obtain ⟨a1, a2⟩ := hat
  by_cases h1 : at_ < 0 ∨ (c : Int) < at_
  · unfold bhd at hr
    rw [hc, if_pos h1] at hr
    obtain ⟨rfl, rfl⟩ := Prod.mk.inj hr
    by_cases h0 : at_ < 0
    · have d0 : decide (at_ < 0) = true := decide_eq_true h0
      clear h1
      go_enter Try.func81, Try.ntmps81
      go_wp2_with fail
      go_ret2
      exact ⟨rfl, rfl⟩
    · have d0 : decide (at_ < 0) = false := decide_eq_false h0
      have h2 : (c : Int) < at_ := by omega
      have d1 : decide ((c : Int) < at_) = true := decide_eq_true h2
      clear h1
      go_enter Try.func81, Try.ntmps81
      go_wp2_with fail
      go_ret2
      exact ⟨rfl, rfl⟩
  · have h0 : ¬ at_ < 0 := by omega
    obtain ⟨a, rfl⟩ := Int.eq_ofNat_of_zero_le (show 0 ≤ at_ by omega)
    have hac : a ≤ c := by omega
    have hr' : (match scanG most (l.drop a) with | none => (0, if c - a < most then 4 else 5) | some g => if okG width g then ((a : Int) + g.length, 0) else (0, 5)) = (r1, r2) := by
      unfold bhd at hr
      rw [hc, if_neg h1, Int.toNat_natCast] at hr
      exact hr
    obtain ⟨D, hD⟩ : ∃ D, l.drop a = D := ⟨_, rfl⟩
    obtain ⟨e, he⟩ : ∃ e, min (a + most) c = e := ⟨_, rfl⟩
    have hmin : min ((a : Int) + (most : Int)) (c : Int) = (e : Int) := by omega
    have hae : a ≤ e := by omega
    have hec : e ≤ c := by omega
    have hs := run_mid A c a e cap hae (by omega)
    have hbs := (hb.drop a cap (by omega)).take (e - a)
    obtain ⟨A2, hA2⟩ : ∃ A2, (if cap = a then A else A.map (·.add (a * 1))) = A2 := ⟨_, rfl⟩
    have hDl : D.length = c - a := by rw [← hD, List.length_drop, hc]
    rw [hA2] at hs hbs
    rw [hD] at hbs hr'
    have hlen : (D.take (e - a)).length = e - a := by rw [List.length_take, hDl]; omega
    have hget : ∀ j, j < e - a → (D.take (e - a)).getD j 0 = D.getD j 0 := fun j hj => by
      simp [List.getD_eq_getElem?_getD, List.getElem?_take, hj]
    have nd0 : decide ((a : Int) < 0) = false := decide_eq_false h0
    have n1 : ¬ (c : Int) < (a : Int) := by omega
    have nd1 : decide ((c : Int) < (a : Int)) = false := decide_eq_false n1
    obtain ⟨m, hmm⟩ : ∃ m, e - a = m := ⟨_, rfl⟩
    rw [hmm] at hs hbs hlen hget
    have hHr := hide hr'
    have hHD := hide hDl
    have hHb := hide hbs
    have hHl := hide hlen
    have hHg := hide hget
    have hHm : Hid (m = min most (c - a)) := by
      show _ = _
      omega
    have hem : a + m = e := by omega
    have hHem := hide hem
    have hm50 : m ≤ 50 := by omega
    clear hr hr' hbs hlen hget hDl hA2 hD he hb hc hmm hem h1
    go_enter Try.func81, Try.ntmps81
    go_wp2_with (go_at_call 76; (with_reducible refine (KG.out _).mono ?_); rintro e w1 ⟨rfl, rfl⟩)
    go_loop [31] (fun i => ∃ j : Nat, j ≤ m ∧ i = .int .i64 j ∧ Hid (∀ i, i < j → 128 ≤ D.getD i 0)) (fun i => m - (intOf i).toNat)
    case atStart => exact ⟨0, by omega, rfl, fun i h => by omega⟩
    case round =>
      obtain ⟨j, hj, rfl, HI⟩ := hrel
      by_cases hlt : j < m
      · obtain ⟨b, off, rfl, hbW, hcl⟩ := hHb.out.2.2 (by rw [hHl.out]; omega)
        have d1 := hcl j (by rw [hHl.out]; exact hlt)
        rw [hHg.out j hlt] at d1
        have hx256 : D.getD j 0 < 256 := by rw [← hHg.out j hlt]; exact hHb.out.1.get j
        obtain ⟨x, hx⟩ : ∃ x, D.getD j 0 = x := ⟨_, rfl⟩
        rw [hx] at d1 hx256
        have Hx := hide hx
        clear hcl hx hbW
        by_cases h128 : 128 ≤ x
        · go_wp2_with fail
          go_round
          case rel => exact ⟨j + 1, by omega, by go_num, fun i hi => by
            rcases Nat.lt_or_ge i j with h | h
            · exact HI.out i h
            · obtain rfl : i = j := by omega
              rw [Hx.out]; exact h128⟩
          case measure => simp [intOf]; omega
        · have hjD : j < D.length := by have := hHD.out; have := hHm.out; omega
          have hsc := scanG_at most D j (by have := hHm.out; omega) hjD (by rw [Hx.out]; omega) HI.out
          have hfin := hHr.out
          rw [hsc] at hfin
          simp only [okG_form (g := D.take (j + 1)) (width := width) (j := j) (x := x) (by rw [List.length_take]; omega) (by rw [last_take hjD]; exact Hx.out), List.length_take] at hfin
          rw [show min (j + 1) D.length = j + 1 by omega] at hfin
          have hbl := bl8 x (by omega)
          have KL : Hid (∀ w, Calls Try.prog 84 #[.int .u8 (x : Int)] w (RetSame (.int .i64 (Lib.bitLen x : Int)) w)) := fun w => p_len8 x w hx256
          obtain ⟨y, hy⟩ : ∃ y, Lib.bitLen x = y := ⟨_, rfl⟩
          rw [hy] at hfin hbl KL
          have hy7 := hbl.1
          have hxn : ¬ (128 : Int) ≤ (x : Int) := by omega
          clear hbl hy hsc HI
          by_cases hz : x = 0 ∧ 0 < j
          · obtain ⟨hz1, hz2⟩ := hz
            have q1 : ((x : Int) == 0) = true := beq_iff_eq.2 (by omega)
            rw [decide_eq_true hz1, decide_eq_true hz2] at hfin
            obtain ⟨rfl, rfl⟩ : 0 = r1 ∧ 5 = r2 := by simpa using hfin
            have q2 : (0 : Int) < (j : Int) := by omega
            clear hfin hz1
            go_wp2_with (go_at_call 84; (with_reducible refine (KL.out _).mono ?_); rintro e w1 ⟨rfl, rfl⟩)
            go_ret2
            exact ⟨rfl, rfl⟩
          · have hzb : (!(decide (x = 0) && decide (0 < j))) = true := by
              by_cases h : x = 0
              · rw [decide_eq_true h, decide_eq_false (by omega)]; rfl
              · rw [decide_eq_false h]; rfl
            rw [hzb] at hfin
            clear hzb
            have fin1 : Hid (7 * j + y ≤ width → (a : Int) + (j : Int) + 1 = r1 ∧ 0 = r2) := fun h => by
              rw [decide_eq_true h] at hfin
              have := Prod.mk.inj (show ((a : Int) + ((j + 1 : Nat) : Int), (0 : Int)) = (r1, r2) from hfin)
              exact ⟨by omega, this.2⟩
            have fin2 : Hid (¬ 7 * j + y ≤ width → 0 = r1 ∧ 5 = r2) := fun h => by
              rw [decide_eq_false h] at hfin
              exact Prod.mk.inj (show ((0 : Int), (5 : Int)) = (r1, r2) from hfin)
            clear hfin
            by_cases h0x : x = 0
            · have q1 : ((x : Int) == 0) = true := beq_iff_eq.2 (by omega)
              have q2 : ¬ (0 : Int) < (j : Int) := by omega
              have HZ := hide h0x
              clear hz h0x
              by_cases hwd : 7 * j + y ≤ width
              · obtain ⟨rfl, rfl⟩ := fin1.out hwd
                have q3 : ¬ (width : Int) < (j : Int) * 7 + (y : Int) := by omega
                have ej : (a : Int) + (j : Int) + 1 = (a : Int) + 1 := by omega
                rw [ej]
                clear ej
                clear fin1 fin2
                go_wp2_with (go_at_call 84; (with_reducible refine (KL.out _).mono ?_); rintro e w1 ⟨rfl, rfl⟩)
                go_ret2
                exact ⟨rfl, rfl⟩
              · obtain ⟨rfl, rfl⟩ := fin2.out hwd
                have q3 : (width : Int) < (j : Int) * 7 + (y : Int) := by omega
                clear fin1 fin2
                go_wp2_with (go_at_call 84; (with_reducible refine (KL.out _).mono ?_); rintro e w1 ⟨rfl, rfl⟩)
                go_ret2
                exact ⟨rfl, rfl⟩
            · have q1 : ((x : Int) == 0) = false := beq_eq_false_iff_ne.2 (by omega)
              have HZ := hide h0x
              clear hz h0x
              by_cases hwd : 7 * j + y ≤ width
              · obtain ⟨rfl, rfl⟩ := fin1.out hwd
                have q3 : ¬ (width : Int) < (j : Int) * 7 + (y : Int) := by omega
                clear fin1 fin2
                go_wp2_with (go_at_call 84; (with_reducible refine (KL.out _).mono ?_); rintro e w1 ⟨rfl, rfl⟩)
                go_ret2
                exact ⟨rfl, rfl⟩
              · obtain ⟨rfl, rfl⟩ := fin2.out hwd
                have q3 : (width : Int) < (j : Int) * 7 + (y : Int) := by omega
                clear fin1 fin2
                go_wp2_with (go_at_call 84; (with_reducible refine (KL.out _).mono ?_); rintro e w1 ⟨rfl, rfl⟩)
                go_ret2
                exact ⟨rfl, rfl⟩
      · obtain rfl : j = m := by omega
        have hsc : scanG most D = none := scanG_none most D (fun i hi h2 => HI.out i (by have := hHm.out; have := hHD.out; omega))
        have hfin := hHr.out
        rw [hsc] at hfin
        obtain ⟨rfl, e2⟩ := Prod.mk.inj (show ((0 : Int), (if c - a < most then (4 : Int) else 5)) = (r1, r2) from hfin)
        clear hfin hsc
        by_cases hcm : c - a < most
        · rw [if_pos hcm] at e2
          subst e2
          have q3 : (c : Int) - (a : Int) < (most : Int) := by omega
          go_wp2_with fail
          go_ret2
          exact ⟨rfl, rfl⟩
        · rw [if_neg hcm] at e2
          subst e2
          have q3 : ¬ (c : Int) - (a : Int) < (most : Int) := by omega
          go_wp2_with fail
          go_ret2
          exact ⟨rfl, rfl⟩
/-- The groups of an encoding of a number of at most so many bits, at a place. -/
def rdG (l : List Nat) (at_ : Int) (width most : Nat) : Option (List Nat) :=
  if at_ < 0 ∨ (l.length : Int) < at_ then none
  else match scanG most (l.drop at_.toNat) with
    | none => none
    | some g => if okG width g then some g else none
theorem bhd_some {l : List Nat} {at_ : Int} {width most : Nat} {g : List Nat} (h : rdG l at_ width most = some g) : ∃ a : Nat, at_ = (a : Int) ∧ a ≤ l.length ∧ bhd l at_ width most = ((a : Int) + (g.length : Int), 0) ∧ scanG most (l.drop a) = some g ∧ okG width g = true := by
  unfold rdG at h
  by_cases h1 : at_ < 0 ∨ (l.length : Int) < at_
  · rw [if_pos h1] at h; cases h
  · rw [if_neg h1] at h
    obtain ⟨a, rfl⟩ := Int.eq_ofNat_of_zero_le (show 0 ≤ at_ by omega)
    rw [Int.toNat_natCast] at h
    cases hs : scanG most (l.drop a) with
    | none => rw [hs] at h; cases h
    | some g' =>
      rw [hs] at h
      by_cases hk : okG width g' = true
      · have h : (if okG width g' = true then some g' else none) = some g := h
        rw [if_pos hk] at h
        have h := Option.some.inj h
        subst h
        refine ⟨a, rfl, by omega, ?_, hs, hk⟩
        unfold bhd
        rw [if_neg h1, Int.toNat_natCast, hs]
        simp [hk]
      · have h : (if okG width g' = true then some g' else none) = some g := h
        rw [if_neg hk] at h; cases h
theorem bhd_none {l : List Nat} {at_ : Int} {width most : Nat} (h : rdG l at_ width most = none) : ∃ e : Int, bhd l at_ width most = (0, e) ∧ (e = 2 ∨ e = 4 ∨ e = 5) := by
  unfold rdG at h
  unfold bhd
  by_cases h1 : at_ < 0 ∨ (l.length : Int) < at_
  · rw [if_pos h1]; exact ⟨2, rfl, by omega⟩
  · rw [if_neg h1] at h ⊢
    cases hs : scanG most (l.drop at_.toNat) with
    | none =>
      refine ⟨_, rfl, ?_⟩
      split <;> omega
    | some g' =>
      rw [hs] at h
      have h : (if okG width g' = true then some g' else none) = none := h
      by_cases hk : okG width g' = true
      · rw [if_pos hk] at h; cases h
      · refine ⟨5, ?_, by omega⟩
        show (if okG width g' = true then _ else _) = _
        rw [if_neg hk]
def rdE (l : List Nat) (at_ : Int) (width most : Nat) : Int := (bhd l at_ width most).2
theorem decB_snoc (b : Nat) : ∀ (r : List Nat) (x : Nat), x < 2 ^ b → x < 128 → decB (r ++ [x]) < 2 ^ (7 * r.length + b)
  | [], x, h, h2 => by
    have : x % 128 = x := Nat.mod_eq_of_lt h2
    simp [decB, this]; exact h
  | y :: r, x, h, h2 => by
    have ih := decB_snoc b r x h h2
    show y % 128 + 128 * decB (r ++ [x]) < 2 ^ (7 * (r.length + 1) + b)
    have e : 2 ^ (7 * (r.length + 1) + b) = 128 * 2 ^ (7 * r.length + b) := by
      rw [show 7 * (r.length + 1) + b = 7 + (7 * r.length + b) by omega, Nat.pow_add]
    rw [e]; omega
theorem decB_ok {width most : Nat} {l g : List Nat} (h : scanG most l = some g) (hk : okG width g = true) : decB g < 2 ^ width := by
  obtain ⟨r, x, rfl, hx, _, _, _⟩ := scanG_some most l g h
  have e := okG_form (g := r ++ [x]) (width := width) (j := r.length) (x := x) (by simp) (by simp)
  rw [e] at hk
  simp only [Bool.and_eq_true, decide_eq_true_eq] at hk
  exact Nat.lt_of_lt_of_le (decB_snoc _ r x (bl8 x hx).2 hx) (Nat.pow_le_pow_right (by omega) hk.2)
theorem decB_drop {g : List Nat} {k : Nat} (h : k < g.length) : decB (g.drop k) = g.getD k 0 % 128 + 128 * decB (g.drop (k + 1)) := by
  rw [List.drop_eq_getElem_cons h, getD_lt h]; rfl
theorem decB_drop_le (g : List Nat) : ∀ k, decB (g.drop k) ≤ decB g
  | 0 => by simp
  | k + 1 => by
    have ih := decB_drop_le g k
    rcases Nat.lt_or_ge k g.length with h | h
    · rw [decB_drop h] at ih; omega
    · rw [List.drop_of_length_le (by omega)]; simp [decB]
theorem or_low (v r : Nat) (hr : r < 128) (h : v * 128 + r < 18446744073709551616) : bits .or .u64 ((v : Int) * 128) (r : Int) = ((v * 128 + r : Nat) : Int) := by
  show IntKind.u64.wrap ((BitVec.ofInt 64 ((v : Int) * 128) ||| BitVec.ofInt 64 (r : Int)).toNat : Int) = _
  rw [BitVec.toNat_or]
  have e1 : (BitVec.ofInt 64 ((v : Int) * 128)).toNat = 2 ^ 7 * v := by rw [BitVec.toNat_ofInt]; omega
  have e2 : (BitVec.ofInt 64 (r : Int)).toNat = r := by rw [BitVec.toNat_ofInt]; omega
  rw [e1, e2, ← Nat.two_pow_add_eq_or_of_lt (show r < 2 ^ 7 by omega), wrap_u64']
  omega
/-- What Read returns. -/
def rdV (l : List Nat) (at_ : Int) : Int × Int × Int := match rdG l at_ 64 10 with
  | some g => (decB g, at_ + g.length, 0)
  | none => (0, 0, rdE l at_ 64 10)
set_option maxRecDepth 100000 in
set_option maxHeartbeats 1600000 in
theorem p_read (A : Option Addr) (c cap : Nat) (l : List Nat) (at_ : Int) (W : World) (hb : BytesAt W A l) (hc : l.length = c) (hcap : c ≤ cap) (hcap2 : c ≤ 4611686018427387904) (hat : I64 at_) (r1 r2 r3 : Int) (hr : rdV l at_ = (r1, r2, r3)) :
    Calls Try.prog 74 #[.slice A c cap, .int .i64 at_] W (RetSame (.tuple #[.int .u64 r1, .int .i64 r2, .int .i64 r3]) W) := by
  have KB : Hid (∀ w e1 e2, Ext W w → bhd l at_ 64 10 = (e1, e2) → Calls Try.prog 81 #[.slice A c cap, .int .i64 at_, .int .i64 64] w (RetSame (.tuple #[.int .i64 e1, .int .i64 e2]) w)) := fun w e1 e2 he hbd => p_behind A c cap l at_ 64 10 w (hb.ext he) hc hcap hcap2 hat (by omega) (by omega) (by omega) e1 e2 hbd
  unfold rdV at hr
  cases hg : rdG l at_ 64 10 with
  | none =>
    obtain ⟨e, hbd, he⟩ := bhd_none hg
    have hk := hide (KB.out W _ _ (Ext.refl _) hbd)
    rw [hg] at hr
    have hre : rdE l at_ 64 10 = e := by unfold rdE; rw [hbd]
    obtain ⟨rfl, h2⟩ := Prod.mk.inj (show ((0 : Int), (0 : Int), rdE l at_ 64 10) = (r1, r2, r3) from hr)
    obtain ⟨rfl, h3⟩ := Prod.mk.inj h2
    rw [hre] at h3
    subst h3
    have q1 : (e != 0) = true := by rw [bne_iff_ne]; omega
    clear hr hg KB hbd hre h2 hb hc
    go_enter Try.func74, Try.ntmps74
    go_wp2_with (go_at_call 81; (with_reducible refine (hk.out).mono ?_); rintro e w1 ⟨rfl, rfl⟩)
    go_ret3
    exact ⟨rfl, rfl⟩
  | some g =>
    obtain ⟨a, rfl, hal, hbd, hsc, hok⟩ := bhd_some hg
    have hk := hide (KB.out W _ _ (Ext.refl _) hbd)
    rw [hg] at hr
    obtain ⟨rfl, h2⟩ := Prod.mk.inj (show ((decB g : Int), (a : Int) + g.length, (0 : Int)) = (r1, r2, r3) from hr)
    obtain ⟨rfl, rfl⟩ := Prod.mk.inj h2
    obtain ⟨n, hn⟩ : ∃ n, g.length = n := ⟨_, rfl⟩
    obtain ⟨r, x, hgr, hx, _, ⟨t, ht⟩, hmost⟩ := scanG_some 10 _ g hsc
    have hlt := decB_ok hsc hok
    have hlt : decB g < 18446744073709551616 := hlt
    have hnc : a + n ≤ c := by
      have := congrArg List.length ht
      rw [List.length_append, List.length_drop] at this
      omega
    have hn1 : 1 ≤ n := by rw [← hn, hgr]; simp
    have hget : Hid (∀ j, j < n → l.getD (a + j) 0 = g.getD j 0) := fun j hj => by
      have h1 : l.getD (a + j) 0 = (l.drop a).getD j 0 := by simp [List.getD_eq_getElem?_getD, List.getElem?_drop]
      rw [h1, ← ht]
      simp [List.getD_eq_getElem?_getD, List.getElem?_append_left (show j < g.length by omega)]
    rw [hn] at hk hmost ⊢
    have Hb := hide hb
    have Hc := hide hc
    have Hn := hide hn
    clear hr hg KB hbd h2 hb hc hsc hok hgr ht hn hal
    go_enter Try.func74, Try.ntmps74
    go_wp2_with (go_at_call 81; (with_reducible refine (hk.out).mono ?_); rintro e w1 ⟨rfl, rfl⟩)
    go_loop [9, 10] (fun v i => ∃ j : Nat, j ≤ n ∧ i = .int .i64 ((a : Int) + (j : Int) - 1) ∧ v = .int .u64 (decB (g.drop j) : Int)) (fun _ i => (intOf i + 1 - a).toNat)
    case atStart => exact ⟨n, Nat.le_refl _, rfl, by rw [List.drop_of_length_le (by rw [Hn.out]; exact Nat.le_refl _)]; rfl⟩
    case round =>
      obtain ⟨j, hj, rfl, rfl⟩ := hrel
      have hle := decB_drop_le g j
      obtain ⟨v, hv⟩ : ∃ v, decB (g.drop j) = v := ⟨_, rfl⟩
      rw [hv] at hle ⊢
      cases j with
      | zero =>
        have Hv : Hid (v = decB g) := by show _ = _; rw [← hv]; simp
        have n1 : ¬ (a : Int) ≤ (a : Int) + ((0 : Nat) : Int) - 1 := by omega
        clear hv
        go_wp2_with fail
        go_ret3
        exact ⟨by rw [← Hv.out]; rfl, rfl⟩
      | succ j =>
        have e1 : ((a : Int) + ((j + 1 : Nat) : Int) - 1) = (a : Int) + (j : Int) := by omega
        rw [e1]
        clear e1
        have hjg : j < g.length := by rw [Hn.out]; omega
        have hst := decB_drop hjg
        rw [hv] at hst
        have hle2 := decB_drop_le g j
        obtain ⟨b, off, rfl, _, hcl⟩ := Hb.out.2.2 (by rw [Hc.out]; omega)
        have d2 := hcl (a + j) (by rw [Hc.out]; omega)
        rw [hget.out j (by omega)] at d2
        have hyb : g.getD j 0 < 256 := by rw [← hget.out j (by omega)]; exact Hb.out.1.get _
        obtain ⟨y, hy⟩ : ∃ y, g.getD j 0 = y := ⟨_, rfl⟩
        rw [hy] at d2 hst hyb
        have ho := or_low v (y % 128) (Nat.mod_lt _ (by omega)) (by omega)
        have ey : ((y % 128 : Nat) : Int) = (y : Int) % (128 : Int) := by omega
        rw [ey] at ho
        have hv57 : v ≤ 144115188075855871 := by omega
        have Hst : Hid (decB (g.drop j) = v * 128 + y % 128) := by show _ = _; omega
        have ge : (a : Int) ≤ (a : Int) + (j : Int) := by omega
        clear hcl hy hv hst hle2 hjg ey hle
        go_wp2_with fail
        go_round
        case rel => exact ⟨j, by omega, rfl, by rw [Hst.out]; exact congrArg (Value.int .u64) (by omega)⟩
        case measure => simp [intOf]; omega
end
section
open Go Go.RowKit
theorem IsQ.nil : IsQ [] := by intro x hx; simp at hx
theorem IsQ.app {l m : List Nat} (h : IsQ l) (k : IsQ m) : IsQ (l ++ m) := by
  intro x hx; rcases List.mem_append.1 hx with a | a
  · exact h x a
  · exact k x a
theorem IsQ.one {x : Nat} (h : x < 18446744073709551616) : IsQ [x] := by intro y hy; simp at hy; omega
theorem IsQ.take {l : List Nat} (h : IsQ l) (k : Nat) : IsQ (l.take k) := fun x hx => h x (List.mem_of_mem_take hx)
theorem IsQ.drop {l : List Nat} (h : IsQ l) (k : Nat) : IsQ (l.drop k) := fun x hx => h x (List.mem_of_mem_drop hx)
theorem IsQ.get {l : List Nat} (h : IsQ l) (k : Nat) : l.getD k 0 < 18446744073709551616 := by
  rw [List.getD_eq_getElem?_getD]
  cases hk : l[k]? with
  | none => simp
  | some x => exact h x (List.mem_of_getElem? hk)
def q8s (l : List Nat) : List Value := l.map fun x : Nat => Value.int .u64 (x : Int)
theorem q8s_len (l : List Nat) : (q8s l).length = l.length := by simp [q8s]
theorem q8s_one (l : List Nat) : ∀ u ∈ q8s l, u.oneCell' = true := by
  intro u hu; simp only [q8s, List.mem_map] at hu; obtain ⟨x, _, rfl⟩ := hu; rfl
theorem q8s_app (l m : List Nat) : q8s (l ++ m) = q8s l ++ q8s m := by simp [q8s]
/-- At A the words l lie in memory that is there (whatever A, if there is none). -/
def WordsAt (w : World) (A : Option Addr) (l : List Nat) : Prop :=
  IsQ l ∧ l.length ≤ 9223372036854775807 ∧ (0 < l.length → ∃ b off, A = some ⟨b, off, none⟩ ∧ b < w.heap.size ∧ ∀ j, j < l.length → w.cell? ⟨b, off + j, none⟩ = some (.int .u64 ((l.getD j 0 : Nat) : Int)))
theorem WordsAt.nil (w : World) (A : Option Addr) : WordsAt w A [] := ⟨IsQ.nil, by simp, fun h => absurd h (by simp)⟩
theorem WordsAt.ext {w w' : World} {A : Option Addr} {l : List Nat} (h : WordsAt w A l) (e : Ext w w') : WordsAt w' A l :=
  ⟨h.1, h.2.1, fun hp => by
    obtain ⟨b, off, hA, hb, hc⟩ := h.2.2 hp
    exact ⟨b, off, hA, Nat.lt_of_lt_of_le hb e.size, fun j hj => (e.cell (p := ⟨b, off + j, none⟩) hb).trans (hc j hj)⟩⟩
/-- Changes elsewhere. -/
theorem WordsAt.keep {w w' : World} {A : Option Addr} {l : List Nat} (h : WordsAt w A l) (hs : w.heap.size ≤ w'.heap.size) (e : ∀ b off, A = some ⟨b, off, none⟩ → b < w.heap.size → w'.heap[b]? = w.heap[b]?) : WordsAt w' A l :=
  ⟨h.1, h.2.1, fun hp => by
    obtain ⟨b, off, hA, hb, hc⟩ := h.2.2 hp
    exact ⟨b, off, hA, Nat.lt_of_lt_of_le hb hs, fun j hj => (World.cell?_of_block (a := ⟨b, off + j, none⟩) (e b off hA hb)).trans (hc j hj)⟩⟩
theorem WordsAt.drop {w : World} {A : Option Addr} {l : List Nat} (h : WordsAt w A l) (k cap : Nat) (hc : l.length ≤ cap) :
    WordsAt w (if cap = k then A else A.map (·.add (k * 1))) (l.drop k) := by
  refine ⟨h.1.drop k, by rw [List.length_drop]; have := h.2.1; omega, fun hp => ?_⟩
  rw [List.length_drop] at hp
  obtain ⟨b, off, rfl, hb, hcl⟩ := h.2.2 (by omega)
  rw [if_neg (by omega)]
  refine ⟨b, off + k, by
    simp only [Option.map_some, Option.some.injEq]
    unfold Addr.add
    split
    · rename_i h0; simp only [Addr.mk.injEq, and_true, true_and]; omega
    · simp, hb, fun j hj => ?_⟩
  rw [List.length_drop] at hj
  rw [Nat.add_assoc, hcl (k + j) (by omega)]
  simp [List.getD_eq_getElem?_getD, List.getElem?_drop]
theorem WordsAt.take {w : World} {A : Option Addr} {l : List Nat} (h : WordsAt w A l) (k : Nat) : WordsAt w A (l.take k) := by
  refine ⟨h.1.take k, by rw [List.length_take]; have := h.2.1; omega, fun hp => ?_⟩
  rw [List.length_take] at hp
  obtain ⟨b, off, rfl, hb, hcl⟩ := h.2.2 (by omega)
  refine ⟨b, off, rfl, hb, fun j hj => ?_⟩
  rw [List.length_take] at hj
  rw [hcl j (by omega)]
  simp [List.getD_eq_getElem?_getD, List.getElem?_take, show j < k by omega]
theorem info_w64 : (Try.prog.info? 62).map (fun i => (i.zero, i.size, i.bytes)) = some (some (.int .u64 0), 1, 8) := by kernel_rfl
/-- The slice v owns the words l: it is nil, or begins at the head of a block from B on. -/
def OwnQ (B : Nat) (w : World) (v : Value) (l : List Nat) : Prop := w.ownsRow B 62 1 v l.length (q8s l) ∧ IsQ l
theorem OwnQ.at_ {B : Nat} {w : World} {v : Value} {l : List Nat} (h : OwnQ B w v l) : ∃ A cap, v = .slice A l.length cap ∧ l.length ≤ cap ∧ cap ≤ 9223372036854775807 ∧ WordsAt w A l := by
  rcases h.1.2 with ⟨rfl, h0⟩ | ⟨g, cap, cur, rfl, hg, hh, hnc, hcp, hcs, htake⟩
  · obtain rfl : l = [] := List.length_eq_zero_iff.1 h0
    exact ⟨none, 0, rfl, Nat.le_refl _, by omega, WordsAt.nil _ _⟩
  · unfold maxLen at hcp
    refine ⟨_, cap, rfl, hnc, hcp, h.2, by omega, fun _ => ⟨g, 0, rfl, (Array.getElem?_eq_some_iff.1 hh).1, fun j hj => ?_⟩⟩
    have := h.1.cells (g := g) rfl j (Value.int .u64 ((l.getD j 0 : Nat) : Int)) (by rw [getD_lt hj]; simp [q8s, hj])
    have e : (⟨g, 0, none⟩ : Addr).add j = ⟨g, 0 + j, none⟩ := by unfold Addr.add; split <;> simp_all
    rw [e] at this
    exact this
theorem OwnQ.kept {B : Nat} {w w' : World} {v : Value} {l : List Nat} (h : OwnQ B w v l) {row : Option Nat} (hg : w.grownBy w' row) (hne : v.ownBlock = none ∨ v.ownBlock ≠ row) : OwnQ B w' v l := ⟨h.1.kept hg hne, h.2⟩
theorem OwnQ.alloc {B : Nat} {w : World} {v : Value} {l : List Nat} (h : OwnQ B w v l) (o : Obj) : OwnQ B (w.alloc o) v l := ⟨h.1.alloc o, h.2⟩
theorem OwnQ.drew {B : Nat} {w : World} {v : Value} {l : List Nat} (h : OwnQ B w v l) : OwnQ B w.drew v l := h
theorem OwnQ.nil_ (B : Nat) (w : World) : OwnQ B w (.slice none 0 0) [] := ⟨World.ownsRow_nil _ _ _ _, IsQ.nil⟩
theorem OwnQ.keep {B : Nat} {w w' : World} {v : Value} {l : List Nat} (h : OwnQ B w v l) (hs : w.heap.size ≤ w'.heap.size) (e : ∀ g, v.ownBlock = some g → w'.heap[g]? = w.heap[g]?) : OwnQ B w' v l := by
  refine ⟨?_, h.2⟩
  obtain ⟨h1, h2 | ⟨g, cap, cur, hv, hg, hh, r⟩⟩ := h.1
  · exact ⟨h1, Or.inl h2⟩
  · exact ⟨h1, Or.inr ⟨g, cap, cur, hv, hg, by rw [e g (by rw [hv]; rfl)]; exact hh, r⟩⟩
theorem OwnQ.ext {B : Nat} {w w' : World} {v : Value} {l : List Nat} (h : OwnQ B w v l) (e : Ext w w') : OwnQ B w' v l := by
  refine ⟨?_, h.2⟩
  obtain ⟨h1, h2 | ⟨g, cap, cur, hv, hg, hh, r⟩⟩ := h.1
  · exact ⟨h1, Or.inl h2⟩
  · exact ⟨h1, Or.inr ⟨g, cap, cur, hv, hg, by rw [e.block g (Array.getElem?_eq_some_iff.1 hh).1]; exact hh, r⟩⟩
theorem OwnQ.less {B B' : Nat} {w : World} {v : Value} {l : List Nat} (h : OwnQ B w v l) (hB : B' ≤ B) : OwnQ B' w v l := by
  refine ⟨?_, h.2⟩
  obtain ⟨h1, h2 | ⟨g, cap, cur, hv, hg, r⟩⟩ := h.1
  · exact ⟨h1, Or.inl h2⟩
  · exact ⟨h1, Or.inr ⟨g, cap, cur, hv, by omega, r⟩⟩
theorem own_ofQ {w : World} {B : Nat} {g n cap : Nat} {l m : List Nat} (hB : B ≤ g) (hh : w.heap[g]? = some (.cells (q8s (l ++ m)).toArray 62 (0, 0))) (hn : l.length = n) (hc : cap = n + m.length) (hm : cap ≤ 9223372036854775807) (hb : IsQ l) : OwnQ B w (.slice (some ⟨g, 0, none⟩) n cap) l := by
  subst hn hc
  refine ⟨⟨by rw [q8s_len]; omega, Or.inr ⟨g, _, _, rfl, hB, hh, by omega, by unfold maxLen; omega, by simp [q8s], ?_⟩⟩, hb⟩
  rw [q8s_app]; simp [q8s]
theorem made64 (n : Nat) : (madeCells (Value.int .u64 0).cells (n * 1)).toList = q8s (List.replicate n 0) := by
  simp only [q8s, madeCells, Value.cells, Nat.mul_one, List.map_replicate]
  apply List.ext_getElem
  · simp
  · intro i h1 h2
    simp [Nat.mod_one]
theorem run_append64 (B : Nat) (w : World) (ty : TypeId) (v : Value) (l0 l : List Nat) (hown : OwnQ B w v l0) (A : Option Addr) (m c : Nat) (hb : WordsAt w A l) (hm : l.length = m) (hlen : l0.length + l.length ≤ 17592186044416) (hbase : B ≤ w.heap.size) :
    ∃ v' w', (Builtin.append_ #[33, 33] ty #[v, .slice A m c]).run Try.prog w = .ok v' w' ∧ OwnQ B w' v' (l0 ++ l) ∧ w.grownBy w' v.ownBlock ∧ (v'.ownBlock = v.ownBlock ∨ v'.ownBlock = some w.heap.size) := by
  subst hm
  obtain ⟨i0, hi0, hz0, hz1, hz2⟩ := info_parts info_w64
  have h63 : l0.length + l.length ≤ maxLen := by unfold maxLen; omega
  rcases A with _ | ad
  · have h0 : l = [] := by
      rcases Nat.eq_zero_or_pos l.length with h | h
      · exact List.length_eq_zero_iff.1 h
      · obtain ⟨b, off, h', _⟩ := hb.2.2 h
        cases h'
    subst h0
    refine ⟨v, w, ?_, by rw [List.append_nil]; exact hown, World.grownBy.refl w _, .inl rfl⟩
    rcases hown.1.2 with ⟨rfl, _⟩ | ⟨g, cap, cur, rfl, _, _, hnc, _⟩
    · simp [Builtin.append_, run_underlying Try.underlying33, sizeOf, typeInfo, hi0, Builtin.lenOf, Builtin.firstCells]
    · simp [Builtin.append_, run_underlying Try.underlying33, sizeOf, typeInfo, hi0, Builtin.lenOf, Builtin.firstCells, hnc, storeCells]
  · have hcells : ∀ j u, (q8s l)[j]? = some u → w.cell? (ad.add j) = some u := by
      intro j u hu
      have hj : j < l.length := by
        rcases Nat.lt_or_ge j (q8s l).length with h | h
        · rwa [q8s_len] at h
        · rw [List.getElem?_eq_none h] at hu; cases hu
      obtain ⟨b, off, h', _, hc⟩ := hb.2.2 (by omega)
      obtain rfl : ad = ⟨b, off, none⟩ := Option.some.inj h'
      rw [add_at, hc j hj, ← hu, getD_lt hj]
      simp [q8s, hj]
    obtain ⟨v', w', hrun, h2, h3, _, h5⟩ := run_append_own_at (P := Try.prog) w B 33 ty 62 i0 _ 1 8 Try.underlying33 hi0 hz0 hz1 hz2 rfl (by omega) v l0.length (q8s l0) hown.1 ad l.length c (q8s l) (by rw [q8s_len]; omega) hcells (q8s_one l) h63 (by omega) hbase
    refine ⟨v', w', hrun, ⟨?_, hown.2.app hb.1⟩, h3, h5⟩
    rw [q8s_app, List.length_append]
    exact h2
theorem wl_append64 {ops : Array Oper} {rest : List Oper} {o : Oper} {a : Act} {Q : Exit → Act → World → Prop} {w : World} (hgd : o.guard = none) (s x : Operand)
    (ho : o.op = .call { callee := .builtin .append, args := #[s, x], argTypes := #[33, 33] })
    (B : Nat) (v : Value) (l0 l : List Nat) (hs : a.eval s = v) (hown : OwnQ B w v l0) (A : Option Addr) (m c : Nat) (hx : a.eval x = .slice A m c) (hb : WordsAt w A l) (hm : l.length = m) (hlen : l0.length + l.length ≤ 17592186044416) (hbase : B ≤ w.heap.size)
    (h : ∀ v' w', OwnQ B w' v' (l0 ++ l) → w.grownBy w' v.ownBlock → (v'.ownBlock = v.ownBlock ∨ v'.ownBlock = some w.heap.size) → wpList Try.prog ops Q rest (a.put o.dst v') w') : wpList Try.prog ops Q (o :: rest) a w :=
  wpList_plain hgd fun _ hK => by
    obtain ⟨v', w', hrun, h2, h3, h4⟩ := run_append64 B w o.type v l0 l hown A m c hb hm hlen hbase
    unfold Oper.wp execOp
    simp only [ho, resolve, invoke, builtin, Sem.run_bind, Sem.run_pure, Result.andThen_ok, List.map_toArray, List.map_cons, List.map_nil, hs, hx, hrun]
    exact hK _ _ (h v' w' h2 h3 h4)
/-- The element that append lays down first. -/
theorem one_atQ (w : World) (x : Nat) (hx : x < 18446744073709551616) (u : Value) (hu : u = .int .u64 (x : Int)) : WordsAt (w.alloc (.cells #[u] 62)) (some ⟨w.heap.size, 0, none⟩) [x] := by
  subst hu
  refine ⟨IsQ.one hx, by simp, fun _ => ⟨w.heap.size, 0, rfl, by simp, fun j hj => ?_⟩⟩
  obtain rfl : j = 0 := by simpa using hj
  rw [World.cell?_alloc_at _ _ _ _ rfl]; rfl
/-- A row that the call owns, and what it grew to: nothing older changed. -/
theorem below_grownQ {W w w' : World} {v : Value} {l : List Nat} {B : Nat} (h : Below W.heap.size W w) (hB : W.heap.size ≤ B) (hown : OwnQ B w v l) (hg : w.grownBy w' v.ownBlock) : Below W.heap.size W w' :=
  h.grown hg h.size (fun k hk => by
    obtain ⟨h1, h2⟩ := hown.1.lt k hk
    omega)
theorem OwnQ.upd {B b : Nat} {w w' : World} {v : Value} {l : List Nat} (h : OwnQ B w v l) (u : Upd b w w') (hb : b < B) : OwnQ B w' v l := by
  refine ⟨?_, h.2⟩
  obtain ⟨h1, h2 | ⟨g, cap, cur, hv, hg, hh, r⟩⟩ := h.1
  · exact ⟨h1, Or.inl h2⟩
  · exact ⟨h1, Or.inr ⟨g, cap, cur, hv, hg, by rw [u.2.2.2.2 g (Array.getElem?_eq_some_iff.1 hh).1 (by omega)]; exact hh, r⟩⟩
theorem WordsAt.upd {b : Nat} {w w' : World} {A : Option Addr} {l : List Nat} (h : WordsAt w A l) (u : Upd b w w') (hb : ∀ g off, A = some ⟨g, off, none⟩ → g ≠ b) : WordsAt w' A l :=
  h.keep u.2.2.2.1 fun g off hA hg => u.2.2.2.2 g hg (hb g off hA)
theorem run_mk64 (n m : Nat) (hnm : n ≤ m) (hm : m ≤ 35184372088832) (w : World) : (Instr.makeSlice 33 (.int .i64 (n : Int)) (.int .i64 (m : Int))).run Try.prog w = .ok (.slice (some ⟨w.heap.size, 0, none⟩) n m) (w.alloc (.cells (q8s (List.replicate m 0)).toArray 62)) := by
  obtain ⟨i0, hi0, hz0, hz1, hz2⟩ := info_parts info_w64
  have := run_make (P := Try.prog) w 33 62 i0 (.int .u64 0) Try.underlying33 hi0 hz0 .i64 .i64 (n : Int) (m : Int) (by omega) (by omega) (by rw [hz2]; omega) (by omega)
  rw [this, hz1, Int.toNat_natCast, Int.toNat_natCast]
  have e : madeCells (Value.int .u64 0).cells (m * 1) = (q8s (List.replicate m 0)).toArray := by
    rw [← made64 m]
  rw [e]
theorem idx64 (b off N cap j : Nat) (h : j < N) (w : World) : (Instr.indexAt 33 (.slice (some ⟨b, off, none⟩) N cap) (.int .i64 (j : Int))).run Try.prog w = .ok (.pointer (some ⟨b, off + j, none⟩)) w := by
  have hz := Try.sizeOf62
  have he : Try.prog.elem 33 = 62 := by kernel_rfl
  have hr := run_indexAt_slice (P := Try.prog) (w := w) 33 ⟨b, off, none⟩ N cap .i64 (j : Int) (by kernel_rfl)
  rw [hr, if_pos ⟨by omega, by omega⟩, he, hz]
  simp [Result.andThen, add_at]
end
section
open Go Go.RowKit
/-- What an operation does: it only yields a value; it makes a variable; it fills the variable that operation j made; it fills an elder variable (number k of them). -/
inductive Tag | q | al | st (j : Nat) | so (k : Nat)
  deriving DecidableEq
def ptrTo (g : Nat) : Value := .pointer (some ⟨g, 0, none⟩)
/-- The elder blocks are as they were, but those that are filled. -/
def Same (kd : List Tag) (tgt : Nat → Nat) (W w : World) : Prop := w.os = W.os ∧ w.tape = W.tape ∧ w.output = W.output ∧ W.heap.size ≤ w.heap.size ∧ ∀ k, k < W.heap.size → (∀ c, .so c ∈ kd → tgt c ≠ k) → w.heap[k]? = W.heap[k]?
/-- The operation yields v, the world as it was; or it is a call that returns v and makes new memory alone. -/
def qUpon (P : Program) (w : World) (v : Value) : Result Next → Prop
  | .ok (.value u) w' => w' = w ∧ u = v
  | .ok (.enter f args) w' => w' = w ∧ Calls P f args w (fun e w'' => e = .returned v ∧ Below w.heap.size w w'')
  | _ => False
def AllOps (R : Nat → Oper → Prop) : Nat → List Oper → Prop
  | i, o :: l => R i o ∧ AllOps R (i + 1) l
  | _, [] => True
theorem AllOps.get {R : Nat → Oper → Prop} : ∀ {l : List Oper} {k : Nat}, AllOps R k l → ∀ i o, l[i]? = some o → R (k + i) o
  | [], _, _, i, o, h => by simp at h
  | x :: l, k, hA, 0, o, h => by
    obtain rfl : x = o := by simpa using h
    exact hA.1
  | x :: l, k, hA, i + 1, o, h => by
    have := AllOps.get hA.2 i o (by simpa using h)
    rwa [Nat.add_assoc, Nat.add_comm 1 i] at this
section
variable {l : List Oper} {kd : List Tag} {V : List Value}
theorem kept {w w' : World} {k : Nat} {x : Obj} (h : Below w.heap.size w w') (e : w.heap[k]? = some x) : w'.heap[k]? = some x := by
  rw [h.block k (Array.getElem?_eq_some_iff.1 e).1]; exact e
theorem Same.below {tgt : Nat → Nat} {W w w' : World} (h : Same kd tgt W w) (k : Below w.heap.size w w') : Same kd tgt W w' :=
  ⟨k.os.trans h.1, k.tape.trans h.2.1, k.output.trans h.2.2.1, Nat.le_trans h.2.2.2.1 k.size, fun j hj hc => (k.block j (Nat.lt_of_lt_of_le hj h.2.2.2.1)).trans (h.2.2.2.2 j hj hc)⟩
variable {zero full : Nat → Obj} {tgt : Nat → Nat} {a0 : Act} {W : World} {S : List Nat} {G : Nat → Nat} {w : World}
variable {P : Program} {Q : Exit → Act → World → Prop} {C : World → Prop}
def slotV (t : Tag) (v : Value) (g : Nat) : Value := match t with | .q => v | .al => ptrTo g | _ => undef
/-- The frame of the end, operation by operation. -/
def putAll : List Oper → List Tag → List Value → (Nat → Nat) → Nat → Act → Act
  | o :: l, t :: kd, v :: V, G, i, a => putAll l kd V G (i + 1) (a.put o.dst (slotV t v (G i)))
  | _, _, _, _, _, a => a
theorem Same.block {W w : World} (h : Same kd tgt W w) {g : Nat} {x : Obj} (hx : W.heap[g]? = some x) (hc : ∀ c, Tag.so c ∈ kd → tgt c ≠ g) : w.heap[g]? = some x := by
  rw [h.2.2.2.2 g (Array.getElem?_eq_some_iff.1 hx).1 hc]; exact hx
theorem Same.ext {W0 W w : World} (h : Same kd tgt W w) (k : Below W0.heap.size W0 W) (hc : ∀ c, Tag.so c ∈ kd → W0.heap.size ≤ tgt c) : Below W0.heap.size W0 w :=
  ⟨h.1.trans k.os, h.2.1.trans k.tape, h.2.2.1.trans k.output, Nat.le_trans k.size h.2.2.2.1, fun j hj => (h.2.2.2.2 j (Nat.lt_of_lt_of_le hj k.size) (fun c hc' e => by have := hc c hc'; omega)).trans (k.block j hj)⟩
end
end
section
open Go Go.RowKit
theorem take_eq_succ {l m : List Nat} {k : Nat} (h1 : k < l.length) (h2 : k < m.length) (h : l.take k = m.take k) : (l.take (k + 1) = m.take (k + 1)) ↔ l.getD k 0 = m.getD k 0 := by
  rw [take_succ h1, take_succ h2, h]
  simp
set_option maxRecDepth 100000 in
theorem r_same_ne (A A' : Option Addr) (n n' c c' : Nat) (W : World) (h : n ≠ n') (h1 : n ≤ 9223372036854775807) (h2 : n' ≤ 9223372036854775807) : Calls Try.prog 12 #[.slice A n c, .slice A' n' c'] W (Ret (.bool false) W) := by
  have hb : ((n : Int) != (n' : Int)) = true := by rw [bne_iff_ne]; omega
  have hb' : ¬ ((n : Int) = (n' : Int)) := by omega
  go_enter Try.func12, Try.ntmps12
  go_wp2_with fail
  go_ret
  exact ⟨rfl, Ext.refl _⟩
set_option maxHeartbeats 800000 in
set_option maxRecDepth 100000 in
theorem r_same_eq (A A' : Option Addr) (n c c' : Nat) (l m : List Nat) (W : World) (hl : BytesAt W A l) (hm : BytesAt W A' m) (hn : l.length = n) (hn' : m.length = n) (v : Bool) (hv : decide (l = m) = v) :
    Calls Try.prog 12 #[.slice A n c, .slice A' n c'] W (Ret (.bool v) W) := by
  have hlen := hl.2.1
  rw [hn] at hlen
  have HL := hide hl
  have HM := hide hm
  have Hn := hide hn
  have Hn' := hide hn'
  have Hv := hide hv
  have hb : ((n : Int) != (n : Int)) = false := by simp
  clear hl hm hn hn' hv
  go_enter Try.func12, Try.ntmps12
  go_wp2_with fail
  go_loopw [5] (fun i wr => ∃ k : Nat, k ≤ n ∧ i = .int .i64 k ∧ Hid (Ext W wr) ∧ Hid (l.take k = m.take k)) (fun i _ => n - (intOf i).toNat)
  case atStart => exact ⟨0, by omega, rfl, hide (Ext.refl _), hide (by simp)⟩
  case round =>
    obtain ⟨k, hk, rfl, E, T⟩ := hrel
    by_cases hlt : k < n
    · have hkl : k < l.length := by rw [Hn.out]; exact hlt
      have hkm : k < m.length := by rw [Hn'.out]; exact hlt
      obtain ⟨b, off, rfl, hb1, hc1⟩ := (HL.out.ext E.out).2.2 (by omega)
      obtain ⟨b', off', rfl, hb2, hc2⟩ := (HM.out.ext E.out).2.2 (by omega)
      have d1 := hc1 k hkl
      have d2 := hc2 k hkm
      have hs := hide (take_eq_succ hkl hkm T.out)
      have hne : Hid (l.getD k 0 ≠ m.getD k 0 → l ≠ m) := fun h e => h (by rw [e])
      obtain ⟨x, hx⟩ : ∃ x, l.getD k 0 = x := ⟨_, rfl⟩
      obtain ⟨y, hy⟩ : ∃ y, m.getD k 0 = y := ⟨_, rfl⟩
      rw [hx] at d1 hs hne
      rw [hy] at d2 hs hne
      clear hc1 hc2 hx hy hkl hkm hb1 hb2
      by_cases hxy : x = y
      · have q : ((x : Int) != (y : Int)) = false := by subst hxy; simp
        have Hxy := hide hxy
        clear hxy
        go_wp2_with fail
        go_quiet (fail)
        go_wp2_with fail
        go_roundw
        case rel => exact ⟨k + 1, by omega, by go_num, hide (E.out.trans (ext_drewN _ _)), hide (hs.out.2 Hxy.out)⟩
        case measure => simp [intOf]; omega
      · have q : ((x : Int) != (y : Int)) = true := by rw [bne_iff_ne]; omega
        go_wp2_with fail
        go_quiet (fail)
        go_wp2_with fail
        go_ret
        refine ⟨?_, E.out.trans (ext_drewN _ _)⟩
        have := hne.out hxy
        rw [← Hv.out, decide_eq_false this]
        rfl
    · obtain rfl : k = n := by omega
      go_wp2_with fail
      go_ret
      refine ⟨?_, E.out⟩
      have e : l = m := by
        have := T.out
        rw [List.take_of_length_le (by have := Hn.out; omega), List.take_of_length_le (by have := Hn'.out; omega)] at this
        exact this
      rw [← Hv.out, decide_eq_true e]
      rfl
theorem r_same (A A' : Option Addr) (n n' c c' : Nat) (l m : List Nat) (W : World) (hl : BytesAt W A l) (hm : BytesAt W A' m) (hn : l.length = n) (hn' : m.length = n') (v : Bool) (hv : decide (l = m) = v) :
    Calls Try.prog 12 #[.slice A n c, .slice A' n' c'] W (Ret (.bool v) W) := by
  by_cases h : n = n'
  · subst h
    exact r_same_eq A A' n c c' l m W hl hm hn hn' v hv
  · have e : v = false := by
      rw [← hv, decide_eq_false]
      intro e; subst e; omega
    subst e
    exact r_same_ne A A' n n' c c' W h (by have := hl.2.1; omega) (by have := hm.2.1; omega)
end
end Go.Proofs.Ytijfojbonceffaa
