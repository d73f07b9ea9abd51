/- Part 1 of what these claims stand on: contracts of the program's and the reference's functions, and plain facts. Conditions: each states its own. -/
import Derived.WalkKit
import Derived.Test.YthcnbpeeekkgkaaProg
import Derived.WalkSmall
import Derived.Shelf.Spec.BitsCarry
import Derived.Laws.AppendOwnNone
import Derived.Deep.QuietTactic
import Derived.BigQuiet
import Derived.Deep.RegionWith
import Derived.Deep.RegionHeld3
import Derived.Deep.DeepCutAuto
import Derived.Laws.StructEq
import Derived.Below
import Derived.ProofKit
import Derived.OpenShut
import Derived.ShutString
import Derived.ChangeOld
import Derived.Lib.SmallJoins
import Derived.OwnWalk
import Derived.Lib.QuietBelow
import Derived.Laws.CopyOwn
import Derived.Maps.AppendAt
import Derived.Deep.AppendLies
import Derived.Deep.Draws
import Derived.Lib.BitFns
import Derived.KernelRfl
import Derived.Orders
import Derived.Deep.MidRow
import Derived.Laws.Rows
import Derived.Laws.CopyRow
import Derived.Laws.Cover3
import Derived.Shelf.Small.Bits
import Derived.Laws.IdiomCopy
import Derived.Deep.LoopGhost
import Derived.Shelf.Strconv.Itoa0
import Derived.Shelf.Bytes.SlEqualAll
import Derived.Lib.AppendZerosOnto
import Derived.Laws.Tables
import Derived.Great.BuildSlice
import Derived.Deep.RegionLaw
import Derived.Laws.EntriesVeiled
import Derived.RangeFuncNested
import Derived.RangeFuncBound
import Derived.RangeFuncCalls
import Derived.RangeFuncLeaves
import Derived.Shelf.Abstract
import Derived.Shelf.RegionOpen
import Derived.OwnWalkIn
import Derived.TacticsInMore
import Derived.LoopNIn
import Derived.LoopIn
namespace Go.Proofs.Ythcnbpeeekkgkaa
set_option linter.unusedVariables false
set_option linter.unusedSimpArgs false
section
open Go Go.RowKit
def val : List Nat → Nat
 | [] => 0
 | x :: r => x + 18446744073709551616 * val r
def W64 (l : List Nat) : Prop := ∀ x ∈ l, x < 18446744073709551616
theorem val_append (a b : List Nat) : val (a ++ b) = val a + 18446744073709551616 ^ a.length * val b := by
 induction a with
 | nil => simp [val]
 | cons x r ih => simp only [List.cons_append, val, ih, List.length_cons, Nat.pow_succ]; grind
theorem val_snoc (a : List Nat) (x : Nat) : val (a ++ [x]) = val a + 18446744073709551616 ^ a.length * x := by rw [val_append]; simp [val]
theorem val_lt (a : List Nat) (h : W64 a) : val a < 18446744073709551616 ^ a.length := by
 induction a with
 | nil => simp [val]
 | cons x r ih =>
   have h1 := ih (fun y hy => h y (by simp [hy]))
   have h2 := h x (by simp)
   simp only [val, List.length_cons, Nat.pow_succ]
   omega
def limbs (n : Nat) : List Nat := if h : n = 0 then [] else n % 18446744073709551616 :: limbs (n / 18446744073709551616)
termination_by n
decreasing_by omega
theorem limbs_zero : limbs 0 = [] := by rw [limbs]; simp
theorem limbs_pos {n : Nat} (h : n ≠ 0) : limbs n = n % 18446744073709551616 :: limbs (n / 18446744073709551616) := by rw [limbs]; simp [h]
theorem limbs_nil {n : Nat} : limbs n = [] ↔ n = 0 := by
 constructor
 · intro h; false_or_by_contra; rename_i h0; rw [limbs_pos h0] at h; simp at h
 · rintro rfl; exact limbs_zero
theorem limbs_len_le {n k : Nat} : (limbs n).length ≤ k ↔ n < 18446744073709551616 ^ k := by
 induction k generalizing n with
 | zero => simp [limbs_nil]
 | succ k ih =>
   by_cases h : n = 0
   · subst h; simp [limbs_zero]; exact Nat.pos_of_ne_zero (by simp [Nat.pow_eq_zero])
   · rw [limbs_pos h, List.length_cons, Nat.pow_succ, Nat.add_le_add_iff_right, ih]
     constructor
     · intro h1; have := Nat.div_add_mod n 18446744073709551616; omega
     · intro h1; rw [Nat.div_lt_iff_lt_mul (by omega)]; exact h1
theorem val_take_succ (l : List Nat) (k : Nat) (h : k < l.length) : val (l.take (k + 1)) = val (l.take k) + 18446744073709551616 ^ k * l[k] := by
 rw [List.take_succ_eq_append_getElem h, val_snoc, List.length_take, Nat.min_eq_left (by omega)]
end
section
open Go Go.RowKit
theorem nat_xa (a b : Nat) : 2 * (a &&& b) + (a ^^^ b) = a + b := by
 induction a using Nat.strongRecOn generalizing b with
 | ind a ih =>
   by_cases h : a = 0
   · subst h; simp
   · have := ih (a / 2) (by omega) (b / 2)
     have e1 := Nat.and_div_two (a := a) (b := b)
     have e2 := Nat.xor_div_two (a := a) (b := b)
     have e3 := Nat.and_mod_two_eq_one (a := a) (b := b)
     have e4 := Nat.xor_mod_two_eq_one (a := a) (b := b)
     grind
theorem toInt64 (x : Int) (x1 : -9223372036854775808 ≤ x) (x2 : x ≤ 9223372036854775807) : (BitVec.ofInt 64 x).toInt = x := by
 rw [BitVec.toInt_ofInt]; simp only [Int.bmod]; omega
theorem wrap_toNat (X : BitVec 64) : IntKind.i64.wrap ((X.toNat : Nat) : Int) = X.toInt := by
 have h := X.isLt
 rw [IntKind.wrap_i64, BitVec.toInt_eq_toNat_cond]
 split <;> omega
theorem i64_and_xor (x y : Int) (x1 : -9223372036854775808 ≤ x) (x2 : x ≤ 9223372036854775807) (y1 : -9223372036854775808 ≤ y) (y2 : y ≤ 9223372036854775807) :
   2 * bits .and .i64 x y + bits .xor .i64 x y = x + y := by
 have ex := toInt64 x x1 x2
 have ey := toInt64 y y1 y2
 show 2 * IntKind.i64.wrap ((BitVec.ofInt 64 x &&& BitVec.ofInt 64 y).toNat : Nat) + IntKind.i64.wrap ((BitVec.ofInt 64 x ^^^ BitVec.ofInt 64 y).toNat : Nat) = x + y
 rw [wrap_toNat, wrap_toNat]
 generalize BitVec.ofInt 64 x = X at *
 generalize BitVec.ofInt 64 y = Y at *
 have h := nat_xa X.toNat Y.toNat
 rw [BitVec.toInt_eq_msb_cond] at *
 rw [BitVec.toInt_eq_msb_cond, BitVec.msb_and, BitVec.msb_xor, BitVec.toNat_and, BitVec.toNat_xor]
 have p : ((2 ^ 64 : Nat) : Int) = 18446744073709551616 := by decide
 rw [p] at *
 cases hx : X.msb <;> cases hy : Y.msb <;> simp only [hx, hy, Bool.and_true, Bool.and_false, Bool.xor_true, Bool.xor_false, Bool.not_true, Bool.not_false, if_true, if_false, Bool.false_eq_true] at * <;> omega
theorem mid_bits (x y : Int) (x1 : -9223372036854775808 ≤ x) (x2 : x ≤ 9223372036854775807) (y1 : -9223372036854775808 ≤ y) (y2 : y ≤ 9223372036854775807) :
   wrap64 (bits .and .i64 x y + bits .xor .i64 x y / 2) = (x + y) / 2 := by
 have h := i64_and_xor x y x1 x2 y1 y2
 simp only [wrap64]; omega
theorem tq (a b : Int) (hb : b ≠ 0) : b * a.tdiv b + a.tmod b = a ∧ (a.tmod b).natAbs < b.natAbs ∧ (0 ≤ a → 0 ≤ a.tmod b) ∧ (a ≤ 0 → a.tmod b ≤ 0) ∧ (a.tdiv b).natAbs ≤ a.natAbs ∧ (2 ≤ b.natAbs → 2 * (a.tdiv b).natAbs ≤ a.natAbs) ∧ (b = 1 → a.tdiv b = a) ∧ (b = -1 → a.tdiv b = -a) := by
 have h1 := Int.mul_tdiv_add_tmod a b
 have h2 := Int.natAbs_tmod a b
 have h3 := Int.natAbs_tdiv a b
 have h4 : a.natAbs % b.natAbs < b.natAbs := Nat.mod_lt _ (by omega)
 have h5 : a.natAbs.div b.natAbs = a.natAbs / b.natAbs := rfl
 have h6 : a.natAbs / b.natAbs ≤ a.natAbs := Nat.div_le_self _ _
 refine ⟨h1, by omega, fun h => Int.tmod_nonneg _ h, fun h => ?_, by omega, fun h => ?_, fun h => by subst h; simp, fun h => by subst h; simp [Int.tdiv_neg]⟩
 · have := Int.tmod_nonneg (a := -a) b (by omega)
   rw [Int.neg_tmod] at this; omega
 · have h7 : b.natAbs * (a.natAbs / b.natAbs) ≤ a.natAbs := Nat.mul_div_le _ _
   have h8 : 2 * (a.natAbs / b.natAbs) ≤ b.natAbs * (a.natAbs / b.natAbs) := Nat.mul_le_mul_right _ h
   omega
end
section
open Go Go.RowKit
def wd (l : List Nat) : List Value := l.map fun x : Nat => Value.int .u64 (x : Int)
def Words (B : Nat) (w : World) (v : Value) (l : List Nat) : Prop := w.ownsRow B 53 1 v l.length (wd l) ∧ W64 l
def lenOf : Value → Nat | .slice _ n _ => n | _ => 0
theorem rb1 {k : IntKind} {a a' : Int} (h1 : a = a') : Ending.returned (Value.int k a) = .returned (.int k a') := by rw [h1]
theorem hide {p : Prop} (h : p) : Hid p := h
theorem Words.nil {B : Nat} {w : World} {v : Value} (h : Words B w v []) : ∃ a cap, v = .slice a 0 cap ∧ cap ≤ 9223372036854775807 := by
 obtain ⟨⟨_, h1 | ⟨g, cap, cur, e, h1⟩⟩, _⟩ := h
 · exact ⟨_, _, h1.1, by omega⟩
 · refine ⟨_, _, e, ?_⟩; have := h1.2.2.2.1; unfold maxLen at this; omega
theorem Words.pos {B : Nat} {w : World} {v : Value} {l : List Nat} (h : Words B w v l) (n : Nat) (hl : l.length = n) (h0 : 0 < n) : ∃ g cap, v = .slice (some ⟨g, 0, none⟩) n cap ∧ n ≤ cap ∧ cap ≤ 9223372036854775807 ∧ B ≤ g ∧ g < w.heap.size ∧
   (∀ i (hi : i < l.length), w.cell? ⟨g, i, none⟩ = some (.int .u64 (l[i] : Int))) ∧ ∀ i, w.frozen? ⟨g, i, none⟩ = false := by
 subst hl
 obtain ⟨h, _⟩ := h
 have hc := h
 obtain ⟨_, h1 | ⟨g, cap, cur, rfl, hb, hh, hn, hm, _⟩⟩ := h
 · omega
 · refine ⟨g, cap, rfl, hn, by unfold maxLen at hm; omega, hb, ?_, fun i hi => ?_, fun i => hc.frozenAt i⟩
   · exact (hc.lt g rfl).2
   · rw [hc.cellAt i (by omega)]; simp [wd, hi]
theorem Words.ext {B : Nat} {w w' : World} {v : Value} {l : List Nat} (h : Words B w v l) (k : Below w.heap.size w w') : Words B w' v l := by
 refine ⟨?_, h.2⟩
 obtain ⟨h1, h2 | ⟨g, cap, cur, hv, hg, hh, r⟩⟩ := h.1
 · exact ⟨h1, Or.inl h2⟩
 · have hlt := (h.1.lt g (by rw [hv]; rfl)).2
   exact ⟨h1, Or.inr ⟨g, cap, cur, hv, hg, by rw [k.block g hlt]; exact hh, r⟩⟩
theorem Words.base {B B' : Nat} {w : World} {v : Value} {l : List Nat} (h : Words B w v l) (k : B' ≤ B) : Words B' w v l := by
 refine ⟨?_, h.2⟩
 obtain ⟨h1, h2 | ⟨g, cap, cur, hv, hg, r⟩⟩ := h.1
 · exact ⟨h1, Or.inl h2⟩
 · exact ⟨h1, Or.inr ⟨g, cap, cur, hv, by omega, r⟩⟩
def Ext (w w' : World) : Prop := Below w.heap.size w w'
theorem Ext.refl (w : World) : Ext w w := Below.refl _ _
theorem Ext.trans {a b c : World} (h : Ext a b) (k : Ext b c) : Ext a c := Below.trans h (Below.mono k h.size)
theorem ext_drewN (w : World) (n : Nat) : Ext w (w.drewN n) := ⟨rfl, rfl, rfl, Nat.le_refl _, fun _ _ => rfl⟩
theorem ext_drew (w : World) : Ext w w.drew := ⟨rfl, rfl, rfl, Nat.le_refl _, fun _ _ => rfl⟩
theorem ext_alloc (w : World) (o : Obj) : Ext w (w.alloc o) := (Below.refl _ _).alloc (Nat.le_refl _) o
def mag4 (a b c d : Nat) : Nat := val [a, b, c, d]
theorem Words.drew {B : Nat} {w : World} {v : Value} {l : List Nat} (h : Words B w v l) : Words B w.drew v l := h
open Go Go.RowKit
theorem Words.at {B : Nat} {w : World} {a : Option Addr} {n cap : Nat} {l : List Nat} (h : Words B w (.slice a n cap) l) (i : Nat) (hi : i < l.length) :
   ∃ g, a = some ⟨g, 0, none⟩ ∧ B ≤ g ∧ g < w.heap.size ∧ w.cell? ⟨g, i, none⟩ = some (.int .u64 (l[i] : Int)) ∧ w.frozen? ⟨g, i, none⟩ = false := by
 obtain ⟨g, cap', e, _, _, h3, h4, hc, hf⟩ := h.pos _ rfl (by omega)
 injection e with e1 e2 e3
 exact ⟨g, e1, h3, h4, hc i hi, hf i⟩
theorem Words.set {B : Nat} {w : World} {g n cap : Nat} {l : List Nat} (h : Words B w (.slice (some ⟨g, 0, none⟩) n cap) l) (hn : l.length = n) (k x : Nat) (hx : x < 18446744073709551616) : Words B (w.setCell ⟨g, k, none⟩ (.int .u64 (x : Int))) (.slice (some ⟨g, 0, none⟩) n cap) (l.set k x) := by
 subst hn
 have h1 := (h.1.stored k (.int .u64 (x : Int))).1
 refine ⟨?_, ?_⟩
 · rw [List.length_set, show wd (l.set k x) = (wd l).set k (.int .u64 (x : Int)) by simp [wd, List.map_set]]; exact h1
 · intro y hy
   rcases List.mem_or_eq_of_mem_set hy with h2 | h2
   · exact h.2 y h2
   · omega
def AddRel (p q os : List Nat) (k c : Nat) : Prop := os.length = p.length ∧ os.drop k = p.drop k ∧ c ≤ 1 ∧ val (os.take k) + 18446744073709551616 ^ k * c = val (p.take k) + val (q.take k)
theorem AddRel.done {p q os : List Nat} {c : Nat} (h : AddRel p q os p.length c) (hq : q.length ≤ p.length) : val (os ++ [c]) = val p + val q := by
 obtain ⟨h1, _, _, h4⟩ := h
 rw [List.take_of_length_le (by omega), List.take_length, List.take_of_length_le hq] at h4
 rw [val_snoc, h1]; exact h4
open Go Go.RowKit
def SubRel (p q os : List Nat) (k c : Nat) : Prop := os.length = p.length ∧ os.drop k = p.drop k ∧ c ≤ 1 ∧ val (os.take k) + val (q.take k) = val (p.take k) + 18446744073709551616 ^ k * c
theorem SubRel.done {p q os : List Nat} {c : Nat} (h : SubRel p q os p.length c) (hq : q.length ≤ p.length) (ho : W64 os) (hle : val q ≤ val p) : val os = val p - val q := by
 obtain ⟨h1, _, h3, h4⟩ := h
 rw [List.take_of_length_le (by omega), List.take_length, List.take_of_length_le hq] at h4
 have h5 := val_lt os ho
 rw [h1] at h5
 have : c = 0 ∨ c = 1 := by omega
 rcases this with rfl | rfl
 · simp at h4; omega
 · simp at h4; omega
open Go Go.RowKit
def wideV (s : Bool) (a b c d : Nat) : Value := .agg #[.bool s, .int .u64 (a : Int), .int .u64 (b : Int), .int .u64 (c : Int), .int .u64 (d : Int)]
def natV (s : Bool) (n : Nat) : Value := wideV s (n % 18446744073709551616) (n / 18446744073709551616 % 18446744073709551616) (n / 340282366920938463463374607431768211456 % 18446744073709551616) (n / 6277101735386680763835789423207666416102355444464034512896 % 18446744073709551616)
theorem cell_of_block {w : World} {b : Nat} {cur : Array Value} {e : TypeId} (h : w.heap[b]? = some (.cells cur e (0, 0))) (i : Nat) : w.cell? ⟨b, i, none⟩ = cur[i]? := by simp [World.cell?, h]
def g4 (l : List Nat) (k i : Nat) : Int := if i < k then ((l.getD i 0 : Nat) : Int) else 0
theorem store_block {w : World} {b : Nat} {cur : Array Value} {e : TypeId} (h : w.heap[b]? = some (.cells cur e (0, 0))) (j : Nat) (u : Value) : (w.setCell ⟨b, j, none⟩ u).heap[b]? = some (.cells (cur.setIfInBounds j u) e (0, 0)) := heap_setCell_same w b j cur e u h
def IsW (s : Bool) (a b c d : Nat) (z : Int) : Prop := a < 18446744073709551616 ∧ b < 18446744073709551616 ∧ c < 18446744073709551616 ∧ d < 18446744073709551616 ∧ z = if s then -(mag4 a b c d : Int) else (mag4 a b c d : Int)
def IsC (s : Bool) (a b c d : Nat) (z : Int) : Prop := IsW s a b c d z ∧ (s = true → z ≠ 0)
theorem natV_isC (s : Bool) (n : Nat) (h : (limbs n).length ≤ 4) : ∃ a b c d : Nat, natV (s && decide (n ≠ 0)) n = .agg #[.bool (s && decide (n ≠ 0)), .int .u64 (a : Int), .int .u64 (b : Int), .int .u64 (c : Int), .int .u64 (d : Int)] ∧ IsC (s && decide (n ≠ 0)) a b c d (if s then -(n : Int) else n) := by
 have h4 := limbs_len_le.1 h
 refine ⟨_, _, _, _, rfl, ⟨Nat.mod_lt _ (by omega), Nat.mod_lt _ (by omega), Nat.mod_lt _ (by omega), Nat.mod_lt _ (by omega), ?_⟩, ?_⟩
 · simp only [mag4, val]
   by_cases hn : n = 0
   · subst hn; simp
   · cases s <;> simp [hn] <;> omega
 · cases s <;> simp
open Go Go.RowKit
open Go Go.RowKit
open Go Go.RowKit
theorem Ext.al {w W : World} (h : Ext w W) (o : Obj) : Ext w (W.alloc o) := h.trans (ext_alloc _ _)
end
section
open Go Go.RowKit
def Upd (g : Nat) (w w' : World) : Prop := w'.os = w.os ∧ w'.tape = w.tape ∧ w'.output = w.output ∧ w.heap.size ≤ w'.heap.size ∧ ∀ k, k < w.heap.size → k ≠ g → w'.heap[k]? = w.heap[k]?
theorem Upd.refl (g : Nat) (w : World) : Upd g w w := ⟨rfl, rfl, rfl, Nat.le_refl _, fun _ _ _ => rfl⟩
theorem Upd.trans {g : Nat} {a b c : World} (h : Upd g a b) (k : Upd g b c) : Upd g a c :=
 ⟨k.1.trans h.1, k.2.1.trans h.2.1, k.2.2.1.trans h.2.2.1, Nat.le_trans h.2.2.2.1 k.2.2.2.1, fun i hi hn => (k.2.2.2.2 i (Nat.lt_of_lt_of_le hi h.2.2.2.1) hn).trans (h.2.2.2.2 i hi hn)⟩
theorem Ext.upd {w w' : World} (h : Ext w w') (g : Nat) : Upd g w w' := ⟨h.os, h.tape, h.output, h.size, fun k hk _ => h.block k hk⟩
theorem Upd.ext {g : Nat} {W w w' : World} (h : Upd g w w') (k : Ext W w) (hg : W.heap.size ≤ g) : Ext W w' :=
 ⟨h.1.trans k.os, h.2.1.trans k.tape, h.2.2.1.trans k.output, Nat.le_trans k.size h.2.2.2.1, fun i hi => (h.2.2.2.2 i (Nat.lt_of_lt_of_le hi k.size) (by omega)).trans (k.block i hi)⟩
theorem upd_set (w : World) (g k : Nat) (u : Value) : Upd g w (w.setCell ⟨g, k, none⟩ u) :=
 ⟨rfl, rfl, rfl, by simp [World.setCell], fun i _ hn => heap_setCell_other w ⟨g, k, none⟩ i u hn⟩
def Arr (w : World) (g : Nat) (T : TypeId) (L : List Nat) : Prop := w.heap[g]? = some (.cells (wd L).toArray T (0, 0))
theorem Arr.at {w : World} {g : Nat} {T : TypeId} {L : List Nat} (h : Arr w g T L) (i : Nat) (hi : i < L.length) : w.cell? ⟨g, i, none⟩ = some (.int .u64 (L[i] : Int)) := by
 rw [cell_of_block h]; simp [wd, hi]
theorem Arr.lt {w : World} {g : Nat} {T : TypeId} {L : List Nat} (h : Arr w g T L) : g < w.heap.size := (Array.getElem?_eq_some_iff.1 h).1
theorem Arr.set {w : World} {g : Nat} {T : TypeId} {L : List Nat} (h : Arr w g T L) (k x : Nat) : Arr (w.setCell ⟨g, k, none⟩ (.int .u64 (x : Int))) g T (L.set k x) := by
 unfold Arr
 rw [store_block h k]
 simp [wd, List.map_set]
theorem Arr.ext {w w' : World} {g : Nat} {T : TypeId} {L : List Nat} (h : Arr w g T L) (k : Ext w w') : Arr w' g T L := by
 have := h.lt; unfold Arr; rw [k.block g this]; exact h
theorem Arr.upd {w w' : World} {g b : Nat} {T : TypeId} {L : List Nat} (h : Arr w g T L) (k : Upd b w w') (hn : g ≠ b) : Arr w' g T L := by
 have := h.lt; unfold Arr; rw [k.2.2.2.2 g this hn]; exact h
theorem Arr.drew {w : World} {g : Nat} {T : TypeId} {L : List Nat} (h : Arr w g T L) : Arr w.drew g T L := h
theorem Arr.drewN {w : World} {g : Nat} {T : TypeId} {L : List Nat} (h : Arr w g T L) (n : Nat) : Arr (w.drewN n) g T L := h
open Go Go.RowKit
open Go Go.RowKit
theorem w64_set {l : List Nat} (h : W64 l) (k x : Nat) (hx : x < 18446744073709551616) : W64 (l.set k x) := by
 intro y hy
 rcases List.mem_or_eq_of_mem_set hy with h2 | h2
 · exact h y h2
 · omega
def Reads (w : World) (g o : Nat) (q : List Nat) : Prop := g < w.heap.size ∧ ∀ i (h : i < q.length), w.cell? ⟨g, o + i, none⟩ = some (.int .u64 (q[i] : Int))
theorem Reads.upd {w w' : World} {g b o : Nat} {q : List Nat} (h : Reads w g o q) (k : Upd b w w') (hn : g ≠ b) : Reads w' g o q :=
 ⟨Nat.lt_of_lt_of_le h.1 k.2.2.2.1, fun i hi => (World.cell?_of_block (w := w) (w' := w') (a := ⟨g, o + i, none⟩) (k.2.2.2.2 g h.1 hn)).trans (h.2 i hi)⟩
theorem Reads.ext {w w' : World} {g o : Nat} {q : List Nat} (h : Reads w g o q) (k : Ext w w') : Reads w' g o q :=
 ⟨Nat.lt_of_lt_of_le h.1 k.size, fun i hi => (k.cell (p := ⟨g, o + i, none⟩) h.1).trans (h.2 i hi)⟩
theorem Upd.drewN {g : Nat} {w w' : World} (h : Upd g w w') (n : Nat) : Upd g w (w'.drewN n) := h.trans (Ext.upd (ext_drewN _ _) g)
theorem Upd.drew {g : Nat} {w w' : World} (h : Upd g w w') : Upd g w w'.drew := h.trans (Ext.upd (ext_drew _) g)
theorem Upd.set {g : Nat} {w w' : World} (h : Upd g w w') (k : Nat) (u : Value) : Upd g w (w'.setCell ⟨g, k, none⟩ u) := h.trans (upd_set _ _ _ _)
end
section
open Go Go.RowKit
def U64 (a : Int) : Prop := 0 ≤ a ∧ a ≤ 18446744073709551615
theorem wrap_u64' (n : Int) : IntKind.u64.wrap n = n % 18446744073709551616 := by simp [IntKind.wrap, IntKind.bits, IntKind.signed]
end
section
open Go Go.RowKit
def I64 (a : Int) : Prop := -9223372036854775808 ≤ a ∧ a ≤ 9223372036854775807
def InN (n v : Int) : Prop := 0 ≤ v ∧ (1 ≤ n → v < n) ∧ (n < 1 → v = 0)
def modN (a n : Int) : Int := if n < 1 then 0 else if a.tmod n < 0 then a.tmod n + n else a.tmod n
theorem modN_in (a n : Int) : InN n (modN a n) := by
 unfold InN modN
 have ht := tq a n
 split
 · omega
 · have h2 := (ht (by omega)).2.1
   split <;> omega
theorem t_mod (a n : Int) (w : World) (ha : I64 a) (hn : I64 n) :
   Calls Try.prog 21 #[.int .i64 a, .int .i64 n] w fun e w' => e = .returned (.int .i64 (modN a n)) ∧ w' = w := by
 obtain ⟨a1, a2⟩ := ha
 obtain ⟨n1, n2⟩ := hn
 by_cases h : n < 1
 · go_enter Try.func21, Try.ntmps21
   go_wp2
   go_ret
   exact ⟨rb1 (by simp only [modN]; omega), rfl⟩
 · have t1 : (a.tmod n).natAbs < n.natAbs := (tq a n (by omega)).2.1
   go_enter Try.func21, Try.ntmps21
   go_wp2
   all_goals go_ret
   all_goals exact ⟨rb1 (by simp only [modN]; grind), rfl⟩
def TapeOk (B : Nat) (w : World) (b : Nat) : Prop :=
 B ≤ b ∧ b < w.heap.size ∧ ∃ (a : Option Addr) (len cap at_ : Nat), w.cell? ⟨b, 0, none⟩ = some (.slice a len cap) ∧ w.cell? ⟨b, 1, none⟩ = some (.int .i64 at_) ∧ w.frozen? ⟨b, 1, none⟩ = false ∧ at_ ≤ 9223372036854775807 ∧ len ≤ 9223372036854775807 ∧
   (len = 0 ∨ ∃ xb xo : Nat, a = some ⟨xb, xo, none⟩ ∧ xb < B ∧ len ≤ cap ∧ ∀ i, i < len → ∃ v : Int, I64 v ∧ w.cell? ⟨xb, xo + i, none⟩ = some (.int .i64 v))
theorem TapeOk.below {B b : Nat} {w w' : World} (h : TapeOk B w b) (k : Below (b + 1) w w') : TapeOk B w' b := by
 obtain ⟨h1, h2, a, len, cap, at_, c0, c1, f1, h3, h4, hx⟩ := h
 have hs := k.size
 refine ⟨h1, by omega, a, len, cap, at_, (k.cell (p := ⟨b, 0, none⟩) (by simp)).trans c0, (k.cell (p := ⟨b, 1, none⟩) (by simp)).trans c1, (k.frozen (p := ⟨b, 1, none⟩) (by simp)).trans f1, h3, h4, ?_⟩
 rcases hx with hx | ⟨xb, xo, e, hb, hl, hc⟩
 · exact Or.inl hx
 · refine Or.inr ⟨xb, xo, e, hb, hl, fun i hi => ?_⟩
   obtain ⟨v, hv, cv⟩ := hc i hi
   exact ⟨v, hv, (k.cell (p := ⟨xb, xo + i, none⟩) (by simp; omega)).trans cv⟩
theorem below_drewN' (B : Nat) (w : World) (n : Nat) : Below B w (w.drewN n) := ⟨rfl, rfl, rfl, Nat.le_refl _, fun _ _ => rfl⟩
theorem TapeOk.bump {B b : Nat} {w : World} (h : TapeOk B w b) (k : Int) (h0 : 0 ≤ k) (hk : k ≤ 9223372036854775807) :
   TapeOk B (w.setCell ⟨b, 1, none⟩ (.int .i64 k)) b ∧ Below B w (w.setCell ⟨b, 1, none⟩ (.int .i64 k)) := by
 obtain ⟨k, rfl⟩ := Int.eq_ofNat_of_zero_le h0
 obtain ⟨h1, h2, a, len, cap, at_, c0, c1, f1, h3, h4, hx⟩ := h
 have hb : Below B w (w.setCell ⟨b, 1, none⟩ (.int .i64 k)) := (Below.refl B w).setCell (p := ⟨b, 1, none⟩) h1 _
 refine ⟨⟨h1, by simpa [World.setCell] using h2, a, len, cap, k, ?_, World.cell?_setCell_same _ _ _ c1, ?_, by omega, h4, ?_⟩, hb⟩
 · rw [World.cell?_setCell_other _ _ _ _ (by simp)]; exact c0
 · rw [World.frozen?_setCell]; exact f1
 · rcases hx with hx | ⟨xb, xo, e, hb', hl, hc⟩
   · exact Or.inl hx
   · refine Or.inr ⟨xb, xo, e, hb', hl, fun i hi => ?_⟩
     obtain ⟨v, hv, cv⟩ := hc i hi
     exact ⟨v, hv, (hb.cell (p := ⟨xb, xo + i, none⟩) hb').trans cv⟩
def NextPost (B b : Nat) (P : Int → Prop) (k : IntKind) (w : World) (e : Ending) (w' : World) : Prop := ∃ v : Int, e = .returned (.int k v) ∧ P v ∧ TapeOk B w' b ∧ Upd b w w'
theorem t_next (B b : Nat) (n : Int) (w : World) (hn : I64 n) (hT : TapeOk B w b) :
   Calls Try.prog 12 #[.pointer (some ⟨b, 0, none⟩), .int .i64 n] w (NextPost B b (InN n) .i64 w) := by
 have hT' := hT
 obtain ⟨hB, hb, a, len, cap, at_, c0, c1, f1, h1, h2, hx⟩ := hT'
 by_cases hlt : at_ < len
 · obtain ⟨xb, xo, rfl, hxB, hl, hc⟩ : ∃ xb xo : Nat, a = some ⟨xb, xo, none⟩ ∧ xb < B ∧ len ≤ cap ∧ ∀ i, i < len → ∃ v : Int, I64 v ∧ w.cell? ⟨xb, xo + i, none⟩ = some (.int .i64 v) := by
     rcases hx with hx | hx
     · omega
     · exact hx
   obtain ⟨v, hv, cx⟩ := hc at_ hlt
   have hlt' : ((at_ : Int) < (len : Int)) := by omega
   have hne : ¬ (xb = b) := by omega
   clear hc hx
   have hwr : IntKind.i64.wrap ((at_ : Int) + 1) = (at_ : Int) + 1 := by rw [IntKind.wrap_i64]; omega
   go_enter Try.func12, Try.ntmps12
   go_wp2
   go_quiet (fail)
   go_wp2
   have hw1 : IntKind.i64.wrap ((at_ : Int) + 1 - 1) = (at_ : Int) := by rw [IntKind.wrap_i64]; omega
   have hw0 : (0 : Int) ≤ (at_ : Int) := by omega
   go_quiet ((go_at_call 21; exact Calls.quiet_of_same (t_mod _ _ _ hv hn)))
   go_wp2
   go_ret
   exact ⟨_, rfl, modN_in v n, (TapeOk.bump (hT.below (below_drewN' (b + 1) w _)) _ (by omega) (by omega)).1.below (below_drewN' _ _ _), (((Upd.refl b w).drewN _).set 1 _).drewN _⟩
 · have hge : ((len : Int) ≤ (at_ : Int)) := by omega
   clear hx
   go_enter Try.func12, Try.ntmps12
   go_wp2
   go_quiet (fail)
   go_wp2
   go_ret
   exact ⟨0, rfl, by unfold InN; omega, hT.below (below_drewN' _ _ _), (Upd.refl _ _).drewN _⟩
theorem t_word (B b : Nat) (w : World) (hT : TapeOk B w b) :
   Calls Try.prog 35 #[.pointer (some ⟨b, 0, none⟩)] w (NextPost B b U64 .u64 w) := by
 go_enter Try.func35, Try.ntmps35
 go_wp2_with fail
 go_loopw [3, 4] (fun t i wr => ∃ (k : Nat) (v : Int), k ≤ 4 ∧ i = .int .i64 k ∧ t = .int .u64 v ∧ U64 v ∧ TapeOk B wr b ∧ Upd b w wr) (fun _ i _ => 4 - (intOf i).toNat)
 case atStart => exact ⟨0, 0, by omega, rfl, rfl, by unfold U64; omega, hT, Upd.refl _ _⟩
 case round =>
   obtain ⟨k, v, hk, rfl, rfl, hv, hT', hB⟩ := hrel
   by_cases hlt : k < 4
   · go_wp2_with (go_at_call 12; refine (t_next _ _ _ _ ⟨by omega, by omega⟩ hT').mono ?_; rintro e w' ⟨u, rfl, hu, hT2, hB2⟩)
     exact ⟨⟨k + 1, _, by omega, by go_num, rfl, by unfold U64; rw [wrap_u64']; omega, hT2, hB.trans hB2⟩, by simp [intOf]; omega⟩
   · go_wp2
     go_ret
     exact ⟨_, rfl, hv, hT', hB⟩
theorem t_next' (B b : Nat) (n : Int) (W w : World) (hn : I64 n) (hT : TapeOk B w b) (hW : Upd b W w) :
   Calls Try.prog 12 #[.pointer (some ⟨b, 0, none⟩), .int .i64 n] w (NextPost B b (InN n) .i64 W) :=
 (t_next B b n w hn hT).mono fun _ _ ⟨v, e, h, t, k⟩ => ⟨v, e, h, t, hW.trans k⟩
theorem t_word' (B b : Nat) (W w : World) (hT : TapeOk B w b) (hW : Upd b W w) :
   Calls Try.prog 35 #[.pointer (some ⟨b, 0, none⟩)] w (NextPost B b U64 .u64 W) :=
 (t_word B b w hT).mono fun _ _ ⟨v, e, h, t, k⟩ => ⟨v, e, h, t, hW.trans k⟩
def NewPost (W : World) (e : Ending) (w' : World) : Prop := e = .returned (.pointer (some ⟨W.heap.size, 0, none⟩)) ∧ TapeOk W.heap.size w' W.heap.size ∧ Below W.heap.size W w'
def IsList (w : World) (a : Option Addr) (len cap : Nat) : Prop :=
 len ≤ 9223372036854775807 ∧ (len = 0 ∨ ∃ xb xo : Nat, a = some ⟨xb, xo, none⟩ ∧ xb < w.heap.size ∧ len ≤ cap ∧ ∀ i, i < len → ∃ v : Int, I64 v ∧ w.cell? ⟨xb, xo + i, none⟩ = some (.int .i64 v))
theorem t_new (W : World) (a : Option Addr) (len cap : Nat) (h : IsList W a len cap) :
   Calls Try.prog 8 #[.slice a len cap] W (NewPost W) := by
 go_enter Try.func8, Try.ntmps8
 go_wp2
 go_ret
 obtain ⟨hl, hx⟩ := h
 have hb : ∀ o, Below W.heap.size W (W.alloc o) := fun o => (Below.refl _ _).alloc (Nat.le_refl _) o
 refine ⟨rfl, ⟨Nat.le_refl _, by simp, a, len, cap, 0, by simp, by simp, ?_, by omega, hl, ?_⟩, hb _⟩
 · go_simp
 · rcases hx with hx | ⟨xb, xo, e, h1, h2, hc⟩
   · exact Or.inl hx
   · refine Or.inr ⟨xb, xo, e, h1, h2, fun i hi => ?_⟩
     obtain ⟨v, hv, cv⟩ := hc i hi
     exact ⟨v, hv, ((hb _).cell (p := ⟨xb, xo + i, none⟩) h1).trans cv⟩
end
section
open Go Go.RowKit
section
open Go Go.ChangeShapes Go.WideShapes Go.ChangeAt Go.RowKit
theorem laidOut : laidOutB Try.prog = true := by kernel_rfl
theorem list_of_trod {H : Type} {enc : TypeId × Value → H} {W : World} {a : Option Addr} {len cap : Nat} {d : DataW H} {ps : List MemPlace} (h : DataW.Trod enc Try.prog W 0 (fun _ => true) true 24 (.slice a len cap) d ps) (_ : ∀ x ∈ ps, x.block < W.heap.size) : IsList W a len cap := by
 obtain ⟨fuel, hf⟩ := h
 rcases open_ints Try.underlying24 Try.underlying3 (by kernel_rfl) hf with ⟨hcs, _⟩ | ⟨x, l, c, zs, hcs, _, hl, hm, hz, _, hcell, hwz⟩
 · simp [Value.cells] at hcs
   obtain ⟨rfl, rfl, rfl⟩ := hcs
   exact ⟨by omega, Or.inl rfl⟩
 · simp [Value.cells] at hcs
   obtain ⟨rfl, rfl, rfl⟩ := hcs
   have hz : zs.length = cap := by simpa using hz
   unfold maxLen at hm
   refine ⟨by omega, ?_⟩
   by_cases h0 : len = 0
   · exact Or.inl h0
   · obtain ⟨b, off, rfl, hc'⟩ := ints_at hcell (by omega)
     refine Or.inr ⟨b, off, rfl, block_lt_of_cell (a := ⟨b, off + 0, none⟩) (hc' 0 (by omega)), hl, fun i hi => ⟨zs.getD i 0, ?_, hc' i (by omega)⟩⟩
     have hg : zs.getD i 0 = zs[i] := by simp [List.getD, show i < zs.length by omega]
     rw [hg]
     exact bounds_i64 (hwz _ (List.getElem_mem _))
end
section
open Go Go.ChangeShapes Go.WideShapes Go.ChangeAt Go.RowKit
end
end
section
open Go Go.RowKit
theorem i64_wrap (x : Int) : I64 (wrap64 x) := by unfold I64; simp only [wrap64]; omega
theorem t_int (B b : Nat) (W w : World) (hT : TapeOk B w b) (hW : Upd b W w) :
   Calls Try.prog 26 #[.pointer (some ⟨b, 0, none⟩)] w (NextPost B b I64 .i64 W) := by
 go_enter Try.func26, Try.ntmps26
 go_wp2_with (first
   | (go_at_call 12; refine (t_next' _ _ _ W _ ⟨by omega, by omega⟩ ‹_› ‹_›).mono ?_; rintro e w' ⟨u, rfl, hu, hT2, hB2⟩)
   | (go_at_call 35; refine (t_word' _ _ W _ ‹_› ‹_›).mono ?_; rintro e w' ⟨u, rfl, hu, hT2, hB2⟩))
 all_goals go_ret
 all_goals exact ⟨_, rfl, i64_wrap _, ‹_›, ‹_›⟩
end
section
open Go Go.RowKit
theorem TapeOk.store {B b g k : Nat} {w : World} (h : TapeOk B w b) (hg : b < g) (u : Value) : TapeOk B (w.setCell ⟨g, k, none⟩ u) b := h.below ((Below.refl _ _).setCell (p := ⟨g, k, none⟩) hg u)
theorem TapeOk.alloc {B b : Nat} {w : World} (h : TapeOk B w b) (o : Obj) : TapeOk B (w.alloc o) b := h.below ((Below.refl _ _).alloc h.2.1 o)
theorem TapeOk.ext {B b : Nat} {w w' : World} (h : TapeOk B w b) (k : Ext w w') : TapeOk B w' b := h.below (Below.mono k h.2.1)
theorem Upd.store {b g k : Nat} {W w : World} (h : Upd b W w) (hg : W.heap.size ≤ g) (u : Value) : Upd b W (w.setCell ⟨g, k, none⟩ u) :=
 ⟨h.1, h.2.1, h.2.2.1, by simpa [World.setCell] using h.2.2.2.1, fun i hi hn => (heap_setCell_other w ⟨g, k, none⟩ i u (by simp; omega)).trans (h.2.2.2.2 i hi hn)⟩
theorem Upd.more {b : Nat} {W w w' : World} (h : Upd b W w) (k : Ext w w') : Upd b W w' := h.trans (k.upd b)
theorem IsList.ext {w w' : World} {a : Option Addr} {len cap : Nat} (h : IsList w a len cap) (k : Ext w w') : IsList w' a len cap := by
 obtain ⟨h1, h2⟩ := h
 refine ⟨h1, ?_⟩
 rcases h2 with h2 | ⟨xb, xo, e, hb, hl, hc⟩
 · exact Or.inl h2
 · refine Or.inr ⟨xb, xo, e, Nat.lt_of_lt_of_le hb k.size, hl, fun i hi => ?_⟩
   obtain ⟨v, hv, cv⟩ := hc i hi
   exact ⟨v, hv, (k.cell (p := ⟨xb, xo + i, none⟩) hb).trans cv⟩
end
section
open Go Go.RowKit
def BoolPost (B b : Nat) (W : World) (e : Ending) (w' : World) : Prop := ∃ v : Bool, e = .returned (.bool v) ∧ TapeOk B w' b ∧ Upd b W w'
theorem t_bool (B b : Nat) (n : Int) (W w : World) (h1 : 2 ≤ n) (h2 : n ≤ 4) (hT : TapeOk B w b) (hW : Upd b W w) :
   Calls Try.prog 44 #[.pointer (some ⟨b, 0, none⟩), .int .i64 n] w (BoolPost B b W) := by
 have hn0 : ¬ (n = 0) := by omega
 have hm : (1 : Int).tmod n = 1 := by
   rw [Int.tmod_eq_emod_of_nonneg (by omega)]; exact Int.emod_eq_of_lt (by omega) (by omega)
 have hm2 : (1 : Int) % n = 1 := Int.emod_eq_of_lt (by omega) (by omega)
 have hT' := hT.below (below_drewN' (b + 1) w 1)
 go_enter Try.func44, Try.ntmps44
 go_wp2_with fail
 go_region_with (go_at_call 12; refine (t_next' B b n W _ ⟨by omega, by omega⟩ (by first | exact hT | exact (hT.below (below_drewN' (b + 1) w 1))) (by first | exact hW | exact hW.drew)).mono ?_; rintro e w' ⟨u, rfl, hu, hT2, hB2⟩)
 all_goals go_wp2_with fail
 all_goals go_ret
 all_goals exact ⟨_, rfl, hT2, hB2⟩
end
section
open Go Go.RowKit
theorem val_set (l : List Nat) (j x : Nat) (h : j < l.length) : val (l.set j x) + 18446744073709551616 ^ j * l[j] = val l + 18446744073709551616 ^ j * x := by
 induction l generalizing j with
 | nil => simp at h
 | cons y r ih =>
   cases j with
   | zero => simp [val]; omega
   | succ j =>
     have hj : j < r.length := by simpa using h
     have := ih j hj
     simp only [List.set_cons_succ, val, List.getElem_cons_succ, Nat.pow_succ]
     generalize val (r.set j x) = A at *
     generalize val r = C at *
     generalize r[j] = z at *
     generalize 18446744073709551616 ^ j = P at *
     grind
def RMul (p q os : List Nat) (i k c : Nat) : Prop := os.length = p.length + q.length + 1 ∧ W64 os ∧ c < 18446744073709551616 ∧ (∀ j, i + q.length ≤ j → os.getD j 0 = 0) ∧
 val os + 18446744073709551616 ^ (i + k) * c = val (p.take i) * val q + 18446744073709551616 ^ i * (p.getD i 0 * val (q.take k))
theorem RMul.row {p q os : List Nat} {i c : Nat} (h : RMul p q os i q.length c) (hi0 : i < p.length) : RMul p q (os.set (i + q.length) c) (i + 1) 0 0 := by
 obtain ⟨h1, h2, h3, h4, h5⟩ := h
 have hl : i + q.length < os.length := by omega
 refine ⟨by simpa using h1, w64_set h2 _ _ h3, by omega, fun j hj => ?_, ?_⟩
 · rw [List.getD_eq_getElem?_getD, List.getElem?_set_ne (by omega), ← List.getD_eq_getElem?_getD]; exact h4 j (by omega)
 · have hv := val_set os (i + q.length) c hl
   have ho : os[i + q.length] = 0 := by have := h4 (i + q.length) (by omega); simpa [List.getD, hl] using this
   rw [ho] at hv
   rw [List.take_length] at h5
   rw [val_take_succ p i hi0, List.take_zero]
   have hg : p.getD i 0 = p[i] := by simp [List.getD, hi0]
   rw [hg] at h5
   have hz : val [] = 0 := rfl
   rw [hz]
   generalize 18446744073709551616 ^ (i + q.length) = Z at *
   generalize 18446744073709551616 ^ (i + 1 + 0) = Y at *
   generalize 18446744073709551616 ^ (i + 1) = X at *
   generalize 18446744073709551616 ^ i = W at *
   generalize val (os.set (i + q.length) c) = A at *
   generalize val os = B at *
   generalize val (List.take i p) = C at *
   generalize val q = D at *
   generalize p[i] = E at *
   have e : (C + W * E) * D = C * D + W * (E * D) := by rw [Nat.add_mul, Nat.mul_assoc]
   rw [e]
   omega
theorem RMul.done {p q os : List Nat} (h : RMul p q os p.length 0 0) : val os = val p * val q := by
 obtain ⟨_, _, _, _, h5⟩ := h
 rw [List.take_length] at h5
 simpa [val] using h5
def RUp (p os : List Nat) (q r i : Nat) : Prop := os.length = p.length + q + 1 ∧ W64 os ∧ os.getD (i + q) 0 < 2 ^ r ∧ (∀ j, i + q < j → os.getD j 0 = 0) ∧ val os = 18446744073709551616 ^ q * (val (p.take i) * 2 ^ r)
theorem RUp.done {p os : List Nat} {q r : Nat} (h : RUp p os q r p.length) : val os = val p * 2 ^ (64 * q + r) := by
 obtain ⟨_, _, _, _, h5⟩ := h
 rw [List.take_length] at h5
 rw [h5, Nat.pow_add, Nat.pow_mul, show (2 : Nat) ^ 64 = 18446744073709551616 from rfl]
 generalize 18446744073709551616 ^ q = Q
 grind
def RHalf (p os : List Nat) (i : Nat) : Prop := os.length = p.length ∧ W64 os ∧ os.drop i = p.drop i ∧ 2 * val (os.take i) + p.getD 0 0 % 2 = val (p.take i) + 18446744073709551616 ^ i * (p.getD i 0 % 2)
theorem RHalf.done {p os : List Nat} (h : RHalf p os p.length) : val os = val p / 2 := by
 obtain ⟨h1, _, _, h4⟩ := h
 rw [List.take_length, List.take_of_length_le (by omega)] at h4
 have : p.getD p.length 0 = 0 := by simp [List.getD]
 rw [this] at h4
 generalize 18446744073709551616 ^ p.length = I at *
 cases p with
 | nil => cases os with
   | nil => rfl
   | cons y r => simp at h1
 | cons y r =>
   simp only [val] at *
   simp only [List.getD_cons_zero] at h4
   omega
def Apart (g : Nat) (v : Value) : Prop := ∀ g' n c, v = .slice (some ⟨g', 0, none⟩) n c → g' ≠ g
theorem Words.upd {B g : Nat} {w w' : World} {v : Value} {l : List Nat} (h : Words B w v l) (k : Upd g w w') (ha : Apart g v) : Words B w' v l := by
 refine ⟨?_, h.2⟩
 obtain ⟨h1, h2 | ⟨g', cap, cur, hv, hg, hh, r⟩⟩ := h.1
 · exact ⟨h1, Or.inl h2⟩
 · have hlt := (h.1.lt g' (by rw [hv]; rfl)).2
   exact ⟨h1, Or.inr ⟨g', cap, cur, hv, hg, by rw [k.2.2.2.2 g' hlt (ha _ _ _ hv)]; exact hh, r⟩⟩
theorem Words.apart {B g : Nat} {w : World} {v : Value} {l : List Nat} (h : Words B w v l) (hg : w.heap.size ≤ g) : Apart g v := by
 rintro g' n c rfl
 have := (h.1.lt g' rfl).2
 omega
def RDiv (p os : List Nat) (y k c : Nat) : Prop := os.length = p.length ∧ W64 os ∧ c < y ∧ val (os.drop k) * y + c = val (p.drop k)
theorem RDiv.done {p os : List Nat} {y c : Nat} (h : RDiv p os y 0 c) : val os = val p / y ∧ c = val p % y := by
 obtain ⟨_, _, h3, h4⟩ := h
 simp only [List.drop_zero] at h4
 rw [← h4]
 have e1 : (val os * y + c) / y = val os := by rw [Nat.mul_comm, Nat.mul_add_div (by omega), Nat.div_eq_of_lt h3, Nat.add_zero]
 have e2 : (val os * y + c) % y = c := by rw [Nat.mul_comm, Nat.mul_add_mod, Nat.mod_eq_of_lt h3]
 exact ⟨e1.symm, e2.symm⟩
end
section
open Go Go.RowKit
open Go Go.RowKit
def TakeRel (R D M : Nat) (os : List Nat) (g b : Nat) : Prop := b ≤ 1 ∧ R + M * b = val os + D * g ∧ R < (g + 1) * D
theorem TakeRel.done {R D M : Nat} {os : List Nat} {g : Nat} (h : TakeRel R D M os g 0) : val os = R % D ∧ g = R / D := by
 obtain ⟨_, h2, h3⟩ := h
 rw [Nat.mul_zero, Nat.add_zero] at h2
 have hlt : val os < D := by
   rw [h2, Nat.add_mul, Nat.one_mul, Nat.mul_comm] at h3; omega
 have hD : 0 < D := by omega
 rw [h2, Nat.add_comm]
 constructor
 · rw [Nat.mul_add_mod, Nat.mod_eq_of_lt hlt]
 · rw [Nat.mul_add_div hD, Nat.div_eq_of_lt hlt, Nat.add_zero]
open Go Go.RowKit
open Go Go.RowKit
end
section
open Go Go.RowKit Go.Sort
def Ret (v : Value) (w : World) (e : Ending) (w' : World) : Prop := e = .returned v ∧ Ext w w'
def RetSame (v : Value) (w : World) (e : Ending) (w' : World) : Prop := e = .returned v ∧ w = w'
theorem quiet_ret {f : FuncId} {args : Array Value} {W : World} {d : Nat} {os : Array Obj} {v : Value} (h : Calls Try.prog f args (grow (redrawn W d) os) (Ret v (grow (redrawn W d) os))) :
   Calls Try.prog f args (grow (redrawn W d) os) fun e w'' => e = .returned v ∧ ∃ p : Regrown, w'' = grow (redrawn W p.d) p.os := Calls.regrown_of h
theorem ext_regrown (W : World) (d : Nat) (os : Array Obj) : Ext W (grow (redrawn W d) os) := below_regrown W d os
end
section
open Go Go.RowKit
theorem isC_some (z : Int) (h : z.natAbs < 115792089237316195423570985008687907853269984665640564039457584007913129639936) : ∃ (s : Bool) (a b c d : Nat), IsC s a b c d z := by
 obtain ⟨a, b, c, d, _, hC⟩ := natV_isC (decide (z < 0)) z.natAbs (limbs_len_le.2 h)
 have e : (if decide (z < 0) then -(z.natAbs : Int) else (z.natAbs : Int)) = z := by
   by_cases h0 : z < 0
   · rw [decide_eq_true h0]; simp; omega
   · rw [decide_eq_false h0]; simp; omega
 rw [e] at hC
 exact ⟨_, a, b, c, d, hC⟩
end
section
open Go Go.RowKit
def sg (z : Int) : Bool := decide (z < 0)
def l0 (z : Int) : Nat := z.natAbs % 18446744073709551616
def l1 (z : Int) : Nat := z.natAbs / 18446744073709551616 % 18446744073709551616
def l2 (z : Int) : Nat := z.natAbs / 340282366920938463463374607431768211456 % 18446744073709551616
def l3 (z : Int) : Nat := z.natAbs / 6277101735386680763835789423207666416102355444464034512896 % 18446744073709551616
def F256 (z : Int) : Prop := z.natAbs < 115792089237316195423570985008687907853269984665640564039457584007913129639936
theorem isC_fix {s : Bool} {a b c d : Nat} {z : Int} (h : IsC s a b c d z) : s = sg z ∧ a = l0 z ∧ b = l1 z ∧ c = l2 z ∧ d = l3 z := by
 obtain ⟨⟨h1, h2, h3, h4, h5⟩, h6⟩ := h
 have hm : z.natAbs = mag4 a b c d := by cases s <;> simp at h5 <;> omega
 simp only [mag4, val] at hm h5
 refine ⟨?_, ?_, ?_, ?_, ?_⟩
 · cases s
   · simp at h5; unfold sg; symm; rw [decide_eq_false_iff_not]; omega
   · have := h6 rfl; simp at h5; unfold sg; symm; rw [decide_eq_true_iff]; omega
 · unfold l0; omega
 · unfold l1; omega
 · unfold l2; omega
 · unfold l3; omega
theorem isC_of {z : Int} (h : F256 z) : IsC (sg z) (l0 z) (l1 z) (l2 z) (l3 z) z := by
 obtain ⟨s, a, b, c, d, k⟩ := isC_some z h
 obtain ⟨rfl, rfl, rfl, rfl, rfl⟩ := isC_fix k
 exact k
end
section
open Go Go.RowKit
def Frac (n d : Int) : Prop := 0 < d ∧ n.natAbs < 170141183460469231731687303715884105728 ∧ d.natAbs < 170141183460469231731687303715884105728 ∧ Int.gcd n d = 1
instance (n d : Int) : Decidable (Frac n d) := by unfold Frac; infer_instance
open Go Go.RowKit
end
section
open Go Go.RowKit
def Good (s : Bool) (z : Int) : Prop := s = true → z ≠ 0
end
section
open Go Go.RowKit
instance (s : Bool) (z : Int) : Decidable (Good s z) := by unfold Good; infer_instance
def RatOk (s : Bool) (x : Int) (t : Bool) (y : Int) : Prop := Good s x ∧ Good t y ∧ Frac x y
instance (s : Bool) (x : Int) (t : Bool) (y : Int) : Decidable (RatOk s x t y) := by unfold RatOk; infer_instance
open Go Go.RowKit
end
section
open Go Go.RowKit Go.Sort
theorem F256.mk {z : Int} (h : z.natAbs < 170141183460469231731687303715884105728) : F256 z := by unfold F256; omega
theorem Frac.fn {n d : Int} (h : Frac n d) : F256 n := F256.mk h.2.1
theorem Frac.fd {n d : Int} (h : Frac n d) : F256 d := F256.mk h.2.2.1
theorem Frac.ok {n d : Int} (h : Frac n d) : decide (RatOk (sg n) n (sg d) d) = true := decide_eq_true ⟨(isC_of h.fn).2, (isC_of h.fd).2, h⟩
end
section
open Go Go.RowKit
theorem shr_cast' (u m : Nat) : (u : Int) / 2 ^ m = ((u >>> m : Nat) : Int) := by rw [Nat.shiftRight_eq_div_pow]; simp
theorem shr_le' {u q k : Nat} (hu : u < 18446744073709551616) (h : k ≤ q) : u >>> q ≤ 18446744073709551615 / 2 ^ k := by
 rw [Nat.shiftRight_eq_div_pow]
 exact Nat.le_trans (Nat.div_le_div_left (Nat.pow_le_pow_right (by omega) h) (Nat.two_pow_pos k)) (Nat.div_le_div_right (by omega))
def Tol (v : Int) : Prop := 0 ≤ v ∧ v ≤ 4611686018427387904
set_option maxHeartbeats 3200000 in
set_option maxRecDepth 100000 in
theorem t_tol (B b : Nat) (W w : World) (hT : TapeOk B w b) (hU : Upd b W w) : Calls Try.prog 16 #[.pointer (some ⟨b, 0, none⟩)] w (NextPost B b Tol .i64 W) := by
 have i8 : I64 8 := ⟨by omega, by omega⟩
 have i2 : I64 2 := ⟨by omega, by omega⟩
 have i60 : I64 60 := ⟨by omega, by omega⟩
 have i30 : I64 30 := ⟨by omega, by omega⟩
 have HT := hide hT
 have HU := hide hU
 clear hT hU
 go_enter Try.func16, Try.ntmps16
 go_upto_region 2 with (go_at_call 12; (with_reducible refine (t_next B b 8 _ i8 HT.out).mono ?_); rintro e w1 ⟨x, rfl, hx, T1, u1⟩; have T1 := hide T1; have U1 := hide (HU.out.trans u1); have x0 := hx.1; clear hx u1 HT HU)
 by_cases h0 : x = 0
 · have d0 : (x == 0) = true := by rw [beq_iff_eq]; exact h0
   clear h0 x0
   go_wp2_with fail
   go_ret
   exact ⟨0, rfl, ⟨by omega, by omega⟩, T1.out, U1.out⟩
 have d0 : (x == 0) = false := by rw [beq_eq_false_iff_ne]; exact h0
 by_cases h1 : x = 1
 · have d1 : (x == 1) = true := by rw [beq_iff_eq]; exact h1
   clear h0 x0 h1
   go_upto_region 5 with fail
   go_upto_region 9 with (go_at_call 12; (with_reducible refine (t_next B b 2 _ i2 T1.out).mono ?_); rintro e w2 ⟨y, rfl, hy, T2, u2⟩; have T2 := hide T2; have U2 := hide (U1.out.trans u2); have y0 := hy.1; have y1 := hy.2.1 (by omega); obtain ⟨z, hz⟩ : ∃ z, 4611686018427387904 - y = z := ⟨_, rfl⟩; have z1 : 0 ≤ z := (by omega); have z2 : z ≤ 4611686018427387904 := (by omega); clear hy u2 T1 U1 y0 y1)
   go_ret
   exact ⟨z, rfl, ⟨z1, z2⟩, T2.out, U2.out⟩
 have d1 : (x == 1) = false := by rw [beq_eq_false_iff_ne]; exact h1
 by_cases h2 : x = 2
 · have d2 : (x == 2) = true := by rw [beq_iff_eq]; exact h2
   clear h0 x0 h1 h2
   go_upto_region 7 with fail
   go_wp2_with (first
     | (go_at_call 35; (with_reducible refine (t_word B b _ T1.out).mono ?_); rintro e w3 ⟨u, rfl, hu, T3, u3⟩; obtain ⟨xw, rfl⟩ := Int.eq_ofNat_of_zero_le hu.1; have hxw : xw < 18446744073709551616 := (by have := hu.2; omega); have T3 := hide T3; have U3 := hide (U1.out.trans u3); clear hu u3 T1 U1)
     | (go_at_call 12; (with_reducible refine (t_next B b 60 _ i60 T3.out).mono ?_); rintro e w4 ⟨s, rfl, hs, T4, u4⟩; obtain ⟨y, rfl⟩ := Int.eq_ofNat_of_zero_le hs.1; have hy : y < 60 := (by have := hs.2.1 (by omega); omega); obtain ⟨q, hq⟩ : ∃ q : Nat, 2 + y = q := ⟨_, rfl⟩; have eq1 : (2 : Int) + (y : Int) = (q : Int) := (by omega); have hr := shr_le' (q := q) (k := 2) hxw (by omega); have e1 := shr_cast' xw q; obtain ⟨r, hrr⟩ : ∃ r, xw >>> q = r := ⟨_, rfl⟩; rw [hrr] at e1 hr; have hr2 : r ≤ 4611686018427387904 := (Nat.le_trans hr (by decide)); have hq2 : q ≤ 64 := (by omega); clear hq hr hrr; have T4 := hide T4; have U4 := hide (U3.out.trans u4); clear hs u4 T3 U3))
   go_ret
   exact ⟨r, by go_num, ⟨by omega, by omega⟩, T4.out, U4.out⟩
 have d2 : (x == 2) = false := by rw [beq_eq_false_iff_ne]; exact h2
 clear h0 x0 h1 h2
 go_wp2_with (go_at_call 12; (with_reducible refine (t_next B b 30 _ i30 T1.out).mono ?_); rintro e w2 ⟨y, rfl, hy, T2, u2⟩; have T2 := hide T2; have U2 := hide (U1.out.trans u2); have y0 := hy.1; have y1 := hy.2.1 (by omega); clear hy u2 T1 U1)
 go_ret
 exact ⟨y, rfl, ⟨y0, by omega⟩, T2.out, U2.out⟩
end
section
open Go Go.RowKit
def Blk (w : World) (g : Nat) (t : TypeId) (cs : Array Value) : Prop := w.heap[g]? = some (.cells cs t (0, 0))
section
variable {w w' : World} {g : Nat} {t : TypeId} {cs : Array Value}
theorem Blk.lt (h : Blk w g t cs) : g < w.heap.size := (Array.getElem?_eq_some_iff.1 h).1
theorem Blk.cell (h : Blk w g t cs) (i : Nat) : w.cell? ⟨g, i, none⟩ = cs[i]? := cell_of_row w g i cs t (0, 0) h
theorem Blk.frozen (h : Blk w g t cs) (i : Nat) : w.frozen? ⟨g, i, none⟩ = false := by
 unfold Blk at h
 simp [World.frozen?, h]
theorem Blk.new (w : World) (t : TypeId) (cs : Array Value) : Blk (w.alloc (.cells cs t)) w.heap.size t cs := heap_alloc_new w _
theorem Blk.drew (h : Blk w g t cs) : Blk w.drew g t cs := h
theorem Blk.drewN (h : Blk w g t cs) (n : Nat) : Blk (w.drewN n) g t cs := h
theorem Blk.alloc (h : Blk w g t cs) (o : Obj) : Blk (w.alloc o) g t cs := (Below.heap_alloc w o g h.lt).trans h
theorem Blk.set_ (h : Blk w g t cs) (i : Nat) (u : Value) : Blk (w.setCell ⟨g, i, none⟩ u) g t (cs.setIfInBounds i u) := by
 unfold Blk at h ⊢
 simp [World.setCell, Array.getElem?_modify, h]
theorem Blk.ext (h : Blk w g t cs) (e : Ext w w') : Blk w' g t cs := (e.block g h.lt).trans h
theorem Blk.setRow (h : Blk w g t cs) (ds : Array Value) : Blk (w.setRow g ds) g t ds := by
 unfold Blk at h ⊢
 simp [World.setRow, Array.getElem?_modify, h]
end
def IsB (l : List Nat) : Prop := ∀ x ∈ l, x < 256
theorem IsB.nil : IsB [] := by intro x hx; simp at hx
theorem IsB.app {l m : List Nat} (h : IsB l) (k : IsB m) : IsB (l ++ m) := by
 intro x hx; rcases List.mem_append.1 hx with a | a
 · exact h x a
 · exact k x a
theorem IsB.one {x : Nat} (h : x < 256) : IsB [x] := by intro y hy; simp at hy; omega
theorem IsB.take {l : List Nat} (h : IsB l) (k : Nat) : IsB (l.take k) := fun x hx => h x (List.mem_of_mem_take hx)
theorem IsB.drop {l : List Nat} (h : IsB l) (k : Nat) : IsB (l.drop k) := fun x hx => h x (List.mem_of_mem_drop hx)
theorem IsB.get {l : List Nat} (h : IsB l) (k : Nat) : l.getD k 0 < 256 := by
 rw [List.getD_eq_getElem?_getD]
 cases hk : l[k]? with
 | none => simp
 | some x => exact h x (List.mem_of_getElem? hk)
def u8s (l : List Nat) : List Value := l.map fun x : Nat => Value.int .u8 (x : Int)
def BytesAt (w : World) (A : Option Addr) (l : List Nat) : Prop :=
 IsB l ∧ l.length ≤ 9223372036854775807 ∧ (0 < l.length → ∃ b off, A = some ⟨b, off, none⟩ ∧ b < w.heap.size ∧ ∀ j, j < l.length → w.cell? ⟨b, off + j, none⟩ = some (.int .u8 ((l.getD j 0 : Nat) : Int)))
theorem BytesAt.nil (w : World) (A : Option Addr) : BytesAt w A [] := ⟨IsB.nil, by simp, fun h => absurd h (by simp)⟩
theorem BytesAt.ext {w w' : World} {A : Option Addr} {l : List Nat} (h : BytesAt w A l) (e : Ext w w') : BytesAt w' A l :=
 ⟨h.1, h.2.1, fun hp => by
   obtain ⟨b, off, hA, hb, hc⟩ := h.2.2 hp
   exact ⟨b, off, hA, Nat.lt_of_lt_of_le hb e.size, fun j hj => (e.cell (p := ⟨b, off + j, none⟩) hb).trans (hc j hj)⟩⟩
theorem BytesAt.keep {w w' : World} {A : Option Addr} {l : List Nat} (h : BytesAt w A l) (hs : w.heap.size ≤ w'.heap.size) (e : ∀ b off, A = some ⟨b, off, none⟩ → b < w.heap.size → w'.heap[b]? = w.heap[b]?) : BytesAt w' A l :=
 ⟨h.1, h.2.1, fun hp => by
   obtain ⟨b, off, hA, hb, hc⟩ := h.2.2 hp
   exact ⟨b, off, hA, Nat.lt_of_lt_of_le hb hs, fun j hj => (World.cell?_of_block (a := ⟨b, off + j, none⟩) (e b off hA hb)).trans (hc j hj)⟩⟩
theorem BytesAt.drop {w : World} {A : Option Addr} {l : List Nat} (h : BytesAt w A l) (k cap : Nat) (hc : l.length ≤ cap) :
   BytesAt w (if cap = k then A else A.map (·.add (k * 1))) (l.drop k) := by
 refine ⟨h.1.drop k, by rw [List.length_drop]; have := h.2.1; omega, fun hp => ?_⟩
 rw [List.length_drop] at hp
 obtain ⟨b, off, rfl, hb, hcl⟩ := h.2.2 (by omega)
 rw [if_neg (by omega)]
 refine ⟨b, off + k, by
   simp only [Option.map_some, Option.some.injEq]
   unfold Addr.add
   split
   · rename_i h0; simp only [Addr.mk.injEq, and_true, true_and]; omega
   · simp, hb, fun j hj => ?_⟩
 rw [List.length_drop] at hj
 rw [Nat.add_assoc, hcl (k + j) (by omega)]
 simp [List.getD_eq_getElem?_getD, List.getElem?_drop]
theorem BytesAt.take {w : World} {A : Option Addr} {l : List Nat} (h : BytesAt w A l) (k : Nat) : BytesAt w A (l.take k) := by
 refine ⟨h.1.take k, by rw [List.length_take]; have := h.2.1; omega, fun hp => ?_⟩
 rw [List.length_take] at hp
 obtain ⟨b, off, rfl, hb, hcl⟩ := h.2.2 (by omega)
 refine ⟨b, off, rfl, hb, fun j hj => ?_⟩
 rw [List.length_take] at hj
 rw [hcl j (by omega)]
 simp [List.getD_eq_getElem?_getD, List.getElem?_take, show j < k by omega]
theorem getD_lt {l : List Nat} {k : Nat} (h : k < l.length) : l.getD k 0 = l[k] := by simp [List.getD_eq_getElem?_getD, h]
def OwnB (B : Nat) (w : World) (v : Value) (l : List Nat) : Prop := w.ownsRow B 5 1 v l.length (u8s l) ∧ IsB l
theorem OwnB.at_ {B : Nat} {w : World} {v : Value} {l : List Nat} (h : OwnB B w v l) : ∃ A cap, v = .slice A l.length cap ∧ l.length ≤ cap ∧ cap ≤ 9223372036854775807 ∧ BytesAt w A l := by
 rcases h.1.2 with ⟨rfl, h0⟩ | ⟨g, cap, cur, rfl, hg, hh, hnc, hcp, hcs, htake⟩
 · obtain rfl : l = [] := List.length_eq_zero_iff.1 h0
   exact ⟨none, 0, rfl, Nat.le_refl _, by omega, BytesAt.nil _ _⟩
 · unfold maxLen at hcp
   refine ⟨_, cap, rfl, hnc, hcp, h.2, by omega, fun _ => ⟨g, 0, rfl, (Array.getElem?_eq_some_iff.1 hh).1, fun j hj => ?_⟩⟩
   have := h.1.cells (g := g) rfl j (Value.int .u8 ((l.getD j 0 : Nat) : Int)) (by rw [getD_lt hj]; simp [u8s, hj])
   have e : (⟨g, 0, none⟩ : Addr).add j = ⟨g, 0 + j, none⟩ := by unfold Addr.add; split <;> simp_all
   rw [e] at this
   exact this
theorem OwnB.kept {B : Nat} {w w' : World} {v : Value} {l : List Nat} (h : OwnB B w v l) {row : Option Nat} (hg : w.grownBy w' row) (hne : v.ownBlock = none ∨ v.ownBlock ≠ row) : OwnB B w' v l := ⟨h.1.kept hg hne, h.2⟩
theorem OwnB.alloc {B : Nat} {w : World} {v : Value} {l : List Nat} (h : OwnB B w v l) (o : Obj) : OwnB B (w.alloc o) v l := ⟨h.1.alloc o, h.2⟩
theorem OwnB.drew {B : Nat} {w : World} {v : Value} {l : List Nat} (h : OwnB B w v l) : OwnB B w.drew v l := h
theorem OwnB.nil_ (B : Nat) (w : World) : OwnB B w (.slice none 0 0) [] := ⟨World.ownsRow_nil _ _ _ _, IsB.nil⟩
theorem OwnB.keep {B : Nat} {w w' : World} {v : Value} {l : List Nat} (h : OwnB B w v l) (hs : w.heap.size ≤ w'.heap.size) (e : ∀ g, v.ownBlock = some g → w'.heap[g]? = w.heap[g]?) : OwnB B w' v l := by
 refine ⟨?_, h.2⟩
 obtain ⟨h1, h2 | ⟨g, cap, cur, hv, hg, hh, r⟩⟩ := h.1
 · exact ⟨h1, Or.inl h2⟩
 · exact ⟨h1, Or.inr ⟨g, cap, cur, hv, hg, by rw [e g (by rw [hv]; rfl)]; exact hh, r⟩⟩
theorem OwnB.ext {B : Nat} {w w' : World} {v : Value} {l : List Nat} (h : OwnB B w v l) (e : Ext w w') : OwnB B w' v l := by
 refine ⟨?_, h.2⟩
 obtain ⟨h1, h2 | ⟨g, cap, cur, hv, hg, hh, r⟩⟩ := h.1
 · exact ⟨h1, Or.inl h2⟩
 · exact ⟨h1, Or.inr ⟨g, cap, cur, hv, hg, by rw [e.block g (Array.getElem?_eq_some_iff.1 hh).1]; exact hh, r⟩⟩
theorem OwnB.less {B B' : Nat} {w : World} {v : Value} {l : List Nat} (h : OwnB B w v l) (hB : B' ≤ B) : OwnB B' w v l := by
 refine ⟨?_, h.2⟩
 obtain ⟨h1, h2 | ⟨g, cap, cur, hv, hg, r⟩⟩ := h.1
 · exact ⟨h1, Or.inl h2⟩
 · exact ⟨h1, Or.inr ⟨g, cap, cur, hv, by omega, r⟩⟩
def OwnRet (l : List Nat) (w : World) (e : Ending) (w' : World) : Prop := ∃ v, e = .returned v ∧ OwnB w.heap.size w' v l ∧ Ext w w'
end
section
open Go Go.RowKit
def IsQ (l : List Nat) : Prop := ∀ x ∈ l, x < 18446744073709551616
end
section
open Go Go.RowKit
theorem add_at (b off j : Nat) : (⟨b, off, none⟩ : Addr).add j = ⟨b, off + j, none⟩ := by unfold Addr.add; split <;> simp_all
theorem BytesAt.below {W w w' : World} {A : Option Addr} {l : List Nat} (h : BytesAt W A l) (e : Below W.heap.size W w) : BytesAt w A l := h.ext e
end
section
open Go Go.RowKit
theorem OwnB.upd {B b : Nat} {w w' : World} {v : Value} {l : List Nat} (h : OwnB B w v l) (u : Upd b w w') (hb : b < B) : OwnB B w' v l := by
 refine ⟨?_, h.2⟩
 obtain ⟨h1, h2 | ⟨g, cap, cur, hv, hg, hh, r⟩⟩ := h.1
 · exact ⟨h1, Or.inl h2⟩
 · exact ⟨h1, Or.inr ⟨g, cap, cur, hv, hg, by rw [u.2.2.2.2 g (Array.getElem?_eq_some_iff.1 hh).1 (by omega)]; exact hh, r⟩⟩
theorem BytesAt.upd {b : Nat} {w w' : World} {A : Option Addr} {l : List Nat} (h : BytesAt w A l) (u : Upd b w w') (hb : ∀ g off, A = some ⟨g, off, none⟩ → g ≠ b) : BytesAt w' A l :=
 h.keep u.2.2.2.1 fun g off hA hg => u.2.2.2.2 g hg (hb g off hA)
theorem grown_below {w w' : World} {row : Option Nat} (h : w.grownBy w' row) (B : Nat) (hB : B ≤ w.heap.size) (hr : ∀ k, row = some k → B ≤ k) : Below B w w' := (Below.refl B w).grown h hB hr
theorem upd_grown {W w w' : World} {row : Option Nat} {b : Nat} (u : Upd b W w) (h : w.grownBy w' row) (hr : ∀ k, row = some k → W.heap.size ≤ k) : Upd b W w' :=
 ⟨h.os.trans u.1, h.tape.trans u.2.1, h.output.trans u.2.2.1, Nat.le_trans u.2.2.2.1 h.size, fun k hk hn => (h.block k (Nat.lt_of_lt_of_le hk u.2.2.2.1) (fun e => by have := hr k e.symm; omega)).trans (u.2.2.2.2 k hk hn)⟩
end
section
open Go Go.RowKit
def w5 (C i : Nat) : Nat := C / 18446744073709551616 ^ i % 18446744073709551616
def qs (q : Nat → Nat) : Nat → List Nat
 | 0 => []
 | k + 1 => qs q k ++ [q k + 128]
end
section
open Go Go.RowKit
theorem IsQ.nil : IsQ [] := by intro x hx; simp at hx
theorem IsQ.app {l m : List Nat} (h : IsQ l) (k : IsQ m) : IsQ (l ++ m) := by
 intro x hx; rcases List.mem_append.1 hx with a | a
 · exact h x a
 · exact k x a
theorem IsQ.one {x : Nat} (h : x < 18446744073709551616) : IsQ [x] := by intro y hy; simp at hy; omega
theorem IsQ.take {l : List Nat} (h : IsQ l) (k : Nat) : IsQ (l.take k) := fun x hx => h x (List.mem_of_mem_take hx)
theorem IsQ.drop {l : List Nat} (h : IsQ l) (k : Nat) : IsQ (l.drop k) := fun x hx => h x (List.mem_of_mem_drop hx)
theorem IsQ.get {l : List Nat} (h : IsQ l) (k : Nat) : l.getD k 0 < 18446744073709551616 := by
 rw [List.getD_eq_getElem?_getD]
 cases hk : l[k]? with
 | none => simp
 | some x => exact h x (List.mem_of_getElem? hk)
def q8s (l : List Nat) : List Value := l.map fun x : Nat => Value.int .u64 (x : Int)
def WordsAt (w : World) (A : Option Addr) (l : List Nat) : Prop :=
 IsQ l ∧ l.length ≤ 9223372036854775807 ∧ (0 < l.length → ∃ b off, A = some ⟨b, off, none⟩ ∧ b < w.heap.size ∧ ∀ j, j < l.length → w.cell? ⟨b, off + j, none⟩ = some (.int .u64 ((l.getD j 0 : Nat) : Int)))
theorem WordsAt.nil (w : World) (A : Option Addr) : WordsAt w A [] := ⟨IsQ.nil, by simp, fun h => absurd h (by simp)⟩
theorem WordsAt.ext {w w' : World} {A : Option Addr} {l : List Nat} (h : WordsAt w A l) (e : Ext w w') : WordsAt w' A l :=
 ⟨h.1, h.2.1, fun hp => by
   obtain ⟨b, off, hA, hb, hc⟩ := h.2.2 hp
   exact ⟨b, off, hA, Nat.lt_of_lt_of_le hb e.size, fun j hj => (e.cell (p := ⟨b, off + j, none⟩) hb).trans (hc j hj)⟩⟩
theorem WordsAt.keep {w w' : World} {A : Option Addr} {l : List Nat} (h : WordsAt w A l) (hs : w.heap.size ≤ w'.heap.size) (e : ∀ b off, A = some ⟨b, off, none⟩ → b < w.heap.size → w'.heap[b]? = w.heap[b]?) : WordsAt w' A l :=
 ⟨h.1, h.2.1, fun hp => by
   obtain ⟨b, off, hA, hb, hc⟩ := h.2.2 hp
   exact ⟨b, off, hA, Nat.lt_of_lt_of_le hb hs, fun j hj => (World.cell?_of_block (a := ⟨b, off + j, none⟩) (e b off hA hb)).trans (hc j hj)⟩⟩
theorem WordsAt.drop {w : World} {A : Option Addr} {l : List Nat} (h : WordsAt w A l) (k cap : Nat) (hc : l.length ≤ cap) :
   WordsAt w (if cap = k then A else A.map (·.add (k * 1))) (l.drop k) := by
 refine ⟨h.1.drop k, by rw [List.length_drop]; have := h.2.1; omega, fun hp => ?_⟩
 rw [List.length_drop] at hp
 obtain ⟨b, off, rfl, hb, hcl⟩ := h.2.2 (by omega)
 rw [if_neg (by omega)]
 refine ⟨b, off + k, by
   simp only [Option.map_some, Option.some.injEq]
   unfold Addr.add
   split
   · rename_i h0; simp only [Addr.mk.injEq, and_true, true_and]; omega
   · simp, hb, fun j hj => ?_⟩
 rw [List.length_drop] at hj
 rw [Nat.add_assoc, hcl (k + j) (by omega)]
 simp [List.getD_eq_getElem?_getD, List.getElem?_drop]
theorem WordsAt.take {w : World} {A : Option Addr} {l : List Nat} (h : WordsAt w A l) (k : Nat) : WordsAt w A (l.take k) := by
 refine ⟨h.1.take k, by rw [List.length_take]; have := h.2.1; omega, fun hp => ?_⟩
 rw [List.length_take] at hp
 obtain ⟨b, off, rfl, hb, hcl⟩ := h.2.2 (by omega)
 refine ⟨b, off, rfl, hb, fun j hj => ?_⟩
 rw [List.length_take] at hj
 rw [hcl j (by omega)]
 simp [List.getD_eq_getElem?_getD, List.getElem?_take, show j < k by omega]
def OwnQ (B : Nat) (w : World) (v : Value) (l : List Nat) : Prop := w.ownsRow B 53 1 v l.length (q8s l) ∧ IsQ l
theorem OwnQ.at_ {B : Nat} {w : World} {v : Value} {l : List Nat} (h : OwnQ B w v l) : ∃ A cap, v = .slice A l.length cap ∧ l.length ≤ cap ∧ cap ≤ 9223372036854775807 ∧ WordsAt w A l := by
 rcases h.1.2 with ⟨rfl, h0⟩ | ⟨g, cap, cur, rfl, hg, hh, hnc, hcp, hcs, htake⟩
 · obtain rfl : l = [] := List.length_eq_zero_iff.1 h0
   exact ⟨none, 0, rfl, Nat.le_refl _, by omega, WordsAt.nil _ _⟩
 · unfold maxLen at hcp
   refine ⟨_, cap, rfl, hnc, hcp, h.2, by omega, fun _ => ⟨g, 0, rfl, (Array.getElem?_eq_some_iff.1 hh).1, fun j hj => ?_⟩⟩
   have := h.1.cells (g := g) rfl j (Value.int .u64 ((l.getD j 0 : Nat) : Int)) (by rw [getD_lt hj]; simp [q8s, hj])
   have e : (⟨g, 0, none⟩ : Addr).add j = ⟨g, 0 + j, none⟩ := by unfold Addr.add; split <;> simp_all
   rw [e] at this
   exact this
theorem OwnQ.kept {B : Nat} {w w' : World} {v : Value} {l : List Nat} (h : OwnQ B w v l) {row : Option Nat} (hg : w.grownBy w' row) (hne : v.ownBlock = none ∨ v.ownBlock ≠ row) : OwnQ B w' v l := ⟨h.1.kept hg hne, h.2⟩
theorem OwnQ.alloc {B : Nat} {w : World} {v : Value} {l : List Nat} (h : OwnQ B w v l) (o : Obj) : OwnQ B (w.alloc o) v l := ⟨h.1.alloc o, h.2⟩
theorem OwnQ.drew {B : Nat} {w : World} {v : Value} {l : List Nat} (h : OwnQ B w v l) : OwnQ B w.drew v l := h
theorem OwnQ.nil_ (B : Nat) (w : World) : OwnQ B w (.slice none 0 0) [] := ⟨World.ownsRow_nil _ _ _ _, IsQ.nil⟩
theorem OwnQ.keep {B : Nat} {w w' : World} {v : Value} {l : List Nat} (h : OwnQ B w v l) (hs : w.heap.size ≤ w'.heap.size) (e : ∀ g, v.ownBlock = some g → w'.heap[g]? = w.heap[g]?) : OwnQ B w' v l := by
 refine ⟨?_, h.2⟩
 obtain ⟨h1, h2 | ⟨g, cap, cur, hv, hg, hh, r⟩⟩ := h.1
 · exact ⟨h1, Or.inl h2⟩
 · exact ⟨h1, Or.inr ⟨g, cap, cur, hv, hg, by rw [e g (by rw [hv]; rfl)]; exact hh, r⟩⟩
theorem OwnQ.ext {B : Nat} {w w' : World} {v : Value} {l : List Nat} (h : OwnQ B w v l) (e : Ext w w') : OwnQ B w' v l := by
 refine ⟨?_, h.2⟩
 obtain ⟨h1, h2 | ⟨g, cap, cur, hv, hg, hh, r⟩⟩ := h.1
 · exact ⟨h1, Or.inl h2⟩
 · exact ⟨h1, Or.inr ⟨g, cap, cur, hv, hg, by rw [e.block g (Array.getElem?_eq_some_iff.1 hh).1]; exact hh, r⟩⟩
theorem OwnQ.less {B B' : Nat} {w : World} {v : Value} {l : List Nat} (h : OwnQ B w v l) (hB : B' ≤ B) : OwnQ B' w v l := by
 refine ⟨?_, h.2⟩
 obtain ⟨h1, h2 | ⟨g, cap, cur, hv, hg, r⟩⟩ := h.1
 · exact ⟨h1, Or.inl h2⟩
 · exact ⟨h1, Or.inr ⟨g, cap, cur, hv, by omega, r⟩⟩
theorem OwnQ.upd {B b : Nat} {w w' : World} {v : Value} {l : List Nat} (h : OwnQ B w v l) (u : Upd b w w') (hb : b < B) : OwnQ B w' v l := by
 refine ⟨?_, h.2⟩
 obtain ⟨h1, h2 | ⟨g, cap, cur, hv, hg, hh, r⟩⟩ := h.1
 · exact ⟨h1, Or.inl h2⟩
 · exact ⟨h1, Or.inr ⟨g, cap, cur, hv, hg, by rw [u.2.2.2.2 g (Array.getElem?_eq_some_iff.1 hh).1 (by omega)]; exact hh, r⟩⟩
theorem WordsAt.upd {b : Nat} {w w' : World} {A : Option Addr} {l : List Nat} (h : WordsAt w A l) (u : Upd b w w') (hb : ∀ g off, A = some ⟨g, off, none⟩ → g ≠ b) : WordsAt w' A l :=
 h.keep u.2.2.2.1 fun g off hA hg => u.2.2.2.2 g hg (hb g off hA)
end
section
open Go Go.RowKit
inductive Tag | q | al | st (j : Nat) | so (k : Nat)
 deriving DecidableEq
def dstOf (l : List Oper) (i : Nat) : Option Tmp := (l[i]?).bind (·.dst)
def dep (o : Oper) (k : Nat) : Bool := o.after.any fun e => Region.binds .any e && e.on == k
def anc (l : List Oper) : Nat → Nat → Nat → Bool
 | 0, _, _ => false
 | n + 1, s, i => match l[s]? with
   | none => false
   | some o => dep o i || (List.range l.length).any fun k => dep o k && anc l n k i
def ptrTo (g : Nat) : Value := .pointer (some ⟨g, 0, none⟩)
def Same (kd : List Tag) (tgt : Nat → Nat) (W w : World) : Prop := w.os = W.os ∧ w.tape = W.tape ∧ w.output = W.output ∧ W.heap.size ≤ w.heap.size ∧ ∀ k, k < W.heap.size → (∀ c, .so c ∈ kd → tgt c ≠ k) → w.heap[k]? = W.heap[k]?
def qUpon (P : Program) (w : World) (v : Value) : Result Next → Prop
 | .ok (.value u) w' => w' = w ∧ u = v
 | .ok (.enter f args) w' => w' = w ∧ Calls P f args w (fun e w'' => e = .returned v ∧ Below w.heap.size w w'')
 | _ => False
def Stores (P : Program) (ρ : Operand → Value) (o : Oper) (w : World) (g : Nat) (f : Obj) : Prop := ∃ w1, (execOp ρ o).run P w = .ok .skip w1 ∧ w1.heap[g]? = some f ∧ (∀ k, k ≠ g → w1.heap[k]? = w.heap[k]?) ∧ w1.heap.size = w.heap.size ∧ w1.os = w.os ∧ w1.tape = w.tape ∧ w1.output = w.output
def AllOps (R : Nat → Oper → Prop) : Nat → List Oper → Prop
 | i, o :: l => R i o ∧ AllOps R (i + 1) l
 | _, [] => True
theorem AllOps.get {R : Nat → Oper → Prop} : ∀ {l : List Oper} {k : Nat}, AllOps R k l → ∀ i o, l[i]? = some o → R (k + i) o
 | [], _, _, i, o, h => by simp at h
 | x :: l, k, hA, 0, o, h => by
   obtain rfl : x = o := by simpa using h
   exact hA.1
 | x :: l, k, hA, i + 1, o, h => by
   have := AllOps.get hA.2 i o (by simpa using h)
   rwa [Nat.add_assoc, Nat.add_comm 1 i] at this
section
variable {l : List Oper} {kd : List Tag} {V : List Value}
theorem put_size (a : Act) (d : Option Tmp) (v : Value) : (a.put d v).tmps.size = a.tmps.size := by cases d <;> simp [Act.put]
def OneWriter (l : List Oper) : Prop := ∀ i j t, dstOf l i = some t → dstOf l j = some t → i = j
theorem dst_lt {k : Nat} {t : Tmp} (h : dstOf l k = some t) : k < l.length := by
 unfold dstOf at h
 cases hx : l[k]? with
 | none => rw [hx] at h; simp at h
 | some o => exact (List.getElem?_eq_some_iff.1 hx).1
theorem ready_spec {listed : Array Bool} {i : Nat} (h : i ∈ Region.ready .any l.toArray listed) : ∃ o, l[i]? = some o ∧ listed.getD i true = false ∧ ∀ k, dep o k = true → listed.getD k false = true := by
 unfold Region.ready at h
 rw [List.mem_filter] at h
 obtain ⟨h1, h2⟩ := h
 simp only [Bool.and_eq_true] at h2
 obtain ⟨h2, h3⟩ := h2
 have hi : i < l.length := by simpa using h1
 refine ⟨l[i], List.getElem?_eq_getElem hi, by simpa using h2, ?_⟩
 intro k hk
 rw [List.getElem?_toArray, List.getElem?_eq_getElem hi] at h3
 simp only [Option.map_some, Option.getD_some] at h3
 unfold dep at hk
 rw [Array.any_eq_true'] at hk
 obtain ⟨e, he, hb⟩ := hk
 simp only [Bool.and_eq_true, beq_iff_eq] at hb
 have := Array.all_eq_true_iff_forall_mem.1 h3 e he
 rw [hb.1, hb.2] at this
 simpa using this
theorem kept {w w' : World} {k : Nat} {x : Obj} (h : Below w.heap.size w w') (e : w.heap[k]? = some x) : w'.heap[k]? = some x := by
 rw [h.block k (Array.getElem?_eq_some_iff.1 e).1]; exact e
theorem Same.below {tgt : Nat → Nat} {W w w' : World} (h : Same kd tgt W w) (k : Below w.heap.size w w') : Same kd tgt W w' :=
 ⟨k.os.trans h.1, k.tape.trans h.2.1, k.output.trans h.2.2.1, Nat.le_trans h.2.2.2.1 k.size, fun j hj hc => (k.block j (Nat.lt_of_lt_of_le hj h.2.2.2.1)).trans (h.2.2.2.2 j hj hc)⟩
variable {zero full : Nat → Obj} {tgt : Nat → Nat} {a0 : Act} {W : World} {S : List Nat} {G : Nat → Nat} {w : World}
theorem nodup_sub : ∀ (T S : List Nat), T.Nodup → (∀ x ∈ T, x ∈ S) → T.length ≤ S.length
 | [], _, _, _ => by simp
 | x :: T, S, hn, h => by
   obtain ⟨hx, hn'⟩ := List.nodup_cons.1 hn
   have h1 := h x (by simp)
   have h2 := nodup_sub T (S.erase x) hn' (fun y hy => (List.mem_erase_of_ne (fun e => hx (by rw [← e]; exact hy))).2 (h y (by simp [hy])))
   rw [List.length_erase_of_mem h1] at h2
   have h3 : 0 < S.length := List.length_pos_of_mem h1
   simp only [List.length_cons]
   omega
theorem nodup_snoc {i : Nat} (h : S.Nodup) (hi : i ∉ S) : (S ++ [i]).Nodup := by
 rw [List.nodup_append]
 refine ⟨h, by simp, ?_⟩
 intro a ha b hb
 simp at hb
 subst hb
 intro e; subst e; exact hi ha
theorem anc_in (hc : ∀ s ∈ S, ∀ o, l[s]? = some o → ∀ k, dep o k = true → k ∈ S) : ∀ (n s i : Nat), s ∈ S → anc l n s i = true → i ∈ S
 | 0, _, _, _, h => by simp [anc] at h
 | n + 1, s, i, hs, h => by
   unfold anc at h
   split at h
   · simp at h
   · rename_i o ho
     simp only [Bool.or_eq_true, List.any_eq_true, Bool.and_eq_true] at h
     rcases h with h | ⟨k, _, hk, h⟩
     · exact hc s hs o ho i h
     · exact anc_in hc n k i (hc s hs o ho k hk) h
theorem anc_lt {n s i : Nat} (h : anc l n s i = true) : s < l.length := by
 cases n with
 | zero => simp [anc] at h
 | succ n =>
   unfold anc at h
   split at h
   · simp at h
   · rename_i o ho
     exact (List.getElem?_eq_some_iff.1 ho).1
theorem cl_snoc {i : Nat} (hc : ∀ s ∈ S, ∀ o, l[s]? = some o → ∀ k, dep o k = true → k ∈ S) (hi : ∀ o, l[i]? = some o → ∀ k, dep o k = true → k ∈ S) : ∀ s ∈ S ++ [i], ∀ o, l[s]? = some o → ∀ k, dep o k = true → k ∈ S ++ [i] := by
 intro s hs o ho k hk
 rcases List.mem_append.1 hs with h | h
 · exact List.mem_append.2 (Or.inl (hc s h o ho k hk))
 · simp at h; subst h
   exact List.mem_append.2 (Or.inl (hi o ho k hk))
theorem below_alloc (w : World) (o : Obj) : Below w.heap.size w (w.alloc o) := (Below.refl _ _).alloc (Nat.le_refl _) o
def Filled (w w1 : World) (g : Nat) (f : Obj) : Prop := w1.heap[g]? = some f ∧ (∀ k, k ≠ g → w1.heap[k]? = w.heap[k]?) ∧ w1.heap.size = w.heap.size ∧ w1.os = w.os ∧ w1.tape = w.tape ∧ w1.output = w.output
def dstB (l : List Oper) (n : Nat) : Bool := l.all fun o => match o.dst with | some d => decide (d < n) | none => true
theorem dst_in {n : Nat} (h : dstB l n = true) {i : Nat} {t : Tmp} (ht : dstOf l i = some t) : t < n := by
 unfold dstB at h
 rw [List.all_eq_true] at h
 have hi := dst_lt ht
 have := h l[i] (List.getElem_mem hi)
 have hd : l[i].dst = some t := by unfold dstOf at ht; rw [List.getElem?_eq_getElem hi] at ht; simpa using ht
 rw [hd] at this
 simpa using this
variable {P : Program} {Q : Exit → Act → World → Prop} {C : World → Prop}
def slotV (t : Tag) (v : Value) (g : Nat) : Value := match t with | .q => v | .al => ptrTo g | _ => undef
def putAll : List Oper → List Tag → List Value → (Nat → Nat) → Nat → Act → Act
 | o :: l, t :: kd, v :: V, G, i, a => putAll l kd V G (i + 1) (a.put o.dst (slotV t v (G i)))
 | _, _, _, _, _, a => a
theorem Same.block {W w : World} (h : Same kd tgt W w) {g : Nat} {x : Obj} (hx : W.heap[g]? = some x) (hc : ∀ c, Tag.so c ∈ kd → tgt c ≠ g) : w.heap[g]? = some x := by
 rw [h.2.2.2.2 g (Array.getElem?_eq_some_iff.1 hx).1 hc]; exact hx
theorem Same.ext {W0 W w : World} (h : Same kd tgt W w) (k : Below W0.heap.size W0 W) (hc : ∀ c, Tag.so c ∈ kd → W0.heap.size ≤ tgt c) : Below W0.heap.size W0 w :=
 ⟨h.1.trans k.os, h.2.1.trans k.tape, h.2.2.1.trans k.output, Nat.le_trans k.size h.2.2.2.1, fun j hj => (h.2.2.2.2 j (Nat.lt_of_lt_of_le hj k.size) (fun c hc' e => by have := hc c hc'; omega)).trans (k.block j hj)⟩
end
end
section
open Go Go.RowKit
theorem run_storeOp {ρ : Operand → Value} {o : Oper} {T : TypeId} {p x : Operand} {w w1 : World} (h : o.op = .store T p x) (hr : (Instr.storeAt T (ρ p) (ρ x)).run Try.prog w = .ok () w1) : (execOp ρ o).run Try.prog w = .ok .skip w1 := by
 unfold execOp; rw [h]
 show Sem.run Try.prog (do Instr.storeAt T (ρ p) (ρ x); pure Next.skip) w = _
 rw [Sem.run_bind, hr]
 rfl
theorem store_row {ρ : Operand → Value} {o : Oper} {T : TypeId} {p x : Operand} {w : World} {g : Nat} {cs ds : Array Value} (hop : o.op = .store T p x) (hp : ρ p = ptrTo g) (hx : ρ x = .agg ds) (hz : w.heap[g]? = some (.cells cs T (0, 0))) (hi : (Try.prog.info? T).map (·.size) = some cs.size) (hs : ds.size = cs.size) (h1 : ds.all (·.oneCell') = true) :
   Stores Try.prog ρ o w g (.cells ds T (0, 0)) := by
 refine ⟨w.setRow g ds, ?_, Blk.setRow (show Blk w g T cs from hz) ds, fun k hk => setRow_other w g k ds (by omega), by simp [World.setRow], rfl, rfl, rfl⟩
 refine run_storeOp hop ?_
 rw [hp, hx]
 unfold Instr.storeAt ptrTo
 simp only [Instr.sureAddr, Sem.run_bind, Sem.run_pure, Result.andThen_ok]
 exact run_storeVar_row w g _ _ _ _ hz (by rw [hi, hs]) (by rw [hs]) h1
end
section
open Go Go.RowKit
theorem shr_cast (u m : Nat) : (u : Int) / 2 ^ m = ((u >>> m : Nat) : Int) := by rw [Nat.shiftRight_eq_div_pow]; simp
attribute [local go_sem] qUpon putAll slotV
def PkPost (o : Option (List Nat)) (W : World) (e : Ending) (w' : World) : Prop := ∃ v, e = .returned (.tuple #[v, .bool o.isSome]) ∧ OwnB W.heap.size w' v (o.getD []) ∧ Ext W w'
def UpPost (o : Option (List Nat)) (W : World) (e : Ending) (w' : World) : Prop := ∃ v, e = .returned (.tuple #[v, .bool o.isSome]) ∧ OwnQ W.heap.size w' v (o.getD []) ∧ Ext W w'
def part (L : List Nat) (m k : Nat) : List Nat := L.take k ++ List.replicate (m - k) 0
end
section
def b1 (v : Nat) : BitVec 32 := BitVec.ofNat 32 (v % 2)
end
section
open Go Go.RowKit
def OwnL (l : List Nat) (n : Nat) (w : World) (e : Ending) (w' : World) : Prop := ∃ A cap, e = .returned (.slice A n cap) ∧ l.length = n ∧ n ≤ cap ∧ cap ≤ 9223372036854775807 ∧ OwnB w.heap.size w' (.slice A n cap) l ∧ BytesAt w' A l ∧ Ext w w'
theorem OwnRet.len {l : List Nat} {n : Nat} {w : World} {e : Ending} {w' : World} (hn : l.length = n) (h : OwnRet l w e w') : OwnL l n w e w' := by
 subst hn
 obtain ⟨v, rfl, hO, hE⟩ := h
 obtain ⟨A, cap, rfl, h1, h2, hb⟩ := hO.at_
 exact ⟨A, cap, rfl, rfl, h1, h2, hO, hb, hE⟩
attribute [local go_sem] qUpon putAll slotV
end
section
open Go Go.RowKit
def EncRet (x : List Nat) (n : Nat) (W : World) (e : Ending) (w' : World) : Prop := ∃ v, e = .returned (.tuple #[v, .int .i64 (n : Int)]) ∧ OwnB W.heap.size w' v x ∧ Ext W w'
def NumRet (r : List Nat × Int × Int) (W : World) (e : Ending) (w' : World) : Prop := ∃ v, e = .returned (.tuple #[v, .int .i64 r.2.1, .int .i64 r.2.2]) ∧ OwnQ W.heap.size w' v r.1 ∧ Ext W w'
theorem NumRet.parts {r : List Nat × Int × Int} {W : World} {e : Ending} {w' : World} (h : NumRet r W e w') : ∃ A cap, e = .returned (.tuple #[.slice A r.1.length cap, .int .i64 r.2.1, .int .i64 r.2.2]) ∧ r.1.length ≤ cap ∧ cap ≤ 9223372036854775807 ∧ OwnQ W.heap.size w' (.slice A r.1.length cap) r.1 ∧ WordsAt w' A r.1 ∧ Ext W w' := by
 obtain ⟨v, rfl, hO, hE⟩ := h
 obtain ⟨A, cap, rfl, h1, h2, h3⟩ := hO.at_
 exact ⟨A, cap, rfl, h1, h2, hO, h3, hE⟩
theorem EncRet.parts {x : List Nat} {n : Nat} {W : World} {e : Ending} {w' : World} (h : EncRet x n W e w') : ∃ A cap, e = .returned (.tuple #[.slice A x.length cap, .int .i64 (n : Int)]) ∧ x.length ≤ cap ∧ cap ≤ 9223372036854775807 ∧ OwnB W.heap.size w' (.slice A x.length cap) x ∧ BytesAt w' A x ∧ Ext W w' := by
 obtain ⟨v, rfl, hO, hE⟩ := h
 obtain ⟨A, cap, rfl, h1, h2, h3⟩ := hO.at_
 exact ⟨A, cap, rfl, h1, h2, hO, h3, hE⟩
end
section
open Go Go.RowKit
theorem PkPost.parts {o : Option (List Nat)} {W : World} {e : Ending} {w' : World} (h : PkPost o W e w') : ∃ A cap, e = .returned (.tuple #[.slice A (o.getD []).length cap, .bool o.isSome]) ∧ (o.getD []).length ≤ cap ∧ cap ≤ 9223372036854775807 ∧ OwnB W.heap.size w' (.slice A (o.getD []).length cap) (o.getD []) ∧ BytesAt w' A (o.getD []) ∧ Ext W w' := by
 obtain ⟨v, rfl, hO, hE⟩ := h
 obtain ⟨A, cap, rfl, h1, h2, h3⟩ := hO.at_
 exact ⟨A, cap, rfl, h1, h2, hO, h3, hE⟩
theorem UpPost.parts {o : Option (List Nat)} {W : World} {e : Ending} {w' : World} (h : UpPost o W e w') : ∃ A cap, e = .returned (.tuple #[.slice A (o.getD []).length cap, .bool o.isSome]) ∧ (o.getD []).length ≤ cap ∧ cap ≤ 9223372036854775807 ∧ OwnQ W.heap.size w' (.slice A (o.getD []).length cap) (o.getD []) ∧ WordsAt w' A (o.getD []) ∧ Ext W w' := by
 obtain ⟨v, rfl, hO, hE⟩ := h
 obtain ⟨A, cap, rfl, h1, h2, h3⟩ := hO.at_
 exact ⟨A, cap, rfl, h1, h2, hO, h3, hE⟩
structure Bs (W : World) (B : Nat) (A : Option Addr) (n cap : Nat) (m : List Nat) (w : World) : Prop where
 e : Ext W w
 t : TapeOk W.heap.size w W.heap.size
 o : OwnQ B w (.slice A n cap) m
 gb : W.heap.size < B
section
variable {W : World} {B : Nat} {A : Option Addr} {n cap : Nat} {m : List Nat} {w w' : World}
theorem Bs.ext (s : Bs W B A n cap m w) (k : Ext w w') : Bs W B A n cap m w' := ⟨s.e.trans k, s.t.ext k, s.o.ext k, s.gb⟩
theorem Bs.upd (s : Bs W B A n cap m w) (u : Upd W.heap.size w w') (t : TapeOk W.heap.size w' W.heap.size) : Bs W B A n cap m w' := ⟨Upd.ext u s.e (Nat.le_refl _), t, s.o.upd u s.gb, s.gb⟩
end
end
section
open Go Go.RowKit
def IsT (l : List Int) : Prop := ∀ x ∈ l, I64 x
theorem getDT {l : List Int} {k : Nat} (h : k < l.length) : l.getD k 0 = l[k] := by simp [List.getD_eq_getElem?_getD, h]
theorem takeT_succ {l : List Int} {k : Nat} (h : k < l.length) : l.take (k + 1) = l.take k ++ [l.getD k 0] := by
 rw [getDT h, List.take_succ_eq_append_getElem h]
theorem IsT.nil : IsT [] := by intro x hx; simp at hx
theorem IsT.app {l m : List Int} (h : IsT l) (k : IsT m) : IsT (l ++ m) := by
 intro x hx; rcases List.mem_append.1 hx with a | a
 · exact h x a
 · exact k x a
theorem IsT.one {x : Int} (h : I64 x) : IsT [x] := by intro y hy; simp at hy; subst hy; exact h
theorem IsT.take {l : List Int} (h : IsT l) (k : Nat) : IsT (l.take k) := fun x hx => h x (List.mem_of_mem_take hx)
theorem IsT.drop {l : List Int} (h : IsT l) (k : Nat) : IsT (l.drop k) := fun x hx => h x (List.mem_of_mem_drop hx)
theorem IsT.get {l : List Int} (h : IsT l) (k : Nat) : I64 (l.getD k 0) := by
 rw [List.getD_eq_getElem?_getD]
 cases hk : l[k]? with
 | none => exact ⟨by simp, by simp⟩
 | some x => exact h x (List.mem_of_getElem? hk)
def t8s (l : List Int) : List Value := l.map fun x : Int => Value.int .i64 x
theorem t8s_len (l : List Int) : (t8s l).length = l.length := by simp [t8s]
theorem t8s_one (l : List Int) : ∀ u ∈ t8s l, u.oneCell' = true := by
 intro u hu; simp only [t8s, List.mem_map] at hu; obtain ⟨x, _, rfl⟩ := hu; rfl
theorem t8s_app (l m : List Int) : t8s (l ++ m) = t8s l ++ t8s m := by simp [t8s]
def TimesAt (w : World) (A : Option Addr) (l : List Int) : Prop :=
 IsT l ∧ l.length ≤ 9223372036854775807 ∧ (0 < l.length → ∃ b off, A = some ⟨b, off, none⟩ ∧ b < w.heap.size ∧ ∀ j, j < l.length → w.cell? ⟨b, off + j, none⟩ = some (.int .i64 (l.getD j 0)))
theorem TimesAt.nil (w : World) (A : Option Addr) : TimesAt w A [] := ⟨IsT.nil, by simp, fun h => absurd h (by simp)⟩
theorem TimesAt.ext {w w' : World} {A : Option Addr} {l : List Int} (h : TimesAt w A l) (e : Ext w w') : TimesAt w' A l :=
 ⟨h.1, h.2.1, fun hp => by
   obtain ⟨b, off, hA, hb, hc⟩ := h.2.2 hp
   exact ⟨b, off, hA, Nat.lt_of_lt_of_le hb e.size, fun j hj => (e.cell (p := ⟨b, off + j, none⟩) hb).trans (hc j hj)⟩⟩
theorem TimesAt.keep {w w' : World} {A : Option Addr} {l : List Int} (h : TimesAt w A l) (hs : w.heap.size ≤ w'.heap.size) (e : ∀ b off, A = some ⟨b, off, none⟩ → b < w.heap.size → w'.heap[b]? = w.heap[b]?) : TimesAt w' A l :=
 ⟨h.1, h.2.1, fun hp => by
   obtain ⟨b, off, hA, hb, hc⟩ := h.2.2 hp
   exact ⟨b, off, hA, Nat.lt_of_lt_of_le hb hs, fun j hj => (World.cell?_of_block (a := ⟨b, off + j, none⟩) (e b off hA hb)).trans (hc j hj)⟩⟩
theorem TimesAt.drop {w : World} {A : Option Addr} {l : List Int} (h : TimesAt w A l) (k cap : Nat) (hc : l.length ≤ cap) :
   TimesAt w (if cap = k then A else A.map (·.add (k * 1))) (l.drop k) := by
 refine ⟨h.1.drop k, by rw [List.length_drop]; have := h.2.1; omega, fun hp => ?_⟩
 rw [List.length_drop] at hp
 obtain ⟨b, off, rfl, hb, hcl⟩ := h.2.2 (by omega)
 rw [if_neg (by omega)]
 refine ⟨b, off + k, by
   simp only [Option.map_some, Option.some.injEq]
   unfold Addr.add
   split
   · rename_i h0; simp only [Addr.mk.injEq, and_true, true_and]; omega
   · simp, hb, fun j hj => ?_⟩
 rw [List.length_drop] at hj
 rw [Nat.add_assoc, hcl (k + j) (by omega)]
 simp [List.getD_eq_getElem?_getD, List.getElem?_drop]
theorem TimesAt.take {w : World} {A : Option Addr} {l : List Int} (h : TimesAt w A l) (k : Nat) : TimesAt w A (l.take k) := by
 refine ⟨h.1.take k, by rw [List.length_take]; have := h.2.1; omega, fun hp => ?_⟩
 rw [List.length_take] at hp
 obtain ⟨b, off, rfl, hb, hcl⟩ := h.2.2 (by omega)
 refine ⟨b, off, rfl, hb, fun j hj => ?_⟩
 rw [List.length_take] at hj
 rw [hcl j (by omega)]
 simp [List.getD_eq_getElem?_getD, List.getElem?_take, show j < k by omega]
theorem info_t64 : (Try.prog.info? 2).map (fun i => (i.zero, i.size, i.bytes)) = some (some (.int .i64 0), 1, 8) := by kernel_rfl
def OwnT (B : Nat) (w : World) (v : Value) (l : List Int) : Prop := w.ownsRow B 2 1 v l.length (t8s l) ∧ IsT l
theorem OwnT.at_ {B : Nat} {w : World} {v : Value} {l : List Int} (h : OwnT B w v l) : ∃ A cap, v = .slice A l.length cap ∧ l.length ≤ cap ∧ cap ≤ 9223372036854775807 ∧ TimesAt w A l := by
 rcases h.1.2 with ⟨rfl, h0⟩ | ⟨g, cap, cur, rfl, hg, hh, hnc, hcp, hcs, htake⟩
 · obtain rfl : l = [] := List.length_eq_zero_iff.1 h0
   exact ⟨none, 0, rfl, Nat.le_refl _, by omega, TimesAt.nil _ _⟩
 · unfold maxLen at hcp
   refine ⟨_, cap, rfl, hnc, hcp, h.2, by omega, fun _ => ⟨g, 0, rfl, (Array.getElem?_eq_some_iff.1 hh).1, fun j hj => ?_⟩⟩
   have := h.1.cells (g := g) rfl j (Value.int .i64 (l.getD j 0)) (by rw [getDT hj]; simp [t8s, hj])
   have e : (⟨g, 0, none⟩ : Addr).add j = ⟨g, 0 + j, none⟩ := by unfold Addr.add; split <;> simp_all
   rw [e] at this
   exact this
theorem OwnT.kept {B : Nat} {w w' : World} {v : Value} {l : List Int} (h : OwnT B w v l) {row : Option Nat} (hg : w.grownBy w' row) (hne : v.ownBlock = none ∨ v.ownBlock ≠ row) : OwnT B w' v l := ⟨h.1.kept hg hne, h.2⟩
theorem OwnT.alloc {B : Nat} {w : World} {v : Value} {l : List Int} (h : OwnT B w v l) (o : Obj) : OwnT B (w.alloc o) v l := ⟨h.1.alloc o, h.2⟩
theorem OwnT.drew {B : Nat} {w : World} {v : Value} {l : List Int} (h : OwnT B w v l) : OwnT B w.drew v l := h
theorem OwnT.nil_ (B : Nat) (w : World) : OwnT B w (.slice none 0 0) [] := ⟨World.ownsRow_nil _ _ _ _, IsT.nil⟩
theorem OwnT.keep {B : Nat} {w w' : World} {v : Value} {l : List Int} (h : OwnT B w v l) (hs : w.heap.size ≤ w'.heap.size) (e : ∀ g, v.ownBlock = some g → w'.heap[g]? = w.heap[g]?) : OwnT B w' v l := by
 refine ⟨?_, h.2⟩
 obtain ⟨h1, h2 | ⟨g, cap, cur, hv, hg, hh, r⟩⟩ := h.1
 · exact ⟨h1, Or.inl h2⟩
 · exact ⟨h1, Or.inr ⟨g, cap, cur, hv, hg, by rw [e g (by rw [hv]; rfl)]; exact hh, r⟩⟩
theorem OwnT.ext {B : Nat} {w w' : World} {v : Value} {l : List Int} (h : OwnT B w v l) (e : Ext w w') : OwnT B w' v l := by
 refine ⟨?_, h.2⟩
 obtain ⟨h1, h2 | ⟨g, cap, cur, hv, hg, hh, r⟩⟩ := h.1
 · exact ⟨h1, Or.inl h2⟩
 · exact ⟨h1, Or.inr ⟨g, cap, cur, hv, hg, by rw [e.block g (Array.getElem?_eq_some_iff.1 hh).1]; exact hh, r⟩⟩
theorem OwnT.less {B B' : Nat} {w : World} {v : Value} {l : List Int} (h : OwnT B w v l) (hB : B' ≤ B) : OwnT B' w v l := by
 refine ⟨?_, h.2⟩
 obtain ⟨h1, h2 | ⟨g, cap, cur, hv, hg, r⟩⟩ := h.1
 · exact ⟨h1, Or.inl h2⟩
 · exact ⟨h1, Or.inr ⟨g, cap, cur, hv, by omega, r⟩⟩
theorem run_appendT (B : Nat) (w : World) (ty : TypeId) (v : Value) (l0 l : List Int) (hown : OwnT B w v l0) (A : Option Addr) (m c : Nat) (hb : TimesAt w A l) (hm : l.length = m) (hlen : l0.length + l.length ≤ 17592186044416) (hbase : B ≤ w.heap.size) :
   ∃ v' w', (Builtin.append_ #[36, 36] ty #[v, .slice A m c]).run Try.prog w = .ok v' w' ∧ OwnT B w' v' (l0 ++ l) ∧ w.grownBy w' v.ownBlock ∧ (v'.ownBlock = v.ownBlock ∨ v'.ownBlock = some w.heap.size) := by
 subst hm
 obtain ⟨i0, hi0, hz0, hz1, hz2⟩ := info_parts info_t64
 have h63 : l0.length + l.length ≤ maxLen := by unfold maxLen; omega
 rcases A with _ | ad
 · have h0 : l = [] := by
     rcases Nat.eq_zero_or_pos l.length with h | h
     · exact List.length_eq_zero_iff.1 h
     · obtain ⟨b, off, h', _⟩ := hb.2.2 h
       cases h'
   subst h0
   refine ⟨v, w, ?_, by rw [List.append_nil]; exact hown, World.grownBy.refl w _, .inl rfl⟩
   rcases hown.1.2 with ⟨rfl, _⟩ | ⟨g, cap, cur, rfl, _, _, hnc, _⟩
   · simp [Builtin.append_, run_underlying Try.underlying36, sizeOf, typeInfo, hi0, Builtin.lenOf, Builtin.firstCells]
   · simp [Builtin.append_, run_underlying Try.underlying36, sizeOf, typeInfo, hi0, Builtin.lenOf, Builtin.firstCells, hnc, storeCells]
 · have hcells : ∀ j u, (t8s l)[j]? = some u → w.cell? (ad.add j) = some u := by
     intro j u hu
     have hj : j < l.length := by
       rcases Nat.lt_or_ge j (t8s l).length with h | h
       · rwa [t8s_len] at h
       · rw [List.getElem?_eq_none h] at hu; cases hu
     obtain ⟨b, off, h', _, hc⟩ := hb.2.2 (by omega)
     obtain rfl : ad = ⟨b, off, none⟩ := Option.some.inj h'
     rw [add_at, hc j hj, ← hu, getDT hj]
     simp [t8s, hj]
   obtain ⟨v', w', hrun, h2, h3, _, h5⟩ := run_append_own_at (P := Try.prog) w B 36 ty 2 i0 _ 1 8 Try.underlying36 hi0 hz0 hz1 hz2 rfl (by omega) v l0.length (t8s l0) hown.1 ad l.length c (t8s l) (by rw [t8s_len]; omega) hcells (t8s_one l) h63 (by omega) hbase
   refine ⟨v', w', hrun, ⟨?_, hown.2.app hb.1⟩, h3, h5⟩
   rw [t8s_app, List.length_append]
   exact h2
theorem wl_appendT {ops : Array Oper} {rest : List Oper} {o : Oper} {a : Act} {Q : Exit → Act → World → Prop} {w : World} (hgd : o.guard = none) (s x : Operand)
   (ho : o.op = .call { callee := .builtin .append, args := #[s, x], argTypes := #[36, 36] })
   (B : Nat) (v : Value) (l0 l : List Int) (hs : a.eval s = v) (hown : OwnT B w v l0) (A : Option Addr) (m c : Nat) (hx : a.eval x = .slice A m c) (hb : TimesAt w A l) (hm : l.length = m) (hlen : l0.length + l.length ≤ 17592186044416) (hbase : B ≤ w.heap.size)
   (h : ∀ v' w', OwnT B w' v' (l0 ++ l) → w.grownBy w' v.ownBlock → (v'.ownBlock = v.ownBlock ∨ v'.ownBlock = some w.heap.size) → wpList Try.prog ops Q rest (a.put o.dst v') w') : wpList Try.prog ops Q (o :: rest) a w :=
 wpList_plain hgd fun _ hK => by
   obtain ⟨v', w', hrun, h2, h3, h4⟩ := run_appendT B w o.type v l0 l hown A m c hb hm hlen hbase
   unfold Oper.wp execOp
   simp only [ho, resolve, invoke, builtin, Sem.run_bind, Sem.run_pure, Result.andThen_ok, List.map_toArray, List.map_cons, List.map_nil, hs, hx, hrun]
   exact hK _ _ (h v' w' h2 h3 h4)
theorem one_atT (w : World) (x : Int) (hx : I64 x) (u : Value) (hu : u = .int .i64 x) : TimesAt (w.alloc (.cells #[u] 2)) (some ⟨w.heap.size, 0, none⟩) [x] := by
 subst hu
 refine ⟨IsT.one hx, by simp, fun _ => ⟨w.heap.size, 0, rfl, by simp, fun j hj => ?_⟩⟩
 obtain rfl : j = 0 := by simpa using hj
 rw [World.cell?_alloc_at _ _ _ _ rfl]; rfl
theorem new_atT (w : World) (l : List Int) (hl : IsT l) (hm : l.length ≤ 9223372036854775807) (cs : Array Value) (hc : cs = (t8s l).toArray) : TimesAt (w.alloc (.cells cs 2)) (some ⟨w.heap.size, 0, none⟩) l := by
 subst hc
 refine ⟨hl, hm, fun _ => ⟨w.heap.size, 0, rfl, by simp, fun j hj => ?_⟩⟩
 rw [Nat.zero_add, cell_of_row _ w.heap.size j _ _ _ (heap_alloc_new w _), getDT hj]
 simp [t8s, hj]
theorem below_grownT {W w w' : World} {v : Value} {l : List Int} {B : Nat} (h : Below W.heap.size W w) (hB : W.heap.size ≤ B) (hown : OwnT B w v l) (hg : w.grownBy w' v.ownBlock) : Below W.heap.size W w' :=
 h.grown hg h.size (fun k hk => by
   obtain ⟨h1, h2⟩ := hown.1.lt k hk
   omega)
theorem OwnT.upd {B b : Nat} {w w' : World} {v : Value} {l : List Int} (h : OwnT B w v l) (u : Upd b w w') (hb : b < B) : OwnT B w' v l := by
 refine ⟨?_, h.2⟩
 obtain ⟨h1, h2 | ⟨g, cap, cur, hv, hg, hh, r⟩⟩ := h.1
 · exact ⟨h1, Or.inl h2⟩
 · exact ⟨h1, Or.inr ⟨g, cap, cur, hv, hg, by rw [u.2.2.2.2 g (Array.getElem?_eq_some_iff.1 hh).1 (by omega)]; exact hh, r⟩⟩
theorem TimesAt.upd {b : Nat} {w w' : World} {A : Option Addr} {l : List Int} (h : TimesAt w A l) (u : Upd b w w') (hb : ∀ g off, A = some ⟨g, off, none⟩ → g ≠ b) : TimesAt w' A l :=
 h.keep u.2.2.2.1 fun g off hA hg => u.2.2.2.2 g hg (hb g off hA)
theorem idxT (b off N cap j : Nat) (h : j < N) (w : World) : (Instr.indexAt 36 (.slice (some ⟨b, off, none⟩) N cap) (.int .i64 (j : Int))).run Try.prog w = .ok (.pointer (some ⟨b, off + j, none⟩)) w := by
 have hz := Try.sizeOf2
 have he : Try.prog.elem 36 = 2 := by kernel_rfl
 have hr := run_indexAt_slice (P := Try.prog) (w := w) 36 ⟨b, off, none⟩ N cap .i64 (j : Int) (by kernel_rfl)
 rw [hr, if_pos ⟨by omega, by omega⟩, he, hz]
 simp [Result.andThen, add_at]
theorem own_times {w : World} {A : Option Addr} {c cap B : Nat} {l : List Int} (h : OwnT B w (.slice A c cap) l) : TimesAt w A l := by
 obtain ⟨A', cap', he, _, _, hw⟩ := h.at_
 cases he
 exact hw
def incB (l : List Int) : Bool := decide (∀ i, i < l.length - 1 → l.getD i 0 < l.getD (i + 1) 0)
theorem incB_iff {l : List Int} : incB l = true ↔ ∀ i, i + 1 < l.length → l.getD i 0 < l.getD (i + 1) 0 := by
 unfold incB
 rw [decide_eq_true_iff]
 exact ⟨fun h i hi => h i (by omega), fun h i hi => h i (by omega)⟩
theorem getD_appL {l : List Int} (m : List Int) {i : Nat} (h : i < l.length) : (l ++ m).getD i 0 = l.getD i 0 := by
 simp only [List.getD_eq_getElem?_getD, List.getElem?_append_left h]
theorem getD_end (l : List Int) (x : Int) : (l ++ [x]).getD l.length 0 = x := by simp [List.getD_eq_getElem?_getD]
theorem incB_snoc {l : List Int} {i : Nat} (h : incB l = true) (hl : l.length = i + 1) {x : Int} (hx : l.getD i 0 < x) : incB (l ++ [x]) = true := by
 rw [incB_iff] at h ⊢
 intro j hj
 rw [List.length_append, List.length_singleton] at hj
 rw [getD_appL [x] (by omega)]
 by_cases hji : j = i
 · subst hji
   have := getD_end l x
   rw [hl] at this
   rw [this]; exact hx
 · rw [getD_appL [x] (by omega)]
   exact h j (by omega)
theorem rb1T {k : IntKind} {a a' : Int} (h1 : a = a') : Ending.returned (Value.int k a) = .returned (.int k a') := by rw [h1]
theorem dst_mod {a b : Int} (ha : I64 a) (hb : I64 b) (h : b ≤ a) : IntKind.u64.wrap (IntKind.u64.wrap a - IntKind.u64.wrap b) = (((a - b).natAbs : Nat) : Int) := by
 unfold I64 at ha hb
 have w : ∀ n : Int, IntKind.u64.wrap n = n % 18446744073709551616 := fun n => by simp [IntKind.wrap, IntKind.bits, IntKind.signed]
 rw [w, w, w]; omega
theorem p_diff (a b : Int) (w : World) (ha : I64 a) (hb : I64 b) (h : b ≤ a) : Calls Try.prog 50 #[.int .i64 a, .int .i64 b] w (RetSame (.int .u64 ((a - b).natAbs : Nat)) w) := by
 have e := hide (dst_mod ha hb h)
 obtain ⟨a1, a2⟩ := ha
 obtain ⟨b1, b2⟩ := hb
 go_enter Try.func50, Try.ntmps50
 go_wp2
 all_goals (first | go_ret | (exfalso; simp_all; done))
 all_goals exact ⟨rb1T e.out, rfl⟩
theorem p_dist (a b : Int) (w : World) (ha : I64 a) (hb : I64 b) : Calls Try.prog 49 #[.int .i64 a, .int .i64 b] w (RetSame (.int .u64 ((a - b).natAbs : Nat)) w) := by
 by_cases h : a < b
 · have K := hide (fun w => p_diff b a w hb ha (by omega))
   have hd : decide (a < b) = true := decide_eq_true h
   rw [show (b - a).natAbs = (a - b).natAbs by omega] at K
   clear ha hb
   go_enter Try.func49, Try.ntmps49
   go_wp2_with (go_at_call 50; (with_reducible refine (K.out _).mono ?_); rintro e w3 ⟨rfl, rfl⟩)
   go_ret
   exact ⟨rfl, rfl⟩
 · have K := hide (fun w => p_diff a b w ha hb (by omega))
   have hd : decide (a < b) = false := decide_eq_false h
   clear ha hb
   go_enter Try.func49, Try.ntmps49
   go_wp2_with (go_at_call 50; (with_reducible refine (K.out _).mono ?_); rintro e w3 ⟨rfl, rfl⟩)
   go_ret
   exact ⟨rfl, rfl⟩
theorem r_dist (a b : Int) (w : World) (ha : I64 a) (hb : I64 b) : Calls Try.prog 24 #[.int .i64 a, .int .i64 b] w (RetSame (.int .u64 ((a - b).natAbs : Nat)) w) := by
 by_cases h : a < b
 · have e := hide (dst_mod hb ha (by omega))
   rw [show (b - a).natAbs = (a - b).natAbs by omega] at e
   obtain ⟨a1, a2⟩ := ha
   obtain ⟨b1, b2⟩ := hb
   have hd : decide (a < b) = true := decide_eq_true h
   go_enter Try.func24, Try.ntmps24
   go_wp2_with fail
   go_ret
   exact ⟨rb1T e.out, rfl⟩
 · have e := hide (dst_mod ha hb (by omega))
   obtain ⟨a1, a2⟩ := ha
   obtain ⟨b1, b2⟩ := hb
   have hd : decide (a < b) = false := decide_eq_false h
   go_enter Try.func24, Try.ntmps24
   go_wp2_with fail
   go_ret
   exact ⟨rb1T e.out, rfl⟩
theorem r_apply (a : Int) (d : Nat) (w : World) (ha : I64 a) (hd : a + (d : Int) ≤ 9223372036854775807) (hd2 : d < 18446744073709551616) : Calls Try.prog 38 #[.int .i64 a, .int .u64 (d : Int)] w (RetSame (.int .i64 (a + (d : Int))) w) := by
 obtain ⟨a1, a2⟩ := ha
 have e : wrap64 (IntKind.u64.wrap (IntKind.u64.wrap a + (d : Int))) = a + (d : Int) := by
   have w : ∀ n : Int, IntKind.u64.wrap n = n % 18446744073709551616 := fun n => by simp [IntKind.wrap, IntKind.bits, IntKind.signed]
   rw [w, w]; simp only [wrap64]; omega
 have e := hide e
 go_enter Try.func38, Try.ntmps38
 go_wp2
 all_goals (first | go_ret | (exfalso; simp_all; done))
 all_goals exact ⟨rb1T e.out, rfl⟩
end
section
open Go Go.RowKit
def fitB (lo hi e : Int) : Bool := decide (((lo - hi).natAbs : Int) ≤ 2 * e)
def tolB (e : Int) : Bool := decide (0 ≤ e) && decide (e ≤ 4611686018427387904)
theorem tolB_iff {e : Int} : tolB e = true ↔ Tol e := by unfold tolB Tol; simp
theorem p_mid (a b : Int) (w : World) (ha : I64 a) (hb : I64 b) : Calls Try.prog 48 #[.int .i64 a, .int .i64 b] w (RetSame (.int .i64 ((a + b) / 2)) w) := by
 have he := mid_bits a b ha.1 ha.2 hb.1 hb.2
 clear ha hb
 go_enter Try.func48, Try.ntmps48
 go_wp2
 go_ret
 exact ⟨rb1T (by first | exact he | (rw [← he]; rfl)), rfl⟩
theorem r_mid (a b : Int) (w : World) (ha : I64 a) (hb : I64 b) (h : a ≤ b) : Calls Try.prog 23 #[.int .i64 a, .int .i64 b] w (RetSame (.int .i64 ((a + b) / 2)) w) := by
 have d0 : decide (b < a) = false := decide_eq_false (by omega)
 have KD := hide (fun w => r_dist a b w ha hb)
 obtain ⟨d, hd⟩ : ∃ d, (a - b).natAbs = d := ⟨_, rfl⟩
 have hd2 : (d : Int) = b - a := by omega
 rw [hd] at KD
 have h1 : a + ((d / 2 : Nat) : Int) ≤ 9223372036854775807 := by unfold I64 at *; omega
 have h2 : d / 2 < 18446744073709551616 := by unfold I64 at *; omega
 have h3 : a + ((d / 2 : Nat) : Int) = (a + b) / 2 := by omega
 have KA := hide (fun w => r_apply a (d / 2) w ha h1 h2)
 rw [h3] at KA
 have e2 : (d : Int).tdiv 2 = ((d / 2 : Nat) : Int) := by rw [Int.tdiv_eq_ediv_of_nonneg (by omega)]; omega
 obtain ⟨q, hq⟩ : ∃ q, d / 2 = q := ⟨_, rfl⟩
 rw [hq] at KA e2 h2
 have e3 : IntKind.u64.wrap (q : Int) = (q : Int) := by rw [wrap_u64']; omega
 clear hd hd2 h1 h2 h3 hq ha hb
 go_enter Try.func23, Try.ntmps23
 go_wp2_with (first
   | (go_at_call 24; (with_reducible refine (KD.out _).mono ?_); rintro e w1 ⟨rfl, rfl⟩)
   | (go_at_call 38; (with_reducible refine (KA.out _).mono ?_); rintro e w1 ⟨rfl, rfl⟩))
 go_ret
 exact ⟨rfl, rfl⟩
theorem p_tolI (e : Int) (W : World) (v : Bool) (hv : tolB e = v) : Calls Try.prog 27 #[.int .i64 e] W (Ret (.bool v) W) := by
 subst hv
 by_cases h0 : 0 ≤ e
 · by_cases h1 : e ≤ 4611686018427387904
   · have c0 : decide (0 ≤ e) = true := decide_eq_true h0
     have c1 : decide (e ≤ 4611686018427387904) = true := decide_eq_true h1
     unfold tolB
     rw [c0, c1]
     clear h0 h1
     go_enter Try.func27, Try.ntmps27
     go_wp2_with fail
     go_ret
     exact ⟨rfl, Ext.refl _⟩
   · have c0 : decide (0 ≤ e) = true := decide_eq_true h0
     have c1 : decide (e ≤ 4611686018427387904) = false := decide_eq_false h1
     unfold tolB
     rw [c0, c1]
     clear h0 h1
     go_enter Try.func27, Try.ntmps27
     go_wp2_with fail
     go_ret
     exact ⟨rfl, Ext.refl _⟩
 · have c0 : decide (0 ≤ e) = false := decide_eq_false h0
   unfold tolB
   rw [c0, Bool.false_and]
   clear h0
   go_enter Try.func27, Try.ntmps27
   go_wp2_with fail
   go_ret
   exact ⟨rfl, Ext.refl _⟩
theorem r_tolI (e : Int) (W : World) (v : Bool) (hv : tolB e = v) : Calls Try.prog 28 #[.int .i64 e] W (Ret (.bool v) W) := by
 subst hv
 by_cases h0 : 0 ≤ e
 · by_cases h1 : e ≤ 4611686018427387904
   · have c0 : decide (0 ≤ e) = true := decide_eq_true h0
     have c1 : decide (e ≤ 4611686018427387904) = true := decide_eq_true h1
     unfold tolB
     rw [c0, c1]
     clear h0 h1
     go_enter Try.func28, Try.ntmps28
     go_wp2_with fail
     go_ret
     exact ⟨rfl, Ext.refl _⟩
   · have c0 : decide (0 ≤ e) = true := decide_eq_true h0
     have c1 : decide (e ≤ 4611686018427387904) = false := decide_eq_false h1
     unfold tolB
     rw [c0, c1]
     clear h0 h1
     go_enter Try.func28, Try.ntmps28
     go_wp2_with fail
     go_ret
     exact ⟨rfl, Ext.refl _⟩
 · have c0 : decide (0 ≤ e) = false := decide_eq_false h0
   unfold tolB
   rw [c0, Bool.false_and]
   clear h0
   go_enter Try.func28, Try.ntmps28
   go_wp2_with fail
   go_ret
   exact ⟨rfl, Ext.refl _⟩
theorem p_has (lo hi e : Int) (W : World) (hl : I64 lo) (hh : I64 hi) (he : Tol e) (v : Bool) (hv : fitB lo hi e = v) : Calls Try.prog 42 #[.int .i64 lo, .int .i64 hi, .int .i64 e] W (Ret (.bool v) W) := by
 have KD := hide (fun w => p_dist lo hi w hl hh)
 unfold fitB at hv
 obtain ⟨d, hd⟩ : ∃ d, (lo - hi).natAbs = d := ⟨_, rfl⟩
 rw [hd] at KD hv
 obtain ⟨q, rfl⟩ := Int.eq_ofNat_of_zero_le he.1
 have hq := he.2
 have ec : IntKind.u64.wrap (q : Int) = (q : Int) := by rw [wrap_u64']; omega
 have e2 : IntKind.u64.wrap (2 * (q : Int)) = 2 * (q : Int) := by rw [wrap_u64']; omega
 have d1 : decide ((d : Int) ≤ 2 * (q : Int)) = v := hv
 have e3 : IntKind.u64.wrap (2 * IntKind.u64.wrap (q : Int)) = 2 * (q : Int) := by rw [ec, e2]
 clear hv hl hh he hd
 go_enter Try.func42, Try.ntmps42
 go_wp2_with (go_at_call 49; (with_reducible refine (KD.out _).mono ?_); rintro e w1 ⟨rfl, rfl⟩)
 go_ret
 exact ⟨rfl, Ext.refl _⟩
theorem r_fits (t c lo hi : Int) (W : World) (hl : I64 lo) (hh : I64 hi) (he : Tol t) (v : Bool) (hv : fitB lo hi t = v) : Calls Try.prog 39 #[.agg #[.int .i64 t, .int .i64 c, .int .i64 lo, .int .i64 hi]] W (Ret (.bool v) W) := by
 have KD : Hid (∀ w, Calls Try.prog 24 #[.int .i64 lo, .int .i64 hi] w (Ret (.int .u64 ((lo - hi).natAbs : Nat)) w)) := hide (fun w => (r_dist lo hi w hl hh).mono fun e w' h => ⟨h.1, h.2 ▸ Ext.refl _⟩)
 unfold fitB at hv
 obtain ⟨d, hd⟩ : ∃ d, (lo - hi).natAbs = d := ⟨_, rfl⟩
 rw [hd] at KD hv
 obtain ⟨q, rfl⟩ := Int.eq_ofNat_of_zero_le he.1
 have hq := he.2
 have ec : IntKind.u64.wrap (q : Int) = (q : Int) := by rw [wrap_u64']; omega
 have e2 : IntKind.u64.wrap (2 * (q : Int)) = 2 * (q : Int) := by rw [wrap_u64']; omega
 have d1 : decide ((d : Int) ≤ 2 * (q : Int)) = v := hv
 have e3 : IntKind.u64.wrap (2 * IntKind.u64.wrap (q : Int)) = 2 * (q : Int) := by rw [ec, e2]
 clear hv hl hh he hd
 have P1 := Blk.new W 23 #[.int .i64 (q : Int), .int .i64 c, .int .i64 lo, .int .i64 hi]
 have EE := hide (ext_alloc W (.cells #[.int .i64 (q : Int), .int .i64 c, .int .i64 lo, .int .i64 hi] 23))
 obtain ⟨W1, hW1⟩ : ∃ W1, (W.alloc (.cells #[.int .i64 (q : Int), .int .i64 c, .int .i64 lo, .int .i64 hi] 23)) = W1 := ⟨_, rfl⟩
 rw [hW1] at P1 EE
 have HW := hide hW1
 clear hW1
 go_enter Try.func39, Try.ntmps39
 go_upto_region 1 with fail
 rw [HW.out]
 clear HW
 have c0 := fun d os => ((P1.ext (ext_regrown W1 d os)).cell 0).trans rfl
 have c2 := fun d os => ((P1.ext (ext_regrown W1 d os)).cell 2).trans rfl
 have c3 := fun d os => ((P1.ext (ext_regrown W1 d os)).cell 3).trans rfl
 refine wp_region_quiet_below (by kernel_rfl) (by kernel_rfl) ?_
 repeat (first | go_big_quiet_step (first | with_reducible exact quiet_ret (KD.out _)) | quiet_step (first | with_reducible exact quiet_ret (KD.out _)))
 refine wpQuiet_nil ?_
 intro _ hw'
 obtain ⟨⟨dq, osq⟩, hw''⟩ := hw'
 subst hw''
 replace EE := hide (EE.out.trans (ext_regrown W1 dq osq))
 go_wp2_with fail
 go_ret
 exact ⟨rfl, EE.out⟩
end
section
def Best (a b c d n m : Int) : Prop := 0 < m ∧ a * m ≤ n * b ∧ n * d ≤ c * m ∧ ∀ p q : Int, 0 < q → a * q ≤ p * b → p * d ≤ c * q → m ≤ q ∧ n.natAbs ≤ p.natAbs
theorem Best.zero {a b c d : Int} (h1 : a ≤ 0) (h2 : 0 ≤ c) : Best a b c d 0 1 :=
 ⟨by omega, by omega, by omega, fun p q hq _ _ => ⟨by omega, by simp⟩⟩
theorem Best.pos {a b c d n m : Int} (ha : 0 < a) (hb : 0 < b) (h : Best a b c d n m) : 0 < n := by
 have := Int.mul_pos ha h.1
 have h1 := h.2.1
 by_cases hn : n ≤ 0
 · have := Int.mul_nonpos_of_nonpos_of_nonneg hn (show 0 ≤ b by omega); omega
 · omega
theorem Best.gcd {a b c d n m : Int} (hb : 0 < b) (hd : 0 < d) (h : Best a b c d n m) : Int.gcd n m = 1 := by
 obtain ⟨h0, h1, h2, h3⟩ := h
 have hg0 : 0 < Int.gcd n m := Int.gcd_pos_of_ne_zero_right n (by omega)
 obtain ⟨x, hx⟩ := Int.gcd_dvd_left n m
 obtain ⟨y, hy⟩ := Int.gcd_dvd_right n m
 generalize hG : (Int.gcd n m : Int) = g at *
 have hg : 0 < g := by omega
 have hy0 : 0 < y := by
   by_cases hy0 : 0 < y
   · exact hy0
   · have := Int.mul_nonpos_of_nonneg_of_nonpos (show 0 ≤ g by omega) (show y ≤ 0 by omega); omega
 have k := h3 x y hy0
   (Int.le_of_mul_le_mul_left (a := g) (by
     have e1 : g * (a * y) = a * m := by rw [hy, ← Int.mul_assoc, Int.mul_comm g a, Int.mul_assoc]
     have e2 : g * (x * b) = n * b := by rw [← Int.mul_assoc, ← hx]
     omega) hg)
   (Int.le_of_mul_le_mul_left (a := g) (by
     have e1 : g * (c * y) = c * m := by rw [hy, ← Int.mul_assoc, Int.mul_comm g c, Int.mul_assoc]
     have e2 : g * (x * d) = n * d := by rw [← Int.mul_assoc, ← hx]
     omega) hg)
 by_cases hg1 : g = 1
 · omega
 · exfalso
   have : 2 * y ≤ g * y := Int.mul_le_mul_of_nonneg_right (by omega) (by omega)
   omega
end
section
open Go Go.RowKit
def aggT (d : TypeDesc) : Prop := (match d with | .struct _ | .array _ _ => true | _ => false) = true
theorem run_load_part {w : World} {g : Nat} {t : TypeId} {cs : Array Value} (h : Blk w g t cs) (ty : TypeId) (d : TypeDesc) (hu : Try.prog.underlying ty = some d) (hd : aggT d) (off n : Nat) (hi : (Try.prog.info? ty).map (·.size) = some n) (hle : off + n ≤ cs.size) (ds : Array Value) (hds : cs.extract off (off + n) = ds) :
   (Instr.loadAt ty (.pointer (some ⟨g, off, none⟩))).run Try.prog w = .ok (.agg ds) w := by
 have hsz : ds.toList.length = n := by rw [← hds]; simp; omega
 have hl : (loadCells ⟨g, off, none⟩ ds.toList.length).run Try.prog w = .ok ds.toList.toArray w :=
   run_loadCells_list (P := Try.prog) w ⟨g, off, none⟩ ds.toList (fun j v hv => by
     have hadd : (⟨g, off, none⟩ : Addr).add j = ⟨g, off + j, none⟩ := by unfold Addr.add; split <;> simp_all
     rw [hadd, h.cell]
     have hj : j < n := by have := (List.getElem?_eq_some_iff.1 hv).1; omega
     rw [Array.getElem?_toList, ← hds, Array.getElem?_extract] at hv
     rw [if_pos (by omega)] at hv
     exact hv)
 cases hq : Try.prog.info? ty with
 | none => simp [hq] at hi
 | some i =>
   have hs : i.size = n := by simpa [hq] using hi
   have hagg : (isAgg ty).run Try.prog w = .ok true w := by
     unfold isAgg
     rw [Sem.run_bind, run_underlying hu w]
     unfold aggT at hd
     cases d <;> simp_all
   rw [hsz, Array.toArray_toList] at hl
   simp [Instr.loadAt, Instr.sureAddr, loadVar, Sem.run_bind, hagg, sizeOf, typeInfo, hq, hs, hl]
theorem run_store_part {w : World} {g : Nat} {t : TypeId} {cs : Array Value} (h : Blk w g t cs) (ty : TypeId) (off n : Nat) (hi : (Try.prog.info? ty).map (·.size) = some n) (hle : off + n ≤ cs.size) (ds : Array Value) (hds : ds.size = n) (h1 : ds.all (·.oneCell') = true) (es : Array Value) (hes : (cs.toList.take off ++ ds.toList ++ cs.toList.drop (off + n)).toArray = es) :
   (Instr.storeAt ty (.pointer (some ⟨g, off, none⟩)) (.agg ds)).run Try.prog w = .ok () (w.setRow g es) := by
 have := run_storeCells_at (P := Try.prog) g off t ds.toList 0 cs w h (by simp; omega) (fun v hv => (Array.all_eq_true_iff_forall_mem.1 h1) v (by simpa using hv))
 have hl : ds.toList.length = n := by simpa using hds
 rw [hl, Nat.add_zero, hes] at this
 cases hq : Try.prog.info? ty with
 | none => simp [hq] at hi
 | some i =>
   have hs : ds.size = i.size := by simp [hq] at hi; omega
   simp [Instr.storeAt, Instr.sureAddr, storeVar, sizeOf, typeInfo, hq, Value.cells, hs, this]
theorem ext_row {W w : World} {g : Nat} (h : Ext W w) (hg : W.heap.size ≤ g) (cs : Array Value) : Ext W (w.setRow g cs) := by
 refine ⟨h.os, h.tape, h.output, ?_, fun k hk => ?_⟩
 · show W.heap.size ≤ (w.heap.modify g _).size
   rw [Array.size_modify]; exact h.size
 · show (w.heap.modify g _)[k]? = _
   rw [Array.getElem?_modify, if_neg (by omega)]; exact h.block k hk
theorem wl_load {ops : Array Oper} {rest : List Oper} {o : Oper} {a : Act} {w : World} {Q : Exit → Act → World → Prop} {ty : TypeId} {x : Operand} {u v : Value} (hgd : Region.wanted o (yielded ops a.tmps) = true) (ho : o.op = .load ty x) (hx : a.eval x = u)
   (hr : (Instr.loadAt ty u).run Try.prog w = .ok v w) (h : wpList Try.prog ops Q rest (a.put o.dst v) w) : wpList Try.prog ops Q (o :: rest) a w :=
 wpList_step fun _ hK => by
   rw [if_pos hgd]
   unfold Oper.wp execOp
   simp only [ho, hx, Sem.run_bind, hr, Result.andThen_ok, Sem.run_pure]
   exact hK _ _ h
theorem wl_store {ops : Array Oper} {rest : List Oper} {o : Oper} {a : Act} {w w' : World} {Q : Exit → Act → World → Prop} {ty : TypeId} {x y : Operand} {u v : Value} (hgd : Region.wanted o (yielded ops a.tmps) = true) (ho : o.op = .store ty x y) (hx : a.eval x = u) (hy : a.eval y = v)
   (hr : (Instr.storeAt ty u v).run Try.prog w = .ok () w') (h : wpList Try.prog ops Q rest (a.put o.dst undef) w') : wpList Try.prog ops Q (o :: rest) a w :=
 wpList_step fun _ hK => by
   rw [if_pos hgd]
   unfold Oper.wp execOp
   simp only [ho, hx, hy, Sem.run_bind, hr, Result.andThen_ok, Sem.run_pure]
   exact hK _ _ h
theorem wq_load {ops : Array Oper} {rest : List Oper} {o : Oper} {a : Act} {C : World → Prop} {Q : Act → Prop} {ty : TypeId} {x : Operand} {u v : Value} (hgd : Region.wanted o (yielded ops a.tmps) = true) (ho : o.op = .load ty x) (hx : a.eval x = u)
   (hr : ∀ w, C w → (Instr.loadAt ty u).run Try.prog w = .ok v w) (h : wpQuiet Try.prog ops C Q rest (a.put o.dst v)) : wpQuiet Try.prog ops C Q (o :: rest) a :=
 wpQuiet_step fun K hK => by
   rw [if_pos hgd]
   refine ⟨v, fun w hw => ?_, hK _ h⟩
   unfold Oper.quietAt execOp
   simp only [ho, hx, Sem.run_bind, hr w hw, Result.andThen_ok, Sem.run_pure]
   exact ⟨rfl, rfl⟩
theorem wpList_of_quiet {ops : Array Oper} {C : World → Prop} {Q : Act → Prop} {R : Exit → Act → World → Prop} (hQ : ∀ a w, C w → Q a → R .normal a w) : ∀ (l : List Oper) (a : Act) (w : World), C w → wpQuiet Try.prog ops C Q l a → wpList Try.prog ops R l a w
 | [], a, w, hC, h => hQ a w hC h
 | o :: rest, a, w, hC, h => wpList_step fun K hK => by
   unfold wpQuiet at h
   split
   · rename_i hw
     rw [if_pos hw] at h
     exact Oper.wp_of_quiet hC (fun a w' hc k => hK _ _ (wpList_of_quiet hQ rest a w' hc k)) h
   · rename_i hw
     rw [if_neg hw] at h
     exact hK _ _ (wpList_of_quiet hQ rest _ w hC h)
theorem wp_region_reads {id : Nat} {Q : Exit → Act → World → Prop} {a : Act} {w : World} {l : List Oper}
   (h : wpQuiet Try.prog l.toArray (fun w' => ∃ p : Regrown, w' = Go.Sort.grow (redrawn w p.d) p.os) (fun a' => ∀ w', (∃ p : Regrown, w' = Go.Sort.grow (redrawn w p.d) p.os) → Q .normal a' w') l a) : (Code.region id l.toArray false).wp Try.prog Q a w :=
 wp_region_lit (wpList_of_quiet (fun a w hC h => h w hC) l a w ⟨⟨w.drawn, #[]⟩, by rw [Go.Sort.grow_empty]; rfl⟩ h)
theorem alloc_size (w : World) (o : Obj) : (w.alloc o).heap.size = w.heap.size + 1 := Array.size_push ..
theorem ld_all {w : World} {g : Nat} {t ty : TypeId} {X : Array Value} {n : Nat} {d : TypeDesc} (h : Blk w g t X) (hu : Try.prog.underlying ty = some d) (hd : aggT d) (hi : (Try.prog.info? ty).map (·.size) = some n) (hn : X.size = n) : (Instr.loadAt ty (.pointer (some ⟨g, 0, none⟩))).run Try.prog w = .ok (.agg X) w :=
 run_load_part h _ _ hu hd 0 n hi (by omega) _ (by rw [Nat.zero_add, ← hn]; simp)
end
section
open Go Go.RowKit Go.Sort
theorem uMid : Try.prog.underlying 23 = some (.struct (Try.prog.fieldsOf 23)) := by kernel_rfl
theorem iMid : (Try.prog.info? 23).map (·.size) = some 4 := by kernel_rfl
def okB (t c lo hi : Int) : Bool := tolB t && if c = 0 then decide (lo = 0) && decide (hi = 0) else decide (0 < c) && decide (c ≤ 1073741824) && decide (lo ≤ hi) && fitB lo hi t && (decide (1 < c) || decide (lo = hi))
theorem okB_iff {t c lo hi : Int} : okB t c lo hi = true ↔ Tol t ∧ ((c = 0 ∧ lo = 0 ∧ hi = 0) ∨ (1 ≤ c ∧ c ≤ 1073741824 ∧ lo ≤ hi ∧ hi - lo ≤ 2 * t ∧ (c = 1 → lo = hi))) := by
 unfold okB
 rw [Bool.and_eq_true, tolB_iff]
 refine and_congr_right fun _ => ?_
 by_cases h : c = 0
 · rw [if_pos h]
   simp only [Bool.and_eq_true, decide_eq_true_eq]
   constructor
   · rintro ⟨h1, h2⟩; exact Or.inl ⟨h, h1, h2⟩
   · rintro (h1 | h1)
     · exact h1.2
     · omega
 · rw [if_neg h]
   unfold fitB
   simp only [Bool.and_eq_true, Bool.or_eq_true, decide_eq_true_eq]
   constructor
   · rintro ⟨⟨⟨⟨h1, h2⟩, h3⟩, h4⟩, h5⟩; exact Or.inr ⟨by omega, h2, h3, by omega, fun e => h5.elim (fun h => by omega) id⟩
   · rintro (h1 | ⟨h1, h2, h3, h4, h5⟩)
     · omega
     · refine ⟨⟨⟨⟨by omega, h2⟩, h3⟩, by omega⟩, ?_⟩
       by_cases e : c = 1
       · exact Or.inr (h5 e)
       · exact Or.inl (by omega)
set_option maxHeartbeats 1600000 in
theorem p_vT (t c lo hi : Int) (kt : Hid (∀ w, Calls Try.prog 27 #[.int .i64 t] w (Ret (.bool false) w))) (W : World) : Calls Try.prog 32 #[.agg #[.int .i64 t, .int .i64 c, .int .i64 lo, .int .i64 hi]] W (Ret (.bool false) W) := by
 have P1 := Blk.new W 23 #[.int .i64 t, .int .i64 c, .int .i64 lo, .int .i64 hi]
 have EE := hide (ext_alloc W (.cells #[.int .i64 t, .int .i64 c, .int .i64 lo, .int .i64 hi] 23))
 obtain ⟨W1, hW1⟩ : ∃ W1, (W.alloc (.cells #[.int .i64 t, .int .i64 c, .int .i64 lo, .int .i64 hi] 23)) = W1 := ⟨_, rfl⟩
 rw [hW1] at P1 EE
 obtain ⟨g0, hg⟩ : ∃ g, W.heap.size = g := ⟨_, rfl⟩
 rw [hg] at P1
 have HW := hide hW1
 have Hg := hide hg
 clear hW1 hg
 go_enter Try.func32, Try.ntmps32
 go_upto_region 1 with fail
 rw [HW.out, Hg.out]
 clear HW Hg
 have cq0 := fun d os => ((P1.ext (ext_regrown W1 d os)).cell 0).trans rfl
 refine wp_region_reads ?_
 repeat (first | go_big_quiet_step (first | with_reducible exact quiet_ret (kt.out _)) | quiet_step (first | with_reducible exact quiet_ret (kt.out _)))
 refine wpQuiet_nil ?_
 intro _ hw'
 obtain ⟨⟨dq, osq⟩, hw''⟩ := hw'
 subst hw''
 replace P1 := P1.ext (ext_regrown W1 dq osq)
 replace EE := hide (EE.out.trans (ext_regrown W1 dq osq))
 obtain ⟨wn, hwn⟩ : ∃ w, grow (redrawn W1 dq) osq = w := ⟨_, rfl⟩
 rw [hwn] at EE P1 ⊢
 clear hwn cq0
 obtain ⟨W1, hWW⟩ : ∃ w, w = wn := ⟨_, rfl⟩
 subst hWW
 go_wp2_with fail
 go_ret
 exact ⟨rfl, EE.out⟩
set_option maxHeartbeats 1600000 in
theorem p_v0 (t c lo hi : Int) (kt : Hid (∀ w, Calls Try.prog 27 #[.int .i64 t] w (Ret (.bool true) w))) (b : Bool) (d0 : (c == 0) = true) (d1 : (lo == 0) = false) (W : World) : Calls Try.prog 32 #[.agg #[.int .i64 t, .int .i64 c, .int .i64 lo, .int .i64 hi]] W (Ret (.bool false) W) := by
 have P1 := Blk.new W 23 #[.int .i64 t, .int .i64 c, .int .i64 lo, .int .i64 hi]
 have EE := hide (ext_alloc W (.cells #[.int .i64 t, .int .i64 c, .int .i64 lo, .int .i64 hi] 23))
 obtain ⟨W1, hW1⟩ : ∃ W1, (W.alloc (.cells #[.int .i64 t, .int .i64 c, .int .i64 lo, .int .i64 hi] 23)) = W1 := ⟨_, rfl⟩
 rw [hW1] at P1 EE
 obtain ⟨g0, hg⟩ : ∃ g, W.heap.size = g := ⟨_, rfl⟩
 rw [hg] at P1
 have HW := hide hW1
 have Hg := hide hg
 clear hW1 hg
 go_enter Try.func32, Try.ntmps32
 go_upto_region 1 with fail
 rw [HW.out, Hg.out]
 clear HW Hg
 have cq0 := fun d os => ((P1.ext (ext_regrown W1 d os)).cell 0).trans rfl
 refine wp_region_reads ?_
 repeat (first | go_big_quiet_step (first | with_reducible exact quiet_ret (kt.out _)) | quiet_step (first | with_reducible exact quiet_ret (kt.out _)))
 refine wpQuiet_nil ?_
 intro _ hw'
 obtain ⟨⟨dq, osq⟩, hw''⟩ := hw'
 subst hw''
 replace P1 := P1.ext (ext_regrown W1 dq osq)
 replace EE := hide (EE.out.trans (ext_regrown W1 dq osq))
 obtain ⟨wn, hwn⟩ : ∃ w, grow (redrawn W1 dq) osq = w := ⟨_, rfl⟩
 rw [hwn] at EE P1 ⊢
 clear hwn cq0
 obtain ⟨W1, hWW⟩ : ∃ w, w = wn := ⟨_, rfl⟩
 subst hWW
 go_upto_region 3 with fail
 have cq1 := fun d os => ((P1.ext (ext_regrown W1 d os)).cell 1).trans rfl
 refine wp_region_reads ?_
 repeat (first | go_big_quiet_step (fail) | quiet_step (fail))
 refine wpQuiet_nil ?_
 intro _ hw'
 obtain ⟨⟨dq, osq⟩, hw''⟩ := hw'
 subst hw''
 replace P1 := P1.ext (ext_regrown W1 dq osq)
 replace EE := hide (EE.out.trans (ext_regrown W1 dq osq))
 obtain ⟨wn, hwn⟩ : ∃ w, grow (redrawn W1 dq) osq = w := ⟨_, rfl⟩
 rw [hwn] at EE P1 ⊢
 clear hwn cq1
 obtain ⟨W1, hWW⟩ : ∃ w, w = wn := ⟨_, rfl⟩
 subst hWW
 go_upto_region 4 with fail
 have cq2 := fun d os => ((P1.ext (ext_regrown W1 d os)).cell 2).trans rfl
 have cq3 := fun d os => ((P1.ext (ext_regrown W1 d os)).cell 3).trans rfl
 refine wp_region_reads ?_
 repeat (first | go_big_quiet_step (fail) | quiet_step (fail))
 refine wpQuiet_nil ?_
 intro _ hw'
 obtain ⟨⟨dq, osq⟩, hw''⟩ := hw'
 subst hw''
 replace P1 := P1.ext (ext_regrown W1 dq osq)
 replace EE := hide (EE.out.trans (ext_regrown W1 dq osq))
 obtain ⟨wn, hwn⟩ : ∃ w, grow (redrawn W1 dq) osq = w := ⟨_, rfl⟩
 rw [hwn] at EE P1 ⊢
 clear hwn cq2 cq3
 obtain ⟨W1, hWW⟩ : ∃ w, w = wn := ⟨_, rfl⟩
 subst hWW
 go_wp2_with fail
 go_ret
 exact ⟨rfl, EE.out⟩
set_option maxHeartbeats 1600000 in
theorem p_v1 (t c lo hi : Int) (kt : Hid (∀ w, Calls Try.prog 27 #[.int .i64 t] w (Ret (.bool true) w))) (b : Bool) (d0 : (c == 0) = true) (d1 : (lo == 0) = true) (d2 : (hi == 0) = b) (W : World) : Calls Try.prog 32 #[.agg #[.int .i64 t, .int .i64 c, .int .i64 lo, .int .i64 hi]] W (Ret (.bool b) W) := by
 have P1 := Blk.new W 23 #[.int .i64 t, .int .i64 c, .int .i64 lo, .int .i64 hi]
 have EE := hide (ext_alloc W (.cells #[.int .i64 t, .int .i64 c, .int .i64 lo, .int .i64 hi] 23))
 obtain ⟨W1, hW1⟩ : ∃ W1, (W.alloc (.cells #[.int .i64 t, .int .i64 c, .int .i64 lo, .int .i64 hi] 23)) = W1 := ⟨_, rfl⟩
 rw [hW1] at P1 EE
 obtain ⟨g0, hg⟩ : ∃ g, W.heap.size = g := ⟨_, rfl⟩
 rw [hg] at P1
 have HW := hide hW1
 have Hg := hide hg
 clear hW1 hg
 go_enter Try.func32, Try.ntmps32
 go_upto_region 1 with fail
 rw [HW.out, Hg.out]
 clear HW Hg
 have cq0 := fun d os => ((P1.ext (ext_regrown W1 d os)).cell 0).trans rfl
 refine wp_region_reads ?_
 repeat (first | go_big_quiet_step (first | with_reducible exact quiet_ret (kt.out _)) | quiet_step (first | with_reducible exact quiet_ret (kt.out _)))
 refine wpQuiet_nil ?_
 intro _ hw'
 obtain ⟨⟨dq, osq⟩, hw''⟩ := hw'
 subst hw''
 replace P1 := P1.ext (ext_regrown W1 dq osq)
 replace EE := hide (EE.out.trans (ext_regrown W1 dq osq))
 obtain ⟨wn, hwn⟩ : ∃ w, grow (redrawn W1 dq) osq = w := ⟨_, rfl⟩
 rw [hwn] at EE P1 ⊢
 clear hwn cq0
 obtain ⟨W1, hWW⟩ : ∃ w, w = wn := ⟨_, rfl⟩
 subst hWW
 go_upto_region 3 with fail
 have cq1 := fun d os => ((P1.ext (ext_regrown W1 d os)).cell 1).trans rfl
 refine wp_region_reads ?_
 repeat (first | go_big_quiet_step (fail) | quiet_step (fail))
 refine wpQuiet_nil ?_
 intro _ hw'
 obtain ⟨⟨dq, osq⟩, hw''⟩ := hw'
 subst hw''
 replace P1 := P1.ext (ext_regrown W1 dq osq)
 replace EE := hide (EE.out.trans (ext_regrown W1 dq osq))
 obtain ⟨wn, hwn⟩ : ∃ w, grow (redrawn W1 dq) osq = w := ⟨_, rfl⟩
 rw [hwn] at EE P1 ⊢
 clear hwn cq1
 obtain ⟨W1, hWW⟩ : ∃ w, w = wn := ⟨_, rfl⟩
 subst hWW
 go_upto_region 4 with fail
 have cq2 := fun d os => ((P1.ext (ext_regrown W1 d os)).cell 2).trans rfl
 have cq3 := fun d os => ((P1.ext (ext_regrown W1 d os)).cell 3).trans rfl
 refine wp_region_reads ?_
 repeat (first | go_big_quiet_step (fail) | quiet_step (fail))
 refine wpQuiet_nil ?_
 intro _ hw'
 obtain ⟨⟨dq, osq⟩, hw''⟩ := hw'
 subst hw''
 replace P1 := P1.ext (ext_regrown W1 dq osq)
 replace EE := hide (EE.out.trans (ext_regrown W1 dq osq))
 obtain ⟨wn, hwn⟩ : ∃ w, grow (redrawn W1 dq) osq = w := ⟨_, rfl⟩
 rw [hwn] at EE P1 ⊢
 clear hwn cq2 cq3
 obtain ⟨W1, hWW⟩ : ∃ w, w = wn := ⟨_, rfl⟩
 subst hWW
 go_wp2_with fail
 go_ret
 exact ⟨rfl, EE.out⟩
set_option maxHeartbeats 1600000 in
theorem p_v2 (t c lo hi : Int) (kt : Hid (∀ w, Calls Try.prog 27 #[.int .i64 t] w (Ret (.bool true) w))) (d0 : (c == 0) = false) (d1 : (c == 1) = true) (d2 : (lo != hi) = true) (W : World) : Calls Try.prog 32 #[.agg #[.int .i64 t, .int .i64 c, .int .i64 lo, .int .i64 hi]] W (Ret (.bool false) W) := by
 have P1 := Blk.new W 23 #[.int .i64 t, .int .i64 c, .int .i64 lo, .int .i64 hi]
 have EE := hide (ext_alloc W (.cells #[.int .i64 t, .int .i64 c, .int .i64 lo, .int .i64 hi] 23))
 obtain ⟨W1, hW1⟩ : ∃ W1, (W.alloc (.cells #[.int .i64 t, .int .i64 c, .int .i64 lo, .int .i64 hi] 23)) = W1 := ⟨_, rfl⟩
 rw [hW1] at P1 EE
 obtain ⟨g0, hg⟩ : ∃ g, W.heap.size = g := ⟨_, rfl⟩
 rw [hg] at P1
 have HW := hide hW1
 have Hg := hide hg
 clear hW1 hg
 go_enter Try.func32, Try.ntmps32
 go_upto_region 1 with fail
 rw [HW.out, Hg.out]
 clear HW Hg
 have cq0 := fun d os => ((P1.ext (ext_regrown W1 d os)).cell 0).trans rfl
 refine wp_region_reads ?_
 repeat (first | go_big_quiet_step (first | with_reducible exact quiet_ret (kt.out _)) | quiet_step (first | with_reducible exact quiet_ret (kt.out _)))
 refine wpQuiet_nil ?_
 intro _ hw'
 obtain ⟨⟨dq, osq⟩, hw''⟩ := hw'
 subst hw''
 replace P1 := P1.ext (ext_regrown W1 dq osq)
 replace EE := hide (EE.out.trans (ext_regrown W1 dq osq))
 obtain ⟨wn, hwn⟩ : ∃ w, grow (redrawn W1 dq) osq = w := ⟨_, rfl⟩
 rw [hwn] at EE P1 ⊢
 clear hwn cq0
 obtain ⟨W1, hWW⟩ : ∃ w, w = wn := ⟨_, rfl⟩
 subst hWW
 go_upto_region 3 with fail
 have cq1 := fun d os => ((P1.ext (ext_regrown W1 d os)).cell 1).trans rfl
 refine wp_region_reads ?_
 repeat (first | go_big_quiet_step (fail) | quiet_step (fail))
 refine wpQuiet_nil ?_
 intro _ hw'
 obtain ⟨⟨dq, osq⟩, hw''⟩ := hw'
 subst hw''
 replace P1 := P1.ext (ext_regrown W1 dq osq)
 replace EE := hide (EE.out.trans (ext_regrown W1 dq osq))
 obtain ⟨wn, hwn⟩ : ∃ w, grow (redrawn W1 dq) osq = w := ⟨_, rfl⟩
 rw [hwn] at EE P1 ⊢
 clear hwn cq1
 obtain ⟨W1, hWW⟩ : ∃ w, w = wn := ⟨_, rfl⟩
 subst hWW
 go_upto_region 5 with fail
 have cq1 := fun d os => ((P1.ext (ext_regrown W1 d os)).cell 1).trans rfl
 have cq2 := fun d os => ((P1.ext (ext_regrown W1 d os)).cell 2).trans rfl
 have cq3 := fun d os => ((P1.ext (ext_regrown W1 d os)).cell 3).trans rfl
 refine wp_region_reads ?_
 repeat (first | go_big_quiet_step (fail) | quiet_step (fail))
 refine wpQuiet_nil ?_
 intro _ hw'
 obtain ⟨⟨dq, osq⟩, hw''⟩ := hw'
 subst hw''
 replace P1 := P1.ext (ext_regrown W1 dq osq)
 replace EE := hide (EE.out.trans (ext_regrown W1 dq osq))
 obtain ⟨wn, hwn⟩ : ∃ w, grow (redrawn W1 dq) osq = w := ⟨_, rfl⟩
 rw [hwn] at EE P1 ⊢
 clear hwn cq1 cq2 cq3
 obtain ⟨W1, hWW⟩ : ∃ w, w = wn := ⟨_, rfl⟩
 subst hWW
 go_wp2_with fail
 go_ret
 exact ⟨rfl, EE.out⟩
set_option maxHeartbeats 1600000 in
theorem p_v3a (t c lo hi : Int) (kt : Hid (∀ w, Calls Try.prog 27 #[.int .i64 t] w (Ret (.bool true) w))) (d0 : (c == 0) = false) (d1 : (c == 1) = true) (d2 : (lo != hi) = false) (d3 : decide (1 ≤ c) = false) (W : World) : Calls Try.prog 32 #[.agg #[.int .i64 t, .int .i64 c, .int .i64 lo, .int .i64 hi]] W (Ret (.bool false) W) := by
 have P1 := Blk.new W 23 #[.int .i64 t, .int .i64 c, .int .i64 lo, .int .i64 hi]
 have EE := hide (ext_alloc W (.cells #[.int .i64 t, .int .i64 c, .int .i64 lo, .int .i64 hi] 23))
 obtain ⟨W1, hW1⟩ : ∃ W1, (W.alloc (.cells #[.int .i64 t, .int .i64 c, .int .i64 lo, .int .i64 hi] 23)) = W1 := ⟨_, rfl⟩
 rw [hW1] at P1 EE
 obtain ⟨g0, hg⟩ : ∃ g, W.heap.size = g := ⟨_, rfl⟩
 rw [hg] at P1
 have HW := hide hW1
 have Hg := hide hg
 clear hW1 hg
 go_enter Try.func32, Try.ntmps32
 go_upto_region 1 with fail
 rw [HW.out, Hg.out]
 clear HW Hg
 have cq0 := fun d os => ((P1.ext (ext_regrown W1 d os)).cell 0).trans rfl
 refine wp_region_reads ?_
 repeat (first | go_big_quiet_step (first | with_reducible exact quiet_ret (kt.out _)) | quiet_step (first | with_reducible exact quiet_ret (kt.out _)))
 refine wpQuiet_nil ?_
 intro _ hw'
 obtain ⟨⟨dq, osq⟩, hw''⟩ := hw'
 subst hw''
 replace P1 := P1.ext (ext_regrown W1 dq osq)
 replace EE := hide (EE.out.trans (ext_regrown W1 dq osq))
 obtain ⟨wn, hwn⟩ : ∃ w, grow (redrawn W1 dq) osq = w := ⟨_, rfl⟩
 rw [hwn] at EE P1 ⊢
 clear hwn cq0
 obtain ⟨W1, hWW⟩ : ∃ w, w = wn := ⟨_, rfl⟩
 subst hWW
 go_upto_region 3 with fail
 have cq1 := fun d os => ((P1.ext (ext_regrown W1 d os)).cell 1).trans rfl
 refine wp_region_reads ?_
 repeat (first | go_big_quiet_step (fail) | quiet_step (fail))
 refine wpQuiet_nil ?_
 intro _ hw'
 obtain ⟨⟨dq, osq⟩, hw''⟩ := hw'
 subst hw''
 replace P1 := P1.ext (ext_regrown W1 dq osq)
 replace EE := hide (EE.out.trans (ext_regrown W1 dq osq))
 obtain ⟨wn, hwn⟩ : ∃ w, grow (redrawn W1 dq) osq = w := ⟨_, rfl⟩
 rw [hwn] at EE P1 ⊢
 clear hwn cq1
 obtain ⟨W1, hWW⟩ : ∃ w, w = wn := ⟨_, rfl⟩
 subst hWW
 go_upto_region 5 with fail
 have cq1 := fun d os => ((P1.ext (ext_regrown W1 d os)).cell 1).trans rfl
 have cq2 := fun d os => ((P1.ext (ext_regrown W1 d os)).cell 2).trans rfl
 have cq3 := fun d os => ((P1.ext (ext_regrown W1 d os)).cell 3).trans rfl
 refine wp_region_reads ?_
 repeat (first | go_big_quiet_step (fail) | quiet_step (fail))
 refine wpQuiet_nil ?_
 intro _ hw'
 obtain ⟨⟨dq, osq⟩, hw''⟩ := hw'
 subst hw''
 replace P1 := P1.ext (ext_regrown W1 dq osq)
 replace EE := hide (EE.out.trans (ext_regrown W1 dq osq))
 obtain ⟨wn, hwn⟩ : ∃ w, grow (redrawn W1 dq) osq = w := ⟨_, rfl⟩
 rw [hwn] at EE P1 ⊢
 clear hwn cq1 cq2 cq3
 obtain ⟨W1, hWW⟩ : ∃ w, w = wn := ⟨_, rfl⟩
 subst hWW
 go_upto_region 7 with fail
 have cq0 := fun d os => ((P1.ext (ext_regrown W1 d os)).cell 0).trans rfl
 have cq1 := fun d os => ((P1.ext (ext_regrown W1 d os)).cell 1).trans rfl
 have cq2 := fun d os => ((P1.ext (ext_regrown W1 d os)).cell 2).trans rfl
 have cq3 := fun d os => ((P1.ext (ext_regrown W1 d os)).cell 3).trans rfl
 refine wp_region_reads ?_
 repeat (first | go_big_quiet_step (fail) | quiet_step (fail))
 refine wpQuiet_nil ?_
 intro _ hw'
 obtain ⟨⟨dq, osq⟩, hw''⟩ := hw'
 subst hw''
 replace P1 := P1.ext (ext_regrown W1 dq osq)
 replace EE := hide (EE.out.trans (ext_regrown W1 dq osq))
 obtain ⟨wn, hwn⟩ : ∃ w, grow (redrawn W1 dq) osq = w := ⟨_, rfl⟩
 rw [hwn] at EE P1 ⊢
 clear hwn cq0 cq1 cq2 cq3
 obtain ⟨W1, hWW⟩ : ∃ w, w = wn := ⟨_, rfl⟩
 subst hWW
 go_wp2_with fail
 go_ret
 exact ⟨rfl, EE.out⟩
set_option maxHeartbeats 1600000 in
theorem p_v3b (t c lo hi : Int) (kt : Hid (∀ w, Calls Try.prog 27 #[.int .i64 t] w (Ret (.bool true) w))) (d0 : (c == 0) = false) (d1 : (c == 1) = true) (d2 : (lo != hi) = false) (d3 : decide (1 ≤ c) = true) (d4 : decide (c ≤ 1073741824) = false) (W : World) : Calls Try.prog 32 #[.agg #[.int .i64 t, .int .i64 c, .int .i64 lo, .int .i64 hi]] W (Ret (.bool false) W) := by
 have P1 := Blk.new W 23 #[.int .i64 t, .int .i64 c, .int .i64 lo, .int .i64 hi]
 have EE := hide (ext_alloc W (.cells #[.int .i64 t, .int .i64 c, .int .i64 lo, .int .i64 hi] 23))
 obtain ⟨W1, hW1⟩ : ∃ W1, (W.alloc (.cells #[.int .i64 t, .int .i64 c, .int .i64 lo, .int .i64 hi] 23)) = W1 := ⟨_, rfl⟩
 rw [hW1] at P1 EE
 obtain ⟨g0, hg⟩ : ∃ g, W.heap.size = g := ⟨_, rfl⟩
 rw [hg] at P1
 have HW := hide hW1
 have Hg := hide hg
 clear hW1 hg
 go_enter Try.func32, Try.ntmps32
 go_upto_region 1 with fail
 rw [HW.out, Hg.out]
 clear HW Hg
 have cq0 := fun d os => ((P1.ext (ext_regrown W1 d os)).cell 0).trans rfl
 refine wp_region_reads ?_
 repeat (first | go_big_quiet_step (first | with_reducible exact quiet_ret (kt.out _)) | quiet_step (first | with_reducible exact quiet_ret (kt.out _)))
 refine wpQuiet_nil ?_
 intro _ hw'
 obtain ⟨⟨dq, osq⟩, hw''⟩ := hw'
 subst hw''
 replace P1 := P1.ext (ext_regrown W1 dq osq)
 replace EE := hide (EE.out.trans (ext_regrown W1 dq osq))
 obtain ⟨wn, hwn⟩ : ∃ w, grow (redrawn W1 dq) osq = w := ⟨_, rfl⟩
 rw [hwn] at EE P1 ⊢
 clear hwn cq0
 obtain ⟨W1, hWW⟩ : ∃ w, w = wn := ⟨_, rfl⟩
 subst hWW
 go_upto_region 3 with fail
 have cq1 := fun d os => ((P1.ext (ext_regrown W1 d os)).cell 1).trans rfl
 refine wp_region_reads ?_
 repeat (first | go_big_quiet_step (fail) | quiet_step (fail))
 refine wpQuiet_nil ?_
 intro _ hw'
 obtain ⟨⟨dq, osq⟩, hw''⟩ := hw'
 subst hw''
 replace P1 := P1.ext (ext_regrown W1 dq osq)
 replace EE := hide (EE.out.trans (ext_regrown W1 dq osq))
 obtain ⟨wn, hwn⟩ : ∃ w, grow (redrawn W1 dq) osq = w := ⟨_, rfl⟩
 rw [hwn] at EE P1 ⊢
 clear hwn cq1
 obtain ⟨W1, hWW⟩ : ∃ w, w = wn := ⟨_, rfl⟩
 subst hWW
 go_upto_region 5 with fail
 have cq1 := fun d os => ((P1.ext (ext_regrown W1 d os)).cell 1).trans rfl
 have cq2 := fun d os => ((P1.ext (ext_regrown W1 d os)).cell 2).trans rfl
 have cq3 := fun d os => ((P1.ext (ext_regrown W1 d os)).cell 3).trans rfl
 refine wp_region_reads ?_
 repeat (first | go_big_quiet_step (fail) | quiet_step (fail))
 refine wpQuiet_nil ?_
 intro _ hw'
 obtain ⟨⟨dq, osq⟩, hw''⟩ := hw'
 subst hw''
 replace P1 := P1.ext (ext_regrown W1 dq osq)
 replace EE := hide (EE.out.trans (ext_regrown W1 dq osq))
 obtain ⟨wn, hwn⟩ : ∃ w, grow (redrawn W1 dq) osq = w := ⟨_, rfl⟩
 rw [hwn] at EE P1 ⊢
 clear hwn cq1 cq2 cq3
 obtain ⟨W1, hWW⟩ : ∃ w, w = wn := ⟨_, rfl⟩
 subst hWW
 go_upto_region 7 with fail
 have cq0 := fun d os => ((P1.ext (ext_regrown W1 d os)).cell 0).trans rfl
 have cq1 := fun d os => ((P1.ext (ext_regrown W1 d os)).cell 1).trans rfl
 have cq2 := fun d os => ((P1.ext (ext_regrown W1 d os)).cell 2).trans rfl
 have cq3 := fun d os => ((P1.ext (ext_regrown W1 d os)).cell 3).trans rfl
 refine wp_region_reads ?_
 repeat (first | go_big_quiet_step (fail) | quiet_step (fail))
 refine wpQuiet_nil ?_
 intro _ hw'
 obtain ⟨⟨dq, osq⟩, hw''⟩ := hw'
 subst hw''
 replace P1 := P1.ext (ext_regrown W1 dq osq)
 replace EE := hide (EE.out.trans (ext_regrown W1 dq osq))
 obtain ⟨wn, hwn⟩ : ∃ w, grow (redrawn W1 dq) osq = w := ⟨_, rfl⟩
 rw [hwn] at EE P1 ⊢
 clear hwn cq0 cq1 cq2 cq3
 obtain ⟨W1, hWW⟩ : ∃ w, w = wn := ⟨_, rfl⟩
 subst hWW
 go_wp2_with fail
 go_ret
 exact ⟨rfl, EE.out⟩
set_option maxHeartbeats 1600000 in
theorem p_v3c (t c lo hi : Int) (kt : Hid (∀ w, Calls Try.prog 27 #[.int .i64 t] w (Ret (.bool true) w))) (d0 : (c == 0) = false) (d1 : (c == 1) = true) (d2 : (lo != hi) = false) (d3 : decide (1 ≤ c) = true) (d4 : decide (c ≤ 1073741824) = true) (d5 : decide (lo ≤ hi) = false) (W : World) : Calls Try.prog 32 #[.agg #[.int .i64 t, .int .i64 c, .int .i64 lo, .int .i64 hi]] W (Ret (.bool false) W) := by
 have P1 := Blk.new W 23 #[.int .i64 t, .int .i64 c, .int .i64 lo, .int .i64 hi]
 have EE := hide (ext_alloc W (.cells #[.int .i64 t, .int .i64 c, .int .i64 lo, .int .i64 hi] 23))
 obtain ⟨W1, hW1⟩ : ∃ W1, (W.alloc (.cells #[.int .i64 t, .int .i64 c, .int .i64 lo, .int .i64 hi] 23)) = W1 := ⟨_, rfl⟩
 rw [hW1] at P1 EE
 obtain ⟨g0, hg⟩ : ∃ g, W.heap.size = g := ⟨_, rfl⟩
 rw [hg] at P1
 have HW := hide hW1
 have Hg := hide hg
 clear hW1 hg
 go_enter Try.func32, Try.ntmps32
 go_upto_region 1 with fail
 rw [HW.out, Hg.out]
 clear HW Hg
 have cq0 := fun d os => ((P1.ext (ext_regrown W1 d os)).cell 0).trans rfl
 refine wp_region_reads ?_
 repeat (first | go_big_quiet_step (first | with_reducible exact quiet_ret (kt.out _)) | quiet_step (first | with_reducible exact quiet_ret (kt.out _)))
 refine wpQuiet_nil ?_
 intro _ hw'
 obtain ⟨⟨dq, osq⟩, hw''⟩ := hw'
 subst hw''
 replace P1 := P1.ext (ext_regrown W1 dq osq)
 replace EE := hide (EE.out.trans (ext_regrown W1 dq osq))
 obtain ⟨wn, hwn⟩ : ∃ w, grow (redrawn W1 dq) osq = w := ⟨_, rfl⟩
 rw [hwn] at EE P1 ⊢
 clear hwn cq0
 obtain ⟨W1, hWW⟩ : ∃ w, w = wn := ⟨_, rfl⟩
 subst hWW
 go_upto_region 3 with fail
 have cq1 := fun d os => ((P1.ext (ext_regrown W1 d os)).cell 1).trans rfl
 refine wp_region_reads ?_
 repeat (first | go_big_quiet_step (fail) | quiet_step (fail))
 refine wpQuiet_nil ?_
 intro _ hw'
 obtain ⟨⟨dq, osq⟩, hw''⟩ := hw'
 subst hw''
 replace P1 := P1.ext (ext_regrown W1 dq osq)
 replace EE := hide (EE.out.trans (ext_regrown W1 dq osq))
 obtain ⟨wn, hwn⟩ : ∃ w, grow (redrawn W1 dq) osq = w := ⟨_, rfl⟩
 rw [hwn] at EE P1 ⊢
 clear hwn cq1
 obtain ⟨W1, hWW⟩ : ∃ w, w = wn := ⟨_, rfl⟩
 subst hWW
 go_upto_region 5 with fail
 have cq1 := fun d os => ((P1.ext (ext_regrown W1 d os)).cell 1).trans rfl
 have cq2 := fun d os => ((P1.ext (ext_regrown W1 d os)).cell 2).trans rfl
 have cq3 := fun d os => ((P1.ext (ext_regrown W1 d os)).cell 3).trans rfl
 refine wp_region_reads ?_
 repeat (first | go_big_quiet_step (fail) | quiet_step (fail))
 refine wpQuiet_nil ?_
 intro _ hw'
 obtain ⟨⟨dq, osq⟩, hw''⟩ := hw'
 subst hw''
 replace P1 := P1.ext (ext_regrown W1 dq osq)
 replace EE := hide (EE.out.trans (ext_regrown W1 dq osq))
 obtain ⟨wn, hwn⟩ : ∃ w, grow (redrawn W1 dq) osq = w := ⟨_, rfl⟩
 rw [hwn] at EE P1 ⊢
 clear hwn cq1 cq2 cq3
 obtain ⟨W1, hWW⟩ : ∃ w, w = wn := ⟨_, rfl⟩
 subst hWW
 go_upto_region 7 with fail
 have cq0 := fun d os => ((P1.ext (ext_regrown W1 d os)).cell 0).trans rfl
 have cq1 := fun d os => ((P1.ext (ext_regrown W1 d os)).cell 1).trans rfl
 have cq2 := fun d os => ((P1.ext (ext_regrown W1 d os)).cell 2).trans rfl
 have cq3 := fun d os => ((P1.ext (ext_regrown W1 d os)).cell 3).trans rfl
 refine wp_region_reads ?_
 repeat (first | go_big_quiet_step (fail) | quiet_step (fail))
 refine wpQuiet_nil ?_
 intro _ hw'
 obtain ⟨⟨dq, osq⟩, hw''⟩ := hw'
 subst hw''
 replace P1 := P1.ext (ext_regrown W1 dq osq)
 replace EE := hide (EE.out.trans (ext_regrown W1 dq osq))
 obtain ⟨wn, hwn⟩ : ∃ w, grow (redrawn W1 dq) osq = w := ⟨_, rfl⟩
 rw [hwn] at EE P1 ⊢
 clear hwn cq0 cq1 cq2 cq3
 obtain ⟨W1, hWW⟩ : ∃ w, w = wn := ⟨_, rfl⟩
 subst hWW
 go_wp2_with fail
 go_ret
 exact ⟨rfl, EE.out⟩
set_option maxHeartbeats 1600000 in
theorem p_v3d (t c lo hi : Int) (kt : Hid (∀ w, Calls Try.prog 27 #[.int .i64 t] w (Ret (.bool true) w))) (d0 : (c == 0) = false) (d1 : (c == 1) = true) (d2 : (lo != hi) = false) (d3 : decide (1 ≤ c) = true) (d4 : decide (c ≤ 1073741824) = true) (d5 : decide (lo ≤ hi) = true) (b : Bool) (kh : Hid (∀ w, Calls Try.prog 42 #[.int .i64 lo, .int .i64 hi, .int .i64 t] w (Ret (.bool b) w))) (W : World) : Calls Try.prog 32 #[.agg #[.int .i64 t, .int .i64 c, .int .i64 lo, .int .i64 hi]] W (Ret (.bool b) W) := by
 have P1 := Blk.new W 23 #[.int .i64 t, .int .i64 c, .int .i64 lo, .int .i64 hi]
 have EE := hide (ext_alloc W (.cells #[.int .i64 t, .int .i64 c, .int .i64 lo, .int .i64 hi] 23))
 obtain ⟨W1, hW1⟩ : ∃ W1, (W.alloc (.cells #[.int .i64 t, .int .i64 c, .int .i64 lo, .int .i64 hi] 23)) = W1 := ⟨_, rfl⟩
 rw [hW1] at P1 EE
 obtain ⟨g0, hg⟩ : ∃ g, W.heap.size = g := ⟨_, rfl⟩
 rw [hg] at P1
 have HW := hide hW1
 have Hg := hide hg
 clear hW1 hg
 go_enter Try.func32, Try.ntmps32
 go_upto_region 1 with fail
 rw [HW.out, Hg.out]
 clear HW Hg
 have cq0 := fun d os => ((P1.ext (ext_regrown W1 d os)).cell 0).trans rfl
 refine wp_region_reads ?_
 repeat (first | go_big_quiet_step (first | with_reducible exact quiet_ret (kt.out _)) | quiet_step (first | with_reducible exact quiet_ret (kt.out _)))
 refine wpQuiet_nil ?_
 intro _ hw'
 obtain ⟨⟨dq, osq⟩, hw''⟩ := hw'
 subst hw''
 replace P1 := P1.ext (ext_regrown W1 dq osq)
 replace EE := hide (EE.out.trans (ext_regrown W1 dq osq))
 obtain ⟨wn, hwn⟩ : ∃ w, grow (redrawn W1 dq) osq = w := ⟨_, rfl⟩
 rw [hwn] at EE P1 ⊢
 clear hwn cq0
 obtain ⟨W1, hWW⟩ : ∃ w, w = wn := ⟨_, rfl⟩
 subst hWW
 go_upto_region 3 with fail
 have cq1 := fun d os => ((P1.ext (ext_regrown W1 d os)).cell 1).trans rfl
 refine wp_region_reads ?_
 repeat (first | go_big_quiet_step (fail) | quiet_step (fail))
 refine wpQuiet_nil ?_
 intro _ hw'
 obtain ⟨⟨dq, osq⟩, hw''⟩ := hw'
 subst hw''
 replace P1 := P1.ext (ext_regrown W1 dq osq)
 replace EE := hide (EE.out.trans (ext_regrown W1 dq osq))
 obtain ⟨wn, hwn⟩ : ∃ w, grow (redrawn W1 dq) osq = w := ⟨_, rfl⟩
 rw [hwn] at EE P1 ⊢
 clear hwn cq1
 obtain ⟨W1, hWW⟩ : ∃ w, w = wn := ⟨_, rfl⟩
 subst hWW
 go_upto_region 5 with fail
 have cq1 := fun d os => ((P1.ext (ext_regrown W1 d os)).cell 1).trans rfl
 have cq2 := fun d os => ((P1.ext (ext_regrown W1 d os)).cell 2).trans rfl
 have cq3 := fun d os => ((P1.ext (ext_regrown W1 d os)).cell 3).trans rfl
 refine wp_region_reads ?_
 repeat (first | go_big_quiet_step (fail) | quiet_step (fail))
 refine wpQuiet_nil ?_
 intro _ hw'
 obtain ⟨⟨dq, osq⟩, hw''⟩ := hw'
 subst hw''
 replace P1 := P1.ext (ext_regrown W1 dq osq)
 replace EE := hide (EE.out.trans (ext_regrown W1 dq osq))
 obtain ⟨wn, hwn⟩ : ∃ w, grow (redrawn W1 dq) osq = w := ⟨_, rfl⟩
 rw [hwn] at EE P1 ⊢
 clear hwn cq1 cq2 cq3
 obtain ⟨W1, hWW⟩ : ∃ w, w = wn := ⟨_, rfl⟩
 subst hWW
 go_upto_region 7 with fail
 have cq0 := fun d os => ((P1.ext (ext_regrown W1 d os)).cell 0).trans rfl
 have cq1 := fun d os => ((P1.ext (ext_regrown W1 d os)).cell 1).trans rfl
 have cq2 := fun d os => ((P1.ext (ext_regrown W1 d os)).cell 2).trans rfl
 have cq3 := fun d os => ((P1.ext (ext_regrown W1 d os)).cell 3).trans rfl
 refine wp_region_reads ?_
 repeat (first | go_big_quiet_step (first | with_reducible exact quiet_ret (kh.out _)) | quiet_step (first | with_reducible exact quiet_ret (kh.out _)))
 refine wpQuiet_nil ?_
 intro _ hw'
 obtain ⟨⟨dq, osq⟩, hw''⟩ := hw'
 subst hw''
 replace P1 := P1.ext (ext_regrown W1 dq osq)
 replace EE := hide (EE.out.trans (ext_regrown W1 dq osq))
 obtain ⟨wn, hwn⟩ : ∃ w, grow (redrawn W1 dq) osq = w := ⟨_, rfl⟩
 rw [hwn] at EE P1 ⊢
 clear hwn cq0 cq1 cq2 cq3
 obtain ⟨W1, hWW⟩ : ∃ w, w = wn := ⟨_, rfl⟩
 subst hWW
 go_wp2_with fail
 go_ret
 exact ⟨rfl, EE.out⟩
set_option maxHeartbeats 1600000 in
theorem p_v4a (t c lo hi : Int) (kt : Hid (∀ w, Calls Try.prog 27 #[.int .i64 t] w (Ret (.bool true) w))) (d0 : (c == 0) = false) (d1 : (c == 1) = false) (d3 : decide (1 ≤ c) = false) (W : World) : Calls Try.prog 32 #[.agg #[.int .i64 t, .int .i64 c, .int .i64 lo, .int .i64 hi]] W (Ret (.bool false) W) := by
 have P1 := Blk.new W 23 #[.int .i64 t, .int .i64 c, .int .i64 lo, .int .i64 hi]
 have EE := hide (ext_alloc W (.cells #[.int .i64 t, .int .i64 c, .int .i64 lo, .int .i64 hi] 23))
 obtain ⟨W1, hW1⟩ : ∃ W1, (W.alloc (.cells #[.int .i64 t, .int .i64 c, .int .i64 lo, .int .i64 hi] 23)) = W1 := ⟨_, rfl⟩
 rw [hW1] at P1 EE
 obtain ⟨g0, hg⟩ : ∃ g, W.heap.size = g := ⟨_, rfl⟩
 rw [hg] at P1
 have HW := hide hW1
 have Hg := hide hg
 clear hW1 hg
 go_enter Try.func32, Try.ntmps32
 go_upto_region 1 with fail
 rw [HW.out, Hg.out]
 clear HW Hg
 have cq0 := fun d os => ((P1.ext (ext_regrown W1 d os)).cell 0).trans rfl
 refine wp_region_reads ?_
 repeat (first | go_big_quiet_step (first | with_reducible exact quiet_ret (kt.out _)) | quiet_step (first | with_reducible exact quiet_ret (kt.out _)))
 refine wpQuiet_nil ?_
 intro _ hw'
 obtain ⟨⟨dq, osq⟩, hw''⟩ := hw'
 subst hw''
 replace P1 := P1.ext (ext_regrown W1 dq osq)
 replace EE := hide (EE.out.trans (ext_regrown W1 dq osq))
 obtain ⟨wn, hwn⟩ : ∃ w, grow (redrawn W1 dq) osq = w := ⟨_, rfl⟩
 rw [hwn] at EE P1 ⊢
 clear hwn cq0
 obtain ⟨W1, hWW⟩ : ∃ w, w = wn := ⟨_, rfl⟩
 subst hWW
 go_upto_region 3 with fail
 have cq1 := fun d os => ((P1.ext (ext_regrown W1 d os)).cell 1).trans rfl
 refine wp_region_reads ?_
 repeat (first | go_big_quiet_step (fail) | quiet_step (fail))
 refine wpQuiet_nil ?_
 intro _ hw'
 obtain ⟨⟨dq, osq⟩, hw''⟩ := hw'
 subst hw''
 replace P1 := P1.ext (ext_regrown W1 dq osq)
 replace EE := hide (EE.out.trans (ext_regrown W1 dq osq))
 obtain ⟨wn, hwn⟩ : ∃ w, grow (redrawn W1 dq) osq = w := ⟨_, rfl⟩
 rw [hwn] at EE P1 ⊢
 clear hwn cq1
 obtain ⟨W1, hWW⟩ : ∃ w, w = wn := ⟨_, rfl⟩
 subst hWW
 go_upto_region 5 with fail
 have cq1 := fun d os => ((P1.ext (ext_regrown W1 d os)).cell 1).trans rfl
 have cq2 := fun d os => ((P1.ext (ext_regrown W1 d os)).cell 2).trans rfl
 have cq3 := fun d os => ((P1.ext (ext_regrown W1 d os)).cell 3).trans rfl
 refine wp_region_reads ?_
 repeat (first | go_big_quiet_step (fail) | quiet_step (fail))
 refine wpQuiet_nil ?_
 intro _ hw'
 obtain ⟨⟨dq, osq⟩, hw''⟩ := hw'
 subst hw''
 replace P1 := P1.ext (ext_regrown W1 dq osq)
 replace EE := hide (EE.out.trans (ext_regrown W1 dq osq))
 obtain ⟨wn, hwn⟩ : ∃ w, grow (redrawn W1 dq) osq = w := ⟨_, rfl⟩
 rw [hwn] at EE P1 ⊢
 clear hwn cq1 cq2 cq3
 obtain ⟨W1, hWW⟩ : ∃ w, w = wn := ⟨_, rfl⟩
 subst hWW
 go_upto_region 7 with fail
 have cq0 := fun d os => ((P1.ext (ext_regrown W1 d os)).cell 0).trans rfl
 have cq1 := fun d os => ((P1.ext (ext_regrown W1 d os)).cell 1).trans rfl
 have cq2 := fun d os => ((P1.ext (ext_regrown W1 d os)).cell 2).trans rfl
 have cq3 := fun d os => ((P1.ext (ext_regrown W1 d os)).cell 3).trans rfl
 refine wp_region_reads ?_
 repeat (first | go_big_quiet_step (fail) | quiet_step (fail))
 refine wpQuiet_nil ?_
 intro _ hw'
 obtain ⟨⟨dq, osq⟩, hw''⟩ := hw'
 subst hw''
 replace P1 := P1.ext (ext_regrown W1 dq osq)
 replace EE := hide (EE.out.trans (ext_regrown W1 dq osq))
 obtain ⟨wn, hwn⟩ : ∃ w, grow (redrawn W1 dq) osq = w := ⟨_, rfl⟩
 rw [hwn] at EE P1 ⊢
 clear hwn cq0 cq1 cq2 cq3
 obtain ⟨W1, hWW⟩ : ∃ w, w = wn := ⟨_, rfl⟩
 subst hWW
 go_wp2_with fail
 go_ret
 exact ⟨rfl, EE.out⟩
set_option maxHeartbeats 1600000 in
theorem p_v4b (t c lo hi : Int) (kt : Hid (∀ w, Calls Try.prog 27 #[.int .i64 t] w (Ret (.bool true) w))) (d0 : (c == 0) = false) (d1 : (c == 1) = false) (d3 : decide (1 ≤ c) = true) (d4 : decide (c ≤ 1073741824) = false) (W : World) : Calls Try.prog 32 #[.agg #[.int .i64 t, .int .i64 c, .int .i64 lo, .int .i64 hi]] W (Ret (.bool false) W) := by
 have P1 := Blk.new W 23 #[.int .i64 t, .int .i64 c, .int .i64 lo, .int .i64 hi]
 have EE := hide (ext_alloc W (.cells #[.int .i64 t, .int .i64 c, .int .i64 lo, .int .i64 hi] 23))
 obtain ⟨W1, hW1⟩ : ∃ W1, (W.alloc (.cells #[.int .i64 t, .int .i64 c, .int .i64 lo, .int .i64 hi] 23)) = W1 := ⟨_, rfl⟩
 rw [hW1] at P1 EE
 obtain ⟨g0, hg⟩ : ∃ g, W.heap.size = g := ⟨_, rfl⟩
 rw [hg] at P1
 have HW := hide hW1
 have Hg := hide hg
 clear hW1 hg
 go_enter Try.func32, Try.ntmps32
 go_upto_region 1 with fail
 rw [HW.out, Hg.out]
 clear HW Hg
 have cq0 := fun d os => ((P1.ext (ext_regrown W1 d os)).cell 0).trans rfl
 refine wp_region_reads ?_
 repeat (first | go_big_quiet_step (first | with_reducible exact quiet_ret (kt.out _)) | quiet_step (first | with_reducible exact quiet_ret (kt.out _)))
 refine wpQuiet_nil ?_
 intro _ hw'
 obtain ⟨⟨dq, osq⟩, hw''⟩ := hw'
 subst hw''
 replace P1 := P1.ext (ext_regrown W1 dq osq)
 replace EE := hide (EE.out.trans (ext_regrown W1 dq osq))
 obtain ⟨wn, hwn⟩ : ∃ w, grow (redrawn W1 dq) osq = w := ⟨_, rfl⟩
 rw [hwn] at EE P1 ⊢
 clear hwn cq0
 obtain ⟨W1, hWW⟩ : ∃ w, w = wn := ⟨_, rfl⟩
 subst hWW
 go_upto_region 3 with fail
 have cq1 := fun d os => ((P1.ext (ext_regrown W1 d os)).cell 1).trans rfl
 refine wp_region_reads ?_
 repeat (first | go_big_quiet_step (fail) | quiet_step (fail))
 refine wpQuiet_nil ?_
 intro _ hw'
 obtain ⟨⟨dq, osq⟩, hw''⟩ := hw'
 subst hw''
 replace P1 := P1.ext (ext_regrown W1 dq osq)
 replace EE := hide (EE.out.trans (ext_regrown W1 dq osq))
 obtain ⟨wn, hwn⟩ : ∃ w, grow (redrawn W1 dq) osq = w := ⟨_, rfl⟩
 rw [hwn] at EE P1 ⊢
 clear hwn cq1
 obtain ⟨W1, hWW⟩ : ∃ w, w = wn := ⟨_, rfl⟩
 subst hWW
 go_upto_region 5 with fail
 have cq1 := fun d os => ((P1.ext (ext_regrown W1 d os)).cell 1).trans rfl
 have cq2 := fun d os => ((P1.ext (ext_regrown W1 d os)).cell 2).trans rfl
 have cq3 := fun d os => ((P1.ext (ext_regrown W1 d os)).cell 3).trans rfl
 refine wp_region_reads ?_
 repeat (first | go_big_quiet_step (fail) | quiet_step (fail))
 refine wpQuiet_nil ?_
 intro _ hw'
 obtain ⟨⟨dq, osq⟩, hw''⟩ := hw'
 subst hw''
 replace P1 := P1.ext (ext_regrown W1 dq osq)
 replace EE := hide (EE.out.trans (ext_regrown W1 dq osq))
 obtain ⟨wn, hwn⟩ : ∃ w, grow (redrawn W1 dq) osq = w := ⟨_, rfl⟩
 rw [hwn] at EE P1 ⊢
 clear hwn cq1 cq2 cq3
 obtain ⟨W1, hWW⟩ : ∃ w, w = wn := ⟨_, rfl⟩
 subst hWW
 go_upto_region 7 with fail
 have cq0 := fun d os => ((P1.ext (ext_regrown W1 d os)).cell 0).trans rfl
 have cq1 := fun d os => ((P1.ext (ext_regrown W1 d os)).cell 1).trans rfl
 have cq2 := fun d os => ((P1.ext (ext_regrown W1 d os)).cell 2).trans rfl
 have cq3 := fun d os => ((P1.ext (ext_regrown W1 d os)).cell 3).trans rfl
 refine wp_region_reads ?_
 repeat (first | go_big_quiet_step (fail) | quiet_step (fail))
 refine wpQuiet_nil ?_
 intro _ hw'
 obtain ⟨⟨dq, osq⟩, hw''⟩ := hw'
 subst hw''
 replace P1 := P1.ext (ext_regrown W1 dq osq)
 replace EE := hide (EE.out.trans (ext_regrown W1 dq osq))
 obtain ⟨wn, hwn⟩ : ∃ w, grow (redrawn W1 dq) osq = w := ⟨_, rfl⟩
 rw [hwn] at EE P1 ⊢
 clear hwn cq0 cq1 cq2 cq3
 obtain ⟨W1, hWW⟩ : ∃ w, w = wn := ⟨_, rfl⟩
 subst hWW
 go_wp2_with fail
 go_ret
 exact ⟨rfl, EE.out⟩
set_option maxHeartbeats 1600000 in
theorem p_v4c (t c lo hi : Int) (kt : Hid (∀ w, Calls Try.prog 27 #[.int .i64 t] w (Ret (.bool true) w))) (d0 : (c == 0) = false) (d1 : (c == 1) = false) (d3 : decide (1 ≤ c) = true) (d4 : decide (c ≤ 1073741824) = true) (d5 : decide (lo ≤ hi) = false) (W : World) : Calls Try.prog 32 #[.agg #[.int .i64 t, .int .i64 c, .int .i64 lo, .int .i64 hi]] W (Ret (.bool false) W) := by
 have P1 := Blk.new W 23 #[.int .i64 t, .int .i64 c, .int .i64 lo, .int .i64 hi]
 have EE := hide (ext_alloc W (.cells #[.int .i64 t, .int .i64 c, .int .i64 lo, .int .i64 hi] 23))
 obtain ⟨W1, hW1⟩ : ∃ W1, (W.alloc (.cells #[.int .i64 t, .int .i64 c, .int .i64 lo, .int .i64 hi] 23)) = W1 := ⟨_, rfl⟩
 rw [hW1] at P1 EE
 obtain ⟨g0, hg⟩ : ∃ g, W.heap.size = g := ⟨_, rfl⟩
 rw [hg] at P1
 have HW := hide hW1
 have Hg := hide hg
 clear hW1 hg
 go_enter Try.func32, Try.ntmps32
 go_upto_region 1 with fail
 rw [HW.out, Hg.out]
 clear HW Hg
 have cq0 := fun d os => ((P1.ext (ext_regrown W1 d os)).cell 0).trans rfl
 refine wp_region_reads ?_
 repeat (first | go_big_quiet_step (first | with_reducible exact quiet_ret (kt.out _)) | quiet_step (first | with_reducible exact quiet_ret (kt.out _)))
 refine wpQuiet_nil ?_
 intro _ hw'
 obtain ⟨⟨dq, osq⟩, hw''⟩ := hw'
 subst hw''
 replace P1 := P1.ext (ext_regrown W1 dq osq)
 replace EE := hide (EE.out.trans (ext_regrown W1 dq osq))
 obtain ⟨wn, hwn⟩ : ∃ w, grow (redrawn W1 dq) osq = w := ⟨_, rfl⟩
 rw [hwn] at EE P1 ⊢
 clear hwn cq0
 obtain ⟨W1, hWW⟩ : ∃ w, w = wn := ⟨_, rfl⟩
 subst hWW
 go_upto_region 3 with fail
 have cq1 := fun d os => ((P1.ext (ext_regrown W1 d os)).cell 1).trans rfl
 refine wp_region_reads ?_
 repeat (first | go_big_quiet_step (fail) | quiet_step (fail))
 refine wpQuiet_nil ?_
 intro _ hw'
 obtain ⟨⟨dq, osq⟩, hw''⟩ := hw'
 subst hw''
 replace P1 := P1.ext (ext_regrown W1 dq osq)
 replace EE := hide (EE.out.trans (ext_regrown W1 dq osq))
 obtain ⟨wn, hwn⟩ : ∃ w, grow (redrawn W1 dq) osq = w := ⟨_, rfl⟩
 rw [hwn] at EE P1 ⊢
 clear hwn cq1
 obtain ⟨W1, hWW⟩ : ∃ w, w = wn := ⟨_, rfl⟩
 subst hWW
 go_upto_region 5 with fail
 have cq1 := fun d os => ((P1.ext (ext_regrown W1 d os)).cell 1).trans rfl
 have cq2 := fun d os => ((P1.ext (ext_regrown W1 d os)).cell 2).trans rfl
 have cq3 := fun d os => ((P1.ext (ext_regrown W1 d os)).cell 3).trans rfl
 refine wp_region_reads ?_
 repeat (first | go_big_quiet_step (fail) | quiet_step (fail))
 refine wpQuiet_nil ?_
 intro _ hw'
 obtain ⟨⟨dq, osq⟩, hw''⟩ := hw'
 subst hw''
 replace P1 := P1.ext (ext_regrown W1 dq osq)
 replace EE := hide (EE.out.trans (ext_regrown W1 dq osq))
 obtain ⟨wn, hwn⟩ : ∃ w, grow (redrawn W1 dq) osq = w := ⟨_, rfl⟩
 rw [hwn] at EE P1 ⊢
 clear hwn cq1 cq2 cq3
 obtain ⟨W1, hWW⟩ : ∃ w, w = wn := ⟨_, rfl⟩
 subst hWW
 go_upto_region 7 with fail
 have cq0 := fun d os => ((P1.ext (ext_regrown W1 d os)).cell 0).trans rfl
 have cq1 := fun d os => ((P1.ext (ext_regrown W1 d os)).cell 1).trans rfl
 have cq2 := fun d os => ((P1.ext (ext_regrown W1 d os)).cell 2).trans rfl
 have cq3 := fun d os => ((P1.ext (ext_regrown W1 d os)).cell 3).trans rfl
 refine wp_region_reads ?_
 repeat (first | go_big_quiet_step (fail) | quiet_step (fail))
 refine wpQuiet_nil ?_
 intro _ hw'
 obtain ⟨⟨dq, osq⟩, hw''⟩ := hw'
 subst hw''
 replace P1 := P1.ext (ext_regrown W1 dq osq)
 replace EE := hide (EE.out.trans (ext_regrown W1 dq osq))
 obtain ⟨wn, hwn⟩ : ∃ w, grow (redrawn W1 dq) osq = w := ⟨_, rfl⟩
 rw [hwn] at EE P1 ⊢
 clear hwn cq0 cq1 cq2 cq3
 obtain ⟨W1, hWW⟩ : ∃ w, w = wn := ⟨_, rfl⟩
 subst hWW
 go_wp2_with fail
 go_ret
 exact ⟨rfl, EE.out⟩
set_option maxHeartbeats 1600000 in
theorem p_v4d (t c lo hi : Int) (kt : Hid (∀ w, Calls Try.prog 27 #[.int .i64 t] w (Ret (.bool true) w))) (d0 : (c == 0) = false) (d1 : (c == 1) = false) (d3 : decide (1 ≤ c) = true) (d4 : decide (c ≤ 1073741824) = true) (d5 : decide (lo ≤ hi) = true) (b : Bool) (kh : Hid (∀ w, Calls Try.prog 42 #[.int .i64 lo, .int .i64 hi, .int .i64 t] w (Ret (.bool b) w))) (W : World) : Calls Try.prog 32 #[.agg #[.int .i64 t, .int .i64 c, .int .i64 lo, .int .i64 hi]] W (Ret (.bool b) W) := by
 have P1 := Blk.new W 23 #[.int .i64 t, .int .i64 c, .int .i64 lo, .int .i64 hi]
 have EE := hide (ext_alloc W (.cells #[.int .i64 t, .int .i64 c, .int .i64 lo, .int .i64 hi] 23))
 obtain ⟨W1, hW1⟩ : ∃ W1, (W.alloc (.cells #[.int .i64 t, .int .i64 c, .int .i64 lo, .int .i64 hi] 23)) = W1 := ⟨_, rfl⟩
 rw [hW1] at P1 EE
 obtain ⟨g0, hg⟩ : ∃ g, W.heap.size = g := ⟨_, rfl⟩
 rw [hg] at P1
 have HW := hide hW1
 have Hg := hide hg
 clear hW1 hg
 go_enter Try.func32, Try.ntmps32
 go_upto_region 1 with fail
 rw [HW.out, Hg.out]
 clear HW Hg
 have cq0 := fun d os => ((P1.ext (ext_regrown W1 d os)).cell 0).trans rfl
 refine wp_region_reads ?_
 repeat (first | go_big_quiet_step (first | with_reducible exact quiet_ret (kt.out _)) | quiet_step (first | with_reducible exact quiet_ret (kt.out _)))
 refine wpQuiet_nil ?_
 intro _ hw'
 obtain ⟨⟨dq, osq⟩, hw''⟩ := hw'
 subst hw''
 replace P1 := P1.ext (ext_regrown W1 dq osq)
 replace EE := hide (EE.out.trans (ext_regrown W1 dq osq))
 obtain ⟨wn, hwn⟩ : ∃ w, grow (redrawn W1 dq) osq = w := ⟨_, rfl⟩
 rw [hwn] at EE P1 ⊢
 clear hwn cq0
 obtain ⟨W1, hWW⟩ : ∃ w, w = wn := ⟨_, rfl⟩
 subst hWW
 go_upto_region 3 with fail
 have cq1 := fun d os => ((P1.ext (ext_regrown W1 d os)).cell 1).trans rfl
 refine wp_region_reads ?_
 repeat (first | go_big_quiet_step (fail) | quiet_step (fail))
 refine wpQuiet_nil ?_
 intro _ hw'
 obtain ⟨⟨dq, osq⟩, hw''⟩ := hw'
 subst hw''
 replace P1 := P1.ext (ext_regrown W1 dq osq)
 replace EE := hide (EE.out.trans (ext_regrown W1 dq osq))
 obtain ⟨wn, hwn⟩ : ∃ w, grow (redrawn W1 dq) osq = w := ⟨_, rfl⟩
 rw [hwn] at EE P1 ⊢
 clear hwn cq1
 obtain ⟨W1, hWW⟩ : ∃ w, w = wn := ⟨_, rfl⟩
 subst hWW
 go_upto_region 5 with fail
 have cq1 := fun d os => ((P1.ext (ext_regrown W1 d os)).cell 1).trans rfl
 have cq2 := fun d os => ((P1.ext (ext_regrown W1 d os)).cell 2).trans rfl
 have cq3 := fun d os => ((P1.ext (ext_regrown W1 d os)).cell 3).trans rfl
 refine wp_region_reads ?_
 repeat (first | go_big_quiet_step (fail) | quiet_step (fail))
 refine wpQuiet_nil ?_
 intro _ hw'
 obtain ⟨⟨dq, osq⟩, hw''⟩ := hw'
 subst hw''
 replace P1 := P1.ext (ext_regrown W1 dq osq)
 replace EE := hide (EE.out.trans (ext_regrown W1 dq osq))
 obtain ⟨wn, hwn⟩ : ∃ w, grow (redrawn W1 dq) osq = w := ⟨_, rfl⟩
 rw [hwn] at EE P1 ⊢
 clear hwn cq1 cq2 cq3
 obtain ⟨W1, hWW⟩ : ∃ w, w = wn := ⟨_, rfl⟩
 subst hWW
 go_upto_region 7 with fail
 have cq0 := fun d os => ((P1.ext (ext_regrown W1 d os)).cell 0).trans rfl
 have cq1 := fun d os => ((P1.ext (ext_regrown W1 d os)).cell 1).trans rfl
 have cq2 := fun d os => ((P1.ext (ext_regrown W1 d os)).cell 2).trans rfl
 have cq3 := fun d os => ((P1.ext (ext_regrown W1 d os)).cell 3).trans rfl
 refine wp_region_reads ?_
 repeat (first | go_big_quiet_step (first | with_reducible exact quiet_ret (kh.out _)) | quiet_step (first | with_reducible exact quiet_ret (kh.out _)))
 refine wpQuiet_nil ?_
 intro _ hw'
 obtain ⟨⟨dq, osq⟩, hw''⟩ := hw'
 subst hw''
 replace P1 := P1.ext (ext_regrown W1 dq osq)
 replace EE := hide (EE.out.trans (ext_regrown W1 dq osq))
 obtain ⟨wn, hwn⟩ : ∃ w, grow (redrawn W1 dq) osq = w := ⟨_, rfl⟩
 rw [hwn] at EE P1 ⊢
 clear hwn cq0 cq1 cq2 cq3
 obtain ⟨W1, hWW⟩ : ∃ w, w = wn := ⟨_, rfl⟩
 subst hWW
 go_wp2_with fail
 go_ret
 exact ⟨rfl, EE.out⟩
theorem p_valid (t c lo hi : Int) (W : World) (ht : I64 t) (hl : I64 lo) (hh : I64 hi) (v : Bool) (hv : okB t c lo hi = v) : Calls Try.prog 32 #[.agg #[.int .i64 t, .int .i64 c, .int .i64 lo, .int .i64 hi]] W (Ret (.bool v) W) := by
 subst hv
 unfold okB
 cases hT : tolB t with
 | false => exact p_vT t c lo hi (hide fun w => p_tolI t w false hT) W
 | true =>
   have kt := hide (fun w => p_tolI t w true hT)
   rw [Bool.true_and]
   have hT' := tolB_iff.1 hT
   by_cases h0 : c = 0
   · have d0 : (c == 0) = true := by rw [beq_iff_eq]; exact h0
     rw [if_pos h0]
     by_cases h1 : lo = 0
     · rw [decide_eq_true h1, Bool.true_and]
       exact p_v1 t c lo hi kt _ d0 (by rw [beq_iff_eq]; exact h1) rfl W
     · rw [decide_eq_false h1, Bool.false_and]
       exact p_v0 t c lo hi kt true d0 (by rw [beq_eq_false_iff_ne]; exact h1) W
   · have d0 : (c == 0) = false := by rw [beq_eq_false_iff_ne]; exact h0
     rw [if_neg h0]
     by_cases h1 : c = 1 ∧ lo ≠ hi
     · have e : (decide (0 < c) && decide (c ≤ 1073741824) && decide (lo ≤ hi) && fitB lo hi t && (decide (1 < c) || decide (lo = hi))) = false := by
         rw [show decide (1 < c) = false from decide_eq_false (by omega), decide_eq_false h1.2]; simp
       rw [e]
       exact p_v2 t c lo hi kt d0 (by rw [beq_iff_eq]; exact h1.1) (by rw [bne_iff_ne]; exact h1.2) W
     · have cs : ((c == 1) = true ∧ (lo != hi) = false) ∨ (c == 1) = false := by
         by_cases h2 : c = 1
         · exact Or.inl ⟨by rw [beq_iff_eq]; exact h2, by rw [bne_eq_false_iff_eq]; exact Classical.byContradiction fun h => h1 ⟨h2, h⟩⟩
         · exact Or.inr (by rw [beq_eq_false_iff_ne]; exact h2)
       have kh := hide (fun w => p_has lo hi t w hl hh hT' (fitB lo hi t) rfl)
       by_cases h3 : 1 ≤ c
       · have d3 : decide (1 ≤ c) = true := decide_eq_true h3
         have e3 : decide (0 < c) = true := decide_eq_true (by omega)
         have e4 : (decide (1 < c) || decide (lo = hi)) = true := by
           by_cases h2 : c = 1
           · rw [decide_eq_true (Classical.byContradiction fun h => h1 ⟨h2, h⟩ : lo = hi), Bool.or_true]
           · rw [show decide (1 < c) = true from decide_eq_true (by omega), Bool.true_or]
         rw [e3, e4, Bool.true_and, Bool.and_true]
         by_cases h4 : c ≤ 1073741824
         · have d4 : decide (c ≤ 1073741824) = true := decide_eq_true h4
           rw [d4, Bool.true_and]
           by_cases h5 : lo ≤ hi
           · have d5 : decide (lo ≤ hi) = true := decide_eq_true h5
             rw [d5, Bool.true_and]
             rcases cs with ⟨d1, d2⟩ | d1
             · exact p_v3d t c lo hi kt d0 d1 d2 d3 d4 d5 _ kh W
             · exact p_v4d t c lo hi kt d0 d1 d3 d4 d5 _ kh W
           · have d5 : decide (lo ≤ hi) = false := decide_eq_false h5
             rw [d5, Bool.false_and]
             rcases cs with ⟨d1, d2⟩ | d1
             · exact p_v3c t c lo hi kt d0 d1 d2 d3 d4 d5 W
             · exact p_v4c t c lo hi kt d0 d1 d3 d4 d5 W
         · have d4 : decide (c ≤ 1073741824) = false := decide_eq_false h4
           rw [d4, Bool.false_and, Bool.false_and]
           rcases cs with ⟨d1, d2⟩ | d1
           · exact p_v3b t c lo hi kt d0 d1 d2 d3 d4 W
           · exact p_v4b t c lo hi kt d0 d1 d3 d4 W
       · have d3 : decide (1 ≤ c) = false := decide_eq_false h3
         have e3 : decide (0 < c) = false := decide_eq_false (by omega)
         rw [e3]
         simp only [Bool.false_and]
         rcases cs with ⟨d1, d2⟩ | d1
         · exact p_v3a t c lo hi kt d0 d1 d2 d3 W
         · exact p_v4a t c lo hi kt d0 d1 d3 W
set_option maxHeartbeats 1600000 in
theorem r_vT (t c lo hi : Int) (kt : Hid (∀ w, Calls Try.prog 28 #[.int .i64 t] w (Ret (.bool false) w))) (W : World) : Calls Try.prog 33 #[.agg #[.int .i64 t, .int .i64 c, .int .i64 lo, .int .i64 hi]] W (Ret (.bool false) W) := by
 have P1 := Blk.new W 23 #[.int .i64 t, .int .i64 c, .int .i64 lo, .int .i64 hi]
 have EE := hide (ext_alloc W (.cells #[.int .i64 t, .int .i64 c, .int .i64 lo, .int .i64 hi] 23))
 obtain ⟨W1, hW1⟩ : ∃ W1, (W.alloc (.cells #[.int .i64 t, .int .i64 c, .int .i64 lo, .int .i64 hi] 23)) = W1 := ⟨_, rfl⟩
 rw [hW1] at P1 EE
 obtain ⟨g0, hg⟩ : ∃ g, W.heap.size = g := ⟨_, rfl⟩
 rw [hg] at P1
 have HW := hide hW1
 have Hg := hide hg
 clear hW1 hg
 go_enter Try.func33, Try.ntmps33
 go_upto_region 1 with fail
 rw [HW.out, Hg.out]
 clear HW Hg
 have cq0 := fun d os => ((P1.ext (ext_regrown W1 d os)).cell 0).trans rfl
 refine wp_region_reads ?_
 repeat (first | go_big_quiet_step (first | with_reducible exact quiet_ret (kt.out _)) | quiet_step (first | with_reducible exact quiet_ret (kt.out _)))
 refine wpQuiet_nil ?_
 intro _ hw'
 obtain ⟨⟨dq, osq⟩, hw''⟩ := hw'
 subst hw''
 replace P1 := P1.ext (ext_regrown W1 dq osq)
 replace EE := hide (EE.out.trans (ext_regrown W1 dq osq))
 obtain ⟨wn, hwn⟩ : ∃ w, grow (redrawn W1 dq) osq = w := ⟨_, rfl⟩
 rw [hwn] at EE P1 ⊢
 clear hwn cq0
 obtain ⟨W1, hWW⟩ : ∃ w, w = wn := ⟨_, rfl⟩
 subst hWW
 go_wp2_with fail
 go_ret
 exact ⟨rfl, EE.out⟩
set_option maxHeartbeats 1600000 in
theorem r_v0 (t c lo hi : Int) (kt : Hid (∀ w, Calls Try.prog 28 #[.int .i64 t] w (Ret (.bool true) w))) (b : Bool) (d0 : (c == 0) = true) (d1 : (lo == 0) = false) (W : World) : Calls Try.prog 33 #[.agg #[.int .i64 t, .int .i64 c, .int .i64 lo, .int .i64 hi]] W (Ret (.bool false) W) := by
 have P1 := Blk.new W 23 #[.int .i64 t, .int .i64 c, .int .i64 lo, .int .i64 hi]
 have EE := hide (ext_alloc W (.cells #[.int .i64 t, .int .i64 c, .int .i64 lo, .int .i64 hi] 23))
 obtain ⟨W1, hW1⟩ : ∃ W1, (W.alloc (.cells #[.int .i64 t, .int .i64 c, .int .i64 lo, .int .i64 hi] 23)) = W1 := ⟨_, rfl⟩
 rw [hW1] at P1 EE
 obtain ⟨g0, hg⟩ : ∃ g, W.heap.size = g := ⟨_, rfl⟩
 rw [hg] at P1
 have HW := hide hW1
 have Hg := hide hg
 clear hW1 hg
 go_enter Try.func33, Try.ntmps33
 go_upto_region 1 with fail
 rw [HW.out, Hg.out]
 clear HW Hg
 have cq0 := fun d os => ((P1.ext (ext_regrown W1 d os)).cell 0).trans rfl
 refine wp_region_reads ?_
 repeat (first | go_big_quiet_step (first | with_reducible exact quiet_ret (kt.out _)) | quiet_step (first | with_reducible exact quiet_ret (kt.out _)))
 refine wpQuiet_nil ?_
 intro _ hw'
 obtain ⟨⟨dq, osq⟩, hw''⟩ := hw'
 subst hw''
 replace P1 := P1.ext (ext_regrown W1 dq osq)
 replace EE := hide (EE.out.trans (ext_regrown W1 dq osq))
 obtain ⟨wn, hwn⟩ : ∃ w, grow (redrawn W1 dq) osq = w := ⟨_, rfl⟩
 rw [hwn] at EE P1 ⊢
 clear hwn cq0
 obtain ⟨W1, hWW⟩ : ∃ w, w = wn := ⟨_, rfl⟩
 subst hWW
 go_upto_region 3 with fail
 have cq1 := fun d os => ((P1.ext (ext_regrown W1 d os)).cell 1).trans rfl
 refine wp_region_reads ?_
 repeat (first | go_big_quiet_step (fail) | quiet_step (fail))
 refine wpQuiet_nil ?_
 intro _ hw'
 obtain ⟨⟨dq, osq⟩, hw''⟩ := hw'
 subst hw''
 replace P1 := P1.ext (ext_regrown W1 dq osq)
 replace EE := hide (EE.out.trans (ext_regrown W1 dq osq))
 obtain ⟨wn, hwn⟩ : ∃ w, grow (redrawn W1 dq) osq = w := ⟨_, rfl⟩
 rw [hwn] at EE P1 ⊢
 clear hwn cq1
 obtain ⟨W1, hWW⟩ : ∃ w, w = wn := ⟨_, rfl⟩
 subst hWW
 go_upto_region 4 with fail
 have cq2 := fun d os => ((P1.ext (ext_regrown W1 d os)).cell 2).trans rfl
 have cq3 := fun d os => ((P1.ext (ext_regrown W1 d os)).cell 3).trans rfl
 refine wp_region_reads ?_
 repeat (first | go_big_quiet_step (fail) | quiet_step (fail))
 refine wpQuiet_nil ?_
 intro _ hw'
 obtain ⟨⟨dq, osq⟩, hw''⟩ := hw'
 subst hw''
 replace P1 := P1.ext (ext_regrown W1 dq osq)
 replace EE := hide (EE.out.trans (ext_regrown W1 dq osq))
 obtain ⟨wn, hwn⟩ : ∃ w, grow (redrawn W1 dq) osq = w := ⟨_, rfl⟩
 rw [hwn] at EE P1 ⊢
 clear hwn cq2 cq3
 obtain ⟨W1, hWW⟩ : ∃ w, w = wn := ⟨_, rfl⟩
 subst hWW
 go_wp2_with fail
 go_ret
 exact ⟨rfl, EE.out⟩
set_option maxHeartbeats 1600000 in
theorem r_v1 (t c lo hi : Int) (kt : Hid (∀ w, Calls Try.prog 28 #[.int .i64 t] w (Ret (.bool true) w))) (b : Bool) (d0 : (c == 0) = true) (d1 : (lo == 0) = true) (d2 : (hi == 0) = b) (W : World) : Calls Try.prog 33 #[.agg #[.int .i64 t, .int .i64 c, .int .i64 lo, .int .i64 hi]] W (Ret (.bool b) W) := by
 have P1 := Blk.new W 23 #[.int .i64 t, .int .i64 c, .int .i64 lo, .int .i64 hi]
 have EE := hide (ext_alloc W (.cells #[.int .i64 t, .int .i64 c, .int .i64 lo, .int .i64 hi] 23))
 obtain ⟨W1, hW1⟩ : ∃ W1, (W.alloc (.cells #[.int .i64 t, .int .i64 c, .int .i64 lo, .int .i64 hi] 23)) = W1 := ⟨_, rfl⟩
 rw [hW1] at P1 EE
 obtain ⟨g0, hg⟩ : ∃ g, W.heap.size = g := ⟨_, rfl⟩
 rw [hg] at P1
 have HW := hide hW1
 have Hg := hide hg
 clear hW1 hg
 go_enter Try.func33, Try.ntmps33
 go_upto_region 1 with fail
 rw [HW.out, Hg.out]
 clear HW Hg
 have cq0 := fun d os => ((P1.ext (ext_regrown W1 d os)).cell 0).trans rfl
 refine wp_region_reads ?_
 repeat (first | go_big_quiet_step (first | with_reducible exact quiet_ret (kt.out _)) | quiet_step (first | with_reducible exact quiet_ret (kt.out _)))
 refine wpQuiet_nil ?_
 intro _ hw'
 obtain ⟨⟨dq, osq⟩, hw''⟩ := hw'
 subst hw''
 replace P1 := P1.ext (ext_regrown W1 dq osq)
 replace EE := hide (EE.out.trans (ext_regrown W1 dq osq))
 obtain ⟨wn, hwn⟩ : ∃ w, grow (redrawn W1 dq) osq = w := ⟨_, rfl⟩
 rw [hwn] at EE P1 ⊢
 clear hwn cq0
 obtain ⟨W1, hWW⟩ : ∃ w, w = wn := ⟨_, rfl⟩
 subst hWW
 go_upto_region 3 with fail
 have cq1 := fun d os => ((P1.ext (ext_regrown W1 d os)).cell 1).trans rfl
 refine wp_region_reads ?_
 repeat (first | go_big_quiet_step (fail) | quiet_step (fail))
 refine wpQuiet_nil ?_
 intro _ hw'
 obtain ⟨⟨dq, osq⟩, hw''⟩ := hw'
 subst hw''
 replace P1 := P1.ext (ext_regrown W1 dq osq)
 replace EE := hide (EE.out.trans (ext_regrown W1 dq osq))
 obtain ⟨wn, hwn⟩ : ∃ w, grow (redrawn W1 dq) osq = w := ⟨_, rfl⟩
 rw [hwn] at EE P1 ⊢
 clear hwn cq1
 obtain ⟨W1, hWW⟩ : ∃ w, w = wn := ⟨_, rfl⟩
 subst hWW
 go_upto_region 4 with fail
 have cq2 := fun d os => ((P1.ext (ext_regrown W1 d os)).cell 2).trans rfl
 have cq3 := fun d os => ((P1.ext (ext_regrown W1 d os)).cell 3).trans rfl
 refine wp_region_reads ?_
 repeat (first | go_big_quiet_step (fail) | quiet_step (fail))
 refine wpQuiet_nil ?_
 intro _ hw'
 obtain ⟨⟨dq, osq⟩, hw''⟩ := hw'
 subst hw''
 replace P1 := P1.ext (ext_regrown W1 dq osq)
 replace EE := hide (EE.out.trans (ext_regrown W1 dq osq))
 obtain ⟨wn, hwn⟩ : ∃ w, grow (redrawn W1 dq) osq = w := ⟨_, rfl⟩
 rw [hwn] at EE P1 ⊢
 clear hwn cq2 cq3
 obtain ⟨W1, hWW⟩ : ∃ w, w = wn := ⟨_, rfl⟩
 subst hWW
 go_wp2_with fail
 go_ret
 exact ⟨rfl, EE.out⟩
set_option maxHeartbeats 1600000 in
theorem r_v2a (t c lo hi : Int) (kt : Hid (∀ w, Calls Try.prog 28 #[.int .i64 t] w (Ret (.bool true) w))) (d0 : (c == 0) = false) (d3 : decide (0 < c) = false) (W : World) : Calls Try.prog 33 #[.agg #[.int .i64 t, .int .i64 c, .int .i64 lo, .int .i64 hi]] W (Ret (.bool false) W) := by
 have P1 := Blk.new W 23 #[.int .i64 t, .int .i64 c, .int .i64 lo, .int .i64 hi]
 have EE := hide (ext_alloc W (.cells #[.int .i64 t, .int .i64 c, .int .i64 lo, .int .i64 hi] 23))
 obtain ⟨W1, hW1⟩ : ∃ W1, (W.alloc (.cells #[.int .i64 t, .int .i64 c, .int .i64 lo, .int .i64 hi] 23)) = W1 := ⟨_, rfl⟩
 rw [hW1] at P1 EE
 obtain ⟨g0, hg⟩ : ∃ g, W.heap.size = g := ⟨_, rfl⟩
 rw [hg] at P1
 have HW := hide hW1
 have Hg := hide hg
 clear hW1 hg
 go_enter Try.func33, Try.ntmps33
 go_upto_region 1 with fail
 rw [HW.out, Hg.out]
 clear HW Hg
 have cq0 := fun d os => ((P1.ext (ext_regrown W1 d os)).cell 0).trans rfl
 refine wp_region_reads ?_
 repeat (first | go_big_quiet_step (first | with_reducible exact quiet_ret (kt.out _)) | quiet_step (first | with_reducible exact quiet_ret (kt.out _)))
 refine wpQuiet_nil ?_
 intro _ hw'
 obtain ⟨⟨dq, osq⟩, hw''⟩ := hw'
 subst hw''
 replace P1 := P1.ext (ext_regrown W1 dq osq)
 replace EE := hide (EE.out.trans (ext_regrown W1 dq osq))
 obtain ⟨wn, hwn⟩ : ∃ w, grow (redrawn W1 dq) osq = w := ⟨_, rfl⟩
 rw [hwn] at EE P1 ⊢
 clear hwn cq0
 obtain ⟨W1, hWW⟩ : ∃ w, w = wn := ⟨_, rfl⟩
 subst hWW
 go_upto_region 3 with fail
 have cq1 := fun d os => ((P1.ext (ext_regrown W1 d os)).cell 1).trans rfl
 refine wp_region_reads ?_
 repeat (first | go_big_quiet_step (fail) | quiet_step (fail))
 refine wpQuiet_nil ?_
 intro _ hw'
 obtain ⟨⟨dq, osq⟩, hw''⟩ := hw'
 subst hw''
 replace P1 := P1.ext (ext_regrown W1 dq osq)
 replace EE := hide (EE.out.trans (ext_regrown W1 dq osq))
 obtain ⟨wn, hwn⟩ : ∃ w, grow (redrawn W1 dq) osq = w := ⟨_, rfl⟩
 rw [hwn] at EE P1 ⊢
 clear hwn cq1
 obtain ⟨W1, hWW⟩ : ∃ w, w = wn := ⟨_, rfl⟩
 subst hWW
 go_upto_region 5 with fail
 have cq1 := fun d os => ((P1.ext (ext_regrown W1 d os)).cell 1).trans rfl
 have cq2 := fun d os => ((P1.ext (ext_regrown W1 d os)).cell 2).trans rfl
 have cq3 := fun d os => ((P1.ext (ext_regrown W1 d os)).cell 3).trans rfl
 have ld := fun d os => ld_all (P1.ext (ext_regrown W1 d os)) uMid rfl iMid rfl
 refine wp_region_reads ?_
 repeat (first | go_big_quiet_step (fail) | (refine wq_load (by kernel_rfl) rfl rfl (fun w hw => by obtain ⟨⟨d, os⟩, rfl⟩ := hw; exact ld d os) ?_) | quiet_step (fail))
 refine wpQuiet_nil ?_
 intro _ hw'
 obtain ⟨⟨dq, osq⟩, hw''⟩ := hw'
 subst hw''
 replace P1 := P1.ext (ext_regrown W1 dq osq)
 replace EE := hide (EE.out.trans (ext_regrown W1 dq osq))
 obtain ⟨wn, hwn⟩ : ∃ w, grow (redrawn W1 dq) osq = w := ⟨_, rfl⟩
 rw [hwn] at EE P1 ⊢
 clear hwn ld cq1 cq2 cq3
 obtain ⟨W1, hWW⟩ : ∃ w, w = wn := ⟨_, rfl⟩
 subst hWW
 go_wp2_with fail
 go_ret
 exact ⟨rfl, EE.out⟩
set_option maxHeartbeats 1600000 in
theorem r_v2b (t c lo hi : Int) (kt : Hid (∀ w, Calls Try.prog 28 #[.int .i64 t] w (Ret (.bool true) w))) (d0 : (c == 0) = false) (d3 : decide (0 < c) = true) (d4 : decide (c ≤ 1073741824) = false) (W : World) : Calls Try.prog 33 #[.agg #[.int .i64 t, .int .i64 c, .int .i64 lo, .int .i64 hi]] W (Ret (.bool false) W) := by
 have P1 := Blk.new W 23 #[.int .i64 t, .int .i64 c, .int .i64 lo, .int .i64 hi]
 have EE := hide (ext_alloc W (.cells #[.int .i64 t, .int .i64 c, .int .i64 lo, .int .i64 hi] 23))
 obtain ⟨W1, hW1⟩ : ∃ W1, (W.alloc (.cells #[.int .i64 t, .int .i64 c, .int .i64 lo, .int .i64 hi] 23)) = W1 := ⟨_, rfl⟩
 rw [hW1] at P1 EE
 obtain ⟨g0, hg⟩ : ∃ g, W.heap.size = g := ⟨_, rfl⟩
 rw [hg] at P1
 have HW := hide hW1
 have Hg := hide hg
 clear hW1 hg
 go_enter Try.func33, Try.ntmps33
 go_upto_region 1 with fail
 rw [HW.out, Hg.out]
 clear HW Hg
 have cq0 := fun d os => ((P1.ext (ext_regrown W1 d os)).cell 0).trans rfl
 refine wp_region_reads ?_
 repeat (first | go_big_quiet_step (first | with_reducible exact quiet_ret (kt.out _)) | quiet_step (first | with_reducible exact quiet_ret (kt.out _)))
 refine wpQuiet_nil ?_
 intro _ hw'
 obtain ⟨⟨dq, osq⟩, hw''⟩ := hw'
 subst hw''
 replace P1 := P1.ext (ext_regrown W1 dq osq)
 replace EE := hide (EE.out.trans (ext_regrown W1 dq osq))
 obtain ⟨wn, hwn⟩ : ∃ w, grow (redrawn W1 dq) osq = w := ⟨_, rfl⟩
 rw [hwn] at EE P1 ⊢
 clear hwn cq0
 obtain ⟨W1, hWW⟩ : ∃ w, w = wn := ⟨_, rfl⟩
 subst hWW
 go_upto_region 3 with fail
 have cq1 := fun d os => ((P1.ext (ext_regrown W1 d os)).cell 1).trans rfl
 refine wp_region_reads ?_
 repeat (first | go_big_quiet_step (fail) | quiet_step (fail))
 refine wpQuiet_nil ?_
 intro _ hw'
 obtain ⟨⟨dq, osq⟩, hw''⟩ := hw'
 subst hw''
 replace P1 := P1.ext (ext_regrown W1 dq osq)
 replace EE := hide (EE.out.trans (ext_regrown W1 dq osq))
 obtain ⟨wn, hwn⟩ : ∃ w, grow (redrawn W1 dq) osq = w := ⟨_, rfl⟩
 rw [hwn] at EE P1 ⊢
 clear hwn cq1
 obtain ⟨W1, hWW⟩ : ∃ w, w = wn := ⟨_, rfl⟩
 subst hWW
 go_upto_region 5 with fail
 have cq1 := fun d os => ((P1.ext (ext_regrown W1 d os)).cell 1).trans rfl
 have cq2 := fun d os => ((P1.ext (ext_regrown W1 d os)).cell 2).trans rfl
 have cq3 := fun d os => ((P1.ext (ext_regrown W1 d os)).cell 3).trans rfl
 have ld := fun d os => ld_all (P1.ext (ext_regrown W1 d os)) uMid rfl iMid rfl
 refine wp_region_reads ?_
 repeat (first | go_big_quiet_step (fail) | (refine wq_load (by kernel_rfl) rfl rfl (fun w hw => by obtain ⟨⟨d, os⟩, rfl⟩ := hw; exact ld d os) ?_) | quiet_step (fail))
 refine wpQuiet_nil ?_
 intro _ hw'
 obtain ⟨⟨dq, osq⟩, hw''⟩ := hw'
 subst hw''
 replace P1 := P1.ext (ext_regrown W1 dq osq)
 replace EE := hide (EE.out.trans (ext_regrown W1 dq osq))
 obtain ⟨wn, hwn⟩ : ∃ w, grow (redrawn W1 dq) osq = w := ⟨_, rfl⟩
 rw [hwn] at EE P1 ⊢
 clear hwn ld cq1 cq2 cq3
 obtain ⟨W1, hWW⟩ : ∃ w, w = wn := ⟨_, rfl⟩
 subst hWW
 go_wp2_with fail
 go_ret
 exact ⟨rfl, EE.out⟩
set_option maxHeartbeats 1600000 in
theorem r_v2c (t c lo hi : Int) (kt : Hid (∀ w, Calls Try.prog 28 #[.int .i64 t] w (Ret (.bool true) w))) (d0 : (c == 0) = false) (d3 : decide (0 < c) = true) (d4 : decide (c ≤ 1073741824) = true) (d5 : decide (lo ≤ hi) = false) (W : World) : Calls Try.prog 33 #[.agg #[.int .i64 t, .int .i64 c, .int .i64 lo, .int .i64 hi]] W (Ret (.bool false) W) := by
 have P1 := Blk.new W 23 #[.int .i64 t, .int .i64 c, .int .i64 lo, .int .i64 hi]
 have EE := hide (ext_alloc W (.cells #[.int .i64 t, .int .i64 c, .int .i64 lo, .int .i64 hi] 23))
 obtain ⟨W1, hW1⟩ : ∃ W1, (W.alloc (.cells #[.int .i64 t, .int .i64 c, .int .i64 lo, .int .i64 hi] 23)) = W1 := ⟨_, rfl⟩
 rw [hW1] at P1 EE
 obtain ⟨g0, hg⟩ : ∃ g, W.heap.size = g := ⟨_, rfl⟩
 rw [hg] at P1
 have HW := hide hW1
 have Hg := hide hg
 clear hW1 hg
 go_enter Try.func33, Try.ntmps33
 go_upto_region 1 with fail
 rw [HW.out, Hg.out]
 clear HW Hg
 have cq0 := fun d os => ((P1.ext (ext_regrown W1 d os)).cell 0).trans rfl
 refine wp_region_reads ?_
 repeat (first | go_big_quiet_step (first | with_reducible exact quiet_ret (kt.out _)) | quiet_step (first | with_reducible exact quiet_ret (kt.out _)))
 refine wpQuiet_nil ?_
 intro _ hw'
 obtain ⟨⟨dq, osq⟩, hw''⟩ := hw'
 subst hw''
 replace P1 := P1.ext (ext_regrown W1 dq osq)
 replace EE := hide (EE.out.trans (ext_regrown W1 dq osq))
 obtain ⟨wn, hwn⟩ : ∃ w, grow (redrawn W1 dq) osq = w := ⟨_, rfl⟩
 rw [hwn] at EE P1 ⊢
 clear hwn cq0
 obtain ⟨W1, hWW⟩ : ∃ w, w = wn := ⟨_, rfl⟩
 subst hWW
 go_upto_region 3 with fail
 have cq1 := fun d os => ((P1.ext (ext_regrown W1 d os)).cell 1).trans rfl
 refine wp_region_reads ?_
 repeat (first | go_big_quiet_step (fail) | quiet_step (fail))
 refine wpQuiet_nil ?_
 intro _ hw'
 obtain ⟨⟨dq, osq⟩, hw''⟩ := hw'
 subst hw''
 replace P1 := P1.ext (ext_regrown W1 dq osq)
 replace EE := hide (EE.out.trans (ext_regrown W1 dq osq))
 obtain ⟨wn, hwn⟩ : ∃ w, grow (redrawn W1 dq) osq = w := ⟨_, rfl⟩
 rw [hwn] at EE P1 ⊢
 clear hwn cq1
 obtain ⟨W1, hWW⟩ : ∃ w, w = wn := ⟨_, rfl⟩
 subst hWW
 go_upto_region 5 with fail
 have cq1 := fun d os => ((P1.ext (ext_regrown W1 d os)).cell 1).trans rfl
 have cq2 := fun d os => ((P1.ext (ext_regrown W1 d os)).cell 2).trans rfl
 have cq3 := fun d os => ((P1.ext (ext_regrown W1 d os)).cell 3).trans rfl
 have ld := fun d os => ld_all (P1.ext (ext_regrown W1 d os)) uMid rfl iMid rfl
 refine wp_region_reads ?_
 repeat (first | go_big_quiet_step (fail) | (refine wq_load (by kernel_rfl) rfl rfl (fun w hw => by obtain ⟨⟨d, os⟩, rfl⟩ := hw; exact ld d os) ?_) | quiet_step (fail))
 refine wpQuiet_nil ?_
 intro _ hw'
 obtain ⟨⟨dq, osq⟩, hw''⟩ := hw'
 subst hw''
 replace P1 := P1.ext (ext_regrown W1 dq osq)
 replace EE := hide (EE.out.trans (ext_regrown W1 dq osq))
 obtain ⟨wn, hwn⟩ : ∃ w, grow (redrawn W1 dq) osq = w := ⟨_, rfl⟩
 rw [hwn] at EE P1 ⊢
 clear hwn ld cq1 cq2 cq3
 obtain ⟨W1, hWW⟩ : ∃ w, w = wn := ⟨_, rfl⟩
 subst hWW
 go_wp2_with fail
 go_ret
 exact ⟨rfl, EE.out⟩
set_option maxHeartbeats 1600000 in
theorem r_v2d (t c lo hi : Int) (kt : Hid (∀ w, Calls Try.prog 28 #[.int .i64 t] w (Ret (.bool true) w))) (d0 : (c == 0) = false) (d3 : decide (0 < c) = true) (d4 : decide (c ≤ 1073741824) = true) (d5 : decide (lo ≤ hi) = true) (kh : Hid (∀ w, Calls Try.prog 39 #[.agg #[.int .i64 t, .int .i64 c, .int .i64 lo, .int .i64 hi]] w (Ret (.bool false) w))) (W : World) : Calls Try.prog 33 #[.agg #[.int .i64 t, .int .i64 c, .int .i64 lo, .int .i64 hi]] W (Ret (.bool false) W) := by
 have P1 := Blk.new W 23 #[.int .i64 t, .int .i64 c, .int .i64 lo, .int .i64 hi]
 have EE := hide (ext_alloc W (.cells #[.int .i64 t, .int .i64 c, .int .i64 lo, .int .i64 hi] 23))
 obtain ⟨W1, hW1⟩ : ∃ W1, (W.alloc (.cells #[.int .i64 t, .int .i64 c, .int .i64 lo, .int .i64 hi] 23)) = W1 := ⟨_, rfl⟩
 rw [hW1] at P1 EE
 obtain ⟨g0, hg⟩ : ∃ g, W.heap.size = g := ⟨_, rfl⟩
 rw [hg] at P1
 have HW := hide hW1
 have Hg := hide hg
 clear hW1 hg
 go_enter Try.func33, Try.ntmps33
 go_upto_region 1 with fail
 rw [HW.out, Hg.out]
 clear HW Hg
 have cq0 := fun d os => ((P1.ext (ext_regrown W1 d os)).cell 0).trans rfl
 refine wp_region_reads ?_
 repeat (first | go_big_quiet_step (first | with_reducible exact quiet_ret (kt.out _)) | quiet_step (first | with_reducible exact quiet_ret (kt.out _)))
 refine wpQuiet_nil ?_
 intro _ hw'
 obtain ⟨⟨dq, osq⟩, hw''⟩ := hw'
 subst hw''
 replace P1 := P1.ext (ext_regrown W1 dq osq)
 replace EE := hide (EE.out.trans (ext_regrown W1 dq osq))
 obtain ⟨wn, hwn⟩ : ∃ w, grow (redrawn W1 dq) osq = w := ⟨_, rfl⟩
 rw [hwn] at EE P1 ⊢
 clear hwn cq0
 obtain ⟨W1, hWW⟩ : ∃ w, w = wn := ⟨_, rfl⟩
 subst hWW
 go_upto_region 3 with fail
 have cq1 := fun d os => ((P1.ext (ext_regrown W1 d os)).cell 1).trans rfl
 refine wp_region_reads ?_
 repeat (first | go_big_quiet_step (fail) | quiet_step (fail))
 refine wpQuiet_nil ?_
 intro _ hw'
 obtain ⟨⟨dq, osq⟩, hw''⟩ := hw'
 subst hw''
 replace P1 := P1.ext (ext_regrown W1 dq osq)
 replace EE := hide (EE.out.trans (ext_regrown W1 dq osq))
 obtain ⟨wn, hwn⟩ : ∃ w, grow (redrawn W1 dq) osq = w := ⟨_, rfl⟩
 rw [hwn] at EE P1 ⊢
 clear hwn cq1
 obtain ⟨W1, hWW⟩ : ∃ w, w = wn := ⟨_, rfl⟩
 subst hWW
 go_upto_region 5 with fail
 have cq1 := fun d os => ((P1.ext (ext_regrown W1 d os)).cell 1).trans rfl
 have cq2 := fun d os => ((P1.ext (ext_regrown W1 d os)).cell 2).trans rfl
 have cq3 := fun d os => ((P1.ext (ext_regrown W1 d os)).cell 3).trans rfl
 have ld := fun d os => ld_all (P1.ext (ext_regrown W1 d os)) uMid rfl iMid rfl
 refine wp_region_reads ?_
 repeat (first | go_big_quiet_step (first | with_reducible exact quiet_ret (kh.out _)) | (refine wq_load (by kernel_rfl) rfl rfl (fun w hw => by obtain ⟨⟨d, os⟩, rfl⟩ := hw; exact ld d os) ?_) | quiet_step (first | with_reducible exact quiet_ret (kh.out _)))
 refine wpQuiet_nil ?_
 intro _ hw'
 obtain ⟨⟨dq, osq⟩, hw''⟩ := hw'
 subst hw''
 replace P1 := P1.ext (ext_regrown W1 dq osq)
 replace EE := hide (EE.out.trans (ext_regrown W1 dq osq))
 obtain ⟨wn, hwn⟩ : ∃ w, grow (redrawn W1 dq) osq = w := ⟨_, rfl⟩
 rw [hwn] at EE P1 ⊢
 clear hwn ld cq1 cq2 cq3
 obtain ⟨W1, hWW⟩ : ∃ w, w = wn := ⟨_, rfl⟩
 subst hWW
 go_wp2_with fail
 go_ret
 exact ⟨rfl, EE.out⟩
set_option maxHeartbeats 1600000 in
theorem r_v2e (t c lo hi : Int) (kt : Hid (∀ w, Calls Try.prog 28 #[.int .i64 t] w (Ret (.bool true) w))) (d0 : (c == 0) = false) (d3 : decide (0 < c) = true) (d4 : decide (c ≤ 1073741824) = true) (d5 : decide (lo ≤ hi) = true) (kh : Hid (∀ w, Calls Try.prog 39 #[.agg #[.int .i64 t, .int .i64 c, .int .i64 lo, .int .i64 hi]] w (Ret (.bool true) w))) (d6 : decide (1 < c) = true) (W : World) : Calls Try.prog 33 #[.agg #[.int .i64 t, .int .i64 c, .int .i64 lo, .int .i64 hi]] W (Ret (.bool true) W) := by
 have P1 := Blk.new W 23 #[.int .i64 t, .int .i64 c, .int .i64 lo, .int .i64 hi]
 have EE := hide (ext_alloc W (.cells #[.int .i64 t, .int .i64 c, .int .i64 lo, .int .i64 hi] 23))
 obtain ⟨W1, hW1⟩ : ∃ W1, (W.alloc (.cells #[.int .i64 t, .int .i64 c, .int .i64 lo, .int .i64 hi] 23)) = W1 := ⟨_, rfl⟩
 rw [hW1] at P1 EE
 obtain ⟨g0, hg⟩ : ∃ g, W.heap.size = g := ⟨_, rfl⟩
 rw [hg] at P1
 have HW := hide hW1
 have Hg := hide hg
 clear hW1 hg
 go_enter Try.func33, Try.ntmps33
 go_upto_region 1 with fail
 rw [HW.out, Hg.out]
 clear HW Hg
 have cq0 := fun d os => ((P1.ext (ext_regrown W1 d os)).cell 0).trans rfl
 refine wp_region_reads ?_
 repeat (first | go_big_quiet_step (first | with_reducible exact quiet_ret (kt.out _)) | quiet_step (first | with_reducible exact quiet_ret (kt.out _)))
 refine wpQuiet_nil ?_
 intro _ hw'
 obtain ⟨⟨dq, osq⟩, hw''⟩ := hw'
 subst hw''
 replace P1 := P1.ext (ext_regrown W1 dq osq)
 replace EE := hide (EE.out.trans (ext_regrown W1 dq osq))
 obtain ⟨wn, hwn⟩ : ∃ w, grow (redrawn W1 dq) osq = w := ⟨_, rfl⟩
 rw [hwn] at EE P1 ⊢
 clear hwn cq0
 obtain ⟨W1, hWW⟩ : ∃ w, w = wn := ⟨_, rfl⟩
 subst hWW
 go_upto_region 3 with fail
 have cq1 := fun d os => ((P1.ext (ext_regrown W1 d os)).cell 1).trans rfl
 refine wp_region_reads ?_
 repeat (first | go_big_quiet_step (fail) | quiet_step (fail))
 refine wpQuiet_nil ?_
 intro _ hw'
 obtain ⟨⟨dq, osq⟩, hw''⟩ := hw'
 subst hw''
 replace P1 := P1.ext (ext_regrown W1 dq osq)
 replace EE := hide (EE.out.trans (ext_regrown W1 dq osq))
 obtain ⟨wn, hwn⟩ : ∃ w, grow (redrawn W1 dq) osq = w := ⟨_, rfl⟩
 rw [hwn] at EE P1 ⊢
 clear hwn cq1
 obtain ⟨W1, hWW⟩ : ∃ w, w = wn := ⟨_, rfl⟩
 subst hWW
 go_upto_region 5 with fail
 have cq1 := fun d os => ((P1.ext (ext_regrown W1 d os)).cell 1).trans rfl
 have cq2 := fun d os => ((P1.ext (ext_regrown W1 d os)).cell 2).trans rfl
 have cq3 := fun d os => ((P1.ext (ext_regrown W1 d os)).cell 3).trans rfl
 have ld := fun d os => ld_all (P1.ext (ext_regrown W1 d os)) uMid rfl iMid rfl
 refine wp_region_reads ?_
 repeat (first | go_big_quiet_step (first | with_reducible exact quiet_ret (kh.out _)) | (refine wq_load (by kernel_rfl) rfl rfl (fun w hw => by obtain ⟨⟨d, os⟩, rfl⟩ := hw; exact ld d os) ?_) | quiet_step (first | with_reducible exact quiet_ret (kh.out _)))
 refine wpQuiet_nil ?_
 intro _ hw'
 obtain ⟨⟨dq, osq⟩, hw''⟩ := hw'
 subst hw''
 replace P1 := P1.ext (ext_regrown W1 dq osq)
 replace EE := hide (EE.out.trans (ext_regrown W1 dq osq))
 obtain ⟨wn, hwn⟩ : ∃ w, grow (redrawn W1 dq) osq = w := ⟨_, rfl⟩
 rw [hwn] at EE P1 ⊢
 clear hwn ld cq1 cq2 cq3
 obtain ⟨W1, hWW⟩ : ∃ w, w = wn := ⟨_, rfl⟩
 subst hWW
 go_wp2_with fail
 go_ret
 exact ⟨rfl, EE.out⟩
set_option maxHeartbeats 1600000 in
theorem r_v2f (t c lo hi : Int) (kt : Hid (∀ w, Calls Try.prog 28 #[.int .i64 t] w (Ret (.bool true) w))) (d0 : (c == 0) = false) (d3 : decide (0 < c) = true) (d4 : decide (c ≤ 1073741824) = true) (d5 : decide (lo ≤ hi) = true) (kh : Hid (∀ w, Calls Try.prog 39 #[.agg #[.int .i64 t, .int .i64 c, .int .i64 lo, .int .i64 hi]] w (Ret (.bool true) w))) (d6 : decide (1 < c) = false) (b : Bool) (d7 : (lo == hi) = b) (W : World) : Calls Try.prog 33 #[.agg #[.int .i64 t, .int .i64 c, .int .i64 lo, .int .i64 hi]] W (Ret (.bool b) W) := by
 have P1 := Blk.new W 23 #[.int .i64 t, .int .i64 c, .int .i64 lo, .int .i64 hi]
 have EE := hide (ext_alloc W (.cells #[.int .i64 t, .int .i64 c, .int .i64 lo, .int .i64 hi] 23))
 obtain ⟨W1, hW1⟩ : ∃ W1, (W.alloc (.cells #[.int .i64 t, .int .i64 c, .int .i64 lo, .int .i64 hi] 23)) = W1 := ⟨_, rfl⟩
 rw [hW1] at P1 EE
 obtain ⟨g0, hg⟩ : ∃ g, W.heap.size = g := ⟨_, rfl⟩
 rw [hg] at P1
 have HW := hide hW1
 have Hg := hide hg
 clear hW1 hg
 go_enter Try.func33, Try.ntmps33
 go_upto_region 1 with fail
 rw [HW.out, Hg.out]
 clear HW Hg
 have cq0 := fun d os => ((P1.ext (ext_regrown W1 d os)).cell 0).trans rfl
 refine wp_region_reads ?_
 repeat (first | go_big_quiet_step (first | with_reducible exact quiet_ret (kt.out _)) | quiet_step (first | with_reducible exact quiet_ret (kt.out _)))
 refine wpQuiet_nil ?_
 intro _ hw'
 obtain ⟨⟨dq, osq⟩, hw''⟩ := hw'
 subst hw''
 replace P1 := P1.ext (ext_regrown W1 dq osq)
 replace EE := hide (EE.out.trans (ext_regrown W1 dq osq))
 obtain ⟨wn, hwn⟩ : ∃ w, grow (redrawn W1 dq) osq = w := ⟨_, rfl⟩
 rw [hwn] at EE P1 ⊢
 clear hwn cq0
 obtain ⟨W1, hWW⟩ : ∃ w, w = wn := ⟨_, rfl⟩
 subst hWW
 go_upto_region 3 with fail
 have cq1 := fun d os => ((P1.ext (ext_regrown W1 d os)).cell 1).trans rfl
 refine wp_region_reads ?_
 repeat (first | go_big_quiet_step (fail) | quiet_step (fail))
 refine wpQuiet_nil ?_
 intro _ hw'
 obtain ⟨⟨dq, osq⟩, hw''⟩ := hw'
 subst hw''
 replace P1 := P1.ext (ext_regrown W1 dq osq)
 replace EE := hide (EE.out.trans (ext_regrown W1 dq osq))
 obtain ⟨wn, hwn⟩ : ∃ w, grow (redrawn W1 dq) osq = w := ⟨_, rfl⟩
 rw [hwn] at EE P1 ⊢
 clear hwn cq1
 obtain ⟨W1, hWW⟩ : ∃ w, w = wn := ⟨_, rfl⟩
 subst hWW
 go_upto_region 5 with fail
 have cq1 := fun d os => ((P1.ext (ext_regrown W1 d os)).cell 1).trans rfl
 have cq2 := fun d os => ((P1.ext (ext_regrown W1 d os)).cell 2).trans rfl
 have cq3 := fun d os => ((P1.ext (ext_regrown W1 d os)).cell 3).trans rfl
 have ld := fun d os => ld_all (P1.ext (ext_regrown W1 d os)) uMid rfl iMid rfl
 refine wp_region_reads ?_
 repeat (first | go_big_quiet_step (first | with_reducible exact quiet_ret (kh.out _)) | (refine wq_load (by kernel_rfl) rfl rfl (fun w hw => by obtain ⟨⟨d, os⟩, rfl⟩ := hw; exact ld d os) ?_) | quiet_step (first | with_reducible exact quiet_ret (kh.out _)))
 refine wpQuiet_nil ?_
 intro _ hw'
 obtain ⟨⟨dq, osq⟩, hw''⟩ := hw'
 subst hw''
 replace P1 := P1.ext (ext_regrown W1 dq osq)
 replace EE := hide (EE.out.trans (ext_regrown W1 dq osq))
 obtain ⟨wn, hwn⟩ : ∃ w, grow (redrawn W1 dq) osq = w := ⟨_, rfl⟩
 rw [hwn] at EE P1 ⊢
 clear hwn ld cq1 cq2 cq3
 obtain ⟨W1, hWW⟩ : ∃ w, w = wn := ⟨_, rfl⟩
 subst hWW
 go_wp2_with fail
 go_ret
 exact ⟨rfl, EE.out⟩
theorem r_valid (t c lo hi : Int) (W : World) (ht : I64 t) (hl : I64 lo) (hh : I64 hi) (v : Bool) (hv : okB t c lo hi = v) : Calls Try.prog 33 #[.agg #[.int .i64 t, .int .i64 c, .int .i64 lo, .int .i64 hi]] W (Ret (.bool v) W) := by
 subst hv
 unfold okB
 cases hT : tolB t with
 | false => exact r_vT t c lo hi (hide fun w => r_tolI t w false hT) W
 | true =>
   have kt := hide (fun w => r_tolI t w true hT)
   rw [Bool.true_and]
   have hT' := tolB_iff.1 hT
   by_cases h0 : c = 0
   · have d0 : (c == 0) = true := by rw [beq_iff_eq]; exact h0
     rw [if_pos h0]
     by_cases h1 : lo = 0
     · rw [decide_eq_true h1, Bool.true_and]
       exact r_v1 t c lo hi kt _ d0 (by rw [beq_iff_eq]; exact h1) rfl W
     · rw [decide_eq_false h1, Bool.false_and]
       exact r_v0 t c lo hi kt true d0 (by rw [beq_eq_false_iff_ne]; exact h1) W
   · have d0 : (c == 0) = false := by rw [beq_eq_false_iff_ne]; exact h0
     rw [if_neg h0]
     by_cases h3 : 0 < c
     · have d3 : decide (0 < c) = true := decide_eq_true h3
       rw [d3, Bool.true_and]
       by_cases h4 : c ≤ 1073741824
       · have d4 : decide (c ≤ 1073741824) = true := decide_eq_true h4
         rw [d4, Bool.true_and]
         by_cases h5 : lo ≤ hi
         · have d5 : decide (lo ≤ hi) = true := decide_eq_true h5
           rw [d5, Bool.true_and]
           cases hf : fitB lo hi t with
           | false => exact r_v2d t c lo hi kt d0 d3 d4 d5 (hide fun w => r_fits t c lo hi w hl hh hT' false hf) W
           | true =>
             have kh := hide fun w => r_fits t c lo hi w hl hh hT' true hf
             rw [Bool.true_and]
             by_cases h6 : 1 < c
             · rw [decide_eq_true h6, Bool.true_or]
               exact r_v2e t c lo hi kt d0 d3 d4 d5 kh (decide_eq_true h6) W
             · rw [decide_eq_false h6, Bool.false_or]
               exact r_v2f t c lo hi kt d0 d3 d4 d5 kh (decide_eq_false h6) _ rfl W
         · have d5 : decide (lo ≤ hi) = false := decide_eq_false h5
           rw [d5, Bool.false_and, Bool.false_and]
           exact r_v2c t c lo hi kt d0 d3 d4 d5 W
       · have d4 : decide (c ≤ 1073741824) = false := decide_eq_false h4
         rw [d4]
         simp only [Bool.false_and]
         exact r_v2b t c lo hi kt d0 d3 d4 W
     · have d3 : decide (0 < c) = false := decide_eq_false h3
       rw [d3]
       simp only [Bool.false_and]
       exact r_v2a t c lo hi kt d0 d3 W
end
end Go.Proofs.Ythcnbpeeekkgkaa
